import PyProof.Rows.All
import Wide.All
import OpenK.AllK
import Wide.FinOn
import Lean
import PyProof.EqAt
import PyProof.EqKinds
import PyProof.TupleCall
import PyProof.NeKinds
import PyProof.ZipIter
import PyProof.DictUpdate
import PyProof.FactsAll.dict_1
import PyProof.DictIter
import PyProof.DictWalks
import PyProof.StrCalls2
import PyProof.Rows.StrSplitMax
import PyProof.StrOps2
import PySem.Challenge.RW_chanceduel_k71_a_desk_keeps
set_option Elab.async false
set_option linter.all false
set_option maxRecDepth 100000
set_option maxHeartbeats 4000000
set_option compiler.extract_closed false
def aaa:=@List.length_map
def aab:=@List.length_append
def aac:=@List.getElem?_eq_getElem
def aad:=@List.mem_cons_self
def aae:=@List.mem_cons_of_mem
def aaf:=@PySem.Heap.get?_push_of_some
def aag:=@List.getElem?_eq_some_iff
def aah:=@PySem.wpAny_bind
def aai:=@PySem.Heap.lt_size
def aak:=@Nat.le_refl
def aal:=@List.mem_map
def aam:=@Nat.lt_of_lt_of_le
def aan:=@Bool.false_ne_true
def aao:=@List.map_map
def aap:=@Bool.and_eq_true
def aaq:=@Nat.le_trans
def aar:=@List.mem_cons
def aas:=@List.length_replicate
def aat:=@List.nil_append
def aau:=@List.getElem?_append_left
def aav:=@List.mem_append_right
def aaw:=@Option.some.inj
def aax:=@PySem.F.excBase_ValueError
def aay:=@decide_eq_true
def aaz:=@List.length_cons
def aaA:=@if_neg
def aaB:=@List.map_cons
def aaC:=@decide_eq_false
def aaD:=@if_pos
def aaE:=@PySem.wpAny_pure
def aaF:=@List.getElem?_map
def aaG:=@absurd
def aaH:=@Int.emod_lt_of_pos
def aaI:=@Nat.ne_of_lt
def aaJ:=@List.getElem?_append_right
def aaK:=@List.mem_append
def aaL:=@Int.emod_nonneg
def aaM:=@PySem.Heap.get?_push_size
def aaN:=@of_decide_eq_true
def aaO:=@List.mem_of_getElem?
def aaP:=@decide_eq_true_iff
def aaQ:=@List.append_nil
def aaR:=@Int.le_of_lt
def aaS:=@List.getD_eq_getElem?_getD
def aaT:=@List.size_toArray
def aaU:=@List.zip_cons_cons
def aaV:=@List.getElem?_set_ne
def aaW:=@List.getElem?_set_self
def aaX:=@Array.length_toList
def aaY:=@List.replicate_succ
def aaZ:=@List.lookup_cons
def aa0:=@List.getElem_mem
def aa1:=@Nat.zero_le
def aa2:=@of_decide_eq_false
def aa3:=@List.length_drop
def aa4:=@List.append_assoc
def aa5:=@congrArg
def aa6:=@List.of_mem_zip
def aa7:=@Nat.lt_of_le_of_lt
def aa8:=@List.take_of_length_le
def aa9:=@List.map_congr_left
def aba:=@List.nodup_cons
def abb:=@beq_iff_eq
def abc:=@List.length_take
def abd:=@List.mem_append_left
def abe:=@List.flatten_cons
def abf:=@List.length_set
def abg:=@Int.fmod_eq_emod_of_nonneg
def abh:=@Array.getElem?_eq_some_iff
def abi:=@PySem.wpAny_mono
def abj:=@Nat.le_add_right
def abk:=@List.filter_cons
def abl:=@List.mem_filterMap
def abm:=@List.any_cons
def abn:=@List.mem_singleton
def abo:=@PySem.F.slot_dict_getitem
def abp:=@Bool.eq_iff_iff
def abq:=@Nat.lt_irrefl
def abr:=@List.all_cons
def abt:=@List.eq_nil_of_length_eq_zero
def abu:=@List.range_succ_eq_map
def abv:=@List.length_zip
def abw:=@Int.mul_comm
def abx:=@Bool.or_eq_true
def aby:=@Int.fdiv_eq_ediv_of_nonneg
def abz:=@List.mem_of_mem_drop
def abA:=@Nat.mul_le_mul_right
def abB:=@Int.natAbs_of_nonneg
def abC:=@List.drop_drop
def abD:=@List.drop_eq_getElem_cons
def abE:=@Int.eq_of_mul_eq_mul_left
def abF:=@beq_self_eq_true
def abG:=@List.all_eq_true
def abH:=@Option.isSome_iff_exists
def abI:=@Int.mul_ediv_cancel_left
def abJ:=@List.foldl_cons
def abK:=@List.mem_replicate
def abL:=@Int.toNat_natCast
def abM:=@Nat.ne_of_gt
def abN:=@List.map_nil
namespace Hd
open PySem PySem.W PyProof.Rows
def at_(i:Nat):Stmt:=PySem.Challenge.pw_chanceduel_k71_a_desk_keeps.main.body.getD i (.Pass ⟨0,0,0,0⟩)
def Pz:Stmt->Nat->Stmt
  | .ClassDef _ _ _ b _ _ _ _ _ _ _,j=>b.getD j (.Pass ⟨0,0,0,0⟩)
  | s,_=>s
def dA:Stmt->Arguments
  | .FunctionDef _ a _ _ _ _ _ _ _ _=>a
  | _=>⟨[],[],none,[],[],none,[]⟩
def dB:Stmt->List Stmt
  | .FunctionDef _ _ b _ _ _ _ _ _ _=>b
  | _=>[]
def dS:Stmt->Scope
  | .FunctionDef _ _ _ _ _ _ c _ _ _=>c
  | _=>{kind:= .function,names:=[],isGenerator:=false,isCoroutine:=false}
abbrev row:=PySem.Challenge.rw_chanceduel_k71_a_desk_keeps.row
abbrev en(P:Params)(x:Str)(t:Tok)(v:Value):DictEntry:=⟨PyData.keyHash P x, .str x t,v⟩
def q:Program:={PySem.Challenge.pw_chanceduel_k71_a_desk_keeps with main:={PySem.Challenge.pw_chanceduel_k71_a_desk_keeps.main with body:=[at_ 1,at_ 2,at_ 3,at_ 4,at_ 5,at_ 6,at_ 7,at_ 8,at_ 9,at_ 10,at_ 11,at_ 13,at_ 14,at_ 15,at_ 16,at_ 17,at_ 18,at_ 20,at_ 21,at_ 22,at_ 23,at_ 24,at_ 25,at_ 26,at_ 27,at_ 28,at_ 29,at_ 31,at_ 32,at_ 33,at_ 34,at_ 35,at_ 36,at_ 37,at_ 38,at_ 39,at_ 40,at_ 41,at_ 43,at_ 44,at_ 45,at_ 46,at_ 47,at_ 48,at_ 49,at_ 51,at_ 52,at_ 53,at_ 54,at_ 55,at_ 56,at_ 57,at_ 58,at_ 60,at_ 61,at_ 62,at_ 63,at_ 64,at_ 65,at_ 66,at_ 67,at_ 68,at_ 69,at_ 70,at_ 72,at_ 73,at_ 75,at_ 76,at_ 77,at_ 78,at_ 79,at_ 80,at_ 82,at_ 83,at_ 84,at_ 85,at_ 86,at_ 87,at_ 88,at_ 89,at_ 90,at_ 91,at_ 92,at_ 93,at_ 94,at_ 95,at_ 96,at_ 98,at_ 100,at_ 102,at_ 103,at_ 104,at_ 105,at_ 106,at_ 107,at_ 108,at_ 110,at_ 111,at_ 112,at_ 113,at_ 115,at_ 116,at_ 117,at_ 118,at_ 119,at_ 120,at_ 121,at_ 122,at_ 123,at_ 125,at_ 126,at_ 127,at_ 128,at_ 129,at_ 130,at_ 131,at_ 132,at_ 133,at_ 134,at_ 135,at_ 136,at_ 137,at_ 138,at_ 139,at_ 140,at_ 141,at_ 142,at_ 143,at_ 144,at_ 145,at_ 146,at_ 147,at_ 148,at_ 149,at_ 150,at_ 152,at_ 153,at_ 154,at_ 155,at_ 156,at_ 157,at_ 158,at_ 159,at_ 160,at_ 161,at_ 162,at_ 163,at_ 164,at_ 165,at_ 166,at_ 167,at_ 168]}}
abbrev cO(x q:Str)(t l n f a m:Nat):Obj:=⟨.type "code",none, .fields #[.str x t, .str q (t+1), .str "/claim/cut.py" (t+2), .int l 0, .int n 0, .int 0 0, .int 0 0, .int f 0, .ref a, .bool true, .int 181 0, .ref (a+1), .none, .ref (a+2), .ref (a+3), .ref (a+4), .int m 0, .int l 0, .str "/claim/cut.py" (m+1)], #[]⟩
abbrev dO(x q:Str)(t l n f a m:Nat):Obj:=⟨.type "code",none, .fields #[.str x t, .str q (t+1), .str "/claim/cut.py" (t+2), .int l 0, .int n 0, .int 0 0, .int 0 0, .int f 0, .ref a, .bool true, .int 181 0, .ref (a+1), .none, .none, .none, .ref (a+2), .int m 0, .int l 0, .str "/claim/cut.py" (m+1)], #[]⟩
abbrev fO(x q:Str)(s:Stmt)(m:Value)(c:Nat):Obj:=⟨.type "function",none, .func ⟨x,q,(dA s), .stmts (dB s),(dS s),3,[], .none, .none, .none,m,none, .ref c, .none,0⟩, #[]⟩
abbrev m0:Value:= .str "chanceduel.parts" 414
abbrev m1:Value:= .str "chanceduel.places" 468
abbrev m2:Value:= .str "chanceduel.floors" 526
abbrev m3:Value:= .str "chanceduel.texts" 952
abbrev m4:Value:= .str "chanceduel.floortexts" 992
abbrev m5:Value:= .str "chanceduel.desk" 1304
abbrev m6:Value:= .str "law_chanceduel_k71_a_desk_keeps" 1583
noncomputable def K:Params->Frag:=λP=>
(nat_lit 2,⟨.none,none,(.dict #[] 0), #[]⟩)::
(nat_lit 3,⟨(.type "dict"),none,(.dict #[(en P "__name__" 165 m6),(en P "__doc__" 166 .none),(en P "__package__" 167 .none),(en P "__loader__" 168 (.builtin "__main__.__loader__#opaque")),(en P "__spec__" 169 .none),(en P "__annotations__" 170 (.ref 6)),(en P "__builtins__" 171 (.ref 4)),(en P "__file__" 173 (.str "/claim/cut.py" 172)),(en P "__cached__" 174 .none),(en P "DuelError" 206 (.ref 24)),(en P "NoNumber" 222 (.ref 37)),(en P "NoText" 238 (.ref 49)),(en P "NoName" 254 (.ref 61)),(en P "NoFloor" 270 (.ref 73)),(en P "NoPlace" 295 (.ref 92)),(en P "NoAnswer" 320 (.ref 111)),(en P "ManyAnswers" 347 (.ref 130)),(en P "NoPlan" 372 (.ref 149)),(en P "NoGoal" 397 (.ref 168)),(en P "NoRow" 413 (.ref 180)),(en P "common_divisor" 426 (.ref 189)),(en P "fraction" 435 (.ref 196)),(en P "plus" 443 (.ref 203)),(en P "minus" 451 (.ref 210)),(en P "times" 459 (.ref 217)),(en P "under" 467 (.ref 224)),(en P "HANDS" 472 (.ref 225)),(en P "MOST_DOORS" 474 (.int 6 473)),(en P "MOST_BOTTOM" 476 (.int 1000000 475)),(en P "fits_pay" 483 (.ref 232)),(en P "fits_door" 491 (.ref 239)),(en P "common_bottom" 500 (.ref 246)),(en P "fits_chances" 506 (.ref 251)),(en P "fits_doors" 512 (.ref 256)),(en P "fits_row" 518 (.ref 261)),(en P "copied_row" 525 (.ref 268)),(en P "MOST_PLACES" 529 (.int 12 528)),(en P "MOST_SHARE_BOTTOM" 531 (.int 1000 530)),(en P "TURNED_KINDS" 541 (.ref 269)),(en P "fits_share" 548 (.ref 276)),(en P "weighed" 559 (.ref 283)),(en P "greatest" 568 (.ref 290)),(en P "least" 577 (.ref 297)),(en P "Floor" 678 (.ref 374)),(en P "with_other_sign" 685 (.ref 385)),(en P "turned_row" 691 (.ref 390)),(en P "turned" 697 (.ref 395)),(en P "classes_by" 705 (.ref 400)),(en P "first_classes" 711 (.ref 405)),(en P "pairs_of" 723 (.ref 412)),(en P "next_classes" 729 (.ref 417)),(en P "parted" 738 (.ref 424)),(en P "joined_row" 744 (.ref 429)),(en P "together" 750 (.ref 434)),(en P "with_weights" 763 (.ref 441)),(en P "number_of_head" 773 (.ref 448)),(en P "moved_ahead" 782 (.ref 455)),(en P "cleared_line" 788 (.ref 460)),(en P "cleared" 794 (.ref 465)),(en P "quotients" 807 (.ref 472)),(en P "still_of" 813 (.ref 477)),(en P "answer_of" 826 (.ref 484)),(en P "places_of" 834 (.ref 489)),(en P "first_plan" 844 (.ref 496)),(en P "has_door" 853 (.ref 503)),(en P "doors_of" 864 (.ref 510)),(en P "better_doors" 876 (.ref 517)),(en P "ways_from" 886 (.ref 524)),(en P "whole_row" 892 (.ref 529)),(en P "led_row" 905 (.ref 536)),(en P "row_of" 911 (.ref 541)),(en P "worths_by" 917 (.ref 546)),(en P "worths_of" 926 (.ref 553)),(en P "worths_against" 938 (.ref 560)),(en P "against" 951 (.ref 567)),(en P "FIGURES" 955 (.str "0123456789" 954)),(en P "MOST_FIGURES" 957 (.int 60 956)),(en P "show_fraction" 966 (.ref 574)),(en P "read_figures" 972 (.ref 579)),(en P "read_top" 980 (.ref 586)),(en P "read_fraction" 991 (.ref 593)),(en P "LETTERS" 995 (.str "abcdefghijklmnopqrstuvwxyz" 994)),(en P "MOST_LETTERS" 997 (.int 8 996)),(en P "show_door" 1003 (.ref 598)),(en P "show_place" 1009 (.ref 603)),(en P "show_floor" 1015 (.ref 608)),(en P "is_name" 1021 (.ref 613)),(en P "read_name" 1028 (.ref 620)),(en P "read_share" 1036 (.ref 627)),(en P "read_door" 1042 (.ref 632)),(en P "read_row" 1048 (.ref 637)),(en P "read_place" 1056 (.ref 644)),(en P "numbers_of" 1066 (.ref 651)),(en P "numbered_door" 1074 (.ref 658)),(en P "numbered_row" 1080 (.ref 663)),(en P "read_floor" 1086 (.ref 668)),(en P "started" 1097 (.ref 675)),(en P "mended" 1111 (.ref 683)),(en P "worths" 1118 (.ref 690)),(en P "chance_door" 1132 (.ref 697)),(en P "door_by" 1138 (.ref 702)),(en P "played" 1153 (.ref 709)),(en P "more_means" 1164 (.ref 716)),(en P "first_means" 1170 (.ref 721)),(en P "chances_next" 1183 (.ref 728)),(en P "mean_of" 1189 (.ref 733)),(en P "check_goals" 1201 (.ref 740)),(en P "is_drawn" 1207 (.ref 745)),(en P "drawn_next" 1213 (.ref 750)),(en P "draw" 1219 (.ref 755)),(en P "drawn_door" 1232 (.ref 762)),(en P "drawn_plan" 1242 (.ref 769)),(en P "chance_row" 1252 (.ref 776)),(en P "chances_by" 1258 (.ref 781)),(en P "better_led" 1264 (.ref 786)),(en P "kept_least" 1276 (.ref 793)),(en P "held_row" 1285 (.ref 800)),(en P "steps_by" 1291 (.ref 805)),(en P "chances" 1303 (.ref 812)),(en P "MOST_TURNS" 1307 (.int 12 1306)),(en P "LENGTHS" 1347 (.ref 813)),(en P "ROWS_WITH_HAND" 1350 (.ref 814)),(en P "words_of" 1358 (.ref 821)),(en P "new_name" 1365 (.ref 828)),(en P "standing" 1373 (.ref 835)),(en P "place_by" 1381 (.ref 842)),(en P "pieces_of" 1388 (.ref 849)),(en P "plan_by" 1394 (.ref 854)),(en P "turns_by" 1402 (.ref 861)),(en P "show_table" 1408 (.ref 866)),(en P "say_floor" 1417 (.ref 873)),(en P "say_drop" 1425 (.ref 880)),(en P "say_turn" 1435 (.ref 887)),(en P "say_join" 1441 (.ref 892)),(en P "say_show" 1450 (.ref 899)),(en P "say_worth" 1460 (.ref 906)),(en P "say_plan" 1466 (.ref 911)),(en P "say_pair" 1477 (.ref 918)),(en P "say_hold" 1487 (.ref 925)),(en P "say_reach" 1493 (.ref 930)),(en P "say_alike" 1499 (.ref 935)),(en P "say_play" 1505 (.ref 940)),(en P "say_mean" 1518 (.ref 947)),(en P "SAYINGS" 1545 (.ref 948)),(en P "Desk" 1582 (.ref 972)),(en P "_law_nth" 1592 (.ref 983)),(en P "_law_mixed" 1604 (.ref 990)),(en P "_law_gcd" 1614 (.ref 997)),(en P "_law_lowest" 1623 (.ref 1004)),(en P "_law_pay" 1631 (.ref 1011)),(en P "_law_small" 1637 (.ref 1016)),(en P "_law_share" 1645 (.ref 1023)),(en P "_law_names" 1651 (.ref 1028)),(en P "_law_fraction" 1658 (.ref 1035)),(en P "_law_text" 1664 (.ref 1040)),(en P "_law_minus" 1671 (.ref 1047)),(en P "_law_turned" 1677 (.ref 1052)),(en P "_law_said" 1687 (.ref 1059)),(en P "_law_is" 1695 (.ref 1066)),(en P "_law_shown" 1705 (.ref 1073)),(en P "_law_deed" 1711 (.ref 1078)),(en P "law" 1727 (.ref 1085))] 162), #[]⟩)::
(nat_lit 23,⟨(.type "dict"),none,(.dict #[(en P "__module__" 196 (.str "chanceduel.errors" 187)),(en P "__firstlineno__" 200 (.int 2 199)),(en P "__static_attributes__" 201 (.ref 22)),(en P "__weakref__" 203 (.ref 25)),(en P "__doc__" 204 .none)] 3), #[]⟩)::
(nat_lit 24,⟨(.type "type"),none,(.cls ⟨"DuelError",[(.type "ValueError")],[(.ref 24),(.type "ValueError"),(.type "Exception"),(.type "BaseException"),(.type "object")],23,"DuelError",true,[],[(.ref 37),(.ref 49),(.ref 61),(.ref 73),(.ref 92),(.ref 111),(.ref 130),(.ref 149),(.ref 168),(.ref 180)],false,none,false⟩), #[(some (.ref 15)),none,(some (.str "DuelError" 189)),(some (.str "DuelError" 197)),(some (.builtin "ValueError.__new__")),(some (.bool true))]⟩)::
(nat_lit 37,⟨(.type "type"),none,(.cls ⟨"NoNumber",[(.ref 24)],[(.ref 37),(.ref 24),(.type "ValueError"),(.type "Exception"),(.type "BaseException"),(.type "object")],36,"NoNumber",true,[],[],false,none,false⟩), #[(some (.ref 28)),none,(some (.str "NoNumber" 207)),(some (.str "NoNumber" 215)),(some (.builtin "ValueError.__new__")),(some (.bool true))]⟩)::
(nat_lit 48,⟨(.type "dict"),none,(.dict #[(en P "__module__" 230 (.str "chanceduel.errors" 187)),(en P "__firstlineno__" 234 (.int 6 233)),(en P "__static_attributes__" 235 (.ref 47)),(en P "__doc__" 236 .none)] 2), #[]⟩)::
(nat_lit 49,⟨(.type "type"),none,(.cls ⟨"NoText",[(.ref 24)],[(.ref 49),(.ref 24),(.type "ValueError"),(.type "Exception"),(.type "BaseException"),(.type "object")],48,"NoText",true,[],[],false,none,false⟩), #[(some (.ref 40)),none,(some (.str "NoText" 223)),(some (.str "NoText" 231)),(some (.builtin "ValueError.__new__")),(some (.bool true))]⟩)::
(nat_lit 60,⟨(.type "dict"),none,(.dict #[(en P "__module__" 246 (.str "chanceduel.errors" 187)),(en P "__firstlineno__" 250 (.int 8 249)),(en P "__static_attributes__" 251 (.ref 59)),(en P "__doc__" 252 .none)] 2), #[]⟩)::
(nat_lit 61,⟨(.type "type"),none,(.cls ⟨"NoName",[(.ref 24)],[(.ref 61),(.ref 24),(.type "ValueError"),(.type "Exception"),(.type "BaseException"),(.type "object")],60,"NoName",true,[],[],false,none,false⟩), #[(some (.ref 52)),none,(some (.str "NoName" 239)),(some (.str "NoName" 247)),(some (.builtin "ValueError.__new__")),(some (.bool true))]⟩)::
(nat_lit 73,⟨(.type "type"),none,(.cls ⟨"NoFloor",[(.ref 24)],[(.ref 73),(.ref 24),(.type "ValueError"),(.type "Exception"),(.type "BaseException"),(.type "object")],72,"NoFloor",true,[],[],false,none,false⟩), #[(some (.ref 64)),none,(some (.str "NoFloor" 255)),(some (.str "NoFloor" 263)),(some (.builtin "ValueError.__new__")),(some (.bool true))]⟩)::
(nat_lit 92,⟨(.type "type"),none,(.cls ⟨"NoPlace",[(.ref 24)],[(.ref 92),(.ref 24),(.type "ValueError"),(.type "Exception"),(.type "BaseException"),(.type "object")],91,"NoPlace",true,[],[],false,none,false⟩), #[(some (.ref 76)),none,(some (.str "NoPlace" 271)),(some (.str "NoPlace" 279)),(some (.builtin "ValueError.__new__")),(some (.bool true))]⟩)::
(nat_lit 111,⟨(.type "type"),none,(.cls ⟨"NoAnswer",[(.ref 24)],[(.ref 111),(.ref 24),(.type "ValueError"),(.type "Exception"),(.type "BaseException"),(.type "object")],110,"NoAnswer",true,[],[],false,none,false⟩), #[(some (.ref 95)),none,(some (.str "NoAnswer" 296)),(some (.str "NoAnswer" 304)),(some (.builtin "ValueError.__new__")),(some (.bool true))]⟩)::
(nat_lit 130,⟨(.type "type"),none,(.cls ⟨"ManyAnswers",[(.ref 24)],[(.ref 130),(.ref 24),(.type "ValueError"),(.type "Exception"),(.type "BaseException"),(.type "object")],129,"ManyAnswers",true,[],[],false,none,false⟩), #[(some (.ref 114)),none,(some (.str "ManyAnswers" 321)),(some (.str "ManyAnswers" 329)),(some (.builtin "ValueError.__new__")),(some (.bool true))]⟩)::
(nat_lit 149,⟨(.type "type"),none,(.cls ⟨"NoPlan",[(.ref 24)],[(.ref 149),(.ref 24),(.type "ValueError"),(.type "Exception"),(.type "BaseException"),(.type "object")],148,"NoPlan",true,[],[],false,none,false⟩), #[(some (.ref 133)),none,(some (.str "NoPlan" 348)),(some (.str "NoPlan" 356)),(some (.builtin "ValueError.__new__")),(some (.bool true))]⟩)::
(nat_lit 168,⟨(.type "type"),none,(.cls ⟨"NoGoal",[(.ref 24)],[(.ref 168),(.ref 24),(.type "ValueError"),(.type "Exception"),(.type "BaseException"),(.type "object")],167,"NoGoal",true,[],[],false,none,false⟩), #[(some (.ref 152)),none,(some (.str "NoGoal" 373)),(some (.str "NoGoal" 381)),(some (.builtin "ValueError.__new__")),(some (.bool true))]⟩)::
(nat_lit 180,⟨(.type "type"),none,(.cls ⟨"NoRow",[(.ref 24)],[(.ref 180),(.ref 24),(.type "ValueError"),(.type "Exception"),(.type "BaseException"),(.type "object")],179,"NoRow",true,[],[],false,none,false⟩), #[(some (.ref 171)),none,(some (.str "NoRow" 398)),(some (.str "NoRow" 406)),(some (.builtin "ValueError.__new__")),(some (.bool true))]⟩)::
(nat_lit 188,cO "common_divisor" "common_divisor" 416 41 2 3 183 424)::
(nat_lit 189,fO "common_divisor" "common_divisor" (at_ 13) m0 188)::
(nat_lit 195,cO "fraction" "fraction" 427 49 2 3 190 433)::
(nat_lit 196,fO "fraction" "fraction" (at_ 14) m0 195)::
(nat_lit 225,⟨(.type "tuple"),none,(.seq #[(.str "one" 470),(.str "other" 471)] 0), #[]⟩)::
(nat_lit 231,cO "fits_pay" "fits_pay" 477 68 1 3 226 481)::
(nat_lit 232,fO "fits_pay" "fits_pay" (at_ 23) m1 231)::
(nat_lit 238,cO "fits_door" "fits_door" 484 70 2 3 233 489)::
(nat_lit 239,fO "fits_door" "fits_door" (at_ 24) m1 238)::
(nat_lit 245,cO "common_bottom" "common_bottom" 492 72 1 3 240 498)::
(nat_lit 246,fO "common_bottom" "common_bottom" (at_ 25) m1 245)::
(nat_lit 250,dO "fits_chances" "fits_chances" 501 77 1 3 247 504)::
(nat_lit 251,fO "fits_chances" "fits_chances" (at_ 26) m1 250)::
(nat_lit 255,dO "fits_doors" "fits_doors" 507 83 2 3 252 510)::
(nat_lit 256,fO "fits_doors" "fits_doors" (at_ 27) m1 255)::
(nat_lit 260,dO "fits_row" "fits_row" 513 87 2 3 257 516)::
(nat_lit 261,fO "fits_row" "fits_row" (at_ 28) m1 260)::
(nat_lit 267,cO "copied_row" "copied_row" 519 96 1 3 262 523)::
(nat_lit 268,fO "copied_row" "copied_row" (at_ 29) m1 267)::
(nat_lit 269,⟨(.type "dict"),none,(.dict #[(en P "one" 532 (.str "other" 533)),(en P "other" 534 (.str "one" 535)),(en P "chance" 536 (.str "chance" 537))] 3), #[]⟩)::
(nat_lit 275,cO "fits_share" "fits_share" 542 104 1 3 270 546)::
(nat_lit 276,fO "fits_share" "fits_share" (at_ 34) m2 275)::
(nat_lit 308,dO "__init__" "Floor.__init__" 590 125 3 3 305 593)::
(nat_lit 309,fO "__init__" "Floor.__init__" (Pz (at_ 38) 0) m2 308)::
(nat_lit 322,cO "share" "Floor.share" 603 139 1 3 317 607)::
(nat_lit 323,fO "share" "Floor.share" (Pz (at_ 38) 2) m2 322)::
(nat_lit 348,dO "rows" "Floor.rows" 634 155 1 3 345 637)::
(nat_lit 349,fO "rows" "Floor.rows" (Pz (at_ 38) 6) m2 348)::
(nat_lit 373,⟨(.type "dict"),none,(.dict #[(en P "__module__" 585 m2),(en P "__firstlineno__" 589 (.int 123 588)),(en P "__init__" 595 (.ref 309)),(en P "size" 602 (.ref 316)),(en P "share" 609 (.ref 323)),(en P "kind" 617 (.ref 330)),(en P "doors" 625 (.ref 337)),(en P "pay" 633 (.ref 344)),(en P "rows" 639 (.ref 349)),(en P "shown" 650 (.ref 356)),(en P "all_shown" 656 (.ref 361)),(en P "look" 662 (.ref 366)),(en P "best" 668 (.ref 371)),(en P "__static_attributes__" 671 (.ref 372)),(en P "__dict__" 673 (.ref 375)),(en P "__weakref__" 675 (.ref 376)),(en P "__doc__" 676 .none)] 4), #[]⟩)::
(nat_lit 374,⟨(.type "type"),none,(.cls ⟨"Floor",[(.type "object")],[(.ref 374),(.type "object")],373,"Floor",true,[],[],false,none,false⟩), #[none,none,(some (.str "Floor" 578)),(some (.str "Floor" 586)),(some (.builtin "object.__new__")),(some (.bool true))]⟩)::
(nat_lit 384,cO "with_other_sign" "with_other_sign" 679 180 1 3 379 683)::
(nat_lit 385,fO "with_other_sign" "with_other_sign" (at_ 39) m2 384)::
(nat_lit 389,dO "turned_row" "turned_row" 686 182 1 3 386 689)::
(nat_lit 390,fO "turned_row" "turned_row" (at_ 40) m2 389)::
(nat_lit 394,dO "turned" "turned" 692 187 1 3 391 695)::
(nat_lit 395,fO "turned" "turned" (at_ 41) m2 394)::
(nat_lit 573,cO "show_fraction" "show_fraction" 958 350 1 3 568 964)::
(nat_lit 574,fO "show_fraction" "show_fraction" (at_ 77) m3 573)::
(nat_lit 578,dO "read_figures" "read_figures" 967 356 1 3 575 970)::
(nat_lit 579,fO "read_figures" "read_figures" (at_ 78) m3 578)::
(nat_lit 585,cO "read_top" "read_top" 973 364 1 3 580 978)::
(nat_lit 586,fO "read_top" "read_top" (at_ 79) m3 585)::
(nat_lit 592,cO "read_fraction" "read_fraction" 981 371 1 3 587 989)::
(nat_lit 593,fO "read_fraction" "read_fraction" (at_ 80) m3 592)::
(nat_lit 597,dO "show_door" "show_door" 998 388 2 3 594 1001)::
(nat_lit 598,fO "show_door" "show_door" (at_ 84) m4 597)::
(nat_lit 602,dO "show_place" "show_place" 1004 390 3 3 599 1007)::
(nat_lit 603,fO "show_place" "show_place" (at_ 85) m4 602)::
(nat_lit 607,dO "show_floor" "show_floor" 1010 397 2 3 604 1013)::
(nat_lit 608,fO "show_floor" "show_floor" (at_ 86) m4 607)::
(nat_lit 612,dO "is_name" "is_name" 1016 401 1 3 609 1019)::
(nat_lit 613,fO "is_name" "is_name" (at_ 87) m4 612)::
(nat_lit 619,cO "read_name" "read_name" 1022 403 1 3 614 1026)::
(nat_lit 620,fO "read_name" "read_name" (at_ 88) m4 619)::
(nat_lit 626,cO "read_share" "read_share" 1029 407 1 3 621 1034)::
(nat_lit 627,fO "read_share" "read_share" (at_ 89) m4 626)::
(nat_lit 631,dO "read_door" "read_door" 1037 412 2 3 628 1040)::
(nat_lit 632,fO "read_door" "read_door" (at_ 90) m4 631)::
(nat_lit 636,dO "read_row" "read_row" 1043 417 2 3 633 1046)::
(nat_lit 637,fO "read_row" "read_row" (at_ 91) m4 636)::
(nat_lit 643,cO "read_place" "read_place" 1049 425 1 3 638 1054)::
(nat_lit 644,fO "read_place" "read_place" (at_ 92) m4 643)::
(nat_lit 650,cO "numbers_of" "numbers_of" 1057 430 1 3 645 1064)::
(nat_lit 651,fO "numbers_of" "numbers_of" (at_ 93) m4 650)::
(nat_lit 657,cO "numbered_door" "numbered_door" 1067 437 2 3 652 1072)::
(nat_lit 658,fO "numbered_door" "numbered_door" (at_ 94) m4 657)::
(nat_lit 662,dO "numbered_row" "numbered_row" 1075 441 2 3 659 1078)::
(nat_lit 663,fO "numbered_row" "numbered_row" (at_ 95) m4 662)::
(nat_lit 667,dO "read_floor" "read_floor" 1081 445 1 3 664 1084)::
(nat_lit 668,fO "read_floor" "read_floor" (at_ 96) m4 667)::
(nat_lit 813,⟨(.type "dict"),none,(.dict #[(en P "floor" 1308 (.int 3 1309)),(en P "drop" 1310 (.int 2 1311)),(en P "turn" 1312 (.int 3 1313)),(en P "join" 1314 (.int 3 1315)),(en P "show" 1316 (.int 2 1317)),(en P "worth" 1318 (.int 3 1319)),(en P "plan" 1320 (.int 3 1321)),(en P "pair" 1322 (.int 4 1323)),(en P "hold" 1324 (.int 4 1325)),(en P "reach" 1326 (.int 3 1327)),(en P "alike" 1328 (.int 2 1329)),(en P "play" 1330 (.int 4 1331)),(en P "mean" 1332 (.int 6 1333))] 13), #[]⟩)::
(nat_lit 814,⟨(.type "tuple"),none,(.seq #[(.str "plan" 1348),(.str "hold" 1349)] 0), #[]⟩)::
(nat_lit 820,cO "words_of" "words_of" 1351 613 1 3 815 1356)::
(nat_lit 821,fO "words_of" "words_of" (at_ 128) m5 820)::
(nat_lit 827,cO "new_name" "new_name" 1359 622 1 3 822 1363)::
(nat_lit 828,fO "new_name" "new_name" (at_ 129) m5 827)::
(nat_lit 834,cO "standing" "standing" 1366 626 2 3 829 1371)::
(nat_lit 835,fO "standing" "standing" (at_ 130) m5 834)::
(nat_lit 872,cO "say_floor" "say_floor" 1409 649 2 3 867 1415)::
(nat_lit 873,fO "say_floor" "say_floor" (at_ 136) m5 872)::
(nat_lit 879,cO "say_drop" "say_drop" 1418 653 2 3 874 1423)::
(nat_lit 880,fO "say_drop" "say_drop" (at_ 137) m5 879)::
(nat_lit 886,cO "say_turn" "say_turn" 1426 657 2 3 881 1433)::
(nat_lit 887,fO "say_turn" "say_turn" (at_ 138) m5 886)::
(nat_lit 898,cO "say_show" "say_show" 1442 669 2 3 893 1448)::
(nat_lit 899,fO "say_show" "say_show" (at_ 140) m5 898)::
(nat_lit 948,⟨(.type "dict"),none,(.dict #[(en P "floor" 1519 (.ref 873)),(en P "drop" 1520 (.ref 880)),(en P "turn" 1521 (.ref 887)),(en P "join" 1522 (.ref 892)),(en P "show" 1523 (.ref 899)),(en P "worth" 1524 (.ref 906)),(en P "plan" 1525 (.ref 911)),(en P "pair" 1526 (.ref 918)),(en P "hold" 1527 (.ref 925)),(en P "reach" 1528 (.ref 930)),(en P "alike" 1529 (.ref 935)),(en P "play" 1530 (.ref 940)),(en P "mean" 1531 (.ref 947))] 13), #[]⟩)::
(nat_lit 961,cO "__init__" "Desk.__init__" 1558 713 1 3 956 1562)::
(nat_lit 962,fO "__init__" "Desk.__init__" (Pz (at_ 150) 0) m5 961)::
(nat_lit 968,cO "say" "Desk.say" 1565 716 2 3 963 1571)::
(nat_lit 969,fO "say" "Desk.say" (Pz (at_ 150) 1) m5 968)::
(nat_lit 971,⟨(.type "dict"),none,(.dict #[(en P "__module__" 1553 m5),(en P "__firstlineno__" 1557 (.int 711 1556)),(en P "__init__" 1564 (.ref 962)),(en P "say" 1573 (.ref 969)),(en P "__static_attributes__" 1575 (.ref 970)),(en P "__dict__" 1577 (.ref 973)),(en P "__weakref__" 1579 (.ref 974)),(en P "__doc__" 1580 .none)] 4), #[]⟩)::
(nat_lit 972,⟨(.type "type"),none,(.cls ⟨"Desk",[(.type "object")],[(.ref 972),(.type "object")],971,"Desk",true,[],[],false,none,false⟩), #[none,none,(some (.str "Desk" 1546)),(some (.str "Desk" 1554)),(some (.builtin "object.__new__")),(some (.bool true))]⟩)::
(nat_lit 982,cO "_law_nth" "_law_nth" 1585 720 2 3 977 1590)::
(nat_lit 983,fO "_law_nth" "_law_nth" (at_ 152) m6 982)::
(nat_lit 989,cO "_law_mixed" "_law_mixed" 1593 722 2 3 984 1602)::
(nat_lit 990,fO "_law_mixed" "_law_mixed" (at_ 153) m6 989)::
(nat_lit 996,cO "_law_gcd" "_law_gcd" 1605 734 2 3 991 1612)::
(nat_lit 997,fO "_law_gcd" "_law_gcd" (at_ 154) m6 996)::
(nat_lit 1003,cO "_law_lowest" "_law_lowest" 1615 740 2 3 998 1621)::
(nat_lit 1004,fO "_law_lowest" "_law_lowest" (at_ 155) m6 1003)::
(nat_lit 1010,cO "_law_pay" "_law_pay" 1624 743 2 3 1005 1629)::
(nat_lit 1011,fO "_law_pay" "_law_pay" (at_ 156) m6 1010)::
(nat_lit 1015,dO "_law_small" "_law_small" 1632 751 2 3 1012 1635)::
(nat_lit 1016,fO "_law_small" "_law_small" (at_ 157) m6 1015)::
(nat_lit 1022,cO "_law_share" "_law_share" 1638 762 1 3 1017 1643)::
(nat_lit 1023,fO "_law_share" "_law_share" (at_ 158) m6 1022)::
(nat_lit 1027,dO "_law_names" "_law_names" 1646 767 2 3 1024 1649)::
(nat_lit 1028,fO "_law_names" "_law_names" (at_ 159) m6 1027)::
(nat_lit 1034,cO "_law_fraction" "_law_fraction" 1652 784 1 3 1029 1656)::
(nat_lit 1035,fO "_law_fraction" "_law_fraction" (at_ 160) m6 1034)::
(nat_lit 1039,dO "_law_text" "_law_text" 1659 788 3 3 1036 1662)::
(nat_lit 1040,fO "_law_text" "_law_text" (at_ 161) m6 1039)::
(nat_lit 1046,cO "_law_minus" "_law_minus" 1665 798 1 3 1041 1669)::
(nat_lit 1047,fO "_law_minus" "_law_minus" (at_ 162) m6 1046)::
(nat_lit 1051,dO "_law_turned" "_law_turned" 1672 800 1 3 1048 1675)::
(nat_lit 1052,fO "_law_turned" "_law_turned" (at_ 163) m6 1051)::
(nat_lit 1058,cO "_law_said" "_law_said" 1678 809 2 3 1053 1685)::
(nat_lit 1059,fO "_law_said" "_law_said" (at_ 164) m6 1058)::
(nat_lit 1065,cO "_law_is" "_law_is" 1688 819 2 3 1060 1693)::
(nat_lit 1066,fO "_law_is" "_law_is" (at_ 165) m6 1065)::
(nat_lit 1072,cO "_law_shown" "_law_shown" 1696 823 3 3 1067 1703)::
(nat_lit 1073,fO "_law_shown" "_law_shown" (at_ 166) m6 1072)::
(nat_lit 1077,dO "_law_deed" "_law_deed" 1706 828 4 3 1074 1709)::
(nat_lit 1078,fO "_law_deed" "_law_deed" (at_ 167) m6 1077)::
(nat_lit 1084,cO "law" "law" 1712 852 1 3 1079 1725)::
(nat_lit 1085,fO "law" "law" (at_ 168) m6 1084)::[]
noncomputable abbrev H:Hook:=kHook K [2,3,23,24,37,48,49,60,61,73,92,111,130,149,168,180,188,189,195,196,225,231,232,238,239,245,246,250,251,255,256,260,261,267,268,269,275,276,308,309,322,323,348,349,373,374,384,385,389,390,394,395,573,574,578,579,585,586,592,593,597,598,602,603,607,608,612,613,619,620,626,627,631,632,636,637,643,644,650,651,657,658,662,663,667,668,813,814,820,821,827,828,834,835,872,873,879,880,886,887,898,899,948,961,962,968,969,971,972,982,983,989,990,996,997,1003,1004,1010,1011,1015,1016,1022,1023,1027,1028,1034,1035,1039,1040,1046,1047,1051,1052,1058,1059,1065,1066,1072,1073,1077,1078,1084,1085] (λ_=>by kernel_rfl)
abbrev Xt:Shared->Bool:=λs=>xlAt q [] s&&recOk (RowW.records row.toRowW) s
structure Z where
  o:List (List Obj)
  n:Nat
  t:Nat
  g:List DictEntry
  c:List (List Value)
  m:Value
  s:List Value
def tu(l:List Value):Obj:=⟨.type "tuple",none, .seq ⟨l⟩ 0, #[]⟩
def fl(c:Value)(l:List Value):Obj:=⟨c,none, .fields ⟨l⟩, #[]⟩
def ss:List Str->Nat->List Value
  | [],_=>[]
  | x::r,t=> .str x t::ss r (t+1)
def lo:List (Str×NameKind)->List Str
  | []=>[]
  | (x, .local)::r=>x::lo r
  | _::r=>lo r
def cd(x q:Str)(t l a k b:Nat)(f:Bool)(v w z:Value)(e:Nat):Obj:=fl (.type "code") [.str x t, .str q (t+1), .str "/claim/cut.py" (t+2), .int l 0, .int a 0, .int 0 0, .int 0 0, .int k 0, .ref b, .bool f, .int 181 0, .ref (b+1), .none,v,w,z, .int e 0, .int l 0, .str "/claim/cut.py" (e+1)]
def TH (d:Value) (x q:Str) (a:Arguments) (b:List Stmt) (s:Scope) (l:Nat) (m:Value) (n t:Nat):List Obj×Nat:=
  let f (c:Value) (g:Nat) (d m h:Value):Obj:=⟨c,none, .func ⟨x,q,a, .stmts b,s,g,[],d, .none, .none,m,none,h, .none,0⟩, #[]⟩
  match s.more with
  | []=>let v:=lo s.names
    ([tu [],fl .none [],tu (ss v (t+3)),tu [],f .none 0 .none .none .none,cd x q t l a.args.length 3 n true (.ref (n+2)) (.ref (n+3)) (.ref (n+4)) (t+3+v.length),f (.type "function") 3 d m (.ref (n+5))],t+5+v.length)
  | _=>([tu [],fl .none [],f .none 0 .none .none .none,cd x q t l a.args.length 3 n true .none .none (.ref (n+2)) (t+3),f (.type "function") 3 d m (.ref (n+3))],t+5)
def mt (P:Params) (x:Str) (m:Value):List Stmt->Nat->Nat->List Obj×List DictEntry×List Value×Nat×Nat
  | .FunctionDef y a b _ _ _ s _ _ p::r,n,t=>match TH .none y (x++"."++y) a b s p.line m n t with
    | (os,k)=>match mt P x m r (n+os.length) (k+1) with
      | (o,e,c,w)=>(os++o,en P y k (.ref (n+os.length - 1))::e, .int p.line 0:: .int p.col 0:: .ref (n+os.length - 2)::c,w)
  | _::r,n,t=>mt P x m r n t
  | [],n,t=>([],[],[],n,t)
def ty(x:Str)(bs mro:List Value)(d t:Nat)(b:Option Value)(w:String)(s:List Value):Obj:=⟨.type "type",none, .cls ⟨x,bs, .ref (d+1)::mro,d,x,true,[],s,false,none,false⟩, #[b,none,some (.str x t),some (.str x (t+8)),some (.builtin w),some (.bool true)]⟩
abbrev VE:List Value:=[.type "ValueError", .type "Exception", .type "BaseException", .type "object"]
def W8 (P:Params) (x:Str) (bs:List Expr) (b:List Stmt) (sa:List Str) (l:Nat) (m:Value) (n t:Nat):List Obj×Nat×Nat:=
  match mt P x m b (n+7) (t+12) with
  | (mo,me,mc,n2,t2)=>
    let k:=t2+sa.length
    let e1:=en P "__module__" (t+7) m
    let e2:=en P "__firstlineno__" (t+11) (.int l (t+10))
    let e3:=en P "__static_attributes__" k (.ref n2)
    let ds (w k:Nat) (x:List DictEntry):Obj:=⟨.type "dict",none, .dict ⟨e1::e2::(me++e3::(x++[en P "__doc__" k .none]))⟩ w, #[]⟩
    let de (x:Str) (t:Nat) (u:String) (v:Value):Obj:=fl (.type "getset_descriptor") [.str x t, .ref (n2+2), .builtin u,v]
    let h (bt:List Value) (r:List Obj):List Obj:=tu bt::fl (.type "builtin_function_or_method") [.builtin "type.__prepare__", .type "type"]::⟨.type "dict",none, .dict ⟨e1::en P "__qualname__" (t+9) (.str x (t+8))::e2::(me++[e3])⟩ (4+me.length), #[]⟩::tu []::fl .none mc::cd x x (t+2) l 0 0 (n+3) false .none .none .none (t+5)::⟨.type "frame",none, .plain, #[some (.ref (n+5)),some (.ref 3),some (.ref (n+2)),none,some m,none,some (.ref 0)]⟩::(mo++tu (ss sa t2)::(r++[fl (.type "super") [.ref (n2+2), .ref (n2+2), .ref (n2+2)],fl (.type "builtin_function_or_method") [.builtin "object.__init_subclass__", .ref (n2+2)]]))
    match bs with
    | []=>(h [] [ds 4 (k+5) [en P "__dict__" (k+2) (.ref (n2+3)),en P "__weakref__" (k+4) (.ref (n2+4))],ty x [.type "object"] [.type "object"] (n2+1) t none "object.__new__" [],de "__dict__" (k+1) "function.__dict__" (.builtin "function.__dict__#set"),de "__weakref__" (k+3) "ExceptionGroup.__weakref__" .none],k+7,n2+2)
    | _=>match n with
      | 15=>(h [.type "ValueError"] [ds 3 (k+3) [en P "__weakref__" (k+2) (.ref (n2+3))],ty x [.type "ValueError"] VE (n2+1) t (some (.ref n)) "ValueError.__new__" [],de "__weakref__" (k+1) "ExceptionGroup.__weakref__" .none],k+5,n2+2)
      | _=>(h [.ref 24] [ds 2 (k+1) [],ty x [.ref 24] (.ref 24::VE) (n2+1) t (some (.ref n)) "ValueError.__new__" []],k+3,n2+2)
def ls:List Expr->Nat->List Value×Nat
  | .Constant (.str z) _ _::r,t=>match ls r (t+1) with
    | (v,k)=>(.str z t::v,k)
  | .Constant (.int z) _ _::r,t=>match ls r (t+1) with
    | (v,k)=>(.int z t::v,k)
  | .Constant .none _ _::r,t=>match ls r t with
    | (v,k)=>(.none::v,k)
  | _,t=>([],t)
def gv(x:Str):List DictEntry->Value
  | ⟨_, .str y _,v⟩::r=>if x=y then v else gv x r
  | _=> .none
def dv (P:Params) (g:List DictEntry):List (Option Expr)->List Expr->Nat->List DictEntry×Nat
  | some (.Constant (.str z) _ _)::r, .Name x _::u,t=>match dv P g r u (t+1) with
    | (e,k)=>(en P z t (gv x g)::e,k+1)
  | some (.Constant (.str z) _ _)::r,c::u,t=>match ls [c] (t+1) with
    | (v,k)=>match dv P g r u k with
      | (e,k)=>(en P z t (v.headD .none)::e,k+1)
  | _,_,t=>([],t)
def WT (P:Params) (z:Z):Stmt->Z
  | .FunctionDef x a b _ _ _ s _ _ p=>match a.defaults with
    | []=>match TH .none x x a b s p.line z.m z.n z.t with
      | (os,k)=>{z with o:=os::z.o,n:=z.n+os.length,t:=k+1,g:=en P x k (.ref (z.n+os.length - 1))::z.g,c:=[.int p.line 0, .int p.col 0, .ref (z.n+os.length - 2)]::z.c}
    | ds=>match ls ds z.t with
      | (v,k)=>match TH (.ref z.n) x x a b s p.line z.m (z.n+1) k with
        | (os,k)=>{z with o:=os::[tu v]::z.o,n:=z.n+1+os.length,t:=k+1,g:=en P x k (.ref (z.n+os.length))::z.g,c:=[.int p.line 0, .int p.col 0, .ref (z.n+os.length - 1)]::z.c}
  | .ClassDef x bs _ b _ _ _ _ _ sa p=>match W8 P x bs b sa p.line z.m z.n z.t with
    | (os,k,d)=>{z with o:=os::z.o,n:=z.n+os.length,t:=k+1,g:=en P x k (.ref d)::z.g,c:=[.int p.line 0, .int p.col 0, .ref (z.n+5)]::z.c,s:=match z.n with
        | 15=>[]
        | _=>match bs with
          | []=>z.s
          | _=> .ref d::z.s}
  | .Assign [.Name x _] (.Tuple es _ _) _=>match ls es z.t with
    | (v,k)=>{z with o:=[tu v]::z.o,n:=z.n+1,t:=k+1,g:=en P x k (.ref z.n)::z.g}
  | .Assign [.Name x _] (.Dict ks vs _) _=>match dv P z.g ks vs z.t with
    | (e,k)=>{z with o:=[⟨.type "dict",none, .dict ⟨e⟩ e.length, #[]⟩]::z.o,n:=z.n+1,t:=k+1,g:=en P x k (.ref z.n)::z.g}
  | .Assign [.Name x _] c _=>match ls [c] z.t with
    | (v,k)=>if x="__name__" then {z with t:=k+1,m:=v.headD .none} else {z with t:=k+1,g:=en P x k (v.headD .none)::z.g}
  | _=>z
def z0:Z:=⟨[],15,187,[],[], .str "__main__" 164,[]⟩
def zs(P:Params)(k:Nat):Z:=((behindTheImports row.prog).take k).foldl (WT P) z0
def g9(P:Params)(m:Value):List DictEntry:=[en P "__name__" 165 m,en P "__doc__" 166 .none,en P "__package__" 167 .none,en P "__loader__" 168 (.builtin "__main__.__loader__#opaque"),en P "__spec__" 169 .none,en P "__annotations__" 170 (.ref 6),en P "__builtins__" 171 (.ref 4),en P "__file__" 173 (.str "/claim/cut.py" 172),en P "__cached__" 174 .none]
noncomputable def zl(P:Params)(z:Z):List Obj:=boot_o_0 P::boot_o_1 P::boot_o_2 P::⟨.type "dict",none, .dict ⟨g9 P z.m++z.g.reverse⟩ (z.g.length+9), #[]⟩::boot_o_4 P::boot_o_5 P::boot_o_6 P::boot_o_7 P::boot_o_8 P::boot_o_9 P::boot_o_10 P::tu []::fl .none z.c.reverse.flatten::cd "<module>" "<module>" 182 1 0 0 11 false .none .none .none 185::⟨.type "frame",none, .plain, #[some (.ref 13),some (.ref 3),some (.ref 3),none,some (.str "__main__" 164),none,some (.ref 0)]⟩::(z.o.reverse.flatten.set 9 (ty "DuelError" [.type "ValueError"] VE 23 189 (some (.ref 15)) "ValueError.__new__" z.s.reverse))
def od:List Obj->List Obj
  | x::_::r=>x::od r
  | l=>l
def Ry:Nat->List Obj->BT
  | 0,_=> .nil
  | _,[]=> .nil
  | n+1,x::r=> .node x (Ry n (od r)) (Ry n (od r.tail))
noncomputable def T(P:Params)(k:Nat):BT:=Ry 12 (zl P (zs P k))
noncomputable abbrev S(k n t:Nat)(w:World)(os:OsState):SharedT:=⟨T w.params k,n,{}, #[],{},t,os⟩
def env:Env:={scope:=row.prog.main.scope,locals:=mainNs,globals:=mainNs,cells:=[],code:= .ref 13,frame:=some 14}
abbrev bI:List Stmt:=behindTheImports row.prog
def cE:Code:= .body bI env
abbrev tF:List Frame:=[topFrame ⟨0,0,0,0⟩]
noncomputable abbrev sg(w:World)(os:OsState)(N k n t:Nat)(p:Pos)(l:Nat):=segRunT treeTable row.prog w 11 (some (.ref 6)) 1 N (S k n t w os) (piecesOf ((bI.drop k).take l) env cE p tF)
noncomputable abbrev sr(w:World)(os:OsState)(k n t:Nat)(p:Pos):Option (Flow×SharedT×Code×Pos):=some (.next,S k n t w os,cE,p)
noncomputable abbrev se(w:World)(N k n t:Nat)(p:Pos)(l:Nat)(k' n' t':Nat)(p':Pos):Prop:=(λos=>sg w os N k n t p l)=λos=>sr w os k' n' t' p'
theorem s0(w:World):se w 2621 0 15 187 ⟨0,0,0,0⟩ 17 17 211 452 ⟨58,0,59,77⟩:=by kernel_rfl
theorem Y_(w:World):se w 324 17 211 452 ⟨58,0,59,77⟩ 16 33 269 532 ⟨102,0,102,17⟩:=by kernel_rfl
theorem Tu(w:World):se (w.withFollow "special-get-raises" false) 56 33 269 532 ⟨102,0,102,17⟩ 1 34 270 542 ⟨103,0,103,12⟩:=by kernel_rfl
theorem TC(w:World):se (w.withFollow "special-get-raises" true) 56 33 269 532 ⟨102,0,102,17⟩ 1 34 270 542 ⟨103,0,103,12⟩:=by kernel_rfl
theorem WL(w:World):se w 56 33 269 532 ⟨102,0,102,17⟩ 1 34 270 542 ⟨103,0,103,12⟩:=byRow2 "special-get-raises" (P:=λw=>se w 56 33 269 532 ⟨102,0,102,17⟩ 1 34 270 542 ⟨103,0,103,12⟩) Tu TC w
theorem Xm(w:World):se w 2630 34 270 542 ⟨103,0,103,12⟩ 82 116 763 1233 ⟨557,0,561,12⟩:=by kernel_rfl
theorem Q7(w:World):se w 260 116 763 1233 ⟨557,0,561,12⟩ 10 126 813 1308 ⟨610,0,610,10⟩:=by kernel_rfl
theorem Ou(w:World):se (w.withFollow "special-get-raises" false) 206 126 813 1308 ⟨610,0,610,10⟩ 1 127 814 1348 ⟨611,0,611,7⟩:=by kernel_rfl
theorem PJ(w:World):se (w.withFollow "special-get-raises" true) 206 126 813 1308 ⟨610,0,610,10⟩ 1 127 814 1348 ⟨611,0,611,7⟩:=by kernel_rfl
theorem QW(w:World):se w 206 126 813 1308 ⟨610,0,610,10⟩ 1 127 814 1348 ⟨611,0,611,7⟩:=byRow2 "special-get-raises" (P:=λw=>se w 206 126 813 1308 ⟨610,0,610,10⟩ 1 127 814 1348 ⟨611,0,611,7⟩) Ou PJ w
theorem TN(w:World):se w 629 127 814 1348 ⟨611,0,611,7⟩ 22 149 948 1519 ⟨703,0,709,82⟩:=by kernel_rfl
theorem O_(w:World):se (w.withFollow "special-get-raises" false) 219 149 948 1519 ⟨703,0,709,82⟩ 1 150 949 1546 ⟨710,0,710,7⟩:=by kernel_rfl
theorem N6(w:World):se (w.withFollow "special-get-raises" true) 219 149 948 1519 ⟨703,0,709,82⟩ 1 150 949 1546 ⟨710,0,710,7⟩:=by kernel_rfl
theorem SX(w:World):se w 219 149 948 1519 ⟨703,0,709,82⟩ 1 150 949 1546 ⟨710,0,710,7⟩:=byRow2 "special-get-raises" (P:=λw=>se w 219 149 948 1519 ⟨703,0,709,82⟩ 1 150 949 1546 ⟨710,0,710,7⟩) O_ N6 w
theorem T7(w:World):se w 771 150 949 1546 ⟨710,0,710,7⟩ 19 169 1086 1728 ⟨852,0,870,15⟩:=by kernel_rfl
theorem pre(w:World)(os:OsState):topGo treeTable row.prog w 11 (some (.ref 6)) 12 ⟨boot_heap w.params, #[],boot_drawn,boot_toks,os⟩ (topStub row.prog)=some ((S 0 15 187 w os).abs,⟨denote treeTable cE,cE,⟨0,0,0,0⟩,tF⟩):=by kernel_rfl
theorem blk(w:World)(os:OsState):segRun treeTable row.prog w 11 (some (.ref 6)) 1 1 (S 0 15 187 w os).abs (blockOf bI env cE ⟨0,0,0,0⟩ tF)=some (.next,(S 0 15 187 w os).abs,cE,⟨0,0,0,0⟩):=by kernel_rfl
theorem fin(w:World)(s:Shared)(p:Pos):topRun treeTable row.prog w 11 (some (.ref 6)) 2 s (restOf (bI.drop 169) env cE p tF)=some s:=by rewrite [show bI.drop 169=[] by kernel_rfl];rfl
theorem Yq(w:World):((boot_heap w.params).isNs mainGlobals&&(#[]:Array GenState).size==0,(boot_heap w.params).objs.size,(boot_heap w.params).nsMap mainGlobals "__annotations__")=(true,11,some (.ref 6)):=by kernel_rfl
theorem YJ:opening row.prog=plainProg row.prog.main.scope.names:=by kernel_rfl
theorem XU(s:Shared):fenceModules? row.prog s=some s:=by kernel_rfl
theorem pc{w:World}{n N k l:Nat}{s s':SharedT}{r:Shared}{p p':Pos}(h:segRunT treeTable row.prog w 11 (some (.ref 6)) 1 n s (piecesOf ((bI.drop k).take l) env cE p tF)=some (.next,s',cE,p'))(g:topRun treeTable row.prog w 11 (some (.ref 6)) N s'.abs (restOf (bI.drop (k+l)) env cE p' tF)=some r):topRun treeTable row.prog w 11 (some (.ref 6)) (n+N) s.abs (restOf (bI.drop k) env cE p tF)=some r:=by
  have e:(bI.drop k).take l++bI.drop (k+l)=bI.drop k:=by rw [<-abC,List.take_append_drop]
  rewrite [<-e];exact piece_app (segRun_of h) g
theorem run(w:World)(os:OsState):topRun treeTable row.prog w 11 (some (.ref 6)) (12+(1+(2621+(324+(56+(2630+(260+(206+(629+(219+(771+(2)))))))))))) ⟨boot_heap w.params, #[],boot_drawn,boot_toks,os⟩ (topStub row.prog)=some (S 169 1086 1728 w os).abs:=go_top (pre w os) (piece_block (blk w os) (pc (congrFun (s0 w) os) (pc (congrFun (Y_ w) os) (pc (congrFun (WL w) os) (pc (congrFun (Xm w) os) (pc (congrFun (Q7 w) os) (pc (congrFun (QW w) os) (pc (congrFun (TN w) os) (pc (congrFun (SX w) os) (pc (congrFun (T7 w) os) (fin w _ _)))))))))))
noncomputable abbrev sE(w:World)(os:OsState):Shared:=(S 169 1086 1728 w os).abs
theorem l1(w:World)(os:OsState):(staticsOk (importedModules row.prog.main.body) (boot_heap w.params) (sE w os).heap&&namesBound row.prog (sE w os).heap&&gensDone (sE w os)&&laidKept (boot_heap w.params) (sE w os).heap)=true:=by kernel_rfl
section
variable{A B D E F G I J:Type}{u t:A×B×Bool×D×E×F×G×I×J}
def p1:A×B×Bool×D×E×F×G×I×J->A
  | (a,_,_,_,_,_,_,_,_)=>a
def p2:A×B×Bool×D×E×F×G×I×J->B
  | (_,b,_,_,_,_,_,_,_)=>b
def p4:A×B×Bool×D×E×F×G×I×J->Bool
  | (_,_,c,_,_,_,_,_,_)=>c
def p3:A×B×Bool×D×E×F×G×I×J->D
  | (_,_,_,d,_,_,_,_,_)=>d
def p5:A×B×Bool×D×E×F×G×I×J->E
  | (_,_,_,_,e,_,_,_,_)=>e
def p6:A×B×Bool×D×E×F×G×I×J->F
  | (_,_,_,_,_,f,_,_,_)=>f
def p7:A×B×Bool×D×E×F×G×I×J->G
  | (_,_,_,_,_,_,g,_,_)=>g
def p8:A×B×Bool×D×E×F×G×I×J->I
  | (_,_,_,_,_,_,_,g,_)=>g
def p9:A×B×Bool×D×E×F×G×I×J->J
  | (_,_,_,_,_,_,_,_,g)=>g
theorem pr(h:p1 u=t.1)(g:p2 u=t.2.1)(g1:p4 u=true)(g2:t.2.2.1=true)(k:p3 u=t.2.2.2.1)(k1:p5 u=t.2.2.2.2.1)(k2:p6 u=t.2.2.2.2.2.1)(k3:p7 u=t.2.2.2.2.2.2.1)(k4:p8 u=t.2.2.2.2.2.2.2.1)(k5:p9 u=t.2.2.2.2.2.2.2.2):u=t:=by obtain ⟨a,b,c,d,e,f,x,y,z⟩:=u;obtain ⟨a',b',c',d',e',f',x',y',z'⟩:=t;cases (h:a=a');cases (g:b=b');cases (k:d=d');cases (k1:e=e');cases (k2:f=f');cases (k3:x=x');cases (k4:y=y');cases (k5:z=z');cases ((g1:c=true).trans (g2:c'=true).symm);rfl
end
noncomputable abbrev sn(w:World)(os:OsState):=openSeen q ["TURNED_KINDS","mended","LENGTHS","SAYINGS"] (importedModules row.prog.main.body) Xt true (sE w os)
abbrev gd:=openGood q ["TURNED_KINDS","mended","LENGTHS","SAYINGS"]
theorem la(w:World)(os:OsState):p1 (sn w os)=gd.1:=by kernel_rfl
theorem lb(w:World)(os:OsState):p2 (sn w os)=gd.2.1:=by kernel_rfl
theorem lp(w:World)(os:OsState):(sE w os).heap.keysOk (looseW q ["TURNED_KINDS","mended","LENGTHS","SAYINGS"]) ((recsOf q).map (·.name)) ((litsOf q).map (·.1)) ((clssOf q (looseW q ["TURNED_KINDS","mended","LENGTHS","SAYINGS"])).map (·.name))=true:=by kernel_rfl
theorem lq(w:World)(os:OsState):(sE w os).heap.accountedOkI (importedModules row.prog.main.body)=true:=by kernel_rfl
theorem lr(w:World)(os:OsState):(sE w os).heap.isNs mainGlobals=true:=by kernel_rfl
theorem lt(w:World)(os:OsState):(sE w os).heap.isNs builtinsNs=true:=by kernel_rfl
theorem lu(w:World)(os:OsState):tablesOk q (sE w os).heap=true:=by kernel_rfl
theorem lv(w:World)(os:OsState):Xt (sE w os)=true:=by kernel_rfl
theorem p4e(s:Shared):p4 (openSeen q ["TURNED_KINDS","mended","LENGTHS","SAYINGS"] (importedModules row.prog.main.body) Xt true s)=(s.heap.keysOk (looseW q ["TURNED_KINDS","mended","LENGTHS","SAYINGS"]) ((recsOf q).map (·.name)) ((litsOf q).map (·.1)) ((clssOf q (looseW q ["TURNED_KINDS","mended","LENGTHS","SAYINGS"])).map (·.name))&&s.heap.accountedOkI (importedModules row.prog.main.body)&&s.heap.isNs mainGlobals&&s.heap.isNs builtinsNs&&tablesOk q s.heap&&Xt s&&(s.gens.size==0)):=rfl
theorem ld(w:World)(os:OsState):p4 (sn w os)=true:=(p4e _).trans (look_both (look_both (look_both (look_both (look_both (look_both (lp w os) (lq w os)) (lr w os)) (lt w os)) (lu w os)) (lv w os)) rfl)
theorem lc(w:World)(os:OsState):p3 (sn w os)=gd.2.2.2.1:=by kernel_rfl
theorem le(w:World)(os:OsState):p5 (sn w os)=gd.2.2.2.2.1:=by kernel_rfl
theorem lg(w:World)(os:OsState):p6 (sn w os)=gd.2.2.2.2.2.1:=by kernel_rfl
theorem lh(w:World)(os:OsState):p7 (sn w os)=gd.2.2.2.2.2.2.1:=by kernel_rfl
theorem lj(w:World)(os:OsState):p8 (sn w os)=gd.2.2.2.2.2.2.2.1:=by kernel_rfl
theorem lm(w:World)(os:OsState):p9 (sn w os)=gd.2.2.2.2.2.2.2.2:=by kernel_rfl
theorem l2(w:World)(os:OsState):sn w os=gd:=pr (la w os) (lb w os) (ld w os) rfl (lc w os) (le w os) (lg w os) (lh w os) (lj w os) (lm w os)
theorem l3(w:World)(os:OsState):H.obs (sE w os)=H.val w:=by kernel_rfl
theorem left:LeftO row.prog q ["TURNED_KINDS","mended","LENGTHS","SAYINGS"] Xt H.obs H.val 15540:=LeftO.of_pieces (H₀:=boot_heap) (H₁:=λP=>absHeap (T P 169) 1086 {}) (gs₀:= #[]) (gs₁:= #[]) (d₀:=boot_drawn) (d₁:={}) (k₀:=boot_toks) (k₁:=1728) (boot_open YJ rfl XU) Yq run rfl λw=>funext λos=>looks_pair (l1 w os) (looks_pair (l2 w os) (l3 w os))
end Hd
theorem gV:2<=PySem.sizeLine:=by decide
abbrev fI:=PySem.W.Frag
namespace L2
open PySem PySem.Spec PyProof.Rows
variable{us:List Value}{a b dx C:Addr}{P prog:Program}{w:World}{h h' base:Heap}{γ:List (Addr×Obj)}{s:Shared}{g':Array GenState}{ch fp:List Addr}{i:Nat}{x:Str}{M:Model}{A:Around}{E Q:Value->Shared->Prop}{u:Value}{pos:Pos}{e c tg:Expr}{es:List Expr}{body:List Stmt}{f:Value->Value->Sem Value}{op:CmpOp}{mA mg:Str->Option Value}{kw:List (Str×Value)}{outer:List Env}{ps:List Str}
abbrev Key:=Sum Int Str
def rE:Key->Value->Bool
 | .inl k,v=>Value.isInt k v
 | .inr x,v=>Value.isStrOf x v
def Sl(w:World):Key->Int
 | .inl k=>hashInt k
 | .inr x=>hashStr w x
theorem ba:∀{k:Key} {v:Value},rE k v=true->(∃i t,k=Sum.inl i/\v=Value.int i t)\/(∃x t,k=Sum.inr x/\v=Value.str x t)
 | .inl i,v,h=>by obtain ⟨t,e⟩:=Value.isInt_shape (k:=i) (v:=v) h;exact .inl ⟨i,t,rfl,e⟩
 | .inr x,v,h=>by obtain ⟨t,e⟩:=Value.isStrOf_shape (x:=x) (v:=v) h;exact .inr ⟨x,t,rfl,e⟩
theorem Bi(i:Int)(t:Tok):rE (.inl i) (.int i t)=true:=by simp [rE,Value.isInt]
theorem Bq(x:Str)(t:Tok):rE (.inr x) (.str x t)=true:=by simp [rE,Value.isStrOf]
theorem Mz(a b:Int):decide ((Sum.inl a:Key)=Sum.inl b)=(a==b):=by
 by_cases e:a=b
 ·subst e;simp
 ·have h:¬(Sum.inl a:Key)=Sum.inl b:=λq=>e (Sum.inl.inj q);rw [aaC h];exact (beq_eq_false_iff_ne.mpr e).symm
theorem Kw(a b:Str):decide ((Sum.inr a:Key)=Sum.inr b)=decide (a=b):=by
 by_cases e:a=b
 ·subst e;simp
 ·have h:¬(Sum.inr a:Key)=Sum.inr b:=λq=>e (Sum.inr.inj q);rw [aaC h,aaC e]
theorem Mm(a:Int)(b:Str):decide ((Sum.inl a:Key)=Sum.inr b)=false:=aaC (λq=>nomatch q)
theorem Kr(a:Str)(b:Int):decide ((Sum.inr a:Key)=Sum.inl b)=false:=aaC (λq=>nomatch q)
def bu(prog:Program)(w:World):PySem.KeyKind prog w Key where
 is:=rE
 hash:=Sl w
 inj:=λv a b ha hb=>by
  rcases ba ha with ⟨i,t,rfl,rfl⟩ | ⟨x,t,rfl,rfl⟩
  ·rcases ba hb with ⟨j,u,rfl,e⟩ | ⟨y,u,rfl,e⟩
   ·injection e with e1 _;rw [e1]
   ·exact nomatch e
  ·rcases ba hb with ⟨j,u,rfl,e⟩ | ⟨y,u,rfl,e⟩
   ·exact nomatch e
   ·injection e with e1 _;rw [e1]
 byValue:=λk v h=>by rcases ba h with ⟨i,t,rfl,rfl⟩ | ⟨x,t,rfl,rfl⟩ <;> rfl
 pyHash:=λhv h=>by
  rcases ba hv with ⟨i,t,rfl,rfl⟩ | ⟨x,t,rfl,rfl⟩
  ·exact wpAny_pyHash_int h
  ·exact wpAny_pyHash_str h
 eqBool:=λhu hv h=>by
  rcases ba hu with ⟨i,t,rfl,rfl⟩ | ⟨x,t,rfl,rfl⟩
  ·rcases ba hv with ⟨j,u,rfl,rfl⟩ | ⟨y,u,rfl,rfl⟩
   ·rw [Mz] at h;exact wpAny_eqBool_int h
   ·rw [Mm] at h;exact SeqAt.EqAt.int_str i t y u _ _ _ _ h
  ·rcases ba hv with ⟨j,u,rfl,rfl⟩ | ⟨y,u,rfl,rfl⟩
   ·rw [Kr] at h;exact SeqAt.EqAt.str_int x t j u _ _ _ _ h
   ·rw [Kw] at h;exact wpAny_eqBool_str h
 «strs»:=λk x t v h=>by
  rcases ba h with ⟨i,u,rfl,e⟩ | ⟨y,u,rfl,e⟩
  ·exact nomatch e
  ·injection e with e1 _
   subst e1;cases v <;> rfl
theorem xj(prog:Program)(w:World)(i:Int)(t:Tok):(bu prog w).is (.inl i) (.int i t)=true:=Bi i t
theorem vX(prog:Program)(w:World)(x:Str)(t:Tok):(bu prog w).is (.inr x) (.str x t)=true:=Bq x t
inductive V where
 | bw | bl (b:Bool) | int (i:Int) | str (x:Str) | C7 (b:Array UInt8) | LV (b:UInt64) | ref (a:Addr) | ty (n:String)
 deriving DecidableEq
variable{v:V}
def ah:V->Value->Prop
 | .bw,u=>u=Value.none
 | .bl b,u=>u=Value.bool b
 | .int i,u=>∃t,u=Value.int i t
 | .str x,u=>∃t,u=Value.str x t
 | .C7 b,u=>∃t,u=Value.bytes b t
 | .LV b,u=>∃t,u=Value.float b t
 | .ref a,u=>u=Value.ref a
 | .ty n,u=>u=Value.type n
abbrev Φ:List V->List Value->Prop:=Paired ah
theorem Φ.length{xs:List V}(r:Φ xs us):xs.length=us.length:=Paired.length r
theorem Φ.get:∀{xs:List V} {us:List Value} {i:Nat} {x:V},Φ xs us->xs[i]? =some x->∃u,us[i]? =some u/\ah x u
 | _,_,_,_, .nil,e=>by simp at e
 | _,_,0,_, .cons r _,e=>by simp at e;subst e;exact ⟨_,rfl,r⟩
 | _,_,i+1,x, .cons _ t,e=>by obtain ⟨u,h1,h2⟩:=Φ.get (i:=i) (x:=x) t (by simpa using e);exact ⟨u,by simpa using h1,h2⟩
theorem Φ.set{x:V}{u:Value}(r:ah x u):∀{xs:List V} {us:List Value} (i:Nat),Φ xs us->Φ (xs.set i x) (us.set i u)
 | _,_,_, .nil=> .nil
 | _,_,0, .cons _ t=> .cons r t
 | _,_,i+1, .cons q t=> .cons q (Φ.set r i t)
theorem Φ.append:∀{xs ys:List V} {us ws:List Value},Φ xs us->Φ ys ws->Φ (xs++ys) (us++ws)
 | _,_,_,_, .nil,s=>s
 | _,_,_,_, .cons r t,s=> .cons r (Φ.append t s)
theorem Φ.take:∀{xs:List V} {us:List Value} (n:Nat),Φ xs us->Φ (xs.take n) (us.take n)
 | _,_,0,_=> .nil
 | _,_,_+1, .nil=> .nil
 | _,_,n+1, .cons r t=> .cons r (Φ.take n t)
theorem Φ.drop:∀{xs:List V} {us:List Value} (n:Nat),Φ xs us->Φ (xs.drop n) (us.drop n)
 | _,_,0,r=>r
 | _,_,_+1, .nil=> .nil
 | _,_,n+1, .cons _ t=>Φ.drop n t
def iC:Option V->Option Value->Prop
 | some v,some u=>ah v u
 | none,none=>True
 | _,_=>False
def KV{κ:Type}:List (κ×V)->List (κ×Value)->Prop:=Paired λ(p:κ×V) (q:κ×Value)=>p.1=q.1/\ah p.2 q.2
def kV:Key->V
 | .inl i=> .int i
 | .inr x=> .str x
inductive HO where
 | lst (xs:List V)
 | tup (xs:List V)
 | dK (kvs:List (Key×V)) | dT (kvs:List (List Key×V))
 | set (S:Int->Bool) (n:Nat)
 | ins (C dx:Addr) (fs:List (Str×V))
 | own (x:Addr)
 | xd (fs:List (Str×V))
 | met (f x:Addr)
 | Qp (lo hi:Int)
 | uo (o:Obj) (u:HO)
 | GF (ps:Array Value)
 | ext (φ:Heap->Prop)
variable{o:HO}
abbrev Hp:=Addr->Option HO
def upd(H:Hp)(a:Addr)(o:HO):Hp:=λb=>if b=a then some o else H b
theorem Ω{H:Hp}:upd H a o a=some o:=by unfold upd;rw [if_pos rfl]
theorem Γ{H:Hp}(h:b≠a):upd H a o b=H b:=by unfold upd;rw [if_neg h]
theorem Ov{H:Hp}{u:HO}(h:H a=some o)(h':H b=some u)(d:o≠u):a≠b:=by intro e;subst e;rw [h] at h';exact d (aaw h')
theorem bh{H:Hp}(h:H a=some o)(h':H b=none):a≠b:=by intro e;subst e;rw [h] at h';cases h'
section
variable(P:Program)(w:World)
def aP(H:Hp)(h:Heap)(a:Addr):HO->Prop
 | .lst xs=>xs.length<=sizeLine/\∃(its:List Value) (n:Nat),Φ xs its/\h.get? a=some {cls:= .type "list",data:= .seq its.toArray n}
 | .tup xs=>xs.length<=sizeLine/\∃its:List Value,Φ xs its/\IsTup h a its.toArray
 | .dK kvs=>kvs.length<=sizeLine/\(a==sysModules)=false/\∃vs,KV kvs vs/\h.DictOf (bu P w) a vs
 | .dT kvs=>kvs.length<=sizeLine/\(a==sysModules)=false/\∃xs:List (List Key×Addr×Value),
   Paired (λ(p:List Key×V) (q:List Key×Addr×Value)=>p.1=q.1/\H q.2.1=some (.tup (p.1.map kV))/\ah p.2 q.2.2) kvs xs/\
   ∃o es ep,h.get? a=some o/\o.ExactDict/\o.data= .dict es ep/\es.toList=xs.map (entryOfKey (tupleKind (bu P w)))/\(xs.map (·.1)).Nodup
 | .set S n=>h.SetOf (intKind P w) a S n
 | .ins C dx fs=>H dx=some (.own a)/\fs.length<=1000/\dx≠a/\h.get? a=some (PySem.W.instObj C dx)/\
   ∃mA,h.Ns1 dx mA/\(∀f,iC (fs.lookup f) (mA f))/\PySem.Within mA (fs.map (·.1))
 | .own _=>∃o,h.get? a=some o
 | .xd fs=>∃mA,h.Ns1 a mA/\∀f,iC (fs.lookup f) (mA f)
 | .Qp lo hi=>∃t u v,h.get? a=some {cls:= .type "range",data:= .fields #[.int lo t, .int hi u, .int 1 v]}
 | .uo o u=>h.get? a=some o/\aP H h a u
 | .GF ps=>h.get? a=some {cls:= .none,data:= .fields ps}
 | .met f x=>h.get? a=some (PySem.W.methodObj (.ref f) (.ref x))
 | .ext φ=>φ h/\(∃o,h.get? a=some o)/\∀h1 h2:Heap,φ h1->(∀o,h1.get? a=some o->h2.get? a=some o)->φ h2
def iS(H:Hp)(h:Heap):Prop:=∀a o,H a=some o->aP P w H h a o
end
section
variable{H H':Hp}
theorem aP.lt(x:aP P w H h a o):a < h.objs.size:=by
 cases o with
 | lst xs=>obtain ⟨_,_,_,_,e⟩:=x;exact aai e
 | tup xs=>obtain ⟨_,_,_,p⟩:=x;exact p.lt
 | dK kvs=>obtain ⟨_,_,_,_,o,_,_,e,_⟩:=x;exact aai e
 | dT kvs=>obtain ⟨_,_,_,_,o,_,_,e,_⟩:=x;exact aai e
 | set S n=>obtain ⟨o,_,_,_,e,_⟩:=x;exact aai e
 | ins C dx fs=>obtain ⟨_,_,_,e,_⟩:=x;exact aai e
 | own y=>obtain ⟨_,e⟩:=x;exact aai e
 | xd fs=>obtain ⟨_,⟨_,_,_,e,_⟩,_⟩:=x;exact aai e
 | Qp lo hi=>obtain ⟨_,_,_,e⟩:=x;exact aai e
 | uo ob u=>obtain ⟨e,_⟩:=x;exact aai e
 | GF ps=>exact aai (show h.get? a=some _ from x)
 | met f y=>exact aai (show h.get? a=some _ from x)
 | ext φ=>obtain ⟨_,⟨_,e⟩,_⟩:=x;exact aai e
theorem Paired.Lj{α β:Type}{F G:α->β->Prop}:∀{l₁:List α} {l₂:List β},Paired F l₁ l₂->(∀a b,F a b->G a b)->Paired G l₁ l₂
 | _,_, .nil,_=> .nil
 | _,_, .cons r t,f=> .cons (f _ _ r) (Paired.Lj t f)
theorem aP.wL(x:aP P w H h a o)(k:∀b u,(b=a\/H b=some (.own a))->h.get? b=some u->h'.get? b=some u)
  (ho:∀b,H b=some (.own a)->H' b=some (.own a)) (ht:∀b xs,H b=some (.tup xs)->H' b=some (.tup xs)):aP P w H' h' a o:=by
 induction o with
 | lst xs=>obtain ⟨z,its,n,r,e⟩:=x;exact ⟨z,its,n,r,k _ _ (.inl rfl) e⟩
 | tup xs=>obtain ⟨z,its,r,ob,e,c⟩:=x;exact ⟨z,its,r,ob,k _ _ (.inl rfl) e,c⟩
 | dK kvs=>obtain ⟨z,y,vs,r,ob,es,ep,e,c⟩:=x;exact ⟨z,y,vs,r,ob,es,ep,k _ _ (.inl rfl) e,c⟩
 | dT kvs=>
  obtain ⟨z,y,xs,r,ob,es,ep,e,c⟩:=x;exact ⟨z,y,xs,Paired.Lj r λp q z=>⟨z.1,ht _ _ z.2.1,z.2.2⟩,ob,es,ep,k _ _ (.inl rfl) e,c⟩
 | set S n=>obtain ⟨ob,es,ep,t,e,c⟩:=x;exact ⟨ob,es,ep,t,k _ _ (.inl rfl) e,c⟩
 | ins C dx fs=>
  obtain ⟨d,z,ne,e,mA,⟨od,es,ep,e2,c⟩,r⟩:=x;exact ⟨ho _ d,z,ne,k _ _ (.inl rfl) e,mA,⟨od,es,ep,k _ _ (.inr d) e2,c⟩,r⟩
 | own y=>obtain ⟨ob,e⟩:=x;exact ⟨ob,k _ _ (.inl rfl) e⟩
 | xd fs=>obtain ⟨mA,⟨od,es,ep,e,c⟩,r⟩:=x;exact ⟨mA,⟨od,es,ep,k _ _ (.inl rfl) e,c⟩,r⟩
 | Qp lo hi=>obtain ⟨t,u,v,e⟩:=x;exact ⟨t,u,v,k _ _ (.inl rfl) e⟩
 | uo ob u ih=>obtain ⟨e,q⟩:=x;exact ⟨k _ _ (.inl rfl) e,ih q⟩
 | GF ps=>
  have e:h.get? a=some {cls:= .none,data:= .fields ps}:=x;show h'.get? a=some {cls:= .none,data:= .fields ps};exact k a _ (.inl rfl) e
 | met f y=>
  have e:h.get? a=some (PySem.W.methodObj (.ref f) (.ref y)):=x;show h'.get? a=some (PySem.W.methodObj (.ref f) (.ref y));exact k a _ (.inl rfl) e
 | ext φ=>obtain ⟨p,⟨o,e⟩,st⟩:=x;exact ⟨st _ _ p λo q=>k _ _ (.inl rfl) q,⟨o,k _ _ (.inl rfl) e⟩,st⟩
theorem iS.lt(x:iS P w H h)(e:H a=some o):a < h.objs.size:=(x a o e).lt
theorem iS.fresh(x:iS P w H h)(e:h.objs.size<=a):H a=none:=by
 cases q:H a with
 | none=>rfl
 | some u=>exact aaG (aam (x.lt q) e) (abq _)
theorem iS.kept(x:iS P w H h)(k:∀b u,h.get? b=some u->h'.get? b=some u):iS P w H h':=λa o e=>
 (x a o e).wL (λb u _ q=>k b u q) (λ_ q=>q) λ_ _ q=>q
theorem iS.laid(x:iS P w H h)(k:∀b u,h.get? b=some u->h'.get? b=some u)(hp:h.objs.size<=a)(new:aP P w (upd H a o) h' a o):iS P w (upd H a o) h':=λb u e=>by
 have hn:=x.fresh hp;by_cases hb:b=a
 ·subst hb;rw [Ω] at e;cases e;exact new
 ·rw [Γ hb] at e;exact (x b u e).wL (λc v _ q=>k c v q) (λc q=>by rw [Γ (bh q hn)];exact q) λc xs q=>by rw [Γ (bh q hn)];exact q
end
def Rd(H:Hp)(a:Addr)(u:HO):Prop:=H a=some u\/∃o,H a=some (.uo o u)
theorem Rd.ok{H:Hp}{u:HO}(r:Rd H a u)(x:iS P w H h):aP P w H h a u:=by
 rcases r with r | ⟨o,r⟩
 ·exact x a u r
 ·obtain ⟨_,q⟩:=x a _ r;exact q
def OW:Option HO->Prop
 | some (.lst _)=>True
 | some (.dK _)=>True
 | some (.dT _)=>True
 | some (.set _ _)=>True
 | some (.ins _ _ _)=>True
 | some (.ext _)=>True
 | _=>False
section
variable{H:Hp}{x e:Addr}{o':HO}
theorem iS.write(ok:iS P w H h)(mu:OW (H x))(he:e=x\/H e=some (.own x))(k:∀b u,b≠e->h.get? b=some u->h'.get? b=some u)(Ng:∃u,h'.get? e=some u)
  (new:aP P w (upd H x o') h' x o'):iS P w (upd H x o') h':=λb u q=>by
 have NY:∀c y,H c=some (.own y)->c≠x:=λc y r z=>by subst z;rw [r] at mu;exact mu
 have TR:∀c xs,H c=some (.tup xs)->c≠x:=λc xs r z=>by subst z;rw [r] at mu;exact mu
 by_cases hb:b=x
 ·subst hb;rw [Ω] at q;cases q;exact new
 ·rw [Γ hb] at q;by_cases C6:b=e
  ·have q':H b=some (.own x):=by
    rcases he with z | z
    ·exact aaG (C6.trans z) hb
    ·rw [C6];exact z
   rw [q] at q';cases q';obtain ⟨v,hv⟩:=Ng;exact ⟨v,by rw [C6];exact hv⟩
  ·refine (ok b u q).wL (λc v hc r=>k c v ?_ r) (λc r=>by rw [Γ (NY c b r)];exact r) λc xs r=>by rw [Γ (TR c xs r)];exact r
   rcases hc with rfl | hc
   ·exact C6
   ·rintro rfl;rcases he with z | z
    ·exact NY c b hc z
    ·rw [hc] at z;cases z;exact hb rfl
end
structure Un(fs ex:List Addr)(H H':Hp)(h h':Heap):Prop where
 keep:∀b o,h.get? b=some o->H b=none->b∉fs->b∉ex->h'.get? b=some o
 slot:∀b o,h.get? b=some o->H b=none->b∈fs->b∉ex->∃sl,h'.get? b=some {o with slots:=sl}
 free:∀b o,h.get? b=some o->H b=none->b∉ex->H' b=none
 there:∀b o,h.get? b=some o->b∉ex->∃o',h'.get? b=some o'
 lR:∀b xs,H b=some (.tup xs)->H' b=some (.tup xs)
 kR:∀b o u,H b=some (.uo o u)->H' b=some (.uo o u)
 mJ:∀b ps,H b=some (.GF ps)->∃more,H' b=some (.GF (ps++more))
section
variable{fs SV ex Xs:List Addr}{H H1 H2:Hp}{h1 h2:Heap}{x e:Addr}
theorem Un.any(u:Un fs ex H H1 h h1){ob:Obj}(q:h.get? b=some ob)(n:H b=none)(hx:b∉ex):∃sl,h1.get? b=some {ob with slots:=sl}:=by
 by_cases hb:b∈fs
 ·exact u.slot b ob q n hb hx
 ·exact ⟨ob.slots,u.keep b ob q n hb hx⟩
theorem Un.kept(k:∀b u,h.get? b=some u->h'.get? b=some u):Un fs ex H H h h':=
 ⟨λb ob q _ _ _=>k b ob q,λb ob q _ _ _=>⟨ob.slots,k b ob q⟩,λ_ _ _ n _=>n,λb ob q _=>⟨ob,k b ob q⟩,λ_ _ q=>q,λ_ _ _ q=>q,λ_ ps q=>⟨#[],by rw [q];simp⟩⟩
theorem Un.refl:Un fs ex H H h h:=Un.kept λ_ _ q=>q
theorem Un.laid(k:∀b u,h.get? b=some u->h'.get? b=some u)(hp:h.objs.size<=a)(hn:H a=none):Un fs ex H (upd H a o) h h' where
 keep:=λb u q _ _ _=>k b u q
 slot:=λb u q _ _ _=>⟨u.slots,k b u q⟩
 free:=λb u q n _=>by rw [Γ (aaI (aam (aai q) hp))];exact n
 there:=λb u q _=>⟨u,k b u q⟩
 lR:=λb xs q=>by rw [Γ (bh q hn)];exact q
 kR:=λb u xs q=>by rw [Γ (bh q hn)];exact q
 mJ:=λb ps q=>⟨#[],by rw [Γ (bh q hn),q];simp⟩
theorem Un.write(mu:OW (H x))(he:e=x\/H e=some (.own x))(k:∀b u,b≠e->h.get? b=some u->h'.get? b=some u)(Ng:∃u,h'.get? e=some u):Un fs ex H (upd H x o) h h':=by
 have hx:∀b,H b=none->b≠x:=λb n z=>by subst z;rw [n] at mu;exact mu
 have hb:∀b,H b=none->b≠e:=λb n z=>by
  subst z;rcases he with r | r
  ·exact hx b n r
  ·rw [n] at r;cases r
 have hm:∀b u,H b=some u->¬OW (some u)->b≠x:=λb u q nm z=>by subst z;rw [q] at mu;exact nm mu
 refine ⟨λb u q n _ _=>k b u (hb b n) q,λb u q n _ _=>⟨u.slots,k b u (hb b n) q⟩,λb u q n _=>by rw [Γ (hx b n)];exact n,λb u q _=> ?_,
  λb xs q=>by rw [Γ (hm b _ q λz=>z)];exact q,λb u xs q=>by rw [Γ (hm b _ q λz=>z)];exact q,λb ps q=>⟨#[],by rw [Γ (hm b _ q λz=>z),q];simp⟩⟩
 by_cases C6:b=e
 ·subst C6;exact Ng
 ·exact ⟨u,k b u C6 q⟩
end
def QC(h:Heap)(H:Hp):List Addr:=(List.range h.objs.size).filter λa=>(H a).isSome
def ud(h:Heap)(H:Hp):Heap:=PySem.W.hideAll h (QC h H)
theorem Bo(h:Heap)(H:Hp):(ud h H).objs.size=h.objs.size:=PySem.W.hideAll_size _ _
theorem Dd{H:Hp}{o:Obj}(e:h.get? b=some o)(n:H b=none):(ud h H).get? b=some o:=
 PySem.W.hideAll_get _ e λhm=>by have q:(H b).isSome=true:=(List.mem_filter.mp hm).2;rw [n] at q;simp at q
theorem Hu{H:Hp}{o:Obj}(e:(ud h H).get? b=some o):h.get? b=some o/\H b=none:=by
 have e':h.get? b=some o:=PySem.W.of_hideAll (QC h H) e;refine ⟨e', ?_⟩;cases q:H b with
 | none=>rfl
 | some x=>
  have hm:b∈QC h H:=List.mem_filter.mpr ⟨List.mem_range.mpr (Heap.lt_size e'),by simp [q]⟩;have z:(ud h H).get? b=none:=PySem.W.hideAll_none (QC h H) hm;rw [z] at e;cases e
structure Mod(K:fI)(mg:Str->Option Value)(base:Heap):Prop where
 vw:K.In base
 glob:base.Ns mainGlobals mg
 blt:∃mb,base.Ns builtinsNs mb/\∀x:Str,x≠"__name__"->mb x=bootBuiltins x
 nolimit:base.NoLimit
structure Cx where
 prog:Program
 w:World
 K:fI
 mg:Str->Option Value
 base:Heap
 A:Around
 N:List Str
 s₀:Shared
 H₀:Hp
 env:Env
 outer:List Env
 stack:List Env
 ex:List Addr
 fn:Str->Bool
 calm:Bool
 pn:List (Addr×Obj)
 xe:Value->Shared->Prop
variable{X:Cx}
def jV(l:List Env):List Addr:=l.filterMap (·.frame)
abbrev Cx.fs(X:Cx):List Addr:=jV X.outer
def Su(sc:Scope)(x:Str):Prop:=sc.names.lookup x=some .local\/sc.names.lookup x=some .cell\/sc.names.lookup x=some .free
def Loc(sc:Scope)(x:Str):Prop:=sc.names.lookup x=some .local\/sc.names.lookup x=some .cell
def U1(env:Env)(h:Heap)(m:Str->Option Value)(x:Str)(u:Value):Prop:=
 (env.kindOf x=some .local/\m x=some u)\/((env.kindOf x=some .cell\/env.kindOf x=some .free)/\∃c,env.cells.lookup x=some c/\h.IsCell c (some u))
structure Cx.Ok(X:Cx):Prop where
 mod:Mod X.K X.mg X.base
 kind:X.env.scope.kind= .function
 glob:X.env.globals=mainGlobals
 blt:X.env.builtins=builtinsNs
 above:X.s₀.heap.objs.size<=X.env.locals
 inj:∀x y c,X.env.cells.lookup x=some c->X.env.cells.lookup y=some c->x=y
 has:∀x,(X.env.kindOf x=some .cell\/X.env.kindOf x=some .free)->∃c,X.env.cells.lookup x=some c
 Mf:∀x c,X.fn x=true->X.env.cells.lookup x=some c->X.s₀.heap.objs.size<=c
 hd:X.calm=true->X.A.handled=none
 frames:X.A.frames=some X.stack
 Nr:X.stack=X.outer\/(X.stack=X.env::X.outer/\X.env.frame=some X.env.locals)
 Nf:∀b∈X.ex,b≠X.env.locals/\∀x c,X.env.cells.lookup x=some c->c≠b
 bs:∀b o,X.base.get? b=some o->X.s₀.heap.get? b=some o/\X.H₀ b=none
 GI:X.base.objs.size<=X.s₀.heap.objs.size
 zF:∀b o,X.base.get? b=some o->b∉X.ex
 yt:∀b∈X.ex,b∉X.fs
 j8:X.s₀.heap.FunFrames X.base X.outer
 HC:∀b∈X.fs,X.H₀ b=none
structure Inv(X:Cx)(γ:List (Addr×Obj))(σ:List (Option V))(H:Hp)(s:Shared):Prop where
 ok:X.Ok
 os:s.os=X.s₀.os
 bare:AllBare s.gens
 base:Un X.fs X.ex X.H₀ H X.s₀.heap s.heap
 loc:∃m,s.heap.Ns X.env.locals m/\∀(i:Nat) (x:Str) (v:V),X.N[i]? =some x->σ[i]? =some (some v)->Su X.env.scope x->∃u,ah v u/\U1 X.env s.heap m x u
 cell:∀x c,X.env.cells.lookup x=some c->∃v,s.heap.IsCell c v
 free:H X.env.locals=none
 fh:∀x c,X.env.cells.lookup x=some c->H c=none
 pin:∀p∈X.pn++γ,s.heap.get? p.1=some p.2/\H p.1=none/\p.1≠X.env.locals/\p.1∉X.fs/\∀v,p.2.data≠ .cell v
 aC:iS X.prog X.w H s.heap
 len:σ.length=X.N.length
section
variable{σ:List (Option V)}{H H':Hp}
theorem Cx.Ok.TU(ok:X.Ok){o:Obj}(e:X.base.get? b=some o):b∉X.fs:=λhb=>by have:=(ok.j8.mem hb).1;rw [e] at this;cases this
theorem Inv.bs(I:Inv X γ σ H s):∀b o,X.base.get? b=some o->s.heap.get? b=some o/\H b=none:=λb o e=>
 ⟨I.base.keep b o (I.ok.bs b o e).1 (I.ok.bs b o e).2 (I.ok.TU e) (I.ok.zF b o e),I.base.free b o (I.ok.bs b o e).1 (I.ok.bs b o e).2 (I.ok.zF b o e)⟩
theorem Inv.bk(I:Inv X γ σ H s):∀b o,X.base.get? b=some o->s.heap.get? b=some o:=λb o e=>(I.bs b o e).1
theorem Inv.mod(I:Inv X γ σ H s):Mod X.K X.mg X.base:=I.ok.mod
theorem Inv.g_(I:Inv X γ σ H s):X.K.In s.heap:=I.ok.mod.vw.keeps I.bk
theorem Inv.lt(I:Inv X γ σ H s):X.env.locals < s.heap.objs.size:=let ⟨_,hn,_⟩:=I.loc;hn.lt
theorem Inv.sz(I:Inv X γ σ H s):X.s₀.heap.objs.size<=s.heap.objs.size:=aaq I.ok.above (Nat.le_of_lt I.lt)
theorem Inv.S6(I:Inv X γ σ H s)(h:s.heap.objs.size<=a):a∉X.fs:=λhb=>by obtain ⟨_,o,ho,_⟩:=I.ok.j8.mem hb;exact aaG (aam (aai ho) (aaq I.sz h)) (abq _)
theorem Inv.Ha(I:Inv X γ σ H s):∀x c,X.env.cells.lookup x=some c->c≠X.env.locals:=λx c e z=>by obtain ⟨v,o,ho,hd⟩:=I.cell x c e;obtain ⟨m,⟨o',es,ep,nM,HD,_⟩,_⟩:=I.loc;rw [z,nM] at ho;cases ho;rw [HD] at hd;cases hd
theorem Inv.j8(I:Inv X γ σ H s):s.heap.FunFrames X.base X.outer:=by
 have all:∀(l:List Env),(∀b∈jV l,b∈X.fs)->X.s₀.heap.FunFrames X.base l->s.heap.FunFrames X.base l:=by
  intro l
  induction l with
  | nil=>intro _ _;trivial
  | cons env r ih=>
   intro hs hl;obtain ⟨hk,⟨L,o,hf,hn,ho,hd⟩,hr⟩:=hl;have hL:L∈X.fs:=hs L (by unfold jV;rw [List.filterMap_cons,hf];exact List.mem_cons_self);obtain ⟨sl,e⟩:=I.base.slot L o ho (I.ok.HC L hL) hL λz=>I.ok.yt L z hL;exact ⟨hk,⟨L,_,hf,hn,e,hd⟩,ih (λb hb=>hs b (by unfold jV;rw [List.filterMap_cons,hf];exact List.mem_cons_of_mem _ hb)) hr⟩
 exact all X.outer (λ_ hb=>hb) I.ok.j8
theorem Inv.stack(I:Inv X γ σ H s):s.heap.FunFrames X.base X.stack:=by
 rcases I.ok.Nr with e | ⟨e,hf⟩
 ·rw [e];exact I.j8
 ·rw [e];obtain ⟨m,hn,_⟩:=I.loc;refine .cons (by rw [I.ok.kind];decide) hf hn ?_ I.j8;exact Heap.get?_none_of_le (aaq I.ok.GI I.ok.above)
theorem Inv.ve(I:Inv X γ σ H s):∀b∈jV X.stack,b∈X.env.locals::X.fs:=λb hb=>by
 rcases I.ok.Nr with e | ⟨e,hf⟩
 ·rw [e] at hb;exact aae _ hb
 ·rw [e] at hb;unfold jV at hb;rw [List.filterMap_cons,hf] at hb;exact hb
theorem Inv.n_(I:Inv X γ σ H s):∀b∈jV X.stack,H b=none:=λb hb=>by
 rcases aar.mp (I.ve b hb) with e | hb
 ·rw [e];exact I.free
 ·obtain ⟨_,o,ho,_⟩:=I.ok.j8.mem hb;exact I.base.free b o ho (I.ok.HC b hb) λz=>I.ok.yt b z hb
theorem Inv.step{t':Nat}{d':Drawn}(I:Inv X γ σ H s)
  (A4:∀b∈ch,(b∈X.ex\/X.s₀.heap.objs.size<=b)/\b≠X.env.locals/\(∀x c,X.env.cells.lookup x=some c->c≠b)/\∀p∈X.pn++γ,p.1≠b)
  (keep:∀b o,b≠X.env.locals->b∉X.fs->b∉ch->s.heap.get? b=some o->H b=none->h'.get? b=some o)
  (slot:∀b o,b≠X.env.locals->b∈X.fs->b∉ch->s.heap.get? b=some o->H b=none->∃sl,h'.get? b=some {o with slots:=sl}) (free:∀b o,b∉ch->s.heap.get? b=some o->H b=none->H' b=none)
  (there:∀b o,b∉ch->s.heap.get? b=some o->∃o',h'.get? b=some o')
  (lR:∀b xs,H b=some (.tup xs)->H' b=some (.tup xs)) (kR:∀b o u,H b=some (.uo o u)->H' b=some (.uo o u)) (mJ:∀b ps,H b=some (.GF ps)->∃more,H' b=some (.GF (ps++more)))
  (ns:∀m,s.heap.Ns X.env.locals m->h'.Ns X.env.locals m) (aC:iS X.prog X.w H' h') (hg:AllBare g'):
  Inv X γ σ H' {s with heap:=h',gens:=g',drawn:=d',toks:=t'}:=by
 have VN:∀b o,X.s₀.heap.get? b=some o->b≠X.env.locals:=λb o e=>aaI (aam (aai e) I.ok.above);have QK:∀b o,X.s₀.heap.get? b=some o->b∉X.ex->b∉ch:=λb o e hx hb=>by
  rcases (A4 b hb).1 with z | z
  ·exact hx z
  ·exact aaG (aam (aai e) z) (abq _)
 have cellK:∀x c,X.env.cells.lookup x=some c->∀v,s.heap.IsCell c v->h'.IsCell c v:=λx c e v ⟨o,ho,hd⟩=>by
  have PC:c∉ch:=λz=>(A4 c z).2.2.1 x c e rfl;by_cases hc:c∈X.fs
  ·obtain ⟨sl,q⟩:=slot c o (I.Ha x c e) hc PC ho (I.fh x c e);exact ⟨_,q,hd⟩
  ·exact ⟨o,keep c o (I.Ha x c e) hc PC ho (I.fh x c e),hd⟩
 refine ⟨I.ok,I.os,hg,⟨λb o e n hb hx=> ?_,λb o e n hb hx=> ?_,λb o e n hx=> ?_,λb o e hx=> ?_,λb xs e=>lR b xs (I.base.lR b xs e),λb o xs e=>kR b o xs (I.base.kR b o xs e),λb ps e=> ?_⟩, ?_,λx c e=> ?_, ?_,λx c e=> ?_,λp hp=> ?_,aC,I.len⟩
 ·exact keep b o (VN b o e) hb (QK b o e hx) (I.base.keep b o e n hb hx) (I.base.free b o e n hx)
 ·obtain ⟨sl,e1⟩:=I.base.slot b o e n hb hx;obtain ⟨Yn,e2⟩:=slot b _ (VN b o e) hb (QK b o e hx) e1 (I.base.free b o e n hx);exact ⟨Yn,e2⟩
 ·obtain ⟨o',e1⟩:=I.base.there b o e hx;exact free b o' (QK b o e hx) e1 (I.base.free b o e n hx)
 ·obtain ⟨o',e1⟩:=I.base.there b o e hx;exact there b o' (QK b o e hx) e1
 ·obtain ⟨m1,e1⟩:=I.base.mJ b ps e;obtain ⟨m2,e2⟩:=mJ b _ e1;exact ⟨m1++m2,by rw [e2,Array.append_assoc]⟩
 ·obtain ⟨m,hn,hl⟩:=I.loc;refine ⟨m,ns m hn,λi x v e1 e2 e3=> ?_⟩;obtain ⟨u,r,l⟩:=hl i x v e1 e2 e3;refine ⟨u,r, ?_⟩;rcases l with l | ⟨k,c,e,z⟩
  ·exact .inl l
  ·exact .inr ⟨k,c,e,cellK x c e _ z⟩
 ·obtain ⟨v,z⟩:=I.cell x c e;exact ⟨v,cellK x c e v z⟩
 ·obtain ⟨m,⟨o,_,_,ho,_⟩,_⟩:=I.loc;exact free _ o (λz=>(A4 _ z).2.1 rfl) ho I.free
 ·obtain ⟨v,o,ho,hd⟩:=I.cell x c e;exact free c o (λz=>(A4 c z).2.2.1 x c e rfl) ho (I.fh x c e)
 ·obtain ⟨e,n,ne,nf,d⟩:=I.pin p hp;have PC:p.1∉ch:=λz=>(A4 p.1 z).2.2.2 p hp rfl;exact ⟨keep p.1 p.2 ne nf PC e n,free p.1 p.2 PC e n,ne,nf,d⟩
theorem Inv.un{t':Nat}(I:Inv X γ σ H s)(u:Un X.fs [] H H' s.heap h')(aC:iS X.prog X.w H' h'):Inv X γ σ H' {s with heap:=h',toks:=t'}:=by
 obtain ⟨m,⟨o,es,ep,ho,r⟩,_⟩:=id I.loc;obtain ⟨sl,hL⟩:=u.any ho I.free (by simp)
 exact I.step (g':=s.gens) (d':=s.drawn) (ch:=[]) (λ_ z=>nomatch z) (λb o _ hb _ e n=>u.keep b o e n hb (by simp)) (λb o _ hb _ e n=>u.slot b o e n hb (by simp)) (λb o _ e n=>u.free b o e n (by simp)) (λb o _ e=>u.there b o e (by simp)) u.lR u.kR u.mJ (λm' hm=>by
  obtain ⟨o',RP,UX,nM,r'⟩:=hm;rw [ho] at nM;cases nM
  exact ⟨_,RP,UX,hL,r'⟩) aC I.bare
theorem Inv.call{t':Nat}{d':Drawn}(I:Inv X γ σ H s)(u:Un (jV X.stack) ch H H' s.heap h')(aC:iS X.prog X.w H' h')(hg:AllBare g')
  (A4:∀b∈ch,(b∈X.ex\/X.s₀.heap.objs.size<=b)/\b≠X.env.locals/\(∀x c,X.env.cells.lookup x=some c->c≠b)/\∀p∈X.pn++γ,p.1≠b):
  Inv X γ σ H' {s with heap:=h',gens:=g',drawn:=d',toks:=t'}:=by
 obtain ⟨m,⟨o,es,ep,ho,r⟩,_⟩:=id I.loc;obtain ⟨sl,hL⟩:=u.any ho I.free λz=>(A4 _ z).2.1 rfl
 exact I.step (ch:=ch) A4 (λb o hL hb hc e n=>u.keep b o e n (λz=>(aar.mp (I.ve b z)).elim hL hb) hc) (λb o _ _ hc e n=>u.any e n hc) (λb o hc e n=>u.free b o e n hc) (λb o hc e=>u.there b o e hc) u.lR u.kR u.mJ (λm' hm=>by
  obtain ⟨o',RP,UX,nM,r'⟩:=hm;rw [ho] at nM;cases nM
  exact ⟨_,RP,UX,hL,r'⟩) aC hg
theorem Inv.turned{t':Nat}{it:Addr}(I:Inv X γ σ H s)(k:∀b o,b≠it->s.heap.get? b=some o->h'.get? b=some o)(hn:H it=none)(hL:it≠X.env.locals)
  (h1:it∈X.ex\/X.s₀.heap.objs.size<=it) (h2:∀x c,X.env.cells.lookup x=some c->c≠it) (h3:∀p∈X.pn++γ,p.1≠it):Inv X γ σ H {s with heap:=h',toks:=t'}:=by
 have U4:∀b u,H b=some u->b≠it:=λb u e z=>by rw [z,hn] at e;cases e
 refine I.step (g':=s.gens) (d':=s.drawn) (ch:=[it]) (λb hb=> ?_) (λb o _ _ hc e _=>k b o (λz=>hc (by simp [z])) e) (λb o _ _ hc e _=>⟨o.slots,k b o (λz=>hc (by simp [z])) e⟩) (λ_ _ _ _ n=>n)
  (λb o hc e=>⟨o,k b o (λz=>hc (by simp [z])) e⟩) (λ_ _ e=>e) (λ_ _ _ e=>e) (λb ps e=>⟨#[],by rw [e];simp⟩) (λm hm=> ?_) (λb u e=> ?_) I.bare
 ·have e:b=it:=by simpa using hb
  subst e;exact ⟨h1,hL,h2,h3⟩
 ·obtain ⟨o,es,ep,ho,r⟩:=hm;exact ⟨o,es,ep,k _ o (Ne.symm hL) ho,r⟩
 ·refine (I.aC b u e).wL (λc v hc q=>k c v ?_ q) (λ_ q=>q) λ_ _ q=>q;rcases hc with z | z
  ·rw [z];exact U4 b u e
  ·exact U4 c _ z
theorem Inv.tok(I:Inv X γ σ H s)(t:Nat):Inv X γ σ H {s with toks:=t}:=I.un (h':=s.heap) (t':=t) Un.refl I.aC
theorem Inv.kept{t':Nat}(I:Inv X γ σ H s)(k:∀b u,s.heap.get? b=some u->h'.get? b=some u):Inv X γ σ H {s with heap:=h',toks:=t'}:=I.un (Un.kept k) (I.aC.kept k)
theorem Inv.laid{t':Nat}(I:Inv X γ σ H s)(k:∀b u,s.heap.get? b=some u->h'.get? b=some u)(hp:s.heap.objs.size<=a)(new:aP X.prog X.w (upd H a o) h' a o):
  Inv X γ σ (upd H a o) {s with heap:=h',toks:=t'}:=I.un (Un.laid k hp (I.aC.fresh hp)) (I.aC.laid k hp new)
theorem Inv.write{x e:Addr}{t':Nat}(I:Inv X γ σ H s)(mu:OW (H x))(he:e=x\/H e=some (.own x))(k:∀b u,b≠e->s.heap.get? b=some u->h'.get? b=some u)(Ng:∃u,h'.get? e=some u)
  (new:aP X.prog X.w (upd H x o) h' x o):Inv X γ σ (upd H x o) {s with heap:=h',toks:=t'}:=I.un (Un.write mu he k Ng) (I.aC.write mu he k Ng new)
theorem Inv.A2{pw:List (Addr×Obj)}(I:Inv X γ σ H s)(h:∀p∈pw,s.heap.get? p.1=some p.2/\H p.1=none/\p.1≠X.env.locals/\p.1∉X.fs/\∀v,p.2.data≠ .cell v):Inv X pw σ H s:=
 ⟨I.ok,I.os,I.bare,I.base,I.loc,I.cell,I.free,I.fh,λp hp=>(aaK.mp hp).elim (λz=>I.pin p (abd _ z)) (h p),I.aC,I.len⟩
theorem xa{N:List Str}(hN:N.Nodup){j:Nat}(a:N[i]? =some x)(b:N[j]? =some x):i=j:=by obtain ⟨h1,e1⟩:=aag.mp a;obtain ⟨h2,e2⟩:=aag.mp b;exact (List.getElem_inj hN).mp (e1.trans e2.symm)
theorem sj{Q:Unit->Shared->Prop}(I:Inv X γ σ H s)(hN:X.N.Nodup)(hi:X.N[i]? =some x)(hx:Loc X.env.scope x)(r:ah v u)
  (h:∀s',Inv X γ (σ.set i (some v)) H s'->(∃a,Heap.SameBut a s.heap s'.heap/\(a=X.env.locals\/X.env.cells.lookup x=some a))->Q () s') (hf:X.fn x=true\/X.env.scope.names.lookup x=some .local:=by first | exact .inl rfl | exact .inr rfl | assumption):wpAny M A (storeName X.env x u) Q E s:=by
 obtain ⟨m,hn,hl⟩:=id I.loc;have Rf:(X.env.scope.kind== .class || (X.env.scope.kind== .module&&X.env.locals != X.env.globals))=false:=by rw [I.ok.kind];rfl
 have O7:i < σ.length:=by rw [I.len];exact (aag.mp hi).1
 have Ha:=I.Ha;have tracked:∀{a:Addr} {h':Heap},(∃o,s.heap.get? a=some o/\H a=none)->Heap.SameBut a s.heap h'->iS X.prog X.w H h':=λ{a h'} ha hs b ob e=>by
  obtain ⟨_,_,J2⟩:=ha;refine (I.aC b ob e).wL (λc w' hc q=>(hs.2 c ?_).trans q) (λ_ q=>q) λ_ _ q=>q;rintro rfl;rcases hc with rfl | hc
  ·rw [J2] at e;cases e
  ·rw [J2] at hc;cases hc
 rcases hx with hk | hk
 ·refine wpAny_storeName_local hk hn (λh' rA hs=> ?_) Rf;obtain ⟨oL,_,_,Ze,_⟩:=id hn;refine h _ ⟨I.ok,I.os,I.bare,⟨λb o e n hb hx=> ?_,λb o e n hb hx=> ?_,I.base.free,λb o e hx=> ?_,I.base.lR,I.base.kR,I.base.mJ⟩,⟨_,rA,λj y v' e1 e2 e3=> ?_⟩,λy c e=> ?_,I.free,I.fh,λp hp=> ?_,tracked ⟨oL,Ze,I.free⟩ hs,by simpa using I.len⟩ ⟨_,hs, .inl rfl⟩
  ·exact (hs.2 b (aaI (aam (aai e) I.ok.above))).trans (I.base.keep b o e n hb hx)
  ·obtain ⟨sl,e1⟩:=I.base.slot b o e n hb hx;exact ⟨sl,(hs.2 b (aaI (aam (aai e) I.ok.above))).trans e1⟩
  ·obtain ⟨o',e1⟩:=I.base.there b o e hx;exact ⟨o',(hs.2 b (aaI (aam (aai e) I.ok.above))).trans e1⟩
  ·by_cases hj:j=i
   ·subst hj;rw [hi] at e1;cases e1;rw [aaW O7] at e2;cases e2;exact ⟨u,r, .inl ⟨hk,by simp⟩⟩
   ·rw [aaV (Ne.symm hj)] at e2;obtain ⟨u',r',q⟩:=hl j y v' e1 e2 e3;refine ⟨u',r', ?_⟩;rcases q with ⟨k,e⟩ | ⟨k,c,e,z⟩
    ·refine .inl ⟨k, ?_⟩;have:y≠x:=λe=>hj (xa hN e1 (e▸hi));simp [this,e]
    ·exact .inr ⟨k,c,e,z.sameBut hs (Ha y c e)⟩
  ·obtain ⟨w',z⟩:=I.cell y c e;exact ⟨w',z.sameBut hs (Ha y c e)⟩
  ·obtain ⟨e,n,ne,nf,d⟩:=I.pin p hp;exact ⟨(hs.2 p.1 ne).trans e,n,ne,nf,d⟩
 ·have Rn:X.fn x=true:=by
   rcases hf with z | z
   ·exact z
   ·rw [z] at hk;cases hk
  obtain ⟨c,hc⟩:=I.ok.has x (.inl hk);obtain ⟨w',z⟩:=I.cell x c hc;refine wpAny_storeName_cell I.ok.kind hk hc z (λh' Qy hs=> ?_);obtain ⟨oc,Vj,R5⟩:=id z;refine h {s with heap:=h'} ⟨I.ok,I.os,I.bare,⟨λb o e n hb hx=> ?_,λb o e n hb hx=> ?_,I.base.free,λb o e hx=> ?_,I.base.lR,I.base.kR,I.base.mJ⟩,⟨m,hn.sameBut hs (Ne.symm (Ha x c hc)),λj y v' e1 e2 e3=> ?_⟩,λy c' e=> ?_,I.free,I.fh,λp hp=> ?_,tracked ⟨oc,Vj,I.fh x c hc⟩ hs,by simpa using I.len⟩ ⟨c,hs, .inr hc⟩
  ·exact (hs.2 b (aaI (aam (aai e) (I.ok.Mf x c Rn hc)))).trans (I.base.keep b o e n hb hx)
  ·obtain ⟨sl,e1⟩:=I.base.slot b o e n hb hx;exact ⟨sl,(hs.2 b (aaI (aam (aai e) (I.ok.Mf x c Rn hc)))).trans e1⟩
  ·obtain ⟨o',e1⟩:=I.base.there b o e hx;exact ⟨o',(hs.2 b (aaI (aam (aai e) (I.ok.Mf x c Rn hc)))).trans e1⟩
  ·by_cases hj:j=i
   ·subst hj;rw [hi] at e1;cases e1;rw [aaW O7] at e2;cases e2;exact ⟨u,r, .inr ⟨.inl hk,c,hc,Qy⟩⟩
   ·rw [aaV (Ne.symm hj)] at e2;obtain ⟨u',r',q⟩:=hl j y v' e1 e2 e3;refine ⟨u',r', ?_⟩;rcases q with q | ⟨k,c',e,z'⟩
    ·exact .inl q
    ·refine .inr ⟨k,c',e,z'.sameBut hs ?_⟩;rintro rfl;exact hj (xa hN e1 (I.ok.inj _ _ _ e hc▸hi))
  ·by_cases Lp:c'=c
   ·subst Lp;exact ⟨_,Qy⟩
   ·obtain ⟨w2,z2⟩:=I.cell y c' e;exact ⟨w2,z2.sameBut hs Lp⟩
  ·obtain ⟨e,n,ne,nf,d⟩:=I.pin p hp;refine ⟨(hs.2 p.1 ?_).trans e,n,ne,nf,d⟩;intro q;rw [q,Vj] at e;have q':oc=p.2:=aaw e;exact d w' (by rw [<-q'];exact R5)
theorem kB{Q:Unit->Shared->Prop}(I:Inv X γ σ H s)(hN:X.N.Nodup)(hi:X.N[i]? =some x)(hx:Loc X.env.scope x)(r:ah v u)
  (h:∀s',Inv X γ (σ.set i (some v)) H s'->Q () s') (hf:X.fn x=true\/X.env.scope.names.lookup x=some .local:=by first | exact .inl rfl | exact .inr rfl | assumption):wpAny M A (storeName X.env x u) Q E s:=
 sj I hN hi hx r (λs' I' _=>h s' I') hf
theorem Inv.JF{s':Shared}(I:Inv X γ σ H s)(ho:s'.os=s.os)(u:Un (jV X.stack) ch H H' s.heap s'.heap)(aC:iS X.prog X.w H' s'.heap)(hg:AllBare s'.gens)
  (A4:∀b∈ch,(b∈X.ex\/X.s₀.heap.objs.size<=b)/\b≠X.env.locals/\(∀x c,X.env.cells.lookup x=some c->c≠b)/\∀p∈X.pn++γ,p.1≠b):Inv X γ σ H' s':=by
 obtain ⟨h',g',d',t',o'⟩:=s';have e:o'=s.os:=ho;subst e;exact I.call (g':=g') (t':=t') (d':=d') u aC hg A4
end
abbrev XK:=Value->Option Addr->Hp->Prop
abbrev St:=List (Option V)
variable{σ:St}
abbrev VK:=V->Hp->Prop
abbrev TE:=St->Hp->VK->Prop
variable{ta te:TE}
abbrev TT:=St->Hp->(Bool->Hp->Prop)->Prop
abbrev TA:=St->Hp->(List V->Hp->Prop)->Prop
structure vp where
 nx:St->Hp->Prop
 rt:VK
 bk:St->Hp->Prop:=λ_ _=>False
 ct:St->Hp->Prop:=λ_ _=>False
abbrev TS:=vp->St->Hp->Prop
def EP(X:Cx)(γ:List (Addr×Obj))(σ:St)(Q:VK)(u:Value)(s':Shared):Prop:=∃v H',Inv X γ σ H' s'/\ah v u/\Q v H'
def TP(X:Cx)(γ:List (Addr×Obj))(σ:St)(Q:Bool->Hp->Prop)(b:Bool)(s':Shared):Prop:=∃H',Inv X γ σ H' s'/\Q b H'
def AP(X:Cx)(γ:List (Addr×Obj))(σ:St)(Q:List V->Hp->Prop)(us:List Value)(s':Shared):Prop:=∃vs H',Inv X γ σ H' s'/\Φ vs us/\Q vs H'
def SP(X:Cx)(γ:List (Addr×Obj))(D:vp)(f:Flow)(s':Shared):Prop:=
 match f with
 | .next=>∃σ' H',Inv X γ σ' H' s'/\D.nx σ' H'
 | .brk=>∃σ' H',Inv X γ σ' H' s'/\D.bk σ' H'
 | .cont=>∃σ' H',Inv X γ σ' H' s'/\D.ct σ' H'
 | .ret u=>∃v σ' H',Inv X γ σ' H' s'/\ah v u/\D.rt v H'
def PE(X:Cx)(e:Expr)(t:TE):Prop:=
 ∀(γ:List (Addr×Obj)) (s:Shared) (σ:St) (H:Hp) (Q:VK),Inv X γ σ H s->t σ H Q->wpAny (model X.prog X.w) X.A (eval e X.env) (EP X γ σ Q) X.xe s
def PT(X:Cx)(e:Expr)(t:TT):Prop:=
 ∀(γ:List (Addr×Obj)) (s:Shared) (σ:St) (H:Hp) (Q:Bool->Hp->Prop),Inv X γ σ H s->t σ H Q->wpAny (model X.prog X.w) X.A (isTrue e X.env (eval e X.env)) (TP X γ σ Q) X.xe s
def PW(X:Cx)(e:Expr)(t:TT):Prop:=
 ∀(whole:Sem Value) (γ:List (Addr×Obj)) (s:Shared) (σ:St) (H:Hp) (Q:Bool->Hp->Prop),Inv X γ σ H s->t σ H Q->wpAny (model X.prog X.w) X.A (isTrue e X.env whole) (TP X γ σ Q) X.xe s
def PA(X:Cx)(es:List Expr)(t:TA):Prop:=
 ∀(pos:Pos) (γ:List (Addr×Obj)) (s:Shared) (σ:St) (H:Hp) (Q:List V->Hp->Prop),Inv X γ σ H s->t σ H Q->wpAny (model X.prog X.w) X.A (spliced (backTo pos (starEach es X.env))) (AP X γ σ Q) X.xe s
def PS(X:Cx)(st:Stmt)(t:TS):Prop:=
 ∀(γ:List (Addr×Obj)) (s:Shared) (σ:St) (H:Hp) (D:vp),Inv X γ σ H s->t D σ H->wpAny (model X.prog X.w) X.A (exec st X.env) (SP X γ D) X.xe s
def zY(X:Cx)(st:List Stmt)(t:TS):Prop:=
 ∀(γ:List (Addr×Obj)) (s:Shared) (σ:St) (H:Hp) (D:vp),Inv X γ σ H s->t D σ H->wpAny (model X.prog X.w) X.A (execs st X.env) (SP X γ D) X.xe s
theorem aY{α:Type}{t:Sem α}{Q Q':α->Shared->Prop}(h:wpAny M A t Q E s)(hQ:∀a s,Q a s->Q' a s):wpAny M A t Q' E s:=abi h hQ λ_ _ x=>x
section
def Tg(i:Nat):TE:=λσ H Q=>∃v,σ[i]? =some (some v)/\Q v H
def tC(v:V):TE:=λ_ H Q=>Q v H
theorem L8(hN:X.N[i]? =some x)(hv:Su X.env.scope x)(hd:(x==("__debug__":Str))=false:=by decide)(DR:(x==("__classdict__":Str))=false:=by decide):PE X (.Name x pos) (Tg i):=by
 intro γ s σ H Q I h;obtain ⟨v,e,h⟩:=h;obtain ⟨m,hn,hl⟩:=I.loc;obtain ⟨u,r,l⟩:=hl i x v hN e hv;have fin:EP X γ σ Q u s:=⟨v,H,I,r,h⟩;rcases l with ⟨hk,hm⟩ | ⟨hk,c,hc,JX⟩
 ·exact wpAny_Name (wpAny_loadName_local I.ok.kind hk hn hm fin) hd
 ·rcases hk with hk | hk
  ·exact wpAny_Name (wpAny_loadName_cell I.ok.kind hk hc JX fin) hd
  ·exact wpAny_Name (wpAny_loadName_free I.ok.kind hk hc JX fin DR) hd
theorem Ks{i j pos}:PE X (.Constant (.int i) j pos) (tC (.int i)):=λ_ _ _ H _ I h=>wpAny_Constant_int ⟨.int i,H,I.tok _,⟨_,rfl⟩,h⟩
theorem NL{b j pos}:PE X (.Constant (.bool b) j pos) (tC (.bl b)):=λ_ _ _ H _ I h=>Constant_bool ⟨.bl b,H,I,rfl,h⟩
theorem KY{j pos}:PE X (.Constant .none j pos) (tC .bw):=λ_ _ _ H _ I h=>Constant_none ⟨.bw,H,I,rfl,h⟩
theorem Dx{x j pos}:PE X (.Constant (.str x) j pos) (tC (.str x)):=λ_ _ _ H _ I h=>Calls.Constant_str ⟨.str x,H,I.tok _,⟨_,rfl⟩,h⟩
def Gl(X:Cx)(x:Str):Prop:=X.env.kindOf x=some .globalImplicit
theorem dN{H:Hp}(I:Inv X γ σ H s)(hg:Gl X x)(hm:X.mg x=some u)(h:Q u s)
  (hd:(x==("__debug__":Str))=false:=by decide):wpAny (model X.prog X.w) X.A (eval (.Name x pos) X.env) Q E s:=
 Calls.Name_function_global I.ok.kind hg (Calls.loadGlobal_global (by rw [I.ok.glob];exact I.mod.glob.keeps I.bk) hm h) hd
theorem l7{H:Hp}(I:Inv X γ σ H s)(hg:Gl X x)(hm:X.mg x=none)(hv:bootBuiltins x=some u)(h:Q u s)
  (hn:x≠"__name__":=by decide) (hd:(x==("__debug__":Str))=false:=by decide):wpAny (model X.prog X.w) X.A (eval (.Name x pos) X.env) Q E s:=by
 obtain ⟨mb,h1,h2⟩:=I.mod.blt;exact Calls.Name_function_global I.ok.kind hg (Calls.loadGlobal_builtin (by rw [I.ok.glob];exact I.mod.glob.keeps I.bk) hm (by rw [I.ok.blt];exact h1.keeps I.bk) ((h2 x hn).trans hv) h) hd
theorem n6(hg:Gl X x)(hm:X.mg x=some u)(r:ah v u)(hd:(x==("__debug__":Str))=false:=by decide):PE X (.Name x pos) (tC v):=
 λ_ _ _ H _ I h=>dN I hg hm ⟨v,H,I,r,h⟩ hd
theorem Ik(hg:Gl X x)(hm:X.mg x=none)(hv:bootBuiltins x=some u)(r:ah v u)(hn:x≠"__name__":=by decide)(hd:(x==("__debug__":Str))=false:=by decide):PE X (.Name x pos) (tC v):=
 λ_ _ _ H _ I h=>l7 I hg hm hv ⟨v,H,I,r,h⟩ hn hd
variable{a b:Expr}{tb:TE}
def tB(t:TE):TT:=λσ H Q=>t σ H λx H1=>∃c,x= .bl c/\Q c H1
theorem Lm{t:TE}(h:PE X e t)(he:∀whole,isTrue e X.env whole=(do let v<-whole;standAt e.pos;holding [v] (truthy v)):=by intro _;rfl):PT X e (tB t):=by intro γ s σ H Q I hw;refine isTrue_plain (aY (h γ s σ H _ I hw) λv s1 ⟨x,H1,I1,r1,q1⟩=> ?_) (he _);obtain ⟨d,rfl,q⟩:=q1;cases r1;exact wpAny_truthy_bool ⟨H1,I1,q⟩
variable{tA Ot:TT}{ag:List Expr}
def UP(t u:TT):TT:=λσ H Q=>t σ H λc H1=>if c=true then u σ H1 Q else Q false H1
def Xn(t u:TT):TT:=λσ H Q=>t σ H λc H1=>if c=true then Q true H1 else u σ H1 Q
def UL(t:TT):TT:=λσ H Q=>t σ H λc H1=>Q (!c) H1
theorem pw_and1(ha:PT X a tA):PW X (.BoolOp .And [a] pos) tA:=by
 intro wh γ s σ H Q I h;refine isTrue_and (aY (ha γ s σ H Q I h) λc s1 e=> ?_);cases c with
 | true=>exact isTrue_and_nil e
 | false=>exact e
theorem pw_or1(ha:PT X a tA):PW X (.BoolOp .Or [a] pos) tA:=by
 intro wh γ s σ H Q I h;refine isTrue_or (aY (ha γ s σ H Q I h) λc s1 e=> ?_);cases c with
 | false=>exact isTrue_or_nil e
 | true=>exact e
theorem pw_and(ha:PT X a tA)(hb:PW X (.BoolOp .And (b::ag) pos) Ot):PW X (.BoolOp .And (a::b::ag) pos) (UP tA Ot):=by
 intro wh γ s σ H Q I h;refine isTrue_and (aY (ha γ s σ H _ I h) λc s1 ⟨H1,I1,q1⟩=> ?_);cases c with
 | true=>exact hb wh γ s1 σ H1 Q I1 q1
 | false=>exact ⟨H1,I1,q1⟩
theorem pw_or(ha:PT X a tA)(hb:PW X (.BoolOp .Or (b::ag) pos) Ot):PW X (.BoolOp .Or (a::b::ag) pos) (Xn tA Ot):=by
 intro wh γ s σ H Q I h;refine isTrue_or (aY (ha γ s σ H _ I h) λc s1 ⟨H1,I1,q1⟩=> ?_);cases c with
 | true=>exact ⟨H1,I1,q1⟩
 | false=>exact hb wh γ s1 σ H1 Q I1 q1
theorem Mr(ha:PT X a tA):PT X (.UnaryOp .Not a pos) (UL tA):=by intro γ s σ H Q I h;exact isTrue_not (ha γ s σ H (λc H1=>Q (!c) H1) I h)
def PD(ta tb:TE):TE:=λσ H Q=>ta σ H λx H1=>∃c,x= .bl c/\if c=true then tb σ H1 Q else Q (.bl false) H1
theorem L_{op}{t:TE}(h:PE X a t):PE X (.BoolOp op [a] pos) t:=λγ s σ H Q I hw=>BoolOp_one (h γ s σ H Q I hw)
theorem K'(ha:PE X a ta)(hb:PE X (.BoolOp .And (b::ag) pos) tb):PE X (.BoolOp .And (a::b::ag) pos) (PD ta tb):=by
 intro γ s σ H Q I h;refine BoolOp_and (aY (ha γ s σ H _ I h) λv s1 ⟨x,H1,I1,r1,q1⟩=> ?_);obtain ⟨c,rfl,q1⟩:=q1;cases r1;refine wpAny_truthy_bool ?_;cases c with
 | true=>exact hb γ s1 σ H1 Q I1 q1
 | false=>exact ⟨.bl false,H1,I1,rfl,q1⟩
def Zm(t:TT)(ta tb:TE):TE:=λσ H Q=>t σ H λc H1=>if c=true then ta σ H1 Q else tb σ H1 Q
theorem Ey(hc:PT X c tA)(ha:PE X a ta)(hb:PE X b tb):PE X (.IfExp c a b pos) (Zm tA ta tb):=by
 intro γ s σ H Q I h;refine wpAny_IfExp (aY (hc γ s σ H _ I h) λd s1 ⟨H1,I1,q1⟩=> ?_);cases d with
 | true=>exact ha γ s1 σ H1 Q I1 q1
 | false=>exact hb γ s1 σ H1 Q I1 q1
end
def fc(K:fI)(H:Hp)(a:Addr)(xs:List V):Prop:=
 Rd H a (.lst xs)\/
  ∃(o:Obj) (its:Array Value) (n:Nat),K.lookup a=some o/\o.cls= .type "list"/\o.dict=none/\o.data= .seq its n/\its.size<=sizeLine/\Φ xs its.toList
def j0(K:fI)(H:Hp)(a:Addr)(xs:List V):Prop:=
 Rd H a (.tup xs)\/
  ∃(o:Obj) (its:Array Value) (n:Nat),K.lookup a=some o/\o.cls= .type "tuple"/\o.data= .seq its n/\its.size<=sizeLine/\Φ xs its.toList
def Sz:Value->Option V
 | .none=>some .bw
 | .bool b=>some (.bl b)
 | .int i _=>some (.int i)
 | .str x _=>some (.str x)
 | .bytes b _=>some (.C7 b)
 | .float b _=>some (.LV b)
 | .ref a=>some (.ref a)
 | .type n=>some (.ty n)
 | _=>none
theorem ah.abs{x:V}(r:ah x u):Sz u=some x:=by
 cases x with
 | bw=>cases r;rfl
 | bl _=>cases r;rfl
 | int _=>obtain ⟨t,rfl⟩:=r;rfl
 | str _=>obtain ⟨t,rfl⟩:=r;rfl
 | C7 _=>obtain ⟨t,rfl⟩:=r;rfl
 | LV _=>obtain ⟨t,rfl⟩:=r;rfl
 | ref _=>cases r;rfl
 | ty _=>cases r;rfl
theorem ah.inj{x y:V}{u:Value}(r:ah x u)(q:ah y u):x=y:=aaw (r.abs.symm.trans q.abs)
theorem Φ.inj:∀{xs ys:List V} {us:List Value},Φ xs us->Φ ys us->xs=ys
 | _,_,_, .nil, .nil=>rfl
 | _,_,_, .cons r t, .cons r' t'=>by rw [r.inj r',Φ.inj t t']
section
variable{H:Hp}{xs ys:List V}
theorem fc.of{K:fI}(h:H a=some (.lst xs)):fc K H a xs:= .inl (.inl h)
theorem j0.of{K:fI}(h:H a=some (.tup xs)):j0 K H a xs:= .inl (.inl h)
theorem Inv.list(I:Inv X γ σ H s)(h:fc X.K H a xs):∃its:List Value,Φ xs its/\PlainL s.heap a its.toArray/\xs.length<=sizeLine:=by
 rcases h with h | ⟨o,its,n,hk,hc,hd,hs,hz,r⟩
 ·obtain ⟨z,its,n,r,e⟩:=h.ok I.aC;exact ⟨its,r,⟨_,n,e,rfl,rfl,rfl⟩,z⟩
 ·refine ⟨its.toList,r,⟨o,n,I.g_ a o hk,hc,hd,by simpa using hs⟩, ?_⟩;have e:=r.length;simp only [Array.length_toList] at e;omega
theorem Inv.tuple(I:Inv X γ σ H s)(h:j0 X.K H a xs):∃its:List Value,Φ xs its/\IsTup s.heap a its.toArray/\xs.length<=sizeLine:=by
 rcases h with h | ⟨o,its,n,hk,hc,hs,hz,r⟩
 ·obtain ⟨z,its,r,p⟩:=h.ok I.aC;exact ⟨its,r,p,z⟩
 ·refine ⟨its.toList,r,⟨o,I.g_ a o hk,hc,n,by simpa using hs⟩, ?_⟩;have e:=r.length;simp only [Array.length_toList] at e;omega
theorem Inv.j2(I:Inv X γ σ H s)(h:fc X.K H a xs)(h':fc X.K H a ys):xs=ys:=by
 obtain ⟨its,r,⟨o,n,e,_,_,d⟩,_⟩:=I.list h;obtain ⟨its',r',⟨o',n',e',_,_,d'⟩,_⟩:=I.list h';rw [e] at e';cases e';rw [d] at d';injection d' with d1 _
 have:its=its':=by simpa using congrArg Array.toList d1
 subst this;exact r.inj r'
theorem Inv.B3(I:Inv X γ σ H s)(h:j0 X.K H a xs)(h':j0 X.K H a ys):xs=ys:=by
 obtain ⟨its,r,⟨o,e,_,n,d⟩,_⟩:=I.tuple h;obtain ⟨its',r',⟨o',e',_,n',d'⟩,_⟩:=I.tuple h';rw [e] at e';cases e';rw [d] at d';injection d' with d1 _
 have:its=its':=by simpa using congrArg Array.toList d1
 subst this;exact r.inj r'
end
section
variable{st:Stmt}{ag:List Stmt}{t u:TS}
def PY:TS:=λD σ H=>D.nx σ H
def Rm(t u:TS):TS:=λD σ H=>t {D with nx:=u D} σ H
theorem HQ:zY X [] PY:=λ_ _ σ H _ I h=>wpAny_execs_nil ⟨σ,H,I,h⟩
theorem Ds(h1:PS X st t)(h2:zY X ag u):zY X (st::ag) (Rm t u):=by
 intro γ s σ H D I h;refine wpAny_execs_cons (aY (h1 γ s σ H {D with nx:=u D} I h) λf s1 q=> ?_);cases f with
 | next=>
  obtain ⟨σ',H',I',q⟩:=q;exact h2 γ s1 σ' H' D I' q
 | ret v=>exact q
 | brk=>exact q
 | cont=>exact q
theorem Ht(h1:PS X st t):zY X [st] t:=by
 intro γ s σ H D I h;refine wpAny_execs_cons (aY (h1 γ s σ H D I h) λf s1 q=> ?_);cases f with
 | next=>exact wpAny_execs_nil q
 | ret v=>exact q
 | brk=>exact q
 | cont=>exact q
theorem Inv.quiet{H:Hp}(I:Inv X γ σ H s):interactive X.env=false:=by simp [interactive,I.ok.kind]
def P0(te:TE):TS:=λD σ H=>te σ H λ_ H1=>D.nx σ H1
theorem GU(he:PE X e te)(hs:swapsWith e none pos.line X.env=pure false:=by rfl):PS X (.Expr e pos) (P0 te):=by intro γ s σ H D I h;exact wpAny_Expr_any (aY (he γ s σ H _ I h) λv s1 ⟨x,H1,I1,r1,q1⟩=>⟨σ,H1,I1,q1⟩) I.quiet hs
def UA(te:TE):TS:=λD σ H=>te σ H D.rt
theorem KN(he:PE X e te):PS X (.Return (some e) pos) (UA te):=by intro γ s σ H D I h;exact wpAny_Return_some (aY (he γ s σ H _ I h) λv s1 ⟨x,H1,I1,r1,q1⟩=>⟨x,σ,H1,I1,r1,q1⟩)
def UI(c:TT)(t u:TS):TS:=λD σ H=>c σ H λb H1=>if b=true then t D σ H1 else u D σ H1
theorem OF{a b:List Stmt}{tc:TT}(hc:PT X c tc)(ha:zY X a t)(hb:zY X b u):PS X (.If c a b pos) (UI tc t u):=by
 intro γ s σ H D I h;refine wpAny_If (aY (hc γ s σ H _ I h) λd s1 ⟨H1,I1,q1⟩=> ?_);cases d with
 | true=>exact ha γ s1 σ H1 D I1 q1
 | false=>exact hb γ s1 σ H1 D I1 q1
end
abbrev TG:=V->St->Hp->(St->Hp->Prop)->Prop
abbrev Mg:=List V->St->Hp->(St->Hp->Prop)->Prop
def PG(X:Cx)(target:Expr)(t:TG):Prop:=
 ∀(γ:List (Addr×Obj)) (s:Shared) (σ:St) (H:Hp) (v:V) (u:Value) (Q:St->Hp->Prop),Inv X γ σ H s->ah v u->t v σ H Q->
  wpAny (model X.prog X.w) X.A (assign target X.env u) (λ_ s'=>∃σ' H',Inv X γ σ' H' s'/\Q σ' H') X.xe s
def QB(X:Cx)(ts:List Expr)(t:Mg):Prop:=
 ∀(γ:List (Addr×Obj)) (s:Shared) (σ:St) (H:Hp) (vs:List V) (us:List Value) (Q:St->Hp->Prop),Inv X γ σ H s->Φ vs us->t vs σ H Q->
  wpAny (model X.prog X.w) X.A (assignInOrder ((assignEach ts X.env).map (·.2)) us) (λ_ s'=>∃σ' H',Inv X γ σ' H' s'/\Q σ' H') X.xe s
abbrev Kt:=V->V->V->Hp->(Hp->Prop)->Prop
def Pq(X:Cx)(t:Kt):Prop:=
 ∀(γ:List (Addr×Obj)) (s:Shared) (σ:St) (H:Hp) (o i v:V) (ov iv u:Value) (Q:Hp->Prop),Inv X γ σ H s->ah o ov->ah i iv->ah v u->t o i v H Q->
  wpAny (model X.prog X.w) X.A (setItem ov iv u) (λ_ s'=>∃H',Inv X γ σ H' s'/\Q H') X.xe s
section
def dD(i:Nat):TG:=λv σ H Q=>Q (σ.set i (some v)) H
theorem aV(hN:X.N.Nodup)(hi:X.N[i]? =some x)(hx:Loc X.env.scope x)(hf:X.fn x=true\/X.env.scope.names.lookup x=some .local:=by first | exact .inl rfl | exact .inr rfl | assumption):PG X (.Name x pos) (dD i):=by intro γ s σ H v u Q I r h;exact wpAny_assign_Name (kB I hN hi hx r (λs' I'=>⟨_,H,I',h⟩) hf)
def BF:Mg:=λvs σ H Q=>vs=[]/\Q σ H
def gO(t:TG)(u:Mg):Mg:=λvs σ H Q=>∃v r,vs=v::r/\t v σ H λσ' H'=>u r σ' H' Q
theorem iM:QB X [] BF:=by intro γ s σ H vs us Q I r h;obtain ⟨e,h⟩:=h;subst e;cases r;exact assignInOrder_nil ⟨σ,H,I,h⟩
theorem bA{t:TG}{u:Mg}(h1:PG X e t)(h2:QB X es u)
  (hs:(assignEach (e::es) X.env).map (·.2)=assign e X.env::(assignEach es X.env).map (·.2):=by rfl):QB X (e::es) (gO t u):=by
 intro γ s σ H vs us Q I r h;obtain ⟨v,vr,e1,h⟩:=h;subst e1;cases r with
 | cons r rr=>
  rw [hs];refine assignInOrder_cons (aY (h1 γ s σ H _ _ _ I r h) λ_ s1 ⟨σ1,H1,I1,q1⟩=> ?_);exact h2 γ s1 σ1 H1 _ _ Q I1 rr q1
def Bs(K:fI)(n:Nat)(t:Mg):TG:=λv σ H Q=>∃a xs,v= .ref a/\j0 K H a xs/\xs.length=n/\t xs σ H Q
theorem mm{k:Nat}{t:Mg}{n:Nat}(hc:X.calm=true)(h:QB X es t)
  (hn:(assignEach es X.env).length=n:=by rfl) (rC:(assignEach es X.env).findIdx? (·.1)=none:=by rfl):PG X (.Tuple es k pos) (Bs X.K n t):=by
 intro γ s σ H v u Q I r hw;obtain ⟨a,xs,e1,hq,hl,hw⟩:=hw;subst e1;cases r;obtain ⟨its,rv,ht,hz⟩:=I.tuple hq;refine assign_Tuple_tuple (I.ok.hd hc) ht (by simp [hn,<-hl,rv.length]) rC λh' hx=> ?_;have I1:Inv X γ σ H {s with heap:=h'}:=I.kept (t':=s.toks) λb o e=>hx b o (aaI (aai e)) e;exact h γ _ σ H xs _ Q I1 (by simpa using rv) hw
def Tj(to ti:TE)(t:Kt):TG:=λv σ H Q=>to σ H λo H1=>ti σ H1 λi H2=>t o i v H2 λH3=>Q σ H3
theorem K0{o i:Expr}{to ti:TE}{t:Kt}(ho:PE X o to)(hi:PE X i ti)(hs:Pq X t)
  (ha:∀v,assign (.Subscript o i pos) X.env v=(do
   let ov<-holding [v] (eval o X.env)
   let iv<-holding [v,ov] (eval i X.env)
   standAt pos
   holding [v,ov,iv] (setItem ov iv v)
   release [v,ov,iv] []):=by intro _;rfl):PG X (.Subscript o i pos) (Tj to ti t):=by
 intro γ s σ H v u Q I r h;rw [ha];refine aah (wpAny_holding (aY (ho γ s σ H _ I h) λov s1 ⟨x,H1,I1,r1,q1⟩=> ?_));refine aah (wpAny_holding (aY (hi γ s1 σ H1 _ I1 q1) λiv s2 ⟨y,H2,I2,r2,q2⟩=> ?_));refine aah (wpAny_standAt (aah (wpAny_holding (aY (hs γ s2 σ H2 x y v ov iv u _ I2 r1 r2 r q2) λ_ s3 ⟨H3,I3,q3⟩=> ?_))));exact wpAny_release ⟨σ,H3,I3,q3⟩
def Oh(te:TE)(g:TG):TS:=λD σ H=>te σ H λx H1=>g x σ H1 D.nx
theorem zm{g:TG}(he:PE X e te)(hg:PG X tg g)(hs:swapsWithSole [tg] e pos.line X.env=pure false:=by rfl)(hw:swappedStores [tg] e X.env=pure none:=by rfl)
  (h1:(assignEach [tg] X.env).map (·.2)=[assign tg X.env]:=by rfl):PS X (.Assign [tg] e pos) (Oh te g):=by
 intro γ s σ H D I h;refine wpAny_Assign_stores (aY (he γ s σ H _ I h) λv s1 ⟨x,H1,I1,r1,q1⟩=> ?_) hs hw;rw [h1];exact aY (hg γ s1 σ H1 x v _ I1 r1 q1) λ_ s2 q=>q
theorem LB{pos':Pos}(hN:X.N.Nodup)(hi:X.N[i]? =some x)(hx:Loc X.env.scope x)(he:PE X e te)(hs:swapsWith e (some (.Name x pos')) pos.line X.env=pure false:=by rfl)(hf:X.fn x=true\/X.env.scope.names.lookup x=some .local:=by first | exact .inl rfl | exact .inr rfl | assumption):
  PS X (.Assign [.Name x pos'] e pos) (Oh te (dD i)):=by
 intro γ s σ H D I h;refine wpAny_Assign_Name (aY (he γ s σ H _ I h) λv s1 ⟨y,H1,I1,r1,q1⟩=> ?_) hs;exact kB I1 hN hi hx r1 (λs2 I2=>⟨_,H1,I2,q1⟩) hf
def Q2(i j:Nat)(ta:TA):TS:=λD σ H=>ta σ H λvs H1=>∃v w,vs=[v,w]/\D.nx ((σ.set i (some v)).set j (some w)) H1
theorem Mo{j:Nat}{y:Str}{a b:Expr}{ta:TA}{px py pt:Pos}{kt k2 Md}(hc:X.calm=true)(hN:X.N.Nodup)(hi:X.N[i]? =some x)(hj:X.N[j]? =some y)(Pj:i≠j)
  (hx:X.env.scope.names.lookup x=some .local) (hy:X.env.scope.names.lookup y=some .local) (ha:PA X [a,b] ta)
  (hw:swappedStores [.Tuple [.Name x px, .Name y py] kt pt] (.Tuple [a,b] k2 Md) X.env=pure (some [x,y]))
  (hs:swapsWithSole [.Tuple [.Name x px, .Name y py] kt pt] (.Tuple [a,b] k2 Md) pos.line X.env=pure false:=by rfl):
  PS X (.Assign [.Tuple [.Name x px, .Name y py] kt pt] (.Tuple [a,b] k2 Md) pos) (Q2 i j ta):=by
 intro γ s σ H D I h;rw [exec_Assign_arm];refine aah (wpAny_standAt ?_);rw [hs];refine aah (aaE ?_);rw [aaA (by decide)];refine aah (Tuple_ (aY (ha _ γ s σ H _ I h) λus s1 ⟨vs,H1,I1,r1,q1⟩=> ?_));obtain ⟨v,w,e1,q1⟩:=q1;subst e1;obtain ⟨u1,u2,rfl,rv,xG⟩:∃u1 u2,us=[u1,u2]/\ah v u1/\ah w u2:=by
  cases r1 with
  | cons p q=>
   cases q with
   | cons p' q'=>
    cases q';exact ⟨_,_,rfl,p,p'⟩
 refine wpAny_newObj_type ?_ gV;have I2:Inv X γ σ H1 {s1 with heap:=s1.heap.push {cls:= .type "tuple",data:= .seq [u1,u2].toArray}}:=I1.kept (t':=s1.toks) λb o e=>aaf _ e;rw [hw];refine aah (aaE ?_);show wpAny (model X.prog X.w) X.A (do rule "assign.swapped-stores";let items<-unpackItems (.ref s1.heap.objs.size) 2 none;assignInOrder [λv=>bindName X.env y v,λv=>bindName X.env x v] items.reverse;pure Flow.next) _ _ _;refine aah (wpAny_rule (aah (unpackItems_tuple (items:= #[u1,u2]) (I.ok.hd hc) (IsTup.new s1.heap _) λh' Ub=> ?_)));have I3:=I2.kept (h':=h') (t':=s1.toks) λb o e=>Ub b o (aaI (aai e)) e;show wpAny _ _ (assignInOrder [λv=>bindName X.env y v,λv=>bindName X.env x v] [u2,u1] >>= λ_=>pure Flow.next) _ _ _;refine aah (assignInOrder_cons (wpAny_bindName (kB I3 hN hj (.inl hy) xG (λs2 I4=> ?_) (.inr hy))));refine assignInOrder_cons (wpAny_bindName (kB I4 hN hi (.inl hx) rv (λs3 I5=>assignInOrder_nil (aaE ?_)) (.inr hx)));rw [List.set_comm _ _ (Ne.symm Pj)] at I5;exact ⟨_,H1,I5,q1⟩
end
section
def Le(c:TT)(tb:TS):TS:=λD σ H=>∃W:Nat->St->Hp->Prop,(∃m,W m σ H)/\∀m σ H,W m σ H->
 c σ H λb H1=>if b=true then∃N:St->Hp->Prop,(∀σ' H',N σ' H'->∃m',m' < m/\W m' σ' H')/\tb {D with nx:=N,ct:=N,bk:=D.nx} σ H1 else D.nx σ H1
theorem Fp{tc:TT}{tb:TS}(hp:PassesOwn (model X.prog X.w) X.A X.env X.xe)(hc:PT X c tc)(hb:zY X body tb):PS X (.While c body [] pos) (Le tc tb):=by
 intro γ s σ H D I h;obtain ⟨W,⟨m0,w0⟩,turn⟩:=h;refine wpAny_While (codeAny_whileLoop (λn s'=>∃σ' H',Inv X γ σ' H' s'/\W n σ' H') ?_ m0 ⟨σ,H,I,w0⟩);rintro n s1 ⟨σ1,H1,I1,w1⟩;refine wpAny_passesOwn hp (aY (hc γ s1 σ1 H1 _ I1 (turn n σ1 H1 w1)) λb s2 ⟨H2,I2,q2⟩=> ?_);cases b with
 | true=>
  obtain ⟨N,hN,q2⟩:=q2;rw [aaD rfl];refine wpAny_passesOwn hp (aY (hb γ s2 σ1 H2 _ I2 q2) λf s3 q3=> ?_);cases f with
  | next=>
   obtain ⟨σ3,H3,I3,n3⟩:=q3;obtain ⟨m',hm,w3⟩:=hN σ3 H3 n3;exact ⟨m',hm,σ3,H3,I3,w3⟩
  | cont=>
   obtain ⟨σ3,H3,I3,n3⟩:=q3;obtain ⟨m',hm,w3⟩:=hN σ3 H3 n3;exact ⟨m',hm,σ3,H3,I3,w3⟩
  | brk=>exact q3
  | ret v=>exact q3
 | false=>
  rw [aaA aan];exact wpAny_execs_nil ⟨σ1,H2,I2,q2⟩
end
structure It where
 go:Nat->Hp->Prop
 NR:Nat->Hp->V->Hp->Prop
 stop:Nat->Hp->Prop
def oR(X:Cx)(γ:List (Addr×Obj))(H:Hp)(b:Addr):Prop:=
 H b=none/\b≠X.env.locals/\b∉X.fs/\(b∈X.ex\/X.s₀.heap.objs.size<=b)/\(∀x c,X.env.cells.lookup x=some c->c≠b)/\∀p∈X.pn++γ,p.1≠b
theorem Inv.BR{H H':Hp}(I:Inv X γ σ H s)(hb:s.heap.objs.size<=b)(hn:H' b=none):oR X γ H' b:=by
 refine ⟨hn,abM (aam I.lt hb),I.S6 hb, .inr (aaq I.sz hb),λx c e z=> ?_,λp hp z=> ?_⟩
 ·obtain ⟨v,q⟩:=I.cell x c e;exact aaG (aam q.lt (by rw [z];exact hb)) (abq _)
 ·exact aaG (aam (aai (I.pin p hp).1) (by rw [z];exact hb)) (abq _)
structure vq(P:Program)(w:World)(K:fI)(tg:Expr)(J:It)(fp:List Addr)(it:Addr)(tn:Nat->Heap->Prop):Prop where
 mem:it∈fp
 obj:∀i h,tn i h->∀b∈fp,∃o,h.get? b=some o/\∀v,o.data≠ .cell v
 keep:∀i h h',tn i h->(∀b∈fp,∀o,h.get? b=some o->h'.get? b=some o)->tn i h'
 item:∀(X:Cx),X.prog=P->X.w=w->X.K=K->X.calm=true->∀(i:Nat) (γ:List (Addr×Obj)) (s:Shared) (σ:St) (H:Hp) (E:Value->Shared->Prop),Inv X γ σ H s->(∀b∈fp,oR X γ H b)->tn i s.heap->J.go i H->
  wpAny (model P w) X.A (pyNext (.ref it)) (λr s1=>∃u,r=some u/\
   wpAny (model P w) X.A (letOwnedTupleGo tg (.ref it) u) (λ_ s2=>∃x H',Inv X γ σ H' s2/\ah x u/\J.NR i H x H'/\tn (i+1) s2.heap/\∀b∈fp,H' b=none) E s1) E s
 done:∀(X:Cx),X.prog=P->X.w=w->X.K=K->X.calm=true->∀(i:Nat) (γ:List (Addr×Obj)) (s:Shared) (σ:St) (H:Hp) (E:Value->Shared->Prop),Inv X γ σ H s->(∀b∈fp,oR X γ H b)->tn i s.heap->J.stop i H->
  wpAny (model P w) X.A (pyNext (.ref it)) (λr s1=>r=none/\Inv X γ σ H s1) E s
 self:∀(A:Around) (i:Nat) (s:Shared) (Q:Value->Shared->Prop) (E:Value->Shared->Prop),tn i s.heap->Q (.ref it) s->wpAny (model P w) A (pyIter (.ref it)) Q E s
abbrev TI:=St->Hp->(It->Hp->Prop)->Prop
def Hy(X:Cx)(γ:List (Addr×Obj))(σ:St)(tg:Expr)(R:It->Hp->Prop)(Qg:Value)(s2:Shared):Prop:=
 ∃(it:Addr) (fp:List Addr) (tn:Nat->Heap->Prop) (J:It) (H':Hp),Qg= .ref it/\Inv X γ σ H' s2/\vq X.prog X.w X.K tg J fp it tn/\tn 0 s2.heap/\(∀b∈fp,oR X γ H' b)/\R J H'
def PI(X:Cx)(tg iter:Expr)(wi:TI):Prop:=
 ∀(γ:List (Addr×Obj)) (s:Shared) (σ:St) (H:Hp) (R:It->Hp->Prop),Inv X γ σ H s->wi σ H R->
  wpAny (model X.prog X.w) X.A (eval iter X.env) (λv s1=>wpAny (model X.prog X.w) X.A (pyIter v) (Hy X γ σ tg R) X.xe s1) X.xe s
theorem vN   {E : Value -> Shared -> Prop}   {it : Addr}  {o : Obj} {n : String} {vs : Array Value} {Q : Unit -> Shared -> Prop} (ho : s.heap.get? it = some o) (hc : o.cls = .type n) (hd : o.data = .fields vs)
    (hn : ["enumerate", "zip", "dict_itemiterator", "dict_reverseitemiterator", "odict_iterator", "itertools.zip_longest", "itertools.pairwise"].contains n = false) (hQ : Q () s) : wpAny M A (letOwnedTupleGo tg (.ref it) u) Q E s := by
  unfold letOwnedTupleGo
  cases tg <;> first
    | exact aaE hQ
    | (cases u <;> first
        | exact aaE hQ
        | (refine aah (wpAny_load ho ?_)
           rw [hc, hd];show wpAny M A (if (["enumerate", "zip", "dict_itemiterator", "dict_reverseitemiterator", "odict_iterator", "itertools.zip_longest", "itertools.pairwise"].contains n && vs[0]? == some (rawInt _)) = true then _ else _) Q E s;rw [aaA (by intro h; rw [hn, Bool.false_and] at h; cases h)]
           exact aaE hQ))
def QD(K:fI)(a:Addr):It:=
 ⟨λi H=>∃xs x,fc K H a xs/\xs[i]? =some x,λi H x H'=>H'=H/\∀xs,fc K H a xs->xs[i]? =some x,λi H=>∃xs,fc K H a xs/\xs.length<=i⟩
def UN(K:fI)(a:Addr):It:=
 ⟨λi H=>∃xs x,j0 K H a xs/\xs[i]? =some x,λi H x H'=>H'=H/\∀xs,j0 K H a xs->xs[i]? =some x,λi H=>∃xs,j0 K H a xs/\xs.length<=i⟩
def Qb(lo:Int)(n:Nat):It:=⟨λi _=>i < n,λi H x H'=>H'=H/\x= .int (lo+i),λi _=>n<=i⟩
theorem Bv{K:fI}(a it:Addr):vq P w K tg (QD K a) [it] it (λi h=>h.IsListIter it a i) where
 mem:=by simp
 obj:=λi h st b hb=>by
  have e:b=it:=by simpa using hb
  subst e;obtain ⟨o,e,c,d⟩:=st;exact ⟨o,e,λv z=>by rw [d] at z;cases z⟩
 keep:=λi h h' st k=>st.at λo e=>k it (by simp) o e
 item:=by intro X hP hw hK hc i γ s σ H E I hf st hg;subst hP hw hK;obtain ⟨xs,x,hq,hx⟩:=hg;obtain ⟨its,rv,p,hz⟩:=I.list hq;obtain ⟨u,hu,ru⟩:=rv.get hx;obtain ⟨f0,f1,f2,f3,f4,f5⟩:=hf it (by simp);refine wpAny_pyNext_list_item st p.isList (x:=u) (by simpa using hu) λh' zK sb=> ?_;have I1:Inv X γ σ H {s with heap:=h'}:=I.turned (t':=s.toks) (λb o hb e=>(sb.2 b hb).trans e) f0 f1 f3 f4 f5;obtain ⟨o,e,c,d⟩:=id zK;exact ⟨u,rfl,vN (s:={s with heap:=h'}) e c d (by decide) ⟨x,H,I1,ru,⟨rfl,λys hy=>by rw [I.j2 hy hq];exact hx⟩,zK,λb hb=>(hf b hb).1⟩⟩
 done:=by intro X hP hw hK hc i γ s σ H E I hf st hg;subst hP hw hK;obtain ⟨xs,hq,hx⟩:=hg;obtain ⟨its,rv,p,hz⟩:=I.list hq;obtain ⟨f0,f1,f2,f3,f4,f5⟩:=hf it (by simp);have hl:=rv.length;exact wpAny_pyNext_list_end (I.ok.hd hc) st p.isList (by simp;omega) λh' eb=>⟨rfl,I.turned (t':=s.toks) (λb o hb e=>eb b o hb e) f0 f1 f3 f4 f5⟩
 self:=λ_ _ _ _ _ st h=>wpAny_pyIter_listiter st h
theorem yp{K:fI}(a it:Addr):vq P w K tg (UN K a) [it] it (λi h=>h.IsTupleIter it a i) where
 mem:=by simp
 obj:=λi h st b hb=>by
  have e:b=it:=by simpa using hb
  subst e;obtain ⟨o,e,c,d⟩:=st;exact ⟨o,e,λv z=>by rw [d] at z;cases z⟩
 keep:=λi h h' st k=>st.at λo e=>k it (by simp) o e
 item:=by intro X hP hw hK hc i γ s σ H E I hf st hg;subst hP hw hK;obtain ⟨xs,x,hq,hx⟩:=hg;obtain ⟨its,rv,p,hz⟩:=I.tuple hq;obtain ⟨u,hu,ru⟩:=rv.get hx;obtain ⟨f0,f1,f2,f3,f4,f5⟩:=hf it (by simp);refine wpAny_pyNext_tuple_item st (show s.heap.IsTuple a its.toArray from p) (x:=u) (by simpa using hu) λh' zK sb=> ?_;have I1:Inv X γ σ H {s with heap:=h'}:=I.turned (t':=s.toks) (λb o hb e=>(sb.2 b hb).trans e) f0 f1 f3 f4 f5;obtain ⟨o,e,c,d⟩:=id zK;exact ⟨u,rfl,vN (s:={s with heap:=h'}) e c d (by decide) ⟨x,H,I1,ru,⟨rfl,λys hy=>by rw [I.B3 hy hq];exact hx⟩,zK,λb hb=>(hf b hb).1⟩⟩
 done:=by intro X hP hw hK hc i γ s σ H E I hf st hg;subst hP hw hK;obtain ⟨xs,hq,hx⟩:=hg;obtain ⟨its,rv,p,hz⟩:=I.tuple hq;obtain ⟨f0,f1,f2,f3,f4,f5⟩:=hf it (by simp);have hl:=rv.length;exact wpAny_pyNext_tuple_end (I.ok.hd hc) st (show s.heap.IsTuple a its.toArray from p) (by simp;omega) λh' eb=>⟨rfl,I.turned (t':=s.toks) (λb o hb e=>eb b o hb e) f0 f1 f3 f4 f5⟩
 self:=λ_ _ _ _ _ st h=>wpAny_pyIter_tupleiter st h
theorem xH{K:fI}(it:Addr)(lo:Int)(n:Nat):vq P w K tg (Qb lo n) [it] it (λi h=>IsRangeIter h it (lo+(i:Nat) * 1) ((n:Int) - (i:Nat)) 1) where
 mem:=by simp
 obj:=λi h st b hb=>by
  have e:b=it:=by simpa using hb
  subst e
  exact ⟨_,st,λv z=>by
   have z':Data.fields _=Data.cell v:=z
   cases z'⟩
 keep:=λi h h' st k=>k it (by simp) _ st
 item:=by intro X hP hw hK hc i γ s σ H E I hf st hg;subst hP hw hK;obtain ⟨f0,f1,f2,f3,f4,f5⟩:=hf it (by simp);have W:=Walks.range (prog:=X.prog) (w:=X.w) (I.ok.hd hc) it lo 1 n;refine W.item i s _ _ hg st λv h' tk hv zK kk=> ?_;obtain ⟨t,rfl⟩:=hv;have I1:Inv X γ σ H {s with heap:=h',toks:=tk}:=I.turned (λb o hb e=>kk b o (by simpa using hb) e) f0 f1 f3 f4 f5;refine ⟨_,rfl,vN (s:={s with heap:=h',toks:=tk}) (n:="range_iterator") zK rfl rfl (by decide) ⟨.int (lo+i),H,I1,⟨t, ?_⟩,⟨rfl,rfl⟩,zK,λb hb=>(hf b hb).1⟩⟩;rw [Int.mul_one]
 done:=by intro X hP hw hK hc i γ s σ H E I hf st hg;subst hP hw hK;obtain ⟨f0,f1,f2,f3,f4,f5⟩:=hf it (by simp);exact wpAny_pyNext_range_end (I.ok.hd hc) st (by have:n<=i:=hg;omega) λh' eb=>⟨rfl,I.turned (t':=s.toks) (λb o hb e=>eb b o hb e) f0 f1 f3 f4 f5⟩
 self:=λ_ _ _ _ _ st h=>wpAny_pyIter_rangeiter st h
section
theorem EH{H:Hp}{R:It->Hp->Prop}{lo hi:Int}{t u v:Tok}{tk:Nat}(I:Inv X γ σ H s)(h1: -(2 ^ 62)<=lo)(h2:lo < 2 ^ 62)(h3: -(2 ^ 62)<=hi)(h4:hi < 2 ^ 62)
  (q:R (Qb lo (hi - lo).toNat) H):wpAny (model X.prog X.w) X.A (pyIter (.ref s.heap.objs.size)) (Hy X γ σ tg R) E {s with heap:=s.heap.push {cls:= .type "range",data:= .fields #[.int lo t, .int hi u, .int 1 v]},toks:=tk}:=by
 refine wpAny_pyIter_range (IsRange.new ..) (small_one h1 h2 h3 h4) ?_;have I1:Inv X γ σ H {s with heap:=s.heap.push {cls:= .type "range",data:= .fields #[.int lo t, .int hi u, .int 1 v]},toks:=tk}:=I.kept λb o e=>aaf _ e
 refine ⟨(s.heap.push {cls:= .type "range",data:= .fields #[.int lo t, .int hi u, .int 1 v]}).objs.size,[(s.heap.push {cls:= .type "range",data:= .fields #[.int lo t, .int hi u, .int 1 v]}).objs.size],_,_,H,rfl,
  I1.kept (t':=tk) λb o e=>aaf _ e,xH _ lo (hi - lo).toNat, ?_,λb hb=> ?_,q⟩
 ·have e1:lo+((0:Nat):Int) * 1=lo:=by simp
  have e2:(((hi - lo).toNat:Nat):Int) - ((0:Nat):Int)=Builtin.Range.rangeSize lo hi 1:=by rw [rangeSize_one];split <;> omega
  show IsRangeIter _ _ (lo+((0:Nat):Int) * 1) ((((hi - lo).toNat:Nat):Int) - ((0:Nat):Int)) 1;rw [e1,e2];exact aaM _ rfl
 ·have e:b=(s.heap.push {cls:= .type "range",data:= .fields #[.int lo t, .int hi u, .int 1 v]}).objs.size:=by simpa using hb
  subst e;exact I1.BR (aak _) (I1.aC.fresh (aak _))
def O0(ta:TA):TI:=λσ H R=>ta σ H λvs H1=>∃j:Int,vs=[.int j]/\ -(2 ^ 62)<=j/\j < 2 ^ 62/\R (Qb 0 j.toNat) H1
theorem Ct{a:Expr}{ta:TA}{p:Pos}(hg:Gl X "range")(hm:X.mg "range"=none)(ha:PA X [a] ta)(hs:starEach [a] X.env=[(false,eval a X.env)]:=by rfl):PI X tg (.Call (.Name "range" p) [a] [] pos) (O0 ta):=by
 intro γ s σ H R I h;refine Call_ (l7 I hg hm boot_range (PyProof.Rows.callWith_type1 (aY (ha pos γ s σ H _ I h) λus s1 ⟨vs,H1,I1,r1,q1⟩=> ?_) hs rfl));obtain ⟨j,e,q1,q2,q⟩:=q1;subst e;cases r1 with
 | cons r rr=>
  cases rr;obtain ⟨t,rfl⟩:=r;exact call_range_1 (EH I1 (by omega) (by omega) q1 q2 (by simpa using q))
def SS(wi:TI)(g:TG)(tb:TS):TS:=λD σ H=>wi σ H λJ H1=>∃W:Nat->Nat->St->Hp->Prop,(∃m,W 0 m σ H1)/\∀i m σ H,W i m σ H->
 (J.stop i H/\D.nx σ H)\/(J.go i H/\∃N:St->Hp->Prop,(∀σ' H',N σ' H'->∃m',m' < m/\W (i+1) m' σ' H')/\∀x H',J.NR i H x H'->g x σ H' λσ2 H2=>tb {D with nx:=N,ct:=N,bk:=D.nx} σ2 H2)
def ux(fp:List Addr)(h:Heap):List (Addr×Obj):=fp.filterMap λb=>(h.get? b).map λo=>(b,o)
theorem cX{o:Obj}(hb:b∈fp)(e:h.get? b=some o):(b,o)∈ux fp h:=abl.mpr ⟨b,hb,by rw [e];rfl⟩
theorem CI{p:Addr×Obj}(hp:p∈ux fp h):p.1∈fp/\h.get? p.1=some p.2:=by
 obtain ⟨b,hb,e⟩:=abl.mp hp;cases q:h.get? b with
 | none=>rw [q] at e;cases e
 | some o=>
  rw [q] at e;have e':(b,o)=p:=aaw e;subst e';exact ⟨hb,q⟩
theorem Inv.pinned{H:Hp}(I:Inv X γ σ H s)(hf:∀b∈fp,oR X γ H b)(ho:∀b∈fp,∃o,s.heap.get? b=some o/\∀v,o.data≠ .cell v):Inv X (γ++ux fp s.heap) σ H s:=
 I.A2 λp hp=>(aaK.mp hp).elim (λz=>I.pin p (aav _ z)) λz=>by obtain ⟨hb,e⟩:=CI z;obtain ⟨f0,f1,f2,_⟩:=hf p.1 hb;obtain ⟨o,e',d⟩:=ho p.1 hb;rw [e] at e';cases e';exact ⟨e,f0,f1,f2,d⟩
theorem Inv.hX{pl:List (Addr×Obj)}{H:Hp}(I:Inv X (γ++pl) σ H s):Inv X γ σ H s:=I.A2 λp hp=>I.pin p (aav _ (abd _ hp))
theorem Gr{iter:Expr}{wi:TI}{g:TG}{tb:TS}(hp:PassesOwn (model X.prog X.w) X.A X.env X.xe)(hc:X.calm=true)(hi:PI X tg iter wi)(hg:PG X tg g)(hb:zY X body tb)
  (hs:∀x,foldedSetIterable iter X.env x=pure x:=by intro _;rfl):PS X (.For tg iter body [] pos) (SS wi g tb):=by
 intro γ s σ H D I h;refine wpAny_For (aY (hi γ s σ H _ I h) λv s1 h1=>aY h1 λQg s2 h2=> ?_) hs;obtain ⟨it,fp,tn,J,H2,e,I2,T,Zz,f2,W,⟨m0,w0⟩,turn⟩:=h2;subst e;have Mh:∀{H':Hp},(∀b∈fp,H' b=none)->∀b∈fp,oR X γ H' b:=λhn b hb=>⟨hn b hb,(f2 b hb).2⟩;refine codeAny_forLoop_any (λn s'=>∃i σ' H',Inv X γ σ' H' s'/\tn i s'.heap/\(∀b∈fp,H' b=none)/\W i n σ' H') ?_ m0 ⟨0,σ,H2,I2,Zz,λb hb=>(f2 b hb).1,w0⟩;rintro n s3 ⟨i,σ3,H3,I3,VQ,VF,w3⟩;rcases turn i n σ3 H3 w3 with ⟨stop,qn⟩ | ⟨go,N,hN,step⟩
 ·refine wpAny_passesOwn hp (aY (T.done X rfl rfl rfl hc i γ s3 σ3 H3 X.xe I3 (Mh VF) VQ stop) λr s4 ⟨hr,I4⟩=> ?_);subst hr;exact wpAny_execs_nil ⟨σ3,H3,I4,qn⟩
 ·refine wpAny_passesOwn hp (aY (T.item X rfl rfl rfl hc i γ s3 σ3 H3 X.xe I3 (Mh VF) VQ go) λr s4 ⟨u,hr,h4⟩=> ?_);subst hr;refine wpAny_passesOwn hp (aY h4 λ_ s5 ⟨x,H5,I5,r5,y5,Rj,QN⟩=> ?_);have I5':=I5.pinned (Mh QN) (T.obj _ _ Rj);refine wpAny_passesOwn hp (aY (hg _ s5 σ3 H5 x u _ I5' r5 (step x H5 y5)) λ_ s6 ⟨σ6,H6,I6,q6⟩=> ?_);refine wpAny_passesOwn hp (aY (hb _ s6 σ6 H6 _ I6 q6) λf s7 q7=> ?_);have again:∀{σ7:St} {H7:Hp},Inv X (γ++ux fp s5.heap) σ7 H7 s7->N σ7 H7->∃m,m < n/\∃i σ' H',Inv X γ σ' H' s7/\tn i s7.heap/\(∀b∈fp,H' b=none)/\W i m σ' H':=λ{σ7 H7} I7 n7=>by obtain ⟨m',hm,w7⟩:=hN σ7 H7 n7;refine ⟨m',hm,i+1,σ7,H7,I7.hX,T.keep _ _ _ Rj λb hb o e=>(I7.pin (b,o) (aav _ (aav _ (cX hb e)))).1,λb hb=> ?_,w7⟩;obtain ⟨o,e,d⟩:=T.obj _ _ Rj b hb;exact (I7.pin (b,o) (aav _ (aav _ (cX hb e)))).2.1
  cases f with
  | next=>obtain ⟨σ7,H7,I7,n7⟩:=q7;exact again I7 n7
  | cont=>obtain ⟨σ7,H7,I7,n7⟩:=q7;exact again I7 n7
  | brk=>obtain ⟨σ7,H7,I7,q7⟩:=q7;exact ⟨σ7,H7,I7.hX,q7⟩
  | ret v=>obtain ⟨x7,σ7,H7,I7,r7,q7⟩:=q7;exact ⟨x7,σ7,H7,I7.hX,r7,q7⟩
end
abbrev R2:=V->V->Hp->VK->Prop
def gh(X:Cx)(f:Value->Value->Sem Value)(r:R2):Prop:=
 ∀(γ:List (Addr×Obj)) (s:Shared) (σ:St) (H:Hp) (x y:V) (v u:Value) (Q:VK),Inv X γ σ H s->ah x v->ah y u->r x y H Q->
  wpAny (model X.prog X.w) X.A (f v u) (EP X γ σ Q) X.xe s
def Qu(X:Cx)(f:Value->Sem Value)(r:V->Hp->VK->Prop):Prop:=
 ∀(γ:List (Addr×Obj)) (s:Shared) (σ:St) (H:Hp) (x:V) (v:Value) (Q:VK),Inv X γ σ H s->ah x v->r x H Q->
  wpAny (model X.prog X.w) X.A (f v) (EP X γ σ Q) X.xe s
def b9(X:Cx)(f:Value)(r:List V->Hp->VK->Prop):Prop:=
 ∀(γ:List (Addr×Obj)) (s:Shared) (σ:St) (H:Hp) (xs:List V) (us:List Value) (Q:VK),Inv X γ σ H s->Φ xs us->r xs H Q->
  wpAny (model X.prog X.w) X.A (call f us) (EP X γ σ Q) X.xe s
def OP(r:R2)(ta tb:TE):TE:=λσ H Q=>ta σ H λx H1=>tb σ H1 λy H2=>r x y H2 Q
def V4(r:V->Hp->VK->Prop)(ta:TE):TE:=λσ H Q=>ta σ H λx H1=>r x H1 Q
def rI(C:Int->Int->Prop)(g:Int->Int->V):R2:=λx y H Q=>∃i j,x= .int i/\y= .int j/\C i j/\Q (g i j) H
def Ca(g:Int->Int->V):R2:=λx y H Q=>∃i j,x= .int i/\y= .int j/\Q (g i j) H
def rU(g:Int->V):V->Hp->VK->Prop:=λx H Q=>∃i,x= .int i/\Q (g i) H
section
variable{a b:Expr}{tb tc:TE}
theorem MC(ha:PE X a ta)(hb:PE X b tb){H:Hp}{R:V->V->Hp->Prop}(I:Inv X γ σ H s)
  (h:ta σ H λx H1=>tb σ H1 λy H2=>R x y H2)
  (hf:∀v u s2 x y H2,Inv X γ σ H2 s2->ah x v->ah y u->R x y H2->wpAny (model X.prog X.w) X.A (f v u) Q X.xe s2):
  wpAny (model X.prog X.w) X.A (eval a X.env) (λv s₁=>wpAny (model X.prog X.w) X.A (eval b X.env) (λu s₂=>wpAny (model X.prog X.w) X.A (f v u) Q X.xe s₂) X.xe s₁) X.xe s:=by
 refine aY (ha γ s σ H _ I h) λv s1 ⟨x,H1,I1,r1,q1⟩=> ?_;refine aY (hb γ s1 σ H1 _ I1 q1) λu s2 ⟨y,H2,I2,r2,q2⟩=> ?_;exact hf v u s2 x y H2 I2 r1 r2 q2
theorem PH{op:Operator}{r:R2}(ho:gh X (binaryOp op) r)(ha:PE X a ta)(hb:PE X b tb):PE X (.BinOp a op b pos) (OP r ta tb):=by intro γ s σ H Q I h;exact wpAny_BinOp (MC ha hb I h λv u s2 x y H2 I2 rx ry q=>ho γ s2 σ H2 x y v u Q I2 rx ry q)
theorem NX{op:UnaryOp}{r:V->Hp->VK->Prop}(ho:Qu X (unaryOp op) r)(ha:PE X a ta):PE X (.UnaryOp op a pos) (V4 r ta):=by intro γ s σ H Q I h;exact UnaryOp_ (aY (ha γ s σ H _ I h) λv s1 ⟨x,H1,I1,r1,q1⟩=>ho γ s1 σ H1 x v Q I1 r1 q1)
theorem Qx{C:Int->Int->Prop}{g:Int->Int->Int}
  (rule:∀(i j:Int) (t u:Tok) (s:Shared) (Q:Value->Shared->Prop) (E:Value->Shared->Prop),C i j->Q (.int (g i j) s.toks) {s with toks:=s.toks+1}->wpAny (model X.prog X.w) X.A (f (.int i t) (.int j u)) Q E s):
  gh X f (rI C λi j=> .int (g i j)):=by
 intro γ s σ H x y v u Q I rx ry h;obtain ⟨i,j,rfl,rfl,hc,q⟩:=h;obtain ⟨t,rfl⟩:=rx;obtain ⟨t',rfl⟩:=ry;exact rule i j t t' s _ _ hc ⟨.int (g i j),H,I.tok _,⟨_,rfl⟩,q⟩
theorem NA{g:Int->Int->Int}
  (rule:∀(i j:Int) (t u:Tok) (s:Shared) (Q:Value->Shared->Prop) (E:Value->Shared->Prop),Q (.int (g i j) s.toks) {s with toks:=s.toks+1}->wpAny (model X.prog X.w) X.A (f (.int i t) (.int j u)) Q E s):
  gh X f (Ca λi j=> .int (g i j)):=by
 intro γ s σ H x y v u Q I rx ry h;obtain ⟨i,j,rfl,rfl,q⟩:=h;obtain ⟨t,rfl⟩:=rx;obtain ⟨t',rfl⟩:=ry;exact rule i j t t' s _ _ ⟨.int (g i j),H,I.tok _,⟨_,rfl⟩,q⟩
theorem HP{g:Int->Int->Bool}
  (rule:∀(i j:Int) (t u:Tok) (s:Shared) (Q:Value->Shared->Prop) (E:Value->Shared->Prop),Q (.bool (g i j)) s->wpAny (model X.prog X.w) X.A (f (.int i t) (.int j u)) Q E s):
  gh X f (Ca λi j=> .bl (g i j)):=by
 intro γ s σ H x y v u Q I rx ry h;obtain ⟨i,j,rfl,rfl,q⟩:=h;obtain ⟨t,rfl⟩:=rx;obtain ⟨t',rfl⟩:=ry;exact rule i j t t' s _ _ ⟨.bl (g i j),H,I,rfl,q⟩
def wU(i j:Int):Prop:=0<=j/\j<=1000000/\i.natAbs < 2 ^ 64
theorem KG:gh X (binaryOp .Add) (Ca λi j=> .int (i+j)):=NA λ_ _ _ _ _ _ _ q=>add_int q
theorem Mq:gh X (binaryOp .Sub) (Ca λi j=> .int (i - j)):=NA λ_ _ _ _ _ _ _ q=>sub_int q
theorem Lu:gh X (binaryOp .Mod) (rI (λ_ j=>0 < j) λi j=> .int (i % j)):=Qx λi j _ _ _ _ _ hc q=>by have h1:(0:Int) < j:=hc;exact mod_int' (by omega) (by rw [abg i (by omega)];exact q)
theorem MZ:gh X (binaryOp .Pow) (rI wU λi j=> .int (i ^ j.toNat)):=Qx λ_ _ _ _ _ _ _ hc q=>pow_int_small hc.1 hc.2.1 hc.2.2 q
theorem WR{f:Value->Sem Value}{g:Int->Int}
  (rule:∀(i:Int) (t:Tok) (s:Shared) (Q:Value->Shared->Prop) (E:Value->Shared->Prop),Q (.int (g i) s.toks) {s with toks:=s.toks+1}->wpAny (model X.prog X.w) X.A (f (.int i t)) Q E s):
  Qu X f (rU λi=> .int (g i)):=by
 intro γ s σ H x v Q I rx h;obtain ⟨i,rfl,q⟩:=h;obtain ⟨t,rfl⟩:=rx;exact rule i t s _ _ ⟨.int (g i),H,I.tok _,⟨_,rfl⟩,q⟩
theorem MR:Qu X (unaryOp .USub) (rU λi=> .int (-i)):=WR λ_ _ _ _ _ q=>neg_int q
end
def N9:V->V->Bool
 | .bw, .bw=>true | .bw, .int _=>true | .int _, .bw=>true | .bw, .bl _=>true | .bl _, .bw=>true | .bw, .str _=>true | .str _, .bw=>true
 | .int _, .int _=>true | .bl _, .bl _=>true | .str _, .str _=>true | .C7 _, .C7 _=>true
 | .int _, .str _=>true | .str _, .int _=>true | .bl _, .str _=>true | .str _, .bl _=>true
 | _,_=>false
def VH:R2:=λx y H Q=>N9 x y=true/\Q (.bl (decide (x=y))) H
def VJ:R2:=λx y H Q=>N9 x y=true/\Q (.bl (!decide (x=y))) H
theorem Ai{i j:Int}:decide (V.int i=V.int j)=(i==j):=by rw [abp];simp
theorem FR{i j:Bool}:decide (V.bl i=V.bl j)=(i==j):=by rw [abp];simp
theorem AI{i j:Str}:decide (V.str i=V.str j)=(i==j):=by rw [abp];simp
theorem zQ{i j:Array UInt8}:decide (V.C7 i=V.C7 j)=(i.toList==j.toList):=by rw [abp];cases i;cases j;simp
section
variable{a b:Expr}{tb tc:TE}
theorem ai{H:Hp}{Q:VK}{k k':Bool}(I:Inv X γ σ H s)(q:Q (.bl k) H)(e:k=k'):EP X γ σ Q (.bool k') s:=by subst e;exact ⟨.bl k,H,I,rfl,q⟩
theorem JQ:gh X (compareOp .Eq) VH:=by
 intro γ s σ H x y v u Q I rx ry h;obtain ⟨hs,q⟩:=h;cases x with
 | bw=>
  cases rx;cases y with
  | bw=>cases ry;exact PySem.EqNone.eq_none_none (ai I q (by simp))
  | bl j=>cases ry;exact PySem.EqNone.eq_none_bool (ai I q (by simp))
  | int j=>obtain ⟨t',rfl⟩:=ry;exact PySem.EqNone.eq_none_int (ai I q (by simp))
  | str j=>obtain ⟨t',rfl⟩:=ry;exact PySem.EqNone.eq_none_str (ai I q (by simp))
  | _=>exact aaG (show false=true from hs) aan
 | bl i=>
  cases rx;cases y with
  | bw=>cases ry;exact PySem.EqNone.eq_bool_none (ai I q (by simp))
  | bl j=>cases ry;exact eq_bool (ai I q FR)
  | str j=>obtain ⟨t',rfl⟩:=ry;exact PySem.EqMixed.eq_bool_str (ai I q (by simp))
  | _=>exact aaG (show false=true from hs) aan
 | int i=>
  obtain ⟨t,rfl⟩:=rx;cases y with
  | bw=>cases ry;exact PySem.EqNone.eq_int_none (ai I q (by simp))
  | int j=>obtain ⟨t',rfl⟩:=ry;exact eq_int (ai I q Ai)
  | str j=>obtain ⟨t',rfl⟩:=ry;exact PySem.EqMixed.eq_int_str (ai I q (by simp))
  | _=>exact aaG (show false=true from hs) aan
 | str i=>
  obtain ⟨t,rfl⟩:=rx;cases y with
  | bw=>cases ry;exact PySem.EqNone.eq_str_none (ai I q (by simp))
  | bl j=>cases ry;exact PySem.EqMixed.eq_str_bool (ai I q (by simp))
  | int j=>obtain ⟨t',rfl⟩:=ry;exact PySem.EqMixed.eq_str_int (ai I q (by simp))
  | str j=>obtain ⟨t',rfl⟩:=ry;exact eq_str (ai I q AI)
  | _=>exact aaG (show false=true from hs) aan
 | C7 i=>
  obtain ⟨t,rfl⟩:=rx;cases y with
  | C7 j=>obtain ⟨t',rfl⟩:=ry;exact PySem.W.eq_bytes (ai I q zQ)
  | _=>exact aaG (show false=true from hs) aan
 | _=>cases y <;> exact aaG (show false=true from hs) aan
theorem OQ:gh X (compareOp .NotEq) VJ:=by
 intro γ s σ H x y v u Q I rx ry h;obtain ⟨hs,q⟩:=h;cases x with
 | bw=>
  cases rx;cases y with
  | bw=>cases ry;exact PySem.EqNone.ne_none_none (ai I q (by simp))
  | bl j=>cases ry;exact PySem.EqNone.ne_none_bool (ai I q (by simp))
  | int j=>obtain ⟨t',rfl⟩:=ry;exact PySem.EqNone.ne_none_int (ai I q (by simp))
  | str j=>obtain ⟨t',rfl⟩:=ry;exact PySem.EqNone.ne_none_str (ai I q (by simp))
  | _=>exact aaG (show false=true from hs) aan
 | bl i=>
  cases rx;cases y with
  | bw=>cases ry;exact PySem.EqNone.ne_bool_none (ai I q (by simp))
  | bl j=>cases ry;exact ne_bool (ai I q (aa5 not FR))
  | str j=>obtain ⟨t',rfl⟩:=ry;exact PySem.EqMixed.ne_bool_str (ai I q (by simp))
  | _=>exact aaG (show false=true from hs) aan
 | int i=>
  obtain ⟨t,rfl⟩:=rx;cases y with
  | bw=>cases ry;exact PySem.EqNone.ne_int_none (ai I q (by simp))
  | int j=>obtain ⟨t',rfl⟩:=ry;exact ne_int (ai I q (aa5 not Ai))
  | str j=>obtain ⟨t',rfl⟩:=ry;exact PySem.EqMixed.ne_int_str (ai I q (by simp))
  | _=>exact aaG (show false=true from hs) aan
 | str i=>
  obtain ⟨t,rfl⟩:=rx;cases y with
  | bw=>cases ry;exact PySem.EqNone.ne_str_none (ai I q (by simp))
  | bl j=>cases ry;exact PySem.EqMixed.ne_str_bool (ai I q (by simp))
  | int j=>obtain ⟨t',rfl⟩:=ry;exact PySem.EqMixed.ne_str_int (ai I q (by simp))
  | str j=>obtain ⟨t',rfl⟩:=ry;exact ne_str (ai I q (aa5 not AI))
  | _=>exact aaG (show false=true from hs) aan
 | C7 i=>
  obtain ⟨t,rfl⟩:=rx;cases y with
  | C7 j=>obtain ⟨t',rfl⟩:=ry;exact PySem.W.ne_bytes (ai I q (aa5 not zQ))
  | _=>exact aaG (show false=true from hs) aan
 | _=>cases y <;> exact aaG (show false=true from hs) aan
theorem JG:gh X (compareOp .Lt) (Ca λi j=> .bl (decide (i < j))):=HP λ_ _ _ _ _ _ _ q=>lt_int q
theorem OT:gh X (compareOp .LtE) (Ca λi j=> .bl (decide (i<=j))):=HP λ_ _ _ _ _ _ _ q=>le_int q
theorem Ol:gh X (compareOp .Gt) (Ca λi j=> .bl (decide (j < i))):=HP λ_ _ _ _ _ _ _ q=>gt_int q
theorem NS:gh X (compareOp .GtE) (Ca λi j=> .bl (decide (j<=i))):=HP λ_ _ _ _ _ _ _ q=>ge_int q
theorem Bc:gh X (compareOp .In) (λx y H Q=>∃i j,x= .str i/\y= .str j/\Q (.bl (!(Builtin.Str.occurrences j i 0 j.length 1).isEmpty)) H):=by intro γ s σ H x y v u Q I rx ry h;obtain ⟨i,j,rfl,rfl,q⟩:=h;obtain ⟨t,rfl⟩:=rx;obtain ⟨t',rfl⟩:=ry;exact in_str (ai I q rfl)
theorem Lv:gh X (compareOp .Is) (λx y H Q=>y= .bw/\Q (.bl (decide (x= .bw))) H):=by
 intro γ s σ H x y v u Q I rx ry h;obtain ⟨rfl,q⟩:=h;cases ry;refine is_none_gen (ai I q ?_)
 cases x <;> first
  | (cases rx;rfl)
  | (obtain ⟨t,rfl⟩:=rx;rfl)
theorem sR:gh X (compareOp .NotIn) (λx y H Q=>∃i j,x= .str i/\y= .str j/\Q (.bl (!(!(Builtin.Str.occurrences j i 0 j.length 1).isEmpty))) H):=by intro γ s σ H x y v u Q I rx ry h;obtain ⟨i,j,rfl,rfl,q⟩:=h;obtain ⟨t,rfl⟩:=rx;obtain ⟨t',rfl⟩:=ry;exact notIn_str (ai I q rfl)
theorem gh.or{r r':R2}(h:gh X f r)(h':gh X f r'):gh X f (λx y H Q=>r x y H Q\/r' x y H Q):=by
 intro γ s σ H x y v u Q I rx ry q;rcases q with q | q
 ·exact h γ s σ H x y v u Q I rx ry q
 ·exact h' γ s σ H x y v u Q I rx ry q
theorem gk(b:Expr)(h:op≠ .In:=by decide)(h2:op≠ .NotIn:=by decide):behindInMarks op b=false:=by
 have e1:(op==CmpOp.In)=false:=by cases op <;> first | rfl | exact aaG rfl h
 have e2:(op==CmpOp.NotIn)=false:=by cases op <;> first | rfl | exact aaG rfl h2
 cases b <;> simp [behindInMarks,e1,e2]
theorem Hz{r:R2}(ho:gh X (compareOp op) r)(ha:PE X a ta)(hb:PE X b tb)(hm:behindInMarks op b=false):PE X (.Compare a [op] [b] pos) (OP r ta tb):=by intro γ s σ H Q I h;exact wpAny_Compare1 (MC ha hb I h λv u s2 x y H2 I2 rx ry q=>ho γ s2 σ H2 x y v u Q I2 rx ry q) hm
def NV(t:TE):TT:=λσ H Q=>t σ H λx H'=>∃k,x= .bl k/\Q k H'
theorem HM{r:R2}(ho:gh X (compareOp op) r)(ha:PE X a ta)(hb:PE X b tb)(hm:behindInMarks op b=false):PT X (.Compare a [op] [b] pos) (NV (OP r ta tb)):=by
 intro γ s σ H Q I h
 refine wpAny_isTrue_Compare1 (aY (ha γ s σ H _ I h) λv s1 ⟨x,H1,I1,r1,q1⟩=>aY (hb γ s1 σ H1 _ I1 q1) λu s2 ⟨y,H2,I2,r2,q2⟩=>
  aY (ho γ s2 σ H2 x y v u _ I2 r1 r2 q2) λc s3 ⟨z,H3,I3,r3,k,e,q3⟩=> ?_) hm
 subst e;cases r3;exact wpAny_truthy_bool ⟨H3,I3,q3⟩
theorem lz:(sizeLine:Nat) < 2 ^ 63:=by rw [sizeLine_eq];decide
theorem yU:gh X (binaryOp .Add) (λx y H Q=>∃i j,x= .str i/\y= .str j/\i.length+j.length<=sizeLine/\Q (.str (i++j)) H):=by intro γ s σ H x y v u Q I rx ry h;obtain ⟨i,j,rfl,rfl,hz,q⟩:=h;obtain ⟨t,rfl⟩:=rx;obtain ⟨t',rfl⟩:=ry;exact add_str (λt' tk=>⟨.str (i++j),H,I.tok _,⟨_,rfl⟩,q⟩) hz
theorem eW{x:V}(r:Φ [x] us):∃u,us=[u]/\ah x u:=by
 cases r with
 | cons r1 r2=>cases r2;exact ⟨_,rfl,r1⟩
theorem GA{x y:V}(r:Φ [x,y] us):∃u w',us=[u,w']/\ah x u/\ah y w':=by
 cases r with
 | cons r1 r2=>
  cases r2 with
  | cons r3 r4=>cases r4;exact ⟨_,_,rfl,r1,r3⟩
theorem FO:b9 X (.builtin "abs") (λxs H Q=>∃i,xs=[.int i]/\Q (.int (if i < 0 then -i else i)) H):=by intro γ s σ H xs us Q I r h;obtain ⟨i,rfl,q⟩:=h;obtain ⟨u,rfl,t,rfl⟩:=eW r;exact call_abs_int λu tk=>⟨.int (if i < 0 then -i else i),H,I.tok _,⟨_,rfl⟩,q⟩
theorem CJ(hc:X.calm=true):b9 X (.builtin "min") (λxs H Q=>∃i j,xs=[.int i, .int j]/\Q (.int (if j < i then j else i)) H):=by
 intro γ s σ H xs us Q I r h;obtain ⟨i,j,rfl,q⟩:=h;obtain ⟨u,w',rfl,⟨t,rfl⟩,⟨t',rfl⟩⟩:=GA r;refine min_two_ints (I.ok.hd hc) λh' tk k=>⟨_,H,I.kept k, ?_,q⟩;by_cases hj:j < i
 ·rw [aaD hj,aaD hj];exact ⟨_,rfl⟩
 ·rw [aaA hj,aaA hj];exact ⟨_,rfl⟩
theorem Cv:b9 X (.type "int") (λxs H Q=>(∃i,xs=[.int i]/\Q (.int i) H)\/∃k,xs=[.bl k]/\Q (.int (if k then 1 else 0)) H):=by
 intro γ s σ H xs us Q I r h;rcases h with ⟨i,rfl,q⟩ | ⟨k,rfl,q⟩
 ·obtain ⟨u,rfl,t,rfl⟩:=eW r;exact call_int_int ⟨.int i,H,I,⟨_,rfl⟩,q⟩
 ·obtain ⟨u,rfl,r1⟩:=eW r;cases r1;exact call_int_bool ⟨.int (if k then 1 else 0),H,I.tok _,⟨_,rfl⟩,q⟩
theorem vg:b9 X (.type "str") (λxs H Q=>∃i,xs=[.int i]/\i.natAbs.log2 < 1920/\Q (.str (toString i)) H):=by intro γ s σ H xs us Q I r h;obtain ⟨i,rfl,hz,q⟩:=h;obtain ⟨u,rfl,t,rfl⟩:=eW r;exact PySem.P.str_of_int hz ⟨.str _,H,I.tok _,⟨_,rfl⟩,q⟩
end
structure yI(h:Heap)(x dx C:Addr)(mA:Str->Option Value):Prop where
 obj:h.get? x=some (PySem.W.instObj C dx)
 ns:h.Ns1 dx mA
 ne:dx≠x
theorem Bj(n:h.Ns1 dx mA):∃od,h.get? dx=some od/\∀name,PySem.W.lookIn name od=some (mA name):=by
 obtain ⟨o,es,ep,ho,hd,hk,_,hm⟩:=n;refine ⟨o,ho,λname=> ?_⟩;have e:=hm name;unfold nsFind findBy at e;rw [<-Array.find?_toList] at e;unfold PySem.W.lookIn;rw [hd];dsimp only;split
 ·rename_i y q;rw [q] at e;exact aa5 some e
 ·rename_i q;rw [q] at e;have a:es.toList.any (·.refKey)=false:=by rw [List.any_eq_false];intro y hy;obtain ⟨z,t,Q4⟩:=hk y (Array.mem_toList_iff.mp hy);simp [DictEntry.refKey,Q4]
  have a':¬es.toList.any (·.refKey)=true:=by rw [a];exact aan
  rw [aaA a'];exact aa5 some e
theorem yI.look{x:Addr}(I:yI h x dx C mA):∃od,PySem.W.InstAt h x (PySem.W.instObj C dx) C (some od)/\∀name,PySem.W.lookIn name od=some (mA name):=
 let ⟨od,ho,hl⟩:=Bj I.ns
 ⟨od,⟨I.obj,rfl,rfl,ho⟩,hl⟩
section
variable{K:fI}{x f:Addr}{name:Str}{v:Value}
theorem ot{expr:Bool}(X:K.In s.heap)(I:yI s.heap x dx C mA)(hg:PySem.W.plainGet K C name=true)(hh:PySem.W.hasDictIn K C=true)
  (ha:PySem.W.findIn K (.ref C) name=some none) (hv:mA name=some v) (Z4:PySem.W.handedIn v=true) (h:Q v {s with toks:=s.toks+1}):
  wpAny (model prog w) A (getAttr (.ref x) name expr) Q E s:=by
 obtain ⟨od,J,hl⟩:=I.look;exact PySem.W.get_value X J (PySem.W.plainGet_of hg).1 (PySem.W.findObj_own hh ha rfl (by rw [hl,hv])) Z4 h
theorem D1{pl:Sem Bool}{Q:Value×List Value->Shared->Prop}(X:K.In s.heap)(I:yI s.heap x dx C mA)(hg:PySem.W.plainGet K C name=true)
  (hf:PySem.W.findIn K (.ref C) name=some (some (.ref f))) (ht:PySem.W.isFn K (.ref f)=true) (hv:mA name=none) (h:Q (.ref f,[.ref x]) s):
  wpAny (model prog w) A (getMethod (.ref x) name pl) Q E s:=by
 obtain ⟨od,J,hl⟩:=I.look;exact PySem.W.method_fn X J (PySem.W.plainGet_of hg).1 (PySem.W.plainGet_of hg).2 hf (abb.mp ht) (by show (PySem.W.lookIn name od).map (·.isSome)=some false;rw [hl,hv];rfl) h
theorem HZ{ns:List Str}{Q:Unit->Shared->Prop}(X:K.In s.heap)(I:yI s.heap x dx C mA)
  (hs:PySem.W.findIn K (.ref C) "__setattr__"=some (some (.builtin "object.__setattr__"))) (hp:PySem.W.plainOver K C=true) (ht:PySem.W.takerIn K C name=some none) (hh:PySem.W.hasDictIn K C=true)
  (hw:PySem.Within mA ns) (hsz:ns.length<=sizeLine)
  (h:∀h',yI h' x dx C (λy=>if y=name then some v else mA y)->Heap.SameBut dx s.heap h'->Q () {s with heap:=h',toks:=s.toks+2}):
  wpAny (model prog w) A (setAttr (.ref x) name v) Q E s:=by
 obtain ⟨od,J,hl⟩:=I.look;refine PySem.W.set_plain X J hs (PySem.W.osa_open (s:={s with toks:=s.toks+1}) (r:=none) X J hp ht λb=> ?_);obtain ⟨cd,hc,HD⟩:=PySem.W.any_some hh;have hx:s.heap.get? x=some ⟨.ref C,some dx, .plain, #[]⟩:=I.obj;refine aah (aaE (aah (aah (wpAny_loadPart hx (aah (PySem.W.Looks.here (s:={s with toks:=s.toks+1}) (PySem.W.looks_clsIn X hc) ?_))))));rw [HD];refine aaE (a:=some dx) (aah (aaE (aah ?_)));refine wpAny_nsSet1 (s:={s with toks:=s.toks+1}) I.ns λh' Qq Qv=> ?_;obtain ⟨oD,esD,epD,hoD,YW,RR⟩:=Qq.count (PySem.Within.cons name v hw);refine aah (wpAny_lookBehind hoD (by rw [YW];exact pastItsLine_dict (aaq RR (by rw [aaz];omega))) ?_);exact aaE (h _ ⟨(Qv.2 _ (Ne.symm I.ne)).trans I.obj,Qq,I.ne⟩ Qv)
theorem EX{R:Result->Shared->Prop}{vs:List Value}(X:K.In s.heap)(hm:PySem.W.makesIn K C=true)
  (hi:PySem.W.findIn K (.ref C) "__init__"=some (some (.ref f))) (hf:PySem.W.typeIn K (.ref f)=some (.type "function"))
  (h:codeAny (model prog w) (A.under (.builtin "type.__call__" ⟨.ref C::vs,kw⟩)) (.call (.ref f) ⟨.ref (s.heap.objs.size+1)::vs,kw⟩) (PySem.W.InitBack (s.heap.objs.size+1) R)
   {s with heap:=(s.heap.push PySem.W.emptyDict).push (PySem.W.instObj C s.heap.objs.size)}):
  codeAny (model prog w) A (.call (.ref C) ⟨vs,kw⟩) R s:=by
 obtain ⟨hh,g,d,t,os⟩:=s;exact PySem.W.make_core (PySem.W.makes_of X hm) (PySem.W.looks_findIn X hi) (λself=>PySem.W.bind_fn X self hf) (.inl rfl) h
end
def gR(f:Str)(v:V):List (Str×V)->List (Str×V)
 | []=>[(f,v)]
 | (g,x)::r=>if g=f then (g,v)::r else (g,x)::gR f v r
theorem nu(f g:Str)(v:V):∀fs:List (Str×V),(gR f v fs).lookup g=if g=f then some v else fs.lookup g
 | []=>by
  show List.lookup g [(f,v)]=_;by_cases h:g=f
  ·have hb:(g==f)=true:=abb.mpr h;simp only [List.lookup,hb,if_pos h]
  ·have hb:(g==f)=false:=beq_eq_false_iff_ne.mpr h;simp only [List.lookup,hb,if_neg h]
 | (k,x)::r=>by
  have ih:=nu f g v r;rw [show gR f v ((k,x)::r)=(if k=f then (k,v)::r else (k,x)::gR f v r) from rfl];by_cases hk:k=f
  ·rw [aaD hk];by_cases h:g=k
   ·have hb:(g==k)=true:=abb.mpr h;simp only [List.lookup,hb,if_pos (h.trans hk)]
   ·have hb:(g==k)=false:=beq_eq_false_iff_ne.mpr h;simp only [List.lookup,hb,if_neg (λe:g=f=>h (e.trans hk.symm))]
  ·rw [aaA hk];by_cases h:g=k
   ·have hb:(g==k)=true:=abb.mpr h;simp only [List.lookup,hb,if_neg (λe:g=f=>hk (h.symm.trans e))]
   ·have hb:(g==k)=false:=beq_eq_false_iff_ne.mpr h;simp only [List.lookup,hb];exact ih
theorem mK(f:Str)(v:V):∀fs:List (Str×V),f∈(gR f v fs).map (·.1)/\∀g,g∈fs.map (·.1)->g∈(gR f v fs).map (·.1)
 | []=>⟨by simp [gR],λg h=>by simp at h⟩
 | (k,x)::r=>by
  obtain ⟨i1,i2⟩:=mK f v r;rw [show gR f v ((k,x)::r)=(if k=f then (k,v)::r else (k,x)::gR f v r) from rfl];by_cases hk:k=f
  ·rw [aaD hk];subst hk;exact ⟨by simp,λg h=>by simpa using h⟩
  ·rw [aaA hk];refine ⟨?_,λg h=> ?_⟩
   ·rw [aaB];exact aae _ i1
   ·rw [aaB] at h⊢;rcases aar.mp h with e | e
    ·exact aar.mpr (.inl e)
    ·exact aae _ (i2 g e)
theorem ng(f:Str)(v:V):∀fs:List (Str×V),(gR f v fs).length<=fs.length+1
 | []=>by simp [gR]
 | (k,x)::r=>by
  have ih:=ng f v r;rw [show gR f v ((k,x)::r)=(if k=f then (k,v)::r else (k,x)::gR f v r) from rfl];by_cases hk:k=f
  ·rw [aaD hk,aaz,aaz];omega
  ·rw [aaA hk,aaz,aaz];omega
theorem iC.some_of{o:Option Value}(r:iC (some v) o):∃u,o=some u/\ah v u:=by
 cases o with
 | none=>exact (show False from r).elim
 | some u=>exact ⟨u,rfl,r⟩
theorem iC.none_of{o:Option Value}(r:iC none o):o=none:=by
 cases o with
 | none=>rfl
 | some u=>exact (show False from r).elim
theorem Ci(r:ah v u):PySem.W.handedIn u=true:=by
 cases v with
 | bw=>cases (show u=Value.none from r);rfl
 | bl b=>cases (show u=Value.bool b from r);rfl
 | int i=>obtain ⟨t,e⟩:=(show∃t,u=Value.int i t from r);cases e;rfl
 | str x=>obtain ⟨t,e⟩:=(show∃t,u=Value.str x t from r);cases e;rfl
 | C7 b=>obtain ⟨t,e⟩:=(show∃t,u=Value.bytes b t from r);cases e;rfl
 | LV b=>obtain ⟨t,e⟩:=(show∃t,u=Value.float b t from r);cases e;rfl
 | ref a=>cases (show u=Value.ref a from r);rfl
 | ty n=>cases (show u=Value.type n from r);rfl
section
variable{H H':Hp}{fs SV:List (Str×V)}
theorem nL(aC:iS P w H h)(e:H a=some (.ins C dx fs)):∃mA,yI h a dx C mA/\(∀f,iC (fs.lookup f) (mA f))/\PySem.Within mA (fs.map (·.1))/\fs.length<=1000/\H dx=some (.own a):=by obtain ⟨d,z,ne,ob,mA,n,r,q⟩:=(show aP P w H h a (.ins C dx fs) from aC a _ e);exact ⟨mA,⟨ob,n,ne⟩,r,q,z,d⟩
end
structure yJ(K:fI)(C:Addr):Prop where
 pg:PySem.W.plainGet K C Str.empty=true
 hd:PySem.W.hasDictIn K C=true
 po:PySem.W.plainOver K C=true
 sa:PySem.W.findIn K (.ref C) "__setattr__"=some (some (.builtin "object.__setattr__"))
theorem yJ.get{K:fI}{C:Addr}(c:yJ K C)(f:Str):PySem.W.plainGet K C f=true:=c.pg
def eB(K:fI)(C:Addr)(f:Str):Prop:=PySem.W.findIn K (.ref C) f=some none
theorem eB.Nv{K:fI}{f:Str}(n:eB K C f):PySem.W.takerIn K C f=some none:=by unfold PySem.W.takerIn;rw [show PySem.W.findIn K (.ref C) f=some none from n];rfl
structure Jj(K:fI)(C:Addr)(m:Str)(f:Addr):Prop where
 at_:PySem.W.findIn K (.ref C) m=some (some (.ref f))
 fn:PySem.W.isFn K (.ref f)=true
 kp:PySem.W.keepIn K (.ref f)=true
section
variable{H:Hp}{fs:List (Str×V)}{f:Str}
theorem yf{b:Bool}(I:Inv X γ σ H s)(e:H a=some (.ins C dx fs))(c:yJ X.K C)(n:eB X.K C f)(l:fs.lookup f=some v)
  (h:∀u s',Inv X γ σ H s'->ah v u->Q u s'):wpAny (model X.prog X.w) A (getAttr (.ref a) f b) Q E s:=by
 obtain ⟨mA,O,r,_,_,_⟩:=nL I.aC e;obtain ⟨u,hu,ru⟩:=iC.some_of (v:=v) (o:=mA f) (by rw [<-l];exact r f);exact ot I.g_ O (c.get f) c.hd n hu (Ci ru) (h u _ (I.tok _) ru)
theorem p_{m:Str}{g:Addr}{pl:Sem Bool}{Q:Value×List Value->Shared->Prop}(I:Inv X γ σ H s)(e:H a=some (.ins C dx fs))(c:yJ X.K C)(k:Jj X.K C m g)(l:fs.lookup m=none)
  (h:Q (.ref g,[.ref a]) s):wpAny (model X.prog X.w) A (getMethod (.ref a) m pl) Q E s:=by
 obtain ⟨mA,O,r,_,_,_⟩:=nL I.aC e;have hn:mA m=none:=iC.none_of (by rw [<-l];exact r m);exact D1 I.g_ O (c.get m) k.at_ k.fn hn h
theorem yO{y:V}{Q:Unit->Shared->Prop}(I:Inv X γ σ H s)(e:H a=some (.ins C dx fs))(c:yJ X.K C)(n:eB X.K C f)(hl:fs.length < 1000)(ry:ah y u)
  (h:∀s',Inv X γ σ (upd H a (.ins C dx (gR f y fs))) s'->Q () s'):wpAny (model X.prog X.w) A (setAttr (.ref a) f u) Q E s:=by
 obtain ⟨mA,O,r,wi,_,ho⟩:=nL I.aC e;have hz:(fs.map (·.1)).length<=sizeLine:=by rw [aaa,sizeLine_eq];omega
 refine HZ I.g_ O c.sa c.po n.Nv c.hd wi hz λh' O' sb=>h _ ?_;have hd:∃o,h'.get? dx=some o:=let ⟨o,_,_,e',_⟩:=O'.ns;⟨o,e'⟩
 refine I.write (x:=a) (e:=dx) (by rw [e];exact True.intro) (.inr ho) (λb q hb z=>(sb.2 b hb).trans z) hd ?_;refine ⟨by rw [Γ O.ne];exact ho, ?_,O.ne,O'.obj,_,O'.ns,λg=> ?_,λg hg=> ?_⟩
 ·have:=ng f y fs;omega
 ·show iC ((gR f y fs).lookup g) (if g=f then some u else mA g);rw [nu];by_cases q:g=f
  ·rw [aaD q,aaD q];exact ry
  ·rw [aaA q,aaA q];exact r g
 ·by_cases q:g=f
  ·rw [q];exact (mK f y fs).1
  ·refine (mK f y fs).2 g (wi g λz=>hg ?_);show (if g=f then some u else mA g)=none;rw [aaA q];exact z
theorem Inv.made(I:Inv X γ σ H s):Inv X γ σ (upd (upd H s.heap.objs.size (.own (s.heap.objs.size+1))) (s.heap.objs.size+1) (.ins C s.heap.objs.size []))
  {s with heap:=(s.heap.push PySem.W.emptyDict).push (PySem.W.instObj C s.heap.objs.size)}:=by
 have e1:(s.heap.push PySem.W.emptyDict).get? s.heap.objs.size=some PySem.W.emptyDict:=aaM s.heap rfl;have e2:((s.heap.push PySem.W.emptyDict).push (PySem.W.instObj C s.heap.objs.size)).get? (s.heap.objs.size+1)=some (PySem.W.instObj C s.heap.objs.size):=by have:=aaM (s.heap.push PySem.W.emptyDict) (o:=PySem.W.instObj C s.heap.objs.size) rfl;rwa [Heap.size_push] at this
 have e3:(s.heap.push PySem.W.emptyDict).Ns s.heap.objs.size (λ_=>none):=⟨PySem.W.emptyDict, #[],_,e1,rfl,(λe he=>absurd he (by simp)),λ_=>rfl⟩;have I1:=I.laid (a:=s.heap.objs.size) (o:= .own (s.heap.objs.size+1)) (h':=s.heap.push PySem.W.emptyDict) (t':=s.toks) (λb u q=>aaf _ q) (aak _) ⟨_,e1⟩;refine I1.laid (a:=s.heap.objs.size+1) (o:= .ins C s.heap.objs.size []) (t':=s.toks) (λb u q=>aaf _ q) (Nat.le_of_eq (Heap.size_push _ _)) ?_;have ne:s.heap.objs.size≠s.heap.objs.size+1:=aaI (Nat.lt_succ_self _);refine ⟨by rw [Γ ne,Ω],aa1 _,ne,e2,λ_=>none,(Heap.Ns1.of_empty e3).at λo q=>aaf _ q,λ_=>True.intro,λy hy=>aaG rfl hy⟩
theorem G7{env:Env}{f:Str}(hb:attributeBase e f env (eval e env)=eval e env)
  (h:wpAny (model prog w) A (eval e env) (λo s₁=>wpAny (model prog w) A (getAttr o f true) Q E s₁) E s):wpAny (model prog w) A (eval (.Attribute e f pos) env) Q E s:=
 Attribute_any_ h (by rw [arm_eval_Attribute,hb])
end
def SA(K:fI)(ta:TE)(f:Str):TE:=λσ H Q=>ta σ H λx H1=>∃a C dx fs v,x= .ref a/\H1 a=some (.ins C dx fs)/\yJ K C/\eB K C f/\fs.lookup f=some v/\Q v H1
def UZ(K:fI)(ta tv:TE)(f:Str):TS:=λD σ H=>tv σ H λy H1=>ta σ H1 λx H2=>∃a C dx fs,x= .ref a/\H2 a=some (.ins C dx fs)/\yJ K C/\eB K C f/\fs.length < 1000/\
 D.nx σ (upd H2 a (.ins C dx (gR f y fs)))
section
variable{o value:Expr}{f:Str}{pos' qQ:Pos}{tv:TE}
theorem K5(he:PE X e ta)(hb:attributeBase e f X.env (eval e X.env)=eval e X.env):PE X (.Attribute e f pos) (SA X.K ta f):=by intro γ s σ H Q I h;refine G7 hb (aY (he γ s σ H _ I h) λu s1 ⟨x,H1,I1,rx,a,C,dx,fs,v,ex,ea,c,n,l,q⟩=> ?_);subst ex;obtain rfl:u=Value.ref a:=rx;exact yf I1 ea c n l λu' s2 I2 ru=>⟨v,H1,I2,ru,q⟩
theorem LO(ha:PE X o ta)(hv:PE X value tv)(hs:swapsWith value (some (.Attribute o f pos')) pos.line X.env=pure false):PS X (.Assign [.Attribute o f pos'] value pos) (UZ X.K ta tv f):=by intro γ s σ H D I h;refine plainObj_wpAny_Assign_Attribute (aY (hv γ s σ H _ I h) λu s1 ⟨y,H1,I1,ry,q⟩=>aY (ha γ s1 σ H1 _ I1 q) λov s2 ⟨x,H2,I2,rx,a,C,dx,fs,ex,ea,c,n,l,q2⟩=> ?_) hs;subst ex;obtain rfl:ov=Value.ref a:=rx;exact yO I2 ea c n l ry λs3 I3=>⟨σ,_,I3,q2⟩
end
section
variable{H:Hp}{c:Value}{b:Bool}
inductive jz(K:fI)(H:Hp):V->Value->Prop where
 | bw:jz K H .bw (.type "NoneType")
 | bl (x:Bool):jz K H (.bl x) (.type "bool")
 | int (i:Int):jz K H (.int i) (.type "int")
 | str (x:Str):jz K H (.str x) (.type "str")
 | LV (x:UInt64):jz K H (.LV x) (.type "float")
 | lst {a:Addr} {xs:List V} (e:H a=some (.lst xs)):jz K H (.ref a) (.type "list")
 | uo {a:Addr} {o:Obj} {xs:List V} (e:H a=some (.uo o (.lst xs))):jz K H (.ref a) (.type "list")
 | tup {a:Addr} {xs:List V} (e:H a=some (.tup xs)):jz K H (.ref a) (.type "tuple")
 | dK {a:Addr} {kvs:List (Key×V)} (e:H a=some (.dK kvs)):jz K H (.ref a) (.type "dict")
 | dT {a:Addr} {kvs:List (List Key×V)} (e:H a=some (.dT kvs)):jz K H (.ref a) (.type "dict")
 | ins {a C dx:Addr} {fs:List (Str×V)} (e:H a=some (.ins C dx fs)) (cl:yJ K C) (ha:PySem.W.findIn K (.ref C) "__class__"=some (some (.builtin "object.__class__")))
   (hn:PySem.W.specialIn K (.builtin "object.__class__") "__get__"=some (some (.builtin "getset_descriptor.__get__"))) (U8:PySem.W.takesIn K (.builtin "object.__class__")=some true)
   (hm:PySem.W.mroIn K C (.type "object")=some true):jz K H (.ref a) (.ref C)
theorem Cy{x:V}{t:Value}(I:Inv X γ σ H s)(rx:ah x u)(ty:jz X.K H x t)(e:PySem.W.kitOne X.K t c=some b)(h:∀tk,Q (.bool b) {s with toks:=tk}):
  wpAny (model X.prog X.w) A (call (.builtin "isinstance") [u,c]) Q E s:=by
 cases ty with
 | bw=>cases (show u=Value.none from rx);exact PySem.W.kia_one PySem.W.kitx_none I.g_ True.intro e (λz=>nomatch z) h
 | bl y=>cases (show u=Value.bool y from rx);exact PySem.W.kia_one PySem.W.kitx_bool I.g_ True.intro e (λz=>nomatch z) h
 | int i=>obtain ⟨t,q⟩:=(show∃t,u=Value.int i t from rx);cases q;exact PySem.W.kia_one PySem.W.kitx_int I.g_ True.intro e (λz=>nomatch z) h
 | str y=>obtain ⟨t,q⟩:=(show∃t,u=Value.str y t from rx);cases q;exact PySem.W.kia_one PySem.W.kitx_str I.g_ True.intro e (λz=>nomatch z) h
 | LV y=>obtain ⟨t,q⟩:=(show∃t,u=Value.float y t from rx);cases q;exact PySem.W.kia_one PySem.W.kitx_float I.g_ True.intro e (λz=>nomatch z) h
 | @lst a xs ea=>
  cases (show u=Value.ref a from rx);obtain ⟨_,_,n,_,h1⟩:=(show aP X.prog X.w H s.heap a (.lst xs) from I.aC a _ ea);exact PySem.W.kia_one PySem.W.kitx_list I.g_ ⟨_,h1,rfl⟩ e (λz=>nomatch z) h
 | @uo a ob xs ea=>
  cases (show u=Value.ref a from rx);obtain ⟨_,_,_,n,_,h1⟩:=(show aP X.prog X.w H s.heap a (.uo ob (.lst xs)) from I.aC a _ ea);exact PySem.W.kia_one PySem.W.kitx_list I.g_ ⟨_,h1,rfl⟩ e (λz=>nomatch z) h
 | @tup a xs ea=>
  cases (show u=Value.ref a from rx);obtain ⟨_,_,_,p⟩:=(show aP X.prog X.w H s.heap a (.tup xs) from I.aC a _ ea);obtain ⟨o,h1,h2,_⟩:=p;exact PySem.W.kia_one PySem.W.kitx_tuple I.g_ ⟨o,h1,h2⟩ e (λz=>nomatch z) h
 | @dK a kvs ea=>
  cases (show u=Value.ref a from rx);obtain ⟨_,_,vs,_,p⟩:=(show aP X.prog X.w H s.heap a (.dK kvs) from I.aC a _ ea);obtain ⟨o,es,ep,h1,h2,_⟩:=p;exact PySem.W.kia_one PySem.W.kitx_dict I.g_ ⟨o,h1,h2.1⟩ e (λz=>nomatch z) h
 | @dT a kvs ea=>
  cases (show u=Value.ref a from rx);obtain ⟨_,_,xs,_,o,es,ep,h1,h2,_⟩:=(show aP X.prog X.w H s.heap a (.dT kvs) from I.aC a _ ea);exact PySem.W.kia_one PySem.W.kitx_dict I.g_ ⟨o,h1,h2.1⟩ e (λz=>nomatch z) h
 | @ins a C dx fs ea cl ha hn U8 hm=>
  cases (show u=Value.ref a from rx);obtain ⟨mA,O,_⟩:=nL I.aC ea;obtain ⟨od,J,_⟩:=O.look;exact PySem.W.kia_one (PySem.W.kitx_own (cl.get _) cl.hd ha hn U8 hm) I.g_ J e (λz=>nomatch z) h
end
structure bx(k:Nat)(A:Around):Prop where
 hd:A.handled=none
 dp:A.depth+3 * k+5 < recursionLimit
 un:A.units+16 * k+200 < cLine
theorem bx.mono{j k:Nat}(r:bx k A)(h:j<=k):bx j A:=⟨r.hd,by have:=r.dp;omega,by have:=r.un;omega⟩
theorem bx.deeper{k:Nat}(r:bx (k+1) A)(env:Env):bx k (A.deeper env):=
 ⟨r.hd,by have:=r.dp;show A.depth+1+3 * k+5 < _;omega,by have:=r.un;show A.units+3+16 * k+200 < _;omega⟩
theorem y8:(A.under (.builtin "type.__call__" ⟨.ref C::us,kw⟩)).depth=A.depth+1:=by
 first | rfl | simp [Around.under,Code.weight,Code.isCreation,Code.isGuard,Code.isCaller,Code.frames,Code.isFrame,guardIds]
theorem zw:(A.under (.builtin "type.__call__" ⟨.ref C::us,kw⟩)).units=A.units+1:=by
 first | rfl | simp [Around.under,Code.cUnits,Code.frames,Code.isFrame]
theorem bx.make{k:Nat}(r:bx (k+1) A)(C:Addr)(us:List Value)(kw:List (Str×Value)):bx k (A.under (.builtin "type.__call__" ⟨.ref C::us,kw⟩)):=
 ⟨r.hd,by have:=r.dp;rw [y8];omega,by have:=r.un;rw [zw];omega⟩
theorem bx.depth{k:Nat}(r:bx k A):A.depth < recursionLimit:=by have:=r.dp;omega
theorem bx.units{k:Nat}(r:bx k A):A.units+64 < cLine:=by have:=r.un;omega
theorem bx.yg{k:Nat}(r:bx k A):A.units < cLine:=by have:=r.un;omega
def Mn:TA:=λ_ H Q=>Q [] H
def O2(ta:TE)(tr:TA):TA:=λσ H Q=>ta σ H λx H1=>tr σ H1 λxs H2=>Q (x::xs) H2
section
variable{t:TA}
theorem MK:PA X [] Mn:=λ_ _ _ _ H Q I h=>Calls.spliced_nil ⟨[],H,I, .nil,h⟩
theorem He(ha:PE X e te)(hr:PA X es t)(hs:starEach (e::es) X.env=(false,eval e X.env)::starEach es X.env:=by rfl):PA X (e::es) (O2 te t):=by intro pos γ s σ H Q I h;rw [hs];show wpAny _ _ (spliced ((false,eval e X.env)::backTo pos (starEach es X.env))) _ _ s;refine Calls.spliced_cons (aY (ha γ s σ H _ I h) λu s1 ⟨x,H1,I1,r1,q1⟩=> ?_);exact aY (hr pos γ s1 σ H1 _ I1 q1) λus s2 ⟨xs,H2,I2,r2,q2⟩=>⟨x::xs,H2,I2, .cons r1 r2,q2⟩
def Sa(t:TA):TE:=λσ H Q=>t σ H λxs H1=>xs.length<=sizeLine/\∀p,H1 p=none->Q (.ref p) (upd H1 p (.tup xs))
def TM(t:TA):TE:=λσ H Q=>t σ H λxs H1=>xs.length<=sizeLine/\∀p,H1 p=none->Q (.ref p) (upd H1 p (.lst xs))
theorem Lg{x1}(h:PA X es t):PE X (.Tuple es x1 pos) (Sa t):=by intro γ s σ H Q I hq;refine wpAny_Tuple_spliced (aY (h pos γ s σ H _ I hq) λus s1 ⟨xs,H1,I1,r,z,q⟩=>⟨by rw [<-r.length];exact z, ?_⟩);have hf:H1 s1.heap.objs.size=none:=I1.aC.fresh (aak _);refine ⟨.ref s1.heap.objs.size,upd H1 s1.heap.objs.size (.tup xs),I1.laid (t':=s1.toks) (λb u e=>aaf _ e) (aak _) ?_,rfl,q _ hf⟩;exact ⟨z,us,r,⟨_,aaM _ rfl,rfl,_,rfl⟩⟩
theorem Gs(h:PA X es t):PE X (.List es pos) (TM t):=by intro γ s σ H Q I hq;refine wpAny_List_spliced (aY (h pos γ s σ H _ I hq) λus s1 ⟨xs,H1,I1,r,z,q⟩=>⟨by rw [<-r.length];exact z, ?_⟩);have hf:H1 s1.heap.objs.size=none:=I1.aC.fresh (aak _);refine ⟨.ref s1.heap.objs.size,upd H1 s1.heap.objs.size (.lst xs),I1.laid (t':=s1.toks) (λb u e=>aaf _ e) (aak _) ?_,rfl,q _ hf⟩;exact ⟨z,us,0,r,aaM _ rfl⟩
end
abbrev Sp:=List V->Hp->VK->XK->Prop
abbrev xD:=List Env->Hp->Shared->XK->Value->Shared->Prop
structure yC(P:Program)(w:World)(K:fI)(mg:Str->Option Value)(base:Heap)(A:Around)(outer:List Env)(s:Shared)(H:Hp):Prop where
 frames:A.frames=some outer
 mod:Mod K mg base
 bs:∀b o,base.get? b=some o->s.heap.get? b=some o/\H b=none
 GI:base.objs.size<=s.heap.objs.size
 j8:s.heap.FunFrames base outer
 HC:∀b∈jV outer,H b=none
 aC:iS P w H s.heap
 bare:AllBare s.gens
def CE(outer:List Env)(P:Program)(w:World)(H:Hp)(s:Shared)(Q:VK)(u:Value)(s':Shared):Prop:=
 ∃v H',s'.os=s.os/\AllBare s'.gens/\Un (jV outer) [] H H' s.heap s'.heap/\iS P w H' s'.heap/\ah v u/\Q v H'
def CR(CX:xD)(outer:List Env)(P:Program)(w:World)(H:Hp)(s:Shared)(Q:VK)(E:XK)(r:Result)(s':Shared):Prop:=
 match r with
 | .ok (.ret u)=>CE outer P w H s Q u s'
 | .ok _=>False
 | .error e=>CX outer H s E e s'
structure Τ(P:Program)(w:World)(K:fI)(mg:Str->Option Value)(base:Heap)(CX:xD)(k:Nat)(f:Addr)(fd:FuncData)(ps:List Str)(sp:Sp):Prop where
 len:∀vs H Q E,sp vs H Q E->vs.length=ps.length
 run:∀(A:Around) (outer:List Env) (s:Shared) (H:Hp) (args:Args) (us:List Value) (vs:List V) (Q:VK) (E:XK),bx k A->yC P w K mg base A outer s H->BindsTo s fd args (ps.zip us)->Φ vs us->sp vs H Q E->
  codeAny (model P w) A (.call (.ref f) args) (CR CX outer P w H s Q E) s
theorem yC.make{K:fI}{H:Hp}(e:yC P w K mg base A outer s H)(C:Addr)(us:List Value)(kw:List (Str×Value)):
  yC P w K mg base (A.under (.builtin "type.__call__" ⟨.ref C::us,kw⟩)) outer s H:=⟨by first | exact e.frames | (simpa [Around.under,Code.envs,Code.isFrame,pushEnvs] using e.frames),e.mod,e.bs,e.GI,e.j8,e.HC,e.aC,e.bare⟩
section
variable{H:Hp}{s':Shared}
theorem Inv.PK(I:Inv X γ σ H s):yC X.prog X.w X.K X.mg X.base X.A X.stack s H:=
 ⟨I.ok.frames,I.ok.mod,I.bs,aaq I.ok.GI I.sz,I.stack,I.n_,I.aC,I.bare⟩
theorem Inv.after{Q:VK}(I:Inv X γ σ H s)(h:CE X.stack X.prog X.w H s Q u s'):EP X γ σ Q u s':=by obtain ⟨v,H',os,bare,un,aC,r,q⟩:=h;obtain ⟨hh,g,d,t,Qh⟩:=s';obtain rfl:Qh=s.os:=os;exact ⟨v,H',I.call (h':=hh) (g':=g) (d':=d) (t':=t) (ch:=[]) un aC bare (λb z=>absurd z (by simp)),r,q⟩
end
def gc(K:fI)(fd:FuncData)(ps:List Str)(ds:List Value):Prop:=
 ∀(s:Shared) (us:List Value),K.In s.heap->(us++ds).length=ps.length->BindsTo s fd ⟨us,[]⟩ (ps.zip (us++ds))
theorem gc.all{K:fI}{fd:FuncData}(h:∀us:List Value,us.length=ps.length->bindArgs fd ⟨us,[]⟩=pure (ps.zip us)):gc K fd ps []:=λs us _ hl=>by rw [aaQ] at hl⊢;exact .of_eq (h us hl)
section
variable{CX:xD}{k:Nat}{f:Addr}{fd:FuncData}{sp:Sp}{om:List V}{ds:List Value}{E:XK}{m:Str}{p apos:Pos}{o:Expr}{t:TA}
structure Mk(K:fI)(C f:Addr):Prop where
 makes:PySem.W.makesIn K C=true
 init:PySem.W.findIn K (.ref C) "__init__"=some (some (.ref f))
 fn:PySem.W.isFn K (.ref f)=true
 kp:PySem.W.keepIn K (.ref C)=true
end
structure υ(N P:List Str)(sc:Scope):Prop where
 kind:sc.kind= .function
 co:sc.isCoroutine=false
 gen:sc.isGenerator=false
 nd:N.Nodup
 pre:N.take P.length=P
 par:∀x∈P,sc.names.lookup x=some .local\/sc.names.lookup x=some .cell
 Ld:∀y∈sc.names,y.2≠ .free
theorem sL{kindOf:Str->Option NameKind}{x:Str}:∀{binds:List (Str×Value)} {m:Str->Option Value},(∀v,(x,v)∉binds)->bindL kindOf binds m x=m x
 | [],_,_=>rfl
 | (n,v)::r,m,h=>by
  unfold bindL;rw [sL λw hw=>h w (aae _ hw)];split
  ·have:x≠n:=by rintro rfl;exact h v aad
   simp [this]
  ·rfl
theorem rD{kindOf:Str->Option NameKind}{x:Str}:∀{binds:List (Str×Value)} {m:Str->Option Value},(∀v,(x,v)∉binds)->bindC kindOf binds m x=m x
 | [],_,_=>rfl
 | (n,v)::r,m,h=>by
  unfold bindC;rw [rD λw hw=>h w (aae _ hw)];split
  ·rfl
  ·have:x≠n:=by rintro rfl;exact h v aad
   simp [this]
theorem rW{kindOf:Str->Option NameKind}{x:Str}{v:Value}:∀{P:List Str} {vs:List Value} {i:Nat} {m:Str->Option Value},P.Nodup->P[i]? =some x->vs[i]? =some v->kindOf x=some .local->
  bindL kindOf (P.zip vs) m x=some v
 | [],_,_,_,_,h,_,_=>by simp at h
 | _::_,[],_,_,_,_,h,_=>by simp at h
 | p::P,w::vs,0,m,nd,h1,h2,hk=>by simp at h1 h2;subst h1;subst h2;show bindL kindOf ((p,w)::P.zip vs) m p=_;unfold bindL;rw [sL λv hv=>(aba.mp nd).1 (aa6 hv).1,aaD hk];simp
 | p::P,w::vs,i+1,m,nd,h1,h2,hk=>by show bindL kindOf ((p,w)::P.zip vs) m x=_;unfold bindL;exact rW (i:=i) (List.nodup_cons.mp nd).2 (by simpa using h1) (by simpa using h2) hk
theorem rF{kindOf:Str->Option NameKind}{x:Str}{v:Value}:∀{P:List Str} {vs:List Value} {i:Nat} {m:Str->Option Value},P.Nodup->P[i]? =some x->vs[i]? =some v->kindOf x≠some .local->
  bindC kindOf (P.zip vs) m x=some v
 | [],_,_,_,_,h,_,_=>by simp at h
 | _::_,[],_,_,_,_,h,_=>by simp at h
 | p::P,w::vs,0,m,nd,h1,h2,hk=>by simp at h1 h2;subst h1;subst h2;show bindC kindOf ((p,w)::P.zip vs) m p=_;unfold bindC;rw [rD λv hv=>(aba.mp nd).1 (aa6 hv).1,aaA hk];simp
 | p::P,w::vs,i+1,m,nd,h1,h2,hk=>by show bindC kindOf ((p,w)::P.zip vs) m x=_;unfold bindC;exact rF (i:=i) (List.nodup_cons.mp nd).2 (by simpa using h1) (by simpa using h2) hk
def iD(N:List Str)(vs:List V):St:=vs.map some++List.replicate (N.length - vs.length) none
def js(CX:xD)(P:Program)(w:World)(K:fI)(mg:Str->Option Value)(base:Heap)(N:List Str)(qual:Str)(scope:Scope)(f:Addr)(cd:Value)(A:Around)(outer:List Env)(s:Shared)(H:Hp)(E:XK):Cx where
 prog:=P
 w:=w
 K:=K
 mg:=mg
 base:=base
 A:=A.deeper (envOfC qual scope s.heap.objs.size f cd)
 N:=N
 s₀:=s
 H₀:=H
 env:=envOfC qual scope s.heap.objs.size f cd
 outer:=outer
 stack:=envOfC qual scope s.heap.objs.size f cd::outer
 ex:=[]
 calm:=true
 fn:=λ_=>true
 pn:=[]
 xe:=λe s'=>wpAny (model P w) (A.deeper (envOfC qual scope s.heap.objs.size f cd)) (leaving (envOfC qual scope s.heap.objs.size f cd) e) (λ_ RZ=>CX outer H s E e RZ) (λe' RZ=>CX outer H s E e' RZ) s'
theorem vA{sc:Scope}{n:Nat}(h:sc.names.lookup x=some .cell):∃c,(cellsFrom n sc.names []).lookup x=some c:=by have q:=PySem.W.cellsFrom_some sc.names n [] (.inl h);exact abH.mp q
theorem Cc{CX:xD}{K:fI}{N:List Str}{qual:Str}{scope:Scope}{f:Addr}{cd:Value}{s1:Shared}{H:Hp}{E:XK}{vs:List V}
  (S:υ N ps scope) (hd:A.handled=none) (e0:yC P w K mg base A outer s H) (hl:vs.length=ps.length) (r:Φ vs us)
  (x:InCallC s s.heap.objs.size (bindL (envOfC qual scope s.heap.objs.size f cd).kindOf (ps.zip us) λ_=>none) (cellsFrom (s.heap.objs.size+1) scope.names []) (bindC (envOfC qual scope s.heap.objs.size f cd).kindOf (ps.zip us) λ_=>none) s1):
  Inv (js CX P w K mg base N qual scope f cd A outer s H E) [] (iD N vs) H s1:=by
 have dj:ps.length<=N.length:=by have:=aa5 List.length S.pre;rw [abc] at this;omega
 obtain ⟨h1,tk,rfl,hk⟩:=x.done;have Ow:∀b:Addr,b∉(js CX P w K mg base N qual scope f cd A outer s H E).ex:=λb z=>absurd (show b∈([]:List Addr) from z) (by simp)
 refine ⟨⟨e0.mod,S.kind,rfl,rfl,aak _,λy z c h1 h2=> ?_,λy hy=> ?_,λy c _ h=> ?_,λ_=>hd,Around.frames_deeper e0.frames, .inr ⟨rfl,rfl⟩,λb z=>aaG z (Ow b),e0.bs,e0.GI,λb _ _=>Ow b,λb z=>aaG z (Ow b),e0.j8,e0.HC⟩,
  rfl,e0.bare,Un.kept hk,⟨_,x.toInCall.ns,λi y v h1 h2 h3=> ?_⟩,λy c h=>⟨_,x.cell y c h⟩,e0.aC.fresh (Nat.le_refl _),λy c h=> ?_,λp hp=>absurd (show p∈([]:List (Addr×Obj)) from hp) (by simp),e0.aC.kept hk, ?_⟩
 ·exact name_of_addr x.apart (PySem.mem_of_lookup h1) (PySem.mem_of_lookup h2)
 ·have hy:scope.names.lookup y=some .cell\/scope.names.lookup y=some .free:=hy;rcases hy with hy | hy
  ·exact vA hy
  ·exact aaG rfl (S.Ld _ (PySem.mem_of_lookup hy))
 ·exact Nat.le_of_lt (x.above y c (PySem.mem_of_lookup h))
 ·have hi:i < vs.length:=by
   unfold iD at h2;by_cases hi:i < vs.length
   ·exact hi
   ·rw [List.getElem?_append_right (by simpa using hi)] at h2;rw [List.getElem?_replicate] at h2;split at h2 <;> cases h2
  have ha:vs[i]? =some v:=by
   unfold iD at h2;rw [List.getElem?_append_left (by simpa using hi),List.getElem?_map] at h2;cases e:vs[i]? with
   | none=>rw [e] at h2;cases h2
   | some a=>rw [e] at h2;cases h2;rfl
  obtain ⟨u,hu,rv⟩:=r.get ha;have hp:ps[i]? =some y:=by rw [<-S.pre,List.getElem?_take_of_lt (by omega)];exact h1
  have U6:ps.Nodup:=by rw [<-S.pre];exact S.nd.sublist (List.take_sublist _ _)
  refine ⟨u,rv, ?_⟩;rcases S.par y (aaO hp) with k | k
  ·exact .inl ⟨k,rW U6 hp hu k⟩
  ·obtain ⟨c,e⟩:=vA (n:=s.heap.objs.size+1) k;refine .inr ⟨.inl k,c,e, ?_⟩;have q:=x.cell y c e;rw [rF U6 hp hu (by show scope.names.lookup y≠_;rw [k];decide)] at q;exact q
 ·exact e0.aC.fresh (Nat.le_of_lt (x.above y c (PySem.mem_of_lookup h)))
 ·unfold iD;show _=N.length;rw [aab,aaa,aas];omega
theorem Nu{CX:xD}{K:fI}{k:Nat}{f:Addr}{name qual:Str}{params:Arguments}{scope:Scope}{dV kV doc pm aQ ct oc:Value}{an od:Option Addr}
  {FE:Array (Option Value)} {N:List Str} {sp:Sp} (lk:K.lookup f=some ⟨oc,od, .func (PySem.W.fnOf name qual params body scope dV kV doc pm an aQ ct),FE⟩) (DR:PySem.W.codeIn K aQ qual=true) (S:υ N ps scope)
  (len:∀vs H Q E,sp vs H Q E->vs.length=ps.length)
  (vG:∀(A:Around) (outer:List Env) (s:Shared) (H:Hp) (vs:List V) (Q:VK) (E:XK),bx k (A.deeper (envOfC qual scope s.heap.objs.size f aQ))->sp vs H Q E->
   ∃t,zY (js CX P w K mg base N qual scope f aQ A outer s H E) body t/\t {nx:=λ_ H'=>Q .bw H',rt:=Q} (iD N vs) H):
  Τ P w K mg base CX (k+1) f (PySem.W.fnOf name qual params body scope dV kV doc pm an aQ ct) ps sp:=by
 refine ⟨len,λA outer s H args us vs Q E hr e0 hb r JZ=> ?_⟩;have hl:=len _ _ _ _ JZ;have KX:K.In s.heap:=e0.mod.vw.keeps λb o e=>(e0.bs b o e).1;have lim:s.heap.NoLimit:=e0.mod.nolimit.keeps λb o e=>(e0.bs b o e).1;have OE:∀y∈ps.zip us,scope.names.lookup y.1=some .local\/(scope.names.lookup y.1=some .cell/\((cellsFrom (s.heap.objs.size+1) scope.names []).lookup y.1).isSome=true):=λ⟨n,v⟩ hy=>by
  rcases S.par n (aa6 hy).1 with q | q
  ·exact .inl q
  ·exact .inr ⟨q,PySem.W.cellsFrom_some _ _ _ (.inl q)⟩
 refine codeAny_call_function hr.depth (KX _ _ lk) rfl S.co S.gen rfl (PySem.W.codeRec_of KX DR) (hb _ _ _ _ ?_);refine wpAny_newFunctionEnv_cells S.kind OE λenv he s1 x=> ?_;subst he;refine ⟨lim.keeps x.toInCall.keep,codeAny_func ?_⟩;obtain ⟨t,ht,hq⟩:=vG A outer s H vs Q E (hr.deeper _) JZ;have I:Inv (js CX P w K mg base N qual scope f aQ A outer s H E) [] (iD N vs) H s1:=Cc S hr.hd e0 hl r x;refine abi (ht [] s1 (iD N vs) H _ I hq) (λfl s' hs=> ?_) λe s' hs=>hs
 have fin:∀{σ':St} {H':Hp} {v:V} {u:Value},Inv (js CX P w K mg base N qual scope f aQ A outer s H E) [] σ' H' s'->ah v u->Q v H'->CE outer P w H s Q u s':=
  λ{σ' H' v u} J rv q=>⟨v,H',J.os,J.bare,J.base,J.aC,rv,q⟩
 cases fl with
 | ret u=>
  obtain ⟨v,σ',H',J,rv,q⟩:=hs;exact fin J rv q
 | next=>
  obtain ⟨σ',H',J,q⟩:=hs;exact fin (v:=V.bw) (u:=Value.none) J rfl q
 | brk=>
  obtain ⟨_,_,_,q⟩:=hs;exact False.elim q
 | cont=>
  obtain ⟨_,_,_,q⟩:=hs;exact False.elim q
section
variable{p:Pos}{t:TA}{id T:String}{r:List V->Hp->VK->Prop}
def Tf(r:List V->Hp->VK->Prop)(t:TA):TE:=λσ H Q=>t σ H λvs H1=>r vs H1 Q
theorem Ei(hc:b9 X (.builtin id) r)(hg:Gl X x)(hm:X.mg x=none)(hv:bootBuiltins x=some (.builtin id))(ha:PA X (e::es) t)(hn:x≠"__name__":=by decide)(gQ:(x==("__debug__":Str))=false:=by decide)
  (he:starEach (e::es) X.env=(false,eval e X.env)::starEach es X.env:=by rfl) (dj:(backTo pos (starEach es X.env)).any (·.1)=false:=by rfl):PE X (.Call (.Name x p) (e::es) [] pos) (Tf r t):=by
 intro γ s σ H Q I h;refine wpAny_Call_Name_kw (l7 I hg hm hv ?_ hn gQ);exact PyProof.Rows.callWith_builtin1 (aY (ha pos γ s σ H _ I h) λus s1 ⟨vs,H1,I1,r1,q1⟩=>hc γ s1 σ H1 vs us Q I1 r1 q1) he dj
theorem Cw(hc:b9 X (.type T) r)(hg:Gl X x)(hm:X.mg x=none)(hv:bootBuiltins x=some (.type T))(ha:PA X (e::es) t)(hn:x≠"__name__":=by decide)(gQ:(x==("__debug__":Str))=false:=by decide)
  (he:starEach (e::es) X.env=(false,eval e X.env)::starEach es X.env:=by rfl) (dj:(backTo pos (starEach es X.env)).any (·.1)=false:=by rfl):PE X (.Call (.Name x p) (e::es) [] pos) (Tf r t):=by
 intro γ s σ H Q I h;refine wpAny_Call_Name_kw (l7 I hg hm hv ?_ hn gQ);exact PyProof.Rows.callWith_type1 (aY (ha pos γ s σ H _ I h) λus s1 ⟨vs,H1,I1,r1,q1⟩=>hc γ s1 σ H1 vs us Q I1 r1 q1) he dj
end
end L2
namespace HT
open PySem PyProof.Rows
section
variable{prog:Program}{w:World}{A:Around}{E:Value->Shared->Prop}{s:Shared}
theorem I_{t b:Addr}{vs ws:List Value}{Q:Value->Shared->Prop}(ht:IsTup s.heap t vs.toArray)(hb:IsTup s.heap b ws.toArray)(hv:vs≠[])
  (h1:ws=[]->Q (.ref t) s) (h2:ws≠[]->Q (.ref s.heap.objs.size) {s with heap:=s.heap.push {cls:= .type "tuple",data:= .seq (vs++ws).toArray}})
  (hsz:vs.length+ws.length<=sizeLine):wpAny (model prog w) A (binaryOp .Add (.ref t) (.ref b)) Q E s:=by
 obtain ⟨⟨cls,dd,data,sl⟩,ho,hc,n,hd⟩:=id ht;obtain ⟨⟨Xk,Vd,data2,Np⟩,QA,U_,n2,hd2⟩:=id hb;simp only at hc hd U_ hd2;subst hc hd U_ hd2;have e:vs.toArray++ws.toArray=(vs++ws).toArray:=by simp
 by_cases hw:ws=[]
 ·exact concat_meets ⟨_,ho,rfl⟩ ⟨_,QA,rfl⟩ noFill_tuple_add seq_tuple_add PySem.F.slot_tuple_add PySem.F.entry_tuple_add (PySem.F.args_tuple_add_2 _ _)
   (tuple_addW1 t b vs.toArray ws.toArray n n2 dd Vd sl Np (by simpa using hv) (by simp [hw])) ⟨ho,QA,h1 hw⟩
 ·refine concat_meets ⟨_,ho,rfl⟩ ⟨_,QA,rfl⟩ noFill_tuple_add seq_tuple_add PySem.F.slot_tuple_add PySem.F.entry_tuple_add (PySem.F.args_tuple_add_2 _ _)
   (tuple_addW2 t b vs.toArray ws.toArray n n2 dd Vd sl Np (by simpa using hv) (by simpa using hw) (by rw [List.size_toArray,List.size_toArray];exact hsz)) ⟨ho,QA, ?_⟩
  rw [e];exact h2 hw
def dq(n d:Nat):Option Int->Nat
 | none=>d
 | some v=>if v < 0 then (v+(n:Int)).toNat else min v.toNat n
theorem DV(n d:Nat):dq n d none=d:=rfl
theorem n9(n d k:Nat):dq n d (some (k:Int))=min k n:=by show (if (k:Int) < 0 then ((k:Int)+(n:Int)).toNat else min (k:Int).toNat n)=min k n;rw [aaA (by omega),abL]
theorem Mv(n d:Nat)(hd:d<=n)(o:Option Int):dq n d o<=n:=by
 cases o with
 | none=>exact hd
 | some v=>
  show (if v < 0 then (v+(n:Int)).toNat else min v.toNat n)<=n;by_cases hv:v < 0
  ·rw [aaD hv];omega
  ·rw [aaA hv];exact Nat.min_le_right _ _
theorem z_(v:Int)(n d:Nat):(if v < 0 then max (v+(n:Int)) 0 else min v (n:Int))=((dq n d (some v):Nat):Int):=by
 show (if v < 0 then max (v+(n:Int)) 0 else min v (n:Int))=(((if v < 0 then (v+(n:Int)).toNat else min v.toNat n):Nat):Int);by_cases hv:v < 0
 ·simp only [if_pos hv];omega
 ·simp only [if_neg hv];omega
theorem yx(lo hi:Option Int)(n:Nat):Builtin.Slice.sliceAdjust lo hi 1 (n:Int)=(((dq n 0 lo:Nat):Int),((dq n n hi:Nat):Int)):=by
 have h1:¬((1:Int) < 0):=by omega
 unfold Builtin.Slice.sliceAdjust;simp only [h1,if_false];refine Prod.ext ?_ ?_
 ·cases lo with
  | none=>rfl
  | some v=>exact z_ v n 0
 ·cases hi with
  | none=>rfl
  | some v=>exact z_ v n n
theorem yH(i j:Nat):Builtin.Slice.slicePlaces (i:Int) (j:Int) 1=j - i:=by
 unfold Builtin.Slice.slicePlaces;have h1:(1:Int) > 0:=by omega
 simp only [h1,if_true,Int.ediv_one];split <;> omega
theorem o3{v:Value}{o:Option Int}{Q:Option Int->Shared->Prop}(p:IsPart v o)(h:Q o s):wpAny (model prog w) A (Builtin.Slice.slicePartIndex v) Q E s:=by
 cases p with
 | none=>exact slicePart_none h
 | int i t=>exact slicePart_int h
theorem lS{sl:Addr}{vl vu:Value}{lo hi:Option Int}{n:Nat}{Q:Int×Int×Nat->Shared->Prop}(hs:s.heap.IsSliceOf sl vl vu .none)(pl:IsPart vl lo)(pu:IsPart vu hi)
  (h:Q (((dq n 0 lo:Nat):Int),1,dq n n hi - dq n 0 lo) s):wpAny (model prog w) A (Builtin.Slice.sliceApplied (.ref sl) (pure (n:Int))) Q E s:=by
 obtain ⟨os,K9,VP,QR⟩:=id hs;unfold Builtin.Slice.sliceApplied Builtin.Slice.sliceFields;refine aah (aah (wpAny_field K9 QR (x:=vl) rfl (aah (wpAny_field K9 QR (x:=vu) rfl (aah (wpAny_field K9 QR (x:= .none) rfl (aaE ?_)))))));refine aah (slicePart_none ?_);show wpAny _ _ (if ((1:Int)==0)=true then _ else _) _ _ s;rw [aaA (by decide)];refine aah (o3 pl (aah (o3 pu (aah (aaE ?_)))));show wpAny _ _ (match Builtin.Slice.sliceAdjust lo hi 1 (n:Int) with | (lo,hi)=>pure (lo,(1:Int),Builtin.Slice.slicePlaces lo hi 1)) _ _ s;rw [yx lo hi n];show wpAny _ _ (pure (((dq n 0 lo:Nat):Int),(1:Int),Builtin.Slice.slicePlaces ((dq n 0 lo:Nat):Int) ((dq n n hi:Nat):Int) 1)) _ _ s;rw [yH];exact aaE h
theorem Gf(xs:Array Value)(i k:Nat):((List.range k).filterMap λ(m:Nat)=>xs[((i:Int)+(m:Int) * 1).toNat]?).toArray=((xs.toList.drop i).take k).toArray:=by
 have e:(λ(m:Nat)=>xs[((i:Int)+(m:Int) * 1).toNat]?)=λm=>xs[i+m]? :=by
  funext m
  have:((i:Int)+(m:Int) * 1).toNat=i+m:=by omega
  rw [this]
 rw [e];have:=pick_run xs i k;rw [List.filterMap_map] at this;have e2:((λx=>xs[x]?) ∘ λx=>i+x)=λm=>xs[i+m]? :=rfl;rw [e2] at this;rw [this]
theorem kW{t sl:Addr}{items:Array Value}{vl vu:Value}{lo hi:Option Int}{Q:Value->Shared->Prop}(ht:IsTup s.heap t items)(hs:s.heap.IsSliceOf sl vl vu .none)(pl:IsPart vl lo)(pu:IsPart vu hi)
  (hw:¬(dq items.size 0 lo=0/\dq items.size items.size hi=items.size))
  (h:Q (.ref s.heap.objs.size) {s with heap:=s.heap.push {cls:= .type "tuple",data:= .seq ((items.toList.drop (dq items.size 0 lo)).take (dq items.size items.size hi - dq items.size 0 lo)).toArray}})
  (hsz:items.size<=sizeLine):wpAny (model prog w) A (getItem (.ref t) (.ref sl)) Q E s:=by
 have AO:sizeOk (.seq ((items.toList.drop (dq items.size 0 lo)).take (dq items.size items.size hi - dq items.size 0 lo)).toArray):=by show ((items.toList.drop (dq items.size 0 lo)).take (dq items.size items.size hi - dq items.size 0 lo)).toArray.size<=sizeLine;rw [aaT,abc,aa3,aaX];omega
 have hj:dq items.size items.size hi<=items.size:=Mv _ _ (aak _) hi;obtain ⟨os,K9,VP,QR⟩:=id hs;have Wh:s.TypeIs (.ref sl) "slice":=⟨os,K9,VP⟩;unfold getItem
 try with_reducible refine wpAny_holding ?_
 first | refine aah (aaE ?_) | skip
 refine aah (wpAny_sequenceKey ht.typeIs (by decide) ?_)
 refine aah (wpAny_callSpecial?_slot (name:=Str.ofString "__getitem__") ht.typeIs PyProof.Rows.slot_tuple_getitem
  (wpAny_call_entry PyProof.Rows.slot_tuple_getitem ht.typeIs entry_tuple_getitem ?_ (args_tuple_getitem _ _)))
 show wpAny _ _ (Builtin.Tuple.tupleItemsOf (.ref t) >>= _) _ _ s;refine aah (tupleItemsOf_ ht ?_);refine aah (wpAny_typeOf Wh ?_);rw [aaD (by decide)];refine aah (lS hs pl pu ?_);have ZW:¬((((dq items.size 0 lo:Nat):Int)==0&&(1:Int)==1&&(dq items.size items.size hi - dq items.size 0 lo)==items.size)=true):=by intro q;rw [aap,aap] at q;have q1:((dq items.size 0 lo:Nat):Int)=0:=eq_of_beq q.1.1;have q2:dq items.size items.size hi - dq items.size 0 lo=items.size:=eq_of_beq q.2;exact hw ⟨by omega,by omega⟩
 show wpAny _ _ (if (((dq items.size 0 lo:Nat):Int)==0&&(1:Int)==1&&(dq items.size items.size hi - dq items.size 0 lo)==items.size)=true then _ else _) _ _ s;rw [aaA ZW,Gf]
 first
  | exact aah (m:=Builtin.Tuple.tupleExact _) (wpAny_newObj_type (aaE ⟨_,rfl,aaE h⟩) AO)
  | exact aah (m:=Builtin.Tuple.tupleExact _) (wpAny_newObj_type (aah (aaE (aaE ⟨_,rfl,aaE h⟩))) AO)
  | exact aah (aah (m:=Builtin.Tuple.tupleExact _) (wpAny_newObj_type (aaE (aaE ⟨_,rfl,aaE h⟩)) AO))
  | exact aah (aah (m:=Builtin.Tuple.tupleExact _) (wpAny_newObj_type (aaE ⟨_,rfl,aaE h⟩) AO))
end
end HT
namespace L2
open PySem PySem.Spec PyProof.Rows
variable{X:Cx}{n:Nat}{γ:List (Addr×Obj)}{s:Shared}{its:List Value}
abbrev TO:=St->Hp->(Option Int->Hp->Prop)->Prop
def PO(X:Cx)(e:Option Expr)(t:TO):Prop:=
 ∀(γ:List (Addr×Obj)) (s:Shared) (σ:St) (H:Hp) (Q:Option Int->Hp->Prop),Inv X γ σ H s->t σ H Q->
  wpAny (model X.prog X.w) X.A (evalPart e X.env) (λu s'=>∃o H',Inv X γ σ H' s'/\IsPart u o/\Q o H') X.xe s
def Jc:TO:=λ_ H Q=>Q none H
def Oy(t:TE):TO:=λσ H Q=>t σ H λx H1=>∃i,x= .int i/\Q (some i) H1
section
variable{e:Expr}{te:TE}{lo hi:Option Expr}{tl th:TO}{pos p2:Pos}
theorem nV:PO X none Jc:=by intro γ s σ H Q I h;rw [evalPart_none];exact aaE ⟨none,H,I, .none,h⟩
theorem iH(h:PE X e te):PO X (some e) (Oy te):=by intro γ s σ H Q I hw;rw [evalPart_some];refine aY (h γ s σ H _ I hw) λu s1 ⟨x,H1,I1,r1,q1⟩=> ?_;obtain ⟨i,rfl,q⟩:=q1;obtain ⟨t,rfl⟩:=r1;exact ⟨some i,H1,I1, .int i t,q⟩
def Qz(X:Cx)(r:V->Option Int->Option Int->Hp->VK->Prop):Prop:=
 ∀(γ:List (Addr×Obj)) (s:Shared) (σ:St) (H:Hp) (x:V) (v vl vu:Value) (lo hi:Option Int) (sl:Addr) (Q:VK),Inv X γ σ H s->ah x v->s.heap.IsSliceOf sl vl vu .none->IsPart vl lo->IsPart vu hi->r x lo hi H Q->
  ∃T id,typeLookup (.type T) "__getitem__"=pure (some (.builtin id))/\s.TypeIs v T/\wpAny (model X.prog X.w) X.A (getItem v (.ref sl)) (EP X γ σ Q) X.xe s
def XO(r:V->Option Int->Option Int->Hp->VK->Prop)(te:TE)(tl th:TO):TE:=λσ H Q=>te σ H λx H1=>tl σ H1 λl H2=>th σ H2 λu H3=>r x l u H3 Q
theorem hJ{r:V->Option Int->Option Int->Hp->VK->Prop}(hr:Qz X r)(he:PE X e te)(hl:PO X lo tl)(hu:PO X hi th):PE X (.Subscript e (.Slice lo hi none p2) pos) (XO r te tl th):=by intro γ s σ H Q I h;refine Subscript_ (aY (he γ s σ H _ I h) λv s1 ⟨x,H1,I1,r1,q1⟩=> ?_);refine wpAny_Slice (aY (hl γ s1 σ H1 _ I1 q1) λvl s2 ⟨l,H2,I2,pl,q2⟩=>aY (hu γ s2 σ H2 _ I2 q2) λvu s3 ⟨u,H3,I3,pu,q3⟩=> ?_);rw [evalPart_none];refine aaE ?_;have I4:Inv X γ σ H3 {s3 with heap:=s3.heap.push {cls:= .type "slice",data:= .fields #[vl,vu, .none]}}:=I3.kept (t':=s3.toks) λb ob q=>aaf _ q;obtain ⟨T,id,hT,ht,hg⟩:=hr γ {s3 with heap:=s3.heap.push {cls:= .type "slice",data:= .fields #[vl,vu, .none]}} σ H3 x v vl vu l u s3.heap.objs.size Q I4 r1 (Heap.IsSliceOf.new ..) pl pu q3;show wpAny (model X.prog X.w) X.A (subscriptTail e (.Slice lo hi none p2) v (.ref s3.heap.objs.size)) (EP X γ σ Q) X.xe {s3 with heap:=s3.heap.push {cls:= .type "slice",data:= .fields #[vl,vu, .none]}};exact tail_any (ops:=[.ref s3.heap.objs.size,v]) ht hT hg (by with_unfolding_all rfl)
def qN(xs:List V)(lo hi:Option Int):List V:=(xs.drop (HT.dq xs.length 0 lo)).take (HT.dq xs.length xs.length hi - HT.dq xs.length 0 lo)
theorem ny(xs:List V)(lo hi:Option Int):(qN xs lo hi).length<=xs.length:=by unfold qN;rw [abc,aa3];omega
def Q6(K:fI):V->Option Int->Option Int->Hp->VK->Prop:=λx lo hi H Q=>∃a xs,x= .ref a/\j0 K H a xs/\
 ¬(HT.dq xs.length 0 lo=0/\HT.dq xs.length xs.length hi=xs.length)/\∀p,H p=none->Q (.ref p) (upd H p (.tup (qN xs lo hi)))
theorem KZ:Qz X (Q6 X.K):=by
 intro γ s σ H x v vl vu lo hi sl Q I rx hs pl pu h;obtain ⟨a,xs,rfl,hx,hw,q⟩:=h;cases rx;obtain ⟨its,r,ht,hz⟩:=I.tuple hx;have hlen:its.toArray.size=xs.length:=by rw [aaT];exact r.length.symm
 refine ⟨"tuple",_,PyProof.Rows.slot_tuple_getitem.lookup,ht.typeIs, ?_⟩;refine HT.kW ht hs pl pu (by rw [hlen];exact hw) ?_ (by rw [hlen];exact hz);rw [hlen];refine ⟨.ref s.heap.objs.size,_,I.laid (t':=s.toks) (o:= .tup (qN xs lo hi)) (λb ob q=>aaf _ q) (aak _) ?_,rfl,q _ (I.aC.fresh (aak _))⟩;exact ⟨aaq (ny xs lo hi) hz,_,(r.drop (HT.dq xs.length 0 lo)).take (HT.dq xs.length xs.length hi - HT.dq xs.length 0 lo),IsTup.new _ _⟩
def JL(K:fI):R2:=λx y H Q=>∃a b xs ys,x= .ref a/\y= .ref b/\j0 K H a xs/\j0 K H b ys/\xs≠[]/\xs.length+ys.length<=sizeLine/\
 (ys=[]->Q (.ref a) H)/\(ys≠[]->∀p,H p=none->Q (.ref p) (upd H p (.tup (xs++ys))))
theorem Φ.uJ{xs:List V}{us:List Value}(r:Φ xs us):us=[]↔xs=[]:=by
 cases r with
 | nil=>simp
 | cons _ _=>simp
theorem IL:gh X (binaryOp .Add) (JL X.K):=by intro γ s σ H x y v u Q I rx ry h;obtain ⟨a,b,xs,ys,rfl,rfl,ha,hb,hx,hz,q1,q2⟩:=h;cases rx;cases ry;obtain ⟨its,r1,p1,_⟩:=I.tuple ha;obtain ⟨F0,r2,p2,_⟩:=I.tuple hb;refine HT.I_ p1 p2 (λz=>hx (r1.uJ.mp z)) (λz=>⟨.ref a,H,I,rfl,q1 (r2.uJ.mp z)⟩) (λz=> ?_) (by rw [<-r1.length,<-r2.length];exact hz);refine ⟨.ref s.heap.objs.size,_,I.laid (t':=s.toks) (o:= .tup (xs++ys)) (λb ob q=>aaf _ q) (aak _) ?_,rfl,q2 (λw=>z (r2.uJ.mpr w)) _ (I.aC.fresh (aak _))⟩;exact ⟨by rw [aab];exact hz,_,r1.append r2,IsTup.new _ _⟩
end
def GH(n:Nat)(i:Int):Option Nat:=if 0<=i then (if i < n then some i.toNat else none) else if -(n:Int)<=i then some (i+n).toNat else none
def gP{α:Type}(xs:List α)(i:Int):Option α:=(GH xs.length i).bind λj=>xs[j]?
theorem A7{i:Int}{j:Nat}(h:GH n i=some j):seqIndex? i n=some j/\j < n/\ -(n:Int)<=i/\i < n:=by
 unfold GH at h;by_cases h0:0<=i
 ·rw [aaD h0] at h;by_cases h1:i < n
  ·rw [aaD h1] at h;have e:i.toNat=j:=aaw h;exact ⟨by rw [seqIndex_of h0 h1,e],by omega,by omega,h1⟩
  ·rw [aaA h1] at h;cases h
 ·rw [aaA h0] at h;by_cases h1: -(n:Int)<=i
  ·rw [aaD h1] at h;have e:(i+n).toNat=j:=aaw h;exact ⟨by rw [seqIndex_neg (by omega) h1,e],by omega,h1,by omega⟩
  ·rw [aaA h1] at h;cases h
theorem sU{α:Type}{xs:List α}{i:Int}{v:α}(h:gP xs i=some v):∃j,seqIndex? i xs.length=some j/\xs[j]? =some v/\j < xs.length/\ -(xs.length:Int)<=i/\i < xs.length:=by
 unfold gP at h;cases e:GH xs.length i with
 | none=>rw [e] at h;cases h
 | some j=>
  rw [e] at h;obtain ⟨h1,h2,h3,h4⟩:=A7 e;exact ⟨j,h1,h,h2,h3,h4⟩
theorem Ρ{α:Type}{xs:List α}{j:Nat}{v:α}(h:xs[j]? =some v):gP xs (j:Int)=some v:=by
 have hj:j < xs.length:=(aag.mp h).1;have e:GH xs.length (j:Int)=some j:=by unfold GH;rw [if_pos (by omega),if_pos (by omega)];simp
 unfold gP;rw [e];exact h
def tL(b:Expr):Prop:=∀o i,subscripted b false o i=operate [o,i] (getItem o i)
def GJ(X:Cx)(r:R2):Prop:=
 ∀(value slice:Expr) (γ:List (Addr×Obj)) (s:Shared) (σ:St) (H:Hp) (x y:V) (v u:Value) (Q:VK),Inv X γ σ H s->ah x v->ah y u->r x y H Q->
  subscripted slice false v u=operate [v,u] (getItem v u)->wpAny (model X.prog X.w) X.A (subscriptTail value slice v u) (EP X γ σ Q) X.xe s
def Mp(X:Cx)(id:String)(r:V->List V->Hp->VK->Prop):Prop:=
 ∀(γ:List (Addr×Obj)) (s:Shared) (σ:St) (H:Hp) (x:V) (xs:List V) (v:Value) (us:List Value) (Q:VK),Inv X γ σ H s->ah x v->Φ xs us->r x xs H Q->
  wpAny (model X.prog X.w) X.A (call (.builtin id) (v::us)) (EP X γ σ Q) X.xe s
section
variable{a b:Expr}{ta tb:TE}{pos:Pos}
theorem GJ.or{r r':R2}(h:GJ X r)(h':GJ X r'):GJ X (λx y H Q=>r x y H Q\/r' x y H Q):=by
 intro value slice γ s σ H x y v u Q I rx ry q hs;rcases q with q | q
 ·exact h value slice γ s σ H x y v u Q I rx ry q hs
 ·exact h' value slice γ s σ H x y v u Q I rx ry q hs
theorem Pp{r:R2}(hr:GJ X r)(ha:PE X a ta)(hb:PE X b tb)(hs:tL b):PE X (.Subscript a b pos) (OP r ta tb):=by intro γ s σ H Q I h;exact Subscript_ (MC ha hb I h λv u s2 x y H2 I2 rx ry q=>hr a b γ s2 σ H2 x y v u Q I2 rx ry q (hs _ _))
def Py(K:fI):R2:=λx y H Q=>∃p xs i v,x= .ref p/\y= .int i/\fc K H p xs/\gP xs i=some v/\Q v H
def Oz(K:fI):R2:=λx y H Q=>∃p xs i v,x= .ref p/\y= .int i/\j0 K H p xs/\gP xs i=some v/\Q v H
def Ob:R2:=λx y H Q=>∃z i c,x= .str z/\y= .int i/\z.length<=sizeLine/\gP z.cps.toList i=some c/\Q (.str ⟨#[c]⟩) H
theorem GX:GJ X (Py X.K):=by
 intro value slice γ s σ H x y v u Q I rx ry h hs;obtain ⟨p,xs,i,z,rfl,rfl,hq,he,q⟩:=h;cases rx;obtain ⟨t,rfl⟩:=ry;obtain ⟨its,r,pl,hz⟩:=I.list hq;obtain ⟨j,h1,h2,h3,h4,h5⟩:=sU he;obtain ⟨w,ew,xG⟩:=r.get h2;have hl:=r.length;have hn:=lz;have fin:EP X γ σ Q w s:=⟨z,H,I,xG,q⟩;by_cases h0:0<=i
 ·have hj:i.toNat=j:=by rw [seqIndex_of h0 h5] at h1;exact aaw h1
  exact item_listR pl.isList h0 (by omega) (by rw [hj];simpa using ew) fin hs
 ·have hj:(i+(its.toArray.size:Int)).toNat=j:=by rw [seqIndex_neg (by omega) h4] at h1;rw [aaT,<-hl];exact aaw h1
  exact subscriptTail_builtinR (x:=w) pl.isList.typeIs slot_list_getitem.lookup
   (wpAny_getItem_list_neg (Q:=λr s'=>r=w/\EP X γ σ Q r s') pl.isList (by omega) (by rw [List.size_toArray] <;> omega) (by omega) (by rw [hj];simpa using ew) ⟨rfl,fin⟩) hs
theorem KH:GJ X (Oz X.K):=by
 intro value slice γ s σ H x y v u Q I rx ry h hs;obtain ⟨p,xs,i,z,rfl,rfl,hq,he,q⟩:=h;cases rx;obtain ⟨t,rfl⟩:=ry;obtain ⟨its,r,pl,hz⟩:=I.tuple hq;obtain ⟨j,h1,h2,h3,h4,h5⟩:=sU he;obtain ⟨w,ew,xG⟩:=r.get h2;have hl:=r.length;have hn:=lz;have fin:EP X γ σ Q w s:=⟨z,H,I,xG,q⟩
 exact subscriptTail_builtinR (x:=w) pl.typeIs slot_tuple_getitem.lookup
  (getItem_tuple (j:=j) (Q:=λr s'=>r=w/\EP X γ σ Q r s') pl (by omega) (by omega) (by rw [List.size_toArray,<-hl];exact h1) (by simpa using ew) ⟨rfl,fin⟩) hs
theorem Me:GJ X Ob:=by
 intro value slice γ s σ H x y v u Q I rx ry h hs;obtain ⟨z,i,c,rfl,rfl,hz,he,q⟩:=h;obtain ⟨t,rfl⟩:=rx;obtain ⟨t',rfl⟩:=ry;obtain ⟨j,h1,h2,h3,h4,h5⟩:=sU he;have hl:z.cps.toList.length=z.length:=by simp [Str.length]
 rw [hl] at h1 h4 h5;have hn:=lz
 exact tail_any (typeIs_str s z t) slot_str_getitem.lookup (getItem_str (c:=c) (by
  have e1:decide (i < -(2 ^ 63:Int))=false:=aaC (by omega);have e2:decide (i ≥ 2 ^ 63)=false:=aaC (by omega)
  rw [e1,e2,Bool.or_false]) (by rw [h1];simpa using h2) ⟨.str ⟨#[c]⟩,H,I.tok _,⟨_,rfl⟩,q⟩) hs
def Vp(K:fI):R2:=λx y H Q=>Py K x y H Q\/Oz K x y H Q\/Ob x y H Q
theorem Lr:GJ X (Vp X.K):=GX.or (KH.or Me)
theorem xU(its:List Value)(n j:Nat)(u:Value):Obj.mapSeq (·.setIfInBounds j u) {cls:= .type "list",data:= .seq its.toArray n}={cls:= .type "list",data:= .seq (its.set j u).toArray n}:=by simp [Obj.mapSeq]
theorem Inv.lst{γ:List (Addr×Obj)}{σ:St}{H:Hp}{s:Shared}{p:Addr}{xs:List V}(I:Inv X γ σ H s)(h:H p=some (.lst xs)):
  ∃(its:List Value) (n:Nat),Φ xs its/\s.heap.get? p=some {cls:= .type "list",data:= .seq its.toArray n}/\xs.length<=sizeLine:=by
 obtain ⟨z,its,n,r,e⟩:=I.aC p _ h;exact ⟨its,n,r,e,z⟩
theorem Inv.Li{σ:St}{H:Hp}{p:Addr}{xs ys:List V}{its':List Value}{n':Nat}{f:Obj->Obj}(I:Inv X γ σ H s)(h:H p=some (.lst xs))
  (ho:s.heap.get? p=some {cls:= .type "list",data:= .seq its.toArray n}) (hf:f {cls:= .type "list",data:= .seq its.toArray n}={cls:= .type "list",data:= .seq its'.toArray n'}) (r:Φ ys its') (hz:ys.length<=sizeLine) (t:Nat):
  Inv X γ σ (upd H p (.lst ys)) {s with heap:=s.heap.update p f,toks:=t}:=by
 have e:(s.heap.update p f).get? p=some {cls:= .type "list",data:= .seq its'.toArray n'}:=by rw [Heap.get?_update_self f ho (by rw [hf] <;> rfl),hf]
 refine I.write (x:=p) (e:=p) (by rw [h];trivial) (.inl rfl) (λb u hb q=>(Heap.get?_update_other _ _ (Ne.symm hb)).trans q) ⟨_,e⟩ ?_;exact ⟨hz,its',n',r,e⟩
def JN:V->V->V->Hp->(Hp->Prop)->Prop:=λo i v H Q=>∃p xs k j,o= .ref p/\i= .int k/\H p=some (.lst xs)/\GH xs.length k=some j/\Q (upd H p (.lst (xs.set j v)))
theorem GB:Pq X JN:=by
 intro γ s σ H o i v ov iv u Q I ro ri rv h;obtain ⟨p,xs,k,j,rfl,rfl,hp,hj,q⟩:=h;cases ro;obtain ⟨t,rfl⟩:=ri;obtain ⟨its,n,r,ho,hz⟩:=I.lst hp;obtain ⟨h1,h2,h3,h4⟩:=A7 hj;have hl:=r.length;have hn:=lz
 have I':Inv X γ σ (upd H p (.lst (xs.set j v))) {s with heap:=s.heap.update p (Obj.mapSeq (·.setIfInBounds j u))}:=
  I.Li hp ho (xU its n j u) (r.set rv j) (by rw [abf];exact hz) s.toks
 by_cases h0:0<=k
 ·have hk:k.toNat=j:=by rw [seqIndex_of h0 h4] at h1;exact aaw h1
  exact PySem.W.ki_setAt ho h0 (by omega) (by rw [aaT,<-hl];exact h4) (by rw [hk];exact ⟨_,I',q⟩)
 ·have hk:(k+(its.toArray.size:Int)).toNat=j:=by rw [seqIndex_neg (by omega) h3] at h1;rw [aaT,<-hl];exact aaw h1
  exact PySem.W.ki_setBack ho (by omega) (by rw [aaT,<-hl];exact h3) (by omega) (by rw [hk];exact ⟨_,I',q⟩)
theorem um(lo hi:Option Int)(n:Nat):(sliceBounds lo hi none n).1=((HT.dq n 0 lo:Nat):Int)/\(sliceBounds lo hi none n).2.1=((HT.dq n n hi:Nat):Int)/\(sliceBounds lo hi none n).2.2=1:=by
 refine ⟨?_, ?_,rfl⟩
 ·cases lo with
  | none=>simp [sliceBounds,HT.dq]
  | some i=>
   simp only [sliceBounds,HT.dq,Option.getD_none,show (1:Int) > 0 by decide,if_true];by_cases h:i < 0
   ·simp only [h,if_true] <;> omega
   ·simp only [h,if_false] <;> omega
 ·cases hi with
  | none=>simp [sliceBounds,HT.dq]
  | some i=>
   simp only [sliceBounds,HT.dq,Option.getD_none,show (1:Int) > 0 by decide,if_true];by_cases h:i < 0
   ·simp only [h,if_true] <;> omega
   ·simp only [h,if_false] <;> omega
theorem qX(its:List Value)(lo hi:Option Int):slicePick its.toArray lo hi none=((its.drop (HT.dq its.length 0 lo)).take (HT.dq its.length its.length hi - HT.dq its.length 0 lo)).toArray:=by obtain ⟨h1,h2,h3⟩:=um lo hi its.toArray.size;unfold slicePick;rw [h1,h2,h3];simp only [sliceRange_one,pick_run,List.size_toArray] <;> rfl
def UQ(K:fI):V->Option Int->Option Int->Hp->VK->Prop:=λx lo hi H Q=>∃a xs,x= .ref a/\fc K H a xs/\∀p,H p=none->Q (.ref p) (upd H p (.lst (qN xs lo hi)))
theorem AD:Qz X (UQ X.K):=by intro γ s σ H x v vl vu lo hi sl Q I rx hs pl pu h;obtain ⟨a,xs,rfl,hx,q⟩:=h;cases rx;obtain ⟨its,r,ht,hz⟩:=I.list hx;have hlen:=r.length;refine ⟨"list",_,slot_list_getitem.lookup,ht.isList.typeIs, ?_⟩;refine wpAny_getItem_list_slice ht.isList hs pl pu .none (by simp) ?_ (by rw [List.size_toArray] <;> omega);rw [qX,<-hlen];refine ⟨.ref s.heap.objs.size,_,I.laid (t':=s.toks) (o:= .lst (qN xs lo hi)) (λb ob q=>aaf _ q) (aak _) ?_,rfl,q _ (I.aC.fresh (aak _))⟩;exact ⟨aaq (ny xs lo hi) hz,_,0,(r.drop (HT.dq xs.length 0 lo)).take (HT.dq xs.length xs.length hi - HT.dq xs.length 0 lo),aaM _ rfl⟩
def dG:V->Bool
 | .bw=>true
 | .bl _=>true
 | .int _=>true
 | .str _=>true
 | _=>false
def z6:V->V->Bool
 | .bw, .bw=>true
 | .bl a, .bl b=>a==b
 | .bl a, .int b=>(if a then 1 else 0)==b
 | .int a, .bl b=>a==(if b then 1 else 0)
 | .int a, .int b=>a==b
 | .str a, .str b=>a==b
 | _,_=>false
theorem zB{A:Around}{y x:V}{u v:Value}(ry:ah y u)(rx:ah x v)(fy:dG y=true)(fx:dG x=true):SeqAt.EqAt A s u v (z6 y x):=by
 cases y with
 | bw=>
  cases ry;cases x with
  | bw=>cases rx;exact SeqAt.EqAt.same _
  | bl b=>cases rx;exact SeqAt.EqAt.none_bool b
  | int b=>obtain ⟨t,rfl⟩:=rx;exact SeqAt.EqAt.none_int b t
  | str b=>obtain ⟨t,rfl⟩:=rx;exact SeqAt.EqAt.none_str b t
  | _=>exact aaG (show false=true from fx) aan
 | bl a=>
  cases ry;cases x with
  | bw=>cases rx;exact SeqAt.EqAt.bool_none a
  | bl b=>cases rx;exact SeqAt.EqAt.bool_bool a b
  | int b=>obtain ⟨t,rfl⟩:=rx;exact SeqAt.EqAt.bool_int a b t
  | str b=>obtain ⟨t,rfl⟩:=rx;exact SeqAt.EqAt.bool_str a b t
  | _=>exact aaG (show false=true from fx) aan
 | int a=>
  obtain ⟨t',rfl⟩:=ry;cases x with
  | bw=>cases rx;exact SeqAt.EqAt.int_none a t'
  | bl b=>cases rx;exact SeqAt.EqAt.int_bool a t' b
  | int b=>obtain ⟨t,rfl⟩:=rx;exact SeqAt.EqAt.int_int a t' b t
  | str b=>obtain ⟨t,rfl⟩:=rx;exact SeqAt.EqAt.int_str a t' b t
  | _=>exact aaG (show false=true from fx) aan
 | str a=>
  obtain ⟨t',rfl⟩:=ry;cases x with
  | bw=>cases rx;exact SeqAt.EqAt.str_none a t'
  | bl b=>cases rx;exact SeqAt.EqAt.str_bool a t' b
  | int b=>obtain ⟨t,rfl⟩:=rx;exact SeqAt.EqAt.str_int a t' b t
  | str b=>obtain ⟨t,rfl⟩:=rx;exact SeqAt.EqAt.str_str a t' b t
  | _=>exact aaG (show false=true from fx) aan
 | _=>exact aaG (show false=true from fy) aan
def y_(x:V)(u:Value):Bool:=match u with
 | .none=>z6 .bw x
 | .bool b=>z6 (.bl b) x
 | .int i _=>z6 (.int i) x
 | .str z _=>z6 (.str z) x
 | _=>false
theorem Ej{x y:V}{u:Value}(r:ah y u)(f:dG y=true):y_ x u=z6 y x:=by
 cases y with
 | bw=>cases r;rfl
 | bl b=>cases r;rfl
 | int i=>obtain ⟨t,rfl⟩:=r;rfl
 | str z=>obtain ⟨t,rfl⟩:=r;rfl
 | _=>exact aaG (show false=true from f) aan
theorem k6{x:V}:∀{xs:List V} {us:List Value},Φ xs us->xs.all dG=true->us.any (y_ x)=xs.any λy=>z6 y x
 | _,_, .nil,_=>rfl
 | y::xs,u::us, .cons r t,f=>by rw [abr,aap] at f;rw [abm,abm,Ej r f.1,k6 t f.2]
theorem ic{A:Around}{s:Shared}{x:V}{v:Value}(rx:ah x v)(fx:dG x=true):∀{xs:List V} {us:List Value},Φ xs us->xs.all dG=true->∀u∈us,SeqAt.EqAt A s u v (y_ x u)
 | _,_, .nil,_=>λu hu=>by cases hu
 | y::xs,u::us, .cons r t,f=>λu' hu=>by
  rw [abr,aap] at f;rcases aar.mp hu with rfl | hu
  ·rw [Ej r f.1];exact zB r rx f.1 fx
  ·exact ic rx fx t f.2 u' hu
def LF(x:V)(xs:List V):Bool:=xs.any λy=>z6 y x
def QU(K:fI)(neg:Bool):R2:=λx y H Q=>∃p xs,y= .ref p/\(fc K H p xs\/j0 K H p xs)/\dG x=true/\xs.all dG=true/\Q (.bl (if neg then !LF x xs else LF x xs)) H
theorem Bp:gh X (compareOp .In) (QU X.K false):=by
 intro γ s σ H x y v u Q I rx ry h;obtain ⟨p,xs,rfl,hq,fx,fs,q⟩:=h;cases ry;rcases hq with hq | hq
 ·obtain ⟨its,r,pl,hz⟩:=I.list hq;refine SeqAt.in_listAt (y_ x) pl.isList (λw hw=>ic rx fx r fs w (by simpa using hw)) ⟨.bl _,H,I,rfl, ?_⟩;rw [show its.toArray.any (y_ x)=its.any (y_ x) by simp,k6 r fs];exact q
 ·obtain ⟨its,r,pl,hz⟩:=I.tuple hq;refine SeqAt.in_tupleAt (y_ x) pl (λw hw=>ic rx fx r fs w (by simpa using hw)) ⟨.bl _,H,I,rfl, ?_⟩;rw [show its.toArray.any (y_ x)=its.any (y_ x) by simp,k6 r fs];exact q
theorem uh:gh X (compareOp .NotIn) (QU X.K true):=by
 intro γ s σ H x y v u Q I rx ry h;obtain ⟨p,xs,rfl,hq,fx,fs,q⟩:=h;cases ry;rcases hq with hq | hq
 ·obtain ⟨its,r,pl,hz⟩:=I.list hq;refine SeqAt.notIn_listAt (y_ x) pl.isList (λw hw=>ic rx fx r fs w (by simpa using hw)) ⟨.bl _,H,I,rfl, ?_⟩;rw [show its.toArray.any (y_ x)=its.any (y_ x) by simp,k6 r fs];exact q
 ·obtain ⟨its,r,pl,hz⟩:=I.tuple hq;refine SeqAt.notIn_tupleAt (y_ x) pl (λw hw=>ic rx fx r fs w (by simpa using hw)) ⟨.bl _,H,I,rfl, ?_⟩;rw [show its.toArray.any (y_ x)=its.any (y_ x) by simp,k6 r fs];exact q
theorem uN:b9 X (.builtin "len") (λxs H Q=>∃p ys,xs=[.ref p]/\(fc X.K H p ys\/j0 X.K H p ys)/\Q (.int ys.length) H):=by
 intro γ s σ H xs us Q I r h;obtain ⟨p,ys,rfl,hq,q⟩:=h;obtain ⟨u,rfl,rx⟩:=eW r;cases rx;have hn:=lz;rcases hq with hq | hq
 ·obtain ⟨its,r',pl,hz⟩:=I.list hq;have hlen:=r'.length;exact Calls.call_len_list pl.isList (by simp only [List.size_toArray] <;> omega) ⟨.int ys.length,H,I.tok _,⟨s.toks+1,by rw [List.size_toArray,hlen]⟩,q⟩
 ·obtain ⟨its,r',pl,hz⟩:=I.tuple hq;have hlen:=r'.length;exact len_tuple pl (by simp only [List.size_toArray] <;> omega) ⟨.int ys.length,H,I.tok _,⟨s.toks+1,by rw [List.size_toArray,hlen]⟩,q⟩
theorem u3:b9 X (.builtin "len") (λxs H Q=>∃z,xs=[.str z]/\z.length<=sizeLine/\Q (.int z.length) H):=by intro γ s σ H xs us Q I r h;obtain ⟨z,rfl,hz,q⟩:=h;obtain ⟨u,rfl,t,rfl⟩:=eW r;have hn:=lz;exact len_str (by omega) ⟨.int z.length,H,I.tok _,⟨_,rfl⟩,q⟩
theorem b9.or{f:Value}{r r':List V->Hp->VK->Prop}(h:b9 X f r)(h':b9 X f r'):b9 X f (λxs H Q=>r xs H Q\/r' xs H Q):=by
 intro γ s σ H xs us Q I rs q;rcases q with q | q
 ·exact h γ s σ H xs us Q I rs q
 ·exact h' γ s σ H xs us Q I rs q
theorem uc:b9 X (.type "list") (λxs H Q=>∃p ys,xs=[.ref p]/\(fc X.K H p ys\/j0 X.K H p ys)/\∀l,H l=none->Q (.ref l) (upd H l (.lst ys))):=by
 intro γ s σ H xs us Q I r h;obtain ⟨p,ys,rfl,hq,q⟩:=h;obtain ⟨u,rfl,rx⟩:=eW r;cases rx
 have fin:∀(its:List Value),Φ ys its->ys.length<=sizeLine->∀(h':Heap) (c':Nat),(∀b o',s.heap.get? b=some o'->h'.get? b=some o')->
   h'.get? s.heap.objs.size=some {cls:= .type "list",dict:=none,data:= .seq its.toArray c',slots:= #[]}->EP X γ σ Q (.ref s.heap.objs.size) {s with heap:=h'}:=λits r' hz h' c' kp e=>
  ⟨.ref s.heap.objs.size,_,I.laid (t':=s.toks) kp (aak _) (show aP X.prog X.w _ h' _ (.lst ys) from ⟨hz,its,c',r',e⟩),rfl,q _ (I.aC.fresh (aak _))⟩
 rcases hq with hq | hq
 ·obtain ⟨its,r',pl,hz⟩:=I.list hq;have hlen:=r'.length;obtain ⟨o,ho,hc,n,hd⟩:=pl.isList;exact call_list_seq p (.inl rfl) ho hc hd (λh' c' kp e=>fin its r' hz h' c' kp e) (by simp only [List.size_toArray] <;> omega)
 ·obtain ⟨its,r',pl,hz⟩:=I.tuple hq;have hlen:=r'.length;obtain ⟨o,ho,hc,n,hd⟩:=pl;exact call_list_seq p (.inr rfl) ho hc hd (λh' c' kp e=>fin its r' hz h' c' kp e) (by simp only [List.size_toArray] <;> omega)
theorem qH:b9 X (.type "tuple") (λxs H Q=>∃p ys,xs=[.ref p]/\((fc X.K H p ys/\∀l,H l=none->Q (.ref l) (upd H l (.tup ys)))\/(j0 X.K H p ys/\Q (.ref p) H))):=by
 intro γ s σ H xs us Q I r h;obtain ⟨p,ys,rfl,h⟩:=h;obtain ⟨u,rfl,rx⟩:=eW r;cases rx;rcases h with ⟨hq,q⟩ | ⟨hq,q⟩
 ·obtain ⟨its,r',pl,hz⟩:=I.list hq;have hlen:=r'.length;refine call_tuple_list pl.isList (λh' kp=> ?_) (by simp only [List.size_toArray] <;> omega);have I1:Inv X γ σ H {s with heap:=h'}:=I.kept (t':=s.toks) kp
  have I2:Inv X γ σ (upd H h'.objs.size (.tup ys)) {s with heap:=h'.push {cls:= .type "tuple",data:= .seq its.toArray}}:=
   I1.laid (t':=s.toks) (λb o e=>aaf _ e) (aak _) (show aP X.prog X.w _ _ _ (.tup ys) from ⟨hz,its,r',IsTup.new _ _⟩)
  exact ⟨.ref h'.objs.size,_,I2,rfl,q _ (I1.aC.fresh (aak _))⟩
 ·obtain ⟨its,r',pl,hz⟩:=I.tuple hq;exact call_tuple_same pl ⟨.ref p,H,I,rfl,q⟩
def Vy(K:fI)(T:String)(x:V)(H:Hp):Prop:=match x with
 | .str _=>T="str"
 | .int _=>T="int"
 | .ref p=>(T="list"/\∃xs,fc K H p xs)\/(T="tuple"/\∃o,K.lookup p=some o/\o.cls= .type "tuple"/\o.dict=none)\/
   (T="dict"/\((∃kvs,H p=some (.dK kvs))\/∃kvs,H p=some (.dT kvs)))\/(T="set"/\∃S n,H p=some (.set S n))
 | _=>False
theorem LC{σ:St}{H:Hp}{T:String}{x:V}{v:Value}(I:Inv X γ σ H s)(r:ah x v)(ty:Vy X.K T x H):
  s.TypeIs v T/\∀a,v= .ref a->∃ob,s.heap.get? a=some ob/\ob.dict=none:=by
 cases x with
 | str z=>
  obtain ⟨t,rfl⟩:=r;cases (show T="str" from ty);exact ⟨typeIs_str s z t,λ_ e=>nomatch e⟩
 | int i=>
  obtain ⟨t,rfl⟩:=r;cases (show T="int" from ty);exact ⟨typeIs_int s i t,λ_ e=>nomatch e⟩
 | ref p=>
  cases r;rcases ty with ⟨rfl,xs,hq⟩ | ⟨rfl,o,hk,hc,hd⟩ | ⟨rfl,hk⟩ | ⟨rfl,S,n,hk⟩
  ·obtain ⟨its,_,pl,_⟩:=I.list hq;refine ⟨pl.isList.typeIs,λa e=> ?_⟩;cases e;obtain ⟨o,n,e,c,hd,_⟩:=pl;exact ⟨o,e,hd⟩
  ·refine ⟨⟨o,I.g_ p o hk,hc⟩,λa e=> ?_⟩;cases e;exact ⟨o,I.g_ _ o hk,hd⟩
  ·have z:∃o,s.heap.get? p=some o/\o.ExactDict:=by
    rcases hk with ⟨kvs,hk⟩ | ⟨kvs,hk⟩
    ·obtain ⟨_,_,_,_,o,_,_,e,ex,_⟩:=I.aC p _ hk;exact ⟨o,e,ex⟩
    ·obtain ⟨_,_,_,_,o,_,_,e,ex,_⟩:=I.aC p _ hk;exact ⟨o,e,ex⟩
   obtain ⟨o,e,ex⟩:=z;refine ⟨⟨o,e,ex.1⟩,λa e2=> ?_⟩;cases e2;exact ⟨o,e,ex.2.1⟩
  ·obtain ⟨o,_,_,_,e,ex,_⟩:=I.aC p _ hk;refine ⟨⟨o,e,ex.1⟩,λa e2=> ?_⟩;cases e2;exact ⟨o,e,ex.2.1⟩
 | _=>exact False.elim ty
def YG(K:fI)(T:String)(r:V->List V->Hp->VK->Prop)(to:TE)(t:TA):TE:=λσ H Q=>to σ H λx H1=>Vy K T x H1/\t σ H1 λxs H2=>r x xs H2 Q
variable{o e:Expr}{es:List Expr}{to:TE}{t:TA}{name:Str}{apos af:Pos}{T id:String}{r:V->List V->Hp->VK->Prop}
theorem JY(pa:PlainAttrs T)(slot:Slot T name id)(RD:typeOf (.builtin id)=pure (.type "method_descriptor"))(hm:Mp X id r)(ho:PE X o to)(ha:PA X (e::es) t)
  (gb:attributeBase o name X.env (eval o X.env)=eval o X.env:=by rfl)
  (mE:((backTo af (starEach (e::es) X.env)).all (λx=> !x.1)&&(backToKw af (keywordEach [] X.env)).all (λx=>x.1.isSome)
   &&decide ((e::es).length+([]:List Keyword).length+(if ([]:List Keyword).isEmpty then 0 else 1) < 30))=true:=by rfl)
  (fR:(apos.endLine==af.line)=true:=by rfl) (hs:starEach (e::es) X.env=(false,eval e X.env)::starEach es X.env:=by rfl) (cY:(backTo af (starEach es X.env)).any (·.1)=false:=by rfl):
  PE X (.Call (.Attribute o name apos) (e::es) [] af) (YG X.K T r to t):=by
 intro γ s σ H Q I h;refine wpAny_Call_method_late gb mE fR rfl (aY (ho γ s σ H _ I h) λv s1 ⟨x,H1,I1,r1,ty,q1⟩=> ?_);obtain ⟨h1,h2⟩:=LC I1 r1 ty;refine ⟨T,id,pa,slot,RD,h1,h2, ?_⟩;have hA:=ha af γ s1 σ H1 _ I1 q1;rw [hs] at hA⊢;refine Calls.callWith_builtin (by show (false || (backTo af (starEach es X.env)).any (·.1))=false;rw [cY] <;> rfl) (Calls.evalArgs_plain ?_);exact aY hA λus s2 ⟨vs,H2,I2,r2,q2⟩=>hm γ s2 σ H2 x vs v us Q I2 r1 r2 q2
end
def ZS(X:Cx)(id:String)(r:V->List V->Hp->VK->Prop):Prop:=
 ∀(γ:List (Addr×Obj)) (s:Shared) (σ:St) (H:Hp) (x:V) (xs:List V) (v:Value) (us:List Value) (Q:VK),Inv X γ σ H s->ah x v->Φ xs us->r x xs H Q->
  wpAny (model X.prog X.w) X.A (call (.builtin id) (v::us)) (EP X γ σ Q) X.xe s
theorem Φ.one:∀{x:V} {us:List Value},Φ [x] us->∃u,us=[u]/\ah x u
 | _,_, .cons r .nil=>⟨_,rfl,r⟩
theorem Φ.rep{xs:List V}{us:List Value}(h:Φ xs us):∀k:Nat,Φ (List.replicate k xs).flatten (List.replicate k us).flatten
 | 0=> .nil
 | k+1=>by rw [aaY,aaY,abe,abe];exact Φ.append h (Φ.rep h k)
theorem sP(its:List Value):∀(k:Nat) (Ο:List Value),
  List.foldl (λx1 x2=>x1++x2) Ο.toArray (List.replicate k its.toArray)=(Ο++(List.replicate k its).flatten).toArray
 | 0,Ο=>by simp
 | k+1,Ο=>by
  have e:Ο.toArray++its.toArray=(Ο++its).toArray:=by simp
  have e2:(Ο++its)++(List.replicate k its).flatten=Ο++(List.replicate (k+1) its).flatten:=by rw [aaY,abe,aa4]
  rw [<-e2,<-sP its k (Ο++its),<-e,aaY,abJ]
section
variable{σ:St}{H:Hp}{l b:Addr}{xs ys zs:List V}
theorem Inv.RX{its':List Value}{f:Array Value->Array Value}{t':Nat}(I:Inv X γ σ H s)(hH:H l=some (.lst xs))
  (e:s.heap.get? l=some {cls:= .type "list",data:= .seq its.toArray n}) (hf:f its.toArray=its'.toArray) (hv:Φ ys its') (hz:ys.length<=sizeLine):
  Inv X γ σ (upd H l (.lst ys)) {s with heap:=s.heap.update l (Obj.mapSeq f),toks:=t'}:=by
 have q:=PySem.IsL.update e f;rw [hf] at q;refine I.write (x:=l) (e:=l) (by rw [hH];exact trivial) (.inl rfl) (λb' u hb hu=>(Heap.get?_update_other s.heap (Obj.mapSeq f) (Ne.symm hb)).trans hu) ⟨_,q⟩ ?_;exact ⟨hz,its',_,hv,q⟩
theorem Inv.Ft{t':Nat}(I:Inv X γ σ H s)(hv:Φ ys its)(hz:ys.length<=sizeLine):
  Inv X γ σ (upd H s.heap.objs.size (.lst ys)) {s with heap:=s.heap.push {cls:= .type "list",data:= .seq its.toArray},toks:=t'}:=
 I.laid (λ_ _ q=>aaf _ q) (aak _) ⟨hz,its,0,hv,aaM _ rfl⟩
theorem Inv.fresh(I:Inv X γ σ H s):H s.heap.objs.size=none:=I.aC.fresh (aak _)
theorem Inv.Jb(I:Inv X γ σ H s)(hH:H l=some (.lst xs)):xs.length<=sizeLine/\∃(its:List Value) (n:Nat),Φ xs its/\xs.length=its.length/\s.heap.get? l=some {cls:= .type "list",data:= .seq its.toArray n}:=by obtain ⟨z,its,n,r,e⟩:=I.aC l _ hH;exact ⟨z,its,n,r,r.length,e⟩
theorem EK(h:n<=sizeLine):Builtin.List.listTooLong n=false:=by unfold Builtin.List.listTooLong;exact aaC (by omega)
end
section
def Ax:V->List V->Hp->VK->Prop:=λx vs H Q=>∃l xs y,x= .ref l/\vs=[y]/\H l=some (.lst xs)/\xs.length < sizeLine/\Q .bw (upd H l (.lst (xs++[y])))
theorem rz:ZS X "list.append" Ax:=by intro γ s σ H x vs v us Q I rx rv h;obtain ⟨l,xs,y,rfl,rfl,hH,hz,q⟩:=h;cases rx;obtain ⟨u,rfl,ru⟩:=rv.one;obtain ⟨z,its,n,r,hl,e⟩:=I.Jb hH;refine call_meets F.slot_list_append ⟨_,e,rfl⟩ F.entry_list_append (F.args_list_append_2 _ _) (PySem.list_append l its.toArray n u (by rw [aaT];omega)) ⟨e, ?_⟩;refine ⟨.bw,_,I.RX (its':=its++[u]) hH e (by simp) (r.append (.cons ru .nil)) ?_,rfl,q⟩;rw [aab,List.length_singleton];omega
def MT:R2:=λx y H Q=>∃l b xs zs,x= .ref l/\y= .ref b/\H l=some (.lst xs)/\H b=some (.lst zs)/\xs.length+zs.length<=sizeLine/\∀p,H p=none->Q (.ref p) (upd H p (.lst (xs++zs)))
theorem DB:gh X (binaryOp .Add) MT:=by
 intro γ s σ H x y v u Q I rx ry h;obtain ⟨l,b,xs,zs,rfl,rfl,hH,hB,hz,q⟩:=h;cases rx;cases ry;obtain ⟨z,its,n,r,hl,e⟩:=I.Jb hH;obtain ⟨z2,F0,n2,r2,Jg,e2⟩:=I.Jb hB;refine PySem.P.add_list e e2 ?_ (by rw [aaT,aaT];omega);have ea:its.toArray++F0.toArray=(its++F0).toArray:=by simp
 rw [ea];exact ⟨.ref _,_,I.Ft (t':=s.toks) (r.append r2) (by rw [aab];omega),rfl,q _ I.fresh⟩
def PV:R2:=λx y H Q=>∃l k xs,x= .ref l/\y= .int k/\H l=some (.lst xs)/\ -(2 ^ 63)<=k/\k < 2 ^ 63/\xs.length * k.toNat<=sizeLine/\
 ∀p,H p=none->Q (.ref p) (upd H p (.lst (List.replicate k.toNat xs).flatten))
theorem Jk{α:Type}(xs:List α)(k:Nat):(List.replicate k xs).flatten.length=k * xs.length:=by
 induction k with
 | zero=>simp
 | succ k ih=>rw [aaY,abe,aab,ih,Nat.succ_mul,Nat.add_comm]
theorem Mc:gh X (binaryOp .Mult) PV:=by
 intro γ s σ H x y v u Q I rx ry h;obtain ⟨l,k,xs,rfl,rfl,hH,h1,h2,hz,q⟩:=h;cases rx;obtain ⟨t,rfl⟩:=ry;obtain ⟨z,its,n,r,hl,e⟩:=I.Jb hH;have hlen:its.toArray.size * k.toNat<=sizeLine:=by rw [aaT,<-hl];exact hz
 have UG:¬its.toArray.size * k.toNat > (2 ^ 63 - 1) / 8:=by
  have:(sizeLine:Nat)<=(2 ^ 63 - 1) / 8:=by decide
  omega
 have T6:¬(!Builtin.List.listFitsIndex k)=true:=by rw [fitsIndex_both h1 h2];exact aan
 have O8:¬Builtin.List.listTooLong (its.toArray.size * k.toNat)=true:=by rw [EK hlen];exact aan
 have S':List.foldl (λx1 x2=>x1++x2) #[] (List.replicate (if its.toArray.isEmpty=true then 0 else k.toNat) its.toArray)=(List.replicate k.toNat its).flatten.toArray:=by
  have f0:∀m:Nat,List.foldl (λx1 x2=>x1++x2) #[] (List.replicate m its.toArray)=(List.replicate m its).flatten.toArray:=λm=>by have:=sP its m [];rw [aat] at this;exact this
  rw [f0];cases its with
  | nil=>simp
  | cons a r'=>rw [if_neg (by simp)]
 refine wpAny_binaryOp_repeat_ref (T:="list") (U:="int") (by decide) ⟨_,e,rfl⟩ (λs'=>typeIs_int s' k t) noFill_list_mul F.fills_int_mul F.slot_int_rmul repeat_list F.slot_int_index.lookup
  (call_meets F.slot_int_rmul (typeIs_int s k t) F.entry_int_rmul (F.args_int_rmul_2 _ _) (int___rmul___int_list k t l its.toArray n)
   ⟨e,rfl,⟨_,e,rfl⟩,call_meets F.slot_list_mul ⟨_,e,rfl⟩ F.entry_list_mul (F.args_list_mul_2 _ _) (AutoListH.list___mul___list_int_3 l its.toArray n k t T6 UG O8) ⟨e, ?_⟩⟩)
 rw [S'];exact ⟨.ref _,_,I.Ft (t':=s.toks) (r.rep k.toNat) (by rw [Jk,Nat.mul_comm];exact hz),rfl,q _ I.fresh⟩
end
end L2
namespace Att
open PySem PySem.W PySem.Calls PyProof.Rows
theorem nB{P:Params}{h:Heap}:∀(ns:List Int) (vs:List Value),WellAll P h vs (ns.map WData.int)->IntsAre vs ns:=by
 intro ns
 induction ns with
 | nil=>
  intro vs w;rw [abN] at w;cases w;exact .nil
 | cons n ns ih=>
  intro vs w;rw [aaB] at w;cases w with
  | cons a b=>
   cases a;exact .cons _ _ (ih _ b)
theorem Ba{l:OpenLaw}{n:Nat}(hn:l.most=some n){P:Params}{h:Heap}{args:List WData}{vals:List Value}
  (Il:l.row.toRowW.claim.pre args=true) (SI:WellAll P h vals args):
  ∃a vs ns,vals=[Value.ref a]/\args=[WData.list (ns.map WData.int)]/\h.get? a=some {cls:= .type "list",data:= .seq vs.toArray}/\IntsAre vs ns/\ns.length<=n:=by
 have ZX:WShape.hasAll [] args [.list .int]=true:=(pre_splitW Il).1;have hc:l.pre.holds [] {args:=args}=true:=(pre_splitW Il).2;obtain ⟨d,r,rfl,h1,h2⟩:=hasAllW_cons ZX;obtain rfl:=hasAllW_nil h2;obtain ⟨xs,rfl,h3⟩:=hasW_list h1;obtain ⟨ns,rfl⟩:=items_int h3;have hlen:ns.length<=n:=by
  unfold OpenLaw.pre at hc;have h4:(WTm.not (.lt (.lit (.int (n:Int))) (.len (.arg 0)))).holds [] {args:=[.list (ns.map .int)]}=true:=by have h4:=(holds_andW hc).1;rw [hn] at h4;exact h4
  have h5:=condW_of h4 (w_not (w_lt w_lit (w_len_list (w_arg rfl))));rw [aaa] at h5;refine Nat.le_of_not_lt λq=> ?_;have q':(n:Int) < ((ns.length:Nat):Int):=by omega
  first
   | (rw [aay q'] at h5;exact aaG h5 (by decide))
   | (simp at h5;omega)
 cases SI with
 | cons w1 w2=>
  cases w2;cases w1 with
  | list ho Ef=>exact ⟨_,_,ns,rfl,rfl,ho,nB ns _ Ef,hlen⟩
theorem Co(l:OpenLaw)(args:List WData):l.row.toRowW.claim.post args (.bool true) args=true:=
 postW_of (r:=l.row.toRowW) (X:=(true==true))
  (show WShape.has [] (.bool true) .bool=true by first | rfl | decide | simp [WShape.has,WShape.arms,WShape.armsAll])
  (show (WTm.eq .res (.lit (.bool true))).value [] {args:=args,res:=some (.bool true),after:=args}=some (.bool (true==true)) from w_eq_bool (w_res rfl) w_lit) rfl
theorem vS{l:OpenLaw}{n:Nat}{q:Program}{loose:List Str}{XP:(Str->Option Value)->Heap->Prop}{YP:World->Heap->Prop}{d:DefRec}
  (hn:l.most=some n) (PR:d.params.defaults=[])
  (call:∀(w:World) (s₀ s₁:Shared) (mg mb:Str->Option Value) (fa:Addr) (o:Obj) (pm cd doc:Value) (a:Addr) (vs:List Value) (ns:List Int),
   Ground q loose [] XP w s₀ mg mb s₁.heap->YP w s₁.heap->
   s₁.heap.get? fa=some o->o.data= .func (docDef d.name d.params d.body d.scope pm cd doc)->s₁.heap.CodeRec cd d.name->mg d.name=some (.ref fa)->
   s₁.heap.get? a=some {cls:= .type "list",data:= .seq vs.toArray}->IntsAre vs ns->ns.length<=n->s₁.gens= #[]->
   codeAny (model l.prog w) callerA (.call (.ref fa) ⟨[.ref a],[]⟩) (λr s'=>r= .ok (.ret (.bool true))/\OldK s₁.heap s'.heap/\s'.os=s₁.os/\AllBare s'.gens) s₁):
  WalkO q loose XP YP l.row.toRowW d [] (λf vs=>PySem.call f vs):=by
 intro w s₀ s₁ mg mb G Y fa o pm cd doc dV kV ho hd DR hD HN hg args vals as Il aaj hrd SI UU;obtain rfl:dV= .none:=Dflts.none hD PR;obtain rfl:kV= .none:=Dflts.noKw hD;obtain ⟨a,vs,ns,rfl,rfl,K3,hints,hlen⟩:=Ba hn Il SI;refine enter_call (codeAny_mono (call w s₀ s₁ mg mb fa o pm cd doc a vs ns G Y ho (fd_plain hd) DR HN K3 hints hlen hg) λr s' hq=> ?_);obtain ⟨rfl,h2,h3,h4⟩:=hq;exact ⟨.inl ⟨.bool true, .bool true,[],rfl,λ_=>rfl, .bool true,Co l _,λ_=>⟨List.Pairwise.nil,λ_ hm=>(nomatch hm)⟩⟩,h2,h3,h4⟩
end Att
namespace L2
open PySem PySem.Spec PyProof.Rows
theorem so:∀{vs:List Value} {ns:List Int},IntsAre vs ns->Φ (ns.map V.int) vs
 | _,_, .nil=> .nil
 | _,_, .cons n t h=> .cons ⟨t,rfl⟩ (so h)
def KJ(H:Hp):Prop:=∀b,H b=none\/∃o xs,H b=some (.uo o (.lst xs))
theorem Fh{P:Program}{w:World}{K:fI}{mg mb:Str->Option Value}{CX:xD}{k:Nat}{fa a:Addr}{fd:FuncData}{x:Str}{sp:Sp}{s₁:Shared}{vs:List Value}{ns:List Int}
  (KX:K.In s₁.heap) (Vr:s₁.heap.Ns mainGlobals mg) (hb:s₁.heap.Ns builtinsNs mb) (Xg:∀x:Str,x≠"__name__"->mb x=bootBuiltins x) (Q8:s₁.heap.NoLimit) (hg:s₁.gens= #[])
  (ha:s₁.heap.get? a=some {cls:= .type "list",data:= .seq vs.toArray}) (hi:IntsAre vs ns) (hl:ns.length<=sizeLine) (hr:bx k callerA)
  (F:∀base:Heap,K.In base->base.Ns mainGlobals mg->Τ P w K mg base CX k fa fd [x] sp) (PU:∀(s:Shared) (u:Value),BindsTo s fd ⟨[u],[]⟩ [(x,u)])
  (JZ:∀H:Hp,KJ H->fc K H a (ns.map V.int)->sp [.ref a] H (λv _=>v= .bl true) λ_ _ _=>False)
  (RW:∀H e s',CX [] H s₁ (λ_ _ _=>False) e s'->False):
  codeAny (model P w) callerA (.call (.ref fa) ⟨[.ref a],[]⟩) (λr s'=>r= .ok (.ret (.bool true))/\OldK s₁.heap s'.heap/\s'.os=s₁.os/\AllBare s'.gens) s₁:=by
 have rv:=so hi;have Tp:=hi.length
 have core:∀H:Hp,KJ H->fc K H a (ns.map V.int)->iS P w H s₁.heap->(∀b,H b≠none->b=a)->(H a≠none->K.lookup a=none)->
   codeAny (model P w) callerA (.call (.ref fa) ⟨[.ref a],[]⟩) (λr s'=>r= .ok (.ret (.bool true))/\OldK s₁.heap s'.heap/\s'.os=s₁.os/\AllBare s'.gens) s₁:=by
  intro H hO hS aC hA hK;have Ap:∀{b:Addr} {o:Obj},s₁.heap.get? b=some o->H b=none->(ud s₁.heap H).get? b=some o:=λe n=>Dd e n;have Ow:∀{b:Addr} {o:Obj} {es:Array DictEntry} {ep:Nat},s₁.heap.get? b=some o->o.data= .dict es ep->H b=none:=λ{b o es ep} e d=>by
   cases q:H b with
   | none=>rfl
   | some u=>
    have e':b=a:=hA b (by rw [q];simp);subst e';rw [ha] at e;cases e;have d':Data.seq vs.toArray _=Data.dict es ep:=d;cases d'
  have Qm:∀{b:Addr} {m:Str->Option Value},s₁.heap.Ns b m->(ud s₁.heap H).Ns b m:=λ{b m} ⟨o,es,ep,e,d,r⟩=>⟨o,es,ep,Ap e (Ow e d),d,r⟩
  have Vh:K.In (ud s₁.heap H):=λb o e=>Ap (KX b o e) (by
   cases q:H b with
   | none=>rfl
   | some u=>
    have e':b=a:=hA b (by rw [q];simp);subst e'
    rw [hK (by rw [q];simp)] at e;cases e)
  have hM:Mod K mg (ud s₁.heap H):=⟨Vh,Qm Vr,⟨mb,Qm hb,Xg⟩,let ⟨mc,h1,h2⟩:=Q8;⟨mc,Qm h1,h2⟩⟩;have e0:yC P w K mg (ud s₁.heap H) callerA [] s₁ H:=⟨rfl,hM,λb o e=>Hu e,Nat.le_of_eq (Bo _ _),trivial,λb hb=>absurd (show b∈([]:List Addr) from hb) (by simp),aC, .of_eq hg⟩;refine codeAny_mono ((F _ Vh (Qm Vr)).run callerA [] s₁ H ⟨[.ref a],[]⟩ [.ref a] [.ref a] _ _ hr e0 (PU s₁ (.ref a)) (.cons rfl .nil) (JZ H hO hS)) λr s' h=> ?_;cases r with
  | error e=>exact (RW H e s' h).elim
  | ok fl=>
   cases fl with
   | next=>exact False.elim h
   | brk=>exact False.elim h
   | cont=>exact False.elim h
   | ret u=>
    obtain ⟨v,H',os,bare,un,Tz,r',q⟩:=h;have q':v= .bl true:=q;subst q';obtain rfl:u=Value.bool true:=r';refine ⟨rfl,OldK.of_keep λb o e=> ?_,os,bare⟩;cases q:H b with
    | none=>exact un.keep b o e q (by intro z;exact absurd (show b∈([]:List Addr) from z) (by simp)) (by simp)
    | some u=>
     rcases hO b with z | ⟨ob,xs,z⟩
     ·rw [q] at z;cases z
     ·have z2:=un.kR b ob _ z;obtain ⟨e1,_⟩:=aC b _ z;obtain ⟨e2,_⟩:=Tz b _ z2;rw [e] at e1;cases e1;exact e2
 cases hk:K.lookup a with
 | some o=>
  have e:=KX a o hk;rw [ha] at e;cases e;refine core (λ_=>none) (λ_=> .inl rfl) (.inr ⟨_,vs.toArray,_,hk,rfl,rfl,rfl,by rw [List.size_toArray,Tp];exact hl,by simpa using rv⟩) (λb u z=>by have z':(none:Option HO)=some u:=z;cases z') (λb z=>absurd rfl z) λz=>absurd rfl z
 | none=>
  refine core (λb=>if b=a then some (.uo {cls:= .type "list",data:= .seq vs.toArray} (.lst (ns.map V.int))) else none) (λb=> ?_) (.inl (.inr ⟨{cls:= .type "list",data:= .seq vs.toArray},aaD rfl⟩)) (λb u z=> ?_) (λb z=> ?_) λ_=>hk
  ·by_cases hb:b=a
   ·exact .inr ⟨_,_,aaD hb⟩
   ·exact .inl (aaA hb)
  ·by_cases hb:b=a
   ·have z':=(aaD hb).symm.trans z;cases z';subst hb;exact ⟨ha,by rw [aaa];exact hl,vs,_,rv,ha⟩
   ·have z':=(aaA hb).symm.trans z;cases z'
  ·by_cases hb:b=a
   ·exact hb
   ·exact aaG (aaA hb) z
theorem sW{l:PySem.W.OpenLaw}{n k:Nat}{q:Program}{loose:List Str}{XP:(Str->Option Value)->Heap->Prop}{YP:World->Heap->Prop}{d:DefRec}{K:Params->fI}{CX:World->xD}{sp:World->Sp}{x:Str}
  (hn:l.most=some n) (Qq:n<=sizeLine) (PR:d.params.defaults=[]) (hr:bx k callerA)
  (hY:∀(w:World) (h:Heap),YP w h->(K w.params).In h)
  (F:∀(w:World) (mg:Str->Option Value) (fa:Addr) (h:Heap),(K w.params).In h->h.Ns mainGlobals mg->mg d.name=some (.ref fa)->
   ∃fd:FuncData,(∀(s:Shared) (u:Value),BindsTo s fd ⟨[u],[]⟩ [(x,u)])/\
    ∀base:Heap,(K w.params).In base->base.Ns mainGlobals mg->Τ l.prog w (K w.params) mg base (CX w) k fa fd [x] (sp w))
  (JZ:∀(w:World) (H:Hp) (a:Addr) (ns:List Int),ns.length<=n->KJ H->fc (K w.params) H a (ns.map V.int)->sp w [.ref a] H (λv _=>v= .bl true) λ_ _ _=>False)
  (RW:∀(w:World) (H:Hp) (s:Shared) (e:Value) (s':Shared),CX w [] H s (λ_ _ _=>False) e s'->False):
  PySem.W.WalkO q loose XP YP l.row.toRowW d [] (λf vs=>PySem.call f vs):=by
 refine Att.vS hn PR λw s₀ s₁ mg mb fa o pm cd doc a vs ns G Y ho hd DR HN K3 hints hlen hg=> ?_;have KX:=hY w _ Y;obtain ⟨fd,hb,hF⟩:=F w mg fa _ KX G.T.g HN;exact Fh KX G.T.g G.T.b G.T.builtins G.T.nolimit hg K3 hints (aaq hlen Qq) hr hF hb (λH hO hS=>JZ w H a ns hlen hO hS) λH e s'=>RW w H s₁ e s'
end L2
/- THE RU Hv (shape;Xd,My.* are OG):
  My.Yj:a structure of HU addresses Uw RG OZ names (classes,CL);My.Txt K t:a structure (Prop) of HU equations nG K;
  My.yu:{K} {implicit addresses ..} (e1:nsIn K mainGlobals "law"=some (some (.ref f))) (e2:K.lookup f=some ⟨oc,od, .func (fnOf "law" "law" params body scope dV kV doc pm an aQ ct),sl⟩) (e3:codeIn K aQ "law"=true) .. :∃t,My.Txt K t
set_option maxRecDepth 100000 in
set_option maxHeartbeats 0 in
theorem PySem.Challenge.cw_LID_holds : PySem.Challenge.rw_LID.Holds := by
 w_on;o_law;k_head;(case hw=>w_witness2)
 k_fill
 refine L2.sW (l:=PySem.Challenge.rw_LID) (n:=63) (k:=40) (x:="script") (CX:=fun w=> ..) (sp:=fun _=>My.Mx) rfl (by decide) rfl ⟨rfl,by decide,by decide⟩ (fun w h Y=>PySem.W.kIn_of Y) ?F ?S ?C
 case F=>
  intro w mg fa h KX G HN;have T:∃t,My.Txt (L2.T8 KX) t:=by
   dsimp only [L2.T8]
   refine' My.yu ?e1 ?e2 ?e3 ..
   (case e1=>PySem.W.k_is)
   (case e2=>PySem.W.k_is)
   ..
  obtain ⟨t,T⟩:=T;have e0:=HN.symm.trans (PySem.W.mg_of KX G T.YK);cases e0;exact ⟨_,λs u=> .of_eq rfl,λbase kb nb=>My.xK T kb nb⟩
 case S=>exact λw H a ns hl hO hS=> ..
 case C=>exact ..
(HU tactic k_is has no namespace:write k_is) -/
namespace L2
open PySem PySem.Spec PyProof.Rows
variable{P:Program}{w:World}{mg:Str->Option Value}{base h B:Heap}{x f:Addr}{qual:Str}{st:Stmt}{fd:FuncData}{ps N xs ys:List Str}{A:Around}{H':Hp}{E:Value->Shared->Prop}{s:Shared}{outer:List Env}{o:Obj}{X:Cx}{γ pn p':List (Addr×Obj)}{σ:St}{scope:Scope}{R:St->XK}{pos:Pos}{es:List Expr}{xC j4:List Value}{Ε:List Nat}
def iL(s:Stmt):Arguments:=match s with
 | .FunctionDef _ a _ _ _ _ _ _ _ _=>a
 | _=>{posonlyargs:=[],args:=[],vararg:=none,kwonlyargs:=[],kw_defaults:=[],kwarg:=none,defaults:=[]}
def fe(s:Stmt):List Stmt:=match s with
 | .FunctionDef _ _ b _ _ _ _ _ _ _=>b
 | _=>[]
def μ(s:Stmt):Scope:=match s with
 | .FunctionDef _ _ _ _ _ _ sc _ _ _=>sc
 | _=>{kind:= .function,names:=[],isGenerator:=false,isCoroutine:=false}
abbrev Qc:xD:=λ_ _ _ _ _ _=>False
abbrev E0:XK:=λ_ _ _=>False
structure bV(K:fI)(x qual:Str)(st:Stmt)(f:Addr)(fd:FuncData):Prop where
 ex:∃(oc:Value) (od:Option Addr) (kV doc pm:Value) (an:Option Addr) (aQ ct:Value) (FE:Array (Option Value)),
  fd=PySem.W.fnOf x qual (iL st) (fe st) (μ st) .none kV doc pm an aQ ct/\K.lookup f=some ⟨oc,od, .func fd,FE⟩/\PySem.W.codeIn K aQ qual=true
 kp:PySem.W.keepIn K (.ref f)=true
section
variable{K:fI}
theorem bV.binds{x:Str}(F:bV K x qual st f fd)
  (h:∀(kV doc pm:Value) (an:Option Addr) (aQ ct:Value) (us:List Value),us.length=ps.length->bindArgs (PySem.W.fnOf x qual (iL st) (fe st) (μ st) .none kV doc pm an aQ ct) ⟨us,[]⟩=pure (ps.zip us)):gc K fd ps []:=by
 obtain ⟨oc,od,kV,doc,pm,an,aQ,ct,FE,rfl,lk,DR⟩:=F.ex;exact .all (h kV doc pm an aQ ct)
theorem EY{x:Str}{oc:Value}{od an:Option Addr}{FE:Array (Option Value)}{kV doc pm aQ ct:Value}(l:K.lookup f=some ⟨oc,od, .func (PySem.W.fnOf x qual (iL st) (fe st) (μ st) .none kV doc pm an aQ ct),FE⟩)
  (c:PySem.W.codeIn K aQ qual=true) (k:PySem.W.keepIn K (.ref f)=true):bV K x qual st f (PySem.W.fnOf x qual (iL st) (fe st) (μ st) .none kV doc pm an aQ ct):=⟨⟨oc,od,kV,doc,pm,an,aQ,ct,FE,rfl,l,c⟩,k⟩
end
theorem zN{k:Nat}(hr:bx k A):A.units+1 < cLine:=aa7 (Nat.add_le_add_left (by decide:1<=64) _) hr.units
theorem CA{A B:Prop}(h:B):if false=true then A else B:=by rw [aaA aan];exact h
theorem Bu{A B:Prop}(h:A):if true=true then A else B:=by rw [aaD rfl];exact h
def cp(H H':Hp):Prop:=∀b o,H b=some o->H' b=some o
theorem cp.refl(H:Hp):cp H H:=λ_ _ h=>h
theorem cp.trans{H H1 H2:Hp}(a:cp H H1)(b:cp H1 H2):cp H H2:=λc o h=>b c o (a c o h)
theorem cp.free{H:Hp}(e:cp H H'){l:Addr}(h:H' l=Option.none):H l=Option.none:=by
 cases q:H l with
 | none=>rfl
 | some o=>
  rw [e l o q] at h;cases h
theorem cp.seq{K:fI}{H:Hp}{a:Addr}{xs:List V}(e:cp H H')(h:fc K H a xs):fc K H' a xs:=by
 rcases h with (h | ⟨o,h⟩) | h
 ·exact .inl (.inl (e _ _ h))
 ·exact .inl (.inr ⟨o,e _ _ h⟩)
 ·exact .inr h
section
theorem aP.here{H:Hp}{a:Addr}{o:HO}(x:aP P w H h a o):∃ob,h.get? a=some ob:=by
 cases o with
 | lst xs=>obtain ⟨_,_,_,_,e⟩:=x;exact ⟨_,e⟩
 | tup xs=>obtain ⟨_,_,_,ob,e,_⟩:=x;exact ⟨ob,e⟩
 | dK kvs=>obtain ⟨_,_,_,_,ob,_,_,e,_⟩:=x;exact ⟨ob,e⟩
 | dT kvs=>obtain ⟨_,_,_,_,ob,_,_,e,_⟩:=x;exact ⟨ob,e⟩
 | set S n=>obtain ⟨ob,_,_,_,e,_⟩:=x;exact ⟨ob,e⟩
 | ins C dx fs=>obtain ⟨_,_,_,e,_⟩:=x;exact ⟨_,e⟩
 | own y=>exact x
 | xd fs=>obtain ⟨_,⟨ob,_,_,e,_⟩,_⟩:=x;exact ⟨ob,e⟩
 | Qp lo hi=>obtain ⟨_,_,_,e⟩:=x;exact ⟨_,e⟩
 | uo ob u=>obtain ⟨e,_⟩:=x;exact ⟨_,e⟩
 | GF ps=>exact ⟨_,show h.get? a=some _ from x⟩
 | met f y=>exact ⟨_,show h.get? a=some _ from x⟩
 | ext φ=>obtain ⟨_,z,_⟩:=x;exact z
def DN(B:Heap)(l:List Env)(x:Addr)(o:Obj)(fl:Value)(h:Heap):Prop:=
 B.StaysIn h/\B.get? x=none/\h.FunFrames B l/\∃(vs:Array Value) (T:Addr) (oT:Obj) (ts:Array Value),h.get? x=some {o with data:= .fields vs}/\vs[2]? =some .none/\vs[1]? =some (.ref T)/\
  B.get? T=none/\T≠x/\h.get? T=some oT/\oT.data= .fields ts/\ts[3]? =some fl
section
variable{M:Model}{env:Env}{l:List Env}{L:Addr}{vs:Array Value}{Q:Unit->Shared->Prop}
theorem qq{h':Heap}{T:Addr}{oT:Obj}{ts:Array Value}(hT:h.get? T=some oT)(hd:oT.data= .fields ts)(k:∀b,b≠T->h'.get? b=h.get? b):h.UpToSlots h':=λb ob e hn=>
 ⟨ob.slots,(k b λz=>by rw [z,hT] at e;cases e;exact hn _ hd).trans e⟩
theorem rG{h':Heap}(hl:h.FunFrames B l)(u:h.UpToSlots h'):h'.FunFrames B l:=hl.of_keeps λb ob e hn=>by obtain ⟨sl,q⟩:=u b ob e hn;exact ⟨_,q,rfl⟩
theorem xw{head:Value}{XW:Bool}(K7:A.frames=some (env::outer))(hf:env.frame=some L)(hB:B.StaysIn s.heap)(hn:B.get? x=none)(hl:s.heap.FunFrames B (env::outer))(hx:s.heap.get? x=some {o with data:= .fields vs})(h1:1 < vs.size)(h2:vs[2]? =some .none)
  (h:∀h',DN B (env::outer) x o (rawInt L) h'->s.heap.UpToSlots h'->Q () {s with heap:=h'}):
  wpAny M A (do let a<-frameOf env;let pl<-entryPlaceOf L XW;let n<-EntryCells.newEntry head a .none (rawInt L) .none pl;setField (.ref x) 1 n) Q E s:=by
 refine aah (wpAny_frameOf_fun K7 hl hf λg1 S1=>aah (wpAny_entryPlaceOf λpl dj=> ?_));have nx:x∉(env::outer).filterMap (·.frame):=λz=>by obtain ⟨_,ob,e,d⟩:=hl.mem z;rw [hx] at e;cases e;exact d _ rfl
 have VA:g1.get? x=some {o with data:= .fields vs}:=(S1.2.1 x nx).trans hx;unfold EntryCells.newEntry newFields;refine aah (wpAny_newObj_type ?_ (dj.sizeOk5 _ _ _ _ _));have Vg:=aaf (h:=g1) {cls:= .type "traceback",dict:=none,data:= .fields ([head, .ref L, .none,rawInt L, .none]++(if pl.isEmpty then List.replicate 6 Value.none else pl)).toArray} VA;refine wpAny_setField Vg rfl h1 (h _ ?_ ?_)
 ·have up1:∀b ob,b≠x->g1.get? b=some ob->((g1.push {cls:= .type "traceback",dict:=none,data:= .fields ([head, .ref L, .none,rawInt L, .none]++(if pl.isEmpty then List.replicate 6 Value.none else pl)).toArray}).update x (Obj.mapFields (·.setIfInBounds 1 (Value.ref g1.objs.size)))).get? b=some ob:=λb ob nb e=>
   (Heap.get?_update_other _ _ (Ne.symm nb)).trans (aaf _ e)
  have neT:g1.objs.size≠x:=abM (aai VA)
  refine ⟨λb ob e=>up1 b ob (λz=>by rw [z,hn] at e;cases e) ((S1.2.1 b λz=>by rw [(hl.mem z).1] at e;cases e).trans (hB b ob e)),hn,hl.of_keeps λb ob e d=> ?_,vs.setIfInBounds 1 (.ref g1.objs.size),g1.objs.size,_,_,Heap.get?_update_self _ Vg rfl,by rw [Array.getElem?_setIfInBounds_ne (by decide)];exact h2,by simp [h1], ?_,neT,
   (Heap.get?_update_other _ _ (Ne.symm neT)).trans (aaM g1 rfl),rfl, ?_⟩
  ·obtain ⟨sl,q⟩:=S1.2.2 b ob e;exact ⟨_,up1 b _ (λz=>by rw [z,hx] at e;cases e;exact d _ rfl) q,rfl⟩
  ·cases q:B.get? g1.objs.size with
   | none=>rfl
   | some ob=>
    have:=aai (hB _ _ q);rw [<-S1.1] at this;exact aaG this (abq _)
  ·first
    | (simp;done)
    | (rcases dj with rfl | ⟨_,_,_,_,_,_,_,rfl⟩ <;> simp)
 ·intro b ob e d;obtain ⟨sl,q⟩:=S1.2.2 b ob e;refine ⟨sl, ?_⟩;rw [Heap.get?_update_other _ _ (λz:x=b=>by rw [<-z,hx] at e;cases e;exact d _ rfl)];exact aaf _ q
theorem Fs(K7:A.frames=some (env::outer))(hf:env.frame=some L)(hB:B.StaysIn s.heap)(hn:B.get? x=none)(hl:s.heap.FunFrames B (env::outer))(hx:s.heap.get? x=some {o with data:= .fields vs})(h1:vs[1]? =some .none)(h2:vs[2]? =some .none)
  (h:∀h',DN B (env::outer) x o (rawInt L) h'->s.heap.UpToSlots h'->Q () {s with heap:=h'}):wpAny M A (noteFrame (.ref x) env) Q E s:=by
 unfold noteFrame;simp only [hf];refine aah (wpAny_field hx rfl h1 ?_);rw [aaA (by decide)];exact xw K7 hf hB hn hl hx (abh.mp h1).1 h2 h
theorem JH(K7:A.frames=some (env::outer))(hf:env.frame=some L)(R:DN B (env::outer) x o .none s.heap)
  (h:∀h',DN B (env::outer) x o (rawInt L) h'->s.heap.UpToSlots h'->Q () {s with heap:=h'}):wpAny M A (noteFrame (.ref x) env) Q E s:=by
 obtain ⟨hB,hn,hl,vs,T,oT,ts,hx,h2,h1,nT,Qs,hT,dT,h3⟩:=R;unfold noteFrame;simp only [hf];refine aah (wpAny_field hx rfl h1 ?_);rw [if_pos (show (Value.ref T != Value.none)=true by simp)];refine aah (wpAny_field hT dT h3 ?_);rw [if_neg (show¬((Value.none==rawInt L)=true) by simp [rawInt])];refine aah (wpAny_setField hT dT (abh.mp h3).1 ?_);have LK:∀b,b≠T->(s.heap.update T (Obj.mapFields (·.setIfInBounds 3 Value.none))).get? b=s.heap.get? b:=λb nb=>Heap.get?_update_other _ _ (Ne.symm nb);have u:=qq hT dT LK;exact xw K7 hf (λb ob e=>(LK b λz=>by rw [z,nT] at e;cases e).trans (hB b ob e)) hn (rG hl u) ((LK x (Ne.symm Qs)).trans hx) (abh.mp h1).1 h2 λh' F' u'=>h h' F' (u.trans u')
theorem nO{fl:Value}(R:DN B l x o fl s.heap)(h:∀h',DN B l x o .none h'->s.heap.UpToSlots h'->Q () {s with heap:=h'}):wpAny M A (setFlight (.ref x) none) Q E s:=by obtain ⟨hB,hn,hl,vs,T,oT,ts,hx,h2,h1,nT,Qs,hT,dT,h3⟩:=R;unfold setFlight;refine aah (wpAny_field hx rfl h1 ?_);rw [if_pos (show (Value.ref T != Value.none)=true by simp)];have z3:=(abh.mp h3).1;have LK:∀b,b≠T->(s.heap.update T (Obj.mapFields (·.setIfInBounds 3 ((none:Option Addr).elim Value.none λf=>rawInt f)))).get? b=s.heap.get? b:=λb nb=>Heap.get?_update_other _ _ (Ne.symm nb);have u:=qq hT dT LK;refine wpAny_setField hT dT z3 (h _ ⟨λb ob e=>(LK b λz=>by rw [z,nT] at e;cases e).trans (hB b ob e),hn,rG hl u,vs,T,_,_,(LK x (Ne.symm Qs)).trans hx,h2,h1,nT,Qs,Heap.get?_update_self _ hT (Obj.isFreed_of_fields (Obj.data_mapFields dT _)),Obj.data_mapFields dT _,by simp [z3]⟩ u)
theorem Gx{fl:Value}(R:DN B (env::outer) x o fl h):DN B outer x o fl h:=by obtain ⟨hB,hn,⟨_,_,hl⟩,r⟩:=R;exact ⟨hB,hn,hl,r⟩
end
structure yd(P:Program)(w:World)(l:List Env)(H H':Hp)(h h' B:Heap)(x:Addr)(o:Obj):Prop where
 un:Un (jV l) [] H H' h h'
 ok:iS P w H' B
 Bt:DN B l x o .none h'
 Kv:∀b u,h.get? b=some u->H b=none->b∉jV l->B.get? b=some u
 JV:∀b u,h.get? b=some u->b∉jV l->∃u',B.get? b=some u'
variable{l:List Env}{H:Hp}{h' Ls:Heap}
theorem yd.aC(F:yd P w l H H' h h' B x o):iS P w H' h':=F.ok.kept F.Bt.1
theorem yd.nx(F:yd P w l H H' h h' B x o):H' x=none:=by
 cases e:H' x with
 | none=>rfl
 | some u=>
  obtain ⟨ob,q⟩:=aP.here (F.ok x u e);rw [F.Bt.2.1] at q;cases q
theorem yd.on(F:yd P w l H H' h h' B x o)(f:DN B l x o .none Ls)(u:h'.UpToSlots Ls):yd P w l H H' h Ls B x o where
 un :=⟨λb o e n hb _=>f.1 b o (F.Kv b o e n hb),
  λb o e n hb hx=>by
   obtain ⟨sl,e1⟩:=F.un.slot b o e n hb hx;obtain ⟨_,o',nM,hd⟩:=F.Bt.2.2.1.mem hb;rw [e1] at nM;cases nM;obtain ⟨Np,e2⟩:=u b _ e1 hd;exact ⟨Np,e2⟩,
  F.un.free,
  λb o e _=>by
   by_cases hb:b∈jV l
   ·obtain ⟨_,o',nM,hd⟩:=F.Bt.2.2.1.mem hb;obtain ⟨sl,e2⟩:=u b _ nM hd;exact ⟨_,e2⟩
   ·obtain ⟨o',q⟩:=F.JV b o e hb;exact ⟨o',f.1 _ _ q⟩,
  F.un.lR,F.un.kR,F.un.mJ⟩
 ok:=F.ok
 Bt:=f
 Kv:=F.Kv
 JV:=F.JV
end
def br(P:Program)(w:World):xD:=λouter H s E e s'=>
 ∃x o H' B,e= .ref x/\s'.os=s.os/\AllBare s'.gens/\yd P w outer H H' s.heap s'.heap B x o/\E o.cls o.dict H'
section
variable{H:Hp}{Ls:Heap}{ox:Obj}
theorem yd.leave(I:Inv X γ σ H s)(hex:X.ex=[])(rC:∀b∈jV X.outer,b∈jV X.stack)(ok:iS X.prog X.w H' B)(f:DN B X.outer x ox .none Ls)(TZ:X.s₀.heap.get? x=none)
  (Kv:∀b o,b≠x->s.heap.get? b=some o->H b=none->b∉jV X.stack->B.get? b=some o)
  (JV:∀b o,b≠x->s.heap.get? b=some o->b∉jV X.stack->∃o',B.get? b=some o')
  (sl:∀b o,s.heap.get? b=some o->b∈jV X.stack->∃sl,Ls.get? b=some {o with slots:=sl})
  (free:∀b o,s.heap.get? b=some o->H b=none->H' b=none)
  (lR:∀b xs,H b=some (.tup xs)->H' b=some (.tup xs)) (kR:∀b o u,H b=some (.uo o u)->H' b=some (.uo o u))
  (mJ:∀b ps,H b=some (.GF ps)->∃more,H' b=some (.GF (ps++more))):yd X.prog X.w X.outer X.H₀ H' X.s₀.heap Ls B x ox:=by
 have nX:∀b o,X.s₀.heap.get? b=some o->b≠x:=λb o e z=>by rw [z,TZ] at e;cases e
 have gT:∀b:Addr,b∉X.ex:=λb z=>by rw [hex] at z;cases z
 have nS:∀b o,X.s₀.heap.get? b=some o->b∉jV X.outer->b∉jV X.stack:=λb o e hb z=>
  (aar.mp (I.ve b z)).elim (λq=>aaI (aam (aai e) I.ok.above) q) hb
 refine ⟨⟨λb o e n hb _=> ?_,λb o e n hb _=> ?_,λb o e n _=> ?_,λb o e _=> ?_,λb xs e=>lR b xs (I.base.lR b xs e),λb o u e=>kR b o u (I.base.kR b o u e),λb ps e=> ?_⟩,ok,f,λb o e n hb=> ?_,λb o e hb=> ?_⟩
 ·exact f.1 b o (Kv b o (nX b o e) (I.base.keep b o e n hb (gT b)) (I.base.free b o e n (gT b)) (nS b o e hb))
 ·obtain ⟨s1,e1⟩:=I.base.slot b o e n hb (gT b);obtain ⟨s2,e2⟩:=sl b _ e1 (rC b hb);exact ⟨s2,e2⟩
 ·obtain ⟨o',e1⟩:=I.base.there b o e (gT b);exact free b o' e1 (I.base.free b o e n (gT b))
 ·obtain ⟨o',e1⟩:=I.base.there b o e (gT b);by_cases hb:b∈jV X.stack
  ·obtain ⟨s2,e2⟩:=sl b _ e1 hb;exact ⟨_,e2⟩
  ·obtain ⟨o2,q⟩:=JV b o' (nX b o e) e1 hb;exact ⟨o2,f.1 _ _ q⟩
 ·obtain ⟨m1,e1⟩:=I.base.mJ b ps e;obtain ⟨m2,e2⟩:=mJ b _ e1;exact ⟨m1++m2,by rw [e2,Array.append_assoc]⟩
 ·exact Kv b o (nX b o e) (I.base.keep b o e n hb (gT b)) (I.base.free b o e n (gT b)) (nS b o e hb)
 ·obtain ⟨o',e1⟩:=I.base.there b o e (gT b);exact JV b o' (nX b o e) e1 (nS b o e hb)
end
def bE(CX:xD)(X:Cx)(R:St->XK):Prop:=∀(γ:List (Addr×Obj)) (σ:St) (H:Hp) (s:Shared) (e:Value) (s':Shared),Inv X γ σ H s->CX X.stack H s (R σ) e s'->X.xe e s'
def zG(X:Cx)(R:St->XK):Prop:=∀(γ:List (Addr×Obj)) (σ:St) (H:Hp) (s:Shared) (x:Addr) (o:Obj) (vs:Array Value),Inv X γ σ H s->s.heap.get? x=some {o with data:= .fields vs}->vs[1]? =some .none->vs[2]? =some .none->X.s₀.heap.get? x=none->H x=none->
 R σ o.cls o.dict H->X.xe (.ref x) s
section
variable{K:fI}{cd:Value}{s₀:Shared}{H₀:Hp}{E:XK}
theorem tY{env:Env}:∀b∈jV outer,b∈jV (env::outer):=λb hb=>by obtain ⟨en,he,hf⟩:=abl.mp hb;exact abl.mpr ⟨en,aae _ he,hf⟩
theorem ξ:bE (br P w) (js (br P w) P w K mg base N qual scope f cd A outer s₀ H₀ E) (λ_=>E):=by
 intro γ σ H s e s' I hx;obtain ⟨x,o,H',B,rfl,os,bare,F,hE⟩:=hx;show wpAny _ _ (do noteFrame (.ref x) _;setFlight (.ref x) none) _ _ s';refine aah (JH (B:=B) I.ok.frames rfl F.Bt λh4 f4 u4=>nO f4 λh5 f5 u5=> ?_);refine ⟨x,o,H',B,rfl,os.trans I.os,bare,yd.leave I rfl tY F.ok (Gx f5) ?_ (λb o _=>F.Kv b o) (λb o _=>F.JV b o) (λb o q hb=> ?_) (λb o q n=>F.un.free b o q n (by simp)) F.un.lR F.un.kR F.un.mJ,hE⟩
 ·show s₀.heap.get? x=none;cases q:s₀.heap.get? x with
  | none=>rfl
  | some u=>
   obtain ⟨u',e1⟩:=I.base.there x u q (λz=>nomatch z);by_cases hb:x∈jV (js (br P w) P w K mg base N qual scope f cd A outer s₀ H₀ E).stack
   ·obtain ⟨vs,_,_,_,Yu,_⟩:=F.Bt.2.2.2;obtain ⟨_,o',nM,hd⟩:=F.Bt.2.2.1.mem hb;rw [Yu] at nM;cases nM;exact aaG rfl (hd _)
   ·obtain ⟨u2,e2⟩:=F.JV x u' e1 hb;rw [F.Bt.2.1] at e2;cases e2
 ·obtain ⟨sl,e1⟩:=F.un.slot b o q (I.n_ b hb) hb (by simp);obtain ⟨_,o',nM,hd⟩:=F.Bt.2.2.1.mem hb;rw [e1] at nM;cases nM;obtain ⟨Np,e2⟩:=(u4.trans u5) b _ e1 hd;exact ⟨Np,e2⟩
theorem bT:zG (js (br P w) P w K mg base N qual scope f cd A outer s₀ H₀ E) (λ_=>E):=by
 intro γ σ H s x o vs I hx h1 h2 TZ nH hE;show wpAny _ _ (do noteFrame (.ref x) _;setFlight (.ref x) none) _ _ s
 have Nk:∀env∈(js (br P w) P w K mg base N qual scope f cd A outer s₀ H₀ E).stack,∀b,env.frame=some b->b∈x::jV (js (br P w) P w K mg base N qual scope f cd A outer s₀ H₀ E).stack:=
  λenv he b hb=>aae _ (abl.mpr ⟨env,he,hb⟩)
 refine aah (Fs (B:=PySem.W.hideAll s.heap (x::jV (js (br P w) P w K mg base N qual scope f cd A outer s₀ H₀ E).stack)) I.ok.frames rfl (λb o q=>PySem.W.of_hideAll _ q) (PySem.W.hideAll_none _ aad)
  (PySem.W.funFrames_hide I.stack Nk) hx h1 h2 λh4 f4 u4=>nO f4 λh5 f5 u5=> ?_)
 have SE:∀b u,b≠x->s.heap.get? b=some u->b∉jV (js (br P w) P w K mg base N qual scope f cd A outer s₀ H₀ E).stack->(PySem.W.hideAll s.heap (x::jV (js (br P w) P w K mg base N qual scope f cd A outer s₀ H₀ E).stack)).get? b=some u:=
  λb u nb q hb=>PySem.W.hideAll_get _ q λz=>(aar.mp z).elim nb hb
 refine ⟨x,o,H,_,rfl,I.os,I.bare,yd.leave I rfl tY (λa o e=>(I.aC a o e).wL (λb v hb q=> ?_) (λ_ q=>q) λ_ _ q=>q) (Gx f5) TZ
  (λb o nb q _ hb=>SE b o nb q hb) (λb o nb q hb=>⟨o,SE b o nb q hb⟩) (λb o q hb=> ?_) (λ_ _ _ n=>n) (λ_ _ q=>q) (λ_ _ _ q=>q) (λb ps q=>⟨#[],by rw [q];simp⟩),hE⟩
 ·have tr:H b≠none:=λn=>by
   rcases hb with hb | hb
   ·rw [hb,e] at n;cases n
   ·rw [hb] at n;cases n
  exact SE b v (λz=>tr (by rw [z];exact nH)) q λz=>tr (I.n_ b z)
 ·obtain ⟨_,o',nM,hd⟩:=I.stack.mem hb;rw [q] at nM;cases nM;exact (u4.trans u5) b o q hd
end
def Kq(sp:Sp)(om:List V)(R:St->XK)(t:TA):TE:=λσ H Q=>t σ H λvs H1=>sp (vs++om) H1 Q (R σ)
section
variable{CX:xD}{k:Nat}{sp:Sp}{om:List V}{ds:List Value}{x:Str}{p:Pos}{e:Expr}{t:TA}
theorem nR{H:Hp}{Q:VK}{us:List Value}{vs:List V}(F:Τ X.prog X.w X.K X.mg X.base CX k f fd ps sp)(hr:bx k X.A)(hb:gc X.K fd ps ds)(hd:Φ om ds)(hx:bE CX X R)
  (I:Inv X γ σ H s) (r:Φ vs us) (h:sp (vs++om) H Q (R σ)):wpAny (model X.prog X.w) X.A (call (.ref f) us) (EP X γ σ Q) X.xe s:=by
 have r2:Φ (vs++om) (us++ds):=r.append hd;have hl:(us++ds).length=ps.length:=by rw [<-r2.length];exact F.len _ _ _ _ h
 refine wpAny_call (codeAny_mono (F.run X.A X.stack s H ⟨us,[]⟩ (us++ds) (vs++om) Q (R σ) hr I.PK (hb s us I.g_ hl) r2 h) λr s' hq=> ?_);cases r with
 | error e=>exact hx γ σ H s e s' I hq
 | ok fl=>
  cases fl with
  | ret u=>exact I.after hq
  | next=>exact False.elim hq
  | brk=>exact False.elim hq
  | cont=>exact False.elim hq
theorem Ep(F:Τ X.prog X.w X.K X.mg X.base CX k f fd ps sp)(hr:bx k X.A)(hg:Gl X x)(hm:X.mg x=some (.ref f))(hk:PySem.W.keepIn X.K (.ref f)=true)(hb:gc X.K fd ps ds)(hd:Φ om ds)(hx:bE CX X R)
  (ha:PA X (e::es) t) (gQ:(x==("__debug__":Str))=false:=by decide) (he:starEach (e::es) X.env=(false,eval e X.env)::starEach es X.env:=by rfl) (dj:(backTo pos (starEach es X.env)).any (·.1)=false:=by rfl):
  PE X (.Call (.Name x p) (e::es) [] pos) (Kq sp om R t):=by
 intro γ s σ H Q I h;refine wpAny_Call_Name_kw (dN I hg hm ?_ gQ);refine PySem.W.callWith_K (h₀:=X.base) I.ok.mod.vw hk (aY (ha pos γ s σ H _ I h) λus s1 ⟨vs,H1,I1,r,q⟩=>⟨I1.g_, ?_⟩) he dj;exact nR F hr hb hd hx I1 r q
end
structure eK(K:fI)(C:Addr)(xC:List Value)(newId:String):Prop where
 ok:PySem.W.excIn K C xC newId=true
theorem IE{K:fI}{N:Addr}{h0:Heap}{m:Str->Option Value}(q:PySem.W.nsOkIn K N=true)(X0:K.In h0)(X:K.In h)(n:h0.Ns N m):h.Ns N m:=by
 obtain ⟨o,es,ep,e,r⟩:=n;cases z:K.lookup N with
 | none=>unfold PySem.W.nsOkIn at q;rw [z] at q;cases q
 | some ob=>
  have e0:=X0 _ _ z;rw [e] at e0;cases e0;exact ⟨o,es,ep,X _ _ z,r⟩
theorem eK.obj{K:fI}{C:Addr}{newId:String}{h0:Heap}(c:eK K C xC newId)(X0:K.In h0):
  ∃bm N nm q bs hdct sn sub ab col dd k0 k1 k2 k3 k5 mN,mN ("__init__":Str)=none/\
   ∀h:Heap,K.In h->h.get? C=some (excClassObj nm q C N bs bm hdct sn sub ab col dd k0 k1 k2 k3 k5 newId)/\h.Ns N mN/\OwnTail h xC bm:=by
 have q:=c.ok;unfold PySem.W.excIn at q;split at q
 ·rename_i dd cd sl ho;split at q
  ·rename_i C' bm k0 k1 k2 k3 n k5 hm hs;rw [aap,aap,aap,aap,aap] at q;obtain ⟨⟨⟨⟨⟨q1,q2⟩,q3⟩,q4⟩,q5⟩,q6⟩:=q;cases abb.mp q1;cases abb.mp q2;have q3:cd.hasDel=false:=by simpa using q3
   have WO:sl= #[k0,k1,k2,k3,some (.builtin newId),k5]:=by cases sl with | mk l=>exact aa5 Array.mk hs
   obtain ⟨c1,c2,c3,c4,c5,c6,c7,c8,c9,WV,Ye⟩:=cd;cases (show c3=_ from hm);cases (show Ye=_ from q3);subst WO;refine ⟨bm,c4,c1,c5,c2,c6,c7,c8,c9,WV,dd,k0,k1,k2,k3,k5,h0.nsMap c4,PySem.W.nsMap_none_of_in X0 q5 (abb.mp q6),λh X=>⟨X _ _ ho, ?_,PySem.W.tail_of_in X q4⟩⟩;exact IE q5 X0 X (.of_isNs (PySem.W.isNs_of_in X0 q5))
  ·cases q
 ·cases q
def La(C:Addr)(R:St->XK)(t:TA):TS:=λ_ σ H=>t σ H λvs H1=>vs.length<=sizeLine/\R σ (.ref C) none H1
section
variable{C:Addr}{t:TA}{Bn newId gA:String}{x:Str}{np af:Pos}{e:Expr}
theorem Dv(hR:zG X R)(hc:X.calm=true)(hex:X.ex=[])(F:ExcBaseFacts Bn newId gA xC)(c:eK X.K C xC newId)(hg:Gl X x)(hm:X.mg x=some (.ref C))(ha:PA X (e::es) t)
  (gQ:(x==("__debug__":Str))=false:=by decide) (he:starEach (e::es) X.env=(false,eval e X.env)::starEach es X.env:=by rfl) (dj:(backTo af (starEach es X.env)).any (·.1)=false:=by rfl):
  PS X (.Raise (some (.Call (.Name x np) (e::es) [] af)) none pos) (La C R t):=by
 intro γ s σ H D I h;obtain ⟨bm,N,nm,q,bs,hdct,sn,sub,ab,col,dd,k0,k1,k2,k3,k5,mN,hni,U5⟩:=c.obj I.g_;refine wpAny_Raise_call_subT (nm:=nm) (q:=q) (C:=C) (N:=N) (bs:=bs) (bm:=bm) (hdct:=hdct) (sn:=sn) (sub:=sub) (ab:=ab) (col:=col) (dd:=dd) (k0:=k0) (k1:=k1) (k2:=k2) (k3:=k3) (k5:=k5) F ((U5 _ I.g_).2.2.hasType F.hasBase) (I.ok.hd hc) (by rw [he];show (false || (backTo af (starEach es X.env)).any (·.1))=false;rw [dj];rfl) hni (dN I hg hm ⟨rfl, ?_⟩ gQ);have h2:=ha af γ s σ H _ I h;rw [he] at h2⊢;refine Calls.evalArgs_plain (abi h2 (λus s2 z=> ?_) λ_ _ y=>y);obtain ⟨vs,H1,I1,r,hz,hq⟩:=z;obtain ⟨g1,g2,g3⟩:=U5 _ I1.g_;refine ⟨rfl,by rw [<-r.length];exact hz,g1,g2,g3,λh' x M=> ?_⟩;obtain ⟨t,hx,_,_⟩:=M.there;refine hR γ σ H1 {s2 with heap:=h'} x {cls:= .ref C,data:= .fields #[]} _ (I1.kept (t':=s2.toks) M.keeps) hx rfl rfl ?_ ?_ hq
 ·cases q:X.s₀.heap.get? x with
  | none=>rfl
  | some u=>
   obtain ⟨u',e1⟩:=I1.base.there x u q (by rw [hex];simp);rw [M.new] at e1;cases e1
 ·cases q:H1 x with
  | none=>rfl
  | some u=>
   obtain ⟨ob,e1⟩:=aP.here (I1.aC x u q);rw [M.new] at e1;cases e1
end
def Cx.LW(X:Cx)(R:St->XK)(γ:List (Addr×Obj)):Cx:={X with
 pn:=X.pn++γ
 xe:=λe s'=>∃pw σ H s,Inv {X with pn:=X.pn++γ} pw σ H s/\br X.prog X.w X.stack H s (R σ) e s'}
def Cx.bJ(X:Cx)(x:Addr)(pn:List (Addr×Obj)):Cx:={X with
 A:=X.A.mark (some (.ref x))
 calm:=false
 pn:=pn
 xe:=λ_ _=>False}
theorem Cx.Ok.Vt(ok:X.Ok)(pn:List (Addr×Obj))(E:Value->Shared->Prop):({X with pn:=pn,xe:=E}:Cx).Ok:=
 ⟨ok.mod,ok.kind,ok.glob,ok.blt,ok.above,ok.inj,ok.has,ok.Mf,ok.hd,ok.frames,ok.Nr,ok.Nf,ok.bs,ok.GI,ok.zF,ok.yt,ok.j8,ok.HC⟩
theorem Cx.Ok.Jz(ok:({X with pn:=pn,xe:=E}:Cx).Ok):X.Ok:=
 ⟨ok.mod,ok.kind,ok.glob,ok.blt,ok.above,ok.inj,ok.has,ok.Mf,ok.hd,ok.frames,ok.Nr,ok.Nf,ok.bs,ok.GI,ok.zF,ok.yt,ok.j8,ok.HC⟩
theorem Cx.Ok.bJ(ok:X.Ok)(x:Addr)(pn:List (Addr×Obj)):(Cx.bJ X x pn).Ok:=
 ⟨ok.mod,ok.kind,ok.glob,ok.blt,ok.above,ok.inj,ok.has,ok.Mf,(λz=>nomatch z),ok.frames,ok.Nr,ok.Nf,ok.bs,ok.GI,ok.zF,ok.yt,ok.j8,ok.HC⟩
theorem Cx.Ok.HG(ok:(Cx.bJ X x pn).Ok)(hd:X.calm=true->X.A.handled=none):X.Ok:=
 ⟨ok.mod,ok.kind,ok.glob,ok.blt,ok.above,ok.inj,ok.has,ok.Mf,hd,ok.frames,ok.Nr,ok.Nf,ok.bs,ok.GI,ok.zF,ok.yt,ok.j8,ok.HC⟩
section
variable{H:Hp}
theorem Inv.QX(I:Inv X γ σ H s)(E:Value->Shared->Prop):Inv {X with pn:=X.pn++γ,xe:=E} [] σ H s:=
 ⟨I.ok.Vt _ _,I.os,I.bare,I.base,I.loc,I.cell,I.free,I.fh,λp hp=>I.pin p (by rwa [aaQ] at hp),I.aC,I.len⟩
theorem Inv.jr(I:Inv {X with pn:=X.pn++γ,xe:=E} p' σ H s):Inv X γ σ H s:=
 ⟨Cx.Ok.Jz I.ok,I.os,I.bare,I.base,I.loc,I.cell,I.free,I.fh,λp hp=>I.pin p (abd _ hp),I.aC,I.len⟩
theorem SP.jr{D:vp}{f:Flow}{s':Shared}(h:SP {X with pn:=X.pn++γ,xe:=E} p' D f s'):SP X γ D f s':=by
 cases f with
 | next=>obtain ⟨a,b,I,q⟩:=h;exact ⟨a,b,Inv.jr I,q⟩
 | brk=>obtain ⟨a,b,I,q⟩:=h;exact ⟨a,b,Inv.jr I,q⟩
 | cont=>obtain ⟨a,b,I,q⟩:=h;exact ⟨a,b,Inv.jr I,q⟩
 | ret u=>obtain ⟨v,a,b,I,r,q⟩:=h;exact ⟨v,a,b,Inv.jr I,r,q⟩
theorem Inv.Mt(I:Inv X γ σ H s)(x:Addr){oe:Obj}(hx:s.heap.get? x=some oe)(hn:H x=none)(hL:x≠X.env.locals)(hf:x∉X.fs)(hd:∀v,oe.data≠ .cell v):Inv (Cx.bJ X x (X.pn++γ++[(x,oe)])) [] σ H s:=
 ⟨I.ok.bJ _ _,I.os,I.bare,I.base,I.loc,I.cell,I.free,I.fh,λp hp=>by
  rw [aaQ] at hp;rcases aaK.mp hp with z | z
  ·exact I.pin p z
  ·have e:p=(x,oe):=by simpa using z
   subst e
   exact ⟨hx,hn,hL,hf,hd⟩,I.aC,I.len⟩
theorem Inv.KC(I:Inv X γ σ H s)(x:Addr):Inv (Cx.bJ X x (X.pn++γ)) [] σ H s:=
 ⟨I.ok.bJ _ _,I.os,I.bare,I.base,I.loc,I.cell,I.free,I.fh,λp hp=>I.pin p (by rwa [aaQ] at hp),I.aC,I.len⟩
theorem Inv.j_{more:List (Addr×Obj)}(I:Inv (Cx.bJ X x (X.pn++γ++more)) p' σ H s)(hd:X.calm=true->X.A.handled=none):Inv X γ σ H s:=
 ⟨Cx.Ok.HG I.ok hd,I.os,I.bare,I.base,I.loc,I.cell,I.free,I.fh,λp hp=>I.pin p (abd _ (abd _ hp)),I.aC,I.len⟩
theorem yd.back{s':Shared}(I:Inv X γ σ H s)(os:s'.os=s.os)(bare:AllBare s'.gens)(F:yd X.prog X.w X.stack H H' s.heap s'.heap B x o):Inv X γ σ H' s':=
 I.JF os F.un F.aC bare (λb z=>absurd z (by simp))
end
section
variable{M:Model}{K:fI}
theorem wG{C D:Addr}{eF:String}{oe:Obj}{Q:Bool->Shared->Prop}(X:K.In s.heap)(d:eK K D j4 eF)(hb:j4.contains (.type "BaseException")=true)
  (hu:PySem.W.subIn K (.ref C) (.ref D)=some true) (hx:s.heap.get? x=some oe) (hc:oe.cls= .ref C) (h:Q true s):wpAny M A (excMatches (.ref x) (.ref D)) Q E s:=by
 obtain ⟨hp,g,dr,t,os⟩:=s;obtain ⟨WG,N',V1,q',bs',Vu,sn',Zb,ab',Xv,E9,k0',k1',k2',k3',k5',mN',Yz,Od⟩:=d.obj X;have hD:=(Od _ X).1;have RR:(Value.ref D::WG).contains (.type "BaseException")=true:=by rw [List.contains_cons,(Od _ X).2.2.hasType hb,Bool.or_true]
 have XS:=PySem.W.looks_subIn (M:=M) X hu;have f:=tc_notTuple;unfold excMatches
 repeat (first | (with_reducible refine wpAny_loadPart_at hx ?_;rw [hc]) | with_reducible refine wpAny_loadPart_at hD ?_ | (with_reducible refine wpAny_isSubtype_exc hD ?_;rw [RR]) | with_reducible refine XS.at ?_ | wp_step)
 exact h
end
section
variable{H H1:Hp}{s0:Shared}{h0:Heap}
theorem Fe(I:Inv X γ σ H' s)(rC:X.stack=X.env::X.outer)(hf:X.env.frame=some X.env.locals)(F:yd X.prog X.w X.stack H1 H' h0 s.heap B x o):∃vs:Array Value,vs[2]? =some .none/\Inv (Cx.bJ X x (X.pn++γ++[(x,{o with data:= .fields vs})])) [] σ H' s:=by
 obtain ⟨vs,_,_,_,hx,hv2,_⟩:=F.Bt.2.2.2;have VC:∀b∈jV X.stack,x≠b:=λb hb z=>by subst z;obtain ⟨_,o',nM,hd⟩:=F.Bt.2.2.1.mem hb;rw [hx] at nM;cases nM;exact hd _ rfl
 refine ⟨vs,hv2,Inv.Mt I x hx F.nx (VC _ (by rw [rC];exact abl.mpr ⟨X.env,aad,hf⟩)) (λz=>VC x (by rw [rC];exact tY x z) rfl) (λv q=>by cases q)⟩
end
def P8(K:fI)(D:Addr)(tb:(St->XK)->TS)(ts:TS):TS:=λDn σ H=>∃R:St->XK,tb R Dn σ H/\
 ∀σ' cls od H',R σ' cls od H'->∃C,cls= .ref C/\PySem.W.subIn K (.ref C) (.ref D)=some true/\ts Dn σ' H'
section
variable{body:List Stmt}{D:Addr}{dn:Str}{b₀:Stmt}{bJ:List Stmt}{t_ np:Pos}{tb:(St->XK)->TS}{ts:TS}{eF:String}
theorem H_(hc:X.calm=true)(rC:X.stack=X.env::X.outer)(hf:X.env.frame=some X.env.locals)(d:eK X.K D j4 eF)(C6:j4.contains (.type "BaseException")=true)(hg:Gl X dn)(hm:X.mg dn=some (.ref D))
  (hb:∀(R:St->XK) (γ:List (Addr×Obj)),zY (Cx.LW X R γ) body (tb R))
  (hs:∀(x:Addr) (pn:List (Addr×Obj)),zY (Cx.bJ X x pn) (b₀::bJ) ts) (gQ:(dn==("__debug__":Str))=false:=by decide):
  PS X (.Try body [.ExceptHandler (some (.Name dn np)) none (b₀::bJ) t_] [] [] pos) (P8 X.K D tb ts):=by
 intro γ s σ H Dn I h;obtain ⟨R,h1,h2⟩:=h;refine wpAny_Try_except (abi (hb R γ [] s σ H Dn (Inv.QX I _) h1) (λfl s1 z=> ?_) λe s1 z=> ?_)
 ·have z':SP X γ Dn fl s1:=SP.jr z;cases fl with
  | next=>exact wpAny_execs_nil z'
  | brk=>exact z'
  | cont=>exact z'
  | ret u=>exact z'
 ·obtain ⟨pw,σ',H1,s0,I0,hx⟩:=z;obtain ⟨x,o,H',B,rfl,os,bare,F,hE⟩:=hx;have I0:Inv X γ σ' H1 s0:=Inv.jr (E:=X.xe) I0;obtain ⟨C,ec,hu,Uj⟩:=h2 σ' _ _ H' hE;have K7:X.A.frames=some (X.env::X.outer):=by rw [<-rC];exact I0.ok.frames
  refine JH (B:=B) K7 hf (by rw [<-rC];exact F.Bt) λh4 f4 u4=> ?_;refine nO f4 λh5 f5 u5=> ?_;have F5:=F.on (by rw [rC];exact f5) (u4.trans u5);have I5:Inv X γ σ' H' {s1 with heap:=h5}:=F5.back I0 os bare;obtain ⟨v5,_,_,_,WN,_⟩:=f5.2.2.2;refine wpAny_handleBy_cons (codeAny_handlers_test (dN (X:=Cx.bJ X x (X.pn++γ)) (Inv.KC I5 x) hg hm ?_ gQ)) (by intro q;cases q);refine wG I5.g_ d C6 hu WN ec (codeAny_handlers_suite ?_);refine nO f5 λh6 f6 u6=> ?_;have F6:=F5.on (by rw [rC];exact f6) u6;have I6:Inv X γ σ' H' {s1 with heap:=h6}:=F6.back I0 os bare;obtain ⟨vs,_,J⟩:=Fe I6 rC hf F6;refine abi (hs x _ [] _ σ' H' Dn J Uj) (λfl s7 z=> ?_) λ_ _ z=>z.elim;cases fl with
  | next=>obtain ⟨a,b,I7,q⟩:=z;exact ⟨a,b,Inv.j_ I7 I0.ok.hd,q⟩
  | brk=>obtain ⟨a,b,I7,q⟩:=z;exact ⟨a,b,Inv.j_ I7 I0.ok.hd,q⟩
  | cont=>obtain ⟨a,b,I7,q⟩:=z;exact ⟨a,b,Inv.j_ I7 I0.ok.hd,q⟩
  | ret u=>obtain ⟨v,a,b,I7,r,q⟩:=z;exact ⟨v,a,b,Inv.j_ I7 I0.ok.hd,r,q⟩
end
theorem HS:bE (br X.prog X.w) (Cx.LW X R γ) R:=by intro pw σ H s e s' I hx;exact ⟨pw,σ,H,s,⟨Cx.Ok.Vt (Cx.Ok.Jz I.ok) _ _,I.os,I.bare,I.base,I.loc,I.cell,I.free,I.fh,I.pin,I.aC,I.len⟩,hx⟩
def jO(env:Env):List (Str×NameKind)->List (Str×Addr)->List (Str×Addr)
 | [],Ο=>Ο
 | p::r,Ο=>jO env r (if p.2== .free then (p.1,(env.cells.lookup p.1).getD 0)::Ο else Ο)
theorem qa{env:Env}(h:∀p∈scope.names,p.2= .free->(env.cells.lookup p.1).isSome=true):closureFor scope env=pure (jO env scope.names []):=by
 have key:∀(l:List (Str×NameKind)) (Ο:List (Str×Addr)),(∀p∈l,p.2= .free->(env.cells.lookup p.1).isSome=true)->
   (forIn l Ο (λ(p:Str×NameKind) (r:List (Str×Addr))=>(if p.2== .free then (do let c<-cellOf env p.1;pure (ForInStep.yield ((p.1,c)::r))) else pure (ForInStep.yield r):Sem (ForInStep (List (Str×Addr))))))=(pure (jO env l Ο):Sem (List (Str×Addr))):=by
  intro l
  induction l with
  | nil=>intro Ο _;rfl
  | cons p r ih=>
   intro Ο hp;rw [List.forIn_cons];have Va:=λa=>ih a λq hq=>hp q (aae _ hq);obtain ⟨n,k⟩:=p;by_cases hk:k= .free
   ·subst hk;have hs:=hp (n, .free) aad rfl;cases hl:env.cells.lookup n with
    | none=>rw [show env.cells.lookup (n,NameKind.free).1=none from hl] at hs;cases hs
    | some c=>
     have e1:jO env ((n, .free)::r) Ο=jO env r ((n,c)::Ο):=by show jO env r (if (NameKind.free==NameKind.free)=true then (n,(env.cells.lookup n).getD 0)::Ο else Ο)=_;rw [aaD (by decide),hl];rfl
     have e2:cellOf env n=pure c:=by unfold cellOf;rw [hl]
     rw [e1];have e3:(NameKind.free==NameKind.free)=true:=by decide
     simp only [e3,if_true,e2,pure_bind];exact Va _
   ·have hb:(k==NameKind.free)=false:=by simpa using hk
    have e1:jO env ((n,k)::r) Ο=jO env r Ο:=by show jO env r (if (k==NameKind.free)=true then (n,(env.cells.lookup n).getD 0)::Ο else Ο)=_;rw [hb,aaA (by decide)]
    rw [e1];simp only [hb,Bool.false_eq_true,if_false,pure_bind];exact Va _
 have:=key scope.names [] h;unfold closureFor
 first
  | exact this
  | (simp only [bind_pure];exact this)
  | (rw [bind_pure];exact this)
theorem r6{env:Env}{y:Str}{c:Addr}:∀(l:List (Str×NameKind)) (Ο:List (Str×Addr)),(∀p∈l,p.2= .free->(env.cells.lookup p.1).isSome=true)->
  (Ο.lookup y=some c->env.cells.lookup y=some c)->(jO env l Ο).lookup y=some c->env.cells.lookup y=some c
 | [],Ο,_,ha,h=>ha h
 | (n,k)::r,Ο,hp,ha,h=>by
  refine r6 r _ (λq hq=>hp q (aae _ hq)) (λe=> ?_) h;split at e
  ·rename_i hk;rw [aaZ] at e;cases q:(y==n) with
   | true=>
    rw [q] at e;have e':(env.cells.lookup n).getD 0=c:=aaw e;have hn:y=n:=by simpa using q
    subst hn;have hs:=hp (y,k) List.mem_cons_self (by simpa using hk);cases z:env.cells.lookup y with
    | none=>rw [show env.cells.lookup (y,k).1=none from z] at hs;cases hs
    | some d=>rw [z] at e';rw [<-e'];rfl
   | false=>rw [q] at e;exact ha e
  ·exact ha e
theorem oN{env:Env}{y:Str}:∀(l:List (Str×NameKind)) (Ο:List (Str×Addr)),((y,NameKind.free)∈l\/(Ο.lookup y).isSome=true)->((jO env l Ο).lookup y).isSome=true
 | [],Ο,h=>by
  rcases h with h | h
  ·cases h
  ·exact h
 | (n,k)::r,Ο,h=>by
  refine oN r _ ?_;by_cases hy:y=n
  ·subst hy;by_cases hk:k= .free
   ·subst hk;right;show (List.lookup y (if (NameKind.free==NameKind.free)=true then (y,(env.cells.lookup y).getD 0)::Ο else Ο)).isSome=true;rw [aaD (by decide),aaZ,abF];rfl
   ·rcases h with h | h
    ·rcases aar.mp h with z | z
     ·exact aaG (Prod.mk.inj z).2.symm hk
     ·exact .inl z
    ·right;rw [if_neg (by simpa using hk)];exact h
  ·rcases h with h | h
   ·rcases aar.mp h with z | z
    ·exact aaG (Prod.mk.inj z).1 hy
    ·exact .inl z
   ·right;split
    ·rw [List.lookup_cons,show (y==n)=false by simpa using hy];exact h
    ·exact h
def Cx.comp(X:Cx)(Nc:List Str)(scope:Scope)(C:Addr)(s:Shared)(H:Hp)(fp:List Addr):Cx:={X with
 N:=Nc
 s₀:=s
 H₀:=H
 env:=compEnvC scope (jO X.env scope.names []) C X.env
 outer:=X.stack
 ex:=fp
 fn:=λ_=>false
 pn:=[]
 xe:=λ_ _=>False}
theorem υ.of{P:List Str}{sc:Scope}(h:(sc.kind,sc.isCoroutine,sc.isGenerator)=(.function,false,false))(h2:N.Nodup/\N.take P.length=P/\(∀x∈P,sc.names.lookup x=some .local\/sc.names.lookup x=some .cell)/\(∀y∈sc.names,y.2≠ .free):=by decide+kernel):υ N P sc:=by obtain ⟨a,b,c,d⟩:=h2;exact ⟨aa5 (·.1) h,aa5 (·.2.1) h,aa5 (·.2.2) h,a,b,c,d⟩
structure Ν(X:Cx)(scope:Scope)(xs ys:List Str)(Ε:List Nat):Prop where
 kind:scope.kind= .function
 Df:∀p∈scope.names,p.2≠ .cell
 names:∀p∈scope.names,p.2= .local->scope.names.lookup p.1=some .local
 own:∀x∈xs,scope.names.lookup x=some .local
 free:∀p∈scope.names,p.2= .free->X.env.scope.names.lookup p.1=some .cell
 nd:(xs++ys).Nodup
 cap:∀q∈ys.zip Ε,X.N[q.2]? =some q.1/\X.env.scope.names.lookup q.1=some .cell/\scope.names.lookup q.1=some .free
 len:ys.length=Ε.length
theorem Ν.of{sc:Scope}(_:υ N ps sc)(hN:X.N=N)(hs:X.env.scope=sc)(k:scope.kind= .function)(h:(∀p∈scope.names,p.2≠ .cell)/\(∀p∈scope.names,p.2= .local->scope.names.lookup p.1=some .local)/\(∀x∈xs,scope.names.lookup x=some .local)/\(∀p∈scope.names,p.2= .free->sc.names.lookup p.1=some .cell)/\(xs++ys).Nodup/\(∀q∈ys.zip Ε,N[q.2]? =some q.1/\sc.names.lookup q.1=some .cell/\scope.names.lookup q.1=some .free)/\ys.length=Ε.length:=by decide+kernel):Ν X scope xs ys Ε:=by subst hN hs;obtain ⟨a,b,c,d,e,f,g⟩:=h;exact ⟨k,a,b,c,d,e,f,g⟩
theorem E3{env:Env}{y:Str}:∀{l:List (Str×NameKind)},(∀p∈l,p.2≠ .cell)->
  ((l.map λ(n,k)=>if (k==NameKind.free&&env.scope.kind== .function&&env.kindOf n==some .cell) then (n,NameKind.cell) else (n,k)).lookup y=some .cell\/
   (l.map λ(n,k)=>if (k==NameKind.free&&env.scope.kind== .function&&env.kindOf n==some .cell) then (n,NameKind.cell) else (n,k)).lookup y=some .free)->(y,NameKind.free)∈l
 | [],_,h=>by rcases h with h | h <;> cases h
 | (n,k)::r,hc,h=>by
  have ih:= @E3 env y r (λp hp=>hc p (aae _ hp));rw [aaB] at h;by_cases q:(k==NameKind.free&&env.scope.kind== .function&&env.kindOf n==some .cell)=true
  ·have hk:k= .free:=by rw [aap,aap] at q;simpa using q.1.1
   subst hk;by_cases hy:y=n
   ·subst hy;exact aad
   ·refine aae _ (ih ?_);have hb:(y==n)=false:=by simpa using hy
    simp only [q,if_true,List.lookup_cons,hb] at h;exact h
  ·by_cases hy:y=n
   ·subst hy;have hb:(y==y)=true:=by simp
    simp only [q,Bool.false_eq_true,if_false,List.lookup_cons,hb] at h;rcases h with h | h
    ·exact aaG (aaw h) (hc (y,k) aad)
    ·rw [<-aaw h];exact aad
   ·refine aae _ (ih ?_);have hb:(y==n)=false:=by simpa using hy
    simp only [q,Bool.false_eq_true,if_false,List.lookup_cons,hb] at h;exact h
theorem vC{env:Env}{y:Str}(hk:env.scope.kind= .function)(hy:env.kindOf y=some .cell):∀{l:List (Str×NameKind)},l.lookup y=some .free->
  (l.map λ(n,k)=>if (k==NameKind.free&&env.scope.kind== .function&&env.kindOf n==some .cell) then (n,NameKind.cell) else (n,k)).lookup y=some .cell
 | [],h=>by cases h
 | (n,k)::r,h=>by
  have ih:= @vC env y hk hy r;rw [aaB];rw [aaZ] at h;by_cases e:y=n
  ·subst e;have hb:(y==y)=true:=by simp
   rw [hb] at h;have:k= .free:=aaw h;subst this;have q:(NameKind.free==NameKind.free&&env.scope.kind== .function&&env.kindOf y==some .cell)=true:=by rw [hk,hy];rfl
   simp only [q,if_true,List.lookup_cons,hb]
  ·have hb:(y==n)=false:=by simpa using e
   rw [hb] at h;by_cases q:(k==NameKind.free&&env.scope.kind== .function&&env.kindOf n==some .cell)=true
   ·simp only [q,if_true,List.lookup_cons,hb];exact ih h
   ·simp only [q,Bool.false_eq_true,if_false,List.lookup_cons,hb];exact ih h
theorem Ν.has(S:Ν X scope xs ys Ε)(ok:X.Ok):∀p∈scope.names,p.2= .free->(X.env.cells.lookup p.1).isSome=true:=λp hp hf=>by obtain ⟨c,e⟩:=ok.has p.1 (.inl (S.free p hp hf));rw [e];rfl
theorem F_{α β:Type}:∀{xs:List α} {ys:List β} {j:Nat} {x:α} {y:β},xs[j]? =some x->ys[j]? =some y->(x,y)∈xs.zip ys
 | x::xs,y::ys,0,_,_,h1,h2=>by cases h1;cases h2;exact aad
 | x::xs,y::ys,j+1,_,_,h1,h2=>aae _ (F_ (xs:=xs) (ys:=ys) (j:=j) h1 h2)
 | [],_,_,_,_,h1,_=>by simp at h1
 | _::_,[],_,_,_,_,h2=>by simp at h2
def mQ(Ε:List Nat)(σ:St):St:=Ε.map λi=>(σ[i]?).join
def sQ(n:Nat)(gg:TG):Prop:=∀v (os cs:St) H (Q:St->Hp->Prop),os.length=n->gg v (os++cs) H Q->gg v (os++cs) H λσ' H'=>(∃Qh:St,Qh.length=n/\σ'=Qh++cs)/\Q σ' H'
def yo(J:It)(n:Nat)(gg:TG)(tc:TT)(te:TE)(cs:St)(Q:VK)(H1:Hp)(D:Addr):Prop:=
 ∃ W:Nat->Nat->List V->Hp->Prop,(∃m,W 0 m [] (upd H1 D (.lst [])))/\∀i m ys H2,W i m ys H2->H2 D=some (.lst ys)/\
  ((J.stop i H2/\Q (.ref D) H2)\/(J.go i H2/\∀x H3,J.NR i H2 x H3->∀os:St,os.length=n->gg x (os++cs) H3 λσ' Xe=>tc σ' Xe λb H4=>match b with
   | true=>te σ' H4 λy H5=>H5 D=some (.lst ys)/\ys.length < sizeLine/\∃m',m' < m/\W (i+1) m' (ys++[y]) (upd H5 D (.lst (ys++[y])))
   | false=>∃m',m' < m/\W (i+1) m' ys H4))
def DW(wi:TI)(n:Nat)(gg:TG)(tc:TT)(te:TE)(Ε:List Nat):TE:=λσ H Q=>wi σ H λJ H1=>∀D,H1 D=none->yo J n gg tc te (mQ Ε σ) Q H1 D
def Rp(cs:List Expr)(env:Env):Sem Bool:=match cs with
 | []=>pure true
 | c::_=>isTrue c env (eval c env)
def Qj(X:Cx)(cs:List Expr)(t:TT):Prop:=
 (cs=[]\/∃c,cs=[c])/\∀(γ:List (Addr×Obj)) (s:Shared) (σ:St) (H:Hp) (Q:Bool->Hp->Prop),Inv X γ σ H s->t σ H Q->wpAny (model X.prog X.w) X.A (Rp cs X.env) (TP X γ σ Q) X.xe s
theorem rj{elt target iter:Expr}{cs:List Expr}{scope:Scope}{pos:Pos}{it Ο:Value}{env:Env}(h:cs=[]\/∃c,cs=[c]):
  compTurn (.ListComp elt [⟨target,iter,cs,0⟩] scope pos) 0 it Ο env=(standAt iter.pos >>= λ_=>pyNext it >>= λr=>match r with
   | none=>pure (.done .next)
   | some v=>letOwnedTupleGo target it v >>= λ_=>assign target env v >>= λ_=>Rp cs env >>= λok=>
    (if ok=true then (eval elt env >>= λx=>call (.builtin "list.append") [Ο,x] >>= λ_=>pure ()) >>= λ_=>again (.compLoop (.ListComp elt [⟨target,iter,cs,0⟩] scope pos) 0 it Ο env)
     else again (.compLoop (.ListComp elt [⟨target,iter,cs,0⟩] scope pos) 0 it Ο env))):=by
 rcases h with rfl | ⟨c,rfl⟩ <;> (unfold compTurn Rp;dsimp only [List.getElem?_cons_zero,List.getElem?_cons_succ,List.getElem?_nil];simp only [List.forIn_cons,List.forIn_nil,bind_assoc,pure_bind,if_true];rfl)
section
variable{elt iter tg:Expr}{cs:List Expr}{wi:TI}{gg:TG}{tc:TT}{te:TE}
theorem sd(S:Ν X scope xs ys Ε)(hc:X.calm=true)(hg:∀C s H fp,PG (Cx.comp X (xs++ys) scope C s H fp) tg gg)(hk:sQ xs.length gg)(ht:∀C s H fp,Qj (Cx.comp X (xs++ys) scope C s H fp) cs tc)(he:∀C s H fp,PE (Cx.comp X (xs++ys) scope C s H fp) elt te)
    {H2:Hp} {s2:Shared} {it:Addr} {fp:List Addr} {tn:Nat->Heap->Prop} {J:It} {Q:V->Hp->Prop} {PQ:Value->Addr->Result->Shared->Prop} (I:Inv X γ σ H2 s2) (T:vq X.prog X.w X.K tg J fp it tn) (t0:tn 0 s2.heap) (f2:∀b∈fp,oR X γ H2 b)
  (h:∀D,H2 D=none->yo J xs.length gg tc te (mQ Ε σ) Q H2 D)
  (XJ:∀D C s' H',Inv X γ σ H' s'->Q (.ref D) H'->(∃m,s'.heap.Ns C m)->H' C=none->X.s₀.heap.objs.size<=C->C≠X.env.locals->(∀z c,X.env.cells.lookup z=some c->c≠C)->(∀p∈X.pn++γ,p.1≠C)->PQ (.ref D) C (.ok .next) s'):
  wpAny (model X.prog X.w) X.A (newList []) (λΟ s3=>wpAny (model X.prog X.w) X.A (newFunctionEnv scope X.env.globals (jO X.env scope.names []) [] X.env.qual none .none (some X.env)) (λNt s4=>
   codeAny (model X.prog X.w) X.A (.compStart (.ListComp elt [⟨tg,iter,cs,0⟩] scope pos) 0 (.ref it) Ο {Nt with scope:=relabel scope X.env}) (PQ Ο Nt.locals) s4) X.xe s3) X.xe s2:=by
 have hD:H2 s2.heap.objs.size=none:=I.fresh;obtain ⟨W,⟨m0,w0⟩,step⟩:=h _ hD;refine wpAny_newObj_type ?_;have I3:Inv X γ σ (upd H2 s2.heap.objs.size (.lst [])) {s2 with heap:=s2.heap.push {cls:= .type "list",data:= .seq ([]:List Value).toArray}}:=Inv.Ft (t':=s2.toks) I (ys:=[]) (its:=[]) .nil (aa1 _);generalize hH3:upd H2 s2.heap.objs.size (.lst [])=H3 at I3 w0;generalize Vb:({s2 with heap:=s2.heap.push {cls:= .type "list",data:= .seq ([]:List Value).toArray}}:Shared)=s3 at I3;have Se:∀b∈fp,H3 b=none:=λb hb=>by obtain ⟨o,e,_⟩:=T.obj _ _ t0 b hb;rw [<-hH3,Γ (aaI (aai e))];exact (f2 b hb).1
 have t3:tn 0 s3.heap:=T.keep _ _ _ t0 λb hb o e=>by rw [<-Vb];exact aaf _ e
 refine wpAny_newFunctionEnv S.Df (λy hy=>nomatch hy) (λh4 Xq WH=> ?_) S.kind;have hC:H3 s3.heap.objs.size=none:=I3.fresh
 have kp:∀b o,s3.heap.get? b=some o->h4.get? b=some o:=λb o e=>
  (WH.2 b (aaI (aai e))).trans (aaf _ e)
 generalize Tw:({s3 with heap:=h4,toks:=s3.toks+([]:List (Str×Value)).length}:Shared)=s4;have e4:s4.heap=h4:=by rw [<-Tw]
 have Ha:∀z c,X.env.cells.lookup z=some c->c≠s3.heap.objs.size:=λz c e q=>by obtain ⟨v,w⟩:=I3.cell z c e;exact abq _ (q▸w.lt)
 have su:∀z c,(jO X.env scope.names []).lookup z=some c->X.env.cells.lookup z=some c:=λz c e=>r6 scope.names [] (S.has I.ok) (λq=>nomatch q) e;have Wd:s3.heap.objs.size≠X.env.locals:=abM I3.lt;have ok:(Cx.comp X (xs++ys) scope s3.heap.objs.size s3 H3 fp).Ok:=by
  refine ⟨I3.ok.mod,S.kind,I3.ok.glob,I3.ok.blt,aak _,λz z' c e1 e2=>I3.ok.inj z z' c (su z c e1) (su z' c e2),λz hz=> ?_,λz c hz=>(by cases hz),I3.ok.hd,I3.ok.frames, .inl rfl,λb hb=>⟨?_,λz c e=> ?_⟩,I3.bs, ?_,λb o e hb=> ?_,λb hb hf=> ?_,I3.stack,I3.n_⟩
  ·have:=oN (env:=X.env) scope.names [] (.inl (E3 S.Df hz));exact abH.mp this
  ·obtain ⟨o,e,_⟩:=T.obj _ _ t3 b hb;exact aaI (aai e)
  ·exact (f2 b hb).2.2.2.2.1 z c (su z c e)
  ·exact aaq I3.ok.GI I3.sz
  ·obtain ⟨_,_,_,hy,_⟩:=f2 b hb;have e0:=(I3.ok.bs b o e).1;rcases hy with hy | hy
   ·exact I3.ok.zF b o e hy
   ·exact aaG (aam (aai e0) hy) (abq _)
  ·obtain ⟨_,hl,WM,_⟩:=f2 b hb;exact (aar.mp (I3.ve b hf)).elim hl WM
 have hlen:((List.replicate xs.length (none:Option V))++mQ Ε σ).length=(xs++ys).length:=by rw [aab,aab,aas,S.len];unfold mQ;rw [aaa]
 have I4:Inv X γ σ H3 s4:=by rw [<-Tw];exact I3.kept kp
 have Ic:Inv (Cx.comp X (xs++ys) scope s3.heap.objs.size s3 H3 fp) [] ((List.replicate xs.length (none:Option V))++mQ Ε σ) H3 s4:=by
  refine ⟨ok,by rw [<-Tw];rfl,I4.bare,Un.kept (by rw [e4];exact kp),⟨_,by rw [e4];exact Xq,λi z v e1 e2 e3=> ?_⟩,λz c e=>I4.cell z c (su z c e),hC,λz c e=>I4.fh z c (su z c e),(λp hp=>nomatch hp),I4.aC,hlen⟩;have e1:(xs++ys)[i]? =some z:=e1;by_cases hi:i < xs.length
  ·rw [aau (by rw [aas];exact hi),List.getElem?_replicate,aaD hi] at e2;cases e2
  ·obtain ⟨j,rfl⟩:∃j,i=xs.length+j:=⟨i - xs.length,by omega⟩;have e1:ys[j]? =some z:=by rw [aaJ (by omega),Nat.add_sub_cancel_left] at e1;exact e1
   have e2:(mQ Ε σ)[j]? =some (some v):=by rw [aaJ (by rw [aas];omega),aas,Nat.add_sub_cancel_left] at e2;exact e2
   unfold mQ at e2;rw [aaF] at e2;cases hi:Ε[j]? with
   | none=>rw [hi] at e2;cases e2
   | some i=>
    rw [hi] at e2;have e2:(σ[i]?).join=some v:=aaw e2;have e2:σ[i]? =some (some v):=by
     cases q:σ[i]? with
     | none=>rw [q] at e2;cases e2
     | some o=>rw [q] at e2;exact aa5 some e2
    obtain ⟨c1,c2,c3⟩:=S.cap (z,i) (F_ e1 hi);have c4:=vC (env:=X.env) I.ok.kind c2 c3;have c3:(z,NameKind.free)∈scope.names:=PySem.mem_of_lookup c3;obtain ⟨m,hn,hl⟩:=I4.loc;obtain ⟨u,r,lk⟩:=hl i z v c1 e2 (.inr (.inl c2));refine ⟨u,r, .inr ⟨.inl c4, ?_⟩⟩;rcases lk with ⟨k,_⟩ | ⟨_,c,Qy,z'⟩
    ·exact aaG ((show X.env.scope.names.lookup z=some .local from k).symm.trans c2) (by decide)
    ·obtain ⟨d,hd⟩:=abH.mp (oN (env:=X.env) scope.names [] (.inl c3));have:=su z d hd;rw [Qy] at this;cases this;exact ⟨c,hd,z'⟩
 have loop:codeAny (model X.prog X.w) X.A (.compLoop (.ListComp elt [⟨tg,iter,cs,0⟩] scope pos) 0 (.ref it) (.ref s2.heap.objs.size) (compEnvC scope (jO X.env scope.names []) s3.heap.objs.size X.env)) (PQ (.ref s2.heap.objs.size) s3.heap.objs.size) s4:=by
  have Rt:∀{H':Hp},(∀b∈fp,H' b=none)->∀b∈fp,oR (Cx.comp X (xs++ys) scope s3.heap.objs.size s3 H3 fp) [] H' b:=λhn b hb=>
   ⟨hn b hb,(ok.Nf b hb).1,ok.yt b hb, .inl hb,(ok.Nf b hb).2,(λp hp=>nomatch hp)⟩
  refine codeAny_loop rfl (λn s'=>∃(i:Nat) (zs:List V) (os:St) (H':Hp),os.length=xs.length/\Inv (Cx.comp X (xs++ys) scope s3.heap.objs.size s3 H3 fp) [] (os++mQ Ε σ) H' s'/\tn i s'.heap/\(∀b∈fp,H' b=none)/\W i n zs H') (λn s5 z=> ?_) m0 ⟨0,[],List.replicate xs.length none,H3,by rw [aas],Ic,T.keep _ _ _ t3 (λb hb o e=>by rw [e4];exact kp b o e),Se,w0⟩;obtain ⟨i,zs,os,H5,l5,I5,t5,QN,w5⟩:=z;show wpAny _ _ ((compTurn _ 0 (.ref it) _ _).onRaise _) _ _ s5;refine wpAny_noted ?_;rw [rj (ht s3.heap.objs.size s3 H3 fp).1];refine aah (wpAny_standAt (aah ?_));obtain ⟨Ga,stop | go⟩:=step i n zs H5 w5
  ·obtain ⟨stop,q⟩:=stop;refine aY (T.done (Cx.comp X (xs++ys) scope s3.heap.objs.size s3 H3 fp) rfl rfl rfl hc i [] s5 _ H5 _ I5 (Rt QN) t5 stop) λr s6 ⟨hr,I6⟩=> ?_;subst hr;refine aaE (XJ _ _ s6 H5 ?_ q ?_ I6.free ?_ Wd Ha λp hp z=> ?_)
   ·refine I3.JF I6.os I6.base I6.aC I6.bare λb hb=> ?_;obtain ⟨_,g1,_,g3,g4,g5⟩:=f2 b hb;exact ⟨g3,g1,g4,g5⟩
   ·obtain ⟨m,hn,_⟩:=I6.loc;exact ⟨m,hn⟩
   ·exact I3.sz
   ·exact aaI (aai (I3.pin p hp).1) z
  ·obtain ⟨go,turn⟩:=go;refine aY (T.item (Cx.comp X (xs++ys) scope s3.heap.objs.size s3 H3 fp) rfl rfl rfl hc i [] s5 _ H5 _ I5 (Rt QN) t5 go) λr s6 ⟨u,hr,h6⟩=> ?_;subst hr;refine aah (aY h6 λ_ s7 ⟨y,H7,I7,r7,y7,t7,YV⟩=> ?_);have Wr:=I7.pinned (Rt YV) (T.obj _ _ t7);refine aah (abi (hg _ _ _ _ _ s7 _ H7 y u _ Wr r7 (hk y os _ H7 _ l5 (turn y _ y7 os l5))) (λ_ s8 z8=> ?_) λ_ _ f=>f.elim);obtain ⟨σ8,H8,I8,⟨V7,l8,e8⟩,q8⟩:=z8;subst e8;refine aah (abi ((ht _ _ _ _).2 _ s8 _ _ _ I8 q8) (λb s9 z9=> ?_) λ_ _ f=>f.elim);obtain ⟨H9,I9,q9⟩:=z9;cases b with
   | false=>
    obtain ⟨m9,Wv,w9⟩:=q9;refine aaE ⟨rfl,m9,Wv,i+1,zs,V7,_,l8,I9.hX,T.keep _ _ _ t7 λb hb o e=>(I9.pin (b,o) (aav _ (aav _ (cX hb e)))).1,λb hb=> ?_,w9⟩;obtain ⟨o,e,_⟩:=T.obj _ _ t7 b hb;exact (I9.pin (b,o) (aav _ (aav _ (cX hb e)))).2.1
   | true=>
    refine aah (aah (abi (he _ _ _ _ _ s9 _ _ _ I9 q9) (λZN ZC WK=> ?_) λ_ _ f=>f.elim));obtain ⟨v10,V5,Wn,X6,QS,l10,X9,Um,Yx⟩:=WK;refine aah (abi (rz (X:=Cx.comp X (xs++ys) scope s3.heap.objs.size s3 H3 fp) _ ZC _ V5 (.ref s2.heap.objs.size) [v10] _ [ZN] (λ_ H'=>H'=upd V5 s2.heap.objs.size (.lst (zs++[v10]))) Wn rfl (.cons X6 .nil) ⟨_,zs,v10,rfl,rfl,QS,l10,rfl⟩) (λ_ s11 ZG=> ?_) λ_ _ f=>f.elim);obtain ⟨_,H11,UC,_,Wl⟩:=ZG;subst Wl;refine aaE (aaE ⟨rfl,X9,Um,i+1,zs++[v10],V7,_,l8,UC.hX,T.keep _ _ _ t7 λb hb o e=>(UC.pin (b,o) (aav _ (aav _ (cX hb e)))).1,λb hb=> ?_,Yx⟩);obtain ⟨o,e,_⟩:=T.obj _ _ t7 b hb;exact (UC.pin (b,o) (aav _ (aav _ (cX hb e)))).2.1
 exact codeAny_compStart_list loop (T.self X.A 0 _ _ _ (T.keep _ _ _ t3 (λb hb o e=>by rw [e4];exact kp b o e)) loop)
theorem FQ(S:Ν X scope xs ys Ε)(hc:X.calm=true)(hi:PI X tg iter wi)(hg:∀C s H fp,PG (Cx.comp X (xs++ys) scope C s H fp) tg gg)(hk:sQ xs.length gg)(ht:∀C s H fp,Qj (Cx.comp X (xs++ys) scope C s H fp) cs tc)(he:∀C s H fp,PE (Cx.comp X (xs++ys) scope C s H fp) elt te)(hs:∀x,foldedSetIterable iter X.env x=pure x:=by intro _;rfl):
  PE X (.ListComp elt [⟨tg,iter,cs,0⟩] scope pos) (DW wi xs.length gg tc te Ε):=by
 intro γ s σ H Q I h;rw [eval_ListComp];refine wpAny_comprehension_free (use:=none) rfl hs (qa (S.has I.ok)) S.kind S.names (aY (hi γ s σ H _ I h) λv s1 h1=>aY h1 λQg s2 h2=> ?_);obtain ⟨it,fp,tn,J,H2,rfl,I2,T,t0,f2,q⟩:=h2;refine sd S hc hg hk ht he (Q:=Q) I2 T t0 f2 q λD C s' H' I' q' n' hC hz hL Lp hp=> ?_;obtain ⟨m,n'⟩:=n';exact ⟨m,n',λh' sb=>⟨.ref D,H',I'.turned (it:=C) (t':=s'.toks) (λb o hb e=>(sb.2 b hb).trans e) hC hL (.inr hz) Lp hp,rfl,q'⟩⟩
theorem wB{i:Nat}{y:Str}{py ie:Pos}(hN:X.N.Nodup)(EL:X.N[i]? =some y)(hy:Loc X.env.scope y)(S:Ν X scope xs ys Ε)(hc:X.calm=true)(hi:PI X tg iter wi)(hg:∀C s H fp,PG (Cx.comp X (xs++ys) scope C s H fp) tg gg)(hk:sQ xs.length gg)(ht:∀C s H fp,Qj (Cx.comp X (xs++ys) scope C s H fp) cs tc)(he:∀C s H fp,PE (Cx.comp X (xs++ys) scope C s H fp) elt te)
  (Fz:swapsWith (.ListComp elt [⟨tg,iter,cs,0⟩] scope pos) (some (.Name y py)) ie.line X.env=pure true) (hs:∀x,foldedSetIterable iter X.env x=pure x)
  (hf:X.fn y=true\/X.env.scope.names.lookup y=some .local):
  PS X (.Assign [.Name y py] (.ListComp elt [⟨tg,iter,cs,0⟩] scope pos) ie) (λD σ H=>DW wi xs.length gg tc te Ε σ H λv H1=>D.nx (σ.set i (some v)) H1):=by
 intro γ s σ H D I h;rw [exec_Assign_Name_used _ _ _ _ Fz];refine aah (wpAny_standAt (aah ?_));show wpAny _ _ (do let _<-comprehension (.ListComp elt [⟨tg,iter,cs,0⟩] scope pos) scope X.env _ (newList []) false (eval iter X.env) (some (assign (.Name y py) X.env))) _ _ s;refine aah (abi (wpAny_comprehension_free (use:=some (assign (.Name y py) X.env)) (Q:=λ_ s'=>SP X γ D .next s') rfl hs (qa (S.has I.ok)) S.kind S.names (aY (hi γ s σ H _ I h) λv s1 h1=>aY h1 λQg s2 h2=> ?_)) (λ_ s' hq=>aaE (aaE hq)) λ_ _ e=>e);obtain ⟨it,fp,tn,J,H2,rfl,I2,T,t0,f2,q⟩:=h2;refine sd S hc hg hk ht he (Q:=λv H1=>D.nx (σ.set i (some v)) H1) I2 T t0 f2 q λDl C s' H' I' q' n' hC hz hL Lp hp=> ?_;obtain ⟨m,n'⟩:=n';show wpAny _ _ (assign (.Name y py) X.env (.ref Dl)) _ _ s';refine wpAny_assign_Name (sj I' hN EL hy (v:= .ref Dl) rfl (λs3 I3 Uv=> ?_) hf);obtain ⟨a,Uv,ha⟩:=Uv;have ZU:C≠a:=by
  rcases ha with rfl | ha
  ·exact hL
  ·exact (Lp _ _ ha).symm
 exact ⟨m,n'.sameBut Uv ZU,λh' sb=>⟨_,H',I3.turned (it:=C) (t':=s3.toks) (λb o hb e=>(sb.2 b hb).trans e) hC hL (.inr hz) Lp hp,q'⟩⟩
end
section
variable{K:fI}
theorem bV.XR{x:Str}{k:Nat}{sp:Sp}(F:bV K x qual st f fd)(S:υ N ps (μ st))(len:∀vs H Q E,sp vs H Q E->vs.length=ps.length)
  (vG:∀(aQ:Value) (A:Around) (outer:List Env) (s:Shared) (H:Hp) (vs:List V) (Q:VK) (E:XK),bx k (A.deeper (envOfC qual (μ st) s.heap.objs.size f aQ))->sp vs H Q E->
   ∃t,zY (js (br P w) P w K mg base N qual (μ st) f aQ A outer s H E) (fe st) t/\t {nx:=λ_ H'=>Q .bw H',rt:=Q} (iD N vs) H):Τ P w K mg base (br P w) (k+1) f fd ps sp:=by
 obtain ⟨oc,od,kV,doc,pm,an,aQ,ct,FE,rfl,lk,DR⟩:=F.ex;exact Nu lk DR S len λA outer s H vs Q E hr JZ=>vG aQ A outer s H vs Q E hr JZ
end
theorem aM:bE (br P w) X (λ_=>E0):=by intro γ σ H s e s' _ hx;obtain ⟨_,_,_,_,_,_,_,_,hE⟩:=hx;exact hE.elim
theorem log2_lt{n:Nat}{k:Nat}(h:n < 2 ^ k)(hk:0 < k):n.log2 < k:=by
 by_cases h0:n=0
 ·rw [h0,show Nat.log2 0=0 from rfl];exact hk
 ·exact (Nat.log2_lt h0).mpr h
def iK(i:Int):Prop:=i.natAbs < 2 ^ 8000
theorem CC{i j:Int}(hi:iK i)(hj:iK j):IntMulOk i j:=by
 have b:∀{i:Int},iK i->Builtin.Int.intBits i<=8000:=λ{i} h=>by
  unfold Builtin.Int.intBits;split
  ·exact aa1 _
  ·have:=log2_lt (k:=8000) h (by decide);omega
 have b1:=b hi;have b2:=b hj;have h3:Builtin.Int.intTooBig (Builtin.Int.intBits i+Builtin.Int.intBits j)=false:=by
  unfold Builtin.Int.intTooBig;refine aaC ?_;have:(bitsLine:Int)=134217728:=by decide
  omega
 unfold IntMulOk;rw [h3,Bool.and_false];exact aan
section
theorem IY:gh X (binaryOp .Mult) (rI (λi j=>iK i/\iK j) λi j=> .int (i * j)):=Qx λ_ _ _ _ _ _ _ hc q=>mul_int q (CC hc.1 hc.2)
theorem wt:gh X (binaryOp .FloorDiv) (rI (λ_ j=>j≠0/\iK j) λi j=> .int (i.fdiv j)):=Qx λ_ _ _ _ _ _ _ hc q=>
 floordiv_int hc.1 q (.inl (PyProof.noPylong_of_log2 (aam (log2_lt (k:=8000) hc.2 (by decide)) (by decide))))
end
def II:V->Option Value
 | .ty T=>some (.type T)
 | .ref C=>some (.ref C)
 | _=>none
theorem Hg{c:V}{u t:Value}(r:ah c u)(h:II c=some t):u=t:=by
 cases c with
 | ty T=>cases r;exact aaw h
 | ref C=>cases r;exact aaw h
 | _=>cases h
section
theorem xk:b9 X (.builtin "isinstance") (λxs H Q=>∃x c t t' b,xs=[x,c]/\jz X.K H x t/\II c=some t'/\PySem.W.kitOne X.K t t'=some b/\Q (.bl b) H):=by intro γ s σ H xs us Q I r h;obtain ⟨x,c,t,t',b,rfl,ty,hc,hk,q⟩:=h;obtain ⟨u,u',rfl,r1,r2⟩:=GA r;cases Hg r2 hc;exact Cy I r1 ty hk λtk=>⟨.bl b,H,I.tok tk,rfl,q⟩
end
def lU:List V->List V->Bool
 | [],[]=>true
 | x::xs,y::ys=>z6 x y&&lU xs ys
 | _,_=>false
theorem jE:∀(xs ys:List V) (e:Nat->Bool),(∀j x y,xs[j]? =some x->ys[j]? =some y->e j=z6 x y)->((List.range (min xs.length ys.length)).all e&&xs.length==ys.length)=lU xs ys
 | [],[],e,_=>rfl
 | [],_::_,e,_=>by simp [lU]
 | _::_,[],e,_=>by simp [lU]
 | x::xs,y::ys,e,h=>by
  have ih:=jE xs ys (λj=>e (j+1)) λj x y h1 h2=>h (j+1) x y h1 h2;have h0:e 0=z6 x y:=h 0 x y rfl rfl;show _=(z6 x y&&lU xs ys);rw [<-ih,<-h0];have e1:min (x::xs).length (y::ys).length=min xs.length ys.length+1:=by simp only [List.length_cons];omega
  rw [e1,abu,abr,List.all_map];have e2:((x::xs).length==(y::ys).length)=(xs.length==ys.length):=by simp only [List.length_cons];rw [Bool.eq_iff_iff];simp
  rw [e2,Bool.and_assoc];rfl
def Po(K:fI):R2:=λx y H Q=>∃a b xs ys,x= .ref a/\y= .ref b/\j0 K H a xs/\j0 K H b ys/\xs.all dG=true/\ys.all dG=true/\Q (.bl (lU xs ys)) H
def OV(K:fI):R2:=λx y H Q=>∃a b xs ys,x= .ref a/\y= .ref b/\j0 K H a xs/\j0 K H b ys/\xs.all dG=true/\ys.all dG=true/\Q (.bl (!lU xs ys)) H
theorem kh:∀{xs:List V} {j:Nat} {x:V},xs.all dG=true->xs[j]? =some x->dG x=true
 | _::_,0,_,h,e=>by rw [abr,aap] at h;cases e;exact h.1
 | _::_,j+1,_,h,e=>by rw [abr,aap] at h;exact kh h.2 e
section
theorem MP(hu:X.A.units < cLine):gh X (compareOp .NotEq) (OV X.K):=by
 intro γ s σ H x y v u Q I rx ry h;obtain ⟨a,b,xs,ys,rfl,rfl,h1,h2,f1,f2,q⟩:=h;cases rx;cases ry;obtain ⟨i1,v1,t1,_⟩:=I.tuple h1;obtain ⟨i2,v2,t2,_⟩:=I.tuple h2;have l1:=v1.length;have l2:=v2.length;refine SeqAt.RcNeAt.tuples (e:=λj=>match xs[j]?,ys[j]? with | some x,some y=>z6 x y | _,_=>true) (show s.heap.IsTuple a i1.toArray from t1) (show s.heap.IsTuple b i2.toArray from t2) hu (λj h1 h2=> ?_) _ _ _ _ ?_
 ·have b1:j < i1.length:=by simpa using h1
  have b2:j < i2.length:=by simpa using h2
  have e1:xs[j]? =some (xs[j]'(by omega)):=aac _;have e2:ys[j]? =some (ys[j]'(by omega)):=aac _;obtain ⟨u1,g1,r1⟩:=v1.get e1;obtain ⟨u2,g2,r2⟩:=v2.get e2;rw [aac b1] at g1;rw [aac b2] at g2;have w1:i1.toArray[j]=u1:=by simpa using Option.some.inj g1
  have w2:i2.toArray[j]=u2:=by simpa using Option.some.inj g2
  rw [w1,w2];simp only [e1,e2];exact zB r1 r2 (kh f1 e1) (kh f2 e2)
 ·rw [List.size_toArray,List.size_toArray,<-l1,<-l2,jE xs ys _ (λj x y h1 h2=>by simp only [h1,h2])];exact ⟨.bl (!lU xs ys),H,I,rfl,q⟩
theorem E2(hu:X.A.units < cLine):gh X (compareOp .Eq) (Po X.K):=by
 intro γ s σ H x y v u Q I rx ry h;obtain ⟨a,b,xs,ys,rfl,rfl,h1,h2,f1,f2,q⟩:=h;cases rx;cases ry;obtain ⟨i1,v1,t1,_⟩:=I.tuple h1;obtain ⟨i2,v2,t2,_⟩:=I.tuple h2;have l1:=v1.length;have l2:=v2.length;refine SeqAt.eq_tupleAt (e:=λj=>match xs[j]?,ys[j]? with | some x,some y=>z6 x y | _,_=>true) (show s.heap.IsTuple a i1.toArray from t1) (show s.heap.IsTuple b i2.toArray from t2) hu (λj h1 h2=> ?_) ?_
 ·have b1:j < i1.length:=by simpa using h1
  have b2:j < i2.length:=by simpa using h2
  have e1:xs[j]? =some (xs[j]'(by omega)):=aac _;have e2:ys[j]? =some (ys[j]'(by omega)):=aac _;obtain ⟨u1,g1,r1⟩:=v1.get e1;obtain ⟨u2,g2,r2⟩:=v2.get e2;rw [aac b1] at g1;rw [aac b2] at g2;have w1:i1.toArray[j]=u1:=by simpa using Option.some.inj g1
  have w2:i2.toArray[j]=u2:=by simpa using Option.some.inj g2
  rw [w1,w2];simp only [e1,e2];exact zB r1 r2 (kh f1 e1) (kh f2 e2)
 ·rw [List.size_toArray,List.size_toArray,<-l1,<-l2,jE xs ys _ (λj x y h1 h2=>by simp only [h1,h2])];exact ⟨.bl (lU xs ys),H,I,rfl,q⟩
end
theorem CV(bs:List Bool):(List.range bs.length).any (λi=>bs.getD i false)=bs.any id:=by
 induction bs with
 | nil=>rfl
 | cons b bs ih=>
  rw [aaz,abu,abm,List.any_map,abm,<-ih];rfl
theorem vd:∀{bs:List Bool} {us:List Value},Φ (bs.map V.bl) us->us=bs.map Value.bool
 | [],_,r=>by cases r;rfl
 | b::bs,_,r=>by
  cases r with
  | cons h t=>
   cases h;rw [vd t];rfl
theorem w8{prog:Program}{bs:List Bool}:TruthOf prog w A (λi v=>(bs.map Value.bool).toArray[i]? =some v) (λi=>bs.getD i false):=by
 intro i v s Q E h q;have h':(bs.map Value.bool)[i]? =some v:=by simpa using h
 rw [aaF] at h';cases e:bs[i]? with
 | none=>rw [e] at h';cases h'
 | some b=>
  rw [e] at h';cases h';have q':Q b s:=by
   have eb:bs.getD i false=b:=by rw [aaS,e];rfl
   exact eb▸q
  exact wpAny_truthy_bool q'
def N2(K:fI):List V->Hp->VK->Prop:=λxs H Q=>∃(p:Addr) (bs:List Bool),xs=[.ref p]/\fc K H p (bs.map V.bl)/\Q (.bl (bs.any id)) H
section
theorem FI (hc : X.calm = true) : b9 X (.builtin "any") (N2 X.K) := by
  intro γ s σ H xs us Q I r h;obtain ⟨p, bs, rfl, hq, q⟩ := h;obtain ⟨u, rfl, r1⟩ := eW r;cases r1;obtain ⟨its, rv, pl, hz⟩ := I.list hq;have Lx := vd rv;subst Lx;refine call_any_walk (wpAny_pyIter_list pl.isList ?_);have lp : p < s.heap.objs.size := by obtain ⟨o, e, _⟩ := pl.isList; exact aai e
  refine ⟨s.heap.objs.size, _, _, _, _, _, λi => bs.getD i false, rfl, Walks.list (show X.A.in1.handled = none from I.ok.hd hc) s.heap.objs.size p (aaI lp) (bs.map Value.bool).toArray, ⟨⟨_, aaM _ rfl, rfl, rfl⟩, pl.isList.at λo e => aaf _ e⟩, w8, λh' tk hk => ?_⟩;refine ⟨.bl (bs.any id), H, I.kept λb o e => hk b o (λz => by have : b = s.heap.objs.size := (by simpa using z); exact Nat.lt_irrefl _ (this ▸ Heap.lt_size e)) (Heap.get?_push_of_some _ e), ?_, q⟩;rw [aaT, aaa, CV];rfl
end
end L2
namespace PySem
open Sem (wp)
end PySem
namespace PySem.W
open PySem PySem.Builtin PySem.Builtin.ObjectAttr
end PySem.W
namespace PySem
open Sem (wp)
end PySem
namespace L2
open PySem PySem.Spec PyProof.Rows
def xO(a C:Addr)(od:Option Addr):HO:= .ext λh=>∃ob vs,h.get? a=some ob/\ob.cls= .ref C/\ob.dict=od/\ob.data= .fields vs
inductive Dt where
 | bw
 | bl (b:Bool)
 | int (i:Int)
 | str (x:Str)
 | tup (xs:List Dt)
 | lst (xs:List Dt)
 | obj (C:Addr) (ns:List Str) (xs:List Dt)
 | loc (k:Nat)
 | ref (a:Addr)
 | ty (n:String)
 | nF (ns:List Int)
 | kt (xs:List Dt)
 | exc (C:Addr) (ns:List Str) (xs:List Dt)
 | Nl (x C:Addr) (od:Option Addr) (ns:List Str) (xs:List Dt)
inductive MO where
 | lst (xs:List Dt)
 | ins (C:Addr) (ns:List Str) (xs:List Dt)
 | dt (ks:List Key) (xs:List Dt)
 | raw (u:Addr->HO)
abbrev Ms:=List MO
abbrev En:=List (Option Dt)
mutual
def Den(K:fI)(G:Hp)(L:List Addr):Dt->V->Prop
 | .bw,v=>v= .bw
 | .bl b,v=>v= .bl b
 | .int i,v=>v= .int i
 | .str x,v=>v= .str x
 | .tup ds,v=>∃a vs,v= .ref a/\G a=some (.tup vs)/\Ι K G L ds vs
 | .lst ds,v=>∃a vs,v= .ref a/\G a=some (.lst vs)/\Ι K G L ds vs
 | .obj C ns ds,v=>∃a dx vs,v= .ref a/\G a=some (.ins C dx (ns.zip vs))/\ns.length=ds.length/\Ι K G L ds vs
 | .loc k,v=>∃a,v= .ref a/\L[k]? =some a
 | .ref a,v=>v= .ref a
 | .ty n,v=>v= .ty n
 | .nF ns,v=>∃a,v= .ref a/\fc K G a (ns.map V.int)
 | .kt ds,v=>∃a vs,v= .ref a/\j0 K G a vs/\Ι K G L ds vs
 | .exc C ns ds,v=>∃a od vs,v= .ref a/\G a=some (xO a C od)/\((ns=[]/\od=none)\/∃dx,od=some dx/\G dx=some (.xd (ns.zip vs)))/\ns.length=ds.length/\Ι K G L ds vs
 | .Nl x _ od ns ds,v=>∃vs,v= .ref x/\((ns=[]/\od=none)\/∃dx,od=some dx/\G dx=some (.xd (ns.zip vs)))/\ns.length=ds.length/\Ι K G L ds vs
def Ι(K:fI)(G:Hp)(L:List Addr):List Dt->List V->Prop
 | [],vs=>vs=[]
 | d::ds,vs=>∃v r,vs=v::r/\Den K G L d v/\Ι K G L ds r
end
def Pre(L L':List Addr):Prop:=∃t,L'=L++t
theorem Pre.refl(L:List Addr):Pre L L:=⟨[],by simp⟩
theorem Pre.trans{a b c:List Addr}(h:Pre a b)(h':Pre b c):Pre a c:=by obtain ⟨t,rfl⟩:=h;obtain ⟨u,rfl⟩:=h';exact ⟨t++u,by simp⟩
theorem Pre.get{a b:List Addr}(h:Pre a b){k:Nat}{x:Addr}(e:a[k]? =some x):b[k]? =some x:=by obtain ⟨t,rfl⟩:=h;have hk:k < a.length:=(aag.mp e).1;rw [aau hk];exact e
theorem cp.rd{H H':Hp}{a:Addr}{u:HO}(e:cp H H')(h:Rd H a u):Rd H' a u:=by
 rcases h with h | ⟨o,h⟩
 ·exact .inl (e _ _ h)
 ·exact .inr ⟨o,e _ _ h⟩
theorem cp.LH{K:fI}{H H':Hp}{a:Addr}{xs:List V}(e:cp H H')(h:j0 K H a xs):j0 K H' a xs:=by
 rcases h with h | h
 ·exact .inl (e.rd h)
 ·exact .inr h
section
variable{K:fI}{G G':Hp}{L L':List Addr}
mutual
theorem Den.mono(g:cp G G')(l:Pre L L'):∀(d:Dt) (v:V),Den K G L d v->Den K G' L' d v
 | .bw,_,h=>h
 | .bl _,_,h=>h
 | .int _,_,h=>h
 | .str _,_,h=>h
 | .tup ds,_,⟨a,vs,e,h1,h2⟩=>⟨a,vs,e,g _ _ h1,Ι.mono g l ds vs h2⟩
 | .lst ds,_,⟨a,vs,e,h1,h2⟩=>⟨a,vs,e,g _ _ h1,Ι.mono g l ds vs h2⟩
 | .obj C ns ds,_,⟨a,dx,vs,e,h1,hn,h2⟩=>⟨a,dx,vs,e,g _ _ h1,hn,Ι.mono g l ds vs h2⟩
 | .loc k,_,⟨a,e,h1⟩=>⟨a,e,l.get h1⟩
 | .ref _,_,h=>h
 | .ty _,_,h=>h
 | .nF _,_,⟨a,e,h1⟩=>⟨a,e,g.seq h1⟩
 | .kt ds,_,⟨a,vs,e,h1,h2⟩=>⟨a,vs,e,g.LH h1,Ι.mono g l ds vs h2⟩
 | .exc _ _ ds,_,⟨a,od,vs,e,h1,h2,h3,h4⟩=>⟨a,od,vs,e,g _ _ h1,h2.imp (λz=>z) (λ⟨dx,z1,z2⟩=>⟨dx,z1,g _ _ z2⟩),h3,Ι.mono g l ds vs h4⟩
 | .Nl _ _ _ _ ds,_,⟨vs,e,h2,h3,h4⟩=>⟨vs,e,h2.imp (λz=>z) (λ⟨dx,z1,z2⟩=>⟨dx,z1,g _ _ z2⟩),h3,Ι.mono g l ds vs h4⟩
theorem Ι.mono(g:cp G G')(l:Pre L L'):∀(ds:List Dt) (vs:List V),Ι K G L ds vs->Ι K G' L' ds vs
 | [],_,h=>h
 | d::ds,_,⟨v,r,e,h1,h2⟩=>⟨v,r,e,Den.mono g l d v h1,Ι.mono g l ds r h2⟩
end
theorem Ι.pair:∀{ds:List Dt} {vs:List V},Ι K G L ds vs->Paired (Den K G L) ds vs
 | [],_,h=>by have h:_=_:=h;subst h;exact .nil
 | d::ds,_,⟨v,r,e,h1,h2⟩=>by subst e;exact .cons h1 (Ι.pair h2)
theorem Ι.of:∀{ds:List Dt} {vs:List V},Paired (Den K G L) ds vs->Ι K G L ds vs
 | _,_, .nil=>rfl
 | _,_, .cons h t=>⟨_,_,rfl,h,Ι.of t⟩
end
section
variable{α β:Type}{F:α->β->Prop}
theorem A1:∀{xs:List α} {us:List β} {i:Nat} {x:α},Paired F xs us->xs[i]? =some x->∃u,us[i]? =some u/\F x u
 | _,_,_,_, .nil,e=>by simp at e
 | _,_,0,_, .cons r _,e=>by simp at e;subst e;exact ⟨_,rfl,r⟩
 | _,_,i+1,x, .cons _ t,e=>by obtain ⟨u,h1,h2⟩:=A1 (i:=i) (x:=x) t (by simpa using e);exact ⟨u,by simpa using h1,h2⟩
theorem zR{x:α}{u:β}(r:F x u):∀{xs:List α} {us:List β} (i:Nat),Paired F xs us->Paired F (xs.set i x) (us.set i u)
 | _,_,_, .nil=> .nil
 | _,_,0, .cons _ t=> .cons r t
 | _,_,i+1, .cons q t=> .cons q (zR r i t)
theorem ue:∀{xs ys:List α} {us ws:List β},Paired F xs us->Paired F ys ws->Paired F (xs++ys) (us++ws)
 | _,_,_,_, .nil,s=>s
 | _,_,_,_, .cons r t,s=> .cons r (ue t s)
theorem we:∀{xs:List α} {us:List β} (n:Nat),Paired F xs us->Paired F (xs.take n) (us.take n)
 | _,_,0,_=> .nil
 | _,_,_+1, .nil=> .nil
 | _,_,n+1, .cons r t=> .cons r (we n t)
theorem j5:∀{xs:List α} {us:List β} (n:Nat),Paired F xs us->Paired F (xs.drop n) (us.drop n)
 | _,_,0,r=>r
 | _,_,_+1, .nil=> .nil
 | _,_,n+1, .cons _ t=>j5 n t
theorem A6{xs:List α}{us:List β}(h:Paired F xs us):∀k:Nat,Paired F (List.replicate k xs).flatten (List.replicate k us).flatten
 | 0=> .nil
 | k+1=>by rw [aaY,aaY,abe,abe];exact ue h (A6 h k)
end
section
variable{K:fI}{G:Hp}{L:List Addr}
theorem Ι.length{ds:List Dt}{vs:List V}(h:Ι K G L ds vs):ds.length=vs.length:=Paired.length h.pair
theorem Ι.get{ds:List Dt}{vs:List V}{i:Nat}{d:Dt}(h:Ι K G L ds vs)(e:ds[i]? =some d):∃v,vs[i]? =some v/\Den K G L d v:=A1 h.pair e
theorem Ι.app{ds es:List Dt}{vs us:List V}(h:Ι K G L ds vs)(h':Ι K G L es us):Ι K G L (ds++es) (vs++us):= .of (ue h.pair h'.pair)
theorem d4:∀{ns:List Int},Ι K G L (ns.map Dt.int) (ns.map V.int)
 | []=>rfl
 | n::ns=>⟨_,_,rfl,rfl,d4⟩
theorem ax{d:Dt}{vs:List V}(h:Ι K G L [d] vs):∃v,vs=[v]/\Den K G L d v:=by obtain ⟨v,r,rfl,h1,h2⟩:=h;have h2:r=[]:=h2;subst h2;exact ⟨v,rfl,h1⟩
theorem dk{d e:Dt}{vs:List V}(h:Ι K G L [d,e] vs):∃v u,vs=[v,u]/\Den K G L d v/\Den K G L e u:=by obtain ⟨v,r,rfl,h1,h2⟩:=h;obtain ⟨u,rfl,h3⟩:=ax h2;exact ⟨v,u,rfl,h1,h3⟩
end
def C4(K:fI)(G:Hp)(L:List Addr)(H:Hp)(a:Addr):MO->Prop
 | .lst ds=>∃vs,H a=some (.lst vs)/\Ι K G L ds vs
 | .ins C ns ds=>∃dx vs,H a=some (.ins C dx (ns.zip vs))/\ns.length=ds.length/\Ι K G L ds vs
 | .dt ks ds=>∃vs,H a=some (.dK (ks.zip vs))/\ks.length=ds.length/\Ι K G L ds vs
 | .raw u=>H a=some (u a)
structure Rl(K:fI)(G:Hp)(L:List Addr)(M:Ms)(H:Hp):Prop where
 sub:cp G H
 len:L.length=M.length
 nd:L.Nodup
 gW:∀(k:Nat) (a:Addr) (m:MO),L[k]? =some a->M[k]? =some m->G a=none/\C4 K G L H a m
structure Ex(G:Hp)(L:List Addr)(H:Hp)(G':Hp)(L':List Addr)(H':Hp):Prop where
 g:cp G G'
 l:Pre L L'
 fr:∀b,G b=none->H b≠none->G' b=none
 out:∀b o,H b=some o->b∉L->H' b=some o
 new:∀b∈L',b∈L\/H b=none
 C5:∀b,H b≠none->H' b≠none
theorem Ex.refl(G:Hp)(L:List Addr)(H:Hp):Ex G L H G L H:=⟨.refl _, .refl _,λ_ h _=>h,λ_ _ h _=>h,λ_ h=> .inl h,λ_ h=>h⟩
theorem Ex.trans{G:Hp}{L:List Addr}{H G1:Hp}{L1:List Addr}{H1 G2:Hp}{L2:List Addr}{H2:Hp}(a:Ex G L H G1 L1 H1)(b:Ex G1 L1 H1 G2 L2 H2):Ex G L H G2 L2 H2 where
 g:=a.g.trans b.g
 l:=a.l.trans b.l
 fr:=λx h1 h2=>b.fr x (a.fr x h1 h2) (a.C5 x h2)
 out:=λx o h1 h2=>b.out x o (a.out x o h1 h2) λz=>(a.new x z).elim h2 λq=>by rw [h1] at q;cases q
 new:=λx h=>by
  rcases b.new x h with z | z
  ·exact a.new x z
  ·right;cases q:H x with
   | none=>rfl
   | some o=>exact absurd z (a.C5 x (by rw [q];simp))
 C5:=λx h=>b.C5 x (a.C5 x h)
theorem C4.there{K:fI}{G:Hp}{L:List Addr}{H:Hp}{a:Addr}{m:MO}(h:C4 K G L H a m):H a≠none:=by
 cases m with
 | lst ds=>obtain ⟨vs,e,_⟩:=h;rw [e];simp
 | ins C ns ds=>obtain ⟨dx,vs,e,_⟩:=h;rw [e];simp
 | dt ks ds=>obtain ⟨vs,e,_⟩:=h;rw [e];simp
 | raw u=>have h:H a=some (u a):=h;rw [h];simp
theorem C4.mono{K:fI}{G G':Hp}{L L':List Addr}{H H':Hp}{a:Addr}{m:MO}(g:cp G G')(l:Pre L L')(e:H' a=H a)(h:C4 K G L H a m):C4 K G' L' H' a m:=by
 cases m with
 | lst ds=>obtain ⟨vs,e1,h⟩:=h;exact ⟨vs,e.trans e1,Ι.mono g l _ _ h⟩
 | ins C ns ds=>obtain ⟨dx,vs,e1,h0,h⟩:=h;exact ⟨dx,vs,e.trans e1,h0,Ι.mono g l _ _ h⟩
 | dt ks ds=>obtain ⟨vs,e1,h0,h⟩:=h;exact ⟨vs,e.trans e1,h0,Ι.mono g l _ _ h⟩
 | raw u=>exact e.trans h
section
variable{K:fI}{G:Hp}{L:List Addr}{M:Ms}{H:Hp}{p:Addr}{o:HO}
theorem Rl.uL(r:Rl K G L M H){a:Addr}(h:a∈L):∃(k:Nat) (m:MO),L[k]? =some a/\M[k]? =some m/\G a=none/\C4 K G L H a m:=by
 obtain ⟨k,hk,e⟩:=List.getElem_of_mem h;have e1:L[k]? =some a:=by rw [aac hk,e]
 have e2:M[k]? =some (M[k]'(by rw [<-r.len];exact hk)):=aac _;exact ⟨k,_,e1,e2,r.gW k a _ e1 e2⟩
theorem Rl.Pw(r:Rl K G L M H)(hp:H p=none):p∉L:=λz=>by obtain ⟨k,m,_,_,_,h⟩:=r.uL z;exact h.there hp
theorem Rl.Dh(r:Rl K G L M H)(hp:H p=none):Rl K (upd G p o) L M (upd H p o) where
 sub:=λb u e=>by
  by_cases hb:b=p
  ·subst hb;rw [Ω] at e⊢;exact e
  ·rw [Γ hb] at e⊢;exact r.sub b u e
 len:=r.len
 nd:=r.nd
 gW:=λk a m h1 h2=>by obtain ⟨q1,q2⟩:=r.gW k a m h1 h2;have hb:a≠p:=λz=>q2.there (by rw [z];exact hp);exact ⟨by rw [Γ hb];exact q1,q2.mono (λb u e=>by rw [Γ (λz=>by rw [z,r.sub.free hp] at e;cases e)];exact e) (.refl _) (Γ hb)⟩
theorem Rl.L9(r:Rl K G L M H)(hp:H p=none):Ex G L H (upd G p o) L (upd H p o) where
 g:=λb u e=>by rw [Γ (λz=>by rw [z,r.sub.free hp] at e;cases e)];exact e
 l:= .refl _
 fr:=λb h1 h2=>by rw [Γ (λz=>h2 (by rw [z];exact hp))];exact h1
 out:=λb u h1 _=>by rw [Γ (λz=>by rw [z,hp] at h1;cases h1)];exact h1
 new:=λb h=> .inl h
 C5:=λb h=>by rw [Γ (λz=>h (by rw [z];exact hp))];exact h
theorem Rl.D7{m:MO}(r:Rl K G L M H)(hp:H p=none)(hm:C4 K G (L++[p]) (upd H p o) p m):Rl K G (L++[p]) (M++[m]) (upd H p o) where
 sub:=λb u e=>by rw [Γ (λz=>by rw [z,r.sub.free hp] at e;cases e)];exact r.sub b u e
 len:=by rw [aab,aab,r.len];rfl
 nd:=List.nodup_append.mpr ⟨r.nd,by simp,λa ha b hb=>by
  have e:b=p:=by simpa using hb
  rw [e];exact λz=>r.Pw hp (z▸ha)⟩
 gW:=λk a m' h1 h2=>by
  by_cases hk:k < L.length
  ·rw [aau hk] at h1;rw [aau (by rw [<-r.len];exact hk)] at h2;obtain ⟨q1,q2⟩:=r.gW k a m' h1 h2;exact ⟨q1,q2.mono (.refl _) ⟨[p],rfl⟩ (Γ λz=>q2.there (by rw [z];exact hp))⟩
  ·have e:k=L.length:=by have:=(aag.mp h1).1;rw [aab] at this;simp at this;omega
   rw [e,aaJ (aak _)] at h1;rw [e,r.len,aaJ (aak _)] at h2;simp at h1 h2;subst h1 h2;exact ⟨r.sub.free hp,hm⟩
theorem Rl.PF(r:Rl K G L M H)(hp:H p=none):Ex G L H G (L++[p]) (upd H p o) where
 g:= .refl _
 l:=⟨[p],rfl⟩
 fr:=λb h1 _=>h1
 out:=λb u h1 _=>by rw [Γ (λz=>by rw [z,hp] at h1;cases h1)];exact h1
 new:=λb h=>by
  rcases aaK.mp h with z | z
  ·exact .inl z
  ·have e:b=p:=by simpa using z
   right;rw [e];exact hp
 C5:=λb h=>by rw [Γ (λz=>h (by rw [z];exact hp))];exact h
theorem Rl.setM{k:Nat}{a:Addr}{m:MO}(r:Rl K G L M H)(hk:L[k]? =some a)(hm:C4 K G L (upd H a o) a m):Rl K G L (M.set k m) (upd H a o) where
 sub:=λb u e=>by obtain ⟨k',m',e1,e2,q1,_⟩:=r.uL (aaO hk);rw [Γ (λz=>by rw [z,q1] at e;cases e)];exact r.sub b u e
 len:=by rw [abf];exact r.len
 nd:=r.nd
 gW:=λk' a' m' h1 h2=>by
  by_cases e:k'=k
  ·subst e;rw [hk] at h1;cases h1;have hl:k' < M.length:=by rw [<-r.len];exact (aag.mp hk).1
   rw [aaW hl] at h2;cases h2;obtain ⟨_,_,_,_,q1,_⟩:=r.uL (aaO hk);exact ⟨q1,hm⟩
  ·rw [aaV (λz=>e z.symm)] at h2;obtain ⟨q1,q2⟩:=r.gW k' a' m' h1 h2;have ne:a'≠a:=λz=>by subst z;exact e ((List.getElem?_inj (aag.mp h1).1 r.nd).mp (h1.trans hk.symm))
   exact ⟨q1,q2.mono (.refl _) (.refl _) (Γ ne)⟩
theorem Rl.J9{k:Nat}{a:Addr}(r:Rl K G L M H)(hk:L[k]? =some a):Ex G L H G L (upd H a o) where
 g:= .refl _
 l:= .refl _
 fr:=λb h1 _=>h1
 out:=λb u h1 h2=>by rw [Γ (λz=>h2 (by rw [z];exact aaO hk))];exact h1
 new:=λb h=> .inl h
 C5:=λb h=>by
  by_cases e:b=a
  ·rw [e,Ω];simp
  ·rw [Γ e];exact h
end
structure iU(K:fI)(G:Hp)(L:List Addr)(ρ:En)(σ:St):Prop where
 len:ρ.length=σ.length
 gW:∀(i:Nat) (d:Dt),ρ[i]? =some (some d)->∃v,σ[i]? =some (some v)/\Den K G L d v
section
variable{K:fI}{G G':Hp}{L L':List Addr}{H H':Hp}{ρ:En}{σ:St}
theorem iU.mono(h:iU K G L ρ σ)(e:Ex G L H G' L' H'):iU K G' L' ρ σ:=⟨h.len,λi d q=>let ⟨v,a,b⟩:=h.gW i d q;⟨v,a,Den.mono e.g e.l d v b⟩⟩
theorem iU.set(h:iU K G L ρ σ)(i:Nat){d:Dt}{v:V}(q:Den K G L d v):iU K G L (ρ.set i (some d)) (σ.set i (some v)):=by
 refine ⟨by rw [abf,abf];exact h.len,λj d' e=> ?_⟩;by_cases hj:i=j
 ·subst hj;have hl:i < ρ.length:=by have:=(aag.mp e).1;rwa [abf] at this
  rw [aaW hl] at e;cases e;exact ⟨v,aaW (by rw [<-h.len];exact hl),q⟩
 ·rw [aaV hj] at e;obtain ⟨u,a,b⟩:=h.gW j d' e;exact ⟨u,by rw [aaV hj];exact a,b⟩
end
abbrev DQ:=Dt->Ms->Prop
abbrev DX:=En->Addr->List (Str×Dt)->Ms->Prop
def NI(K:fI)(G:Hp)(L:List Addr)(H:Hp)(fs:List (Str×Dt))(od:Option Addr):Prop:=
 (fs=[]/\od=none)\/fs≠[]/\∃dx vs,od=some dx/\G dx=some (.xd ((fs.map (·.1)).zip vs))/\Ι K G L (fs.map (·.2)) vs
def qz(K:fI)(G:Hp)(L:List Addr)(H:Hp)(R:St->XK)(x:DX):Prop:=
 ∀σ ρ C fs M' G' L' H' od,x ρ C fs M'->Ex G L H G' L' H'->Rl K G' L' M' H'->iU K G' L' ρ σ->NI K G' L' H' fs od->R σ (.ref C) od H'
theorem qz.on{K:fI}{G:Hp}{L:List Addr}{H G1:Hp}{L1:List Addr}{H1:Hp}{R:St->XK}{x:DX}(h:qz K G L H R x)(e:Ex G L H G1 L1 H1):qz K G1 L1 H1 R x:=
 λσ ρ C fs M' G' L' H' od q e' r n y=>h σ ρ C fs M' G' L' H' od q (e.trans e') r n y
def gT:DX:=λ_ _ _ _=>False
theorem yF{K:fI}{G:Hp}{L:List Addr}{H:Hp}{R:St->XK}:qz K G L H R gT:=λ_ _ _ _ _ _ _ _ _ q=>q.elim
abbrev DE:=En->Ms->DQ->DX->Prop
abbrev DT:=En->Ms->(Bool->Ms->Prop)->DX->Prop
abbrev DA:=En->Ms->(List Dt->Ms->Prop)->DX->Prop
structure mX where
 nx:En->Ms->Prop
 rt:DQ
 bk:En->Ms->Prop:=λ_ _=>False
 ct:En->Ms->Prop:=λ_ _=>False
 x:DX:=gT
abbrev DS:=mX->En->Ms->Prop
inductive Fin(K:fI)(G0:Hp)(L0:List Addr)(H0:Hp)(q:DQ)(v:V)(H:Hp):Prop
 | mk (d:Dt) (G:Hp) (L:List Addr) (M:Ms) (e:Ex G0 L0 H0 G L H) (r:Rl K G L M H) (n:Den K G L d v) (h:q d M)
inductive q_(K:fI)(G0:Hp)(L0:List Addr)(H0:Hp)(q:Bool->Ms->Prop)(b:Bool)(H:Hp):Prop
 | mk (G:Hp) (L:List Addr) (M:Ms) (e:Ex G0 L0 H0 G L H) (r:Rl K G L M H) (h:q b M)
inductive Jl(K:fI)(G0:Hp)(L0:List Addr)(H0:Hp)(q:List Dt->Ms->Prop)(vs:List V)(H:Hp):Prop
 | mk (ds:List Dt) (G:Hp) (L:List Addr) (M:Ms) (e:Ex G0 L0 H0 G L H) (r:Rl K G L M H) (n:Ι K G L ds vs) (h:q ds M)
inductive dP(K:fI)(G0:Hp)(L0:List Addr)(H0:Hp)(q:En->Ms->Prop)(σ:St)(H:Hp):Prop
 | mk (ρ:En) (G:Hp) (L:List Addr) (M:Ms) (e:Ex G0 L0 H0 G L H) (r:Rl K G L M H) (n:iU K G L ρ σ) (h:q ρ M)
def qM(K:fI)(G0:Hp)(L0:List Addr)(H0:Hp)(Dn:mX):vp:=⟨dP K G0 L0 H0 Dn.nx,Fin K G0 L0 H0 Dn.rt,dP K G0 L0 H0 Dn.bk,dP K G0 L0 H0 Dn.ct⟩
inductive qi(K:fI)(R:St->XK)(t:DE)(σ:St)(H:Hp)(Q:VK):Prop
 | mk (G:Hp) (L:List Addr) (ρ:En) (M:Ms) (q:DQ) (x:DX) (r:Rl K G L M H) (n:iU K G L ρ σ) (h:t ρ M q x) (hx:qz K G L H R x) (hQ:∀v H1,Fin K G L H q v H1->Q v H1)
inductive Cq(K:fI)(R:St->XK)(t:DT)(σ:St)(H:Hp)(Q:Bool->Hp->Prop):Prop
 | mk (G:Hp) (L:List Addr) (ρ:En) (M:Ms) (q:Bool->Ms->Prop) (x:DX) (r:Rl K G L M H) (n:iU K G L ρ σ) (h:t ρ M q x) (hx:qz K G L H R x) (hQ:∀b H1,q_ K G L H q b H1->Q b H1)
inductive MQ(K:fI)(R:St->XK)(t:DA)(σ:St)(H:Hp)(Q:List V->Hp->Prop):Prop
 | mk (G:Hp) (L:List Addr) (ρ:En) (M:Ms) (q:List Dt->Ms->Prop) (x:DX) (r:Rl K G L M H) (n:iU K G L ρ σ) (h:t ρ M q x) (hx:qz K G L H R x) (hQ:∀vs H1,Jl K G L H q vs H1->Q vs H1)
structure Kz(A B:vp):Prop where
 nx:∀σ H,A.nx σ H->B.nx σ H
 rt:∀v H,A.rt v H->B.rt v H
 bk:∀σ H,A.bk σ H->B.bk σ H
 ct:∀σ H,A.ct σ H->B.ct σ H
inductive GW(K:fI)(R:St->XK)(t:DS)(De:vp)(σ:St)(H:Hp):Prop
 | mk (G:Hp) (L:List Addr) (ρ:En) (M:Ms) (Dn:mX) (r:Rl K G L M H) (n:iU K G L ρ σ) (h:t Dn ρ M) (hx:qz K G L H R Dn.x) (hQ:Kz (qM K G L H Dn) De)
def JE(X:Cx)(R:St->XK)(e:Expr)(t:DE):Prop:=PE X e (qi X.K R t)
def JT(X:Cx)(R:St->XK)(e:Expr)(t:DT):Prop:=PT X e (Cq X.K R t)
def JW(X:Cx)(R:St->XK)(e:Expr)(t:DT):Prop:=PW X e (Cq X.K R t)
def JA(X:Cx)(R:St->XK)(es:List Expr)(t:DA):Prop:=PA X es (MQ X.K R t)
def JS(X:Cx)(R:St->XK)(st:Stmt)(t:DS):Prop:=PS X st (GW X.K R t)
def zA(X:Cx)(R:St->XK)(st:List Stmt)(t:DS):Prop:=zY X st (GW X.K R t)
section
variable{K:fI}{G0:Hp}{L0:List Addr}{H0 G1:Hp}{L1:List Addr}{H1:Hp}
theorem Fin.back{q:DQ}(e:Ex G0 L0 H0 G1 L1 H1){v:V}{H:Hp}(h:Fin K G1 L1 H1 q v H):Fin K G0 L0 H0 q v H:=let ⟨d,G,L,M,a,b,c,f⟩:=h;⟨d,G,L,M,e.trans a,b,c,f⟩
theorem dP.back{q:En->Ms->Prop}(e:Ex G0 L0 H0 G1 L1 H1){v:St}{H:Hp}(h:dP K G1 L1 H1 q v H):dP K G0 L0 H0 q v H:=let ⟨d,G,L,M,a,b,c,f⟩:=h;⟨d,G,L,M,e.trans a,b,c,f⟩
theorem q_.back{q:Bool->Ms->Prop}(e:Ex G0 L0 H0 G1 L1 H1){v:Bool}{H:Hp}(h:q_ K G1 L1 H1 q v H):q_ K G0 L0 H0 q v H:=let ⟨G,L,M,a,b,f⟩:=h;⟨G,L,M,e.trans a,b,f⟩
theorem qM.back{Dn:mX}(e:Ex G0 L0 H0 G1 L1 H1):Kz (qM K G1 L1 H1 Dn) (qM K G0 L0 H0 Dn):=⟨λ_ _ h=>dP.back e h,λ_ _ h=>Fin.back e h,λ_ _ h=>dP.back e h,λ_ _ h=>dP.back e h⟩
theorem SP.imp{X:Cx}{γ:List (Addr×Obj)}{A B:vp}(e:Kz A B){f:Flow}{s:Shared}(h:SP X γ A f s):SP X γ B f s:=by
 cases f with
 | next=>obtain ⟨a,b,I,q⟩:=h;exact ⟨a,b,I,e.nx _ _ q⟩
 | brk=>obtain ⟨a,b,I,q⟩:=h;exact ⟨a,b,I,e.bk _ _ q⟩
 | cont=>obtain ⟨a,b,I,q⟩:=h;exact ⟨a,b,I,e.ct _ _ q⟩
 | ret u=>obtain ⟨v,a,b,I,r,q⟩:=h;exact ⟨v,a,b,I,r,e.rt _ _ q⟩
end
section
variable{X:Cx}{R:St->XK}{e:Expr}
theorem JE.of{te:TE}{t:DE}(h:PE X e te)(hw:∀σ H G L ρ M q x,Rl X.K G L M H->iU X.K G L ρ σ->t ρ M q x->qz X.K G L H R x->te σ H (Fin X.K G L H q)):JE X R e t:=by intro γ s σ H Q I ⟨G,L,ρ,M,q,x,r,n,ht,hx,hQ⟩;refine aY (h γ s σ H _ I (hw σ H G L ρ M q x r n ht hx)) λu s1 ⟨v,H1,I1,rv,f⟩=>⟨v,H1,I1,rv,hQ v H1 f⟩
theorem JT.of{te:TT}{t:DT}(h:PT X e te)(hw:∀σ H G L ρ M q x,Rl X.K G L M H->iU X.K G L ρ σ->t ρ M q x->qz X.K G L H R x->te σ H (q_ X.K G L H q)):JT X R e t:=by intro γ s σ H Q I ⟨G,L,ρ,M,q,x,r,n,ht,hx,hQ⟩;refine aY (h γ s σ H _ I (hw σ H G L ρ M q x r n ht hx)) λu s1 ⟨H1,I1,f⟩=>⟨H1,I1,hQ u H1 f⟩
theorem JW.of{te:TT}{t:DT}(h:PW X e te)(hw:∀σ H G L ρ M q x,Rl X.K G L M H->iU X.K G L ρ σ->t ρ M q x->qz X.K G L H R x->te σ H (q_ X.K G L H q)):JW X R e t:=by intro wh γ s σ H Q I ⟨G,L,ρ,M,q,x,r,n,ht,hx,hQ⟩;refine aY (h wh γ s σ H _ I (hw σ H G L ρ M q x r n ht hx)) λu s1 ⟨H1,I1,f⟩=>⟨H1,I1,hQ u H1 f⟩
theorem JA.of{es:List Expr}{te:TA}{t:DA}(h:PA X es te)(hw:∀σ H G L ρ M q x,Rl X.K G L M H->iU X.K G L ρ σ->t ρ M q x->qz X.K G L H R x->te σ H (Jl X.K G L H q)):JA X R es t:=by intro pos γ s σ H Q I ⟨G,L,ρ,M,q,x,r,n,ht,hx,hQ⟩;refine aY (h pos γ s σ H _ I (hw σ H G L ρ M q x r n ht hx)) λu s1 ⟨v,H1,I1,rv,f⟩=>⟨v,H1,I1,rv,hQ v H1 f⟩
theorem JS.of{st:Stmt}{te:TS}{t:DS}(h:PS X st te)(hw:∀σ H G L ρ M Dn,Rl X.K G L M H->iU X.K G L ρ σ->t Dn ρ M->qz X.K G L H R Dn.x->te (qM X.K G L H Dn) σ H):JS X R st t:=by intro γ s σ H De I ⟨G,L,ρ,M,Dn,r,n,ht,hx,hQ⟩;exact aY (h γ s σ H _ I (hw σ H G L ρ M Dn r n ht hx)) λu s1 f=>SP.imp hQ f
theorem zA.of{st:List Stmt}{te:TS}{t:DS}(h:zY X st te)(hw:∀σ H G L ρ M Dn,Rl X.K G L M H->iU X.K G L ρ σ->t Dn ρ M->qz X.K G L H R Dn.x->te (qM X.K G L H Dn) σ H):zA X R st t:=by intro γ s σ H De I ⟨G,L,ρ,M,Dn,r,n,ht,hx,hQ⟩;exact aY (h γ s σ H _ I (hw σ H G L ρ M Dn r n ht hx)) λu s1 f=>SP.imp hQ f
end
def bG(i:Nat):DE:=λρ M q _=>match ρ[i]? with
 | some (some d)=>q d M
 | _=>False
def dC(d:Dt):DE:=λ_ M q _=>q d M
def dw(f:Dt->Dt->Ms->DQ->Prop)(a b:DE):DE:=λρ M q x=>a ρ M (λd1 M1=>b ρ M1 (λd2 M2=>f d1 d2 M2 q) x) x
def PN(f:Dt->Ms->DQ->Prop)(a:DE):DE:=λρ M q x=>a ρ M (λd1 M1=>f d1 M1 q) x
def gZ:DA:=λ_ M q _=>q [] M
def dE(a:DE)(r:DA):DA:=λρ M q x=>a ρ M (λd M1=>r ρ M1 (λds M2=>q (d::ds) M2) x) x
def x8(f:List Dt->Ms->DQ->Prop)(a:DA):DE:=λρ M q x=>a ρ M (λds M1=>f ds M1 q) x
def ka(K:fI)(r:R2)(f:Dt->Dt->Ms->DQ->Prop):Prop:=
 ∀G0 L0 H0 G L M H v1 v2 d1 d2 q,Ex G0 L0 H0 G L H->Rl K G L M H->Den K G L d1 v1->Den K G L d2 v2->f d1 d2 M q->r v1 v2 H (Fin K G0 L0 H0 q)
def Sd(K:fI)(r:V->Hp->VK->Prop)(f:Dt->Ms->DQ->Prop):Prop:=
 ∀G0 L0 H0 G L M H v1 d1 q,Ex G0 L0 H0 G L H->Rl K G L M H->Den K G L d1 v1->f d1 M q->r v1 H (Fin K G0 L0 H0 q)
def AB(K:fI)(r:List V->Hp->VK->Prop)(f:List Dt->Ms->DQ->Prop):Prop:=
 ∀G0 L0 H0 G L M H vs ds q,Ex G0 L0 H0 G L H->Rl K G L M H->Ι K G L ds vs->f ds M q->r vs H (Fin K G0 L0 H0 q)
def Ph(K:fI)(T:String)(r:V->List V->Hp->VK->Prop)(f:Dt->List Dt->Ms->DQ->Prop):Prop:=
 ∀G0 L0 H0 G L M H v d vs ds q,Ex G0 L0 H0 G L H->Rl K G L M H->Den K G L d v->Ι K G L ds vs->f d ds M q->r v vs H (Fin K G0 L0 H0 q)
section
variable{K:fI}{R:St->XK}{ta tb:DE}{tc:DA}{σ:St}{H G:Hp}{L:List Addr}{ρ:En}{M:Ms}{q:DQ}{x:DX}
theorem zC{r:R2}{f:Dt->Dt->Ms->DQ->Prop}(od:ka K r f)(rl:Rl K G L M H)(n:iU K G L ρ σ)(h:dw f ta tb ρ M q x)(hx:qz K G L H R x):OP r (qi K R ta) (qi K R tb) σ H (Fin K G L H q):=by refine ⟨G,L,ρ,M,_,x,rl,n,h,hx,λv H1 ⟨d1,G1,L1,M1,e1,r1,n1,h1⟩=> ?_⟩;refine ⟨G1,L1,ρ,M1,_,x,r1,n.mono e1,h1,hx.on e1,λv2 H2 ⟨d2,G2,L2,M2,e2,r2,n2,h2⟩=> ?_⟩;exact od G L H G2 L2 M2 H2 v v2 d1 d2 q (e1.trans e2) r2 (Den.mono e2.g e2.l _ _ n1) n2 h2
theorem PB{r:V->Hp->VK->Prop}{f:Dt->Ms->DQ->Prop}(od:Sd K r f)(rl:Rl K G L M H)(n:iU K G L ρ σ)(h:PN f ta ρ M q x)(hx:qz K G L H R x):V4 r (qi K R ta) σ H (Fin K G L H q):=by refine ⟨G,L,ρ,M,_,x,rl,n,h,hx,λv H1 ⟨d1,G1,L1,M1,e1,r1,n1,h1⟩=> ?_⟩;exact od G L H G1 L1 M1 H1 v d1 q e1 r1 n1 h1
theorem JU{r:List V->Hp->VK->Prop}{f:List Dt->Ms->DQ->Prop}(od:AB K r f)(rl:Rl K G L M H)(n:iU K G L ρ σ)(h:x8 f tc ρ M q x)(hx:qz K G L H R x):Tf r (MQ K R tc) σ H (Fin K G L H q):=by refine ⟨G,L,ρ,M,_,x,rl,n,h,hx,λv H1 ⟨d1,G1,L1,M1,e1,r1,n1,h1⟩=> ?_⟩;exact od G L H G1 L1 M1 H1 v d1 q e1 r1 n1 h1
end
section
variable{X:Cx}{R:St->XK}{a b c:Expr}{ta tb:DE}{pos:Pos}
theorem jv(i:Nat){x:Str}{pos:Pos}(hN:X.N[i]? =some x:=by rfl)(hv:Su X.env.scope x:=by first | exact Or.inl rfl | exact Or.inr (Or.inl rfl) | exact Or.inr (Or.inr rfl))(hd:(x==("__debug__":Str))=false:=by decide)
  (DR:(x==("__classdict__":Str))=false:=by decide):JE X R (.Name x pos) (bG i):= .of (L8 hN hv hd DR) λσ H G L ρ M q x r n h hx=>by
 unfold bG at h;split at h
 ·rename_i d e;obtain ⟨v,e1,h1⟩:=n.gW i d e;exact ⟨v,e1,d,G,L,M, .refl _ _ _,r,h1,h⟩
 ·exact h.elim
theorem IZ{d:Dt}{v:V}{e:Expr}(h:PE X e (tC v))(hd:∀G L,Den X.K G L d v):JE X R e (dC d):= .of h λσ H G L ρ M q x r n h hx=>⟨d,G,L,M, .refl _ _ _,r,hd G L,h⟩
theorem θ{i j pos}:JE X R (.Constant (.int i) j pos) (dC (.int i)):=IZ Ks λ_ _=>rfl
theorem GG{b j pos}:JE X R (.Constant (.bool b) j pos) (dC (.bl b)):=IZ NL λ_ _=>rfl
theorem Eg{j pos}:JE X R (.Constant .none j pos) (dC .bw):=IZ KY λ_ _=>rfl
theorem Ψ{x j pos}:JE X R (.Constant (.str x) j pos) (dC (.str x)):=IZ Dx λ_ _=>rfl
theorem va{op:Operator}{r:R2}{f:Dt->Dt->Ms->DQ->Prop}(ho:gh X (binaryOp op) r)(od:ka X.K r f)(ja:JE X R a ta)(jb:JE X R b tb):JE X R (.BinOp a op b pos) (dw f ta tb):=
 .of (PH ho ja jb) λσ H G L ρ M q x r n h hx=>zC od r n h hx
theorem Rg{op:UnaryOp}{r:V->Hp->VK->Prop}{f:Dt->Ms->DQ->Prop}(ho:Qu X (unaryOp op) r)(od:Sd X.K r f)(ja:JE X R a ta):JE X R (.UnaryOp op a pos) (PN f ta):=
 .of (NX ho ja) λσ H G L ρ M q x r n h hx=>PB od r n h hx
theorem xm{op:CmpOp}{r:R2}{f:Dt->Dt->Ms->DQ->Prop}(ho:gh X (compareOp op) r)(od:ka X.K r f)(ja:JE X R a ta)(jb:JE X R b tb)(hm:behindInMarks op b=false):JE X R (.Compare a [op] [b] pos) (dw f ta tb):=
 .of (Hz ho ja jb hm) λσ H G L ρ M q x r n h hx=>zC od r n h hx
theorem Pb{r:R2}{f:Dt->Dt->Ms->DQ->Prop}(hr:GJ X r)(od:ka X.K r f)(ja:JE X R a ta)(jb:JE X R b tb)(hs:tL b):JE X R (.Subscript a b pos) (dw f ta tb):=
 .of (Pp hr ja jb hs) λσ H G L ρ M q x r n h hx=>zC od r n h hx
theorem aA{env:Env}{es:List Expr}{c j p}:starEach (.Constant c j p::es) env=(false,eval (.Constant c j p) env)::starEach es env:=rfl
theorem Kh{env:Env}{es:List Expr}{c p}:starEach (.Name c p::es) env=(false,eval (.Name c p) env)::starEach es env:=rfl
theorem aG{env:Env}{es:List Expr}{a o b p}:starEach (.BinOp a o b p::es) env=(false,eval (.BinOp a o b p) env)::starEach es env:=rfl
theorem bb{env:Env}{es:List Expr}{a b c p}:starEach (.Call a b c p::es) env=(false,eval (.Call a b c p) env)::starEach es env:=rfl
theorem Κ{env:Env}{es:List Expr}{a b p}:starEach (.Subscript a b p::es) env=(false,eval (.Subscript a b p) env)::starEach es env:=rfl
theorem DY{env:Env}{es:List Expr}{a b p}:starEach (.Tuple a b p::es) env=(false,eval (.Tuple a b p) env)::starEach es env:=rfl
theorem J_{env:Env}{es:List Expr}{a b p}:starEach (.UnaryOp a b p::es) env=(false,eval (.UnaryOp a b p) env)::starEach es env:=rfl
theorem ζ:JA X R [] gZ:= .of MK λσ H G L ρ M q x r n h hx=>⟨[],G,L,M, .refl _ _ _,r,rfl,h⟩
theorem ε{e:Expr}{es:List Expr}{te:DE}{t:DA}(ha:JE X R e te)(hr:JA X R es t)(hs:starEach (e::es) X.env=(false,eval e X.env)::starEach es X.env:=by first | exact aA | exact Kh | exact aG | exact bb | exact Κ | exact DY | exact Vo | exact J_ | rfl):JA X R (e::es) (dE te t):=
 .of (He ha hr hs) λσ H G L ρ M q x rl n h hx=>by refine ⟨G,L,ρ,M,_,x,rl,n,h,hx,λv H1 ⟨d1,G1,L1,M1,e1,r1,n1,h1⟩=> ?_⟩;refine ⟨G1,L1,ρ,M1,_,x,r1,n.mono e1,h1,hx.on e1,λv2 H2 ⟨d2,G2,L2,M2,e2,r2,n2,h2⟩=> ?_⟩;exact ⟨d1::d2,G2,L2,M2,e1.trans e2,r2,⟨_,_,rfl,Den.mono e2.g e2.l _ _ n1,n2⟩,h2⟩
theorem ae{c:Str}{p:Pos}{es:List Expr}{te:DE}{t:DA}(ha:JE X R (.Name c p) te)(hr:JA X R es t):JA X R (.Name c p::es) (dE te t):=ε ha hr Kh
def NO(t:DA):DE:=λρ M q x=>t ρ M (λds M1=>ds.length<=sizeLine/\q (.tup ds) M1) x
def N_(t:DA):DE:=λρ M q x=>t ρ M (λds M1=>ds.length<=sizeLine/\q (.lst ds) M1) x
def J'(t:DA):DE:=λρ M q x=>t ρ M (λds M1=>ds.length<=sizeLine/\q (.loc M1.length) (M1++[.lst ds])) x
theorem c_{K:fI}{G0:Hp}{L0:List Addr}{H0 G:Hp}{L:List Addr}{M:Ms}{H:Hp}{p:Addr}{o:HO}{d:Dt}{q:DQ}(e:Ex G0 L0 H0 G L H)(r:Rl K G L M H)(hp:H p=none)(hd:Den K (upd G p o) L d (.ref p))(h:q d M):Fin K G0 L0 H0 q (.ref p) (upd H p o):=
 ⟨d,upd G p o,L,M,e.trans (r.L9 hp),r.Dh hp,hd,h⟩
theorem iP{K:fI}{G:Hp}{L:List Addr}{M:Ms}{H:Hp}{p:Addr}{ds:List Dt}{vs:List V}(r:Rl K G L M H)(hp:H p=none)(h:Ι K G L ds vs):Den K (upd G p (.tup vs)) L (.tup ds) (.ref p):=
 ⟨p,vs,rfl,Ω,Ι.mono (r.L9 hp).g (.refl _) _ _ h⟩
theorem iO{K:fI}{G:Hp}{L:List Addr}{M:Ms}{H:Hp}{p:Addr}{ds:List Dt}{vs:List V}(r:Rl K G L M H)(hp:H p=none)(h:Ι K G L ds vs):Den K (upd G p (.lst vs)) L (.lst ds) (.ref p):=
 ⟨p,vs,rfl,Ω,Ι.mono (r.L9 hp).g (.refl _) _ _ h⟩
theorem og{K:fI}{G0:Hp}{L0:List Addr}{H0 G:Hp}{L:List Addr}{M:Ms}{H:Hp}{p:Addr}{q:DQ}{ds:List Dt}{vs:List V}(e:Ex G0 L0 H0 G L H)(r:Rl K G L M H)(hp:H p=none)(hd:Ι K G L ds vs)(h:q (.loc M.length) (M++[.lst ds])):Fin K G0 L0 H0 q (.ref p) (upd H p (.lst vs)):=
 ⟨.loc M.length,G,L++[p],M++[.lst ds],e.trans (r.PF hp),r.D7 (m:= .lst ds) hp ⟨vs,Ω,Ι.mono (.refl _) ⟨[p],rfl⟩ _ _ hd⟩,⟨p,rfl,by rw [<-r.len,List.getElem?_append_right (Nat.le_refl _)];simp⟩,h⟩
variable{es:List Expr}{t:DA}
theorem aW{x1}(h:JA X R es t):JE X R (.Tuple es x1 pos) (NO t):= .of (Lg h) λσ H G L ρ M q x rl n h hx=>by refine ⟨G,L,ρ,M,_,x,rl,n,h,hx,λv H1 ⟨d1,G1,L1,M1,e1,r1,n1,h1⟩=>⟨by rw [<-n1.length];exact h1.1,λp hp=> ?_⟩⟩;exact c_ e1 r1 hp (iP r1 hp n1) h1.2
theorem Au(h:JA X R es t):JE X R (.List es pos) (N_ t):= .of (Gs h) λσ H G L ρ M q x rl n h hx=>by refine ⟨G,L,ρ,M,_,x,rl,n,h,hx,λv H1 ⟨d1,G1,L1,M1,e1,r1,n1,h1⟩=>⟨by rw [<-n1.length];exact h1.1,λp hp=> ?_⟩⟩;exact c_ e1 r1 hp (iO r1 hp n1) h1.2
theorem x9(h:JA X R es t):JE X R (.List es pos) (J' t):= .of (Gs h) λσ H G L ρ M q x rl n h hx=>by refine ⟨G,L,ρ,M,_,x,rl,n,h,hx,λv H1 ⟨d1,G1,L1,M1,e1,r1,n1,h1⟩=>⟨by rw [<-n1.length];exact h1.1,λp hp=> ?_⟩⟩;exact og e1 r1 hp n1 h1.2
def kx(t:DE):DT:=λρ M q x=>t ρ M (λd M1=>match d with
 | .bl b=>q b M1
 | _=>False) x
def Oj(t u:DT):DT:=λρ M q x=>t ρ M (λc M1=>(c=true->u ρ M1 q x)/\(c=false->q false M1)) x
def VG(t u:DT):DT:=λρ M q x=>t ρ M (λc M1=>(c=true->q true M1)/\(c=false->u ρ M1 q x)) x
def OL(t:DT):DT:=λρ M q x=>t ρ M (λc M1=>q (!c) M1) x
theorem Ky{K:fI}{t:DE}{σ:St}{H G:Hp}{L:List Addr}{ρ:En}{M:Ms}{q:Bool->Ms->Prop}{x:DX}(rl:Rl K G L M H)(n:iU K G L ρ σ)(h:kx t ρ M q x)(hx:qz K G L H R x):tB (qi K R t) σ H (q_ K G L H q):=by
 refine ⟨G,L,ρ,M,_,x,rl,n,h,hx,λv H1 ⟨d1,G1,L1,M1,e1,r1,n1,h1⟩=> ?_⟩
 (try dsimp only at h1)
 split at h1
 ·rename_i b;exact ⟨b,n1,G1,L1,M1,e1,r1,h1⟩
 ·exact h1.elim
theorem bW{e:Expr}{t:DE}(h:JE X R e t)(he:∀whole,isTrue e X.env whole=(do let v<-whole;standAt e.pos;holding [v] (truthy v)):=by intro _;rfl):JT X R e (kx t):=
 .of (Lm h he) λσ H G L ρ M q x rl n h hx=>Ky rl n h hx
theorem eU{op:CmpOp}{r:R2}{f:Dt->Dt->Ms->DQ->Prop}(ho:gh X (compareOp op) r)(od:ka X.K r f)(ja:JE X R a ta)(jb:JE X R b tb)(hm:behindInMarks op b=false):JT X R (.Compare a [op] [b] pos) (kx (dw f ta tb)):=
 .of (HM ho ja jb hm) λσ H G L ρ M q x rl n h hx=>by
  have h:dw f ta tb ρ M (λd M1=>match d with | .bl b=>q b M1 | _=>False) x:=h;refine ⟨G,L,ρ,M,_,x,rl,n,h,hx,λv H1 ⟨d1,G1,L1,M1,e1,r1,n1,h1⟩=> ?_⟩;refine ⟨G1,L1,ρ,M1,_,x,r1,n.mono e1,h1,hx.on e1,λv2 H2 ⟨d2,G2,L2,M2,e2,r2,n2,h2⟩=> ?_⟩;have:=od G L H G2 L2 M2 H2 v v2 d1 d2 _ (e1.trans e2) r2 (Den.mono e2.g e2.l _ _ n1) n2 h2;have e:(λx H'=>∃k,x=V.bl k/\q_ X.K G L H q k H')=Fin X.K G L H (λd M1=>match d with | .bl b=>q b M1 | _=>False):=by
   funext y H'
   apply propext;constructor
   ·rintro ⟨k,rfl,G3,L3,M3,e3,r3,h3⟩;exact ⟨.bl k,G3,L3,M3,e3,r3,rfl,h3⟩
   ·rintro ⟨d,G3,L3,M3,e3,r3,n3,h3⟩;split at h3
    ·rename_i k;exact ⟨k,n3,G3,L3,M3,e3,r3,h3⟩
    ·exact h3.elim
  rw [e];exact this
theorem JW.jt{e:Expr}{t:DT}(h:JW X R e t):JT X R e t:=h _
variable{t1 t2:DT}{ag:List Expr}
theorem AV(ha:JT X R a t1):JW X R (.BoolOp .And [a] pos) t1:=pw_and1 ha
theorem fw(ha:JT X R a t1):JW X R (.BoolOp .Or [a] pos) t1:=pw_or1 ha
theorem Fj(ha:JT X R a t1)(hb:JW X R (.BoolOp .And (b::ag) pos) t2):JW X R (.BoolOp .And (a::b::ag) pos) (Oj t1 t2):= .of (pw_and ha hb) λσ H G L ρ M q x rl n h hx=>by
 refine ⟨G,L,ρ,M,_,x,rl,n,h,hx,λc H1 ⟨G1,L1,M1,e1,r1,h1⟩=> ?_⟩;cases c with
 | true=>exact Bu ⟨G1,L1,ρ,M1,_,x,r1,n.mono e1,h1.1 rfl,hx.on e1,λb H2 f=>q_.back e1 f⟩
 | false=>exact CA ⟨G1,L1,M1,e1,r1,h1.2 rfl⟩
theorem i6(ha:JT X R a t1)(hb:JW X R (.BoolOp .Or (b::ag) pos) t2):JW X R (.BoolOp .Or (a::b::ag) pos) (VG t1 t2):= .of (pw_or ha hb) λσ H G L ρ M q x rl n h hx=>by
 refine ⟨G,L,ρ,M,_,x,rl,n,h,hx,λc H1 ⟨G1,L1,M1,e1,r1,h1⟩=> ?_⟩;cases c with
 | true=>exact Bu ⟨G1,L1,M1,e1,r1,h1.1 rfl⟩
 | false=>exact CA ⟨G1,L1,ρ,M1,_,x,r1,n.mono e1,h1.2 rfl,hx.on e1,λb H2 f=>q_.back e1 f⟩
theorem cT(ha:JT X R a t1):JT X R (.UnaryOp .Not a pos) (OL t1):= .of (Mr ha) λσ H G L ρ M q x rl n h hx=>
 ⟨G,L,ρ,M,_,x,rl,n,h,hx,λ_ _ ⟨G,L,M,e,r,h⟩=>⟨G,L,M,e,r,h⟩⟩
def Pl(t u:DE):DE:=λρ M q x=>t ρ M (λd M1=>match d with
 | .bl c=>(c=true->u ρ M1 q x)/\(c=false->q (.bl false) M1)
 | _=>False) x
def Vw(t:DT)(u v:DE):DE:=λρ M q x=>t ρ M (λc M1=>(c=true->u ρ M1 q x)/\(c=false->v ρ M1 q x)) x
theorem h_{op}{t:DE}(h:JE X R a t):JE X R (.BoolOp op [a] pos) t:=L_ h
theorem eG(ha:JE X R a ta)(hb:JE X R (.BoolOp .And (b::ag) pos) tb):JE X R (.BoolOp .And (a::b::ag) pos) (Pl ta tb):= .of (K' ha hb) λσ H G L ρ M q x rl n h hx=>by
 refine ⟨G,L,ρ,M,_,x,rl,n,h,hx,λv H1 ⟨d1,G1,L1,M1,e1,r1,n1,h1⟩=> ?_⟩
 (try dsimp only at h1)
 split at h1
 ·rename_i c;refine ⟨c,n1, ?_⟩;cases c with
  | true=>exact Bu ⟨G1,L1,ρ,M1,_,x,r1,n.mono e1,h1.1 rfl,hx.on e1,λb H2 f=>Fin.back e1 f⟩
  | false=>exact CA ⟨.bl false,G1,L1,M1,e1,r1,rfl,h1.2 rfl⟩
 ·exact h1.elim
theorem Ke{c:Expr}(hc:JT X R c t1)(ha:JE X R a ta)(hb:JE X R b tb):JE X R (.IfExp c a b pos) (Vw t1 ta tb):= .of (Ey hc ha hb) λσ H G L ρ M q x rl n h hx=>by
 refine ⟨G,L,ρ,M,_,x,rl,n,h,hx,λc H1 ⟨G1,L1,M1,e1,r1,h1⟩=> ?_⟩;cases c with
 | true=>exact Bu ⟨G1,L1,ρ,M1,_,x,r1,n.mono e1,h1.1 rfl,hx.on e1,λb H2 f=>Fin.back e1 f⟩
 | false=>exact CA ⟨G1,L1,ρ,M1,_,x,r1,n.mono e1,h1.2 rfl,hx.on e1,λb H2 f=>Fin.back e1 f⟩
end
def Kg:DS:=λDn ρ M=>Dn.nx ρ M
def Mw(t u:DS):DS:=λDn ρ M=>t {Dn with nx:=u Dn} ρ M
def VI(c:DT)(t u:DS):DS:=λDn ρ M=>c ρ M (λb M1=>(b=true->t Dn ρ M1)/\(b=false->u Dn ρ M1)) Dn.x
def OJ(t:DE):DS:=λDn ρ M=>t ρ M Dn.rt Dn.x
def xM(i:Nat)(t:DE):DS:=λDn ρ M=>t ρ M (λd M1=>Dn.nx (ρ.set i (some d)) M1) Dn.x
def Js(t:DE):DS:=λDn ρ M=>t ρ M (λ_ M1=>Dn.nx ρ M1) Dn.x
def Sm(t:DS):DS:=λDn ρ M=>∃J:En->Ms->Prop,t {Dn with nx:=J} ρ M/\∀ρ' M',J ρ' M'->Dn.nx ρ' M'
section
variable{X:Cx}{R:St->XK}{st:Stmt}{ag:List Stmt}{t u:DS}{e:Expr}{te:DE}{pos:Pos}
theorem ψ:zA X R [] Kg:= .of HQ λσ H G L ρ M Dn rl n h hx=>⟨ρ,G,L,M, .refl _ _ _,rl,n,h⟩
theorem η(h1:JS X R st t):zA X R [st] t:=Ht h1
theorem δ(h1:JS X R st t)(h2:zA X R ag u):zA X R (st::ag) (Mw t u):= .of (Ds h1 h2) λσ H G L ρ M Dn rl n h hx=>by refine ⟨G,L,ρ,M,_,rl,n,h,hx,⟨λσ1 H1 ⟨ρ1,G1,L1,M1,e1,r1,n1,h1⟩=> ?_,λ_ _ f=>f,λ_ _ f=>f,λ_ _ f=>f⟩⟩;exact ⟨G1,L1,ρ1,M1,Dn,r1,n1,h1,hx.on e1,qM.back e1⟩
theorem τ(he:JE X R e te):JS X R (.Return (some e) pos) (OJ te):= .of (KN he) λσ H G L ρ M Dn rl n h hx=>⟨G,L,ρ,M,_,_,rl,n,h,hx,λ_ _ f=>f⟩
theorem dJ(he:JE X R e te)(hs:swapsWith e none pos.line X.env=pure false:=by rfl):JS X R (.Expr e pos) (Js te):= .of (GU he hs) λσ H G L ρ M Dn rl n h hx=>by refine ⟨G,L,ρ,M,_,_,rl,n,h,hx,λv H1 ⟨d1,G1,L1,M1,e1,r1,n1,h1⟩=>⟨ρ,G1,L1,M1,e1,r1,n.mono e1,h1⟩⟩
theorem Θ{c:Expr}{a b:List Stmt}{tc:DT}(hc:JT X R c tc)(ha:zA X R a t)(hb:zA X R b u):JS X R (.If c a b pos) (VI tc t u):= .of (OF hc ha hb) λσ H G L ρ M Dn rl n h hx=>by
 refine ⟨G,L,ρ,M,_,_,rl,n,h,hx,λc H1 ⟨G1,L1,M1,e1,r1,h1⟩=> ?_⟩;cases c with
 | true=>exact Bu ⟨G1,L1,ρ,M1,Dn,r1,n.mono e1,h1.1 rfl,hx.on e1,qM.back e1⟩
 | false=>exact CA ⟨G1,L1,ρ,M1,Dn,r1,n.mono e1,h1.2 rfl,hx.on e1,qM.back e1⟩
theorem π(i:Nat){x:Str}{pos':Pos}(hN:X.N.Nodup)(he:JE X R e te)(hi:X.N[i]? =some x:=by rfl)(hx:Loc X.env.scope x:=by first | exact .inl rfl | exact .inr rfl)(hs:swapsWith e (some (.Name x pos')) pos.line X.env=pure false:=by rfl)(hf:X.fn x=true\/X.env.scope.names.lookup x=some .local:=by first | exact .inl rfl | exact .inr rfl | assumption):
  JS X R (.Assign [.Name x pos'] e pos) (xM i te):= .of (LB hN hi hx he hs hf) λσ H G L ρ M Dn rl n h hx=>by
 refine ⟨G,L,ρ,M,_,_,rl,n,h,hx,λv H1 ⟨d1,G1,L1,M1,e1,r1,n1,h1⟩=>⟨_,G1,L1,M1,e1,r1,(n.mono e1).set i n1,h1⟩⟩
theorem hW(h:JS X R st t):JS X R st (Sm t):= .of h λσ H G L ρ M Dn rl n h hx=>by obtain ⟨J,h1,h2⟩:=h;refine ⟨G,L,ρ,M,_,rl,n,h1,hx,⟨λσ1 H1 ⟨ρ1,G1,L1,M1,e1,r1,n1,h1⟩=>⟨ρ1,G1,L1,M1,e1,r1,n1,h2 _ _ h1⟩,λ_ _ f=>f,λ_ _ f=>f,λ_ _ f=>f⟩⟩
end
abbrev Ta:=Addr->List (Str×Dt)->Ms->Prop
abbrev DF:=List Dt->Ms->DQ->Ta->Prop
inductive bK(K:fI)(T:DF)(vs:List V)(H:Hp)(Q:VK)(E:XK):Prop
 | mk (G:Hp) (L:List Addr) (ds:List Dt) (M:Ms) (q:DQ) (x:Ta) (r:Rl K G L M H) (n:Ι K G L ds vs) (h:T ds M q x) (hQ:∀v H1,Fin K G L H q v H1->Q v H1) (hE:∀C fs M1 G1 L1 H1 od,x C fs M1->Ex G L H G1 L1 H1->Rl K G1 L1 M1 H1->NI K G1 L1 H1 fs od->E (.ref C) od H1)
def l9(N:List Str)(ds:List Dt):En:=ds.map some++List.replicate (N.length - ds.length) none
theorem EV{K:fI}{G:Hp}{L:List Addr}{N:List Str}{ds:List Dt}{vs:List V}(h:Ι K G L ds vs):iU K G L (l9 N ds) (iD N vs):=by
 have hl:=h.length;refine ⟨by unfold l9 iD;simp [hl],λi d e=> ?_⟩;unfold l9 at e;unfold iD;by_cases hi:i < ds.length
 ·rw [List.getElem?_append_left (by simpa using hi),List.getElem?_map] at e;rw [List.getElem?_append_left (by simpa [<-hl] using hi),List.getElem?_map];cases q:ds[i]? with
  | none=>rw [q] at e;cases e
  | some d'=>
   rw [q] at e;cases e;obtain ⟨v,e1,h1⟩:=h.get q;exact ⟨v,by rw [e1];rfl,h1⟩
 ·rw [List.getElem?_append_right (by simpa using Nat.le_of_not_lt hi),List.getElem?_replicate] at e;split at e <;> cases e
section
variable{P:Program}{w:World}{K:fI}{mg:Str->Option Value}{base:Heap}
theorem bV.cN{x qual:Str}{st:Stmt}{f:Addr}{fd:FuncData}{N ps:List Str}{k:Nat}{T:DF}(F:bV K x qual st f fd)(S:υ N ps (μ st))(len:∀ds M q x,T ds M q x->ds.length=ps.length)
  (vG:∀(aQ:Value) (A:Around) (outer:List Env) (s:Shared) (H:Hp) (E:XK),bx k (A.deeper (envOfC qual (μ st) s.heap.objs.size f aQ))->
   ∃t,zA (js (br P w) P w K mg base N qual (μ st) f aQ A outer s H E) (λ_=>E) (fe st) t/\∀ds M q x,T ds M q x->t {nx:=λ_ M'=>q .bw M',rt:=q,x:=λ_=>x} (l9 N ds) M):
  Τ P w K mg base (br P w) (k+1) f fd ps (bK K T):=by
 refine F.XR S (λvs H Q E h=> ?_) (λaQ A outer s H vs Q E hr h=> ?_)
 ·obtain ⟨G,L,ds,M,q,x,rl,n,hT,_⟩:=h;rw [<-n.length];exact len _ _ _ _ hT
 ·obtain ⟨t,j,ht⟩:=vG aQ A outer s H E hr;obtain ⟨G,L,ds,M,q,x,rl,n,hT,hQ,hE⟩:=h;refine ⟨_,j,G,L,l9 N ds,M,_,rl,EV n,ht ds M q x hT,λσ ρ C fs M' G' L' H' od hx e r _ y=>hE C fs M' G' L' H' od hx e r y,⟨λσ' H' ⟨ρ',G',L',M',e,r,_,h⟩=>hQ _ _ ⟨.bw,G',L',M',e,r,rfl,h⟩,λv H' f=>hQ v H' f,λ_ _ ⟨_,_,_,_,_,_,_,h⟩=>h.elim,λ_ _ ⟨_,_,_,_,_,_,_,h⟩=>h.elim⟩⟩
structure aa(P:Program)(w:World)(K:fI)(mg:Str->Option Value)(base:Heap)(k:Nat)(x:Str)(ps:List Str)(T:DF)(f:Addr)(fd:FuncData):Prop where
 ok:Τ P w K mg base (br P w) k f fd ps (bK K T)
 b:gc K fd ps []
 m:mg x=some (.ref f)
 kp:PySem.W.keepIn K (.ref f)=true
end
def wK(T:DF)(t:DA):DE:=λρ M q x=>t ρ M (λds M1=>T ds M1 q (λC fs M'=>x ρ C fs M')) x
section
variable{X:Cx}{R:St->XK}{T:DF}{k k':Nat}{f:Addr}{fd:FuncData}{ps:List Str}{x:Str}{p pos:Pos}{e:Expr}{es:List Expr}{t:DA}
theorem Λ(C:aa X.prog X.w X.K X.mg X.base k x ps T f fd)(hr:bx k' X.A)(hx:bE (br X.prog X.w) X R)(ha:JA X R (e::es) t)(hk:k<=k':=by decide)(hg:Gl X x:=by rfl)(gQ:(x==("__debug__":Str))=false:=by decide)
  (he:starEach (e::es) X.env=(false,eval e X.env)::starEach es X.env:=by rfl) (dj:(backTo pos (starEach es X.env)).any (·.1)=false:=by rfl):JE X R (.Call (.Name x p) (e::es) [] pos) (wK T t):=
 .of (Ep C.ok (hr.mono hk) hg C.m C.kp C.b .nil hx ha gQ he dj) λσ H G L ρ M q x rl n h hx=>by refine ⟨G,L,ρ,M,_,x,rl,n,h,hx,λvs H1 ⟨ds,G1,L1,M1,e1,r1,n1,h1⟩=> ?_⟩;show bK X.K T (vs++[]) H1 _ _;rw [aaQ];exact ⟨G1,L1,ds,M1,q,_,r1,n1,h1,λv H' f=>Fin.back e1 f,λC fs M' G' L' H' od hq e' r' y=>hx σ ρ C fs M' G' L' H' od hq (e1.trans e') r' (n.mono (e1.trans e')) y⟩
end
def DM(C:Addr)(t:DA):DS:=λDn ρ M=>t ρ M (λds M1=>ds.length<=sizeLine/\Dn.x ρ C [] M1) Dn.x
section
variable{X:Cx}{R:St->XK}{C:Addr}{t:DA}{Bn newId gA:String}{xC:List Value}{x:Str}{np af pos:Pos}{e:Expr}{es:List Expr}
theorem bB(hR:zG X R)(F:ExcBaseFacts Bn newId gA xC)(c:eK X.K C xC newId)(hm:X.mg x=some (.ref C))(ha:JA X R (e::es) t)(hc:X.calm=true:=by rfl)(hex:X.ex=[]:=by rfl)(hg:Gl X x:=by rfl)
  (gQ:(x==("__debug__":Str))=false:=by decide) (he:starEach (e::es) X.env=(false,eval e X.env)::starEach es X.env:=by rfl) (dj:(backTo af (starEach es X.env)).any (·.1)=false:=by rfl):
  JS X R (.Raise (some (.Call (.Name x np) (e::es) [] af)) none pos) (DM C t):= .of (Dv hR hc hex F c hg hm ha gQ he dj) λσ H G L ρ M Dn rl n h hx=>by
 refine ⟨G,L,ρ,M,_,_,rl,n,h,hx,λvs H1 ⟨ds,G1,L1,M1,e1,r1,n1,h1⟩=>⟨by rw [<-n1.length];exact h1.1, ?_⟩⟩;exact hx σ ρ C [] M1 G1 L1 H1 none h1.2 e1 r1 (n.mono e1) (.inl ⟨rfl,rfl⟩)
end
structure Yl(K:fI)(J:It)(xs:List Dt)(G0:Hp)(L0:List Addr):Prop where
 go:∀(i:Nat) G L M H (d:Dt),cp G0 G->Pre L0 L->Rl K G L M H->xs[i]? =some d->J.go i H/\∀v H',J.NR i H v H'->∃G',Ex G L H G' L H'/\Rl K G' L M H'/\Den K G' L d v
 stop:∀(i:Nat) G L M H,cp G0 G->Pre L0 L->Rl K G L M H->xs.length<=i->J.stop i H
inductive OI(K:fI)(G0:Hp)(L0:List Addr)(H0:Hp)(q:List Dt->Ms->Prop)(J:It)(H:Hp):Prop
 | mk (xs:List Dt) (G:Hp) (L:List Addr) (M:Ms) (e:Ex G0 L0 H0 G L H) (r:Rl K G L M H) (y:Yl K J xs G L) (h:q xs M)
inductive UW(K:fI)(R:St->XK)(t:DA)(σ:St)(H:Hp)(Q:It->Hp->Prop):Prop
 | mk (G:Hp) (L:List Addr) (ρ:En) (M:Ms) (q:List Dt->Ms->Prop) (x:DX) (r:Rl K G L M H) (n:iU K G L ρ σ) (h:t ρ M q x) (hx:qz K G L H R x) (hQ:∀J H1,OI K G L H q J H1->Q J H1)
def JI(X:Cx)(R:St->XK)(tg iter:Expr)(t:DA):Prop:=PI X tg iter (UW X.K R t)
theorem Hy.imp{X:Cx}{γ:List (Addr×Obj)}{σ:St}{tg:Expr}{R R':It->Hp->Prop}(hR:∀J H,R J H->R' J H){v:Value}{s:Shared}(h:Hy X γ σ tg R v s):Hy X γ σ tg R' v s:=by obtain ⟨it,fp,tn,J,H',a,b,c,d,e,f⟩:=h;exact ⟨it,fp,tn,J,H',a,b,c,d,e,hR J H' f⟩
theorem oq{K:fI}{G:Hp}{L:List Addr}{a:Addr}{ds:List Dt}{vs:List V}(h:∀G':Hp,cp G G'->fc K G' a vs)(n:Ι K G L ds vs):Yl K (QD K a) ds G L where
 go:=λi G1 L1 M1 H1 d g l r e=>by
  obtain ⟨v,e1,n1⟩:=n.get e;have hs:=h H1 (g.trans r.sub)
  exact ⟨⟨vs,v,hs,e1⟩,λv' H' ⟨eH,y⟩=>by
   subst eH;have e2:=y vs hs;rw [e1] at e2;cases e2
   exact ⟨G1, .refl _ _ _,r,Den.mono g l _ _ n1⟩⟩
 stop:=λi G1 L1 M1 H1 g l r e=>⟨vs,h H1 (g.trans r.sub),by rw [<-n.length];exact e⟩
theorem uv{K:fI}{G:Hp}{L:List Addr}{a:Addr}{ds:List Dt}{vs:List V}(h:∀G':Hp,cp G G'->j0 K G' a vs)(n:Ι K G L ds vs):Yl K (UN K a) ds G L where
 go:=λi G1 L1 M1 H1 d g l r e=>by
  obtain ⟨v,e1,n1⟩:=n.get e;have hs:=h H1 (g.trans r.sub)
  exact ⟨⟨vs,v,hs,e1⟩,λv' H' ⟨eH,y⟩=>by
   subst eH;have e2:=y vs hs;rw [e1] at e2;cases e2
   exact ⟨G1, .refl _ _ _,r,Den.mono g l _ _ n1⟩⟩
 stop:=λi G1 L1 M1 H1 g l r e=>⟨vs,h H1 (g.trans r.sub),by rw [<-n.length];exact e⟩
def eX(lo:Int)(n:Nat):List Dt:=(List.range n).map λk:Nat=>Dt.int (lo+(k:Int))
theorem LU{K:fI}{G:Hp}{L:List Addr}{lo:Int}{n:Nat}:Yl K (Qb lo n) (eX lo n) G L where
 go :=λi G1 L1 M1 H1 d g l r e=>by
  unfold eX at e;rw [aaF] at e;have hi:i < n:=by
   cases q:(List.range n)[i]? with
   | none=>rw [q] at e;cases e
   | some j=>
    have:=(aag.mp q).1;rwa [List.length_range] at this
  rw [List.getElem?_range hi] at e;cases e;exact ⟨hi,λv' H' ⟨eH,y⟩=>by subst eH y;exact ⟨G1, .refl _ _ _,r,rfl⟩⟩
 stop:=λi G1 L1 M1 H1 g l r e=>by show n<=i;unfold eX at e;simpa using e
section
variable{X:Cx}{R:St->XK}{tg iter:Expr}
theorem JI.of{wi:TI}{t:DA}(h:PI X tg iter wi)(hw:∀σ H G L ρ M q x,Rl X.K G L M H->iU X.K G L ρ σ->t ρ M q x->qz X.K G L H R x->wi σ H (OI X.K G L H q)):JI X R tg iter t:=by intro γ s σ H Q I ⟨G,L,ρ,M,q,x,r,n,ht,hx,hQ⟩;exact aY (h γ s σ H _ I (hw σ H G L ρ M q x r n ht hx)) λu s1 f=>aY f λu2 s2 f2=>Hy.imp hQ f2
def LY(t:DA):DA:=λρ M q x=>t ρ M (λds M1=>match ds with
 | [.int j]=>(-(2 ^ 62)<=j/\j < 2 ^ 62)/\q (eX 0 j.toNat) M1
 | _=>False) x
theorem bY{a:Expr}{t:DA}{p pos:Pos}(hm:X.mg "range"=none)(ha:JA X R [a] t)(hg:Gl X "range":=by rfl)(hs:starEach [a] X.env=[(false,eval a X.env)]:=by rfl):JI X R tg (.Call (.Name "range" p) [a] [] pos) (LY t):=
 .of (Ct hg hm ha hs) λσ H G L ρ M q x rl n h hx=>by
  refine ⟨G,L,ρ,M,_,x,rl,n,h,hx,λvs H1 ⟨ds,G1,L1,M1,e1,r1,n1,h1⟩=> ?_⟩
  (try dsimp only at h1)
  split at h1
  ·rename_i j;obtain ⟨v,rfl,n2⟩:=ax n1;have n2:v= .int j:=n2;subst n2;exact ⟨j,rfl,h1.1.1,h1.1.2,_,G1,L1,M1,e1,r1,LU,h1.2⟩
  ·exact h1.elim
end
def GD(K:fI)(gg:TG)(g:Dt->En->(En->Prop)->Prop):Prop:=
 ∀G L M H d v ρ σ (k:En->Prop) (Q:St->Hp->Prop),Rl K G L M H->Den K G L d v->iU K G L ρ σ->g d ρ k->(∀ρ' σ',iU K G L ρ' σ'->k ρ'->Q σ' H)->gg v σ H Q
def gN(i:Nat):Dt->En->(En->Prop)->Prop:=λd ρ k=>k (ρ.set i (some d))
theorem bS{K:fI}{i:Nat}:GD K (dD i) (gN i):=λG L M H d v ρ σ k Q rl n en h hQ=>hQ _ _ (en.set i n) h
def g2(i j:Nat):Dt->En->(En->Prop)->Prop:=λd ρ k=>match d with
 | .tup [a,b]=>k ((ρ.set i (some a)).set j (some b))
 | _=>False
theorem u7{K:fI}{i j:Nat}:GD K (Bs K 2 (gO (dD i) (gO (dD j) BF))) (g2 i j):=λG L M H d v ρ σ k Q rl n en h hQ=>by
 unfold g2 at h;split at h
 ·rename_i a b;obtain ⟨p,vs,rfl,e,n⟩:=n;obtain ⟨v1,v2,rfl,n1,n2⟩:=dk n;exact ⟨p,_,rfl, .inl (.inl (rl.sub _ _ e)),rfl,v1,_,rfl,v2,_,rfl,rfl,hQ _ _ ((en.set i n1).set j n2) h⟩
 ·exact h.elim
def qF(g:Dt->En->(En->Prop)->Prop)(tb:DS)(Dn:mX):List Dt->En->Ms->Prop
 | [],ρ,M=>Dn.nx ρ M
 | x::xs,ρ,M=>g x ρ λρ'=>tb {Dn with nx:=qF g tb Dn xs,ct:=qF g tb Dn xs,bk:=Dn.nx} ρ' M
def NZ(ti:DA)(g:Dt->En->(En->Prop)->Prop)(tb:DS):DS:=λDn ρ M=>ti ρ M (λxs M1=>qF g tb Dn xs ρ M1) Dn.x
section
variable{X:Cx}{R:St->XK}{tg iter:Expr}{body:List Stmt}{ti:DA}{gg:TG}{g:Dt->En->(En->Prop)->Prop}{tb:DS}{pos:Pos}
theorem xR(hi:JI X R tg iter ti)(hg:PG X tg gg)(gd:GD X.K gg g)(hb:zA X R body tb)(hp:PassesOwn (model X.prog X.w) X.A X.env X.xe:=by first | exact PassesOwn.never | exact PassesOwn.leaving)(hc:X.calm=true:=by rfl)(hs:∀x,foldedSetIterable iter X.env x=pure x:=by intro _;rfl):
  JS X R (.For tg iter body [] pos) (NZ ti g tb):= .of (Gr hp hc hi hg hb hs) λσ H G L ρ M Dn rl n h hx=>by
 refine ⟨G,L,ρ,M,_,_,rl,n,h,hx,λJ H1 ⟨xs,G1,L1,M1,e1,r1,y,h1⟩=> ?_⟩;refine ⟨λi m σ' H'=>m+i=xs.length/\dP X.K G1 L1 H1 (λρ' M'=>qF g tb Dn (xs.drop i) ρ' M') σ' H',⟨xs.length,rfl,ρ,G1,L1,M1, .refl _ _ _,r1,n.mono e1,by rw [List.drop_zero];exact h1⟩, ?_⟩;rintro i m σ' H' ⟨hm,ρ',G',L',M',e',r',n',h'⟩;by_cases hi:i < xs.length
 ·right;have hd:xs[i]? =some xs[i]:=aac hi;obtain ⟨go,yl⟩:=y.go i G' L' M' H' _ e'.g e'.l r' hd;rw [abD hi] at h';refine ⟨go,dP X.K G1 L1 H1 (λρ' M'=>qF g tb Dn (xs.drop (i+1)) ρ' M'),λσ2 H2 f=>⟨m - 1,by omega,by omega,f⟩,λv H2 hy=> ?_⟩;obtain ⟨G2,e2,r2,n2⟩:=yl v H2 hy;refine gd G2 L' M' H2 _ v ρ' σ' _ _ r2 n2 (n'.mono e2) h' λρ3 σ3 n3 h3=> ?_;refine ⟨G2,L',ρ3,M',_,r2,n3,h3,hx.on (e1.trans (e'.trans e2)),⟨λ_ _ f=>dP.back (e'.trans e2) f,λ_ _ f=>Fin.back (e1.trans (e'.trans e2)) f,λ_ _ f=>dP.back (e1.trans (e'.trans e2)) f,λ_ _ f=>dP.back (e'.trans e2) f⟩⟩
 ·left;refine ⟨y.stop i G' L' M' H' e'.g e'.l r' (by omega),ρ',G',L',M',e1.trans e',r',n', ?_⟩;rw [List.drop_eq_nil_of_le (by omega)] at h';exact h'
end
abbrev DK:=En->Ms->(List Dt->(Ms->Prop)->Ms->Prop)->DX->Prop
structure Mu(K:fI)(J:It)(xs:List Dt)(ok:Ms->Prop)(G0:Hp)(L0:List Addr):Prop where
 go:∀(i:Nat) G L M H (d:Dt),cp G0 G->Pre L0 L->Rl K G L M H->ok M->xs[i]? =some d->J.go i H/\∀v H',J.NR i H v H'->∃G',Ex G L H G' L H'/\Rl K G' L M H'/\Den K G' L d v
 stop:∀(i:Nat) G L M H,cp G0 G->Pre L0 L->Rl K G L M H->ok M->xs.length<=i->J.stop i H
inductive Te(K:fI)(G0:Hp)(L0:List Addr)(H0:Hp)(q:List Dt->(Ms->Prop)->Ms->Prop)(J:It)(H:Hp):Prop
 | mk (xs:List Dt) (ok:Ms->Prop) (G:Hp) (L:List Addr) (M:Ms) (e:Ex G0 L0 H0 G L H) (r:Rl K G L M H) (y:Mu K J xs ok G L) (h:q xs ok M)
inductive Uc(K:fI)(R:St->XK)(t:DK)(σ:St)(H:Hp)(Q:It->Hp->Prop):Prop
 | mk (G:Hp) (L:List Addr) (ρ:En) (M:Ms) (q:List Dt->(Ms->Prop)->Ms->Prop) (x:DX) (r:Rl K G L M H) (n:iU K G L ρ σ) (h:t ρ M q x) (hx:qz K G L H R x) (hQ:∀J H1,Te K G L H q J H1->Q J H1)
def JK(X:Cx)(R:St->XK)(tg iter:Expr)(t:DK):Prop:=PI X tg iter (Uc X.K R t)
def V'(t:DA):DK:=λρ M q x=>t ρ M (λxs M1=>q xs (λ_=>True) M1) x
theorem Ak{X:Cx}{R:St->XK}{tg iter:Expr}{t:DA}(h:JI X R tg iter t):JK X R tg iter (V' t):=by intro γ s σ H Q I ⟨G,L,ρ,M,q,x,r,n,ht,hx,hQ⟩;refine h γ s σ H Q I ⟨G,L,ρ,M,_,x,r,n,ht,hx,λJ H1 ⟨xs,G1,L1,M1,e1,r1,y,hq⟩=>hQ J H1 ⟨xs,_,G1,L1,M1,e1,r1,⟨λi G L M H d g l r _ e=>y.go i G L M H d g l r e,λi G L M H g l r _ e=>y.stop i G L M H g l r e⟩,hq⟩⟩
def lV(Ε:List Nat)(ρ:En):En:=Ε.map λi=>(ρ[i]?).join
def gY(g:Dt->En->(En->Prop)->Prop)(tc:DT)(te:DE)(ρ0:En)(ok:Ms->Prop):List Dt->List Dt->Ms->(List Dt->Ms->Prop)->Prop
 | [],Ο,M,k=>ok M/\k Ο M
 | x::xs,Ο,M,k=>ok M/\g x ρ0 λρ'=>tc ρ' M (λb M1=>match b with
  | true=>te ρ' M1 (λd M2=>gY g tc te ρ0 ok xs (Ο++[d]) M2 k) gT
  | false=>gY g tc te ρ0 ok xs Ο M1 k) gT
theorem Iu{K:fI}{G:Hp}{L:List Addr}{ρ:En}{σ os:St}{n:Nat}(h:iU K G L ρ σ)(Ε:List Nat)(hl:os.length=n):iU K G L (List.replicate n none++lV Ε ρ) (os++mQ Ε σ):=by
 have lc:(lV Ε ρ).length=(mQ Ε σ).length:=by unfold lV mQ;simp
 refine ⟨by rw [aab,aab,aas,hl,lc],λi d' e=> ?_⟩;by_cases hi:i < n
 ·rw [aau (by rw [aas];exact hi),List.getElem?_replicate,aaD hi] at e;cases e
 ·rw [aaJ (by rw [aas];omega),aas] at e;rw [aaJ (by omega),hl];unfold lV at e;unfold mQ;rw [aaF] at e⊢;cases q:Ε[i - n]? with
  | none=>rw [q] at e;cases e
  | some j=>
   rw [q] at e;have e:(ρ[j]?).join=some d':=aaw e;have e:ρ[j]? =some (some d'):=by
    cases z:ρ[j]? with
    | none=>rw [z] at e;cases e
    | some o=>rw [z] at e;exact aa5 some e
   obtain ⟨v,hv,dn⟩:=h.gW j d' e;exact ⟨v,by show some ((σ[j]?).join)=_;rw [hv];rfl,dn⟩
theorem v8{K:fI}{J:It}{gg:TG}{g:Dt->En->(En->Prop)->Prop}{tc:DT}{te:DE}{Ε:List Nat}{nn:Nat}{ρ:En}{σ:St}{G1:Hp}{L1:List Addr}{M1:Ms}{H1:Hp}{xs:List Dt}{ok:Ms->Prop}{Dl:Addr}{Q:VK}{k:List Dt->Ms->Prop}(gd:GD K gg g)(r1:Rl K G1 L1 M1 H1)(n:iU K G1 L1 ρ σ)(y:Mu K J xs ok G1 L1)(hD:H1 Dl=none)(hz:xs.length<=sizeLine)
  (h:gY g tc te (List.replicate nn none++lV Ε ρ) ok xs [] M1 k)
  (fin:∀G2 L2 M2 H2 ds vs,Ex G1 L1 H1 G2 L2 H2->Rl K G2 L2 M2 H2->G2 Dl=none->Dl∉L2->H2 Dl=some (.lst vs)->Ι K G2 L2 ds vs->k ds M2->Q (.ref Dl) H2):
  yo J nn gg (Cq K (λ_=>E0) tc) (qi K (λ_=>E0) te) (mQ Ε σ) Q H1 Dl:=by
 refine ⟨λi m ys H2=>m+i=xs.length/\H2 Dl=some (.lst ys)/\∃Ο G2 L2 M2,Ex G1 L1 H1 G2 L2 H2/\Rl K G2 L2 M2 H2/\G2 Dl=none/\Dl∉L2/\Ι K G2 L2 Ο ys/\Ο.length<=i/\gY g tc te (List.replicate nn none++lV Ε ρ) ok (xs.drop i) Ο M2 k,⟨xs.length,rfl,Ω,[],G1,L1,M1, ?_⟩, ?_⟩
 ·have gn:G1 Dl=none:=r1.sub.free hD;refine ⟨⟨.refl _, .refl _,λ_ h _=>h,λb u h1 _=>by rw [Γ (λz=>by rw [z,hD] at h1;cases h1)];exact h1,λ_ h=> .inl h,λb h=>by rw [Γ (λz=>h (by rw [z];exact hD))];exact h⟩,⟨λb u e=>by rw [Γ (λz=>by rw [z,gn] at e;cases e)];exact r1.sub b u e,r1.len,r1.nd,λi a m h1 h2=> ?_⟩,gn,r1.Pw hD,rfl,aak _,by rw [List.drop_zero];exact h⟩;obtain ⟨q1,q2⟩:=r1.gW i a m h1 h2;exact ⟨q1,q2.mono (.refl _) (.refl _) (Γ λz=>q2.there (by rw [z];exact hD))⟩
 ·rintro i m ys H2 ⟨hm,Ga,Ο,G2,L2,M2,e2,r2,g2,l2,n2,la,h2⟩;refine ⟨Ga, ?_⟩;have ne1:∀{b:Addr} {u:HO},H1 b=some u->b≠Dl:=λe z=>by rw [z,hD] at e;cases e
  by_cases hi:i < xs.length
  ·right;have hd:xs[i]? =some xs[i]:=aac hi;rw [abD hi] at h2;obtain ⟨aC,h2⟩:=h2;obtain ⟨go,yl⟩:=y.go i G2 L2 M2 H2 _ e2.g e2.l r2 aC hd;refine ⟨go,λv H3 hy os K9=> ?_⟩;obtain ⟨G3,e3,r3,n3⟩:=yl v H3 hy;have h3:H3 Dl=some (.lst ys):=e3.out _ _ Ga l2;have g3:G3 Dl=none:=e3.fr _ g2 (by rw [Ga];simp);refine gd G3 L2 M2 H3 _ v _ _ _ _ r3 n3 (Iu ((n.mono e2).mono e3) Ε K9) h2 λρ' σ' n' h'=> ?_;refine ⟨G3,L2,ρ',M2,_,gT,r3,n',h',yF,λb H4 ⟨G4,L4,M4,e4,r4,h4⟩=> ?_⟩;have Ql:H4 Dl=some (.lst ys):=e4.out _ _ h3 l2;have g4:G4 Dl=none:=e4.fr _ g3 (by rw [h3];simp);have l4:Dl∉L4:=λz=>(e4.new _ z).elim l2 λq=>by rw [h3] at q;cases q
   have Qr:=e3.trans e4;cases b with
   | false=>
    exact ⟨m - 1,by omega,by omega,Ql,Ο,G4,L4,M4,e2.trans Qr,r4,g4,l4,Ι.mono Qr.g Qr.l _ _ n2,by omega,h4⟩
   | true=>
    refine ⟨G4,L4,ρ',M4,_,gT,r4,n'.mono e4,h4,yF,λv5 H5 ⟨d5,G5,L5,M5,e5,r5,n5,h5⟩=> ?_⟩;have ZQ:H5 Dl=some (.lst ys):=e5.out _ _ Ql l4;have g5:G5 Dl=none:=e5.fr _ g4 (by rw [Ql];simp);have l5:Dl∉L5:=λz=>(e5.new _ z).elim l4 λq=>by rw [Ql] at q;cases q
    have RI:=Qr.trans e5;have Wa:ys.length=Ο.length:=by rw [<-n2.length]
    refine ⟨ZQ,by omega,m - 1,by omega,by omega,Ω,Ο++[d5],G5,L5,M5, ?_, ?_,g5,l5,(Ι.mono RI.g RI.l _ _ n2).app ⟨_,_,rfl,n5,rfl⟩,by rw [aab];show Ο.length+1<=i+1;omega,h5⟩
    ·have M9:=e2.trans RI
     exact ⟨M9.g,M9.l,M9.fr,λb u h1 h2=>by rw [Γ (ne1 h1)];exact M9.out b u h1 h2,M9.new,λb h=>by
      by_cases hb:b=Dl
      ·rw [hb,Ω];simp
      ·rw [Γ hb];exact M9.C5 b h⟩
    ·refine ⟨λb u e=>by rw [Γ (λz=>by rw [z,g5] at e;cases e)];exact r5.sub b u e,r5.len,r5.nd,λi a m h1 h2=> ?_⟩;obtain ⟨q1,q2⟩:=r5.gW i a m h1 h2;exact ⟨q1,q2.mono (.refl _) (.refl _) (Γ λz=>l5 (by rw [<-z];exact aaO h1))⟩
  ·left;rw [List.drop_eq_nil_of_le (by omega)] at h2;exact ⟨y.stop i G2 L2 M2 H2 e2.g e2.l r2 h2.1 (by omega),fin G2 L2 M2 H2 Ο ys e2 r2 g2 l2 Ga n2 h2.2⟩
section
variable{K:fI}{G1:Hp}{L1:List Addr}{H1 G:Hp}{L:List Addr}{M:Ms}{H:Hp}{p:Addr}{ds:List Dt}{vs:List V}{q:DQ}
theorem HL(e:Ex G1 L1 H1 G L H)(r:Rl K G L M H)(Nb:H1 p=none)(hg:G p=none)(hl:p∉L)(h:H p=some (.lst vs))(n:Ι K G L ds vs)(k:q (.lst ds) M):Fin K G1 L1 H1 q (.ref p) H:=by
 have g1:cp G (upd G p (.lst vs)):=λb u e=>by rw [Γ (λz=>by rw [z,hg] at e;cases e)];exact e
 refine ⟨.lst ds,upd G p (.lst vs),L,M,⟨e.g.trans g1,e.l,λb h1 h2=> ?_,e.out,e.new,e.C5⟩,⟨λb u e=> ?_,r.len,r.nd,λk a m h1 h2=> ?_⟩,⟨p,vs,rfl,Ω,Ι.mono g1 (.refl _) _ _ n⟩,k⟩
 ·rw [Γ (λz=>h2 (by rw [z];exact Nb))];exact e.fr b h1 h2
 ·by_cases hb:b=p
  ·rw [hb,Ω] at e;rw [hb];cases e;exact h
  ·rw [Γ hb] at e;exact r.sub b u e
 ·obtain ⟨q1,q2⟩:=r.gW k a m h1 h2;have hb:a≠p:=λz=>hl (by rw [<-z];exact aaO h1);exact ⟨by rw [Γ hb];exact q1,q2.mono g1 (.refl _) rfl⟩
theorem Ii(e:Ex G1 L1 H1 G L H)(r:Rl K G L M H)(Nb:H1 p=none)(hg:G p=none)(hl:p∉L)(h:H p=some (.lst vs))(n:Ι K G L ds vs)(k:q (.loc M.length) (M++[.lst ds])):Fin K G1 L1 H1 q (.ref p) H:=by
 refine ⟨.loc M.length,G,L++[p],M++[.lst ds],⟨e.g,e.l.trans ⟨[p],rfl⟩,e.fr,e.out,λb hb=> ?_,e.C5⟩,⟨r.sub,by rw [List.length_append,List.length_append,r.len];rfl,List.nodup_append.mpr ⟨r.nd,by simp,λa ha b hb=> ?_⟩,λk a m h1 h2=> ?_⟩,⟨p,rfl,by rw [<-r.len,List.getElem?_append_right (Nat.le_refl _)];simp⟩,k⟩
 ·rcases aaK.mp hb with z | z
  ·exact e.new b z
  ·have e:b=p:=by simpa using z
   right;rw [e];exact Nb
 ·have e:b=p:=by simpa using hb
  rw [e];exact λz=>hl (z▸ha)
 ·by_cases hk:k < L.length
  ·rw [aau hk] at h1;rw [aau (by rw [<-r.len];exact hk)] at h2;obtain ⟨q1,q2⟩:=r.gW k a m h1 h2;exact ⟨q1,q2.mono (.refl _) ⟨[p],rfl⟩ rfl⟩
  ·have e:k=L.length:=by have:=(aag.mp h1).1;rw [aab] at this;simp at this;omega
   rw [e,aaJ (aak _)] at h1;rw [e,r.len,aaJ (aak _)] at h2;simp at h1 h2;subst h1 h2;exact ⟨hg,vs,h,Ι.mono (.refl _) ⟨[p],rfl⟩ _ _ n⟩
def P9(b:Bool)(q:DQ)(ys:List Dt)(M:Ms):Prop:=match b with
 | false=>q (.lst ys) M
 | true=>q (.loc M.length) (M++[.lst ys])
theorem AZ{b:Bool}(e:Ex G1 L1 H1 G L H)(r:Rl K G L M H)(Nb:H1 p=none)(hg:G p=none)(hl:p∉L)(h:H p=some (.lst vs))(n:Ι K G L ds vs)(k:P9 b q ds M):Fin K G1 L1 H1 q (.ref p) H:=by
 cases b
 ·exact HL e r Nb hg hl h n k
 ·exact Ii e r Nb hg hl h n k
end
theorem cn{n i:Nat}(h:i < n):sQ n (dD i):=λv os cs H Q hl hq=>⟨⟨os.set i (some v),by rw [abf];exact hl,List.set_append_left _ _ (by omega)⟩,hq⟩
theorem BW{K:fI}{n i j:Nat}(h:i < n)(h':j < n):sQ n (Bs K 2 (gO (dD i) (gO (dD j) BF))):=
 λv os cs H Q hl ⟨a,xs,e,s,l,v1,r,e1,v2,r2,e2,e3,q⟩=>⟨a,xs,e,s,l,v1,r,e1,v2,r2,e2,e3,⟨(os.set i (some v1)).set j (some v2),by simp [hl],by
  rw [List.set_append_left _ _ (by omega),List.set_append_left _ _ (by rw [abf];omega)]⟩,q⟩
section
variable{X:Cx}{elt iter tg:Expr}{xs:List Str}{scope:Scope}{pos:Pos}{ys:List Str}{Ε:List Nat}
theorem cL{i:Nat}{x:Str}{px:Pos}(S:Ν X scope xs ys Ε)(h:xs[i]? =some x)(C:Addr)(s:Shared)(H:Hp)(fp:List Addr):PG (Cx.comp X (xs++ys) scope C s H fp) (.Name x px) (dD i):=by
 have hm:x∈xs:=aaO h;have hi:(xs++ys)[i]? =some x:=by rw [aau (aag.mp h).1];exact h
 exact aV S.nd hi (.inl (lookup_relabel_local (S.own x hm))) (.inr (lookup_relabel_local (S.own x hm)))
theorem IM{x y:Str}{px py:Pos}{k:Nat}(hc:X.calm=true)(S:Ν X scope [x,y] ys Ε)(C:Addr)(s:Shared)(H:Hp)(fp:List Addr):PG (Cx.comp X ([x,y]++ys) scope C s H fp) (.Tuple [.Name x px, .Name y py] k pos) (Bs X.K 2 (gO (dD 0) (gO (dD 1) BF))):=
 mm (X:=Cx.comp X ([x,y]++ys) scope C s H fp) hc (bA (cL S (i:=0) rfl C s H fp) (bA (cL S (i:=1) rfl C s H fp) iM))
end
def pk:DT:=λ_ M q _=>q true M
def VR(X:Cx)(cs:List Expr)(t:DT):Prop:=Qj X cs (Cq X.K (λ_=>E0) t)
theorem e_{X:Cx}:VR X [] pk:=⟨.inl rfl,λγ s σ H Q I ⟨G,L,ρ,M,q,x,r,n,h,hx,hQ⟩=>aaE ⟨H,I,hQ true H ⟨G,L,M, .refl _ _ _,r,h⟩⟩⟩
def Kd(b:Bool)(g:Dt->En->(En->Prop)->Prop)(tc:DT)(te:DE)(cs:En)(q:DQ):List Dt->(Ms->Prop)->Ms->Prop:=λzs ok M1=>zs.length<=sizeLine/\gY g tc te cs ok zs [] M1 (P9 b q)
section
variable{X:Cx}{R:St->XK}{elt iter tg:Expr}{cs:List Expr}{xs:List Str}{scope:Scope}{pos:Pos}{gg:TG}{g:Dt->En->(En->Prop)->Prop}{ti:DK}{tc:DT}{te:DE}{ys:List Str}{Ε:List Nat}(b:Bool)(S:Ν X scope xs ys Ε)(hi:JK X R tg iter ti)(hg:∀C s H fp,PG (Cx.comp X (xs++ys) scope C s H fp) tg gg)(gd:GD X.K gg g)(hk:sQ xs.length gg)(ht:∀C s H fp,VR (Cx.comp X (xs++ys) scope C s H fp) cs tc)(he:∀C s H fp,JE (Cx.comp X (xs++ys) scope C s H fp) (λ_=>E0) elt te)(hc:X.calm=true)(hs:∀x,foldedSetIterable iter X.env x=pure x)
include S hi hg gd hk ht he hc hs
theorem QM{t:DE}(e:∀ρ M q x,t ρ M q x->ti ρ M (Kd b g tc te (List.replicate xs.length none++lV Ε ρ) q) x):JE X R (.ListComp elt [⟨tg,iter,cs,0⟩] scope pos) t:=
 .of (FQ (tc:=Cq X.K (λ_=>E0) tc) (te:=qi X.K (λ_=>E0) te) S hc hi hg hk ht he hs) λσ H G L ρ M q x rl n h hx=>⟨G,L,ρ,M,_,x,rl,n,e _ _ _ _ h,hx,λJ H1 ⟨xs,ok,G1,L1,M1,e1,r1,y,hz,h1⟩ D hD=>v8 gd r1 (n.mono e1) y hD hz h1 λG2 L2 M2 H2 ds vs e2 r2 g2 l2 h2 n2 k=>Fin.back e1 (AZ e2 r2 hD g2 l2 h2 n2 k)⟩
theorem Qo{i:Nat}{y:Str}{py ie:Pos}(hN:X.N.Nodup)(EL:X.N[i]? =some y)(hy:Loc X.env.scope y)(Fz:swapsWith (.ListComp elt [⟨tg,iter,cs,0⟩] scope pos) (some (.Name y py)) ie.line X.env=pure true)(hf:X.fn y=true\/X.env.scope.names.lookup y=some .local){t:DE}(e:∀ρ M q x,t ρ M q x->ti ρ M (Kd b g tc te (List.replicate xs.length none++lV Ε ρ) q) x):
  JS X R (.Assign [.Name y py] (.ListComp elt [⟨tg,iter,cs,0⟩] scope pos) ie) (xM i t):= .of (wB (tc:=Cq X.K (λ_=>E0) tc) (te:=qi X.K (λ_=>E0) te) hN EL hy S hc hi hg hk ht he Fz hs hf) λσ H G L ρ M Dn rl n h hx=>by
 refine ⟨G,L,ρ,M,_,_,rl,n,e _ _ _ _ h,hx,λJ H1 ⟨xs,ok,G1,L1,M1,e1,r1,y,hz,h1⟩ D hD=>v8 gd r1 (n.mono e1) y hD hz h1 λG2 L2 M2 H2 ds vs e2 r2 g2 l2 h2 n2 k=> ?_⟩;obtain ⟨d,G3,L3,M3,e3,r3,n3,h3⟩:=AZ (q:=λd M=>Dn.nx (ρ.set i (some d)) M) e2 r2 hD g2 l2 h2 n2 k;exact ⟨_,G3,L3,M3,e1.trans e3,r3,((n.mono e1).mono e3).set i n3,h3⟩
end
def pd(te:DE)(cs:En):List Dt->List Dt->Ms->(List Dt->Ms->Prop)->Prop
 | [],Ο,M,k=>k Ο M
 | x::xs,Ο,M,k=>te (some x::cs) M (λd M1=>pd te cs xs (Ο++[d]) M1 k) gT
def Ad(ti:DA)(te:DE)(Ε:List Nat):DE:=λρ M q x=>ti ρ M (λxs M1=>xs.length<=sizeLine/\pd te (lV Ε ρ) xs [] M1 (λys M2=>q (.lst ys) M2)) x
def EI(ti:DA)(te:DE)(Ε:List Nat):DE:=λρ M q x=>ti ρ M (λxs M1=>xs.length<=sizeLine/\pd te (lV Ε ρ) xs [] M1 (λys M2=>q (.loc M2.length) (M2++[.lst ys]))) x
theorem oi{te:DE}{cs:En}:∀xs,pd te cs xs=gY (gN 0) pk te (none::cs) (λ_=>True) xs
 | []=>funext λΟ=>funext λM=>funext λk=>(true_and _).symm
 | x::xs=>funext λΟ=>funext λM=>funext λk=>by show te (some x::cs) M (λd M1=>pd te cs xs (Ο++[d]) M1 k) gT=(True/\te (some x::cs) M (λd M1=>gY (gN 0) pk te (none::cs) (λ_=>True) xs (Ο++[d]) M1 k) gT);rw [oi xs,true_and]
section
variable{X:Cx}{R:St->XK}{elt iter:Expr}{x:Str}{px:Pos}{scope:Scope}{pos:Pos}{ti:DA}{te:DE}{ys:List Str}{Ε:List Nat}
theorem mD(S:Ν X scope [x] ys Ε)(hi:JI X R (.Name x px) iter ti)(he:∀C s H fp,JE (Cx.comp X (x::ys) scope C s H fp) (λ_=>E0) elt te)(hc:X.calm=true:=by rfl)(hs:∀x,foldedSetIterable iter X.env x=pure x:=by intro _;rfl):JE X R (.ListComp elt [⟨.Name x px,iter,[],0⟩] scope pos) (Ad ti te Ε):=QM false S (Ak hi) (cL S (i:=0) rfl) bS (cn (Nat.zero_lt_succ 0)) (λ_ _ _ _=>e_) he hc hs λρ M q x h=>by unfold Ad at h;simp only [oi] at h;exact h
theorem GO(S:Ν X scope [x] ys Ε)(hi:JI X R (.Name x px) iter ti)(he:∀C s H fp,JE (Cx.comp X (x::ys) scope C s H fp) (λ_=>E0) elt te)(hc:X.calm=true:=by rfl)(hs:∀x,foldedSetIterable iter X.env x=pure x:=by intro _;rfl):JE X R (.ListComp elt [⟨.Name x px,iter,[],0⟩] scope pos) (EI ti te Ε):=QM true S (Ak hi) (cL S (i:=0) rfl) bS (cn (Nat.zero_lt_succ 0)) (λ_ _ _ _=>e_) he hc hs λρ M q x h=>by unfold EI at h;simp only [oi] at h;exact h
theorem zt{i:Nat}{y:Str}{py ie:Pos}(hN:X.N.Nodup)(EL:X.N[i]? =some y)(hy:Loc X.env.scope y)(S:Ν X scope [x] ys Ε)(hi:JI X R (.Name x px) iter ti)(he:∀C s H fp,JE (Cx.comp X (x::ys) scope C s H fp) (λ_=>E0) elt te)(hc:X.calm=true:=by rfl)(Fz:swapsWith (.ListComp elt [⟨.Name x px,iter,[],0⟩] scope pos) (some (.Name y py)) ie.line X.env=pure true:=by rfl)(hs:∀x,foldedSetIterable iter X.env x=pure x:=by intro _;rfl)(hf:X.fn y=true\/X.env.scope.names.lookup y=some .local:=by first | exact .inl rfl | exact .inr rfl | assumption):JS X R (.Assign [.Name y py] (.ListComp elt [⟨.Name x px,iter,[],0⟩] scope pos) ie) (xM i (Ad ti te Ε)):=Qo false S (Ak hi) (cL S (i:=0) rfl) bS (cn (Nat.zero_lt_succ 0)) (λ_ _ _ _=>e_) he hc hs hN EL hy Fz hf λρ M q x h=>by unfold Ad at h;simp only [oi] at h;exact h
end
theorem fin_same{K:fI}{G0:Hp}{L0:List Addr}{H0 G:Hp}{L:List Addr}{M:Ms}{H:Hp}{d:Dt}{v:V}{q:DQ}(e:Ex G0 L0 H0 G L H)(r:Rl K G L M H)(n:Den K G L d v)(h:q d M):Fin K G0 L0 H0 q v H:=⟨d,G,L,M,e,r,n,h⟩
theorem ao{K:fI}{G0:Hp}{L0:List Addr}{H0 G:Hp}{L:List Addr}{M:Ms}{H:Hp}{d:Dt}{v:V}{q:DQ}(e:Ex G0 L0 H0 G L H)(r:Rl K G L M H)(h:q d M)(n:Den K G L d v:=by rfl):Fin K G0 L0 H0 q v H:=⟨d,G,L,M,e,r,n,h⟩
def lQ:Dt->Dt->Ms->DQ->Prop
 | .int i, .int j,M,q=>q (.int (i+j)) M
 | .str a, .str b,M,q=>a.length+b.length<=sizeLine/\q (.str (a++b)) M
 | .lst a, .lst b,M,q=>a.length+b.length<=sizeLine/\q (.lst (a++b)) M
 | .tup a, .tup b,M,q=>(a≠[]/\a.length+b.length<=sizeLine)/\q (.tup (a++b)) M
 | _,_,_,_=>False
def Lc:Dt->Dt->Ms->DQ->Prop
 | .int i, .int j,M,q=>q (.int (i - j)) M
 | _,_,_,_=>False
def Lk:Dt->Dt->Ms->DQ->Prop
 | .int i, .int j,M,q=>(iK i/\iK j)/\q (.int (i * j)) M
 | .lst a, .int k,M,q=>(-(2 ^ 63)<=k/\k < 2 ^ 63/\a.length * k.toNat<=sizeLine)/\q (.lst (List.replicate k.toNat a).flatten) M
 | _,_,_,_=>False
def Hr:Dt->Dt->Ms->DQ->Prop
 | .int i, .int j,M,q=>(0 < j/\iK j)/\q (.int (i / j)) M
 | _,_,_,_=>False
def Gm:Dt->Dt->Ms->DQ->Prop
 | .int i, .int j,M,q=>(j≠0/\iK j)/\q (.int (i.fdiv j)) M
 | _,_,_,_=>False
def FN:Dt->Dt->Ms->DQ->Prop
 | .int i, .int j,M,q=>0 < j/\q (.int (i % j)) M
 | _,_,_,_=>False
def MH:Dt->Dt->Ms->DQ->Prop
 | .int i, .int j,M,q=>wU i j/\q (.int (i ^ j.toNat)) M
 | _,_,_,_=>False
def Lo:Dt->Ms->DQ->Prop
 | .int i,M,q=>q (.int (-i)) M
 | _,_,_=>False
section
variable{K:fI}
theorem SU:ka K (λx y H Q=>(∃i j,x=V.int i/\y= .int j/\Q (.int (i+j)) H)\/(∃i j,x=V.str i/\y= .str j/\i.length+j.length<=sizeLine/\Q (.str (i++j)) H)\/MT x y H Q\/JL K x y H Q) lQ:=by
 intro G0 L0 H0 G L M H v1 v2 d1 d2 q e r n1 n2 h;unfold lQ at h;split at h
 ·rename_i i j;exact .inl ⟨i,j,n1,n2,ao e r h⟩
 ·rename_i a b;exact .inr (.inl ⟨a,b,n1,n2,h.1,ao e r h.2⟩)
 ·rename_i a b;obtain ⟨p1,w1,rfl,e1,m1⟩:=n1;obtain ⟨p2,w2,rfl,e2,m2⟩:=n2;refine .inr (.inr (.inl ⟨p1,p2,w1,w2,rfl,rfl,r.sub _ _ e1,r.sub _ _ e2,by rw [<-m1.length,<-m2.length];exact h.1,λp hp=> ?_⟩));exact c_ e r hp (iO r hp (m1.app m2)) h.2
 ·rename_i a b;obtain ⟨p1,w1,rfl,e1,m1⟩:=n1;obtain ⟨p2,w2,rfl,e2,m2⟩:=n2;have ne:w1≠[]:=λz=>h.1.1 (by have:=m1.length;rw [z] at this;exact abt this);refine .inr (.inr (.inr ⟨p1,p2,w1,w2,rfl,rfl, .inl (.inl (r.sub _ _ e1)), .inl (.inl (r.sub _ _ e2)),ne,by rw [<-m1.length,<-m2.length];exact h.1.2,λz=> ?_,λ_ p hp=> ?_⟩))
  ·have hb:b=[]:=by have:=m2.length;rw [z] at this;exact abt this
   subst hb;rw [aaQ] at h;exact fin_same (d:= .tup a) e r ⟨p1,w1,rfl,e1,m1⟩ h.2
  ·exact c_ e r hp (iP r hp (m1.app m2)) h.2
 ·exact h.elim
theorem So:ka K (Ca λi j=> .int (i - j)) Lc:=by
 intro G0 L0 H0 G L M H v1 v2 d1 d2 q e r n1 n2 h;unfold Lc at h;split at h
 ·exact ⟨_,_,n1,n2,ao e r h⟩
 ·exact h.elim
theorem Tt:ka K (λx y H Q=>(rI (λi j=>iK i/\iK j) λi j=> .int (i * j)) x y H Q\/PV x y H Q) Lk:=by
 intro G0 L0 H0 G L M H v1 v2 d1 d2 q e r n1 n2 h;unfold Lk at h;split at h
 ·exact .inl ⟨_,_,n1,n2,h.1,ao e r h.2⟩
 ·rename_i a k;obtain ⟨p1,w1,rfl,e1,m1⟩:=n1;refine .inr ⟨p1,k,w1,rfl,n2,r.sub _ _ e1,h.1.1,h.1.2.1,by rw [<-m1.length];exact h.1.2.2,λp hp=> ?_⟩;exact c_ e r hp (iO r hp (.of (A6 m1.pair k.toNat))) h.2
 ·exact h.elim
theorem S4:ka K (rI (λ_ j=>j≠0/\iK j) λi j=> .int (i.fdiv j)) Hr:=by
 intro G0 L0 H0 G L M H v1 v2 d1 d2 q e r n1 n2 h;unfold Hr at h;split at h
 ·rename_i i j;have h0:=h.1.1;refine ⟨_,_,n1,n2,⟨by omega,h.1.2⟩,fin_same (d:= .int (i.fdiv j)) e r rfl ?_⟩;rw [aby i (aaR h0)];exact h.2
 ·exact h.elim
theorem P5:ka K (rI (λ_ j=>j≠0/\iK j) λi j=> .int (i.fdiv j)) Gm:=by
 intro G0 L0 H0 G L M H v1 v2 d1 d2 q e r n1 n2 h;unfold Gm at h;split at h
 ·exact ⟨_,_,n1,n2,h.1,ao e r h.2⟩
 ·exact h.elim
theorem RH:ka K (rI (λ_ j=>0 < j) λi j=> .int (i % j)) FN:=by
 intro G0 L0 H0 G L M H v1 v2 d1 d2 q e r n1 n2 h;unfold FN at h;split at h
 ·exact ⟨_,_,n1,n2,h.1,ao e r h.2⟩
 ·exact h.elim
theorem UM:ka K (rI wU λi j=> .int (i ^ j.toNat)) MH:=by
 intro G0 L0 H0 G L M H v1 v2 d1 d2 q e r n1 n2 h;unfold MH at h;split at h
 ·exact ⟨_,_,n1,n2,h.1,ao e r h.2⟩
 ·exact h.elim
theorem jh:Sd K (rU λi=> .int (-i)) Lo:=by
 intro G0 L0 H0 G L M H v1 d1 q e r n1 h;unfold Lo at h;split at h
 ·exact ⟨_,n1,ao e r h⟩
 ·exact h.elim
end
section
variable{X:Cx}{R:St->XK}{a b c:Expr}{ta tb:DE}{pos:Pos}
theorem Χ(ja:JE X R a ta)(jb:JE X R b tb):JE X R (.BinOp a .Add b pos) (dw lQ ta tb):=va (KG.or (yU.or (DB.or IL))) SU ja jb
theorem rM(ja:JE X R a ta)(jb:JE X R b tb):JE X R (.BinOp a .Sub b pos) (dw Lc ta tb):=va Mq So ja jb
theorem fZ(ja:JE X R a ta)(jb:JE X R b tb):JE X R (.BinOp a .Mult b pos) (dw Lk ta tb):=va (IY.or Mc) Tt ja jb
theorem aX(ja:JE X R a ta)(jb:JE X R b tb):JE X R (.BinOp a .FloorDiv b pos) (dw Hr ta tb):=va wt S4 ja jb
theorem Gi(ja:JE X R a ta)(jb:JE X R b tb):JE X R (.BinOp a .FloorDiv b pos) (dw Gm ta tb):=va wt P5 ja jb
theorem aq(ja:JE X R a ta)(jb:JE X R b tb):JE X R (.BinOp a .Mod b pos) (dw FN ta tb):=va Lu RH ja jb
theorem ig(ja:JE X R a ta)(jb:JE X R b tb):JE X R (.BinOp a .Pow b pos) (dw MH ta tb):=va MZ UM ja jb
theorem Dj(ja:JE X R a ta):JE X R (.UnaryOp .USub a pos) (PN Lo ta):=Rg MR jh ja
end
def QT:Dt->Dt->Ms->DQ->Prop
 | .int i, .int j,M,q=>q (.bl (decide (i < j))) M
 | _,_,_,_=>False
def Tc:Dt->Dt->Ms->DQ->Prop
 | .int i, .int j,M,q=>q (.bl (decide (i<=j))) M
 | _,_,_,_=>False
def UE:Dt->Dt->Ms->DQ->Prop
 | .int i, .int j,M,q=>q (.bl (decide (j < i))) M
 | _,_,_,_=>False
def Si:Dt->Dt->Ms->DQ->Prop
 | .int i, .int j,M,q=>q (.bl (decide (j<=i))) M
 | _,_,_,_=>False
def xh:Dt->Option V
 | .bw=>some .bw
 | .bl b=>some (.bl b)
 | .int i=>some (.int i)
 | .str x=>some (.str x)
 | _=>none
def eJ:List Dt->Option (List V)
 | []=>some []
 | d::ds=>match xh d,eJ ds with
  | some v,some vs=>some (v::vs)
  | _,_=>none
section
variable{K:fI}{G:Hp}{L:List Addr}
theorem pS{d:Dt}{v u:V}(h:xh d=some u)(n:Den K G L d v):v=u/\dG u=true:=by cases d <;> first | (cases h;exact ⟨n,rfl⟩) | cases h
theorem cQ:∀{ds:List Dt} {vs us:List V},eJ ds=some us->Ι K G L ds vs->vs=us/\us.all dG=true
 | [],vs,us,h,n=>by cases h;exact ⟨n,rfl⟩
 | d::ds,_,us,h,⟨v,r,e,n1,n2⟩=>by
  subst e;unfold eJ at h;split at h
  ·rename_i u1 u2 h1 h2;cases h;obtain ⟨a1,a2⟩:=pS h1 n1;obtain ⟨b1,b2⟩:=cQ h2 n2;subst a1 b1;exact ⟨rfl,by rw [abr,a2,b2];rfl⟩
  ·cases h
end
def IG:Dt->Dt->Ms->DQ->Prop
 | .int i, .int j,M,q=>q (.bl (decide (i=j))) M
 | .str i, .str j,M,q=>q (.bl (decide (i=j))) M
 | .bl i, .bl j,M,q=>q (.bl (decide (i=j))) M
 | .tup a, .tup b,M,q=>match eJ a,eJ b with
  | some us,some vs=>q (.bl (lU us vs)) M
  | _,_=>False
 | _,_,_,_=>False
def KO:Dt->Dt->Ms->DQ->Prop
 | .int i, .int j,M,q=>q (.bl (!decide (i=j))) M
 | .str i, .str j,M,q=>q (.bl (!decide (i=j))) M
 | .bl i, .bl j,M,q=>q (.bl (!decide (i=j))) M
 | .tup a, .tup b,M,q=>match eJ a,eJ b with
  | some us,some vs=>q (.bl (!lU us vs)) M
  | _,_=>False
 | _,_,_,_=>False
section
variable{K:fI}
theorem VU:ka K (Ca λi j=> .bl (decide (i < j))) QT:=by
 intro G0 L0 H0 G L M H v1 v2 d1 d2 q e r n1 n2 h;unfold QT at h;split at h
 ·exact ⟨_,_,n1,n2,ao e r h⟩
 ·exact h.elim
theorem leD:ka K (Ca λi j=> .bl (decide (i<=j))) Tc:=by
 intro G0 L0 H0 G L M H v1 v2 d1 d2 q e r n1 n2 h;unfold Tc at h;split at h
 ·exact ⟨_,_,n1,n2,ao e r h⟩
 ·exact h.elim
theorem Xp:ka K (Ca λi j=> .bl (decide (j < i))) UE:=by
 intro G0 L0 H0 G L M H v1 v2 d1 d2 q e r n1 n2 h;unfold UE at h;split at h
 ·exact ⟨_,_,n1,n2,ao e r h⟩
 ·exact h.elim
theorem Zl:ka K (Ca λi j=> .bl (decide (j<=i))) Si:=by
 intro G0 L0 H0 G L M H v1 v2 d1 d2 q e r n1 n2 h;unfold Si at h;split at h
 ·exact ⟨_,_,n1,n2,ao e r h⟩
 ·exact h.elim
theorem iF{p q:Prop} [Decidable p] [Decidable q](h:p↔q):decide p=decide q:=decide_eq_decide.mpr h
theorem NM:ka K (λx y H Q=>VH x y H Q\/Po K x y H Q) IG:=by
 intro G0 L0 H0 G L M H v1 v2 d1 d2 q e r n1 n2 h;unfold IG at h;split at h
 ·rename_i i j;cases n1;cases n2;exact .inl ⟨rfl,fin_same (d:= .bl _) e r (by show V.bl _=V.bl _;rw [iF (p:=V.int i=V.int j) (q:=i=j) ⟨λz=>V.int.inj z,λz=>by rw [z]⟩]) h⟩
 ·rename_i i j;cases n1;cases n2;exact .inl ⟨rfl,fin_same (d:= .bl _) e r (by show V.bl _=V.bl _;rw [iF (p:=V.str i=V.str j) (q:=i=j) ⟨λz=>V.str.inj z,λz=>by rw [z]⟩]) h⟩
 ·rename_i i j;cases n1;cases n2;exact .inl ⟨rfl,fin_same (d:= .bl _) e r (by show V.bl _=V.bl _;rw [iF (p:=V.bl i=V.bl j) (q:=i=j) ⟨λz=>V.bl.inj z,λz=>by rw [z]⟩]) h⟩
 ·rename_i a b;obtain ⟨p1,w1,rfl,e1,m1⟩:=n1;obtain ⟨p2,w2,rfl,e2,m2⟩:=n2;split at h
  ·rename_i us vs h1 h2;obtain ⟨rfl,a2⟩:=cQ h1 m1;obtain ⟨rfl,b2⟩:=cQ h2 m2;exact .inr ⟨p1,p2,_,_,rfl,rfl, .inl (.inl (r.sub _ _ e1)), .inl (.inl (r.sub _ _ e2)),a2,b2,ao e r h⟩
  ·exact h.elim
 ·exact h.elim
theorem T_:ka K (λx y H Q=>VJ x y H Q\/OV K x y H Q) KO:=by
 intro G0 L0 H0 G L M H v1 v2 d1 d2 q e r n1 n2 h;unfold KO at h;split at h
 ·rename_i i j;cases n1;cases n2;exact .inl ⟨rfl,fin_same (d:= .bl _) e r (by show V.bl _=V.bl _;rw [iF (p:=V.int i=V.int j) (q:=i=j) ⟨λz=>V.int.inj z,λz=>by rw [z]⟩]) h⟩
 ·rename_i i j;cases n1;cases n2;exact .inl ⟨rfl,fin_same (d:= .bl _) e r (by show V.bl _=V.bl _;rw [iF (p:=V.str i=V.str j) (q:=i=j) ⟨λz=>V.str.inj z,λz=>by rw [z]⟩]) h⟩
 ·rename_i i j;cases n1;cases n2;exact .inl ⟨rfl,fin_same (d:= .bl _) e r (by show V.bl _=V.bl _;rw [iF (p:=V.bl i=V.bl j) (q:=i=j) ⟨λz=>V.bl.inj z,λz=>by rw [z]⟩]) h⟩
 ·rename_i a b;obtain ⟨p1,w1,rfl,e1,m1⟩:=n1;obtain ⟨p2,w2,rfl,e2,m2⟩:=n2;split at h
  ·rename_i us vs h1 h2;obtain ⟨rfl,a2⟩:=cQ h1 m1;obtain ⟨rfl,b2⟩:=cQ h2 m2;exact .inr ⟨p1,p2,_,_,rfl,rfl, .inl (.inl (r.sub _ _ e1)), .inl (.inl (r.sub _ _ e2)),a2,b2,ao e r h⟩
  ·exact h.elim
 ·exact h.elim
end
section
variable{X:Cx}{R:St->XK}{a b c:Expr}{ta tb:DE}{pos:Pos}
theorem NC(ja:JE X R a ta)(jb:JE X R b tb):JE X R (.Compare a [.Lt] [b] pos) (dw QT ta tb):=xm JG VU ja jb (gk _)
theorem tQ(ja:JE X R a ta)(jb:JE X R b tb):JE X R (.Compare a [.LtE] [b] pos) (dw Tc ta tb):=xm OT leD ja jb (gk _)
theorem LM{k:Nat}(hr:bx k X.A)(ja:JE X R a ta)(jb:JE X R b tb):JE X R (.Compare a [.Eq] [b] pos) (dw IG ta tb):=xm (JQ.or (E2 hr.yg)) NM ja jb (gk _)
theorem kK(ja:JE X R a ta)(jb:JE X R b tb):JT X R (.Compare a [.Lt] [b] pos) (kx (dw QT ta tb)):=eU JG VU ja jb (gk _)
theorem wN(ja:JE X R a ta)(jb:JE X R b tb):JT X R (.Compare a [.Gt] [b] pos) (kx (dw UE ta tb)):=eU Ol Xp ja jb (gk _)
theorem P4(ja:JE X R a ta)(jb:JE X R b tb):JT X R (.Compare a [.GtE] [b] pos) (kx (dw Si ta tb)):=eU NS Zl ja jb (gk _)
theorem bC{k:Nat}(hr:bx k X.A)(ja:JE X R a ta)(jb:JE X R b tb):JT X R (.Compare a [.Eq] [b] pos) (kx (dw IG ta tb)):=eU (JQ.or (E2 hr.yg)) NM ja jb (gk _)
theorem m7{k:Nat}(hr:bx k X.A)(ja:JE X R a ta)(jb:JE X R b tb):JT X R (.Compare a [.NotEq] [b] pos) (kx (dw KO ta tb)):=eU (OQ.or (MP hr.yg)) T_ ja jb (gk _)
end
def lF(M:Ms):Dt->Option (List Dt)
 | .lst xs=>some xs
 | .tup xs=>some xs
 | .nF ns=>some (ns.map .int)
 | .kt xs=>some xs
 | .loc k=>match M[k]? with
  | some (.lst xs)=>some xs
  | _=>none
 | _=>none
theorem km{K:fI}{G:Hp}{L:List Addr}{M:Ms}{H:Hp}{d:Dt}{v:V}{xs:List Dt}(r:Rl K G L M H)(n:Den K G L d v)(h:lF M d=some xs):∃a vs,v= .ref a/\(fc K H a vs\/j0 K H a vs)/\Ι K G L xs vs:=by
 cases d with
 | lst ds=>cases h;obtain ⟨a,vs,rfl,e,m⟩:=n;exact ⟨a,vs,rfl, .inl (.of (r.sub _ _ e)),m⟩
 | tup ds=>cases h;obtain ⟨a,vs,rfl,e,m⟩:=n;exact ⟨a,vs,rfl, .inr (.of (r.sub _ _ e)),m⟩
 | kt ds=>cases h;obtain ⟨a,vs,rfl,e,m⟩:=n;exact ⟨a,vs,rfl, .inr (r.sub.LH e),m⟩
 | nF ns=>cases h;obtain ⟨a,rfl,e⟩:=n;exact ⟨a,_,rfl, .inl (r.sub.seq e),d4⟩
 | loc k=>
  obtain ⟨a,rfl,e⟩:=n;have h:(match M[k]? with | some (.lst xs)=>some xs | _=>none)=some xs:=h;split at h
  ·rename_i ys hm;cases h;obtain ⟨_,vs,e1,m1⟩:=r.gW k a _ e hm;exact ⟨a,vs,rfl, .inl (.of e1),m1⟩
  ·cases h
 | _=>cases h
theorem HB{K:fI}{G:Hp}{L:List Addr}{ds:List Dt}{vs:List V}{i:Int}{d:Dt}(n:Ι K G L ds vs)(h:gP ds i=some d):∃v,gP vs i=some v/\Den K G L d v:=by
 unfold gP at h⊢;rw [<-n.length];cases q:GH ds.length i with
 | none=>rw [q] at h;cases h
 | some j=>
  rw [q] at h;obtain ⟨v,e,m⟩:=n.get h;exact ⟨v,e,m⟩
def ck:Dt->Dt->Ms->DQ->Prop
 | .str z, .int i,M,q=>z.length<=sizeLine/\match gP z.cps.toList i with
  | some c=>q (.str ⟨#[c]⟩) M
  | none=>False
 | d, .int i,M,q=>match lF M d with
  | some xs=>(match gP xs i with
   | some y=>q y M
   | none=>False)
  | none=>False
 | _,_,_,_=>False
def wH:List Dt->Ms->DQ->Prop
 | [.str z],M,q=>z.length<=sizeLine/\q (.int z.length) M
 | [d],M,q=>match lF M d with
  | some xs=>q (.int xs.length) M
  | none=>False
 | _,_,_=>False
section
variable{K:fI}
theorem WZ:ka K (Vp K) ck:=by
 intro G0 L0 H0 G L M H v1 v2 d1 d2 q e r n1 n2 h;unfold ck at h;split at h
 ·rename_i z i;split at h
  ·rename_i c hc;exact .inr (.inr ⟨z,i,c,n1,n2,h.1,hc,ao e r h.2⟩)
  ·exact h.2.elim
 ·rename_i d i _;split at h
  ·rename_i xs hx;split at h
   ·rename_i y hy;obtain ⟨a,vs,rfl,hs,m⟩:=km r n1 hx;obtain ⟨v,e1,m1⟩:=HB m hy;rcases hs with hs | hs
    ·exact .inl ⟨a,vs,i,v,rfl,n2,hs,e1,fin_same e r m1 h⟩
    ·exact .inr (.inl ⟨a,vs,i,v,rfl,n2,hs,e1,fin_same e r m1 h⟩)
   ·exact h.elim
  ·exact h.elim
 ·exact h.elim
theorem TV:AB K (λxs H Q=>(∃z,xs=[V.str z]/\z.length<=sizeLine/\Q (.int z.length) H)\/(∃p ys,xs=[V.ref p]/\(fc K H p ys\/j0 K H p ys)/\Q (.int ys.length) H)) wH:=by
 intro G0 L0 H0 G L M H vs ds q e r n h;unfold wH at h;split at h
 ·rename_i z;obtain ⟨v,rfl,n1⟩:=ax n;cases n1;exact .inl ⟨z,rfl,h.1,ao e r h.2⟩
 ·rename_i d _;obtain ⟨v,rfl,n1⟩:=ax n;split at h
  ·rename_i xs hx;obtain ⟨a,ws,rfl,hs,m⟩:=km r n1 hx;exact .inr ⟨a,ws,rfl,hs,fin_same (d:= .int xs.length) e r (by show V.int _=V.int _;rw [m.length]) h⟩
  ·exact h.elim
 ·exact h.elim
end
section
variable{X:Cx}{R:St->XK}{a b c:Expr}{ta tb:DE}{pos:Pos}
theorem Α(ja:JE X R a ta)(jb:JE X R b tb)(hs:tL b:=by exact λ_ _=>rfl):JE X R (.Subscript a b pos) (dw ck ta tb):=Pb Lr WZ ja jb hs
variable{x:Str}{p:Pos}{e:Expr}{es:List Expr}{t:DA}{id T:String}{r:List V->Hp->VK->Prop}{f:List Dt->Ms->DQ->Prop}
theorem gD(hc:b9 X (.builtin id) r)(cd:AB X.K r f)(hm:X.mg x=none)(hv:bootBuiltins x=some (.builtin id))(ha:JA X R (e::es) t)(hg:Gl X x:=by rfl)(hn:x≠"__name__":=by decide)(gQ:(x==("__debug__":Str))=false:=by decide)
  (he:starEach (e::es) X.env=(false,eval e X.env)::starEach es X.env:=by rfl) (dj:(backTo pos (starEach es X.env)).any (·.1)=false:=by rfl):JE X R (.Call (.Name x p) (e::es) [] pos) (x8 f t):=
 .of (Ei hc hg hm hv ha hn gQ he dj) λσ H G L ρ M q x r n h hx=>JU cd r n h hx
theorem j7(hc:b9 X (.type T) r)(cd:AB X.K r f)(hm:X.mg x=none)(hv:bootBuiltins x=some (.type T))(ha:JA X R (e::es) t)(hg:Gl X x:=by rfl)(hn:x≠"__name__":=by decide)(gQ:(x==("__debug__":Str))=false:=by decide)
  (he:starEach (e::es) X.env=(false,eval e X.env)::starEach es X.env:=by rfl) (dj:(backTo pos (starEach es X.env)).any (·.1)=false:=by rfl):JE X R (.Call (.Name x p) (e::es) [] pos) (x8 f t):=
 .of (Cw hc hg hm hv ha hn gQ he dj) λσ H G L ρ M q x r n h hx=>JU cd r n h hx
theorem cP(hm:X.mg "len"=none)(ha:JA X R [e] t)(he:starEach [e] X.env=(false,eval e X.env)::starEach [] X.env:=by rfl)(dj:(backTo pos (starEach [] X.env)).any (·.1)=false:=by rfl)(hg:Gl X "len":=by rfl):JE X R (.Call (.Name "len" p) [e] [] pos) (x8 wH t):=
 gD (u3.or uN) TV hm PySem.boot_len ha hg (by decide) (by decide) he dj
end
section
variable{X:Cx}
def FL:V->List V->Hp->VK->Prop:=λx xs H Q=>∃z y,x= .str z/\xs=[.str y]/\(y.length==0)=false/\z.length+2<=sizeLine/\∀p,H p=none->Q (.ref p) (upd H p (.lst ((Txt.split z y).map V.str)))
theorem mf:∀(l:List (Str×Tok)),Φ ((l.map (·.1)).map V.str) (strValues l)
 | []=> .nil
 | p::r=> .cons ⟨p.2,rfl⟩ (mf r)
theorem vn(x y:Str)(h:x.length+2<=sizeLine):(Txt.split x y).length<=sizeLine:=by
 unfold Txt.split;split
 ·exact Nat.le_trans (by simp) (Nat.le_trans (Nat.le_add_left 2 x.length) h)
 ·split
  ·exact Nat.le_trans (by simp) (Nat.le_trans (Nat.le_add_left 2 x.length) h)
  ·have e1:=StrLaws.occ_length_le x y 0 x.length (x.length+1);rw [length_partsBetween];omega
theorem Ea:Mp X "str.split" FL:=by
 intro γ s σ H x xs v us Q I rx rs h;obtain ⟨z,y,rfl,rfl,hy,hz,q⟩:=h;obtain ⟨t,rfl⟩:=rx;obtain ⟨w,rfl,u,rfl⟩:=eW rs
 have fin:∀(l:List (Str×Tok)) (tk:Nat),l.map (·.1)=Txt.split z y->EP X γ σ Q (.ref s.heap.objs.size) {s with heap:=s.heap.push {cls:= .type "list",data:= .seq (strValues l).toArray},toks:=tk}:=λl tk e=>
  ⟨.ref _,_,I.Ft (t':=tk) (ys:=(Txt.split z y).map V.str) (by rw [<-e];exact mf l) (by rw [aaa];exact vn z y hz),rfl,q _ I.fresh⟩
 have hn:(Builtin.Str.partsBetween z (Builtin.Str.occurrences z y 0 z.length (z.length+1)) y.length).length<=sizeLine:=by have e1:=StrLaws.occ_length_le z y 0 z.length (z.length+1);rw [length_partsBetween];omega
 cases h1:(decide (z.length < y.length) || decide (Builtin.Str.strKind z < Builtin.Str.strKind y))
 ·cases hf:(Builtin.Str.occurrences z y 0 z.length (z.length+1)).isEmpty
  ·refine call_meets F.slot_str_split (typeIs_str _ _ _) F.entry_str_split (F.args_str_split_2 _ _) (meets_str_split_sep z y t u h1 hy hf (by omega) hn) ?_;show wants _ _ _ {s with toks:=_,heap:=s.heap.push {cls:= .type "list",data:= .seq (strsFrom s.toks (Builtin.Str.partsBetween z (Builtin.Str.occurrences z y 0 z.length (z.length+1)) y.length)).toArray}};rw [strsFrom_eq];exact fin (numbered s.toks _) _ ((numbered_texts _ _).trans ((aaA (ne_true_of_eq_false h1)).trans (aaA (ne_true_of_eq_false hf))).symm)
  ·exact call_meets F.slot_str_split (typeIs_str _ _ _) F.entry_str_split (F.args_str_split_2 _ _) (meets_str_split_not_found z y t u h1 hy hf)
    (fin [(z,t)] s.toks ((aaA (ne_true_of_eq_false h1)).trans (aaD hf)).symm)
 ·exact call_meets F.slot_str_split (typeIs_str _ _ _) F.entry_str_split (F.args_str_split_2 _ _) (meets_str_split_cannot_occur z y t u h1)
   (fin [(z,t)] s.toks (aaD h1).symm)
def AM:V->List V->Hp->VK->Prop:=λx xs H Q=>∃z y,x= .str z/\xs=[.str y]/\Q (.bl (Txt.startswith z y)) H
theorem Bd:Mp X "str.startswith" AM:=by intro γ s σ H x xs v us Q I rx rs h;obtain ⟨z,y,rfl,rfl,q⟩:=h;obtain ⟨t,rfl⟩:=rx;obtain ⟨w,rfl,u,rfl⟩:=eW rs;exact SC.startswith ⟨.bl _,H,I,rfl,q⟩
theorem tN:b9 X (.type "int") (λxs H Q=>∃x n,xs=[.str x]/\PySem.intText? x=some n/\x.length<=640/\Q (.int n) H):=by intro γ s σ H xs us Q I rs h;obtain ⟨x,n,rfl,hn,hl,q⟩:=h;obtain ⟨w,rfl,u,rfl⟩:=eW rs;exact PySem.W.KIN.call_text hn hl ⟨.int n,H,I.tok _,⟨_,rfl⟩,q⟩
def Q0:V->Option Int->Option Int->Hp->VK->Prop:=λx lo hi H Q=>∃z,x= .str z/\z.length<=sizeLine/\Q (.str (Txt.slice z lo hi)) H
theorem E8:Qz X Q0:=by
 intro γ s σ H x v vl vu lo hi sl Q I rx hs pl pu h;obtain ⟨z,rfl,hz,q⟩:=h;obtain ⟨t,rfl⟩:=rx;refine ⟨"str",_,F.slot_str_getitem.lookup,typeIs_str _ _ _, ?_⟩;have fin:∀(t':Tok) (k:Nat),EP X γ σ Q (.str (Txt.slice z lo hi) t') {s with toks:=k}:=λt' k=>⟨.str _,H,I.tok k,⟨_,rfl⟩,q⟩;cases pl with
 | none=>
  cases pu with
  | none=>exact wpAny_getItem_str_slice (l:=none) (u:=none) (st:=none) hs rfl (post_val_or_str ⟨aaq (Txt.slice_le z _ _) hz,λt' k=>fin t' k⟩)
  | int j uj=>exact wpAny_getItem_str_slice (l:=none) (u:=some (j,uj)) (st:=none) hs rfl (post_val_or_str ⟨aaq (Txt.slice_le z _ _) hz,λt' k=>fin t' k⟩)
 | int i ui=>
  cases pu with
  | none=>exact wpAny_getItem_str_slice (l:=some (i,ui)) (u:=none) (st:=none) hs rfl (post_val_or_str ⟨aaq (Txt.slice_le z _ _) hz,λt' k=>fin t' k⟩)
  | int j uj=>exact wpAny_getItem_str_slice (l:=some (i,ui)) (u:=some (j,uj)) (st:=none) hs rfl (post_val_or_str ⟨aaq (Txt.slice_le z _ _) hz,λt' k=>fin t' k⟩)
end
def UO(ta:TE):TE:=λσ H Q=>ta σ H λx H1=>(∃i,x= .int i/\i.natAbs.log2 < 1920/\Q (.str (toString i)) H1)\/∃z,x= .str z/\z.length<=sizeLine/\Q (.str z) H1
def Ay:List TE->Str->TE
 | [],Ο=>λ_ H Q=>Q (.str Ο) H
 | t::ts,Ο=>λσ H Q=>t σ H λx H1=>∃y,x= .str y/\(Ο++y).length<=sizeLine/\Ay ts (Ο++y) σ H1 Q
section
variable{X:Cx}{a:Expr}{ta:TE}{pos:Pos}
theorem ML(ha:PE X a ta):PE X (.FormattedValue a (-1) none pos) (UO ta):=by
 intro γ s σ H Q I h;refine FormattedValue_plain (aY (ha γ s σ H _ I h) λv s1 ⟨x,H1,I1,r1,q1⟩=> ?_);rcases q1 with ⟨i,rfl,hd,q⟩ | ⟨z,rfl,hz,q⟩
 ·obtain ⟨t,rfl⟩:=r1;exact wpAny_formatField_int hd ⟨.str _,H1,I1.tok _,⟨_,rfl⟩,q⟩
 ·obtain ⟨t,rfl⟩:=r1;exact formatField_str (λt' tk=>⟨.str z,H1,I1.tok tk,⟨_,rfl⟩,q⟩) hz
theorem yy{es:List Expr}{ts:List TE}(h:Paired (PE X) es ts):∀(Ο:Str) (γ:List (Addr×Obj)) (s:Shared) (σ:St) (H:Hp) (Q:VK),Ο.length<=sizeLine->Inv X γ σ H s->Ay ts Ο σ H Q->
  wpAny (model X.prog X.w) X.A (joinParts Ο (evalEach es X.env)) (EP X γ σ Q) X.xe s:=by
 induction h with
 | nil=>
  intro Ο γ s σ H Q hz I q;exact joinParts_nil ⟨.str Ο,H,I.tok _,⟨_,rfl⟩,q⟩ hz
 | cons he _ ih=>
  intro Ο γ s σ H Q hz I q;refine joinParts_cons (aY (he γ s σ H _ I q) λv s1 ⟨x,H1,I1,r1,y,e,VX,q1⟩=> ?_);subst e;obtain ⟨t,rfl⟩:=r1;exact ⟨VX,ih (Ο++y) γ s1 σ H1 Q VX I1 q1⟩
theorem HY{e1 e2:Expr}{es:List Expr}{ts:List TE}(h:Paired (PE X) (e1::e2::es) ts):PE X (.JoinedStr (e1::e2::es) pos) (Ay ts Str.empty):=by intro γ s σ H Q I q;exact JoinedStr_many (yy h Str.empty γ s σ H Q (by decide) I q)
end
def eP:Dt->List Dt->Ms->DQ->Prop
 | .str z,[.str y],M,q=>((y.length==0)=false/\z.length+2<=sizeLine)/\q (.lst ((Txt.split z y).map Dt.str)) M
 | _,_,_,_=>False
def nP:Dt->List Dt->Ms->DQ->Prop
 | .str z,[.str y],M,q=>q (.bl (Txt.startswith z y)) M
 | _,_,_,_=>False
def MM:List Dt->Ms->DQ->Prop
 | [.int i],M,q=>i.natAbs.log2 < 1920/\q (.str (Str.ofString (toString i))) M
 | _,_,_=>False
def FH:List Dt->Ms->DQ->Prop
 | [.int i],M,q=>q (.int i) M
 | [.bl b],M,q=>q (.int (if b then 1 else 0)) M
 | [.str x],M,q=>x.length<=640/\match PySem.intText? x with
  | some n=>q (.int n) M
  | none=>False
 | _,_,_=>False
def Oq:Dt->Ms->DQ->Prop
 | .int i,M,q=>i.natAbs.log2 < 1920/\q (.str (Str.ofString (toString i))) M
 | .str z,M,q=>z.length<=sizeLine/\q (.str z) M
 | _,_,_=>False
def MX:List Dt->Ms->DQ->Prop
 | [.int i],M,q=>q (.int (if i < 0 then -i else i)) M
 | _,_,_=>False
def LR:List Dt->Ms->DQ->Prop
 | [.int i, .int j],M,q=>q (.int (if j < i then j else i)) M
 | _,_,_=>False
def L7:List Dt->Ms->DQ->Prop
 | [d],M,q=>∃bs:List Bool,lF M d=some (bs.map Dt.bl)/\(∀k,d≠ .kt k)/\(∀k,d≠ .tup k)/\q (.bl (bs.any id)) M
 | _,_,_=>False
def Av:Dt->Option Value
 | .bw=>some (.type "NoneType")
 | .bl _=>some (.type "bool")
 | .int _=>some (.type "int")
 | .str _=>some (.type "str")
 | .lst _=>some (.type "list")
 | .tup _=>some (.type "tuple")
 | _=>none
def Ja:Dt->Option Value
 | .ty T=>some (.type T)
 | .ref C=>some (.ref C)
 | _=>none
def Cz(K:fI):List Dt->Ms->DQ->Prop
 | [d,c],M,q=>match Av d,Ja c with
  | some t,some t'=>(match PySem.W.kitOne K t t' with
   | some b=>q (.bl b) M
   | none=>False)
  | _,_=>False
 | _,_,_=>False
def KQ:Dt->Dt->Ms->DQ->Prop
 | .str i, .str j,M,q=>q (.bl (!(Builtin.Str.occurrences j i 0 j.length 1).isEmpty)) M
 | _,_,_,_=>False
def tK:Dt->Dt->Ms->DQ->Prop
 | .str i, .str j,M,q=>q (.bl (!(!(Builtin.Str.occurrences j i 0 j.length 1).isEmpty))) M
 | _,_,_,_=>False
section
variable{K:fI}
theorem iJ{G:Hp}{L:List Addr}:∀{l:List Str},Ι K G L (l.map Dt.str) (l.map V.str)
 | []=>rfl
 | _::_=>⟨_,_,rfl,rfl,iJ⟩
theorem kf{G:Hp}{L:List Addr}:∀{bs:List Bool} {vs:List V},Ι K G L (bs.map Dt.bl) vs->vs=bs.map V.bl
 | [],_,h=>h
 | b::bs,_,⟨v,r,e,h1,h2⟩=>by subst e;rw [kf h2,show v=V.bl b from h1];rfl
theorem MA:Ph K "str" FL eP:=by
 intro G0 L0 H0 G L M H v d vs ds q e r n ns h;unfold eP at h;split at h
 ·rename_i z y;obtain ⟨u,rfl,n2⟩:=ax ns;cases n;cases n2;exact ⟨z,y,rfl,rfl,h.1.1,h.1.2,λp hp=>c_ e r hp (iO r hp iJ) h.2⟩
 ·exact h.elim
theorem HV:Ph K "str" AM nP:=by
 intro G0 L0 H0 G L M H v d vs ds q e r n ns h;unfold nP at h;split at h
 ·rename_i z y;obtain ⟨u,rfl,n2⟩:=ax ns;cases n;cases n2;exact ⟨z,y,rfl,rfl,ao e r h⟩
 ·exact h.elim
theorem Tv:AB K (λxs H Q=>∃i,xs=[V.int i]/\i.natAbs.log2 < 1920/\Q (.str (toString i)) H) MM:=by
 intro G0 L0 H0 G L M H vs ds q e r n h;unfold MM at h;split at h
 ·rename_i i;obtain ⟨v,rfl,n1⟩:=ax n;cases n1;exact ⟨i,rfl,h.1,ao e r h.2⟩
 ·exact h.elim
theorem U2:AB K (λxs H Q=>((∃i,xs=[V.int i]/\Q (.int i) H)\/∃k,xs=[V.bl k]/\Q (.int (if k then 1 else 0)) H)\/∃x n,xs=[V.str x]/\PySem.intText? x=some n/\x.length<=640/\Q (.int n) H) FH:=by
 intro G0 L0 H0 G L M H vs ds q e r n h;unfold FH at h;split at h
 ·rename_i i;obtain ⟨v,rfl,n1⟩:=ax n;cases n1;exact .inl (.inl ⟨i,rfl,ao e r h⟩)
 ·rename_i i;obtain ⟨v,rfl,n1⟩:=ax n;cases n1;exact .inl (.inr ⟨i,rfl,ao e r h⟩)
 ·rename_i x;obtain ⟨v,rfl,n1⟩:=ax n;cases n1;split at h
  ·rename_i m hm;exact .inr ⟨x,m,rfl,hm,h.1,ao e r h.2⟩
  ·exact h.2.elim
 ·exact h.elim
theorem SY:AB K (λxs H Q=>∃i,xs=[V.int i]/\Q (.int (if i < 0 then -i else i)) H) MX:=by
 intro G0 L0 H0 G L M H vs ds q e r n h;unfold MX at h;split at h
 ·rename_i i;obtain ⟨v,rfl,n1⟩:=ax n;cases n1;exact ⟨i,rfl,ao e r h⟩
 ·exact h.elim
theorem U3:AB K (λxs H Q=>∃i j,xs=[V.int i, .int j]/\Q (.int (if j < i then j else i)) H) LR:=by
 intro G0 L0 H0 G L M H vs ds q e r n h;unfold LR at h;split at h
 ·rename_i i j;obtain ⟨v,u,rfl,n1,n2⟩:=dk n;cases n1;cases n2;exact ⟨i,j,rfl,ao e r h⟩
 ·exact h.elim
theorem Ur:AB K (N2 K) L7:=by
 intro G0 L0 H0 G L M H vs ds q e r n h;unfold L7 at h;split at h
 ·rename_i d;obtain ⟨bs,hs,nk,nt,h⟩:=h;obtain ⟨v,rfl,n1⟩:=ax n;cases d with
  | lst xs=>
   cases hs;obtain ⟨a,ws,rfl,e1,m⟩:=n1;exact ⟨a,bs,rfl,by rw [<-kf m];exact .of (r.sub _ _ e1),ao e r h⟩
  | loc k=>
   obtain ⟨a,rfl,e1⟩:=n1;have hs:(match M[k]? with | some (.lst xs)=>some xs | _=>none)=some (bs.map Dt.bl):=hs;split at hs
   ·rename_i ys hm;cases hs;obtain ⟨_,ws,e2,m⟩:=r.gW k a _ e1 hm;exact ⟨a,bs,rfl,by rw [<-kf m];exact .of e2,ao e r h⟩
   ·cases hs
  | tup xs=>exact aaG rfl (nt xs)
  | kt xs=>exact aaG rfl (nk xs)
  | nF ns=>
   have e0:ns.map Dt.int=bs.map Dt.bl:=aaw hs;cases ns with
   | nil=>
    cases bs with
    | nil=>obtain ⟨a,rfl,e1⟩:=n1;exact ⟨a,[],rfl,r.sub.seq e1,ao e r h⟩
    | cons _ _=>cases e0
   | cons _ _=>
    cases bs with
    | nil=>cases e0
    | cons _ _=>cases e0
  | _=>cases hs
 ·exact h.elim
theorem CG{G:Hp}{L:List Addr}{M:Ms}{H:Hp}{d:Dt}{v:V}{t:Value}(r:Rl K G L M H)(n:Den K G L d v)(h:Av d=some t):jz K H v t:=by
 cases d with
 | bw=>cases h;cases n;exact .bw
 | bl b=>cases h;cases n;exact .bl _
 | int i=>cases h;cases n;exact .int _
 | str x=>cases h;cases n;exact .str _
 | lst xs=>cases h;obtain ⟨a,ws,rfl,e,_⟩:=n;exact .lst (r.sub _ _ e)
 | tup xs=>cases h;obtain ⟨a,ws,rfl,e,_⟩:=n;exact .tup (r.sub _ _ e)
 | _=>cases h
theorem IJ{G:Hp}{L:List Addr}{d:Dt}{v:V}{t:Value}(n:Den K G L d v)(h:Ja d=some t):II v=some t:=by
 cases d with
 | ty T=>cases n;exact h
 | ref C=>cases n;exact h
 | _=>cases h
theorem Ru:AB K (λxs H Q=>∃x c t t' b,xs=[x,c]/\jz K H x t/\II c=some t'/\PySem.W.kitOne K t t'=some b/\Q (.bl b) H) (Cz K):=by
 intro G0 L0 H0 G L M H vs ds q e r n h;unfold Cz at h;split at h
 ·rename_i d c;obtain ⟨v,u,rfl,n1,n2⟩:=dk n;split at h
  ·rename_i t t' h1 h2;split at h
   ·rename_i b hb;exact ⟨v,u,t,t',b,rfl,CG r n1 h1,IJ n2 h2,hb,ao e r h⟩
   ·exact h.elim
  ·exact h.elim
 ·exact h.elim
theorem SH:ka K (λx y H Q=>∃i j,x=V.str i/\y= .str j/\Q (.bl (!(Builtin.Str.occurrences j i 0 j.length 1).isEmpty)) H) KQ:=by
 intro G0 L0 H0 G L M H v1 v2 d1 d2 q e r n1 n2 h;unfold KQ at h;split at h
 ·exact ⟨_,_,n1,n2,ao e r h⟩
 ·exact h.elim
theorem Hn:ka K (λx y H Q=>∃i j,x=V.str i/\y= .str j/\Q (.bl (!(!(Builtin.Str.occurrences j i 0 j.length 1).isEmpty))) H) tK:=by
 intro G0 L0 H0 G L M H v1 v2 d1 d2 q e r n1 n2 h;unfold tK at h;split at h
 ·exact ⟨_,_,n1,n2,ao e r h⟩
 ·exact h.elim
end
def Fg:List DE->Str->DE
 | [],Ο=>λ_ M q _=>q (.str Ο) M
 | t::ts,Ο=>λρ M q x=>t ρ M (λd M1=>match d with
  | .str y=>(Ο++y).length<=sizeLine/\Fg ts (Ο++y) ρ M1 q x
  | _=>False) x
def El(te:DE)(lo hi:Option DE):DE:=λρ M q x=>te ρ M (λd M1=>match d with
 | .str z=>z.length<=sizeLine/\(match lo,hi with
  | none,none=>q (.str (Txt.slice z none none)) M1
  | some l,none=>l ρ M1 (λdl M2=>match dl with | .int i=>q (.str (Txt.slice z (some i) none)) M2 | _=>False) x
  | none,some u=>u ρ M1 (λdu M2=>match du with | .int j=>q (.str (Txt.slice z none (some j))) M2 | _=>False) x
  | some l,some u=>l ρ M1 (λdl M2=>match dl with | .int i=>u ρ M2 (λdu M3=>match du with | .int j=>q (.str (Txt.slice z (some i) (some j))) M3 | _=>False) x | _=>False) x)
 | _=>False) x
section
variable{X:Cx}{R:St->XK}{o a e e1 e2:Expr}{es:List Expr}{to ta te:DE}{t:DA}{name:Str}{apos af pos p p2:Pos}{T id:String}
theorem oo{r:V->List V->Hp->VK->Prop}{f:Dt->List Dt->Ms->DQ->Prop}(slot:Slot "str" name id)(RD:typeOf (.builtin id)=pure (.type "method_descriptor"))(hm:Mp X id r)(md:Ph X.K "str" r f)(hf:∀d ds M q,f d ds M q->∃z,d= .str z)(ho:JE X R o to)(ha:JA X R (e::es) t)
  (gb:attributeBase o name X.env (eval o X.env)=eval o X.env:=by rfl)
  (mE:((backTo af (starEach (e::es) X.env)).all (λx=> !x.1)&&(backToKw af (keywordEach [] X.env)).all (λx=>x.1.isSome)
   &&decide ((e::es).length+([]:List Keyword).length+(if ([]:List Keyword).isEmpty then 0 else 1) < 30))=true:=by rfl)
  (fR:(apos.endLine==af.line)=true:=by rfl) (hs:starEach (e::es) X.env=(false,eval e X.env)::starEach es X.env:=by rfl) (cY:(backTo af (starEach es X.env)).any (·.1)=false:=by rfl):
  JE X R (.Call (.Attribute o name apos) (e::es) [] af) (λρ M q x=>to ρ M (λd M1=>(∃z,d= .str z)/\t ρ M1 (λds M2=>f d ds M2 q) x) x):=
 .of (JY PySem.F.plainAttrs_str slot RD hm ho ha gb mE fR hs cY) λσ H G L ρ M q x rl n h hx=>by refine ⟨G,L,ρ,M,_,x,rl,n,h,hx,λv H1 ⟨d1,G1,L1,M1,e1,r1,n1,hz,h1⟩=> ?_⟩;obtain ⟨z,rfl⟩:=hz;have Ts:v= .str z:=n1;refine ⟨by rw [Ts];rfl,G1,L1,ρ,M1,_,x,r1,n.mono e1,h1,hx.on e1,λvs H2 ⟨ds,G2,L2,M2,e2,r2,n2,h2⟩=> ?_⟩;exact md G L H G2 L2 M2 H2 v _ vs ds q (e1.trans e2) r2 (Den.mono e2.g e2.l _ _ n1) n2 h2
theorem rS(ha:JE X R a ta):JE X R (.FormattedValue a (-1) none pos) (PN Oq ta):= .of (ML ha) λσ H G L ρ M q x rl n h hx=>by
 refine ⟨G,L,ρ,M,_,x,rl,n,h,hx,λv H1 ⟨d1,G1,L1,M1,e1,r1,n1,h1⟩=> ?_⟩;unfold Oq at h1
 (try dsimp only at h1)
 split at h1
 ·cases n1;exact .inl ⟨_,rfl,h1.1,ao e1 r1 h1.2⟩
 ·cases n1;exact .inr ⟨_,rfl,h1.1,ao e1 r1 h1.2⟩
 ·exact h1.elim
theorem ou:∀{es:List Expr} {ts:List DE},Paired (JE X R) es ts->Paired (PE X) es (ts.map (qi X.K R))
 | _,_, .nil=> .nil
 | _,_, .cons h t=> .cons h (ou t)
theorem zI{K:fI}:∀(ts:List DE) (Ο:Str) (σ:St) (G0:Hp) (L0:List Addr) (H0 G:Hp) (L:List Addr) (M:Ms) (H:Hp) (ρ:En) (q:DQ) (x:DX),Ex G0 L0 H0 G L H->Rl K G L M H->iU K G L ρ σ->Fg ts Ο ρ M q x->qz K G L H R x->Ay (ts.map (qi K R)) Ο σ H (Fin K G0 L0 H0 q)
 | [],Ο,σ,G0,L0,H0,G,L,M,H,ρ,q,x,e,rl,n,h,hx=>ao e rl h
 | t::ts,Ο,σ,G0,L0,H0,G,L,M,H,ρ,q,x,e,rl,n,h,hx=>by
  refine ⟨G,L,ρ,M,_,x,rl,n,h,hx,λv H1 ⟨d1,G1,L1,M1,e1,r1,n1,h1⟩=> ?_⟩
  (try dsimp only at h1)
  split at h1
  ·rename_i y;exact ⟨y,n1,h1.1,zI ts (Ο++y) σ G0 L0 H0 G1 L1 M1 H1 ρ q x (e.trans e1) r1 (n.mono e1) h1.2 (hx.on e1)⟩
  ·exact h1.elim
theorem yj{ts:List DE}(h:Paired (JE X R) (e1::e2::es) ts):JE X R (.JoinedStr (e1::e2::es) pos) (Fg ts Str.empty):=
 .of (HY (ou h)) λσ H G L ρ M q x rl n h hx=>zI ts _ σ G L H G L M H ρ q x (.refl _ _ _) rl n h hx
theorem wJ{l:Expr}{tl:DE}(he:JE X R e te)(hl:JE X R l tl):JE X R (.Subscript e (.Slice (some l) none none p2) pos) (El te (some tl) none):=
 .of (hJ E8 he (iH hl) nV) λσ H G L ρ M q x rl n h hx=>by
  refine ⟨G,L,ρ,M,_,x,rl,n,h,hx,λv H1 ⟨d1,G1,L1,M1,e1,r1,n1,h1⟩=> ?_⟩
  (try dsimp only at h1)
  split at h1
  ·rename_i z;refine ⟨G1,L1,ρ,M1,_,x,r1,n.mono e1,h1.2,hx.on e1,λv2 H2 ⟨d2,G2,L2,M2,e2,r2,n2,h2⟩=> ?_⟩
   (try dsimp only at h2)
   split at h2
   ·rename_i i;exact ⟨i,n2,z,n1,h1.1,ao (e1.trans e2) r2 h2⟩
   ·exact h2.elim
  ·exact h1.elim
theorem Ln{u:Expr}{tu:DE}(he:JE X R e te)(hu:JE X R u tu):JE X R (.Subscript e (.Slice none (some u) none p2) pos) (El te none (some tu)):=
 .of (hJ E8 he nV (iH hu)) λσ H G L ρ M q x rl n h hx=>by
  refine ⟨G,L,ρ,M,_,x,rl,n,h,hx,λv H1 ⟨d1,G1,L1,M1,e1,r1,n1,h1⟩=> ?_⟩
  (try dsimp only at h1)
  split at h1
  ·rename_i z;refine ⟨G1,L1,ρ,M1,_,x,r1,n.mono e1,h1.2,hx.on e1,λv2 H2 ⟨d2,G2,L2,M2,e2,r2,n2,h2⟩=> ?_⟩
   (try dsimp only at h2)
   split at h2
   ·rename_i i;exact ⟨i,n2,z,n1,h1.1,ao (e1.trans e2) r2 h2⟩
   ·exact h2.elim
  ·exact h1.elim
theorem rK:bootBuiltins "str"=some (.type "str"):=by decide+kernel
theorem Ck:bootBuiltins "int"=some (.type "int"):=by decide+kernel
theorem CH:bootBuiltins "abs"=some (.builtin "abs"):=by decide+kernel
theorem BM:bootBuiltins "any"=some (.builtin "any"):=by decide+kernel
theorem Bh:bootBuiltins "min"=some (.builtin "min"):=by decide+kernel
theorem lZ:bootBuiltins "isinstance"=some (.builtin "isinstance"):=by decide+kernel
theorem ni:bootBuiltins "tuple"=some (.type "tuple"):=by decide+kernel
theorem xJ:bootBuiltins "list"=some (.type "list"):=by decide+kernel
theorem Om{x:Str}{T:String}(hm:X.mg x=none)(hv:bootBuiltins x=some (.type T))(hg:Gl X x:=by rfl)(hn:x≠"__name__":=by decide)(hd:(x==("__debug__":Str))=false:=by decide):JE X R (.Name x p) (dC (.ty T)):=IZ (Ik (v:= .ty T) hg hm hv rfl hn hd) λ_ _=>rfl
theorem Mj{x:Str}{C:Addr}(hm:X.mg x=some (.ref C))(hg:Gl X x:=by rfl)(hd:(x==("__debug__":Str))=false:=by decide):JE X R (.Name x p) (dC (.ref C)):=IZ (n6 (v:= .ref C) hg hm rfl hd) λ_ _=>rfl
theorem Fw{x:Str}{z:Str}(hm:∃tk,X.mg x=some (.str z tk))(hg:Gl X x:=by rfl)(hd:(x==("__debug__":Str))=false:=by decide):JE X R (.Name x p) (dC (.str z)):=let ⟨tk,hm⟩:=hm;IZ (n6 (v:= .str z) hg hm ⟨tk,rfl⟩ hd) λ_ _=>rfl
theorem jH{x:Str}{z:Int}(hm:∃tk,X.mg x=some (.int z tk))(hg:Gl X x:=by rfl)(hd:(x==("__debug__":Str))=false:=by decide):JE X R (.Name x p) (dC (.int z)):=let ⟨tk,hm⟩:=hm;IZ (n6 (v:= .int z) hg hm ⟨tk,rfl⟩ hd) λ_ _=>rfl
end
def QE(x:Str):It:=⟨λi _=>i < x.cps.size,λi H v H'=>H'=H/\∃c,x.cps[i]? =some c/\v= .str ⟨#[c]⟩,λi _=>x.cps.size<=i⟩
theorem Cj{P:Program}{w:World}{K:fI}{tg:Expr}(x:Str)(t:Tok)(it:Addr):vq P w K tg (QE x) [it] it (λi h=>h.IsStrIter it "str_ascii_iterator" x t i) where
 mem:=by simp
 obj:=λi h st b hb=>by
  have e:b=it:=by simpa using hb
  subst e;obtain ⟨o,e,c,d⟩:=st;exact ⟨o,e,λv z=>by rw [d] at z;cases z⟩
 keep:=λi h h' st k=>let ⟨o,ho,r⟩:=st;⟨o,k it (by simp) o ho,r⟩
 item:=by intro X hP hw hK hc i γ s σ H E I hf st hg;subst hP hw hK;obtain ⟨f0,f1,f2,f3,f4,f5⟩:=hf it (by simp);have hg:i < x.cps.size:=hg;refine wpAny_pyNext_ascii_item st (c:=x.cps[i]) (by simp [hg]) λh' zK sb=> ?_;have I1:Inv X γ σ H {s with heap:=h',toks:=s.toks+1}:=I.turned (λb o hb e=>(sb.2 b hb).trans e) f0 f1 f3 f4 f5;obtain ⟨o,e,c,d⟩:=id zK;exact ⟨_,rfl,vN (s:={s with heap:=h',toks:=s.toks+1}) e c d (by decide) ⟨.str ⟨#[x.cps[i]]⟩,H,I1,⟨_,rfl⟩,⟨rfl,_,by simp [hg],rfl⟩,zK,λb hb=>(hf b hb).1⟩⟩
 done:=by intro X hP hw hK hc i γ s σ H E I hf st hg;subst hP hw hK;obtain ⟨f0,f1,f2,f3,f4,f5⟩:=hf it (by simp);have hg:x.cps.size<=i:=hg;exact wpAny_pyNext_ascii_end (I.ok.hd hc) st (by simp;omega) λh' eb=>⟨rfl,I.turned (t':=s.toks) (λb o hb e=>eb b o hb e) f0 f1 f3 f4 f5⟩
 self:=λ_ _ _ _ _ st h=>wpAny_pyIter_striter_ascii st h
theorem Bw{P:Program}{w:World}{K:fI}{tg:Expr}(x:Str)(t:Tok)(it:Addr):vq P w K tg (QE x) [it] it (λi h=>h.IsStrIter it "str_iterator" x t i) where
 mem:=by simp
 obj:=λi h st b hb=>by
  have e:b=it:=by simpa using hb
  subst e;obtain ⟨o,e,c,d⟩:=st;exact ⟨o,e,λv z=>by rw [d] at z;cases z⟩
 keep:=λi h h' st k=>let ⟨o,ho,r⟩:=st;⟨o,k it (by simp) o ho,r⟩
 item:=by intro X hP hw hK hc i γ s σ H E I hf st hg;subst hP hw hK;obtain ⟨f0,f1,f2,f3,f4,f5⟩:=hf it (by simp);have hg:i < x.cps.size:=hg;refine wpAny_pyNext_wide_item st (c:=x.cps[i]) (by simp [hg]) λh' zK sb=> ?_;have I1:Inv X γ σ H {s with heap:=h',toks:=s.toks+1}:=I.turned (λb o hb e=>(sb.2 b hb).trans e) f0 f1 f3 f4 f5;obtain ⟨o,e,c,d⟩:=id zK;exact ⟨_,rfl,vN (s:={s with heap:=h',toks:=s.toks+1}) e c d (by decide) ⟨.str ⟨#[x.cps[i]]⟩,H,I1,⟨_,rfl⟩,⟨rfl,_,by simp [hg],rfl⟩,zK,λb hb=>(hf b hb).1⟩⟩
 done:=by intro X hP hw hK hc i γ s σ H E I hf st hg;subst hP hw hK;obtain ⟨f0,f1,f2,f3,f4,f5⟩:=hf it (by simp);have hg:x.cps.size<=i:=hg;exact wpAny_pyNext_wide_end (I.ok.hd hc) st (by simp;omega) λh' eb=>⟨rfl,I.turned (t':=s.toks) (λb o hb e=>eb b o hb e) f0 f1 f3 f4 f5⟩
 self:=λ_ _ _ _ _ st h=>wpAny_pyIter_striter_wide st h
def fk(z:Str):List Dt:=z.cps.toList.map λc=>Dt.str ⟨#[c]⟩
theorem Gg{K:fI}{G:Hp}{L:List Addr}{z:Str}:Yl K (QE z) (fk z) G L where
 go :=λi G1 L1 M1 H1 d g l r e=>by
  unfold fk at e;rw [aaF] at e;cases q:z.cps.toList[i]? with
  | none=>rw [q] at e;cases e
  | some c=>
   rw [q] at e;cases e;have hi:i < z.cps.size:=by have:=(aag.mp q).1;simpa using this
   refine ⟨hi,λv' H' ⟨eH,c',e',y⟩=> ?_⟩;subst eH y;have:c'=c:=by rw [<-Array.getElem?_toList,q] at e';exact (aaw e').symm
   subst this;exact ⟨G1, .refl _ _ _,r,rfl⟩
 stop:=λi G1 L1 M1 H1 g l r e=>by unfold fk at e;show z.cps.size<=i;simpa using e
def Gu(M:Ms):Dt->Option (List Dt)
 | .lst xs=>some xs
 | .tup xs=>some xs
 | .nF ns=>some (ns.map .int)
 | .kt xs=>some xs
 | .str z=>some (fk z)
 | _=>none
def Nw(t:DE):DA:=λρ M q x=>t ρ M (λd M1=>match Gu M1 d with
 | some xs=>q xs M1
 | none=>False) x
section
variable{X:Cx}{R:St->XK}{tg e:Expr}{te:DE}
theorem j3{γ:List (Addr×Obj)}{σ:St}{H:Hp}{s:Shared}{a:Addr}{vs:List V}{Q:It->Hp->Prop}{E:Value->Shared->Prop}(I:Inv X γ σ H s)(hq:fc X.K H a vs)(q:Q (QD X.K a) H):wpAny (model X.prog X.w) X.A (pyIter (.ref a)) (Hy X γ σ tg Q) E s:=by
 obtain ⟨its,rv,p,hz⟩:=I.list hq;refine wpAny_pyIter_list p.isList ?_;refine ⟨s.heap.objs.size,[s.heap.objs.size],_,_,H,rfl,I.kept (t':=s.toks) λb o e=>aaf _ e,Bv a _,⟨_,aaM _ rfl,rfl,rfl⟩,λb hb=> ?_,q⟩;have e:b=s.heap.objs.size:=by simpa using hb
 subst e;exact I.BR (aak _) (I.aC.fresh (aak _))
theorem sS{γ:List (Addr×Obj)}{σ:St}{H:Hp}{s:Shared}{a:Addr}{vs:List V}{Q:It->Hp->Prop}{E:Value->Shared->Prop}(I:Inv X γ σ H s)(hq:j0 X.K H a vs)(q:Q (UN X.K a) H):wpAny (model X.prog X.w) X.A (pyIter (.ref a)) (Hy X γ σ tg Q) E s:=by
 obtain ⟨its,rv,p,hz⟩:=I.tuple hq;refine wpAny_pyIter_tuple (show s.heap.IsTuple a its.toArray from p) ?_;refine ⟨s.heap.objs.size,[s.heap.objs.size],_,_,H,rfl,I.kept (t':=s.toks) λb o e=>aaf _ e,yp a _,⟨_,aaM _ rfl,rfl,rfl⟩,λb hb=> ?_,q⟩;have e:b=s.heap.objs.size:=by simpa using hb
 subst e;exact I.BR (aak _) (I.aC.fresh (aak _))
theorem FK{γ:List (Addr×Obj)}{σ:St}{H:Hp}{s:Shared}{z:Str}{t:Tok}{Q:It->Hp->Prop}{E:Value->Shared->Prop}(I:Inv X γ σ H s)(q:Q (QE z) H):wpAny (model X.prog X.w) X.A (pyIter (.str z t)) (Hy X γ σ tg Q) E s:=by
 have fp:∀b∈[s.heap.objs.size],oR X γ H b:=λb hb=>by
  have e:b=s.heap.objs.size:=by simpa using hb
  subst e;exact I.BR (aak _) (I.aC.fresh (aak _))
 cases ha:z.cps.all (· < 128)
 ·exact wpAny_pyIter_wide ha ⟨s.heap.objs.size,[s.heap.objs.size],_,_,H,rfl,I.kept (t':=s.toks) λb o e=>aaf _ e,Bw z t _,⟨_,aaM _ rfl,rfl,rfl⟩,fp,q⟩
 ·exact wpAny_pyIter_ascii ha ⟨s.heap.objs.size,[s.heap.objs.size],_,_,H,rfl,I.kept (t':=s.toks) λb o e=>aaf _ e,Cj z t _,⟨_,aaM _ rfl,rfl,rfl⟩,fp,q⟩
theorem EG(h:JE X R e te):JI X R tg e (Nw te):=by
 intro γ s σ H Q I ⟨G,L,ρ,M,q,x,rl,n,ht,hx,hQ⟩;refine aY (h γ s σ H (Fin X.K G L H _) I ⟨G,L,ρ,M,_,x,rl,n,ht,hx,λ_ _ f=>f⟩) λu s1 ⟨v,H1,I1,rv,d,G1,L1,M1,e1,r1,n1,h1⟩=> ?_
 (try dsimp only at h1)
 cases hi:Gu M1 d with
 | none=>rw [hi] at h1;exact h1.elim
 | some xs=>
  rw [hi] at h1;have fin:∀J,Yl X.K J xs G1 L1->Q J H1:=λJ y=>hQ J H1 ⟨xs,G1,L1,M1,e1,r1,y,h1⟩;cases d with
  | lst ds=>
   cases hi;obtain ⟨a,vs,rfl,e,m⟩:=n1;cases rv;exact j3 I1 (vs:=vs) (.of (r1.sub _ _ e)) (fin _ (oq (λG' g=> .of (g _ _ e)) m))
  | nF ns=>
   cases hi;obtain ⟨a,rfl,e⟩:=n1;cases rv;exact j3 I1 (r1.sub.seq e) (fin _ (oq (λG' g=>g.seq e) d4))
  | tup ds=>
   cases hi;obtain ⟨a,vs,rfl,e,m⟩:=n1;cases rv;exact sS I1 (vs:=vs) (.of (r1.sub _ _ e)) (fin _ (uv (λG' g=> .of (g _ _ e)) m))
  | kt ds=>
   cases hi;obtain ⟨a,vs,rfl,e,m⟩:=n1;cases rv;exact sS I1 (r1.sub.LH e) (fin _ (uv (λG' g=>g.LH e) m))
  | str z=>
   cases hi;cases n1;obtain ⟨t,rfl⟩:=rv;exact FK I1 (fin _ Gg)
  | _=>cases hi
end
def Mb:DF:=λds _ q _=>∃ns:List Int,ds=[.nF ns]/\ns.length<=63/\∀M',q (.bl true) M'
def w6(K:fI):Sp:=λvs H Q _=>∃(a:Addr) (ns:List Int),vs=[.ref a]/\fc K H a (ns.map V.int)/\ns.length<=63/\∀H',Q (.bl true) H'
theorem KA{P:Program}{w:World}{K:fI}{mg:Str->Option Value}{base:Heap}{k:Nat}{f:Addr}{fd:FuncData}{x:Str}(F:Τ P w K mg base (br P w) k f fd [x] (bK K Mb)):Τ P w K mg base Qc k f fd [x] (w6 K):=by
 have sp:∀vs H Q E,w6 K vs H Q E->bK K Mb vs H Q E0:=by rintro vs H Q E ⟨a,ns,rfl,hS,hl,hQ⟩;refine ⟨H,[],[.nF ns],[],λd _=>d= .bl true,λ_ _ _=>False,⟨.refl _,rfl,List.nodup_nil,λk a m h=>by simp at h⟩,⟨_,_,rfl,⟨a,rfl,hS⟩,rfl⟩,⟨ns,rfl,hl,λ_=>rfl⟩,λv H' ⟨d,G',L',M',_,_,n,e⟩=> ?_,λ_ _ _ _ _ _ _ h=>h.elim⟩;subst e;rw [show v=V.bl true from n];exact hQ H'
 refine ⟨λvs H Q E h=>F.len vs H Q E0 (sp vs H Q E h),λA outer s H args us vs Q E hr he hb hv h=>codeAny_mono (F.run A outer s H args us vs Q E0 hr he hb hv (sp vs H Q E h)) λr s' hq=> ?_⟩;cases r with
 | error e=>
  obtain ⟨_,_,_,_,_,_,_,_,hE⟩:=hq;exact hE.elim
 | ok fl=>cases fl <;> exact hq
def Ml(c:DT)(tb:DS):DS:=λDn ρ M=>∃W:Nat->En->Ms->Prop,(∃m,W m ρ M)/\∀m ρ M,W m ρ M->
 c ρ M (λb M1=>(b=true->∃N:En->Ms->Prop,(∀ρ' M',N ρ' M'->∃m',m' < m/\W m' ρ' M')/\tb {Dn with nx:=N,ct:=N,bk:=Dn.nx} ρ M1)/\(b=false->Dn.nx ρ M1)) Dn.x
def To(i j:Nat)(t:DA):DS:=λDn ρ M=>t ρ M (λds M1=>match ds with
 | [a,b]=>Dn.nx ((ρ.set i (some a)).set j (some b)) M1
 | _=>False) Dn.x
section
variable{X:Cx}{R:St->XK}{c a b:Expr}{body:List Stmt}{tc:DT}{tb:DS}{pos:Pos}
theorem vH(hc:JT X R c tc)(hb:zA X R body tb)(hp:PassesOwn (model X.prog X.w) X.A X.env X.xe:=by first | exact PassesOwn.never | exact PassesOwn.leaving):JS X R (.While c body [] pos) (Ml tc tb):= .of (Fp hp hc hb) λσ H G L ρ M Dn rl n h hx=>by
 obtain ⟨W,⟨m0,w0⟩,turn⟩:=h;refine ⟨λm σ' H'=>dP X.K G L H (W m) σ' H',⟨m0,ρ,G,L,M, .refl _ _ _,rl,n,w0⟩,λm σ' H' ⟨ρ',G',L',M',e',r',n',w'⟩=> ?_⟩;refine ⟨G',L',ρ',M',_,_,r',n',turn m ρ' M' w',hx.on e',λv H1 ⟨G1,L1,M1,e1,r1,h1⟩=> ?_⟩;cases v with
 | true=>
  obtain ⟨N,hN,hb⟩:=h1.1 rfl;refine Bu ⟨dP X.K G L H N,λσ2 H2 ⟨ρ2,G2,L2,M2,e2,r2,n2,h2⟩=> ?_, ?_⟩
  ·obtain ⟨m',hm,w2⟩:=hN ρ2 M2 h2;exact ⟨m',hm,ρ2,G2,L2,M2,e2,r2,n2,w2⟩
  ·have OR:=e'.trans e1;exact ⟨G1,L1,ρ',M1,_,r1,n'.mono e1,hb,hx.on OR,⟨λ_ _ f=>dP.back OR f,λ_ _ f=>Fin.back OR f,λ_ _ f=>dP.back OR f,λ_ _ f=>dP.back OR f⟩⟩
 | false=>exact CA ⟨ρ',G1,L1,M1,e'.trans e1,r1,n'.mono e1,h1.2 rfl⟩
theorem MU{i j:Nat}{x y:Str}{t:DA}{px py pt:Pos}{kt k2 Md}(hN:X.N.Nodup)(hi:X.N[i]? =some x)(hj:X.N[j]? =some y)(ha:JA X R [a,b] t)(Pj:i≠j:=by decide)
  (hx:X.env.scope.names.lookup x=some .local:=by rfl) (hy:X.env.scope.names.lookup y=some .local:=by rfl)
  (hw:swappedStores [.Tuple [.Name x px, .Name y py] kt pt] (.Tuple [a,b] k2 Md) X.env=pure (some [x,y]):=by rfl) (hc:X.calm=true:=by rfl)
  (hs:swapsWithSole [.Tuple [.Name x px, .Name y py] kt pt] (.Tuple [a,b] k2 Md) pos.line X.env=pure false:=by rfl):
  JS X R (.Assign [.Tuple [.Name x px, .Name y py] kt pt] (.Tuple [a,b] k2 Md) pos) (To i j t):= .of (Mo hc hN hi hj Pj hx hy ha hw hs) λσ H G L ρ M Dn rl n h hx=>by
 refine ⟨G,L,ρ,M,_,_,rl,n,h,hx,λvs H1 ⟨ds,G1,L1,M1,e1,r1,n1,h1⟩=> ?_⟩
 (try dsimp only at h1)
 split at h1
 ·obtain ⟨v,u,rfl,m1,m2⟩:=dk n1;exact ⟨v,u,rfl,_,G1,L1,M1,e1,r1,((n.mono e1).set i m1).set j m2,h1⟩
 ·exact h1.elim
end
section
variable{X:Cx}{R:St->XK}{e e2 o:Expr}{es:List Expr}{t:DA}{to ta tb:DE}{a b:Expr}{p pos apos af:Pos}
theorem wV(hm:X.mg "abs"=none)(ha:JA X R [e] t)(he:starEach [e] X.env=(false,eval e X.env)::starEach [] X.env:=by rfl)(dj:(backTo pos (starEach [] X.env)).any (·.1)=false:=by rfl)(hg:Gl X "abs":=by rfl):JE X R (.Call (.Name "abs" p) [e] [] pos) (x8 MX t):=
 gD FO SY hm CH ha hg (by decide) (by decide) he dj
theorem NP(hm:X.mg "min"=none)(ha:JA X R [e,e2] t)(hc:X.calm=true:=by rfl)(he:starEach [e,e2] X.env=(false,eval e X.env)::starEach [e2] X.env:=by rfl)(dj:(backTo pos (starEach [e2] X.env)).any (·.1)=false:=by rfl)(hg:Gl X "min":=by rfl):JE X R (.Call (.Name "min" p) [e,e2] [] pos) (x8 LR t):=
 gD (CJ hc) U3 hm Bh ha hg (by decide) (by decide) he dj
theorem Ki(hm:X.mg "any"=none)(ha:JA X R [e] t)(hc:X.calm=true:=by rfl)(he:starEach [e] X.env=(false,eval e X.env)::starEach [] X.env:=by rfl)(dj:(backTo pos (starEach [] X.env)).any (·.1)=false:=by rfl)(hg:Gl X "any":=by rfl):JE X R (.Call (.Name "any" p) [e] [] pos) (x8 L7 t):=
 gD (FI hc) Ur hm BM ha hg (by decide) (by decide) he dj
theorem Ka(K:fI)(hm:X.mg "isinstance"=none)(ha:JA X R [e,e2] t)(he:starEach [e,e2] X.env=(false,eval e X.env)::starEach [e2] X.env:=by rfl)(dj:(backTo pos (starEach [e2] X.env)).any (·.1)=false:=by rfl)(hg:Gl X "isinstance":=by rfl)(hK:X.K=K:=by rfl):JE X R (.Call (.Name "isinstance" p) [e,e2] [] pos) (x8 (Cz K) t):=by subst hK;exact gD xk Ru hm lZ ha hg (by decide) (by decide) he dj
theorem zT(hm:X.mg "str"=none)(ha:JA X R [e] t)(he:starEach [e] X.env=(false,eval e X.env)::starEach [] X.env:=by rfl)(dj:(backTo pos (starEach [] X.env)).any (·.1)=false:=by rfl)(hg:Gl X "str":=by rfl):JE X R (.Call (.Name "str" p) [e] [] pos) (x8 MM t):=
 j7 vg Tv hm rK ha hg (by decide) (by decide) he dj
theorem Pt(hm:X.mg "int"=none)(ha:JA X R [e] t)(he:starEach [e] X.env=(false,eval e X.env)::starEach [] X.env:=by rfl)(dj:(backTo pos (starEach [] X.env)).any (·.1)=false:=by rfl)(hg:Gl X "int":=by rfl):JE X R (.Call (.Name "int" p) [e] [] pos) (x8 FH t):=
 j7 (Cv.or tN) U2 hm Ck ha hg (by decide) (by decide) he dj
theorem Uz(ja:JE X R a ta)(jb:JE X R b tb)(hm:behindInMarks .In b=false:=by rfl):JE X R (.Compare a [.In] [b] pos) (dw KQ ta tb):=xm Bc SH ja jb hm
theorem Ie(ja:JE X R a ta)(jb:JE X R b tb)(hm:behindInMarks .NotIn b=false:=by rfl):JE X R (.Compare a [.NotIn] [b] pos) (dw tK ta tb):=xm sR Hn ja jb hm
def IF(f:Dt->List Dt->Ms->DQ->Prop)(to:DE)(t:DA):DE:=λρ M q x=>to ρ M (λd M1=>(∃z,d= .str z)/\t ρ M1 (λds M2=>f d ds M2 q) x) x
theorem o8(ho:JE X R o to)(ha:JA X R [e] t)(gb:attributeBase o "startswith" X.env (eval o X.env)=eval o X.env:=by rfl)
  (mE:((backTo af (starEach [e] X.env)).all (λx=> !x.1)&&(backToKw af (keywordEach [] X.env)).all (λx=>x.1.isSome)
   &&decide (([e]:List Expr).length+([]:List Keyword).length+(if ([]:List Keyword).isEmpty then 0 else 1) < 30))=true:=by rfl)
  (fR:(apos.endLine==af.line)=true:=by rfl) (hs:starEach [e] X.env=(false,eval e X.env)::starEach [] X.env:=by rfl) (cY:(backTo af (starEach [] X.env)).any (·.1)=false:=by rfl):
  JE X R (.Call (.Attribute o "startswith" apos) [e] [] af) (IF nP to t):=
 oo PySem.F.slot_str_startswith PySem.F.type_str_startswith Bd HV (λd ds M q h=>by unfold nP at h;split at h <;> first | exact ⟨_,rfl⟩ | exact h.elim) ho ha gb mE fR hs cY
theorem cR(ho:JE X R o to)(ha:JA X R [e] t)(gb:attributeBase o "split" X.env (eval o X.env)=eval o X.env:=by rfl)
  (mE:((backTo af (starEach [e] X.env)).all (λx=> !x.1)&&(backToKw af (keywordEach [] X.env)).all (λx=>x.1.isSome)
   &&decide (([e]:List Expr).length+([]:List Keyword).length+(if ([]:List Keyword).isEmpty then 0 else 1) < 30))=true:=by rfl)
  (fR:(apos.endLine==af.line)=true:=by rfl) (hs:starEach [e] X.env=(false,eval e X.env)::starEach [] X.env:=by rfl) (cY:(backTo af (starEach [] X.env)).any (·.1)=false:=by rfl):
  JE X R (.Call (.Attribute o "split" apos) [e] [] af) (IF eP to t):=
 oo PySem.F.slot_str_split PySem.F.type_str_split Ea MA (λd ds M q h=>by unfold eP at h;split at h <;> first | exact ⟨_,rfl⟩ | exact h.elim) ho ha gb mE fR hs cY
end
theorem fU{te:DE}{cs:En}{f:Dt->Dt}{M:Ms}{k:List Dt->Ms->Prop}:∀(xs Ο:List Dt),(∀x∈xs,∀q:DQ,q (f x) M->te (some x::cs) M q gT)->k (Ο++xs.map f) M->pd te cs xs Ο M k
 | [],Ο,_,h=>by rw [abN,aaQ] at h;exact h
 | x::xs,Ο,ht,h=>ht x List.mem_cons_self _ (fU xs (Ο++[f x]) (λy hy=>ht y (List.mem_cons_of_mem _ hy)) (by simpa using h))
theorem χ{d y:Dt}{xs:List Dt}{i:Int}{M:Ms}{q:DQ}(hs:lF M d=some xs)(h:gP xs i=some y)(k:q y M):ck d (.int i) M q:=by
 cases d with
 | str z=>cases hs
 | _=>
  unfold ck;simp only [hs,h];exact k
theorem Fx{z:Str}{n:Int}{M:Ms}{q:DQ}(hz:z.length<=640)(h:PySem.intText? z=some n)(k:q (.int n) M):FH [.str z] M q:=by show z.length<=640/\(match PySem.intText? z with | some n=>q (.int n) M | none=>False);rw [h];exact ⟨hz,k⟩
theorem dc{d:Dt}{xs:List Dt}{M:Ms}{q:DQ}(hs:lF M d=some xs)(k:q (.int xs.length) M):wH [d] M q:=by
 cases d with
 | str z=>cases hs
 | _=>
  unfold wH;simp only [hs];exact k
theorem AG{K:fI}{d c:Dt}{t t':Value}{b:Bool}{M:Ms}{q:DQ}(h1:Av d=some t)(h2:Ja c=some t')(h3:PySem.W.kitOne K t t'=some b)(k:q (.bl b) M):Cz K [d,c] M q:=by show (match Av d,Ja c with | some t,some t'=>(match PySem.W.kitOne K t t' with | some b=>q (.bl b) M | none=>False) | _,_=>False);rw [h1,h2];show (match PySem.W.kitOne K t t' with | some b=>q (.bl b) M | none=>False);rw [h3];exact k
theorem aT{α:Type}{x:α}{xs:List α}:gP (x::xs) 0=some x:=Ρ (j:=0) rfl
theorem CW(bs:List Bool):(List.range bs.length).all (λi=>bs.getD i false)=bs.all id:=by
 induction bs with
 | nil=>rfl
 | cons b bs ih=>
  rw [aaz,abu,abr,List.all_map,abr,<-ih];rfl
def OY(K:fI):List V->Hp->VK->Prop:=λxs H Q=>∃(p:Addr) (bs:List Bool),xs=[.ref p]/\fc K H p (bs.map V.bl)/\Q (.bl (bs.all id)) H
section
variable{X:Cx}
theorem Eo (hc : X.calm = true) : b9 X (.builtin "all") (OY X.K) := by
  intro γ s σ H xs us Q I r h;obtain ⟨p, bs, rfl, hq, q⟩ := h;obtain ⟨u, rfl, r1⟩ := eW r;cases r1;obtain ⟨its, rv, pl, hz⟩ := I.list hq;have Lx := vd rv;subst Lx;refine call_all_walk (wpAny_pyIter_list pl.isList ?_);have lp : p < s.heap.objs.size := by obtain ⟨o, e, _⟩ := pl.isList; exact aai e
  refine ⟨s.heap.objs.size, _, _, _, _, _, λi => bs.getD i false, rfl, Walks.list (show X.A.in1.handled = none from I.ok.hd hc) s.heap.objs.size p (aaI lp) (bs.map Value.bool).toArray, ⟨⟨_, aaM _ rfl, rfl, rfl⟩, pl.isList.at λo e => aaf _ e⟩, w8, λh' tk hk => ?_⟩;refine ⟨.bl (bs.all id), H, I.kept λb o e => hk b o (λz => by have : b = s.heap.objs.size := (by simpa using z); exact Nat.lt_irrefl _ (this ▸ Heap.lt_size e)) (Heap.get?_push_of_some _ e), ?_, q⟩;rw [aaT, aaa, CW];rfl
end
def KR:List Dt->Ms->DQ->Prop
 | [.lst xs],M,q=>∃bs:List Bool,xs=bs.map Dt.bl/\q (.bl (bs.all id)) M
 | _,_,_=>False
theorem S8{K:fI}:AB K (OY K) KR:=by
 intro G0 L0 H0 G L M H vs ds q e r n h;unfold KR at h;split at h
 ·rename_i xs;obtain ⟨bs,rfl,h⟩:=h;obtain ⟨v,rfl,n1⟩:=ax n;obtain ⟨a,ws,rfl,e1,m⟩:=n1;exact ⟨a,bs,rfl,by rw [<-kf m];exact .of (r.sub _ _ e1),ao e r h⟩
 ·exact h.elim
def JB(i j k:Nat)(t:DE):DS:=λDn ρ M=>t ρ M (λd M1=>match d with
 | .tup [a,b,c]=>Dn.nx (((ρ.set i (some a)).set j (some b)).set k (some c)) M1
 | _=>False) Dn.x
def Jp(i j:Nat)(t:DE):DS:=λDn ρ M=>t ρ M (λd M1=>match d with
 | .tup [a,b]=>Dn.nx ((ρ.set i (some a)).set j (some b)) M1
 | _=>False) Dn.x
section
variable{X:Cx}{R:St->XK}{e o:Expr}{es:List Expr}{t:DA}{to te:DE}{p pos apos af:Pos}
theorem BK:bootBuiltins "all"=some (.builtin "all"):=by decide+kernel
theorem J4(hm:X.mg "all"=none)(ha:JA X R [e] t)(hc:X.calm=true:=by rfl)(he:starEach [e] X.env=(false,eval e X.env)::starEach [] X.env:=by rfl)(dj:(backTo pos (starEach [] X.env)).any (·.1)=false:=by rfl)(hg:Gl X "all":=by rfl):JE X R (.Call (.Name "all" p) [e] [] pos) (x8 KR t):=
 gD (Eo hc) S8 hm BK ha hg (by decide) (by decide) he dj
variable{i j k:Nat}{tg:Expr}
theorem GP(he:JE X R e te)(hg:PG X tg (Bs X.K 3 (gO (dD i) (gO (dD j) (gO (dD k) BF)))))(hs:swapsWithSole [tg] e pos.line X.env=pure false:=by rfl)(hw:swappedStores [tg] e X.env=pure none:=by rfl)
  (h1:(assignEach [tg] X.env).map (·.2)=[assign tg X.env]:=by rfl):JS X R (.Assign [tg] e pos) (JB i j k te):= .of (zm he hg hs hw h1) λσ H G L ρ M Dn rl n h hx=>by
 refine ⟨G,L,ρ,M,_,_,rl,n,h,hx,λv H1 ⟨d1,G1,L1,M1,e1,r1,n1,h1⟩=> ?_⟩
 (try dsimp only at h1)
 split at h1
 ·rename_i a b c;obtain ⟨p,vs,rfl,e,m⟩:=n1;obtain ⟨v1,r',rfl,m1,m'⟩:=m;obtain ⟨v2,v3,rfl,m2,m3⟩:=dk m';exact ⟨p,_,rfl, .inl (.inl (r1.sub _ _ e)),rfl,v1,_,rfl,v2,_,rfl,v3,_,rfl,rfl,_,G1,L1,M1,e1,r1,(((n.mono e1).set i m1).set j m2).set k m3,h1⟩
 ·exact h1.elim
theorem Ij(he:JE X R e te)(hg:PG X tg (Bs X.K 2 (gO (dD i) (gO (dD j) BF))))(hs:swapsWithSole [tg] e pos.line X.env=pure false:=by rfl)(hw:swappedStores [tg] e X.env=pure none:=by rfl)
  (h1:(assignEach [tg] X.env).map (·.2)=[assign tg X.env]:=by rfl):JS X R (.Assign [tg] e pos) (Jp i j te):= .of (zm he hg hs hw h1) λσ H G L ρ M Dn rl n h hx=>by
 refine ⟨G,L,ρ,M,_,_,rl,n,h,hx,λv H1 ⟨d1,G1,L1,M1,e1,r1,n1,h1⟩=> ?_⟩
 (try dsimp only at h1)
 split at h1
 ·rename_i a b;obtain ⟨p,vs,rfl,e,m⟩:=n1;obtain ⟨v1,v2,rfl,m1,m2⟩:=dk m;exact ⟨p,_,rfl, .inl (.inl (r1.sub _ _ e)),rfl,v1,_,rfl,v2,_,rfl,rfl,_,G1,L1,M1,e1,r1,((n.mono e1).set i m1).set j m2,h1⟩
 ·exact h1.elim
end
mutual
def Dt.under(n:Nat):Dt->Prop
 | .bw=>True
 | .bl _=>True
 | .int _=>True
 | .str _=>True
 | .tup ds=>Dt.bD n ds
 | .lst ds=>Dt.bD n ds
 | .obj _ _ ds=>Dt.bD n ds
 | .loc k=>k < n
 | .ref _=>True
 | .ty _=>True
 | .nF _=>True
 | .kt ds=>Dt.bD n ds
 | .exc _ _ ds=>Dt.bD n ds
 | .Nl _ _ _ _ ds=>Dt.bD n ds
def Dt.bD(n:Nat):List Dt->Prop
 | []=>True
 | d::ds=>Dt.under n d/\Dt.bD n ds
end
def MO.under(n:Nat):MO->Prop
 | .lst ds=>Dt.bD n ds
 | .ins _ _ ds=>Dt.bD n ds
 | .dt _ ds=>Dt.bD n ds
 | .raw _=>True
mutual
inductive C3(n:Nat)(E:Ms):Dt->Dt->Prop
 | old {d:Dt} (h:d.under n):C3 n E d d
 | tup {ds es:List Dt} (h:dQ n E ds es):C3 n E (.tup ds) (.tup es)
 | lst {ds es:List Dt} (h:dQ n E ds es):C3 n E (.lst ds) (.lst es)
 | obj {C:Addr} {ns:List Str} {ds es:List Dt} (h:dQ n E ds es):C3 n E (.obj C ns ds) (.obj C ns es)
 | qL {k:Nat} {ds es:List Dt} (hk:n<=k) (e:E[k - n]? =some (.lst ds)) (h:dQ n E ds es):C3 n E (.loc k) (.lst es)
 | OM {k:Nat} {C:Addr} {ns:List Str} {ds es:List Dt} (hk:n<=k) (e:E[k - n]? =some (.ins C ns ds)) (h:dQ n E ds es):C3 n E (.loc k) (.obj C ns es)
inductive dQ(n:Nat)(E:Ms):List Dt->List Dt->Prop
 | nil:dQ n E [] []
 | cons {d e:Dt} {ds es:List Dt} (h:C3 n E d e) (t:dQ n E ds es):dQ n E (d::ds) (e::es)
end
theorem dQ.length{n:Nat}{E:Ms}:∀{ds es:List Dt},dQ n E ds es->ds.length=es.length
 | [],es,h=>by cases h;rfl
 | d::ds,es,h=>by
  cases h with
  | cons h t=>rw [aaz,aaz,dQ.length t]
theorem dQ.old{n:Nat}{E:Ms}:∀{ds:List Dt},Dt.bD n ds->dQ n E ds ds
 | [],_=> .nil
 | _::_,h=> .cons (.old h.1) (dQ.old h.2)
section
variable{K:fI}{G G':Hp}{L0 t:List Addr}{n:Nat}
mutual
theorem sf(hn:L0.length=n)(g:cp G G'):∀(d:Dt) (v:V),d.under n->Den K G (L0++t) d v->Den K G' L0 d v
 | .bw,_,_,h=>h
 | .bl _,_,_,h=>h
 | .int _,_,_,h=>h
 | .str _,_,_,h=>h
 | .tup ds,_,u,⟨a,vs,e,h1,h2⟩=>⟨a,vs,e,g _ _ h1,bj hn g ds vs u h2⟩
 | .lst ds,_,u,⟨a,vs,e,h1,h2⟩=>⟨a,vs,e,g _ _ h1,bj hn g ds vs u h2⟩
 | .obj C ns ds,_,u,⟨a,dx,vs,e,h1,hl,h2⟩=>⟨a,dx,vs,e,g _ _ h1,hl,bj hn g ds vs u h2⟩
 | .loc k,_,u,⟨a,e,h1⟩=>⟨a,e,by
   have u:k < n:=u
   rwa [aau (by rw [hn];exact u)] at h1⟩
 | .ref _,_,_,h=>h
 | .ty _,_,_,h=>h
 | .nF _,_,_,⟨a,e,h1⟩=>⟨a,e,g.seq h1⟩
 | .kt ds,_,u,⟨a,vs,e,h1,h2⟩=>⟨a,vs,e,g.LH h1,bj hn g ds vs u h2⟩
 | .exc _ _ ds,_,u,⟨a,od,vs,e,h1,h2,h3,h4⟩=>⟨a,od,vs,e,g _ _ h1,h2.imp (λz=>z) (λ⟨dx,z1,z2⟩=>⟨dx,z1,g _ _ z2⟩),h3,bj hn g ds vs u h4⟩
 | .Nl _ _ _ _ ds,_,u,⟨vs,e,h2,h3,h4⟩=>⟨vs,e,h2.imp (λz=>z) (λ⟨dx,z1,z2⟩=>⟨dx,z1,g _ _ z2⟩),h3,bj hn g ds vs u h4⟩
theorem bj(hn:L0.length=n)(g:cp G G'):∀(ds:List Dt) (vs:List V),Dt.bD n ds->Ι K G (L0++t) ds vs->Ι K G' L0 ds vs
 | [],_,_,h=>h
 | d::ds,_,u,⟨v,r,e,h1,h2⟩=>⟨v,r,e,sf hn g d v u.1 h1,bj hn g ds r u.2 h2⟩
end
theorem CM{H:Hp}{a:Addr}(hn:L0.length=n)(g:cp G G'){m:MO}(u:m.under n)(h:C4 K G (L0++t) H a m):C4 K G' L0 H a m:=by
 cases m with
 | lst ds=>obtain ⟨vs,e,h⟩:=h;exact ⟨vs,e,bj hn g _ _ u h⟩
 | ins C ns ds=>obtain ⟨dx,vs,e,hl,h⟩:=h;exact ⟨dx,vs,e,hl,bj hn g _ _ u h⟩
 | dt ks ds=>obtain ⟨vs,e,hl,h⟩:=h;exact ⟨vs,e,hl,bj hn g _ _ u h⟩
 | raw u=>exact h
end
open Classical in
noncomputable def nG(G H:Hp)(t:List Addr):Hp:=λb=>if b∈t then H b else G b
theorem z5{G H:Hp}{t:List Addr}{b:Addr}(h:b∈t):nG G H t b=H b:=by unfold nG;rw [if_pos h]
theorem kI{G H:Hp}{t:List Addr}{b:Addr}(h:b∉t):nG G H t b=G b:=by unfold nG;rw [if_neg h]
section
variable{K:fI}{G:Hp}{L0 t:List Addr}{M0 E:Ms}{H:Hp}
theorem fF(r:Rl K G (L0++t) (M0++E) H):cp G (nG G H t):=λb u e=>by
 by_cases hb:b∈t
 ·obtain ⟨_,_,_,_,g,_⟩:=r.uL (a:=b) (aav _ hb);rw [g] at e;cases e
 ·rw [kI hb];exact e
theorem Fq(r:Rl K G (L0++t) (M0++E) H)(hn:L0.length=M0.length){k:Nat}{a:Addr}{m:MO}(hk:M0.length<=k)(e:(L0++t)[k]? =some a)(em:E[k - M0.length]? =some m):nG G H t a=H a/\C4 K G (L0++t) H a m:=by
 have e2:(M0++E)[k]? =some m:=by rw [aaJ hk];exact em
 obtain ⟨_,q⟩:=r.gW k a m e e2;rw [aaJ (by rw [hn];exact hk)] at e;exact ⟨z5 (aaO e),q⟩
theorem G_(r:Rl K G (L0++t) (M0++E) H)(hn:L0.length=M0.length){d d':Dt}(f:C3 M0.length E d d'):∀v,Den K G (L0++t) d v->Den K (nG G H t) L0 d' v:=by
 refine C3.rec (motive_1:=λd d' _=>∀v,Den K G (L0++t) d v->Den K (nG G H t) L0 d' v) (motive_2:=λds es _=>∀vs,Ι K G (L0++t) ds vs->Ι K (nG G H t) L0 es vs) ?_ ?_ ?_ ?_ ?_ ?_ ?_ ?_ f
 ·exact λ{d} u v h=>sf hn (fF r) d v u h
 ·exact λ{ds es} f ih v ⟨a,vs,e,h1,h2⟩=>⟨a,vs,e,fF r _ _ h1,ih vs h2⟩
 ·exact λ{ds es} f ih v ⟨a,vs,e,h1,h2⟩=>⟨a,vs,e,fF r _ _ h1,ih vs h2⟩
 ·exact λ{C ns ds es} f ih v ⟨a,dx,vs,e,h1,hl,h2⟩=>⟨a,dx,vs,e,fF r _ _ h1,hl.trans f.length,ih vs h2⟩
 ·intro k ds es hk em f ih v ⟨a,e,h1⟩;obtain ⟨o,vs,e1,h2⟩:=Fq r hn hk h1 em;exact ⟨a,vs,e,o.trans e1,ih vs h2⟩
 ·intro k C ns ds es hk em f ih v ⟨a,e,h1⟩;obtain ⟨o,dx,vs,e1,hl,h2⟩:=Fq r hn hk h1 em;exact ⟨a,dx,vs,e,o.trans e1,hl.trans f.length,ih vs h2⟩
 ·exact λvs h=>h
 ·exact λ{d e ds es} f t Zv ZL vs ⟨v,r,e,h1,h2⟩=>⟨v,r,e,Zv v h1,ZL r h2⟩
end
def Rq(n:Nat)(q:DQ):DQ:=λd M=>∃M' E d',M=M'++E/\M'.length=n/\(∀m∈M',MO.under n m)/\C3 n E d d'/\q d' M'
theorem Fin.uo{K:fI}{G0:Hp}{L0:List Addr}{M0:Ms}{H0:Hp}{q:DQ}{v:V}{H:Hp}(r0:Rl K G0 L0 M0 H0)(f:Fin K G0 L0 H0 (Rq M0.length q) v H):Fin K G0 L0 H0 q v H:=by
 obtain ⟨d,G,L,M,ex,r,dn,M',E,d',rfl,hl,hu,fz,hq⟩:=f;obtain ⟨t,rfl⟩:=ex.l;have hn:L0.length=M'.length:=by rw [hl];exact r0.len
 have Vm:∀b,b∈L0->b∉t:=λb h1 h2=>(List.nodup_append.mp r.nd).2.2 b h1 b h2 rfl;have sm:=fF r;refine ⟨d',nG G H t,L0,M',⟨ex.g.trans sm, .refl _,λb h1 h2=> ?_,ex.out,λb h=> .inl h,ex.C5⟩,⟨λb u e=> ?_,hn,(List.nodup_append.mp r.nd).1,λk a m h1 h2=> ?_⟩,G_ r hn (hl▸fz) v dn,hq⟩
 ·have hb:b∉t:=λz=>(ex.new b (aav _ z)).elim (λy=>Vm b y z) h2;rw [kI hb];exact ex.fr b h1 h2
 ·by_cases hb:b∈t
  ·rw [z5 hb] at e;exact e
  ·rw [kI hb] at e;exact r.sub b u e
 ·have k1:k < L0.length:=(aag.mp h1).1;have e1:(L0++t)[k]? =some a:=by rw [aau k1];exact h1
  have e2:(M'++E)[k]? =some m:=by rw [aau (by rw [<-hn];exact k1)];exact h2
  obtain ⟨g,q⟩:=r.gW k a m e1 e2;exact ⟨by rw [kI (Vm a (aaO h1))];exact g,CM (n:=M'.length) hn sm (by rw [hl];exact hu m (aaO h2)) q⟩
section
variable{X:Cx}{R:St->XK}{e:Expr}{t:DE}
theorem cH{st:Stmt}:JS X R st (λ_ _ _=>False):=λ_ _ _ _ _ _ ⟨_,_,_,_,_,_,_,h,_,_⟩=>h.elim
end
def Gd(C:Addr)(m:Str)(sp:Sp)(om:List V)(R:St->XK)(ta:TE)(t:TA):TE:=λσ H Q=>ta σ H λx H1=>∃a dx fs,x= .ref a/\H1 a=some (.ins C dx fs)/\fs.lookup m=none/\
 t σ H1 λvs H2=>sp (x::(vs++om)) H2 Q (R σ)
def Dr(C:Addr)(sp:Sp)(om:List V)(R:St->XK)(t:TA):TE:=λσ H Q=>t σ H λvs H1=>∀x dx,H1 x=none->H1 dx=none->dx≠x->
 sp (.ref x::(vs++om)) (upd (upd H1 dx (.own x)) x (.ins C dx [])) (λv H2=>v= .bw/\Q (.ref x) H2) (R σ)
section
variable{X:Cx}{CX:xD}{k:Nat}{f C:Addr}{fd:FuncData}{ps:List Str}{sp:Sp}{om:List V}{ds:List Value}{R:St->XK}{x m:Str}{p pos apos:Pos}{e o:Expr}{es:List Expr}{ta:TE}{t:TA}
theorem Fm{pl:Sem Bool}(he:PE X o ta)(c:yJ X.K C)(hm:Jj X.K C m f)(F:Τ X.prog X.w X.K X.mg X.base CX k f fd ps sp)(hr:bx k X.A)(hb:gc X.K fd ps ds)(hd:Φ om ds)(hx:bE CX X R)(ha:PA X (e::es) t)
  (rC:starEach (e::es) X.env=(false,eval e X.env)::starEach es X.env:=by rfl) (dj:(backTo pos (starEach es X.env)).any (·.1)=false:=by rfl)
  (ht:eval (.Call (.Attribute o m apos) (e::es) [] pos) X.env=(do
   let ov<-eval o X.env
   standAt apos.atName
   let (f,first)<-holding [ov] (getMethod ov m pl)
   callWith pos f first (backTo pos (starEach (e::es) X.env)) (backToKw pos (keywordEach [] X.env))):=by rfl):
  PE X (.Call (.Attribute o m apos) (e::es) [] pos) (Gd C m sp om R ta t):=by
 intro γ s σ H Q I h;refine PySem.W.methodCall_KW (pl:=pl) (aY (he γ s σ H _ I h) λu s1 ⟨x,H1,I1,rx,a,dx,fs,ex,ea,l,q⟩=> ?_) ht;subst ex;obtain rfl:u=Value.ref a:=rx;refine p_ I1 ea c hm l ?_;refine PySem.W.callWith_K (first:=[.ref a]) (h₀:=X.base) I.ok.mod.vw hm.kp (aY (ha pos γ s1 σ H1 _ I1 q) λus s2 ⟨vs,H2,I2,r,q2⟩=>⟨I2.g_, ?_⟩) rC dj;exact nR (us:= .ref a::us) (vs:= .ref a::vs) F hr hb hd hx I2 (.cons rfl r) q2
theorem B7{pl:Sem Bool}(he:PE X o ta)(c:yJ X.K C)(hm:Jj X.K C m f)(F:Τ X.prog X.w X.K X.mg X.base CX k f fd ps sp)(hr:bx k X.A)(hb:gc X.K fd ps ds)(hd:Φ om ds)(hx:bE CX X R)
  (ht:eval (.Call (.Attribute o m apos) [] [] pos) X.env=(do
   let ov<-eval o X.env
   standAt apos.atName
   let (f,first)<-holding [ov] (getMethod ov m pl)
   callWith pos f first (backTo pos (starEach [] X.env)) (backToKw pos (keywordEach [] X.env))):=by rfl):
  PE X (.Call (.Attribute o m apos) [] [] pos) (Gd C m sp om R ta Mn):=by
 intro γ s σ H Q I h;refine PySem.W.methodCall_KW (pl:=pl) (aY (he γ s σ H _ I h) λu s1 ⟨x,H1,I1,rx,a,dx,fs,ex,ea,l,q⟩=> ?_) ht;subst ex;obtain rfl:u=Value.ref a:=rx;refine p_ I1 ea c hm l ?_;exact PySem.W.callWith_K0 (first:=[.ref a]) I1.g_ hm.kp (nR (us:=[.ref a]) (vs:=[.ref a]) F hr hb hd hx I1 (.cons rfl .nil) q)
theorem rX{γ:List (Addr×Obj)}{σ:St}{H:Hp}{s:Shared}{Q:VK}{us:List Value}{vs:List V}(M:Mk X.K C f)(F:Τ X.prog X.w X.K X.mg X.base CX k f fd ps sp)(hr:bx (k+1) X.A)(hb:gc X.K fd ps ds)(hd:Φ om ds)
  (hx:bE CX X R) (I:Inv X γ σ H s) (r:Φ vs us)
  (h:∀x dx,H x=none->H dx=none->dx≠x->sp (.ref x::(vs++om)) (upd (upd H dx (.own x)) x (.ins C dx [])) (λv H2=>v= .bw/\Q (.ref x) H2) (R σ)):
  wpAny (model X.prog X.w) X.A (call (.ref C) us) (EP X γ σ Q) X.xe s:=by
 have hq:=h (s.heap.objs.size+1) s.heap.objs.size (I.aC.fresh (Nat.le_succ _)) (I.aC.fresh (aak _)) (aaI (Nat.lt_succ_self _));have I2:=Inv.made (C:=C) I;have r2:Φ (V.ref (s.heap.objs.size+1)::(vs++om)) (Value.ref (s.heap.objs.size+1)::(us++ds)):= .cons rfl (r.append hd);have hl:(Value.ref (s.heap.objs.size+1)::us++ds).length=ps.length:=by have e:=r2.length;rw [F.len _ _ _ _ hq] at e;exact e.symm
 refine wpAny_call (EX (f:=f) I.g_ M.makes M.init (abb.mp M.fn) (codeAny_mono (F.run _ X.stack _ _ ⟨Value.ref (s.heap.objs.size+1)::us,[]⟩ (Value.ref (s.heap.objs.size+1)::(us++ds)) _ _ (R σ) (hr.make C us [])
  (I2.PK.make C us []) (hb _ (Value.ref (s.heap.objs.size+1)::us) I2.g_ hl) r2 hq) λr s' gU=> ?_))
 cases r with
 | error e=>exact hx γ σ _ _ e s' I2 gU
 | ok fl=>
  cases fl with
  | ret u=>
   obtain ⟨v,H',I3,rv,ev,q3⟩:=I2.after gU;subst ev;exact ⟨rv,⟨V.ref (s.heap.objs.size+1),H',I3,rfl,q3⟩⟩
  | next=>exact False.elim gU
  | brk=>exact False.elim gU
  | cont=>exact False.elim gU
theorem FY(M:Mk X.K C f)(F:Τ X.prog X.w X.K X.mg X.base CX k f fd ps sp)(hr:bx (k+1) X.A)(hg:Gl X x)(hm:X.mg x=some (.ref C))(hb:gc X.K fd ps ds)(hd:Φ om ds)(hx:bE CX X R)
  (ha:PA X (e::es) t) (gQ:(x==("__debug__":Str))=false:=by decide) (he:starEach (e::es) X.env=(false,eval e X.env)::starEach es X.env:=by rfl) (dj:(backTo pos (starEach es X.env)).any (·.1)=false:=by rfl):
  PE X (.Call (.Name x p) (e::es) [] pos) (Dr C sp om R t):=by
 intro γ s σ H Q I h;refine wpAny_Call_Name_kw (dN I hg hm ?_ gQ);refine PySem.W.callWith_K (h₀:=X.base) I.ok.mod.vw M.kp (aY (ha pos γ s σ H _ I h) λus s1 ⟨vs,H1,I1,r,q⟩=>⟨I1.g_, ?_⟩) he dj;exact rX M F hr hb hd hx I1 r q
end
def HK(C:Addr)(M:Ms)(d:Dt)(ns:List Str)(ds:List Dt):Prop:=d= .obj C ns ds\/∃k,d= .loc k/\M[k]? =some (.ins C ns ds)
section
variable{K:fI}{G:Hp}{L:List Addr}{M:Ms}{H:Hp}{C:Addr}{d:Dt}{v:V}{ns:List Str}{ds:List Dt}
theorem C_(r:Rl K G L M H)(n:Den K G L d v)(o:HK C M d ns ds):∃a dx vs,v= .ref a/\H a=some (.ins C dx (ns.zip vs))/\ns.length=ds.length/\Ι K G L ds vs:=by
 rcases o with rfl | ⟨k,rfl,hm⟩
 ·obtain ⟨a,dx,vs,e,h1,hl,h2⟩:=n;exact ⟨a,dx,vs,e,r.sub _ _ h1,hl,h2⟩
 ·obtain ⟨a,e,h1⟩:=n;obtain ⟨_,dx,vs,h2,hl,h3⟩:=r.gW k a _ h1 hm;exact ⟨a,dx,vs,e,h2,hl,h3⟩
theorem vz{f:Str}:∀{ns:List Str} {ds:List Dt} {vs:List V} {d:Dt},Ι K G L ds vs->(ns.zip ds).lookup f=some d->∃v,(ns.zip vs).lookup f=some v/\Den K G L d v
 | [],_,_,_,_,h=>by simp at h
 | _::_,[],_,_,_,h=>by simp at h
 | g::ns,d::ds,_,d',⟨v,r,rfl,h1,h2⟩,h=>by
  rw [aaU,aaZ] at h;rw [aaU,aaZ];cases q:f==g with
  | true=>rw [q] at h;cases h;exact ⟨v,rfl,h1⟩
  | false=>rw [q] at h;exact vz h2 h
theorem pV{f:Str}:∀{ns:List Str} {ds:List Dt} {vs:List V},Ι K G L ds vs->(ns.zip ds).lookup f=none->(ns.zip vs).lookup f=none
 | [],_,_,_,_=>by simp
 | _::_,[],_,h,_=>by have h:_=_:=h;subst h;simp
 | g::ns,d::ds,_,⟨v,r,rfl,h1,h2⟩,h=>by
  rw [aaU,aaZ] at h;rw [aaU,aaZ];cases q:f==g with
  | true=>rw [q] at h;cases h
  | false=>rw [q] at h;exact pV h2 h
theorem xy{f:Str}{v:V}:∀{ns:List Str} {vs:List V},ns.length=vs.length->f∉ns->gR f v (ns.zip vs)=(ns++[f]).zip (vs++[v])
 | [],[],_,_=>rfl
 | g::ns,x::vs,hl,h=>by have hg:¬g=f:=λz=>h (by rw [z];exact aad);show (if g=f then (g,v)::ns.zip vs else (g,x)::gR f v (ns.zip vs))=(g,x)::(ns++[f]).zip (vs++[v]);rw [if_neg hg,xy (by simpa using hl) λz=>h (List.mem_cons_of_mem _ z)]
 | [],_::_,hl,_=>by simp at hl
 | _::_,[],hl,_=>by simp at hl
end
def HI(C:Addr)(f:Str)(t:DE):DE:=λρ M q x=>t ρ M (λd M1=>∃ns ds v,HK C M1 d ns ds/\(ns.zip ds).lookup f=some v/\q v M1) x
def Dc(C:Addr)(m:Str)(T:DF)(to:DE)(ta:DA):DE:=λρ M q x=>to ρ M (λd M1=>(∃ns ds,HK C M1 d ns ds/\(ns.zip ds).lookup m=none)/\ta ρ M1 (λds M2=>T (d::ds) M2 q (λC fs M'=>x ρ C fs M')) x) x
def AJ(C:Addr)(T:DF)(ta:DA):DE:=λρ M q x=>ta ρ M (λds M1=>T (.loc M1.length::ds) (M1++[.ins C [] []]) (λd M2=>d= .bw/\q (.loc M1.length) M2) (λC fs M'=>x ρ C fs M')) x
def JO(C:Addr)(f:Str)(to tv:DE):DS:=λDn ρ M=>tv ρ M (λy M1=>to ρ M1 (λd M2=>∃k ns ds,d= .loc k/\M2[k]? =some (.ins C ns ds)/\f∉ns/\ns.length < 1000/\Dn.nx ρ (M2.set k (.ins C (ns++[f]) (ds++[y])))) Dn.x) Dn.x
structure qS(P:Program)(w:World)(K:fI)(mg:Str->Option Value)(base:Heap)(k:Nat)(C:Addr)(m:Str)(ps:List Str)(T:DF)(f:Addr)(fd:FuncData):Prop where
 ok:Τ P w K mg base (br P w) k f fd ps (bK K T)
 b:gc K fd ps []
 c:yJ K C
 m:Jj K C m f
structure x_(P:Program)(w:World)(K:fI)(mg:Str->Option Value)(base:Heap)(k:Nat)(x:Str)(C:Addr)(ps:List Str)(T:DF)(f:Addr)(fd:FuncData):Prop where
 ok:Τ P w K mg base (br P w) k f fd ps (bK K T)
 b:gc K fd ps []
 k:Mk K C f
 m:mg x=some (.ref C)
section
variable{X:Cx}{R:St->XK}{C:Addr}{f m x:Str}{T:DF}{k k':Nat}{a:Addr}{fd:FuncData}{ps:List Str}{e o value:Expr}{es:List Expr}{pos pos' apos p:Pos}{to te tv:DE}{ta:DA}
theorem Et(c:yJ X.K C)(n:eB X.K C f)(he:JE X R e te)(hb:attributeBase e f X.env (eval e X.env)=eval e X.env:=by rfl):JE X R (.Attribute e f pos) (HI C f te):=
 .of (K5 he hb) λσ H G L ρ M q x rl en h hx=>by refine ⟨G,L,ρ,M,_,x,rl,en,h,hx,λv H1 ⟨d1,G1,L1,M1,e1,r1,n1,ns,ds,y,ob,hl,h1⟩=> ?_⟩;obtain ⟨p,dx,vs,rfl,hp,_,dn⟩:=C_ r1 n1 ob;obtain ⟨u,hu,du⟩:=vz dn hl;exact ⟨p,C,dx,_,u,rfl,hp,c,n,hu,y,G1,L1,M1,e1,r1,du,h1⟩
theorem MG{pl:Sem Bool}(D:qS X.prog X.w X.K X.mg X.base k C m ps T a fd)(hr:bx k' X.A)(hx:bE (br X.prog X.w) X R)(ho:JE X R o to)(ha:JA X R (e::es) ta)(hk:k<=k':=by decide)
  (rC:starEach (e::es) X.env=(false,eval e X.env)::starEach es X.env:=by rfl) (dj:(backTo pos (starEach es X.env)).any (·.1)=false:=by rfl)
  (ht:eval (.Call (.Attribute o m apos) (e::es) [] pos) X.env=(do
   let ov<-eval o X.env
   standAt apos.atName
   let (f,first)<-holding [ov] (getMethod ov m pl)
   callWith pos f first (backTo pos (starEach (e::es) X.env)) (backToKw pos (keywordEach [] X.env))):=by rfl):
  JE X R (.Call (.Attribute o m apos) (e::es) [] pos) (Dc C m T to ta):=
 .of (Fm (pl:=pl) ho D.c D.m D.ok (hr.mono hk) D.b .nil hx ha rC dj ht) λσ H G L ρ M q x rl en h hx=>by refine ⟨G,L,ρ,M,_,x,rl,en,h,hx,λv H1 ⟨d1,G1,L1,M1,e1,r1,n1,⟨ns,ds,ob,hl⟩,h1⟩=> ?_⟩;obtain ⟨p,dx,vs,rfl,hp,_,dn⟩:=C_ r1 n1 ob;refine ⟨p,dx,_,rfl,hp,pV dn hl,G1,L1,ρ,M1,_,x,r1,en.mono e1,h1,hx.on e1,λus H2 ⟨S2,G2,L2,M2,e2,r2,n2,h2⟩=> ?_⟩;show bK X.K T (V.ref p::(us++[])) H2 _ _;rw [aaQ];have yw:=e1.trans e2;exact ⟨G2,L2,d1::S2,M2,q,_,r2,⟨_,_,rfl,Den.mono e2.g e2.l _ _ n1,n2⟩,h2,λv H' f=>Fin.back yw f,λC fs M' G' L' H' od hq e' r' y=>hx σ ρ C fs M' G' L' H' od hq (yw.trans e') r' (en.mono (yw.trans e')) y⟩
theorem oh{pl:Sem Bool}(D:qS X.prog X.w X.K X.mg X.base k C m ps T a fd)(hr:bx k' X.A)(hx:bE (br X.prog X.w) X R)(ho:JE X R o to)(hk:k<=k':=by decide)
  (ht:eval (.Call (.Attribute o m apos) [] [] pos) X.env=(do
   let ov<-eval o X.env
   standAt apos.atName
   let (f,first)<-holding [ov] (getMethod ov m pl)
   callWith pos f first (backTo pos (starEach [] X.env)) (backToKw pos (keywordEach [] X.env))):=by rfl):
  JE X R (.Call (.Attribute o m apos) [] [] pos) (Dc C m T to gZ):=
 .of (B7 (pl:=pl) ho D.c D.m D.ok (hr.mono hk) D.b .nil hx ht) λσ H G L ρ M q x rl en h hx=>by refine ⟨G,L,ρ,M,_,x,rl,en,h,hx,λv H1 ⟨d1,G1,L1,M1,e1,r1,n1,⟨ns,ds,ob,hl⟩,h1⟩=> ?_⟩;obtain ⟨p,dx,vs,rfl,hp,_,dn⟩:=C_ r1 n1 ob;refine ⟨p,dx,_,rfl,hp,pV dn hl, ?_⟩;show bK X.K T (V.ref p::([]++[])) H1 _ _;exact ⟨G1,L1,[d1],M1,q,_,r1,⟨_,_,rfl,n1,rfl⟩,h1,λv H' f=>Fin.back e1 f,λC fs M' G' L' H' od hq e' r' y=>hx σ ρ C fs M' G' L' H' od hq (e1.trans e') r' (en.mono (e1.trans e')) y⟩
theorem Er(D:x_ X.prog X.w X.K X.mg X.base k x C ps T a fd)(hr:bx k' X.A)(hx:bE (br X.prog X.w) X R)(ha:JA X R (e::es) ta)(hk:k+1<=k':=by decide)(hg:Gl X x:=by rfl)(gQ:(x==("__debug__":Str))=false:=by decide)
  (he:starEach (e::es) X.env=(false,eval e X.env)::starEach es X.env:=by rfl) (dj:(backTo pos (starEach es X.env)).any (·.1)=false:=by rfl):JE X R (.Call (.Name x p) (e::es) [] pos) (AJ C T ta):=
 .of (FY D.k D.ok (hr.mono hk) hg D.m D.b .nil hx ha gQ he dj) λσ H G L ρ M q x rl en h hx=>by
  refine ⟨G,L,ρ,M,_,x,rl,en,h,hx,λvs H1 ⟨ds,G1,L1,M1,e1,r1,n1,h1⟩ y dx hy Ox EW=> ?_⟩;show bK X.K T (V.ref y::(vs++[])) _ _ _;rw [aaQ];have ra:=r1.Dh (o:= .own y) Ox;have ea:=r1.L9 (o:= .own y) Ox;have LJ:upd H1 dx (HO.own y) y=none:=by rw [Γ (Ne.symm EW)];exact hy
  have rb:=ra.D7 (p:=y) (o:= .ins C dx []) (m:= .ins C [] []) LJ ⟨dx,[],Ω,rfl,rfl⟩;have eb:=ra.PF (p:=y) (o:= .ins C dx []) LJ;have e2:=ea.trans eb;have yw:=e1.trans e2;refine ⟨_,_, .loc M1.length::ds,_,_,_,rb,⟨_,_,rfl,⟨y,rfl, ?_⟩,Ι.mono e2.g e2.l _ _ n1⟩,h1,λv H' ⟨d,G',L',M',e',r',dn,hd,hq⟩=> ?_,λC fs M' G' L' H' od hq e' r' z=>hx σ ρ C fs M' G' L' H' od hq (yw.trans e') r' (en.mono (yw.trans e')) z⟩
  ·rw [<-r1.len,List.getElem?_append_right (Nat.le_refl _)];simp
  ·subst hd;refine ⟨dn, .loc M1.length,G',L',M',yw.trans e',r',⟨y,rfl,e'.l.get ?_⟩,hq⟩;rw [<-r1.len,List.getElem?_append_right (Nat.le_refl _)];simp
theorem uF(c:yJ X.K C)(n:eB X.K C f)(ho:JE X R o to)(hv:JE X R value tv)(hs:swapsWith value (some (.Attribute o f pos')) pos.line X.env=pure false:=by rfl):JS X R (.Assign [.Attribute o f pos'] value pos) (JO C f to tv):=
 .of (LO ho hv hs) λσ H G L ρ M Dn rl en h hx=>by refine ⟨G,L,ρ,M,_,_,rl,en,h,hx,λy H1 ⟨dy,G1,L1,M1,e1,r1,n1,h1⟩=> ?_⟩;refine ⟨G1,L1,ρ,M1,_,_,r1,en.mono e1,h1,hx.on e1,λu H2 ⟨du,G2,L2,M2,e2,r2,n2,k,ns,ds,ed,hm,hf,hz,h2⟩=> ?_⟩;subst ed;obtain ⟨p,rfl,hp⟩:=n2;obtain ⟨_,dx,vs,hH,hl,dn⟩:=r2.gW k p _ hp hm;have V6:ns.length=vs.length:=hl.trans dn.length;refine ⟨p,C,dx,_,rfl,hH,c,n,by rw [abv,<-V6,Nat.min_self];exact hz, ?_⟩;rw [xy V6 hf];exact ⟨ρ,G2,L2,_,(e1.trans e2).trans (r2.J9 hp),r2.setM (m:= .ins C (ns++[f]) (ds++[dy])) hp ⟨dx,_,Ω,by rw [aab,aab,hl];rfl,dn.app ⟨_,_,rfl,Den.mono e2.g e2.l _ _ n1,rfl⟩⟩,(en.mono (e1.trans e2)).mono (r2.J9 (o:= .own p) hp),h2⟩
end
def FJ:List Dt->Ms->DQ->Prop
 | [d],M,q=>match lF M d with
  | some xs=>q (.loc M.length) (M++[.lst xs])
  | none=>False
 | _,_,_=>False
section
variable{K:fI}
theorem Of:AB K (λxs H Q=>∃p ys,xs=[V.ref p]/\(fc K H p ys\/j0 K H p ys)/\∀l,H l=none->Q (.ref l) (upd H l (.lst ys))) FJ:=by
 intro G0 L0 H0 G L M H vs ds q e r n h;unfold FJ at h;split at h
 ·rename_i d;obtain ⟨v,rfl,n1⟩:=ax n;split at h
  ·rename_i xs hs;obtain ⟨a,us,rfl,hq,dn⟩:=km r n1 hs;exact ⟨a,us,rfl,hq,λl hl=>og e r hl dn h⟩
  ·exact h.elim
 ·exact h.elim
end
section
variable{X:Cx}{R:St->XK}{e o i value:Expr}{t:DA}{to ti tv:DE}{p pos apos af qQ:Pos}
theorem MJ(hm:X.mg "list"=none)(ha:JA X R [e] t)(hg:Gl X "list":=by rfl)(he:starEach [e] X.env=(false,eval e X.env)::starEach [] X.env:=by rfl)(dj:(backTo pos (starEach [] X.env)).any (·.1)=false:=by rfl):JE X R (.Call (.Name "list" p) [e] [] pos) (x8 FJ t):=
 j7 uc Of hm xJ ha hg (by decide) (by decide) he dj
def Ku(to:DE)(t:DA):DE:=λρ M q x=>to ρ M (λd M1=>(∃k xs,d= .loc k/\M1[k]? =some (.lst xs))/\t ρ M1 (λds M2=>∃k xs y,d= .loc k/\ds=[y]/\M2[k]? =some (.lst xs)/\xs.length < sizeLine/\q .bw (M2.set k (.lst (xs++[y])))) x) x
theorem f_(ho:JE X R o to)(ha:JA X R [e] t)(gb:attributeBase o "append" X.env (eval o X.env)=eval o X.env:=by rfl)
  (mE:((backTo af (starEach [e] X.env)).all (λx=> !x.1)&&(backToKw af (keywordEach [] X.env)).all (λx=>x.1.isSome)
   &&decide (([e]:List Expr).length+([]:List Keyword).length+(if ([]:List Keyword).isEmpty then 0 else 1) < 30))=true:=by rfl)
  (fR:(apos.endLine==af.line)=true:=by rfl) (hs:starEach [e] X.env=(false,eval e X.env)::starEach [] X.env:=by rfl) (cY:(backTo af (starEach [] X.env)).any (·.1)=false:=by rfl):
  JE X R (.Call (.Attribute o "append" apos) [e] [] af) (Ku to t):=
 .of (JY PySem.F.plainAttrs_list PySem.F.slot_list_append PySem.F.type_list_append (r:=Ax) rz ho ha gb mE fR hs cY) λσ H G L ρ M q x rl n h hx=>by refine ⟨G,L,ρ,M,_,x,rl,n,h,hx,λv H1 ⟨d1,G1,L1,M1,e1,r1,n1,⟨k,xs,ed,hm⟩,h1⟩=> ?_⟩;subst ed;obtain ⟨a,rfl,hk⟩:=n1;obtain ⟨_,vs,hH,_⟩:=r1.gW k a _ hk hm;refine ⟨.inl ⟨rfl,vs, .of hH⟩,G1,L1,ρ,M1,_,x,r1,n.mono e1,h1,hx.on e1,λus H2 ⟨ds,G2,L2,M2,e2,r2,n2,k',xs',y,ek,ed,XN,hz,h2⟩=> ?_⟩;cases ek;subst ed;obtain ⟨u,rfl,n3⟩:=ax n2;have Og:=e2.l.get hk;obtain ⟨_,R4,WY,Qi⟩:=r2.gW k a _ Og XN;refine ⟨a,R4,u,rfl,rfl,WY,by rw [<-Qi.length];exact hz, .bw,G2,L2,_,(e1.trans e2).trans (r2.J9 Og),r2.setM (m:= .lst (xs'++[y])) Og ⟨_,Ω,Qi.app ⟨_,_,rfl,n3,rfl⟩⟩,rfl,h2⟩
def Dq(to ti tv:DE):DS:=λDn ρ M=>tv ρ M (λy M1=>to ρ M1 (λd M2=>ti ρ M2 (λdi M3=>∃k i xs j,d= .loc k/\di= .int i/\M3[k]? =some (.lst xs)/\GH xs.length i=some j/\Dn.nx ρ (M3.set k (.lst (xs.set j y)))) Dn.x) Dn.x) Dn.x
theorem EZ(ho:JE X R o to)(hi:JE X R i ti)(hv:JE X R value tv)(hs:swapsWithSole [.Subscript o i qQ] value pos.line X.env=pure false:=by rfl)(hw:swappedStores [.Subscript o i qQ] value X.env=pure none:=by rfl)
  (h1:(assignEach [.Subscript o i qQ] X.env).map (·.2)=[assign (.Subscript o i qQ) X.env]:=by rfl)
  (ha:∀v,assign (.Subscript o i qQ) X.env v=(do
   let ov<-holding [v] (eval o X.env)
   let iv<-holding [v,ov] (eval i X.env)
   standAt qQ
   holding [v,ov,iv] (setItem ov iv v)
   release [v,ov,iv] []):=by intro _;rfl):JS X R (.Assign [.Subscript o i qQ] value pos) (Dq to ti tv):=
 .of (zm hv (K0 (t:=JN) ho hi GB ha) hs hw h1) λσ H G L ρ M Dn rl n h hx=>by refine ⟨G,L,ρ,M,_,_,rl,n,h,hx,λv H1 ⟨dv,G1,L1,M1,e1,r1,n1,h1⟩=> ?_⟩;refine ⟨G1,L1,ρ,M1,_,_,r1,n.mono e1,h1,hx.on e1,λov H2 ⟨d,G2,L2,M2,e2,r2,n2,h2⟩=> ?_⟩;refine ⟨G2,L2,ρ,M2,_,_,r2,(n.mono e1).mono e2,h2,(hx.on e1).on e2,λiv H3 ⟨di,G3,L3,M3,e3,r3,n3,k,i,xs,j,ed,ei,hm,hj,h3⟩=> ?_⟩;subst ed ei;obtain ⟨a,rfl,hk⟩:=n2;have n3:iv= .int i:=n3;subst n3;have B2:=e3.l.get hk;obtain ⟨_,vs,hH,dn⟩:=r3.gW k a _ B2 hm;have GR:=e2.trans e3;have QV:=Den.mono GR.g GR.l _ _ n1;refine ⟨a,vs,i,j,rfl,rfl,hH,by rw [<-dn.length];exact hj,ρ,G3,L3,_,((e1.trans e2).trans e3).trans (r3.J9 B2),r3.setM (m:= .lst (xs.set j dv)) B2 ⟨_,Ω, .of (zR QV j dn.pair)⟩,(((n.mono e1).mono e2).mono e3).mono (r3.J9 (o:= .own a) B2),h3⟩
end
structure Src(K:fI)(a:Addr)(xs:List Dt)(ok:Ms->Prop)(G0:Hp)(L0:List Addr):Prop where
 at_:∀G L M H,cp G0 G->Pre L0 L->Rl K G L M H->ok M->∃vs,fc K H a vs/\Ι K G L xs vs
def iE(M:Ms):Dt->Option (List Dt×(Ms->Prop))
 | .lst xs=>some (xs,λ_=>True)
 | .nF ns=>some (ns.map .int,λ_=>True)
 | .loc k=>match M[k]? with
  | some (.lst xs)=>some (xs,λM'=>M'[k]? =some (.lst xs))
  | _=>none
 | _=>none
theorem oW{K:fI}{G:Hp}{L:List Addr}{M:Ms}{H:Hp}{d:Dt}{v:V}{xs:List Dt}{ok:Ms->Prop}(r:Rl K G L M H)(n:Den K G L d v)(h:iE M d=some (xs,ok)):∃a vs,v= .ref a/\fc K H a vs/\Src K a xs ok G L/\ok M:=by
 cases d with
 | lst ds=>
  cases h;obtain ⟨a,vs,rfl,e,m⟩:=n;exact ⟨a,vs,rfl, .of (r.sub _ _ e),⟨λG' L' M' H' g l r' _=>⟨vs, .of (r'.sub _ _ (g _ _ e)),Ι.mono g l _ _ m⟩⟩,trivial⟩
 | nF ns=>
  cases h;obtain ⟨a,rfl,e⟩:=n;exact ⟨a,_,rfl,r.sub.seq e,⟨λG' L' M' H' g l r' _=>⟨_,r'.sub.seq (g.seq e),d4⟩⟩,trivial⟩
 | loc k=>
  obtain ⟨a,rfl,e⟩:=n;have h:(match M[k]? with | some (.lst xs)=>some (xs,λM':Ms=>M'[k]? =some (.lst xs)) | _=>none)=some (xs,ok):=h;split at h
  ·rename_i ys hm;cases h;obtain ⟨_,vs,e1,m1⟩:=r.gW k a _ e hm;refine ⟨a,vs,rfl, .of e1,⟨λG' L' M' H' g l r' hk=> ?_⟩,hm⟩;obtain ⟨_,R4,e2,m2⟩:=r'.gW k a _ (l.get e) hk;exact ⟨R4, .of e2,m2⟩
  ·cases h
 | _=>cases h
theorem C9{K:fI}{G:Hp}{L:List Addr}{a:Addr}{xs:List Dt}{ok:Ms->Prop}(s:Src K a xs ok G L):Mu K (QD K a) xs ok G L where
 go:=λi G1 L1 M1 H1 d g l r k e=>by
  obtain ⟨vs,hs,n⟩:=s.at_ G1 L1 M1 H1 g l r k;obtain ⟨v,e1,n1⟩:=n.get e
  exact ⟨⟨vs,v,hs,e1⟩,λv' H' ⟨eH,y⟩=>by
   subst eH;have e2:=y vs hs;rw [e1] at e2;cases e2
   exact ⟨G1, .refl _ _ _,r,n1⟩⟩
 stop:=λi G1 L1 M1 H1 g l r k e=>by obtain ⟨vs,hs,n⟩:=s.at_ G1 L1 M1 H1 g l r k;exact ⟨vs,hs,by rw [<-n.length];exact e⟩
def qm(M:Ms):Dt->Option (List Dt×(Ms->Prop))
 | .loc k=>iE M (.loc k)
 | d=>(Gu M d).map λxs=>(xs,λ_=>True)
def dg(t:DE):DK:=λρ M q x=>t ρ M (λd M1=>match qm M1 d with
 | some (xs,ok)=>q xs ok M1
 | none=>False) x
theorem aL{X:Cx}{R:St->XK}{tg e:Expr}{te:DE}(h:JE X R e te):JK X R tg e (dg te):=by
 intro γ s σ H Q I ⟨G,L,ρ,M,q,x,rl,n,ht,hx,hQ⟩;refine aY (h γ s σ H (Fin X.K G L H _) I ⟨G,L,ρ,M,_,x,rl,n,ht,hx,λ_ _ f=>f⟩) λu s1 ⟨v,H1,I1,rv,d,G1,L1,M1,e1,r1,n1,h1⟩=> ?_
 (try dsimp only at h1)
 cases hi:qm M1 d with
 | none=>rw [hi] at h1;exact h1.elim
 | some p=>
  obtain ⟨xs,ok⟩:=p;rw [hi] at h1;have fin:∀J,Mu X.K J xs ok G1 L1->Q J H1:=λJ y=>hQ J H1 ⟨xs,ok,G1,L1,M1,e1,r1,y,h1⟩;have up:∀{J},ok=(λ_=>True)->Yl X.K J xs G1 L1->Mu X.K J xs ok G1 L1:=λeo y=>by subst eo;exact ⟨λi G L M H d g l r _ e=>y.go i G L M H d g l r e,λi G L M H g l r _ e=>y.stop i G L M H g l r e⟩
  cases d with
  | loc k=>
   obtain ⟨a,vs,rfl,hs,sr,_⟩:=oW r1 n1 hi;cases rv;exact j3 I1 hs (fin _ (C9 sr))
  | lst ds=>
   cases hi;obtain ⟨a,vs,rfl,e,m⟩:=n1;cases rv;exact j3 I1 (vs:=vs) (.of (r1.sub _ _ e)) (fin _ (up rfl (oq (λG' g=> .of (g _ _ e)) m)))
  | nF ns=>
   cases hi;obtain ⟨a,rfl,e⟩:=n1;cases rv;exact j3 I1 (r1.sub.seq e) (fin _ (up rfl (oq (λG' g=>g.seq e) d4)))
  | tup ds=>
   cases hi;obtain ⟨a,vs,rfl,e,m⟩:=n1;cases rv;exact sS I1 (vs:=vs) (.of (r1.sub _ _ e)) (fin _ (up rfl (uv (λG' g=> .of (g _ _ e)) m)))
  | kt ds=>
   cases hi;obtain ⟨a,vs,rfl,e,m⟩:=n1;cases rv;exact sS I1 (r1.sub.LH e) (fin _ (up rfl (uv (λG' g=>g.LH e) m)))
  | str z=>
   cases hi;cases n1;obtain ⟨t,rfl⟩:=rv;exact FK I1 (fin _ (up rfl Gg))
  | _=>cases hi
def uy(g:Dt->En->(En->Prop)->Prop)(tb:DS)(Dn:mX)(ok:Ms->Prop):List Dt->En->Ms->Prop
 | [],ρ,M=>ok M/\Dn.nx ρ M
 | x::xs,ρ,M=>ok M/\g x ρ λρ'=>tb {Dn with nx:=uy g tb Dn ok xs,ct:=uy g tb Dn ok xs,bk:=Dn.nx} ρ' M
def A5(ti:DK)(g:Dt->En->(En->Prop)->Prop)(tb:DS):DS:=λDn ρ M=>ti ρ M (λxs ok M1=>uy g tb Dn ok xs ρ M1) Dn.x
section
variable{X:Cx}{R:St->XK}{tg iter:Expr}{body:List Stmt}{ti:DK}{gg:TG}{g:Dt->En->(En->Prop)->Prop}{tb:DS}{pos:Pos}
theorem iN(hi:JK X R tg iter ti)(hg:PG X tg gg)(gd:GD X.K gg g)(hb:zA X R body tb)(hp:PassesOwn (model X.prog X.w) X.A X.env X.xe:=by first | exact PassesOwn.never | exact PassesOwn.leaving)(hc:X.calm=true:=by rfl)(hs:∀x,foldedSetIterable iter X.env x=pure x:=by intro _;rfl):
  JS X R (.For tg iter body [] pos) (A5 ti g tb):= .of (Gr hp hc hi hg hb hs) λσ H G L ρ M Dn rl n h hx=>by
 refine ⟨G,L,ρ,M,_,_,rl,n,h,hx,λJ H1 ⟨xs,ok,G1,L1,M1,e1,r1,y,h1⟩=> ?_⟩;refine ⟨λi m σ' H'=>m+i=xs.length/\dP X.K G1 L1 H1 (λρ' M'=>uy g tb Dn ok (xs.drop i) ρ' M') σ' H',⟨xs.length,rfl,ρ,G1,L1,M1, .refl _ _ _,r1,n.mono e1,by rw [List.drop_zero];exact h1⟩, ?_⟩;rintro i m σ' H' ⟨hm,ρ',G',L',M',e',r',n',h'⟩;by_cases hi:i < xs.length
 ·right;have hd:xs[i]? =some xs[i]:=aac hi;rw [abD hi] at h';obtain ⟨aC,h'⟩:=h';obtain ⟨go,yl⟩:=y.go i G' L' M' H' _ e'.g e'.l r' aC hd;refine ⟨go,dP X.K G1 L1 H1 (λρ' M'=>uy g tb Dn ok (xs.drop (i+1)) ρ' M'),λσ2 H2 f=>⟨m - 1,by omega,by omega,f⟩,λv H2 hy=> ?_⟩;obtain ⟨G2,e2,r2,n2⟩:=yl v H2 hy;refine gd G2 L' M' H2 _ v ρ' σ' _ _ r2 n2 (n'.mono e2) h' λρ3 σ3 n3 h3=> ?_;refine ⟨G2,L',ρ3,M',_,r2,n3,h3,hx.on (e1.trans (e'.trans e2)),⟨λ_ _ f=>dP.back (e'.trans e2) f,λ_ _ f=>Fin.back (e1.trans (e'.trans e2)) f,λ_ _ f=>dP.back (e1.trans (e'.trans e2)) f,λ_ _ f=>dP.back (e'.trans e2) f⟩⟩
 ·left;rw [List.drop_eq_nil_of_le (by omega)] at h';exact ⟨y.stop i G' L' M' H' e'.g e'.l r' h'.1 (by omega),ρ',G',L',M',e1.trans e',r',n',h'.2⟩
end
def cD(te:DE)(cs:En)(ok:Ms->Prop):List Dt->List Dt->Ms->(List Dt->Ms->Prop)->Prop
 | [],Ο,M,k=>ok M/\k Ο M
 | x::xs,Ο,M,k=>ok M/\te (some x::cs) M (λd M1=>cD te cs ok xs (Ο++[d]) M1 k) gT
def d6(ti:DK)(te:DE)(Ε:List Nat):DE:=λρ M q x=>ti ρ M (λxs ok M1=>xs.length<=sizeLine/\cD te (lV Ε ρ) ok xs [] M1 (λys M2=>q (.lst ys) M2)) x
def j1(ti:DK)(te:DE)(Ε:List Nat):DE:=λρ M q x=>ti ρ M (λxs ok M1=>xs.length<=sizeLine/\cD te (lV Ε ρ) ok xs [] M1 (λys M2=>q (.loc M2.length) (M2++[.lst ys]))) x
theorem ky{te:DE}{cs:En}{ok:Ms->Prop}:∀xs,cD te cs ok xs=gY (gN 0) pk te (none::cs) ok xs
 | []=>rfl
 | x::xs=>funext λΟ=>funext λM=>funext λk=>by show (ok M/\te (some x::cs) M (λd M1=>cD te cs ok xs (Ο++[d]) M1 k) gT)=(ok M/\te (some x::cs) M (λd M1=>gY (gN 0) pk te (none::cs) ok xs (Ο++[d]) M1 k) gT);rw [ky xs]
section
variable{X:Cx}{R:St->XK}{elt iter:Expr}{x:Str}{px:Pos}{scope:Scope}{pos:Pos}{ti:DK}{te:DE}{ys:List Str}{Ε:List Nat}
theorem bH(S:Ν X scope [x] ys Ε)(hi:JK X R (.Name x px) iter ti)(he:∀C s H fp,JE (Cx.comp X (x::ys) scope C s H fp) (λ_=>E0) elt te)(hc:X.calm=true:=by rfl)(hs:∀x,foldedSetIterable iter X.env x=pure x:=by intro _;rfl):JE X R (.ListComp elt [⟨.Name x px,iter,[],0⟩] scope pos) (d6 ti te Ε):=QM false S hi (cL S (i:=0) rfl) bS (cn (Nat.zero_lt_succ 0)) (λ_ _ _ _=>e_) he hc hs λρ M q x h=>by unfold d6 at h;simp only [ky] at h;exact h
theorem Du(S:Ν X scope [x] ys Ε)(hi:JK X R (.Name x px) iter ti)(he:∀C s H fp,JE (Cx.comp X (x::ys) scope C s H fp) (λ_=>E0) elt te)(hc:X.calm=true:=by rfl)(hs:∀x,foldedSetIterable iter X.env x=pure x:=by intro _;rfl):JE X R (.ListComp elt [⟨.Name x px,iter,[],0⟩] scope pos) (j1 ti te Ε):=QM true S hi (cL S (i:=0) rfl) bS (cn (Nat.zero_lt_succ 0)) (λ_ _ _ _=>e_) he hc hs λρ M q x h=>by unfold j1 at h;simp only [ky] at h;exact h
theorem e9{i:Nat}{y:Str}{py ie:Pos}(hN:X.N.Nodup)(EL:X.N[i]? =some y)(hy:Loc X.env.scope y)(S:Ν X scope [x] ys Ε)(hi:JK X R (.Name x px) iter ti)(he:∀C s H fp,JE (Cx.comp X (x::ys) scope C s H fp) (λ_=>E0) elt te)(hc:X.calm=true:=by rfl)(Fz:swapsWith (.ListComp elt [⟨.Name x px,iter,[],0⟩] scope pos) (some (.Name y py)) ie.line X.env=pure true:=by rfl)(hs:∀x,foldedSetIterable iter X.env x=pure x:=by intro _;rfl)(hf:X.fn y=true\/X.env.scope.names.lookup y=some .local:=by first | exact .inl rfl | exact .inr rfl | assumption):JS X R (.Assign [.Name y py] (.ListComp elt [⟨.Name x px,iter,[],0⟩] scope pos) ie) (xM i (d6 ti te Ε)):=Qo false S hi (cL S (i:=0) rfl) bS (cn (Nat.zero_lt_succ 0)) (λ_ _ _ _=>e_) he hc hs hN EL hy Fz hf λρ M q x h=>by unfold d6 at h;simp only [ky] at h;exact h
theorem kZ{i:Nat}{y:Str}{py ie:Pos}(hN:X.N.Nodup)(EL:X.N[i]? =some y)(hy:Loc X.env.scope y)(S:Ν X scope [x] ys Ε)(hi:JK X R (.Name x px) iter ti)(he:∀C s H fp,JE (Cx.comp X (x::ys) scope C s H fp) (λ_=>E0) elt te)(hc:X.calm=true:=by rfl)(Fz:swapsWith (.ListComp elt [⟨.Name x px,iter,[],0⟩] scope pos) (some (.Name y py)) ie.line X.env=pure true:=by rfl)(hs:∀x,foldedSetIterable iter X.env x=pure x:=by intro _;rfl)(hf:X.fn y=true\/X.env.scope.names.lookup y=some .local:=by first | exact .inl rfl | exact .inr rfl | assumption):JS X R (.Assign [.Name y py] (.ListComp elt [⟨.Name x px,iter,[],0⟩] scope pos) ie) (xM i (j1 ti te Ε)):=Qo true S hi (cL S (i:=0) rfl) bS (cn (Nat.zero_lt_succ 0)) (λ_ _ _ _=>e_) he hc hs hN EL hy Fz hf λρ M q x h=>by unfold j1 at h;simp only [ky] at h;exact h
end
theorem rT:∀{ns:List Int} {us:List Value},Φ (ns.map V.int) us->∃ts:List (Int×Tok),us=ts.map (λp=>Value.int p.1 p.2)/\ts.map (·.1)=ns
 | [],_,h=>by cases h;exact ⟨[],rfl,rfl⟩
 | n::ns,_,h=>by
  cases h with
  | cons r t=>
   obtain ⟨tk,rfl⟩:=r;obtain ⟨ts,rfl,rfl⟩:=rT t;exact ⟨(n,tk)::ts,rfl,rfl⟩
def Pa(K:fI):List V->Hp->VK->Prop:=λxs H Q=>∃(p:Addr) (ns:List Int),xs=[.ref p]/\fc K H p (ns.map V.int)/\Q (.int ns.sum) H
theorem Eb{X:Cx}(hc:X.calm=true):b9 X (.builtin "sum") (Pa X.K):=by
 intro γ s σ H xs us Q I r h;obtain ⟨p,ns,rfl,hq,q⟩:=h;obtain ⟨u,rfl,r1⟩:=eW r;cases r1;obtain ⟨its,rv,pl,hz⟩:=I.list hq;obtain ⟨ts,rfl,rfl⟩:=rT rv;have e:(ts.map λp=>Value.int p.1 p.2).toArray=intItems ts.toArray:=by simp [intItems]
 have hl:=pl.isList;rw [e] at hl;refine sum_intListG (I.ok.hd hc) hl λh' tk t' hk=> ?_;refine ⟨.int (ts.map (·.1)).sum,H,I.kept hk,⟨t', ?_⟩,q⟩;rw [preSum_eq,List.take_of_length_le (by simp)]
def LG:List Dt->Ms->DQ->Prop
 | [d],M,q=>∃ns:List Int,lF M d=some (ns.map .int)/\(∃xs ok,iE M d=some (xs,ok))/\q (.int ns.sum) M
 | _,_,_=>False
theorem oC{K:fI}{G:Hp}{L:List Addr}:∀{ns:List Int} {vs:List V},Ι K G L (ns.map Dt.int) vs->vs=ns.map V.int
 | [],_,h=>h
 | _::_,_,⟨v,r,e,h1,h2⟩=>by have h1:v=_:=h1;rw [e,h1,oC h2];rfl
theorem kA{M:Ms}{d:Dt}{xs:List Dt}{ok:Ms->Prop}(h:iE M d=some (xs,ok)):lF M d=some xs:=by
 cases d with
 | lst ds=>cases h;rfl
 | nF ns=>cases h;rfl
 | loc k=>
  have h:(match M[k]? with | some (.lst xs)=>some (xs,λM':Ms=>M'[k]? =some (.lst xs)) | _=>none)=some (xs,ok):=h;show (match M[k]? with | some (.lst xs)=>some xs | _=>none)=some xs;split at h
  ·rename_i ys hm;cases h;rfl
  ·cases h
 | _=>cases h
theorem SW{K:fI}:AB K (Pa K) LG:=by
 intro G0 L0 H0 G L M H vs ds q e r n h;unfold LG at h;split at h
 ·rename_i d;obtain ⟨v,rfl,n1⟩:=ax n;obtain ⟨ns,hs,⟨xs,ok,hl⟩,hq⟩:=h;obtain ⟨a,us,rfl,sq,sr,aC⟩:=oW r n1 hl;rw [kA hl] at hs;cases hs;obtain ⟨ws,VS,dn⟩:=sr.at_ G L M H (.refl _) (.refl _) r aC;rw [oC dn] at VS;exact ⟨a,ns,rfl,VS, .int ns.sum,G,L,M,e,r,rfl,hq⟩
 ·exact h.elim
theorem B':bootBuiltins "sum"=some (.builtin "sum"):=by decide+kernel
theorem yA:bootBuiltins "enumerate"=some (.type "enumerate"):=by decide+kernel
section
variable{X:Cx}{R:St->XK}{e a b:Expr}{t:DA}{ta tb:DE}{p pos:Pos}
theorem Kc(hm:X.mg "sum"=none)(ha:JA X R [e] t)(hc:X.calm=true:=by rfl)(hg:Gl X "sum":=by rfl)(he:starEach [e] X.env=(false,eval e X.env)::starEach [] X.env:=by rfl)(dj:(backTo pos (starEach [] X.env)).any (·.1)=false:=by rfl):JE X R (.Call (.Name "sum" p) [e] [] pos) (x8 LG t):=
 gD (Eb hc) SW hm B' ha hg (by decide) (by decide) he dj
def Oa:Dt->Dt->Ms->DQ->Prop:=λd e M q=>∃u xs us,xh d=some u/\lF M e=some xs/\eJ xs=some us/\q (.bl (LF u us)) M
def zW:Dt->Dt->Ms->DQ->Prop:=λd e M q=>∃u xs us,xh d=some u/\lF M e=some xs/\eJ xs=some us/\q (.bl (!LF u us)) M
theorem Rc{K:fI}:ka K (QU K false) Oa:=by intro G0 L0 H0 G L M H v1 v2 d1 d2 q e r n1 n2 ⟨u,xs,us,h1,h2,h3,hq⟩;obtain ⟨rfl,fu⟩:=pS h1 n1;obtain ⟨a,vs,rfl,sq,dn⟩:=km r n2 h2;obtain ⟨rfl,fs⟩:=cQ h3 dn;exact ⟨a,vs,rfl,sq,fu,fs, .bl _,G,L,M,e,r,rfl,hq⟩
theorem Hx{K:fI}:ka K (QU K true) zW:=by intro G0 L0 H0 G L M H v1 v2 d1 d2 q e r n1 n2 ⟨u,xs,us,h1,h2,h3,hq⟩;obtain ⟨rfl,fu⟩:=pS h1 n1;obtain ⟨a,vs,rfl,sq,dn⟩:=km r n2 h2;obtain ⟨rfl,fs⟩:=cQ h3 dn;exact ⟨a,vs,rfl,sq,fu,fs, .bl _,G,L,M,e,r,rfl,hq⟩
theorem xZ(ja:JE X R a ta)(jb:JE X R b tb)(hm:behindInMarks .In b=false:=by rfl):JT X R (.Compare a [.In] [b] pos) (kx (dw Oa ta tb)):=eU Bp Rc ja jb hm
theorem sH(ja:JE X R a ta)(jb:JE X R b tb)(hm:behindInMarks .NotIn b=false:=by rfl):JT X R (.Compare a [.NotIn] [b] pos) (kx (dw zW ta tb)):=eU uh Hx ja jb hm
end
theorem Inv.rJ{X:Cx}{γ:List (Addr×Obj)}{σ:St}{H:Hp}{s:Shared}{h':Heap}{its:List Addr}{T:Addr}{o:HO}{t':Nat}(I:Inv X γ σ H s)(k:∀b u,b∉its->s.heap.get? b=some u->h'.get? b=some u)(f:∀b∈its,oR X γ H b)(hT:s.heap.objs.size<=T)(new:aP X.prog X.w (upd H T o) h' T o):
  Inv X γ σ (upd H T o) {s with heap:=h',toks:=t'}:=by
 have hn:=I.aC.fresh hT;have NJ:∀b u,H b=some u->b∉its:=λb u e z=>by rw [(f b z).1] at e;cases e
 refine I.call (ch:=its) (g':=s.gens) (d':=s.drawn) (t':=t') ⟨λb u q _ _ hb=>k b u hb q,λb u q _ _ hb=>⟨u.slots,k b u hb q⟩,λb u q n _=> ?_,λb u q hb=>⟨u,k b u hb q⟩,λb xs q=> ?_,λb u xs q=> ?_,λb ps q=>⟨#[], ?_⟩⟩ (λb u e=> ?_) I.bare λb hb=> ?_
 ·rw [Γ (aaI (aam (aai q) hT))];exact n
 ·rw [Γ (bh q hn)];exact q
 ·rw [Γ (bh q hn)];exact q
 ·rw [Γ (bh q hn),q];simp
 ·by_cases hb:b=T
  ·subst hb;rw [Ω] at e;cases e;exact new
  ·rw [Γ hb] at e;refine (I.aC b u e).wL (λc v hc q=>k c v ?_ q) (λc q=>by rw [Γ (bh q hn)];exact q) λc xs q=>by rw [Γ (bh q hn)];exact q
   rcases hc with z | z
   ·rw [z];exact NJ b u e
   ·exact NJ c _ z
 ·obtain ⟨f0,f1,f2,f3,f4,f5⟩:=f b hb;exact ⟨f3,f1,f4,f5⟩
def VM(K:fI)(l:Addr):It:=
 ⟨λi H=>∃xs x,fc K H l xs/\xs[i]? =some x,λi H v H'=>∃p x,H p=none/\v= .ref p/\H'=upd H p (.tup [.int i,x])/\∀xs,fc K H l xs->xs[i]? =some x,λi H=>∃xs,fc K H l xs/\xs.length<=i⟩
theorem BV{P:Program}{w:World}{K:fI}{elts:List Expr}{x1:Nat}{tp:Pos}(l it e:Addr)(EW:e≠it):vq P w K (.Tuple elts x1 tp) (VM K l) [e,it] e (λi h=>(∃old,IsEnum h e it i old)/\h.IsListIter it l i) where
 mem:=by simp
 obj:=λi h st b hb=>by
  obtain ⟨⟨old,he⟩,hi⟩:=st;rcases aar.mp hb with rfl | hb
  ·exact ⟨_,he,λv z=>by
    have z':Data.fields _=Data.cell v:=z
    cases z'⟩
  ·have e:b=it:=by simpa using hb
   subst e;obtain ⟨o,e,c,d⟩:=hi;exact ⟨o,e,λv z=>by rw [d] at z;cases z⟩
 keep:=λi h h' st k=>by obtain ⟨⟨old,he⟩,hi⟩:=st;exact ⟨⟨old,k e (by simp) _ he⟩,hi.at λo q=>k it (by simp) o q⟩
 item:=by
  intro X hP hw hK hc i γ s σ H E I hf st hg;subst hP hw hK;obtain ⟨⟨old,he⟩,hi⟩:=st;obtain ⟨xs,x,hq,hx⟩:=hg;obtain ⟨its,rv,p,hz⟩:=I.list hq;obtain ⟨u,hu,ru⟩:=rv.get hx;refine wpAny_pyNext_enum_item he hi p.isList (x:=u) (by simpa using hu) EW λh' ho Uu hT hsz hk=> ?_;refine ⟨_,rfl,wpAny_letOwnedTupleGo_enum (s:={s with heap:=h',toks:=s.toks+1}) ho λh2 XY sb=> ?_⟩;have sb:Heap.SameBut e h' h2:=sb;have elt:e < s.heap.objs.size:=aai he;have Z5:it < s.heap.objs.size:=by obtain ⟨o,q,_⟩:=hi;exact aai q
  have neT:s.heap.objs.size≠e:=abM elt;have hT2:h2.get? s.heap.objs.size=some {cls:= .type "tuple",data:= .seq #[.int i s.toks,u]}:=(sb.2 _ neT).trans hT;have I2:Inv X γ σ (upd H s.heap.objs.size (.tup [.int i,x])) {s with heap:=h2,toks:=s.toks+1}:=by
   refine I.rJ (its:=[e,it]) (λb o hb q=> ?_) hf (aak _) ?_
   ·have h1:b≠e:=λz=>hb (by simp [z]);have h3:b≠it:=λz=>hb (by simp [z]);exact (sb.2 b h1).trans (hk b o h1 h3 q)
   ·refine ⟨by simp [sizeLine_eq],[.int i s.toks,u], .cons ⟨_,rfl⟩ (.cons ru .nil), ?_⟩;exact ⟨_,hT2,rfl,0,rfl⟩
  have iter:h2.IsListIter it l (i+1):=Uu.at λo q=>(sb.2 it (Ne.symm EW)).trans q;refine ⟨.ref s.heap.objs.size,_,I2,rfl,⟨s.heap.objs.size,x,I.aC.fresh (Nat.le_refl _),rfl,rfl,λys hy=>by rw [I.j2 hy hq];exact hx⟩,⟨⟨u,by simpa using XY⟩,iter⟩,λb hb=> ?_⟩;have nb:b≠s.heap.objs.size:=by
   rcases aar.mp hb with rfl | hb
   ·exact aaI elt
   ·have:b=it:=by simpa using hb
    subst this;exact aaI Z5
  rw [Γ nb];exact (hf b hb).1
 done:=by intro X hP hw hK hc i γ s σ H E I hf st hg;subst hP hw hK;obtain ⟨⟨old,he⟩,hi⟩:=st;obtain ⟨xs,hq,hx⟩:=hg;obtain ⟨its,rv,p,hz⟩:=I.list hq;have hl:=rv.length;obtain ⟨f0,f1,f2,f3,f4,f5⟩:=hf it (by simp);refine wpAny_pyNext_enum_end (I.ok.hd hc) he hi p.isList (by simp;omega) λh' ext=>⟨rfl,I.turned (t':=s.toks) (λb o hb q=>ext b o hb q) f0 f1 f3 f4 f5⟩
 self:=λ_ _ _ _ _ st h=>by obtain ⟨⟨old,he⟩,_⟩:=st;exact wpAny_pyIter_enum he h
def g6:Nat->List Dt->List Dt
 | _,[]=>[]
 | n,x::xs=> .tup [.int n,x]::g6 (n+1) xs
theorem j':∀(n:Nat) (xs:List Dt),(g6 n xs).length=xs.length
 | _,[]=>rfl
 | n,_::xs=>by unfold g6;rw [List.length_cons,List.length_cons,j']
theorem sN:∀{n i:Nat} {xs:List Dt} {d:Dt},(g6 n xs)[i]? =some d->∃x,xs[i]? =some x/\d= .tup [.int ((n+i:Nat):Int),x]
 | n,i,[],d,h=>by simp [g6] at h
 | n,0,x::xs,d,h=>by unfold g6 at h;simp at h;exact ⟨x,rfl,by rw [<-h];simp⟩
 | n,i+1,x::xs,d,h=>by unfold g6 at h;obtain ⟨y,h1,h2⟩:=sN (n:=n+1) (i:=i) (xs:=xs) (d:=d) (by simpa using h);exact ⟨y,by simpa using h1,by rw [h2,show n+1+i=n+(i+1) by omega]⟩
theorem Ew{K:fI}{G:Hp}{L:List Addr}{a:Addr}{xs:List Dt}{ok:Ms->Prop}(s:Src K a xs ok G L):Mu K (VM K a) (g6 0 xs) ok G L where
 go:=λi G1 L1 M1 H1 d g l r k e=>by obtain ⟨vs,hs,n⟩:=s.at_ G1 L1 M1 H1 g l r k;obtain ⟨y,ey,rfl⟩:=sN e;obtain ⟨v,e1,n1⟩:=n.get ey;refine ⟨⟨vs,v,hs,e1⟩,λv' H' ⟨p,x,hp,ev,eH,hx⟩=> ?_⟩;subst ev eH;have e2:=hx vs hs;rw [e1] at e2;cases e2;refine ⟨_,r.L9 hp,r.Dh hp,iP (ds:=[.int ((0+i:Nat):Int),y]) r hp ⟨_,_,rfl, ?_,_,_,rfl,n1,rfl⟩⟩;show V.int i=V.int _;rw [Nat.zero_add]
 stop:=λi G1 L1 M1 H1 g l r k e=>by obtain ⟨vs,hs,n⟩:=s.at_ G1 L1 M1 H1 g l r k;exact ⟨vs,hs,by rw [<-n.length,<-j' 0];exact e⟩
def J7(t:DA):DK:=λρ M q x=>t ρ M (λds M1=>∃d xs ok,ds=[d]/\iE M1 d=some (xs,ok)/\q (g6 0 xs) ok M1) x
theorem Aa{X:Cx}{R:St->XK}{elts:List Expr}{x1:Nat}{tp:Pos}{a:Expr}{t:DA}{p pos:Pos}(hm:X.mg "enumerate"=none)(ha:JA X R [a] t)(hg:Gl X "enumerate":=by rfl)(hs:starEach [a] X.env=[(false,eval a X.env)]:=by rfl):JK X R (.Tuple elts x1 tp) (.Call (.Name "enumerate" p) [a] [] pos) (J7 t):=by
 intro γ s σ H Q I ⟨G,L,ρ,M,q,x,rl,n,ht,hx,hQ⟩;refine Call_ (l7 I hg hm yA (PyProof.Rows.callWith_type1 (aY (ha pos γ s σ H (Jl X.K G L H _) I ⟨G,L,ρ,M,_,x,rl,n,ht,hx,λ_ _ f=>f⟩) λus s1 ⟨vs,H1,I1,rv,ds,G1,L1,M1,e1,r1,n1,d,xs,ok,ed,hl,h1⟩=> ?_) hs rfl));subst ed;obtain ⟨v,rfl,n2⟩:=ax n1;obtain ⟨b,ws,rfl,sq,sr,_⟩:=oW r1 n2 hl;obtain ⟨u,rfl,ru⟩:=Φ.one rv;cases ru;obtain ⟨its,_,pl,_⟩:=I1.list sq;refine call_enumerate_list pl.isList λh' he hi hz hk=> ?_;have I2:Inv X γ σ H1 {s1 with heap:=h'}:=I1.kept (t':=s1.toks) hk;refine wpAny_pyIter_enum (s:={s1 with heap:=h'}) he ⟨s1.heap.objs.size+1,[s1.heap.objs.size+1,s1.heap.objs.size],_,_,H1,rfl,I2,BV b s1.heap.objs.size (s1.heap.objs.size+1) (abM (Nat.lt_succ_self _)),⟨⟨_,he⟩,hi⟩,λc hc=> ?_,hQ _ _ ⟨_,ok,G1,L1,M1,e1,r1,Ew sr,h1⟩⟩;have hc:s1.heap.objs.size<=c:=by
  rcases aar.mp hc with rfl | hc
  ·exact Nat.le_succ _
  ·have:c=s1.heap.objs.size:=by simpa using hc
   rw [this];exact aak _
 have f:=I1.BR (H':=H1) hc (I1.aC.fresh hc);exact f
section
variable{X:Cx}{R:St->XK}{e e2:Expr}{t:DA}{p pos:Pos}
theorem sv:∀{zs:List Str} {us:List Value},Paired (λ(z:Str) (u:Value)=>∃tk,u= .str z tk) zs us->Φ (zs.map V.str) us
 | _,_, .nil=> .nil
 | _,_, .cons h t=> .cons h (sv t)
theorem zP{x:Str}{zs:List Str}(hm:∃a o its n,X.mg x=some (.ref a)/\X.K.lookup a=some o/\o.cls= .type "tuple"/\o.data= .seq its n/\its.size<=sizeLine/\Paired (λ(z:Str) (u:Value)=>∃tk,u= .str z tk) zs its.toList)(hg:Gl X x:=by rfl)(hd:(x==("__debug__":Str))=false:=by decide):JE X R (.Name x pos) (dC (.kt (zs.map .str))):=by obtain ⟨a,o,its,n,h1,h2,h3,h4,h5,h6⟩:=hm;exact IZ (v:= .ref a) (n6 hg h1 rfl hd) λG L=>⟨a,zs.map V.str,rfl, .inr ⟨o,its,n,h2,h3,h4,h5,sv h6⟩,iJ⟩
end
theorem dY{te:DE}{cs:En}{ok:Ms->Prop}{f:Dt->Dt}:∀{xs Ο:List Dt} {M:Ms} {k:List Dt->Ms->Prop},ok M->(∀x∈xs,∀q:DQ,q (f x) M->te (some x::cs) M q gT)->k (Ο++xs.map f) M->cD te cs ok xs Ο M k
 | [],Ο,M,k,ho,_,h=>⟨ho,by simpa using h⟩
 | x::xs,Ο,M,k,ho,hf,h=>⟨ho,hf x List.mem_cons_self _ (dY ho (λy hy=>hf y (List.mem_cons_of_mem _ hy)) (by simpa using h))⟩
theorem d_{g:Dt->En->(En->Prop)->Prop}{tb:DS}{Dn:mX}{ok:Ms->Prop}(J:List Dt->En->Ms->Prop)(aC:∀xs ρ M,J xs ρ M->ok M)
  (step:∀x xs ρ M,J (x::xs) ρ M->(∀ρ M,J xs ρ M->uy g tb Dn ok xs ρ M)->g x ρ λρ'=>tb {Dn with nx:=uy g tb Dn ok xs,ct:=uy g tb Dn ok xs,bk:=Dn.nx} ρ' M)
  (fin:∀ρ M,J [] ρ M->Dn.nx ρ M):∀(xs:List Dt) (ρ:En) (M:Ms),J xs ρ M->uy g tb Dn ok xs ρ M
 | [],ρ,M,h=>⟨aC _ _ _ h,fin _ _ h⟩
 | x::xs,ρ,M,h=>⟨aC _ _ _ h,step x xs ρ M h λρ' M' h'=>d_ J aC step fin xs ρ' M' h'⟩
section
variable{K:fI}{G:Hp}{L:List Addr}
mutual
theorem K8:∀(d:Dt) (v:V),Den K G L d v->d.under L.length
 | .bw,_,_=>trivial
 | .bl _,_,_=>trivial
 | .int _,_,_=>trivial
 | .str _,_,_=>trivial
 | .tup ds,_,⟨a,vs,e,h1,h2⟩=>cZ ds vs h2
 | .lst ds,_,⟨a,vs,e,h1,h2⟩=>cZ ds vs h2
 | .obj C ns ds,_,⟨a,dx,vs,e,h1,hl,h2⟩=>cZ ds vs h2
 | .loc k,_,⟨a,e,h1⟩=>(aag.mp h1).1
 | .ref _,_,_=>trivial
 | .ty _,_,_=>trivial
 | .nF _,_,_=>trivial
 | .kt ds,_,⟨a,vs,e,h1,h2⟩=>cZ ds vs h2
 | .exc _ _ ds,_,⟨a,od,vs,e,h1,h2,h3,h4⟩=>cZ ds vs h4
 | .Nl _ _ _ _ ds,_,⟨vs,e,h2,h3,h4⟩=>cZ ds vs h4
theorem cZ:∀(ds:List Dt) (vs:List V),Ι K G L ds vs->Dt.bD L.length ds
 | [],_,_=>trivial
 | d::ds,_,⟨v,r,e,h1,h2⟩=>⟨K8 d v h1,cZ ds r h2⟩
end
theorem Rl.un{M:Ms}{H:Hp}(r:Rl K G L M H):∀m∈M,MO.under M.length m:=λm hm=>by
 obtain ⟨k,hk,e⟩:=List.getElem_of_mem hm;have em:M[k]? =some m:=by rw [aac hk,e]
 have el:L[k]? =some (L[k]'(by rw [r.len];exact hk)):=aac _;obtain ⟨_,q⟩:=r.gW k _ m el em;rw [<-r.len];cases m with
 | lst ds=>obtain ⟨vs,_,h⟩:=q;exact cZ _ _ h
 | ins C ns ds=>obtain ⟨dx,vs,_,_,h⟩:=q;exact cZ _ _ h
 | dt ks ds=>obtain ⟨vs,_,_,h⟩:=q;exact cZ _ _ h
 | raw u=>trivial
end
def yz(M0:Ms)(q:DQ):DQ:=λd M=>∃E d',M=M0++E/\C3 M0.length E d d'/\q d' M0
theorem Fin.yz{K:fI}{G0:Hp}{L0:List Addr}{M0:Ms}{H0:Hp}{q:DQ}{v:V}{H:Hp}(r0:Rl K G0 L0 M0 H0)(f:Fin K G0 L0 H0 (yz M0 q) v H):Fin K G0 L0 H0 q v H:=by obtain ⟨d,G,L,M,ex,r,dn,E,d',e,fz,hq⟩:=f;exact Fin.uo r0 ⟨d,G,L,M,ex,r,dn,M0,E,d',e,rfl,r0.un,fz,hq⟩
def Ni(t:DE):DE:=λρ M q x=>t ρ M (yz M q) x
theorem dF{X:Cx}{R:St->XK}{e:Expr}{t:DE}(h:JE X R e t):JE X R e (Ni t):= .of h λσ H G L ρ M q x rl n ht hx=>⟨G,L,ρ,M,_,x,rl,n,ht,hx,λv H1 f=>Fin.yz rl f⟩
theorem Hw{M0:Ms}{q:DQ}{d:Dt}(hu:d.under M0.length)(h:q d M0):yz M0 q d M0:=⟨[],d,by simp, .old hu,h⟩
theorem cW{M0 E:Ms}{q:DQ}{d d':Dt}(f:C3 M0.length E d d')(h:q d' M0):yz M0 q d (M0++E):=⟨E,d',rfl,f,h⟩
def dM(f:Expr->Option Dt):List Expr->Option (List Dt)
 | []=>some []
 | e::es=>match f e,dM f es with
  | some d,some ds=>some (d::ds)
  | _,_=>none
def eh:Nat->Expr->Option Dt
 | 0,e=>match e with
  | .Constant (.int i) _ _=>some (.int i)
  | .Constant (.str x) _ _=>some (.str x)
  | _=>none
 | n+1,e=>match e with
  | .Constant (.int i) _ _=>some (.int i)
  | .Constant (.str x) _ _=>some (.str x)
  | .Tuple es _ _=>if es.length<=100 then (dM (eh n) es).map .tup else none
  | .List es _=>if es.length<=100 then (dM (eh n) es).map .lst else none
  | _=>none
theorem zj{n:Nat}{e:Expr}{d:Dt}{es:List Expr}{env:Env}(h:eh n e=some d):starEach (e::es) env=(false,eval e env)::starEach es env:=by cases n <;> (unfold eh at h;split at h <;> first | rfl | cases h)
theorem il{f:Expr->Option Dt}:∀{es:List Expr} {ds:List Dt},dM f es=some ds->ds.length=es.length
 | [],ds,h=>by cases h;rfl
 | e::es,ds,h=>by
  unfold dM at h;split at h
  ·rename_i d CZ h1 h2;cases h;rw [aaz,aaz,il h2]
  ·cases h
section
variable{X:Cx}{R:St->XK}
theorem qp{n:Nat}(ih:∀(e:Expr) (d:Dt),eh n e=some d->JE X R e (dC d)):∀(es:List Expr) (ds:List Dt),dM (eh n) es=some ds->JA X R es (λ_ M q _=>q ds M)
 | [],ds,h=>by cases h;exact ζ
 | e::es,ds,h=>by
  unfold dM at h;split at h
  ·rename_i d CZ h1 h2;cases h;exact ε (ih e d h1) (qp ih es CZ h2) (hs:=zj h1)
  ·cases h
theorem A0{n:Nat}(h:n<=100):n<=sizeLine:=aaq h (by decide)
theorem JE.imp{e:Expr}{t t':DE}(h:JE X R e t)(hi:∀ρ M q x,t' ρ M q x->t ρ M q x):JE X R e t':= .of h λσ H G L ρ M q x rl n ht hx=>⟨G,L,ρ,M,q,x,rl,n,hi _ _ _ _ ht,hx,λ_ _ f=>f⟩
theorem gq:∀(n:Nat) {e:Expr} {d:Dt},eh n e=some d->JE X R e (dC d)
 | 0,e,d,h=>by
  unfold eh at h;split at h
  ·cases h;exact θ
  ·cases h;exact Ψ
  ·cases h
 | n +1,e,d,h=>by
  unfold eh at h;split at h
  ·cases h;exact θ
  ·cases h;exact Ψ
  ·split at h
   ·rename_i es _ _ hl;cases hc:dM (eh n) es with
    | none=>rw [hc] at h;cases h
    | some ds=>
     rw [hc] at h;cases h;exact (aW (qp (λe d=>gq n) es ds hc)).imp λρ M q x hq=>⟨A0 (by rw [il hc];exact hl),hq⟩
   ·cases h
  ·split at h
   ·rename_i es _ hl;cases hc:dM (eh n) es with
    | none=>rw [hc] at h;cases h
    | some ds=>
     rw [hc] at h;cases h;exact (Au (qp (λe d=>gq n) es ds hc)).imp λρ M q x hq=>⟨A0 (by rw [il hc];exact hl),hq⟩
   ·cases h
  ·cases h
end
theorem BU:bootBuiltins "zip"=some (.type "zip"):=by decide+kernel
theorem Inv.HE{X:Cx}{γ:List (Addr×Obj)}{σ:St}{H:Hp}{s:Shared}{h':Heap}{its:List Addr}{t':Nat}(I:Inv X γ σ H s)(k:∀b u,b∉its->s.heap.get? b=some u->h'.get? b=some u)(f:∀b∈its,oR X γ H b):
  Inv X γ σ H {s with heap:=h',toks:=t'}:=by
 have NJ:∀b u,H b=some u->b∉its:=λb u e z=>by rw [(f b z).1] at e;cases e
 refine I.call (ch:=its) (g':=s.gens) (d':=s.drawn) (t':=t') ⟨λb u q _ _ hb=>k b u hb q,λb u q _ _ hb=>⟨u.slots,k b u hb q⟩,λb u q n _=>n,λb u q hb=>⟨u,k b u hb q⟩,λb xs q=>q,λb u xs q=>q,λb ps q=>⟨#[],by rw [q];simp⟩⟩ (λb u e=> ?_) I.bare λb hb=> ?_
 ·refine (I.aC b u e).wL (λc v hc q=>k c v ?_ q) (λc q=>q) λc xs q=>q;rcases hc with z | z
  ·rw [z];exact NJ b u e
  ·exact NJ c _ z
 ·obtain ⟨f0,f1,f2,f3,f4,f5⟩:=f b hb;exact ⟨f3,f1,f4,f5⟩
def U9(K:fI)(l1 l2:Addr):It:=
 ⟨λi H=>∃xs ys x y,fc K H l1 xs/\fc K H l2 ys/\xs[i]? =some x/\ys[i]? =some y,
  λi H v H'=>∃p x y,H p=none/\v= .ref p/\H'=upd H p (.tup [x,y])/\(∀xs,fc K H l1 xs->xs[i]? =some x)/\∀ys,fc K H l2 ys->ys[i]? =some y,
  λi H=>∃xs ys,fc K H l1 xs/\fc K H l2 ys/\(xs.length<=i\/ys.length<=i)⟩
theorem EB{P:Program}{w:World}{K:fI}{elts:List Expr}{x1:Nat}{tp:Pos}{l1 l2 i1 i2 TI TO z:Addr}(D:ZipApart z TI TO i1 i2 l1 l2):vq P w K (.Tuple elts x1 tp) (U9 K l1 l2) [z,TI,TO,i1,i2] z (λi h=>(∃a b,IsZip h z TI TO .none/\IsPair h TI (.ref i1) (.ref i2)/\IsPair h TO a b)/\h.IsListIter i1 l1 i/\h.IsListIter i2 l2 i) where
 mem:=by simp
 obj:=λi h st b hb=>by
  obtain ⟨⟨a,c,hz,E5,GK⟩,h1,h2⟩:=st;simp only [List.mem_cons,List.not_mem_nil,or_false] at hb;rcases hb with rfl | rfl | rfl | rfl | rfl
  ·exact ⟨_,hz,λv z=>by
    have z':Data.fields _=Data.cell v:=z
    cases z'⟩
  ·exact ⟨_,E5,λv z=>by
    have z':Data.seq _=Data.cell v:=z
    cases z'⟩
  ·exact ⟨_,GK,λv z=>by
    have z':Data.seq _=Data.cell v:=z
    cases z'⟩
  ·obtain ⟨o,e,c,d⟩:=h1;exact ⟨o,e,λv z=>by rw [d] at z;cases z⟩
  ·obtain ⟨o,e,c,d⟩:=h2;exact ⟨o,e,λv z=>by rw [d] at z;cases z⟩
 keep:=λi h h' st k=>by obtain ⟨⟨a,c,hz,E5,GK⟩,h1,h2⟩:=st;exact ⟨⟨a,c,k z (by simp) _ hz,k TI (by simp) _ E5,k TO (by simp) _ GK⟩,h1.at λo q=>k i1 (by simp) o q,h2.at λo q=>k i2 (by simp) o q⟩
 item:=by
  intro X hP hw hK hc i γ s σ H E I hf st hg;subst hP hw hK;obtain ⟨⟨a,c,hz,E5,GK⟩,h1,h2⟩:=st;obtain ⟨xs,ys,x,y,QL,QJ,hx,hy⟩:=hg;obtain ⟨Sx,Sv,p1,_⟩:=I.list QL;obtain ⟨u1,Z',ZZ⟩:=Sv.get hx;obtain ⟨F0,Uk,p2,_⟩:=I.list QJ;obtain ⟨u2,hu2,ZH⟩:=Uk.get hy;refine wpAny_pyNext_zip_item D hz E5 GK h1 h2 p1.isList p2.isList (x:=u1) (y:=u2) (by simpa using Z') (by simpa using hu2) λh' KD Rb VL h2' hT hsz hk=> ?_;refine ⟨_,rfl,wpAny_letOwnedTupleGo_zip (s:={s with heap:=h'}) KD λh3 W3 sb=> ?_⟩;have sb:Heap.SameBut z h' h3:=sb;have VY:z < s.heap.objs.size:=aai hz;have neT:s.heap.objs.size≠z:=abM VY;have Z3:h3.get? s.heap.objs.size=some {cls:= .type "tuple",data:= .seq #[u1,u2]}:=(sb.2 _ neT).trans hT;have lt:∀b∈[z,TI,TO,i1,i2],b < s.heap.objs.size:=λb hb=>by
   simp only [List.mem_cons,List.not_mem_nil,or_false] at hb;rcases hb with rfl | rfl | rfl | rfl | rfl
   ·exact VY
   ·exact aai E5
   ·exact aai GK
   ·obtain ⟨o,q,_⟩:=h1;exact aai q
   ·obtain ⟨o,q,_⟩:=h2;exact aai q
  have I2:Inv X γ σ (upd H s.heap.objs.size (.tup [x,y])) {s with heap:=h3,toks:=s.toks}:=by
   refine I.rJ (its:=[z,TI,TO,i1,i2]) (λb o hb q=> ?_) hf (aak _) ?_
   ·simp only [List.mem_cons,List.not_mem_nil,or_false,not_or] at hb;obtain ⟨b1,b2,b3,b4,b5⟩:=hb;exact (sb.2 b b1).trans (hk b o b1 b3 b4 b5 q)
   ·refine ⟨by simp [sizeLine_eq],[u1,u2], .cons ZZ (.cons ZH .nil), ?_⟩;exact ⟨_,Z3,rfl,0,rfl⟩
  refine ⟨.ref s.heap.objs.size,_,I2,rfl,⟨s.heap.objs.size,x,y,I.aC.fresh (aak _),rfl,rfl,λzs Ue=>by rw [I.j2 Ue QL];exact hx,λzs Ue=>by rw [I.j2 Ue QJ];exact hy⟩,⟨⟨u1,u2,W3,(sb.2 _ D.TIz).trans (hk _ _ D.TIz D.TITO D.TIi1 D.TIi2 E5),(sb.2 _ D.TOz).trans Rb⟩,VL.at λo q=>(sb.2 i1 D.i1z).trans q,h2'.at λo q=>(sb.2 i2 D.i2z).trans q⟩,λb hb=> ?_⟩;rw [Γ (aaI (lt b hb))];exact (hf b hb).1
 done:=by intro X hP hw hK hc i γ s σ H E I hf st hg;subst hP hw hK;obtain ⟨⟨a,c,hz,E5,GK⟩,h1,h2⟩:=st;obtain ⟨xs,ys,QL,QJ,hx⟩:=hg;obtain ⟨Sx,Sv,p1,_⟩:=I.list QL;obtain ⟨F0,Uk,p2,_⟩:=I.list QJ;have Jv:=Sv.length;have Jg:=Uk.length;refine wpAny_pyNext_zip_end (I.ok.hd hc) D hz E5 GK h1 h2 p1.isList p2.isList (by rcases hx with hx | hx;(left;simp;omega);(right;simp;omega)) λh' ext=>⟨rfl,I.HE (t':=s.toks) (its:=[z,TI,TO,i1,i2]) (λb o hb q=> ?_) hf⟩;simp only [List.mem_cons,List.not_mem_nil,or_false,not_or] at hb;obtain ⟨b1,b2,b3,b4,b5⟩:=hb;exact ext b o b1 b3 b4 b5 q
 self:=λ_ _ _ _ _ st h=>by obtain ⟨⟨a,c,hz,_,_⟩,_⟩:=st;exact wpAny_pyIter_zip hz h
def xp(xs ys:List Dt):List Dt:=(xs.zip ys).map λp=> .tup [p.1,p.2]
theorem Fd{xs ys:List Dt}{i:Nat}{d:Dt}(h:(xp xs ys)[i]? =some d):∃x y,xs[i]? =some x/\ys[i]? =some y/\d= .tup [x,y]:=by
 unfold xp at h;rw [aaF] at h;cases e:(xs.zip ys)[i]? with
 | none=>rw [e] at h;cases h
 | some p=>
  rw [e] at h;cases h;obtain ⟨h1,h2⟩:=List.getElem?_zip_eq_some.mp e;exact ⟨p.1,p.2,h1,h2,rfl⟩
theorem wR(xs ys:List Dt):(xp xs ys).length=min xs.length ys.length:=by unfold xp;rw [List.length_map,List.length_zip]
theorem Ia{K:fI}{G:Hp}{L:List Addr}{a b:Addr}{xs ys:List Dt}{ok Nj:Ms->Prop}(s:Src K a xs ok G L)(s':Src K b ys Nj G L):Mu K (U9 K a b) (xp xs ys) (λM=>ok M/\Nj M) G L where
 go:=λi G1 L1 M1 H1 d g l r k e=>by obtain ⟨vs,hs,n⟩:=s.at_ G1 L1 M1 H1 g l r k.1;obtain ⟨P_,QH,n'⟩:=s'.at_ G1 L1 M1 H1 g l r k.2;obtain ⟨x,y,ex,ey,rfl⟩:=Fd e;obtain ⟨v,e1,n1⟩:=n.get ex;obtain ⟨v',U7,Ts⟩:=n'.get ey;refine ⟨⟨vs,P_,v,v',hs,QH,e1,U7⟩,λw H' ⟨p,x2,y2,hp,ev,eH,hx,hy⟩=> ?_⟩;subst ev eH;have e2:=hx vs hs;rw [e1] at e2;cases e2;have e3:=hy P_ QH;rw [U7] at e3;cases e3;exact ⟨_,r.L9 hp,r.Dh hp,iP (ds:=[x,y]) r hp ⟨_,_,rfl,n1,_,_,rfl,Ts,rfl⟩⟩
 stop:=λi G1 L1 M1 H1 g l r k e=>by obtain ⟨vs,hs,n⟩:=s.at_ G1 L1 M1 H1 g l r k.1;obtain ⟨P_,QH,n'⟩:=s'.at_ G1 L1 M1 H1 g l r k.2;refine ⟨vs,P_,hs,QH, ?_⟩;rw [<-n.length,<-n'.length];rw [wR] at e;omega
def Pe(t:DA):DK:=λρ M q x=>t ρ M (λds M1=>∃d d' xs ys ok Nj,ds=[d,d']/\iE M1 d=some (xs,ok)/\iE M1 d'=some (ys,Nj)/\q (xp xs ys) (λM=>ok M/\Nj M) M1) x
theorem MW{X:Cx}{R:St->XK}{elts:List Expr}{x1:Nat}{tp:Pos}{a a':Expr}{t:DA}{p pos:Pos}(hm:X.mg "zip"=none)(ha:JA X R [a,a'] t)(hg:Gl X "zip":=by rfl)(hs:starEach [a,a'] X.env=(false,eval a X.env)::starEach [a'] X.env:=by rfl)(dj:(backTo pos (starEach [a'] X.env)).any (·.1)=false:=by rfl):JK X R (.Tuple elts x1 tp) (.Call (.Name "zip" p) [a,a'] [] pos) (Pe t):=by
 intro γ s σ H Q I ⟨G,L,ρ,M,q,x,rl,n,ht,hx,hQ⟩;refine Call_ (l7 I hg hm BU (PyProof.Rows.callWith_type1 (aY (ha pos γ s σ H (Jl X.K G L H _) I ⟨G,L,ρ,M,_,x,rl,n,ht,hx,λ_ _ f=>f⟩) λus s1 ⟨vs,H1,I1,rv,ds,G1,L1,M1,e1,r1,n1,d,d',xs,ys,ok,Nj,ed,hl,Zo,h1⟩=> ?_) hs dj));subst ed;obtain ⟨v,v',rfl,n2,Wx⟩:=dk n1;obtain ⟨b,ws,rfl,sq,sr,_⟩:=oW r1 n2 hl;obtain ⟨b',ws',rfl,Zy,Zd,_⟩:=oW r1 Wx Zo;cases rv with
 | cons ru rv=>
  cases rv with
  | cons W0 rv=>
   cases rv;cases ru;cases W0;obtain ⟨its,_,pl,_⟩:=I1.list sq;obtain ⟨its',_,VD,_⟩:=I1.list Zy;have ZI:b < s1.heap.objs.size:=by obtain ⟨o,q,_⟩:=pl.isList;exact aai q
   have Zp:b' < s1.heap.objs.size:=by obtain ⟨o,q,_⟩:=VD.isList;exact aai q
   refine call_zip_2 pl.isList VD.isList λh' hz E5 GK hi Uu hsz hk=> ?_;have I2:Inv X γ σ H1 {s1 with heap:=h'}:=I1.kept (t':=s1.toks) hk;have D:ZipApart (s1.heap.objs.size+4) (s1.heap.objs.size+2) (s1.heap.objs.size+3) s1.heap.objs.size (s1.heap.objs.size+1) b b':=by have ne:∀i j:Nat,i≠j->s1.heap.objs.size+i≠s1.heap.objs.size+j:=λi j h z=>h (Nat.add_left_cancel z);have n1:∀i:Nat,b≠s1.heap.objs.size+i:=λi=>aaI (aam ZI (abj _ _));have n2:∀i:Nat,b'≠s1.heap.objs.size+i:=λi=>aaI (aam Zp (abj _ _));exact ⟨ne 2 4 (by decide),ne 3 4 (by decide),ne 0 4 (by decide),ne 1 4 (by decide),ne 2 3 (by decide),ne 2 0 (by decide),ne 2 1 (by decide),ne 3 0 (by decide),ne 3 1 (by decide),ne 0 1 (by decide),n1 4,n1 3,n1 0,n1 1,n2 4,n2 3,n2 0,n2 1⟩
   refine wpAny_pyIter_zip (s:={s1 with heap:=h'}) hz ⟨s1.heap.objs.size+4,[s1.heap.objs.size+4,s1.heap.objs.size+2,s1.heap.objs.size+3,s1.heap.objs.size,s1.heap.objs.size+1],_,_,H1,rfl,I2,EB D,⟨⟨_,_,hz,E5,GK⟩,hi,Uu⟩,λc hc=> ?_,hQ _ _ ⟨_,_,G1,L1,M1,e1,r1,Ia sr Zd,h1⟩⟩;have hc:s1.heap.objs.size<=c:=by
    simp only [List.mem_cons,List.not_mem_nil,or_false] at hc;rcases hc with rfl | rfl | rfl | rfl | rfl
    ·exact abj _ _
    ·exact abj _ _
    ·exact abj _ _
    ·exact aak _
    ·exact abj _ _
   have f:=I1.BR (H':=H1) hc (I1.aC.fresh hc);exact f
theorem rn(xs:List V)(k:Nat):qN xs (some (k:Int)) none=xs.drop k:=by
 unfold qN;rw [HT.n9,HT.DV];by_cases h:k<=xs.length
 ·rw [Nat.min_eq_left h,aa8 (by rw [aa3];omega)]
 ·rw [Nat.min_eq_right (by omega),List.drop_eq_nil_of_le (Nat.le_refl _),List.drop_eq_nil_of_le (by omega)];simp
def Hh(te tl:DE):DE:=λρ M q x=>te ρ M (λd M1=>tl ρ M1 (λdi M2=>∃ds n,d= .tup ds/\di= .int (n:Nat)/\1<=n/\1<=ds.length/\q (.tup (ds.drop n)) M2) x) x
theorem fP{X:Cx}{R:St->XK}{e l:Expr}{te tl:DE}{pos p2:Pos}(he:JE X R e te)(hl:JE X R l tl):JE X R (.Subscript e (.Slice (some l) none none p2) pos) (Hh te tl):=
 .of (hJ KZ he (iH hl) nV) λσ H G L ρ M q x rl n h hx=>by
  refine ⟨G,L,ρ,M,_,x,rl,n,h,hx,λv H1 ⟨d1,G1,L1,M1,e1,r1,n1,h1⟩=> ?_⟩;refine ⟨G1,L1,ρ,M1,_,x,r1,n.mono e1,h1,hx.on e1,λv2 H2 ⟨d2,G2,L2,M2,e2,r2,n2,ds,k,ed,ei,k1,l1,h2⟩=> ?_⟩;subst ed ei;obtain ⟨a,vs,rfl,ea,m⟩:=Den.mono e2.g e2.l _ _ n1;have n2:v2= .int k:=n2;subst n2;have lv:=m.length;refine ⟨k,rfl,a,vs,rfl, .of (r2.sub _ _ ea),λz=> ?_,λp hp=> ?_⟩
  ·rw [HT.n9] at z;omega
  ·rw [rn];exact c_ (e1.trans e2) r2 hp (iP r2 hp (Ι.of (j5 k m.pair))) h2
section
variable{κ:Type} [DecidableEq κ]
def gu(kvs:List (κ×V))(k:κ):Option V:=(kvs.find? λkv=>decide (kv.1=k)).map (·.2)
def gf(kvs:List (κ×V))(k:κ)(v:V):List (κ×V):=
 if (kvs.any λkv=>decide (kv.1=k))=true then kvs.map (λkv=>if kv.1=k then (kv.1,v) else kv) else kvs++[(k,v)]
def gK(kvs:List (κ×V))(k:κ):List (κ×V):=kvs.filter λkv=>decide (kv.1≠k)
theorem cI{p:κ×V}{r:List (κ×V)}{k:κ}(e:p.1=k):gu (p::r) k=some p.2:=by simp [gu,List.find?_cons,e]
theorem cJ{p:κ×V}{r:List (κ×V)}{k:κ}(e:¬p.1=k):gu (p::r) k=gu r k:=by simp [gu,List.find?_cons,e]
theorem kg(k:κ):∀kvs:List (κ×V),(kvs.any λkv=>decide (kv.1=k))=(gu kvs k).isSome
 | []=>rfl
 | p::r=>by
  rw [abm];by_cases e:p.1=k
  ·simp only [cI e,decide_eq_true e,Bool.true_or,Option.isSome_some]
  ·rw [cJ e,aaC e,Bool.false_or];exact kg k r
theorem sF(k j:κ)(y:V):∀kvs:List (κ×V),gu kvs k=none->gu (kvs++[(k,y)]) j=if j=k then some y else gu kvs j
 | [],_=>by
  by_cases e:k=j
  ·rw [aaD e.symm];exact cI (p:=(k,y)) e
  ·rw [aaA (λz=>e z.symm)];exact cJ (p:=(k,y)) e
 | p::r,hn=>by
  rw [List.cons_append];have hk:¬p.1=k:=λz=>by rw [cI z] at hn;cases hn
  rw [cJ hk] at hn;have ih:=sF k j y r hn;by_cases e:p.1=j
  ·rw [cI e,cI e,aaA (λz=>hk (e.trans z))]
  ·rw [cJ e,cJ e,ih]
theorem iz(kvs:List (κ×V))(k:κ)(v:V):(gf kvs k v).length<=kvs.length+1:=by
 unfold gf;split
 ·rw [aaa];omega
 ·rw [aab,aaz,List.length_nil];omega
theorem D0{kvs:List (κ×V)}{k:κ}(v:V)(h:gu kvs k=none):gf kvs k v=kvs++[(k,v)]:=by unfold gf;rw [kg,h];exact aaA (by decide)
theorem iC.fT{o:Option V}{u:Option Value}(r:iC o u):o.isSome=u.isSome:=by
 cases o with
 | none=>cases u with
  | none=>rfl
  | some _=>exact (show False from r).elim
 | some _=>cases u with
  | none=>exact (show False from r).elim
  | some _=>rfl
theorem KV.val{kvs:List (κ×V)}{vs:List (κ×Value)}(r:KV kvs vs)(k:κ):iC (gu kvs k) (valueAt vs k):=by
 unfold KV at r
 induction r with
 | nil=>exact True.intro
 | @cons p q ps qs h t ih=>
  obtain ⟨h1,h2⟩:=h;by_cases e:p.1=k
  ·have e':q.1=k:=h1.symm.trans e;have b:valueAt (q::qs) k=some q.2:=by simp [valueAt,List.find?_cons,e']
   rw [cI e,b];exact h2
  ·have e':¬q.1=k:=λz=>e (h1.trans z);have b:valueAt (q::qs) k=valueAt qs k:=by simp [valueAt,List.find?_cons,e']
   rw [cJ e,b];exact ih
theorem KV.any{kvs:List (κ×V)}{vs:List (κ×Value)}(r:KV kvs vs)(k:κ):(kvs.any λkv=>decide (kv.1=k))=vs.any λkv=>decide (kv.1=k):=by
 unfold KV at r
 induction r with
 | nil=>rfl
 | cons h t ih=>rw [abm,abm,ih,h.1]
theorem KV.L6{kvs:List (κ×V)}{vs:List (κ×Value)}(r:KV kvs vs)(k:κ){y:V}{u:Value}(ry:ah y u):
  KV (kvs.map λkv=>if kv.1=k then (kv.1,y) else kv) (vs.map λkv=>if kv.1=k then (kv.1,u) else kv):=by
 unfold KV at r⊢
 induction r with
 | nil=>exact .nil
 | @cons p q ps qs h t ih=>
  rw [aaB,aaB];refine .cons ?_ ih;obtain ⟨h1,h2⟩:=h;by_cases e:p.1=k
  ·rw [aaD e,aaD (h1.symm.trans e)];exact ⟨h1,ry⟩
  ·rw [aaA e,aaA (λz=>e (h1.trans z))];exact ⟨h1,h2⟩
theorem KV.put{kvs:List (κ×V)}{vs:List (κ×Value)}(r:KV kvs vs)(k:κ){y:V}{u:Value}(ry:ah y u):KV (gf kvs k y) (stored vs k u):=by
 unfold gf stored;rw [r.any k];by_cases e:(vs.any λkv=>decide (kv.1=k))=true
 ·rw [aaD e,aaD e];exact r.L6 k ry
 ·rw [aaA e,aaA e];exact Paired.snoc r ⟨rfl,ry⟩
theorem KV.drop{kvs:List (κ×V)}{vs:List (κ×Value)}(r:KV kvs vs)(k:κ):KV (gK kvs k) (without vs k):=by
 unfold KV at r⊢;unfold gK without
 induction r with
 | nil=>exact .nil
 | @cons p q ps qs h t ih=>
  obtain ⟨h1,h2⟩:=h;rw [abk,abk];by_cases e:p.1=k
  ·have a:¬decide (p.1≠k)=true:=by simp [e]
   have b:¬decide (q.1≠k)=true:=by simp [h1.symm.trans e]
   rw [aaA a,aaA b];exact ih
  ·have e':¬q.1=k:=λz=>e (h1.trans z);have a:decide (p.1≠k)=true:=by simp [e]
   have b:decide (q.1≠k)=true:=by simp [e']
   rw [aaD a,aaD b];exact .cons ⟨h1,h2⟩ ih
theorem KV.length{kvs:List (κ×V)}{vs:List (κ×Value)}(r:KV kvs vs):kvs.length=vs.length:=Paired.length r
theorem FX(kvs:List (κ×V))(k:κ):(gK kvs k).length<=kvs.length:=List.length_filter_le _ _
end
theorem oY{P:Program}{w:World}{k:Key}{u:Value}(r:ah (kV k) u):(bu P w).is k u=true:=by
 cases k with
 | inl i=>obtain ⟨t,e⟩:=(show∃t,u=Value.int i t from r);subst e;exact xj P w i t
 | inr x=>obtain ⟨t,e⟩:=(show∃t,u=Value.str x t from r);subst e;exact vX P w x t
theorem rL{P:Program}{w:World}:∀{ks:List Key} {us:List Value},Φ (ks.map kV) us->ItemsAre (bu P w) ks us
 | [],_,r=>by rw [abN] at r;cases r;exact .nil
 | k::ks,_,r=>by
  rw [aaB] at r;cases r with
  | cons h t=>exact .cons (oY h) (rL t)
abbrev KT(H:Hp):List (List Key×V)->List (List Key×Addr×Value)->Prop:=Paired λp q=>p.1=q.1/\H q.2.1=some (.tup (p.1.map kV))/\ah p.2 q.2.2
theorem KT.val{H:Hp}{kvs:List (List Key×V)}{xs:List (List Key×Addr×Value)}(r:KT H kvs xs)(k:List Key):iC (gu kvs k) ((atKey xs k).map (·.2)):=by
 induction r with
 | nil=>exact True.intro
 | @cons p q ps qs h t ih=>
  obtain ⟨h1,_,h2⟩:=h;by_cases e:p.1=k
  ·have e':q.1=k:=h1.symm.trans e;have b:atKey (q::qs) k=some q.2:=by simp [atKey,List.find?_cons,e']
   rw [cI e,b];exact h2
  ·have e':¬q.1=k:=λz=>e (h1.trans z);have b:atKey (q::qs) k=atKey qs k:=by simp [atKey,List.find?_cons,e']
   rw [cJ e,b];exact ih
theorem KT.L6{H:Hp}{kvs:List (List Key×V)}{xs:List (List Key×Addr×Value)}(r:KT H kvs xs)(k:List Key){y:V}{u:Value}(ry:ah y u):
  KT H (kvs.map λkv=>if kv.1=k then (kv.1,y) else kv) (xs.map (putAt k u)):=by
 induction r with
 | nil=>exact .nil
 | @cons p q ps qs h t ih=>
  rw [aaB,aaB];refine .cons ?_ ih;obtain ⟨h1,h2,h3⟩:=h;unfold putAt;by_cases e:p.1=k
  ·rw [aaD e,aaD (h1.symm.trans e)];exact ⟨h1,h2,ry⟩
  ·rw [aaA e,aaA (λz=>e (h1.trans z))];exact ⟨h1,h2,h3⟩
theorem KT.put{H:Hp}{kvs:List (List Key×V)}{xs:List (List Key×Addr×Value)}(r:KT H kvs xs)(k:List Key){b:Addr}{y:V}{u:Value}(hb:H b=some (.tup (k.map kV)))(ry:ah y u):
  KT H (gf kvs k y) (storedH xs k b u):=by
 have e:(kvs.any λkv=>decide (kv.1=k))=(atKey xs k).isSome:=by rw [kg,(r.val k).fT,Option.isSome_map]
 unfold gf storedH;rw [e];by_cases q:(atKey xs k).isSome=true
 ·rw [aaD q,aaD q];exact r.L6 k ry
 ·rw [aaA q,aaA q];exact Paired.snoc r ⟨rfl,hb,ry⟩
theorem KT.keeps{H H':Hp}{kvs:List (List Key×V)}{xs:List (List Key×Addr×Value)}(r:KT H kvs xs)(ht:∀b ys,H b=some (.tup ys)->H' b=some (.tup ys)):KT H' kvs xs:=
 Paired.Lj r λ_ _ z=>⟨z.1,ht _ _ z.2.1,z.2.2⟩
section
variable{P:Program}{w:World}{H:Hp}{h:Heap}{a:Addr}
theorem Jw{u:HO}(ok:iS P w H h)(e:Rd H a u):aP P w H h a u:=e.ok ok
theorem rq{kvs:List (Key×V)}(ok:iS P w H h)(e:Rd H a (.dK kvs)):kvs.length<=sizeLine/\(a==sysModules)=false/\∃vs,KV kvs vs/\h.DictOf (bu P w) a vs:=
 show aP P w H h a (.dK kvs) from Jw ok e
theorem FV{kvs:List (Key×V)}(ok:iS P w H h)(e:H a=some (.dK kvs)):kvs.length<=sizeLine/\(a==sysModules)=false/\∃vs,KV kvs vs/\h.DictOf (bu P w) a vs:=rq ok (.inl e)
theorem o4{ks:List Key}(ok:iS P w H h)(e:H a=some (.tup (ks.map kV))):(tupleKind (bu P w)).is h ks a:=by obtain ⟨_,its,r,o,h1,h2,n,h3⟩:=(show aP P w H h a (.tup (ks.map kV)) from ok a _ e);exact ⟨o,its.toArray,n,h1,h2,h3,by simpa using rL r⟩
theorem rH{kvs:List (List Key×V)}(ok:iS P w H h)(e:Rd H a (.dT kvs)):kvs.length<=sizeLine/\(a==sysModules)=false/\
  ∃xs,KT H kvs xs/\h.DictOfH (tupleKind (bu P w)) a xs:=by
 obtain ⟨z,y,xs,r,o,es,ep,h1,h2,h3,h4,h5⟩:=(show aP P w H h a (.dT kvs) from Jw ok e);refine ⟨z,y,xs,r,o,es,ep,h1,h2,h3,h4,λx hx=> ?_,h5⟩;have all:∀{l:List (List Key×V)} {m:List (List Key×Addr×Value)},KT H l m->∀x∈m,(tupleKind (bu P w)).is h x.1 x.2.1:=by
  intro l m q
  induction q with
  | nil=>intro x hx;exact nomatch hx
  | @cons p q ps qs hq t ih=>
   intro x hx;rcases aar.mp hx with e | hx
   ·subst e;exact o4 ok (by rw [<-hq.1];exact hq.2.1)
   ·exact ih x hx
 exact all r x hx
theorem N4{kvs:List (List Key×V)}(ok:iS P w H h)(e:H a=some (.dT kvs)):kvs.length<=sizeLine/\(a==sysModules)=false/\
  ∃xs,KT H kvs xs/\h.DictOfH (tupleKind (bu P w)) a xs:=rH ok (.inl e)
end
def ub(H:Hp)(a:Addr)(y:V)(r:Option V):Prop:=
 (∃kvs k,Rd H a (.dK kvs)/\y=kV k/\r=gu kvs k)\/∃kvs k b,Rd H a (.dT kvs)/\y= .ref b/\H b=some (.tup (k.map kV))/\r=gu kvs k
def Dp(H:Hp)(a:Addr)(y v:V)(H':Hp):Prop:=
 (∃kvs k,H a=some (.dK kvs)/\y=kV k/\kvs.length < sizeLine/\H'=upd H a (.dK (gf kvs k v)))\/
 ∃kvs k b,H a=some (.dT kvs)/\y= .ref b/\H b=some (.tup (k.map kV))/\kvs.length < sizeLine/\H'=upd H a (.dT (gf kvs k v))
theorem Dp.k{H:Hp}{a:Addr}{kvs:List (Key×V)}{k:Key}{v:V}(e:H a=some (.dK kvs))(hl:kvs.length < sizeLine):Dp H a (kV k) v (upd H a (.dK (gf kvs k v))):= .inl ⟨kvs,k,e,rfl,hl,rfl⟩
section
variable{X:Cx}{γ:List (Addr×Obj)}{σ:St}{H:Hp}{s:Shared}{a:Addr}{y v:V}{u r:Value}{o:Option V}{A:Around}{E:Value->Shared->Prop}
theorem Inv.big(I:Inv X γ σ H s):sysModules < s.heap.objs.size:=by have h:mainGlobals < s.heap.objs.size:=(I.mod.glob.keeps I.bk).lt;exact Nat.lt_trans (by decide) h
theorem BQ{Q:Value->Shared->Prop}(hu:A.units+1 < cLine)(I:Inv X γ σ H s)(g:ub H a y (some v))(ry:ah y u)(h:∀w' s',Inv X γ σ H s'->ah v w'->Q w' s'):
  wpAny (model X.prog X.w) A (getItem (.ref a) u) Q E s:=by
 rcases g with ⟨kvs,k,e,ey,l⟩ | ⟨kvs,k,b,e,ey,eb,l⟩
 ·subst ey;obtain ⟨z,hd,vs,rel,dd⟩:=rq I.aC e;obtain ⟨w',hw,xG⟩:=iC.some_of (v:=v) (o:=valueAt vs k) (by rw [l];exact rel.val k);exact wpAny_getItem_of (oY ry) dd.mapOf hw (h w' _ (I.tok _) xG)
 ·subst ey;cases (show u=Value.ref b from ry);obtain ⟨z,hd,xs,rel,dd⟩:=rH I.aC e;obtain ⟨w',hw,xG⟩:=iC.some_of (v:=v) (o:=(atKey xs k).map (·.2)) (by rw [l];exact rel.val k);obtain ⟨p,hp,Sj⟩:=Option.map_eq_some_iff.mp hw;refine wpAny_getItem_heap (tupleKind_room_in1 hu) (o4 I.aC eb) dd hp ?_;rw [Sj];exact h w' _ (I.tok _) xG
theorem TJ{Q:Value->Shared->Prop}(hu:A.units+1 < cLine)(I:Inv X γ σ H s)(g:ub H a y o)(ry:ah y u)(h:∀s',Inv X γ σ H s'->Q (.bool o.isSome) s'):
  wpAny (model X.prog X.w) A (compareOp .In u (.ref a)) Q E s:=by
 rcases g with ⟨kvs,k,e,ey,l⟩ | ⟨kvs,k,b,e,ey,eb,l⟩
 ·subst ey;obtain ⟨z,hd,vs,rel,dd⟩:=rq I.aC e;refine wpAny_in_of (oY ry) hd dd.mapOf ?_;rw [<-(rel.val k).fT,<-l];exact h _ (I.tok _)
 ·subst ey;cases (show u=Value.ref b from ry);obtain ⟨z,hd,xs,rel,dd⟩:=rH I.aC e;refine wpAny_in_heap (tupleKind_room_in1 hu) (o4 I.aC eb) hd dd ?_;have q:=(rel.val k).fT;rw [Option.isSome_map] at q;rw [<-q,<-l];exact h _ (I.tok _)
theorem Hm{Q:Value->Shared->Prop}(hu:A.units+1 < cLine)(I:Inv X γ σ H s)(g:ub H a y o)(ry:ah y u)(h:∀s',Inv X γ σ H s'->Q (.bool (!o.isSome)) s'):
  wpAny (model X.prog X.w) A (compareOp .NotIn u (.ref a)) Q E s:=by
 rcases g with ⟨kvs,k,e,ey,l⟩ | ⟨kvs,k,b,e,ey,eb,l⟩
 ·subst ey;obtain ⟨z,hd,vs,rel,dd⟩:=rq I.aC e;refine wpAny_notIn_of (oY ry) hd dd.mapOf ?_;rw [<-(rel.val k).fT,<-l];exact h _ (I.tok _)
 ·subst ey;cases (show u=Value.ref b from ry);obtain ⟨z,hd,xs,rel,dd⟩:=rH I.aC e;refine wpAny_notIn_heap (tupleKind_room_in1 hu) (o4 I.aC eb) hd dd ?_;have q:=(rel.val k).fT;rw [Option.isSome_map] at q;rw [<-q,<-l];exact h _ (I.tok _)
theorem nW{h':Heap}{t':Nat}{ob:HO}(I:Inv X γ σ H s)(mu:OW (H a))(hs:Heap.SameBut a s.heap h')(he:∃q,h'.get? a=some q)(new:aP X.prog X.w (upd H a ob) h' a ob):
  Inv X γ σ (upd H a ob) {s with heap:=h',toks:=t'}:=
 I.write (x:=a) (e:=a) mu (.inl rfl) (λb q hb z=>(hs.2 b hb).trans z) he new
theorem yL{P:Program}{w:World}{H':Hp}{h':Heap}{kvs:List (Key×V)}{vs:List (Key×Value)}(z:kvs.length<=sizeLine)(hd:(a==sysModules)=false)(rel:KV kvs vs)(dd:h'.DictOf (bu P w) a vs):
  aP P w H' h' a (.dK kvs):=⟨z,hd,vs,rel,dd⟩
theorem BX{H':Hp}{Q:Unit->Shared->Prop}(hu:A.units+1 < cLine)(I:Inv X γ σ H s)(g:Dp H a y v H')(ry:ah y u)(rv:ah v r)(h:∀s',Inv X γ σ H' s'->Q () s'):
  wpAny (model X.prog X.w) A (setItem (.ref a) u r) Q E s:=by
 rcases g with ⟨kvs,k,e,ey,l,eH⟩ | ⟨kvs,k,b,e,ey,eb,l,eH⟩
 ·subst ey eH;obtain ⟨z,hd,vs,rel,dd⟩:=FV I.aC e;have hz:vs.length<=sizeLine:=by rw [<-rel.length];exact z
  have hl:(gf kvs k v).length<=sizeLine:=by have:=iz kvs k v;omega
  refine wpAny_setItem_pairs (hsz:=hz) (oY ry) dd λh' E9 hs=>h _ ?_;have he:∃q,h'.get? a=some q:=let ⟨q,_,_,hq,_⟩:=E9;⟨q,hq⟩
  exact nW I (by rw [e];exact True.intro) hs he (yL hl hd (rel.put k rv) E9)
 ·subst ey eH;cases (show u=Value.ref b from ry);obtain ⟨z,hd,xs,rel,dd⟩:=N4 I.aC e;have hz:xs.length<=sizeLine:=by rw [<-Paired.length rel];exact z
  have hl:(gf kvs k v).length<=sizeLine:=by have:=iz kvs k v;omega
  refine wpAny_setItem_heap (hsz:=hz) (tupleKind_room_in1 hu) (o4 I.aC eb) dd λh' E9 hs=>h _ ?_;obtain ⟨q,es,ep,hq,h2,h3,h4,_,h5⟩:=E9;refine nW I (by rw [e];exact True.intro) hs ⟨q,hq⟩ ⟨hl,hd,_,(rel.put k eb rv).keeps λc ys ec=> ?_,q,es,ep,hq,h2,h3,h4,h5⟩;rw [Γ (Ov ec e (λz=>nomatch z))];exact ec
end
section
variable{X:Cx}{γ:List (Addr×Obj)}{σ:St}{H:Hp}{s:Shared}{a:Addr}{kvs:List (Key×V)}{k:Key}{u:Value}{A:Around}{E:Value->Shared->Prop}
theorem Oe{v:V}{more:List Value}{Q:Value->Shared->Prop}(I:Inv X γ σ H s)(e:H a=some (.dK kvs))(ry:ah (kV k) u)(l:gu kvs k=some v)(hm:more=[]\/∃x,more=[x])
  (h:∀w' s',Inv X γ σ (upd H a (.dK (gK kvs k))) s'->ah v w'->Q w' s'):wpAny (model X.prog X.w) A (call (.builtin "dict.pop") (.ref a::u::more)) Q E s:=by
 obtain ⟨z,hd,vs,rel,dd⟩:=FV I.aC e;obtain ⟨w',hw,xG⟩:=iC.some_of (v:=v) (o:=valueAt vs k) (by rw [<-l];exact rel.val k);have hp:(keyPart u).isSome=true:=by
  cases k with
  | inl i=>obtain ⟨t,q⟩:=(show∃t,u=Value.int i t from ry);subst q;rfl
  | inr x=>obtain ⟨t,q⟩:=(show∃t,u=Value.str x t from ry);subst q;rfl
 have ha:argsOk "dict.pop" ⟨.ref a::u::more,[]⟩:=by
  rcases hm with q | ⟨x,q⟩
  ·subst q;exact PySem.F.args_dict_pop_2 _ _
  ·subst q;exact PySem.F.args_dict_pop_3 _ _ _
 refine call_meetsIn PySem.F.slot_dict_pop dd.typeIs PySem.F.entry_dict_pop ha (meets_dict_pop_there (bu X.prog X.w) a (oY ry) more hm hp)
  ⟨vs,w',dd,by rw [<-rel.length];exact z,hw,λh' E9 hs=>h w' _ ?_ xG⟩
 have he:∃q,h'.get? a=some q:=let ⟨q,_,_,hq,_⟩:=E9;⟨q,hq⟩
 exact nW I (by rw [e];exact True.intro) hs he (yL (aaq (FX kvs k) z) hd (rel.drop k) E9)
end
def wj(i:Expr):Prop:=∀ov iv,subscripted i false ov iv=operate [ov,iv] (getItem ov iv)
theorem oa{prog:Program}{w:World}{A:Around}{E:Value->Shared->Prop}{s:Shared}{env:Env}{value slice:Expr}{pos:Pos}{T id:String}{Q:Value->Shared->Prop}
  (hl:typeLookup (.type T) "__getitem__"=pure (some (.builtin id))) (hs:wj slice)
  (h:wpAny (model prog w) A (eval value env) (λo s₁=>wpAny (model prog w) A (eval slice env) (λi s₂=>s₂.TypeIs o T/\wpAny (model prog w) A (getItem o i) Q E s₂) E s₁) E s):
  wpAny (model prog w) A (eval (.Subscript value slice pos) env) Q E s:=by
 refine Subscript_ (abi h (λo s₁ h₁=>abi h₁ (λi s₂ h₂=> ?_) λ_ _ x=>x) λ_ _ x=>x);obtain ⟨hT,h₂⟩:=h₂;unfold subscriptTail;refine aah ?_;rw [getitemInPython_of_ne hT.not_modules];refine aah (wpAny_specialOf hT hl ?_);have fin:wpAny (model prog w) A (subscripted slice false o i) (λr s₃=>wpAny (model prog w) A (letTemporaryGo value o r >>= λ_=>pure r) Q E s₃) E s₂:=by rw [hs o i];exact wpAny_operating (abi h₂ (λr s₃ h₃=>aah (wpAny_letTemporaryGo (aaE h₃))) λ_ _ x=>x)
 first
  | exact aaE (aah fin)
  | exact aah (aaE (aah fin))
  | exact aah fin
theorem xi{X:Cx}{γ:List (Addr×Obj)}{σ:St}{H:Hp}{s:Shared}{a:Addr}{y:V}{o:Option V}(I:Inv X γ σ H s)(g:ub H a y o):s.TypeIs (.ref a) "dict":=by
 rcases g with ⟨kvs,k,e,_,_⟩ | ⟨kvs,k,b,e,_,_,_⟩
 ·obtain ⟨_,_,vs,_,dd⟩:=rq I.aC e;exact dd.typeIs
 ·obtain ⟨_,_,xs,_,dd⟩:=rH I.aC e;exact dd.typeIs
def NG(td ty:TE):TE:=λσ H Q=>td σ H λx H1=>ty σ H1 λy H2=>∃a v,x= .ref a/\ub H2 a y (some v)/\Q v H2
def N3(td ty tv:TE):TS:=λD σ H=>tv σ H λv H1=>td σ H1 λx H2=>ty σ H2 λy H3=>∃a H4,x= .ref a/\Dp H3 a y v H4/\D.nx σ H4
section
variable{X:Cx}{o i e value:Expr}{pos pos' qQ:Pos}{td ty tv:TE}
theorem Hb(hu:X.A.units+1 < cLine)(ho:PE X o td)(hi:PE X i ty)(hs:wj i):PE X (.Subscript o i pos) (NG td ty):=by intro γ s σ H Q I h;refine oa abo.lookup hs (aY (ho γ s σ H _ I h) λu s1 ⟨x,H1,I1,rx,q1⟩=>aY (hi γ s1 σ H1 _ I1 q1) λiv s2 ⟨y,H2,I2,ry,a,v,ex,g,q2⟩=> ?_);subst ex;obtain rfl:u=Value.ref a:=rx;exact ⟨xi I2 g,BQ hu I2 g ry λw' s3 I3 xG=>⟨v,H2,I3,xG,q2⟩⟩
theorem GQ(hu:X.A.units+1 < cLine)(ho:PE X o td)(hi:PE X i ty)(hv:PE X value tv)(hs:swapsWith value (some (.Subscript o i pos')) pos.line X.env=pure false):
  PS X (.Assign [.Subscript o i pos'] value pos) (N3 td ty tv):=by
 intro γ s σ H D I h;refine wpAny_Assign_Subscript (aY (hv γ s σ H _ I h) λr s1 ⟨v,H1,I1,rv,q1⟩=>aY (ho γ s1 σ H1 _ I1 q1) λu s2 ⟨x,H2,I2,rx,q2⟩=>aY (hi γ s2 σ H2 _ I2 q2) λiv s3 ⟨y,H3,I3,ry,a,H4,ex,g,q3⟩=> ?_) hs;subst ex;obtain rfl:u=Value.ref a:=rx;exact BX hu I3 g ry rv λs4 I4=>⟨σ,H4,I4,q3⟩
end
theorem vR{P:Program}{w:World}{H:Hp}(h:Heap)(hb:sysModules < h.objs.size):aP P w H (h.push {cls:= .type "dict",data:= .dict #[]}) h.objs.size (.dK []):=
 ⟨aa1 _,beq_eq_false_iff_ne.mpr (Ne.symm (aaI hb)),[], .nil,Heap.DictOf.new h⟩
def LQ:TE:=λ_ H Q=>∀p,H p=none->Q (.ref p) (upd H p (.dK []))
section
variable{X:Cx}{pos:Pos}
theorem DC:PE X (.Dict [] [] pos) LQ:=λγ s σ H Q I h=>
 wpAny_Dict_empty ⟨.ref s.heap.objs.size,_,I.laid (a:=s.heap.objs.size) (o:= .dK []) (t':=s.toks) (λ_ _ q=>aaf _ q) (aak _) (vR s.heap I.big),rfl,h _ (I.aC.fresh (aak _))⟩
end
def s_:List (TE×TE)->St->Hp->(List (V×V)->Hp->Prop)->Prop
 | [],_,H,Q=>Q [] H
 | (tk,tv)::r,σ,H,Q=>tk σ H λx H1=>tv σ H1 λy H2=>s_ r σ H2 λps H3=>Q ((x,y)::ps) H3
abbrev VV:List (V×V)->List (Value×Value)->Prop:=Paired λp q=>ah p.1 q.1/\ah p.2 q.2
def PL(X:Cx)(pos:Pos)(keys:List (Option Expr))(values:List Expr)(GV:List (TE×TE)):Prop:=
 ∀(γ:List (Addr×Obj)) (s:Shared) (σ:St) (H:Hp) (Q:List (V×V)->Hp->Prop),Inv X γ σ H s->s_ GV σ H Q->
  wpAny (model X.prog X.w) X.A (evalPairs (pairTrees keys values X.env pos)) (λvs s'=>∃ps H',Inv X γ σ H' s'/\VV ps vs/\Q ps H') X.xe s
theorem HF{X:Cx}{pos:Pos}:PL X pos [] [] []:=λγ s σ H Q I h=>pairTrees_nil_walk ⟨[],H,I, .nil,h⟩
theorem oz{X:Cx}{pos:Pos}{k v:Expr}{ks:List (Option Expr)}{vs:List Expr}{tk tv:TE}{GV:List (TE×TE)}(hk:PE X k tk)(hv:PE X v tv)(hr:PL X pos ks vs GV):
  PL X pos (some k::ks) (v::vs) ((tk,tv)::GV):=λγ s σ H Q I h=>
 pairTrees_cons_walk (aY (hk γ s σ H _ I h) λu s1 ⟨x,H1,I1,rx,q1⟩=>aY (hv γ s1 σ H1 _ I1 q1) λw2 s2 ⟨y,H2,I2,ry,q2⟩=>
  aY (hr γ s2 σ H2 _ I2 q2) λws s3 ⟨ps,H3,I3,rel,q3⟩=>⟨(x,y)::ps,H3,I3, .cons ⟨rx,ry⟩ rel,q3⟩)
def jW(kvs more:List (Key×V)):List (Key×V):=more.foldl (λΟ kv=>gf Ο kv.1 kv.2) kvs
theorem KV.merge:∀{more:List (Key×V)} {rs:List (Key×Value)} {kvs:List (Key×V)} {vs:List (Key×Value)},KV more rs->KV kvs vs->KV (jW kvs more) (merged vs rs):=by
 intro more rs kvs vs r;unfold KV at r
 induction r generalizing kvs vs with
 | nil=>intro q;exact q
 | @cons p q ps qs h t ih=>
  intro r0;have e:KV (gf kvs p.1 p.2) (stored vs q.1 q.2):=by have:=r0.put p.1 h.2;rw [<-h.1];exact this
  exact ih e
theorem jc:∀(more kvs:List (Key×V)),(jW kvs more).length<=kvs.length+more.length
 | [],kvs=>by show kvs.length<=kvs.length+0;omega
 | p::r,kvs=>by have h1:=jc r (gf kvs p.1 p.2);have h2:=iz kvs p.1 p.2;show (jW (gf kvs p.1 p.2) r).length<=_;rw [aaz];omega
theorem pD{P:Program}{w:World}:∀{kvs:List (Key×V)} {ws:List (Value×Value)},VV (kvs.map λkv=>(kV kv.1,kv.2)) ws->∃rs,Carries (bu P w) ws rs/\KV kvs rs
 | [],_,r=>by rw [abN] at r;cases r;exact ⟨[],True.intro, .nil⟩
 | p::kvs,_,r=>by
  rw [aaB] at r;cases r with
  | @cons a b as bs h t=>
   obtain ⟨rs,c,q⟩:=pD (P:=P) (w:=w) t;obtain ⟨b1,b2⟩:=b;exact ⟨(p.1,b2)::rs,⟨oY h.1,rfl,c⟩, .cons ⟨rfl,h.2⟩ q⟩
def N1(GV:List (TE×TE)):TE:=λσ H Q=>∀p,H p=none->s_ GV σ (upd H p (.dK [])) λps H2=>H2 p=some (.dK [])/\∃kvs:List (Key×V),ps=kvs.map (λkv=>(kV kv.1,kv.2))/\kvs.length<=15/\Q (.ref p) (upd H2 p (.dK (jW [] kvs)))
theorem IS{X:Cx}{pos:Pos}{keys:List (Option Expr)}{values:List Expr}{GV:List (TE×TE)}(h:PL X pos keys values GV)(Ef:keys.all (·.isSome)=true)(hl:keys.length=values.length)(h0:keys≠[])
  (R7:keys.length<=15):PE X (.Dict keys values pos) (N1 GV):=by
 intro γ s σ H Q I q;have hn:=I.aC.fresh (aak s.heap.objs.size);have I1:=I.laid (a:=s.heap.objs.size) (o:= .dK []) (h':=s.heap.push {cls:= .type "dict",data:= .dict #[]}) (t':=s.toks) (λ_ _ q=>aaf _ q) (aak _) (vR s.heap I.big);refine wpAny_Dict_walk (knd:=bu X.prog X.w) Ef hl h0 R7 (aY (h γ _ σ _ _ I1 (q _ hn)) λws s2 ⟨ps,H2,I2,rel,e,kvs,ep,lk,q2⟩=> ?_);subst ep;obtain ⟨rs,c,rk⟩:=pD (P:=X.prog) (w:=X.w) rel;obtain ⟨z,hd,XD,r0,dd⟩:=FV I2.aC e;cases r0;refine ⟨rs,c,dd,λh' E9 hs=>⟨.ref s.heap.objs.size,_, ?_,rfl,q2⟩⟩;have hz:(jW [] kvs).length<=sizeLine:=by have h1:=jc kvs [];rw [List.length_nil] at h1;rw [sizeLine_eq];omega
 have he:∃q,h'.get? s.heap.objs.size=some q:=let ⟨q,_,_,hq,_⟩:=E9;⟨q,hq⟩
 exact nW I2 (by rw [e];exact True.intro) hs he (yL hz hd (rk.merge .nil) E9)
structure M1(X:Cx)(o:Expr)(m:Str)(apos:Pos)(e:Expr)(af:Pos):Prop where
 base:attributeBase o m X.env (eval o X.env)=eval o X.env
 YT:((backTo af (starEach [e] X.env)).all (λx=> !x.1)&&(backToKw af (keywordEach [] X.env)).all (λx=>x.1.isSome)
  &&decide (([e]:List Expr).length+([]:List Keyword).length+(if ([]:List Keyword).isEmpty then 0 else 1) < 30))=true
 line:(apos.endLine==af.line)=true
 trees:backTo af (starEach [e] X.env)=[(false,eval e X.env)]
def Vl(H:Hp)(a:Addr):Prop:=(∃kvs,Rd H a (.dK kvs))\/∃kvs,Rd H a (.dT kvs)
theorem KS{X:Cx}{γ:List (Addr×Obj)}{σ:St}{H:Hp}{s:Shared}{a:Addr}(I:Inv X γ σ H s)(d:Vl H a):
  s.TypeIs (.ref a) "dict"/\(∀b,Value.ref a= .ref b->∃ob,s.heap.get? b=some ob/\ob.dict=none)/\(a==sysModules)=false:=by
 rcases d with ⟨kvs,e⟩ | ⟨kvs,e⟩
 ·obtain ⟨_,hd,vs,_,dd⟩:=rq I.aC e;refine ⟨dd.typeIs,λb q=> ?_,hd⟩;cases q;obtain ⟨ob,_,_,h1,h2,_⟩:=dd;exact ⟨ob,h1,h2.2.1⟩
 ·obtain ⟨_,hd,xs,_,dd⟩:=rH I.aC e;refine ⟨dd.typeIs,λb q=> ?_,hd⟩;cases q;obtain ⟨ob,_,_,h1,h2,_⟩:=dd;exact ⟨ob,h1,h2.2.1⟩
def K_(td ty:TE):TE:=λσ H Q=>td σ H λx H1=>∃a,x= .ref a/\Vl H1 a/\ty σ H1 λy H2=>∃kvs k v,H2 a=some (.dK kvs)/\y=kV k/\gu kvs k=some v/\Q v (upd H2 a (.dK (gK kvs k)))
section
variable{X:Cx}{o e f:Expr}{apos af:Pos}{td ty tx:TE}
theorem Fv(ho:PE X o td)(he:PE X e ty)(m:M1 X o "pop" apos e af):PE X (.Call (.Attribute o "pop" apos) [e] [] af) (K_ td ty):=by intro γ s σ H Q I h;refine wpAny_Call_method m.base m.YT m.line PySem.F.plainAttrs_dict PySem.F.slot_dict_pop PySem.F.type_dict_pop (aY (ho γ s σ H _ I h) λu s1 ⟨x,H1,I1,rx,a,ex,d,q1⟩=> ?_);subst ex;obtain rfl:u=Value.ref a:=rx;obtain ⟨t1,t2,_⟩:=KS I1 d;refine ⟨t1,t2, ?_⟩;rw [m.trees];refine Calls.callWith_builtin rfl (Calls.evalArgs_plain (Calls.spliced_cons (aY (he γ s1 σ H1 _ I1 q1) λiv s2 ⟨y,H2,I2,ry,kvs,k,v,ea,ey,l,q2⟩=>Calls.spliced_nil ?_)));subst ey;exact Oe I2 ea ry l (.inl rfl) λw' s3 I3 xG=>⟨v,_,I3,xG,q2⟩
end
end L2
namespace Att
open PySem PySem.W PySem.Calls PyProof.Rows
end Att
namespace L2
open PySem PySem.Spec PyProof.Rows
end L2
/- THE RU Hv (shape;Xd,My.* are OG):
  My.Yj:a structure of HU addresses Uw RG OZ names (classes,CL);My.Txt K t:a structure (Prop) of HU equations nG K;
  My.yu:{K} {implicit addresses ..} (e1:nsIn K mainGlobals "law"=some (some (.ref f))) (e2:K.lookup f=some ⟨oc,od, .func (fnOf "law" "law" params body scope dV kV doc pm an aQ ct),sl⟩) (e3:codeIn K aQ "law"=true) .. :∃t,My.Txt K t
set_option maxRecDepth 100000 in
set_option maxHeartbeats 0 in
theorem PySem.Challenge.cw_LID_holds : PySem.Challenge.rw_LID.Holds := by
 w_on;o_law;k_head;(case hw=>w_witness2)
 k_fill
 refine L2.sW (l:=PySem.Challenge.rw_LID) (n:=63) (k:=40) (x:="script") (CX:=fun w=> ..) (sp:=fun _=>My.Mx) rfl (by decide) rfl ⟨rfl,by decide,by decide⟩ (fun w h Y=>PySem.W.kIn_of Y) ?F ?S ?C
 case F=>
  intro w mg fa h KX G HN;have T:∃t,My.Txt (L2.T8 KX) t:=by
   dsimp only [L2.T8]
   refine' My.yu ?e1 ?e2 ?e3 ..
   (case e1=>PySem.W.k_is)
   (case e2=>PySem.W.k_is)
   ..
  obtain ⟨t,T⟩:=T;have e0:=HN.symm.trans (PySem.W.mg_of KX G T.YK);cases e0;exact ⟨_,λs u=> .of_eq rfl,λbase kb nb=>My.xK T kb nb⟩
 case S=>exact λw H a ns hl hO hS=> ..
 case C=>exact ..
(HU tactic k_is has no namespace:write k_is) -/
namespace L2
open PySem PySem.Spec PyProof.Rows
section
variable{κ:Type} [DecidableEq κ]
theorem Cs{p:κ×V}{r:List (κ×V)}{k:κ}(e:p.1=k):gK (p::r) k=gK r k:=by unfold gK;rw [List.filter_cons,if_neg (by simp [e])]
theorem Cu{p:κ×V}{r:List (κ×V)}{k:κ}(e:¬p.1=k):gK (p::r) k=p::gK r k:=by unfold gK;rw [List.filter_cons,if_pos (by simp [e])]
end
variable{G:Hp}{L:List Addr}{d:Dt}{v:V}{X:Cx}{pos p:Pos}{R:St->XK}{i e a b:Expr}{to ti te ta tb:DE}{k':Nat}{x:Str}{t:DA}{ps:List Str}
def Bb:Dt->Option Key
 | .int i=>some (.inl i)
 | .str z=>some (.inr z)
 | _=>none
def cF(ks:List Key)(ds:List Dt)(k:Key):Option Dt:=((ks.zip ds).find? λp=>decide (p.1=k)).map (·.2)
theorem kE{K:fI}{k:Key}(h:Bb d=some k)(n:Den K G L d v):v=kV k:=by
 cases d with
 | int i=>cases h;exact n
 | str z=>cases h;exact n
 | _=>cases h
theorem my{K:fI}{G:Hp}{L:List Addr}{k:Key}:∀{ks:List Key} {ds:List Dt} {vs:List V} {d:Dt},Ι K G L ds vs->cF ks ds k=some d->∃v,gu (ks.zip vs) k=some v/\Den K G L d v
 | [],_,_,_,_,h=>by cases h
 | _::_,[],_,_,_,h=>by cases h
 | c::ks,d0::ds,_,d,⟨v0,vs,e,n0,n⟩,h=>by
  subst e;rw [aaU];by_cases hc:c=k
  ·have h':cF (c::ks) (d0::ds) k=some d0:=by unfold cF;rw [List.zip_cons_cons,List.find?_cons_of_pos (by simpa using hc)];rfl
   rw [h'] at h;cases h;exact ⟨v0,cI hc,n0⟩
  ·have h':cF (c::ks) (d0::ds) k=cF ks ds k:=by unfold cF;rw [List.zip_cons_cons,List.find?_cons_of_neg (by simpa using hc)]
   rw [h'] at h;obtain ⟨v,h1,h2⟩:=my n h;exact ⟨v,by rw [cJ hc];exact h1,h2⟩
def Af(to ti:DE):DE:=λρ M q x=>to ρ M (λd M1=>ti ρ M1 (λdi M2=>∃k ks ds key v,d= .loc k/\M2[k]? =some (.dt ks ds)/\Bb di=some key/\cF ks ds key=some v/\q v M2) x) x
theorem sG:∀(more Ο:List (Key×V)),(∀p∈more,gu Ο p.1=none)->(more.map (·.1)).Nodup->jW Ο more=Ο++more
 | [],Ο,_,_=>by show Ο=Ο++[];rw [aaQ]
 | p::more,Ο,h,nd=>by
  show jW (gf Ο p.1 p.2) more=_;rw [D0 p.2 (h p aad),sG more _ (λq hq=> ?_) (aba.mp nd).2]
  ·simp
  ·have e:=sF p.1 q.1 p.2 Ο (h p aad);rw [show (Ο++[(p.1,p.2)])=Ο++[(p.1,p.2)] from rfl,e,aaA]
   ·exact h q (aae _ hq)
   ·intro z;exact (aba.mp nd).1 (aal.mpr ⟨q,hq,z⟩)
def Pr(z:Str):TE:=λ_ H Q=>Q (.str z) H
theorem Na{z:Str}{k:Nat}:PE X (.Constant (.str z) k pos) (Pr z):=Dx
theorem vM:∀(kvs:List (Str×Str)) (σ:St) (H:Hp) (Q:List (V×V)->Hp->Prop),Q (kvs.map λp=>(V.str p.1,V.str p.2)) H->s_ (kvs.map λp=>(Pr p.1,Pr p.2)) σ H Q
 | [],_,_,_,h=>h
 | p::kvs,σ,H,Q,h=>vM kvs σ H (λps H3=>Q ((.str p.1, .str p.2)::ps) H3) h
theorem Am:∀kvs:List (Str×Str),(kvs.map λp=>((Sum.inr p.1:Key),V.str p.2))=(kvs.map λp=>(Sum.inr p.1:Key)).zip (kvs.map λp=>V.str p.2)
 | []=>rfl
 | p::kvs=>by rw [aaB,aaB,aaB,aaU,<-Am kvs]
theorem Ag{K:fI}{G:Hp}{L:List Addr}:∀kvs:List (Str×Str),Ι K G L (kvs.map λp=>Dt.str p.2) (kvs.map λp=>V.str p.2)
 | []=>rfl
 | _::kvs=>⟨_,_,rfl,rfl,Ag kvs⟩
section
variable{o:Expr}
theorem fj(hr:bx k' X.A)(ho:JE X R o to)(hi:JE X R i ti)(hs:wj i:=by intro _ _;rfl):JE X R (.Subscript o i pos) (Af to ti):=
 .of (Hb (zN hr) ho hi hs) λσ H G L ρ M q x rl n h hx=>by refine ⟨G,L,ρ,M,_,x,rl,n,h,hx,λv H1 ⟨d1,G1,L1,M1,e1,r1,n1,h1⟩=> ?_⟩;refine ⟨G1,L1,ρ,M1,_,x,r1,n.mono e1,h1,hx.on e1,λv2 H2 ⟨d2,G2,L2,M2,e2,r2,n2,k,ks,ds,key,y,ed,hm,hk,hg,h2⟩=> ?_⟩;subst ed;obtain ⟨a,rfl,JD⟩:=n1;have Og:=e2.l.get JD;obtain ⟨_,vs,hH,hl,dn⟩:=r2.gW k a _ Og hm;obtain ⟨u,hu,du⟩:=my dn hg;refine ⟨a,u,rfl, .inl ⟨_,key, .inl hH,kE hk n2,hu.symm⟩,fin_same (e1.trans e2) r2 du h2⟩
theorem HH{keys:List (Option Expr)}{values:List Expr}{kvs:List (Str×Str)}(X4:PL X pos keys values (kvs.map λp=>(Pr p.1,Pr p.2)))(nd:(kvs.map (·.1)).Nodup)(Ef:keys.all (·.isSome)=true:=by rfl)(hl:keys.length=values.length:=by rfl)(h0:keys≠[]:=by simp)(R7:keys.length<=15:=by decide)(hk:kvs.length<=15:=by decide):
  JE X R (.Dict keys values pos) (λ_ M q _=>q (.loc M.length) (M++[.dt (kvs.map λp=>Sum.inr p.1) (kvs.map λp=> .str p.2)])):=
 .of (IS X4 Ef hl h0 R7) λσ H G L ρ M q x rl n h hx=>by
  intro p hp;refine vM kvs σ _ _ ⟨Ω,kvs.map (λp=>(Sum.inr p.1,V.str p.2)),by rw [aao];rfl,by rw [aaa];exact hk, ?_⟩
  rw [sG _ [] (λ_ _=>rfl) (by
   rw [aao];have:(kvs.map ((λx:Key×V=>x.1) ∘ λp=>(Sum.inr p.1,V.str p.2)))=(kvs.map (·.1)).map (Sum.inr (α:=Int)):=by rw [aao];rfl
   rw [this]
   exact List.Pairwise.map _ (λa b (h:a≠b) z=>h (Sum.inr.inj z)) nd),aat]
  have e2:upd (upd H p (HO.dK [])) p (.dK (kvs.map λp=>(Sum.inr p.1,V.str p.2)))=upd H p (.dK (kvs.map λp=>(Sum.inr p.1,V.str p.2))):=by
   funext b;unfold upd;split <;> rfl
  rw [e2];rw [Am kvs];have dn:=Ag (K:=X.K) (G:=G) (L:=L) kvs;exact ⟨.loc M.length,G,L++[p],_,rl.PF hp,rl.D7 (m:= .dt (kvs.map λp=>Sum.inr p.1) (kvs.map λp=> .str p.2)) hp ⟨_,Ω,by rw [List.length_map,List.length_map],Ι.mono (.refl _) ⟨[p],rfl⟩ _ _ dn⟩,⟨p,rfl,by rw [<-rl.len,List.getElem?_append_right (Nat.le_refl _)];simp⟩,h⟩
end
structure M7(K:fI)(w:World)(mg:Str->Option Value)(x:Str)(tab:List (Str×Str)):Prop where
 ex:∃a es n,mg x=some (.ref a)/\K.lookup a=some ⟨.type "dict",none, .dict es n, #[]⟩/\PySem.W.KeysLit w.params es.toList/\∀z y,tab.lookup z=some y->∃tk,PySem.W.nsIn K a z=some (some (.str y tk))
def Ro(tab:List (Str×Str))(ti:DE):DE:=λρ M q x=>ti ρ M (λd M1=>∃z y,d= .str z/\tab.lookup z=some y/\q (.str y) M1) x
def SM(tab:List (Str×Str))(ti:TE):TE:=λσ H Q=>ti σ H λv H1=>∃z y,v= .str z/\tab.lookup z=some y/\Q (.str y) H1
section
variable{tab:List (Str×Str)}
theorem KI{ti:TE}(T:M7 X.K X.w X.mg x tab)(hi:PE X i ti)(hs:wj i)(hg:Gl X x)(gQ:(x==("__debug__":Str))=false):PE X (.Subscript (.Name x p) i pos) (SM tab ti):=by obtain ⟨a,es,n,hm,hl,hk,ht⟩:=T.ex;intro γ s σ H Q I h;refine oa abo.lookup hs (dN I hg hm ?_ gQ);refine aY (hi γ s σ H _ I h) λiv s2 ⟨v,H2,I2,rv,z,y,ev,hy,q2⟩=> ?_;subst ev;obtain ⟨t,rfl⟩:=rv;obtain ⟨tk,hn⟩:=ht z y hy;have hM:=PySem.W.mapOf_K (prog:=X.prog) (w:=X.w) I2.g_ hl hk;exact ⟨hM.typeIs,wpAny_getItem_of (strKind_is X.prog X.w z t) hM (PySem.W.find_K hl hn) ⟨.str y,H2,I2.tok _,⟨tk,rfl⟩,q2⟩⟩
theorem Pd(T:M7 X.K X.w X.mg x tab)(hi:JE X R i ti)(hs:wj i:=by intro _ _;rfl)(hg:Gl X x:=by rfl)(gQ:(x==("__debug__":Str))=false:=by decide):JE X R (.Subscript (.Name x p) i pos) (Ro tab ti):=
 .of (KI T hi hs hg gQ) λσ H G L ρ M q x rl n h hx=>by refine ⟨G,L,ρ,M,_,x,rl,n,h,hx,λv H1 ⟨d1,G1,L1,M1,e1,r1,n1,z,y,ed,hy,h1⟩=> ?_⟩;subst ed;exact ⟨z,y,n1,hy,ao e1 r1 h1⟩
end
def ya(M:Ms):Dt->Option (List Dt)
 | .lst xs=>some xs
 | .nF ns=>some (ns.map .int)
 | .loc k=>match M[k]? with
  | some (.lst xs)=>some xs
  | _=>none
 | _=>none
theorem nN{K:fI}{M:Ms}{H:Hp}{xs:List Dt}(r:Rl K G L M H)(n:Den K G L d v)(h:ya M d=some xs):∃a vs,v= .ref a/\fc K H a vs/\Ι K G L xs vs:=by
 cases d with
 | lst ds=>cases h;obtain ⟨a,vs,rfl,e,m⟩:=n;exact ⟨a,vs,rfl, .of (r.sub _ _ e),m⟩
 | nF ns=>cases h;obtain ⟨a,rfl,e⟩:=n;exact ⟨a,_,rfl,r.sub.seq e,d4⟩
 | loc k=>
  obtain ⟨a,rfl,e⟩:=n;have h:(match M[k]? with | some (.lst xs)=>some xs | _=>none)=some xs:=h;split at h
  ·rename_i ys hm;cases h;obtain ⟨_,vs,e1,m1⟩:=r.gW k a _ e hm;exact ⟨a,vs,rfl, .of e1,m1⟩
  ·cases h
 | _=>cases h
section
variable{l u:Expr}{tl tu:DE}{p2:Pos}
def LL(te tl:DE):DE:=λρ M q x=>te ρ M (λd M1=>tl ρ M1 (λdi M2=>∃ds n,ya M2 d=some ds/\di= .int (n:Nat)/\q (.loc M2.length) (M2++[.lst (ds.drop n)])) x) x
theorem sJ(he:JE X R e te)(hl:JE X R l tl):JE X R (.Subscript e (.Slice (some l) none none p2) pos) (LL te tl):=
 .of (hJ AD he (iH hl) nV) λσ H G L ρ M q x rl n h hx=>by refine ⟨G,L,ρ,M,_,x,rl,n,h,hx,λv H1 ⟨d1,G1,L1,M1,e1,r1,n1,h1⟩=> ?_⟩;refine ⟨G1,L1,ρ,M1,_,x,r1,n.mono e1,h1,hx.on e1,λv2 H2 ⟨d2,G2,L2,M2,e2,r2,n2,ds,k,ed,ei,h2⟩=> ?_⟩;subst ei;obtain ⟨a,vs,rfl,sq,m⟩:=nN r2 (Den.mono e2.g e2.l _ _ n1) ed;have n2:v2= .int k:=n2;subst n2;refine ⟨k,rfl,a,vs,rfl,sq,λp hp=> ?_⟩;rw [rn];exact og (e1.trans e2) r2 hp (Ι.of (j5 k m.pair)) h2
end
open PySem PySem.SeqAt
def Kn(M:Ms):Dt->Option (List Dt)
 | .lst xs=>some xs
 | .loc k=>match M[k]? with
  | some (.lst xs)=>some xs
  | _=>none
 | _=>none
theorem Ar{K:fI}{M:Ms}{H:Hp}{xs:List Dt}(r:Rl K G L M H)(n:Den K G L d v)(h:Kn M d=some xs):∃a vs,v= .ref a/\H a=some (.lst vs)/\Ι K G L xs vs:=by
 cases d with
 | lst ds=>cases h;obtain ⟨a,vs,rfl,e,m⟩:=n;exact ⟨a,vs,rfl,r.sub _ _ e,m⟩
 | loc k=>
  obtain ⟨a,rfl,e⟩:=n;have h:(match M[k]? with | some (.lst xs)=>some xs | _=>none)=some xs:=h;split at h
  ·rename_i ys hm;cases h;obtain ⟨_,vs,e1,m1⟩:=r.gW k a _ e hm;exact ⟨a,vs,rfl,e1,m1⟩
  ·cases h
 | _=>cases h
def Jq:Dt->Dt->Ms->DQ->Prop:=λd e M q=>∃xs ys,Kn M d=some xs/\Kn M e=some ys/\xs.length+ys.length<=sizeLine/\q (.lst (xs++ys)) M
theorem NK{K:fI}:ka K MT Jq:=by intro G0 L0 H0 G L M H v1 v2 d1 d2 q e r n1 n2 ⟨xs,ys,h1,h2,hz,hq⟩;obtain ⟨p1,w1,rfl,e1,m1⟩:=Ar r n1 h1;obtain ⟨p2,w2,rfl,e2,m2⟩:=Ar r n2 h2;refine ⟨p1,p2,w1,w2,rfl,rfl,e1,e2,by rw [<-m1.length,<-m2.length];exact hz,λp hp=> ?_⟩;exact c_ e r hp (iO r hp (m1.app m2)) hq
section
theorem x3(ja:JE X R a ta)(jb:JE X R b tb):JE X R (.BinOp a .Add b pos) (dw Jq ta tb):=va DB NK ja jb
end
def xq(g:Dt->En->(En->Prop)->Prop)(te:DE)(ρ0:En)(ok:Ms->Prop):List Dt->List Dt->Ms->(List Dt->Ms->Prop)->Prop
 | [],Ο,M,k=>ok M/\k Ο M
 | x::xs,Ο,M,k=>ok M/\g x ρ0 λρ'=>te ρ' M (λd M2=>xq g te ρ0 ok xs (Ο++[d]) M2 k) gT
def yQ(n:Nat)(ti:DK)(g:Dt->En->(En->Prop)->Prop)(te:DE)(Ε:List Nat):DE:=λρ M q x=>ti ρ M (λxs ok M1=>xs.length<=sizeLine/\xq g te (List.replicate n none++lV Ε ρ) ok xs [] M1 (λys M2=>q (.lst ys) M2)) x
theorem AY{g:Dt->En->(En->Prop)->Prop}{te:DE}{cs:En}{ok:Ms->Prop}:∀xs,xq g te cs ok xs=gY g pk te cs ok xs
 | []=>rfl
 | x::xs=>funext λΟ=>funext λM=>funext λk=>by show (ok M/\g x cs λρ'=>te ρ' M (λd M1=>xq g te cs ok xs (Ο++[d]) M1 k) gT)=(ok M/\g x cs λρ'=>te ρ' M (λd M1=>gY g pk te cs ok xs (Ο++[d]) M1 k) gT);rw [AY xs]
theorem Bk(xs:List V)(a b:Nat):qN xs (some (a:Int)) (some (b:Int))=(xs.drop a).take (b - a):=by
 unfold qN;rw [HT.n9,HT.n9];by_cases ha:a<=xs.length
 ·rw [Nat.min_eq_left ha];by_cases hb:b<=xs.length
  ·rw [Nat.min_eq_left hb]
  ·rw [Nat.min_eq_right (by omega),aa8 (by rw [aa3];omega),aa8 (by rw [aa3];omega)]
 ·have h1:min a xs.length=xs.length:=Nat.min_eq_right (by omega);rw [h1,List.drop_of_length_le (aak xs.length),List.drop_of_length_le (show xs.length<=a by omega)];simp
section
variable{l u:Expr}{tl tu:DE}{p2:Pos}
def Kf(te tl tu:DE):DE:=λρ M q x=>te ρ M (λd M1=>tl ρ M1 (λdi M2=>∃n:Nat,di= .int n/\tu ρ M2 (λdu M3=>∃ds m,ya M3 d=some ds/\du= .int (m:Nat)/\q (.loc M3.length) (M3++[.lst ((ds.drop n).take (m - n))])) x) x) x
theorem sA(he:JE X R e te)(hl:JE X R l tl)(hu:JE X R u tu):JE X R (.Subscript e (.Slice (some l) (some u) none p2) pos) (Kf te tl tu):=
 .of (hJ AD he (iH hl) (iH hu)) λσ H G L ρ M q x rl n h hx=>by refine ⟨G,L,ρ,M,_,x,rl,n,h,hx,λv H1 ⟨d1,G1,L1,M1,e1,r1,n1,h1⟩=> ?_⟩;refine ⟨G1,L1,ρ,M1,_,x,r1,n.mono e1,h1,hx.on e1,λv2 H2 ⟨d2,G2,L2,M2,e2,r2,n2,k,ek,h2⟩=> ?_⟩;subst ek;have n2:v2= .int k:=n2;subst n2;refine ⟨k,rfl,G2,L2,ρ,M2,_,x,r2,(n.mono e1).mono e2,h2,(hx.on e1).on e2,λv3 H3 ⟨d3,G3,L3,M3,e3,r3,n3,ds,m,ed,em,h3⟩=> ?_⟩;subst em;have GR:=e2.trans e3;obtain ⟨a,vs,rfl,sq,dn⟩:=nN r3 (Den.mono GR.g GR.l _ _ n1) ed;have n3:v3= .int m:=n3;subst n3;refine ⟨m,rfl,a,vs,rfl,sq,λp hp=> ?_⟩;rw [Bk];exact og (e1.trans GR) r3 hp (Ι.of (we (m - k) (j5 k dn.pair))) h3
end
def B8(ks:List Key)(k:Key):Bool:=ks.any λc=>decide (c=k)
theorem kP{k:Key}:∀{ks:List Key} {vs:List V},ks.length=vs.length->(gu (ks.zip vs) k).isSome=B8 ks k
 | [],[],_=>rfl
 | c::ks,v::vs,h=>by
  have h:ks.length=vs.length:=by simpa using h
  rw [aaU];by_cases e:c=k
  ·rw [cI e];subst e;simp [B8]
  ·rw [cJ e,kP h];unfold B8;rw [abm,aaC e,Bool.false_or]
section
variable{o:Expr}
theorem uP:JE X R (.Dict [] [] pos) (λ_ M q _=>q (.loc M.length) (M++[.dt [] []])):=
 .of DC λσ H G L ρ M q x rl n h hx=>by intro p hp;exact ⟨.loc M.length,G,L++[p],_,rl.PF hp,rl.D7 (m:= .dt [] []) hp ⟨[],Ω,rfl,rfl⟩,⟨p,rfl,by rw [<-rl.len,List.getElem?_append_right (Nat.le_refl _)];simp⟩,h⟩
def O4:Dt->Dt->Ms->DQ->Prop:=λdi d M q=>∃k ks ds key,d= .loc k/\M[k]? =some (.dt ks ds)/\Bb di=some key/\q (.bl (B8 ks key)) M
theorem KL(hu:X.A.units+1 < cLine):gh X (compareOp .In) (λy x H Q=>∃a o,x=V.ref a/\ub H a y o/\Q (.bl o.isSome) H):=by intro γ s σ H x y u v Q I rx ry ⟨a,o,ex,g,q⟩;subst ex;obtain rfl:v=Value.ref a:=ry;exact TJ hu I g rx λs3 I3=>⟨.bl o.isSome,H,I3,rfl,q⟩
theorem SF{K:fI}:ka K (λy x H Q=>∃a o,x=V.ref a/\ub H a y o/\Q (.bl o.isSome) H) O4:=by intro G0 L0 H0 G L M H v1 v2 d1 d2 q e r n1 n2 ⟨k,ks,ds,key,ed,hm,hk,h⟩;subst ed;obtain ⟨a,rfl,JD⟩:=n2;obtain ⟨_,vs,hH,hl,dn⟩:=r.gW k a _ JD hm;refine ⟨a,_,rfl, .inl ⟨_,key, .inl hH,kE hk n1,rfl⟩, ?_⟩;have Jg:ks.length=vs.length:=hl.trans dn.length;rw [kP Jg];exact ao e r h
theorem tG(hr:bx k' X.A)(ja:JE X R a ta)(jb:JE X R b tb)(hm:behindInMarks .In b=false:=by rfl):JT X R (.Compare a [.In] [b] pos) (kx (dw O4 ta tb)):=eU (KL (zN hr)) SF ja jb hm
end
def fE(ks:List Key)(k:Key):List Key:=if B8 ks k=true then ks else ks++[k]
def jd{α:Type}(k:Key)(v:α):List Key->List α->List α
 | c::ks,x::xs=>(if c=k then v else x)::jd k v ks xs
 | _,_=>[]
def ej{α:Type}(ks:List Key)(k:Key)(xs:List α)(v:α):List α:=if B8 ks k=true then jd k v ks xs else xs++[v]
theorem sM{α:Type}{k:Key}{v:α}:∀{ks:List Key} {xs:List α},ks.length=xs.length->(jd k v ks xs).length=ks.length
 | [],[],_=>rfl
 | _::ks,_::xs,h=>by
  have h:ks.length=xs.length:=by simpa using h
  show (jd k v ks xs).length+1=ks.length+1;rw [sM h]
theorem rV{k:Key}{v:V}:∀{ks:List Key} {vs:List V},ks.length=vs.length->(ks.zip vs).map (λkv=>if kv.1=k then (kv.1,v) else kv)=ks.zip (jd k v ks vs)
 | [],[],_=>rfl
 | c::ks,x::vs,h=>by
  have h:ks.length=vs.length:=by simpa using h
  rw [aaU,aaB,rV h];show _=(c,if c=k then v else x)::ks.zip (jd k v ks vs)
  congr 1
  show (if c=k then (c,v) else (c,x))=_;split <;> rfl
theorem sI{K:fI}{G:Hp}{L:List Addr}{k:Key}{d:Dt}{v:V}(n:Den K G L d v):∀{ks:List Key} {ds:List Dt} {vs:List V},Ι K G L ds vs->ks.length=ds.length->Ι K G L (jd k d ks ds) (jd k v ks vs)
 | [],[],_,h,_=>by cases h;rfl
 | c::ks,x::ds,_,⟨y,vs,e,n0,ns⟩,hl=>by
  subst e;have hl:ks.length=ds.length:=by simpa using hl
  refine ⟨_,_,rfl, ?_,sI n ns hl⟩;show Den K G L (if c=k then d else x) (if c=k then v else y);split
  ·exact n
  ·exact n0
theorem Ko{k:Key}{ks:List Key}{vs:List V}(h:ks.length=vs.length):gf (ks.zip vs) k v=(fE ks k).zip (ej ks k vs v):=by
 unfold gf fE ej;rw [kg,kP h];split
 ·exact rV h
 ·rw [List.zip_append h];rfl
def mr(to ti tv:DE):DS:=λDn ρ M=>tv ρ M (λy M1=>to ρ M1 (λd M2=>ti ρ M2 (λdi M3=>∃k ks ds key,d= .loc k/\M3[k]? =some (.dt ks ds)/\Bb di=some key/\ks.length < 1000/\Dn.nx ρ (M3.set k (.dt (fE ks key) (ej ks key ds y)))) Dn.x) Dn.x) Dn.x
section
variable{o value:Expr}{tv:DE}{pos':Pos}
theorem kX(hr:bx k' X.A)(ho:JE X R o to)(hi:JE X R i ti)(hv:JE X R value tv)(hs:swapsWith value (some (.Subscript o i pos')) pos.line X.env=pure false:=by rfl):JS X R (.Assign [.Subscript o i pos'] value pos) (mr to ti tv):=
 .of (GQ (zN hr) ho hi hv hs) λσ H G L ρ M Dn rl n h hx=>by
  refine ⟨G,L,ρ,M,_,_,rl,n,h,hx,λv H1 ⟨dv,G1,L1,M1,e1,r1,n1,h1⟩=> ?_⟩;refine ⟨G1,L1,ρ,M1,_,_,r1,n.mono e1,h1,hx.on e1,λov H2 ⟨d,G2,L2,M2,e2,r2,n2,h2⟩=> ?_⟩;refine ⟨G2,L2,ρ,M2,_,_,r2,(n.mono e1).mono e2,h2,(hx.on e1).on e2,λiv H3 ⟨di,G3,L3,M3,e3,r3,n3,k,ks,ds,key,ed,hm,hk,hlen,h3⟩=> ?_⟩;subst ed;obtain ⟨a,rfl,Xj⟩:=n2;have B2:=e3.l.get Xj;obtain ⟨_,vs,hH,hl,dn⟩:=r3.gW k a _ B2 hm;have GR:=e2.trans e3;have QV:=Den.mono GR.g GR.l _ _ n1;have Jg:ks.length=vs.length:=hl.trans dn.length;obtain rfl:iv=kV key:=kE hk n3;have z:(ks.zip vs).length < sizeLine:=by rw [abv];exact aa7 (Nat.min_le_left _ _) (Nat.lt_trans hlen (by decide))
  refine ⟨a,_,rfl,Dp.k hH z,ρ,G3,L3,_,((e1.trans e2).trans e3).trans (r3.J9 B2),r3.setM (m:= .dt (fE ks key) (ej ks key ds dv)) B2 ⟨ej ks key vs v,by rw [Ω,Ko Jg], ?_, ?_⟩,(((n.mono e1).mono e2).mono e3).mono (r3.J9 (o:= .own a) B2),h3⟩
  ·unfold fE ej;split
   ·rw [sM hl]
   ·rw [aab,aab,hl];rfl
  ·unfold ej;split
   ·exact sI QV dn hl
   ·exact dn.app ⟨_,_,rfl,QV,rfl⟩
end
section
variable{o f v1 v2:Expr}{tx t1 t2:DE}{apos af:Pos}
def AW:Dt->Dt->Ms->DQ->Prop:=λdi d M q=>∃k ks ds key,d= .loc k/\M[k]? =some (.dt ks ds)/\Bb di=some key/\q (.bl (!B8 ks key)) M
theorem CU(hu:X.A.units+1 < cLine):gh X (compareOp .NotIn) (λy x H Q=>∃a o,x=V.ref a/\ub H a y o/\Q (.bl (!o.isSome)) H):=by intro γ s σ H x y u v Q I rx ry ⟨a,o,ex,g,q⟩;subst ex;obtain rfl:v=Value.ref a:=ry;exact Hm hu I g rx λs3 I3=>⟨.bl (!o.isSome),H,I3,rfl,q⟩
theorem Hk{K:fI}:ka K (λy x H Q=>∃a o,x=V.ref a/\ub H a y o/\Q (.bl (!o.isSome)) H) AW:=by intro G0 L0 H0 G L M H v1 v2 d1 d2 q e r n1 n2 ⟨k,ks,ds,key,ed,hm,hk,h⟩;subst ed;obtain ⟨a,rfl,JD⟩:=n2;obtain ⟨_,vs,hH,hl,dn⟩:=r.gW k a _ JD hm;refine ⟨a,_,rfl, .inl ⟨_,key, .inl hH,kE hk n1,rfl⟩, ?_⟩;have Jg:ks.length=vs.length:=hl.trans dn.length;rw [kP Jg];exact ao e r h
theorem sC(hr:bx k' X.A)(ja:JE X R a ta)(jb:JE X R b tb)(hm:behindInMarks .NotIn b=false:=by rfl):JT X R (.Compare a [.NotIn] [b] pos) (kx (dw AW ta tb)):=eU (CU (zN hr)) Hk ja jb hm
end
def kz(ks:List Key)(k:Key):List Key:=ks.filter λc=>decide (c≠k)
def dI{α:Type}(k:Key):List Key->List α->List α
 | c::ks,x::xs=>if c=k then dI k ks xs else x::dI k ks xs
 | _,_=>[]
theorem sV{k:Key}:∀{ks:List Key} {vs:List V},ks.length=vs.length->gK (ks.zip vs) k=(kz ks k).zip (dI k ks vs)
 | [],[],_=>rfl
 | c::ks,x::vs,h=>by
  have h:ks.length=vs.length:=by simpa using h
  rw [aaU];unfold kz dI;rw [abk];by_cases e:c=k
  ·rw [Cs e,if_neg (by simp [e]),if_pos e];exact sV h
  ·rw [Cu e,if_pos (by simp [e]),if_neg e,List.zip_cons_cons,sV h];rfl
theorem sX{α:Type}{k:Key}:∀{ks:List Key} {xs:List α},ks.length=xs.length->(kz ks k).length=(dI k ks xs).length
 | [],[],_=>rfl
 | c::ks,x::xs,h=>by
  have h:ks.length=xs.length:=by simpa using h
  unfold kz dI;rw [abk];by_cases e:c=k
  ·rw [if_neg (by simp [e]),if_pos e];exact sX h
  ·rw [if_pos (by simp [e]),if_neg e,List.length_cons,List.length_cons];exact aa5 (· +1) (sX h)
theorem vm{K:fI}{G:Hp}{L:List Addr}{k:Key}:∀{ks:List Key} {ds:List Dt} {vs:List V},Ι K G L ds vs->ks.length=ds.length->Ι K G L (dI k ks ds) (dI k ks vs)
 | [],[],_,h,_=>by cases h;rfl
 | c::ks,x::ds,_,⟨y,vs,e,n0,ns⟩,hl=>by
  subst e;have hl:ks.length=ds.length:=by simpa using hl
  unfold dI;by_cases e:c=k
  ·rw [aaD e,aaD e];exact vm ns hl
  ·rw [aaA e,aaA e];exact ⟨_,_,rfl,n0,vm ns hl⟩
def Nx:Dt->Bool
 | .bw=>true
 | _=>false
theorem Iv{K:fI}(n:Den K G L d v):decide (v= .bw)=Nx d:=by
 cases d with
 | bw=>cases n;rfl
 | bl b=>cases n;rfl
 | int i=>cases n;rfl
 | str x=>cases n;rfl
 | tup ds=>obtain ⟨a,vs,rfl,_⟩:=n;rfl
 | lst ds=>obtain ⟨a,vs,rfl,_⟩:=n;rfl
 | obj C ns ds=>obtain ⟨a,dx,vs,rfl,_⟩:=n;rfl
 | loc k=>obtain ⟨a,rfl,_⟩:=n;rfl
 | ref a=>cases n;rfl
 | ty m=>cases n;rfl
 | nF ns=>obtain ⟨a,rfl,_⟩:=n;rfl
 | kt ds=>obtain ⟨a,vs,rfl,_⟩:=n;rfl
 | exc C ns ds=>obtain ⟨a,od,vs,rfl,_⟩:=n;rfl
 | Nl x C od ns ds=>obtain ⟨vs,rfl,_⟩:=n;rfl
def NU:Dt->Dt->Ms->DQ->Prop:=λd e M q=>e= .bw/\q (.bl (Nx d)) M
theorem Sq{K:fI}:ka K (λx y H Q=>y= .bw/\Q (.bl (decide (x= .bw))) H) NU:=by intro G0 L0 H0 G L M H v1 v2 d1 d2 q e r n1 n2 ⟨e2,h⟩;subst e2;refine ⟨n2, ?_⟩;rw [Iv n1];exact ao e r h
section
theorem LS(ja:JE X R a ta)(jb:JE X R b tb):JT X R (.Compare a [.Is] [b] pos) (kx (dw NU ta tb)):=eU Lv Sq ja jb (gk _)
end
section
variable{elt iter:Expr}{z:Str}{px pz tp:Pos}{scope:Scope}{ti:DK}{ys:List Str}{Ε:List Nat}{kk:Nat}
theorem xf{i:Nat}{y:Str}{py ie:Pos}(hN:X.N.Nodup)(EL:X.N[i]? =some y)(hy:Loc X.env.scope y)(S:Ν X scope [x,z] ys Ε)(hi:JK X R (.Tuple [.Name x px, .Name z pz] kk tp) iter ti)(he:∀C s H fp,JE (Cx.comp X (x::z::ys) scope C s H fp) (λ_=>E0) elt te)(hc:X.calm=true:=by rfl)(Fz:swapsWith (.ListComp elt [⟨.Tuple [.Name x px, .Name z pz] kk tp,iter,[],0⟩] scope pos) (some (.Name y py)) ie.line X.env=pure true:=by rfl)(hs:∀x,foldedSetIterable iter X.env x=pure x:=by intro _;rfl)(hf:X.fn y=true\/X.env.scope.names.lookup y=some .local:=by first | exact .inl rfl | exact .inr rfl | assumption):JS X R (.Assign [.Name y py] (.ListComp elt [⟨.Tuple [.Name x px, .Name z pz] kk tp,iter,[],0⟩] scope pos) ie) (xM i (yQ 2 ti (g2 0 1) te Ε)):=Qo false S hi (IM hc S) u7 (BW (Nat.zero_lt_succ 1) (Nat.lt_succ_self 1)) (λ_ _ _ _=>e_) he hc hs hN EL hy Fz hf λρ M q x h=>by unfold yQ at h;simp only [AY] at h;exact h
end
theorem Ν.inner{scope:Scope}{xs ys:List Str}{Ε:List Nat}(_:Ν X scope xs ys Ε){C:Addr}{s:Shared}{H:Hp}{fp:List Addr}{sc:Scope}{zs:List Str}(_:X.env.scope.kind= .function)(kind:sc.kind= .function)(h:(∀p∈sc.names,p.2≠ .cell/\p.2≠ .free/\(p.2= .local->sc.names.lookup p.1=some .local))/\(∀x∈zs,sc.names.lookup x=some .local)/\(zs++[]).Nodup:=by decide+kernel):Ν (Cx.comp X (xs++ys) scope C s H fp) sc zs [] []:=
 ⟨kind,λp hp=>(h.1 p hp).1,λp hp=>(h.1 p hp).2.2,h.2.1,λp hp z=>aaG z (h.1 p hp).2.1,h.2.2,(λ_ z=>nomatch z),rfl⟩
theorem r_:∀{zs:List Str} {us:List Value},Φ (zs.map V.str) us->∃l:List (Str×Tok),us=strValues l/\l.map (·.1)=zs
 | [],_,h=>by cases h;exact ⟨[],rfl,rfl⟩
 | z::zs,_, .cons r t=>by obtain ⟨k,rfl⟩:=r;obtain ⟨l,rfl,e⟩:=r_ t;exact ⟨(z,k)::l,rfl,by rw [aaB,e]⟩
section
def Kj(K:fI):V->List V->Hp->VK->Prop:=λx xs H Q=>∃z p zs,x= .str z/\xs=[V.ref p]/\fc K H p (zs.map V.str)/\JoinOk z zs=true/\Q (.str (Txt.join z zs)) H
theorem GL:Mp X "str.join" (Kj X.K):=by intro γ s σ H x xs v us Q I rx rs h;obtain ⟨z,p,zs,rfl,rfl,sq,ok,q⟩:=h;obtain ⟨t,rfl⟩:=rx;obtain ⟨u,rfl,ru⟩:=eW rs;cases ru;obtain ⟨its,rv,pl,hz⟩:=I.list sq;obtain ⟨l,rfl,el⟩:=r_ rv;exact SC.join pl.isList el ok λt' k=>⟨.str _,H,I.tok k,⟨t',rfl⟩,q⟩
def zS:V->List V->Hp->VK->Prop:=λx xs H Q=>∃(z y:Str) (k:Int),x= .str z/\xs=[.str y, .int k]/\(y.length==0)=false/\z.length+2<=sizeLine/\0<=k/\k < 1000/\∀p,H p=none->Q (.ref p) (upd H p (.lst ((Txt.splitMax z y k).map V.str)))
theorem yi(x y:Str)(k:Int)(h:x.length+2<=sizeLine):(Txt.splitMax x y k).length<=sizeLine:=by
 unfold Txt.splitMax;split
 ·exact Nat.le_trans (by simp) (Nat.le_trans (Nat.le_add_left 2 x.length) h)
 ·split
  ·exact Nat.le_trans (by simp) (Nat.le_trans (Nat.le_add_left 2 x.length) h)
  ·have e1:=StrLaws.occ_length_le_len x y 0 x.length (limitOf x k);rw [length_partsBetween];omega
theorem B_:Mp X "str.split" zS:=by
 intro γ s σ H x xs v us Q I rx rs h;obtain ⟨z,y,k,rfl,rfl,hy,hz,k0,k1,q⟩:=h;obtain ⟨t,rfl⟩:=rx;obtain ⟨w,w2,rfl,⟨u,rfl⟩,⟨u2,rfl⟩⟩:=GA rs
 have fin:∀(l:List (Str×Tok)) (tk:Nat),l.map (·.1)=Txt.splitMax z y k->EP X γ σ Q (.ref s.heap.objs.size) {s with heap:=s.heap.push {cls:= .type "list",data:= .seq (strValues l).toArray},toks:=tk}:=λl tk e=>
  ⟨.ref _,_,I.Ft (t':=tk) (ys:=(Txt.splitMax z y k).map V.str) (by rw [<-e];exact mf l) (by rw [aaa];exact yi z y k hz),rfl,q _ I.fresh⟩
 have hk:(decide (k < -(2 ^ 63:Int)) || decide (k ≥ 2 ^ 63))=false:=by rw [aaC (by omega),aaC (by omega)];rfl
 have hn:(Builtin.Str.partsBetween z (Builtin.Str.occurrences z y 0 z.length (limitOf z k)) y.length).length<=sizeLine:=by have e1:=StrLaws.occ_length_le_len z y 0 z.length (limitOf z k);rw [length_partsBetween];omega
 cases h1:(decide (z.length < y.length) || decide (Builtin.Str.strKind z < Builtin.Str.strKind y))
 ·cases hf:(Builtin.Str.occurrences z y 0 z.length (limitOf z k)).isEmpty
  ·refine call_meets F.slot_str_split (typeIs_str _ _ _) F.entry_str_split (F.args_str_split_3 _ _ _) (meets_str_split_sep_max z y k t u u2 hk h1 hy hf (by omega) hn) ?_;show wants _ _ _ {s with toks:=_,heap:=s.heap.push {cls:= .type "list",data:= .seq (strsFrom s.toks (Builtin.Str.partsBetween z (Builtin.Str.occurrences z y 0 z.length (limitOf z k)) y.length)).toArray}};rw [strsFrom_eq];exact fin (numbered s.toks _) _ ((numbered_texts _ _).trans ((aaA (ne_true_of_eq_false h1)).trans (aaA (ne_true_of_eq_false hf))).symm)
  ·exact call_meets F.slot_str_split (typeIs_str _ _ _) F.entry_str_split (F.args_str_split_3 _ _ _) (meets_str_split_max_not_found z y k t u u2 hk h1 hy hf) (fin [(z,t)] s.toks ((aaA (ne_true_of_eq_false h1)).trans (aaD hf)).symm)
 ·exact call_meets F.slot_str_split (typeIs_str _ _ _) F.entry_str_split (F.args_str_split_3 _ _ _) (meets_str_split_max_cannot_occur z y k t u u2 hk h1) (fin [(z,t)] s.toks (aaD h1).symm)
def uk(n:Nat)(z:Str):Str:=⟨(List.replicate n z.cps).foldl (· ++ ·) #[]⟩
theorem qu(c:Array Nat):∀(k:Nat) (a:Array Nat),((List.replicate k c).foldl (· ++ ·) a).toList=a.toList++(List.replicate k c.toList).flatten
 | 0,a=>by simp
 | k+1,a=>by rw [List.replicate_succ,List.foldl_cons,qu c k,List.replicate_succ,List.flatten_cons];simp
theorem vY(n:Nat)(z:Str):(uk n z).cps.toList=(List.replicate n z.cps.toList).flatten:=by show ((List.replicate n z.cps).foldl (· ++ ·) #[]).toList=_;rw [qu];simp
def Jn:R2:=λx y H Q=>∃(z:Str) (n:Int),x= .str z/\y= .int n/\1<=n/\n<=100/\z.length<=100/\z.length≠0/\Q (.str (uk n.toNat z)) H
theorem HA:gh X (binaryOp .Mult) Jn:=by
 intro γ s σ H x y v u Q I rx ry h;obtain ⟨z,n,rfl,rfl,n1,n2,hz,UB,q⟩:=h;obtain ⟨t,rfl⟩:=rx;obtain ⟨t',rfl⟩:=ry;have le:z.length * n.toNat<=sizeLine:=aaq (Nat.mul_le_mul hz (show n.toNat<=100 by omega)) (by decide);refine PySem.P.mul_str (by rw [aaC (by omega),aaC (by omega)];rfl) (λ_ _=> ?_) (λ_ _=> ?_) ?_
 ·have h1:(100:Int)<=(2 ^ 63 - 1) / n:=by refine Int.le_ediv_of_mul_le (by omega) ?_;omega
  omega
 ·unfold PySem.Builtin.Str.tooLong;exact aaC (by omega)
 rw [aaA (show¬n < 1 by omega)];have z1:(z.length==0)=false:=beq_eq_false_iff_ne.mpr UB;rw [z1,Bool.or_false];cases e:(n==1)
 ·rw [aaA (by decide)];refine ⟨?_,⟨.str _,H,I.tok _,⟨_,rfl⟩,q⟩⟩;show (uk n.toNat z).length<=sizeLine;have:(uk n.toNat z).length=n.toNat * z.length:=by show (uk n.toNat z).cps.size=_;rw [<-aaX,vY,List.length_flatten];simp only [List.map_replicate,List.sum_replicate_nat];rw [aaX];rfl
  rw [this,Nat.mul_comm];exact le
 ·rw [aaD rfl];have e:n=1:=eq_of_beq e;subst e;have ez:uk (1:Int).toNat z=z:=by show (⟨#[]++z.cps⟩:Str)=z;rw [Array.empty_append]
  rw [ez] at q;exact ⟨.str z,H,I,⟨t,rfl⟩,q⟩
end
def rZ:Dt->List Dt->Ms->DQ->Prop
 | .str z,[e],M,q=>∃zs:List Str,ya M e=some (zs.map Dt.str)/\JoinOk z zs=true/\q (.str (Txt.join z zs)) M
 | _,_,_,_=>False
def nU:Dt->List Dt->Ms->DQ->Prop
 | .str z,[.str y, .int k],M,q=>((y.length==0)=false/\z.length+2<=sizeLine/\0<=k/\k < 1000)/\q (.lst ((Txt.splitMax z y k).map Dt.str)) M
 | _,_,_,_=>False
def AK:Dt->Dt->Ms->DQ->Prop
 | .str z, .int i,M,q=>(1<=i/\i<=100/\z.length<=100/\z.length≠0)/\q (.str (uk i.toNat z)) M
 | _,_,_,_=>False
def Fn:List Dt->Ms->DQ->Prop
 | [d],M,q=>∃xs,ya M d=some xs/\q (.tup xs) M
 | _,_,_=>False
section
variable{K:fI}
theorem pP{G:Hp}{L:List Addr}:∀{zs:List Str} {vs:List V},Ι K G L (zs.map Dt.str) vs->vs=zs.map V.str
 | [],_,h=>h
 | z::zs,_,h=>by obtain ⟨v,vs,rfl,h1,h2⟩:=h;rw [pP h2,show v=V.str z from h1];rfl
theorem NN:Ph K "str" (Kj K) rZ:=by
 intro G0 L0 H0 G L M H v d vs ds q e r n ns h;unfold rZ at h;split at h
 ·rename_i z y;obtain ⟨u,rfl,n2⟩:=ax ns;obtain ⟨zs,h1,h2,h3⟩:=h;cases n;obtain ⟨a,us,rfl,sq,dn⟩:=nN r n2 h1;rw [pP dn] at sq;exact ⟨z,a,zs,rfl,rfl,sq,h2,ao e r h3⟩
 ·exact h.elim
theorem Hc:Ph K "str" zS nU:=by
 intro G0 L0 H0 G L M H v d vs ds q e r n ns h;unfold nU at h;split at h
 ·rename_i z y k;obtain ⟨u,u2,rfl,n2,n3⟩:=dk ns;cases n;cases n2;cases n3;exact ⟨z,y,k,rfl,rfl,h.1.1,h.1.2.1,h.1.2.2.1,h.1.2.2.2,λp hp=>c_ e r hp (iO r hp iJ) h.2⟩
 ·exact h.elim
theorem OU:ka K Jn AK:=by
 intro G0 L0 H0 G L M H v1 v2 d1 d2 q e r n1 n2 h;unfold AK at h;split at h
 ·cases n1;cases n2;exact ⟨_,_,rfl,rfl,h.1.1,h.1.2.1,h.1.2.2.1,h.1.2.2.2,ao e r h.2⟩
 ·exact h.elim
theorem O3:AB K (λxs H Q=>∃p ys,xs=[.ref p]/\((fc K H p ys/\∀l,H l=none->Q (.ref l) (upd H l (.tup ys)))\/(j0 K H p ys/\Q (.ref p) H))) Fn:=by
 intro G0 L0 H0 G L M H vs ds q e r n h;unfold Fn at h;split at h
 ·obtain ⟨v,rfl,n1⟩:=ax n;obtain ⟨xs,h1,h2⟩:=h;obtain ⟨a,us,rfl,sq,dn⟩:=nN r n1 h1;exact ⟨a,us,rfl, .inl ⟨sq,λl hl=>c_ e r hl (iP r hl dn) h2⟩⟩
 ·exact h.elim
end
section
variable{e2 o:Expr}{apos af:Pos}
theorem eI(ho:JE X R o to)(ha:JA X R [e] t)(gb:attributeBase o "join" X.env (eval o X.env)=eval o X.env:=by rfl)
  (mE:((backTo af (starEach [e] X.env)).all (λx=> !x.1)&&(backToKw af (keywordEach [] X.env)).all (λx=>x.1.isSome)
   &&decide (([e]:List Expr).length+([]:List Keyword).length+(if ([]:List Keyword).isEmpty then 0 else 1) < 30))=true:=by rfl)
  (fR:(apos.endLine==af.line)=true:=by rfl) (hs:starEach [e] X.env=(false,eval e X.env)::starEach [] X.env:=by rfl) (cY:(backTo af (starEach [] X.env)).any (·.1)=false:=by rfl):
  JE X R (.Call (.Attribute o "join" apos) [e] [] af) (IF rZ to t):=
 oo PySem.F.slot_str_join PySem.F.type_str_join GL NN (λd ds M q h=>by unfold rZ at h;split at h <;> first | exact ⟨_,rfl⟩ | exact h.elim) ho ha gb mE fR hs cY
theorem ql(ho:JE X R o to)(ha:JA X R [e,e2] t)(gb:attributeBase o "split" X.env (eval o X.env)=eval o X.env:=by rfl)
  (mE:((backTo af (starEach [e,e2] X.env)).all (λx=> !x.1)&&(backToKw af (keywordEach [] X.env)).all (λx=>x.1.isSome)
   &&decide (([e,e2]:List Expr).length+([]:List Keyword).length+(if ([]:List Keyword).isEmpty then 0 else 1) < 30))=true:=by rfl)
  (fR:(apos.endLine==af.line)=true:=by rfl) (hs:starEach [e,e2] X.env=(false,eval e X.env)::starEach [e2] X.env:=by rfl) (cY:(backTo af (starEach [e2] X.env)).any (·.1)=false:=by rfl):
  JE X R (.Call (.Attribute o "split" apos) [e,e2] [] af) (IF nU to t):=
 oo PySem.F.slot_str_split PySem.F.type_str_split B_ Hc (λd ds M q h=>by unfold nU at h;split at h <;> first | exact ⟨_,rfl⟩ | exact h.elim) ho ha gb mE fR hs cY
theorem Gy(ja:JE X R a ta)(jb:JE X R b tb):JE X R (.BinOp a .Mult b pos) (dw AK ta tb):=va HA OU ja jb
theorem Hl(hm:X.mg "tuple"=none)(ha:JA X R [e] t)(he:starEach [e] X.env=(false,eval e X.env)::starEach [] X.env:=by rfl)(dj:(backTo pos (starEach [] X.env)).any (·.1)=false:=by rfl)(hg:Gl X "tuple":=by rfl):JE X R (.Call (.Name "tuple" p) [e] [] pos) (x8 Fn t):=
 j7 qH O3 hm ni ha hg (by decide) (by decide) he dj
end
def Jx(K:fI)(D:Addr)(tb ts:DS):DS:=λDn ρ M=>tb {Dn with x:=λρ' C _ M'=>PySem.W.subIn K (.ref C) (.ref D)=some true/\ts {Dn with x:=gT} ρ' M'} ρ M
section
variable{body:List Stmt}{D:Addr}{dn:Str}{b₀:Stmt}{bJ:List Stmt}{t_ np:Pos}{tb ts:DS}{j4:List Value}{eF:String}
theorem GZ(d:eK X.K D j4 eF)(C6:j4.contains (.type "BaseException")=true)(hm:X.mg dn=some (.ref D))
  (hb:∀(R:St->XK) (γ:List (Addr×Obj)),zA (Cx.LW X R γ) R body tb)
  (hs:∀(x:Addr) (pn:List (Addr×Obj)),zA (Cx.bJ X x pn) (λ_=>E0) (b₀::bJ) ts) (hc:X.calm=true:=by rfl) (rC:X.stack=X.env::X.outer:=by rfl) (hf:X.env.frame=some X.env.locals:=by rfl) (hg:Gl X dn:=by rfl) (gQ:(dn==("__debug__":Str))=false:=by decide):
  JS X R (.Try body [.ExceptHandler (some (.Name dn np)) none (b₀::bJ) t_] [] [] pos) (Jx X.K D tb ts):=
 .of (H_ (tb:=λR=>GW X.K R tb) (ts:=GW X.K (λ_=>E0) ts) hc rC hf d C6 hg hm hb hs gQ) λσ H G L ρ M Dn rl n h hx=>by
  refine ⟨λσ' cls od H'=>∃ρ' C M' G' L',cls= .ref C/\(PySem.W.subIn X.K (.ref C) (.ref D)=some true/\ts {Dn with x:=gT} ρ' M')/\Ex G L H G' L' H'/\Rl X.K G' L' M' H'/\iU X.K G' L' ρ' σ', ?_, ?_⟩
  ·exact ⟨G,L,ρ,M,_,rl,n,h,λσ' ρ' C fs M' G' L' H' od hq e r n y=>⟨ρ',C,M',G',L',rfl,hq,e,r,n⟩,⟨λ_ _ f=>f,λ_ _ f=>f,λ_ _ f=>f,λ_ _ f=>f⟩⟩
  ·rintro σ' cls od H' ⟨ρ',C,M',G',L',rfl,⟨T4,Uj⟩,e,r,n'⟩;exact ⟨C,rfl,T4,G',L',_,M',_,r,n',Uj,yF,qM.back e⟩
end
section
variable{C:Addr}{T:DF}{k:Nat}{a:Addr}{fd:FuncData}
theorem AQ(D:x_ X.prog X.w X.K X.mg X.base k x C ps T a fd)(hr:bx k' X.A)(hx:bE (br X.prog X.w) X R)(hk:k+1<=k':=by decide)(hg:Gl X x:=by rfl)(gQ:(x==("__debug__":Str))=false:=by decide):JE X R (.Call (.Name x p) [] [] pos) (AJ C T gZ):=
 .of (te:=Dr C (bK X.K T) [] R Mn) (λγ s σ H Q I h=>wpAny_Call_Name_kw (dN I hg D.m (PySem.W.callWith_K0 I.g_ D.k.kp (rX (us:=[]) (vs:=[]) D.k D.ok (hr.mono hk) D.b .nil hx I .nil h)) gQ)) λσ H G L ρ M q x rl en h hx=>by
  intro y dx hy Ox EW;show bK X.K T (V.ref y::([]++[])) _ _ _;have ra:=rl.Dh (o:= .own y) Ox;have ea:=rl.L9 (o:= .own y) Ox;have LJ:upd H dx (HO.own y) y=none:=by rw [Γ (Ne.symm EW)];exact hy
  have rb:=ra.D7 (p:=y) (o:= .ins C dx []) (m:= .ins C [] []) LJ ⟨dx,[],Ω,rfl,rfl⟩;have eb:=ra.PF (p:=y) (o:= .ins C dx []) LJ;have yw:=ea.trans eb;have hL:(L++[y])[M.length]? =some y:=by rw [<-rl.len,List.getElem?_append_right (Nat.le_refl _)];simp
  refine ⟨_,_,[.loc M.length],_,_,_,rb,⟨_,_,rfl,⟨y,rfl,hL⟩,rfl⟩,h,λv H' ⟨d,G',L',M',e',r',dn,hd,hq⟩=> ?_,λC fs M' G' L' H' od hq e' r' z=>hx σ ρ C fs M' G' L' H' od hq (yw.trans e') r' (en.mono (yw.trans e')) z⟩;subst hd;exact ⟨dn, .loc M.length,G',L',M',yw.trans e',r',⟨y,rfl,e'.l.get hL⟩,hq⟩
end
def zE(to ti:DE):DE:=λρ M q x=>to ρ M (λd M1=>(∃k ks ds,d= .loc k/\M1[k]? =some (.dt ks ds))/\ti ρ M1 (λdi M2=>∃k ks ds key v,d= .loc k/\M2[k]? =some (.dt ks ds)/\Bb di=some key/\
 cF ks ds key=some v/\q v (M2.set k (.dt (kz ks key) (dI key ks ds)))) x) x
section
variable{o:Expr}{apos af:Pos}
theorem zJ(ho:JE X R o to)(he:JE X R e te)(m:M1 X o "pop" apos e af:=by exact ⟨rfl,rfl,rfl,rfl⟩):JE X R (.Call (.Attribute o "pop" apos) [e] [] af) (zE to te):=
 .of (Fv ho he m) λσ H G L ρ M q x rl n h hx=>by refine ⟨G,L,ρ,M,_,x,rl,n,h,hx,λv H1 ⟨d1,G1,L1,M1,e1,r1,n1,⟨k0,ks0,ds0,Yo,Vn⟩,h1⟩=> ?_⟩;subst Yo;obtain ⟨a,rfl,JD⟩:=n1;obtain ⟨_,XD,hH0,_,_⟩:=r1.gW k0 a _ JD Vn;refine ⟨a,rfl, .inl ⟨_, .inl hH0⟩, ?_⟩;refine ⟨G1,L1,ρ,M1,_,x,r1,n.mono e1,h1,hx.on e1,λv2 H2 ⟨d2,G2,L2,M2,e2,r2,n2,k,ks,ds,key,dv,ed,hm,hk,hg,h2⟩=> ?_⟩;cases ed;have B2:=e2.l.get JD;obtain ⟨_,vs,hH,hl,dn⟩:=r2.gW k0 a _ B2 hm;have Jg:ks.length=vs.length:=hl.trans dn.length;obtain ⟨u,hu,du⟩:=my dn hg;exact ⟨_,key,u,hH,kE hk n2,hu,dv,G2,L2,_,(e1.trans e2).trans (r2.J9 B2),r2.setM (m:= .dt (kz ks key) (dI key ks ds)) B2 ⟨dI key ks vs,by rw [Ω,sV Jg],sX hl,vm dn hl⟩,du,h2⟩
end
structure Ho(K:fI)(w:World)(mg:Str->Option Value)(x:Str)(tab:List (Str×Int)):Prop where
 ex:∃a es n,mg x=some (.ref a)/\K.lookup a=some ⟨.type "dict",none, .dict es n, #[]⟩/\PySem.W.KeysLit w.params es.toList/\(a==sysModules)=false/\∀z y,tab.lookup z=some y->∃tk,PySem.W.nsIn K a z=some (some (.int y tk))
def Kb(tab:List (Str×Int))(ti:DE):DE:=λρ M q x=>ti ρ M (λd M1=>∃z y,d= .str z/\tab.lookup z=some y/\q (.int y) M1) x
def P2(tab:List (Str×Int))(ti:TE):TE:=λσ H Q=>ti σ H λv H1=>∃z y,v= .str z/\tab.lookup z=some y/\Q (.int y) H1
def J0(tab:List (Str×Int))(ti:DE):DT:=λρ M q x=>ti ρ M (λd M1=>∃z y,d= .str z/\tab.lookup z=some y/\q false M1) x
section
variable{tab:List (Str×Int)}
theorem Iz{ti:TE}(T:Ho X.K X.w X.mg x tab)(hi:PE X i ti)(hs:wj i)(hg:Gl X x)(gQ:(x==("__debug__":Str))=false):PE X (.Subscript (.Name x p) i pos) (P2 tab ti):=by obtain ⟨a,es,n,hm,hl,hk,_,ht⟩:=T.ex;intro γ s σ H Q I h;refine oa abo.lookup hs (dN I hg hm ?_ gQ);refine aY (hi γ s σ H _ I h) λiv s2 ⟨v,H2,I2,rv,z,y,ev,hy,q2⟩=> ?_;subst ev;obtain ⟨t,rfl⟩:=rv;obtain ⟨tk,hn⟩:=ht z y hy;have hM:=PySem.W.mapOf_K (prog:=X.prog) (w:=X.w) I2.g_ hl hk;exact ⟨hM.typeIs,wpAny_getItem_of (strKind_is X.prog X.w z t) hM (PySem.W.find_K hl hn) ⟨.int y,H2,I2.tok _,⟨tk,rfl⟩,q2⟩⟩
theorem MV(T:Ho X.K X.w X.mg x tab)(hi:JE X R i ti)(hs:wj i:=by intro _ _;rfl)(hg:Gl X x:=by rfl)(gQ:(x==("__debug__":Str))=false:=by decide):JE X R (.Subscript (.Name x p) i pos) (Kb tab ti):=
 .of (Iz T hi hs hg gQ) λσ H G L ρ M q x rl n h hx=>by refine ⟨G,L,ρ,M,_,x,rl,n,h,hx,λv H1 ⟨d1,G1,L1,M1,e1,r1,n1,z,y,ed,hy,h1⟩=> ?_⟩;subst ed;exact ⟨z,y,n1,hy,ao e1 r1 h1⟩
theorem GN(T:Ho X.K X.w X.mg x tab)(hi:JE X R i ti)(hm:behindInMarks .NotIn (.Name x p)=false:=by rfl)(hg:Gl X x:=by rfl)(gQ:(x==("__debug__":Str))=false:=by decide):JT X R (.Compare i [.NotIn] [.Name x p] pos) (J0 tab ti):=by
 obtain ⟨a,es,n,ZY,hl,hk,lo,ht⟩:=T.ex;have ho:gh X (compareOp .NotIn) (λv u H Q=>∃z y,v=V.str z/\u=V.ref a/\tab.lookup z=some y/\Q (.bl false) H):=by intro γ s σ H v u vv uu Q I rv ru ⟨z,y,ev,eu,hy,q⟩;subst ev eu;obtain ⟨t,rfl⟩:=rv;obtain rfl:uu=Value.ref a:=ru;obtain ⟨tk,hn⟩:=ht z y hy;exact wpAny_notIn_of (strKind_is X.prog X.w z t) lo (PySem.W.mapOf_K (prog:=X.prog) (w:=X.w) I.g_ hl hk) (by rw [PySem.W.find_K hl hn];exact ⟨.bl false,H,I.tok _,rfl,q⟩)
 have od:ka X.K (λv u H Q=>∃z y,v=V.str z/\u=V.ref a/\tab.lookup z=some y/\Q (.bl false) H) (λd e M q=>∃z y,d= .str z/\e= .ref a/\tab.lookup z=some y/\q (.bl false) M):=by intro G0 L0 H0 G L M H v1 v2 d1 d2 q e r n1 n2 ⟨z,y,ed,ee,hy,h⟩;subst ed ee;exact ⟨z,y,n1,n2,hy,ao e r h⟩
 have J:=eU ho od hi (Mj (R:=R) (p:=p) ZY hg gQ) hm (pos:=pos);intro γ s σ H Q I ⟨G,L,ρ,M,q,xx,r,en,h,hx,hQ⟩;refine J γ s σ H Q I ⟨G,L,ρ,M,q,xx,r,en, ?_,hx,hQ⟩;show ti ρ M (λd M1=>∃z y,d= .str z/\Dt.ref a= .ref a/\tab.lookup z=some y/\q false M1) xx;have e:(λd M1=>∃z y,d=Dt.str z/\Dt.ref a= .ref a/\tab.lookup z=some y/\q false M1)=(λd M1=>∃z y,d= .str z/\tab.lookup z=some y/\q false M1):=by
  funext d M1;simp
 rw [e];exact h
end
structure LX(P:Program)(w:World)(K:fI)(mg:Str->Option Value)(base:Heap)(k:Nat)(x:Str)(ps:List Str)(tab:List (Str×DF)):Prop where
 ex:∃a es n,mg x=some (.ref a)/\K.lookup a=some ⟨.type "dict",none, .dict es n, #[]⟩/\PySem.W.KeysLit w.params es.toList/\∀z T,tab.lookup z=some T->∃f fd,PySem.W.nsIn K a z=some (some (.ref f))/\Τ P w K mg base (br P w) k f fd ps (bK K T)/\gc K fd ps []/\PySem.W.keepIn K (.ref f)=true
def J3(tab:List (Str×DF))(ti:DE)(t:DA):DE:=λρ M q x=>ti ρ M (λd M1=>∃z T,d= .str z/\tab.lookup z=some T/\t ρ M1 (λds M2=>T ds M2 q (λC fs M'=>x ρ C fs M')) x) x
section
variable{es:List Expr}{Pu:Pos}{k:Nat}{tab:List (Str×DF)}
theorem KP(T:LX X.prog X.w X.K X.mg X.base k x ps tab)(hr:bx k' X.A)(hx:bE (br X.prog X.w) X R)(hi:JE X R i ti)(ha:JA X R (e::es) t)(uS:k<=k':=by decide)(hs:wj i:=by intro _ _;rfl)(hg:Gl X x:=by rfl)(gQ:(x==("__debug__":Str))=false:=by decide)
  (he:starEach (e::es) X.env=(false,eval e X.env)::starEach es X.env:=by rfl) (dj:(backTo pos (starEach es X.env)).any (·.1)=false:=by rfl):JE X R (.Call (.Subscript (.Name x p) i Pu) (e::es) [] pos) (J3 tab ti t):=by
 obtain ⟨a,ds,n,hm,hl,hk,ht⟩:=T.ex;refine .of (te:=λσ H Q=>qi X.K R ti σ H λv H1=>∃z T,v= .str z/\tab.lookup z=some T/\MQ X.K R t σ H1 λvs H2=>bK X.K T (vs++[]) H2 Q (R σ)) (λγ s σ H Q I h=> ?_) λσ H G L ρ M q x rl n h hx=> ?_
 ·show wpAny _ _ (do callWith pos (<-eval (.Subscript (.Name x p) i Pu) X.env) [] (backTo pos (starEach (e::es) X.env)) (backToKw pos (keywordEach [] X.env))) _ _ _;refine aah (oa abo.lookup hs (dN I hg hm ?_ gQ));refine aY (hi γ s σ H _ I h) λiv s2 ⟨v,H2,I2,rv,z,T',ev,hy,q2⟩=> ?_;subst ev;obtain ⟨tk,rfl⟩:=rv;obtain ⟨f,fd,hn,ok,b,kp⟩:=ht z T' hy;have hM:=PySem.W.mapOf_K (prog:=X.prog) (w:=X.w) I2.g_ hl hk;refine ⟨hM.typeIs,wpAny_getItem_of (strKind_is X.prog X.w z tk) hM (PySem.W.find_K hl hn) ?_⟩;refine PySem.W.callWith_K (h₀:=X.base) I.ok.mod.vw kp (aY (ha pos γ _ σ H2 _ (I2.tok _) q2) λus s1 ⟨vs,H3,I3,r,q3⟩=>⟨I3.g_, ?_⟩) he dj;exact nR (us:=us) (vs:=vs) ok (hr.mono uS) b .nil hx I3 r q3
 ·refine ⟨G,L,ρ,M,_,x,rl,n,h,hx,λv H1 ⟨d1,G1,L1,M1,e1,r1,n1,z,T',ed,hy,h1⟩=> ?_⟩;subst ed;refine ⟨z,T',n1,hy,G1,L1,ρ,M1,_,x,r1,n.mono e1,h1,hx.on e1,λvs H2 ⟨ds,G2,L2,M2,e2,r2,n2,h2⟩=> ?_⟩;rw [aaQ];have yw:=e1.trans e2;exact ⟨G2,L2,ds,M2,q,_,r2,n2,h2,λv H' f=>Fin.back yw f,λC fs M' G' L' H' od hq e' r' y=>hx σ ρ C fs M' G' L' H' od hq (yw.trans e') r' (n.mono (yw.trans e')) y⟩
end
end L2
namespace Fr0
variable{b t:Int}
def g(a b:Int):Int:=(Int.gcd a b:Nat)
theorem wZ{a:Int}(h:b≠0):0 < g a b:=by have:=Int.gcd_pos_of_ne_zero_right a h;unfold g;omega
theorem FF{a:Int}(h:0<=a):g a 0=a:=by unfold g;rw [Int.gcd_zero_right];omega
theorem FP{a:Int}(hb:0 < b):g b (a.fmod b)=g a b:=by
 unfold g;rw [abg a (aaR hb),Int.gcd_comm a b]
 congr 1
 refine Int.gcd_right_eq_iff.mpr λc hc=> ?_;rw [Int.emod_def];constructor
 ·intro h;have:=Int.dvd_add h (Int.dvd_mul_of_dvd_left (c:=a / b) hc);rwa [Int.sub_add_cancel] at this
 ·intro h;exact Int.dvd_sub h (Int.dvd_mul_of_dvd_left (c:=a / b) hc)
theorem Jy(a b:Int):g (if a < 0 then -a else a) (if b < 0 then -b else b)=g a b:=by unfold g;split <;> split <;> simp
def dv(t b:Int):Int:=if b < 0 then -(g t b) else g t b
def aD(t b:Int):Int×Int:=(t.fdiv (dv t b),b.fdiv (dv t b))
theorem Aj(h:b≠0):dv t b≠0:=by have:=wZ (a:=t) h;unfold dv;split <;> omega
theorem w4{k p:Int}(h:k≠0):(k * p).fdiv k=p:=by rw [abw];exact Int.mul_fdiv_cancel p h
theorem DJ(h:b≠0):∃p q:Int,t=dv t b * p/\b=dv t b * q/\0 < q/\Int.gcd p q=1:=by
 have hg:=wZ (a:=t) h;have h0:0 < Int.gcd t b:=Int.gcd_pos_of_ne_zero_right t h;obtain ⟨p,hp⟩:=Int.gcd_dvd_left t b;obtain ⟨q,hq⟩:=Int.gcd_dvd_right t b;have hc:Int.gcd p q=1:=by
  have e:=Int.gcd_ediv_gcd_ediv_gcd h0;have n0:(Int.gcd t b:Int)≠0:=by omega
  have e1:t / (Int.gcd t b:Int)=p:=by
   conv=>lhs;arg 1;rw [hp]
   exact abI p n0
  have e2:b / (Int.gcd t b:Int)=q:=by
   conv=>lhs;arg 1;rw [hq]
   exact abI q n0
  rwa [e1,e2] at e
 have N5:t=g t b * p:=hp;have gU:b=g t b * q:=hq;by_cases hb:b < 0
 ·have hd:dv t b= -(g t b):=by unfold dv;rw [if_pos hb]
  refine ⟨-p, -q, ?_, ?_, ?_, ?_⟩
  ·rw [hd,Int.neg_mul_neg];exact N5
  ·rw [hd,Int.neg_mul_neg];exact gU
  ·have:g t b * q < 0:=by rw [<-gU];exact hb
   by_cases q0:0<=q
   ·exact aaG (Int.mul_nonneg (aaR hg) q0) (by omega)
   ·omega
  ·simpa using hc
 ·have hd:dv t b=g t b:=by unfold dv;rw [if_neg hb]
  refine ⟨p,q,by rw [hd];exact N5,by rw [hd];exact gU, ?_,hc⟩;have:0 < g t b * q:=by rw [<-gU];omega
  exact Int.pos_of_mul_pos_right this hg
theorem dR  (h : b ≠ 0) : ∃ p q : Int, aD t b = (p, q) /\ 0 < q /\ Int.gcd p q = 1 /\ t = dv t b * p /\ b = dv t b * q := by
  obtain ⟨p, q, hp, hq, h0, hc⟩ := DJ (t := t) h;have n0 := Aj (t := t) h;refine ⟨p, q, ?_, h0, hc, hp, hq⟩;unfold aD
  have e1 : t.fdiv (dv t b) = p := by conv => lhs; arg 1; rw [hp]
                                      exact w4 n0
  have e2 : b.fdiv (dv t b) = q := by conv => lhs; arg 1; rw [hq]
                                      exact w4 n0
  rw [e1, e2]
theorem gw(h:b≠0):t * (aD t b).2=b * (aD t b).1:=by
 obtain ⟨p,q,e,_,_,hp,hq⟩:=dR (t:=t) h;rw [e];show t * q=b * p
 calc t * q=dv t b * p * q:=by rw [<-hp]
  _=dv t b * q * p:=by rw [Int.mul_assoc,abw p q,<-Int.mul_assoc]
  _=b * p:=by rw [<-hq]
theorem cc(h:b≠0):0 < (aD t b).2:=by obtain ⟨p,q,e,h0,_⟩:=dR (t:=t) h;rw [e];exact h0
theorem fV(h:b≠0):Int.gcd (aD t b).1 (aD t b).2=1:=by obtain ⟨p,q,e,_,hc,_⟩:=dR (t:=t) h;rw [e];exact hc
theorem nr{k m n:Int}(h:k∣m * n)(hc:Int.gcd k m=1):k∣n:=by have:=(Int.dvd_gcd_mul_iff_dvd_mul (k:=k) (n:=m) (m:=n)).mpr h;rw [hc] at this;simpa using this
theorem zc{p q p' q':Int}(hq:0 < q)(gU:0 < q')(h:Int.gcd p q=1)(h':Int.gcd p' q'=1)(e:p * q'=p' * q):p=p'/\q=q':=by
 have d1:q∣q':=by have:q∣p * q':=⟨p',by rw [e,abw]⟩;exact nr this (by rw [Int.gcd_comm];exact h)
 have d2:q'∣q:=by have:q'∣p' * q:=⟨p,by rw [<-e,abw]⟩;exact nr this (by rw [Int.gcd_comm];exact h')
 have eq:q=q':=Int.le_antisymm (Int.le_of_dvd gU d1) (Int.le_of_dvd hq d2);subst eq;exact ⟨Int.eq_of_mul_eq_mul_right (by omega) e,rfl⟩
theorem Ih{p q:Int}(h:b≠0)(hq:0 < q)(hc:Int.gcd p q=1)(e:t * q=b * p):aD t b=(p,q):=by
 have h1:=gw (t:=t) h;have h2:=cc (t:=t) h;have h3:=fV (t:=t) h;have h4:(aD t b).1 * q=p * (aD t b).2:=by
  have:b * ((aD t b).1 * q)=b * (p * (aD t b).2):=by rw [<-Int.mul_assoc,<-h1,Int.mul_right_comm,e,Int.mul_assoc]
  exact abE h this
 have:=zc h2 hq h3 hc h4;exact Prod.ext this.1 this.2
theorem sk{p q:Int}(hq:0 < q)(hc:Int.gcd p q=1):aD p q=(p,q):=Ih (by omega) hq hc (abw _ _)
theorem sY(h:b≠0):(dv t b).natAbs<=b.natAbs:=by
 have e:(dv t b).natAbs=Int.gcd t b:=by unfold dv g;split <;> omega
 rw [e];exact Int.gcd_le_natAbs_right t h
theorem pB  (h : b ≠ 0) : (aD t b).1.natAbs <= t.natAbs := by
  obtain ⟨p, q, e, _, _, hp, _⟩ := dR (t := t) h;have n0 := Aj (t := t) h;rw [e];show p.natAbs <= t.natAbs
  have : t.natAbs = (dv t b).natAbs * p.natAbs := by conv => lhs; rw [hp]
                                                     exact Int.natAbs_mul _ _
  rw [this];exact Nat.le_mul_of_pos_left _ (by omega)
theorem ke  (h : b ≠ 0) : (aD t b).2.natAbs <= b.natAbs := by
  obtain ⟨p, q, e, _, _, _, hq⟩ := dR (t := t) h;have n0 := Aj (t := t) h;rw [e];show q.natAbs <= b.natAbs
  have : b.natAbs = (dv t b).natAbs * q.natAbs := by conv => lhs; rw [hq]
                                                     exact Int.natAbs_mul _ _
  rw [this];exact Nat.le_mul_of_pos_left _ (by omega)
theorem G8(h:0 < b):aD t b=(t.fdiv (g t b),b.fdiv (g t b)):=by unfold aD dv;rw [aaA (by omega)]
end Fr0
namespace Tx
open PySem PySem.NumText
variable{n c:Nat}{x:Str}{tl:List Nat}{ps:List (List Nat)}
def dig(n:Nat):List Nat:=(Nat.toDigits 10 n).map Char.toNat
theorem ET:∀d:Nat,d < 10->(Nat.digitChar d).toNat=48+d:=by decide
theorem fH(h:n < 10):dig n=[48+n]:=by unfold dig;rw [Nat.toDigits_of_lt_base h,aaB,abN,ET n h]
theorem oj(h:10<=n):dig n=dig (n / 10)++[48+n % 10]:=by have hm:n % 10 < 10:=Nat.mod_lt n (by decide);have t:Nat.toDigits 10 (n / 10)++Nat.toDigits 10 (n % 10)=Nat.toDigits 10 (10 * (n / 10)+n % 10):=Nat.toDigits_append_toDigits (by decide) (by omega) hm;rw [Nat.div_add_mod] at t;unfold dig;rw [<-t,List.map_append,Nat.toDigits_of_lt_base hm,aaB,abN,ET _ hm]
theorem iG(n:Nat):AllDigits (dig n):=by
 induction n using Nat.strongRecOn with
 | _ n ih=>
  by_cases h:n < 10
  ·rw [fH h];intro c hc;have:c=48+n:=by simpa using hc
   omega
  ·rw [oj (by omega)];intro c hc;rcases aaK.mp hc with z | z
   ·exact ih (n / 10) (by omega) c z
   ·have:c=48+n % 10:=by simpa using z
    omega
theorem LD(n:Nat):dig n≠[]:=by
 by_cases h:n < 10
 ·rw [fH h];simp
 ·rw [oj (by omega)];simp
theorem Ig(n:Nat):digitsVal (dig n)=n:=PySem.W.KIN.val_back n
theorem kQ:∀(k n:Nat),n < 10 ^ (k+1)->(dig n).length<=k+1
 | 0,n,h=>by rw [fH (by simpa using h)];simp
 | k+1,n,h=>by
  by_cases Q1:n < 10
  ·rw [fH Q1];simp
  ·rw [oj (by omega),aab]
   have:=kQ k (n / 10) (by
    rw [Nat.pow_succ] at h
    omega)
   simp only [List.length_cons,List.length_nil];omega
theorem Di(h:n≠0):∃c r,dig n=c::r/\c≠48:=by
 induction n using Nat.strongRecOn with
 | _ n ih=>
  by_cases Q1:n < 10
  ·exact ⟨48+n,[],fH Q1,by omega⟩
  ·obtain ⟨c,r,e,hc⟩:=ih (n / 10) (by omega) (by omega);exact ⟨c,r++[48+n % 10],by rw [oj (by omega),e];rfl,hc⟩
def sg(i:Int):List Nat:=if i < 0 then [45] else []
theorem str_int(i:Int):(Str.ofString (toString i)).cps.toList=sg i++dig i.natAbs:=by
 cases i with
 | ofNat m=>exact PySem.W.KIN.signs_num m
 | negSucc m=>
  rw [show sg (Int.negSucc m)=[45] from aaD (Int.negSucc_lt_zero m)];have e:(Str.ofString (toString (Int.negSucc m))).cps.toList=(toString (Int.negSucc m)).toList.map Char.toNat:=PyProof.Rows.signs_ofString _;rw [e];have e2:toString (Int.negSucc m)="-"++toString (m+1):=rfl;rw [e2,String.toList_append,List.map_append];have e3:(toString (m+1)).toList.map Char.toNat=dig (m+1):=by show (Nat.repr (m+1)).toList.map Char.toNat=_;rw [Nat.toList_repr];rfl
  rw [e3];rfl
def mk(cs:List Nat):Str:=⟨cs.toArray⟩
theorem cq(cs:List Nat):(mk cs).cps.toList=cs:=rfl
theorem ι(cs:List Nat):(mk cs).length=cs.length:=by simp [mk,Str.length]
theorem fS{z:Str}{cs:List Nat}(h:z.cps.toList=cs):z=mk cs:=by
 cases z with
 | mk a=>
  have:a.toList=cs:=h;subst this;rfl
theorem ω(a b:List Nat):mk a++mk b=mk (a++b):=fS (by show (a.toArray++b.toArray).toList=a++b;simp)
theorem gI(i:Int):Str.ofString (toString i)=mk (sg i++dig i.natAbs):=fS (str_int i)
theorem AU{c:Nat}:∀{p q X Y:List Nat},c∉p->c∉q->p++c::X=q++c::Y->p=q/\X=Y
 | [],[],X,Y,_,_,e=>⟨rfl,by simpa using e⟩
 | [],b::q,X,Y,_,hq,e=>by
  have:c=b:=by simpa using (List.cons.inj e).1
  exact aaG (by rw [this];exact aad) hq
 | a::p,[],X,Y,hp,_,e=>by
  have:a=c:=by simpa using (List.cons.inj e).1
  exact aaG (by rw [<-this];exact aad) hp
 | a::p,b::q,X,Y,hp,hq,e=>by have e1:=(List.cons.inj e).1;have e2:=(List.cons.inj e).2;obtain ⟨h1,h2⟩:=AU (λz=>hp (aae _ z)) (λz=>hq (aae _ z)) e2;exact ⟨by rw [e1,h1],h2⟩
theorem fY(s x y:Str)(r:List Str):(Str.join s (x::y::r)).cps.toList=x.cps.toList++(s.cps.toList++(Str.join s (y::r)).cps.toList):=by show ((x.cps++s.cps)++(Str.join s (y::r)).cps).toList=_;simp
theorem AF{y:Str}(h:x.cps.toList=y.cps.toList):x=y:=(fS h).trans (fS rfl).symm
theorem vx{c:Nat}:∀(ps qs:List Str),ps≠[]->qs≠[]->(∀p∈ps,c∉p.cps.toList)->(∀p∈qs,c∉p.cps.toList)->(Str.join ⟨#[c]⟩ ps).cps.toList=(Str.join ⟨#[c]⟩ qs).cps.toList->ps=qs
 | [],_,h,_,_,_,_=>aaG rfl h
 | _,[],_,h,_,_,_=>aaG rfl h
 | [p],[q],_,_,_,_,e=>by rw [AF (x:=p) (y:=q) e]
 | [p],q::q'::r,_,_,hp,_,e=>by rw [fY] at e;have e:p.cps.toList=q.cps.toList++([c]++_):=e;exact absurd (by rw [e];simp) (hp p List.mem_cons_self)
 | p::p'::r,[q],_,_,_,hq,e=>by rw [fY] at e;have e:p.cps.toList++([c]++_)=q.cps.toList:=e;exact absurd (by rw [<-e];simp) (hq q List.mem_cons_self)
 | p::p'::r,q::q'::s,_,_,hp,hq,e=>by rw [fY,fY] at e;obtain ⟨h1,h2⟩:=AU (c:=c) (hp p aad) (hq q aad) e;rw [AF h1,vx (p'::r) (q'::s) (by simp) (by simp) (λx hx=>hp x (List.mem_cons_of_mem _ hx)) (λx hx=>hq x (List.mem_cons_of_mem _ hx)) h2]
theorem xl(x y:Str):Txt.split x y≠[]:=by
 unfold Txt.split;split
 ·simp
 ·split
  ·simp
  ·rw [StrLaws.partsBetween_eq];obtain ⟨p,r,e⟩:=StrLaws.partsFrom_ne x y.length 0 (Builtin.Str.occurrences x y 0 x.length (x.length+1));rw [e];simp
theorem k_{ps:List Str}(hn:ps≠[])(hf:∀p∈ps,c∉p.cps.toList)(hj:(Str.join ⟨#[c]⟩ ps).cps.toList=x.cps.toList):Txt.split x ⟨#[c]⟩=ps:=
 vx _ _ (xl x _) hn (StrLaws.split_free x c) hf (by rw [StrLaws.join_split];exact hj.symm)
theorem EO{cs:List Nat}(h:c∉cs):Txt.split (mk cs) ⟨#[c]⟩=[mk cs]:=k_ (by simp) (λp hp=>by
 have:p=mk cs:=by simpa using hp
 rw [this];exact h) rfl
theorem ER{a b:List Nat}(ha:c∉a)(hb:c∉b):Txt.split (mk (a++c::b)) ⟨#[c]⟩=[mk a,mk b]:=k_ (by simp) (λp hp=>by
 have:p=mk a\/p=mk b:=by simpa using hp
 rcases this with e | e <;> rw [e] <;> assumption) (by rw [fY];rfl)
def M8(cs:List Nat):Prop:=cs≠[]/\cs.length<=60/\AllDigits cs/\(cs.head?=some 48->cs=[48])
instance (cs:List Nat):Decidable (AllDigits cs):=by unfold AllDigits;infer_instance
instance (cs:List Nat):Decidable (M8 cs):=by unfold M8;infer_instance
def iV(cs:List Nat):Option Nat:=if M8 cs then some (digitsVal cs) else none
def o7(cs:List Nat):Option Int:=match cs with
 | 45::r=>(match iV r with
  | some n=>if n=0 then none else some (-(n:Int))
  | none=>none)
 | _=>(match iV cs with
  | some n=>some (n:Int)
  | none=>none)
theorem pY(h:n < 10 ^ 60):iV (dig n)=some n:=by
 have hk:M8 (dig n):=by
  refine ⟨LD n,kQ 59 n h,iG n,λe=> ?_⟩;by_cases h0:n=0
  ·rw [h0];rfl
  ·obtain ⟨c,r,e1,hc⟩:=Di h0;rw [e1] at e;exact aaG (aaw e) hc
 unfold iV;rw [aaD hk,Ig]
theorem vI{i:Int}(h:i.natAbs < 10 ^ 60):o7 (sg i++dig i.natAbs)=some i:=by
 by_cases hi:i < 0
 ·have e:sg i++dig i.natAbs=45::dig i.natAbs:=by unfold sg;rw [if_pos hi];rfl
  rw [e];unfold o7;simp only [pY h];rw [aaA (by omega)]
  congr 1
  omega
 ·have e:sg i++dig i.natAbs=dig i.natAbs:=by unfold sg;rw [if_neg hi];rfl
  rw [e];unfold o7;have hd:=iG i.natAbs;split
  ·rename_i r er;have:=hd 45 (by rw [er];exact aad);omega
  ·simp only [pY h]
   congr 1
   omega
def wr(p b:Int):List Nat:=sg p++dig p.natAbs++(if b=1 then [] else 47::dig b.natAbs)
theorem O9(i:Int):47∉sg i++dig i.natAbs:=λh=>by
 rcases aaK.mp h with z | z
 ·unfold sg at z;split at z
  ·have:(47:Nat)=45:=by simpa using z
   omega
  ·cases z
 ·have:=iG i.natAbs 47 z;omega
theorem PM(n:Nat):47∉dig n:=λz=>by have:=iG n 47 z;omega
def rd(z:Str):Option (Int×Int):=match Txt.split z ⟨#[47]⟩ with
 | [a]=>(match o7 a.cps.toList with
  | some t=>some (Fr0.aD t 1)
  | none=>none)
 | [a,b]=>(match o7 a.cps.toList with
  | some t=>(match iV b.cps.toList with
   | some n=>if n < 2 then none else if (Fr0.aD t n).2=n then some (Fr0.aD t n) else none
   | none=>none)
  | none=>none)
 | _=>none
theorem OB{p b:Int}(hb:0 < b)(hc:Int.gcd p b=1)(h1:p.natAbs < 10 ^ 60)(h2:b.natAbs < 10 ^ 60):rd (mk (wr p b))=some (p,b):=by
 unfold rd wr;by_cases C0:b=1
 ·subst C0;rw [aaD rfl,aaQ,EO (O9 p)];simp only [cq,vI h1];rw [Fr0.sk (by decide) hc]
 ·rw [aaA C0,ER (O9 p) (PM _)];simp only [cq,vI h1,pY h2];have e:((b.natAbs:Nat):Int)=b:=by omega
  rw [aaA (by omega),e,Fr0.sk hb hc,aaD rfl]
theorem ES{p b:Int}(h1:p.natAbs < 10 ^ 60)(h2:b.natAbs < 10 ^ 60):(wr p b).length<=122:=by unfold wr sg;have:=kQ 59 _ h1;have:=kQ 59 _ h2;simp only [List.length_append];split <;> split <;> simp <;> omega
theorem Dy(z:Str)(c:Nat):(!(Builtin.Str.occurrences z ⟨#[c]⟩ 0 z.length 1).isEmpty)=decide (c∈z.cps.toList):=StrLaws.found_one z c
theorem dX{i:Int}(h:i.natAbs < 10 ^ 60):i.natAbs.log2 < 1920:=by
 by_cases h0:i.natAbs=0
 ·rw [h0];decide
 ·exact (Nat.log2_lt h0).mpr (aam h (by decide+kernel))
open PySem PySem.StrLaws PySem.Builtin.Str
theorem lG(s sub:Str)(hi limit lo:Nat)(hw:1<=sub.length):∀(m cur:Nat) (st:Array Nat×Nat),ChainG s sub hi lo st.fst.toList st.snd->st.fst.size<=limit->(st.fst.size=limit\/∀k,st.snd<=k->k < cur->¬At s sub hi k)->
  ChainG s sub hi lo (forIn (List.range' cur m) st (occBody s sub hi limit)).run.fst.toList (forIn (List.range' cur m) st (occBody s sub hi limit)).run.snd/\(forIn (List.range' cur m) st (occBody s sub hi limit)).run.fst.size<=limit/\
  ((forIn (List.range' cur m) st (occBody s sub hi limit)).run.fst.size=limit\/∀k,(forIn (List.range' cur m) st (occBody s sub hi limit)).run.snd<=k->k < cur+m->¬At s sub hi k)
 | 0,cur,st,h,hl,hn=>⟨h,hl,hn⟩
 | m+1,cur,st,h,hl,hn=>by
  rw [List.range'_succ,List.forIn_cons];unfold occBody;have e:cur+(m+1)=(cur+1)+m:=by omega
  rw [e];split
  ·rename_i hc;have rA:∀k,st.snd<=k->k < cur->¬At s sub hi k:=hn.resolve_left (by have:=hc.1.1.1;omega);refine lG s sub hi limit lo hw m (cur+1) _ ?_ ?_ (.inr ?_)
   ·show ChainG s sub hi lo (st.fst.push cur).toList (cur+sub.length);rw [Array.toList_push];exact chainG_snoc h hc.1.1.2 ⟨hc.1.2,hc.2⟩ rA
   ·show (st.fst.push cur).size<=limit;rw [Array.size_push];have:=hc.1.1.1;omega
   ·intro k h1 h2;have VL:cur+sub.length<=k:=h1;omega
  ·rename_i hc;refine lG s sub hi limit lo hw m (cur+1) _ h hl ?_;by_cases hz:st.fst.size=limit
   ·exact .inl hz
   have rA:=hn.resolve_left hz;refine .inr λk h1 h2 hA=> ?_;by_cases hk:k < cur
   ·exact rA k h1 hk hA
   ·have ek:k=cur:=by omega
    subst ek;exact hc ⟨⟨⟨by omega,h1⟩,hA.1⟩,hA.2⟩
theorem AS(x y:Str)(limit:Nat)(hw:1<=y.length):∃f,ChainG x y x.length 0 (occurrences x y 0 x.length limit) f/\(occurrences x y 0 x.length limit).length<=limit/\((occurrences x y 0 x.length limit).length=limit\/∀k,f<=k->¬At x y x.length k):=by
 rw [occ_eq];have key:=lG x y x.length limit 0 hw (x.length+1 - 0) 0 ((#[]:Array Nat),0) rfl (aa1 _) (.inr λk _ h=>by omega);refine ⟨_,key.1,key.2.1, ?_⟩;rcases key.2.2 with h | h
 ·exact .inl h
 ·exact .inr λk hk hA=>h k hk (by have:=hA.1;omega) hA
inductive xQ(c:Nat)(tl:List Nat):Nat->List Nat->List (List Nat)->Prop
 | last {l:Nat} {p:List Nat} (h:l=0\/c∉p):xQ c tl l p [p]
 | more {l:Nat} {p r:List Nat} {ps:List (List Nat)} (h:c∉p) (t:xQ c tl l r ps):xQ c tl (l+1) (p++(c::tl++r)) (p::ps)
theorem zu{k:Nat}:At x (mk (c::tl)) x.length k↔∃r,x.cps.toList.drop k=c::tl++r:=by
 unfold At;rw [subAt_eq];have hl:x.cps.toList.length=x.length:=aaX;rw [cq,ι];constructor
 ·rintro ⟨h1,h2⟩;have h2:(x.cps.toList.drop k).take (c::tl).length=c::tl:=eq_of_beq h2;refine ⟨(x.cps.toList.drop k).drop (c::tl).length, ?_⟩;have:=List.take_append_drop (c::tl).length (x.cps.toList.drop k);rw [h2] at this;exact this.symm
 ·rintro ⟨r,e⟩;have e2:=aa5 List.length e;rw [aa3,aab] at e2;refine ⟨by simp only [List.length_cons] at e2⊢;omega, ?_⟩;rw [e,abb];exact List.take_left' rfl
theorem fL{l:Nat}{t:List Nat}(h:xQ c tl l t ps):∀{a:Nat} {vJ:List Nat} {f:Nat},a<=x.length->x.cps.toList.drop a=t->ChainG x (mk (c::tl)) x.length a vJ f->vJ.length<=l->(vJ.length=l\/∀k,f<=k->¬At x (mk (c::tl)) x.length k)->partsFrom x (mk (c::tl)).length a vJ=ps.map mk:=by
 have hl:x.cps.toList.length=x.length:=aaX;have whole:∀a,strSub x a x.length=mk (x.cps.toList.drop a):=λa=>fS (by rw [strSub_toList];exact aa8 (by rw [aa3];omega))
 induction h with
 | last h=>
  rename_i l p;intro a vJ f ha e hc hle hn;cases vJ with
  | nil=>show [strSub x a x.length]=_;rw [whole,e];rfl
  | cons d r=>
   exfalso;have hm:c∉p:=h.resolve_left (by simp only [List.length_cons] at hle;omega);obtain ⟨r',er⟩:=zu.mp hc.2.1;have ad:=hc.1;have e3:x.cps.toList.drop d=p.drop (d - a):=by rw [<-e,abC];congr 1;omega
   refine hm (abz (i:=d - a) ?_);rw [<-e3,er];simp
 | more h t ih=>
  rename_i l p r ps;intro a vJ f ha e hc hle hn;have hA:At x (mk (c::tl)) x.length (a+p.length):=zu.mpr ⟨r,by rw [<-abC,e,List.drop_left' rfl]⟩;have hb:=hA.1;cases vJ with
  | nil=>
   exfalso;have ef:f=a:=hc;rcases hn with hn | hn
   ·simp at hn
   ·exact hn _ (by omega) hA
  | cons d r'=>
   have hd:d=a+p.length:=by
    rcases Nat.lt_trichotomy d (a+p.length) with z | z | z
    ·exfalso;obtain ⟨r2,er⟩:=zu.mp hc.2.1;have ad:=hc.1;have e2:x.cps.toList.drop d=(p.drop (d - a))++(c::tl++r):=by
      rw [show d=a+(d - a) by omega,<-abC,e,List.drop_append_of_le_length (by omega)]
      congr 2;omega
     rw [er] at e2;cases hp:p.drop (d - a) with
     | nil=>have:=congrArg List.length hp;rw [List.length_drop] at this;simp at this;omega
     | cons y ys=>
      rw [hp] at e2;have:c=y:=by simpa using (List.cons.inj e2).1
      exact h (abz (i:=d - a) (by rw [hp,this];exact aad))
    ·exact z
    ·exact aaG hA (hc.2.2.1 _ (by omega) z)
   subst hd;show strSub x a (a+p.length)::partsFrom x (mk (c::tl)).length (a+p.length+(mk (c::tl)).length) r'=mk p::ps.map mk;have e1:strSub x a (a+p.length)=mk p:=fS (by rw [strSub_toList,e,show a+p.length - a=p.length by omega];exact List.take_left' rfl);rw [e1,ih hb ?_ hc.2.2.2 (by simp only [List.length_cons] at hle;omega) ?_]
   ·rw [Nat.add_assoc,<-abC,e,<-abC,List.drop_left' rfl,ι,List.drop_left' rfl]
   ·rcases hn with hn | hn
    ·exact .inl (by simp only [List.length_cons] at hn;omega)
    ·exact .inr hn
theorem vT(x:Str):¬Builtin.Str.strKind x < 1:=by
 unfold Builtin.Str.strKind;split
 ·omega
 ·split <;> omega
theorem Jt{y:Str}(h:x.length < y.length)(k:Nat):¬At x y x.length k:=λz=>by have:=z.1;omega
theorem vP{l:Nat}(hk:Builtin.Str.strKind (mk (c::tl))=1)(hl:x.length+1<=l)(h:xQ c tl l x.cps.toList ps):Txt.split x (mk (c::tl))=ps.map mk:=by
 have hw:1<=(mk (c::tl)).length:=by rw [ι];simp
 have one:partsFrom x (mk (c::tl)).length 0 []=[x]:=by show [strSub x 0 x.length]=_;rw [sub_whole]
 unfold Txt.split;split
 ·rename_i hc;rw [abx,decide_eq_true_eq,decide_eq_true_eq,hk] at hc;have hc:=hc.resolve_right (vT x);rw [<-one];exact fL h (aa1 _) rfl rfl (aa1 _) (.inr λk _=>Jt hc k)
 ·obtain ⟨f,hG,hle,hn⟩:=AS x (mk (c::tl)) (x.length+1) hw;have rA:∀k,f<=k->¬At x (mk (c::tl)) x.length k:=by
   obtain ⟨f',Zr,rA⟩:=occ_tight x (mk (c::tl)) hw;have uq:∀(l:List Nat) (a f g:Nat),ChainG x (mk (c::tl)) x.length a l f->ChainG x (mk (c::tl)) x.length a l g->f=g:=by
    intro l
    induction l with
    | nil=>intro a f g h1 h2;exact (show f=a from h1).trans (show g=a from h2).symm
    | cons d r ih=>intro a f g h1 h2;exact ih _ _ _ h1.2.2.2 h2.2.2.2
   rw [uq _ _ _ _ hG Zr];exact rA
  split
  ·rename_i he;have e0:occurrences x (mk (c::tl)) 0 x.length (x.length+1)=[]:=List.isEmpty_iff.mp he;rw [e0] at hG;rw [<-one];exact fL h (aa1 _) rfl hG (aa1 _) (.inr rA)
  ·rw [partsBetween_eq];exact fL h (aa1 _) rfl hG (aaq hle hl) (.inr rA)
theorem iq{l:Nat}(hk:Builtin.Str.strKind (mk (c::tl))=1)(h:xQ c tl l x.cps.toList ps):Txt.splitMax x (mk (c::tl)) (l:Int)=ps.map mk:=by
 have hw:1<=(mk (c::tl)).length:=by rw [ι];simp
 have one:partsFrom x (mk (c::tl)).length 0 []=[x]:=by show [strSub x 0 x.length]=_;rw [sub_whole]
 have el:limitOf x (l:Int)=l:=by unfold limitOf;rw [if_neg (by omega)];rfl
 unfold Txt.splitMax;rw [el];split
 ·rename_i hc;rw [abx,decide_eq_true_eq,decide_eq_true_eq,hk] at hc;have hc:=hc.resolve_right (vT x);rw [<-one];exact fL h (aa1 _) rfl rfl (aa1 _) (.inr λk _=>Jt hc k)
 ·obtain ⟨f,hG,hle,hn⟩:=AS x (mk (c::tl)) l hw;split
  ·rename_i he;have e0:occurrences x (mk (c::tl)) 0 x.length l=[]:=List.isEmpty_iff.mp he;rw [e0] at hG hn;rw [<-one];exact fL h (aa1 _) rfl hG (aa1 _) hn
  ·rw [partsBetween_eq];exact fL h (aa1 _) rfl hG hle hn
def jn(s:List Nat):List (List Nat)->List Nat
 | []=>[]
 | [p]=>p
 | p::q::r=>p++(s++jn s (q::r))
theorem zX(s:List Nat):∀ps:List (List Nat),Str.join (mk s) (ps.map mk)=mk (jn s ps)
 | []=>rfl
 | [p]=>rfl
 | p::q::r=>by refine fS ?_;show (Str.join (mk s) (mk p::mk q::r.map mk)).cps.toList=_;rw [fY];have:=zX s (q::r);rw [show Str.join (mk s) (mk q::r.map mk)=mk (jn s (q::r)) from this];rfl
theorem AR{c:Nat}{tl:List Nat}:∀{ps:List (List Nat)} {l:Nat},ps≠[]->(∀p∈ps,c∉p)->ps.length<=l+1->xQ c tl l (jn (c::tl) ps) ps
 | [],_,h,_,_=>aaG rfl h
 | [p],_,_,hf,_=> .last (.inr (hf p aad))
 | p::q::r,l,_,hf,hl=>by
  cases l with
  | zero=>simp at hl
  | succ l=>exact .more (hf p List.mem_cons_self) (AR (by simp) (λy hy=>hf y (List.mem_cons_of_mem _ hy)) (by simp only [List.length_cons] at hl⊢;omega))
theorem FD{c:Nat}{tl:List Nat}:∀{ps:List (List Nat)},ps.length<=(jn (c::tl) ps).length+1
 | []=>by simp
 | [p]=>by simp
 | p::q::r=>by have:=FD (c:=c) (tl:=tl) (ps:=q::r);show _<=(p++(c::tl++jn (c::tl) (q::r))).length+1;rw [aab,aab];simp only [List.length_cons] at this⊢;omega
theorem E7(hk:Builtin.Str.strKind (mk (c::tl))=1)(hn:ps≠[])(hf:∀p∈ps,c∉p):Txt.split (mk (jn (c::tl) ps)) (mk (c::tl))=ps.map mk:=
 vP (l:=(jn (c::tl) ps).length+1) hk (by rw [ι];exact aak _) (by rw [cq];exact AR hn hf (aaq FD (Nat.le_succ _)))
theorem Hi(s:List Nat)(ps:List (List Nat)):Txt.join (mk s) (ps.map mk)=mk (jn s ps):=by show glued (mk s) (ps.map mk)=_;rw [StrLaws.glued_eq_join,zX]
theorem CY{s:List Nat}{m:Nat}(hl:ps.length<=n)(hp:∀p∈ps,p.length+s.length<=m)(hb:n * m<=sizeLine):JoinOk (mk s) (ps.map mk)=true:=by
 unfold JoinOk;have key:∀(qs:List (List Nat)) (a:Nat),(∀p∈qs,p.length+s.length<=m)->(qs.map mk).foldl (λa (z:Str)=>a+z.length+(mk s).length) a<=a+qs.length * m:=by
  intro qs
  induction qs with
  | nil=>intro a _;simp
  | cons p qs ih=>
   intro a h;have h1:=h p aad;have h2:=ih (a+(mk p).length+(mk s).length) λy hy=>h y (aae _ hy);rw [aaB,abJ];refine aaq h2 ?_;rw [ι,ι,aaz,Nat.succ_mul];omega
 have k:=key ps 0 hp;have:ps.length * m<=n * m:=abA _ hl;rw [Bool.not_eq_true'];unfold tooLong;refine aaC ?_;rw [List.foldl_toArray];omega
end Tx
seal L2.JE L2.JT L2.JW L2.JA L2.JS L2.zA L2.JI L2.JK
local macro_rules | `(tactic| walk_at "vc")=>`(tactic| dsimp only [L2.gN,L2.NZ,L2.LY,L2.Ni,L2.Mw,L2.Kg,L2.VI,L2.OJ,L2.xM,L2.Js,L2.DM,L2.wK,L2.x8,L2.dw,L2.PN,L2.bG,L2.dC,L2.gZ,L2.dE,L2.NO,L2.N_,L2.kx,L2.Oj,L2.VG,L2.OL,L2.Pl,L2.Vw,L2.IF,L2.l9,List.map_cons,List.map_nil,List.length_cons,List.length_nil,List.cons_append,List.nil_append,List.replicate,List.getElem?_cons_zero,List.getElem?_cons_succ,List.set_cons_zero,List.set_cons_succ,Nat.reduceSub,Nat.reduceAdd,Nat.zero_add])
namespace Pg
open PySem L2
variable{mg:Str->Option Value}{f eS b7 bX fQ:Addr}{fd eL b6 cb fN:FuncData}{i c m:Nat}{j b Η:Int}{M:Ms}{d:Dt}{xs:List Dt}{n st:List Nat}{ns ps:List (List Nat)}{Q:Str->β->Prop}
def top(i:Nat):Stmt:=PySem.Challenge.pw_chanceduel_k71_a_desk_keeps.main.body.getD i (.Pass ⟨0,0,0,0⟩)
def cls(i j:Nat):Stmt:=match top i with
 | .ClassDef _ _ _ b _ _ _ _ _ _ _=>b.getD j (.Pass ⟨0,0,0,0⟩)
 | _=> .Pass ⟨0,0,0,0⟩
abbrev eg:Stmt:=top 13
abbrev mR:Stmt:=top 14
abbrev oV:Stmt:=top 23
abbrev lJ:Stmt:=top 24
abbrev fv:Stmt:=top 25
abbrev gG:Stmt:=top 26
abbrev jF:Stmt:=top 27
abbrev pb:Stmt:=top 28
abbrev jM:Stmt:=top 29
abbrev jK:Stmt:=top 34
abbrev eV:Stmt:=top 39
abbrev jN:Stmt:=top 40
abbrev tS:Stmt:=top 41
abbrev fq:Stmt:=top 77
abbrev gx:Stmt:=top 78
abbrev qh:Stmt:=top 79
abbrev fC:Stmt:=top 80
abbrev mn:Stmt:=top 84
abbrev ji:Stmt:=top 85
abbrev jL:Stmt:=top 86
abbrev uI:Stmt:=top 87
abbrev ly:Stmt:=top 88
abbrev jk:Stmt:=top 89
abbrev mP:Stmt:=top 90
abbrev pH:Stmt:=top 91
abbrev jw:Stmt:=top 92
abbrev jg:Stmt:=top 93
abbrev fm:Stmt:=top 94
abbrev gE:Stmt:=top 95
abbrev jA:Stmt:=top 96
abbrev pZ:Stmt:=top 128
abbrev o9:Stmt:=top 129
abbrev mM:Stmt:=top 130
abbrev mi:Stmt:=top 136
abbrev o5:Stmt:=top 137
abbrev oP:Stmt:=top 138
abbrev pC:Stmt:=top 140
abbrev vb:Stmt:=top 152
abbrev mx:Stmt:=top 153
abbrev sZ:Stmt:=top 154
abbrev jY:Stmt:=top 155
abbrev tZ:Stmt:=top 156
abbrev mI:Stmt:=top 157
abbrev lY:Stmt:=top 158
abbrev lH:Stmt:=top 159
abbrev gF:Stmt:=top 160
abbrev qo:Stmt:=top 161
abbrev mB:Stmt:=top 162
abbrev jP:Stmt:=top 163
abbrev qc:Stmt:=top 164
abbrev xN:Stmt:=top 165
abbrev mF:Stmt:=top 166
abbrev qv:Stmt:=top 167
abbrev Lz:Stmt:=top 168
abbrev jm:Stmt:=cls 38 0
abbrev h9:Stmt:=cls 38 2
abbrev jj:Stmt:=cls 38 6
abbrev l6:Stmt:=cls 150 0
abbrev qb:Stmt:=cls 150 1
open PySem L2 Fr0 Tx
abbrev VB:List Value:=[.type "ValueError", .type "Exception", .type "BaseException", .type "object"]
structure Ev(K:fI)(mg:Str->Option Value)(w:World)(Cm ν CT CN:Addr):Prop where
 cf:mg "len"=none
 nj:mg "abs"=none
 cM:mg "isinstance"=none
 zV:mg "int"=none
 yV:mg "bool"=none
 mT:mg "str"=none
 j9:mg "tuple"=none
 uX:mg "list"=none
 bU:mg "range"=none
 dm:mg "enumerate"=none
 vZ:mg "any"=none
 vB:mg "all"=none
 xr:mg "sum"=none
 Ae:mg "zip"=none
 ib:PySem.W.kitOne K (.type "int") (.type "bool")=some false
 X':PySem.W.kitOne K (.type "int") (.type "str")=some false
 kts:PySem.W.kitOne K (.type "tuple") (.type "str")=some false
 Wk:PySem.W.kitOne K (.type "tuple") (.type "int")=some false
 kls:PySem.W.kitOne K (.type "list") (.type "str")=some false
 XI:PySem.W.kitOne K (.type "list") (.type "int")=some false
 Y8:PySem.W.kitOne K (.type "tuple") (.type "list")=some false
 klt:PySem.W.kitOne K (.type "list") (.type "tuple")=some false
 bR:mg "NoText"=some (.ref CT)
 bP:eK K CT VB "ValueError.__new__"
 tD:mg "NoName"=some (.ref CN)
 uz:eK K CN VB "ValueError.__new__"
 AN:PySem.W.subIn K (.ref CN) (.ref CN)=some true
 tM:yJ K ν
 eN:eB K ν "kept_floors"
 hV:yJ K Cm
 gz:eB K Cm "kept_rows"
 fo:eB K Cm "kept_share"
 tP:∃a o its n,mg "HANDS"=some (.ref a)/\K.lookup a=some o/\o.cls= .type "tuple"/\o.data= .seq its n/\its.size<=sizeLine/\Paired (λ(z:Str) (u:Value)=>∃tk,u= .str z tk) ["one","other"] its.toList
 gL:∃a o its n,mg "ROWS_WITH_HAND"=some (.ref a)/\K.lookup a=some o/\o.cls= .type "tuple"/\o.data= .seq its n/\its.size<=sizeLine/\Paired (λ(z:Str) (u:Value)=>∃tk,u= .str z tk) ["plan","hold"] its.toList
 i5:M7 K w mg "TURNED_KINDS" [("one","other"),("other","one"),("chance","chance")]
 qg:Ho K w mg "LENGTHS" [("floor",3),("drop",2),("turn",3),("show",2)]
 xt:∃tk,mg "FIGURES"=some (.str "0123456789" tk)
 vQ:∃tk,mg "LETTERS"=some (.str "abcdefghijklmnopqrstuvwxyz" tk)
 i':∃tk,mg "MOST_FIGURES"=some (.int 60 tk)
 iY:∃tk,mg "MOST_LETTERS"=some (.int 8 tk)
 z4:mg "min"=none
 mU:∃tk,mg "MOST_DOORS"=some (.int 6 tk)
 gy:∃tk,mg "MOST_BOTTOM"=some (.int 1000000 tk)
 ll:∃tk,mg "MOST_PLACES"=some (.int 12 tk)
 eA:∃tk,mg "MOST_SHARE_BOTTOM"=some (.int 1000 tk)
theorem Ez{K:fI}{T:String}:PySem.W.kitOne K (.type T) (.type T)=some true:=by unfold PySem.W.kitOne;rw [aaD (abF _)]
section
variable{P:Program}{w:World}{K:fI}{base:Heap}{Cm ν CT CN:Addr}
def tU:DF:=λds M q _=>match ds with
 | [.int a, .int b]=>q (.int (g a b)) M
 | _=>False
theorem aZ:υ ["one","other","great","small","rest"] ["one","other"] (μ eg):= .of rfl
theorem lL(F:bV K "common_divisor" "common_divisor" eg f fd)(E:Ev K mg w Cm ν CT CN):Τ P w K mg base (br P w) 1 f fd ["one","other"] (bK K tU):=by
 refine F.cN aZ (λds M q x h=> ?_) (λaQ A outer s H E' hr=>⟨_,(δ (π 2 aZ.nd (wV E.nj (ae (jv 0) ζ)))
   (δ (π 3 aZ.nd (wV E.nj (ae (jv 1) ζ)))
   (δ (vH (m7 hr (jv 3) θ) (δ (π 4 aZ.nd (aq (jv 2) (jv 3)))
   (δ (π 2 aZ.nd (jv 3))
   (η (π 3 aZ.nd (jv 4))))))
   (η (τ (jv 2)))))),λds M q x h=> ?_⟩)
 ·unfold tU at h;split at h; · rfl
  ·exact h.elim
 ·unfold tU at h;split at h
  ·rename_i a b;refine ⟨λm ρ M'=>M'=M/\∃(x y:Int) (r:Option Dt),ρ=[some (.int a),some (.int b),some (.int x),some (.int y),r]/\0<=x/\0<=y/\g x y=g a b/\m=y.toNat,⟨_,rfl,_,_,_,rfl,by split <;> omega,by split <;> omega,Jy a b,rfl⟩, ?_⟩;rintro m ρ M' ⟨rfl,x,y,r,rfl,hx,hy,e,rfl⟩;refine ⟨λhb=> ?_,λhb=> ?_⟩
   ·have Mi:y≠0:=by simpa using hb
    refine ⟨_,λρ' M2 h2=>h2, ?_⟩;refine ⟨by omega,(x % y).toNat, ?_,rfl,y,x % y,_,rfl,hy,aaL _ Mi, ?_,rfl⟩
    ·have:=aaH x (show 0 < y by omega);have:=aaL x Mi;omega
    ·rw [<-abg x hy,FP (by omega)];exact e
   ·have Mi:y=0:=by simpa using hb
    subst Mi;rw [FF hx] at e;subst e;exact h
  ·exact h.elim
theorem BJ{i:Int}(h:iK j)(l:i.natAbs<=j.natAbs):iK i:=aa7 l h
def As:DF:=λds M q _=>match ds with
 | [.int t, .int b]=>iK b/\(b=0->False)/\(b≠0->q (.tup [.int (aD t b).1, .int (aD t b).2]) M)
 | _=>False
theorem jq:υ ["top","bottom","divisor"] ["top","bottom"] (μ mR):= .of rfl
theorem vU(F:bV K "fraction" "fraction" mR f fd)(E:Ev K mg w Cm ν CT CN){eT:Addr}{eE:FuncData}(a_:aa P w K mg base 1 "common_divisor" ["one","other"] tU eT eE):Τ P w K mg base (br P w) 2 f fd ["top","bottom"] (bK K As):=by
 refine F.cN jq (λds M q x h=> ?_) (λaQ A outer s H E' hr=>⟨_,(δ (Θ (bC hr (jv 1) θ) (η cH) ψ)
   (δ (π 2 jq.nd (Λ a_ hr ξ (ae (jv 0) (ae (jv 1) ζ))))
   (δ (hW (Θ (kK (jv 1) θ) (η (π 2 jq.nd (Dj (jv 2)))) ψ))
   (η (τ (aW (ε (Gi (jv 0) (jv 2)) (ε (Gi (jv 1) (jv 2)) ζ aG) aG))))))),λds M q x h=> ?_⟩)
 ·unfold As at h;split at h; · rfl
  ·exact h.elim
 ·unfold As at h;split at h
  ·rename_i t b;obtain ⟨hB,h0,h1⟩:=h;refine ⟨λhb=> ?_,λhb=> ?_⟩
   ·exact h0 (by simpa using hb)
   ·have Fy:b≠0:=by simpa using hb
    refine ⟨λρ M'=>M'=M/\ρ=[some (.int t),some (.int b),some (.int (dv t b))],⟨λhn=> ?_,λhn=> ?_⟩, ?_⟩
    ·have rA:b < 0:=by simpa using hn
     exact ⟨rfl,by unfold dv;rw [if_pos rA];rfl⟩
    ·have rA:¬b < 0:=by simpa using hn
     exact ⟨rfl,by unfold dv;rw [if_neg rA];rfl⟩
    ·rintro ρ M' ⟨rfl,rfl⟩;have hd:=Aj (t:=t) Fy;have Vv:iK (dv t b):=BJ hB (sY Fy);exact ⟨⟨hd,Vv⟩,⟨hd,Vv⟩,gV,h1 Fy⟩
  ·exact h.elim
abbrev Fr:=Int×Int
def aR(p:Fr):Dt:= .tup [.int p.1, .int p.2]
def aU(p:Fr):Bool:=decide ((if p.1 < 0 then -p.1 else p.1)<=10 ^ 30)&&decide (p.2<=1000000)
def qr:DF:=λds M q _=>∃p,ds=[aR p]/\q (.bl (aU p)) M
theorem B1:υ ["pay"] ["pay"] (μ oV):= .of rfl
theorem zf(F:bV K "fits_pay" "fits_pay" oV f fd)(E:Ev K mg w Cm ν CT CN):Τ P w K mg base (br P w) 1 f fd ["pay"] (bK K qr):=by
 refine F.cN B1 (λds M q x h=> ?_) (λaQ A outer s H E' hr=>⟨_,(η (τ (eG (tQ (wV E.nj (ε (Α (jv 0) θ) ζ Κ)) (ig θ θ)) (h_ (tQ (Α (jv 0) θ) (jH E.gy)))))),λds M q x h=> ?_⟩)
 ·obtain ⟨p,rfl,_⟩:=h;rfl
 ·obtain ⟨p,rfl,h⟩:=h;refine ⟨⟨by decide,by decide,by decide⟩,λh1=> ?_,λh1=> ?_⟩
  ·have e:aU p=decide (p.2<=1000000):=by unfold aU;rw [show decide ((if p.1 < 0 then -p.1 else p.1)<=10 ^ 30)=true from h1];rfl
   rw [e] at h;exact h
  ·have e:aU p=false:=by unfold aU;rw [show decide ((if p.1 < 0 then -p.1 else p.1)<=10 ^ 30)=false from h1];rfl
   rw [e] at h;exact h
theorem nI{ok:Ms->Prop}(h:iE M d=some (xs,ok)):ok M:=by
 cases d with
 | lst ds=>cases h;trivial
 | nF ns=>cases h;trivial
 | loc k=>
  have h:(match M[k]? with | some (.lst xs)=>some (xs,λM':Ms=>M'[k]? =some (.lst xs)) | _=>none)=some (xs,ok):=h;split at h
  ·rename_i ys hm;cases h;exact hm
  ·cases h
 | _=>cases h
theorem oK{ok:Ms->Prop}(h:iE M d=some (xs,ok)):qm M d=some (xs,ok):=by
 cases d with
 | lst ds=>cases h;rfl
 | nF ns=>cases h;rfl
 | loc k=>exact h
 | _=>cases h
theorem cw{ρ:En}{ok:Ms->Prop}{q:List Dt->(Ms->Prop)->Ms->Prop}{x:DX}(hv:ρ[i]? =some (some d))(hl:iE M d=some (xs,ok))(h:q xs ok M):dg (bG i) ρ M q x:=by unfold dg bG;rw [hv];show (match qm M d with | some (xs,ok)=>q xs ok M | none=>False);rw [oK hl];exact h
theorem bg{n:Int}{k:Nat}(h:n.natAbs < 2 ^ k)(hk:k<=8000:=by decide):iK n:=aam h (Nat.pow_le_pow_right (by decide) hk)
def aB(t:Int)(p:Fr)(size:Int):Bool:=decide (0<=t)&&(decide (t < size)&&aU p)
def rB:DF:=λds M q _=>∃t p r size,ds=[.tup (.int t::aR p::r), .int size]/\q (.bl (aB t p size)) M
theorem yG:υ ["door","size"] ["door","size"] (μ lJ):= .of rfl
theorem xo(F:bV K "fits_door" "fits_door" lJ f fd)(E:Ev K mg w Cm ν CT CN){pO:Addr}{oH:FuncData}(dW:aa P w K mg base 1 "fits_pay" ["pay"] qr pO oH):Τ P w K mg base (br P w) 2 f fd ["door","size"] (bK K rB):=by
 refine F.cN yG (λds M q x h=> ?_) (λaQ A outer s H E' hr=>⟨_,(η (τ (eG (tQ θ (Α (jv 0) θ)) (eG (NC (Α (jv 0) θ) (jv 1)) (h_ (Λ dW hr ξ (ε (Α (jv 0) θ) ζ Κ))))))),λds M q x h=> ?_⟩)
 ·obtain ⟨t,p,r,size,rfl,_⟩:=h;rfl
 ·obtain ⟨t,p,r,size,rfl,h⟩:=h;walk_at "vc";refine χ rfl aT ?_;refine ⟨λh1=> ?_,λh1=> ?_⟩
  ·refine χ rfl aT ⟨λh2=> ?_,λh2=> ?_⟩
   ·refine χ rfl (Ρ (j:=1) rfl) ⟨p,rfl, ?_⟩;have e:aB t p size=aU p:=by unfold aB;rw [h1,h2];rfl
    rw [<-e];exact h
   ·have e:aB t p size=false:=by unfold aB;rw [h1,h2];rfl
    rw [<-e];exact h
  ·have e:aB t p size=false:=by unfold aB;rw [h1];rfl
   rw [<-e];exact h
abbrev nh:=Int×Fr×List Fr
def cC(d:nh):Dt:= .tup (.int d.1::aR d.2.1::d.2.2.map aR)
def Δ(ds:List nh)(size:Int):Bool:=decide (1<=ds.length)&&decide (ds.length<=6)&&ds.all λd=>aB d.1 d.2.1 size
def ow:DF:=λas M q _=>∃d size ds ok,as=[d, .int size]/\iE M d=some (ds.map cC,ok)/\ds.length<=100/\q (.bl (Δ ds size)) M
theorem mZ:υ ["doors","size"] ["doors","size"] (μ jF):= .of rfl
theorem uK(F:bV K "fits_doors" "fits_doors" jF f fd)(E:Ev K mg w Cm ν CT CN){CP:Addr}{Bx:FuncData}(jU:aa P w K mg base 2 "fits_door" ["door","size"] rB CP Bx):Τ P w K mg base (br P w) 3 f fd ["doors","size"] (bK K ow):=by
 refine F.cN mZ (λds M q x h=> ?_) (λaQ A outer s H E' hr=>⟨_,(δ (Θ (JW.jt (i6 (kK (cP E.cf (ae (jv 0) ζ)) θ) (fw (wN (cP E.cf (ae (jv 0) ζ)) (jH E.mU))))) (η (τ GG)) ψ)
   (η (τ (J4 E.vB (ε (bH (ys:=["size"]) (Ε:=[1]) (.of mZ rfl rfl rfl) (aL (jv 0)) (λC s H fp=>(Λ jU hr (aM (P:=P) (w:=w)) (ae (jv 0) (ae (jv 1) ζ))))) ζ))))),λds M q x h=> ?_⟩)
 ·obtain ⟨d,size,ds,ok,rfl,_⟩:=h;rfl
 ·obtain ⟨d,size,ds,ok,rfl,hl,hz,h⟩:=h;have hs:=kA hl;walk_at "vc";refine dc hs ⟨λh1=> ?_,λh1=> ?_⟩
  ·refine ⟨λ_=> ?_,λz=>(nomatch z)⟩;have e:Δ ds size=false:=by
    have:(ds.length:Int) < 1:=by simpa using h1
    unfold Δ;rw [aaC (by omega)];rfl
   rw [<-e];exact h
  ·have h1:¬(ds.length:Int) < 1:=by simpa using h1
   refine dc hs ⟨λh2=> ?_,λh2=> ?_⟩
   ·have e:Δ ds size=false:=by
     have:6 < (ds.length:Int):=by simpa using h2
     unfold Δ;rw [aaC (p:=ds.length<=6) (by omega),Bool.and_false];rfl
    rw [<-e];exact h
   ·have h2:¬6 < (ds.length:Int):=by simpa using h2
    refine cw rfl hl ⟨by rw [aaa];exact aaq hz (by decide), ?_⟩;refine dY (f:=λd=> .bl (match d with | .tup (.int t:: .tup [.int a, .int b]::_)=>aB t (a,b) size | _=>false)) (nI hl) (λx hx q hq=> ?_) ?_
    ·obtain ⟨y,_,rfl⟩:=aal.mp hx;exact ⟨y.1,y.2.1,y.2.2.map aR,size,rfl,hq⟩
    ·refine ⟨ds.map λd=>aB d.1 d.2.1 size, ?_, ?_⟩
     ·rw [aao,aat,aao];rfl
     ·have e:Δ ds size=(ds.map λd=>aB d.1 d.2.1 size).all id:=by unfold Δ;rw [aay (show 1<=ds.length by omega),aay (show ds.length<=6 by omega),List.all_map];rfl
      rw [<-e];exact h
def kF(cs:List Fr):Int:=cs.foldl (λb c=>b * c.2 / g b c.2) 1
theorem ki{c:Int}(hb:0 < b)(hc:0 < c):0 < b * c / g b c/\b * c / g b c<=b * c/\0 < g b c/\g b c<=c:=by
 have hg:0 < g b c:=wZ (by omega);have XQ:0 < b * c:=Int.mul_pos hb hc;have hd:g b c∣c:=Int.gcd_dvd_right ..;have hle:g b c<=c:=Int.le_of_dvd hc hd;have h1:c<=b * c:=by have:=Int.mul_le_mul_of_nonneg_right (show 1<=b by omega) (show 0<=c by omega);simpa using this
 refine ⟨Int.ediv_pos_of_pos_of_dvd XQ (by omega) (Int.dvd_mul_of_dvd_right hd), ?_,hg,hle⟩;exact Int.ediv_le_self _ (by omega)
def NH(cs:List Fr):Prop:=cs.length<=12/\∀c∈cs,0 < c.2/\c.2 < 2 ^ 200/\c.1.natAbs < 2 ^ 200
theorem lN:∀(cs:List Fr) (b:Int) (k:Nat),0 < b->b<=2 ^ (200 * k)->(∀c∈cs,0 < c.2/\c.2 < 2 ^ 200)->0 < cs.foldl (λb c=>b * c.2 / g b c.2) b/\cs.foldl (λb c=>b * c.2 / g b c.2) b<=2 ^ (200 * (k+cs.length))
 | [],b,k,h0,h1,_=>⟨h0,h1⟩
 | c::cs,b,k,h0,h1,hc=>by
  obtain ⟨c0,c1⟩:=hc c aad;obtain ⟨s0,s1,_⟩:=ki h0 c0;have YR:b * c.2 / g b c.2<=2 ^ (200 * (k+1)):=by refine Int.le_trans s1 ?_;rw [show 200 * (k+1)=200 * k+200 by omega,Int.pow_add];exact Int.mul_le_mul h1 (aaR c1) (aaR c0) (aaR (Int.pow_pos (by decide)))
  have:=lN cs _ (k+1) s0 YR λd hd=>hc d (aae _ hd);rw [abJ,aaz,show k+(cs.length+1)=k+1+cs.length by omega];exact this
theorem Pc{n:Int}{k:Nat}(h0:0<=n)(h:n<=2 ^ k)(hk:k < 8000):iK n:=by
 refine bg (k:=k+1) ?_ hk;have:(n.natAbs:Int) < ((2 ^ (k+1):Nat):Int):=by rw [abB h0,Int.natCast_pow,Int.pow_succ];have:(0:Int) < 2 ^ k:=Int.pow_pos (by decide);show n < 2 ^ k * 2;omega
 exact Int.ofNat_lt.mp this
theorem i8:∀(cs:List Fr) (b:Int),0 < b->(∀c∈cs,0 < c.2)->0 < cs.foldl (λb c=>b * c.2 / g b c.2) b
 | [],_,h0,_=>h0
 | c::cs,b,h0,hc=>i8 cs _ (ki h0 (hc c aad)).1 λd hd=>hc d (aae _ hd)
theorem FU{n:Int}{k:Nat}(h0:0<=n)(h:n < 2 ^ k)(hk:k<=8000):iK n:=by
 refine bg (k:=k) ?_ hk;have:(n.natAbs:Int) < ((2 ^ k:Nat):Int):=by rw [abB h0,Int.natCast_pow];exact h
 exact Int.ofNat_lt.mp this
def je:DF:=λds M q _=>∃cs:List Fr,ds=[.lst (cs.map aR)]/\NH cs/\q (.int (kF cs)) M
theorem cK:υ ["chances","bottom","chance"] ["chances"] (μ fv):= .of rfl
theorem nE(F:bV K "common_bottom" "common_bottom" fv f fd)(E:Ev K mg w Cm ν CT CN){eT:Addr}{eE:FuncData}(a_:aa P w K mg base 1 "common_divisor" ["one","other"] tU eT eE):Τ P w K mg base (br P w) 2 f fd ["chances"] (bK K je):=by
 refine F.cN cK (λds M q x h=> ?_) (λaQ A outer s H E' hr=>⟨_,(δ (π 1 cK.nd θ)
   (δ (iN (aL (jv 0)) (aV (i:=2) cK.nd rfl (Or.inl rfl)) bS (η (π 1 cK.nd (aX (fZ (jv 1) (Α (jv 2) θ)) (Λ a_ hr ξ (ae (jv 1) (ε (Α (jv 2) θ) ζ Κ)))))))
   (η (τ (jv 1))))),λds M q x h=> ?_⟩)
 ·obtain ⟨cs,rfl,_⟩:=h;rfl
 ·obtain ⟨cs,rfl,⟨hz,hc⟩,h⟩:=h;walk_at "vc";refine cw (i:=0) rfl rfl ?_;refine d_ (λxs ρ M'=>M'=M/\∃D_ ag r,cs=D_++ag/\xs=ag.map aR/\ρ=[some (.lst (cs.map aR)),some (.int (kF D_)),r]) (λ_ _ _ _=>trivial) (λx xs ρ M' hj r9=> ?_) (λρ M' hj=> ?_) _ _ _ ⟨rfl,[],cs,none,rfl,rfl,rfl⟩
  ·obtain ⟨rfl,D_,ag,r,e,ex,rfl⟩:=hj;cases ag with
   | nil=>cases ex
   | cons c ag=>
    cases ex;have hd:∀d∈D_,0 < d.2/\d.2 < 2 ^ 200:=λd hd=>by obtain ⟨a,b,_⟩:=hc d (by rw [e];exact abd _ hd);exact ⟨a,b⟩
    obtain ⟨c0,c1,_⟩:=hc c (by rw [e];exact aav _ aad);obtain ⟨b0,b1⟩:=lN D_ 1 0 (by decide) (by decide) hd;have hl:D_.length<=12:=by have:=aa5 List.length e;rw [aab] at this;omega
    obtain ⟨s0,s1,g0,g1⟩:=ki b0 c0;refine ⟨⟨Pc (aaR b0) b1 (by omega),FU (aaR c0) c1 (by decide)⟩,⟨g0,FU (aaR g0) (Int.lt_of_le_of_lt g1 c1) (by decide)⟩, ?_⟩;refine r9 _ _ ⟨rfl,D_++[c],ag,some (aR c),by rw [e];simp,rfl, ?_⟩;have e2:kF (D_++[c])=kF D_ * c.2 / g (kF D_) c.2:=by unfold kF;rw [List.foldl_append];rfl
    rw [e2];rfl
  ·obtain ⟨rfl,D_,ag,r,e,ex,rfl⟩:=hj;cases ag with
   | nil=>rw [aaQ] at e;subst e;exact h
   | cons c ag=>cases ex
def Ξ(cs:List Fr):Bool:= !(cs.any λc=>decide (c.1<=0))&&(decide ((cs.map λc=>c.1 * (kF cs / c.2)).sum=kF cs)&&decide (kF cs<=1000000))
def kq:DF:=λds M q _=>∃cs:List Fr,ds=[.lst (cs.map aR)]/\NH cs/\q (.bl (Ξ cs)) M
theorem bZ:υ ["chances","bottom","whole"] ["chances"] (μ gG):= .of rfl
theorem oG(F:bV K "fits_chances" "fits_chances" gG f fd)(E:Ev K mg w Cm ν CT CN){qC:Addr}{qB:FuncData}(eR:aa P w K mg base 2 "common_bottom" ["chances"] je qC qB):Τ P w K mg base (br P w) 3 f fd ["chances"] (bK K kq):=by
 refine F.cN bZ (λds M q x h=> ?_) (λaQ A outer s H E' hr=>⟨_,(δ (Θ (bW (Ki E.vZ (ε (bH (ys:=[]) (Ε:=[]) (.of bZ rfl rfl rfl) (aL (jv 0)) (λC s H fp=>(tQ (Α (jv 0) θ) θ))) ζ))) (η (τ GG)) ψ)
   (δ (π 1 bZ.nd (Λ eR hr ξ (ae (jv 0) ζ)))
   (δ (π 2 bZ.nd (Kc E.xr (ε (bH (ys:=["bottom"]) (Ε:=[1]) (.of bZ rfl rfl rfl) (aL (jv 0)) (λC s H fp=>(fZ (Α (jv 0) θ) (aX (jv 1) (Α (jv 0) θ))))) ζ)))
   (η (τ (eG (LM hr (jv 2) (jv 1)) (h_ (tQ (jv 1) (jH E.gy))))))))),λds M q x h=> ?_⟩)
 ·obtain ⟨cs,rfl,_⟩:=h;rfl
 ·obtain ⟨cs,rfl,Qn,h⟩:=h;obtain ⟨hz,hc⟩:=id Qn;have U':(cs.map aR).length<=sizeLine:=by rw [aaa];exact aaq hz (by decide)
  obtain ⟨b0,b1⟩:=lN cs 1 0 (by decide) (by decide) λc h=>⟨(hc c h).1,(hc c h).2.1⟩;walk_at "vc";refine cw (i:=0) rfl rfl ⟨U', ?_⟩;refine dY (f:=λd=> .bl (match d with | .tup [.int a, .int b]=>decide (a<=0) | _=>false)) trivial (λx hx q hq=> ?_) ?_
  ·obtain ⟨y,_,rfl⟩:=aal.mp hx;exact hq
  ·refine ⟨cs.map λc=>decide (c.1<=0),by rw [aao,aat,aao];rfl,λ_ z=>(nomatch z),λ_ z=>(nomatch z), ?_⟩;have ea:(cs.map λc=>decide (c.1<=0)).any id=cs.any λc=>decide (c.1<=0):=by rw [List.any_map];rfl
   rw [ea];refine ⟨λh1=> ?_,λh1=> ?_⟩
   ·have e:Ξ cs=false:=by unfold Ξ;rw [h1];rfl
    rw [<-e];exact h
   ·refine ⟨cs,rfl,Qn, ?_⟩;walk_at "vc";refine cw (i:=0) rfl rfl ⟨U', ?_⟩;refine dY (f:=λd=> .int (match d with | .tup [.int a, .int b]=>a * (kF cs / b) | _=>0)) trivial (λx hx q hq=> ?_) ?_
    ·obtain ⟨y,hy,rfl⟩:=aal.mp hx;obtain ⟨y0,y1,y2⟩:=hc y hy;refine ⟨⟨y0,FU (aaR y0) y1 (by decide)⟩,⟨bg y2, ?_⟩,hq⟩;refine Pc (k:=200 * (0+cs.length)) (Int.ediv_nonneg (aaR b0) (aaR y0)) (Int.le_trans (Int.ediv_le_self _ (aaR b0)) b1) (by omega)
    ·refine ⟨cs.map λc=>c.1 * (kF cs / c.2),by rw [aao,aat,aao];rfl,⟨_,_,rfl⟩, ?_⟩;refine ⟨λh2=> ?_,λh2=> ?_⟩
     ·have e:Ξ cs=decide (kF cs<=1000000):=by unfold Ξ;rw [h1,h2];rfl
      rw [e] at h;exact h
     ·have e:Ξ cs=false:=by unfold Ξ;rw [h1,h2];rfl
      rw [<-e];exact h
inductive Rw where
 | fin (p:Fr)
 | Μ (k:Str) (ds:List nh)
def ak(d:nh):Fr:=d.2.2.headD (0,1)
def gJ:Rw->Prop
 | .fin p=>0 < p.2
 | .Μ k ds=>k≠"end"/\ds.length<=12/\(k="chance"->(∀d∈ds,d.2.2=[ak d])/\NH (ds.map ak))/\∀d∈ds,d.2.2.length<=1/\0 < d.2.1.2
def g7(M:Ms)(d:Dt):Rw->Prop
 | .fin p=>d= .tup [.str "end",aR p]
 | .Μ k ds=>∃e ok,d= .tup [.str k,e]/\iE M e=some (ds.map cC,ok)
def Υ:Rw->Dt
 | .fin p=> .tup [.str "end",aR p]
 | .Μ k ds=> .tup [.str k, .lst (ds.map cC)]
theorem Ac(M:Ms)(r:Rw):g7 M (Υ r) r:=by
 cases r with
 | fin p=>rfl
 | Μ k ds=>exact ⟨_,_,rfl,rfl⟩
theorem jI{n:Nat}(p:Fr):(aR p).under n:=⟨trivial,trivial,trivial⟩
theorem zM{n:Nat}:∀(ps:List Fr),Dt.bD n (ps.map aR)
 | []=>trivial
 | p::ps=>⟨jI p,zM ps⟩
theorem K1{n:Nat}(d:nh):(cC d).under n:=⟨trivial,jI _,zM _⟩
theorem nZ{n:Nat}:∀(ds:List nh),Dt.bD n (ds.map cC)
 | []=>trivial
 | d::ds=>⟨K1 d,nZ ds⟩
theorem AH{n:Nat}(r:Rw):(Υ r).under n:=by
 cases r with
 | fin p=>exact ⟨trivial,jI p,trivial⟩
 | Μ k ds=>exact ⟨trivial,nZ ds,trivial⟩
theorem iy{n:Nat}:∀(rs:List Rw),Dt.bD n (rs.map Υ)
 | []=>trivial
 | r::rs=>⟨AH r,iy rs⟩
def aK(k:Str):Bool:=k=="one" || k=="other"
def da(r:Rw)(size:Int):Bool:=match r with
 | .fin p=>aU p
 | .Μ k ds=>if aK k then Δ ds size else if k="chance" then Δ ds size&&Ξ (ds.map ak) else false
theorem wF{ρ:En}{ds:List Dt}{ok:Ms->Prop}{q:List Dt->(Ms->Prop)->Ms->Prop}{x:DX}(hv:ρ[i]? =some (some (.tup ds)))(hj:gP ds j=some d)(hl:iE M d=some (xs,ok))(h:q xs ok M):dg (dw ck (bG i) (dC (.int j))) ρ M q x:=by unfold dg dw bG;rw [hv];show ck (.tup ds) (.int j) M (λd M1=>match qm M1 d with | some (xs,ok)=>q xs ok M1 | none=>False);refine χ rfl hj ?_;show (match qm M d with | some (xs,ok)=>q xs ok M | none=>False);rw [oK hl];exact h
theorem wy{k:Str}:LF (.str k) [.str "one", .str "other"]=aK k:=by show ((("one":Str)==k) || ((("other":Str)==k) || false))=(k=="one" || k=="other");rw [Bool.or_false,BEq.comm (a:=("one":Str)),BEq.comm (a:=("other":Str))]
def wc:DF:=λas M q _=>∃d r size,as=[d, .int size]/\g7 M d r/\gJ r/\q (.bl (da r size)) M
theorem mL:υ ["row","size","kind"] ["row","size"] (μ pb):= .of rfl
theorem zy   (F:bV K "fits_row" "fits_row" pb f fd) (E:Ev K mg w Cm ν CT CN) {pO:Addr} {oH:FuncData} (dW:aa P w K mg base 1 "fits_pay" ["pay"] qr pO oH) {xI:Addr} {zb:FuncData} (fg:aa P w K mg base 3 "fits_doors" ["doors","size"] ow xI zb) {vi:Addr} {tq:FuncData} (fB:aa P w K mg base 3 "fits_chances" ["chances"] kq vi tq):Τ P w K mg base (br P w) 4 f fd ["row","size"] (bK K wc):=by
 refine F.cN mL (λds M q x h=> ?_) (λaQ A outer s H E' hr=>⟨_,(δ (π 2 mL.nd (Α (jv 0) θ))
   (δ (Θ (bC hr (jv 2) Ψ) (η (τ (Λ dW hr ξ (ε (Α (jv 0) θ) ζ Κ)))) ψ)
   (δ (Θ (xZ (jv 2) (zP E.tP)) (η (τ (Λ fg hr ξ (ε (Α (jv 0) θ) (ae (jv 1) ζ) Κ)))) ψ)
   (δ (Θ (bC hr (jv 2) Ψ) (η (τ (eG (Λ fg hr ξ (ε (Α (jv 0) θ) (ae (jv 1) ζ) Κ)) (h_ (Λ fB hr ξ (ε (bH (ys:=[]) (Ε:=[]) (.of mL rfl rfl rfl) (aL (Α (jv 0) θ)) (λC s H fp=>(Α (jv 0) θ))) ζ)))))) ψ)
   (η (τ GG)))))),λds M q x h=> ?_⟩)
 ·obtain ⟨d,r,size,rfl,_⟩:=h;rfl
 ·obtain ⟨d,r,size,rfl,ra,ro,h⟩:=h;cases r with
  | fin p=>
   have ra:d= .tup [.str "end",aR p]:=ra;subst ra;exact ⟨λ_=>⟨p,rfl,h⟩,λz=>(nomatch z)⟩
  | Μ k ds=>
   obtain ⟨e,ok,rfl,hl⟩:=ra;obtain ⟨hk,hz,A4,_⟩:=ro;refine ⟨λz=>aaG (aaN z) hk,λ_=> ?_⟩;refine ⟨.str k,[.str "one", .str "other"],[.str "one", .str "other"],rfl,rfl,rfl, ?_⟩;rw [wy];refine ⟨λh1=> ?_,λh1=> ?_⟩
   ·refine ⟨e,size,ds,ok,rfl,hl,by omega, ?_⟩;have e1:da (.Μ k ds) size=Δ ds size:=by show (if aK k then _ else _)=_;rw [aaD h1]
    rw [<-e1];exact h
   ·have e1:da (.Μ k ds) size=if k="chance" then Δ ds size&&Ξ (ds.map ak) else false:=by show (if aK k then _ else _)=_;rw [aaA (by rw [h1];decide)]
    rw [e1] at h;refine ⟨λh2=> ?_,λh2=> ?_⟩
    ·have h2:k="chance":=aaN h2;rw [aaD h2] at h;obtain ⟨N0,Qn⟩:=A4 h2;refine ⟨e,size,ds,ok,rfl,hl,by omega,λh3=> ?_,λh3=> ?_⟩
     ·rw [h3,Bool.true_and] at h;show dg _ _ _ _ _;refine wF (i:=0) (j:=1) (ds:=[.str k,e]) rfl (Ρ (j:=1) rfl) hl ⟨by rw [aaa];exact aaq hz (by decide), ?_⟩;refine dY (f:=λd=>match d with | .tup [_,_,c]=>c | _=> .bw) (nI hl) (λx hx q hq=> ?_) ?_
      ·obtain ⟨y,hy,rfl⟩:=aal.mp hx;have ey:cC y= .tup [.int y.1,aR y.2.1,aR (ak y)]:=by unfold cC;rw [N0 y hy];rfl
       rw [ey] at hq⊢;exact hq
      ·refine ⟨ds.map ak, ?_,Qn,h⟩;rw [aat,aao,aao];have:∀y∈ds,((λd=>match d with | Dt.tup [_,_,c]=>c | _=>Dt.bw) ∘ cC) y=(aR ∘ ak) y:=λy hy=>by
        have ey:cC y= .tup [.int y.1,aR y.2.1,aR (ak y)]:=by unfold cC;rw [N0 y hy];rfl
        show (match cC y with | Dt.tup [_,_,c]=>c | _=>Dt.bw)=aR (ak y);rw [ey]
       rw [aa9 this]
     ·rw [h3,Bool.false_and] at h;exact h
    ·have h2:k≠"chance":=aa2 h2;rw [aaA h2] at h;exact h
def jl:DF:=λas M q _=>∃d r,as=[d]/\g7 M d r/\gJ r/\match r with
 | .fin p=>q (.tup [.str "end",aR p]) M
 | .Μ k ds=>q (.tup [.str k, .loc M.length]) (M++[.lst (ds.map cC)])
theorem wX:υ ["row"] ["row"] (μ jM):= .of rfl
theorem vj(F:bV K "copied_row" "copied_row" jM f fd)(E:Ev K mg w Cm ν CT CN):Τ P w K mg base (br P w) 1 f fd ["row"] (bK K jl):=by
 refine F.cN wX (λds M q x h=> ?_) (λaQ A outer s H E' hr=>⟨_,(δ (Θ (bC hr (Α (jv 0) θ) Ψ) (η (τ (aW (ε (Α (jv 0) θ) (ε (Α (jv 0) θ) ζ Κ) Κ)))) ψ)
   (η (τ (aW (ε (Α (jv 0) θ) (ε (MJ E.uX (ε (Α (jv 0) θ) ζ Κ)) ζ bb) Κ))))),λds M q x h=> ?_⟩)
 ·obtain ⟨d,r,rfl,_⟩:=h;rfl
 ·obtain ⟨d,r,rfl,ra,ro,h⟩:=h;cases r with
  | fin p=>
   have ra:d= .tup [.str "end",aR p]:=ra;subst ra;exact ⟨λ_=>⟨gV,h⟩,λz=>(nomatch z)⟩
  | Μ k ds=>
   obtain ⟨e,ok,rfl,hl⟩:=ra;refine ⟨λz=>aaG (aaN z) ro.1,λ_=> ?_⟩;show (match lF M e with | some xs=>_ | none=>False);rw [kA hl];exact ⟨gV,h⟩
def bO(p:Fr):Bool:=decide (0<=p.1)&&(decide (p.1 < p.2)&&decide (p.2<=1000))
def pF:DF:=λas M q _=>∃p,as=[aR p]/\q (.bl (bO p)) M
theorem wQ:υ ["share"] ["share"] (μ jK):= .of rfl
theorem tX(F:bV K "fits_share" "fits_share" jK f fd)(E:Ev K mg w Cm ν CT CN):Τ P w K mg base (br P w) 1 f fd ["share"] (bK K pF):=by
 refine F.cN wQ (λds M q x h=> ?_) (λaQ A outer s H E' hr=>⟨_,(η (τ (eG (tQ θ (Α (jv 0) θ)) (eG (NC (Α (jv 0) θ) (Α (jv 0) θ)) (h_ (tQ (Α (jv 0) θ) (jH E.eA))))))),λds M q x h=> ?_⟩)
 ·obtain ⟨p,rfl,_⟩:=h;rfl
 ·obtain ⟨p,rfl,h⟩:=h;unfold bO at h;refine ⟨λh1=>⟨λh2=> ?_,λh2=> ?_⟩,λh1=> ?_⟩
  ·rw [show decide (0<=p.1)=true from h1,show decide (p.1 < p.2)=true from h2] at h;exact h
  ·rw [show decide (0<=p.1)=true from h1,show decide (p.1 < p.2)=false from h2] at h;exact h
  ·rw [show decide (0<=p.1)=false from h1] at h;exact h
theorem Jm{c S:Int}(hb:b∣S)(hc:c∣S)(Fy:0 < b)(Yb:0 < c):b * c / g b c∣S/\b∣b * c / g b c/\c∣b * c / g b c:=by
 have e:b * c / g b c=(Int.lcm b c:Nat):=by
  have h:=Int.gcd_mul_lcm b c;have hg:0 < g b c:=wZ (by omega);have h2:((Int.gcd b c:Nat):Int) * ((Int.lcm b c:Nat):Int)=b * c:=by rw [<-Int.natCast_mul,h,Int.natCast_mul,abB (aaR Fy),abB (aaR Yb)]
  rw [<-h2];exact Int.mul_ediv_cancel_left _ (by unfold g at hg;omega)
 rw [e];exact ⟨Int.coe_lcm_dvd hb hc,Int.dvd_lcm_left ..,Int.dvd_lcm_right ..⟩
theorem wO:∀(cs:List Fr) (b S:Int),0 < b->b∣S->(∀c∈cs,0 < c.2/\c.2∣S)->cs.foldl (λb c=>b * c.2 / g b c.2) b∣S/\b∣cs.foldl (λb c=>b * c.2 / g b c.2) b/\∀c∈cs,c.2∣cs.foldl (λb c=>b * c.2 / g b c.2) b
 | [],b,S,_,h,_=>⟨h,Int.dvd_refl b,λc hc=>nomatch hc⟩
 | c::cs,b,S,h0,h,hc=>by
  obtain ⟨c0,cS⟩:=hc c aad;obtain ⟨d1,d2,d3⟩:=Jm h cS h0 c0;obtain ⟨i1,i2,i3⟩:=wO cs _ S (ki h0 c0).1 d1 λx hx=>hc x (aae _ hx);rw [abJ];refine ⟨i1,Int.dvd_trans d2 i2,λx hx=> ?_⟩;rcases aar.mp hx with rfl | hx
  ·exact Int.dvd_trans d3 i2
  ·exact i3 x hx
theorem nq(m:Int)(f:Int->Int):∀(ws:List Int),(ws.map λw=>m * f w).sum=m * (ws.map f).sum
 | []=>by simp
 | w::ws=>by simp only [List.map_cons,List.sum_cons];rw [nq m f ws,Int.mul_add]
theorem EE{t:Int}(h:0 < b):(aD t b).2∣b:=by obtain ⟨p,q,e,_,_,_,eb⟩:=dR (t:=t) (show b≠0 by omega);rw [e];exact ⟨dv t b,by show b=q * dv t b;rw [abw];exact eb⟩
theorem wg{t:Int}(ht:0 < t)(h:0 < b):0 < (aD t b).1:=by have hc:=gw (t:=t) (show b≠0 by omega);have hp:=cc (t:=t) (show b≠0 by omega);have h1:0 < t * (aD t b).2:=Int.mul_pos ht hp;rw [hc] at h1;exact Int.pos_of_mul_pos_right h1 h |> λz=>z
theorem ym{ws:List Int}{S:Int}(hS:ws.sum=S)(hw:∀w∈ws,0 < w)(hn:ws≠[])(hS1:S<=1000000)(hz:ws.length<=12):Ξ (ws.map λw=>aD w S)=true/\NH (ws.map λw=>aD w S):=by
 have pos:∀{l:List Int},(∀w∈l,0 < w)->0<=l.sum/\(l≠[]->0 < l.sum)/\∀w∈l,w<=l.sum:=by
  intro l
  induction l with
  | nil=>exact λ_=>⟨by simp,λz=>absurd rfl z,λw hw=>nomatch hw⟩
  | cons a l ih=>
   intro h;obtain ⟨i1,i2,i3⟩:=ih λw hw=>h w (aae _ hw);have:=h a aad;rw [List.sum_cons];refine ⟨by omega,λ_=>by omega,λw hw=> ?_⟩;rcases aar.mp hw with rfl | hw
   ·omega
   ·have:=i3 w hw;omega
 obtain ⟨_,p2,p3⟩:=pos hw;have S0:0 < S:=by rw [<-hS];exact p2 hn
 have Nq:S≠0:=by omega
 have hd:∀c∈ws.map (λw=>aD w S),0 < c.2/\c.2∣S:=λc hc=>by obtain ⟨w,_,rfl⟩:=aal.mp hc;exact ⟨cc Nq,EE S0⟩
 obtain ⟨⟨m,hm⟩,_,hB⟩:=wO (ws.map λw=>aD w S) 1 S (by decide) (Int.one_dvd _) hd;have B0:0 < kF (ws.map λw=>aD w S):=by refine (i8 (ws.map λw=>aD w S) 1 (by decide) λc hc=>(hd c hc).1)
 generalize T9:kF (ws.map λw=>aD w S)=B at *
 have hm:S=B * m:=by rw [<-T9];exact hm
 have m0:0 < m:=by
  rcases Int.lt_trichotomy m 0 with h | h | h
  ·have:=Int.mul_neg_of_pos_of_neg B0 h;omega
  ·rw [h,Int.mul_zero] at hm;omega
  ·exact h
 have key:((ws.map λw=>aD w S).map λc=>c.1 * (B / c.2)).sum=B:=by
  have e1:∀w∈ws,m * ((aD w S).1 * (B / (aD w S).2))=w:=λw hw=>by
   have hb:(aD w S).2∣B:=by rw [<-T9];exact hB _ (aal.mpr ⟨w,hw,rfl⟩)
   obtain ⟨k,hk⟩:=hb;have q0:=cc (t:=w) Nq;have e2:B / (aD w S).2=k:=by rw [hk];exact abI _ (by omega)
   have hc:=gw (t:=w) Nq;rw [e2];have hS':S=(aD w S).2 * k * m:=by rw [<-hk];exact hm
   generalize (aD w S).1=x at *
   generalize (aD w S).2=y at *
   have e4:S * x=y * (m * (x * k)):=by rw [hS'];simp only [Int.mul_assoc,Int.mul_comm,Int.mul_left_comm]
   have e3:y * (m * (x * k))=y * w:=by rw [<-e4,<-hc,abw]
   exact abE (by omega) e3
  have e5:m * ((ws.map λw=>aD w S).map λc=>c.1 * (B / c.2)).sum=m * B:=by rw [aao];show m * (ws.map λw=>(aD w S).1 * (B / (aD w S).2)).sum=m * B;rw [<-nq,aa9 e1,List.map_id',hS,hm,abw]
  exact abE (by omega) e5
 refine ⟨?_,⟨by rw [aaa];exact hz,λc hc=> ?_⟩⟩
 ·unfold Ξ;rw [T9,key];have ha:((ws.map λw=>aD w S).any λc=>decide (c.1<=0))=false:=by rw [List.any_eq_false];intro c hc;obtain ⟨w,QP,rfl⟩:=aal.mp hc;have:=wg (hw w QP) S0;simpa using this
  have hle:B<=S:=by have:=Int.mul_le_mul_of_nonneg_left (show 1<=m by omega) (aaR B0);rw [Int.mul_one,<-hm] at this;exact this
  rw [ha,aay rfl,aay (show B<=1000000 by omega)];rfl
 ·obtain ⟨w,QP,rfl⟩:=aal.mp hc;have q0:=cc (t:=w) Nq;have l1:=pB (t:=w) Nq;have l2:=ke (t:=w) Nq;have:=p3 w QP;have w0:=hw w QP;have big:(1000000:Int) < 2 ^ 200:=by decide
  have Z0:1000000 < 2 ^ 200:=by decide
  exact ⟨q0,by omega,by omega⟩
theorem aw{α:Type}{te:DE}{cs:En}{ok:Ms->Prop}{F:Dt->α->Prop}{f:α->Dt}{M:Ms}{k:List Dt->Ms->Prop}(ho:ok M)(ht:∀x a,F x a->∀q:DQ,q (f a) M->te (some x::cs) M q gT):∀{xs:List Dt} {as:List α} {Ο:List Dt},Paired F xs as->k (Ο++as.map f) M->cD te cs ok xs Ο M k
 | _,_,Ο, .nil,h=>⟨ho,by simpa using h⟩
 | _,_,Ο, .cons r t,h=>⟨ho,ht _ _ r _ (aw ho ht t (by simpa using h))⟩
theorem wM{k:Nat}{C C':Addr}{ns ns':List Str}{xs':List Dt}{e:Dt}{ys:List Dt}{ok:Ms->Prop}(hk:M[k]? =some (.ins C ns xs))(h:iE M e=some (ys,ok)):iE (M.set k (.ins C' ns' xs')) e=some (ys,ok):=by
 cases e with
 | lst ds=>exact h
 | nF ns=>exact h
 | loc j=>
  have h:(match M[j]? with | some (.lst xs)=>some (xs,λM':Ms=>M'[j]? =some (.lst xs)) | _=>none)=some (ys,ok):=h;have ne:k≠j:=λz=>by subst z;rw [hk] at h;cases h
  show (match (M.set k (.ins C' ns' xs'))[j]? with | some (.lst xs)=>some (xs,λM':Ms=>M'[j]? =some (.lst xs)) | _=>none)=some (ys,ok);rw [aaV ne];exact h
 | _=>cases h
theorem Bz{k:Nat}{C C':Addr}{ns ns':List Str}{xs':List Dt}{r:Rw}(hk:M[k]? =some (.ins C ns xs))(h:g7 M d r):g7 (M.set k (.ins C' ns' xs')) d r:=by
 cases r with
 | fin p=>exact h
 | Μ k' ds=>
  obtain ⟨e,ok,h1,h2⟩:=h;exact ⟨e,ok,h1,wM hk h2⟩
theorem BN{C:Addr}{f:Str}{ρ:En}{v:Dt}{ns:List Str}{ds:List Dt}{ok:Ms->Prop}{q:List Dt->(Ms->Prop)->Ms->Prop}{x:DX}(hv:ρ[i]? =some (some d))(ho:HK C M d ns ds)(hf:(ns.zip ds).lookup f=some v)(hl:iE M v=some (xs,ok))(h:q xs ok M):dg (HI C f (bG i)) ρ M q x:=by unfold dg HI bG;rw [hv];refine ⟨ns,ds,v,ho,hf, ?_⟩;show (match qm M v with | some (xs,ok)=>q xs ok M | none=>False);rw [oK hl];exact h
def cG(C:Addr)(ο:Fr)(rows:List Rw):Dt:= .obj C ["kept_share","kept_rows"] [aR ο, .lst (rows.map Υ)]
def D3(Cm:Addr):DF:=λas M q _=>∃k d ο ds rows ok,as=[.loc k,aR ο,d]/\M[k]? =some (.ins Cm [] [])/\iE M d=some (ds,ok)/\Paired (g7 M) ds rows/\bO ο=true/\1<=rows.length/\rows.length<=12/\
 (∀r∈rows,gJ r/\da r rows.length=true)/\q .bw (M.set k (.ins Cm ["kept_share","kept_rows"] [aR ο, .lst (rows.map Υ)]))
theorem e7:υ ["self","share","rows","place","row"] ["self","share","rows"] (μ jm):= .of rfl
theorem u0(F:bV K "__init__" "Floor.__init__" jm f fd)(E:Ev K mg w Cm ν CT CN){xS:Addr}{zz:FuncData}(ix:aa P w K mg base 1 "fits_share" ["share"] pF xS zz){DL:Addr}{Fo:FuncData}(ma:aa P w K mg base 4 "fits_row" ["row","size"] wc DL Fo){jJ:Addr}{jT:FuncData}(cA:aa P w K mg base 1 "copied_row" ["row"] jl jJ jT):Τ P w K mg base (br P w) 5 f fd ["self","share","rows"] (bK K (D3 Cm)):=by
 refine F.cN e7 (λds M q x h=> ?_) (λaQ A outer s H E' hr=>⟨_,(δ (Θ (cT (bW (Λ ix hr ξ (ae (jv 1) ζ)))) (η cH) ψ)
   (δ (Θ (JW.jt (i6 (kK (cP E.cf (ae (jv 2) ζ)) θ) (fw (wN (cP E.cf (ae (jv 2) ζ)) (jH E.ll))))) (η cH) ψ)
   (δ (iN (Aa E.dm (ae (jv 2) ζ)) (mm rfl (bA (aV (i:=3) e7.nd rfl (Or.inl rfl)) (bA (aV (i:=4) e7.nd rfl (Or.inl rfl)) iM))) u7 (η (Θ (cT (bW (Λ ma hr ξ (ae (jv 4) (ε (cP E.cf (ae (jv 2) ζ)) ζ bb))))) (η cH) ψ)))
   (δ (uF E.hV E.fo (jv 0) (jv 1))
   (η (uF E.hV E.gz (jv 0) (bH (ys:=[]) (Ε:=[]) (.of e7 rfl rfl rfl) (aL (jv 2)) (λC s H fp=>(dF (Λ cA hr (aM (P:=P) (w:=w)) (ae (jv 0) ζ))))))))))),λds M q x h=> ?_⟩)
 ·obtain ⟨k,d,ο,ds,rows,ok,rfl,_⟩:=h;rfl
 ·obtain ⟨k,d,ο,ds,rows,ok,rfl,hk,hl,hp,hs,h1,YO,T3,h⟩:=h;have hlen:ds.length=rows.length:=Paired.length hp;walk_at "vc";refine ⟨ο,rfl,λz=> ?_,λ_=> ?_⟩
  ·rw [hs] at z;exact nomatch z
  have T1:=kA hl;refine dc T1 ⟨λz=> ?_,λ_=> ?_⟩
  ·have:(ds.length:Int) < 1:=by simpa using z
   omega
  refine dc T1 ⟨λz=> ?_,λ_=> ?_⟩
  ·have:12 < (ds.length:Int):=by simpa using z
   omega
  refine ⟨d,ds,ok,rfl,hl, ?_⟩;refine d_ (λxs ρ M'=>M'=M/\∃n CZ zL a b,xs=g6 n CZ/\Paired (g7 M) CZ zL/\(∀r∈zL,r∈rows)/\ρ=[some (.loc k),some (aR ο),some d,a,b]) (λxs ρ M' hj=>by obtain ⟨rfl,_⟩:=hj;exact nI hl) (λx xs ρ M' hj r9=> ?_) (λρ M' hj=> ?_) _ _ _ ⟨rfl,0,ds,rows,none,none,rfl,hp,λ_ h=>h,rfl⟩
  ·obtain ⟨rfl,n,CZ,zL,a,b,ex,N5,Nk,rfl⟩:=hj;cases N5 with
   | nil=>cases ex
   | cons ra t=>
    rename_i d1 r1 Yg Nz;cases ex;refine dc T1 ⟨d1,r1,ds.length,rfl,ra,(T3 r1 (Nk r1 aad)).1,λz=> ?_,λ_=> ?_⟩
    ·rw [hlen,(T3 r1 (Nk r1 aad)).2] at z;exact nomatch z
    ·exact r9 _ _ ⟨rfl,n+1,Yg,Nz,_,_,rfl,t,λr hr=>Nk r (aae _ hr),rfl⟩
  ·obtain ⟨rfl,n,CZ,zL,a,b,ex,N5,Nk,rfl⟩:=hj;have Ys:k < M'.length:=(aag.mp hk).1;refine ⟨k,[],[],rfl,hk,(λz=>(nomatch z)),by decide, ?_⟩;have Jv:=wM (C':=Cm) (ns':=["kept_share"]) (xs':=[aR ο]) hk hl;dsimp only [JO,List.nil_append];show dg _ _ _ _ _;refine cw (i:=2) rfl Jv ⟨by rw [hlen];exact aaq YO (by decide), ?_⟩;have Sj:Paired (λx a=>g7 (M'.set k (.ins Cm ["kept_share"] [aR ο])) x a/\gJ a) ds rows:=by
    have:∀{xs:List Dt} {rs:List Rw},Paired (g7 M') xs rs->(∀r∈rs,gJ r)->Paired (λx a=>g7 (M'.set k (.ins Cm ["kept_share"] [aR ο])) x a/\gJ a) xs rs:=by
     intro xs rs hp
     induction hp with
     | nil=>exact λ_=> .nil
     | cons r t ih=>exact λh=> .cons ⟨Bz hk r,h _ aad⟩ (ih λy hy=>h y (aae _ hy))
    exact this hp λr hr=>(T3 r hr).1
   refine aw (f:=Υ) (nI Jv) (λx a ha q' hq=> ?ht) Sj ?fin
   case ht=>
    obtain ⟨ha,ho⟩:=ha;refine ⟨x,a,rfl,ha,ho, ?_⟩;cases a with
    | fin p=>exact Hw ⟨trivial,jI p,trivial⟩ hq
    | Μ k2 S2=>exact cW (.tup (.cons (.old trivial) (.cons (.qL (Nat.le_refl _) (by simp) (dQ.old (nZ S2))) .nil))) hq
   case fin=>
    refine ⟨k,["kept_share"],[aR ο],rfl,by rw [aaW Ys],by decide,by decide, ?_⟩;rw [List.set_set];exact h
def kindOf:Rw->Str
 | .fin _=>"end"
 | .Μ k _=>k
def kJ:Nat->List Rw->List Dt
 | _,[]=>[]
 | n, .fin p::r=> .tup [.str "end",aR p]::kJ n r
 | n, .Μ k _::r=> .tup [.str k, .loc n]::kJ (n+1) r
def jf:List Rw->Ms
 | []=>[]
 | .fin _::r=>jf r
 | .Μ _ ds::r=> .lst (ds.map cC)::jf r
def zq(C:Addr):DF:=λas M q _=>∃ο rows,as=[cG C ο rows]/\q (aR ο) M
theorem uY:υ ["self"] ["self"] (μ h9):= .of rfl
theorem qR(F:bV K "share" "Floor.share" h9 f fd)(E:Ev K mg w Cm ν CT CN):Τ P w K mg base (br P w) 1 f fd ["self"] (bK K (zq Cm)):=by
 refine F.cN uY (λds M q x h=> ?_) (λaQ A outer s H E' hr=>⟨_,(η (τ (Et E.hV E.fo (jv 0)))),λds M q x h=> ?_⟩)
 ·obtain ⟨ο,rows,rfl,_⟩:=h;rfl
 ·obtain ⟨ο,rows,rfl,h⟩:=h;exact ⟨_,_,_, .inl rfl,rfl,h⟩
theorem pA{te:DE}{cs:En}{k:List Dt->Ms->Prop} (ht:∀r M (q:DQ),gJ r->(match r with
  | .fin p=>q (.tup [.str "end",aR p]) M
  | .Μ k ds=>q (.tup [.str k, .loc M.length]) (M++[.lst (ds.map cC)]))->te (some (Υ r)::cs) M q gT):∀(rows:List Rw) (Ο:List Dt) (M:Ms),(∀r∈rows,gJ r)->k (Ο++kJ M.length rows) (M++jf rows)->cD te cs (λ_=>True) (rows.map Υ) Ο M k
 | [],Ο,M,_,h=>⟨trivial,by simpa [kJ,jf] using h⟩
 | r::rows,Ο,M,ho,h=>by
  refine ⟨trivial,ht r M _ (ho r aad) ?_⟩;cases r with
  | fin p=>
   refine pA ht rows _ M (λr hr=>ho r (aae _ hr)) ?_;simpa [kJ,jf] using h
  | Μ k' ds=>
   refine pA ht rows _ _ (λr hr=>ho r (aae _ hr)) ?_;simpa [kJ,jf] using h
def Ec(C:Addr):DF:=λas M q _=>∃ο rows,as=[cG C ο rows]/\rows.length<=12/\(∀r∈rows,gJ r)/\q (.loc (M.length+(jf rows).length)) (M++jf rows++[.lst (kJ M.length rows)])
theorem mY:υ ["self"] ["self"] (μ jj):= .of rfl
theorem tV(F:bV K "rows" "Floor.rows" jj f fd)(E:Ev K mg w Cm ν CT CN){jJ:Addr}{jT:FuncData}(cA:aa P w K mg base 1 "copied_row" ["row"] jl jJ jT):Τ P w K mg base (br P w) 2 f fd ["self"] (bK K (Ec Cm)):=by
 refine F.cN mY (λds M q x h=> ?_) (λaQ A outer s H E' hr=>⟨_,(η (τ (Du (ys:=[]) (Ε:=[]) (.of mY rfl rfl rfl) (aL (Et E.hV E.gz (jv 0))) (λC s H fp=>(Λ cA hr (aM (P:=P) (w:=w)) (ae (jv 0) ζ)))))),λds M q x h=> ?_⟩)
 ·obtain ⟨ο,rows,rfl,_⟩:=h;rfl
 ·obtain ⟨ο,rows,rfl,hz,ho,h⟩:=h;walk_at "vc";refine BN (i:=0) (d:=cG Cm ο rows) rfl (.inl rfl) rfl rfl ⟨by rw [aaa];exact aaq hz (by decide), ?_⟩;refine pA (λr M q hr hq=>⟨Υ r,r,rfl,Ac M r,hr,by cases r <;> exact hq⟩) rows [] M ho ?_;rw [aat,aab];exact h
def MD(ns:List Int)(k:Int):Int:=ns.getD k.toNat 0
def HJ:DF:=λds M q _=>match ds with
 | [.nF ns, .int k]=>0<=k/\q (.int (MD ns k)) M
 | _=>False
theorem Dw:υ ["_law_script","_law_k"] ["_law_script","_law_k"] (μ vb):= .of rfl
theorem Cr(F:bV K "_law_nth" "_law_nth" vb f fd)(E:Ev K mg w Cm ν CT CN):Τ P w K mg base (br P w) 1 f fd ["_law_script","_law_k"] (bK K HJ):=by
 refine F.cN Dw (λds M q x h=> ?_) (λaQ A outer s H E' hr=>⟨_,(η (τ (Ke (kK (jv 1) (cP E.cf (ae (jv 0) ζ))) (Α (jv 0) (jv 1)) θ))),λds M q x h=> ?_⟩)
 ·unfold HJ at h;split at h; · rfl
  ·exact h.elim
 ·unfold HJ at h;split at h
  ·rename_i ns k;obtain ⟨hk,h⟩:=h;refine ⟨λh1=> ?_,λh1=> ?_⟩
   ·have h2:k < (ns.length:Int):=by simpa using h1
    have UT:gP (ns.map Dt.int) k=some (.int (MD ns k)):=by
     have e:(ns.map Dt.int)[k.toNat]? =some (.int (MD ns k)):=by rw [aaF,aac (show k.toNat < ns.length by omega)];unfold MD;rw [aaS,aac (show k.toNat < ns.length by omega)];rfl
     have:=Ρ e;rwa [show ((k.toNat:Nat):Int)=k by omega] at this
    show (match gP (ns.map Dt.int) k with | some y=>q y M | none=>False);rw [UT];exact h
   ·have h2:¬k < (ns.length:Int):=by simpa using h1
    have e:MD ns k=0:=by unfold MD;rw [aaS,List.getElem?_eq_none (by omega)];rfl
    rw [e] at h;exact h
  ·exact h.elim
theorem kC:υ ["_law_one","_law_other","_law_found","_law_rest"] ["_law_one","_law_other"] (μ sZ):= .of rfl
theorem BE(F:bV K "_law_gcd" "_law_gcd" sZ f fd)(E:Ev K mg w Cm ν CT CN):Τ P w K mg base (br P w) 1 f fd ["_law_one","_law_other"] (bK K tU):=by
 refine F.cN kC (λds M q x h=> ?_) (λaQ A outer s H E' hr=>⟨_,(δ (π 2 kC.nd (wV E.nj (ae (jv 0) ζ)))
   (δ (π 3 kC.nd (wV E.nj (ae (jv 1) ζ)))
   (δ (vH (wN (jv 3) θ) (η (MU (i:=2) (j:=3) kC.nd rfl rfl (ae (jv 3) (ε (aq (jv 2) (jv 3)) ζ aG)))))
   (η (τ (jv 2)))))),λds M q x h=> ?_⟩)
 ·unfold tU at h;split at h; · rfl
  ·exact h.elim
 ·unfold tU at h;split at h
  ·rename_i a b;refine ⟨λm ρ M'=>M'=M/\∃(x y:Int),ρ=[some (.int a),some (.int b),some (.int x),some (.int y)]/\0<=x/\0<=y/\g x y=g a b/\m=y.toNat,⟨_,rfl,_,_,rfl,by split <;> omega,by split <;> omega,Jy a b,rfl⟩, ?_⟩;rintro m ρ M' ⟨rfl,x,y,rfl,hx,hy,e,rfl⟩;refine ⟨λhb=> ?_,λhb=> ?_⟩
   ·have Mi:0 < y:=by simpa using hb
    refine ⟨_,λρ' M2 h2=>h2, ?_⟩;refine ⟨by omega,(x % y).toNat, ?_,rfl,y,x % y,rfl,hy,aaL _ (by omega), ?_,rfl⟩
    ·have:=aaH x (show 0 < y by omega);have:=aaL x (show y≠0 by omega);omega
    ·rw [<-abg x hy,FP (by omega)];exact e
   ·have Mi:y=0:=by
     have:¬0 < y:=by simpa using hb
     omega
    subst Mi;rw [FF hx] at e;subst e;exact h
  ·exact h.elim
theorem kG{g:Dt->En->(En->Prop)->Prop}{tb:DS}{Dn:mX}(J:List Dt->En->Ms->Prop)
  (step:∀x xs ρ M,J (x::xs) ρ M->(∀ρ M,J xs ρ M->qF g tb Dn xs ρ M)->g x ρ λρ'=>tb {Dn with nx:=qF g tb Dn xs,ct:=qF g tb Dn xs,bk:=Dn.nx} ρ' M)
  (fin:∀ρ M,J [] ρ M->Dn.nx ρ M):∀(xs:List Dt) (ρ:En) (M:Ms),J xs ρ M->qF g tb Dn xs ρ M
 | [],ρ,M,h=>fin _ _ h
 | x::xs,ρ,M,h=>step x xs ρ M h λρ' M' h'=>kG J step fin xs ρ' M' h'
def Ent(x:Int):Prop:=0<=x/\x < 715827855
theorem l_{lo:Int}{n:Nat}{x:Dt}(h:x::xs=eX lo n):∃m,n=m+1/\x= .int lo/\xs=eX (lo+1) m:=by
 cases n with
 | zero=>exact nomatch h
 | succ m=>
  unfold eX at h;rw [abu,aaB,aao] at h;cases h;refine ⟨m,rfl,by simp, ?_⟩;unfold eX;apply aa9;intro k _;show Dt.int (lo+((k+1:Nat):Int))=Dt.int (lo+1+(k:Int))
  congr 1
  omega
def y6:DF:=λas M q _=>∃cell Η,as=[.int cell, .int (Η:Nat)]/\Η<=200/\∀xs:List Int,xs.length=Η->(∀x∈xs,Ent x)->q (.loc M.length) (M++[.lst (xs.map .int)])
theorem cm:υ ["_law_cell","_law_many","_law_found","_law_seed","_law_rest","_law_k"] ["_law_cell","_law_many"] (μ mx):= .of rfl
theorem vW(F:bV K "_law_mixed" "_law_mixed" mx f fd)(E:Ev K mg w Cm ν CT CN):Τ P w K mg base (br P w) 1 f fd ["_law_cell","_law_many"] (bK K y6):=by
 refine F.cN cm (λds M q x h=> ?_) (λaQ A outer s H E' hr=>⟨_,(δ (π 2 cm.nd (x9 ζ))
   (δ (π 3 cm.nd (Χ (aq (jv 0) θ) θ))
   (δ (π 4 cm.nd (jv 0))
   (δ (xR (bY E.bU (ae (jv 1) ζ)) (aV (i:=5) cm.nd rfl (Or.inl rfl)) bS (δ (π 3 cm.nd (aq (Χ (fZ (jv 3) (Χ θ (fZ θ (jv 5)))) θ) θ))
   (η (Θ (JW.jt (i6 (kK (jv 0) θ) (fw (P4 (jv 0) (ig θ θ))))) (δ (dJ (f_ (jv 2) (ε (aq (jv 4) θ) ζ aG)))
   (η (π 4 cm.nd (aX (jv 4) θ)))) (η (dJ (f_ (jv 2) (ε (aX (jv 3) θ) ζ aG))))))))
   (η (τ (jv 2))))))),λds M q x h=> ?_⟩)
 ·obtain ⟨cell,Η,rfl,_⟩:=h;rfl
 ·obtain ⟨cell,Η,rfl,hm,h⟩:=h;refine ⟨by decide,by decide,⟨by omega,by omega⟩, ?_⟩;refine kG (λxs ρ M'=>∃(n k:Nat) (ys:List Int) (v9 ag:Int) (a:Option Dt),xs=eX k n/\k+n=Η/\ys.length=k/\(∀y∈ys,Ent y)/\(0<=v9/\v9 < 2 ^ 32)/\M'=M++[MO.lst (ys.map Dt.int)]/\ρ=[some (.int cell),some (.int Η),some (.loc M.length),some (.int v9),some (.int ag),a]) (λx xs ρ M' hj r9=> ?_) (λρ M' hj=> ?_) _ _ _ ⟨Η,0,[],cell % 2147483629+11,cell,none,by simp,by simp,rfl,λ_ z=>(nomatch z),⟨?_, ?_⟩,rfl,rfl⟩
  ·obtain ⟨n,k,ys,v9,ag,a,ex,NW,Uy,hy,⟨s0,s1⟩,rfl,rfl⟩:=hj;obtain ⟨m,rfl,rfl,rfl⟩:=l_ ex;have k1:(k:Int)<=200:=by omega
   refine ⟨⟨bg (k:=2) (by decide),bg (k:=32) (by omega)⟩,⟨bg (k:=40) (by omega),bg (k:=40) (by omega)⟩,by decide, ?_⟩;have Qv:=aaL (v9 * (40014+2 * (k:Int))+12345) (show (2147483563:Int)≠0 by decide);have Vb:=aaH (v9 * (40014+2 * (k:Int))+12345) (show (0:Int) < 2147483563 by decide);have Aq:(M++[MO.lst (ys.map Dt.int)])[M.length]? =some (.lst (ys.map Dt.int)):=by simp
   have setM:∀y:Int,(M++[MO.lst (ys.map Dt.int)]).set M.length (.lst (ys.map Dt.int++[Dt.int y]))=M++[.lst ((ys++[y]).map Dt.int)]:=λy=>by simp
   have lt:(ys.map Dt.int).length < sizeLine:=by rw [aaa,Uy];exact aa7 (show k<=200 by omega) (by decide)
   have EN:∀(y E6:Int) (a:Option Dt),Ent y->qF (gN 5) _ _ (eX (k+1) m) [some (.int cell),some (.int Η),some (.loc M.length),some (.int ((v9 * (40014+2 * (k:Int))+12345) % 2147483563)),some (.int E6),some (.int k)] (M++[.lst ((ys++[y]).map Dt.int)]):=λy E6 a Zs=>r9 _ _ ⟨m,k+1,ys++[y],_,E6,_,by simp,by omega,by simp [Uy],λz hz=>by
    rcases aaK.mp hz with hz | hz
    ·exact hy z hz
    ·have:z=y:=by simpa using hz
     rw [this];exact Zs,⟨Qv,by omega⟩,rfl,rfl⟩
   have big:∀b:Bool,b=true->Ent (ag % 715827855):=λ_ _=>⟨aaL _ (by decide),aaH _ (by decide)⟩;have first:∃k' xs',Dt.loc M.length= .loc k'/\(M++[MO.lst (ys.map Dt.int)])[k']? =some (.lst xs'):=⟨_,_,rfl,Aq⟩
   have go1:∀(ρ:En),True:=λ_=>trivial;refine ⟨λh1=>⟨λ_=> ?_,λz=>(nomatch z)⟩,λh1=>⟨⟨by decide,by decide,by decide⟩,λh2=> ?_,λh2=> ?_⟩⟩
   ·refine ⟨first,by decide,⟨_,_,_,rfl,rfl,Aq,lt, ?_⟩⟩;rw [setM];exact ⟨⟨by decide,bg (k:=32) (by decide)⟩,EN _ _ none (big true rfl)⟩
   ·refine ⟨first,by decide,⟨_,_,_,rfl,rfl,Aq,lt, ?_⟩⟩;rw [setM];exact ⟨⟨by decide,bg (k:=32) (by decide)⟩,EN _ _ none (big true rfl)⟩
   ·refine ⟨first,⟨by decide,bg (k:=32) (by decide)⟩,⟨_,_,_,rfl,rfl,Aq,lt, ?_⟩⟩;rw [setM];exact EN _ _ none ⟨by omega,by omega⟩
  ·obtain ⟨n,k,ys,v9,ag,a,ex,NW,Uy,hy,_,rfl,rfl⟩:=hj;have hn:n=0:=by have:=aa5 List.length ex;unfold eX at this;simpa using this.symm
   exact h ys (by omega) hy
  ·have:=aaL cell (show (2147483629:Int)≠0 by decide);omega
  ·have:=aaH cell (show (0:Int) < 2147483629 by decide);omega
def Lw(p:Fr):Prop:=p.1.natAbs < 10 ^ 60/\0 < p.2/\p.2.natAbs < 10 ^ 60/\Int.gcd p.1 p.2=1
theorem E4{p:Fr}(h:aU p=true)(h0:0 < p.2)(hg:Int.gcd p.1 p.2=1):Lw p:=by
 unfold aU at h;rw [aap,aaP,aaP] at h;obtain ⟨h1,h2⟩:=h;have e1:(10:Nat) ^ 30 < 10 ^ 60:=by decide
 refine ⟨?_,h0, ?_,hg⟩
 ·have:p.1.natAbs<=10 ^ 30:=by split at h1 <;> omega
  omega
 ·have:p.2.natAbs<=10 ^ 30:=by omega
  omega
theorem C8{p:Fr}(h:bO p=true)(hg:Int.gcd p.1 p.2=1):Lw p:=by unfold bO at h;rw [aap,aap,aaP,aaP,aaP] at h;exact ⟨by omega,by omega,by omega,hg⟩
def QO:Rw->Prop
 | .fin p=>Lw p
 | .Μ k ds=>(∀d∈ds,Lw d.2.1/\∀c∈d.2.2,Lw c)/\(k≠"chance"->∀d∈ds,d.2.2=[])
theorem Jo{a:Int}(h1: -(10 ^ 30)<=a)(h2:a<=10 ^ 30)(h3:b<=1000000):aU (a,b)=true:=by
 unfold aU;have:(if a < 0 then -a else a)<=10 ^ 30:=by split <;> omega
 show (decide ((if a < 0 then -a else a)<=10 ^ 30)&&decide (b<=1000000))=true;rw [aay this,aay h3];rfl
theorem u9{t:Int}(h1: -(10 ^ 30)<=t)(h2:t<=10 ^ 30)(h0:0 < b)(h3:b<=1000000):aU (aD t b)=true:=by
 have l1:=pB (t:=t) (show b≠0 by omega);have l2:=ke (t:=t) (show b≠0 by omega);generalize aD t b=f at *
 obtain ⟨x,y⟩:=f;have l1:x.natAbs<=t.natAbs:=l1;have l2:y.natAbs<=b.natAbs:=l2;exact Jo (by omega) (by omega) (by omega)
theorem xB{a b c:Dt}(h0:0<=j)(h1:j < 4):∃y,gP [a,b,c,d] j=some y/\(y=a\/y=b\/y=c\/y=d):=by
 have:j=0\/j=1\/j=2\/j=3:=by omega
 rcases this with rfl | rfl | rfl | rfl
 ·exact ⟨a,Ρ (j:=0) rfl, .inl rfl⟩
 ·exact ⟨b,Ρ (j:=1) rfl, .inr (.inl rfl)⟩
 ·exact ⟨c,Ρ (j:=2) rfl, .inr (.inr (.inl rfl))⟩
 ·exact ⟨d,Ρ (j:=3) rfl, .inr (.inr (.inr rfl))⟩
theorem ff{xs:List Int}(h:∀x∈xs,Ent x)(h0:0<=j)(h1:j < xs.length):∃y,gP (xs.map Dt.int) j=some (.int y)/\Ent y:=by
 have hj:j.toNat < xs.length:=by omega
 refine ⟨xs[j.toNat], ?_,h _ (aa0 hj)⟩;have e:(xs.map Dt.int)[j.toNat]? =some (.int xs[j.toNat]):=by rw [aaF,aac hj];rfl
 have:=Ρ e;rwa [show ((j.toNat:Nat):Int)=j by omega] at this
theorem b4:iK 4:=bg (k:=4) (by decide)
def Iq:DF:=λas M q _=>∃t b:Int,as=[.int t, .int b]/\0 < b/\iK b/\q (aR (aD t b)) M
theorem mW:υ ["_law_top","_law_bottom","_law_common"] ["_law_top","_law_bottom"] (μ jY):= .of rfl
theorem tH(F:bV K "_law_lowest" "_law_lowest" jY f fd)(E:Ev K mg w Cm ν CT CN){Ib:Addr}{Ip:FuncData}(oE:aa P w K mg base 1 "_law_gcd" ["_law_one","_law_other"] tU Ib Ip):Τ P w K mg base (br P w) 2 f fd ["_law_top","_law_bottom"] (bK K Iq):=by
 refine F.cN mW (λds M q x h=> ?_) (λaQ A outer s H E' hr=>⟨_,(δ (π 2 mW.nd (Λ oE hr ξ (ae (jv 0) (ae (jv 1) ζ))))
   (η (τ (aW (ε (aX (jv 0) (jv 2)) (ε (aX (jv 1) (jv 2)) ζ aG) aG))))),λds M q x h=> ?_⟩)
 ·obtain ⟨t,b,rfl,_⟩:=h;rfl
 ·obtain ⟨t,b,rfl,h0,h1,h⟩:=h;have hg:0 < g t b:=wZ (by omega);have hle:g t b<=b:=Int.le_of_dvd h0 (Int.gcd_dvd_right ..);have hb:iK (g t b):=aa7 (show (g t b).natAbs<=b.natAbs by omega) h1;have e:aD t b=(t / g t b,b / g t b):=by rw [G8 h0,aby _ (aaR hg),aby _ (aaR hg)]
  rw [e] at h;exact ⟨⟨hg,hb⟩,⟨hg,hb⟩,gV,h⟩
def J1:DF:=λas M q _=>∃n o:Int,as=[.int n, .int o]/\Ent n/\Ent o/\∀p,aU p=true->0 < p.2->Int.gcd p.1 p.2=1->q (aR p) M
theorem ED:υ ["_law_number","_law_other"] ["_law_number","_law_other"] (μ tZ):= .of rfl
theorem BH(F:bV K "_law_pay" "_law_pay" tZ f fd)(E:Ev K mg w Cm ν CT CN)(aE:aa P w K mg base 2 "_law_lowest" ["_law_top","_law_bottom"] Iq eS eL):Τ P w K mg base (br P w) 3 f fd ["_law_number","_law_other"] (bK K J1):=by
 refine F.cN ED (λds M q x h=> ?_) (λaQ A outer s H E' hr=>⟨_,(δ (Θ (bC hr (aq (jv 0) θ) θ) (η (τ (aW (ε (rM (aq (aX (jv 0) θ) θ) θ) (ε θ ζ aA) aG)))) ψ)
   (δ (Θ (bC hr (aq (jv 0) θ) θ) (η (τ (Λ aE hr ξ (ε (rM (aq (aX (jv 0) θ) θ) θ) (ε (Χ θ (aq (jv 1) (ig θ θ))) ζ aG) aG)))) ψ)
   (δ (Θ (bC hr (aq (jv 0) θ) θ) (η (τ (Λ aE hr ξ (ε (rM (aq (fZ (jv 0) (ig (jv 1) θ)) (Χ (fZ θ (ig θ θ)) θ)) (ig θ θ)) (ε (Χ θ (aq (jv 1) (ig θ θ))) ζ aG) aG)))) ψ)
   (η (τ (Λ aE hr ξ (ε (rM (aq (aX (jv 0) θ) θ) θ) (ε (Χ θ (aq (aX (jv 0) θ) θ)) ζ aG) aG))))))),λds M q x h=> ?_⟩)
 ·obtain ⟨n,o,rfl,_⟩:=h;rfl
 ·obtain ⟨n,o,rfl,⟨n0,n1⟩,⟨o0,o1⟩,h⟩:=h;have p6:wU 10 6:=⟨by decide,by decide,by decide⟩;have VZ:wU 10 30:=⟨by decide,by decide,by decide⟩;have J6:0 < 1+o % 10 ^ (6:Int).toNat/\1+o % 10 ^ (6:Int).toNat<=1000000:=by show 0 < 1+o % 1000000/\1+o % 1000000<=1000000;omega
  have V9:iK (1+o % 10 ^ (6:Int).toNat):=FU (k:=20) (aaR J6.1) (Int.lt_of_le_of_lt J6.2 (by decide)) (by decide);refine ⟨by decide,λ_=> ?_,λ_=>⟨by decide,λ_=> ?_,λ_=>⟨by decide,λ_=> ?_,λ_=> ?_⟩⟩⟩
  ·exact ⟨⟨by decide,b4⟩,by decide,gV,h (n / 4 % 13 - 6,1) (Jo (by omega) (by omega) (by decide)) (by show (0:Int) < 1;decide) (by show Int.gcd _ 1=1;simp)⟩
  ·exact ⟨⟨by decide,b4⟩,by decide,p6,(by show (0:Int) < 1000000;decide),_,_,rfl,J6.1,V9,h _ (u9 (by omega) (by omega) J6.1 J6.2) (cc (by omega)) (fV (by omega))⟩
  ·have bn:iK n:=bg (k:=40) (by omega);have bo:iK (o ^ (3:Int).toNat):=by
    have h3:o ^ 3<=(715827855:Int) ^ 3:=by
     have e:∀z:Int,z ^ 3=z * z * z:=λz=>by rw [Int.pow_succ,Int.pow_succ,Int.pow_succ,Int.pow_zero,Int.one_mul]
     rw [e,e];exact Int.mul_le_mul (Int.mul_le_mul (by omega) (by omega) (by omega) (by decide)) (by omega) (by omega) (by decide)
    have h4:0<=o ^ 3:=Int.pow_nonneg o0;exact FU (k:=100) h4 (Int.lt_of_le_of_lt h3 (by decide)) (by decide)
   have Z8:iK ((10:Int) ^ (30:Int).toNat):=bg (k:=110) (by decide);have m0:(0:Int) < 2 * 10 ^ (30:Int).toNat+1:=by decide
   have Vn:=aaL (n * o ^ (3:Int).toNat) (show (2 * 10 ^ (30:Int).toNat+1:Int)≠0 by decide);have Ws:=aaH (n * o ^ (3:Int).toNat) m0;refine ⟨⟨by decide,by decide,by omega⟩,⟨bn,bo⟩,VZ,⟨bg (k:=4) (by decide),Z8⟩,m0,VZ,p6,(by show (0:Int) < 1000000;decide),_,_,rfl,J6.1,V9,h _ (u9 ?_ ?_ J6.1 J6.2) (cc (by omega)) (fV (by omega))⟩
   ·show -(10 ^ 30)<=n * o ^ (3:Int).toNat % (2 * 10 ^ (30:Int).toNat+1) - 10 ^ 30;omega
   ·have e:(10:Int) ^ (30:Int).toNat=10 ^ 30:=rfl;rw [e] at Ws;show n * o ^ (3:Int).toNat % (2 * 10 ^ 30+1) - 10 ^ 30<=10 ^ 30;omega
  ·exact ⟨⟨by decide,b4⟩,by decide,⟨by decide,bg (k:=5) (by decide)⟩,by decide,_,_,rfl,by omega,bg (k:=10) (by omega),h _ (u9 (by omega) (by omega) (by omega) (by omega)) (cc (by omega)) (fV (by omega))⟩
theorem eQ{α:Type}{te:DE}{cs:En}{M:Ms}{f:α->Dt}(G:α->Prop){k:List Dt->Ms->Prop}:∀(xs:List Dt) (Ο:List α),(∀a∈Ο,G a)->(∀x∈xs,∀q:DQ,(∀a,G a->q (f a) M)->te (some x::cs) M q gT)->
  (∀as:List α,as.length=Ο.length+xs.length->(∀a∈as,G a)->k (as.map f) M)->pd te cs xs (Ο.map f) M k
 | [],Ο,ha,_,h=>h Ο (by simp) ha
 | x::xs,Ο,ha,ht,h=>ht x aad _ λa hg=>by
  have e:Ο.map f++[f a]=(Ο++[a]).map f:=by simp
  rw [e];refine eQ G xs (Ο++[a]) (λb hb=> ?_) (λy hy=>ht y (List.mem_cons_of_mem _ hy)) λas hl Yv=>h as (by rw [hl];simp;omega) Yv;rcases aaK.mp hb with hb | hb
  ·exact ha b hb
  ·have:b=a:=by simpa using hb
   rw [this];exact hg
theorem b3:iK 3:=bg (k:=4) (by decide)
theorem et{lo:Int}{n:Nat}{x:Dt}(h:x∈eX lo n):∃k:Nat,k < n/\x= .int (lo+k):=by unfold eX at h;obtain ⟨k,hk,rfl⟩:=aal.mp h;exact ⟨k,List.mem_range.mp hk,rfl⟩
theorem bL{lo:Int}{n:Nat}:(eX lo n).length=n:=by unfold eX;simp
theorem nJ{n:Nat}:∀(xs:List Int),Dt.bD n (xs.map Dt.int)
 | []=>trivial
 | _::xs=>⟨trivial,nJ xs⟩
theorem Gn{m:Int}:∀{l:List Int},(∀w∈l,w<=m)->l.sum<=l.length * m
 | [],_=>by simp
 | a::l,h=>by have i:=Gn (l:=l) λw hw=>h w (aae _ hw);have:=h a aad;rw [List.sum_cons,aaz,Int.natCast_add,Int.add_mul];omega
def Ah:DF:=λas M q _=>∃cell:Int,as=[.int cell]/\∀p,bO p=true->Int.gcd p.1 p.2=1->q (aR p) M
theorem pq:υ ["_law_cell","_law_bottom"] ["_law_cell"] (μ lY):= .of rfl
theorem wz(F:bV K "_law_share" "_law_share" lY f fd)(E:Ev K mg w Cm ν CT CN)(aE:aa P w K mg base 2 "_law_lowest" ["_law_top","_law_bottom"] Iq eS eL):Τ P w K mg base (br P w) 3 f fd ["_law_cell"] (bK K Ah):=by
 refine F.cN pq (λds M q x h=> ?_) (λaQ A outer s H E' hr=>⟨_,(δ (Θ (bC hr (aq (jv 0) θ) θ) (η (τ (Α (gq 3 (d:= .lst [.tup [.int 0, .int 1], .tup [.int 1, .int 2], .tup [.int 999, .int 1000], .tup [.int 2, .int 3]]) (by rfl)) (aq (aX (jv 0) θ) θ)))) ψ)
   (δ (π 1 pq.nd (Χ θ (aq (aX (jv 0) θ) θ)))
   (η (τ (Λ aE hr ξ (ε (aq (aX (jv 0) θ) (jv 1)) (ae (jv 1) ζ) aG)))))),λds M q x h=> ?_⟩)
 ·obtain ⟨cell,rfl,_⟩:=h;rfl
 ·obtain ⟨cell,rfl,h⟩:=h;walk_at "vc";refine ⟨by decide,λ_=> ?_,λ_=> ?_⟩
  ·refine ⟨⟨by decide,b3⟩,by decide, ?_⟩;obtain ⟨d,ed,hd⟩:=xB (a:=aR (0,1)) (b:=aR (1,2)) (c:=aR (999,1000)) (d:=aR (2,3)) (j:=cell / 3 % 4) (by omega) (by omega);refine χ rfl ed ?_;rcases hd with rfl | rfl | rfl | rfl
   ·exact h (0,1) (by decide) (by decide)
   ·exact h (1,2) (by decide) (by decide)
   ·exact h (999,1000) (by decide) (by decide)
   ·exact h (2,3) (by decide) (by decide)
  ·have Fy:0 < 1+cell / 3 % 1000:=by omega
   have C0:1+cell / 3 % 1000<=1000:=by omega
   refine ⟨⟨by decide,b3⟩,by decide,⟨by decide,bg (k:=20) (by decide)⟩,Fy,_,_,rfl,Fy,bg (k:=10) (by omega),h _ ?_ (fV (by omega))⟩;generalize C6:1+cell / 3 % 1000=b at *
   have t0:=aaL (cell / 3000) (show b≠0 by omega);have t1:=aaH (cell / 3000) Fy;generalize cell / 3000 % b=t at *
   have l2:=ke (t:=t) (show b≠0 by omega);have q0:=cc (t:=t) (show b≠0 by omega);have hc:=gw (t:=t) (show b≠0 by omega);generalize aD t b=f at *
   obtain ⟨x,y⟩:=f;have l2:y.natAbs<=b.natAbs:=l2;have q0:0 < y:=q0;have hc:t * y=b * x:=hc;have x0:0<=x:=by
    rcases Int.lt_or_le x 0 with z | z
    ·have:=Int.mul_neg_of_pos_of_neg Fy z;have:=Int.mul_nonneg t0 (aaR q0);omega
    ·exact z
   have x1:x < y:=by
    rcases Int.lt_or_le x y with z | z
    ·exact z
    ·have h3:b * y<=b * x:=Int.mul_le_mul_of_nonneg_left z (aaR Fy);have h4:t * y < b * y:=Int.mul_lt_mul_of_pos_right t1 q0;omega
   unfold bO;show (decide (0<=x)&&(decide (x < y)&&decide (y<=1000)))=true;rw [aay x0,aay x1,aay (show y<=1000 by omega)];rfl
def cg(Η:Int)(r:Rw):Prop:=gJ r/\da r Η=true
theorem IB{k:Str}{ds:List nh}(hk:aK k=true)(hz:1<=ds.length)(Rx:ds.length<=6)(hd:∀d∈ds,aB d.1 d.2.1 Η=true)(hs:∀d∈ds,d.2.2=[]/\0 < d.2.1.2):cg Η (.Μ k ds):=by
 have fd:Δ ds Η=true:=by unfold Δ;rw [aay hz,aay Rx,abG.mpr hd];rfl
 have ne:k≠"end"/\k≠"chance":=by refine ⟨λz=> ?_,λz=> ?_⟩ <;> (subst z;exact aaG hk (by decide))
 refine ⟨⟨ne.1,by omega,λz=>aaG z ne.2,λd h=>⟨by rw [(hs d h).1];exact aa1 _,(hs d h).2⟩⟩, ?_⟩;show (if aK k then _ else _)=true;rw [aaD hk];exact fd
theorem BS{ds:List nh}(hz:1<=ds.length)(Rx:ds.length<=6)(hd:∀d∈ds,aB d.1 d.2.1 Η=true)(h1:∀d∈ds,d.2.2=[ak d])(hc:Ξ (ds.map ak)=true)(ho:NH (ds.map ak))(hp:∀d∈ds,0 < d.2.1.2):cg Η (.Μ "chance" ds):=by
 have fd:Δ ds Η=true:=by unfold Δ;rw [aay hz,aay Rx,abG.mpr hd];rfl
 refine ⟨⟨by decide,by omega,λ_=>⟨h1,ho⟩,λd h=>⟨by rw [h1 d h];exact aak _,hp d h⟩⟩, ?_⟩;have e:da (.Μ "chance" ds) Η=(Δ ds Η&&Ξ (ds.map ak)):=by dsimp only [da];rw [aaA (by decide),aaD rfl]
 rw [e,fd,hc];rfl
theorem IQ{t:Int}{p:Fr}(h0:0<=t)(h1:t < Η)(hp:aU p=true):aB t p Η=true:=by unfold aB;rw [aay h0,aay h1,hp];rfl
theorem ur{q:DQ}{ds:List Dt}(u:Dt.bD M.length ds)(h:q (.lst ds) M):yz M q (.loc M.length) (M++[.lst ds]):=cW (.qL (aak _) (by rw [Nat.sub_self];rfl) (dQ.old u)) h
theorem bc{α:Type}(f:α->Dt):∀(xs ys:List α),(∀x∈xs,x∈ys)->Paired (λx a=>x=f a/\a∈ys) (xs.map f) xs
 | [],_,_=> .nil
 | x::xs,ys,h=> .cons ⟨rfl,h x aad⟩ (bc f xs ys λy hy=>h y (aae _ hy))
theorem JP{d:nh}{q:DQ}(h:q (aR d.2.1) M):ck (cC d) (.int 1) M q:=χ (xs:= .int d.1::aR d.2.1::d.2.2.map aR) rfl (Ρ (j:=1) rfl) h
theorem Ju{d:nh}{q:DQ}(h:q (.int d.1) M):ck (cC d) (.int 0) M q:=χ (xs:= .int d.1::aR d.2.1::d.2.2.map aR) rfl aT h
theorem pU{k:Str}(h:aK k=true):k="one"\/k="other":=by unfold aK at h;rw [abx,abb,abb] at h;exact h
def xW(p:Fr):Fr:=(-p.1,p.2)
def jh(d:nh):nh:=(d.1,xW d.2.1,d.2.2)
def dz(k:Str):Str:=if k="one" then "other" else if k="other" then "one" else k
def aS:Rw->Rw
 | .fin p=> .fin (xW p)
 | .Μ k ds=> .Μ (dz k) (ds.map jh)
theorem gs:dz "chance"="chance":=by decide
theorem rm:dz "one"="other":=by decide
theorem m_:dz "other"="one":=by decide
theorem zi{k:Str}(h:aK k=true):aK (dz k)=true:=by
 rcases pU h with rfl | rfl
 ·rw [rm];decide
 ·rw [m_];decide
theorem sO{r:Rw}(h:cg Η r):cg Η (aS r):=by
 have VT:∀{p:Fr},aU p=true->aU (xW p)=true:=λ{p} h=>by unfold aU at h⊢;rw [aap,aaP,aaP] at h⊢;refine ⟨?_,h.2⟩;have h1:=h.1;show (if -p.1 < 0 then - -p.1 else -p.1)<=10 ^ 30;split at h1 <;> split <;> omega
 cases r with
 | fin p=>exact ⟨h.1,VT h.2⟩
 | Μ k ds=>
  obtain ⟨⟨h1,h2,h3,h4⟩,h5⟩:=h;have Pk:(ds.map jh).map ak=ds.map ak:=by rw [aao];rfl
  have h5:(if aK k then Δ ds Η else if k="chance" then Δ ds Η&&Ξ (ds.map ak) else false)=true:=h5;have fd:Δ ds Η=true->Δ (ds.map jh) Η=true:=λh=>by unfold Δ at h⊢;rw [aaa];rw [aap] at h⊢;refine ⟨h.1,abG.mpr λd hd=> ?_⟩;obtain ⟨d',HD,rfl⟩:=aal.mp hd;have:=abG.mp h.2 d' HD;unfold aB at this⊢;rw [aap,aap] at this⊢;exact ⟨this.1,this.2.1,VT this.2.2⟩
  have pos:∀d∈ds.map jh,d.2.2.length<=1/\0 < d.2.1.2:=λd hd=>by obtain ⟨d',HD,rfl⟩:=aal.mp hd;exact h4 d' HD
  by_cases hk:aK k=true
  ·rw [aaD hk] at h5;have uS:=zi hk;have ne:dz k≠"end"/\dz k≠"chance":=by refine ⟨λz=> ?_,λz=> ?_⟩ <;> (rw [z] at uS;exact aaG uS (by decide))
   refine ⟨⟨ne.1,by rw [aaa];exact h2,λz=>aaG z ne.2,pos⟩, ?_⟩;show (if aK (dz k) then _ else _)=true;rw [aaD uS];exact fd h5
  ·rw [aaA hk] at h5;by_cases hc:k="chance"
   ·subst hc;rw [aaD rfl,aap] at h5;refine ⟨⟨by rw [gs];exact h1,by rw [aaa];exact h2,λz=>⟨λd hd=> ?_,by rw [Pk];exact (h3 rfl).2⟩,pos⟩, ?_⟩
    ·obtain ⟨d',HD,rfl⟩:=aal.mp hd;exact (h3 rfl).1 d' HD
    ·show (if aK (dz "chance") then Δ (ds.map jh) Η else if dz "chance"="chance" then Δ (ds.map jh) Η&&Ξ ((ds.map jh).map ak) else false)=true;rw [gs,aaA (by decide),aaD rfl,Pk,aap];exact ⟨fd h5.1,h5.2⟩
   ·rw [aaA hc] at h5;cases h5
structure pG(ο:Fr)(rows:List Rw):Prop where
 sh:bO ο=true
 n1:1<=rows.length
 C1:rows.length<=12
 row:∀r∈rows,cg rows.length r
theorem pG.turn{ο:Fr}{rows:List Rw}(h:pG ο rows):pG ο (rows.map aS):=
 ⟨h.sh,by rw [aaa];exact h.n1,by rw [aaa];exact h.C1,λr hr=>by
  obtain ⟨r',aJ,rfl⟩:=aal.mp hr;rw [aaa]
  exact sO (h.row r' aJ)⟩
theorem B4{k:Str}{ds:List nh}(h:da (.Μ k ds) Η=true):([("one","other"),("other","one"),("chance","chance")]:List (Str×Str)).lookup k=some (dz k):=by
 have h5:(if aK k then Δ ds Η else if k="chance" then Δ ds Η&&Ξ (ds.map ak) else false)=true:=h;by_cases hk:aK k=true
 ·rcases pU hk with rfl | rfl <;> decide
 ·rw [aaA hk] at h5;by_cases hc:k="chance"
  ·subst hc;decide
  ·rw [aaA hc] at h5;cases h5
theorem Cg{k:Str}{ds:List nh}(h:da (.Μ k ds) Η=true):cF [Sum.inr "one",Sum.inr "other",Sum.inr "chance"] [.str "other", .str "one", .str "chance"] (Sum.inr k)=some (.str (dz k)):=by
 have h5:(if aK k then Δ ds Η else if k="chance" then Δ ds Η&&Ξ (ds.map ak) else false)=true:=h;by_cases hk:aK k=true
 ·rcases pU hk with rfl | rfl <;> rfl
 ·rw [aaA hk] at h5;by_cases hc:k="chance"
  ·subst hc;rfl
  ·rw [aaA hc] at h5;cases h5
theorem mw{E:Ms}{n:Nat}:∀(rows:List Rw) (j:Nat),(∀i m,(jf rows)[i]? =some m->E[j+i]? =some m)->dQ n E (kJ (n+j) rows) (rows.map Υ)
 | [],_,_=> .nil
 | .fin p::r,j,h=> .cons (.old (AH (.fin p))) (mw r j h)
 | .Μ k ds::r,j,h=> .cons (.tup (.cons (.old trivial) (.cons (.qL (abj _ _) (by rw [Nat.add_sub_cancel_left];exact h 0 _ rfl) (dQ.old (nZ ds))) .nil))) (mw r (j+1) λi m e=>by rw [show j+1+i=j+(i+1) by omega];exact h (i+1) m e)
theorem xc(rows:List Rw)(M:Ms)(x:MO):dQ M.length (jf rows++[x]) (kJ M.length rows) (rows.map Υ):=
 mw rows 0 λi m e=>by rw [Nat.zero_add,aau (aag.mp e).1];exact e
theorem uT(M:Ms):∀rs:List Rw,Paired (g7 M) (rs.map Υ) rs
 | []=> .nil
 | r::rs=> .cons (Ac _ r) (uT M rs)
def GY:DF:=λas M q _=>∃p,as=[aR p]/\q (aR (xW p)) M
theorem nA:υ ["pay"] ["pay"] (μ eV):= .of rfl
theorem mH(F:bV K "with_other_sign" "with_other_sign" eV f fd)(E:Ev K mg w Cm ν CT CN):Τ P w K mg base (br P w) 1 f fd ["pay"] (bK K GY):=by
 refine F.cN nA (λds M q x h=> ?_) (λaQ A outer s H E' hr=>⟨_,(η (τ (aW (ε (Dj (Α (jv 0) θ)) (ε (Α (jv 0) θ) ζ Κ) J_)))),λds M q x h=> ?_⟩)
 ·obtain ⟨p,rfl,_⟩:=h;rfl
 ·obtain ⟨p,rfl,h⟩:=h;exact ⟨gV,h⟩
theorem zk:υ ["_law_one"] ["_law_one"] (μ mB):= .of rfl
theorem vL(F:bV K "_law_minus" "_law_minus" mB f fd)(E:Ev K mg w Cm ν CT CN):Τ P w K mg base (br P w) 1 f fd ["_law_one"] (bK K GY):=by
 refine F.cN zk (λds M q x h=> ?_) (λaQ A outer s H E' hr=>⟨_,(η (τ (aW (ε (rM θ (Α (jv 0) θ)) (ε (Α (jv 0) θ) ζ Κ) aG)))),λds M q x h=> ?_⟩)
 ·obtain ⟨p,rfl,_⟩:=h;rfl
 ·obtain ⟨p,rfl,h⟩:=h;refine ⟨gV, ?_⟩;have e:aR (xW p)= .tup [.int (0 - p.1), .int p.2]:=by unfold aR xW;rw [Int.zero_sub]
  rw [e] at h;exact h
theorem vO{te:DE}{cs:En}{ds:List nh}{ok:Ms->Prop}{k:List Dt->Ms->Prop}(ho:ok M)(ht:∀d∈ds,∀q:DQ,q (cC (jh d)) M->te (some (cC d)::cs) M q gT)(h:k ((ds.map jh).map cC) M):cD te cs ok (ds.map cC) [] M k:=by
 refine aw (F:=λx a=>x=cC a/\a∈ds) (f:=λd=>cC (jh d)) ho (λx a ha q' hq=> ?_) (bc cC ds ds λ_ h=>h) ?_
 ·obtain ⟨rfl,ha⟩:=ha;exact ht a ha q' hq
 ·rw [aat];rw [aao] at h;exact h
def pj:DF:=λas M q _=>∃r Η,as=[Υ r]/\cg Η r/\q (Υ (aS r)) M
theorem hZ:υ ["row","doors"] ["row"] (μ jN):= .of rfl
theorem uf(F:bV K "turned_row" "turned_row" jN f fd)(E:Ev K mg w Cm ν CT CN){pW:Addr}{pN:FuncData}(cj:aa P w K mg base 1 "with_other_sign" ["pay"] GY pW pN):Τ P w K mg base (br P w) 2 f fd ["row"] (bK K pj):=by
 refine F.cN hZ (λds M q x h=> ?_) (λaQ A outer s H E' hr=>⟨_,(δ (Θ (bC hr (Α (jv 0) θ) Ψ) (η (τ (aW (ε Ψ (ε (Λ cj hr ξ (ε (Α (jv 0) θ) ζ Κ)) ζ bb) aA)))) ψ)
   (δ (e9 (i:=1) hZ.nd rfl (Or.inl rfl) (ys:=[]) (Ε:=[]) (.of hZ rfl rfl rfl) (aL (Α (jv 0) θ)) (λC s H fp=>(Χ (aW (ε (Α (jv 0) θ) (ε (Λ cj hr (aM (P:=P) (w:=w)) (ε (Α (jv 0) θ) ζ Κ)) ζ bb) Κ)) (fP (jv 0) θ))))
   (η (τ (aW (ε (Pd E.i5 (Α (jv 0) θ)) (ae (jv 1) ζ) Κ)))))),λds M q x h=> ?_⟩)
 ·obtain ⟨r,Η,rfl,_⟩:=h;rfl
 ·obtain ⟨r,Η,rfl,ro,h⟩:=h;cases r with
  | fin p=>exact ⟨λ_=>⟨p,rfl,gV,h⟩,λz=>(nomatch z)⟩
  | Μ k ds=>
   refine ⟨λz=>aaG (aaN z) ro.1.1,λ_=> ?_⟩;walk_at "vc";refine wF (i:=0) (j:=1) (ds:=[.str k, .lst (ds.map cC)]) rfl (Ρ (j:=1) rfl) rfl ⟨by rw [aaa];exact aaq ro.1.2.1 (by decide), ?_⟩;refine vO trivial (λd hd q' hq=> ?_) ?_
   ·walk_at "vc";refine (Ju ?_:ck (cC d) (.int 0) _ _);refine (JP ?_:ck (cC d) (.int 1) _ _);refine ⟨d.2.1,rfl,gV, .int d.1::aR d.2.1::d.2.2.map aR,2,rfl,rfl,by decide,by simp,⟨by simp, ?_⟩,hq⟩;show 2+(d.2.2.map aR).length<=sizeLine;rw [aaa];exact aaq (Nat.add_le_add_left (ro.1.2.2.2 d hd).1 2) (by decide)
   ·exact ⟨k,_,rfl,B4 ro.2,gV,h⟩
def AA(C:Addr):DF:=λas M q _=>∃ο rows,as=[cG C ο rows]/\pG ο rows/\q (cG C ο (rows.map aS)) M
theorem xg:υ ["floor"] ["floor"] (μ tS):= .of rfl
theorem Be(F:bV K "turned" "turned" tS f fd)(E:Ev K mg w Cm ν CT CN){jS:Addr}{jo:FuncData}(cx:x_ P w K mg base 5 "Floor" Cm ["self","share","rows"] (D3 Cm) jS jo){jR:Addr}{ju:FuncData}(cB:qS P w K mg base 2 Cm "rows" ["self"] (Ec Cm) jR ju){yN:Addr}{x6:FuncData}(ij:aa P w K mg base 2 "turned_row" ["row"] pj yN x6){ir:Addr}{ip:FuncData}(bQ:qS P w K mg base 1 Cm "share" ["self"] (zq Cm) ir ip):Τ P w K mg base (br P w) 7 f fd ["floor"] (bK K (AA Cm)):=by
 refine F.cN xg (λds M q x h=> ?_) (λaQ A outer s H E' hr=>⟨_,(η (τ (dF (Er cx hr ξ (ε (oh bQ hr ξ (jv 0)) (ε (bH (ys:=[]) (Ε:=[]) (.of xg rfl rfl rfl) (aL (dF (oh cB hr ξ (jv 0)))) (λC s H fp=>(Λ ij hr (aM (P:=P) (w:=w)) (ae (jv 0) ζ)))) ζ) bb))))),λds M q x h=> ?_⟩)
 ·obtain ⟨ο,rows,rfl,_⟩:=h;rfl
 ·obtain ⟨ο,rows,rfl,ro,h⟩:=h;have rt:=ro.turn;refine ⟨⟨_,_, .inl rfl,rfl⟩,ο,rows,rfl, ?_⟩;refine ⟨⟨_,_, .inl rfl,rfl⟩,ο,rows,rfl,ro.C1,λr hr=>(ro.row r hr).1, ?_⟩;rw [aa4];refine cW (d':= .lst (rows.map Υ)) (.qL (Nat.le_add_right _ _) (by simp) (xc rows M _)) ?_;refine ⟨by rw [aaa];exact aaq ro.C1 (by decide), ?_⟩;refine aw (F:=λx a=>x=Υ a/\a∈rows) (f:=λr=>Υ (aS r)) trivial (λx a ha q' gU=> ?_) (bc Υ rows rows λ_ h=>h) ?_
  ·obtain ⟨rfl,ha⟩:=ha;exact ⟨a,_,rfl,ro.row a ha,gU⟩
  rw [aat,show rows.map (λr=>Υ (aS r))=(rows.map aS).map Υ by rw [aao];rfl];refine ⟨M.length, .lst ((rows.map aS).map Υ),ο,(rows.map aS).map Υ,rows.map aS,λ_=>True,rfl,by simp,rfl,uT _ _,ro.sh,rt.n1,rt.C1,λr hr=>rt.row r hr,rfl, ?_⟩;rw [show (M++[MO.ins Cm [] []]).set M.length (.ins Cm ["kept_share","kept_rows"] [aR ο, .lst ((rows.map aS).map Υ)])=M++[.ins Cm ["kept_share","kept_rows"] [aR ο, .lst ((rows.map aS).map Υ)]] by simp [List.set_append]];exact cW (d':=cG Cm ο (rows.map aS)) (.OM (Nat.le_refl _) (by simp) (.cons (.old (jI ο)) (.cons (.old (iy (rows.map aS))) .nil))) h
def r8:DF:=λds M q _=>match ds with
 | [.tup [.int p, .int b]]=>(p.natAbs < 10 ^ 60/\0 < b/\b.natAbs < 10 ^ 60)/\q (.str (mk (wr p b))) M
 | _=>False
theorem Vf{p:Int}(h:b=1):Str.ofString (toString p)=mk (wr p b):=by rw [gI];unfold wr;rw [aaD h,aaQ]
theorem Kl(h:0 < b):sg b=[]:=aaA (by omega)
theorem rP:(Str.ofString "/")=mk [47]:=by decide+kernel
theorem emp:Str.empty=mk []:=rfl
theorem Ug{p:Int}(hb:0 < b)(h:b≠1):mk (sg p++dig p.natAbs)++mk [47]++mk (sg b++dig b.natAbs)=mk (wr p b):=by rw [ω,ω,Kl hb];unfold wr;rw [aaA h,aat,aa4];rfl
theorem nQ{p:Int}(h:p.natAbs < 10 ^ 60):(sg p++dig p.natAbs).length<=61:=by have:=kQ 59 _ h;unfold sg;split <;> simp <;> omega
theorem eC:υ ["one","top","bottom"] ["one"] (μ fq):= .of rfl
theorem nD(F:bV K "show_fraction" "show_fraction" fq f fd)(E:Ev K mg w Cm ν CT CN):Τ P w K mg base (br P w) 1 f fd ["one"] (bK K r8):=by
 refine F.cN eC (λds M q x h=> ?_) (λaQ A outer s H E' hr=>⟨_,(δ (π 1 eC.nd (Α (jv 0) θ))
   (δ (π 2 eC.nd (Α (jv 0) θ))
   (δ (Θ (bC hr (jv 2) θ) (η (τ (zT E.mT (ae (jv 1) ζ)))) ψ)
   (η (τ (yj (.cons (rS (jv 1)) (.cons Ψ (.cons (rS (jv 2)) .nil))))))))),λds M q x h=> ?_⟩)
 ·unfold r8 at h;split at h; · rfl
  ·exact h.elim
 ·unfold r8 at h;split at h
  ·rename_i p b;obtain ⟨⟨h1,h2,h3⟩,h⟩:=h;refine ⟨λhb=> ?_,λhb=> ?_⟩
   ·have C0:b=1:=by simpa using hb
    rw [<-Vf C0] at h;exact ⟨dX h1,h⟩
   ·have C0:b≠1:=by simpa using hb
    have l1:=nQ h1;have l2:=nQ h3;have e1:Str.empty++Str.ofString (toString p)=mk (sg p++dig p.natAbs):=by rw [gI,emp,ω];rfl
    have big:(200:Nat)<=sizeLine:=by decide
    refine ⟨dX h1, ?_, ?_,dX h3, ?_, ?_⟩
    ·show (Str.empty++Str.ofString (toString p)).length<=sizeLine;rw [e1,ι];omega
    ·show (Str.empty++Str.ofString (toString p)++Str.ofString "/").length<=sizeLine;rw [e1,rP,ω,ι,aab];simp only [List.length_cons,List.length_nil];omega
    ·show (Str.empty++Str.ofString (toString p)++Str.ofString "/"++Str.ofString (toString b)).length<=sizeLine;rw [e1,rP,gI,Ug h2 C0,ι];have:=ES h1 h3;omega
    ·show q (.str (Str.empty++Str.ofString (toString p)++Str.ofString "/"++Str.ofString (toString b))) M;rw [e1,rP,gI,Ug h2 C0];exact h
  ·exact h.elim
def wx(CT:Addr):DF:=λds M q x=>match ds with
 | [.str z]=>z.length<=1000/\(match iV z.cps.toList with
  | some n=>q (.int n) M
  | none=>x CT [] M)
 | _=>False
theorem tJ:(1002:Nat)<=sizeLine:=by decide
theorem Ui:(Str.ofString "0123456789").cps.toList=[48,49,50,51,52,53,54,55,56,57]:=by decide+kernel
theorem ug:(Str.ofString "0")=mk [48]:=by decide+kernel
theorem Je(c:Nat):c∈(Str.ofString "0123456789").cps.toList↔48<=c/\c<=57:=by rw [Ui];simp only [List.mem_cons,List.not_mem_nil,or_false];omega
def zD(d:Dt):Dt:=match d with
 | .str y=> .bl (!(!(Builtin.Str.occurrences (Str.ofString "0123456789") y 0 (Str.ofString "0123456789").length 1).isEmpty))
 | _=> .bw
theorem zv(c:Nat):zD (.str ⟨#[c]⟩)= .bl (!decide (48<=c/\c<=57)):=by show Dt.bl (!(!(Builtin.Str.occurrences (Str.ofString "0123456789") ⟨#[c]⟩ 0 (Str.ofString "0123456789").length 1).isEmpty))=_;rw [Dy,decide_eq_decide.mpr (Je c)]
theorem yK(z:Str):(fk z).map zD=(z.cps.toList.map λc=> !decide (48<=c/\c<=57)).map Dt.bl:=by unfold fk;rw [aao,aao];exact aa9 λc _=>zv c
theorem i7:υ ["text"] ["text"] (μ gx):= .of rfl
theorem qx   (F:bV K "read_figures" "read_figures" gx f fd) (E:Ev K mg w Cm ν CT CN):Τ P w K mg base (br P w) 1 f fd ["text"] (bK K (wx CT)):=by
 refine F.cN i7 (λds M q x h=> ?_) (λaQ A outer s H E' hr=>⟨_,(δ (Θ (JW.jt (i6 (kK (cP E.cf (ae (jv 0) ζ)) θ) (fw (wN (cP E.cf (ae (jv 0) ζ)) (jH E.i'))))) (η (bB bT aax E.bP E.bR (ε Ψ ζ aA))) ψ)
   (δ (Θ (bW (Ki E.vZ (ε (mD (ys:=[]) (Ε:=[]) (.of i7 rfl rfl rfl) (EG (jv 0)) (λC s H fp=>(Ie (jv 0) (Fw E.xt)))) ζ))) (η (bB bT aax E.bP E.bR (ε Ψ ζ aA))) ψ)
   (δ (Θ (JW.jt (Fj (bC hr (Α (jv 0) θ) Ψ) (AV (m7 hr (jv 0) Ψ)))) (η (bB bT aax E.bP E.bR (ε Ψ ζ aA))) ψ)
   (η (τ (Pt E.zV (ae (jv 0) ζ))))))),λds M q x h=> ?_⟩)
 ·unfold wx at h;split at h; · rfl
  ·exact h.elim
 ·unfold wx at h;split at h
  ·rename_i z;obtain ⟨hz,h⟩:=h;have big:=tJ;have KD:z.length<=sizeLine:=by omega
   have hlen:z.cps.toList.length=z.length:=aaX;have bad:¬M8 z.cps.toList->x CT [] M:=λhn=>by have e:iV z.cps.toList=none:=aaA hn;rw [e] at h;exact h
   refine ⟨KD,λh1=>⟨λ_=>⟨by decide,bad λhk=> ?_⟩,λz=>(nomatch z)⟩,λh1=>⟨KD,λh2=>⟨by decide,bad λhk=> ?_⟩,λh2=> ?_⟩⟩
   ·have:(z.length:Int) < 1:=by simpa using h1
    exact hk.1 (abt (by omega))
   ·have:(60:Int) < z.length:=by simpa using h2
    have:=hk.2.1;omega
   ·have l1:¬(z.length:Int) < 1:=by simpa using h1
    have l2:¬(60:Int) < z.length:=by simpa using h2
    refine ⟨by unfold fk;rw [List.length_map];omega,fU (f:=zD) _ [] (λd hd q hq=> ?_) ?_⟩
    ·obtain ⟨c,_,rfl⟩:=aal.mp hd;exact hq
    ·rw [aat,yK];refine ⟨_,rfl,(λk e=>nomatch e),(λk e=>nomatch e),λh3=>⟨by decide,bad λhk=> ?_⟩,λh3=> ?_⟩
     ·obtain ⟨b,hb,hbt⟩:=List.any_eq_true.mp h3;obtain ⟨c,hc,rfl⟩:=aal.mp hb;have h4:c < 48\/57 < c:=by simpa using hbt
      have h5:=hk.2.2.1 c hc;omega
     ·have hd:NumText.AllDigits z.cps.toList:=λc hc=>by have h4:=List.any_eq_false.mp h3 _ (aal.mpr ⟨c,hc,rfl⟩);simpa using h4
      obtain ⟨c0,r,PX⟩:∃c0 r,z.cps.toList=c0::r:=by
       cases hq:z.cps.toList with
       | nil=>rw [hq] at hlen;simp at hlen;omega
       | cons c0 r=>exact ⟨c0,r,rfl⟩
      have fin:(c0=48->z.cps.toList=[48])->q (.int (NumText.digitsVal z.cps.toList:Nat)) M:=λhh=>by have hk:M8 z.cps.toList:=⟨by rw [PX];simp,by omega,hd,λe=>hh (by rw [PX] at e;exact Option.some.inj e)⟩;have e:iV z.cps.toList=some (NumText.digitsVal z.cps.toList):=aaD hk;rw [e] at h;exact h
      have ag:(c0=48->z.cps.toList=[48])->FH [.str z] M q:=λhh=>Fx (by omega) (intText_digits hd (by rw [PX];simp) (by omega)) (fin hh);refine ⟨KD, ?_⟩;have UT:gP z.cps.toList 0=some c0:=by rw [PX];exact aT
      rw [UT];refine ⟨λh4=>⟨λh5=>⟨by decide,bad λhk=> ?_⟩,λh5=>ag λ_=> ?_⟩,λh4=>⟨λz=>(nomatch z),λ_=>ag λe=> ?_⟩⟩
      ·have e4:(⟨#[c0]⟩:Str)=mk [48]:=by rw [<-ug];simpa using h4
       have e5:z≠mk [48]:=by rw [<-ug];simpa using h5
       have:c0=48:=by have:=aa5 (λy:Str=>y.cps.toList) e4;simpa [mk] using this
       exact e5 (fS (hk.2.2.2 (by rw [PX,this];rfl)))
      ·have e5:z=mk [48]:=by rw [<-ug];simpa using h5
       rw [e5];rfl
      ·have e4:(⟨#[c0]⟩:Str)≠mk [48]:=by rw [<-ug];simpa using h4
       exact aaG (by rw [e];rfl) e4
  ·exact h.elim
theorem Es{z:Str}{r:List Nat}(h:z.cps.toList=c::r):Txt.slice z (some 1) none=mk r:=by have e:Txt.slice z (some 1) none=StrLaws.sliceText z (some 1) none:=rfl;rw [e,StrLaws.sliceText_from (by rw [h];simp;omega),h];refine fS ?_;simp
theorem Hj:(Str.ofString "-")=mk [45]:=by decide+kernel
theorem k8(z:Str):Txt.startswith z (Str.ofString "-")=decide (z.cps.toList.head?=some 45):=by
 rw [Hj];unfold Txt.startswith;rw [StrLaws.subAt_eq];have hl:z.cps.toList.length=z.length:=aaX;have h1:(mk [45]).length=1:=rfl;rw [h1,cq];cases h:z.cps.toList with
 | nil=>rw [h] at hl;simp at hl;simp [<-hl]
 | cons c r=>
  rw [h] at hl;simp at hl;have:(0+1<=z.length):=by omega
  simp [this];rw [abp];simp
def HR(CT:Addr):DF:=λds M q x=>match ds with
 | [.str z]=>z.length<=1000/\(match o7 z.cps.toList with
  | some n=>q (.int n) M
  | none=>x CT [] M)
 | _=>False
theorem rQ:υ ["text","size"] ["text"] (μ qh):= .of rfl
theorem y9(F:bV K "read_top" "read_top" qh f fd)(E:Ev K mg w Cm ν CT CN){gm:Addr}{gB:FuncData}(bp:aa P w K mg base 1 "read_figures" ["text"] (wx CT) gm gB):Τ P w K mg base (br P w) 2 f fd ["text"] (bK K (HR CT)):=by
 refine F.cN rQ (λds M q x h=> ?_) (λaQ A outer s H E' hr=>⟨_,(δ (Θ (cT (bW (o8 (jv 0) (ε Ψ ζ aA)))) (η (τ (Λ bp hr ξ (ae (jv 0) ζ)))) ψ)
   (δ (π 1 rQ.nd (Λ bp hr ξ (ε (wJ (jv 0) θ) ζ Κ)))
   (δ (Θ (bC hr (jv 1) θ) (η (bB bT aax E.bP E.bR (ε Ψ ζ aA))) ψ)
   (η (τ (Dj (jv 1))))))),λds M q x h=> ?_⟩)
 ·unfold HR at h;split at h; · rfl
  ·exact h.elim
 ·unfold HR at h;split at h
  ·rename_i z;obtain ⟨hz,h⟩:=h;have big:=tJ;have KD:z.length<=sizeLine:=by omega
   refine ⟨⟨z,rfl⟩,λh1=>⟨hz, ?_⟩,λh1=> ?_⟩
   ·have h2:¬z.cps.toList.head?=some 45:=by rw [k8] at h1;simpa using h1
    have e:o7 z.cps.toList=(iV z.cps.toList).map λn:Nat=>(n:Int):=by
     unfold o7;split
     ·rename_i r er;rw [er] at h2;exact aaG rfl h2
     ·cases iV z.cps.toList <;> rfl
    rw [e] at h;cases hf:iV z.cps.toList with
    | none=>rw [hf] at h;exact h
    | some n=>rw [hf] at h;exact h
   ·have h2:z.cps.toList.head?=some 45:=by rw [k8] at h1;simpa using h1
    obtain ⟨r,aJ⟩:∃r,z.cps.toList=45::r:=by
     cases hq:z.cps.toList with
     | nil=>rw [hq] at h2;cases h2
     | cons c r=>rw [hq] at h2;exact ⟨r,by rw [show c=45 from aaw h2]⟩
    have hl:z.cps.toList.length=z.length:=aaX;rw [aJ] at hl h;refine ⟨KD, ?_, ?_⟩
    ·rw [Es aJ,ι];simp at hl;omega
    rw [Es aJ,cq];have e:o7 (45::r)=(match iV r with | some n=>if n=0 then none else some (-(n:Int)) | none=>none):=rfl;rw [e] at h;cases hf:iV r with
    | none=>rw [hf] at h;exact h
    | some n=>
     rw [hf] at h;refine ⟨λh3=>⟨by decide, ?_⟩,λh3=> ?_⟩
     ·have h4:n=0:=by
       have:(n:Int)=0:=by simpa using h3
       omega
      simp only [h4] at h;exact h
     ·have h4:n≠0:=by
       have:¬(n:Int)=0:=by simpa using h3
       omega
      simp only [if_neg h4] at h;exact h
  ·exact h.elim
theorem DH:∀(cs:List Nat) (Ο k:Nat),NumText.AllDigits cs->Ο < 10 ^ k->cs.foldl (λΟ c=>Ο * 10+(c - 48)) Ο < 10 ^ (k+cs.length)
 | [],Ο,k,_,h=>by simpa using h
 | c::cs,Ο,k,hd,h=>by have hc:=hd.head;have:=DH cs (Ο * 10+(c - 48)) (k+1) hd.tail (by rw [Nat.pow_succ];omega);rw [abJ,aaz];rw [show k+(cs.length+1)=k+1+cs.length by omega];exact this
theorem Ir{cs:List Nat}{n:Nat}(h:iV cs=some n):n < 10 ^ 60:=by
 unfold iV at h;split at h
 ·rename_i hk;cases h;have:=DH cs 0 0 hk.2.2.1 (by decide);refine aam this (Nat.pow_le_pow_right (by decide) ?_);have:=hk.2.1;omega
 ·cases h
theorem LN:(Str.ofString "/")=⟨#[47]⟩:=by decide+kernel
theorem NQ{i:Int}(h:i.natAbs < 10 ^ 60):iK i:=Nat.lt_trans h (aam (show 10 ^ 60 < 2 ^ 200 by decide+kernel) (Nat.pow_le_pow_right (by decide) (by decide)))
def qj(CT:Addr):DF:=λds M q x=>match ds with
 | [.str z]=>z.length<=1000/\(match rd z with
  | some (t,b)=>q (.tup [.int t, .int b]) M
  | none=>x CT [] M)
 | _=>False
theorem bM:υ ["text","pieces","top","bottom","told"] ["text"] (μ fC):= .of rfl
theorem nz(F:bV K "read_fraction" "read_fraction" fC f fd)(E:Ev K mg w Cm ν CT CN){FC:Addr}{Gv:FuncData}(lX:aa P w K mg base 2 "read_top" ["text"] (HR CT) FC Gv){Br:Addr}{Cn:FuncData}(gr:aa P w K mg base 2 "fraction" ["top","bottom"] As Br Cn){gm:Addr}{gB:FuncData}(bp:aa P w K mg base 1 "read_figures" ["text"] (wx CT) gm gB):Τ P w K mg base (br P w) 3 f fd ["text"] (bK K (qj CT)):=by
 refine F.cN bM (λds M q x h=> ?_) (λaQ A outer s H E' hr=>⟨_,(δ (π 1 bM.nd (cR (jv 0) (ε Ψ ζ aA)))
   (δ (Θ (wN (cP E.cf (ae (jv 1) ζ)) θ) (η (bB bT aax E.bP E.bR (ε Ψ ζ aA))) ψ)
   (δ (π 2 bM.nd (Λ lX hr ξ (ε (Α (jv 1) θ) ζ Κ)))
   (δ (Θ (bC hr (cP E.cf (ae (jv 1) ζ)) θ) (η (τ (Λ gr hr ξ (ae (jv 2) (ε θ ζ aA))))) ψ)
   (δ (π 3 bM.nd (Λ bp hr ξ (ε (Α (jv 1) θ) ζ Κ)))
   (δ (Θ (kK (jv 3) θ) (η (bB bT aax E.bP E.bR (ε Ψ ζ aA))) ψ)
   (δ (π 4 bM.nd (Λ gr hr ξ (ae (jv 2) (ae (jv 3) ζ))))
   (δ (Θ (m7 hr (Α (jv 4) θ) (jv 3)) (η (bB bT aax E.bP E.bR (ε Ψ ζ aA))) ψ)
   (η (τ (jv 4))))))))))),λds M q x h=> ?_⟩)
 ·unfold qj at h;split at h; · rfl
  ·exact h.elim
 ·unfold qj at h;split at h
  ·rename_i z;obtain ⟨hz,h⟩:=h;have big:=tJ;refine ⟨⟨z,rfl⟩,⟨by decide,by omega⟩, ?_⟩;have hp:∀a∈Txt.split z (Str.ofString "/"),a.length<=1000:=λa ha=>aaq (PyProof.Rows.part_short ha) hz;have EW:=xl z (Str.ofString "/");unfold rd at h;rw [<-LN] at h;generalize Txt.split z (Str.ofString "/")=ps at h hp EW⊢
   match ps,h,hp,EW with
   | [],_,_,EW=>exact aaG rfl EW
   | [a],h,hp,_=>
    refine ⟨λh1=>absurd h1 (by simp),λ_=>⟨hp a (by simp), ?_⟩⟩;cases ht:o7 a.cps.toList with
    | none=>simp only [ht] at h;exact h
    | some t=>
     simp only [ht] at h;refine ⟨λ_=>⟨by unfold iK;decide,(λz=>absurd z (by decide)),λ_=>h⟩,λh1=>absurd h1 (by simp)⟩
   | [a,b],h,hp,_=>
    refine ⟨λh1=>absurd h1 (by simp),λ_=>⟨hp a (by simp), ?_⟩⟩;cases ht:o7 a.cps.toList with
    | none=>simp only [ht] at h;exact h
    | some t=>
     simp only [ht] at h;refine ⟨λh1=>absurd h1 (by simp),λ_=>⟨hp b (by simp), ?_⟩⟩;cases hf:iV b.cps.toList with
     | none=>simp only [hf] at h;exact h
     | some n=>
      simp only [hf] at h;have hn:=Ir hf;refine ⟨λh2=>⟨by decide, ?_⟩,λh2=>⟨NQ (by omega),λe=> ?_,λ_=>⟨λh3=>⟨by decide, ?_⟩,λh3=> ?_⟩⟩⟩
      ·have:(n:Int) < 2:=by simpa using h2
       rw [aaD (by omega)] at h;exact h
      ·have:¬(n:Int) < 2:=by simpa using h2
       omega
      ·have h4:¬(n:Int) < 2:=by simpa using h2
       have h5:¬(aD t n).2=n:=by simpa using h3
       rw [aaA (by omega),aaA h5] at h;exact h
      ·have h4:¬(n:Int) < 2:=by simpa using h2
       have h5:(aD t n).2=n:=by simpa using h3
       rw [aaA (by omega),aaD h5] at h;exact h
   | a::b::c::r,h,_,_=>
    refine ⟨λ_=>⟨by decide,h⟩,λh1=>aaG h1 ?_⟩;simp;omega
  ·exact h.elim
def fr(p:Fr):List Nat:=wr p.1 p.2
def sD(n:List Nat):Dt:= .str (mk n)
def gH(n:List Nat):Prop:=1<=n.length/\n.length<=8/\∀c∈n,97<=c/\c<=122
def dH(ns:List (List Nat)):Prop:=ns.length<=12/\∀n∈ns,gH n
def df(ns:List (List Nat))(i:Int):List Nat:=ns.getD i.toNat []
def aj(d:nh):List Fr:=d.2.1::d.2.2
def b8(ns:List (List Nat))(d:nh):List Nat:=jn [32] (df ns d.1::(aj d).map fr)
def qJ(ns:List (List Nat))(d:nh):Prop:=(0<=d.1/\d.1 < ns.length)/\(∀p∈aj d,Lw p)/\d.2.2.length<=1
def cu:Rw->List Nat
 | .fin _=>[101,110,100]
 | .Μ k _=>k.cps.toList
def gS(ns:List (List Nat)):Rw->List Nat
 | .fin p=>fr p
 | .Μ _ ds=>jn [44,32] (ds.map (b8 ns))
def ze(ns:List (List Nat)):Rw->Prop
 | .fin p=>Lw p
 | .Μ k ds=>(k="one"\/k="other"\/k="chance")/\1<=ds.length/\ds.length<=6/\∀d∈ds,qJ ns d
def aN(ns:List (List Nat))(n:List Nat)(r:Rw):List Nat:=n++(32::(cu r++(32::gS ns r)))
def jy:List Nat:=[115,104,97,114,101,32]
def aF(ο:Fr)(ns:List (List Nat))(rows:List Rw):List (List Nat):=(jy++fr ο)::(ns.zip rows).map λp=>aN ns p.1 p.2
def lB(ο:Fr)(ns:List (List Nat))(rows:List Rw):List Nat:=jn [59,32] (aF ο ns rows)
theorem kY{i:Int}(h:dH ns)(h0:0<=i)(h1:i < ns.length):gH (df ns i)/\gP (ns.map sD) i=some (sD (df ns i)):=by
 have hi:i.toNat < ns.length:=by omega
 have e:df ns i=ns[i.toNat]:=by unfold df;rw [List.getD_eq_getElem?_getD,List.getElem?_eq_getElem hi];rfl
 rw [e];refine ⟨h.2 _ (aa0 hi), ?_⟩;have:=Ρ (xs:=ns.map sD) (j:=i.toNat) (by rw [aaF,aac hi];rfl);rwa [show ((i.toNat:Nat):Int)=i by omega] at this
theorem iB{p:Fr}(h:Lw p):(fr p).length<=122:=ES h.1 h.2.2.1
theorem wk{s:List Nat}{m:Nat}:∀{ps:List (List Nat)},(∀p∈ps,p.length+s.length<=m)->(jn s ps).length<=ps.length * m
 | [],_=>by simp [jn]
 | [p],h=>by have:=h p aad;show p.length<=1 * m;omega
 | p::q::r,h=>by have h1:=h p aad;have h2:=wk (ps:=q::r) λy hy=>h y (aae _ hy);show (p++(s++jn s (q::r))).length<=_;rw [aab,aab];rw [show (p::q::r).length * m=(q::r).length * m+m by rw [aaz,Nat.succ_mul]];omega
theorem jD{d:nh}(h:dH ns)(hd:qJ ns d):∀p∈df ns d.1::(aj d).map fr,p.length+1<=123:=λp hp=>by
 rcases aar.mp hp with rfl | hp
 ·have:=(kY h hd.1.1 hd.1.2).1.2.1;omega
 ·obtain ⟨q,hq,rfl⟩:=aal.mp hp;have:=iB (hd.2.1 q hq);omega
theorem ik{d:nh}(h:dH ns)(hd:qJ ns d):(b8 ns d).length<=369:=by have:=wk (s:=[32]) (m:=123) (jD h hd);have hl:=hd.2.2;refine aaq this ?_;show (((aj d).map fr).length+1) * 123<=369;rw [aaa];show (d.2.2.length+1+1) * 123<=369;omega
theorem nY{r:Rw}(h:dH ns)(hr:ze ns r):(gS ns r).length<=2300:=by
 cases r with
 | fin p=>have:=iB (p:=p) hr;show (fr p).length<=_;omega
 | Μ k ds=>
  have:=wk (s:=[44,32]) (m:=371) (ps:=ds.map (b8 ns)) λp hp=>by obtain ⟨d,hd,rfl⟩:=aal.mp hp;have:=ik h (hr.2.2.2 d hd);show _+2<=_;omega
  rw [aaa] at this;have h6:=hr.2.2.1;have:ds.length * 371<=6 * 371:=abA _ h6;show (jn [44,32] (ds.map (b8 ns))).length<=_;omega
theorem qy{r:Rw}(hr:ze ns r):(cu r).length<=6:=by
 cases r with
 | fin p=>show 3<=6;decide
 | Μ k ds=>rcases hr.1 with rfl | rfl | rfl <;> (show (Str.cps _).toList.length<=6;decide+kernel)
theorem mS{r:Rw}(h:dH ns)(hn:gH n)(hr:ze ns r):(aN ns n r).length<=2400:=by have a:=nY h hr;have b:=qy hr;have c:=hn.2.1;unfold aN;simp only [List.length_append,List.length_cons];omega
theorem d9:(Str.ofString " ")=mk [32]:=by decide+kernel
theorem Ll:(Str.ofString ", ")=mk [44,32]:=by decide+kernel
theorem LI:(Str.ofString "; ")=mk [59,32]:=by decide+kernel
theorem shr:(Str.ofString "share ")=mk jy:=by decide+kernel
theorem Β{n:Nat}(h:n<=16777216):n<=sizeLine:=aaq h (by decide)
theorem JC(ps:List (List Nat)):ps.map sD=(ps.map mk).map Dt.str:=by rw [aao];rfl
def Oi:Rw->Dt
 | .fin p=>aR p
 | .Μ _ ds=> .lst (ds.map cC)
theorem Gw(r:Rw):Υ r= .tup [.str (kindOf r),Oi r]:=by cases r <;> rfl
theorem Ri:(Str.ofString "end").cps.toList=[101,110,100]:=by decide+kernel
theorem zU(r:Rw):kindOf r=mk (cu r):=by
 cases r with
 | fin p=>exact fS Ri
 | Μ k ds=>rfl
theorem pL{α:Type}{g:Dt->En->(En->Prop)->Prop}{te:DE}{ρ0:En}{ok:Ms->Prop}{F:Dt->α->Prop}{f:α->Dt}{M:Ms}{k:List Dt->Ms->Prop}(ho:ok M)(ht:∀x a,F x a->∀q:DQ,q (f a) M->g x ρ0 λρ'=>te ρ' M q gT):∀{xs:List Dt} {as:List α} {Ο:List Dt},Paired F xs as->k (Ο++as.map f) M->xq g te ρ0 ok xs Ο M k
 | _,_,Ο, .nil,h=>⟨ho,by simpa using h⟩
 | _,_,Ο, .cons r t,h=>⟨ho,ht _ _ r _ (pL ho ht t (by simpa using h))⟩
theorem d8{s:Str}{sl:List Nat}{e:Dt}{q:DQ}(hs:s=mk sl)(he:ya M e=some (ps.map sD))(n m:Nat)(hl:ps.length<=n)(hp:∀p∈ps,p.length+sl.length<=m)(hb:n * m<=16777216)(h:q (sD (jn sl ps)) M):rZ (.str s) [e] M q:=by subst hs;refine ⟨ps.map mk,by rw [he,JC],CY hl hp (Β hb), ?_⟩;rw [Hi];exact h
def sx:DF:=λas M q _=>∃d ns,as=[cC d, .lst (ns.map sD)]/\dH ns/\qJ ns d/\q (sD (b8 ns d)) M
theorem qk:υ ["door","names"] ["door","names"] (μ mn):= .of rfl
theorem wm(F:bV K "show_door" "show_door" mn f fd)(E:Ev K mg w Cm ν CT CN)(av:aa P w K mg base 1 "show_fraction" ["one"] r8 b7 b6):Τ P w K mg base (br P w) 2 f fd ["door","names"] (bK K sx):=by
 refine F.cN qk (λds M q x h=> ?_) (λaQ A outer s H E' hr=>⟨_,(η (τ (eI Ψ (ε (x3 (Au (ε (Α (jv 1) (Α (jv 0) θ)) ζ Κ)) (bH (ys:=[]) (Ε:=[]) (.of qk rfl rfl rfl) (aL (fP (jv 0) θ)) (λC s H fp=>(Λ av hr (aM (P:=P) (w:=w)) (ae (jv 0) ζ))))) ζ aG)))),λds M q x h=> ?_⟩)
 ·obtain ⟨d,ns,rfl,_⟩:=h;rfl
 ·obtain ⟨d,ns,rfl,hn,hd,h⟩:=h;obtain ⟨n1,n2⟩:=kY hn hd.1.1 hd.1.2;walk_at "vc";refine ⟨⟨_,rfl⟩, ?_⟩;refine (χ (d:=cC d) (xs:= .int d.1::aR d.2.1::d.2.2.map aR) rfl aT ?_:ck (cC d) (.int 0) M _);refine (χ (d:= .lst (ns.map sD)) rfl n2 ?_:ck (.lst (ns.map sD)) (.int d.1) M _);refine ⟨by show 1<=sizeLine;decide, ?_⟩;dsimp only [d6,dg,Hh,bG,dC];refine ⟨_,1,rfl,rfl,by decide,by simp, ?_⟩;have lf:(aj d).length<=2:=by have:=hd.2.2;show d.2.2.length+1<=2;omega
  show (((aj d).map aR).length<=sizeLine/\cD _ _ _ ((aj d).map aR) [] M _);refine ⟨by rw [aaa];exact Β (by omega), ?_⟩;refine aw (F:=λx a=>x=aR a/\a∈aj d) (f:=λp=>sD (fr p)) trivial (λx a ha q' gU=> ?_) (bc aR (aj d) (aj d) λ_ h=>h) ?_
  ·obtain ⟨rfl,ha⟩:=ha;have:=hd.2.1 a ha;exact ⟨⟨this.1,this.2.1,this.2.2.1⟩,gU⟩
  rw [aat];refine ⟨_,_,rfl,rfl, ?_, ?_⟩
  ·rw [aaa];exact Β (by show 1+_<=_;omega)
  refine d8 (ps:=df ns d.1::(aj d).map fr) d9 ?_ 3 123 (by rw [aaz,aaa];omega) (jD hn hd) (by decide) h;show some (sD (df ns d.1)::(aj d).map λp=>sD (fr p))=_;rw [aaB,aao];rfl
def oJ:DF:=λas M q _=>∃n r ns,as=[sD n,Υ r, .lst (ns.map sD)]/\dH ns/\gH n/\ze ns r/\q (sD (aN ns n r)) M
theorem dh:υ ["name","row","names","kind","told"] ["name","row","names"] (μ ji):= .of rfl
theorem tO(F:bV K "show_place" "show_place" ji f fd)(E:Ev K mg w Cm ν CT CN)(av:aa P w K mg base 1 "show_fraction" ["one"] r8 b7 b6){CQ:Addr}{B9:FuncData}(jZ:aa P w K mg base 2 "show_door" ["door","names"] sx CQ B9):Τ P w K mg base (br P w) 3 f fd ["name","row","names"] (bK K oJ):=by
 refine F.cN dh (λds M q x h=> ?_) (λaQ A outer s H E' hr=>⟨_,(δ (π 3 dh.nd (Α (jv 1) θ))
   (δ (hW (Θ (bC hr (jv 3) Ψ) (η (π 4 dh.nd (Λ av hr ξ (ε (Α (jv 1) θ) ζ Κ)))) (η (π 4 dh.nd (eI Ψ (ε (bH (ys:=["names"]) (Ε:=[2]) (.of dh rfl rfl rfl) (aL (Α (jv 1) θ)) (λC s H fp=>(Λ jZ hr (aM (P:=P) (w:=w)) (ae (jv 0) (ae (jv 1) ζ))))) ζ))))))
   (η (τ (yj (.cons (rS (jv 0)) (.cons Ψ (.cons (rS (jv 3)) (.cons Ψ (.cons (rS (jv 4)) .nil)))))))))),λds M q x h=> ?_⟩)
 ·obtain ⟨n,r,ns,rfl,_⟩:=h;rfl
 ·obtain ⟨n,r,ns,rfl,hn,h1,aJ,h⟩:=h;have big:=nY hn aJ;have bk:=qy aJ;have bn:=h1.2.1;rw [Gw];walk_at "vc";refine ⟨λρ M'=>M'=M/\ρ=[some (sD n),some (.tup [.str (kindOf r),Oi r]),some (.lst (ns.map sD)),some (.str (kindOf r)),some (sD (gS ns r))], ?_, ?_⟩
  ·cases r with
   | fin p=>exact ⟨λ_=>⟨⟨aJ.1,aJ.2.1,aJ.2.2.1⟩,rfl,rfl⟩,λz=>(nomatch z)⟩
   | Μ k ds=>
    have ne:k≠"end":=by rcases aJ.1 with rfl | rfl | rfl <;> decide
    refine ⟨λz=>aaG (aaN z) ne,λ_=> ?_⟩;refine ⟨⟨_,rfl⟩, ?_⟩;show ((ds.map cC).length<=sizeLine/\cD _ _ _ (ds.map cC) [] M _);have h6:=aJ.2.2.1;refine ⟨by rw [aaa];exact Β (by omega), ?_⟩;refine aw (F:=λx a=>x=cC a/\a∈ds) (f:=λd=>sD (b8 ns d)) trivial (λx a ha q' gU=> ?_) (bc cC ds ds λ_ h=>h) ?_
    ·obtain ⟨rfl,ha⟩:=ha;exact ⟨a,ns,rfl,hn,aJ.2.2.2 a ha,gU⟩
    rw [aat];walk_at "vc";refine d8 (ps:=ds.map (b8 ns)) Ll (by show some _=_;rw [aao];rfl) 6 400 (by rw [aaa];exact h6) (λp hp=> ?_) (by decide) ⟨rfl,rfl⟩;obtain ⟨d,hd,rfl⟩:=aal.mp hp;have:=ik hn (aJ.2.2.2 d hd);show _+2<=400;omega
  rintro ρ' M' ⟨rfl,rfl⟩;rw [zU];have e0:Str.empty++mk n=mk n:=by show mk []++mk n=_;rw [ω];rfl
  have ln:∀a:List Nat,a.length<=3000->(mk a).length<=sizeLine:=λa h=>by rw [ι];exact Β (by omega)
  have e1:Str.empty++mk n++Str.ofString " "=mk (n++[32]):=by rw [e0,d9,ω]
  have e2:Str.empty++mk n++Str.ofString " "++mk (cu r)=mk (n++[32]++cu r):=by rw [e1,ω]
  have e3:Str.empty++mk n++Str.ofString " "++mk (cu r)++Str.ofString " "=mk (n++[32]++cu r++[32]):=by rw [e2,d9,ω]
  have e4:Str.empty++mk n++Str.ofString " "++mk (cu r)++Str.ofString " "++mk (gS ns r)=mk (aN ns n r):=by rw [e3,ω];unfold aN;simp only [List.append_assoc,List.cons_append,List.nil_append]
  refine ⟨ln _ (by omega),(by show (Str.empty++mk n).length<=sizeLine;rw [e0];exact ln _ (by omega)),(by show (Str.empty++mk n++Str.ofString " ").length<=sizeLine;rw [e1];exact ln _ (by simp;omega)),ln _ (by omega),(by show (Str.empty++mk n++Str.ofString " "++mk (cu r)).length<=sizeLine;rw [e2];exact ln _ (by simp;omega)),(by show (Str.empty++mk n++Str.ofString " "++mk (cu r)++Str.ofString " ").length<=sizeLine;rw [e3];exact ln _ (by simp;omega)),ln _ (by omega), ?_, ?_⟩
  ·show (Str.empty++mk n++Str.ofString " "++mk (cu r)++Str.ofString " "++mk (gS ns r)).length<=sizeLine;rw [e4];exact ln _ (by have:=mS hn h1 aJ;omega)
  ·show q (.str (Str.empty++mk n++Str.ofString " "++mk (cu r)++Str.ofString " "++mk (gS ns r))) M';rw [e4];exact h
def LZ(ο:Fr)(ns:List (List Nat))(rows:List Rw):Prop:=Lw ο/\dH ns/\rows.length=ns.length/\∀r∈rows,ze ns r/\gJ r
theorem kj{ο:Fr}{rows:List Rw}(h:LZ ο ns rows):∀p∈aF ο ns rows,p.length+2<=2402:=λp hp=>by
 rcases aar.mp hp with rfl | hp
 ·have:=iB h.1;rw [aab];show 6+_+2<=_;omega
 ·obtain ⟨⟨n,r⟩,hq,rfl⟩:=aal.mp hp;have:=mS h.2.1 (h.2.1.2 n (aa6 hq).1) (h.2.2.2 r (aa6 hq).2).1;show (aN ns n r).length+2<=_;omega
theorem eZ{ο:Fr}{rows:List Rw}(h:LZ ο ns rows):(aF ο ns rows).length=ns.length+1:=by unfold aF;rw [aaz,aaa,abv,h.2.2.1,Nat.min_self]
def qd(C:Addr):DF:=λas M q _=>∃ο ns rows,as=[cG C ο rows, .lst (ns.map sD)]/\LZ ο ns rows/\q (sD (lB ο ns rows)) M
theorem e6:υ ["floor","names","share","places"] ["floor","names"] (μ jL):= .of rfl
theorem uQ(F:bV K "show_floor" "show_floor" jL f fd)(E:Ev K mg w Cm ν CT CN)(av:aa P w K mg base 1 "show_fraction" ["one"] r8 b7 b6){ir:Addr}{ip:FuncData}(bQ:qS P w K mg base 1 Cm "share" ["self"] (zq Cm) ir ip){jR:Addr}{ju:FuncData}(cB:qS P w K mg base 2 Cm "rows" ["self"] (Ec Cm) jR ju){yb:Addr}{za:FuncData}(iu:aa P w K mg base 3 "show_place" ["name","row","names"] oJ yb za):Τ P w K mg base (br P w) 4 f fd ["floor","names"] (bK K (qd Cm)):=by
 refine F.cN e6 (λds M q x h=> ?_) (λaQ A outer s H E' hr=>⟨_,(δ (π 2 e6.nd (Λ av hr ξ (ε (oh bQ hr ξ (jv 0)) ζ bb)))
   (δ (xf (i:=3) e6.nd rfl (Or.inl rfl) (ys:=["names"]) (Ε:=[1]) (.of e6 rfl rfl rfl) (MW E.Ae (ae (jv 1) (ε (dF (oh cB hr ξ (jv 0))) ζ bb))) (λC s H fp=>(Λ iu hr (aM (P:=P) (w:=w)) (ae (jv 0) (ae (jv 1) (ae (jv 2) ζ))))))
   (η (τ (eI Ψ (ε (x3 (Au (ε (yj (.cons Ψ (.cons (rS (jv 2)) .nil))) ζ)) (jv 3)) ζ aG)))))),λds M q x h=> ?_⟩)
 ·obtain ⟨ο,ns,rows,rfl,_⟩:=h;rfl
 ·obtain ⟨ο,ns,rows,rfl,hf,h⟩:=h;have C1:=hf.2.1.1;have rl:=hf.2.2.1;walk_at "vc";refine ⟨⟨_,_, .inl rfl,rfl⟩,ο,rows,rfl,⟨hf.1.1,hf.1.2.1,hf.1.2.2.1⟩, ?_⟩;dsimp only [yQ,Pe,dE,gZ,bG,Ni,Dc];refine ⟨⟨_,_, .inl rfl,rfl⟩,ο,rows,rfl,by omega,λr hr=>(hf.2.2.2 r hr).2, ?_⟩;rw [aa4];refine cW (d':= .lst (rows.map Υ)) (.qL (Nat.le_add_right _ _) (by simp) (xc rows M _)) ?_;refine ⟨_,_,ns.map sD,rows.map Υ,_,_,rfl,rfl,rfl, ?_⟩;have ez:xp (ns.map sD) (rows.map Υ)=(ns.zip rows).map λp=> .tup [sD p.1,Υ p.2]:=by unfold xp;rw [List.zip_map,aao];rfl
  rw [ez];refine ⟨by rw [aaa,abv];exact Β (by omega), ?_⟩;refine pL (F:=λx a=>x= .tup [sD a.1,Υ a.2]/\a∈ns.zip rows) (f:=λp=>sD (aN ns p.1 p.2)) ⟨trivial,trivial⟩ (λx a ha q' gU=> ?_) (bc _ (ns.zip rows) (ns.zip rows) λ_ h=>h) ?_
  ·obtain ⟨rfl,ha⟩:=ha;have m:=aa6 ha;exact ⟨a.1,a.2,ns,rfl,hf.2.1,hf.2.1.2 _ m.1,(hf.2.2.2 _ m.2).1,gU⟩
  rw [aat];have lf:=iB hf.1;have ln:∀a:List Nat,a.length<=3000->(mk a).length<=sizeLine:=λa h=>by rw [ι];exact Β (by omega)
  have e1:Str.empty++Str.ofString "share "=mk jy:=by decide+kernel
  have e2:Str.empty++Str.ofString "share "++mk (fr ο)=mk (jy++fr ο):=by rw [e1,ω]
  refine ⟨⟨_,rfl⟩,(by show (Str.empty++Str.ofString "share ").length<=sizeLine;rw [e1];exact ln _ (by decide)),ln _ (by show (fr ο).length<=_;omega),(by show (Str.empty++Str.ofString "share "++mk (fr ο)).length<=sizeLine;rw [e2];exact ln _ (by rw [aab];show 6+_<=_;omega)),by show 1<=sizeLine;decide,_,_,rfl,rfl, ?_, ?_⟩
  ·rw [aaa,abv];exact Β (by show 1+_<=_;omega)
  refine d8 (ps:=aF ο ns rows) LI ?_ 13 2402 (by rw [eZ hf];omega) (kj hf) (by decide) h;show some (.str (Str.empty++Str.ofString "share "++mk (fr ο))::(ns.zip rows).map λp=>sD (aN ns p.1 p.2))=_;rw [e2];unfold aF;rw [aaB,aao];rfl
theorem AE{p:Fr}(h:c∈fr p):45<=c/\c<=57:=by
 unfold fr wr at h;rcases aaK.mp h with h | h
 ·rcases aaK.mp h with h | h
  ·unfold sg at h;split at h
   ·have:c=45:=by simpa using h
    omega
   ·cases h
  ·have:=iG _ c h;omega
 ·split at h
  ·cases h
  ·rcases aar.mp h with h | h
   ·omega
   ·have:=iG _ c h;omega
theorem zh{s:List Nat}{c:Nat}:∀{ps:List (List Nat)},c∈jn s ps->c∈s\/∃p∈ps,c∈p
 | [],h=>nomatch h
 | [p],h=> .inr ⟨p,aad,h⟩
 | p::q::r,h=>by
  have h:c∈p++(s++jn s (q::r)):=h;rcases aaK.mp h with h | h
  ·exact .inr ⟨p,aad,h⟩
  ·rcases aaK.mp h with h | h
   ·exact .inl h
   ·rcases zh h with h | ⟨y,hy,h⟩
    ·exact .inl h
    ·exact .inr ⟨y,aae _ hy,h⟩
theorem kU{d:nh}(h:dH ns)(hd:qJ ns d){p:List Nat}(hp:p∈df ns d.1::(aj d).map fr)(hc:c∈p):45<=c/\c<=57\/97<=c/\c<=122:=by
 rcases aar.mp hp with rfl | hp
 ·exact .inr ((kY h hd.1.1 hd.1.2).1.2.2 c hc)
 ·obtain ⟨q,_,rfl⟩:=aal.mp hp;exact .inl (AE hc)
theorem zO{d:nh}(h:dH ns)(hd:qJ ns d)(hc:c∈b8 ns d):c=32\/45<=c/\c<=57\/97<=c/\c<=122:=by
 rcases zh hc with hc | ⟨p,hp,hc⟩
 ·exact .inl (by simpa using hc)
 ·exact .inr (kU h hd hp hc)
theorem Ao{r:Rw}(hr:ze ns r)(hc:c∈cu r):97<=c/\c<=122:=by
 cases r with
 | fin p=>
  have hc:c=101\/c=110\/c=100:=by simpa [cu] using hc
  omega
 | Μ k ds=>
  have one:(Str.ofString "one").cps.toList=[111,110,101]:=by decide+kernel
  have other:(Str.ofString "other").cps.toList=[111,116,104,101,114]:=by decide+kernel
  have MY:(Str.ofString "chance").cps.toList=[99,104,97,110,99,101]:=by decide+kernel
  have hc:c∈k.cps.toList:=hc;rcases hr.1 with rfl | rfl | rfl
  ·rw [one] at hc;simp only [List.mem_cons,List.not_mem_nil,or_false] at hc;omega
  ·rw [other] at hc;simp only [List.mem_cons,List.not_mem_nil,or_false] at hc;omega
  ·rw [MY] at hc;simp only [List.mem_cons,List.not_mem_nil,or_false] at hc;omega
theorem Lq{r:Rw}(h:dH ns)(hr:ze ns r)(hc:c∈gS ns r):c=32\/c=44\/45<=c/\c<=57\/97<=c/\c<=122:=by
 cases r with
 | fin p=>have:=AE (p:=p) hc;omega
 | Μ k ds=>
  rcases zh (ps:=ds.map (b8 ns)) hc with hc | ⟨p,hp,hc⟩
  ·have:c=44\/c=32:=by simpa using hc
   omega
  ·obtain ⟨d,hd,rfl⟩:=aal.mp hp;have:=zO h (hr.2.2.2 d hd) hc;omega
theorem Hq{ο:Fr}{rows:List Rw}(h:LZ ο ns rows):∀p∈aF ο ns rows,59∉p:=λp hp hc=>by
 rcases aar.mp hp with rfl | hp
 ·rcases aaK.mp hc with hc | hc
  ·exact aaG hc (by decide)
  ·have:=AE hc;omega
 ·obtain ⟨⟨n,r⟩,hq,rfl⟩:=aal.mp hp;have hn:=h.2.1.2 n (aa6 hq).1;have hr:=(h.2.2.2 r (aa6 hq).2).1;have hc:59∈n++(32::(cu r++(32::gS ns r))):=hc;rcases aaK.mp hc with hc | hc
  ·have:=hn.2.2 _ hc;omega
  rcases aar.mp hc with hc | hc
  ·omega
  rcases aaK.mp hc with hc | hc
  ·have:=Ao hr hc;omega
  rcases aar.mp hc with hc | hc
  ·omega
  ·have:=Lq h.2.1 hr hc;omega
theorem fK{s:Str}{tl:List Nat}{q:DQ}(hs:s=mk (c::tl))(hk:Builtin.Str.strKind (mk (c::tl))=1)(hn:ps≠[])(hf:∀p∈ps,c∉p)(hl:(jn (c::tl) ps).length<=100000)(h:q (.lst (ps.map sD)) M):eP (.str (mk (jn (c::tl) ps))) [.str s] M q:=by subst hs;refine ⟨⟨rfl,by rw [ι];exact Β (by omega)⟩, ?_⟩;rw [E7 hk hn hf,<-JC];exact h
theorem OH:Builtin.Str.strKind (mk [32])=1:=by decide+kernel
theorem ZR:Builtin.Str.strKind (mk [44,32])=1:=by decide+kernel
theorem k59:Builtin.Str.strKind (mk [59,32])=1:=by decide+kernel
theorem JR:(Str.ofString "abcdefghijklmnopqrstuvwxyz").cps.toList=(List.range 26).map (97+ ·):=by decide+kernel
theorem IA(c:Nat):c∈(Str.ofString "abcdefghijklmnopqrstuvwxyz").cps.toList↔97<=c/\c<=122:=by
 rw [JR];simp only [List.mem_map,List.mem_range];constructor
 ·rintro ⟨a,h,rfl⟩;omega
 ·intro h;exact ⟨c - 97,by omega,by omega⟩
def Kk(d:Dt):Dt:=match d with
 | .str y=> .bl (!(Builtin.Str.occurrences (Str.ofString "abcdefghijklmnopqrstuvwxyz") y 0 (Str.ofString "abcdefghijklmnopqrstuvwxyz").length 1).isEmpty)
 | _=> .bw
theorem BA(h:∀c∈n,97<=c/\c<=122):(fk (mk n)).map Kk=(List.replicate n.length true).map Dt.bl:=by unfold fk;rw [aao,cq,List.map_replicate,List.eq_replicate_iff];refine ⟨by simp,λb hb=> ?_⟩;obtain ⟨c,hc,rfl⟩:=aal.mp hb;show Dt.bl (!(Builtin.Str.occurrences (Str.ofString "abcdefghijklmnopqrstuvwxyz") ⟨#[c]⟩ 0 (Str.ofString "abcdefghijklmnopqrstuvwxyz").length 1).isEmpty)=_;rw [Dy,aay ((IA c).mpr (h c hc))]
def tW:DF:=λas M q _=>∃n,as=[sD n]/\gH n/\q (.bl true) M
theorem w_:υ ["text"] ["text"] (μ uI):= .of rfl
theorem BP(F:bV K "is_name" "is_name" uI f fd)(E:Ev K mg w Cm ν CT CN):Τ P w K mg base (br P w) 1 f fd ["text"] (bK K tW):=by
 refine F.cN w_ (λds M q x h=> ?_) (λaQ A outer s H E' hr=>⟨_,(η (τ (eG (tQ θ (cP E.cf (ae (jv 0) ζ))) (eG (tQ (cP E.cf (ae (jv 0) ζ)) (jH E.iY)) (h_ (J4 E.vB (ε (mD (ys:=[]) (Ε:=[]) (.of w_ rfl rfl rfl) (EG (jv 0)) (λC s H fp=>(Uz (jv 0) (Fw E.vQ)))) ζ))))))),λds M q x h=> ?_⟩)
 ·obtain ⟨n,rfl,_⟩:=h;rfl
 ·obtain ⟨n,rfl,hn,h⟩:=h;have l1:(mk n).length<=sizeLine:=by rw [ι];exact Β (by have:=hn.2.1;omega)
  have el:((mk n).length:Int)=n.length:=by rw [ι]
  have h1:=hn.1;have h8:=hn.2.1;refine ⟨l1,λ_=>⟨l1,λ_=> ?_,λz=> ?_⟩,λz=> ?_⟩
  ·refine ⟨by unfold fk;rw [List.length_map,cq];exact Β (by omega),fU (f:=Kk) _ [] (λd hd q hq=> ?_) ?_⟩
   ·obtain ⟨c,_,rfl⟩:=aal.mp hd;exact hq
   rw [aat,BA hn.2.2];refine ⟨_,rfl, ?_⟩;have:(List.replicate n.length true).all id=true:=by simp
   rw [this];exact h
  ·have z:¬((mk n).length:Int)<=8:=aa2 z;omega
  ·have z:¬1<=((mk n).length:Int):=aa2 z;omega
def mG:DF:=λas M q _=>∃n,as=[sD n]/\gH n/\q (sD n) M
theorem yn:υ ["text"] ["text"] (μ ly):= .of rfl
theorem wb(F:bV K "read_name" "read_name" ly f fd)(E:Ev K mg w Cm ν CT CN){u_:Addr}{tI:FuncData}(fW:aa P w K mg base 1 "is_name" ["text"] tW u_ tI):Τ P w K mg base (br P w) 2 f fd ["text"] (bK K mG):=by
 refine F.cN yn (λds M q x h=> ?_) (λaQ A outer s H E' hr=>⟨_,(δ (Θ (cT (bW (Λ fW hr ξ (ae (jv 0) ζ)))) (η (bB bT aax E.bP E.bR (ε Ψ ζ aA))) ψ)
   (η (τ (jv 0)))),λds M q x h=> ?_⟩)
 ·obtain ⟨n,rfl,_⟩:=h;rfl
 ·obtain ⟨n,rfl,hn,h⟩:=h;exact ⟨n,rfl,hn,λz=>(nomatch z),λ_=>h⟩
theorem OK{p:Fr}(h:Lw p):rd (mk (fr p))=some p:=OB h.2.1 h.2.2.2 h.1 h.2.2.1
theorem tE{CT:Addr}{p:Fr}{q:DQ}{x:Ta}(h:Lw p)(hq:q (aR p) M):qj CT [sD (fr p)] M q x:=by refine ⟨by rw [ι];have:=iB h;omega, ?_⟩;rw [OK h];exact hq
def qf:DF:=λas M q _=>∃p,as=[sD (jy++fr p)]/\Lw p/\q (aR p) M
theorem mV:υ ["text","words"] ["text"] (μ jk):= .of rfl
theorem ua(F:bV K "read_share" "read_share" jk f fd)(E:Ev K mg w Cm ν CT CN)(ay:aa P w K mg base 3 "read_fraction" ["text"] (qj CT) bX cb):Τ P w K mg base (br P w) 4 f fd ["text"] (bK K qf):=by
 refine F.cN mV (λds M q x h=> ?_) (λaQ A outer s H E' hr=>⟨_,(δ (π 1 mV.nd (cR (jv 0) (ε Ψ ζ aA)))
   (δ (Θ (JW.jt (i6 (m7 hr (cP E.cf (ae (jv 1) ζ)) θ) (fw (m7 hr (Α (jv 1) θ) Ψ)))) (η (bB bT aax E.bP E.bR (ε Ψ ζ aA))) ψ)
   (η (τ (Λ ay hr ξ (ε (Α (jv 1) θ) ζ Κ)))))),λds M q x h=> ?_⟩)
 ·obtain ⟨p,rfl,_⟩:=h;rfl
 ·obtain ⟨p,rfl,hp,h⟩:=h;have lf:=iB hp;walk_at "vc";refine ⟨⟨_,rfl⟩, ?_⟩;refine (fK (c:=32) (tl:=[]) (ps:=[[115,104,97,114,101],fr p]) d9 OH (by simp) (λy hy=> ?_) ?_ ?_:eP (sD (jy++fr p)) [.str (Str.ofString " ")] M _)
  ·have hy:y=[115,104,97,114,101]\/y=fr p:=by simpa using hy
   rcases hy with rfl | rfl
   ·decide
   ·intro z;have:=AE z;omega
  ·show (jy++fr p).length<=_;rw [aab];show 6+_<=_;omega
  refine ⟨λz=>(nomatch z),λ_=>⟨λz=>aaG z (by decide+kernel),λ_=>tE hp h⟩⟩
theorem mO{n:Nat}:∀ps:List (List Nat),Dt.bD n (ps.map sD)
 | []=>trivial
 | _::ps=>⟨trivial,mO ps⟩
def C2(ns:List (List Nat))(d:nh):Dt:= .tup (sD (df ns d.1)::(aj d).map aR)
def mz:DF:=λas M q _=>∃d ns,as=[sD (b8 ns d), .int (1+(aj d).length:Nat)]/\dH ns/\qJ ns d/\q (C2 ns d) M
theorem jB:υ ["text","length","words"] ["text","length"] (μ mP):= .of rfl
theorem wq(F:bV K "read_door" "read_door" mP f fd)(E:Ev K mg w Cm ν CT CN){lM:Addr}{lT:FuncData}(cU:aa P w K mg base 2 "read_name" ["text"] mG lM lT)(ay:aa P w K mg base 3 "read_fraction" ["text"] (qj CT) bX cb):Τ P w K mg base (br P w) 4 f fd ["text","length"] (bK K mz):=by
 refine F.cN jB (λds M q x h=> ?_) (λaQ A outer s H E' hr=>⟨_,(δ (π 2 jB.nd (cR (jv 0) (ε Ψ ζ aA)))
   (δ (Θ (m7 hr (cP E.cf (ae (jv 2) ζ)) (jv 1)) (η (bB bT aax E.bP E.bR (ε Ψ ζ aA))) ψ)
   (η (τ (Hl E.j9 (ε (x3 (Au (ε (Λ cU hr ξ (ε (Α (jv 2) θ) ζ Κ)) ζ bb)) (bH (ys:=[]) (Ε:=[]) (.of jB rfl rfl rfl) (aL (dF (sJ (jv 2) θ))) (λC s H fp=>(Λ ay hr (aM (P:=P) (w:=w)) (ae (jv 0) ζ))))) ζ aG)))))),λds M q x h=> ?_⟩)
 ·obtain ⟨d,ns,rfl,_⟩:=h;rfl
 ·obtain ⟨d,ns,rfl,hn,hd,h⟩:=h;have lf:(aj d).length<=2:=by have:=hd.2.2;show d.2.2.length+1<=2;omega
  obtain ⟨n1,n2⟩:=kY hn hd.1.1 hd.1.2;walk_at "vc";refine ⟨⟨_,rfl⟩, ?_⟩;refine (fK (c:=32) (tl:=[]) (ps:=df ns d.1::(aj d).map fr) d9 OH (by simp) (λy hy z=> ?_) (by have:=ik hn hd;show (b8 ns d).length<=_;omega) ?_:eP (sD (b8 ns d)) [.str (Str.ofString " ")] M _)
  ·have:=kU hn hd hy z;omega
  have el:((((df ns d.1::(aj d).map fr).map sD).length:Nat):Int)=((1+(aj d).length:Nat):Int):=by simp;omega
  refine (dc (d:= .lst ((df ns d.1::(aj d).map fr).map sD)) rfl ?_:wH [.lst ((df ns d.1::(aj d).map fr).map sD)] M _);refine ⟨λz=> ?_,λ_=> ?_⟩
  ·have z:(!decide ((((df ns d.1::(aj d).map fr).map sD).length:Int)=((1+(aj d).length:Nat):Int)))=true:=z;rw [aay el] at z;exact nomatch z
  refine (χ (d:= .lst ((df ns d.1::(aj d).map fr).map sD)) rfl aT ?_:ck (.lst ((df ns d.1::(aj d).map fr).map sD)) (.int 0) M _);refine ⟨df ns d.1,rfl,n1,by show 1<=sizeLine;decide, ?_⟩;dsimp only [d6,dg,Ni,LL,bG,dC];refine ⟨_,1,rfl,rfl, ?_⟩;refine ur (mO ((aj d).map fr)) ?_;show (((aj d).map fr).map sD).length<=sizeLine/\cD _ _ _ (((aj d).map fr).map sD) [] M _;rw [aao];refine ⟨by rw [aaa];exact Β (by omega), ?_⟩;refine aw (F:=λx a=>x=(sD ∘ fr) a/\a∈aj d) (f:=aR) trivial (λx a ha q' gU=> ?_) (bc (sD ∘ fr) (aj d) (aj d) λ_ h=>h) ?_
  ·obtain ⟨rfl,ha⟩:=ha;exact tE (hd.2.1 a ha) gU
  rw [aat];exact ⟨_,_,rfl,rfl,by rw [aaa];exact Β (by show 1+_<=_;omega),_,rfl,h⟩
def i_(ns:List (List Nat)):Rw->Dt
 | .fin p=> .tup [.str "end",aR p]
 | .Μ k ds=> .tup [.str k, .lst (ds.map (C2 ns))]
def Ly:Rw->Prop
 | .fin _=>True
 | .Μ k ds=>∀d∈ds,d.2.2.length=if k="chance" then 1 else 0
def xu:DF:=λas M q _=>∃r ns,as=[sD (cu r),sD (gS ns r)]/\dH ns/\ze ns r/\Ly r/\q (i_ ns r) M
theorem lC:υ ["kind","text"] ["kind","text"] (μ pH):= .of rfl
theorem yZ(F:bV K "read_row" "read_row" pH f fd)(E:Ev K mg w Cm ν CT CN)(ay:aa P w K mg base 3 "read_fraction" ["text"] (qj CT) bX cb){Cb:Addr}{CO:FuncData}(gi:aa P w K mg base 4 "read_door" ["text","length"] mz Cb CO):Τ P w K mg base (br P w) 5 f fd ["kind","text"] (bK K xu):=by
 refine F.cN lC (λds M q x h=> ?_) (λaQ A outer s H E' hr=>⟨_,(δ (Θ (bC hr (jv 0) Ψ) (η (τ (aW (ae (jv 0) (ε (Λ ay hr ξ (ae (jv 1) ζ)) ζ bb))))) ψ)
   (δ (Θ (xZ (jv 0) (zP E.tP)) (η (τ (aW (ae (jv 0) (ε (bH (ys:=[]) (Ε:=[]) (.of lC rfl rfl rfl) (aL (cR (jv 1) (ε Ψ ζ aA))) (λC s H fp=>(Λ gi hr (aM (P:=P) (w:=w)) (ae (jv 0) (ε θ ζ aA))))) ζ))))) ψ)
   (δ (Θ (bC hr (jv 0) Ψ) (η (τ (aW (ae (jv 0) (ε (bH (ys:=[]) (Ε:=[]) (.of lC rfl rfl rfl) (aL (cR (jv 1) (ε Ψ ζ aA))) (λC s H fp=>(Λ gi hr (aM (P:=P) (w:=w)) (ae (jv 0) (ε θ ζ aA))))) ζ))))) ψ)
   (η (bB bT aax E.bP E.bR (ε Ψ ζ aA)))))),λds M q x h=> ?_⟩)
 ·obtain ⟨r,ns,rfl,_⟩:=h;rfl
 ·obtain ⟨r,ns,rfl,hn,aJ,hw,h⟩:=h;rw [show sD (cu r)= .str (kindOf r) by rw [zU];rfl];cases r with
  | fin p=>
   walk_at "vc";exact ⟨λ_=>tE (p:=p) aJ ⟨gV,h⟩,λz=>(nomatch z)⟩
  | Μ k ds=>
   have ne:k≠"end":=by rcases aJ.1 with rfl | rfl | rfl <;> decide
   have h6:=aJ.2.2.1;have go:∀l:Nat,(∀d∈ds,1+(aj d).length=l)->d6 (dg (IF eP (bG 1) (dE (dC (Dt.str (Str.ofString ", "))) gZ))) (wK mz (dE (bG 0) (dE (dC (Dt.int l)) gZ))) [] [some (.str k),some (sD (gS ns (.Μ k ds)))] M (λWC M1=>2<=sizeLine/\q (Dt.tup [.str k,WC]) M1) (λ_=>x):=λl hl=>by
    dsimp only [d6,dg,IF,bG,dC,dE,gZ,List.getElem?_cons_succ,List.getElem?_cons_zero];refine ⟨⟨_,rfl⟩, ?_⟩;refine (fK (c:=44) (tl:=[32]) (ps:=ds.map (b8 ns)) Ll ZR (λz=>by have z:=aa5 List.length z;rw [aaa] at z;have z:ds.length=0:=z;have:=aJ.2.1;omega) (λy hy z=> ?_) (by have:=nY hn aJ;show (gS ns (.Μ k ds)).length<=_;omega) ?_:eP (sD (gS ns (.Μ k ds))) [.str (Str.ofString ", ")] M _)
    ·obtain ⟨d,hd,rfl⟩:=aal.mp hy;have:=zO hn (aJ.2.2.2 d hd) z;omega
    show ((ds.map (b8 ns)).map sD).length<=sizeLine/\cD _ _ _ ((ds.map (b8 ns)).map sD) [] M _;rw [aao];refine ⟨by rw [aaa];exact Β (by omega), ?_⟩;refine aw (F:=λx a=>x=(sD ∘ b8 ns) a/\a∈ds) (f:=C2 ns) trivial (λx a ha q' gU=> ?_) (bc (sD ∘ b8 ns) ds ds λ_ h=>h) ?_
    ·obtain ⟨rfl,ha⟩:=ha;exact ⟨a,ns,by rw [hl a ha];rfl,hn,aJ.2.2.2 a ha,gU⟩
    rw [aat];exact ⟨by decide,h⟩
   walk_at "vc";refine ⟨λz=>aaG (aaN z) ne,λ_=> ?_⟩;refine ⟨.str k,[.str "one", .str "other"],[.str "one", .str "other"],rfl,rfl,rfl, ?_⟩;rw [wy];refine ⟨λhh=>go 2 λd hd=> ?_,λhh=> ?_⟩
   ·have nc:k≠"chance":=λe=>by rw [e] at hh;exact aaG hh (by decide)
    have:=hw d hd;rw [aaA nc] at this;show 1+(d.2.2.length+1)=2;omega
   ·have kc:k="chance":=by
     rcases aJ.1 with e | e | e
     ·rw [e] at hh;exact aaG hh (by decide)
     ·rw [e] at hh;exact aaG hh (by decide)
     ·exact e
    refine ⟨λ_=>go 3 λd hd=> ?_,λz=>aaG kc (aa2 z)⟩;have:=hw d hd;rw [aaD kc] at this;show 1+(d.2.2.length+1)=3;omega
def oX:DF:=λas M q _=>∃n r ns,as=[sD (aN ns n r)]/\dH ns/\gH n/\ze ns r/\Ly r/\q (.tup [sD n,i_ ns r]) M
theorem nv:υ ["text","words"] ["text"] (μ jw):= .of rfl
theorem uV(F:bV K "read_place" "read_place" jw f fd)(E:Ev K mg w Cm ν CT CN){Fu:Addr}{D6:FuncData}(lO:aa P w K mg base 5 "read_row" ["kind","text"] xu Fu D6){lM:Addr}{lT:FuncData}(cU:aa P w K mg base 2 "read_name" ["text"] mG lM lT):Τ P w K mg base (br P w) 6 f fd ["text"] (bK K oX):=by
 refine F.cN nv (λds M q x h=> ?_) (λaQ A outer s H E' hr=>⟨_,(δ (π 1 nv.nd (ql (jv 0) (ε Ψ (ε θ ζ aA) aA)))
   (δ (Θ (m7 hr (cP E.cf (ae (jv 1) ζ)) θ) (η (bB bT aax E.bP E.bR (ε Ψ ζ aA))) ψ)
   (η (τ (aW (ε (Λ cU hr ξ (ε (Α (jv 1) θ) ζ Κ)) (ε (Λ lO hr ξ (ε (Α (jv 1) θ) (ε (Α (jv 1) θ) ζ Κ) Κ)) ζ bb) bb)))))),λds M q x h=> ?_⟩)
 ·obtain ⟨n,r,ns,rfl,_⟩:=h;rfl
 ·obtain ⟨n,r,ns,rfl,hn,h1,aJ,hw,h⟩:=h;have lp:=mS hn h1 aJ;have sp:(Txt.splitMax (mk (aN ns n r)) (Str.ofString " ") 2).map Dt.str=[sD n,sD (cu r),sD (gS ns r)]:=by
   rw [d9]
   have:=iq (x:=mk (aN ns n r)) (c:=32) (tl:=[]) (l:=2) (ps:=[n,cu r,gS ns r]) OH (by
    rw [cq]
    exact .more (λz=>by have:=h1.2.2 _ z;omega) (.more (λz=>by have:=Ao aJ z;omega) (.last (.inl rfl))))
   rw [show ((2:Nat):Int)=2 from rfl] at this;rw [this];rfl
  walk_at "vc";refine ⟨⟨_,rfl⟩,⟨⟨by rw [d9];rfl,by rw [ι];exact Β (by omega),by decide,by decide⟩, ?_⟩⟩;show _;rw [sp];refine ⟨λz=>(nomatch z),λ_=> ?_⟩;exact ⟨n,rfl,h1,r,ns,rfl,hn,aJ,hw,gV,h⟩
def ar(n:List Nat):Key:=Sum.inr (mk n)
def Km(n:Nat):List Dt:=(List.range n).map λi:Nat=>Dt.int i
def kN(ns:List (List Nat)):MO:= .dt (ns.map ar) (Km ns.length)
theorem zH{a b:List Nat}(h:mk a=mk b):a=b:=by have:=aa5 (λz:Str=>z.cps.toList) h;exact this
theorem oS{a b:List Nat}(h:ar a=ar b):a=b:=zH (Sum.inr.inj h)
theorem A9(ns:List (List Nat)):B8 (ns.map ar) (ar n)=decide (n∈ns):=by
 unfold B8;rw [abp,List.any_eq_true,aaP];constructor
 ·rintro ⟨c,hc,e⟩;obtain ⟨m,hm,rfl⟩:=aal.mp hc;rw [<-oS (aaN e)];exact hm
 ·intro h;exact ⟨_,aal.mpr ⟨n,h,rfl⟩,aay rfl⟩
theorem DG(j:Nat):Km (j+1)=Km j++[.int j]:=by unfold Km;rw [List.range_succ,List.map_append];rfl
theorem xA{n:List Nat}{d:Dt}:∀{ns:List (List Nat)} {ds:List Dt} {i:Nat},ns.Nodup->ns.length=ds.length->ns[i]? =some n->ds[i]? =some d->cF (ns.map ar) ds (ar n)=some d
 | [],_,_,_,_,h,_=>by simp at h
 | _::_,[],_,_,h,_,_=>by simp at h
 | m::ns,e::ds,0,_,_,h,h'=>by cases h;cases h';unfold cF;rw [aaB,aaU,List.find?_cons_of_pos (by exact aay rfl)];rfl
 | m::ns,e::ds,i+1,nd,hl,h,h'=>by have h:ns[i]? =some n:=h;have h':ds[i]? =some d:=h';have nd:=aba.mp nd;have ne:m≠n:=λz=>nd.1 (by rw [z];exact aaO h);have ih:=xA (ns:=ns) (ds:=ds) (i:=i) nd.2 (by simpa using hl) h h';unfold cF at ih⊢;rw [List.map_cons,List.zip_cons_cons,List.find?_cons_of_neg (by simp only [decide_eq_true_eq];exact λz=>ne (oS z))];exact ih
def v_:DF:=λas M q _=>∃k ns,as=[.loc k]/\M[k]? =some (.lst (ns.map sD))/\ns.Nodup/\ns.length<=12/\q (.loc M.length) (M++[kN ns])
theorem fb:υ ["names","numbers","number","name"] ["names"] (μ jg):= .of rfl
theorem uA(F:bV K "numbers_of" "numbers_of" jg f fd)(E:Ev K mg w Cm ν CT CN):Τ P w K mg base (br P w) 1 f fd ["names"] (bK K v_):=by
 refine F.cN fb (λds M q x h=> ?_) (λaQ A outer s H E' hr=>⟨_,(δ (π 1 fb.nd uP)
   (δ (iN (Aa E.dm (ae (jv 0) ζ)) (mm rfl (bA (aV (i:=2) fb.nd rfl (Or.inl rfl)) (bA (aV (i:=3) fb.nd rfl (Or.inl rfl)) iM))) u7 (δ (Θ (tG hr (jv 3) (jv 1)) (η cH) ψ)
   (η (kX hr (jv 1) (jv 3) (jv 2)))))
   (η (τ (jv 1))))),λds M q x h=> ?_⟩)
 ·obtain ⟨k,ns,rfl,_⟩:=h;rfl
 ·obtain ⟨k,ns,rfl,hk,nd,C1,h⟩:=h;have kl:k < M.length:=(aag.mp hk).1;have uS:∀E:MO,(M++[E])[k]? =some (.lst (ns.map sD)):=λE=>by rw [aau kl];exact hk
  have Aq:∀E:MO,(M++[E])[M.length]? =some E:=λE=>by simp
  walk_at "vc";dsimp only [A5,J7,dE,gZ,bG];refine ⟨.loc k,ns.map sD,λM':Ms=>M'[k]? =some (MO.lst (ns.map sD)),rfl, ?_, ?_⟩
  ·show (match (M++[MO.dt [] []])[k]? with | some (MO.lst xs)=>some (xs,λM':Ms=>M'[k]? =some (MO.lst xs)) | _=>none)=_;rw [uS]
  refine d_ (λxs ρ M'=>∃(done ag:List (List Nat)) (a b:Option Dt),xs=g6 done.length (ag.map sD)/\ns=done++ag/\M'=M++[kN done]/\ρ=[some (.loc k),some (.loc M.length),a,b]) (λxs ρ M' hj=>by obtain ⟨done,ag,a,b,_,_,rfl,_⟩:=hj;exact uS _) (λx xs ρ M' hj r9=> ?_) (λρ M' hj=> ?_) _ _ _ ⟨[],ns,none,none,rfl,rfl,rfl,rfl⟩
  ·obtain ⟨done,ag,a,b,ex,e,rfl,rfl⟩:=hj;cases ag with
   | nil=>cases ex
   | cons n ag=>
    cases ex;have hn:n∉done:=λz=>by rw [e] at nd;exact (List.nodup_append.mp nd).2.2 n z n aad rfl
    have i0:B8 (done.map ar) (ar n)=false:=by rw [A9,aaC hn]
    have dl:done.length < 1000:=by rw [e,aab] at C1;omega
    refine ⟨M.length,_,_,ar n,rfl,Aq _,rfl,λz=> ?_,λ_=> ?_⟩
    ·rw [i0] at z;exact nomatch z
    refine ⟨M.length,_,_,ar n,rfl,Aq _,rfl,by rw [aaa];exact dl, ?_⟩;refine r9 _ _ ⟨done++[n],ag,_,_,by rw [aab];rfl,by rw [e,aa4];rfl, ?_,rfl⟩;unfold fE ej;rw [aaA (by rw [i0];decide),aaA (by rw [i0];decide)];unfold kN;rw [aab,show ([n]:List (List Nat)).length=1 from rfl,DG,List.map_append];simp
  ·obtain ⟨done,ag,a,b,ex,e,rfl,rfl⟩:=hj;cases ag with
   | cons n ag=>cases ex
   | nil=>
    rw [aaQ] at e;subst e;exact h
def wD:DF:=λas M q _=>∃k ns d,as=[C2 ns d, .loc k]/\M[k]? =some (kN ns)/\ns.Nodup/\(0<=d.1/\d.1 < ns.length)/\d.2.2.length<=1/\q (cC d) M
theorem oU:υ ["door","numbers"] ["door","numbers"] (μ fm):= .of rfl
theorem nC(F:bV K "numbered_door" "numbered_door" fm f fd)(E:Ev K mg w Cm ν CT CN):Τ P w K mg base (br P w) 1 f fd ["door","numbers"] (bK K wD):=by
 refine F.cN oU (λds M q x h=> ?_) (λaQ A outer s H E' hr=>⟨_,(δ (Θ (sC hr (Α (jv 0) θ) (jv 1)) (η cH) ψ)
   (η (τ (Χ (aW (ε (fj hr (jv 1) (Α (jv 0) θ)) ζ Κ)) (fP (jv 0) θ))))),λds M q x h=> ?_⟩)
 ·obtain ⟨k,ns,d,rfl,_⟩:=h;rfl
 ·obtain ⟨k,ns,d,rfl,hk,nd,⟨d0,d1⟩,l1,h⟩:=h;have hi:d.1.toNat < ns.length:=by omega
  have en:ns[d.1.toNat]? =some (df ns d.1):=by unfold df;rw [List.getD_eq_getElem?_getD,List.getElem?_eq_getElem hi];rfl
  have ed:(Km ns.length)[d.1.toNat]? =some (.int d.1):=by unfold Km;rw [aaF,List.getElem?_range hi,show (d.1:Int)=(d.1.toNat:Nat) by omega];rfl
  have gt:=xA nd (by unfold Km;simp) en ed;have i1:B8 (ns.map ar) (ar (df ns d.1))=true:=by rw [A9,aay (aaO en)]
  walk_at "vc";refine (χ (d:=C2 ns d) rfl aT ?_:ck (C2 ns d) (.int 0) M _);refine ⟨k,_,_,ar (df ns d.1),rfl,hk,rfl,λz=> ?_,λ_=> ?_⟩
  ·rw [i1] at z;exact nomatch z
  dsimp only [Af,dw,bG,dC];refine (χ (d:=C2 ns d) rfl aT ?_:ck (C2 ns d) (.int 0) M _);refine ⟨k,_,_,ar (df ns d.1),_,rfl,hk,rfl,gt,by show 1<=sizeLine;decide, ?_⟩;refine ⟨_,1,rfl,rfl,by decide,by simp,⟨by simp, ?_⟩,h⟩;show 1+((aj d).map aR).length<=sizeLine;rw [aaa];show 1+(d.2.2.length+1)<=sizeLine;exact Β (by omega)
def Ab:DF:=λas M q _=>∃k ns r,as=[i_ ns r, .loc k]/\M[k]? =some (kN ns)/\ns.Nodup/\ze ns r/\q (Υ r) M
theorem i4:υ ["row","numbers"] ["row","numbers"] (μ gE):= .of rfl
theorem pT(F:bV K "numbered_row" "numbered_row" gE f fd)(E:Ev K mg w Cm ν CT CN){qE:Addr}{qU:FuncData}(eO:aa P w K mg base 1 "numbered_door" ["door","numbers"] wD qE qU):Τ P w K mg base (br P w) 2 f fd ["row","numbers"] (bK K Ab):=by
 refine F.cN i4 (λds M q x h=> ?_) (λaQ A outer s H E' hr=>⟨_,(δ (Θ (bC hr (Α (jv 0) θ) Ψ) (η (τ (jv 0))) ψ)
   (η (τ (aW (ε (Α (jv 0) θ) (ε (bH (ys:=["numbers"]) (Ε:=[1]) (.of i4 rfl rfl rfl) (aL (Α (jv 0) θ)) (λC s H fp=>(Λ eO hr (aM (P:=P) (w:=w)) (ae (jv 0) (ae (jv 1) ζ))))) ζ) Κ))))),λds M q x h=> ?_⟩)
 ·obtain ⟨k,ns,r,rfl,_⟩:=h;rfl
 ·obtain ⟨k,ns,r,rfl,hk,nd,aJ,h⟩:=h;cases r with
  | fin p=>exact ⟨λ_=>h,λz=>(nomatch z)⟩
  | Μ kd ds=>
   have ne:kd≠"end":=by rcases aJ.1 with rfl | rfl | rfl <;> decide
   walk_at "vc";refine ⟨λz=>aaG (aaN z) ne,λ_=> ?_⟩;have h6:=aJ.2.2.1;show ((ds.map (C2 ns)).length<=sizeLine/\cD _ _ _ (ds.map (C2 ns)) [] M _);refine ⟨by rw [aaa];exact Β (by omega), ?_⟩;refine aw (F:=λx a=>x=C2 ns a/\a∈ds) (f:=cC) trivial (λx a ha q' gU=> ?_) (bc (C2 ns) ds ds λ_ h=>h) ?_
   ·obtain ⟨rfl,ha⟩:=ha;have hd:=aJ.2.2.2 a ha;exact ⟨k,ns,a,rfl,hk,nd,hd.1,hd.2.2,gU⟩
   rw [aat];exact ⟨gV,h⟩
structure l0(ο:Fr)(ns:List (List Nat))(rows:List Rw):Prop where
 t:LZ ο ns rows
 w:∀r∈rows,Ly r
 nd:ns.Nodup
 s:bO ο=true
 n1:1<=rows.length
 g:∀r∈rows,gJ r/\da r rows.length=true
def pI(C:Addr):DF:=λas M q _=>∃ο ns rows,as=[sD (lB ο ns rows)]/\l0 ο ns rows/\q (.tup [cG C ο rows, .loc M.length]) (M++[.lst (ns.map sD),kN ns])
theorem aO:υ ["text","parts","share","places","names","numbers","rows"] ["text"] (μ jA):= .of rfl
theorem uB(F:bV K "read_floor" "read_floor" jA f fd)(E:Ev K mg w Cm ν CT CN){yD:Addr}{yh:FuncData}(iA:aa P w K mg base 4 "read_share" ["text"] qf yD yh){x4:Addr}{yM:FuncData}(gX:aa P w K mg base 6 "read_place" ["text"] oX x4 yM){zg:Addr}{zr:FuncData}(hI:aa P w K mg base 1 "numbers_of" ["names"] v_ zg zr){tT:Addr}{uU:FuncData}(fA:aa P w K mg base 2 "numbered_row" ["row","numbers"] Ab tT uU){jS:Addr}{jo:FuncData}(cx:x_ P w K mg base 5 "Floor" Cm ["self","share","rows"] (D3 Cm) jS jo):Τ P w K mg base (br P w) 7 f fd ["text"] (bK K (pI Cm)):=by
 refine F.cN aO (λds M q x h=> ?_) (λaQ A outer s H E' hr=>⟨_,(δ (π 1 aO.nd (cR (jv 0) (ε Ψ ζ aA)))
   (δ (π 2 aO.nd (Λ iA hr ξ (ε (Α (jv 1) θ) ζ Κ)))
   (δ (e9 (i:=3) aO.nd rfl (Or.inl rfl) (ys:=[]) (Ε:=[]) (.of aO rfl rfl rfl) (aL (dF (sJ (jv 1) θ))) (λC s H fp=>(Λ gX hr (aM (P:=P) (w:=w)) (ae (jv 0) ζ))))
   (δ (kZ (i:=4) aO.nd rfl (Or.inl rfl) (ys:=[]) (Ε:=[]) (.of aO rfl rfl rfl) (aL (jv 3)) (λC s H fp=>(Α (jv 0) θ)))
   (δ (π 5 aO.nd (Λ hI hr ξ (ae (jv 4) ζ)))
   (δ (e9 (i:=6) aO.nd rfl (Or.inl rfl) (ys:=["numbers"]) (Ε:=[5]) (.of aO rfl rfl rfl) (aL (jv 3)) (λC s H fp=>(Λ fA hr (aM (P:=P) (w:=w)) (ε (Α (jv 0) θ) (ae (jv 1) ζ) Κ))))
   (η (τ (aW (ε (dF (Er cx hr ξ (ae (jv 2) (ae (jv 6) ζ)))) (ae (jv 4) ζ) bb)))))))))),λds M q x h=> ?_⟩)
 ·obtain ⟨ο,ns,rows,rfl,_⟩:=h;rfl
 ·obtain ⟨ο,ns,rows,rfl,aJ,h⟩:=h;have C1:=aJ.t.2.1.1;have rl:=aJ.t.2.2.1;have fl:(lB ο ns rows).length<=100000:=by have:=wk (s:=[59,32]) (m:=2402) (kj aJ.t);rw [eZ aJ.t] at this;have:(ns.length+1) * 2402<=13 * 2402:=abA _ (by omega);show (jn [59,32] (aF ο ns rows)).length<=_;omega
  walk_at "vc";refine ⟨⟨_,rfl⟩, ?_⟩;refine (fK (c:=59) (tl:=[32]) (ps:=aF ο ns rows) LI k59 (by unfold aF;simp) (Hq aJ.t) fl ?_:eP (sD (lB ο ns rows)) [.str (Str.ofString "; ")] M _);refine (χ (d:= .lst ((aF ο ns rows).map sD)) rfl aT ?_:ck (.lst ((aF ο ns rows).map sD)) (.int 0) M _);refine ⟨ο,rfl,aJ.t.1, ?_⟩;dsimp only [d6,dg,Ni,LL,bG,dC];refine ⟨_,1,rfl,rfl, ?_⟩;refine ur (mO ((ns.zip rows).map λp=>aN ns p.1 p.2)) ?_;show ((((ns.zip rows).map λp=>aN ns p.1 p.2).map sD).length<=sizeLine/\cD _ _ _ (((ns.zip rows).map λp=>aN ns p.1 p.2).map sD) [] M _);have zl:(ns.zip rows).length<=sizeLine:=by rw [abv];exact Β (by omega)
  rw [aao];refine ⟨by rw [aaa];exact zl, ?_⟩;refine aw (F:=λx a=>x=(sD ∘ λp:List Nat×Rw=>aN ns p.1 p.2) a/\a∈ns.zip rows) (f:=λp=> .tup [sD p.1,i_ ns p.2]) trivial (λx a ha q' gU=> ?_) (bc _ _ _ λ_ h=>h) ?_
  ·obtain ⟨rfl,ha⟩:=ha;have m:=aa6 ha;exact ⟨a.1,a.2,ns,rfl,aJ.t.2.1,aJ.t.2.1.2 _ m.1,(aJ.t.2.2.2 _ m.2).1,aJ.w _ m.2,gU⟩
  rw [aat];show (((ns.zip rows).map λp=>Dt.tup [sD p.1,i_ ns p.2]).length<=sizeLine/\cD _ _ _ ((ns.zip rows).map λp=>Dt.tup [sD p.1,i_ ns p.2]) [] M _);refine ⟨by rw [aaa];exact zl, ?_⟩;refine aw (F:=λx a=>x=Dt.tup [sD a.1,i_ ns a.2]/\a∈ns.zip rows) (f:=λp=>sD p.1) trivial (λx a ha q' gU=> ?_) (bc _ _ _ λ_ h=>h) ?_
  ·obtain ⟨rfl,ha⟩:=ha;exact gU
  rw [aat,show ((ns.zip rows).map λp=>sD p.1)=ns.map sD by
   rw [show (λp:List Nat×Rw=>sD p.1)=sD ∘ Prod.fst from rfl,<-aao,List.map_fst_zip (by omega)]]
  refine ⟨M.length,ns,rfl,by simp,aJ.nd,C1, ?_⟩;show (((ns.zip rows).map λp=>Dt.tup [sD p.1,i_ ns p.2]).length<=sizeLine/\cD _ _ _ ((ns.zip rows).map λp=>Dt.tup [sD p.1,i_ ns p.2]) [] _ _);refine ⟨by rw [aaa];exact zl, ?_⟩;refine aw (F:=λx a=>x=Dt.tup [sD a.1,i_ ns a.2]/\a∈ns.zip rows) (f:=λp=>Υ p.2) trivial (λx a ha q' gU=> ?_) (bc _ _ _ λ_ h=>h) ?_
  ·obtain ⟨rfl,ha⟩:=ha;have m:=aa6 ha;exact ⟨_,ns,a.2,rfl,by simp,aJ.nd,(aJ.t.2.2.2 _ m.2).1,gU⟩
  rw [aat,show ((ns.zip rows).map λp=>Υ p.2)=rows.map Υ by
   rw [show (λp:List Nat×Rw=>Υ p.2)=Υ ∘ Prod.snd from rfl,<-aao,List.map_snd_zip (by omega)]]
  have eM:M++[MO.lst (ns.map sD)]++[kN ns]=M++[.lst (ns.map sD),kN ns]:=by simp
  rw [eM];generalize M++[MO.lst (ns.map sD),kN ns]=M2 at h;dsimp only [AJ,dE,gZ,bG];refine ⟨M2.length, .lst (rows.map Υ),ο,rows.map Υ,rows,λ_=>True,rfl,by simp,rfl,uT _ _,aJ.s,aJ.n1,by omega,aJ.g,rfl, ?_⟩;rw [show (M2++[MO.ins Cm [] []]).set M2.length (.ins Cm ["kept_share","kept_rows"] [aR ο, .lst (rows.map Υ)])=M2++[.ins Cm ["kept_share","kept_rows"] [aR ο, .lst (rows.map Υ)]] by simp [List.set_append]];refine cW (d':=cG Cm ο rows) (.OM (Nat.le_refl _) (by simp) (.cons (.old (jI ο)) (.cons (.old (iy rows)) .nil))) ?_;exact ⟨gV,h⟩
abbrev iZ:=Fr×List (List Nat)×List Rw
abbrev Kp:=List (List Nat×iZ)
def aH(n:List Nat):Kp->Option iZ
 | []=>none
 | p::r=>if p.1=n then some p.2 else aH n r
def vt(n:List Nat)(v:iZ)(kp:Kp):Kp:=kp.map λp=>if p.1=n then (p.1,v) else p
def eY(n:List Nat)(v:iZ)(kp:Kp):Kp:=if (aH n kp).isSome=true then vt n v kp else kp++[(n,v)]
def mC(n:List Nat)(kp:Kp):Kp:=kp.filter λp=>decide (p.1≠n)
def iR(kp:Kp):List Key:=kp.map λp=>ar p.1
def qG(f:iZ->Dt)(kp:Kp):List Dt:=kp.map λp=>f p.2
def kM(f:iZ->Dt)(kp:Kp):MO:= .dt (iR kp) (qG f kp)
theorem kH{a b:List Nat}(h:a≠b):ar a≠ar b:=λz=>h (oS z)
theorem vw{n:List Nat}:∀kp:Kp,B8 (iR kp) (ar n)=(aH n kp).isSome
 | []=>rfl
 | p::r=>by
  have ih:=vw (n:=n) r;unfold B8 iR at ih⊢;rw [aaB,abm,ih];have e:aH n (p::r)=if p.1=n then some p.2 else aH n r:=rfl
  rw [e];by_cases h:p.1=n
  ·rw [aaD h,h,aay rfl];rfl
  ·rw [aaA h,aaC (kH h),Bool.false_or]
theorem pE{f:iZ->Dt}{n:List Nat}:∀{kp:Kp} {v:iZ},aH n kp=some v->cF (iR kp) (qG f kp) (ar n)=some (f v)
 | [],_,h=>by cases h
 | p::r,v,h=>by
  unfold aH at h;have ih:=pE (f:=f) (n:=n) (kp:=r) (v:=v);unfold cF iR qG at ih⊢;rw [aaB,aaB,aaU];by_cases e:p.1=n
  ·rw [aaD e] at h;cases h;rw [List.find?_cons_of_pos (by rw [e];exact aay rfl)];rfl
  ·rw [aaA e] at h;rw [List.find?_cons_of_neg (by rw [aaC (kH e)];decide)];exact ih h
theorem G6{v:iZ}(kp:Kp):iR (vt n v kp)=iR kp:=by unfold iR vt;rw [aao];refine aa9 λp _=> ?_;show ar (if p.1=n then (p.1,v) else p).1=_;split <;> rfl
theorem Jd{v:iZ}(kp:Kp):fE (iR kp) (ar n)=iR (eY n v kp):=by
 unfold fE eY;rw [vw];split
 ·exact (G6 kp).symm
 ·unfold iR;rw [List.map_append];rfl
theorem Al{f:iZ->Dt}{n:List Nat}{v:iZ}:∀kp:Kp,jd (ar n) (f v) (iR kp) (qG f kp)=qG f (vt n v kp)
 | []=>rfl
 | p::r=>by
  have ih:=Al (f:=f) (n:=n) (v:=v) r;show (if ar p.1=ar n then f v else f p.2)::jd (ar n) (f v) (iR r) (qG f r)=f (if p.1=n then (p.1,v) else p).2::qG f (vt n v r);rw [ih];by_cases h:p.1=n
  ·rw [aaD h,aaD (by rw [h])]
  ·rw [aaA h,aaA (kH h)]
theorem HW{f:iZ->Dt}{v:iZ}(kp:Kp):ej (iR kp) (ar n) (qG f kp) (f v)=qG f (eY n v kp):=by
 unfold ej eY;rw [vw];split
 ·exact Al kp
 ·unfold qG;rw [List.map_append];rfl
theorem AL{n:List Nat}:∀kp:Kp,kz (iR kp) (ar n)=iR (mC n kp)
 | []=>rfl
 | p::r=>by
  have ih:=AL (n:=n) r;unfold kz iR mC at ih⊢;rw [aaB,abk,abk];by_cases h:p.1=n
  ·rw [if_neg (by rw [h];simp),if_neg (by rw [h];simp)];exact ih
  ·rw [aaD (aay (kH h)),aaD (aay h),aaB,ih]
theorem Az{f:iZ->Dt}{n:List Nat}:∀kp:Kp,dI (ar n) (iR kp) (qG f kp)=qG f (mC n kp)
 | []=>rfl
 | p::r=>by
  have ih:=Az (f:=f) (n:=n) r;show (if ar p.1=ar n then dI (ar n) (iR r) (qG f r) else f p.2::dI (ar n) (iR r) (qG f r))=qG f (mC n (p::r));rw [ih];unfold mC;rw [abk];by_cases h:p.1=n
  ·rw [if_pos (by rw [h]),if_neg (by rw [h];simp)]
  ·rw [aaA (kH h),aaD (aay h)];rfl
def d7(m:Nat)(kp:Kp):Prop:=kp.length<=m/\∀p∈kp,l0 p.2.1 p.2.2.1 p.2.2.2
theorem d7.get{m:Nat}{n:List Nat}{v:iZ}:∀{kp:Kp},d7 m kp->aH n kp=some v->l0 v.1 v.2.1 v.2.2
 | [],_,h=>by cases h
 | p::r,k,h=>by
  unfold aH at h;by_cases e:p.1=n
  ·rw [aaD e] at h;cases h;exact k.2 p aad
  ·rw [aaA e] at h;exact d7.get (m:=m) (kp:=r) ⟨by have:=k.1;rw [aaz] at this;omega,λq hq=>k.2 q (aae _ hq)⟩ h
theorem d7.put{v:iZ}{kp:Kp}(k:d7 m kp)(h:l0 v.1 v.2.1 v.2.2):d7 (m+1) (eY n v kp):=by
 unfold eY;split
 ·refine ⟨by unfold vt;rw [List.length_map];have:=k.1;omega,λp hp=> ?_⟩;obtain ⟨q,hq,rfl⟩:=aal.mp hp;by_cases e:q.1=n
  ·rw [aaD e];exact h
  ·rw [aaA e];exact k.2 q hq
 ·refine ⟨by rw [aab];have:=k.1;show _+1<=_;omega,λp hp=> ?_⟩;rcases aaK.mp hp with hp | hp
  ·exact k.2 p hp
  ·rw [abn.mp hp];exact h
theorem d7.del{kp:Kp}(k:d7 m kp):d7 (m+1) (mC n kp):=
 ⟨aaq (List.length_filter_le _ _) (by have:=k.1;omega),λp hp=>k.2 p (List.mem_filter.mp hp).1⟩
theorem d7.up{kp:Kp}(k:d7 m kp):d7 (m+1) kp:=⟨by have:=k.1;omega,k.2⟩
theorem E1{p:Fr}(h:Lw p):Lw (xW p):=⟨by show (-p.1).natAbs < _;rw [Int.natAbs_neg];exact h.1,h.2.1,h.2.2.1,by show Int.gcd (-p.1) p.2=1;rw [Int.neg_gcd];exact h.2.2.2⟩
theorem vF{k:Str}(h:k="one"\/k="other"\/k="chance"):dz k="one"\/dz k="other"\/dz k="chance":=by
 rcases h with rfl | rfl | rfl
 ·exact .inr (.inl rm)
 ·exact .inl m_
 ·exact .inr (.inr gs)
theorem E_{d:nh}(h:qJ ns d):qJ ns (jh d):=⟨h.1,λp hp=>by
 rcases aar.mp hp with rfl | hp
 ·exact E1 (h.2.1 _ aad)
 ·exact h.2.1 p (aae _ hp),h.2.2⟩
theorem FG{r:Rw}(h:ze ns r):ze ns (aS r):=by
 cases r with
 | fin p=>exact E1 h
 | Μ k ds=>
  refine ⟨vF h.1,by show 1<=(ds.map jh).length;rw [aaa];exact h.2.1,by show (ds.map jh).length<=6;rw [aaa];exact h.2.2.1,λd hd=> ?_⟩;obtain ⟨e,he,rfl⟩:=aal.mp hd;exact E_ (h.2.2.2 e he)
theorem Ff{r:Rw}(t:ze ns r)(h:Ly r):Ly (aS r):=by
 cases r with
 | fin p=>trivial
 | Μ k ds=>
  intro d hd;obtain ⟨e,he,rfl⟩:=aal.mp hd;have h:=h e he;show e.2.2.length=if dz k="chance" then 1 else 0
  rw [h];rcases t.1 with rfl | rfl | rfl <;> decide
theorem l0.rows{ο:Fr}{rows:List Rw}(h:l0 ο ns rows):pG ο rows:=⟨h.s,h.n1,by rw [h.t.2.2.1];exact h.t.2.1.1,h.g⟩
theorem l0.turn{ο:Fr}{rows:List Rw}(h:l0 ο ns rows):l0 ο ns (rows.map aS):=by
 have g:=h.rows.turn;refine ⟨⟨h.t.1,h.t.2.1,by rw [aaa];exact h.t.2.2.1,λr hr=> ?_⟩,λr hr=> ?_,h.nd,h.s,g.n1,g.row⟩
 ·obtain ⟨r',aJ,rfl⟩:=aal.mp hr;exact ⟨FG (h.t.2.2.2 r' aJ).1,(sO (h.g r' aJ)).1⟩
 ·obtain ⟨r',aJ,rfl⟩:=aal.mp hr;exact Ff (h.t.2.2.2 r' aJ).1 (h.w r' aJ)
def kD(v:iZ):iZ:=(v.1,v.2.1,v.2.2.map aS)
inductive Cd where
 | gM (n:List Nat)
 | drop (n:List Nat)
 | turn (n m:List Nat)
 | floor (n:List Nat) (v:iZ)
def JJ:List Nat:=[115,104,111,119]
def J8:List Nat:=[100,114,111,112]
def Jh:List Nat:=[116,117,114,110]
def yW:List Nat:=[102,108,111,111,114]
theorem Qw:Str.ofString "show"=mk JJ:=by decide+kernel
theorem Qe:Str.ofString "drop"=mk J8:=by decide+kernel
theorem Qd:Str.ofString "turn"=mk Jh:=by decide+kernel
theorem Nm:Str.ofString "floor"=mk yW:=by decide+kernel
def A8(v:iZ):List Nat:=lB v.1 v.2.1 v.2.2
def Ζ:Cd->List (List Nat)
 | .gM n=>[JJ,n]
 | .drop n=>[J8,n]
 | .turn n m=>[Jh,n,m]
 | .floor n v=>[yW,n,A8 v]
def Nh:Cd->Prop
 | .gM n=>gH n
 | .drop n=>gH n
 | .turn n m=>gH n/\gH m
 | .floor n v=>gH n/\l0 v.1 v.2.1 v.2.2
def x5:Cd->Kp->Option (Dt×Kp)
 | .gM n,kp=>(aH n kp).map λv=>(sD (A8 v),kp)
 | .drop n,kp=>(aH n kp).map λ_=>(.str "ok",mC n kp)
 | .turn n m,kp=>(aH m kp).map λv=>(.str "ok",eY n (kD v) kp)
 | .floor n v,kp=>some (.str "ok",eY n v kp)
theorem zZ{v:iZ}(h:l0 v.1 v.2.1 v.2.2):(A8 v).length<=90000:=by have:=wk (s:=[59,32]) (m:=2402) (kj h.t);rw [eZ h.t] at this;have C1:=h.t.2.1.1;have:(v.2.1.length+1) * 2402<=13 * 2402:=abA _ (by omega);show (jn [59,32] (aF v.1 v.2.1 v.2.2)).length<=_;omega
def GC:List Nat->List (List Nat)
 | []=>[[]]
 | c::t=>if c=32 then []::GC t else match GC t with
  | p::r=>(c::p)::r
  | []=>[[c]]
theorem Gz:∀t:List Nat,GC t≠[]/\(∀p∈GC t,32∉p)/\jn [32] (GC t)=t
 | []=>⟨by decide,λp hp=>by rw [abn.mp hp];decide,rfl⟩
 | c ::t=>by
  obtain ⟨h1,h2,h3⟩:=Gz t;unfold GC;by_cases e:c=32
  ·rw [aaD e];refine ⟨by simp,λp hp=> ?_, ?_⟩
   ·rcases aar.mp hp with rfl | hp
    ·simp
    ·exact h2 p hp
   ·cases hs:GC t with
    | nil=>exact aaG hs h1
    | cons p r=>
     rw [hs] at h3;show []++([32]++jn [32] (p::r))=c::t;rw [h3,e];rfl
  ·rw [aaA e];cases hs:GC t with
   | nil=>exact aaG hs h1
   | cons p r=>
    rw [hs] at h2 h3;refine ⟨by simp,λq hq=> ?_, ?_⟩
    ·rcases aar.mp hq with rfl | hq
     ·intro z;rcases aar.mp z with z | z
      ·exact e z.symm
      ·exact h2 p aad z
     ·exact h2 q (aae _ hq)
    ·cases r with
     | nil=>show c::p=c::t;rw [show p=t from h3]
     | cons p2 r=>
      show c::p++([32]++jn [32] (p2::r))=c::t;rw [List.cons_append,show p++([32]++jn [32] (p2::r))=t from h3]
theorem rY(h:gH n):32∉n:=λz=>by have:=h.2.2 _ z;omega
theorem wC{c:Cd}(h:Nh c):∃ps,ps≠[]/\(∀p∈ps,32∉p)/\jn [32] ps=jn [32] (Ζ c)/\ps.head?=(Ζ c).head?/\(ps=Ζ c\/(Ζ c).head?=some yW):=by
 have s0:∀w∈[JJ,J8,Jh,yW],32∉w:=by decide
 cases c with
 | gM n=>exact ⟨_,by simp [Ζ],λp hp=>by
   rcases aar.mp hp with rfl | hp
   ·exact s0 _ (by simp)
   ·rw [abn.mp hp];exact rY h,rfl,rfl, .inl rfl⟩
 | drop n=>exact ⟨_,by simp [Ζ],λp hp=>by
   rcases aar.mp hp with rfl | hp
   ·exact s0 _ (by simp)
   ·rw [abn.mp hp];exact rY h,rfl,rfl, .inl rfl⟩
 | turn n m=>exact ⟨_,by simp [Ζ],λp hp=>by
   rcases aar.mp hp with rfl | hp
   ·exact s0 _ (by simp)
   ·rcases aar.mp hp with rfl | hp
    ·exact rY h.1
    ·rw [abn.mp hp];exact rY h.2,rfl,rfl, .inl rfl⟩
 | floor n v=>
  obtain ⟨h1,h2,h3⟩:=Gz (A8 v);refine ⟨yW::n::GC (A8 v),by simp,λp hp=> ?_, ?_,rfl, .inr rfl⟩
  ·rcases aar.mp hp with rfl | hp
   ·exact s0 _ (by simp)
   ·rcases aar.mp hp with rfl | hp
    ·exact rY h.1
    ·exact h2 p hp
  ·cases hs:GC (A8 v) with
   | nil=>exact aaG hs h1
   | cons p r=>
    rw [hs] at h3;show yW++([32]++(n++([32]++jn [32] (p::r))))=yW++([32]++(n++([32]++A8 v)));rw [h3]
theorem B6{c:Cd}(h:Nh c):(jn [32] (Ζ c)).length<=91000:=by
 have l:JJ.length=4/\J8.length=4/\Jh.length=4/\yW.length=5:=by decide
 cases c with
 | gM n=>have:=h.2.1;show (JJ++([32]++n)).length<=_;simp only [List.length_append,List.length_cons,List.length_nil];omega
 | drop n=>have:=h.2.1;show (J8++([32]++n)).length<=_;simp only [List.length_append,List.length_cons,List.length_nil];omega
 | turn n m=>have:=h.1.2.1;have:=h.2.2.1;show (Jh++([32]++(n++([32]++m)))).length<=_;simp only [List.length_append,List.length_cons,List.length_nil];omega
 | floor n v=>have:=h.1.2.1;have:=zZ h.2;show (yW++([32]++(n++([32]++A8 v)))).length<=_;simp only [List.length_append,List.length_cons,List.length_nil];omega
theorem fM{k:Nat}{m:MO}(h:M[k]? =some m):M.set k m=M:=by obtain ⟨hk,e⟩:=aag.mp h;rw [<-e];exact List.set_getElem_self hk
theorem Dz{c:Cd}:∃w,(Ζ c).head?=some w/\([("floor",3),("drop",2),("turn",3),("show",2)]:List (Str×Int)).lookup (mk w)=some ((Ζ c).length:Int)/\(mk w==Str.ofString "plan")=false/\(mk w==Str.ofString "hold")=false:=by
 cases c with
 | gM n=>exact ⟨JJ,rfl,by rw [<-Qw];show _=some ((2:Nat):Int);decide+kernel,by rw [<-Qw];decide+kernel,by rw [<-Qw];decide+kernel⟩
 | drop n=>exact ⟨J8,rfl,by rw [<-Qe];show _=some ((2:Nat):Int);decide+kernel,by rw [<-Qe];decide+kernel,by rw [<-Qe];decide+kernel⟩
 | turn n m=>exact ⟨Jh,rfl,by rw [<-Qd];show _=some ((3:Nat):Int);decide+kernel,by rw [<-Qd];decide+kernel,by rw [<-Qd];decide+kernel⟩
 | floor n v=>exact ⟨yW,rfl,by rw [<-Nm];show _=some ((3:Nat):Int);decide+kernel,by rw [<-Nm];decide+kernel,by rw [<-Nm];decide+kernel⟩
theorem vc{α:Type}{f:α->Dt}{ps:List α}{p:α}(h:ps.head?=some p):gP (ps.map f) 0=some (f p):=by
 cases ps with
 | nil=>cases h
 | cons a r=>cases h;exact aT
def Eu:DF:=λas M q _=>∃c,as=[sD (jn [32] (Ζ c))]/\Nh c/\q (.lst ((Ζ c).map sD)) M
theorem ml:υ ["row","words"] ["row"] (μ pZ):= .of rfl
theorem ye(F:bV K "words_of" "words_of" pZ f fd)(E:Ev K mg w Cm ν CT CN):Τ P w K mg base (br P w) 1 f fd ["row"] (bK K Eu):=by
 refine F.cN ml (λds M q x h=> ?_) (λaQ A outer s H E' hr=>⟨_,(δ (π 1 ml.nd (cR (jv 0) (ε Ψ ζ aA)))
   (δ (hW (Θ (bC hr (Α (jv 1) θ) Ψ) (η (π 1 ml.nd (ql (jv 0) (ε Ψ (ε θ ζ aA) aA)))) ψ))
   (δ (Θ (JW.jt (i6 (GN E.qg (Α (jv 1) θ)) (fw (m7 hr (cP E.cf (ae (jv 1) ζ)) (MV E.qg (Α (jv 1) θ)))))) (η cH) ψ)
   (δ (Θ (JW.jt (Fj (xZ (Α (jv 1) θ) (zP E.gL)) (AV (sH (Α (jv 1) θ) (zP E.tP))))) (η cH) ψ)
   (η (τ (jv 1))))))),λds M q x h=> ?_⟩)
 ·obtain ⟨c,rfl,_⟩:=h;rfl
 ·obtain ⟨c,rfl,hc,h⟩:=h;obtain ⟨ps,p0,p1,p2,p3,p4⟩:=wC hc;obtain ⟨w0,hw,hl,hp,hh⟩:=Dz (c:=c);have len:=B6 hc;have l2:(Ζ c).length<=3:=by cases c <;> simp [Ζ]
  walk_at "vc";refine ⟨⟨_,rfl⟩, ?_⟩;rw [<-p2] at len⊢;refine (fK (c:=32) (tl:=[]) (ps:=ps) d9 OH p0 p1 (by omega) ?_:eP (sD (jn [32] ps)) [.str (Str.ofString " ")] M _);rw [p2] at len⊢;rw [hw] at p3;refine ⟨λρ M'=>M'=M/\ρ=[some (sD (jn [32] (Ζ c))),some (.lst ((Ζ c).map sD))], ?_, ?_⟩
  ·walk_at "vc";refine (χ (d:= .lst (ps.map sD)) rfl (vc p3) ?_:ck (.lst (ps.map sD)) (.int 0) M _);refine ⟨λz=> ?_,λz=> ?_⟩
   ·have ew:mk w0=mk yW:=by rw [<-Nm];exact aaN z
    have ew:w0=yW:=zH ew;subst ew;obtain ⟨n,v,rfl⟩:∃n v,c= .floor n v:=by
     cases c with
     | floor n v=>exact ⟨n,v,rfl⟩
     | gM n=>have hw:_=_:=hw;exact aaG (aaw hw) (by decide)
     | drop n=>have hw:_=_:=hw;exact aaG (aaw hw) (by decide)
     | turn n m=>have hw:_=_:=hw;exact aaG (aaw hw) (by decide)
    have sp:(Txt.splitMax (mk (jn [32] (Ζ (.floor n v)))) (Str.ofString " ") 2).map Dt.str=(Ζ (.floor n v)).map sD:=by
     rw [d9]
     have:=iq (x:=mk (jn [32] (Ζ (.floor n v)))) (c:=32) (tl:=[]) (l:=2) (ps:=Ζ (.floor n v)) OH (by
      rw [cq]
      exact .more (by decide) (.more (rY hc.1) (.last (.inl rfl))))
     rw [show ((2:Nat):Int)=2 from rfl] at this;rw [this,aao];rfl
    refine ⟨⟨_,rfl⟩,⟨⟨by rw [d9];rfl,by rw [ι];exact Β (by omega),by decide,by decide⟩, ?_⟩⟩;show _/\_;rw [sp];exact ⟨rfl,rfl⟩
   ·have ne:mk w0≠Str.ofString "floor":=aa2 z;have e:ps=Ζ c:=p4.resolve_right λq=>ne (by rw [Nm];rw [hw] at q;cases q;rfl);subst e;exact ⟨rfl,rfl⟩
  ·rintro ρ' M' ⟨rfl,rfl⟩;walk_at "vc";have TF:gP ((Ζ c).map sD) 0=some (sD w0):=vc hw;dsimp only [J0,Kb,dw,bG,dC,List.getElem?_cons_succ,List.getElem?_cons_zero];refine (χ (d:= .lst ((Ζ c).map sD)) rfl TF ?_:ck (.lst ((Ζ c).map sD)) (.int 0) M' _);refine ⟨mk w0,_,rfl,hl,λz=>(nomatch z),λ_=> ?_⟩;refine (dc (d:= .lst ((Ζ c).map sD)) (xs:=(Ζ c).map sD) rfl ?_:wH [.lst ((Ζ c).map sD)] M' _);refine (χ (d:= .lst ((Ζ c).map sD)) rfl TF ?_:ck (.lst ((Ζ c).map sD)) (.int 0) M' _);refine ⟨mk w0,_,rfl,hl,λz=> ?_,λ_=> ?_⟩
   ·rw [aaa] at z;simp at z
   refine (χ (d:= .lst ((Ζ c).map sD)) rfl TF ?_:ck (.lst ((Ζ c).map sD)) (.int 0) M' _);refine ⟨_,_,_,rfl,rfl,rfl,λz=> ?_,λ_=>⟨λz=>(nomatch z),λ_=>h⟩⟩;have z:((Str.ofString "plan"==mk w0) || ((Str.ofString "hold"==mk w0) || false))=true:=z;rw [abx,abx] at z;rcases z with z | z | z
   ·rw [<-eq_of_beq z,abF] at hp;cases hp
   ·rw [<-eq_of_beq z,abF] at hh;cases hh
   ·cases z
def oI:DF:=λas M q _=>∃n,as=[sD n]/\gH n/\q (sD n) M
theorem Bm:υ ["word"] ["word"] (μ o9):= .of rfl
theorem xX(F:bV K "new_name" "new_name" o9 f fd)(E:Ev K mg w Cm ν CT CN){u_:Addr}{tI:FuncData}(fW:aa P w K mg base 1 "is_name" ["text"] tW u_ tI):Τ P w K mg base (br P w) 2 f fd ["word"] (bK K oI):=by
 refine F.cN Bm (λds M q x h=> ?_) (λaQ A outer s H E' hr=>⟨_,(δ (Θ (cT (bW (Λ fW hr ξ (ae (jv 0) ζ)))) (η cH) ψ)
   (η (τ (jv 0)))),λds M q x h=> ?_⟩)
 ·obtain ⟨n,rfl,_⟩:=h;rfl
 ·obtain ⟨n,rfl,hn,h⟩:=h;exact ⟨n,rfl,hn,λz=>(nomatch z),λ_=>h⟩
def iQ(CN:Addr):DF:=λas M q x=>∃k kp n f,as=[.loc k,sD n]/\M[k]? =some (kM f kp)/\(∀v,aH n kp=some v->q (f v) M)/\(aH n kp=none->x CN [] M)
theorem yT:υ ["kept","word"] ["kept","word"] (μ mM):= .of rfl
theorem vV(F:bV K "standing" "standing" mM f fd)(E:Ev K mg w Cm ν CT CN):Τ P w K mg base (br P w) 1 f fd ["kept","word"] (bK K (iQ CN)):=by
 refine F.cN yT (λds M q x h=> ?_) (λaQ A outer s H E' hr=>⟨_,(δ (Θ (sC hr (jv 1) (jv 0)) (η (bB bT aax E.uz E.tD (ε Ψ ζ aA))) ψ)
   (η (τ (fj hr (jv 0) (jv 1))))),λds M q x h=> ?_⟩)
 ·obtain ⟨k,kp,n,f,rfl,_⟩:=h;rfl
 ·obtain ⟨k,kp,n,f,rfl,hk,h1,h2⟩:=h;refine ⟨k,_,_,ar n,rfl,hk,rfl,λz=> ?_,λz=> ?_⟩
  ·rw [vw] at z;refine ⟨by show 1<=sizeLine;decide,h2 ?_⟩;cases e:aH n kp with
   | none=>rfl
   | some v=>rw [e] at z;cases z
  ·rw [vw] at z;cases e:aH n kp with
   | none=>rw [e] at z;cases z
   | some v=>exact ⟨k,_,_,ar n,_,rfl,hk,rfl,pE e,h1 v e⟩
def fD(A:Addr)(v:iZ):Dt:= .tup [cG A v.1 v.2.2, .lst (v.2.1.map sD)]
def Fb(A CN:Addr)(c:Cd):DF:=λas M q x=>∃k kp,as=[.loc k, .lst ((Ζ c).map sD)]/\M[k]? =some (kM (fD A) kp)/\d7 900 kp/\Nh c/\(∀r,x5 c kp=some r->q r.1 (M.set k (kM (fD A) r.2)))/\(x5 c kp=none->x CN [] M)
def lE(A CN:Addr):DF:=λas M q x=>∃n v,Fb A CN (.floor n v) as M q x
def oF(A CN:Addr):DF:=λas M q x=>∃n,Fb A CN (.drop n) as M q x
def qw(A CN:Addr):DF:=λas M q x=>∃n m,Fb A CN (.turn n m) as M q x
def pe(A CN:Addr):DF:=λas M q x=>∃n,Fb A CN (.gM n) as M q x
theorem vo{f:iZ->Dt}{v:iZ}{kp:Kp}:MO.dt (fE (iR kp) (ar n)) (ej (iR kp) (ar n) (qG f kp) (f v))=kM f (eY n v kp):=by rw [Jd (v:=v),HW];rfl
theorem Fi{f:iZ->Dt}{kp:Kp}:MO.dt (kz (iR kp) (ar n)) (dI (ar n) (iR kp) (qG f kp))=kM f (mC n kp):=by rw [AL,Az];rfl
theorem nK(kp:Kp):(iR kp).length=kp.length:=by unfold iR;rw [List.length_map]
theorem oQ:υ ["kept","words","name"] ["kept","words"] (μ mi):= .of rfl
theorem wI(F:bV K "say_floor" "say_floor" mi f fd)(E:Ev K mg w Cm ν CT CN){oy:Addr}{qe:FuncData}(dU:aa P w K mg base 2 "new_name" ["word"] oI oy qe){zp:Addr}{yE:FuncData}(hU:aa P w K mg base 7 "read_floor" ["text"] (pI Cm) zp yE):Τ P w K mg base (br P w) 8 f fd ["kept","words"] (bK K (lE Cm CN)):=by
 refine F.cN oQ (λds M q x h=> ?_) (λaQ A outer s H E' hr=>⟨_,(δ (π 2 oQ.nd (Λ dU hr ξ (ε (Α (jv 1) θ) ζ Κ)))
   (δ (kX hr (jv 0) (jv 2) (dF (Λ hU hr ξ (ε (Α (jv 1) θ) ζ Κ))))
   (η (τ Ψ)))),λds M q x h=> ?_⟩)
 ·obtain ⟨n,v,k,kp,rfl,_⟩:=h;rfl
 ·obtain ⟨n,v,k,kp,rfl,hk,ko,hc,h1,h2⟩:=h;walk_at "vc";refine (χ (d:= .lst ((Ζ (.floor n v)).map sD)) rfl (Ρ (j:=1) rfl) ?_:ck (.lst ((Ζ (.floor n v)).map sD)) (.int 1) M _);refine ⟨n,rfl,hc.1, ?_⟩;dsimp only [mr];walk_at "vc";refine (χ (d:= .lst ((Ζ (.floor n v)).map sD)) rfl (Ρ (j:=2) rfl) ?_:ck (.lst ((Ζ (.floor n v)).map sD)) (.int 2) M _);refine ⟨v.1,v.2.1,v.2.2,rfl,hc.2, ?_⟩;refine cW (d':=fD Cm v) (.tup (.cons (.old ⟨jI _,iy _,trivial⟩) (.cons (.qL (Nat.le_refl _) (by simp) (dQ.old (mO _))) .nil))) ?_;have:=ko.1;refine ⟨k,_,_,ar n,rfl,hk,rfl,by rw [nK];omega, ?_⟩;rw [vo];exact h1 _ rfl
theorem A':υ ["kept","words"] ["kept","words"] (μ o5):= .of rfl
theorem xP(F:bV K "say_drop" "say_drop" o5 f fd)(E:Ev K mg w Cm ν CT CN)(bF:aa P w K mg base 1 "standing" ["kept","word"] (iQ CN) fQ fN):Τ P w K mg base (br P w) 8 f fd ["kept","words"] (bK K (oF Cm CN)):=by
 refine F.cN A' (λds M q x h=> ?_) (λaQ A outer s H E' hr=>⟨_,(δ (dJ (Λ bF hr ξ (ae (jv 0) (ε (Α (jv 1) θ) ζ Κ))))
   (δ (dJ (zJ (jv 0) (Α (jv 1) θ)))
   (η (τ Ψ)))),λds M q x h=> ?_⟩)
 ·obtain ⟨n,k,kp,rfl,_⟩:=h;rfl
 ·obtain ⟨n,k,kp,rfl,hk,ko,hc,h1,h2⟩:=h;walk_at "vc";refine (χ (d:= .lst ((Ζ (.drop n)).map sD)) rfl (Ρ (j:=1) rfl) ?_:ck (.lst ((Ζ (.drop n)).map sD)) (.int 1) M _);refine ⟨k,kp,n,_,rfl,hk,λv hv=> ?_,λe=>h2 (by show Option.map _ _=_;rw [e];rfl)⟩;dsimp only [zE];walk_at "vc";refine ⟨⟨k,_,_,rfl,hk⟩, ?_⟩;refine (χ (d:= .lst ((Ζ (.drop n)).map sD)) rfl (Ρ (j:=1) rfl) ?_:ck (.lst ((Ζ (.drop n)).map sD)) (.int 1) M _);refine ⟨k,_,_,ar n,_,rfl,hk,rfl,pE hv, ?_⟩;rw [Fi];exact h1 (.str "ok",mC n kp) (by show Option.map _ _=_;rw [hv];rfl)
theorem mj:υ ["kept","words","name","found"] ["kept","words"] (μ oP):= .of rfl
theorem yv(F:bV K "say_turn" "say_turn" oP f fd)(E:Ev K mg w Cm ν CT CN){oy:Addr}{qe:FuncData}(dU:aa P w K mg base 2 "new_name" ["word"] oI oy qe)(bF:aa P w K mg base 1 "standing" ["kept","word"] (iQ CN) fQ fN){IK:Addr}{IX:FuncData}(pK:aa P w K mg base 7 "turned" ["floor"] (AA Cm) IK IX):Τ P w K mg base (br P w) 8 f fd ["kept","words"] (bK K (qw Cm CN)):=by
 refine F.cN mj (λds M q x h=> ?_) (λaQ A outer s H E' hr=>⟨_,(δ (π 2 mj.nd (Λ dU hr ξ (ε (Α (jv 1) θ) ζ Κ)))
   (δ (π 3 mj.nd (Λ bF hr ξ (ae (jv 0) (ε (Α (jv 1) θ) ζ Κ))))
   (δ (kX hr (jv 0) (jv 2) (aW (ε (Λ pK hr ξ (ε (Α (jv 3) θ) ζ Κ)) (ε (Α (jv 3) θ) ζ Κ) bb)))
   (η (τ Ψ))))),λds M q x h=> ?_⟩)
 ·obtain ⟨n,m,k,kp,rfl,_⟩:=h;rfl
 ·obtain ⟨n,m,k,kp,rfl,hk,ko,hc,h1,h2⟩:=h;walk_at "vc";refine (χ (d:= .lst ((Ζ (.turn n m)).map sD)) rfl (Ρ (j:=1) rfl) ?_:ck (.lst ((Ζ (.turn n m)).map sD)) (.int 1) M _);refine ⟨n,rfl,hc.1, ?_⟩;walk_at "vc";refine (χ (d:= .lst ((Ζ (.turn n m)).map sD)) rfl (Ρ (j:=2) rfl) ?_:ck (.lst ((Ζ (.turn n m)).map sD)) (.int 2) M _);refine ⟨k,kp,m,_,rfl,hk,λv hv=> ?_,λe=>h2 (by show Option.map _ _=_;rw [e];rfl)⟩;dsimp only [mr];walk_at "vc";have rd:=ko.get hv;refine (χ (d:=fD Cm v) (xs:=[cG Cm v.1 v.2.2, .lst (v.2.1.map sD)]) rfl aT ?_:ck (fD Cm v) (.int 0) M _);refine ⟨v.1,v.2.2,rfl,rd.rows, ?_⟩;refine (χ (d:=fD Cm v) (xs:=[cG Cm v.1 v.2.2, .lst (v.2.1.map sD)]) rfl (Ρ (j:=1) rfl) ?_:ck (fD Cm v) (.int 1) M _);have:=ko.1;refine ⟨gV,k,_,_,ar n,rfl,hk,rfl,by rw [nK];omega, ?_⟩;have e:MO.dt (fE (iR kp) (ar n)) (ej (iR kp) (ar n) (qG (fD Cm) kp) (fD Cm (kD v)))=_:=vo;show q _ (M.set k (MO.dt (fE (iR kp) (ar n)) (ej (iR kp) (ar n) (qG (fD Cm) kp) (fD Cm (kD v)))));rw [e];exact h1 (.str "ok",eY n (kD v) kp) (by show Option.map _ _=_;rw [hv];rfl)
theorem rp:υ ["kept","words","found"] ["kept","words"] (μ pC):= .of rfl
theorem yX(F:bV K "say_show" "say_show" pC f fd)(E:Ev K mg w Cm ν CT CN)(bF:aa P w K mg base 1 "standing" ["kept","word"] (iQ CN) fQ fN){xT:Addr}{yq:FuncData}(iw:aa P w K mg base 4 "show_floor" ["floor","names"] (qd Cm) xT yq):Τ P w K mg base (br P w) 8 f fd ["kept","words"] (bK K (pe Cm CN)):=by
 refine F.cN rp (λds M q x h=> ?_) (λaQ A outer s H E' hr=>⟨_,(δ (π 2 rp.nd (Λ bF hr ξ (ae (jv 0) (ε (Α (jv 1) θ) ζ Κ))))
   (η (τ (Λ iw hr ξ (ε (Α (jv 2) θ) (ε (Α (jv 2) θ) ζ Κ) Κ))))),λds M q x h=> ?_⟩)
 ·obtain ⟨n,k,kp,rfl,_⟩:=h;rfl
 ·obtain ⟨n,k,kp,rfl,hk,ko,hc,h1,h2⟩:=h;walk_at "vc";refine (χ (d:= .lst ((Ζ (.gM n)).map sD)) rfl (Ρ (j:=1) rfl) ?_:ck (.lst ((Ζ (.gM n)).map sD)) (.int 1) M _);refine ⟨k,kp,n,_,rfl,hk,λv hv=> ?_,λe=>h2 (by show Option.map _ _=_;rw [e];rfl)⟩;walk_at "vc";have rd:=ko.get hv;refine (χ (d:=fD Cm v) (xs:=[cG Cm v.1 v.2.2, .lst (v.2.1.map sD)]) rfl aT ?_:ck (fD Cm v) (.int 0) M _);refine (χ (d:=fD Cm v) (xs:=[cG Cm v.1 v.2.2, .lst (v.2.1.map sD)]) rfl (Ρ (j:=1) rfl) ?_:ck (fD Cm v) (.int 1) M _);refine ⟨v.1,v.2.1,v.2.2,rfl,rd.t, ?_⟩;have:=h1 (sD (A8 v),kp) (by show Option.map _ _=_;rw [hv];rfl);rw [fM hk] at this;exact this
def yP(A CN:Addr):List (Str×DF):=[("floor",lE A CN),("drop",oF A CN),("turn",qw A CN),("show",pe A CN)]
theorem K2{A CN:Addr}{c:Cd}:∃w T,(Ζ c).head?=some w/\(yP A CN).lookup (mk w)=some T/\∀as M q x,Fb A CN c as M q x->T as M q x:=by
 cases c with
 | gM n=>exact ⟨JJ,pe A CN,rfl,by rw [<-Qw];rfl,λ_ _ _ _ h=>⟨n,h⟩⟩
 | drop n=>exact ⟨J8,oF A CN,rfl,by rw [<-Qe];rfl,λ_ _ _ _ h=>⟨n,h⟩⟩
 | turn n m=>exact ⟨Jh,qw A CN,rfl,by rw [<-Qd];rfl,λ_ _ _ _ h=>⟨n,m,h⟩⟩
 | floor n v=>exact ⟨yW,lE A CN,rfl,by rw [<-Nm];rfl,λ_ _ _ _ h=>⟨n,v,h⟩⟩
def JM(D:Addr):DF:=λas M q _=>∃k,as=[.loc k]/\M[k]? =some (.ins D [] [])/\q .bw ((M++[MO.dt [] []]).set k (.ins D ["kept_floors"] [.loc M.length]))
theorem yS:υ ["self"] ["self"] (μ l6):= .of rfl
theorem vy(F:bV K "__init__" "Desk.__init__" l6 f fd)(E:Ev K mg w Cm ν CT CN):Τ P w K mg base (br P w) 1 f fd ["self"] (bK K (JM ν)):=by
 refine F.cN yS (λds M q x h=> ?_) (λaQ A outer s H E' hr=>⟨_,(η (uF E.tM E.eN (jv 0) uP)),λds M q x h=> ?_⟩)
 ·obtain ⟨k,rfl,_⟩:=h;rfl
 ·obtain ⟨k,rfl,hk,h⟩:=h;refine ⟨k,[],[],rfl, ?_,by simp,by decide,h⟩;rw [aau (aag.mp hk).1];exact hk
structure oB(D A:Addr)(M:Ms)(d k:Nat)(kp:Kp):Prop where
 o:M[d]? =some (.ins D ["kept_floors"] [.loc k])
 k:M[k]? =some (kM (fD A) kp)
 ok:d7 900 kp
def O6(D A CN:Addr):DF:=λas M q x=>∃d k kp c,as=[.loc d,sD (jn [32] (Ζ c))]/\oB D A M d k kp/\Nh c/\(∀r,x5 c kp=some r->q r.1 (M.set k (kM (fD A) r.2)))/\(x5 c kp=none->x CN [] M)
theorem sy:υ ["self","row","words"] ["self","row"] (μ qb):= .of rfl
theorem y4(F:bV K "say" "Desk.say" qb f fd)(E:Ev K mg w Cm ν CT CN){EA:Addr}{D':FuncData}(mh:aa P w K mg base 1 "words_of" ["row"] Eu EA D')(lW:LX P w K mg base 8 "SAYINGS" ["kept","words"] (yP Cm CN)):Τ P w K mg base (br P w) 9 f fd ["self","row"] (bK K (O6 ν Cm CN)):=by
 refine F.cN sy (λds M q x h=> ?_) (λaQ A outer s H E' hr=>⟨_,(δ (π 2 sy.nd (Λ mh hr ξ (ae (jv 1) ζ)))
   (η (τ (KP lW hr ξ (Α (jv 2) θ) (ε (Et E.tM E.eN (jv 0)) (ae (jv 2) ζ)))))),λds M q x h=> ?_⟩)
 ·obtain ⟨d,k,kp,c,rfl,_⟩:=h;rfl
 ·obtain ⟨d,k,kp,c,rfl,hd,hc,h1,h2⟩:=h;refine ⟨c,rfl,hc, ?_⟩;obtain ⟨w0,T,hw,hT,hS⟩:=K2 (A:=Cm) (CN:=CN) (c:=c);walk_at "vc";dsimp only [J3,dw,bG,dC,dE,gZ,HI,List.map_cons,List.map_nil,List.cons_append,List.nil_append,List.set_cons_succ,List.set_cons_zero,List.getElem?_cons_succ,List.getElem?_cons_zero];refine (χ (d:= .lst ((Ζ c).map sD)) rfl (vc hw) ?_:ck (.lst ((Ζ c).map sD)) (.int 0) M _);refine ⟨mk w0,T,rfl,hT, ?_⟩;refine ⟨_,_,_, .inr ⟨d,rfl,hd.o⟩,rfl, ?_⟩;exact hS _ _ _ _ ⟨k,kp,rfl,hd.k,hd.ok,hc,h1,h2⟩
theorem Lb{i:Int}(h0:0<=i)(h1:i < 26):gP (Str.ofString "abcdefghijklmnopqrstuvwxyz").cps.toList i=some (97+i.toNat):=by rw [JR];have:=Ρ (xs:=(List.range 26).map (97+ ·)) (j:=i.toNat) (v:=97+i.toNat) (by rw [aaF,List.getElem?_range (by omega)];rfl);rwa [show ((i.toNat:Nat):Int)=i by omega] at this
theorem vf{i:Int}{q:DQ}(h0:0<=i)(h1:i < 26)(h:q (sD [97+i.toNat]) M):ck (.str (Str.ofString "abcdefghijklmnopqrstuvwxyz")) (.int i) M q:=by refine ⟨by show 26<=sizeLine;decide, ?_⟩;rw [Lb h0 h1];exact h
theorem IT(n c:Nat):uk n (mk [c])=mk (List.replicate n c):=fS (by
 rw [vY,cq]
 induction n with
 | zero=>rfl
 | succ n ih=>rw [aaY,abe,ih,aaY];rfl)
theorem rN{g:Nat->List Nat}{n:Nat}(h:∀i j,i < j->j < n->g i≠g j):((List.range n).map g).Nodup:=by refine List.pairwise_map.mpr (List.Pairwise.imp_of_mem (λ{a b} ha hb Xo=>h a b Xo (List.mem_range.mp hb)) List.pairwise_lt_range)
theorem rR{n:List Nat}:∀{ns:List (List Nat)} {i:Nat},ns.Nodup->n∉ns->(ns.set i n).Nodup
 | [],_,h,_=>h
 | m::ns,0,h,hn=>aba.mpr ⟨λz=>hn (aae _ z),(aba.mp h).2⟩
 | m::ns,i+1,h,hn=>by
  have h:=aba.mp h;refine aba.mpr ⟨λz=> ?_,rR h.2 λz=>hn (aae _ z)⟩;rcases List.mem_or_eq_of_mem_set z with z | z
  ·exact h.1 z
  ·exact hn (by rw [<-z];exact aad)
def IH(Η:Nat)(ns:List (List Nat)):Prop:=ns.length=Η/\(∀n∈ns,gH n)/\ns.Nodup
theorem rO:∀ns:List (List Nat),eJ (ns.map sD)=some (ns.map λn=>V.str (mk n))
 | []=>rfl
 | n::ns=>by show (match xh (sD n),eJ (ns.map sD) with | some v,some vs=>some (v::vs) | _,_=>none)=_;rw [rO ns];rfl
theorem Gq(n:List Nat)(ns:List (List Nat)):LF (V.str (mk n)) (ns.map λn=>V.str (mk n))=decide (n∈ns):=by
 unfold LF;rw [abp,List.any_eq_true,aaP];constructor
 ·rintro ⟨c,hc,e⟩;obtain ⟨m,hm,rfl⟩:=aal.mp hc;have e:(mk m==mk n)=true:=e;rw [<-zH (eq_of_beq e)];exact hm
 ·intro h;refine ⟨_,aal.mpr ⟨n,h,rfl⟩, ?_⟩;show (mk n==mk n)=true;exact abF _
theorem EF{j:Nat}(h:j<=st.length):Txt.slice (mk st) none (some (j:Int))=mk (st.take j):=by have e:Txt.slice (mk st) none (some (j:Int))=StrLaws.sliceText (mk st) none (some (j:Int)):=rfl;rw [e,StrLaws.sliceText_to ⟨by omega,by rw [cq];omega⟩,cq];refine fS ?_;show (st.drop 0).take ((j:Int) - 0).toNat=_;rw [List.drop_zero,show ((j:Int) - 0).toNat=j by omega]
theorem xE{j:Nat}(h:j<=st.length):Txt.slice (mk st) (some (j:Int)) none=mk (st.drop j):=by have e:Txt.slice (mk st) (some (j:Int)) none=StrLaws.sliceText (mk st) (some (j:Int)) none:=rfl;rw [e,StrLaws.sliceText_from ⟨by omega,by rw [cq];omega⟩,cq];refine fS ?_;show (st.drop (j:Int).toNat).take ((st.length:Int) - j).toNat=_;rw [abL];exact aa8 (by rw [aa3];omega)
theorem EM:∀cs:List Nat,jn [] (cs.map λc=>[c])=cs
 | []=>rfl
 | [c]=>rfl
 | c::d::r=>by have:=EM (d::r);show [c]++([]++jn [] ((d::r).map λc=>[c]))=_;rw [this];rfl
def M_(a b k:Nat):List Nat:=if k < 8 then List.replicate (k+1) a else List.replicate (k - 7) b
theorem Lh{a b n:Nat}(ha:97<=a/\a<=122)(hb:97<=b/\b<=122)(ab:a≠b)(hn:n<=12):IH n ((List.range n).map (M_ a b)):=by
 refine ⟨by simp,λy hy=> ?_,rN λi j Pj hj e=> ?_⟩
 ·obtain ⟨k,hk,rfl⟩:=aal.mp hy;have hk:=List.mem_range.mp hk;unfold M_;split
  ·refine ⟨by rw [aas];omega,by rw [aas];omega,λc hc=> ?_⟩;rw [(abK.mp hc).2];exact ha
  ·refine ⟨by rw [aas];omega,by rw [aas];omega,λc hc=> ?_⟩;rw [(abK.mp hc).2];exact hb
 ·unfold M_ at e;split at e <;> split at e
  ·have:=aa5 List.length e;rw [aas,aas] at this;omega
  ·have h1:a∈List.replicate (i+1) a:=abK.mpr ⟨by omega,rfl⟩;rw [e] at h1;exact ab (abK.mp h1).2
  ·omega
  ·have:=aa5 List.length e;rw [aas,aas] at this;omega
def Ek(st:List Nat)(cut:Nat)(a:Int)(k:Nat):List Nat:=st.take cut++[97+((a+k) % 26).toNat]++st.drop cut
theorem Lf{cut n:Nat}{a:Int}(hs:∀c∈st,97<=c/\c<=122)(h7:st.length<=7)(hc:cut<=st.length)(hn:n<=12):IH n ((List.range n).map (Ek st cut a)):=by
 refine ⟨by simp,λy hy=> ?_,rN λi j Pj hj e=> ?_⟩
 ·obtain ⟨k,hk,rfl⟩:=aal.mp hy;have l:(Ek st cut a k).length=st.length+1:=by unfold Ek;simp only [List.length_append,List.length_take,List.length_drop,List.length_cons,List.length_nil];omega
  refine ⟨by omega,by omega,λc h=> ?_⟩;unfold Ek at h;rcases aaK.mp h with h | h
  ·rcases aaK.mp h with h | h
   ·exact hs c (List.mem_of_mem_take h)
   ·have:c=97+((a+k) % 26).toNat:=by simpa using h
    omega
  ·exact hs c (abz h)
 ·unfold Ek at e;rw [aa4,aa4] at e;have e:=List.append_cancel_left e;have e:(97+((a+i) % 26).toNat)=97+((a+j) % 26).toNat:=(List.cons.inj e).1;omega
def Q9(f:Nat->Dt)(x:Dt):Dt:=match x with
 | .int j=>f j.toNat
 | _=> .bw
theorem Aw(f:Nat->Dt)(n:Nat):(eX 0 (n:Int).toNat).map (Q9 f)=(List.range n).map f:=by unfold eX;rw [aao,show (n:Int).toNat=n by omega];apply aa9;intro k _;show f (0+(k:Int)).toNat=f k;rw [show (0+(k:Int)).toNat=k by omega]
theorem wo{n:Nat}{i:Int}{q:DQ}(e:i=(n:Nat))(h1:1<=n)(h2:n<=100)(h:q (sD (List.replicate n c)) M):AK (sD [c]) (.int i) M q:=by subst e;refine ⟨⟨by omega,by omega,by rw [ι];show 1<=100;decide,by rw [ι];show 1≠0;decide⟩, ?_⟩;show q (.str (uk (n:Int).toNat (mk [c]))) M;rw [abL,IT];exact h
theorem MS{cut k:Nat}{cell:Int}{q:DQ}(s7:st.length<=7)(hc:cut<=st.length)(hq:q (sD (Ek st cut (cell / 64) k)) M):dw lQ (dw lQ (El (bG 1) none (some (bG 3))) (dw ck (bG 2) (dw FN (dw lQ (dw Hr (bG 4) (dC (.int 64))) (bG 0)) (dC (.int 26))))) (El (bG 1) (some (bG 3)) none) [some (.int (0+(k:Int))),some (sD st),some (.str (Str.ofString "abcdefghijklmnopqrstuvwxyz")),some (.int cut),some (.int cell)] M q gT:=by
 have l1:(mk st).length<=sizeLine:=by rw [ι];exact Β (by omega)
 dsimp only [dw,El,bG,dC,List.getElem?_cons_zero,List.getElem?_cons_succ,sD];refine ⟨l1,⟨by decide,bg (k:=10) (by decide)⟩,by decide,vf (aaL _ (by decide)) (aaH _ (by decide)) ?_⟩;rw [EF hc,Int.zero_add];refine ⟨by rw [ι,ι,abc];exact Β (by show _+1<=_;omega),l1, ?_⟩;rw [xE hc];refine ⟨by rw [ω,ι,ι,aab,abc,aa3];exact Β (by show _+1+_<=_;omega), ?_⟩;show q (.str (mk (st.take cut)++mk [97+((cell / 64+(k:Int)) % 26).toNat]++mk (st.drop cut))) M;rw [ω,ω];exact hq
def fJ:List (List Nat):=[[115,104,97,114,101],[111,110,101],[111,116,104,101,114],[99,104,97,110,99,101],[101,110,100]]
theorem IW:[Dt.str (Str.ofString "share"), .str (Str.ofString "one"), .str (Str.ofString "other"), .str (Str.ofString "chance"), .str (Str.ofString "end")]=fJ.map sD:=by show _=[Dt.str (mk [115,104,97,114,101]), .str (mk [111,110,101]), .str (mk [111,116,104,101,114]), .str (mk [99,104,97,110,99,101]), .str (mk [101,110,100])];rw [show Str.ofString "share"=mk [115,104,97,114,101] by decide+kernel,show Str.ofString "one"=mk [111,110,101] by decide+kernel,show Str.ofString "other"=mk [111,116,104,101,114] by decide+kernel,show Str.ofString "chance"=mk [99,104,97,110,99,101] by decide+kernel,show Str.ofString "end"=mk [101,110,100] by decide+kernel]
theorem IU:∀n∈fJ,gH n:=λn hn=>by
 have:∀n∈fJ,1<=n.length/\n.length<=8/\∀c∈n,97<=c/\c<=122:=by decide
 exact this n hn
theorem ID{Η:Nat}(h:IH Η ns)(hn:gH n)(h0:n∉ns):IH Η (ns.set i n):=by
 refine ⟨by rw [abf];exact h.1,λy hy=> ?_,rR h.2.2 h0⟩;rcases List.mem_or_eq_of_mem_set hy with hy | rfl
 ·exact h.2.1 y hy
 ·exact hn
def xV:DF:=λas M q _=>∃(cell:Int) (Η:Nat),as=[.int cell, .int Η]/\0<=cell/\cell < 10 ^ 10/\1<=Η/\Η<=12/\∀ns,IH Η ns->q (.loc M.length) (M++[.lst (ns.map sD)])
theorem az:υ ["_law_cell","_law_many","_law_letters","_law_way","_law_sign","_law_other","_law_stem","_law_cut","_law_found","_law_some","_law_k"] ["_law_cell","_law_many"] (μ lH):= .of rfl
theorem vK(F:bV K "_law_names" "_law_names" lH f fd)(E:Ev K mg w Cm ν CT CN):Τ P w K mg base (br P w) 1 f fd ["_law_cell","_law_many"] (bK K xV):=by
 refine F.cN az (λds M q x h=> ?_) (λaQ A outer s H E' hr=>⟨_,(δ (π 2 az.nd Ψ)
   (δ (π 3 az.nd (aq (jv 0) θ))
   (δ (π 0 az.nd (aX (jv 0) θ))
   (δ (Θ (bC hr (jv 3) θ) (δ (π 4 az.nd (Α (jv 2) (aq (jv 0) θ)))
   (δ (π 5 az.nd (Α (jv 2) (aq (Χ (Χ (jv 0) θ) (aq (aX (jv 0) θ) θ)) θ)))
   (η (τ (GO (ys:=["_law_sign","_law_other"]) (Ε:=[4,5]) (.of az rfl rfl rfl) (bY E.bU (ae (jv 1) ζ)) (λC s H fp=>(Ke (kK (jv 0) θ) (Gy (jv 1) (Χ (jv 0) θ)) (Gy (jv 2) (rM (jv 0) θ))))))))) ψ)
   (δ (π 6 az.nd (eI Ψ (ε (mD (ys:=["_law_letters","_law_cell"]) (Ε:=[2,0]) (.of az rfl rfl rfl) (bY E.bU (ε (aq (jv 0) θ) ζ aG)) (λC s H fp=>(Α (jv 1) (aq (Χ (aX (jv 2) θ) (fZ (jv 0) (aq (aX (jv 2) θ) θ))) θ)))) ζ)))
   (δ (π 7 az.nd (aq (aX (jv 0) θ) (Χ (cP E.cf (ae (jv 6) ζ)) θ)))
   (δ (kZ (i:=8) az.nd rfl (Or.inl rfl) (ys:=["_law_stem","_law_letters","_law_cut","_law_cell"]) (Ε:=[6,2,7,0]) (.of az rfl rfl rfl) (Ak (bY E.bU (ae (jv 1) ζ))) (λC s H fp=>(Χ (Χ (Ln (jv 1) (jv 3)) (Α (jv 2) (aq (Χ (aX (jv 4) θ) (jv 0)) θ))) (wJ (jv 1) (jv 3)))))
   (δ (hW (Θ (bC hr (jv 3) θ) (δ (π 9 az.nd (gq 3 (d:= .lst [.str "share", .str "one", .str "other", .str "chance", .str "end"]) (by rfl)))
   (η (xR (bY E.bU (ε (NP E.z4 (ae (jv 1) (ε θ ζ aA))) ζ bb)) (aV (i:=10) az.nd rfl (Or.inl rfl)) bS (η (Θ (sH (Α (jv 9) (jv 10)) (jv 8)) (η (EZ (jv 8) (aq (Χ (jv 0) (jv 10)) (jv 1)) (Α (jv 9) (jv 10)))) ψ))))) ψ))
   (η (τ (jv 8))))))))))),λds M q x h=> ?_⟩)
 ·obtain ⟨cell,Η,rfl,_⟩:=h;rfl
 ·obtain ⟨vE,Η,rfl,c0,c1,m1,Nd,h⟩:=h;have c1:vE < 10000000000:=c1;walk_at "vc";refine ⟨by decide,⟨by decide,b3⟩, ?_⟩;generalize hw:vE % 3=way;have x0:0<=vE / 3:=by omega
  have x1:vE / 3 < 10000000000:=by omega
  generalize vE / 3=cell at x0 x1⊢;refine ⟨λz=> ?_,λz=> ?_⟩
  ·refine ⟨by decide,vf (by omega) (by omega) ?_⟩;generalize ha:97+(cell % 26).toNat=a;refine ⟨⟨by decide,bg (k:=10) (by decide)⟩,by decide,by decide,vf (by omega) (by omega) ?_⟩;generalize hb:97+((cell+1+cell / 26 % 25) % 26).toNat=b;refine ⟨⟨by omega,by omega⟩,by rw [bL];exact Β (by omega), ?_⟩;refine fU (f:=Q9 λk=>sD (M_ a b k)) _ _ (λx CS q' hq=> ?_) ?_
   ·obtain ⟨k,uS,rfl⟩:=et CS;have hq:q' (sD (M_ a b (0+(k:Int)).toNat)) M:=hq;rw [show (0+(k:Int)).toNat=k by omega] at hq;unfold M_ at hq;refine ⟨λz=> ?_,λz=> ?_⟩
    ·have z:0+(k:Int) < 8:=aaN z;rw [aaD (by omega)] at hq;exact wo (n:=k+1) (by omega) (by omega) (by omega) hq
    ·have z:¬0+(k:Int) < 8:=aa2 z;rw [aaA (by omega)] at hq;exact wo (n:=k - 7) (by omega) (by omega) (by omega) hq
   ·rw [aat,Aw];have:=h _ (Lh (a:=a) (b:=b) (n:=Η) (by omega) (by omega) (by omega) Nd);rw [aao] at this;exact this
  refine ⟨⟨_,rfl⟩,by decide,⟨by omega,by omega⟩,by rw [bL];exact Β (by omega), ?_⟩;refine eQ (f:=λc:Nat=>sD [c]) (λc=>97<=c/\c<=122) _ [] (λ_ z=>(nomatch z)) (λx CS q' hq=> ?_) λst QF rC=> ?_
  ·obtain ⟨k,hk,rfl⟩:=et CS;refine ⟨⟨by decide,bg (k:=10) (by decide)⟩,⟨by decide,bg (k:=10) (by decide)⟩,by decide,⟨bg (k:=20) (by omega),bg (k:=10) (by omega)⟩,by decide,vf (aaL _ (by decide)) (aaH _ (by decide)) (hq _ ?_)⟩;have e0:=aaL (cell / 26+(0+(k:Int)) * (cell / 7 % 5)) (show (26:Int)≠0 by decide);have e1:=aaH (cell / 26+(0+(k:Int)) * (cell / 7 % 5)) (show (0:Int) < 26 by decide);omega
  have s7:st.length<=7:=by rw [QF,bL];simp;omega
  refine d8 (sl:=[]) (ps:=st.map λc=>[c]) (by decide+kernel) (by show some _=_;rw [aao];rfl) 7 1 (by rw [aaa];exact s7) (λp hp=> ?_) (by decide) ?_
  ·obtain ⟨c,_,rfl⟩:=aal.mp hp;exact aak 1
  rw [EM];have l1:(mk st).length<=sizeLine:=by rw [ι];exact Β (by omega)
  have el:((mk st).length:Int)=st.length:=by rw [ι]
  refine ⟨⟨by decide,bg (k:=10) (by decide)⟩,l1,(by omega:(0:Int) < ((mk st).length:Int)+1), ?_⟩;have m0:=aaL (cell / 8) (show ((mk st).length:Int)+1≠0 by omega);have m2:=aaH (cell / 8) (show (0:Int) < ((mk st).length:Int)+1 by omega);obtain ⟨cut,ec⟩:∃cut:Nat,cell / 8 % (((mk st).length:Int)+1)=cut:=⟨_,(Int.toNat_of_nonneg m0).symm⟩;rw [ec] at m2;rw [ec];have hc:cut<=st.length:=by omega
  dsimp only [j1,V',LY,dE,gZ,bG];refine ⟨⟨by omega,by omega⟩,by rw [bL];exact Β (by omega), ?_⟩;refine dY (f:=Q9 λk=>sD (Ek st cut (cell / 64) k)) trivial (λx CS q' hq=> ?_) ?_
  ·obtain ⟨k,uS,rfl⟩:=et CS;have hq:q' (sD (Ek st cut (cell / 64) (0+(k:Int)).toNat)) M:=hq;rw [show (0+(k:Int)).toNat=k by omega] at hq;exact MS s7 hc hq
  rw [aat,Aw];have n0:=Lf (a:=cell / 64) (n:=Η) rC s7 hc Nd;rw [show (λk=>sD (Ek st cut (cell / 64) k))=sD ∘ Ek st cut (cell / 64) from rfl,<-aao];generalize (List.range Η).map (Ek st cut (cell / 64))=V_ at n0⊢;refine ⟨λρ M'=>∃(ns:List (List Nat)) (a b:Option Dt),IH Η ns/\M'=M++[.lst (ns.map sD)]/\ρ=[some (.int cell),some (.int Η),some (.str (Str.ofString "abcdefghijklmnopqrstuvwxyz")),some (.int way),none,none,some (sD st),some (.int cut),some (.loc M.length),a,b],⟨λ_=> ?_,λ_=>⟨V_,none,none,n0,rfl,rfl⟩⟩, ?_⟩
  ·walk_at "vc";rw [IW];refine ⟨⟨by split <;> omega,by split <;> omega⟩, ?_⟩;obtain ⟨c,ec,c5⟩:∃c:Nat,(if (5:Int) < (Η:Int) then (5:Int) else Η).toNat=c/\c<=5:=⟨_,rfl,by split <;> omega⟩;rw [ec];refine kG (λxs ρ M'=>∃(n k:Nat) (ns:List (List Nat)) (b:Option Dt),xs=eX k n/\k+n=c/\IH Η ns/\M'=M++[MO.lst (ns.map sD)]/\ρ=[some (.int cell),some (.int Η),some (.str (Str.ofString "abcdefghijklmnopqrstuvwxyz")),some (.int way),none,none,some (sD st),some (.int cut),some (.loc M.length),some (.lst (fJ.map sD)),b]) (λx xs ρ M' hj r9=> ?_) (λρ M' hj=> ?_) _ _ _ ⟨c,0,V_,none,rfl,by omega,n0,rfl,rfl⟩
   ·obtain ⟨n,k,ns,b,ex,NW,hn,rfl,rfl⟩:=hj;obtain ⟨m,rfl,rfl,rfl⟩:=l_ ex;have k5:k < fJ.length:=by show k < 5;omega
    have e5:gP (fJ.map sD) (k:Int)=some (sD fJ[k]):=Ρ (by rw [aaF,aac k5];rfl);have V8:=IU fJ[k] (aa0 k5);generalize fJ[k]=wd at e5 V8;have Aq:(M++[MO.lst (ns.map sD)])[M.length]? =some (.lst (ns.map sD)):=by simp
    have sq:lF (M++[MO.lst (ns.map sD)]) (.loc M.length)=some (ns.map sD):=by show (match (M++[MO.lst (ns.map sD)])[M.length]? with | some (MO.lst xs)=>some xs | _=>none)=_;rw [Aq]
    have e1:((k:Int)+1)=((k+1:Nat):Int):=rfl;walk_at "vc";refine (χ (d:= .lst (fJ.map sD)) rfl e5 ?_:ck (.lst (fJ.map sD)) (.int (k:Int)) _ _);refine ⟨V.str (mk wd),ns.map sD,_,rfl,sq,rO ns, ?_⟩;rw [Gq];refine ⟨λz=> ?_,λz=>r9 _ _ ⟨m,k+1,ns,_,rfl,by omega,hn,rfl,rfl⟩⟩;have h0:wd∉ns:=by have z:(!decide (wd∈ns))=true:=z;rw [Bool.not_eq_true',decide_eq_false_iff_not] at z;exact z
    dsimp only [Dq,dw,bG];refine (χ (d:= .lst (fJ.map sD)) rfl e5 ?_:ck (.lst (fJ.map sD)) (.int (k:Int)) _ _);have q0:=aaL (cell+k) (show (Η:Int)≠0 by omega);have q1:=aaH (cell+k) (show (0:Int) < (Η:Int) by omega);refine ⟨(by omega:(0:Int) < (Η:Int)),M.length,(cell+k) % Η,ns.map sD,((cell+k) % Η).toNat,rfl,rfl,Aq, ?_, ?_⟩
    ·unfold GH;rw [aaa,hn.1,aaD q0,aaD q1]
    refine r9 _ _ ⟨m,k+1,ns.set ((cell+k) % Η).toNat wd,_,rfl,by omega,ID hn V8 h0, ?_,rfl⟩;rw [List.map_set];simp
   ·obtain ⟨n,k,ns,b,ex,NW,hn,rfl,rfl⟩:=hj;exact ⟨ns,_,_,hn,rfl,rfl⟩
  ·rintro ρ' M' ⟨ns,a,b,hn,rfl,rfl⟩;exact h ns hn
abbrev g8:MO:= .dt [Sum.inr "one",Sum.inr "other",Sum.inr "chance"] [.str "other", .str "one", .str "chance"]
def xb:DF:=λas M q _=>∃(rows:List Rw) (Η:Int),as=[.lst (rows.map Υ)]/\rows.length<=12/\(∀r∈rows,cg Η r)/\q (.loc (M.length+1)) (M++[g8, .lst ((rows.map aS).map Υ)])
theorem cz:υ ["_law_rows","_law_words","_law_found","_law_kind","_law_doors"] ["_law_rows"] (μ jP):= .of rfl
theorem tm(F:bV K "_law_turned" "_law_turned" jP f fd)(E:Ev K mg w Cm ν CT CN){CD:Addr}{Bl:FuncData}(gj:aa P w K mg base 1 "_law_minus" ["_law_one"] GY CD Bl):Τ P w K mg base (br P w) 2 f fd ["_law_rows"] (bK K xb):=by
 refine F.cN cz (λds M q x h=> ?_) (λaQ A outer s H E' hr=>⟨_,(δ (π 1 cz.nd (HH (kvs:=[("one","other"),("other","one"),("chance","chance")]) (oz Na Na (oz Na Na (oz Na Na HF))) (by decide+kernel)))
   (δ (π 2 cz.nd (x9 ζ))
   (δ (iN (aL (jv 0)) (mm rfl (bA (aV (i:=3) cz.nd rfl (Or.inl rfl)) (bA (aV (i:=4) cz.nd rfl (Or.inl rfl)) iM))) u7 (η (Θ (bC hr (jv 3) Ψ) (η (dJ (f_ (jv 2) (ε (aW (ae (jv 3) (ε (Λ gj hr ξ (ae (jv 4) ζ)) ζ bb))) ζ DY)))) (η (dJ (f_ (jv 2) (ε (aW (ε (fj hr (jv 1) (jv 3)) (ε (bH (ys:=[]) (Ε:=[]) (.of cz rfl rfl rfl) (aL (jv 4)) (λC s H fp=>(Χ (aW (ε (Α (jv 0) θ) (ε (Λ gj hr (aM (P:=P) (w:=w)) (ε (Α (jv 0) θ) ζ Κ)) ζ bb) Κ)) (fP (jv 0) θ)))) ζ) Κ)) ζ DY)))))))
   (η (τ (jv 2)))))),λds M q x h=> ?_⟩)
 ·obtain ⟨rows,Η,rfl,_⟩:=h;rfl
 ·obtain ⟨rows,Η,rfl,hz,ho,h⟩:=h;walk_at "vc";refine ⟨by decide, ?_⟩;refine cw (i:=0) (d:= .lst (rows.map Υ)) rfl rfl ?_;refine d_ (λxs ρ M'=>∃(done ag:List Rw) (a b:Option Dt),rows=done++ag/\xs=ag.map Υ/\M'=M++[g8, .lst ((done.map aS).map Υ)]/\ρ=[some (.lst (rows.map Υ)),some (.loc M.length),some (.loc (M.length+1)),a,b]) (λxs ρ M' hj=>trivial) (λx xs ρ M' hj r9=> ?_) (λρ M' hj=> ?_) _ _ _ ⟨[],rows,none,none,rfl,rfl,by simp,by simp⟩
  ·obtain ⟨done,ag,a,b,er,ex,rfl,rfl⟩:=hj;cases ag with
   | nil=>cases ex
   | cons r ag=>
    cases ex;have ro:cg Η r:=ho r (by rw [er];simp);have hl:(done.map aS).length<=12:=by rw [List.length_map];have:=congrArg List.length er;simp at this;omega
    have hw:(M++[g8,MO.lst ((done.map aS).map Υ)])[M.length]? =some g8:=by simp
    have hn:(M++[g8,MO.lst ((done.map aS).map Υ)])[M.length+1]? =some (.lst ((done.map aS).map Υ)):=by simp
    have P1:∀y:Dt,(M++[g8,MO.lst ((done.map aS).map Υ)]).set (M.length+1) (.lst ((done.map aS).map Υ++[y]))=M++[g8, .lst ((done.map aS).map Υ++[y])]:=λy=>by simp [List.set_append]
    cases r with
    | fin p=>
     refine ⟨λ_=> ?_,λz=>(nomatch z)⟩;refine ⟨⟨M.length+1,_,rfl,hn⟩,p,rfl,gV,M.length+1,_,_,rfl,rfl,hn,by rw [aaa];exact aa7 hl (by decide), ?_⟩;rw [P1];exact r9 _ _ ⟨done++[.fin p],ag,_,_,by rw [er];simp,rfl,by simp [aS,Υ],rfl⟩
    | Μ k ds=>
     refine ⟨λz=>aaG (aaN z) ro.1.1,λ_=> ?_⟩;refine ⟨⟨M.length+1,_,rfl,hn⟩,M.length,_,_,Sum.inr k,_,rfl,hw,rfl,Cg ro.2, ?_⟩;walk_at "vc";refine cw (i:=4) (d:= .lst (ds.map cC)) rfl rfl ⟨by rw [aaa];exact aaq ro.1.2.1 (by decide), ?_⟩;refine vO trivial (λd hd q' hq=> ?_) ?_
     ·walk_at "vc";refine (Ju ?_:ck (cC d) (.int 0) _ _);refine (JP ?_:ck (cC d) (.int 1) _ _);refine ⟨d.2.1,rfl,gV, .int d.1::aR d.2.1::d.2.2.map aR,2,rfl,rfl,by decide,by simp,⟨by simp, ?_⟩,hq⟩;show 2+(d.2.2.map aR).length<=sizeLine;rw [aaa];exact aaq (Nat.add_le_add_left (ro.1.2.2.2 d hd).1 2) (by decide)
     ·refine ⟨gV,M.length+1,_,_,rfl,rfl,hn,by rw [aaa];exact aa7 hl (by decide), ?_⟩;rw [P1];refine r9 _ _ ⟨done++[.Μ k ds],ag,_,_,by rw [er];simp,rfl, ?_,rfl⟩;simp only [List.map_append,List.map_cons,List.map_nil,aS,Υ]
  ·obtain ⟨done,ag,a,b,er,ex,rfl,rfl⟩:=hj;cases ag with
   | nil=>rw [aaQ] at er;subst er;exact h
   | cons r ag=>cases ex
def ME:DF:=λas M q _=>∃p,as=[aR p]/\Lw p/\q (sD (fr p)) M
theorem qZ:υ ["_law_one"] ["_law_one"] (μ gF):= .of rfl
theorem pM(F:bV K "_law_fraction" "_law_fraction" gF f fd)(E:Ev K mg w Cm ν CT CN):Τ P w K mg base (br P w) 1 f fd ["_law_one"] (bK K ME):=by
 refine F.cN qZ (λds M q x h=> ?_) (λaQ A outer s H E' hr=>⟨_,(δ (Θ (bC hr (Α (jv 0) θ) θ) (η (τ (zT E.mT (ε (Α (jv 0) θ) ζ Κ)))) ψ)
   (η (τ (Χ (Χ (zT E.mT (ε (Α (jv 0) θ) ζ Κ)) Ψ) (zT E.mT (ε (Α (jv 0) θ) ζ Κ)))))),λds M q x h=> ?_⟩)
 ·obtain ⟨p,rfl,_⟩:=h;rfl
 ·obtain ⟨p,rfl,⟨h1,h2,h3,_⟩,h⟩:=h;refine ⟨λhb=> ?_,λhb=> ?_⟩
  ·have C0:p.2=1:=aaN hb;have e:sD (fr p)= .str (Str.ofString (toString p.1)):=by unfold sD fr;rw [<-Vf C0]
   rw [e] at h;exact ⟨dX h1,h⟩
  ·have C0:p.2≠1:=aa2 hb;have l1:=nQ h1;have l2:=nQ h3;have e1:(Str.ofString (toString p.1)++Str.ofString "/").length<=62:=by rw [gI,rP,ω,ι,aab];show _+1<=62;omega
   refine ⟨dX h1, ?_,dX h3, ?_, ?_⟩
   ·rw [gI,rP,ι,ι];exact Β (by show _+1<=_;omega)
   ·have:(Str.ofString (toString p.2)).length<=61:=by rw [gI,ι];exact l2
    exact Β (by omega)
   ·show q (.str (Str.ofString (toString p.1)++Str.ofString "/"++Str.ofString (toString p.2))) M;rw [gI,rP,gI,Ug h2 C0];exact h
theorem Em{d:nh}{q:DQ}(hn:dH ns)(hd:qJ ns d)(h:q (sD (b8 ns d)) M):dw lQ (dw lQ (dw ck (bG 1) (dw ck (bG 0) (dC (.int 0)))) (dC (.str (Str.ofString " ")))) (IF rZ (dC (.str (Str.ofString " "))) (dE (d6 (dg (Hh (bG 0) (dC (.int 1)))) (wK ME (dE (bG 0) gZ)) []) gZ)) [some (cC d),some (.lst (ns.map sD))] M q gT:=by
 obtain ⟨n1,n2⟩:=kY hn hd.1.1 hd.1.2;have l8:=n1.2.1;have lf:(aj d).length<=2:=by have:=hd.2.2;show d.2.2.length+1<=2;omega
 dsimp only [dw,bG,dC,IF,dE,gZ,d6,dg,Hh,List.getElem?_cons_zero,List.getElem?_cons_succ];refine (χ (d:=cC d) (xs:= .int d.1::aR d.2.1::d.2.2.map aR) rfl aT ?_:ck (cC d) (.int 0) M _);refine (χ (d:= .lst (ns.map sD)) rfl n2 ?_:ck (.lst (ns.map sD)) (.int d.1) M _);refine ⟨by rw [d9,ι,ι];exact Β (by show _+1<=_;omega),⟨_,rfl⟩, ?_⟩;refine ⟨_,1,rfl,rfl,by decide,by simp, ?_⟩;show (((aj d).map aR).length<=sizeLine/\cD _ _ _ ((aj d).map aR) [] M _);refine ⟨by rw [aaa];exact Β (by omega), ?_⟩;refine aw (F:=λx a=>x=aR a/\a∈aj d) (f:=λp=>sD (fr p)) trivial (λx a ha q' gU=> ?_) (bc aR (aj d) (aj d) λ_ h=>h) ?_
 ·obtain ⟨rfl,ha⟩:=ha;exact ⟨a,rfl,hd.2.1 a ha,gU⟩
 rw [aat];have lp:∀p∈(aj d).map fr,p.length+1<=123:=λp hp=>jD hn hd p (aae _ hp);have e:b8 ns d=df ns d.1++([32]++jn [32] ((aj d).map fr)):=rfl;have ld:=ik hn hd;rw [e,aab,aab] at ld;refine d8 (ps:=(aj d).map fr) d9 (by show some _=_;rw [aao];rfl) 2 123 (by rw [aaa];exact lf) lp (by decide) ?_;refine ⟨?_, ?_⟩
 ·show (mk (df ns d.1)++Str.ofString " ").length+(mk (jn [32] ((aj d).map fr))).length<=sizeLine;rw [d9,ω,ι,ι,aab];exact Β (by omega)
 ·show q (.str (mk (df ns d.1)++Str.ofString " "++mk (jn [32] ((aj d).map fr)))) M;rw [d9,ω,ω,aa4];exact h
theorem Fc{ο:Fr}{rows:List Rw}{k:Nat}(h:k < ns.length)(h':k < rows.length):(aF ο ns rows).take (k+1+1)=(aF ο ns rows).take (k+1)++[aN ns ns[k] rows[k]]:=by
 rw [List.take_succ (i:=k+1)];have e:(aF ο ns rows)[k+1]? =some (aN ns ns[k] rows[k]):=by show (((ns.zip rows).map λp=>aN ns p.1 p.2))[k]? =_;rw [aaF,List.getElem?_zip_eq_some (z:=(ns[k],rows[k])) |>.mpr ⟨aac h,aac h'⟩];rfl
 rw [e];rfl
theorem EU:(Str.ofString " end ")=mk (32::([101,110,100]++[32])):=by decide+kernel
def Dg:DF:=λas M q _=>∃ο ns rows,as=[aR ο, .lst (rows.map Υ), .lst (ns.map sD)]/\LZ ο ns rows/\∀E,q (sD (lB ο ns rows)) (M++[E])
theorem cy:υ ["_law_share_here","_law_rows","_law_names_here","_law_parts","_law_at","_law_kind","_law_doors","_law_some"] ["_law_share_here","_law_rows","_law_names_here"] (μ qo):= .of rfl
theorem xY(F:bV K "_law_text" "_law_text" qo f fd)(E:Ev K mg w Cm ν CT CN){uW:Addr}{sT:FuncData}(b_:aa P w K mg base 1 "_law_fraction" ["_law_one"] ME uW sT):Τ P w K mg base (br P w) 2 f fd ["_law_share_here","_law_rows","_law_names_here"] (bK K Dg):=by
 refine F.cN cy (λds M q x h=> ?_) (λaQ A outer s H E' hr=>⟨_,(δ (π 3 cy.nd (x9 (ε (Χ Ψ (Λ b_ hr ξ (ae (jv 0) ζ))) ζ aG)))
   (δ (xR (bY E.bU (ε (cP E.cf (ae (jv 1) ζ)) ζ bb)) (aV (i:=4) cy.nd rfl (Or.inl rfl)) bS (δ (Ij (Α (jv 1) (jv 4)) (mm rfl (bA (aV (i:=5) cy.nd rfl (Or.inl rfl)) (bA (aV (i:=6) cy.nd rfl (Or.inl rfl)) iM))))
   (η (Θ (bC hr (jv 5) Ψ) (η (dJ (f_ (jv 3) (ε (Χ (Χ (Α (jv 2) (jv 4)) Ψ) (Λ b_ hr ξ (ae (jv 6) ζ))) ζ aG)))) (δ (e9 (i:=7) cy.nd rfl (Or.inl rfl) (ys:=["_law_names_here"]) (Ε:=[2]) (.of cy rfl rfl rfl) (aL (jv 6)) (λC s H fp=>(Χ (Χ (Α (jv 1) (Α (jv 0) θ)) Ψ) (eI Ψ (ε (bH (ys:=[]) (Ε:=[]) (.inner (xs:=["_law_way"]) (ys:=["_law_names_here"]) (Ε:=[2]) (.of cy rfl rfl rfl) rfl rfl) (aL (fP (jv 0) θ)) (λC s H fp=>(Λ b_ hr (aM (P:=P) (w:=w)) (ae (jv 0) ζ)))) ζ)))))
   (η (dJ (f_ (jv 3) (ε (Χ (Χ (Χ (Χ (Α (jv 2) (jv 4)) Ψ) (jv 5)) Ψ) (eI Ψ (ae (jv 7) ζ))) ζ aG)))))))))
   (η (τ (eI Ψ (ae (jv 3) ζ)))))),λds M q x h=> ?_⟩)
 ·obtain ⟨ο,ns,rows,rfl,_⟩:=h;rfl
 ·obtain ⟨ο,ns,rows,rfl,hf,h⟩:=h;have lf:=iB hf.1;walk_at "vc";dsimp only [J',dw,dC,wK,dE,gZ,bG];refine ⟨ο,rfl,hf.1,⟨by rw [shr,ι,ι];exact Β (by show 6+_<=_;omega), ?_⟩⟩;have C1:=hf.2.1.1;have rl:=hf.2.2.1;rw [shr,ω];refine ⟨by show 1<=sizeLine;decide, ?_⟩;refine (dc (d:= .lst (rows.map Υ)) (xs:=rows.map Υ) rfl ?_:wH [.lst (rows.map Υ)] _ _);rw [aaa];refine ⟨⟨by omega,by omega⟩, ?_⟩;refine kG (λxs ρ M'=>∃(n k:Nat) (a b c d:Option Dt),xs=eX k n/\k+n=rows.length/\M'=M++[MO.lst (((aF ο ns rows).take (k+1)).map sD)]/\ρ=[some (aR ο),some (.lst (rows.map Υ)),some (.lst (ns.map sD)),some (.loc M.length),a,b,c,d]) (λx xs ρ M' hj r9=> ?_) (λρ M' hj=> ?_) _ _ _ ⟨rows.length,0,none,none,none,none,by rw [abL];rfl,by omega,rfl,rfl⟩
  ·obtain ⟨n,k,a,b,c,d,ex,NW,rfl,rfl⟩:=hj;obtain ⟨m,rfl,rfl,rfl⟩:=l_ ex;have kr:k < rows.length:=by omega
   have kn:k < ns.length:=by omega
   have er:gP (rows.map Υ) (k:Int)=some (Υ rows[k]):=Ρ (by rw [aaF,aac kr];rfl);have en:gP (ns.map sD) (k:Int)=some (sD ns[k]):=Ρ (by rw [aaF,aac kn];rfl);have aJ:=(hf.2.2.2 rows[k] (aa0 kr)).1;have QQ:=hf.2.1.2 ns[k] (aa0 kn);have pa:=Fc (ο:=ο) kn kr;have lt:(((aF ο ns rows).take (k+1)).map sD).length < sizeLine:=by rw [aaa,abc];exact aa7 (show _<=13 by omega) (by decide)
   generalize (aF ο ns rows).take (k+1)=ps at pa lt⊢;generalize rows[k]=r at er aJ pa;generalize ns[k]=nm at en QQ pa;have Aq:(M++[MO.lst (ps.map sD)])[M.length]? =some (.lst (ps.map sD)):=by simp
   have first:∃k' xs',Dt.loc M.length= .loc k'/\(M++[MO.lst (ps.map sD)])[k']? =some (.lst xs'):=⟨_,_,rfl,Aq⟩
   have setM:(M++[MO.lst (ps.map sD)]).set M.length (.lst (ps.map sD++[sD (aN ns nm r)]))=M++[MO.lst (((aF ο ns rows).take (k+1+1)).map sD)]:=by rw [pa];simp
   have big:=nY hf.2.1 aJ;have bk:=qy aJ;have bn:=QQ.2.1;rw [Gw] at er;walk_at "vc";dsimp only [Jp];walk_at "vc";refine (χ (d:= .lst (rows.map Υ)) rfl er ?_:ck (.lst (rows.map Υ)) (.int (k:Int)) _ _);cases r with
   | fin p=>
    refine ⟨λ_=> ?_,λz=>(nomatch z)⟩;dsimp only [Ku];walk_at "vc";refine ⟨first, ?_⟩;refine (χ (d:= .lst (ns.map sD)) rfl en ?_:ck (.lst (ns.map sD)) (.int (k:Int)) _ _);have lp:=iB (p:=p) aJ;have s1:mk nm++Str.ofString " end "=mk (nm++(32::([101,110,100]++[32]))):=by rw [EU,ω]
    have e:mk nm++Str.ofString " end "++mk (fr p)=mk (aN ns nm (.fin p)):=by rw [s1,ω];unfold aN cu gS;simp only [List.append_assoc,List.cons_append,List.nil_append]
    refine ⟨by rw [EU,ι,ι];exact Β (by show _+5<=_;omega),p,rfl,aJ,⟨?_,M.length,_,_,rfl,rfl,Aq,lt, ?_⟩⟩
    ·show (mk nm++Str.ofString " end ").length+(mk (fr p)).length<=sizeLine;rw [s1,ι,ι,aab];exact Β (by show _+5+_<=_;omega)
    refine r9 _ _ ⟨m,k+1,_,_,_,_,rfl,by omega, ?_,rfl⟩;rw [<-setM];exact aa5 (λz=>(M++[MO.lst (ps.map sD)]).set M.length (.lst (ps.map sD++[Dt.str z]))) e
   | Μ kd ds=>
    have ne:kd≠"end":=by rcases aJ.1 with rfl | rfl | rfl <;> decide
    refine ⟨λz=>aaG (aaN z) ne,λ_=> ?_⟩;have h6:=aJ.2.2.1;show ((ds.map cC).length<=sizeLine/\cD _ _ _ (ds.map cC) [] (M++[MO.lst (ps.map sD)]) _);refine ⟨by rw [aaa];exact Β (by omega), ?_⟩;refine aw (F:=λx a=>x=cC a/\a∈ds) (f:=λd=>sD (b8 ns d)) trivial (λx a ha q' gU=> ?_) (bc cC ds ds λ_ h=>h) ?_
    ·obtain ⟨rfl,ha⟩:=ha;exact Em hf.2.1 (aJ.2.2.2 a ha) gU
    rw [aat];dsimp only [Ku];walk_at "vc";refine ⟨first, ?_⟩;refine (χ (d:= .lst (ns.map sD)) rfl en ?_:ck (.lst (ns.map sD)) (.int (k:Int)) _ _);have e1:mk nm++Str.ofString " "=mk (nm++[32]):=by rw [d9,ω]
    have e2:mk nm++Str.ofString " "++kd=mk (nm++[32]++kd.cps.toList):=by rw [e1];exact ω (nm++[32]) kd.cps.toList
    have e3:mk nm++Str.ofString " "++kd++Str.ofString " "=mk (nm++[32]++kd.cps.toList++[32]):=by rw [e2,d9,ω]
    have e4:mk nm++Str.ofString " "++kd++Str.ofString " "++mk (gS ns (.Μ kd ds))=mk (aN ns nm (.Μ kd ds)):=by rw [e3,ω];unfold aN;show _=mk (nm++32::(kd.cps.toList++32::gS ns (.Μ kd ds)));simp only [List.append_assoc,List.cons_append,List.nil_append]
    have lk:kd.length<=6:=by have:kd.cps.toList.length=kd.length:=aaX;have bk:kd.cps.toList.length<=6:=bk;omega
    have lk2:kd.cps.toList.length<=6:=bk;refine ⟨by rw [d9,ι,ι];exact Β (by show _+1<=_;omega), ?_, ?_,⟨_,rfl⟩, ?_⟩
    ·show (mk nm++Str.ofString " ").length+kd.length<=sizeLine;rw [e1,ι,aab];exact Β (by show _+1+_<=_;omega)
    ·show (mk nm++Str.ofString " "++kd).length+(Str.ofString " ").length<=sizeLine;rw [e2,d9,ι,ι,aab,aab];exact Β (by show _+1+_+1<=_;omega)
    refine d8 (ps:=ds.map (b8 ns)) Ll (by show some _=_;rw [aao];rfl) 6 400 (by rw [aaa];exact h6) (λp hp=> ?_) (by decide) ⟨?_,M.length,_,_,rfl,rfl,Aq,lt, ?_⟩
    ·obtain ⟨d,hd,rfl⟩:=aal.mp hp;have:=ik hf.2.1 (aJ.2.2.2 d hd);show _+2<=400;omega
    ·show (mk nm++Str.ofString " "++kd++Str.ofString " ").length+(mk (gS ns (.Μ kd ds))).length<=sizeLine;rw [e3,ι,ι];simp only [List.length_append];exact Β (by show _+1+_+1+_<=_;omega)
    refine r9 _ _ ⟨m,k+1,_,_,_,_,rfl,by omega, ?_,rfl⟩;rw [<-setM];exact aa5 (λz=>(M++[MO.lst (ps.map sD)]).set M.length (.lst (ps.map sD++[Dt.str z]))) e4
  ·obtain ⟨n,k,a,b,c,d,ex,NW,rfl,rfl⟩:=hj;have hn:n=0:=by have:=aa5 List.length ex;unfold eX at this;simpa using this.symm
   subst hn;have el:=eZ hf;rw [aa8 (by omega)];have sq:ya (M++[MO.lst ((aF ο ns rows).map sD)]) (.loc M.length)=some ((aF ο ns rows).map sD):=by show (match (M++[MO.lst ((aF ο ns rows).map sD)])[M.length]? with | some (MO.lst xs)=>some xs | _=>none)=_;rw [show (M++[MO.lst ((aF ο ns rows).map sD)])[M.length]? =some (.lst ((aF ο ns rows).map sD)) by simp]
   exact ⟨⟨_,rfl⟩,d8 (ps:=aF ο ns rows) LI sq 13 2402 (by omega) (kj hf) (by decide) (h _)⟩
theorem An:∀{l:List Int},(∀w∈l,0 < w)->l≠[]->0 < l.sum
 | [],_,z=>aaG rfl z
 | [a],h,_=>by have:=h a List.mem_cons_self;simpa using this
 | a::b::l,h,_=>by have h1:=h a aad;have h2:=An (l:=b::l) (λw hw=>h w (List.mem_cons_of_mem _ hw)) (by simp);rw [List.sum_cons];omega
theorem BL{a b c:Dt}(h0:0<=j)(h1:j < 3):∃y,gP [a,b,c] j=some y/\(y=a\/y=b\/y=c):=by
 have h:j=0\/j=1\/j=2:=by omega
 rcases h with rfl | rfl | rfl
 ·exact ⟨a,rfl, .inl rfl⟩
 ·exact ⟨b,rfl, .inr (.inl rfl)⟩
 ·exact ⟨c,rfl, .inr (.inr rfl)⟩
def Dk:DF:=λas M q _=>∃(xs:List Int) (Η:Int),as=[.lst (xs.map .int), .int Η]/\xs.length=16/\(∀x∈xs,Ent x)/\1<=Η/\Η<=12/\∀r,cg Η r->QO r->q (Υ r) M
theorem bf:υ ["_law_xs","_law_many","_law_kind","_law_size","_law_doors","_law_most","_law_weights"] ["_law_xs","_law_many"] (μ mI):= .of rfl
theorem wu(F:bV K "_law_small" "_law_small" mI f fd)(E:Ev K mg w Cm ν CT CN){Hf:Addr}{Ji:FuncData}(kS:aa P w K mg base 3 "_law_pay" ["_law_number","_law_other"] J1 Hf Ji)(aE:aa P w K mg base 2 "_law_lowest" ["_law_top","_law_bottom"] Iq eS eL):Τ P w K mg base (br P w) 4 f fd ["_law_xs","_law_many"] (bK K Dk):=by
 refine F.cN bf (λds M q x h=> ?_) (λaQ A outer s H E' hr=>⟨_,(δ (π 2 bf.nd (Α (gq 3 (d:= .lst [.str "one", .str "other", .str "chance", .str "end"]) (by rfl)) (aq (Α (jv 0) θ) θ)))
   (δ (Θ (bC hr (jv 2) Ψ) (η (τ (aW (ae (jv 2) (ε (Λ kS hr ξ (ε (Α (jv 0) θ) (ε (Α (jv 0) θ) ζ Κ) Κ)) ζ bb))))) ψ)
   (δ (π 3 bf.nd (Χ θ (aq (Α (jv 0) θ) θ)))
   (δ (π 4 bf.nd (mD (ys:=["_law_many","_law_xs"]) (Ε:=[1,0]) (.of bf rfl rfl rfl) (bY E.bU (ae (jv 3) ζ)) (λC s H fp=>(aW (ε (aq (Α (jv 2) (Χ θ (fZ θ (jv 0)))) (jv 1)) (ε (Λ kS hr (aM (P:=P) (w:=w)) (ε (Α (jv 2) (Χ θ (fZ θ (jv 0)))) (ε (Α (jv 2) (Χ θ (fZ θ (jv 0)))) ζ Κ) Κ)) ζ bb) aG)))))
   (δ (hW (Θ (bC hr (jv 2) Ψ) (δ (π 5 bf.nd (Α (gq 3 (d:= .lst [.int 1, .int 3, .int 1000]) (by rfl)) (aq (aX (Α (jv 0) θ) θ) θ)))
   (δ (π 6 bf.nd (mD (ys:=["_law_most","_law_xs"]) (Ε:=[5,0]) (.of bf rfl rfl rfl) (bY E.bU (ae (jv 3) ζ)) (λC s H fp=>(Χ θ (aq (Α (jv 2) (Χ θ (jv 0))) (jv 1))))))
   (η (π 4 bf.nd (mD (ys:=["_law_doors","_law_weights"]) (Ε:=[4,6]) (.of bf rfl rfl rfl) (bY E.bU (ae (jv 3) ζ)) (λC s H fp=>(Χ (Α (jv 1) (jv 0)) (aW (ε (Λ aE hr (aM (P:=P) (w:=w)) (ε (Α (jv 2) (jv 0)) (ε (Kc E.xr (ae (jv 2) ζ)) ζ bb) Κ)) ζ bb))))))))) ψ))
   (η (τ (aW (ae (jv 2) (ae (jv 4) ζ)))))))))),λds M q x h=> ?_⟩)
 ·obtain ⟨xs,Η,rfl,_⟩:=h;rfl
 ·obtain ⟨xs,Η,rfl,hl,hx,m1,Nd,h⟩:=h;walk_at "vc";obtain ⟨y0,WD,y00,y01⟩:=ff hx (j:=0) (by decide) (by omega);obtain ⟨y1,Vc,y10,y11⟩:=ff hx (j:=1) (by decide) (by omega);obtain ⟨y2,Y1,LJ⟩:=ff hx (j:=2) (by decide) (by omega);obtain ⟨y3,Xx,hy3⟩:=ff hx (j:=3) (by decide) (by omega);refine χ rfl WD ⟨by decide, ?_⟩;obtain ⟨d,ed,hd⟩:=xB (a:= .str "one") (b:= .str "other") (c:= .str "chance") (d:= .str "end") (j:=y0 % 4) (by omega) (by omega);refine χ rfl ed ?_;obtain ⟨kd,rfl,hk⟩:∃kd:Str,d= .str kd/\(aK kd=true\/kd="chance"\/kd="end"):=by
   rcases hd with rfl | rfl | rfl | rfl
   ·exact ⟨_,rfl, .inl (by decide)⟩
   ·exact ⟨_,rfl, .inl (by decide)⟩
   ·exact ⟨_,rfl, .inr (.inl rfl)⟩
   ·exact ⟨_,rfl, .inr (.inr rfl)⟩
  refine ⟨λz=> ?_,λz=> ?_⟩
  ·have z:kd="end":=aaN z;subst z;refine χ rfl Y1 (χ rfl Xx ⟨y2,y3,rfl,LJ,hy3,λp hp hb hg=> ?_⟩);exact ⟨gV,h (.fin p) ⟨hb,hp⟩ (E4 hp hb hg)⟩
  have hk:aK kd=true\/kd="chance":=by
   rcases hk with hk | hk | hk
   ·exact .inl hk
   ·exact .inr hk
   ·exact aaG hk (aa2 z)
  refine (χ (d:= .lst (xs.map .int)) rfl Vc ?_:ck (.lst (xs.map .int)) (.int 1) M _);refine ⟨by decide, ?_⟩;obtain ⟨n,en,n1,n2⟩:∃n:Nat,(1+y1 % 2:Int)=n/\1<=n/\n<=2:=⟨(1+y1 % 2).toNat,by omega,by omega,by omega⟩;dsimp only [lQ];rw [en];refine ⟨⟨by omega,by omega⟩,by rw [bL];exact aaq (show _<=6 by omega) (by decide), ?_⟩;refine eQ (f:=cC) (λd=>(aB d.1 d.2.1 Η=true/\d.2.2=[]/\0 < d.2.1.2)/\Lw d.2.1) _ [] (λ_ z=>(nomatch z)) (λx CS q' hq=> ?_) λds QF S9=> ?_
  ·obtain ⟨k,uS,rfl⟩:=et CS;have hk6:(k:Int) < 2:=by omega
   have bk:iK (0+(k:Int)):=bg (k:=10) (by omega);obtain ⟨a1,YX,QS,Vi⟩:=ff hx (j:=2+3 * (0+(k:Int))) (by omega) (by omega);obtain ⟨a2,Yy,ha2⟩:=ff hx (j:=3+3 * (0+(k:Int))) (by omega) (by omega);obtain ⟨a3,Y',XH⟩:=ff hx (j:=4+3 * (0+(k:Int))) (by omega) (by omega);refine ⟨⟨b3,bk⟩, ?_⟩;dsimp only [lQ];refine χ (d:= .lst (xs.map .int)) rfl YX ?_;refine ⟨by omega,⟨b3,bk⟩, ?_⟩;dsimp only [lQ];refine χ (d:= .lst (xs.map .int)) rfl Yy ?_;refine ⟨⟨b3,bk⟩, ?_⟩;dsimp only [lQ];refine χ (d:= .lst (xs.map .int)) rfl Y' ?_;refine ⟨a2,a3,rfl,ha2,XH,λp hp hb hg=>⟨gV,hq (a1 % Η,p,[]) ⟨⟨IQ (aaL _ (by omega)) (aaH _ (by omega)) hp,rfl,hb⟩,E4 hp hb hg⟩⟩⟩
  have hw:=λd hd=>(S9 d hd).1;have QF:ds.length=n:=by rw [QF,bL];simp
  refine ⟨λρ M2=>M2=M/\∃CZ a b,(cg Η (.Μ kd CZ)/\QO (.Μ kd CZ))/\ρ=[some (.lst (xs.map .int)),some (.int Η),some (.str kd),some (.int n),some (.lst (CZ.map cC)),a,b],⟨λhc=> ?_,λhc=> ?_⟩, ?_⟩
  ·have hc:kd="chance":=aaN hc;subst hc;walk_at "vc";refine (χ (d:= .lst (xs.map .int)) rfl Vc ?_:ck (.lst (xs.map .int)) (.int 1) M _);refine ⟨⟨by decide,bg (k:=5) (by decide)⟩,by decide, ?_⟩;obtain ⟨d3,Z7,Xf⟩:=BL (a:= .int 1) (b:= .int 3) (c:= .int 1000) (j:=y1 / 2 % 3) (by omega) (by omega);refine (χ (d:= .lst [.int 1, .int 3, .int 1000]) rfl Z7 ?_:ck (.lst [.int 1, .int 3, .int 1000]) (.int (y1 / 2 % 3)) M _);obtain ⟨mo,rfl,V3,mo1⟩:∃m:Int,d3= .int m/\0 < m/\m<=1000:=by
    rcases Xf with rfl | rfl | rfl
    ·exact ⟨_,rfl,by decide,by decide⟩
    ·exact ⟨_,rfl,by decide,by decide⟩
    ·exact ⟨_,rfl,by decide,by decide⟩
   refine ⟨⟨by omega,by omega⟩,by rw [bL];exact aaq (show _<=6 by omega) (by decide), ?_⟩;refine eQ (f:=Dt.int) (λw=>0 < w/\w<=1000) _ [] (λ_ z=>(nomatch z)) (λx CS q' hq=> ?_) λws BY Qt=> ?_
   ·obtain ⟨k,uS,rfl⟩:=et CS;have hk6:(k:Int) < 2:=by omega
    obtain ⟨y,ey,y0',y1'⟩:=ff hx (j:=9+(0+(k:Int))) (by omega) (by omega);show ck (.lst (xs.map .int)) (.int (9+(0+(k:Int)))) M (λd1 M1=>FN d1 (.int mo) M1 λd2 M2=>lQ (.int 1) d2 M2 q');refine χ (d:= .lst (xs.map .int)) rfl ey ?_;refine ⟨V3,hq _ ?_⟩;have e0:=aaL y (show mo≠0 by omega);have e1:=aaH y V3;omega
   have BY:ws.length=n:=by rw [BY,bL];simp
   have hS:ws.sum<=2000:=by have:=Gn λw K6=>(Qt w K6).2;rw [BY] at this;omega
   have hn:ws≠[]:=λz=>by rw [z] at BY;simp at BY;omega
   obtain ⟨c1,c2⟩:=ym (S:=ws.sum) rfl (λw K6=>(Qt w K6).1) hn (by omega) (by omega);have SQ:=An (λw K6=>(Qt w K6).1) hn;have UU:∀c∈ws.map λw=>aD w ws.sum,Lw c:=λc hc=>by
    obtain ⟨w,K6,rfl⟩:=aal.mp hc;have w1:=Qt w K6;have l1:=pB (t:=w) (show ws.sum≠0 by omega);have l2:=ke (t:=w) (show ws.sum≠0 by omega);have e1:1000000 < 10 ^ 60:=by decide
    exact ⟨by omega,cc (by omega),by omega,fV (by omega)⟩
   obtain ⟨cs,Up⟩:∃cs,cs=ws.map λw=>aD w ws.sum:=⟨_,rfl⟩;have hcl:cs.length=n:=by rw [Up,aaa,BY]
   rw [<-Up] at UU c1 c2;walk_at "vc";refine ⟨⟨by omega,by omega⟩,by rw [bL];exact aaq (show _<=6 by omega) (by decide), ?_⟩
   let zd:Nat->nh:=λj=>((ds.getD j (0,(0,1),[])).1,(ds.getD j (0,(0,1),[])).2.1,[cs.getD j (0,1)])
   refine fU (f:=λx=>match x with | .int j=>cC (zd j.toNat) | _=> .bw) _ _ (λx CS q' hq=> ?_) ?_
   ·obtain ⟨k,uS,rfl⟩:=et CS;have Sf:k < ds.length:=by omega
    have kw:k < ws.length:=by omega
    have kc:k < cs.length:=by omega
    have e1:gP (ds.map cC) (0+(k:Int))=some (cC ds[k]):=by rw [Int.zero_add];exact Ρ (by rw [aaF,aac Sf];rfl)
    have e2:gP (ws.map Dt.int) (0+(k:Int))=some (.int ws[k]):=by rw [Int.zero_add];exact Ρ (by rw [aaF,aac kw];rfl)
    have UB:=(hw ds[k] (aa0 Sf)).2.1;have ec:cs[k]=aD ws[k] ws.sum:=by simp [Up]
    have ez:zd (0+(k:Int)).toNat=(ds[k].1,ds[k].2.1,[cs[k]]):=by rw [show (0+(k:Int)).toNat=k by omega];show ((ds.getD k (0,(0,1),[])).1,(ds.getD k (0,(0,1),[])).2.1,[cs.getD k (0,1)])=_;rw [aaS,aac Sf,aaS,aac kc];rfl
    have hq:q' (cC (zd (0+(k:Int)).toNat)) M:=hq;rw [ez,ec] at hq;walk_at "vc";refine (χ (d:= .lst (ds.map cC)) rfl e1 ?_:ck (.lst (ds.map cC)) (.int (0+(k:Int))) M _);refine (χ (d:= .lst (ws.map .int)) rfl e2 ?_:ck (.lst (ws.map .int)) (.int (0+(k:Int))) M _);refine ⟨ws,rfl,⟨_,_,rfl⟩,ws[k],ws.sum,rfl,SQ,bg (k:=20) (by omega),by show 1<=sizeLine;decide, ?_⟩;have ed:cC ds[k]= .tup [.int ds[k].1,aR ds[k].2.1]:=by unfold cC;rw [UB];rfl
    rw [ed];exact ⟨⟨by simp,by show 3<=sizeLine;decide⟩,hq⟩
   ·refine ⟨rfl,(List.range n).map zd,some (.int mo),some (.lst (ws.map .int)), ?_, ?_⟩
    ·have hlen:((List.range n).map zd).length=n:=by simp
     have get:∀d∈(List.range n).map zd,∃k,∃(h1:k < ds.length) (h2:k < cs.length),d=(ds[k].1,ds[k].2.1,[cs[k]]):=λd hd=>by obtain ⟨k,uS,rfl⟩:=aal.mp hd;have uS:=List.mem_range.mp uS;refine ⟨k,by omega,by omega, ?_⟩;show ((ds.getD k (0,(0,1),[])).1,(ds.getD k (0,(0,1),[])).2.1,[cs.getD k (0,1)])=_;rw [aaS,aac (show k < ds.length by omega),aaS,aac (show k < cs.length by omega)];rfl
     have Pk:((List.range n).map zd).map ak=cs:=by
      rw [aao];apply List.ext_getElem
      ·simp [hcl]
      ·intro i h1 h2;simp only [List.getElem_map,List.getElem_range,Function.comp];show cs.getD i (0,1)=cs[i];rw [aaS,aac h2];rfl
     refine ⟨?_,⟨λd hd=>by
      obtain ⟨k,h1,h2,rfl⟩:=get d hd;refine ⟨(S9 ds[k] (aa0 h1)).2,λc hc=> ?_⟩;have hc:c∈[cs[k]]:=hc;rw [abn.mp hc]
      exact UU _ (aa0 h2),λz=>aaG rfl z⟩⟩
     refine BS (by omega) (by omega) (λd hd=> ?_) (λd hd=> ?_) (by rw [Pk];exact c1) (by rw [Pk];exact c2) (λd hd=> ?_)
     ·obtain ⟨k,h1,h2,rfl⟩:=get d hd;exact (hw ds[k] (aa0 h1)).1
     ·obtain ⟨k,h1,h2,rfl⟩:=get d hd;rfl
     ·obtain ⟨k,h1,h2,rfl⟩:=get d hd;exact (hw ds[k] (aa0 h1)).2.2
    ·have ef:(eX 0 ((n:Int).toNat)).map (λx=>match x with | .int j=>cC (zd j.toNat) | _=> .bw)=((List.range n).map zd).map cC:=by unfold eX;rw [aao,aao,show (n:Int).toNat=n by omega];apply aa9;intro k _;show cC (zd (0+(k:Int)).toNat)=cC (zd k);rw [show (0+(k:Int)).toNat=k by omega]
     rw [aat,ef];rfl
  ·have hc:kd≠"chance":=aa2 hc;have hh:aK kd=true:=hk.resolve_right hc;exact ⟨rfl,ds,none,none,⟨IB hh (by omega) (by omega) (λd hd=>(hw d hd).1) λd hd=>(hw d hd).2,⟨λd hd=>⟨(S9 d hd).2,λc hc=>by rw [(hw d hd).2.1] at hc;cases hc⟩,λ_ d hd=>(hw d hd).2.1⟩⟩,rfl⟩
  ·rintro ρ2 M2 ⟨rfl,CZ,a,b,hg,rfl⟩;exact ⟨gV,h _ hg.1 hg.2⟩
def lD(v:iZ):Dt:= .tup [aR v.1, .lst (v.2.2.map Υ), .lst (v.2.1.map sD)]
def QG:Dt:= .tup [.str "refused"]
def vD(D A:Addr):DF:=λas M q _=>∃d k kp c,as=[.loc d,sD (jn [32] (Ζ c))]/\oB D A M d k kp/\Nh c/\(∀r,x5 c kp=some r->q r.1 (M.set k (kM (fD A) r.2)))/\(x5 c kp=none->q QG M)
theorem fX:υ ["_law_desk","_law_row","_law_found","_law_refused"] ["_law_desk","_law_row"] (μ qc):= .of rfl
theorem yk(F:bV K "_law_said" "_law_said" qc f fd)(E:Ev K mg w Cm ν CT CN){Fl:Addr}{D5:FuncData}(lA:qS P w K mg base 9 ν "say" ["self","row"] (O6 ν Cm CN) Fl D5):Τ P w K mg base (br P w) 10 f fd ["_law_desk","_law_row"] (bK K (vD ν Cm)):=by
 refine F.cN fX (λds M q x h=> ?_) (λaQ A outer s H E' hr=>⟨_,(δ (π 2 fX.nd Eg)
   (δ (π 3 fX.nd GG)
   (δ (GZ E.uz (by decide+kernel) E.tD (λR γ=>(η (π 2 fX.nd (MG lA hr HS (jv 0) (ae (jv 1) ζ))))) (λx pn=>(η (π 3 fX.nd GG))))
   (δ (Θ (bW (jv 3)) (η (τ (aW (ε Ψ ζ aA)))) ψ)
   (η (τ (jv 2))))))),λds M q x h=> ?_⟩)
 ·obtain ⟨d,k,kp,c,rfl,_⟩:=h;rfl
 ·obtain ⟨d,k,kp,c,rfl,hd,hc,h1,h2⟩:=h;walk_at "vc";dsimp only [Jx];walk_at "vc";refine ⟨⟨_,_, .inr ⟨d,rfl,hd.o⟩,rfl⟩,d,k,kp,c,rfl,hd,hc,λr aJ=> ?_,λe=> ?_⟩
  ·exact ⟨λz=>(nomatch z),λ_=>h1 r aJ⟩
  ·refine ⟨E.AN, ?_⟩;exact ⟨λ_=>⟨by show 1<=sizeLine;decide,h2 e⟩,λz=>(nomatch z)⟩
def Q5:DF:=λas M q _=>(as=[QG, .bw]\/∃z,as=[.str z, .str z])/\q (.bl true) M
theorem GS:υ ["_law_found","_law_due"] ["_law_found","_law_due"] (μ xN):= .of rfl
theorem EJ(F:bV K "_law_is" "_law_is" xN f fd)(E:Ev K mg w Cm ν CT CN):Τ P w K mg base (br P w) 1 f fd ["_law_found","_law_due"] (bK K Q5):=by
 refine F.cN GS (λds M q x h=> ?_) (λaQ A outer s H E' hr=>⟨_,(δ (Θ (LS (jv 1) Eg) (η (τ (eG (Ka K E.cM (ae (jv 0) (ae (Om E.j9 ni) ζ))) (h_ (LM hr (jv 0) (aW (ε Ψ ζ aA))))))) ψ)
   (η (τ (eG (Ka K E.cM (ae (jv 0) (ae (Om E.mT rK) ζ))) (h_ (LM hr (jv 0) (jv 1))))))),λds M q x h=> ?_⟩)
 ·obtain ⟨rfl | ⟨z,rfl⟩,_⟩:=h <;> rfl
 ·obtain ⟨rfl | ⟨z,rfl⟩,h⟩:=h
  ·refine ⟨rfl,λ_=> ?_,λz=>(nomatch z)⟩;walk_at "vc";refine (AG (d:=QG) (c:= .ty "tuple") rfl rfl Ez ?_:Cz K [QG, .ty "tuple"] M _);refine ⟨λ_=>⟨by show 1<=sizeLine;decide, ?_⟩,λz=>(nomatch z)⟩;have e:lU [V.str "refused"] [V.str "refused"]=true:=by decide+kernel
   show q (.bl (lU [V.str "refused"] [V.str "refused"])) M;rw [e];exact h
  ·refine ⟨rfl,λz=>(nomatch z),λ_=> ?_⟩;walk_at "vc";refine (AG (d:= .str z) (c:= .ty "str") rfl rfl Ez ?_:Cz K [.str z, .ty "str"] M _);refine ⟨λ_=> ?_,λz=>(nomatch z)⟩;show q (.bl (decide (z=z))) M;rw [aay rfl];exact h
theorem XM(a b:List Nat):jn [32] [a,b]=a++(32::b):=rfl
theorem X5(a b c:List Nat):jn [32] [a,b,c]=a++(32::(b++(32::c))):=rfl
theorem V2:Str.ofString "show "=mk (JJ++[32]):=by decide+kernel
theorem Ve:Str.ofString "drop "=mk (J8++[32]):=by decide+kernel
theorem QI:Str.ofString "turn "=mk (Jh++[32]):=by decide+kernel
theorem Qf:Str.ofString "floor "=mk (yW++[32]):=by decide+kernel
theorem O5(a n:List Nat):mk (a++[32])++mk n=mk (jn [32] [a,n]):=by rw [ω,XM,aa4];rfl
theorem NT(a n m:List Nat):mk (a++[32])++mk n++Str.ofString " "++mk m=mk (jn [32] [a,n,m]):=by rw [d9,ω,ω,ω,X5];simp only [List.append_assoc,List.cons_append,List.nil_append]
def Gk(D A:Addr):DF:=λas M q _=>∃d k l kp n,as=[.loc d, .loc l,sD n]/\oB D A M d k kp/\M[l]? =some (kM lD kp)/\gH n/\q (.bl true) M
theorem jG:υ ["_law_desk","_law_kept","_law_name","_law_due"] ["_law_desk","_law_kept","_law_name"] (μ mF):= .of rfl
theorem wa(F:bV K "_law_shown" "_law_shown" mF f fd)(E:Ev K mg w Cm ν CT CN){pf:Addr}{ph:FuncData}(dZ:aa P w K mg base 2 "_law_text" ["_law_share_here","_law_rows","_law_names_here"] Dg pf ph){yR:Addr}{yr:FuncData}(fi:aa P w K mg base 1 "_law_is" ["_law_found","_law_due"] Q5 yR yr){pv:Addr}{pX:FuncData}(cv:aa P w K mg base 10 "_law_said" ["_law_desk","_law_row"] (vD ν Cm) pv pX):Τ P w K mg base (br P w) 11 f fd ["_law_desk","_law_kept","_law_name"] (bK K (Gk ν Cm)):=by
 refine F.cN jG (λds M q x h=> ?_) (λaQ A outer s H E' hr=>⟨_,(δ (π 3 jG.nd Eg)
   (δ (hW (Θ (tG hr (jv 2) (jv 1)) (η (π 3 jG.nd (dF (Λ dZ hr ξ (ε (Α (fj hr (jv 1) (jv 2)) θ) (ε (Α (fj hr (jv 1) (jv 2)) θ) (ε (Α (fj hr (jv 1) (jv 2)) θ) ζ Κ) Κ) Κ))))) ψ))
   (η (τ (Λ fi hr ξ (ε (Λ cv hr ξ (ae (jv 0) (ε (Χ Ψ (jv 2)) ζ aG))) (ae (jv 3) ζ) bb)))))),λds M q x h=> ?_⟩)
 ·obtain ⟨d,k,l,kp,n,rfl,_⟩:=h;rfl
 ·obtain ⟨d,k,l,kp,n,rfl,hd,hl,hn,h⟩:=h;have n8:=hn.2.1;refine ⟨λρ M'=>M'=M/\ρ=[some (.loc d),some (.loc l),some (sD n),some (match aH n kp with | some v=>sD (A8 v) | none=> .bw)], ?_, ?_⟩
  ·walk_at "vc";refine ⟨l,_,_,ar n,rfl,hl,rfl,λz=> ?_,λz=> ?_⟩
   ·rw [vw] at z;cases e:aH n kp with
    | none=>rw [e] at z;cases z
    | some v=>
     have rd:=hd.ok.get e;dsimp only [Af];walk_at "vc";have x0:gP [aR v.1, .lst (v.2.2.map Υ), .lst (v.2.1.map sD)] 0=some (aR v.1):=aT;have x1:gP [aR v.1, .lst (v.2.2.map Υ), .lst (v.2.1.map sD)] 1=some (.lst (v.2.2.map Υ)):=Ρ (j:=1) rfl;have x2:gP [aR v.1, .lst (v.2.2.map Υ), .lst (v.2.1.map sD)] 2=some (.lst (v.2.1.map sD)):=Ρ (j:=2) rfl;refine ⟨l,_,_,ar n,lD v,rfl,hl,rfl,pE e, ?_⟩;refine (χ (d:=lD v) rfl x0 ?_:ck (lD v) (.int 0) M _);refine ⟨l,_,_,ar n,lD v,rfl,hl,rfl,pE e, ?_⟩;refine (χ (d:=lD v) rfl x1 ?_:ck (lD v) (.int 1) M _);refine ⟨l,_,_,ar n,lD v,rfl,hl,rfl,pE e, ?_⟩;refine (χ (d:=lD v) rfl x2 ?_:ck (lD v) (.int 2) M _);refine ⟨v.1,v.2.1,v.2.2,rfl,rd.t,λE0=>cW (E:=[E0]) (.old trivial) ?_⟩;exact ⟨rfl,rfl⟩
   ·rw [vw] at z;cases e:aH n kp with
    | some v=>rw [e] at z;cases z
    | none=>exact ⟨rfl,rfl⟩
  ·rintro ρ' M' ⟨rfl,rfl⟩;walk_at "vc";refine ⟨by rw [V2,ι,ι];exact Β (by show 5+_<=_;omega), ?_⟩;rw [V2,O5];refine ⟨d,k,kp, .gM n,rfl,hd,hn,λr aJ=> ?_,λe=> ?_⟩
   ·cases e:aH n kp with
    | none=>unfold x5 at aJ;dsimp only at aJ;rw [e] at aJ;cases aJ
    | some v=>
     have aJ:Option.map (λv=>(sD (A8 v),kp)) (aH n kp)=some r:=aJ;rw [e] at aJ;cases aJ;dsimp only;rw [fM hd.k];exact ⟨.inr ⟨_,rfl⟩,h⟩
   ·have e':aH n kp=none:=by
     have e:Option.map (λv=>(sD (A8 v),kp)) (aH n kp)=none:=e;cases z:aH n kp with
     | none=>rfl
     | some v=>rw [z] at e;cases e
    rw [e'];exact ⟨.inl rfl,h⟩
theorem rw_ok{rows:List Rw}(hl:rows.length=ns.length){r:Rw}(g:cg rows.length r)(l:QO r):ze ns r/\Ly r:=by
 obtain ⟨ro,ft⟩:=g;cases r with
 | fin p=>exact ⟨l,trivial⟩
 | Μ k ds=>
  obtain ⟨l,lh⟩:(∀d∈ds,Lw d.2.1/\∀c∈d.2.2,Lw c)/\(k≠"chance"->∀d∈ds,d.2.2=[]):=l;have h5:(if aK k then Δ ds rows.length else if k="chance" then Δ ds rows.length&&Ξ (ds.map ak) else false)=true:=ft;obtain ⟨_,_,A4,W'⟩:=ro;have fd:(k="one"\/k="other"\/k="chance")/\Δ ds rows.length=true:=by
   by_cases hk:aK k=true
   ·rw [aaD hk] at h5;unfold aK at hk;rw [abx] at hk;rcases hk with hk | hk
    ·exact ⟨.inl (eq_of_beq hk),h5⟩
    ·exact ⟨.inr (.inl (eq_of_beq hk)),h5⟩
   ·rw [aaA hk] at h5;by_cases hc:k="chance"
    ·rw [aaD hc,aap] at h5;exact ⟨.inr (.inr hc),h5.1⟩
    ·rw [aaA hc] at h5;cases h5
  obtain ⟨kk,fd⟩:=fd;unfold Δ at fd;rw [aap,aap,aaP,aaP,abG] at fd;refine ⟨⟨kk,fd.1.1,fd.1.2,λd hd=>⟨?_,λp hp=> ?_,(W' d hd).1⟩⟩,λd hd=> ?_⟩
  ·have:=fd.2 d hd;unfold aB at this;rw [aap,aap,aaP,aaP] at this;rw [<-hl];exact ⟨this.1,this.2.1⟩
  ·rcases aar.mp hp with rfl | hp
   ·exact (l d hd).1
   ·exact (l d hd).2 p hp
  ·split
   ·rename_i hc;rw [(A4 hc).1 d hd];rfl
   ·rename_i hc;rw [lh hc d hd];rfl
theorem si(xs:List Int)(a b:Nat):((xs.map Dt.int).drop a).take b=((xs.drop a).take b).map Dt.int:=by rw [<-List.map_drop,<-List.map_take]
theorem ot{n:List Nat}{v:iZ}:∀{kp:Kp},(aH n kp).isSome=true->aH n (vt n v kp)=some v
 | [],h=>by cases h
 | p::r,h=>by
  have ih:=ot (n:=n) (v:=v) (kp:=r);have e:aH n (p::r)=if p.1=n then some p.2 else aH n r:=rfl
  rw [e] at h;show aH n ((if p.1=n then (p.1,v) else p)::vt n v r)=some v;by_cases q:p.1=n
  ·rw [aaD q];show (if p.1=n then some v else _)=_;rw [aaD q]
  ·rw [aaA q] at h⊢;show (if p.1=n then some p.2 else aH n (vt n v r))=_;rw [aaA q];exact ih h
theorem z7{n:List Nat}{v:iZ}:∀{kp:Kp},aH n kp=none->aH n (kp++[(n,v)])=some v
 | [],_=>by show (if n=n then some v else none)=_;rw [aaD rfl]
 | p::r,h=>by
  have e:aH n (p::r)=if p.1=n then some p.2 else aH n r:=rfl
  rw [e] at h;show (if p.1=n then some p.2 else aH n (r++[(n,v)]))=some v;by_cases q:p.1=n
  ·rw [aaD q] at h;cases h
  ·rw [aaA q] at h⊢;exact z7 h
theorem Iy{v:iZ}(kp:Kp):aH n (eY n v kp)=some v:=by
 unfold eY;split
 ·rename_i h;exact ot h
 ·rename_i h;exact z7 (by cases e:aH n kp with | none=>rfl | some v=>rw [e] at h;exact aaG rfl h)
theorem xF(h0:0<=j)(h1:j < 8):∃m:Nat,gP [Dt.int 1, .int 2, .int 3, .int 4, .int 2, .int 3, .int 8, .int 12] j=some (.int (m:Nat))/\1<=m/\m<=12:=by
 have h:j=0\/j=1\/j=2\/j=3\/j=4\/j=5\/j=6\/j=7:=by omega
 rcases h with rfl | rfl | rfl | rfl | rfl | rfl | rfl | rfl
 ·exact ⟨1,rfl,by decide,by decide⟩
 ·exact ⟨2,rfl,by decide,by decide⟩
 ·exact ⟨3,rfl,by decide,by decide⟩
 ·exact ⟨4,rfl,by decide,by decide⟩
 ·exact ⟨2,rfl,by decide,by decide⟩
 ·exact ⟨3,rfl,by decide,by decide⟩
 ·exact ⟨8,rfl,by decide,by decide⟩
 ·exact ⟨12,rfl,by decide,by decide⟩
theorem A3(h:IH 4 ns)(h0:0<=j)(h1:j < 4):∃n∈ns,gP (ns.map sD) j=some (sD n):=by
 have hl:=h.1;have hj:j.toNat < ns.length:=by omega
 refine ⟨ns[j.toNat],aa0 hj, ?_⟩;have:=Ρ (xs:=ns.map sD) (j:=j.toNat) (v:=sD ns[j.toNat]) (by rw [aaF,aac hj];rfl);rwa [show ((j.toNat:Nat):Int)=j by omega] at this
theorem oB.LP{D A:Addr}{d k l:Nat}{kp:Kp}{m:MO}(h:oB D A M d k kp)(hd:l≠d)(hk:l≠k):oB D A (M.set l m) d k kp:=
 ⟨by rw [aaV hd];exact h.o,by rw [aaV hk];exact h.k,h.ok⟩
theorem Sb{D A:Addr}{d k l:Nat}{kp qW:Kp}{f:iZ->Dt}(h:oB D A M d k kp)(hl:M[l]? =some (kM f qW)):l≠d:=λz=>by subst z;rw [h.o] at hl;cases hl
def J5(D A:Addr):DF:=λas M q _=>∃d k l kp ns cell m,as=[.loc d, .loc l, .lst (ns.map sD), .int cell]/\oB D A M d k kp/\M[l]? =some (kM lD kp)/\l≠k/\IH 4 ns/\d7 m kp/\m<=800/\
 ∀qW,d7 (m+1) qW->q (.bl true) ((M.set l (kM lD qW)).set k (kM (fD A) qW))
theorem au:υ ["_law_desk","_law_kept","_law_names_here","_law_cell","_law_number","_law_way","_law_name","_law_source","_law_many","_law_xs","_law_rows","_law_text_here","_law_due","_law_share_here","_law_places"] ["_law_desk","_law_kept","_law_names_here","_law_cell"] (μ qv):= .of rfl
theorem yB(F:bV K "_law_deed" "_law_deed" qv f fd)(E:Ev K mg w Cm ν CT CN){B5:Addr}{BG:FuncData}(jC:aa P w K mg base 1 "_law_mixed" ["_law_cell","_law_many"] y6 B5 BG){CK:Addr}{A_:FuncData}(jx:aa P w K mg base 4 "_law_small" ["_law_xs","_law_many"] Dk CK A_){mv:Addr}{lI:FuncData}(cV:aa P w K mg base 1 "_law_names" ["_law_cell","_law_many"] xV mv lI){CF:Addr}{BI:FuncData}(jX:aa P w K mg base 3 "_law_share" ["_law_cell"] Ah CF BI){pf:Addr}{ph:FuncData}(dZ:aa P w K mg base 2 "_law_text" ["_law_share_here","_law_rows","_law_names_here"] Dg pf ph){yR:Addr}{yr:FuncData}(fi:aa P w K mg base 1 "_law_is" ["_law_found","_law_due"] Q5 yR yr){pv:Addr}{pX:FuncData}(cv:aa P w K mg base 10 "_law_said" ["_law_desk","_law_row"] (vD ν Cm) pv pX){zo:Addr}{yc:FuncData}(ia:aa P w K mg base 2 "_law_turned" ["_law_rows"] xb zo yc):Τ P w K mg base (br P w) 11 f fd ["_law_desk","_law_kept","_law_names_here","_law_cell"] (bK K (J5 ν Cm)):=by
 refine F.cN au (λds M q x h=> ?_) (λaQ A outer s H E' hr=>⟨_,(δ (π 4 au.nd (aq (jv 3) (ig θ θ)))
   (δ (π 5 au.nd (aq (jv 4) θ))
   (δ (π 6 au.nd (Α (jv 2) (aq (aX (jv 4) θ) θ)))
   (δ (π 7 au.nd (Α (jv 2) (aq (aX (jv 4) θ) θ)))
   (δ (Θ (kK (jv 5) θ) (δ (π 8 au.nd (Α (gq 3 (d:= .lst [.int 1, .int 2, .int 3, .int 4, .int 2, .int 3, .int 8, .int 12]) (by rfl)) (aq (aX (jv 4) θ) θ)))
   (δ (π 9 au.nd (dF (Λ jC hr ξ (ε (Χ (aX (jv 3) (ig θ θ)) (aX (jv 4) θ)) (ε (fZ θ (jv 8)) ζ aG) aG))))
   (δ (zt (i:=10) au.nd rfl (Or.inl rfl) (ys:=["_law_many","_law_xs"]) (Ε:=[8,9]) (.of au rfl rfl rfl) (bY E.bU (ae (jv 8) ζ)) (λC s H fp=>(Λ jx hr (aM (P:=P) (w:=w)) (ε (dF (sA (jv 2) (fZ θ (jv 0)) (Χ (fZ θ (jv 0)) θ))) (ae (jv 1) ζ) Κ))))
   (δ (kX hr (jv 1) (jv 6) (aW (ε (Λ jX hr ξ (ε (aX (jv 4) θ) ζ aG)) (ae (jv 10) (ε (dF (Λ cV hr ξ (ε (aX (jv 4) θ) (ae (jv 8) ζ) aG))) ζ bb)) bb)))
   (δ (π 11 au.nd (dF (Λ dZ hr ξ (ε (Α (fj hr (jv 1) (jv 6)) θ) (ε (Α (fj hr (jv 1) (jv 6)) θ) (ε (Α (fj hr (jv 1) (jv 6)) θ) ζ Κ) Κ) Κ))))
   (η (τ (Λ fi hr ξ (ε (Λ cv hr ξ (ae (jv 0) (ε (Χ (Χ (Χ Ψ (jv 6)) Ψ) (jv 11)) ζ aG))) (ε Ψ ζ aA) bb))))))))) ψ)
   (δ (Θ (bC hr (jv 5) θ) (δ (π 12 au.nd Eg)
   (δ (hW (Θ (tG hr (jv 6) (jv 1)) (δ (dJ (zJ (jv 1) (jv 6)))
   (η (π 12 au.nd Ψ))) ψ))
   (η (τ (Λ fi hr ξ (ε (Λ cv hr ξ (ae (jv 0) (ε (Χ Ψ (jv 6)) ζ aG))) (ae (jv 12) ζ) bb)))))) ψ)
   (δ (π 12 au.nd Eg)
   (δ (hW (Θ (tG hr (jv 7) (jv 1)) (δ (GP (fj hr (jv 1) (jv 7)) (mm rfl (bA (aV (i:=13) au.nd rfl (Or.inl rfl)) (bA (aV (i:=10) au.nd rfl (Or.inl rfl)) (bA (aV (i:=14) au.nd rfl (Or.inl rfl)) iM)))))
   (δ (kX hr (jv 1) (jv 6) (aW (ae (jv 13) (ε (dF (Λ ia hr ξ (ae (jv 10) ζ))) (ae (jv 14) ζ) bb))))
   (η (π 12 au.nd Ψ)))) ψ))
   (η (τ (Λ fi hr ξ (ε (Λ cv hr ξ (ae (jv 0) (ε (Χ (Χ (Χ Ψ (jv 6)) Ψ) (jv 7)) ζ aG))) (ae (jv 12) ζ) bb)))))))))))),λds M q x h=> ?_⟩)
 ·obtain ⟨d,k,l,kp,ns,cell,m,rfl,_⟩:=h;rfl
 ·obtain ⟨d,k,l,kp,ns,cell,m,rfl,hd,hl,lk,hn,ko,m8,h⟩:=h;have ld:=Sb hd hl;have Qk:wU 10 12:=⟨by decide,by decide,by decide⟩;walk_at "vc";refine ⟨Qk,(by decide:(0:Int) < 10 ^ (12:Int).toNat),by decide,⟨by decide,bg (k:=5) (by decide)⟩,by decide, ?_⟩;have MF:0<=cell % 10 ^ (12:Int).toNat:=aaL _ (by decide);have RA:cell % 10 ^ (12:Int).toNat < 1000000000000:=aaH _ (by decide);generalize Xi:cell % 10 ^ (12:Int).toNat=num at MF RA⊢;obtain ⟨n,nm,en⟩:=A3 (j:=num / 6 % 4) hn (by omega) (by omega);obtain ⟨n',V1,SO⟩:=A3 (j:=num / 24 % 4) hn (by omega) (by omega);have n1:=hn.2.1 n nm;have n2:=hn.2.1 n' V1;refine (χ (d:= .lst (ns.map sD)) rfl en ?_:ck (.lst (ns.map sD)) (.int (num / 6 % 4)) M _);refine ⟨⟨by decide,bg (k:=5) (by decide)⟩,by decide, ?_⟩;refine (χ (d:= .lst (ns.map sD)) rfl SO ?_:ck (.lst (ns.map sD)) (.int (num / 24 % 4)) M _);refine ⟨λz=> ?_,λz=> ?_⟩
  ·refine ⟨⟨by decide,bg (k:=10) (by decide)⟩,by decide, ?_⟩;obtain ⟨Η,em,m1,Nd⟩:=xF (j:=num / 96 % 8) (by omega) (by omega);refine (χ (d:= .lst [Dt.int 1, .int 2, .int 3, .int 4, .int 2, .int 3, .int 8, .int 12]) rfl em ?_:ck (.lst [Dt.int 1, .int 2, .int 3, .int 4, .int 2, .int 3, .int 8, .int 12]) (.int (num / 96 % 8)) M _);refine ⟨Qk,⟨by decide,bg (k:=60) (by decide)⟩,⟨by decide,bg (k:=20) (by decide)⟩,⟨bg (k:=10) (by decide),bg (k:=10) (by omega)⟩, ?_⟩;show y6 [_,Dt.int (16 * (Η:Int))] M _ _;refine ⟨_,16 * Η,rfl,by omega,λxs YS hx=>cW (.qL (Nat.le_refl _) (by simp) (dQ.old (nJ xs))) ?_⟩;refine ⟨⟨by omega,by omega⟩,by rw [bL];exact aaq (show _<=12 by omega) (by decide), ?_⟩;refine eQ (f:=Υ) (λr=>cg Η r/\QO r) _ [] (λ_ z=>(nomatch z)) (λx CS q' hq=> ?_) λrows Oo hg=> ?_
   ·obtain ⟨k',uS,rfl⟩:=et CS;have kk:k' < Η:=by omega
    have VW:iK 16:=bg (k:=10) (by decide);have bk:iK (0+(k':Int)):=bg (k:=10) (by omega);refine ⟨⟨VW,bk⟩,16 * k',by rw [Int.zero_add];rfl,⟨VW,bk⟩,_,16 * k'+16,rfl,by rw [Int.zero_add];rfl, ?_⟩;rw [si,show 16 * k'+16 - 16 * k'=16 by omega];refine cW (.qL (aak _) (by rw [Nat.sub_self];rfl) (dQ.old (nJ _))) ?_;refine ⟨(xs.drop (16 * k')).take 16,Η,rfl, ?_,λx Ub=>hx x (abz (List.mem_of_mem_take Ub)),by omega,by omega,λr g l'=>hq r ⟨g,l'⟩⟩;rw [abc,aa3,YS];omega
   have Oo:rows.length=Η:=by rw [Oo,bL];simp
   dsimp only [mr];walk_at "vc";refine ⟨⟨by decide,bg (k:=20) (by decide)⟩,num / 768,rfl,λο hs hsg=> ?_⟩;refine ⟨⟨by decide,bg (k:=20) (by decide)⟩,num / 768,Η,rfl,by omega,(by omega:num / 768 < 10000000000),m1,Nd,λGp rA=>ur (mO Gp) ?_⟩;have ko1:=ko.1;refine ⟨by show 3<=sizeLine;decide,l,_,_,ar n,rfl,hl,rfl,by rw [nK];omega, ?_⟩;have ep:MO.dt (fE (iR kp) (ar n)) (ej (iR kp) (ar n) (qG lD kp) (lD (ο,Gp,rows)))=kM lD (eY n (ο,Gp,rows) kp):=vo;rw [<-Oo] at hg;have rg:∀r∈rows,ze Gp r/\Ly r:=λr hr=>rw_ok (by rw [rA.1,Oo]) (hg r hr).1 (hg r hr).2;have W6:dH Gp:=⟨by rw [rA.1];exact Nd,rA.2.1⟩;have ft:LZ ο Gp rows:=⟨C8 hs hsg,W6,by rw [rA.1,Oo],λr hr=>⟨(rg r hr).1,(hg r hr).1.1⟩⟩;have rd:l0 ο Gp rows:=⟨ft,λr hr=>(rg r hr).2,rA.2.2,hs,by omega,λr hr=>(hg r hr).1⟩;have gp:aH n (eY n (ο,Gp,rows) kp)=some (ο,Gp,rows):=Iy kp;generalize hv:((ο,Gp,rows):iZ)=v at ep gp;have Qa:l0 v.1 v.2.1 v.2.2:=by rw [<-hv];exact rd
   have Jv:(M.set l (kM lD (eY n v kp)))[l]? =some (kM lD (eY n v kp)):=aaW (aag.mp hl).1;have Vk:oB ν Cm (M.set l (kM lD (eY n v kp))) d k kp:=hd.LP ld lk;have eD:Dt.tup [aR ο, .lst (rows.map Υ), .lst (Gp.map sD)]=lD v:=by rw [<-hv];rfl
   rw [eD,ep];have Ny:=h _ (ko.put (n:=n) Qa);generalize M.set l (kM lD (eY n v kp))=M1 at Jv Vk Ny⊢;clear eD ep;have x0:gP [aR v.1, .lst (v.2.2.map Υ), .lst (v.2.1.map sD)] 0=some (aR v.1):=aT;have x1:gP [aR v.1, .lst (v.2.2.map Υ), .lst (v.2.1.map sD)] 1=some (.lst (v.2.2.map Υ)):=Ρ (j:=1) rfl;have x2:gP [aR v.1, .lst (v.2.2.map Υ), .lst (v.2.1.map sD)] 2=some (.lst (v.2.1.map sD)):=Ρ (j:=2) rfl;refine ⟨l,_,_,ar n,lD v,rfl,Jv,rfl,pE gp, ?_⟩;refine (χ (d:=lD v) rfl x0 ?_:ck (lD v) (.int 0) M1 _);refine ⟨l,_,_,ar n,lD v,rfl,Jv,rfl,pE gp, ?_⟩;refine (χ (d:=lD v) rfl x1 ?_:ck (lD v) (.int 1) M1 _);refine ⟨l,_,_,ar n,lD v,rfl,Jv,rfl,pE gp, ?_⟩;refine (χ (d:=lD v) rfl x2 ?_:ck (lD v) (.int 2) M1 _);refine ⟨v.1,v.2.1,v.2.2,rfl,Qa.t,λE0=>cW (E:=[E0]) (.old trivial) ?_⟩;have l1:=n1.2.1;have l2:=zZ Qa;have e1:(mk (yW++[32])++mk n).length<=20:=by rw [ω,ι,aab,aab];show 5+1+_<=_;omega
   refine ⟨by rw [Qf,ι,ι];exact Β (by show 6+_<=_;omega), ?_, ?_, ?_⟩
   ·show (Str.ofString "floor "++mk n).length+(Str.ofString " ").length<=sizeLine;rw [Qf,d9,ι [32]];exact Β (by show _+1<=_;omega)
   ·show (Str.ofString "floor "++mk n++Str.ofString " ").length+(mk (A8 v)).length<=sizeLine;rw [Qf,d9,ω,ω,ι,ι];simp only [List.length_append];exact Β (by show 5+1+_+1+_<=_;omega)
   show vD ν Cm [_,Dt.str (Str.ofString "floor "++mk n++Str.ofString " "++mk (A8 v))] _ _ _;rw [Qf,NT]
   exact ⟨d,k,kp, .floor n v,rfl,Vk,⟨n1,Qa⟩,λr aJ=>by
    cases aJ
    exact ⟨.inr ⟨_,rfl⟩,Ny⟩,λe'=>nomatch e'⟩
  refine ⟨λz3=> ?_,λz3=> ?_⟩
  ·refine ⟨λρ M'=>∃HX,ρ=[some (.loc d),some (.loc l),some (.lst (ns.map sD)),some (.int cell),some (.int num),some (.int (num % 6)),some (sD n),some (sD n'),none,none,none,none,some HX,none,none]/\((aH n kp=none/\HX= .bw/\M'=M)\/∃v,aH n kp=some v/\HX= .str "ok"/\M'=M.set l (kM lD (mC n kp))), ?_, ?_⟩
   ·walk_at "vc";refine ⟨l,_,_,ar n,rfl,hl,rfl,λz=> ?_,λz=> ?_⟩
    ·rw [vw] at z;cases e:aH n kp with
     | none=>rw [e] at z;cases z
     | some v=>
      dsimp only [zE];walk_at "vc";refine ⟨⟨l,_,_,rfl,hl⟩,l,_,_,ar n,lD v,rfl,hl,rfl,pE e, ?_⟩;rw [Fi];exact ⟨_,rfl, .inr ⟨v,rfl,rfl,rfl⟩⟩
    ·rw [vw] at z;cases e:aH n kp with
     | some v=>rw [e] at z;cases z
     | none=>exact ⟨_,rfl, .inl ⟨rfl,rfl,rfl⟩⟩
   ·rintro ρ' M' ⟨HX,rfl,hj⟩;walk_at "vc";refine ⟨by rw [Ve,ι,ι];have:=n1.2.1;exact Β (by show 5+_<=_;omega), ?_⟩;rw [Ve,O5];rcases hj with ⟨e,rfl,rfl⟩ | ⟨v,e,rfl,rfl⟩
    ·refine ⟨d,k,kp, .drop n,rfl,hd,n1,λr aJ=> ?_,λ_=>⟨.inl rfl, ?_⟩⟩
     ·have aJ:Option.map (λ_=>(Dt.str "ok",mC n kp)) (aH n kp)=some r:=aJ;rw [e] at aJ;cases aJ
     ·have:=h kp ko.up;rwa [fM hl,fM hd.k] at this
    ·refine ⟨d,k,kp, .drop n,rfl,hd.LP ld lk,n1,λr aJ=> ?_,λe'=> ?_⟩
     ·have aJ:Option.map (λ_=>(Dt.str "ok",mC n kp)) (aH n kp)=some r:=aJ;rw [e] at aJ;cases aJ;exact ⟨.inr ⟨_,rfl⟩,h _ ko.del⟩
     ·have e':Option.map (λ_=>(Dt.str "ok",mC n kp)) (aH n kp)=none:=e';rw [e] at e';cases e'
  ·refine ⟨λρ M'=>∃HX a b c,ρ=[some (.loc d),some (.loc l),some (.lst (ns.map sD)),some (.int cell),some (.int num),some (.int (num % 6)),some (sD n),some (sD n'),none,none,a,none,some HX,b,c]/\((aH n' kp=none/\HX= .bw/\M'=M)\/∃v,aH n' kp=some v/\HX= .str "ok"/\M'=M.set l (kM lD (eY n (kD v) kp))), ?_, ?_⟩
   ·walk_at "vc";refine ⟨l,_,_,ar n',rfl,hl,rfl,λz=> ?_,λz=> ?_⟩
    ·rw [vw] at z;cases e:aH n' kp with
     | none=>rw [e] at z;cases z
     | some v=>
      have rd:=ko.get e;dsimp only [JB,Af,mr];walk_at "vc";refine ⟨l,_,_,ar n',lD v,rfl,hl,rfl,pE e, ?_⟩;dsimp only [lD,mr];walk_at "vc";refine ⟨v.2.2,_,rfl,rd.rows.C1,rd.g, ?_⟩;refine cW (E:=[g8, .lst ((v.2.2.map aS).map Υ)]) (d':= .lst ((v.2.2.map aS).map Υ)) (.qL (Nat.le_succ _) (by simp) (dQ.old (iy _))) ?_;have:=ko.1;refine ⟨by show 3<=sizeLine;decide,l,_,_,ar n,rfl,hl,rfl,by rw [nK];omega, ?_⟩;have ep:MO.dt (fE (iR kp) (ar n)) (ej (iR kp) (ar n) (qG lD kp) (lD (kD v)))=_:=vo;refine ⟨_,_,_,_,rfl, .inr ⟨v,rfl,rfl, ?_⟩⟩;rw [<-ep];rfl
    ·rw [vw] at z;cases e:aH n' kp with
     | some v=>rw [e] at z;cases z
     | none=>exact ⟨_,_,_,_,rfl, .inl ⟨rfl,rfl,rfl⟩⟩
   ·rintro ρ' M' ⟨HX,a,b,c,rfl,hj⟩;have l1:=n1.2.1;have l2:=n2.2.1;have e1:(mk (Jh++[32])++mk n).length<=20:=by rw [ω,ι,aab,aab];show 4+1+_<=_;omega
    walk_at "vc";refine ⟨by rw [QI,ι,ι];exact Β (by show 5+_<=_;omega), ?_, ?_, ?_⟩
    ·show (Str.ofString "turn "++mk n).length+(Str.ofString " ").length<=sizeLine;rw [QI,d9,ι [32]];exact Β (by show _+1<=_;omega)
    ·show (Str.ofString "turn "++mk n++Str.ofString " ").length+(mk n').length<=sizeLine;rw [QI,d9,ω,ω,ι,ι];simp only [List.length_append];exact Β (by show 4+1+_+1+_<=_;omega)
    show vD ν Cm [_,Dt.str (Str.ofString "turn "++mk n++Str.ofString " "++mk n')] _ _ _;rw [QI,NT];rcases hj with ⟨e,rfl,rfl⟩ | ⟨v,e,rfl,rfl⟩
    ·refine ⟨d,k,kp, .turn n n',rfl,hd,⟨n1,n2⟩,λr aJ=> ?_,λ_=>⟨.inl rfl, ?_⟩⟩
     ·have aJ:Option.map (λv=>(Dt.str "ok",eY n (kD v) kp)) (aH n' kp)=some r:=aJ;rw [e] at aJ;cases aJ
     ·have:=h kp ko.up;rwa [fM hl,fM hd.k] at this
    ·refine ⟨d,k,kp, .turn n n',rfl,hd.LP ld lk,⟨n1,n2⟩,λr aJ=> ?_,λe'=> ?_⟩
     ·have aJ:Option.map (λv=>(Dt.str "ok",eY n (kD v) kp)) (aH n' kp)=some r:=aJ;rw [e] at aJ;cases aJ;exact ⟨.inr ⟨_,rfl⟩,h _ (ko.put (ko.get e).turn)⟩
     ·have e':Option.map (λv=>(Dt.str "ok",eY n (kD v) kp)) (aH n' kp)=none:=e';rw [e] at e';cases e'
structure Jr(D A:Addr)(M:Ms)(m:Nat)(kp yY:Kp)(i:Nat):Prop where
 a:oB D A M m (m+1) kp
 b:oB D A M (m+2) (m+3) yY
 c:M[m+4]? =some (kM lD kp)
 d:M[m+5]? =some (kM lD yY)
 k:d7 i kp
 k2:d7 i yY
theorem Ed{kp:Kp}(h:d7 i kp)(hi:i<=800):d7 900 kp:=⟨by have:=h.1;omega,h.2⟩
theorem aI{j:Nat}{x y:MO}(h:M[j]? =some y)(hn:i≠j):(M.set i x)[j]? =some y:=by rw [aaV hn];exact h
theorem k7{x y:MO}(h:M[i]? =some y):(M.set i x)[i]? =some x:=aaW (aag.mp h).1
theorem Jr.one{D A:Addr}{kp yY qW:Kp}(t:Jr D A M m kp yY i)(hi:i+1<=800)(h:d7 (i+1) qW):Jr D A ((M.set (m+4) (kM lD qW)).set (m+1) (kM (fD A) qW)) m qW yY (i+1) where
 a:=⟨aI (aI t.a.o (by omega)) (by omega),k7 (aI t.a.k (by omega)),Ed h hi⟩
 b:=⟨aI (aI t.b.o (by omega)) (by omega),aI (aI t.b.k (by omega)) (by omega),t.b.ok⟩
 c:=aI (k7 t.c) (by omega)
 d:=aI (aI t.d (by omega)) (by omega)
 k:=h
 k2:=t.k2.up
theorem Jr.two{D A:Addr}{kp yY qW:Kp}(t:Jr D A M m kp yY i)(hi:i+1<=800)(h:d7 (i+1) qW):Jr D A ((M.set (m+5) (kM lD qW)).set (m+3) (kM (fD A) qW)) m kp qW (i+1) where
 a:=⟨aI (aI t.a.o (by omega)) (by omega),aI (aI t.a.k (by omega)) (by omega),t.a.ok⟩
 b:=⟨aI (aI t.b.o (by omega)) (by omega),k7 (aI t.b.k (by omega)),Ed h hi⟩
 c:=aI (aI t.c (by omega)) (by omega)
 d:=aI (k7 t.d) (by omega)
 k:=t.k.up
 k2:=h
theorem i9:υ ["_law_script","_law_names_here","_law_desk","_law_other","_law_kept","_law_beside","_law_cell","_law_number","_law_first","_law_name"] ["_law_script"] (μ Lz):= .of rfl
theorem KW(F:bV K "law" "law" Lz f fd)(E:Ev K mg w Cm ν CT CN){mv:Addr}{lI:FuncData}(cV:aa P w K mg base 1 "_law_names" ["_law_cell","_law_many"] xV mv lI){IV:Addr}{Iw:FuncData}(pQ:aa P w K mg base 1 "_law_nth" ["_law_script","_law_k"] HJ IV Iw){BD:Addr}{By:FuncData}(gC:x_ P w K mg base 1 "Desk" ν ["self"] (JM ν) BD By){Ge:Addr}{DU:FuncData}(iI:aa P w K mg base 11 "_law_deed" ["_law_desk","_law_kept","_law_names_here","_law_cell"] (J5 ν Cm) Ge DU){Bg:Addr}{CB:FuncData}(bN:aa P w K mg base 11 "_law_shown" ["_law_desk","_law_kept","_law_name"] (Gk ν Cm) Bg CB):Τ P w K mg base (br P w) 12 f fd ["_law_script"] (bK K Mb):=by
 refine F.cN i9 (λds M q x h=> ?_) (λaQ A outer s H E' hr=>⟨_,(δ (π 1 i9.nd (dF (Λ cV hr ξ (ε (aq (Λ pQ hr ξ (ae (jv 0) (ε θ ζ aA))) (ig θ θ)) (ε θ ζ aA) aG))))
   (δ (π 2 i9.nd (AQ gC hr ξ))
   (δ (π 3 i9.nd (AQ gC hr ξ))
   (δ (π 4 i9.nd uP)
   (δ (π 5 i9.nd uP)
   (δ (iN (aL (dF (sA (jv 0) θ θ))) (aV (i:=6) i9.nd rfl (Or.inl rfl)) bS (δ (π 7 i9.nd (aq (jv 6) (ig θ θ)))
   (δ (π 8 i9.nd (Α (jv 1) (aq (aX (jv 7) θ) θ)))
   (δ (Θ (JW.jt (i6 (cT (bW (Λ bN hr ξ (ae (jv 2) (ae (jv 4) (ae (jv 8) ζ)))))) (fw (cT (bW (Λ iI hr ξ (ae (jv 2) (ae (jv 4) (ae (jv 1) (ae (jv 6) ζ)))))))))) (η (τ GG)) ψ)
   (δ (Θ (JW.jt (i6 (cT (bW (Λ bN hr ξ (ae (jv 3) (ae (jv 5) (ae (jv 8) ζ)))))) (fw (cT (bW (Λ iI hr ξ (ae (jv 3) (ae (jv 5) (ae (jv 1) (ε (Χ (aX (jv 6) θ) θ) ζ aG)))))))))) (η (τ GG)) ψ)
   (η (Θ (JW.jt (i6 (cT (bW (Λ bN hr ξ (ae (jv 2) (ae (jv 4) (ε (Α (jv 1) (aq (aX (jv 7) θ) θ)) ζ Κ)))))) (fw (cT (bW (Λ bN hr ξ (ae (jv 2) (ae (jv 4) (ae (jv 8) ζ))))))))) (η (τ GG)) ψ)))))))
   (δ (iN (aL (jv 1)) (aV (i:=9) i9.nd rfl (Or.inl rfl)) bS (η (Θ (JW.jt (i6 (cT (bW (Λ bN hr ξ (ae (jv 2) (ae (jv 4) (ae (jv 9) ζ)))))) (fw (cT (bW (Λ bN hr ξ (ae (jv 3) (ae (jv 5) (ae (jv 9) ζ))))))))) (η (τ GG)) ψ)))
   (η (τ GG))))))))),λds M q x h=> ?_⟩)
 ·obtain ⟨ns,rfl,_⟩:=h;rfl
 ·obtain ⟨ns,rfl,hl,hq⟩:=h;refine ⟨by decide, ?_⟩;generalize MD ns 0=first
  walk_at "vc";have p9:wU 10 9:=⟨by decide,by decide,by decide⟩;have f0:=aaL first (show (10 ^ (9:Int).toNat:Int)≠0 by decide)
  have f1:=aaH first (show (0:Int) < 10 ^ (9:Int).toNat by decide)
  have f1:first % 10 ^ (9:Int).toNat < 1000000000:=f1
  refine ⟨p9,(by decide:(0:Int) < 10 ^ (9:Int).toNat),_,4,rfl,f0,(by omega:first % 10 ^ (9:Int).toNat < 10000000000),by decide,by decide,λnm hn=>ur (mO nm) ?_⟩;have n4:(nm.map sD).length=4:=by rw [aaa];exact hn.1
  dsimp only [AJ,gZ];refine ⟨M.length,rfl,by simp,rfl, ?_⟩;have e1:((M++[MO.ins ν [] []])++[MO.dt [] []]).set M.length (.ins ν ["kept_floors"] [.loc (M++[MO.ins ν [] []]).length])=M++[.ins ν ["kept_floors"] [.loc (M.length+1)], .dt [] []]:=by simp [List.set_append]
  rw [e1];refine ⟨M.length+2,by simp,by simp,rfl, ?_⟩;have e2:((M++[MO.ins ν ["kept_floors"] [.loc (M.length+1)],MO.dt [] []]++[MO.ins ν [] []])++[MO.dt [] []]).set (M.length+2) (.ins ν ["kept_floors"] [.loc (M++[MO.ins ν ["kept_floors"] [.loc (M.length+1)],MO.dt [] []]++[MO.ins ν [] []]).length])=M++[.ins ν ["kept_floors"] [.loc (M.length+1)], .dt [] [], .ins ν ["kept_floors"] [.loc (M.length+3)], .dt [] []]:=by simp [List.set_append]
  rw [e2];have el:(M++[MO.ins ν ["kept_floors"] [.loc (M.length+1)],MO.dt [] []]).length=M.length+2:=by simp
  rw [el];have e3:(M++[MO.ins ν ["kept_floors"] [.loc (M.length+1)], .dt [] [], .ins ν ["kept_floors"] [.loc (M.length+3)], .dt [] []]).length=M.length+4:=by simp
  have e4:(M++[MO.ins ν ["kept_floors"] [.loc (M.length+1)], .dt [] [], .ins ν ["kept_floors"] [.loc (M.length+3)], .dt [] []]++[MO.dt [] []]).length=M.length+5:=by simp
  rw [e4,e3];have tw:Jr ν Cm (M++[MO.ins ν ["kept_floors"] [.loc (M.length+1)], .dt [] [], .ins ν ["kept_floors"] [.loc (M.length+3)], .dt [] []]++[MO.dt [] []]++[MO.dt [] []]) M.length [] [] 0:=by have k0:∀i,d7 i []:=λi=>⟨aa1 _,λ_ h=>nomatch h⟩;exact ⟨⟨by simp,by simp;rfl,k0 _⟩,⟨by simp,by simp;rfl,k0 _⟩,by simp;rfl,by simp;rfl,k0 _,k0 _⟩
  generalize (M++[MO.ins ν ["kept_floors"] [.loc (M.length+1)], .dt [] [], .ins ν ["kept_floors"] [.loc (M.length+3)], .dt [] []]++[MO.dt [] []]++[MO.dt [] []])=M0 at tw⊢;clear e1 e2 e3 e4 el;generalize M.length=m at tw⊢;dsimp only [A5,dg,Ni,Kf,bG,dC];refine ⟨2,rfl,ns.map .int,24,rfl,rfl, ?_⟩;rw [si];refine cW (.qL (aak _) (by rw [Nat.sub_self];rfl) (dQ.old (nJ _))) ?_;have cl:((ns.drop 2).take (24 - 2)).length<=22:=by rw [abc];omega
  generalize (ns.drop 2).take (24 - 2)=cells at cl;refine d_ (λxs ρ M'=>∃(cs:List Int) (i:Nat) (kp yY:Kp) (a b c e:Option Dt),xs=cs.map Dt.int/\2 * cs.length+i<=44/\Jr ν Cm M' m kp yY i/\ρ=[some (.nF ns),some (.lst (nm.map sD)),some (.loc m),some (.loc (m+2)),some (.loc (m+4)),some (.loc (m+5)),a,b,c,e]) (λxs ρ M' hj=>trivial) (λx xs ρ M' hj r9=> ?_) (λρ M' hj=> ?_) _ _ _ ⟨cells,0,[],[],none,none,none,none,rfl,by omega,tw,rfl⟩
  ·obtain ⟨cs,i,kp,yY,a,b,c,e,ex,hi,t,rfl⟩:=hj;cases cs with
   | nil=>cases ex
   | cons cell cs=>
    cases ex;rw [aaz] at hi;have Qk:wU 10 12:=⟨by decide,by decide,by decide⟩;walk_at "vc";refine ⟨Qk,(by decide:(0:Int) < 10 ^ (12:Int).toNat),⟨by decide,bg (k:=5) (by decide)⟩,by decide, ?_⟩;have MF:0<=cell % 10 ^ (12:Int).toNat:=aaL _ (by decide);generalize cell % 10 ^ (12:Int).toNat=num at MF⊢;obtain ⟨n,QQ,en⟩:=A3 (j:=num / 7 % 4) hn (by omega) (by omega);obtain ⟨n',RF,SO⟩:=A3 (j:=num / 35 % 4) hn (by omega) (by omega);have n1:=hn.2.1 n QQ;have n2:=hn.2.1 n' RF;refine (χ (d:= .lst (nm.map sD)) rfl en ?_:ck (.lst (nm.map sD)) (.int (num / 7 % 4)) M' _);refine ⟨m,m+1,m+4,kp,n,rfl,t.a,t.c,n1,λz=>(nomatch z),λ_=> ?_⟩;refine ⟨m,m+1,m+4,kp,nm,cell,i,rfl,t.a,t.c,by omega,hn,t.k,by omega,λqW uS=>⟨λz=>(nomatch z),λ_=> ?_⟩⟩;have t:=t.one (by omega) uS;generalize (M'.set (m+4) (kM lD qW)).set (m+1) (kM (fD Cm) qW)=M2 at t⊢;refine ⟨m+2,m+3,m+5,yY,n,rfl,t.b,t.d,n1,λz=>(nomatch z),λ_=> ?_⟩;refine ⟨⟨by decide,bg (k:=5) (by decide)⟩,m+2,m+3,m+5,yY,nm,cell / 7+1,i+1,rfl,t.b,t.d,by omega,hn,t.k2,by omega,λMa RO=>⟨λz=>(nomatch z),λ_=> ?_⟩⟩;have t:=t.two (by omega) RO;generalize (M2.set (m+5) (kM lD Ma)).set (m+3) (kM (fD Cm) Ma)=M3 at t⊢;refine ⟨⟨by decide,bg (k:=10) (by decide)⟩,by decide, ?_⟩;refine (χ (d:= .lst (nm.map sD)) rfl SO ?_:ck (.lst (nm.map sD)) (.int (num / 35 % 4)) M3 _);refine ⟨m,m+1,m+4,qW,n',rfl,t.a,t.c,n2,λz=>(nomatch z),λ_=> ?_⟩;refine ⟨m,m+1,m+4,qW,n,rfl,t.a,t.c,n1,λz=>(nomatch z),λ_=> ?_⟩;exact r9 _ _ ⟨cs,i+1+1,qW,Ma,_,_,_,_,rfl,by omega,t,rfl⟩
  ·obtain ⟨cs,i,kp,yY,a,b,c,e,ex,hi,t,rfl⟩:=hj;dsimp only [Mw,A5];refine cw (i:=1) (d:= .lst (nm.map sD)) rfl rfl ?_;refine d_ (λxs ρ M1=>M1=M'/\∃(ag:List (List Nat)) (e:Option Dt),xs=ag.map sD/\(∀n∈ag,gH n)/\ρ=[some (.nF ns),some (.lst (nm.map sD)),some (.loc m),some (.loc (m+2)),some (.loc (m+4)),some (.loc (m+5)),a,b,c,e]) (λxs ρ M1 hj=>trivial) (λx xs ρ M1 hj r9=> ?_) (λρ M1 hj=> ?_) _ _ _ ⟨rfl,nm,e,rfl,hn.2.1,rfl⟩
   ·obtain ⟨rfl,ag,e,ex,aJ,rfl⟩:=hj;cases ag with
    | nil=>cases ex
    | cons n ag=>
     cases ex;have n1:=aJ n aad;walk_at "vc";refine ⟨m,m+1,m+4,kp,n,rfl,t.a,t.c,n1,λz=>(nomatch z),λ_=> ?_⟩;refine ⟨m+2,m+3,m+5,yY,n,rfl,t.b,t.d,n1,λz=>(nomatch z),λ_=> ?_⟩;exact r9 _ _ ⟨rfl,ag,_,rfl,λz hz=>aJ z (aae _ hz),rfl⟩
   ·exact hq _
structure FT(K:fI)(f:Addr)(x:Str)(st:Stmt):Prop where
 a:PySem.W.nsIn K mainGlobals x=some (some (.ref f))
 e:∃fd,bV K x x st f fd
structure FM(K:fI)(C f:Addr)(m x:Str)(st:Stmt):Prop where
 a:PySem.W.findIn K (.ref C) m=some (some (.ref f))
 i:PySem.W.isFn K (.ref f)=true
 e:∃fd,bV K m x st f fd
section
variable{K:fI}{C:Addr}{m x:Str}{st:Stmt}{oc:Value}{od an:Option Addr}{FE:Array (Option Value)}{kV doc pm aQ ct:Value}
theorem FT.of(a:PySem.W.nsIn K mainGlobals x=some (some (.ref f)))(l:K.lookup f=some ⟨oc,od, .func (PySem.W.fnOf x x (iL st) (fe st) (μ st) .none kV doc pm an aQ ct),FE⟩)(c:PySem.W.codeIn K aQ x=true)(k:PySem.W.keepIn K (.ref f)=true):FT K f x st:=⟨a,_,EY l c k⟩
theorem FM.of(a:PySem.W.findIn K (.ref C) m=some (some (.ref f)))(i:PySem.W.isFn K (.ref f)=true)(l:K.lookup f=some ⟨oc,od, .func (PySem.W.fnOf m x (iL st) (fe st) (μ st) .none kV doc pm an aQ ct),FE⟩)(c:PySem.W.codeIn K aQ x=true)(k:PySem.W.keepIn K (.ref f)=true):FM K C f m x st:=⟨a,i,_,EY l c k⟩
end
section
variable{P:List Value->Prop}
theorem P7(h:P []):∀us:List Value,us.length=0->P us
 | [],_=>h
 | _::_,e=>nomatch e
theorem bq(h:∀a0:Value,P [a0]):∀us:List Value,us.length=1->P us
 | [],e=>nomatch e
 | a::us,e=>P7 (P:=λus=>P (a::us)) (h a) us (Nat.succ.inj e)
theorem bz(h:∀a0 a1:Value,P [a0,a1]):∀us:List Value,us.length=2->P us
 | [],e=>nomatch e
 | a::us,e=>bq (P:=λus=>P (a::us)) (h a) us (Nat.succ.inj e)
theorem xv(h:∀a0 a1 a2:Value,P [a0,a1,a2]):∀us:List Value,us.length=3->P us
 | [],e=>nomatch e
 | a::us,e=>bz (P:=λus=>P (a::us)) (h a) us (Nat.succ.inj e)
theorem NF(h:∀a0 a1 a2 a3:Value,P [a0,a1,a2,a3]):∀us:List Value,us.length=4->P us
 | [],e=>nomatch e
 | a::us,e=>xv (P:=λus=>P (a::us)) (h a) us (Nat.succ.inj e)
end
theorem tj{K:fI}(h:PySem.W.subIn K (.type "int") (.type "bool")=some false):PySem.W.kitOne K (.type "int") (.type "bool")=some false:=by unfold PySem.W.kitOne PySem.W.kitCls;rw [aaA (by decide+kernel)];show (if PySem.W.kitMeta "bool"=true then _ else _)=_;rw [aaD (by decide+kernel)];exact h
theorem v7{K:fI}(h:PySem.W.subIn K (.type "int") (.type "str")=some false):PySem.W.kitOne K (.type "int") (.type "str")=some false:=by unfold PySem.W.kitOne PySem.W.kitCls;rw [aaA (by decide+kernel)];show (if PySem.W.kitMeta "str"=true then _ else _)=_;rw [aaD (by decide+kernel)];exact h
theorem qK{K:fI}(h:PySem.W.subIn K (.type "tuple") (.type "str")=some false):PySem.W.kitOne K (.type "tuple") (.type "str")=some false:=by unfold PySem.W.kitOne PySem.W.kitCls;rw [aaA (by decide+kernel)];show (if PySem.W.kitMeta "str"=true then _ else _)=_;rw [aaD (by decide+kernel)];exact h
theorem qO{K:fI}(h:PySem.W.subIn K (.type "tuple") (.type "int")=some false):PySem.W.kitOne K (.type "tuple") (.type "int")=some false:=by unfold PySem.W.kitOne PySem.W.kitCls;rw [aaA (by decide+kernel)];show (if PySem.W.kitMeta "int"=true then _ else _)=_;rw [aaD (by decide+kernel)];exact h
theorem uH{K:fI}(h:PySem.W.subIn K (.type "list") (.type "str")=some false):PySem.W.kitOne K (.type "list") (.type "str")=some false:=by unfold PySem.W.kitOne PySem.W.kitCls;rw [aaA (by decide+kernel)];show (if PySem.W.kitMeta "str"=true then _ else _)=_;rw [aaD (by decide+kernel)];exact h
theorem uw{K:fI}(h:PySem.W.subIn K (.type "list") (.type "int")=some false):PySem.W.kitOne K (.type "list") (.type "int")=some false:=by unfold PySem.W.kitOne PySem.W.kitCls;rw [aaA (by decide+kernel)];show (if PySem.W.kitMeta "int"=true then _ else _)=_;rw [aaD (by decide+kernel)];exact h
theorem pJ{K:fI}(h:PySem.W.subIn K (.type "tuple") (.type "list")=some false):PySem.W.kitOne K (.type "tuple") (.type "list")=some false:=by unfold PySem.W.kitOne PySem.W.kitCls;rw [aaA (by decide+kernel)];show (if PySem.W.kitMeta "list"=true then _ else _)=_;rw [aaD (by decide+kernel)];exact h
theorem qt{K:fI}(h:PySem.W.subIn K (.type "list") (.type "tuple")=some false):PySem.W.kitOne K (.type "list") (.type "tuple")=some false:=by unfold PySem.W.kitOne PySem.W.kitCls;rw [aaA (by decide+kernel)];show (if PySem.W.kitMeta "tuple"=true then _ else _)=_;rw [aaD (by decide+kernel)];exact h
theorem OA{β:Type}{Q:Str->β->Prop}{a b c:Str}{A B C:β}(ha:Q a A)(hb:Q b B)(hc:Q c C)(z:Str)(T:β)(h:([(a,A),(b,B),(c,C)]:List (Str×β)).lookup z=some T):Q z T:=by
 rw [aaZ] at h;split at h
 ·rename_i e;cases abb.mp e;cases h;exact ha
 rw [aaZ] at h;split at h
 ·rename_i e;cases abb.mp e;cases h;exact hb
 rw [aaZ] at h;split at h
 ·rename_i e;cases abb.mp e;cases h;exact hc
 cases h
theorem OC{β:Type}{Q:Str->β->Prop}{a b c d:Str}{A B C D:β}(ha:Q a A)(hb:Q b B)(hc:Q c C)(hd:Q d D)(z:Str)(T:β)(h:([(a,A),(b,B),(c,C),(d,D)]:List (Str×β)).lookup z=some T):Q z T:=by
 rw [aaZ] at h;split at h
 ·rename_i e;cases abb.mp e;cases h;exact ha
 exact OA hb hc hd z T h
open PySem.W in
theorem all_mk{l:OpenLaw}{w:World}{K:Frag}{h:Heap}{fa Ce Cf Cm ν AX fG P6 MB Nn f1 f2 f3 f4 f5 f6 f7 f8 f9 f10 ZV Z_ YY Z6 YA Wj Xa Z2 Wo Xl Xc Wy Yk f24 WI f26 Ww f28 YN f30 W7 YH XT ZT Wz Yp f37 XF Vz Wm V0 Za f43 X7 f45 Xu Vs Zk Xh f50 XB Vq Zx Y6 f55 f56 YC Z1 ZE:Addr}(X:K.In h)(G:h.Ns mainGlobals mg)(WA:mg "law"=some (.ref fa))
  {uD qY qA iT BB oO BC oM:Tok}
  (D8:nsIn K mainGlobals "NoText"=some (some (.ref Ce))) (DO:excIn K Ce [.type "ValueError", .type "Exception", .type "BaseException", .type "object"] "ValueError.__new__"=true)
  (DZ:nsIn K mainGlobals "NoName"=some (some (.ref Cf))) (Gh:excIn K Cf [.type "ValueError", .type "Exception", .type "BaseException", .type "object"] "ValueError.__new__"=true)
  (uC:nsIn K mainGlobals "MOST_DOORS"=some (some (.int (6) uD)))
  (qP:nsIn K mainGlobals "MOST_BOTTOM"=some (some (.int (1000000) qY)))
  (qV:nsIn K mainGlobals "MOST_PLACES"=some (some (.int (12) qA)))
  (iW:nsIn K mainGlobals "MOST_SHARE_BOTTOM"=some (some (.int (1000) iT)))
  (Bf:nsIn K mainGlobals "FIGURES"=some (some (.str "0123456789" BB)))
  (o6:nsIn K mainGlobals "MOST_FIGURES"=some (some (.int (60) oO)))
  (BO:nsIn K mainGlobals "LETTERS"=some (some (.str "abcdefghijklmnopqrstuvwxyz" BC)))
  (o_:nsIn K mainGlobals "MOST_LETTERS"=some (some (.int (8) oM)))
  (Io:nsIn K mainGlobals "Floor"=some (some (.ref Cm))) (vk:plainGet K Cm Str.empty=true) (uO:hasDictIn K Cm=true) (tR:plainOver K Cm=true) (uZ:findIn K (.ref Cm) "__setattr__"=some (some (.builtin "object.__setattr__"))) (Hs:makesIn K Cm=true) (IP:keepIn K (.ref Cm)=true)
  (uR:findIn K (.ref Cm) "kept_rows"=some none)
  (rf:findIn K (.ref Cm) "kept_share"=some none)
  (M6:nsIn K mainGlobals "Desk"=some (some (.ref ν))) (Gj:plainGet K ν Str.empty=true) (D4:hasDictIn K ν=true) (Ee:plainOver K ν=true) (DP:findIn K (.ref ν) "__setattr__"=some (some (.builtin "object.__setattr__"))) (KU:makesIn K ν=true) (K4:keepIn K (.ref ν)=true)
  (pR:findIn K (.ref ν) "kept_floors"=some none)
  {DD FW:Tok} {EC:Option Addr} {Gb:Array (Option Value)} {FA:Nat} (Dm:nsIn K mainGlobals "HANDS"=some (some (.ref AX))) (D9:K.lookup AX=some ⟨.type "tuple",EC, .seq #[(.str "one" DD),(.str "other" FW)] FA,Gb⟩)
  {j6 kT:Tok} {kL:Option Addr} {lx:Array (Option Value)} {kO:Nat} (ku:nsIn K mainGlobals "ROWS_WITH_HAND"=some (some (.ref fG))) (k9:K.lookup fG=some ⟨.type "tuple",kL, .seq #[(.str "plan" j6),(.str "hold" kT)] kO,lx⟩)
  (wW:subIn K (.type "int") (.type "bool")=some false)
  (zx:subIn K (.type "int") (.type "str")=some false)
  (vh:subIn K (.type "tuple") (.type "str")=some false)
  (uG:subIn K (.type "tuple") (.type "int")=some false)
  (xn:subIn K (.type "list") (.type "str")=some false)
  (wY:subIn K (.type "list") (.type "int")=some false)
  (rh:subIn K (.type "tuple") (.type "list")=some false)
  (qI:subIn K (.type "list") (.type "tuple")=some false)
  (t1:FT K f1 "_law_names" lH)
  (t2:FT K f2 "_law_nth" vb)
  (t3:FM K ν f3 "__init__" "Desk.__init__" l6)
  (t4:FT K f4 "_law_mixed" mx)
  (t5:FT K f5 "_law_gcd" sZ)
  (t6:FT K f6 "_law_lowest" jY)
  (t7:FT K f7 "_law_pay" tZ)
  (t8:FT K f8 "_law_small" mI)
  (t9:FT K f9 "_law_share" lY)
  (Yh:FT K f10 "_law_fraction" gF)
  (Yt:FT K ZV "_law_text" qo)
  (Wc:FT K Z_ "_law_is" xN)
  (Zf:FT K YY "words_of" pZ)
  (t14:FT K Z6 "is_name" uI)
  (t15:FT K YA "new_name" o9)
  (t16:FT K Wj "read_figures" gx)
  (Zu:FT K Xa "read_top" qh)
  (Zg:FT K Z2 "common_divisor" eg)
  (YM:FT K Wo "fraction" mR)
  (X1:FT K Xl "read_fraction" fC)
  (Zc:FT K Xc "read_share" jk)
  (t22:FT K Wy "read_name" ly)
  (Y0:FT K Yk "read_door" mP)
  (t24:FT K f24 "read_row" pH)
  (Zw:FT K WI "read_place" jw)
  (Y3:FT K f26 "numbers_of" jg)
  (ZK:FT K Ww "numbered_door" fm)
  (W_:FT K f28 "numbered_row" gE)
  (t29:FT K YN "fits_share" jK)
  (WU:FT K f30 "fits_pay" oV)
  (t31:FT K W7 "fits_door" lJ)
  (YB:FT K YH "fits_doors" jF)
  (YZ:FT K XT "common_bottom" fv)
  (Ym:FT K ZT "fits_chances" gG)
  (t35:FT K Wz "fits_row" pb)
  (Yw:FT K Yp "copied_row" jM)
  (W2:FM K Cm f37 "__init__" "Floor.__init__" jm)
  (WW:FT K XF "read_floor" jA)
  (Xz:FT K Vz "say_floor" mi)
  (Y7:FT K Wm "standing" mM)
  (t41:FT K V0 "say_drop" o5)
  (Yr:FM K Cm Za "rows" "Floor.rows" jj)
  (YL:FT K f43 "with_other_sign" eV)
  (t44:FT K X7 "turned_row" jN)
  (Zt:FM K Cm f45 "share" "Floor.share" h9)
  (Z9:FT K Xu "turned" tS)
  (Yi:FT K Vs "say_turn" oP)
  (XZ:FT K Zk "show_fraction" fq)
  (t49:FT K Xh "show_door" mn)
  (X3:FT K f50 "show_place" ji)
  (XC:FT K XB "show_floor" jL)
  (t52:FT K Vq "say_show" pC)
  (Zn:FM K ν Zx "say" "Desk.say" qb)
  (Zh:FT K Y6 "_law_said" qc)
  (t55:FT K f55 "_law_minus" mB)
  (We:FT K f56 "_law_turned" jP)
  (Xw:FT K YC "_law_deed" qv)
  (ZF:FT K Z1 "_law_shown" mF)
  (t59:FT K ZE "law" Lz)
  (NB:nsIn K mainGlobals "len"=some none)
  (OD:nsIn K mainGlobals "abs"=some none)
  (uE:nsIn K mainGlobals "isinstance"=some none)
  (ND:nsIn K mainGlobals "int"=some none)
  (MI:nsIn K mainGlobals "bool"=some none)
  (O1:nsIn K mainGlobals "str"=some none)
  (Jf:nsIn K mainGlobals "tuple"=some none)
  (LA:nsIn K mainGlobals "list"=some none)
  (Im:nsIn K mainGlobals "range"=some none)
  (wA:nsIn K mainGlobals "enumerate"=some none)
  (Oc:nsIn K mainGlobals "any"=some none)
  (PZ:nsIn K mainGlobals "all"=some none)
  (OS:nsIn K mainGlobals "sum"=some none)
  (OO:nsIn K mainGlobals "zip"=some none)
  (Pm:nsIn K mainGlobals "min"=some none)
  {OX Px N7:Array DictEntry} {WX Yd W5:Nat} {R3 Sn SD RL SK RB Sh:Tok}
  (W9:subIn K (.ref Cf) (.ref Cf)=some true)
  (T5:nsIn K mainGlobals "TURNED_KINDS"=some (some (.ref P6)))
  (TB:K.lookup P6=some ⟨.type "dict",none, .dict OX WX, #[]⟩)
  (SN:KeysLit w.params OX.toList)
  (Td:nsIn K P6 "one"=some (some (.str "other" R3)))
  (SR:nsIn K P6 "other"=some (some (.str "one" Sn)))
  (R1:nsIn K P6 "chance"=some (some (.str "chance" SD)))
  (R_:nsIn K mainGlobals "LENGTHS"=some (some (.ref MB)))
  (Tr:K.lookup MB=some ⟨.type "dict",none, .dict Px Yd, #[]⟩)
  (Sr:KeysLit w.params Px.toList)
  (Q_:(MB==sysModules)=false)
  (U0:nsIn K MB "floor"=some (some (.int 3 RL)))
  (Rv:nsIn K MB "drop"=some (some (.int 2 SK)))
  (Ul:nsIn K MB "turn"=some (some (.int 3 RB)))
  (R6:nsIn K MB "show"=some (some (.int 2 Sh)))
  (QY:nsIn K mainGlobals "SAYINGS"=some (some (.ref Nn)))
  (Ua:K.lookup Nn=some ⟨.type "dict",none, .dict N7 W5, #[]⟩)
  (TL:KeysLit w.params N7.toList)
  (Uh:nsIn K Nn "floor"=some (some (.ref Vz)))
  (Rk:nsIn K Nn "drop"=some (some (.ref V0)))
  (TK:nsIn K Nn "turn"=some (some (.ref Vs)))
  (RT:nsIn K Nn "show"=some (some (.ref Vq)))
  :∃fd:FuncData,(∀(s:Shared) (v:Value),BindsTo s fd ⟨[v],[]⟩ [("_law_script",v)])/\∀base:Heap,K.In base->base.Ns mainGlobals mg->Τ l.prog w K mg base Qc 12 fa fd ["_law_script"] (w6 K):=by
 obtain ⟨a1,_,F1⟩:=t1;obtain ⟨a2,_,F2⟩:=t2;obtain ⟨a3,i3,_,F3⟩:=t3;obtain ⟨a4,_,F4⟩:=t4;obtain ⟨a5,_,F5⟩:=t5;obtain ⟨a6,_,F6⟩:=t6;obtain ⟨a7,_,F7⟩:=t7;obtain ⟨a8,_,F8⟩:=t8;obtain ⟨a9,_,F9⟩:=t9;obtain ⟨QS,_,QZ⟩:=Yh;obtain ⟨Vi,_,SG⟩:=Yt;obtain ⟨ZD,_,Uq⟩:=Wc;obtain ⟨a13,_,UH⟩:=Zf;obtain ⟨XX,_,Ss⟩:=t14;obtain ⟨YU,_,Uo⟩:=t15;obtain ⟨a16,_,RC⟩:=t16;obtain ⟨a17,_,S5⟩:=Zu;obtain ⟨WS,_,Sg⟩:=Zg;obtain ⟨Zi,_,Tq⟩:=YM;obtain ⟨X2,_,S_⟩:=X1;obtain ⟨YE,_,RK⟩:=Zc;obtain ⟨a22,_,Rh⟩:=t22;obtain ⟨a23,_,R9⟩:=Y0;obtain ⟨a24,_,R0⟩:=t24;obtain ⟨WE,_,Ti⟩:=Zw;obtain ⟨a26,_,Rz⟩:=Y3;obtain ⟨XE,_,TQ⟩:=ZK;obtain ⟨ZP,_,Us⟩:=W_;obtain ⟨Wi,_,RE⟩:=t29;obtain ⟨WQ,_,Sk⟩:=WU;obtain ⟨Wt,_,Tb⟩:=t31;obtain ⟨WJ,_,Q3⟩:=YB;obtain ⟨XG,_,UD⟩:=YZ;obtain ⟨Y5,_,S3⟩:=Ym;obtain ⟨Wq,_,Ux⟩:=t35;obtain ⟨Wg,_,UK⟩:=Yw;obtain ⟨XA,Wu,_,VO⟩:=W2;obtain ⟨ZA,_,Th⟩:=WW;obtain ⟨Xr,_,S7⟩:=Xz;obtain ⟨a40,_,RN⟩:=Y7;obtain ⟨YD,_,SJ⟩:=t41;obtain ⟨ZJ,ZM,_,Ut⟩:=Yr;obtain ⟨a43,_,RQ⟩:=YL;obtain ⟨Y2,_,US⟩:=t44;obtain ⟨W4,Xy,_,Tn⟩:=Zt;obtain ⟨Y4,_,RS⟩:=Z9;obtain ⟨X8,_,RJ⟩:=Yi;obtain ⟨a48,_,RV⟩:=XZ;obtain ⟨Zj,_,TY⟩:=t49;obtain ⟨Xb,_,Ra⟩:=X3;obtain ⟨a51,_,UR⟩:=XC;obtain ⟨YI,_,UY⟩:=t52;obtain ⟨a53,YQ,_,Sy⟩:=Zn;obtain ⟨YF,_,RM⟩:=Zh;obtain ⟨Yc,_,T2⟩:=t55;obtain ⟨a56,_,Rr⟩:=We;obtain ⟨X_,_,TX⟩:=Xw;obtain ⟨Wf,_,RY⟩:=ZF;obtain ⟨Wb,dL,Vx⟩:=t59;have e:=WA.symm.trans (mg_of X G Wb);cases e;have Eh:=mg_of X G D8;have G9:eK K Ce _ _:=⟨DO⟩;have FZ:=mg_of X G DZ;have IC:eK K Cf _ _:=⟨Gh⟩;have uM:=mg_of X G uC;have qT:=mg_of X G qP;have qD:=mg_of X G qV;have iX:=mg_of X G iW;have BZ:=mg_of X G Bf;have oA:=mg_of X G o6;have Cp:=mg_of X G BO;have oZ:=mg_of X G o_;have cf:=mg_none_of X G NB;have nj:=mg_none_of X G OD;have cM:=mg_none_of X G uE;have zV:=mg_none_of X G ND;have yV:=mg_none_of X G MI;have mT:=mg_none_of X G O1;have j9:=mg_none_of X G Jf;have uX:=mg_none_of X G LA;have bU:=mg_none_of X G Im;have dm:=mg_none_of X G wA;have vZ:=mg_none_of X G Oc;have vB:=mg_none_of X G PZ;have xr:=mg_none_of X G OS;have Ae:=mg_none_of X G OO;have z4:=mg_none_of X G Pm;have E:Ev K mg w Cm ν Ce Cf:={cf:=cf,nj:=nj,cM:=cM,zV:=zV,yV:=yV,mT:=mT,j9:=j9,uX:=uX,bU:=bU,dm:=dm,vZ:=vZ,vB:=vB,xr:=xr,Ae:=Ae,z4:=z4,ib:=tj wW,X':=v7 zx,kts:=qK vh,Wk:=qO uG,kls:=uH xn,XI:=uw wY,Y8:=pJ rh,klt:=qt qI,bR:=Eh,bP:=G9,tD:=FZ,uz:=IC,AN:=W9,hV:=⟨vk,uO,tR,uZ⟩,tM:=⟨Gj,D4,Ee,DP⟩,gz:=uR,fo:=rf,eN:=pR,tP:=⟨_,_,_,_,mg_of X G Dm,D9,rfl,rfl,gV, .cons ⟨_,rfl⟩ (.cons ⟨_,rfl⟩ .nil)⟩,gL:=⟨_,_,_,_,mg_of X G ku,k9,rfl,rfl,gV, .cons ⟨_,rfl⟩ (.cons ⟨_,rfl⟩ .nil)⟩,i5:=⟨_,_,_,mg_of X G T5,TB,SN,OA ⟨_,Td⟩ ⟨_,SR⟩ ⟨_,R1⟩⟩,qg:=⟨_,_,_,mg_of X G R_,Tr,Sr,Q_,OC ⟨_,U0⟩ ⟨_,Rv⟩ ⟨_,Ul⟩ ⟨_,R6⟩⟩,mU:=⟨_,uM⟩,gy:=⟨_,qT⟩,ll:=⟨_,qD⟩,eA:=⟨_,iX⟩,xt:=⟨_,BZ⟩,i':=⟨_,oA⟩,vQ:=⟨_,Cp⟩,iY:=⟨_,oZ⟩};refine ⟨dL,λs v=>by obtain ⟨_,_,_,_,_,_,_,_,_,rfl,_⟩:=Vx.ex;exact .of_eq rfl,λbase _ _=> ?_⟩;have mc:= @aa.mk l.prog w K mg base;have cV:=mc (vK F1 E) (F1.binds λ_ _ _ _ _ _=>bz λ_ _=>rfl) (mg_of X G a1) F1.kp;have pQ:=mc (Cr F2 E) (F2.binds λ_ _ _ _ _ _=>bz λ_ _=>rfl) (mg_of X G a2) F2.kp;have gC:x_ l.prog w K mg base _ "Desk" ν _ _ _ _:=⟨vy F3 E,(F3.binds λ_ _ _ _ _ _=>bq λ_=>rfl),⟨KU,a3,i3,K4⟩,mg_of X G M6⟩;have jC:=mc (vW F4 E) (F4.binds λ_ _ _ _ _ _=>bz λ_ _=>rfl) (mg_of X G a4) F4.kp;have oE:=mc (BE F5 E) (F5.binds λ_ _ _ _ _ _=>bz λ_ _=>rfl) (mg_of X G a5) F5.kp;have aE:=mc (tH F6 E oE) (F6.binds λ_ _ _ _ _ _=>bz λ_ _=>rfl) (mg_of X G a6) F6.kp;have kS:=mc (BH F7 E aE) (F7.binds λ_ _ _ _ _ _=>bz λ_ _=>rfl) (mg_of X G a7) F7.kp;have jx:=mc (wu F8 E kS aE) (F8.binds λ_ _ _ _ _ _=>bz λ_ _=>rfl) (mg_of X G a8) F8.kp;have jX:=mc (wz F9 E aE) (F9.binds λ_ _ _ _ _ _=>bq λ_=>rfl) (mg_of X G a9) F9.kp;have b_:=mc (pM QZ E) (QZ.binds λ_ _ _ _ _ _=>bq λ_=>rfl) (mg_of X G QS) QZ.kp;have dZ:=mc (xY SG E b_) (SG.binds λ_ _ _ _ _ _=>xv λ_ _ _=>rfl) (mg_of X G Vi) SG.kp;have fi:=mc (EJ Uq E) (Uq.binds λ_ _ _ _ _ _=>bz λ_ _=>rfl) (mg_of X G ZD) Uq.kp;have mh:=mc (ye UH E) (UH.binds λ_ _ _ _ _ _=>bq λ_=>rfl) (mg_of X G a13) UH.kp;have fW:=mc (BP Ss E) (Ss.binds λ_ _ _ _ _ _=>bq λ_=>rfl) (mg_of X G XX) Ss.kp;have dU:=mc (xX Uo E fW) (Uo.binds λ_ _ _ _ _ _=>bq λ_=>rfl) (mg_of X G YU) Uo.kp;have bp:=mc (qx RC E) (RC.binds λ_ _ _ _ _ _=>bq λ_=>rfl) (mg_of X G a16) RC.kp;have lX:=mc (y9 S5 E bp) (S5.binds λ_ _ _ _ _ _=>bq λ_=>rfl) (mg_of X G a17) S5.kp;have a_:=mc (lL Sg E) (Sg.binds λ_ _ _ _ _ _=>bz λ_ _=>rfl) (mg_of X G WS) Sg.kp;have gr:=mc (vU Tq E a_) (Tq.binds λ_ _ _ _ _ _=>bz λ_ _=>rfl) (mg_of X G Zi) Tq.kp;have ay:=mc (nz S_ E lX gr bp) (S_.binds λ_ _ _ _ _ _=>bq λ_=>rfl) (mg_of X G X2) S_.kp;have iA:=mc (ua RK E ay) (RK.binds λ_ _ _ _ _ _=>bq λ_=>rfl) (mg_of X G YE) RK.kp;have cU:=mc (wb Rh E fW) (Rh.binds λ_ _ _ _ _ _=>bq λ_=>rfl) (mg_of X G a22) Rh.kp;have gi:=mc (wq R9 E cU ay) (R9.binds λ_ _ _ _ _ _=>bz λ_ _=>rfl) (mg_of X G a23) R9.kp;have lO:=mc (yZ R0 E ay gi) (R0.binds λ_ _ _ _ _ _=>bz λ_ _=>rfl) (mg_of X G a24) R0.kp;have gX:=mc (uV Ti E lO cU) (Ti.binds λ_ _ _ _ _ _=>bq λ_=>rfl) (mg_of X G WE) Ti.kp;have hI:=mc (uA Rz E) (Rz.binds λ_ _ _ _ _ _=>bq λ_=>rfl) (mg_of X G a26) Rz.kp;have eO:=mc (nC TQ E) (TQ.binds λ_ _ _ _ _ _=>bz λ_ _=>rfl) (mg_of X G XE) TQ.kp;have fA:=mc (pT Us E eO) (Us.binds λ_ _ _ _ _ _=>bz λ_ _=>rfl) (mg_of X G ZP) Us.kp;have ix:=mc (tX RE E) (RE.binds λ_ _ _ _ _ _=>bq λ_=>rfl) (mg_of X G Wi) RE.kp;have dW:=mc (zf Sk E) (Sk.binds λ_ _ _ _ _ _=>bq λ_=>rfl) (mg_of X G WQ) Sk.kp;have jU:=mc (xo Tb E dW) (Tb.binds λ_ _ _ _ _ _=>bz λ_ _=>rfl) (mg_of X G Wt) Tb.kp;have fg:=mc (uK Q3 E jU) (Q3.binds λ_ _ _ _ _ _=>bz λ_ _=>rfl) (mg_of X G WJ) Q3.kp;have eR:=mc (nE UD E a_) (UD.binds λ_ _ _ _ _ _=>bq λ_=>rfl) (mg_of X G XG) UD.kp;have fB:=mc (oG S3 E eR) (S3.binds λ_ _ _ _ _ _=>bq λ_=>rfl) (mg_of X G Y5) S3.kp;have ma:=mc (zy Ux E dW fg fB) (Ux.binds λ_ _ _ _ _ _=>bz λ_ _=>rfl) (mg_of X G Wq) Ux.kp;have cA:=mc (vj UK E) (UK.binds λ_ _ _ _ _ _=>bq λ_=>rfl) (mg_of X G Wg) UK.kp;have cx:x_ l.prog w K mg base _ "Floor" Cm _ _ _ _:=⟨u0 VO E ix ma cA,(VO.binds λ_ _ _ _ _ _=>xv λ_ _ _=>rfl),⟨Hs,XA,Wu,IP⟩,mg_of X G Io⟩;have hU:=mc (uB Th E iA gX hI fA cx) (Th.binds λ_ _ _ _ _ _=>bq λ_=>rfl) (mg_of X G ZA) Th.kp;have jQ:=mc (wI S7 E dU hU) (S7.binds λ_ _ _ _ _ _=>bz λ_ _=>rfl) (mg_of X G Xr) S7.kp;have bF:=mc (vV RN E) (RN.binds λ_ _ _ _ _ _=>bz λ_ _=>rfl) (mg_of X G a40) RN.kp;have mq:=mc (xP SJ E bF) (SJ.binds λ_ _ _ _ _ _=>bz λ_ _=>rfl) (mg_of X G YD) SJ.kp;have cB:qS l.prog w K mg base _ Cm "rows" _ _ _ _:=⟨tV Ut E cA,(Ut.binds λ_ _ _ _ _ _=>bq λ_=>rfl),⟨vk,uO,tR,uZ⟩,⟨ZJ,ZM,Ut.kp⟩⟩;have cj:=mc (mH RQ E) (RQ.binds λ_ _ _ _ _ _=>bq λ_=>rfl) (mg_of X G a43) RQ.kp;have ij:=mc (uf US E cj) (US.binds λ_ _ _ _ _ _=>bq λ_=>rfl) (mg_of X G Y2) US.kp;have bQ:qS l.prog w K mg base _ Cm "share" _ _ _ _:=⟨qR Tn E,(Tn.binds λ_ _ _ _ _ _=>bq λ_=>rfl),⟨vk,uO,tR,uZ⟩,⟨W4,Xy,Tn.kp⟩⟩;have pK:=mc (Be RS E cx cB ij bQ) (RS.binds λ_ _ _ _ _ _=>bq λ_=>rfl) (mg_of X G Y4) RS.kp;have lK:=mc (yv RJ E dU bF pK) (RJ.binds λ_ _ _ _ _ _=>bz λ_ _=>rfl) (mg_of X G X8) RJ.kp;have av:=mc (nD RV E) (RV.binds λ_ _ _ _ _ _=>bq λ_=>rfl) (mg_of X G a48) RV.kp;have jZ:=mc (wm TY E av) (TY.binds λ_ _ _ _ _ _=>bz λ_ _=>rfl) (mg_of X G Zj) TY.kp;have iu:=mc (tO Ra E av jZ) (Ra.binds λ_ _ _ _ _ _=>xv λ_ _ _=>rfl) (mg_of X G Xb) Ra.kp;have iw:=mc (uQ UR E av bQ cB iu) (UR.binds λ_ _ _ _ _ _=>bz λ_ _=>rfl) (mg_of X G a51) UR.kp;have lP:=mc (yX UY E bF iw) (UY.binds λ_ _ _ _ _ _=>bz λ_ _=>rfl) (mg_of X G YI) UY.kp;have lW:LX l.prog w K mg base 8 "SAYINGS" ["kept","words"] (yP Cm Cf):=⟨_,_,_,mg_of X G QY,Ua,TL,OC ⟨_,_,Uh,jQ.ok,jQ.b,jQ.kp⟩ ⟨_,_,Rk,mq.ok,mq.b,mq.kp⟩ ⟨_,_,TK,lK.ok,lK.b,lK.kp⟩ ⟨_,_,RT,lP.ok,lP.b,lP.kp⟩⟩;have lA:qS l.prog w K mg base _ ν "say" _ _ _ _:=⟨y4 Sy E mh lW,(Sy.binds λ_ _ _ _ _ _=>bz λ_ _=>rfl),⟨Gj,D4,Ee,DP⟩,⟨a53,YQ,Sy.kp⟩⟩;have cv:=mc (yk RM E lA) (RM.binds λ_ _ _ _ _ _=>bz λ_ _=>rfl) (mg_of X G YF) RM.kp;have gj:=mc (vL T2 E) (T2.binds λ_ _ _ _ _ _=>bq λ_=>rfl) (mg_of X G Yc) T2.kp;have ia:=mc (tm Rr E gj) (Rr.binds λ_ _ _ _ _ _=>bq λ_=>rfl) (mg_of X G a56) Rr.kp;have iI:=mc (yB TX E jC jx cV jX dZ fi cv ia) (TX.binds λ_ _ _ _ _ _=>NF λ_ _ _ _=>rfl) (mg_of X G X_) TX.kp;have bN:=mc (wa RY E dZ fi cv) (RY.binds λ_ _ _ _ _ _=>xv λ_ _ _=>rfl) (mg_of X G Wf) RY.kp;exact KA (KW Vx E cV pQ gC iI bN)
theorem walk{l:PySem.W.OpenLaw}{q:Program}{loose:List Str}{XP:(Str->Option Value)->Heap->Prop}{YP:World->Heap->Prop}{d:DefRec}{K:Params->fI}(hn:l.most=some 63)(PR:d.params.defaults=[])
  (hY:∀(w:World) (h:Heap),YP w h->(K w.params).In h)
  (F:∀(w:World) (mg:Str->Option Value) (fa:Addr) (h:Heap),(K w.params).In h->h.Ns mainGlobals mg->mg d.name=some (.ref fa)->
   ∃fd:FuncData,(∀(s:Shared) (u:Value),BindsTo s fd ⟨[u],[]⟩ [("_law_script",u)])/\∀base:Heap,(K w.params).In base->base.Ns mainGlobals mg->Τ l.prog w (K w.params) mg base Qc 12 fa fd ["_law_script"] (w6 (K w.params))):
  PySem.W.WalkO q loose XP YP l.row.toRowW d [] (λf vs=>PySem.call f vs):=
 L2.sW (n:=63) (k:=12) (x:="_law_script") (CX:=λ_=>Qc) (sp:=λw=>w6 (K w.params)) hn (by decide) PR ⟨rfl,by decide,by decide⟩ hY F (λ_ _ a ns hl _ hS=>⟨a,ns,rfl,hS,hl,λ_=>rfl⟩) λ_ _ _ _ _ z=>z
end
end Pg
open PySem PySem.W PyProof.Rows
set_option maxRecDepth 100000 in
set_option maxHeartbeats 0 in
theorem PySem.Challenge.cw_chanceduel_k71_a_desk_keeps_holds : PySem.Challenge.rw_chanceduel_k71_a_desk_keeps.Holds := by
 w_on;o_law
 refine holds_open (q:=Hd.q) (loose:=["TURNED_KINDS","mended","LENGTHS","SAYINGS"]) (Xt:=Hd.Xt) (XP:=XL Hd.q [])
  (Yf:=Hd.H.obs) (Ya:=Hd.H.val) (YP:=Hd.H.says) Hd.left Hd.H.of Hd.H.keeps
  (λs e=>xl_of s (Bool.and_eq_true_iff.mp e).1) XL.keeps (by rfl) (by rfl) (by rfl)
  (λs e=>recFacts_of (Bool.and_eq_true_iff.mp e).2) (by rfl) (by assumption) (by decide+kernel)
  ⟨rfl,rfl,rfl,rfl,rfl,by decide+kernel⟩ ?hw ?hc
 (case hw=>w_witness2)
 refine Pg.walk (l:=PySem.Challenge.rw_chanceduel_k71_a_desk_keeps) rfl rfl (fun w h Y=>PySem.W.kIn_of Y) ?F
 case F=>
  k_fill
  intro w mg fa h KX G HN
  refine' Pg.all_mk KX G HN ?_ ?_ ?_ ?_ ?_ ?_ ?_ ?_ ?_ ?_ ?_ ?_ ?_ ?_ ?_ ?_ ?_ ?_ ?_ ?_ ?_ ?_ ?_ ?_ ?_ ?_ ?_ ?_ ?_ ?_ ?_ ?_ ?_ ?_ ?_ ?_ ?_ ?_ ?_ ?_ ?_ ?_ ?_ ?_ ?_ ?_ ?_ ?_ ?_ ?_ ?_ ?_ ?_ ?_ ?_ ?_ ?_ ?_ ?_ ?_ ?_ ?_ ?_ ?_ ?_ ?_ ?_ ?_ ?_ ?_ ?_ ?_ ?_ ?_ ?_ ?_ ?_ ?_ ?_ ?_ ?_ ?_ ?_ ?_ ?_ ?_ ?_ ?_ ?_ ?_ ?_ ?_ ?_ ?_ ?_ ?_ ?_ ?_ ?_ ?_ ?_ ?_ ?_ ?_ ?_ ?_ ?_ ?_ ?_ ?_ ?_ ?_ ?_ ?_ ?_ ?_ ?_ ?_ ?_ ?_ ?_ ?_ ?_ ?_ ?_ ?_ ?_ ?_ ?_ ?_ ?_ ?_ ?_ ?_ ?_ ?_ ?_
  all_goals try first | (refine' Pg.FT.of ?_ ?_ ?_ ?_ <;> try k_is) | (refine' Pg.FM.of ?_ ?_ ?_ ?_ ?_ <;> try k_is) | k_is | k_exc | kernel_rfl
  all_goals try exact ⟨⟨_,_,rfl,rfl⟩,⟨_,_,rfl,rfl⟩,⟨_,_,rfl,rfl⟩,trivial⟩
  all_goals try exact ⟨⟨_,_,rfl,rfl⟩,⟨_,_,rfl,rfl⟩,⟨_,_,rfl,rfl⟩,⟨_,_,rfl,rfl⟩,⟨_,_,rfl,rfl⟩,⟨_,_,rfl,rfl⟩,⟨_,_,rfl,rfl⟩,⟨_,_,rfl,rfl⟩,⟨_,_,rfl,rfl⟩,⟨_,_,rfl,rfl⟩,⟨_,_,rfl,rfl⟩,⟨_,_,rfl,rfl⟩,⟨_,_,rfl,rfl⟩,trivial⟩
