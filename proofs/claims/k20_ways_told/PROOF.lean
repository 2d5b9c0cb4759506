import PyProof.Rows.All
import Wide.All
import OpenK.AllK
import Wide.FinOn
import Lean
import PyProof.EqAt
import PyProof.EqKinds
import PyProof.NeKinds
import PyProof.Rows.Range3
import PyProof.TupleCall
import PyProof.MinMaxWalk
import PyProof.SumAny
import PyProof.WalksEnum
import PyProof.Rows.StrSplitMax
import PyProof.ExcInit
import PyProof.ExcClass2
import PyProof.InstStore
import PyProof.InstStoreFacts
import PyProof.ExcBaseAll.ValueError
import PyProof.InstLoad
import PyProof.ExcArgsOwn
import PyProof.RaisesMany
import PyProof.NsDelKeeps
import KE.KIsAll
import KE.KIntText
import KE.IntTextLaws
import PySem.Challenge.RW_pageback_k20_ways_told
noncomputable section
set_option Elab.async false
set_option linter.all false
set_option maxRecDepth 100000
set_option maxHeartbeats 4000000
namespace L2
open PySem
def zfe (s:Stmt):Arguments:=match s with
 | .FunctionDef _ a _ _ _ _ _ _ _ _=>a
 | _=>{ posonlyargs:=[],args:=[],vararg:=none,kwonlyargs:=[],kw_defaults:=[],kwarg:=none,defaults:=[] }
def zb9 (s:Stmt):List Stmt:=match s with
 | .FunctionDef _ _ b _ _ _ _ _ _ _=>b
 | _=>[]
def zad (s:Stmt):Scope:=match s with
 | .FunctionDef _ _ _ _ _ _ sc _ _ _=>sc
 | _=>{ kind:=.function,names:=[],isGenerator:=false,isCoroutine:=false }
end L2
namespace K20
open PySem L2
def top (i:Nat):Stmt:=PySem.Challenge.pw_pageback_k20_ways_told.main.body.getD i (.Pass ⟨0,0,0,0⟩)
abbrev Zs (x:String) (t:Tok):Value:=.str (Str.ofString x) t
abbrev Ze (P:Params) (x:String) (t:Tok) (v:Value):DictEntry:=⟨PyData.keyHash P (Str.ofString x),Zs x t,v⟩
abbrev Zt (a:Array Value):Obj:=⟨.type "tuple",none,.seq a,#[]⟩
abbrev Zc (a:Array Value):Obj:=⟨.type "code",none,.fields a,#[]⟩
abbrev Zd (a:Array DictEntry) (n:Nat):Obj:=⟨.type "dict",none,.dict a n,#[]⟩
abbrev Zf (n q:String) (s:Stmt) (pm cd:Value):Obj:=⟨.type "function",none,.func (PySem.W.fnOf (Str.ofString n) (Str.ofString q) (zfe s) (zb9 s) (zad s) .none .none .none pm none cd .none),#[]⟩
abbrev Zk (n q:String) (a b c:Tok) (l k:Int) (r r1:Addr) (x y z:Value) (m:Addr) (d e:Nat):Obj:=Zc #[Zs n a,Zs q b,Zs "/claim/cut.py" c,.int l 0,.int k 0,.int 0 0,.int 0 0,.int 3 0,.ref r,.bool true,.int 181 0,.ref r1,x,y,z,.ref m,.int d 0,.int l 0,Zs "/claim/cut.py" e]
abbrev Zm:Value:=Zs "law_pageback_k20_ways_told" 602
def KK (P:Params):PySem.W.Frag :=
 [(3,Zd #[Ze P "__name__" 165 Zm,Ze P "__doc__" 166 .none,Ze P "__package__" 167 .none,Ze P "__loader__" 168 (.builtin "__main__.__loader__#opaque"),Ze P "__spec__" 169 .none,Ze P "__annotations__" 170 (.ref 6),Ze P "__builtins__" 171 (.ref 4),Ze P "__file__" 173 (Zs "/claim/cut.py" 172),Ze P "__cached__" 174 .none,Ze P "PageError" 206 (.ref 24),Ze P "OutOfBook" 235 (.ref 44),Ze P "SentHere" 260 (.ref 63),Ze P "Both" 285 (.ref 82),Ze P "TwoWays" 310 (.ref 101),Ze P "Ring" 335 (.ref 120),Ze P "Nowhere" 362 (.ref 139),Ze P "LETTERS_AND_FIGURES" 366 (Zs "abcdefghijklmnopqrstuvwxyzABCDEFGHIJKLMNOPQRSTUVWXYZ0123456789" 365),Ze P "shown" 374 (.ref 148),Ze P "key_of" 380 (.ref 153),Ze P "rank" 386 (.ref 158),Ze P "fits" 396 (.ref 165),Ze P "poured" 409 (.ref 172),Ze P "poured_sees" 421 (.ref 179),Ze P "copied" 428 (.ref 186),Ze P "mark_rank" 435 (.ref 193),Ze P "see_rank" 442 (.ref 200),Ze P "ways" 450 (.ref 205),Ze P "pages_by_path" 460 (.ref 212),Ze P "goals_by_path" 471 (.ref 219),Ze P "way_of_see" 486 (.ref 226),Ze P "refuse_start" 497 (.ref 233),Ze P "way_of_goal" 507 (.ref 240),Ze P "ring_in" 514 (.ref 247),Ze P "from_least" 522 (.ref 254),Ze P "pages" 537 (.ref 261),Ze P "stretches" 550 (.ref 268),Ze P "strong_by_page" 564 (.ref 275),Ze P "goes_on" 573 (.ref 282),Ze P "entries" 581 (.ref 287),Ze P "refuse_unfit" 590 (.ref 294),Ze P "marks_by_path" 601 (.ref 301),Ze P "_law_whole" 610 (.ref 308),Ze P "_law_cell_at" 618 (.ref 315),Ze P "_law_head_by" 632 (.ref 322),Ze P "_law_path_by" 638 (.ref 327),Ze P "_law_fresh" 650 (.ref 334),Ze P "_law_marks" 661 (.ref 341),Ze P "_law_sent" 667 (.ref 346),Ze P "_law_sees" 673 (.ref 351),Ze P "_law_so" 689 (.ref 358),Ze P "law" 695 (.ref 363)] 51),
  (23,Zd #[Ze P "__module__" 196 (Zs "pageback.errors" 187),Ze P "__firstlineno__" 200 (.int 2 199),Ze P "__static_attributes__" 201 (.ref 22),Ze P "__weakref__" 203 (.ref 25),Ze P "__doc__" 204 .none] 3),
  (24,Obj.mk (.type "type") none (Data.cls (ClassData.mk (Str.ofString "PageError") [.type "ValueError"] [.ref 24,.type "ValueError",.type "Exception",.type "BaseException",.type "object"] 23 (Str.ofString "PageError") true [] [.ref 44,.ref 63,.ref 82,.ref 101,.ref 120,.ref 139] false none false)) #[some (.ref 15),none,some (Zs "PageError" 189),some (Zs "PageError" 197),some (.builtin "ValueError.__new__"),some (.bool true)]),
  (43,Zd #[Ze P "__module__" 214 (Zs "pageback.errors" 187),Ze P "__firstlineno__" 218 (.int 4 217),Ze P "__init__" 228 (.ref 41),Ze P "__static_attributes__" 232 (.ref 42),Ze P "__doc__" 233 .none] 2),
  (44,Obj.mk (.type "type") none (Data.cls (ClassData.mk (Str.ofString "OutOfBook") [.ref 24] [.ref 44,.ref 24,.type "ValueError",.type "Exception",.type "BaseException",.type "object"] 43 (Str.ofString "OutOfBook") true [] [] false none false)) #[some (.ref 28),none,some (Zs "OutOfBook" 207),some (Zs "OutOfBook" 215),some (.builtin "ValueError.__new__"),some (.bool true)]),
  (62,Zd #[Ze P "__module__" 243 (Zs "pageback.errors" 187),Ze P "__firstlineno__" 247 (.int 10 246),Ze P "__init__" 255 (.ref 60),Ze P "__static_attributes__" 257 (.ref 61),Ze P "__doc__" 258 .none] 2),
  (63,Obj.mk (.type "type") none (Data.cls (ClassData.mk (Str.ofString "SentHere") [.ref 24] [.ref 63,.ref 24,.type "ValueError",.type "Exception",.type "BaseException",.type "object"] 62 (Str.ofString "SentHere") true [] [] false none false)) #[some (.ref 47),none,some (Zs "SentHere" 236),some (Zs "SentHere" 244),some (.builtin "ValueError.__new__"),some (.bool true)]),
  (81,Zd #[Ze P "__module__" 268 (Zs "pageback.errors" 187),Ze P "__firstlineno__" 272 (.int 14 271),Ze P "__init__" 280 (.ref 79),Ze P "__static_attributes__" 282 (.ref 80),Ze P "__doc__" 283 .none] 2),
  (82,Obj.mk (.type "type") none (Data.cls (ClassData.mk (Str.ofString "Both") [.ref 24] [.ref 82,.ref 24,.type "ValueError",.type "Exception",.type "BaseException",.type "object"] 81 (Str.ofString "Both") true [] [] false none false)) #[some (.ref 66),none,some (Zs "Both" 261),some (Zs "Both" 269),some (.builtin "ValueError.__new__"),some (.bool true)]),
  (100,Zd #[Ze P "__module__" 293 (Zs "pageback.errors" 187),Ze P "__firstlineno__" 297 (.int 18 296),Ze P "__init__" 305 (.ref 98),Ze P "__static_attributes__" 307 (.ref 99),Ze P "__doc__" 308 .none] 2),
  (101,Obj.mk (.type "type") none (Data.cls (ClassData.mk (Str.ofString "TwoWays") [.ref 24] [.ref 101,.ref 24,.type "ValueError",.type "Exception",.type "BaseException",.type "object"] 100 (Str.ofString "TwoWays") true [] [] false none false)) #[some (.ref 85),none,some (Zs "TwoWays" 286),some (Zs "TwoWays" 294),some (.builtin "ValueError.__new__"),some (.bool true)]),
  (119,Zd #[Ze P "__module__" 318 (Zs "pageback.errors" 187),Ze P "__firstlineno__" 322 (.int 22 321),Ze P "__init__" 330 (.ref 117),Ze P "__static_attributes__" 332 (.ref 118),Ze P "__doc__" 333 .none] 2),
  (120,Obj.mk (.type "type") none (Data.cls (ClassData.mk (Str.ofString "Ring") [.ref 24] [.ref 120,.ref 24,.type "ValueError",.type "Exception",.type "BaseException",.type "object"] 119 (Str.ofString "Ring") true [] [] false none false)) #[some (.ref 104),none,some (Zs "Ring" 311),some (Zs "Ring" 319),some (.builtin "ValueError.__new__"),some (.bool true)]),
  (138,Zd #[Ze P "__module__" 343 (Zs "pageback.errors" 187),Ze P "__firstlineno__" 347 (.int 27 346),Ze P "__init__" 356 (.ref 136),Ze P "__static_attributes__" 359 (.ref 137),Ze P "__doc__" 360 .none] 2),
  (139,Obj.mk (.type "type") none (Data.cls (ClassData.mk (Str.ofString "Nowhere") [.ref 24] [.ref 139,.ref 24,.type "ValueError",.type "Exception",.type "BaseException",.type "object"] 138 (Str.ofString "Nowhere") true [] [] false none false)) #[some (.ref 123),none,some (Zs "Nowhere" 336),some (Zs "Nowhere" 344),some (.builtin "ValueError.__new__"),some (.bool true)]),
  (147,Zk "shown" "shown" 367 368 369 34 1 142 143 (.none) (.ref 144) (.ref 145) 146 372 373),
  (148,Zf "shown" "shown" (top 10) (Zs "pageback.heads" 363) (.ref 147)),
  (152,Zk "key_of" "key_of" 375 376 377 39 1 149 150 .none .none .none 151 378 379),
  (153,Zf "key_of" "key_of" (top 11) (Zs "pageback.heads" 363) (.ref 152)),
  (157,Zk "rank" "rank" 381 382 383 41 1 154 155 .none .none .none 156 384 385),
  (158,Zf "rank" "rank" (top 12) (Zs "pageback.heads" 363) (.ref 157)),
  (164,Zk "fits" "fits" 389 390 391 44 2 159 160 (.none) (.ref 161) (.ref 162) 163 394 395),
  (165,Zf "fits" "fits" (top 14) (Zs "pageback.marks" 387) (.ref 164)),
  (171,Zk "poured" "poured" 397 398 399 46 1 166 167 (.none) (.ref 168) (.ref 169) 170 407 408),
  (172,Zf "poured" "poured" (top 15) (Zs "pageback.marks" 387) (.ref 171)),
  (178,Zk "poured_sees" "poured_sees" 410 411 412 52 1 173 174 (.none) (.ref 175) (.ref 176) 177 419 420),
  (179,Zf "poured_sees" "poured_sees" (top 16) (Zs "pageback.marks" 387) (.ref 178)),
  (185,Zk "copied" "copied" 422 423 424 58 1 180 181 (.none) (.ref 182) (.ref 183) 184 426 427),
  (186,Zf "copied" "copied" (top 17) (Zs "pageback.marks" 387) (.ref 185)),
  (192,Zk "mark_rank" "mark_rank" 429 430 431 60 1 187 188 (.none) (.ref 189) (.ref 190) 191 433 434),
  (193,Zf "mark_rank" "mark_rank" (top 18) (Zs "pageback.marks" 387) (.ref 192)),
  (199,Zk "see_rank" "see_rank" 436 437 438 62 1 194 195 (.none) (.ref 196) (.ref 197) 198 440 441),
  (200,Zf "see_rank" "see_rank" (top 19) (Zs "pageback.marks" 387) (.ref 199)),
  (204,Zk "ways" "ways" 445 446 447 65 2 201 202 .none .none .none 203 448 449),
  (205,Zf "ways" "ways" (top 21) (Zs "pageback.sees" 443) (.ref 204)),
  (211,Zk "pages_by_path" "pages_by_path" 451 452 453 70 1 206 207 (.none) (.ref 208) (.ref 209) 210 458 459),
  (212,Zf "pages_by_path" "pages_by_path" (top 22) (Zs "pageback.sees" 443) (.ref 211)),
  (218,Zk "goals_by_path" "goals_by_path" 461 462 463 75 1 213 214 (.none) (.ref 215) (.ref 216) 217 469 470),
  (219,Zf "goals_by_path" "goals_by_path" (top 23) (Zs "pageback.sees" 443) (.ref 218)),
  (225,Zk "way_of_see" "way_of_see" 472 473 474 81 3 220 221 (.none) (.ref 222) (.ref 223) 224 484 485),
  (226,Zf "way_of_see" "way_of_see" (top 24) (Zs "pageback.sees" 443) (.ref 225)),
  (232,Zk "refuse_start" "refuse_start" 487 488 489 94 5 227 228 (.none) (.ref 229) (.ref 230) 231 495 496),
  (233,Zf "refuse_start" "refuse_start" (top 25) (Zs "pageback.sees" 443) (.ref 232)),
  (239,Zk "way_of_goal" "way_of_goal" 498 499 500 101 2 234 235 (.none) (.ref 236) (.ref 237) 238 505 506),
  (240,Zf "way_of_goal" "way_of_goal" (top 26) (Zs "pageback.sees" 443) (.ref 239)),
  (246,Zk "ring_in" "ring_in" 508 509 510 108 1 241 242 (.none) (.ref 243) (.ref 244) 245 512 513),
  (247,Zf "ring_in" "ring_in" (top 27) (Zs "pageback.sees" 443) (.ref 246)),
  (253,Zk "from_least" "from_least" 515 516 517 110 1 248 249 (.none) (.ref 250) (.ref 251) 252 520 521),
  (254,Zf "from_least" "from_least" (top 28) (Zs "pageback.sees" 443) (.ref 253)),
  (260,Zk "pages" "pages" 525 526 527 114 3 255 256 (.none) (.ref 257) (.ref 258) 259 535 536),
  (261,Zf "pages" "pages" (top 30) (Zs "pageback.book" 523) (.ref 260)),
  (267,Zk "stretches" "stretches" 540 541 542 126 2 262 263 (.none) (.ref 264) (.ref 265) 266 548 549),
  (268,Zf "stretches" "stretches" (top 32) (Zs "pageback.stretches" 538) (.ref 267)),
  (274,Zk "strong_by_page" "strong_by_page" 551 552 553 135 2 269 270 (.none) (.ref 271) (.ref 272) 273 562 563),
  (275,Zf "strong_by_page" "strong_by_page" (top 33) (Zs "pageback.stretches" 538) (.ref 274)),
  (281,Zk "goes_on" "goes_on" 565 566 567 141 3 276 277 (.none) (.ref 278) (.ref 279) 280 571 572),
  (282,Zf "goes_on" "goes_on" (top 34) (Zs "pageback.stretches" 538) (.ref 281)),
  (286,Zk "entries" "entries" 576 577 578 144 4 283 284 .none .none .none 285 579 580),
  (287,Zf "entries" "entries" (top 36) (Zs "pageback.entries" 574) (.ref 286)),
  (293,Zk "refuse_unfit" "refuse_unfit" 582 583 584 150 2 288 289 (.none) (.ref 290) (.ref 291) 292 588 589),
  (294,Zf "refuse_unfit" "refuse_unfit" (top 37) (Zs "pageback.entries" 574) (.ref 293)),
  (300,Zk "marks_by_path" "marks_by_path" 591 592 593 154 1 295 296 (.none) (.ref 297) (.ref 298) 299 599 600),
  (301,Zf "marks_by_path" "marks_by_path" (top 38) (Zs "pageback.entries" 574) (.ref 300)),
  (307,Zk "_law_whole" "_law_whole" 604 605 606 163 1 302 303 (.none) (.ref 304) (.ref 305) 306 608 609),
  (308,Zf "_law_whole" "_law_whole" (top 40) Zm (.ref 307)),
  (314,Zk "_law_cell_at" "_law_cell_at" 611 612 613 165 2 309 310 (.none) (.ref 311) (.ref 312) 313 616 617),
  (315,Zf "_law_cell_at" "_law_cell_at" (top 41) Zm (.ref 314)),
  (321,Zk "_law_head_by" "_law_head_by" 619 620 621 169 2 316 317 (.none) (.ref 318) (.ref 319) 320 630 631),
  (322,Zf "_law_head_by" "_law_head_by" (top 42) Zm (.ref 321)),
  (326,Zk "_law_path_by" "_law_path_by" 633 634 635 188 2 323 324 .none .none .none 325 636 637),
  (327,Zf "_law_path_by" "_law_path_by" (top 43) Zm (.ref 326)),
  (333,Zk "_law_fresh" "_law_fresh" 639 640 641 191 4 328 329 (.none) (.ref 330) (.ref 331) 332 648 649),
  (334,Zf "_law_fresh" "_law_fresh" (top 44) Zm (.ref 333)),
  (340,Zk "_law_marks" "_law_marks" 651 652 653 199 2 335 336 (.none) (.ref 337) (.ref 338) 339 659 660),
  (341,Zf "_law_marks" "_law_marks" (top 45) Zm (.ref 340)),
  (345,Zk "_law_sent" "_law_sent" 662 663 664 205 3 342 343 .none .none .none 344 665 666),
  (346,Zf "_law_sent" "_law_sent" (top 46) Zm (.ref 345)),
  (350,Zk "_law_sees" "_law_sees" 668 669 670 212 4 347 348 .none .none .none 349 671 672),
  (351,Zf "_law_sees" "_law_sees" (top 47) Zm (.ref 350)),
  (357,Zk "_law_so" "_law_so" 674 675 676 230 3 352 353 (.none) (.ref 354) (.ref 355) 356 687 688),
  (358,Zf "_law_so" "_law_so" (top 48) Zm (.ref 357)),
  (362,Zk "law" "law" 690 691 692 242 1 359 360 .none .none .none 361 693 694),
  (363,Zf "law" "law" (top 49) Zm (.ref 362))]
def AA:List Addr:=[3,23,24,43,44,62,63,81,82,100,101,119,120,138,139,147,148,152,153,157,158,164,165,171,172,178,179,185,186,192,193,199,200,204,205,211,212,218,219,225,226,232,233,239,240,246,247,253,254,260,261,267,268,274,275,281,282,286,287,293,294,300,301,307,308,314,315,321,322,326,327,333,334,340,341,345,346,350,351,357,358,362,363]
def VV:Program:={ PySem.Challenge.pw_pageback_k20_ways_told with main:={ PySem.Challenge.pw_pageback_k20_ways_told.main with body:=[1,2,3,4,5,6,7,9,10,11,12,14,15,16,17,18,19,21,22,23,24,25,26,27,28,30,32,33,34,36,37,38,40,41,42,43,44,45,46,47,48,49].map top } }
theorem ka (P:Params):AA=List.map (λ x=>x.fst) (KK P):=by kernel_rfl
theorem hl:PySem.W.LeftO PySem.Challenge.pw_pageback_k20_ways_told VV [] (λ s=>PySem.W.xlAt VV [] s && PySem.W.recOk PySem.Challenge.rw_pageback_k20_ways_told.row.records s) (PySem.W.kHook KK AA ka).obs (PySem.W.kHook KK AA ka).val 5710:=λ w=>by kernel_rfl
end K20
namespace L2
open PySem PySem.Spec PyProof.Rows
abbrev Key:=Sum Int Str
def zln:Key->Value->Bool
 | .inl k,v=>Value.isInt k v
 | .inr x,v=>Value.isStrOf x v
def yb0 (w:World):Key->Int
 | .inl k=>hashInt k
 | .inr x=>hashStr w x
theorem za7:∀ {k:Key}{v:Value},zln k v=true->(∃ i t,k=Sum.inl i/\v=Value.int i t)\/(∃ x t,k=Sum.inr x/\v=Value.str x t)
 | .inl i,v,h=>by
  obtain ⟨t,e⟩:=Value.isInt_shape (k:=i) (v:=v) h
  exact .inl ⟨i,t,rfl,e⟩
 | .inr x,v,h=>by
  obtain ⟨t,e⟩:=Value.isStrOf_shape (x:=x) (v:=v) h
  exact .inr ⟨x,t,rfl,e⟩
theorem zpl (i:Int) (t:Tok):zln (.inl i) (.int i t)=true:=by simp[zln,Value.isInt]
theorem zpm (x:Str) (t:Tok):zln (.inr x) (.str x t)=true:=by simp[zln,Value.isStrOf]
theorem z29 (a b:Int):decide ((Sum.inl a:Key)=Sum.inl b)=(a == b):=by
 by_cases e:a=b
 ·subst e;simp
 ·have h:¬ (Sum.inl a:Key)=Sum.inl b:=λ q=>e (Sum.inl.inj q)
  rw[decide_eq_false h]
  exact (beq_eq_false_iff_ne.mpr e).symm
theorem z3a (a b:Str):decide ((Sum.inr a:Key)=Sum.inr b)=decide (a=b):=by
 by_cases e:a=b
 ·subst e;simp
 ·have h:¬ (Sum.inr a:Key)=Sum.inr b:=λ q=>e (Sum.inr.inj q)
  rw[decide_eq_false h,decide_eq_false e]
theorem z3b (a:Int) (b:Str):decide ((Sum.inl a:Key)=Sum.inr b)=false:=decide_eq_false (λ q=>nomatch q)
theorem z3c (a:Str) (b:Int):decide ((Sum.inr a:Key)=Sum.inl b)=false:=decide_eq_false (λ q=>nomatch q)
def zbg (prog:Program) (w:World):PySem.KeyKind prog w Key where
 is:=zln
 hash:=yb0 w
 inj:=λ v a b ha hb=>by
  rcases za7 ha with ⟨i,t,rfl,rfl⟩|⟨x,t,rfl,rfl⟩
  ·rcases za7 hb with ⟨j,u,rfl,e⟩|⟨y,u,rfl,e⟩
   ·injection e with e1 _;rw[e1]
   ·exact nomatch e
  ·rcases za7 hb with ⟨j,u,rfl,e⟩|⟨y,u,rfl,e⟩
   ·exact nomatch e
   ·injection e with e1 _;rw[e1]
 byValue:=λ k v h=>by
  rcases za7 h with ⟨i,t,rfl,rfl⟩|⟨x,t,rfl,rfl⟩ <;> rfl
 pyHash:=λ hv h=>by
  rcases za7 hv with ⟨i,t,rfl,rfl⟩|⟨x,t,rfl,rfl⟩
  ·exact wpAny_pyHash_int h
  ·exact wpAny_pyHash_str h
 eqBool:=λ hu hv h=>by
  rcases za7 hu with ⟨i,t,rfl,rfl⟩|⟨x,t,rfl,rfl⟩
  ·rcases za7 hv with ⟨j,u,rfl,rfl⟩|⟨y,u,rfl,rfl⟩
   ·rw[z29] at h;exact wpAny_eqBool_int h
   ·rw[z3b] at h;exact SeqAt.EqAt.int_str i t y u _ _ _ _ h
  ·rcases za7 hv with ⟨j,u,rfl,rfl⟩|⟨y,u,rfl,rfl⟩
   ·rw[z3c] at h;exact SeqAt.EqAt.str_int x t j u _ _ _ _ h
   ·rw[z3a] at h;exact wpAny_eqBool_str h
 «strs»:=λ k x t v h=>by
  rcases za7 h with ⟨i,u,rfl,e⟩|⟨y,u,rfl,e⟩
  ·exact nomatch e
  ·injection e with e1 _
   subst e1
   cases v <;> rfl
theorem zlo (prog:Program) (w:World) (i:Int) (t:Tok):(zbg prog w).is (.inl i) (.int i t)=true:=zpl i t
theorem zlp (prog:Program) (w:World) (x:Str) (t:Tok):(zbg prog w).is (.inr x) (.str x t)=true:=zpm x t
inductive V where
 | non|bl (b:Bool)|int (i:Int)|str (x:Str)|byt (b:Array UInt8)|flt (b:UInt64)|ref (a:Addr)|ty (n:String)
 deriving DecidableEq
def zbe:V->Value->Prop
 | .non,u=>u=Value.none
 | .bl b,u=>u=Value.bool b
 | .int i,u=>∃ t,u=Value.int i t
 | .str x,u=>∃ t,u=Value.str x t
 | .byt b,u=>∃ t,u=Value.bytes b t
 | .flt b,u=>∃ t,u=Value.float b t
 | .ref a,u=>u=Value.ref a
 | .ty n,u=>u=Value.type n
abbrev zbj:List V->List Value->Prop:=Paired zbe
theorem zbj.length {xs:List V}{us:List Value} (r:zbj xs us):xs.length=us.length:=Paired.length r
theorem zbj.get:∀ {xs:List V}{us:List Value}{i:Nat}{x:V},zbj xs us->xs[i]?=some x->∃ u,us[i]?=some u/\zbe x u
 | _,_,_,_,.nil,e=>by simp at e
 | _,_,0,_,.cons r _,e=>by simp at e;subst e;exact⟨_,rfl,r⟩
 | _,_,i+1,x,.cons _ t,e=>by
  obtain ⟨u,h1,h2⟩:=zbj.get (i:=i) (x:=x) t (by simpa using e)
  exact⟨u,by simpa using h1,h2⟩
theorem zbj.set {x:V}{u:Value} (r:zbe x u):∀ {xs:List V}{us:List Value} (i:Nat),zbj xs us->zbj (xs.set i x) (us.set i u)
 | _,_,_,.nil=>.nil
 | _,_,0,.cons _ t=>.cons r t
 | _,_,i+1,.cons q t=>.cons q (zbj.set r i t)
theorem zbj.append:∀ {xs ys:List V}{us ws:List Value},zbj xs us->zbj ys ws->zbj (xs++ys) (us++ws)
 | _,_,_,_,.nil,s=>s
 | _,_,_,_,.cons r t,s=>.cons r (zbj.append t s)
theorem zbj.take:∀ {xs:List V}{us:List Value} (n:Nat),zbj xs us->zbj (xs.take n) (us.take n)
 | _,_,0,_=>.nil
 | _,_,_+1,.nil=>.nil
 | _,_,n+1,.cons r t=>.cons r (zbj.take n t)
theorem zbj.drop:∀ {xs:List V}{us:List Value} (n:Nat),zbj xs us->zbj (xs.drop n) (us.drop n)
 | _,_,0,r=>r
 | _,_,_+1,.nil=>.nil
 | _,_,n+1,.cons _ t=>zbj.drop n t
def zmy:Option V->Option Value->Prop
 | some v,some u=>zbe v u
 | none,none=>True
 | _,_=>False
def KV {κ:Type}:List (κ×V)->List (κ×Value)->Prop:=Paired λ (p:κ×V) (q:κ×Value)=>p.1=q.1/\zbe p.2 q.2
def kV:Key->V
 | .inl i=>.int i
 | .inr x=>.str x
inductive HO where
 | lst (xs:List V)
 | tup (xs:List V)
 | dK (kvs:List (Key×V))|dT (kvs:List (List Key×V))
 | set (S:Int->Bool) (n:Nat)
 | ins (C dx:Addr) (fs:List (Str×V))
 | own (x:Addr)
 | xd (fs:List (Str×V))
 | met (f x:Addr)
 | rng (lo hi:Int)
 | frz (o:Obj) (u:HO)
 | tbl (ps:Array Value)
 | ext (φ:Heap->Prop)
abbrev Hp:=Addr->Option HO
def upd (H:Hp) (a:Addr) (o:HO):Hp:=λ b=>if b=a then some o else H b
theorem zac {H:Hp}{a:Addr}{o:HO}:upd H a o a=some o:=by unfold upd;rw[if_pos rfl]
theorem zaf {H:Hp}{a b:Addr}{o:HO} (h:b≠a):upd H a o b=H b:=by unfold upd;rw[if_neg h]
theorem z3d {H:Hp}{a b:Addr}{o u:HO} (h:H a=some o) (h':H b=some u) (d:o≠u):a≠b:=by
 intro e;subst e;rw[h] at h';exact d (Option.some.inj h')
theorem zam {H:Hp}{a b:Addr}{o:HO} (h:H a=some o) (h':H b=none):a≠b:=by
 intro e;subst e;rw[h] at h';cases h'
section
variable (P:Program) (w:World)
def zbb (H:Hp) (h:Heap) (a:Addr):HO->Prop
 | .lst xs=>xs.length<=sizeLine/\∃ (its:List Value) (n:Nat),zbj xs its/\h.get? a=some { cls:=.type "list",data:=.seq its.toArray n }
 | .tup xs=>xs.length<=sizeLine/\∃ its:List Value,zbj xs its/\IsTup h a its.toArray
 | .dK kvs=>kvs.length<=sizeLine/\(a == sysModules)=false/\∃ vs,KV kvs vs/\h.DictOf (zbg P w) a vs
 | .dT kvs=>kvs.length<=sizeLine/\(a == sysModules)=false/\∃ xs:List (List Key×Addr×Value),
   Paired (λ (p:List Key×V) (q:List Key×Addr×Value)=>p.1=q.1/\H q.2.1=some (.tup (p.1.map kV))/\zbe p.2 q.2.2) kvs xs ∧
   ∃ o es ep,h.get? a=some o/\o.ExactDict/\o.data=.dict es ep/\es.toList=xs.map (entryOfKey (tupleKind (zbg P w)))/\(xs.map (·.1)).Nodup
 | .set S n=>h.SetOf (intKind P w) a S n
 | .ins C dx fs=>H dx=some (.own a)/\fs.length<=1000/\dx≠a/\h.get? a=some (PySem.W.instObj C dx) ∧
   ∃ mA,h.Ns1 dx mA/\(∀ f,zmy (fs.lookup f) (mA f))/\PySem.Within mA (fs.map (·.1))
 | .own _=>∃ o,h.get? a=some o
 | .xd fs=>∃ mA,h.Ns1 a mA/\∀ f,zmy (fs.lookup f) (mA f)
 | .rng lo hi=>∃ t u v,h.get? a=some { cls:=.type "range",data:=.fields #[.int lo t,.int hi u,.int 1 v] }
 | .frz o u=>h.get? a=some o/\zbb H h a u
 | .tbl ps=>h.get? a=some { cls:=.none,data:=.fields ps }
 | .met f x=>h.get? a=some (PySem.W.methodObj (.ref f) (.ref x))
 | .ext φ=>φ h/\(∃ o,h.get? a=some o)/\∀ h1 h2:Heap,φ h1->(∀ o,h1.get? a=some o->h2.get? a=some o)->φ h2
def HOk (H:Hp) (h:Heap):Prop:=∀ a o,H a=some o->zbb P w H h a o
end
section
variable {P:Program}{w:World}{H H':Hp}{h h':Heap}{a:Addr}{o:HO}
theorem zbb.lt (x:zbb P w H h a o):a<h.objs.size:=by
 cases o with
 | lst xs=>obtain ⟨_,_,_,_,e⟩:=x;exact Heap.lt_size e
 | tup xs=>obtain ⟨_,_,_,p⟩:=x;exact p.lt
 | dK kvs=>obtain ⟨_,_,_,_,o,_,_,e,_⟩:=x;exact Heap.lt_size e
 | dT kvs=>obtain ⟨_,_,_,_,o,_,_,e,_⟩:=x;exact Heap.lt_size e
 | set S n=>obtain ⟨o,_,_,_,e,_⟩:=x;exact Heap.lt_size e
 | ins C dx fs=>obtain ⟨_,_,_,e,_⟩:=x;exact Heap.lt_size e
 | own y=>obtain ⟨_,e⟩:=x;exact Heap.lt_size e
 | xd fs=>obtain ⟨_,⟨_,_,_,e,_⟩,_⟩:=x;exact Heap.lt_size e
 | rng lo hi=>obtain ⟨_,_,_,e⟩:=x;exact Heap.lt_size e
 | frz ob u=>obtain ⟨e,_⟩:=x;exact Heap.lt_size e
 | tbl ps=>exact Heap.lt_size (show h.get? a=some _ from x)
 | met f y=>exact Heap.lt_size (show h.get? a=some _ from x)
 | ext φ=>obtain ⟨_,⟨_,e⟩,_⟩:=x;exact Heap.lt_size e
theorem Paired.mapP {α β:Type}{F G:α->β->Prop}:∀ {l₁:List α}{l₂:List β},Paired F l₁ l₂->(∀ a b,F a b->G a b)->Paired G l₁ l₂
 | _,_,.nil,_=>.nil
 | _,_,.cons r t,f=>.cons (f _ _ r) (Paired.mapP t f)
theorem zbb.stay (x:zbb P w H h a o) (k:∀ b u,(b=a\/H b=some (.own a))->h.get? b=some u->h'.get? b=some u)
  (ho:∀ b,H b=some (.own a)->H' b=some (.own a)) (ht:∀ b xs,H b=some (.tup xs)->H' b=some (.tup xs)):zbb P w H' h' a o:=by
 induction o with
 | lst xs=>obtain ⟨z,its,n,r,e⟩:=x;exact⟨z,its,n,r,k _ _ (.inl rfl) e⟩
 | tup xs=>obtain ⟨z,its,r,ob,e,c⟩:=x;exact⟨z,its,r,ob,k _ _ (.inl rfl) e,c⟩
 | dK kvs=>obtain ⟨z,y,vs,r,ob,es,ep,e,c⟩:=x;exact⟨z,y,vs,r,ob,es,ep,k _ _ (.inl rfl) e,c⟩
 | dT kvs =>
  obtain ⟨z,y,xs,r,ob,es,ep,e,c⟩:=x
  exact⟨z,y,xs,Paired.mapP r λ p q z=>⟨z.1,ht _ _ z.2.1,z.2.2⟩,ob,es,ep,k _ _ (.inl rfl) e,c⟩
 | set S n=>obtain ⟨ob,es,ep,t,e,c⟩:=x;exact⟨ob,es,ep,t,k _ _ (.inl rfl) e,c⟩
 | ins C dx fs =>
  obtain ⟨d,z,ne,e,mA,⟨od,es,ep,e2,c⟩,r⟩:=x
  exact⟨ho _ d,z,ne,k _ _ (.inl rfl) e,mA,⟨od,es,ep,k _ _ (.inr d) e2,c⟩,r⟩
 | own y=>obtain ⟨ob,e⟩:=x;exact⟨ob,k _ _ (.inl rfl) e⟩
 | xd fs=>obtain ⟨mA,⟨od,es,ep,e,c⟩,r⟩:=x;exact⟨mA,⟨od,es,ep,k _ _ (.inl rfl) e,c⟩,r⟩
 | rng lo hi=>obtain ⟨t,u,v,e⟩:=x;exact⟨t,u,v,k _ _ (.inl rfl) e⟩
 | frz ob u ih=>obtain ⟨e,q⟩:=x;exact⟨k _ _ (.inl rfl) e,ih q⟩
 | tbl ps =>
  have e:h.get? a=some { cls:=.none,data:=.fields ps }:=x
  show h'.get? a=some { cls:=.none,data:=.fields ps }
  exact k a _ (.inl rfl) e
 | met f y =>
  have e:h.get? a=some (PySem.W.methodObj (.ref f) (.ref y)):=x
  show h'.get? a=some (PySem.W.methodObj (.ref f) (.ref y))
  exact k a _ (.inl rfl) e
 | ext φ=>obtain ⟨p,⟨o,e⟩,st⟩:=x;exact⟨st _ _ p λ o q=>k _ _ (.inl rfl) q,⟨o,k _ _ (.inl rfl) e⟩,st⟩
theorem HOk.lt (x:HOk P w H h) (e:H a=some o):a<h.objs.size:=(x a o e).lt
theorem HOk.fresh (x:HOk P w H h) (e:h.objs.size<=a):H a=none:=by
 cases q:H a with
 | none=>rfl
 | some u=>exact absurd (Nat.lt_of_lt_of_le (x.lt q) e) (Nat.lt_irrefl _)
theorem HOk.kept (x:HOk P w H h) (k:∀ b u,h.get? b=some u->h'.get? b=some u):HOk P w H h':=λ a o e =>
 (x a o e).stay (λ b u _ q=>k b u q) (λ _ q=>q) λ _ _ q=>q
theorem HOk.laid (x:HOk P w H h) (k:∀ b u,h.get? b=some u->h'.get? b=some u) (hp:h.objs.size<=a) (new:zbb P w (upd H a o) h' a o):HOk P w (upd H a o) h':=λ b u e=>by
 have hn:=x.fresh hp
 by_cases hb:b=a
 ·subst hb;rw[zac] at e;cases e;exact new
 ·rw[zaf hb] at e
  exact (x b u e).stay (λ c v _ q=>k c v q) (λ c q=>by rw[zaf (zam q hn)];exact q) λ c xs q=>by rw[zaf (zam q hn)];exact q
end
def Rd (H:Hp) (a:Addr) (u:HO):Prop:=H a=some u\/∃ o,H a=some (.frz o u)
theorem Rd.of {H:Hp}{a:Addr}{u:HO} (h:H a=some u):Rd H a u:=.inl h
theorem Rd.ok {P:Program}{w:World}{H:Hp}{h:Heap}{a:Addr}{u:HO} (r:Rd H a u) (x:HOk P w H h):zbb P w H h a u:=by
 rcases r with r|⟨o,r⟩
 ·exact x a u r
 ·obtain ⟨_,q⟩:=x a _ r
  exact q
def Mut:Option HO->Prop
 | some (.lst _)=>True
 | some (.dK _)=>True
 | some (.dT _)=>True
 | some (.set _ _)=>True
 | some (.ins _ _ _)=>True
 | some (.ext _)=>True
 | _=>False
section
variable {P:Program}{w:World}{H:Hp}{h h':Heap}{x e:Addr}{o':HO}
theorem HOk.write (ok:HOk P w H h) (mu:Mut (H x)) (he:e=x\/H e=some (.own x)) (k:∀ b u,b≠e->h.get? b=some u->h'.get? b=some u) (heo:∃ u,h'.get? e=some u)
  (new:zbb P w (upd H x o') h' x o'):HOk P w (upd H x o') h':=λ b u q=>by
 have nown:∀ c y,H c=some (.own y)->c≠x:=λ c y r z=>by subst z;rw[r] at mu;exact mu
 have ntup:∀ c xs,H c=some (.tup xs)->c≠x:=λ c xs r z=>by subst z;rw[r] at mu;exact mu
 by_cases hb:b=x
 ·subst hb;rw[zac] at q;cases q;exact new
 ·rw[zaf hb] at q
  by_cases hbe:b=e
  ·have q':H b=some (.own x):=by
    rcases he with z|z
    ·exact absurd (hbe.trans z) hb
    ·rw[hbe];exact z
   rw[q] at q';cases q'
   obtain ⟨v,hv⟩:=heo
   exact⟨v,by rw[hbe];exact hv⟩
  ·refine (ok b u q).stay (λ c v hc r=>k c v ?_ r) (λ c r=>by rw[zaf (nown c b r)];exact r) λ c xs r=>by rw[zaf (ntup c xs r)];exact r
   rcases hc with rfl|hc
   ·exact hbe
   ·rintro rfl
    rcases he with z|z
    ·exact nown c b hc z
    ·rw[hc] at z;cases z;exact hb rfl
end
structure Un (fs ex:List Addr) (H H':Hp) (h h':Heap):Prop where
 keep:∀ b o,h.get? b=some o->H b=none->b ∉ fs->b ∉ ex->h'.get? b=some o
 slot:∀ b o,h.get? b=some o->H b=none->b∈fs->b ∉ ex->∃ sl,h'.get? b=some { o with slots:=sl }
 free:∀ b o,h.get? b=some o->H b=none->b ∉ ex->H' b=none
 there:∀ b o,h.get? b=some o->b ∉ ex->∃ o',h'.get? b=some o'
 tups:∀ b xs,H b=some (.tup xs)->H' b=some (.tup xs)
 frzs:∀ b o u,H b=some (.frz o u)->H' b=some (.frz o u)
 tbls:∀ b ps,H b=some (.tbl ps)->∃ more,H' b=some (.tbl (ps++more))
section
variable {fs fs' ex ex':List Addr}{H H1 H2:Hp}{h h1 h2 h':Heap}{a x e:Addr}{o:HO}
theorem Un.any (u:Un fs ex H H1 h h1) {b:Addr}{ob:Obj} (q:h.get? b=some ob) (n:H b=none) (hx:b ∉ ex):∃ sl,h1.get? b=some { ob with slots:=sl }:=by
 by_cases hb:b∈fs
 ·exact u.slot b ob q n hb hx
 ·exact⟨ob.slots,u.keep b ob q n hb hx⟩
theorem Un.kept (k:∀ b u,h.get? b=some u->h'.get? b=some u):Un fs ex H H h h' :=
 ⟨λ b ob q _ _ _=>k b ob q,λ b ob q _ _ _=>⟨ob.slots,k b ob q⟩,λ _ _ _ n _=>n,λ b ob q _=>⟨ob,k b ob q⟩,λ _ _ q=>q,λ _ _ _ q=>q,λ _ ps q=>⟨#[],by rw[q];simp⟩⟩
theorem Un.refl:Un fs ex H H h h:=Un.kept λ _ _ q=>q
theorem Un.laid (k:∀ b u,h.get? b=some u->h'.get? b=some u) (hp:h.objs.size<=a) (hn:H a=none):Un fs ex H (upd H a o) h h' where
 keep:=λ b u q _ _ _=>k b u q
 slot:=λ b u q _ _ _=>⟨u.slots,k b u q⟩
 free:=λ b u q n _=>by rw[zaf (Nat.ne_of_lt (Nat.lt_of_lt_of_le (Heap.lt_size q) hp))];exact n
 there:=λ b u q _=>⟨u,k b u q⟩
 tups:=λ b xs q=>by rw[zaf (zam q hn)];exact q
 frzs:=λ b u xs q=>by rw[zaf (zam q hn)];exact q
 tbls:=λ b ps q=>⟨#[],by rw[zaf (zam q hn),q];simp⟩
theorem Un.write (mu:Mut (H x)) (he:e=x\/H e=some (.own x)) (k:∀ b u,b≠e->h.get? b=some u->h'.get? b=some u) (heo:∃ u,h'.get? e=some u):Un fs ex H (upd H x o) h h':=by
 have hx:∀ b,H b=none->b≠x:=λ b n z=>by subst z;rw[n] at mu;exact mu
 have hb:∀ b,H b=none->b≠e:=λ b n z=>by
  subst z
  rcases he with r|r
  ·exact hx b n r
  ·rw[n] at r;cases r
 have hm:∀ b u,H b=some u->¬ Mut (some u)->b≠x:=λ b u q nm z=>by subst z;rw[q] at mu;exact nm mu
 refine⟨λ b u q n _ _=>k b u (hb b n) q,λ b u q n _ _=>⟨u.slots,k b u (hb b n) q⟩,λ b u q n _=>by rw[zaf (hx b n)];exact n,λ b u q _=>?_,
  λ b xs q=>by rw[zaf (hm b _ q λ z=>z)];exact q,λ b u xs q=>by rw[zaf (hm b _ q λ z=>z)];exact q,λ b ps q=>⟨#[],by rw[zaf (hm b _ q λ z=>z),q];simp⟩⟩
 by_cases hbe:b=e
 ·subst hbe;exact heo
 ·exact⟨u,k b u hbe q⟩
end
def trk (h:Heap) (H:Hp):List Addr:=(List.range h.objs.size).filter λ a=>(H a).isSome
def zt9 (h:Heap) (H:Hp):Heap:=PySem.W.hideAll h (trk h H)
theorem zpn (h:Heap) (H:Hp):(zt9 h H).objs.size=h.objs.size:=PySem.W.hideAll_size _ _
theorem zua {h:Heap}{H:Hp}{b:Addr}{o:Obj} (e:h.get? b=some o) (n:H b=none):(zt9 h H).get? b=some o :=
 PySem.W.hideAll_get _ e λ hm=>by
  have q:(H b).isSome=true:=(List.mem_filter.mp hm).2
  rw[n] at q;simp at q
theorem zy2 {h:Heap}{H:Hp}{b:Addr}{o:Obj} (e:(zt9 h H).get? b=some o):h.get? b=some o/\H b=none:=by
 have e':h.get? b=some o:=PySem.W.of_hideAll (trk h H) e
 refine⟨e',?_⟩
 cases q:H b with
 | none=>rfl
 | some x =>
  have hm:b∈trk h H:=List.mem_filter.mpr ⟨List.mem_range.mpr (Heap.lt_size e'),by simp[q]⟩
  have z:(zt9 h H).get? b=none:=PySem.W.hideAll_none (trk h H) hm
  rw[z] at e;cases e
structure Mod (K:PySem.W.Frag) (mg:Str->Option Value) (base:Heap):Prop where
 kin:K.In base
 glob:base.Ns mainGlobals mg
 blt:∃ mb,base.Ns builtinsNs mb/\∀ x:Str,x ≠ "__name__" -> mb x=bootBuiltins x
 nolimit:base.NoLimit
structure Cx where
 prog:Program
 w:World
 K:PySem.W.Frag
 mg:Str->Option Value
 base:Heap
 A:Around
 N:List Str
 s₀:Shared
 H₀:Hp
 env:Env
 outer:List Env
 stack:List Env
 ex:List Addr
 fn:Str->Bool
 calm:Bool
 pn:List (Addr×Obj)
 xe:Value->Shared->Prop
def frs (l:List Env):List Addr:=l.filterMap (·.frame)
abbrev Cx.fs (X:Cx):List Addr:=frs X.outer
def Vis (sc:Scope) (x:Str):Prop:=sc.names.lookup x=some .local\/sc.names.lookup x=some .cell\/sc.names.lookup x=some .free
def Loc (sc:Scope) (x:Str):Prop:=sc.names.lookup x=some .local\/sc.names.lookup x=some .cell
def yb1 (env:Env) (h:Heap) (m:Str->Option Value) (x:Str) (u:Value):Prop :=
 (env.kindOf x=some .local/\m x=some u)\/((env.kindOf x=some .cell\/env.kindOf x=some .free)/\∃ c,env.cells.lookup x=some c/\h.IsCell c (some u))
structure Cx.Ok (X:Cx):Prop where
 mod:Mod X.K X.mg X.base
 kind:X.env.scope.kind=.function
 glob:X.env.globals=mainGlobals
 blt:X.env.builtins=builtinsNs
 above:X.s₀.heap.objs.size<=X.env.locals
 inj:∀ x y c,X.env.cells.lookup x=some c->X.env.cells.lookup y=some c->x=y
 has:∀ x,(X.env.kindOf x=some .cell\/X.env.kindOf x=some .free)->∃ c,X.env.cells.lookup x=some c
 cab:∀ x c,X.fn x=true->X.env.cells.lookup x=some c->X.s₀.heap.objs.size<=c
 hd:X.calm=true->X.A.handled=none
 frames:X.A.frames=some X.stack
 stk:X.stack=X.outer\/(X.stack=X.env::X.outer/\X.env.frame=some X.env.locals)
 exf:∀ b∈X.ex,b≠X.env.locals/\∀ x c,X.env.cells.lookup x=some c->c≠b
 bs:∀ b o,X.base.get? b=some o->X.s₀.heap.get? b=some o/\X.H₀ b=none
 bsz:X.base.objs.size<=X.s₀.heap.objs.size
 noex:∀ b o,X.base.get? b=some o->b ∉ X.ex
 exfs:∀ b∈X.ex,b ∉ X.fs
 funs:X.s₀.heap.FunFrames X.base X.outer
 frf:∀ b∈X.fs,X.H₀ b=none
structure Inv (X:Cx) (pins:List (Addr×Obj)) (σ:List (Option V)) (H:Hp) (s:Shared):Prop where
 ok:X.Ok
 os:s.os=X.s₀.os
 bare:AllBare s.gens
 base:Un X.fs X.ex X.H₀ H X.s₀.heap s.heap
 loc:∃ m,s.heap.Ns X.env.locals m/\∀ (i:Nat) (x:Str) (v:V),X.N[i]?=some x->σ[i]?=some (some v)->Vis X.env.scope x->∃ u,zbe v u/\yb1 X.env s.heap m x u
 cell:∀ x c,X.env.cells.lookup x=some c->∃ v,s.heap.IsCell c v
 free:H X.env.locals=none
 freeC:∀ x c,X.env.cells.lookup x=some c->H c=none
 pin:∀ p∈X.pn++pins,s.heap.get? p.1=some p.2/\H p.1=none/\p.1≠X.env.locals/\p.1 ∉ X.fs/\∀ v,p.2.data≠.cell v
 hok:HOk X.prog X.w H s.heap
 len:σ.length=X.N.length
section
variable {X:Cx}{pins:List (Addr×Obj)}{σ:List (Option V)}{H H':Hp}{s:Shared}{h':Heap}
theorem Cx.Ok.nofr (ok:X.Ok) {b:Addr}{o:Obj} (e:X.base.get? b=some o):b ∉ X.fs:=λ hb=>by
 have:=(ok.funs.mem hb).1
 rw[e] at this;cases this
theorem Inv.bs (I:Inv X pins σ H s):∀ b o,X.base.get? b=some o->s.heap.get? b=some o/\H b=none:=λ b o e =>
 ⟨I.base.keep b o (I.ok.bs b o e).1 (I.ok.bs b o e).2 (I.ok.nofr e) (I.ok.noex b o e),I.base.free b o (I.ok.bs b o e).1 (I.ok.bs b o e).2 (I.ok.noex b o e)⟩
theorem Inv.bk (I:Inv X pins σ H s):∀ b o,X.base.get? b=some o->s.heap.get? b=some o:=λ b o e=>(I.bs b o e).1
theorem Inv.mod (I:Inv X pins σ H s):Mod X.K X.mg X.base:=I.ok.mod
theorem Inv.kIn (I:Inv X pins σ H s):X.K.In s.heap:=I.ok.mod.kin.keeps I.bk
theorem Inv.lt (I:Inv X pins σ H s):X.env.locals<s.heap.objs.size:=let ⟨_,hn,_⟩:=I.loc;hn.lt
theorem Inv.sz (I:Inv X pins σ H s):X.s₀.heap.objs.size<=s.heap.objs.size:=Nat.le_trans I.ok.above (Nat.le_of_lt I.lt)
theorem Inv.nofs (I:Inv X pins σ H s) {a:Addr} (h:s.heap.objs.size<=a):a ∉ X.fs:=λ hb=>by
 obtain ⟨_,o,ho,_⟩:=I.ok.funs.mem hb
 exact absurd (Nat.lt_of_lt_of_le (Heap.lt_size ho) (Nat.le_trans I.sz h)) (Nat.lt_irrefl _)
theorem Inv.cne (I:Inv X pins σ H s):∀ x c,X.env.cells.lookup x=some c->c≠X.env.locals:=λ x c e z=>by
 obtain ⟨v,o,ho,hd⟩:=I.cell x c e
 obtain ⟨m,⟨o',es,ep,ho',hd',_⟩,_⟩:=I.loc
 rw[z,ho'] at ho;cases ho;rw[hd'] at hd;cases hd
theorem Inv.funs (I:Inv X pins σ H s):s.heap.FunFrames X.base X.outer:=by
 have all:∀ (l:List Env),(∀ b∈frs l,b∈X.fs)->X.s₀.heap.FunFrames X.base l->s.heap.FunFrames X.base l:=by
  intro l
  induction l with
  | nil=>intro _ _;trivial
  | cons env r ih =>
   intro hs hl
   obtain ⟨hk,⟨L,o,hf,hn,ho,hd⟩,hr⟩:=hl
   have hL:L∈X.fs:=hs L (by unfold frs;rw[List.filterMap_cons,hf];exact List.mem_cons_self)
   obtain ⟨sl,e⟩:=I.base.slot L o ho (I.ok.frf L hL) hL λ z=>I.ok.exfs L z hL
   exact⟨hk,⟨L,_,hf,hn,e,hd⟩,ih (λ b hb=>hs b (by unfold frs;rw[List.filterMap_cons,hf];exact List.mem_cons_of_mem _ hb)) hr⟩
 exact all X.outer (λ _ hb=>hb) I.ok.funs
theorem Inv.stack (I:Inv X pins σ H s):s.heap.FunFrames X.base X.stack:=by
 rcases I.ok.stk with e|⟨e,hf⟩
 ·rw[e];exact I.funs
 ·rw[e]
  obtain ⟨m,hn,_⟩:=I.loc
  refine .cons (by rw[I.ok.kind];decide) hf hn ?_ I.funs
  exact Heap.get?_none_of_le (Nat.le_trans I.ok.bsz I.ok.above)
theorem Inv.stkSub (I:Inv X pins σ H s):∀ b∈frs X.stack,b∈X.env.locals::X.fs:=λ b hb=>by
 rcases I.ok.stk with e|⟨e,hf⟩
 ·rw[e] at hb;exact List.mem_cons_of_mem _ hb
 ·rw[e] at hb
  unfold frs at hb
  rw[List.filterMap_cons,hf] at hb
  exact hb
theorem Inv.stkFree (I:Inv X pins σ H s):∀ b∈frs X.stack,H b=none:=λ b hb=>by
 rcases List.mem_cons.mp (I.stkSub b hb) with e|hb
 ·rw[e];exact I.free
 ·obtain ⟨_,o,ho,_⟩:=I.ok.funs.mem hb
  exact I.base.free b o ho (I.ok.frf b hb) λ z=>I.ok.exfs b z hb
theorem Inv.step {g':Array GenState}{t':Nat}{d':Drawn}{ch:List Addr} (I:Inv X pins σ H s)
  (hch:∀ b∈ch,(b∈X.ex\/X.s₀.heap.objs.size<=b)/\b≠X.env.locals/\(∀ x c,X.env.cells.lookup x=some c->c≠b)/\∀ p∈X.pn++pins,p.1≠b)
  (keep:∀ b o,b≠X.env.locals->b ∉ X.fs->b ∉ ch->s.heap.get? b=some o->H b=none->h'.get? b=some o)
  (slot:∀ b o,b≠X.env.locals->b∈X.fs->b ∉ ch->s.heap.get? b=some o->H b=none->∃ sl,h'.get? b=some { o with slots:=sl }) (free:∀ b o,b ∉ ch->s.heap.get? b=some o->H b=none->H' b=none)
  (there:∀ b o,b ∉ ch->s.heap.get? b=some o->∃ o',h'.get? b=some o')
  (tups:∀ b xs,H b=some (.tup xs)->H' b=some (.tup xs)) (frzs:∀ b o u,H b=some (.frz o u)->H' b=some (.frz o u)) (tbls:∀ b ps,H b=some (.tbl ps)->∃ more,H' b=some (.tbl (ps++more)))
  (ns:∀ m,s.heap.Ns X.env.locals m->h'.Ns X.env.locals m) (hok:HOk X.prog X.w H' h') (hg:AllBare g') :
  Inv X pins σ H' { s with heap:=h',gens:=g',drawn:=d',toks:=t' }:=by
 have neL:∀ b o,X.s₀.heap.get? b=some o->b≠X.env.locals:=λ b o e=>Nat.ne_of_lt (Nat.lt_of_lt_of_le (Heap.lt_size e) I.ok.above)
 have neC:∀ b o,X.s₀.heap.get? b=some o->b ∉ X.ex->b ∉ ch:=λ b o e hx hb=>by
  rcases (hch b hb).1 with z|z
  ·exact hx z
  ·exact absurd (Nat.lt_of_lt_of_le (Heap.lt_size e) z) (Nat.lt_irrefl _)
 have cellK:∀ x c,X.env.cells.lookup x=some c->∀ v,s.heap.IsCell c v->h'.IsCell c v:=λ x c e v ⟨o,ho,hd⟩=>by
  have nch:c ∉ ch:=λ z=>(hch c z).2.2.1 x c e rfl
  by_cases hc:c∈X.fs
  ·obtain ⟨sl,q⟩:=slot c o (I.cne x c e) hc nch ho (I.freeC x c e)
   exact⟨_,q,hd⟩
  ·exact⟨o,keep c o (I.cne x c e) hc nch ho (I.freeC x c e),hd⟩
 refine⟨I.ok,I.os,hg,⟨λ b o e n hb hx=>?_,λ b o e n hb hx=>?_,λ b o e n hx=>?_,λ b o e hx=>?_,λ b xs e=>tups b xs (I.base.tups b xs e),λ b o xs e=>frzs b o xs (I.base.frzs b o xs e),λ b ps e=>?_⟩,?_,λ x c e=>?_,?_,λ x c e=>?_,λ p hp=>?_,hok,I.len⟩
 ·exact keep b o (neL b o e) hb (neC b o e hx) (I.base.keep b o e n hb hx) (I.base.free b o e n hx)
 ·obtain ⟨sl,e1⟩:=I.base.slot b o e n hb hx
  obtain ⟨sl',e2⟩:=slot b _ (neL b o e) hb (neC b o e hx) e1 (I.base.free b o e n hx)
  exact⟨sl',e2⟩
 ·obtain ⟨o',e1⟩:=I.base.there b o e hx
  exact free b o' (neC b o e hx) e1 (I.base.free b o e n hx)
 ·obtain ⟨o',e1⟩:=I.base.there b o e hx
  exact there b o' (neC b o e hx) e1
 ·obtain ⟨m1,e1⟩:=I.base.tbls b ps e
  obtain ⟨m2,e2⟩:=tbls b _ e1
  exact⟨m1++m2,by rw[e2,Array.append_assoc]⟩
 ·obtain ⟨m,hn,hl⟩:=I.loc
  refine⟨m,ns m hn,λ i x v e1 e2 e3=>?_⟩
  obtain ⟨u,r,l⟩:=hl i x v e1 e2 e3
  refine⟨u,r,?_⟩
  rcases l with l|⟨k,c,e,z⟩
  ·exact .inl l
  ·exact .inr ⟨k,c,e,cellK x c e _ z⟩
 ·obtain ⟨v,z⟩:=I.cell x c e
  exact⟨v,cellK x c e v z⟩
 ·obtain ⟨m,⟨o,_,_,ho,_⟩,_⟩:=I.loc
  exact free _ o (λ z=>(hch _ z).2.1 rfl) ho I.free
 ·obtain ⟨v,o,ho,hd⟩:=I.cell x c e
  exact free c o (λ z=>(hch c z).2.2.1 x c e rfl) ho (I.freeC x c e)
 ·obtain ⟨e,n,ne,nf,d⟩:=I.pin p hp
  have nch:p.1 ∉ ch:=λ z=>(hch p.1 z).2.2.2 p hp rfl
  exact⟨keep p.1 p.2 ne nf nch e n,free p.1 p.2 nch e n,ne,nf,d⟩
theorem Inv.un {t':Nat} (I:Inv X pins σ H s) (u:Un X.fs [] H H' s.heap h') (hok:HOk X.prog X.w H' h'):Inv X pins σ H' { s with heap:=h',toks:=t' }:=by
 obtain ⟨m,⟨o,es,ep,ho,r⟩,_⟩:=id I.loc
 obtain ⟨sl,hL⟩:=u.any ho I.free (by simp)
 exact I.step (g':=s.gens) (d':=s.drawn) (ch:=[]) (λ _ z=>nomatch z) (λ b o _ hb _ e n=>u.keep b o e n hb (by simp)) (λ b o _ hb _ e n=>u.slot b o e n hb (by simp)) (λ b o _ e n=>u.free b o e n (by simp)) (λ b o _ e=>u.there b o e (by simp)) u.tups u.frzs u.tbls (λ m' hm=>by
  obtain ⟨o',es',ep',ho',r'⟩:=hm
  rw[ho] at ho';cases ho'
  exact⟨_,es',ep',hL,r'⟩) hok I.bare
theorem Inv.call {g':Array GenState}{t':Nat}{d':Drawn}{ch:List Addr} (I:Inv X pins σ H s) (u:Un (frs X.stack) ch H H' s.heap h') (hok:HOk X.prog X.w H' h') (hg:AllBare g')
  (hch:∀ b∈ch,(b∈X.ex\/X.s₀.heap.objs.size<=b)/\b≠X.env.locals/\(∀ x c,X.env.cells.lookup x=some c->c≠b)/\∀ p∈X.pn++pins,p.1≠b) :
  Inv X pins σ H' { s with heap:=h',gens:=g',drawn:=d',toks:=t' }:=by
 obtain ⟨m,⟨o,es,ep,ho,r⟩,_⟩:=id I.loc
 obtain ⟨sl,hL⟩:=u.any ho I.free λ z=>(hch _ z).2.1 rfl
 exact I.step (ch:=ch) hch (λ b o hL hb hc e n=>u.keep b o e n (λ z=>(List.mem_cons.mp (I.stkSub b z)).elim hL hb) hc) (λ b o _ _ hc e n=>u.any e n hc) (λ b o hc e n=>u.free b o e n hc) (λ b o hc e=>u.there b o e hc) u.tups u.frzs u.tbls (λ m' hm=>by
  obtain ⟨o',es',ep',ho',r'⟩:=hm
  rw[ho] at ho';cases ho'
  exact⟨_,es',ep',hL,r'⟩) hok hg
theorem Inv.turned {t':Nat}{it:Addr} (I:Inv X pins σ H s) (k:∀ b o,b≠it->s.heap.get? b=some o->h'.get? b=some o) (hn:H it=none) (hL:it≠X.env.locals)
  (h1:it∈X.ex\/X.s₀.heap.objs.size<=it) (h2:∀ x c,X.env.cells.lookup x=some c->c≠it) (h3:∀ p∈X.pn++pins,p.1≠it):Inv X pins σ H { s with heap:=h',toks:=t' }:=by
 have nit:∀ b u,H b=some u->b≠it:=λ b u e z=>by rw[z,hn] at e;cases e
 refine I.step (g':=s.gens) (d':=s.drawn) (ch:=[it]) (λ b hb=>?_) (λ b o _ _ hc e _=>k b o (λ z=>hc (by simp[z])) e) (λ b o _ _ hc e _=>⟨o.slots,k b o (λ z=>hc (by simp[z])) e⟩) (λ _ _ _ _ n=>n)
  (λ b o hc e=>⟨o,k b o (λ z=>hc (by simp[z])) e⟩) (λ _ _ e=>e) (λ _ _ _ e=>e) (λ b ps e=>⟨#[],by rw[e];simp⟩) (λ m hm=>?_) (λ b u e=>?_) I.bare
 ·have e:b=it:=by simpa using hb
  subst e
  exact⟨h1,hL,h2,h3⟩
 ·obtain ⟨o,es,ep,ho,r⟩:=hm
  exact⟨o,es,ep,k _ o (Ne.symm hL) ho,r⟩
 ·refine (I.hok b u e).stay (λ c v hc q=>k c v ?_ q) (λ _ q=>q) λ _ _ q=>q
  rcases hc with z|z
  ·rw[z];exact nit b u e
  ·exact nit c _ z
theorem Inv.tok (I:Inv X pins σ H s) (t:Nat):Inv X pins σ H { s with toks:=t }:=I.un (h':=s.heap) (t':=t) Un.refl I.hok
theorem Inv.kept {t':Nat} (I:Inv X pins σ H s) (k:∀ b u,s.heap.get? b=some u->h'.get? b=some u):Inv X pins σ H { s with heap:=h',toks:=t' }:=I.un (Un.kept k) (I.hok.kept k)
theorem Inv.laid {a:Addr}{o:HO}{t':Nat} (I:Inv X pins σ H s) (k:∀ b u,s.heap.get? b=some u->h'.get? b=some u) (hp:s.heap.objs.size<=a) (new:zbb X.prog X.w (upd H a o) h' a o) :
  Inv X pins σ (upd H a o) { s with heap:=h',toks:=t' }:=I.un (Un.laid k hp (I.hok.fresh hp)) (I.hok.laid k hp new)
theorem Inv.write {x e:Addr}{o:HO}{t':Nat} (I:Inv X pins σ H s) (mu:Mut (H x)) (he:e=x\/H e=some (.own x)) (k:∀ b u,b≠e->s.heap.get? b=some u->h'.get? b=some u) (heo:∃ u,h'.get? e=some u)
  (new:zbb X.prog X.w (upd H x o) h' x o):Inv X pins σ (upd H x o) { s with heap:=h',toks:=t' }:=I.un (Un.write mu he k heo) (I.hok.write mu he k heo new)
theorem Inv.weak {σ':List (Option V)} (I:Inv X pins σ H s) (hl:σ'.length=σ.length) (w:∀ (i:Nat) v,σ'[i]?=some (some v)->σ[i]?=some (some v)):Inv X pins σ' H s :=
 ⟨I.ok,I.os,I.bare,I.base,let ⟨m,hn,hl'⟩:=I.loc;⟨m,hn,λ i x v e1 e2 e3=>hl' i x v e1 (w i v e2) e3⟩,I.cell,I.free,I.freeC,I.pin,I.hok,hl.trans I.len⟩
theorem Inv.pins_of {pins':List (Addr×Obj)} (I:Inv X pins σ H s) (h:∀ p∈pins',s.heap.get? p.1=some p.2/\H p.1=none/\p.1≠X.env.locals/\p.1 ∉ X.fs/\∀ v,p.2.data≠.cell v):Inv X pins' σ H s :=
 ⟨I.ok,I.os,I.bare,I.base,I.loc,I.cell,I.free,I.freeC,λ p hp=>(List.mem_append.mp hp).elim (λ z=>I.pin p (List.mem_append_left _ z)) (h p),I.hok,I.len⟩
theorem zmz {N:List Str} (hN:N.Nodup) {i j:Nat}{x:Str} (a:N[i]?=some x) (b:N[j]?=some x):i=j:=by
 obtain ⟨h1,e1⟩:=List.getElem?_eq_some_iff.mp a
 obtain ⟨h2,e2⟩:=List.getElem?_eq_some_iff.mp b
 exact (List.getElem_inj hN).mp (e1.trans e2.symm)
theorem zj2 {M:Model}{A:Around}{E:Value->Shared->Prop}{i:Nat}{x:Str}{v:V}{u:Value}{Q:Unit->Shared->Prop} (I:Inv X pins σ H s) (hN:X.N.Nodup) (hi:X.N[i]?=some x) (hx:Loc X.env.scope x) (r:zbe v u)
  (h:∀ s',Inv X pins (σ.set i (some v)) H s'->(∃ a,Heap.SameBut a s.heap s'.heap/\(a=X.env.locals\/X.env.cells.lookup x=some a))->Q () s') (hf:X.fn x=true\/X.env.scope.names.lookup x=some .local:=by first|exact .inl rfl|exact .inr rfl|assumption):wpAny M A (storeName X.env x u) Q E s:=by
 obtain ⟨m,hn,hl⟩:=id I.loc
 have hcls:(X.env.scope.kind == .class || (X.env.scope.kind == .module && X.env.locals != X.env.globals))=false:=by rw[I.ok.kind];rfl
 have hiσ:i<σ.length:=by rw[I.len];exact (List.getElem?_eq_some_iff.mp hi).1
 have cne:=I.cne
 have tracked:∀ {a:Addr} {h':Heap},(∃ o,s.heap.get? a=some o/\H a=none)->Heap.SameBut a s.heap h'->HOk X.prog X.w H h':=λ {a h'} ha hs b ob e=>by
  obtain ⟨_,_,hfree⟩:=ha
  refine (I.hok b ob e).stay (λ c w' hc q=>(hs.2 c ?_).trans q) (λ _ q=>q) λ _ _ q=>q
  rintro rfl
  rcases hc with rfl|hc
  ·rw[hfree] at e;cases e
  ·rw[hfree] at hc;cases hc
 rcases hx with hk|hk
 ·refine wpAny_storeName_local hk hn (λ h' hn' hs=>?_) hcls
  obtain ⟨oL,_,_,hoL,_⟩:=id hn
  refine h _ ⟨I.ok,I.os,I.bare,⟨λ b o e n hb hx=>?_,λ b o e n hb hx=>?_,I.base.free,λ b o e hx=>?_,I.base.tups,I.base.frzs,I.base.tbls⟩,⟨_,hn',λ j y v' e1 e2 e3=>?_⟩,λ y c e=>?_,I.free,I.freeC,λ p hp=>?_,tracked ⟨oL,hoL,I.free⟩ hs,by simpa using I.len⟩ ⟨_,hs,.inl rfl⟩
  ·exact (hs.2 b (Nat.ne_of_lt (Nat.lt_of_lt_of_le (Heap.lt_size e) I.ok.above))).trans (I.base.keep b o e n hb hx)
  ·obtain ⟨sl,e1⟩:=I.base.slot b o e n hb hx
   exact⟨sl,(hs.2 b (Nat.ne_of_lt (Nat.lt_of_lt_of_le (Heap.lt_size e) I.ok.above))).trans e1⟩
  ·obtain ⟨o',e1⟩:=I.base.there b o e hx
   exact⟨o',(hs.2 b (Nat.ne_of_lt (Nat.lt_of_lt_of_le (Heap.lt_size e) I.ok.above))).trans e1⟩
  ·by_cases hj:j=i
   ·subst hj
    rw[hi] at e1;cases e1
    rw[List.getElem?_set_self hiσ] at e2
    cases e2
    exact⟨u,r,.inl ⟨hk,by simp⟩⟩
   ·rw[List.getElem?_set_ne (Ne.symm hj)] at e2
    obtain ⟨u',r',q⟩:=hl j y v' e1 e2 e3
    refine⟨u',r',?_⟩
    rcases q with ⟨k,e⟩|⟨k,c,e,z⟩
    ·refine .inl ⟨k,?_⟩
     have:y≠x:=λ e=>hj (zmz hN e1 (e ▸ hi))
     simp[this,e]
    ·exact .inr ⟨k,c,e,z.sameBut hs (cne y c e)⟩
  ·obtain ⟨w',z⟩:=I.cell y c e
   exact⟨w',z.sameBut hs (cne y c e)⟩
  ·obtain ⟨e,n,ne,nf,d⟩:=I.pin p hp
   exact⟨(hs.2 p.1 ne).trans e,n,ne,nf,d⟩
 ·have hfn:X.fn x=true:=by
   rcases hf with z|z
   ·exact z
   ·rw[z] at hk;cases hk
  obtain ⟨c,hc⟩:=I.ok.has x (.inl hk)
  obtain ⟨w',z⟩:=I.cell x c hc
  refine wpAny_storeName_cell I.ok.kind hk hc z (λ h' hc' hs=>?_)
  obtain ⟨oc,hoc,hocd⟩:=id z
  refine h { s with heap:=h' } ⟨I.ok,I.os,I.bare,⟨λ b o e n hb hx=>?_,λ b o e n hb hx=>?_,I.base.free,λ b o e hx=>?_,I.base.tups,I.base.frzs,I.base.tbls⟩,⟨m,hn.sameBut hs (Ne.symm (cne x c hc)),λ j y v' e1 e2 e3=>?_⟩,λ y c' e=>?_,I.free,I.freeC,λ p hp=>?_,tracked ⟨oc,hoc,I.freeC x c hc⟩ hs,by simpa using I.len⟩ ⟨c,hs,.inr hc⟩
  ·exact (hs.2 b (Nat.ne_of_lt (Nat.lt_of_lt_of_le (Heap.lt_size e) (I.ok.cab x c hfn hc)))).trans (I.base.keep b o e n hb hx)
  ·obtain ⟨sl,e1⟩:=I.base.slot b o e n hb hx
   exact⟨sl,(hs.2 b (Nat.ne_of_lt (Nat.lt_of_lt_of_le (Heap.lt_size e) (I.ok.cab x c hfn hc)))).trans e1⟩
  ·obtain ⟨o',e1⟩:=I.base.there b o e hx
   exact⟨o',(hs.2 b (Nat.ne_of_lt (Nat.lt_of_lt_of_le (Heap.lt_size e) (I.ok.cab x c hfn hc)))).trans e1⟩
  ·by_cases hj:j=i
   ·subst hj
    rw[hi] at e1;cases e1
    rw[List.getElem?_set_self hiσ] at e2
    cases e2
    exact⟨u,r,.inr ⟨.inl hk,c,hc,hc'⟩⟩
   ·rw[List.getElem?_set_ne (Ne.symm hj)] at e2
    obtain ⟨u',r',q⟩:=hl j y v' e1 e2 e3
    refine⟨u',r',?_⟩
    rcases q with q|⟨k,c',e,z'⟩
    ·exact .inl q
    ·refine .inr ⟨k,c',e,z'.sameBut hs ?_⟩
     rintro rfl
     exact hj (zmz hN e1 (I.ok.inj _ _ _ e hc ▸ hi))
  ·by_cases hcc:c'=c
   ·subst hcc;exact⟨_,hc'⟩
   ·obtain ⟨w2,z2⟩:=I.cell y c' e
    exact⟨w2,z2.sameBut hs hcc⟩
  ·obtain ⟨e,n,ne,nf,d⟩:=I.pin p hp
   refine⟨(hs.2 p.1 ?_).trans e,n,ne,nf,d⟩
   intro q
   rw[q,hoc] at e
   have q':oc=p.2:=Option.some.inj e
   exact d w' (by rw[<-q'];exact hocd)
theorem zm0 {M:Model}{A:Around}{E:Value->Shared->Prop}{i:Nat}{x:Str}{v:V}{u:Value}{Q:Unit->Shared->Prop} (I:Inv X pins σ H s) (hN:X.N.Nodup) (hi:X.N[i]?=some x) (hx:Loc X.env.scope x) (r:zbe v u)
  (h:∀ s',Inv X pins (σ.set i (some v)) H s'->Q () s') (hf:X.fn x=true\/X.env.scope.names.lookup x=some .local:=by first|exact .inl rfl|exact .inr rfl|assumption):wpAny M A (storeName X.env x u) Q E s :=
 zj2 I hN hi hx r (λ s' I' _=>h s' I') hf
theorem Inv.call' {s':Shared}{ch:List Addr} (I:Inv X pins σ H s) (ho:s'.os=s.os) (u:Un (frs X.stack) ch H H' s.heap s'.heap) (hok:HOk X.prog X.w H' s'.heap) (hg:AllBare s'.gens)
  (hch:∀ b∈ch,(b∈X.ex\/X.s₀.heap.objs.size<=b)/\b≠X.env.locals/\(∀ x c,X.env.cells.lookup x=some c->c≠b)/\∀ p∈X.pn++pins,p.1≠b):Inv X pins σ H' s':=by
 obtain ⟨h',g',d',t',o'⟩:=s'
 have e:o'=s.os:=ho
 subst e
 exact I.call (g':=g') (t':=t') (d':=d') u hok hg hch
end
abbrev XK:=Value->Option Addr->Hp->Prop
abbrev St:=List (Option V)
abbrev VK:=V->Hp->Prop
abbrev TE:=St->Hp->VK->Prop
abbrev TT:=St->Hp->(Bool->Hp->Prop)->Prop
abbrev TA:=St->Hp->(List V->Hp->Prop)->Prop
structure Ends where
 nx:St->Hp->Prop
 rt:VK
 bk:St->Hp->Prop:=λ _ _=>False
 ct:St->Hp->Prop:=λ _ _=>False
abbrev TS:=Ends->St->Hp->Prop
def EP (X:Cx) (pins:List (Addr×Obj)) (σ:St) (Q:VK) (u:Value) (s':Shared):Prop:=∃ v H',Inv X pins σ H' s'/\zbe v u/\Q v H'
def TP (X:Cx) (pins:List (Addr×Obj)) (σ:St) (Q:Bool->Hp->Prop) (b:Bool) (s':Shared):Prop:=∃ H',Inv X pins σ H' s'/\Q b H'
def AP (X:Cx) (pins:List (Addr×Obj)) (σ:St) (Q:List V->Hp->Prop) (us:List Value) (s':Shared):Prop:=∃ vs H',Inv X pins σ H' s'/\zbj vs us/\Q vs H'
def SP (X:Cx) (pins:List (Addr×Obj)) (D:Ends) (f:Flow) (s':Shared):Prop :=
 match f with
 | .next=>∃ σ' H',Inv X pins σ' H' s'/\D.nx σ' H'
 | .brk=>∃ σ' H',Inv X pins σ' H' s'/\D.bk σ' H'
 | .cont=>∃ σ' H',Inv X pins σ' H' s'/\D.ct σ' H'
 | .ret u=>∃ v σ' H',Inv X pins σ' H' s'/\zbe v u/\D.rt v H'
def PE (X:Cx) (e:Expr) (t:TE):Prop :=
 ∀ (pins:List (Addr×Obj)) (s:Shared) (σ:St) (H:Hp) (Q:VK),Inv X pins σ H s->t σ H Q->wpAny (model X.prog X.w) X.A (eval e X.env) (EP X pins σ Q) X.xe s
def PT (X:Cx) (e:Expr) (t:TT):Prop :=
 ∀ (pins:List (Addr×Obj)) (s:Shared) (σ:St) (H:Hp) (Q:Bool->Hp->Prop),Inv X pins σ H s->t σ H Q->wpAny (model X.prog X.w) X.A (isTrue e X.env (eval e X.env)) (TP X pins σ Q) X.xe s
def PW (X:Cx) (e:Expr) (t:TT):Prop :=
 ∀ (whole:Sem Value) (pins:List (Addr×Obj)) (s:Shared) (σ:St) (H:Hp) (Q:Bool->Hp->Prop),Inv X pins σ H s->t σ H Q->wpAny (model X.prog X.w) X.A (isTrue e X.env whole) (TP X pins σ Q) X.xe s
theorem PW.pt {X:Cx}{e:Expr}{t:TT} (h:PW X e t):PT X e t:=h _
def PA (X:Cx) (es:List Expr) (t:TA):Prop :=
 ∀ (pos:Pos) (pins:List (Addr×Obj)) (s:Shared) (σ:St) (H:Hp) (Q:List V->Hp->Prop),Inv X pins σ H s->t σ H Q->wpAny (model X.prog X.w) X.A (spliced (backTo pos (starEach es X.env))) (AP X pins σ Q) X.xe s
def PS (X:Cx) (st:Stmt) (t:TS):Prop :=
 ∀ (pins:List (Addr×Obj)) (s:Shared) (σ:St) (H:Hp) (D:Ends),Inv X pins σ H s->t D σ H->wpAny (model X.prog X.w) X.A (exec st X.env) (SP X pins D) X.xe s
def PSs (X:Cx) (st:List Stmt) (t:TS):Prop :=
 ∀ (pins:List (Addr×Obj)) (s:Shared) (σ:St) (H:Hp) (D:Ends),Inv X pins σ H s->t D σ H->wpAny (model X.prog X.w) X.A (execs st X.env) (SP X pins D) X.xe s
theorem thn {α:Type}{t:Sem α}{Q Q':α->Shared->Prop}{M:Model}{A:Around}{E:Value->Shared->Prop}{s:Shared} (h:wpAny M A t Q E s) (hQ:∀ a s,Q a s->Q' a s):wpAny M A t Q' E s:=wpAny_mono h hQ λ _ _ x=>x
section
variable {X:Cx}
def yb2 (i:Nat):TE:=λ σ H Q=>∃ v,σ[i]?=some (some v)/\Q v H
def tC (v:V):TE:=λ _ H Q=>Q v H
theorem zcc {i:Nat}{x:Str}{pos:Pos} (hN:X.N[i]?=some x) (hv:Vis X.env.scope x) (hd:(x == ("__debug__" : Str))=false:=by decide) (hcd:(x == ("__classdict__" : Str))=false:=by decide):PE X (.Name x pos) (yb2 i):=by
 intro pins s σ H Q I h
 obtain ⟨v,e,h⟩:=h
 obtain ⟨m,hn,hl⟩:=I.loc
 obtain ⟨u,r,l⟩:=hl i x v hN e hv
 have fin:EP X pins σ Q u s:=⟨v,H,I,r,h⟩
 rcases l with ⟨hk,hm⟩|⟨hk,c,hc,hcell⟩
 ·exact wpAny_Name (wpAny_loadName_local I.ok.kind hk hn hm fin) hd
 ·rcases hk with hk|hk
  ·exact wpAny_Name (wpAny_loadName_cell I.ok.kind hk hc hcell fin) hd
  ·exact wpAny_Name (wpAny_loadName_free I.ok.kind hk hc hcell fin hcd) hd
theorem z3e {i j pos}:PE X (.Constant (.int i) j pos) (tC (.int i)):=λ _ _ _ H _ I h=>wpAny_Constant_int ⟨.int i,H,I.tok _,⟨_,rfl⟩,h⟩
theorem z3f {b j pos}:PE X (.Constant (.bool b) j pos) (tC (.bl b)):=λ _ _ _ H _ I h=>Constant_bool ⟨.bl b,H,I,rfl,h⟩
theorem z3g {x j pos}:PE X (.Constant (.str x) j pos) (tC (.str x)):=λ _ _ _ H _ I h=>Calls.Constant_str ⟨.str x,H,I.tok _,⟨_,rfl⟩,h⟩
def Gl (X:Cx) (x:Str):Prop:=X.env.kindOf x=some .globalImplicit
theorem zpo {E:Value->Shared->Prop}{pins:List (Addr×Obj)}{s:Shared}{σ:St}{H:Hp}{x:Str}{u:Value}{pos:Pos}{Q:Value->Shared->Prop} (I:Inv X pins σ H s) (hg:Gl X x) (hm:X.mg x=some u) (h:Q u s)
  (hd:(x == ("__debug__" : Str))=false:=by decide):wpAny (model X.prog X.w) X.A (eval (.Name x pos) X.env) Q E s :=
 Calls.Name_function_global I.ok.kind hg (Calls.loadGlobal_global (by rw[I.ok.glob];exact I.mod.glob.keeps I.bk) hm h) hd
theorem zer {E:Value->Shared->Prop}{pins:List (Addr×Obj)}{s:Shared}{σ:St}{H:Hp}{x:Str}{u:Value}{pos:Pos}{Q:Value->Shared->Prop} (I:Inv X pins σ H s) (hg:Gl X x) (hm:X.mg x=none) (hv:bootBuiltins x=some u) (h:Q u s)
  (hn:x ≠ "__name__":=by decide) (hd:(x == ("__debug__" : Str))=false:=by decide):wpAny (model X.prog X.w) X.A (eval (.Name x pos) X.env) Q E s:=by
 obtain ⟨mb,h1,h2⟩:=I.mod.blt
 exact Calls.Name_function_global I.ok.kind hg (Calls.loadGlobal_builtin (by rw[I.ok.glob];exact I.mod.glob.keeps I.bk) hm (by rw[I.ok.blt];exact h1.keeps I.bk) ((h2 x hn).trans hv) h) hd
theorem zlq {x:Str}{v:V}{u:Value}{pos:Pos} (hg:Gl X x) (hm:X.mg x=some u) (r:zbe v u) (hd:(x == ("__debug__" : Str))=false:=by decide):PE X (.Name x pos) (tC v) :=
 λ _ _ _ H _ I h=>zpo I hg hm ⟨v,H,I,r,h⟩ hd
theorem zff {x:Str}{v:V}{u:Value}{pos:Pos} (hg:Gl X x) (hm:X.mg x=none) (hv:bootBuiltins x=some u) (r:zbe v u) (hn:x ≠ "__name__":=by decide) (hd:(x == ("__debug__" : Str))=false:=by decide):PE X (.Name x pos) (tC v) :=
 λ _ _ _ H _ I h=>zer I hg hm hv ⟨v,H,I,r,h⟩ hn hd
variable {a b:Expr}{ta tb:TE}{pos:Pos}
variable {tA tB':TT}{rest:List Expr}
def ybj (t u:TT):TT:=λ σ H Q=>t σ H λ c H1=>if c=true then u σ H1 Q else Q false H1
def tOr (t u:TT):TT:=λ σ H Q=>t σ H λ c H1=>if c=true then Q true H1 else u σ H1 Q
def yb3 (t:TT):TT:=λ σ H Q=>t σ H λ c H1=>Q (!c) H1
theorem zy3 (ha:PT X a tA):PW X (.BoolOp .And [a] pos) tA:=by
 intro wh pins s σ H Q I h
 refine isTrue_and (thn (ha pins s σ H Q I h) λ c s1 e=>?_)
 cases c with
 | true=>exact isTrue_and_nil e
 | false=>exact e
theorem z3h (ha:PT X a tA):PW X (.BoolOp .Or [a] pos) tA:=by
 intro wh pins s σ H Q I h
 refine isTrue_or (thn (ha pins s σ H Q I h) λ c s1 e=>?_)
 cases c with
 | false=>exact isTrue_or_nil e
 | true=>exact e
theorem z3i (ha:PT X a tA) (hb:PW X (.BoolOp .And (b::rest) pos) tB'):PW X (.BoolOp .And (a::b::rest) pos) (ybj tA tB'):=by
 intro wh pins s σ H Q I h
 refine isTrue_and (thn (ha pins s σ H _ I h) λ c s1 ⟨H1,I1,q1⟩=>?_)
 cases c with
 | true=>exact hb wh pins s1 σ H1 Q I1 q1
 | false=>exact⟨H1,I1,q1⟩
theorem z8o (ha:PT X a tA) (hb:PW X (.BoolOp .Or (b::rest) pos) tB'):PW X (.BoolOp .Or (a::b::rest) pos) (tOr tA tB'):=by
 intro wh pins s σ H Q I h
 refine isTrue_or (thn (ha pins s σ H _ I h) λ c s1 ⟨H1,I1,q1⟩=>?_)
 cases c with
 | true=>exact⟨H1,I1,q1⟩
 | false=>exact hb wh pins s1 σ H1 Q I1 q1
theorem z3j (ha:PT X a tA):PT X (.UnaryOp .Not a pos) (yb3 tA):=by
 intro pins s σ H Q I h
 exact isTrue_not (ha pins s σ H (λ c H1=>Q (!c) H1) I h)
theorem z3k {op}{t:TE} (h:PE X a t):PE X (.BoolOp op [a] pos) t:=λ pins s σ H Q I hw=>BoolOp_one (h pins s σ H Q I hw)
end
def SqL (K:PySem.W.Frag) (H:Hp) (a:Addr) (xs:List V):Prop :=
 Rd H a (.lst xs) ∨
  ∃ (o:Obj) (its:Array Value) (n:Nat),K.lookup a=some o/\o.cls=.type "list" /\ o.dict=none/\o.data=.seq its n/\its.size<=sizeLine/\zbj xs its.toList
def SqT (K:PySem.W.Frag) (H:Hp) (a:Addr) (xs:List V):Prop :=
 Rd H a (.tup xs) ∨
  ∃ (o:Obj) (its:Array Value) (n:Nat),K.lookup a=some o/\o.cls=.type "tuple" /\ o.data=.seq its n/\its.size<=sizeLine/\zbj xs its.toList
def yb4:Value->Option V
 | .none=>some .non
 | .bool b=>some (.bl b)
 | .int i _=>some (.int i)
 | .str x _=>some (.str x)
 | .bytes b _=>some (.byt b)
 | .float b _=>some (.flt b)
 | .ref a=>some (.ref a)
 | .type n=>some (.ty n)
 | _=>none
theorem zbe.abs {x:V}{u:Value} (r:zbe x u):yb4 u=some x:=by
 cases x with
 | non=>cases r;rfl
 | bl _=>cases r;rfl
 | int _=>obtain ⟨t,rfl⟩:=r;rfl
 | str _=>obtain ⟨t,rfl⟩:=r;rfl
 | byt _=>obtain ⟨t,rfl⟩:=r;rfl
 | flt _=>obtain ⟨t,rfl⟩:=r;rfl
 | ref _=>cases r;rfl
 | ty _=>cases r;rfl
theorem zbe.inj {x y:V}{u:Value} (r:zbe x u) (q:zbe y u):x=y:=Option.some.inj (r.abs.symm.trans q.abs)
theorem zbj.inj:∀ {xs ys:List V}{us:List Value},zbj xs us->zbj ys us->xs=ys
 | _,_,_,.nil,.nil=>rfl
 | _,_,_,.cons r t,.cons r' t'=>by rw[r.inj r',zbj.inj t t']
section
variable {X:Cx}{pins:List (Addr×Obj)}{σ:St}{H:Hp}{s:Shared}{a:Addr}{xs ys:List V}
theorem SqL.of {K:PySem.W.Frag} (h:H a=some (.lst xs)):SqL K H a xs:=.inl (.inl h)
theorem SqT.of {K:PySem.W.Frag} (h:H a=some (.tup xs)):SqT K H a xs:=.inl (.inl h)
theorem Inv.list (I:Inv X pins σ H s) (h:SqL X.K H a xs):∃ its:List Value,zbj xs its/\PlainL s.heap a its.toArray/\xs.length<=sizeLine:=by
 rcases h with h|⟨o,its,n,hk,hc,hd,hs,hz,r⟩
 ·obtain ⟨z,its,n,r,e⟩:=h.ok I.hok
  exact⟨its,r,⟨_,n,e,rfl,rfl,rfl⟩,z⟩
 ·refine⟨its.toList,r,⟨o,n,I.kIn a o hk,hc,hd,by simpa using hs⟩,?_⟩
  have e:=r.length
  simp only[Array.length_toList] at e
  omega
theorem Inv.tuple (I:Inv X pins σ H s) (h:SqT X.K H a xs):∃ its:List Value,zbj xs its/\IsTup s.heap a its.toArray/\xs.length<=sizeLine:=by
 rcases h with h|⟨o,its,n,hk,hc,hs,hz,r⟩
 ·obtain ⟨z,its,r,p⟩:=h.ok I.hok
  exact⟨its,r,p,z⟩
 ·refine⟨its.toList,r,⟨o,I.kIn a o hk,hc,n,by simpa using hs⟩,?_⟩
  have e:=r.length
  simp only[Array.length_toList] at e
  omega
theorem Inv.list_inj (I:Inv X pins σ H s) (h:SqL X.K H a xs) (h':SqL X.K H a ys):xs=ys:=by
 obtain ⟨its,r,⟨o,n,e,_,_,d⟩,_⟩:=I.list h
 obtain ⟨its',r',⟨o',n',e',_,_,d'⟩,_⟩:=I.list h'
 rw[e] at e';cases e'
 rw[d] at d'
 injection d' with d1 _
 have:its=its':=by simpa using congrArg Array.toList d1
 subst this
 exact r.inj r'
theorem Inv.tuple_inj (I:Inv X pins σ H s) (h:SqT X.K H a xs) (h':SqT X.K H a ys):xs=ys:=by
 obtain ⟨its,r,⟨o,e,_,n,d⟩,_⟩:=I.tuple h
 obtain ⟨its',r',⟨o',e',_,n',d'⟩,_⟩:=I.tuple h'
 rw[e] at e';cases e'
 rw[d] at d'
 injection d' with d1 _
 have:its=its':=by simpa using congrArg Array.toList d1
 subst this
 exact r.inj r'
end
abbrev Cx.wish (X:Cx) (E:Value->Shared->Prop):Cx:={ X with xe:=E }
abbrev Cx.nox (X:Cx):Cx:=X.wish λ _ _=>False
theorem Cx.Ok.wish {X:Cx} (ok:X.Ok) (E:Value->Shared->Prop):(X.wish E).Ok :=
 ⟨ok.mod,ok.kind,ok.glob,ok.blt,ok.above,ok.inj,ok.has,ok.cab,ok.hd,ok.frames,ok.stk,ok.exf,ok.bs,ok.bsz,ok.noex,ok.exfs,ok.funs,ok.frf⟩
theorem Cx.Ok.unwish {X:Cx}{E:Value->Shared->Prop} (ok:(X.wish E).Ok):X.Ok :=
 ⟨ok.mod,ok.kind,ok.glob,ok.blt,ok.above,ok.inj,ok.has,ok.cab,ok.hd,ok.frames,ok.stk,ok.exf,ok.bs,ok.bsz,ok.noex,ok.exfs,ok.funs,ok.frf⟩
section
variable {X:Cx}{pins:List (Addr×Obj)}{σ:St}{H:Hp}{s:Shared}{E:Value->Shared->Prop}
theorem Inv.wish (I:Inv X pins σ H s) (E:Value->Shared->Prop):Inv (X.wish E) pins σ H s:=⟨I.ok.wish E,I.os,I.bare,I.base,I.loc,I.cell,I.free,I.freeC,I.pin,I.hok,I.len⟩
theorem Inv.unwish (I:Inv (X.wish E) pins σ H s):Inv X pins σ H s:=⟨I.ok.unwish,I.os,I.bare,I.base,I.loc,I.cell,I.free,I.freeC,I.pin,I.hok,I.len⟩
theorem SP.unwish {D:Ends}{f:Flow}{s':Shared} (h:SP (X.wish E) pins D f s'):SP X pins D f s':=by
 cases f with
 | next=>obtain ⟨σ',H',I,q⟩:=h;exact⟨σ',H',I.unwish,q⟩
 | brk=>obtain ⟨σ',H',I,q⟩:=h;exact⟨σ',H',I.unwish,q⟩
 | cont=>obtain ⟨σ',H',I,q⟩:=h;exact⟨σ',H',I.unwish,q⟩
 | ret u=>obtain ⟨v,σ',H',I,r,q⟩:=h;exact⟨v,σ',H',I.unwish,r,q⟩
theorem PSs.nox {st:List Stmt}{t:TS} (h:PSs X.nox st t):PSs X st t:=λ pins s σ H D I hw =>
 wpAny_mono (h pins s σ H D (I.wish _) hw) (λ _ _ q=>q.unwish) λ _ _ z=>False.elim z
end
section
variable {X:Cx}{st:Stmt}{rest:List Stmt}{t u:TS}{e:Expr}{te:TE}{pos:Pos}
def z8p:TS:=λ D σ H=>D.nx σ H
def yb5 (t u:TS):TS:=λ D σ H=>t { D with nx:=u D } σ H
theorem zlr:PSs X [] z8p:=λ _ _ σ H _ I h=>wpAny_execs_nil ⟨σ,H,I,h⟩
theorem zc9 (h1:PS X st t) (h2:PSs X rest u):PSs X (st::rest) (yb5 t u):=by
 intro pins s σ H D I h
 refine wpAny_execs_cons (thn (h1 pins s σ H { D with nx:=u D } I h) λ f s1 q=>?_)
 cases f with
 | next =>
  obtain ⟨σ',H',I',q⟩:=q
  exact h2 pins s1 σ' H' D I' q
 | ret v=>exact q
 | brk=>exact q
 | cont=>exact q
theorem zfg (h1:PS X st t):PSs X [st] t:=by
 intro pins s σ H D I h
 refine wpAny_execs_cons (thn (h1 pins s σ H D I h) λ f s1 q=>?_)
 cases f with
 | next=>exact wpAny_execs_nil q
 | ret v=>exact q
 | brk=>exact q
 | cont=>exact q
theorem Inv.quiet {pins:List (Addr×Obj)}{σ:St}{H:Hp}{s:Shared} (I:Inv X pins σ H s):interactive X.env=false:=by simp[interactive,I.ok.kind]
def z8q (te:TE):TS:=λ D σ H=>te σ H λ _ H1=>D.nx σ H1
theorem zfh (he:PE X e te) (hs:swapsWith e none pos.line X.env=pure false:=by rfl):PS X (.Expr e pos) (z8q te):=by
 intro pins s σ H D I h
 exact wpAny_Expr_any (thn (he pins s σ H _ I h) λ v s1 ⟨x,H1,I1,r1,q1⟩=>⟨σ,H1,I1,q1⟩) I.quiet hs
def yb6 (te:TE):TS:=λ D σ H=>te σ H D.rt
theorem zhz (he:PE X e te):PS X (.Return (some e) pos) (yb6 te):=by
 intro pins s σ H D I h
 exact wpAny_Return_some (thn (he pins s σ H _ I h) λ v s1 ⟨x,H1,I1,r1,q1⟩=>⟨x,σ,H1,I1,r1,q1⟩)
def yb7 (c:TT) (t u:TS):TS:=λ D σ H=>c σ H λ b H1=>if b=true then t D σ H1 else u D σ H1
theorem zy4 {c:Expr}{a b:List Stmt}{tc:TT} (hc:PT X c tc) (ha:PSs X a t) (hb:PSs X b u):PS X (.If c a b pos) (yb7 tc t u):=by
 intro pins s σ H D I h
 refine wpAny_If (thn (hc pins s σ H _ I h) λ d s1 ⟨H1,I1,q1⟩=>?_)
 cases d with
 | true=>exact ha pins s1 σ H1 D I1 q1
 | false=>exact hb pins s1 σ H1 D I1 q1
def z3l:TS:=λ _ _ _=>False
theorem zub:PS X st z3l:=λ _ _ _ _ _ _ h=>h.elim
end
abbrev TG:=V->St->Hp->(St->Hp->Prop)->Prop
abbrev TGs:=List V->St->Hp->(St->Hp->Prop)->Prop
def PG (X:Cx) (target:Expr) (t:TG):Prop :=
 ∀ (pins:List (Addr×Obj)) (s:Shared) (σ:St) (H:Hp) (v:V) (u:Value) (Q:St->Hp->Prop),Inv X pins σ H s->zbe v u->t v σ H Q →
  wpAny (model X.prog X.w) X.A (assign target X.env u) (λ _ s'=>∃ σ' H',Inv X pins σ' H' s'/\Q σ' H') X.xe s
def PGs (X:Cx) (ts:List Expr) (t:TGs):Prop :=
 ∀ (pins:List (Addr×Obj)) (s:Shared) (σ:St) (H:Hp) (vs:List V) (us:List Value) (Q:St->Hp->Prop),Inv X pins σ H s->zbj vs us->t vs σ H Q →
  wpAny (model X.prog X.w) X.A (assignInOrder ((assignEach ts X.env).map (·.2)) us) (λ _ s'=>∃ σ' H',Inv X pins σ' H' s'/\Q σ' H') X.xe s
abbrev z8r:=V->V->V->Hp->(Hp->Prop)->Prop
def ybk (X:Cx) (t:z8r):Prop :=
 ∀ (pins:List (Addr×Obj)) (s:Shared) (σ:St) (H:Hp) (o i v:V) (ov iv u:Value) (Q:Hp->Prop),Inv X pins σ H s->zbe o ov->zbe i iv->zbe v u->t o i v H Q →
  wpAny (model X.prog X.w) X.A (setItem ov iv u) (λ _ s'=>∃ H',Inv X pins σ H' s'/\Q H') X.xe s
section
variable {X:Cx}{pos:Pos}
def zuc (i:Nat):TG:=λ v σ H Q=>Q (σ.set i (some v)) H
theorem zy5 {i:Nat}{x:Str} (hN:X.N.Nodup) (hi:X.N[i]?=some x) (hx:Loc X.env.scope x) (hf:X.fn x=true\/X.env.scope.names.lookup x=some .local:=by first|exact .inl rfl|exact .inr rfl|assumption):PG X (.Name x pos) (zuc i):=by
 intro pins s σ H v u Q I r h
 exact wpAny_assign_Name (zm0 I hN hi hx r (λ s' I'=>⟨_,H,I',h⟩) hf)
def yb8:TGs:=λ vs σ H Q=>vs=[]/\Q σ H
def z8s (t:TG) (u:TGs):TGs:=λ vs σ H Q=>∃ v r,vs=v::r/\t v σ H λ σ' H'=>u r σ' H' Q
theorem zy6:PGs X [] yb8:=by
 intro pins s σ H vs us Q I r h
 obtain ⟨e,h⟩:=h
 subst e
 cases r
 exact assignInOrder_nil ⟨σ,H,I,h⟩
theorem zud {e:Expr}{es:List Expr}{t:TG}{u:TGs} (h1:PG X e t) (h2:PGs X es u)
  (hs:(assignEach (e::es) X.env).map (·.2)=assign e X.env::(assignEach es X.env).map (·.2):=by rfl):PGs X (e::es) (z8s t u):=by
 intro pins s σ H vs us Q I r h
 obtain ⟨v,vr,e1,h⟩:=h
 subst e1
 cases r with
 | cons r rr =>
  rw[hs]
  refine assignInOrder_cons (thn (h1 pins s σ H _ _ _ I r h) λ _ s1 ⟨σ1,H1,I1,q1⟩=>?_)
  exact h2 pins s1 σ1 H1 _ _ Q I1 rr q1
def yb9 (K:PySem.W.Frag) (n:Nat) (t:TGs):TG:=λ v σ H Q=>∃ a xs,v=.ref a/\SqT K H a xs/\xs.length=n/\t xs σ H Q
theorem z3m {es:List Expr}{k:Nat}{t:TGs}{n:Nat} (hc:X.calm=true) (h:PGs X es t)
  (hn:(assignEach es X.env).length=n:=by rfl) (hst:(assignEach es X.env).findIdx? (·.1)=none:=by rfl):PG X (.Tuple es k pos) (yb9 X.K n t):=by
 intro pins s σ H v u Q I r hw
 obtain ⟨a,xs,e1,hq,hl,hw⟩:=hw
 subst e1
 cases r
 obtain ⟨its,rv,ht,hz⟩:=I.tuple hq
 refine assign_Tuple_tuple (I.ok.hd hc) ht (by simp[hn,<-hl,rv.length]) hst λ h' hx=>?_
 have I1:Inv X pins σ H { s with heap:=h' }:=I.kept (t':=s.toks) λ b o e=>hx b o (Nat.ne_of_lt (Heap.lt_size e)) e
 exact h pins _ σ H xs _ Q I1 (by simpa using rv) hw
def yca (to ti:TE) (t:z8r):TG:=λ v σ H Q=>to σ H λ o H1=>ti σ H1 λ i H2=>t o i v H2 λ H3=>Q σ H3
theorem z3n {o i:Expr}{to ti:TE}{t:z8r} (ho:PE X o to) (hi:PE X i ti) (hs:ybk X t)
  (ha:∀ v,assign (.Subscript o i pos) X.env v=(do
   let ov ← holding [v] (eval o X.env)
   let iv ← holding [v,ov] (eval i X.env)
   standAt pos
   holding [v,ov,iv] (setItem ov iv v)
   release [v,ov,iv] []):=by intro _;rfl):PG X (.Subscript o i pos) (yca to ti t):=by
 intro pins s σ H v u Q I r h
 rw[ha]
 refine wpAny_bind (wpAny_holding (thn (ho pins s σ H _ I h) λ ov s1 ⟨x,H1,I1,r1,q1⟩=>?_))
 refine wpAny_bind (wpAny_holding (thn (hi pins s1 σ H1 _ I1 q1) λ iv s2 ⟨y,H2,I2,r2,q2⟩=>?_))
 refine wpAny_bind (wpAny_standAt (wpAny_bind (wpAny_holding (thn (hs pins s2 σ H2 x y v ov iv u _ I2 r1 r2 r q2) λ _ s3 ⟨H3,I3,q3⟩=>?_))))
 exact wpAny_release ⟨σ,H3,I3,q3⟩
def z8t (te:TE) (g:TG):TS:=λ D σ H=>te σ H λ x H1=>g x σ H1 D.nx
theorem zpp {tg e:Expr}{te:TE}{g:TG} (he:PE X e te) (hg:PG X tg g) (hs:swapsWithSole [tg] e pos.line X.env=pure false:=by rfl) (hw:swappedStores [tg] e X.env=pure none:=by rfl)
  (h1:(assignEach [tg] X.env).map (·.2)=[assign tg X.env]:=by rfl):PS X (.Assign [tg] e pos) (z8t te g):=by
 intro pins s σ H D I h
 refine wpAny_Assign_stores (thn (he pins s σ H _ I h) λ v s1 ⟨x,H1,I1,r1,q1⟩=>?_) hs hw
 rw[h1]
 exact thn (hg pins s1 σ H1 x v _ I1 r1 q1) λ _ s2 q=>q
theorem zdr {i:Nat}{x:Str}{e:Expr}{te:TE}{pos':Pos} (hN:X.N.Nodup) (hi:X.N[i]?=some x) (hx:Loc X.env.scope x) (he:PE X e te) (hs:swapsWith e (some (.Name x pos')) pos.line X.env=pure false:=by rfl) (hf:X.fn x=true\/X.env.scope.names.lookup x=some .local:=by first|exact .inl rfl|exact .inr rfl|assumption) :
  PS X (.Assign [.Name x pos'] e pos) (z8t te (zuc i)):=by
 intro pins s σ H D I h
 refine wpAny_Assign_Name (thn (he pins s σ H _ I h) λ v s1 ⟨y,H1,I1,r1,q1⟩=>?_) hs
 exact zm0 I1 hN hi hx r1 (λ s2 I2=>⟨_,H1,I2,q1⟩) hf
end
section
variable {X:Cx}{pos:Pos}
def z3o (c:TT) (tb:TS):TS:=λ D σ H=>∃ W:Nat->St->Hp->Prop,(∃ m,W m σ H)/\∀ m σ H,W m σ H →
 c σ H λ b H1=>if b=true then ∃ N:St->Hp->Prop,(∀ σ' H',N σ' H'->∃ m',m'<m/\W m' σ' H')/\tb { D with nx:=N,ct:=N,bk:=D.nx } σ H1 else D.nx σ H1
theorem zue {c:Expr}{body:List Stmt}{tc:TT}{tb:TS} (hp:PassesOwn (model X.prog X.w) X.A X.env X.xe) (hc:PT X c tc) (hb:PSs X body tb):PS X (.While c body [] pos) (z3o tc tb):=by
 intro pins s σ H D I h
 obtain ⟨W,⟨m0,w0⟩,turn⟩:=h
 refine wpAny_While (codeAny_whileLoop (λ n s'=>∃ σ' H',Inv X pins σ' H' s'/\W n σ' H') ?_ m0 ⟨σ,H,I,w0⟩)
 rintro n s1 ⟨σ1,H1,I1,w1⟩
 refine wpAny_passesOwn hp (thn (hc pins s1 σ1 H1 _ I1 (turn n σ1 H1 w1)) λ b s2 ⟨H2,I2,q2⟩=>?_)
 cases b with
 | true =>
  obtain ⟨N,hN,q2⟩:=q2
  rw[if_pos rfl]
  refine wpAny_passesOwn hp (thn (hb pins s2 σ1 H2 _ I2 q2) λ f s3 q3=>?_)
  cases f with
  | next =>
   obtain ⟨σ3,H3,I3,n3⟩:=q3
   obtain ⟨m',hm,w3⟩:=hN σ3 H3 n3
   exact⟨m',hm,σ3,H3,I3,w3⟩
  | cont =>
   obtain ⟨σ3,H3,I3,n3⟩:=q3
   obtain ⟨m',hm,w3⟩:=hN σ3 H3 n3
   exact⟨m',hm,σ3,H3,I3,w3⟩
  | brk=>exact q3
  | ret v=>exact q3
 | false =>
  rw[if_neg Bool.false_ne_true]
  exact wpAny_execs_nil ⟨σ1,H2,I2,q2⟩
end
structure It where
 go:Nat->Hp->Prop
 yld:Nat->Hp->V->Hp->Prop
 stop:Nat->Hp->Prop
def zt1 (X:Cx) (pins:List (Addr×Obj)) (H:Hp) (b:Addr):Prop :=
 H b=none/\b≠X.env.locals/\b ∉ X.fs/\(b∈X.ex\/X.s₀.heap.objs.size<=b)/\(∀ x c,X.env.cells.lookup x=some c->c≠b)/\∀ p∈X.pn++pins,p.1≠b
theorem Inv.fpOk {X:Cx}{pins:List (Addr×Obj)}{σ:St}{H H':Hp}{s:Shared}{b:Addr} (I:Inv X pins σ H s) (hb:s.heap.objs.size<=b) (hn:H' b=none):zt1 X pins H' b:=by
 refine⟨hn,Nat.ne_of_gt (Nat.lt_of_lt_of_le I.lt hb),I.nofs hb,.inr (Nat.le_trans I.sz hb),λ x c e z=>?_,λ p hp z=>?_⟩
 ·obtain ⟨v,q⟩:=I.cell x c e
  exact absurd (Nat.lt_of_lt_of_le q.lt (by rw[z];exact hb)) (Nat.lt_irrefl _)
 ·exact absurd (Nat.lt_of_lt_of_le (Heap.lt_size (I.pin p hp).1) (by rw[z];exact hb)) (Nat.lt_irrefl _)
structure Turn (P:Program) (w:World) (K:PySem.W.Frag) (tg:Expr) (J:It) (fp:List Addr) (it:Addr) (tn:Nat->Heap->Prop):Prop where
 mem:it∈fp
 obj:∀ i h,tn i h->∀ b∈fp,∃ o,h.get? b=some o/\∀ v,o.data≠.cell v
 keep:∀ i h h',tn i h->(∀ b∈fp,∀ o,h.get? b=some o->h'.get? b=some o)->tn i h'
 item:∀ (X:Cx),X.prog=P->X.w=w->X.K=K->X.calm=true->∀ (i:Nat) (pins:List (Addr×Obj)) (s:Shared) (σ:St) (H:Hp) (E:Value->Shared->Prop),Inv X pins σ H s->(∀ b∈fp,zt1 X pins H b)->tn i s.heap->J.go i H →
  wpAny (model P w) X.A (pyNext (.ref it)) (λ r s1=>∃ u,r=some u ∧
   wpAny (model P w) X.A (letOwnedTupleGo tg (.ref it) u) (λ _ s2=>∃ x H',Inv X pins σ H' s2/\zbe x u/\J.yld i H x H'/\tn (i+1) s2.heap/\∀ b∈fp,H' b=none) E s1) E s
 done:∀ (X:Cx),X.prog=P->X.w=w->X.K=K->X.calm=true->∀ (i:Nat) (pins:List (Addr×Obj)) (s:Shared) (σ:St) (H:Hp) (E:Value->Shared->Prop),Inv X pins σ H s->(∀ b∈fp,zt1 X pins H b)->tn i s.heap->J.stop i H →
  wpAny (model P w) X.A (pyNext (.ref it)) (λ r s1=>r=none/\Inv X pins σ H s1) E s
 self:∀ (A:Around) (i:Nat) (s:Shared) (Q:Value->Shared->Prop) (E:Value->Shared->Prop),tn i s.heap->Q (.ref it) s->wpAny (model P w) A (pyIter (.ref it)) Q E s
abbrev TI:=St->Hp->(It->Hp->Prop)->Prop
def PIE (X:Cx) (pins:List (Addr×Obj)) (σ:St) (tg:Expr) (R:It->Hp->Prop) (itv:Value) (s2:Shared):Prop :=
 ∃ (it:Addr) (fp:List Addr) (tn:Nat->Heap->Prop) (J:It) (H':Hp),itv=.ref it/\Inv X pins σ H' s2/\Turn X.prog X.w X.K tg J fp it tn/\tn 0 s2.heap/\(∀ b∈fp,zt1 X pins H' b)/\R J H'
def PI (X:Cx) (tg iter:Expr) (wi:TI):Prop :=
 ∀ (pins:List (Addr×Obj)) (s:Shared) (σ:St) (H:Hp) (R:It->Hp->Prop),Inv X pins σ H s->wi σ H R →
  wpAny (model X.prog X.w) X.A (eval iter X.env) (λ v s1=>wpAny (model X.prog X.w) X.A (pyIter v) (PIE X pins σ tg R) X.xe s1) X.xe s
theorem zpq {M:Model}{A:Around}{E:Value->Shared->Prop}{s:Shared}{tg:Expr}{it:Addr}{u:Value}{o:Obj}{n:String}{vs:Array Value}{Q:Unit->Shared->Prop} (ho:s.heap.get? it=some o) (hc:o.cls=.type n) (hd:o.data=.fields vs)
  (hn:["enumerate","zip","dict_itemiterator","dict_reverseitemiterator","odict_iterator","itertools.zip_longest","itertools.pairwise"].contains n=false) (hQ:Q () s):wpAny M A (letOwnedTupleGo tg (.ref it) u) Q E s:=by
 unfold letOwnedTupleGo
 cases tg <;> first
  | exact wpAny_pure hQ
  | (cases u <;> first
    | exact wpAny_pure hQ
    | (refine wpAny_bind (wpAny_load ho ?_)
       rw[hc,hd]
       show wpAny M A (if (["enumerate","zip","dict_itemiterator","dict_reverseitemiterator","odict_iterator","itertools.zip_longest","itertools.pairwise"].contains n && vs[0]? == some (rawInt _))=true then _ else _) Q E s
       rw[if_neg (by intro h;rw[hn,Bool.false_and] at h;cases h)]
       exact wpAny_pure hQ))
def Itl (K:PySem.W.Frag) (a:Addr):It :=
 ⟨λ i H=>∃ xs x,SqL K H a xs/\xs[i]?=some x,λ i H x H'=>H'=H/\∀ xs,SqL K H a xs->xs[i]?=some x,λ i H=>∃ xs,SqL K H a xs/\xs.length<=i⟩
def Itt (K:PySem.W.Frag) (a:Addr):It :=
 ⟨λ i H=>∃ xs x,SqT K H a xs/\xs[i]?=some x,λ i H x H'=>H'=H/\∀ xs,SqT K H a xs->xs[i]?=some x,λ i H=>∃ xs,SqT K H a xs/\xs.length<=i⟩
def Itr (lo:Int) (n:Nat):It:=⟨λ i _=>i<n,λ i H x H'=>H'=H/\x=.int (lo+i),λ i _=>n<=i⟩
theorem zpr {P:Program}{w:World}{K:PySem.W.Frag}{tg:Expr} (a it:Addr):Turn P w K tg (Itl K a) [it] it (λ i h=>h.IsListIter it a i) where
 mem:=by simp
 obj:=λ i h st b hb=>by
  have e:b=it:=by simpa using hb
  subst e
  obtain ⟨o,e,c,d⟩:=st
  exact⟨o,e,λ v z=>by rw[d] at z;cases z⟩
 keep:=λ i h h' st k=>st.at λ o e=>k it (by simp) o e
 item:=by
  intro X hP hw hK hc i pins s σ H E I hf st hg
  subst hP hw hK
  obtain ⟨xs,x,hq,hx⟩:=hg
  obtain ⟨its,rv,p,hz⟩:=I.list hq
  obtain ⟨u,hu,ru⟩:=rv.get hx
  obtain ⟨f0,f1,f2,f3,f4,f5⟩:=hf it (by simp)
  refine wpAny_pyNext_list_item st p.isList (x:=u) (by simpa using hu) λ h' st' sb=>?_
  have I1:Inv X pins σ H { s with heap:=h' }:=I.turned (t':=s.toks) (λ b o hb e=>(sb.2 b hb).trans e) f0 f1 f3 f4 f5
  obtain ⟨o,e,c,d⟩:=id st'
  exact⟨u,rfl,zpq (s:={ s with heap:=h' }) e c d (by decide) ⟨x,H,I1,ru,⟨rfl,λ ys hy=>by rw[I.list_inj hy hq];exact hx⟩,st',λ b hb=>(hf b hb).1⟩⟩
 done:=by
  intro X hP hw hK hc i pins s σ H E I hf st hg
  subst hP hw hK
  obtain ⟨xs,hq,hx⟩:=hg
  obtain ⟨its,rv,p,hz⟩:=I.list hq
  obtain ⟨f0,f1,f2,f3,f4,f5⟩:=hf it (by simp)
  have hl:=rv.length
  exact wpAny_pyNext_list_end (I.ok.hd hc) st p.isList (by simp;omega) λ h' eb=>⟨rfl,I.turned (t':=s.toks) (λ b o hb e=>eb b o hb e) f0 f1 f3 f4 f5⟩
 self:=λ _ _ _ _ _ st h=>wpAny_pyIter_listiter st h
theorem zoe {P:Program}{w:World}{K:PySem.W.Frag}{tg:Expr} (a it:Addr):Turn P w K tg (Itt K a) [it] it (λ i h=>h.IsTupleIter it a i) where
 mem:=by simp
 obj:=λ i h st b hb=>by
  have e:b=it:=by simpa using hb
  subst e
  obtain ⟨o,e,c,d⟩:=st
  exact⟨o,e,λ v z=>by rw[d] at z;cases z⟩
 keep:=λ i h h' st k=>st.at λ o e=>k it (by simp) o e
 item:=by
  intro X hP hw hK hc i pins s σ H E I hf st hg
  subst hP hw hK
  obtain ⟨xs,x,hq,hx⟩:=hg
  obtain ⟨its,rv,p,hz⟩:=I.tuple hq
  obtain ⟨u,hu,ru⟩:=rv.get hx
  obtain ⟨f0,f1,f2,f3,f4,f5⟩:=hf it (by simp)
  refine wpAny_pyNext_tuple_item st (show s.heap.IsTuple a its.toArray from p) (x:=u) (by simpa using hu) λ h' st' sb=>?_
  have I1:Inv X pins σ H { s with heap:=h' }:=I.turned (t':=s.toks) (λ b o hb e=>(sb.2 b hb).trans e) f0 f1 f3 f4 f5
  obtain ⟨o,e,c,d⟩:=id st'
  exact⟨u,rfl,zpq (s:={ s with heap:=h' }) e c d (by decide) ⟨x,H,I1,ru,⟨rfl,λ ys hy=>by rw[I.tuple_inj hy hq];exact hx⟩,st',λ b hb=>(hf b hb).1⟩⟩
 done:=by
  intro X hP hw hK hc i pins s σ H E I hf st hg
  subst hP hw hK
  obtain ⟨xs,hq,hx⟩:=hg
  obtain ⟨its,rv,p,hz⟩:=I.tuple hq
  obtain ⟨f0,f1,f2,f3,f4,f5⟩:=hf it (by simp)
  have hl:=rv.length
  exact wpAny_pyNext_tuple_end (I.ok.hd hc) st (show s.heap.IsTuple a its.toArray from p) (by simp;omega) λ h' eb=>⟨rfl,I.turned (t':=s.toks) (λ b o hb e=>eb b o hb e) f0 f1 f3 f4 f5⟩
 self:=λ _ _ _ _ _ st h=>wpAny_pyIter_tupleiter st h
theorem zof {P:Program}{w:World}{K:PySem.W.Frag}{tg:Expr} (it:Addr) (lo:Int) (n:Nat):Turn P w K tg (Itr lo n) [it] it (λ i h=>IsRangeIter h it (lo+(i:Nat) * 1) ((n:Int) - (i:Nat)) 1) where
 mem:=by simp
 obj:=λ i h st b hb=>by
  have e:b=it:=by simpa using hb
  subst e
  exact⟨_,st,λ v z=>by
   have z':Data.fields _=Data.cell v:=z
   cases z'⟩
 keep:=λ i h h' st k=>k it (by simp) _ st
 item:=by
  intro X hP hw hK hc i pins s σ H E I hf st hg
  subst hP hw hK
  obtain ⟨f0,f1,f2,f3,f4,f5⟩:=hf it (by simp)
  have W:=Walks.range (prog:=X.prog) (w:=X.w) (I.ok.hd hc) it lo 1 n
  refine W.item i s _ _ hg st λ v h' tk hv st' kk=>?_
  obtain ⟨t,rfl⟩:=hv
  have I1:Inv X pins σ H { s with heap:=h',toks:=tk }:=I.turned (λ b o hb e=>kk b o (by simpa using hb) e) f0 f1 f3 f4 f5
  refine⟨_,rfl,zpq (s:={ s with heap:=h',toks:=tk }) (n:="range_iterator") st' rfl rfl (by decide) ⟨.int (lo+i),H,I1,⟨t,?_⟩,⟨rfl,rfl⟩,st',λ b hb=>(hf b hb).1⟩⟩
  rw[Int.mul_one]
 done:=by
  intro X hP hw hK hc i pins s σ H E I hf st hg
  subst hP hw hK
  obtain ⟨f0,f1,f2,f3,f4,f5⟩:=hf it (by simp)
  exact wpAny_pyNext_range_end (I.ok.hd hc) st (by have:n<=i:=hg;omega) λ h' eb=>⟨rfl,I.turned (t':=s.toks) (λ b o hb e=>eb b o hb e) f0 f1 f3 f4 f5⟩
 self:=λ _ _ _ _ _ st h=>wpAny_pyIter_rangeiter st h
section
variable {X:Cx}{tg:Expr}
theorem zm1 {pins:List (Addr×Obj)}{σ:St}{H:Hp}{s:Shared}{R:It->Hp->Prop}{E:Value->Shared->Prop}{lo hi:Int}{t u v:Tok}{tk:Nat} (I:Inv X pins σ H s) (h1:-(2 ^ 62)<=lo) (h2:lo<2 ^ 62) (h3:-(2 ^ 62)<=hi) (h4:hi<2 ^ 62)
  (q:R (Itr lo (hi - lo).toNat) H):wpAny (model X.prog X.w) X.A (pyIter (.ref s.heap.objs.size)) (PIE X pins σ tg R) E { s with heap:=s.heap.push { cls:=.type "range",data:=.fields #[.int lo t,.int hi u,.int 1 v] },toks:=tk }:=by
 refine wpAny_pyIter_range (IsRange.new ..) (small_one h1 h2 h3 h4) ?_
 have I1:Inv X pins σ H { s with heap:=s.heap.push { cls:=.type "range",data:=.fields #[.int lo t,.int hi u,.int 1 v] },toks:=tk }:=I.kept λ b o e=>Heap.get?_push_of_some _ e
 refine⟨(s.heap.push { cls:=.type "range",data:=.fields #[.int lo t,.int hi u,.int 1 v] }).objs.size,[(s.heap.push { cls:=.type "range",data:=.fields #[.int lo t,.int hi u,.int 1 v] }).objs.size],_,_,H,rfl,
  I1.kept (t':=tk) λ b o e=>Heap.get?_push_of_some _ e,zof _ lo (hi - lo).toNat,?_,λ b hb=>?_,q⟩
 ·have e1:lo+((0:Nat):Int) * 1=lo:=by simp
  have e2:(((hi - lo).toNat:Nat):Int) - ((0:Nat):Int)=Builtin.Range.rangeSize lo hi 1:=by rw[rangeSize_one];split <;> omega
  show IsRangeIter _ _ (lo+((0:Nat):Int) * 1) ((((hi - lo).toNat:Nat):Int) - ((0:Nat):Int)) 1
  rw[e1,e2]
  exact Heap.get?_push_size _ rfl
 ·have e:b=(s.heap.push { cls:=.type "range",data:=.fields #[.int lo t,.int hi u,.int 1 v] }).objs.size:=by simpa using hb
  subst e
  exact I1.fpOk (Nat.le_refl _) (I1.hok.fresh (Nat.le_refl _))
def ycb (wi:TI) (g:TG) (tb:TS):TS:=λ D σ H=>wi σ H λ J H1=>∃ W:Nat->Nat->St->Hp->Prop,(∃ m,W 0 m σ H1)/\∀ i m σ H,W i m σ H →
 (J.stop i H/\D.nx σ H)\/(J.go i H/\∃ N:St->Hp->Prop,(∀ σ' H',N σ' H'->∃ m',m'<m/\W (i+1) m' σ' H')/\∀ x H',J.yld i H x H'->g x σ H' λ σ2 H2=>tb { D with nx:=N,ct:=N,bk:=D.nx } σ2 H2)
def zj3 (fp:List Addr) (h:Heap):List (Addr×Obj):=fp.filterMap λ b=>(h.get? b).map λ o=>(b,o)
theorem zd3 {fp:List Addr}{h:Heap}{b:Addr}{o:Obj} (hb:b∈fp) (e:h.get? b=some o):(b,o)∈zj3 fp h:=List.mem_filterMap.mpr ⟨b,hb,by rw[e];rfl⟩
theorem zps {fp:List Addr}{h:Heap}{p:Addr×Obj} (hp:p∈zj3 fp h):p.1∈fp/\h.get? p.1=some p.2:=by
 obtain ⟨b,hb,e⟩:=List.mem_filterMap.mp hp
 cases q:h.get? b with
 | none=>rw[q] at e;cases e
 | some o =>
  rw[q] at e
  have e':(b,o)=p:=Option.some.inj e
  subst e'
  exact⟨hb,q⟩
theorem Inv.pinned {pins:List (Addr×Obj)}{σ:St}{H:Hp}{s:Shared}{fp:List Addr} (I:Inv X pins σ H s) (hf:∀ b∈fp,zt1 X pins H b) (ho:∀ b∈fp,∃ o,s.heap.get? b=some o/\∀ v,o.data≠.cell v):Inv X (pins++zj3 fp s.heap) σ H s :=
 I.pins_of λ p hp=>(List.mem_append.mp hp).elim (λ z=>I.pin p (List.mem_append_right _ z)) λ z=>by
  obtain ⟨hb,e⟩:=zps z
  obtain ⟨f0,f1,f2,_⟩:=hf p.1 hb
  obtain ⟨o,e',d⟩:=ho p.1 hb
  rw[e] at e';cases e'
  exact⟨e,f0,f1,f2,d⟩
theorem Inv.unpinned {pins pl:List (Addr×Obj)}{σ:St}{H:Hp}{s:Shared} (I:Inv X (pins++pl) σ H s):Inv X pins σ H s:=I.pins_of λ p hp=>I.pin p (List.mem_append_right _ (List.mem_append_left _ hp))
theorem zm2 {iter:Expr}{body:List Stmt}{wi:TI}{g:TG}{tb:TS}{pos:Pos} (hp:PassesOwn (model X.prog X.w) X.A X.env X.xe) (hc:X.calm=true) (hi:PI X tg iter wi) (hg:PG X tg g) (hb:PSs X body tb)
  (hs:∀ x,foldedSetIterable iter X.env x=pure x:=by intro _;rfl):PS X (.For tg iter body [] pos) (ycb wi g tb):=by
 intro pins s σ H D I h
 refine wpAny_For (thn (hi pins s σ H _ I h) λ v s1 h1=>thn h1 λ itv s2 h2=>?_) hs
 obtain ⟨it,fp,tn,J,H2,e,I2,T,st2,f2,W,⟨m0,w0⟩,turn⟩:=h2
 subst e
 have stat:∀ {H':Hp},(∀ b∈fp,H' b=none)->∀ b∈fp,zt1 X pins H' b:=λ hn b hb=>⟨hn b hb,(f2 b hb).2⟩
 refine codeAny_forLoop_any (λ n s'=>∃ i σ' H',Inv X pins σ' H' s'/\tn i s'.heap/\(∀ b∈fp,H' b=none)/\W i n σ' H') ?_ m0 ⟨0,σ,H2,I2,st2,λ b hb=>(f2 b hb).1,w0⟩
 rintro n s3 ⟨i,σ3,H3,I3,st3,fr3,w3⟩
 rcases turn i n σ3 H3 w3 with ⟨stop,qn⟩|⟨go,N,hN,step⟩
 ·refine wpAny_passesOwn hp (thn (T.done X rfl rfl rfl hc i pins s3 σ3 H3 X.xe I3 (stat fr3) st3 stop) λ r s4 ⟨hr,I4⟩=>?_)
  subst hr
  exact wpAny_execs_nil ⟨σ3,H3,I4,qn⟩
 ·refine wpAny_passesOwn hp (thn (T.item X rfl rfl rfl hc i pins s3 σ3 H3 X.xe I3 (stat fr3) st3 go) λ r s4 ⟨u,hr,h4⟩=>?_)
  subst hr
  refine wpAny_passesOwn hp (thn h4 λ _ s5 ⟨x,H5,I5,r5,y5,st5,fr5⟩=>?_)
  have I5':=I5.pinned (stat fr5) (T.obj _ _ st5)
  refine wpAny_passesOwn hp (thn (hg _ s5 σ3 H5 x u _ I5' r5 (step x H5 y5)) λ _ s6 ⟨σ6,H6,I6,q6⟩=>?_)
  refine wpAny_passesOwn hp (thn (hb _ s6 σ6 H6 _ I6 q6) λ f s7 q7=>?_)
  have again:∀ {σ7:St} {H7:Hp},Inv X (pins++zj3 fp s5.heap) σ7 H7 s7->N σ7 H7->∃ m,m<n/\∃ i σ' H',Inv X pins σ' H' s7/\tn i s7.heap/\(∀ b∈fp,H' b=none)/\W i m σ' H':=λ {σ7 H7} I7 n7=>by
   obtain ⟨m',hm,w7⟩:=hN σ7 H7 n7
   refine⟨m',hm,i+1,σ7,H7,I7.unpinned,T.keep _ _ _ st5 λ b hb o e=>(I7.pin (b,o) (List.mem_append_right _ (List.mem_append_right _ (zd3 hb e)))).1,λ b hb=>?_,w7⟩
   obtain ⟨o,e,d⟩:=T.obj _ _ st5 b hb
   exact (I7.pin (b,o) (List.mem_append_right _ (List.mem_append_right _ (zd3 hb e)))).2.1
  cases f with
  | next=>obtain ⟨σ7,H7,I7,n7⟩:=q7;exact again I7 n7
  | cont=>obtain ⟨σ7,H7,I7,n7⟩:=q7;exact again I7 n7
  | brk=>obtain ⟨σ7,H7,I7,q7⟩:=q7;exact⟨σ7,H7,I7.unpinned,q7⟩
  | ret v=>obtain ⟨x7,σ7,H7,I7,r7,q7⟩:=q7;exact⟨x7,σ7,H7,I7.unpinned,r7,q7⟩
end
abbrev R2:=V->V->Hp->VK->Prop
def OpR (X:Cx) (f:Value->Value->Sem Value) (r:R2):Prop :=
 ∀ (pins:List (Addr×Obj)) (s:Shared) (σ:St) (H:Hp) (x y:V) (v u:Value) (Q:VK),Inv X pins σ H s->zbe x v->zbe y u->r x y H Q →
  wpAny (model X.prog X.w) X.A (f v u) (EP X pins σ Q) X.xe s
def UnR (X:Cx) (f:Value->Sem Value) (r:V->Hp->VK->Prop):Prop :=
 ∀ (pins:List (Addr×Obj)) (s:Shared) (σ:St) (H:Hp) (x:V) (v:Value) (Q:VK),Inv X pins σ H s->zbe x v->r x H Q →
  wpAny (model X.prog X.w) X.A (f v) (EP X pins σ Q) X.xe s
def zcn (X:Cx) (f:Value) (r:List V->Hp->VK->Prop):Prop :=
 ∀ (pins:List (Addr×Obj)) (s:Shared) (σ:St) (H:Hp) (xs:List V) (us:List Value) (Q:VK),Inv X pins σ H s->zbj xs us->r xs H Q →
  wpAny (model X.prog X.w) X.A (call f us) (EP X pins σ Q) X.xe s
def tOp (r:R2) (ta tb:TE):TE:=λ σ H Q=>ta σ H λ x H1=>tb σ H1 λ y H2=>r x y H2 Q
def tUn (r:V->Hp->VK->Prop) (ta:TE):TE:=λ σ H Q=>ta σ H λ x H1=>r x H1 Q
def rI (C:Int->Int->Prop) (g:Int->Int->V):R2:=λ x y H Q=>∃ i j,x=.int i/\y=.int j/\C i j/\Q (g i j) H
def rI0 (g:Int->Int->V):R2:=λ x y H Q=>∃ i j,x=.int i/\y=.int j/\Q (g i j) H
def rU (g:Int->V):V->Hp->VK->Prop:=λ x H Q=>∃ i,x=.int i/\Q (g i) H
section
variable {X:Cx}{a b c:Expr}{ta tb tc:TE}{pos:Pos}
theorem z70 (ha:PE X a ta) (hb:PE X b tb) {pins:List (Addr×Obj)}{s:Shared}{σ:St}{H:Hp}{R:V->V->Hp->Prop} (I:Inv X pins σ H s)
  (h:ta σ H λ x H1=>tb σ H1 λ y H2=>R x y H2) {Q:Value->Shared->Prop} {f:Value->Value->Sem Value}
  (hf:∀ v u s2 x y H2,Inv X pins σ H2 s2->zbe x v->zbe y u->R x y H2->wpAny (model X.prog X.w) X.A (f v u) Q X.xe s2) :
  wpAny (model X.prog X.w) X.A (eval a X.env) (λ v s₁=>wpAny (model X.prog X.w) X.A (eval b X.env) (λ u s₂=>wpAny (model X.prog X.w) X.A (f v u) Q X.xe s₂) X.xe s₁) X.xe s:=by
 refine thn (ha pins s σ H _ I h) λ v s1 ⟨x,H1,I1,r1,q1⟩=>?_
 refine thn (hb pins s1 σ H1 _ I1 q1) λ u s2 ⟨y,H2,I2,r2,q2⟩=>?_
 exact hf v u s2 x y H2 I2 r1 r2 q2
theorem z8u {op:Operator}{r:R2} (ho:OpR X (binaryOp op) r) (ha:PE X a ta) (hb:PE X b tb):PE X (.BinOp a op b pos) (tOp r ta tb):=by
 intro pins s σ H Q I h
 exact wpAny_BinOp (z70 ha hb I h λ v u s2 x y H2 I2 rx ry q=>ho pins s2 σ H2 x y v u Q I2 rx ry q)
theorem z8v {op:UnaryOp}{r:V->Hp->VK->Prop} (ho:UnR X (unaryOp op) r) (ha:PE X a ta):PE X (.UnaryOp op a pos) (tUn r ta):=by
 intro pins s σ H Q I h
 exact UnaryOp_ (thn (ha pins s σ H _ I h) λ v s1 ⟨x,H1,I1,r1,q1⟩=>ho pins s1 σ H1 x v Q I1 r1 q1)
theorem opI {f:Value->Value->Sem Value}{C:Int->Int->Prop}{g:Int->Int->Int}
  (rule:∀ (i j:Int) (t u:Tok) (s:Shared) (Q:Value->Shared->Prop) (E:Value->Shared->Prop),C i j->Q (.int (g i j) s.toks) { s with toks:=s.toks+1 }->wpAny (model X.prog X.w) X.A (f (.int i t) (.int j u)) Q E s) :
  OpR X f (rI C λ i j=>.int (g i j)):=by
 intro pins s σ H x y v u Q I rx ry h
 obtain ⟨i,j,rfl,rfl,hc,q⟩:=h
 obtain ⟨t,rfl⟩:=rx
 obtain ⟨t',rfl⟩:=ry
 exact rule i j t t' s _ _ hc ⟨.int (g i j),H,I.tok _,⟨_,rfl⟩,q⟩
theorem ycc {f:Value->Value->Sem Value}{g:Int->Int->Int}
  (rule:∀ (i j:Int) (t u:Tok) (s:Shared) (Q:Value->Shared->Prop) (E:Value->Shared->Prop),Q (.int (g i j) s.toks) { s with toks:=s.toks+1 }->wpAny (model X.prog X.w) X.A (f (.int i t) (.int j u)) Q E s) :
  OpR X f (rI0 λ i j=>.int (g i j)):=by
 intro pins s σ H x y v u Q I rx ry h
 obtain ⟨i,j,rfl,rfl,q⟩:=h
 obtain ⟨t,rfl⟩:=rx
 obtain ⟨t',rfl⟩:=ry
 exact rule i j t t' s _ _ ⟨.int (g i j),H,I.tok _,⟨_,rfl⟩,q⟩
theorem z71 {f:Value->Value->Sem Value}{g:Int->Int->Bool}
  (rule:∀ (i j:Int) (t u:Tok) (s:Shared) (Q:Value->Shared->Prop) (E:Value->Shared->Prop),Q (.bool (g i j)) s->wpAny (model X.prog X.w) X.A (f (.int i t) (.int j u)) Q E s) :
  OpR X f (rI0 λ i j=>.bl (g i j)):=by
 intro pins s σ H x y v u Q I rx ry h
 obtain ⟨i,j,rfl,rfl,q⟩:=h
 obtain ⟨t,rfl⟩:=rx
 obtain ⟨t',rfl⟩:=ry
 exact rule i j t t' s _ _ ⟨.bl (g i j),H,I,rfl,q⟩
def z8w (i j:Int):Prop:=0<j/\j<1073741824
def z72 (i j:Int):Prop:=(-(2 ^ 64)<i/\i<2 ^ 64)\/(-(2 ^ 64)<j/\j<2 ^ 64)
theorem z72.ok {i j:Int} (h:z72 i j):IntMulOk i j:=by
 rcases h with ⟨h1,h2⟩|⟨h1,h2⟩
 ·exact .of_left (intBits_le_64 h1 h2)
 ·exact .of_right (intBits_le_64 h1 h2)
theorem z3p:OpR X (binaryOp .Add) (rI0 λ i j=>.int (i+j)):=ycc λ _ _ _ _ _ _ _ q=>add_int q
theorem zy7:OpR X (binaryOp .FloorDiv) (rI z8w λ i j=>.int (i / j)):=opI λ i j _ _ _ _ _ hc q=>by
 have h1:(0:Int)<j:=hc.1
 have h2:j<1073741824:=hc.2
 exact floordiv_int (by omega) (by rw[Int.fdiv_eq_ediv_of_nonneg i (by omega)];exact q) (.inl (PyProof.noPylong_small (by omega)))
theorem z3q:OpR X (binaryOp .Mod) (rI (λ _ j=>0<j) λ i j=>.int (i % j)):=opI λ i j _ _ _ _ _ hc q=>by
 have h1:(0:Int)<j:=hc
 exact mod_int' (by omega) (by rw[Int.fmod_eq_emod_of_nonneg i (by omega)];exact q)
theorem unI {f:Value->Sem Value}{g:Int->Int}
  (rule:∀ (i:Int) (t:Tok) (s:Shared) (Q:Value->Shared->Prop) (E:Value->Shared->Prop),Q (.int (g i) s.toks) { s with toks:=s.toks+1 }->wpAny (model X.prog X.w) X.A (f (.int i t)) Q E s) :
  UnR X f (rU λ i=>.int (g i)):=by
 intro pins s σ H x v Q I rx h
 obtain ⟨i,rfl,q⟩:=h
 obtain ⟨t,rfl⟩:=rx
 exact rule i t s _ _ ⟨.int (g i),H,I.tok _,⟨_,rfl⟩,q⟩
theorem z3r:UnR X (unaryOp .USub) (rU λ i=>.int (-i)):=unI λ _ _ _ _ _ q=>neg_int q
end
def ybl:V->V->Bool
 | .non,.non=>true|.non,.int _=>true|.int _,.non=>true|.non,.bl _=>true|.bl _,.non=>true|.non,.str _=>true|.str _,.non=>true
 | .int _,.int _=>true|.bl _,.bl _=>true|.str _,.str _=>true|.byt _,.byt _=>true
 | .int _,.str _=>true|.str _,.int _=>true|.bl _,.str _=>true|.str _,.bl _=>true
 | _,_=>false
def rEq:R2:=λ x y H Q=>ybl x y=true/\Q (.bl (decide (x=y))) H
def rNe:R2:=λ x y H Q=>ybl x y=true/\Q (.bl (!decide (x=y))) H
theorem zpt {i j:Int}:decide (V.int i=V.int j)=(i == j):=by
 rw[Bool.eq_iff_iff]
 simp
theorem zw8 {i j:Bool}:decide (V.bl i=V.bl j)=(i == j):=by
 rw[Bool.eq_iff_iff]
 simp
theorem zpu {i j:Str}:decide (V.str i=V.str j)=(i == j):=by
 rw[Bool.eq_iff_iff]
 simp
theorem zpv {i j:Array UInt8}:decide (V.byt i=V.byt j)=(i.toList == j.toList):=by
 rw[Bool.eq_iff_iff]
 cases i
 cases j
 simp
section
variable {X:Cx}{a b c:Expr}{ta tb tc:TE}{pos:Pos}
theorem zax {pins:List (Addr×Obj)}{σ:St}{H:Hp}{s:Shared}{Q:VK}{k k':Bool} (I:Inv X pins σ H s) (q:Q (.bl k) H) (e:k=k'):EP X pins σ Q (.bool k') s:=by
 subst e
 exact⟨.bl k,H,I,rfl,q⟩
theorem z8x:OpR X (compareOp .Eq) rEq:=by
 intro pins s σ H x y v u Q I rx ry h
 obtain ⟨hs,q⟩:=h
 cases x with
 | non =>
  cases rx
  cases y with
  | non=>cases ry;exact PySem.EqNone.eq_none_none (zax I q (by simp))
  | bl j=>cases ry;exact PySem.EqNone.eq_none_bool (zax I q (by simp))
  | int j=>obtain ⟨t',rfl⟩:=ry;exact PySem.EqNone.eq_none_int (zax I q (by simp))
  | str j=>obtain ⟨t',rfl⟩:=ry;exact PySem.EqNone.eq_none_str (zax I q (by simp))
  | _=>exact absurd (show false=true from hs) Bool.false_ne_true
 | bl i =>
  cases rx
  cases y with
  | non=>cases ry;exact PySem.EqNone.eq_bool_none (zax I q (by simp))
  | bl j=>cases ry;exact eq_bool (zax I q zw8)
  | str j=>obtain ⟨t',rfl⟩:=ry;exact PySem.EqMixed.eq_bool_str (zax I q (by simp))
  | _=>exact absurd (show false=true from hs) Bool.false_ne_true
 | int i =>
  obtain ⟨t,rfl⟩:=rx
  cases y with
  | non=>cases ry;exact PySem.EqNone.eq_int_none (zax I q (by simp))
  | int j=>obtain ⟨t',rfl⟩:=ry;exact eq_int (zax I q zpt)
  | str j=>obtain ⟨t',rfl⟩:=ry;exact PySem.EqMixed.eq_int_str (zax I q (by simp))
  | _=>exact absurd (show false=true from hs) Bool.false_ne_true
 | str i =>
  obtain ⟨t,rfl⟩:=rx
  cases y with
  | non=>cases ry;exact PySem.EqNone.eq_str_none (zax I q (by simp))
  | bl j=>cases ry;exact PySem.EqMixed.eq_str_bool (zax I q (by simp))
  | int j=>obtain ⟨t',rfl⟩:=ry;exact PySem.EqMixed.eq_str_int (zax I q (by simp))
  | str j=>obtain ⟨t',rfl⟩:=ry;exact eq_str (zax I q zpu)
  | _=>exact absurd (show false=true from hs) Bool.false_ne_true
 | byt i =>
  obtain ⟨t,rfl⟩:=rx
  cases y with
  | byt j=>obtain ⟨t',rfl⟩:=ry;exact PySem.W.eq_bytes (zax I q zpv)
  | _=>exact absurd (show false=true from hs) Bool.false_ne_true
 | _=>cases y <;> exact absurd (show false=true from hs) Bool.false_ne_true
theorem z8y:OpR X (compareOp .NotEq) rNe:=by
 intro pins s σ H x y v u Q I rx ry h
 obtain ⟨hs,q⟩:=h
 cases x with
 | non =>
  cases rx
  cases y with
  | non=>cases ry;exact PySem.EqNone.ne_none_none (zax I q (by simp))
  | bl j=>cases ry;exact PySem.EqNone.ne_none_bool (zax I q (by simp))
  | int j=>obtain ⟨t',rfl⟩:=ry;exact PySem.EqNone.ne_none_int (zax I q (by simp))
  | str j=>obtain ⟨t',rfl⟩:=ry;exact PySem.EqNone.ne_none_str (zax I q (by simp))
  | _=>exact absurd (show false=true from hs) Bool.false_ne_true
 | bl i =>
  cases rx
  cases y with
  | non=>cases ry;exact PySem.EqNone.ne_bool_none (zax I q (by simp))
  | bl j=>cases ry;exact ne_bool (zax I q (congrArg not zw8))
  | str j=>obtain ⟨t',rfl⟩:=ry;exact PySem.EqMixed.ne_bool_str (zax I q (by simp))
  | _=>exact absurd (show false=true from hs) Bool.false_ne_true
 | int i =>
  obtain ⟨t,rfl⟩:=rx
  cases y with
  | non=>cases ry;exact PySem.EqNone.ne_int_none (zax I q (by simp))
  | int j=>obtain ⟨t',rfl⟩:=ry;exact ne_int (zax I q (congrArg not zpt))
  | str j=>obtain ⟨t',rfl⟩:=ry;exact PySem.EqMixed.ne_int_str (zax I q (by simp))
  | _=>exact absurd (show false=true from hs) Bool.false_ne_true
 | str i =>
  obtain ⟨t,rfl⟩:=rx
  cases y with
  | non=>cases ry;exact PySem.EqNone.ne_str_none (zax I q (by simp))
  | bl j=>cases ry;exact PySem.EqMixed.ne_str_bool (zax I q (by simp))
  | int j=>obtain ⟨t',rfl⟩:=ry;exact PySem.EqMixed.ne_str_int (zax I q (by simp))
  | str j=>obtain ⟨t',rfl⟩:=ry;exact ne_str (zax I q (congrArg not zpu))
  | _=>exact absurd (show false=true from hs) Bool.false_ne_true
 | byt i =>
  obtain ⟨t,rfl⟩:=rx
  cases y with
  | byt j=>obtain ⟨t',rfl⟩:=ry;exact PySem.W.ne_bytes (zax I q (congrArg not zpv))
  | _=>exact absurd (show false=true from hs) Bool.false_ne_true
 | _=>cases y <;> exact absurd (show false=true from hs) Bool.false_ne_true
theorem z8z:OpR X (compareOp .Lt) (rI0 λ i j=>.bl (decide (i<j))):=z71 λ _ _ _ _ _ _ _ q=>lt_int q
theorem z80:OpR X (compareOp .LtE) (rI0 λ i j=>.bl (decide (i<=j))):=z71 λ _ _ _ _ _ _ _ q=>le_int q
theorem z81:OpR X (compareOp .Gt) (rI0 λ i j=>.bl (decide (j<i))):=z71 λ _ _ _ _ _ _ _ q=>gt_int q
theorem z82:OpR X (compareOp .GtE) (rI0 λ i j=>.bl (decide (j<=i))):=z71 λ _ _ _ _ _ _ _ q=>ge_int q
theorem zpw:OpR X (compareOp .In) (λ x y H Q=>∃ i j,x=.str i/\y=.str j/\Q (.bl (!(Builtin.Str.occurrences j i 0 j.length 1).isEmpty)) H):=by
 intro pins s σ H x y v u Q I rx ry h
 obtain ⟨i,j,rfl,rfl,q⟩:=h
 obtain ⟨t,rfl⟩:=rx
 obtain ⟨t',rfl⟩:=ry
 exact in_str (zax I q rfl)
theorem zj4:OpR X (compareOp .NotIn) (λ x y H Q=>∃ i j,x=.str i/\y=.str j/\Q (.bl (!(!(Builtin.Str.occurrences j i 0 j.length 1).isEmpty))) H):=by
 intro pins s σ H x y v u Q I rx ry h
 obtain ⟨i,j,rfl,rfl,q⟩:=h
 obtain ⟨t,rfl⟩:=rx
 obtain ⟨t',rfl⟩:=ry
 exact notIn_str (zax I q rfl)
theorem OpR.or {f:Value->Value->Sem Value}{r r':R2} (h:OpR X f r) (h':OpR X f r'):OpR X f (λ x y H Q=>r x y H Q\/r' x y H Q):=by
 intro pins s σ H x y v u Q I rx ry q
 rcases q with q|q
 ·exact h pins s σ H x y v u Q I rx ry q
 ·exact h' pins s σ H x y v u Q I rx ry q
theorem za6 (b:Expr) {op:CmpOp} (h:op≠.In:=by decide) (h2:op≠.NotIn:=by decide):behindInMarks op b=false:=by
 have e1:(op == CmpOp.In)=false:=by cases op <;> first|rfl|exact absurd rfl h
 have e2:(op == CmpOp.NotIn)=false:=by cases op <;> first|rfl|exact absurd rfl h2
 cases b <;> simp[behindInMarks,e1,e2]
theorem zy8 {op:CmpOp}{r:R2} (ho:OpR X (compareOp op) r) (ha:PE X a ta) (hb:PE X b tb) (hm:behindInMarks op b=false):PE X (.Compare a [op] [b] pos) (tOp r ta tb):=by
 intro pins s σ H Q I h
 exact wpAny_Compare1 (z70 ha hb I h λ v u s2 x y H2 I2 rx ry q=>ho pins s2 σ H2 x y v u Q I2 rx ry q) hm
def z83 (t:TE):TT:=λ σ H Q=>t σ H λ x H'=>∃ k,x=.bl k/\Q k H'
theorem zy9 {op:CmpOp}{r:R2} (ho:OpR X (compareOp op) r) (ha:PE X a ta) (hb:PE X b tb) (hm:behindInMarks op b=false):PT X (.Compare a [op] [b] pos) (z83 (tOp r ta tb)):=by
 intro pins s σ H Q I h
 refine wpAny_isTrue_Compare1 (thn (ha pins s σ H _ I h) λ v s1 ⟨x,H1,I1,r1,q1⟩=>thn (hb pins s1 σ H1 _ I1 q1) λ u s2 ⟨y,H2,I2,r2,q2⟩ =>
  thn (ho pins s2 σ H2 x y v u _ I2 r1 r2 q2) λ c s3 ⟨z,H3,I3,r3,k,e,q3⟩=>?_) hm
 subst e
 cases r3
 exact wpAny_truthy_bool ⟨H3,I3,q3⟩
theorem zgg:(sizeLine:Nat)<2 ^ 63:=by rw[sizeLine_eq];decide
theorem zog:OpR X (binaryOp .Add) (λ x y H Q=>∃ i j,x=.str i/\y=.str j/\i.length+j.length<=sizeLine/\Q (.str (i++j)) H):=by
 intro pins s σ H x y v u Q I rx ry h
 obtain ⟨i,j,rfl,rfl,hz,q⟩:=h
 obtain ⟨t,rfl⟩:=rx
 obtain ⟨t',rfl⟩:=ry
 exact add_str (λ t' tk=>⟨.str (i++j),H,I.tok _,⟨_,rfl⟩,q⟩) hz
theorem zgh {x:V}{us:List Value} (r:zbj [x] us):∃ u,us=[u]/\zbe x u:=by
 cases r with
 | cons r1 r2=>cases r2;exact⟨_,rfl,r1⟩
theorem z84 {x y:V}{us:List Value} (r:zbj [x,y] us):∃ u w',us=[u,w']/\zbe x u/\zbe y w':=by
 cases r with
 | cons r1 r2 =>
  cases r2 with
  | cons r3 r4=>cases r4;exact⟨_,_,rfl,r1,r3⟩
theorem zj5:zcn X (.type "str") (λ xs H Q=>∃ i,xs=[.int i]/\i.natAbs.log2<1920/\Q (.str (toString i)) H):=by
 intro pins s σ H xs us Q I r h
 obtain ⟨i,rfl,hz,q⟩:=h
 obtain ⟨u,rfl,t,rfl⟩:=zgh r
 exact PySem.P.str_of_int hz ⟨.str _,H,I.tok _,⟨_,rfl⟩,q⟩
end
structure ObjM (h:Heap) (x dx C:Addr) (mA:Str->Option Value):Prop where
 obj:h.get? x=some (PySem.W.instObj C dx)
 ns:h.Ns1 dx mA
 ne:dx≠x
theorem zpx {h:Heap}{dx:Addr}{mA:Str->Option Value} (n:h.Ns1 dx mA):∃ od,h.get? dx=some od/\∀ name,PySem.W.lookIn name od=some (mA name):=by
 obtain ⟨o,es,ep,ho,hd,hk,_,hm⟩:=n
 refine⟨o,ho,λ name=>?_⟩
 have e:=hm name
 unfold nsFind findBy at e
 rw[<-Array.find?_toList] at e
 unfold PySem.W.lookIn
 rw[hd]
 dsimp only
 split
 ·rename_i y q
  rw[q] at e
  exact congrArg some e
 ·rename_i q
  rw[q] at e
  have a:es.toList.any (·.refKey)=false:=by
   rw[List.any_eq_false]
   intro y hy
   obtain ⟨z,t,zhn⟩:=hk y (Array.mem_toList_iff.mp hy)
   simp[DictEntry.refKey,zhn]
  have a':¬ es.toList.any (·.refKey)=true:=by rw[a];exact Bool.false_ne_true
  rw[if_neg a']
  exact congrArg some e
theorem ObjM.look {h:Heap}{x dx C:Addr}{mA:Str->Option Value} (I:ObjM h x dx C mA):∃ od,PySem.W.InstAt h x (PySem.W.instObj C dx) C (some od)/\∀ name,PySem.W.lookIn name od=some (mA name) :=
 let ⟨od,ho,hl⟩:=zpx I.ns
 ⟨od,⟨I.obj,rfl,rfl,ho⟩,hl⟩
theorem zmy.some_of {v:V}{o:Option Value} (r:zmy (some v) o):∃ u,o=some u/\zbe v u:=by
 cases o with
 | none=>exact (show False from r).elim
 | some u=>exact⟨u,rfl,r⟩
section
variable {P:Program}{w:World}{H H':Hp}{h h':Heap}{a C dx:Addr}{fs fs':List (Str×V)}
theorem zza (hok:HOk P w H h) (e:H a=some (.ins C dx fs)):∃ mA,ObjM h a dx C mA/\(∀ f,zmy (fs.lookup f) (mA f))/\PySem.Within mA (fs.map (·.1))/\fs.length<=1000/\H dx=some (.own a):=by
 obtain ⟨d,z,ne,ob,mA,n,r,q⟩:=(show zbb P w H h a (.ins C dx fs) from hok a _ e)
 exact⟨mA,⟨ob,n,ne⟩,r,q,z,d⟩
end
structure Cls (K:PySem.W.Frag) (C:Addr):Prop where
 pg:PySem.W.plainGet K C Str.empty=true
 hd:PySem.W.hasDictIn K C=true
 po:PySem.W.plainOver K C=true
 sa:PySem.W.findIn K (.ref C) "__setattr__" = some (some (.builtin "object.__setattr__"))
theorem Cls.get {K:PySem.W.Frag}{C:Addr} (c:Cls K C) (f:Str):PySem.W.plainGet K C f=true:=c.pg
section
variable {X:Cx}{pins:List (Addr×Obj)}{σ:St}{H:Hp}{s:Shared}{A:Around}{E:Value->Shared->Prop}{Q:Value->Shared->Prop}{c:Value}{b:Bool}
inductive TyOf (K:PySem.W.Frag) (H:Hp):V->Value->Prop where
 | non:TyOf K H .non (.type "NoneType")
 | bl (x:Bool):TyOf K H (.bl x) (.type "bool")
 | int (i:Int):TyOf K H (.int i) (.type "int")
 | str (x:Str):TyOf K H (.str x) (.type "str")
 | flt (x:UInt64):TyOf K H (.flt x) (.type "float")
 | lst {a:Addr} {xs:List V} (e:H a=some (.lst xs)):TyOf K H (.ref a) (.type "list")
 | frz {a:Addr} {o:Obj} {xs:List V} (e:H a=some (.frz o (.lst xs))):TyOf K H (.ref a) (.type "list")
 | tup {a:Addr} {xs:List V} (e:H a=some (.tup xs)):TyOf K H (.ref a) (.type "tuple")
 | dK {a:Addr} {kvs:List (Key×V)} (e:H a=some (.dK kvs)):TyOf K H (.ref a) (.type "dict")
 | dT {a:Addr} {kvs:List (List Key×V)} (e:H a=some (.dT kvs)):TyOf K H (.ref a) (.type "dict")
 | ins {a C dx:Addr} {fs:List (Str×V)} (e:H a=some (.ins C dx fs)) (cl:Cls K C) (ha:PySem.W.findIn K (.ref C) "__class__" = some (some (.builtin "object.__class__")))
   (hn:PySem.W.specialIn K (.builtin "object.__class__") "__get__" = some (some (.builtin "getset_descriptor.__get__"))) (htk:PySem.W.takesIn K (.builtin "object.__class__")=some true)
   (hm:PySem.W.mroIn K C (.type "object")=some true):TyOf K H (.ref a) (.ref C)
theorem zpy {x:V}{u t:Value} (I:Inv X pins σ H s) (rx:zbe x u) (ty:TyOf X.K H x t) (e:PySem.W.kitOne X.K t c=some b) (h:∀ tk,Q (.bool b) { s with toks:=tk }) :
  wpAny (model X.prog X.w) A (call (.builtin "isinstance") [u,c]) Q E s:=by
 cases ty with
 | non=>cases (show u=Value.none from rx);exact PySem.W.kia_one PySem.W.kitx_none I.kIn True.intro e (λ z=>nomatch z) h
 | bl y=>cases (show u=Value.bool y from rx);exact PySem.W.kia_one PySem.W.kitx_bool I.kIn True.intro e (λ z=>nomatch z) h
 | int i=>obtain ⟨t,q⟩:=(show ∃ t,u=Value.int i t from rx);cases q;exact PySem.W.kia_one PySem.W.kitx_int I.kIn True.intro e (λ z=>nomatch z) h
 | str y=>obtain ⟨t,q⟩:=(show ∃ t,u=Value.str y t from rx);cases q;exact PySem.W.kia_one PySem.W.kitx_str I.kIn True.intro e (λ z=>nomatch z) h
 | flt y=>obtain ⟨t,q⟩:=(show ∃ t,u=Value.float y t from rx);cases q;exact PySem.W.kia_one PySem.W.kitx_float I.kIn True.intro e (λ z=>nomatch z) h
 | @lst a xs ea =>
  cases (show u=Value.ref a from rx)
  obtain ⟨_,_,n,_,h1⟩:=(show zbb X.prog X.w H s.heap a (.lst xs) from I.hok a _ ea)
  exact PySem.W.kia_one PySem.W.kitx_list I.kIn ⟨_,h1,rfl⟩ e (λ z=>nomatch z) h
 | @frz a ob xs ea =>
  cases (show u=Value.ref a from rx)
  obtain ⟨_,_,_,n,_,h1⟩:=(show zbb X.prog X.w H s.heap a (.frz ob (.lst xs)) from I.hok a _ ea)
  exact PySem.W.kia_one PySem.W.kitx_list I.kIn ⟨_,h1,rfl⟩ e (λ z=>nomatch z) h
 | @tup a xs ea =>
  cases (show u=Value.ref a from rx)
  obtain ⟨_,_,_,p⟩:=(show zbb X.prog X.w H s.heap a (.tup xs) from I.hok a _ ea)
  obtain ⟨o,h1,h2,_⟩:=p
  exact PySem.W.kia_one PySem.W.kitx_tuple I.kIn ⟨o,h1,h2⟩ e (λ z=>nomatch z) h
 | @dK a kvs ea =>
  cases (show u=Value.ref a from rx)
  obtain ⟨_,_,vs,_,p⟩:=(show zbb X.prog X.w H s.heap a (.dK kvs) from I.hok a _ ea)
  obtain ⟨o,es,ep,h1,h2,_⟩:=p
  exact PySem.W.kia_one PySem.W.kitx_dict I.kIn ⟨o,h1,h2.1⟩ e (λ z=>nomatch z) h
 | @dT a kvs ea =>
  cases (show u=Value.ref a from rx)
  obtain ⟨_,_,xs,_,o,es,ep,h1,h2,_⟩:=(show zbb X.prog X.w H s.heap a (.dT kvs) from I.hok a _ ea)
  exact PySem.W.kia_one PySem.W.kitx_dict I.kIn ⟨o,h1,h2.1⟩ e (λ z=>nomatch z) h
 | @ins a C dx fs ea cl ha hn htk hm =>
  cases (show u=Value.ref a from rx)
  obtain ⟨mA,O,_⟩:=zza I.hok ea
  obtain ⟨od,J,_⟩:=O.look
  exact PySem.W.kia_one (PySem.W.kitx_own (cl.get _) cl.hd ha hn htk hm) I.kIn J e (λ z=>nomatch z) h
end
structure Room (k:Nat) (A:Around):Prop where
 hd:A.handled=none
 dp:A.depth+3 * k+5<recursionLimit
 un:A.units+16 * k+200<cLine
theorem Room.mono {j k:Nat}{A:Around} (r:Room k A) (h:j<=k):Room j A:=⟨r.hd,by have:=r.dp;omega,by have:=r.un;omega⟩
theorem Room.deeper {k:Nat}{A:Around} (r:Room (k+1) A) (env:Env):Room k (A.deeper env) :=
 ⟨r.hd,by have:=r.dp;show A.depth+1+3 * k+5<_;omega,by have:=r.un;show A.units+3+16 * k+200<_;omega⟩
theorem Room.depth {k:Nat}{A:Around} (r:Room k A):A.depth<recursionLimit:=by have:=r.dp;omega
theorem Room.units {k:Nat}{A:Around} (r:Room k A):A.units+64<cLine:=by have:=r.un;omega
def ybm:TA:=λ _ H Q=>Q [] H
def z3s (ta:TE) (tr:TA):TA:=λ σ H Q=>ta σ H λ x H1=>tr σ H1 λ xs H2=>Q (x::xs) H2
section
variable {X:Cx}{e:Expr}{es:List Expr}{te:TE}{t:TA}{pos:Pos}
theorem zee:PA X [] ybm:=λ _ _ _ _ H Q I h=>Calls.spliced_nil ⟨[],H,I,.nil,h⟩
theorem zch (ha:PE X e te) (hr:PA X es t) (hs:starEach (e::es) X.env=(false,eval e X.env)::starEach es X.env:=by rfl):PA X (e::es) (z3s te t):=by
 intro pos pins s σ H Q I h
 rw[hs]
 show wpAny _ _ (spliced ((false,eval e X.env)::backTo pos (starEach es X.env))) _ _ s
 refine Calls.spliced_cons (thn (ha pins s σ H _ I h) λ u s1 ⟨x,H1,I1,r1,q1⟩=>?_)
 exact thn (hr pos pins s1 σ H1 _ I1 q1) λ us s2 ⟨xs,H2,I2,r2,q2⟩=>⟨x::xs,H2,I2,.cons r1 r2,q2⟩
def ycd (t:TA):TE:=λ σ H Q=>t σ H λ xs H1=>xs.length<=sizeLine/\∀ p,H1 p=none->Q (.ref p) (upd H1 p (.tup xs))
def yce (t:TA):TE:=λ σ H Q=>t σ H λ xs H1=>xs.length<=sizeLine/\∀ p,H1 p=none->Q (.ref p) (upd H1 p (.lst xs))
theorem z3t {x1} (h:PA X es t):PE X (.Tuple es x1 pos) (ycd t):=by
 intro pins s σ H Q I hq
 refine wpAny_Tuple_spliced (thn (h pos pins s σ H _ I hq) λ us s1 ⟨xs,H1,I1,r,z,q⟩=>⟨by rw[<-r.length];exact z,?_⟩)
 have hf:H1 s1.heap.objs.size=none:=I1.hok.fresh (Nat.le_refl _)
 refine⟨.ref s1.heap.objs.size,upd H1 s1.heap.objs.size (.tup xs),I1.laid (t':=s1.toks) (λ b u e=>Heap.get?_push_of_some _ e) (Nat.le_refl _) ?_,rfl,q _ hf⟩
 exact⟨z,us,r,⟨_,Heap.get?_push_size _ rfl,rfl,_,rfl⟩⟩
theorem zm3 (h:PA X es t):PE X (.List es pos) (yce t):=by
 intro pins s σ H Q I hq
 refine wpAny_List_spliced (thn (h pos pins s σ H _ I hq) λ us s1 ⟨xs,H1,I1,r,z,q⟩=>⟨by rw[<-r.length];exact z,?_⟩)
 have hf:H1 s1.heap.objs.size=none:=I1.hok.fresh (Nat.le_refl _)
 refine⟨.ref s1.heap.objs.size,upd H1 s1.heap.objs.size (.lst xs),I1.laid (t':=s1.toks) (λ b u e=>Heap.get?_push_of_some _ e) (Nat.le_refl _) ?_,rfl,q _ hf⟩
 exact⟨z,us,0,r,Heap.get?_push_size _ rfl⟩
end
abbrev Sp:=List V->Hp->VK->XK->Prop
abbrev CXT:=List Env->Hp->Shared->XK->Value->Shared->Prop
structure Env0 (P:Program) (w:World) (K:PySem.W.Frag) (mg:Str->Option Value) (base:Heap) (A:Around) (outer:List Env) (s:Shared) (H:Hp):Prop where
 frames:A.frames=some outer
 mod:Mod K mg base
 bs:∀ b o,base.get? b=some o->s.heap.get? b=some o/\H b=none
 bsz:base.objs.size<=s.heap.objs.size
 funs:s.heap.FunFrames base outer
 frf:∀ b∈frs outer,H b=none
 hok:HOk P w H s.heap
 bare:AllBare s.gens
def CE (outer:List Env) (P:Program) (w:World) (H:Hp) (s:Shared) (Q:VK) (u:Value) (s':Shared):Prop :=
 ∃ v H',s'.os=s.os/\AllBare s'.gens/\Un (frs outer) [] H H' s.heap s'.heap/\HOk P w H' s'.heap/\zbe v u/\Q v H'
def CR (CX:CXT) (outer:List Env) (P:Program) (w:World) (H:Hp) (s:Shared) (Q:VK) (E:XK) (r:Result) (s':Shared):Prop :=
 match r with
 | .ok (.ret u)=>CE outer P w H s Q u s'
 | .ok _=>False
 | .error e=>CX outer H s E e s'
structure FnOk (P:Program) (w:World) (K:PySem.W.Frag) (mg:Str->Option Value) (base:Heap) (CX:CXT) (k:Nat) (f:Addr) (fd:FuncData) (ps:List Str) (sp:Sp):Prop where
 len:∀ vs H Q E,sp vs H Q E->vs.length=ps.length
 run:∀ (A:Around) (outer:List Env) (s:Shared) (H:Hp) (args:Args) (us:List Value) (vs:List V) (Q:VK) (E:XK),Room k A->Env0 P w K mg base A outer s H->BindsTo s fd args (ps.zip us)->zbj vs us->sp vs H Q E →
  codeAny (model P w) A (.call (.ref f) args) (CR CX outer P w H s Q E) s
theorem Env0.in1 {P:Program}{w:World}{K:PySem.W.Frag}{mg:Str->Option Value}{base:Heap}{A:Around}{outer:List Env}{s:Shared}{H:Hp} (e:Env0 P w K mg base A outer s H) :
  Env0 P w K mg base A.in1 outer s H:=⟨e.frames,e.mod,e.bs,e.bsz,e.funs,e.frf,e.hok,e.bare⟩
section
variable {X:Cx}{pins:List (Addr×Obj)}{σ:St}{H:Hp}{s s':Shared}
theorem Inv.env0 (I:Inv X pins σ H s):Env0 X.prog X.w X.K X.mg X.base X.A X.stack s H :=
 ⟨I.ok.frames,I.ok.mod,I.bs,Nat.le_trans I.ok.bsz I.sz,I.stack,I.stkFree,I.hok,I.bare⟩
theorem Inv.after {Q:VK}{u:Value} (I:Inv X pins σ H s) (h:CE X.stack X.prog X.w H s Q u s'):EP X pins σ Q u s':=by
 obtain ⟨v,H',os,bare,un,hok,r,q⟩:=h
 obtain ⟨hh,g,d,t,os'⟩:=s'
 obtain rfl:os'=s.os:=os
 exact⟨v,H',I.call (h':=hh) (g':=g) (d':=d) (t':=t) (ch:=[]) un hok bare (λ b z=>absurd z (by simp)),r,q⟩
end
def z85 (sp:Sp) (dvs:List V) (E:XK) (t:TA):TE:=λ σ H Q=>t σ H λ vs H1=>sp (vs++dvs) H1 Q E
def zdo (K:PySem.W.Frag) (fd:FuncData) (ps:List Str) (ds:List Value):Prop :=
 ∀ (s:Shared) (us:List Value),K.In s.heap->(us++ds).length=ps.length->BindsTo s fd ⟨us,[]⟩ (ps.zip (us++ds))
theorem zdo.all {K:PySem.W.Frag}{fd:FuncData}{ps:List Str} (h:∀ us:List Value,us.length=ps.length->bindArgs fd ⟨us,[]⟩=pure (ps.zip us)):zdo K fd ps []:=λ s us _ hl=>by
 rw[List.append_nil] at hl ⊢
 exact .of_eq (h us hl)
def zpz (CX:CXT) (X:Cx) (E:XK):Prop:=∀ (pins:List (Addr×Obj)) (σ:St) (H:Hp) (s:Shared) (e:Value) (s':Shared),Inv X pins σ H s->CX X.stack H s E e s'->X.xe e s'
section
variable {X:Cx}{CX:CXT}{k:Nat}{f C:Addr}{fd:FuncData}{ps:List Str}{sp:Sp}{dvs:List V}{ds:List Value}{E:XK}{x m:Str}{p pos apos:Pos}{e o:Expr}{es:List Expr}{ta:TE}{t:TA}
theorem z3u {pins:List (Addr×Obj)}{σ:St}{H:Hp}{s:Shared}{Q:VK}{us:List Value}{vs:List V} (F:FnOk X.prog X.w X.K X.mg X.base CX k f fd ps sp) (hr:Room k X.A) (hb:zdo X.K fd ps ds) (hd:zbj dvs ds) (hx:zpz CX X E)
  (I:Inv X pins σ H s) (r:zbj vs us) (h:sp (vs++dvs) H Q E):wpAny (model X.prog X.w) X.A (call (.ref f) us) (EP X pins σ Q) X.xe s:=by
 have r2:zbj (vs++dvs) (us++ds):=r.append hd
 have hl:(us++ds).length=ps.length:=by rw[<-r2.length];exact F.len _ _ _ _ h
 refine wpAny_call (codeAny_mono (F.run X.A X.stack s H ⟨us,[]⟩ (us++ds) (vs++dvs) Q E hr I.env0 (hb s us I.kIn hl) r2 h) λ r s' hq=>?_)
 cases r with
 | error e=>exact hx pins σ H s e s' I hq
 | ok fl =>
  cases fl with
  | ret u=>exact I.after hq
  | next=>exact False.elim hq
  | brk=>exact False.elim hq
  | cont=>exact False.elim hq
theorem zgi (F:FnOk X.prog X.w X.K X.mg X.base CX k f fd ps sp) (hr:Room k X.A) (hg:Gl X x) (hm:X.mg x=some (.ref f)) (hk:PySem.W.keepIn X.K (.ref f)=true) (hb:zdo X.K fd ps ds) (hd:zbj dvs ds) (hx:zpz CX X E)
  (ha:PA X (e::es) t) (hdb:(x == ("__debug__" : Str))=false:=by decide) (he:starEach (e::es) X.env=(false,eval e X.env)::starEach es X.env:=by rfl) (hpl:(backTo pos (starEach es X.env)).any (·.1)=false:=by rfl) :
  PE X (.Call (.Name x p) (e::es) [] pos) (z85 sp dvs E t):=by
 intro pins s σ H Q I h
 refine wpAny_Call_Name_kw (zpo I hg hm ?_ hdb)
 refine PySem.W.callWith_K (h₀:=X.base) I.ok.mod.kin hk (thn (ha pos pins s σ H _ I h) λ us s1 ⟨vs,H1,I1,r,q⟩=>⟨I1.kIn,?_⟩) he hpl
 exact z3u F hr hb hd hx I1 r q
end
def PK (X:Cx) (kws:List Keyword) (t:TA):Prop :=
 ∀ (pos:Pos) (pins:List (Addr×Obj)) (s:Shared) (σ:St) (H:Hp) (Q:List V->Hp->Prop),Inv X pins σ H s->t σ H Q->wpAny (model X.prog X.w) X.A (evalAll ((backToKw pos (keywordEach kws X.env)).map (·.2))) (AP X pins σ Q) X.xe s
section
variable {X:Cx}{CX:CXT}{k:Nat}{f C:Addr}{fd:FuncData}{ps ks:List Str}{sp:Sp}{E:XK}{x m:Str}{p pos apos kpos:Pos}{e o:Expr}{es:List Expr}{kws:List Keyword}{te ta:TE}{t tk:TA}{nm:Option Str}
theorem zw9:PK X [] ybm:=λ _ _ _ _ H Q I h=>wpAny_evalAll_nil ⟨[],H,I,.nil,h⟩
theorem zp0 (ha:PE X e te) (hr:PK X kws t):PK X (⟨nm,e,kpos⟩::kws) (z3s te t):=by
 intro pos pins s σ H Q I h
 show wpAny _ _ (evalAll ((do let v ← eval e X.env;standAt pos;pure v)::(backToKw pos (keywordEach kws X.env)).map (·.2))) _ _ s
 refine wpAny_evalAll_cons (wpAny_bind (thn (ha pins s σ H _ I h) λ u s1 ⟨x,H1,I1,r1,q1⟩=>wpAny_bind (wpAny_standAt (wpAny_pure ?_))))
 exact thn (hr pos pins s1 σ H1 _ I1 q1) λ us s2 ⟨xs,H2,I2,r2,q2⟩=>⟨x::xs,H2,I2,.cons r1 r2,q2⟩
variable {g:List Value->List Value->List Value}{gV:List V->List V->List V}
end
structure FnScope (N P:List Str) (sc:Scope):Prop where
 kind:sc.kind=.function
 co:sc.isCoroutine=false
 gen:sc.isGenerator=false
 nd:N.Nodup
 pre:N.take P.length=P
 par:∀ x∈P,sc.names.lookup x=some .local\/sc.names.lookup x=some .cell
 nofree:∀ y∈sc.names,y.2≠.free
theorem zj6 {kindOf:Str->Option NameKind}{x:Str}:∀ {binds:List (Str×Value)}{m:Str->Option Value},(∀ v,(x,v) ∉ binds)->bindL kindOf binds m x=m x
 | [],_,_=>rfl
 | (n,v)::r,m,h=>by
  unfold bindL
  rw[zj6 λ w hw=>h w (List.mem_cons_of_mem _ hw)]
  split
  ·have:x≠n:=by rintro rfl;exact h v List.mem_cons_self
   simp[this]
  ·rfl
theorem zj7 {kindOf:Str->Option NameKind}{x:Str}:∀ {binds:List (Str×Value)}{m:Str->Option Value},(∀ v,(x,v) ∉ binds)->bindC kindOf binds m x=m x
 | [],_,_=>rfl
 | (n,v)::r,m,h=>by
  unfold bindC
  rw[zj7 λ w hw=>h w (List.mem_cons_of_mem _ hw)]
  split
  ·rfl
  ·have:x≠n:=by rintro rfl;exact h v List.mem_cons_self
   simp[this]
theorem zj8 {kindOf:Str->Option NameKind}{x:Str}{v:Value}:∀ {P:List Str}{vs:List Value}{i:Nat}{m:Str->Option Value},P.Nodup->P[i]?=some x->vs[i]?=some v->kindOf x=some .local →
  bindL kindOf (P.zip vs) m x=some v
 | [],_,_,_,_,h,_,_=>by simp at h
 | _::_,[],_,_,_,_,h,_=>by simp at h
 | p::P,w::vs,0,m,nd,h1,h2,hk=>by
  simp at h1 h2;subst h1;subst h2
  show bindL kindOf ((p,w)::P.zip vs) m p=_
  unfold bindL
  rw[zj6 λ v hv=>(List.nodup_cons.mp nd).1 (List.of_mem_zip hv).1,if_pos hk]
  simp
 | p::P,w::vs,i+1,m,nd,h1,h2,hk=>by
  show bindL kindOf ((p,w)::P.zip vs) m x=_
  unfold bindL
  exact zj8 (i:=i) (List.nodup_cons.mp nd).2 (by simpa using h1) (by simpa using h2) hk
theorem zj9 {kindOf:Str->Option NameKind}{x:Str}{v:Value}:∀ {P:List Str}{vs:List Value}{i:Nat}{m:Str->Option Value},P.Nodup->P[i]?=some x->vs[i]?=some v->kindOf x≠some .local →
  bindC kindOf (P.zip vs) m x=some v
 | [],_,_,_,_,h,_,_=>by simp at h
 | _::_,[],_,_,_,_,h,_=>by simp at h
 | p::P,w::vs,0,m,nd,h1,h2,hk=>by
  simp at h1 h2;subst h1;subst h2
  show bindC kindOf ((p,w)::P.zip vs) m p=_
  unfold bindC
  rw[zj7 λ v hv=>(List.nodup_cons.mp nd).1 (List.of_mem_zip hv).1,if_neg hk]
  simp
 | p::P,w::vs,i+1,m,nd,h1,h2,hk=>by
  show bindC kindOf ((p,w)::P.zip vs) m x=_
  unfold bindC
  exact zj9 (i:=i) (List.nodup_cons.mp nd).2 (by simpa using h1) (by simpa using h2) hk
def zej (N:List Str) (vs:List V):St:=vs.map some++List.replicate (N.length - vs.length) none
def zp1 (CX:CXT) (P:Program) (w:World) (K:PySem.W.Frag) (mg:Str->Option Value) (base:Heap) (N:List Str) (qual:Str) (scope:Scope) (f:Addr) (cd:Value) (A:Around) (outer:List Env) (s:Shared) (H:Hp) (E:XK):Cx where
 prog:=P
 w:=w
 K:=K
 mg:=mg
 base:=base
 A:=A.deeper (envOfC qual scope s.heap.objs.size f cd)
 N:=N
 s₀:=s
 H₀:=H
 env:=envOfC qual scope s.heap.objs.size f cd
 outer:=outer
 stack:=envOfC qual scope s.heap.objs.size f cd::outer
 ex:=[]
 calm:=true
 fn:=λ _=>true
 pn:=[]
 xe:=λ e s'=>wpAny (model P w) (A.deeper (envOfC qual scope s.heap.objs.size f cd)) (leaving (envOfC qual scope s.heap.objs.size f cd) e) (λ _ s''=>CX outer H s E e s'') (λ e' s''=>CX outer H s E e' s'') s'
theorem zm4 {sc:Scope}{n:Nat}{x:Str} (h:sc.names.lookup x=some .cell):∃ c,(cellsFrom n sc.names []).lookup x=some c:=by
 have q:=PySem.W.cellsFrom_some sc.names n [] (.inl h)
 exact Option.isSome_iff_exists.mp q
theorem zp2 {CX:CXT}{P:Program}{w:World}{K:PySem.W.Frag}{mg:Str->Option Value}{base:Heap}{N ps:List Str}{qual:Str}{scope:Scope}{f:Addr}{cd:Value}{A:Around}{outer:List Env}{s s1:Shared}{H:Hp}{E:XK}{us:List Value}{vs:List V}
  (S:FnScope N ps scope) (hd:A.handled=none) (e0:Env0 P w K mg base A outer s H) (hl:vs.length=ps.length) (r:zbj vs us)
  (x:InCallC s s.heap.objs.size (bindL (envOfC qual scope s.heap.objs.size f cd).kindOf (ps.zip us) λ _=>none) (cellsFrom (s.heap.objs.size+1) scope.names []) (bindC (envOfC qual scope s.heap.objs.size f cd).kindOf (ps.zip us) λ _=>none) s1) :
  Inv (zp1 CX P w K mg base N qual scope f cd A outer s H E) [] (zej N vs) H s1:=by
 have hpl:ps.length<=N.length:=by have:=congrArg List.length S.pre;rw[List.length_take] at this;omega
 obtain ⟨h1,tk,rfl,hk⟩:=x.done
 have noA:∀ b:Addr,b ∉ (zp1 CX P w K mg base N qual scope f cd A outer s H E).ex:=λ b z=>absurd (show b∈([]:List Addr) from z) (by simp)
 refine⟨⟨e0.mod,S.kind,rfl,rfl,Nat.le_refl _,λ y z c h1 h2=>?_,λ y hy=>?_,λ y c _ h=>?_,λ _=>hd,Around.frames_deeper e0.frames,.inr ⟨rfl,rfl⟩,λ b z=>absurd z (noA b),e0.bs,e0.bsz,λ b _ _=>noA b,λ b z=>absurd z (noA b),e0.funs,e0.frf⟩,
  rfl,e0.bare,Un.kept hk,⟨_,x.toInCall.ns,λ i y v h1 h2 h3=>?_⟩,λ y c h=>⟨_,x.cell y c h⟩,e0.hok.fresh (Nat.le_refl _),λ y c h=>?_,λ p hp=>absurd (show p∈([]:List (Addr×Obj)) from hp) (by simp),e0.hok.kept hk,?_⟩
 ·exact name_of_addr x.apart (PySem.mem_of_lookup h1) (PySem.mem_of_lookup h2)
 ·have hy:scope.names.lookup y=some .cell\/scope.names.lookup y=some .free:=hy
  rcases hy with hy|hy
  ·exact zm4 hy
  ·exact absurd rfl (S.nofree _ (PySem.mem_of_lookup hy))
 ·exact Nat.le_of_lt (x.above y c (PySem.mem_of_lookup h))
 ·have hi:i<vs.length:=by
   unfold zej at h2
   by_cases hi:i<vs.length
   ·exact hi
   ·rw[List.getElem?_append_right (by simpa using hi)] at h2
    rw[List.getElem?_replicate] at h2
    split at h2 <;> cases h2
  have ha:vs[i]?=some v:=by
   unfold zej at h2
   rw[List.getElem?_append_left (by simpa using hi),List.getElem?_map] at h2
   cases e:vs[i]? with
   | none=>rw[e] at h2;cases h2
   | some a=>rw[e] at h2;cases h2;rfl
  obtain ⟨u,hu,rv⟩:=r.get ha
  have hp:ps[i]?=some y:=by
   rw[<-S.pre,List.getElem?_take_of_lt (by omega)];exact h1
  have ndP:ps.Nodup:=by rw[<-S.pre];exact S.nd.sublist (List.take_sublist _ _)
  refine⟨u,rv,?_⟩
  rcases S.par y (List.mem_of_getElem? hp) with k|k
  ·exact .inl ⟨k,zj8 ndP hp hu k⟩
  ·obtain ⟨c,e⟩:=zm4 (n:=s.heap.objs.size+1) k
   refine .inr ⟨.inl k,c,e,?_⟩
   have q:=x.cell y c e
   rw[zj9 ndP hp hu (by show scope.names.lookup y≠_;rw[k];decide)] at q
   exact q
 ·exact e0.hok.fresh (Nat.le_of_lt (x.above y c (PySem.mem_of_lookup h)))
 ·unfold zej
  show _=N.length
  rw[List.length_append,List.length_map,List.length_replicate]
  omega
theorem z86 {CX:CXT}{P:Program}{w:World}{K:PySem.W.Frag}{mg:Str->Option Value}{base:Heap}{k:Nat}{f:Addr}{name qual:Str}{params:Arguments}{body:List Stmt}{scope:Scope}{dV kV doc pm cdv ct oc:Value}{an od:Option Addr}
  {osl:Array (Option Value)} {N ps:List Str} {sp:Sp} (lk:K.lookup f=some ⟨oc,od,.func (PySem.W.fnOf name qual params body scope dV kV doc pm an cdv ct),osl⟩) (hcd:PySem.W.codeIn K cdv qual=true) (S:FnScope N ps scope)
  (len:∀ vs H Q E,sp vs H Q E->vs.length=ps.length)
  (hbody:∀ (A:Around) (outer:List Env) (s:Shared) (H:Hp) (vs:List V) (Q:VK) (E:XK),Room k (A.deeper (envOfC qual scope s.heap.objs.size f cdv))->sp vs H Q E →
   ∃ t,PSs (zp1 CX P w K mg base N qual scope f cdv A outer s H E) body t/\t { nx:=λ _ H'=>Q .non H',rt:=Q } (zej N vs) H) :
  FnOk P w K mg base CX (k+1) f (PySem.W.fnOf name qual params body scope dV kV doc pm an cdv ct) ps sp:=by
 refine⟨len,λ A outer s H args us vs Q E hr e0 hb r hsp=>?_⟩
 have hl:=len _ _ _ _ hsp
 have KX:K.In s.heap:=e0.mod.kin.keeps λ b o e=>(e0.bs b o e).1
 have lim:s.heap.NoLimit:=e0.mod.nolimit.keeps λ b o e=>(e0.bs b o e).1
 have hkind:∀ y∈ps.zip us,scope.names.lookup y.1=some .local\/(scope.names.lookup y.1=some .cell/\((cellsFrom (s.heap.objs.size+1) scope.names []).lookup y.1).isSome=true):=λ ⟨n,v⟩ hy=>by
  rcases S.par n (List.of_mem_zip hy).1 with q|q
  ·exact .inl q
  ·exact .inr ⟨q,PySem.W.cellsFrom_some _ _ _ (.inl q)⟩
 refine codeAny_call_function hr.depth (KX _ _ lk) rfl S.co S.gen rfl (PySem.W.codeRec_of KX hcd) (hb _ _ _ _ ?_)
 refine wpAny_newFunctionEnv_cells S.kind hkind λ env he s1 x=>?_
 subst he
 refine⟨lim.keeps x.toInCall.keep,codeAny_func ?_⟩
 obtain ⟨t,ht,hq⟩:=hbody A outer s H vs Q E (hr.deeper _) hsp
 have I:Inv (zp1 CX P w K mg base N qual scope f cdv A outer s H E) [] (zej N vs) H s1:=zp2 S hr.hd e0 hl r x
 refine wpAny_mono (ht [] s1 (zej N vs) H _ I hq) (λ fl s' hs=>?_) λ e s' hs=>hs
 have fin:∀ {σ':St} {H':Hp} {v:V} {u:Value},Inv (zp1 CX P w K mg base N qual scope f cdv A outer s H E) [] σ' H' s'->zbe v u->Q v H'->CE outer P w H s Q u s' :=
  λ {σ' H' v u} J rv q=>⟨v,H',J.os,J.bare,J.base,J.hok,rv,q⟩
 cases fl with
 | ret u =>
  obtain ⟨v,σ',H',J,rv,q⟩:=hs
  exact fin J rv q
 | next =>
  obtain ⟨σ',H',J,q⟩:=hs
  exact fin (v:=V.non) (u:=Value.none) J rfl q
 | brk =>
  obtain ⟨_,_,_,q⟩:=hs
  exact False.elim q
 | cont =>
  obtain ⟨_,_,_,q⟩:=hs
  exact False.elim q
section
variable {X:Cx}{x:Str}{p pos:Pos}{e:Expr}{es:List Expr}{t:TA}{id T:String}{r:List V->Hp->VK->Prop}
def tCB (r:List V->Hp->VK->Prop) (t:TA):TE:=λ σ H Q=>t σ H λ vs H1=>r vs H1 Q
theorem ziq (hc:zcn X (.builtin id) r) (hg:Gl X x) (hm:X.mg x=none) (hv:bootBuiltins x=some (.builtin id)) (ha:PA X (e::es) t) (hn:x ≠ "__name__":=by decide) (hdb:(x == ("__debug__" : Str))=false:=by decide)
  (he:starEach (e::es) X.env=(false,eval e X.env)::starEach es X.env:=by rfl) (hpl:(backTo pos (starEach es X.env)).any (·.1)=false:=by rfl):PE X (.Call (.Name x p) (e::es) [] pos) (tCB r t):=by
 intro pins s σ H Q I h
 refine wpAny_Call_Name_kw (zer I hg hm hv ?_ hn hdb)
 exact PyProof.Rows.callWith_builtin1 (thn (ha pos pins s σ H _ I h) λ us s1 ⟨vs,H1,I1,r1,q1⟩=>hc pins s1 σ H1 vs us Q I1 r1 q1) he hpl
theorem zka (hc:zcn X (.type T) r) (hg:Gl X x) (hm:X.mg x=none) (hv:bootBuiltins x=some (.type T)) (ha:PA X (e::es) t) (hn:x ≠ "__name__":=by decide) (hdb:(x == ("__debug__" : Str))=false:=by decide)
  (he:starEach (e::es) X.env=(false,eval e X.env)::starEach es X.env:=by rfl) (hpl:(backTo pos (starEach es X.env)).any (·.1)=false:=by rfl):PE X (.Call (.Name x p) (e::es) [] pos) (tCB r t):=by
 intro pins s σ H Q I h
 refine wpAny_Call_Name_kw (zer I hg hm hv ?_ hn hdb)
 exact PyProof.Rows.callWith_type1 (thn (ha pos pins s σ H _ I h) λ us s1 ⟨vs,H1,I1,r1,q1⟩=>hc pins s1 σ H1 vs us Q I1 r1 q1) he hpl
end
end L2
namespace HT
open PySem PyProof.Rows
section
variable {prog:Program}{w:World}{A:Around}{E:Value->Shared->Prop}{s:Shared}
def sIx (n d:Nat):Option Int->Nat
 | none=>d
 | some v=>if v<0 then (v+(n:Int)).toNat else min v.toNat n
theorem sIx_none (n d:Nat):sIx n d none=d:=rfl
theorem sIx_nat (n d k:Nat):sIx n d (some (k:Int))=min k n:=by
 show (if (k:Int)<0 then ((k:Int)+(n:Int)).toNat else min (k:Int).toNat n)=min k n
 rw[if_neg (by omega),Int.toNat_natCast]
theorem z3v (n d:Nat) (hd:d<=n) (o:Option Int):sIx n d o<=n:=by
 cases o with
 | none=>exact hd
 | some v =>
  show (if v<0 then (v+(n:Int)).toNat else min v.toNat n)<=n
  by_cases hv:v<0
  ·rw[if_pos hv];omega
  ·rw[if_neg hv];exact Nat.min_le_right _ _
theorem zp3 (v:Int) (n d:Nat):(if v<0 then max (v+(n:Int)) 0 else min v (n:Int))=((sIx n d (some v):Nat):Int):=by
 show (if v<0 then max (v+(n:Int)) 0 else min v (n:Int))=(((if v<0 then (v+(n:Int)).toNat else min v.toNat n):Nat):Int)
 by_cases hv:v<0
 ·simp only[if_pos hv];omega
 ·simp only[if_neg hv];omega
theorem zoh (lo hi:Option Int) (n:Nat):Builtin.Slice.sliceAdjust lo hi 1 (n:Int)=(((sIx n 0 lo:Nat):Int),((sIx n n hi:Nat):Int)):=by
 have h1:¬ ((1:Int)<0):=by omega
 unfold Builtin.Slice.sliceAdjust
 simp only[h1,if_false]
 refine Prod.ext ?_ ?_
 ·cases lo with
  | none=>rfl
  | some v=>exact zp3 v n 0
 ·cases hi with
  | none=>rfl
  | some v=>exact zp3 v n n
theorem zoi (i j:Nat):Builtin.Slice.slicePlaces (i:Int) (j:Int) 1=j - i:=by
 unfold Builtin.Slice.slicePlaces
 have h1:(1:Int) > 0:=by omega
 simp only[h1,if_true,Int.ediv_one]
 split <;> omega
theorem zh0 {v:Value}{o:Option Int}{Q:Option Int->Shared->Prop} (p:IsPart v o) (h:Q o s):wpAny (model prog w) A (Builtin.Slice.slicePartIndex v) Q E s:=by
 cases p with
 | none=>exact slicePart_none h
 | int i t=>exact slicePart_int h
theorem zdh {sl:Addr}{vl vu:Value}{lo hi:Option Int}{n:Nat}{Q:Int×Int×Nat->Shared->Prop} (hs:s.heap.IsSliceOf sl vl vu .none) (pl:IsPart vl lo) (pu:IsPart vu hi)
  (h:Q (((sIx n 0 lo:Nat):Int),1,sIx n n hi - sIx n 0 lo) s):wpAny (model prog w) A (Builtin.Slice.sliceApplied (.ref sl) (pure (n:Int))) Q E s:=by
 obtain ⟨os,hos,hcs,hds⟩:=id hs
 unfold Builtin.Slice.sliceApplied Builtin.Slice.sliceFields
 refine wpAny_bind (wpAny_bind (wpAny_field hos hds (x:=vl) rfl (wpAny_bind (wpAny_field hos hds (x:=vu) rfl (wpAny_bind (wpAny_field hos hds (x:=.none) rfl (wpAny_pure ?_)))))))
 refine wpAny_bind (slicePart_none ?_)
 show wpAny _ _ (if ((1:Int) == 0)=true then _ else _) _ _ s
 rw[if_neg (by decide)]
 refine wpAny_bind (zh0 pl (wpAny_bind (zh0 pu (wpAny_bind (wpAny_pure ?_)))))
 show wpAny _ _ (match Builtin.Slice.sliceAdjust lo hi 1 (n:Int) with|(lo,hi)=>pure (lo,(1:Int),Builtin.Slice.slicePlaces lo hi 1)) _ _ s
 rw[zoh lo hi n]
 show wpAny _ _ (pure (((sIx n 0 lo:Nat):Int),(1:Int),Builtin.Slice.slicePlaces ((sIx n 0 lo:Nat):Int) ((sIx n n hi:Nat):Int) 1)) _ _ s
 rw[zoi]
 exact wpAny_pure h
theorem zuf (xs:Array Value) (i k:Nat):((List.range k).filterMap λ (m:Nat)=>xs[((i:Int)+(m:Int) * 1).toNat]?).toArray=((xs.toList.drop i).take k).toArray:=by
 have e:(λ (m:Nat)=>xs[((i:Int)+(m:Int) * 1).toNat]?)=λ m=>xs[i+m]?:=by
  funext m
  have:((i:Int)+(m:Int) * 1).toNat=i+m:=by omega
  rw[this]
 rw[e]
 have:=pick_run xs i k
 rw[List.filterMap_map] at this
 have e2:((λ x=>xs[x]?) ∘ λ x=>i+x)=λ m=>xs[i+m]?:=rfl
 rw[e2] at this
 rw[this]
theorem getItem_tuple_cut {t sl:Addr}{items:Array Value}{vl vu:Value}{lo hi:Option Int}{Q:Value->Shared->Prop} (ht:IsTup s.heap t items) (hs:s.heap.IsSliceOf sl vl vu .none) (pl:IsPart vl lo) (pu:IsPart vu hi)
  (hw:¬ (sIx items.size 0 lo=0/\sIx items.size items.size hi=items.size))
  (h:Q (.ref s.heap.objs.size) { s with heap:=s.heap.push { cls:=.type "tuple",data:=.seq ((items.toList.drop (sIx items.size 0 lo)).take (sIx items.size items.size hi - sIx items.size 0 lo)).toArray } })
  (hsz:items.size<=sizeLine):wpAny (model prog w) A (getItem (.ref t) (.ref sl)) Q E s:=by
 have htake:sizeOk (.seq ((items.toList.drop (sIx items.size 0 lo)).take (sIx items.size items.size hi - sIx items.size 0 lo)).toArray):=by
  show ((items.toList.drop (sIx items.size 0 lo)).take (sIx items.size items.size hi - sIx items.size 0 lo)).toArray.size<=sizeLine
  rw[List.size_toArray,List.length_take,List.length_drop,Array.length_toList]
  omega
 have hj:sIx items.size items.size hi<=items.size:=z3v _ _ (Nat.le_refl _) hi
 obtain ⟨os,hos,hcs,hds⟩:=id hs
 have hTs:s.TypeIs (.ref sl) "slice":=⟨os,hos,hcs⟩
 unfold getItem
 try with_reducible refine wpAny_holding ?_
 first|refine wpAny_bind (wpAny_pure ?_)|skip
 refine wpAny_bind (wpAny_sequenceKey ht.typeIs (by decide) ?_)
 refine wpAny_bind (wpAny_callSpecial?_slot (name:=Str.ofString "__getitem__") ht.typeIs PyProof.Rows.slot_tuple_getitem
  (wpAny_call_entry PyProof.Rows.slot_tuple_getitem ht.typeIs entry_tuple_getitem ?_ (args_tuple_getitem _ _)))
 show wpAny _ _ (Builtin.Tuple.tupleItemsOf (.ref t) >>= _) _ _ s
 refine wpAny_bind (tupleItemsOf_ ht ?_)
 refine wpAny_bind (wpAny_typeOf hTs ?_)
 rw[if_pos (by decide)]
 refine wpAny_bind (zdh hs pl pu ?_)
 have hno:¬ ((((sIx items.size 0 lo:Nat):Int) == 0 && (1:Int) == 1 && (sIx items.size items.size hi - sIx items.size 0 lo) == items.size)=true):=by
  intro q
  rw[Bool.and_eq_true,Bool.and_eq_true] at q
  have q1:((sIx items.size 0 lo:Nat):Int)=0:=eq_of_beq q.1.1
  have q2:sIx items.size items.size hi - sIx items.size 0 lo=items.size:=eq_of_beq q.2
  exact hw ⟨by omega,by omega⟩
 show wpAny _ _ (if (((sIx items.size 0 lo:Nat):Int) == 0 && (1:Int) == 1 && (sIx items.size items.size hi - sIx items.size 0 lo) == items.size)=true then _ else _) _ _ s
 rw[if_neg hno,zuf]
 first
  | exact wpAny_bind (m:=Builtin.Tuple.tupleExact _) (wpAny_newObj_type (wpAny_pure ⟨_,rfl,wpAny_pure h⟩) htake)
  | exact wpAny_bind (m:=Builtin.Tuple.tupleExact _) (wpAny_newObj_type (wpAny_bind (wpAny_pure (wpAny_pure ⟨_,rfl,wpAny_pure h⟩))) htake)
  | exact wpAny_bind (wpAny_bind (m:=Builtin.Tuple.tupleExact _) (wpAny_newObj_type (wpAny_pure (wpAny_pure ⟨_,rfl,wpAny_pure h⟩)) htake))
  | exact wpAny_bind (wpAny_bind (m:=Builtin.Tuple.tupleExact _) (wpAny_newObj_type (wpAny_pure ⟨_,rfl,wpAny_pure h⟩) htake))
end
end HT
namespace L2
open PySem PySem.Spec PyProof.Rows
abbrev TO:=St->Hp->(Option Int->Hp->Prop)->Prop
def PO (X:Cx) (e:Option Expr) (t:TO):Prop :=
 ∀ (pins:List (Addr×Obj)) (s:Shared) (σ:St) (H:Hp) (Q:Option Int->Hp->Prop),Inv X pins σ H s->t σ H Q →
  wpAny (model X.prog X.w) X.A (evalPart e X.env) (λ u s'=>∃ o H',Inv X pins σ H' s'/\IsPart u o/\Q o H') X.xe s
def zzb:TO:=λ _ H Q=>Q none H
section
variable {X:Cx}{e:Expr}{te:TE}{lo hi:Option Expr}{tl th:TO}{pos p2:Pos}
theorem zzc:PO X none zzb:=by
 intro pins s σ H Q I h
 rw[evalPart_none]
 exact wpAny_pure ⟨none,H,I,.none,h⟩
def SlR (X:Cx) (r:V->Option Int->Option Int->Hp->VK->Prop):Prop :=
 ∀ (pins:List (Addr×Obj)) (s:Shared) (σ:St) (H:Hp) (x:V) (v vl vu:Value) (lo hi:Option Int) (sl:Addr) (Q:VK),Inv X pins σ H s->zbe x v->s.heap.IsSliceOf sl vl vu .none->IsPart vl lo->IsPart vu hi->r x lo hi H Q →
  ∃ T id,typeLookup (.type T) "__getitem__" = pure (some (.builtin id))/\s.TypeIs v T/\wpAny (model X.prog X.w) X.A (getItem v (.ref sl)) (EP X pins σ Q) X.xe s
theorem SlR.or {r r':V->Option Int->Option Int->Hp->VK->Prop} (h:SlR X r) (h':SlR X r'):SlR X (λ x lo hi H Q=>r x lo hi H Q\/r' x lo hi H Q):=by
 intro pins s σ H x v vl vu lo hi sl Q I rx hs pl pu q
 rcases q with q|q
 ·exact h pins s σ H x v vl vu lo hi sl Q I rx hs pl pu q
 ·exact h' pins s σ H x v vl vu lo hi sl Q I rx hs pl pu q
def tSl (r:V->Option Int->Option Int->Hp->VK->Prop) (te:TE) (tl th:TO):TE:=λ σ H Q=>te σ H λ x H1=>tl σ H1 λ l H2=>th σ H2 λ u H3=>r x l u H3 Q
theorem zug {r:V->Option Int->Option Int->Hp->VK->Prop} (hr:SlR X r) (he:PE X e te) (hl:PO X lo tl) (hu:PO X hi th):PE X (.Subscript e (.Slice lo hi none p2) pos) (tSl r te tl th):=by
 intro pins s σ H Q I h
 refine Subscript_ (thn (he pins s σ H _ I h) λ v s1 ⟨x,H1,I1,r1,q1⟩=>?_)
 refine wpAny_Slice (thn (hl pins s1 σ H1 _ I1 q1) λ vl s2 ⟨l,H2,I2,pl,q2⟩=>thn (hu pins s2 σ H2 _ I2 q2) λ vu s3 ⟨u,H3,I3,pu,q3⟩=>?_)
 rw[evalPart_none]
 refine wpAny_pure ?_
 have I4:Inv X pins σ H3 { s3 with heap:=s3.heap.push { cls:=.type "slice",data:=.fields #[vl,vu,.none] } }:=I3.kept (t':=s3.toks) λ b ob q=>Heap.get?_push_of_some _ q
 obtain ⟨T,id,hT,ht,hg⟩:=hr pins { s3 with heap:=s3.heap.push { cls:=.type "slice",data:=.fields #[vl,vu,.none] } } σ H3 x v vl vu l u s3.heap.objs.size Q I4 r1 (Heap.IsSliceOf.new ..) pl pu q3
 show wpAny (model X.prog X.w) X.A (subscriptTail e (.Slice lo hi none p2) v (.ref s3.heap.objs.size)) (EP X pins σ Q) X.xe { s3 with heap:=s3.heap.push { cls:=.type "slice",data:=.fields #[vl,vu,.none] } }
 exact tail_any (ops:=[.ref s3.heap.objs.size,v]) ht hT hg (by with_unfolding_all rfl)
def zpg (xs:List V) (lo hi:Option Int):List V:=(xs.drop (HT.sIx xs.length 0 lo)).take (HT.sIx xs.length xs.length hi - HT.sIx xs.length 0 lo)
theorem zgj (xs:List V) (lo hi:Option Int):(zpg xs lo hi).length<=xs.length:=by
 unfold zpg
 rw[List.length_take,List.length_drop]
 omega
def ycf (K:PySem.W.Frag):V->Option Int->Option Int->Hp->VK->Prop:=λ x lo hi H Q=>∃ a xs,x=.ref a/\SqT K H a xs ∧
 ¬ (HT.sIx xs.length 0 lo=0/\HT.sIx xs.length xs.length hi=xs.length)/\∀ p,H p=none->Q (.ref p) (upd H p (.tup (zpg xs lo hi)))
theorem z3w:SlR X (ycf X.K):=by
 intro pins s σ H x v vl vu lo hi sl Q I rx hs pl pu h
 obtain ⟨a,xs,rfl,hx,hw,q⟩:=h
 cases rx
 obtain ⟨its,r,ht,hz⟩:=I.tuple hx
 have hlen:its.toArray.size=xs.length:=by rw[List.size_toArray];exact r.length.symm
 refine⟨"tuple",_,PyProof.Rows.slot_tuple_getitem.lookup,ht.typeIs,?_⟩
 refine HT.getItem_tuple_cut ht hs pl pu (by rw[hlen];exact hw) ?_ (by rw[hlen];exact hz)
 rw[hlen]
 refine⟨.ref s.heap.objs.size,_,I.laid (t':=s.toks) (o:=.tup (zpg xs lo hi)) (λ b ob q=>Heap.get?_push_of_some _ q) (Nat.le_refl _) ?_,rfl,q _ (I.hok.fresh (Nat.le_refl _))⟩
 exact⟨Nat.le_trans (zgj xs lo hi) hz,_,(r.drop (HT.sIx xs.length 0 lo)).take (HT.sIx xs.length xs.length hi - HT.sIx xs.length 0 lo),IsTup.new _ _⟩
end
def ixN (n:Nat) (i:Int):Option Nat:=if 0<=i then (if i<n then some i.toNat else none) else if -(n:Int)<=i then some (i+n).toNat else none
def atI {α:Type} (xs:List α) (i:Int):Option α:=(ixN xs.length i).bind λ j=>xs[j]?
theorem zp4 {n:Nat}{i:Int}{j:Nat} (h:ixN n i=some j):seqIndex? i n=some j/\j<n/\-(n:Int)<=i/\i<n:=by
 unfold ixN at h
 by_cases h0:0<=i
 ·rw[if_pos h0] at h
  by_cases h1:i<n
  ·rw[if_pos h1] at h
   have e:i.toNat=j:=Option.some.inj h
   exact⟨by rw[seqIndex_of h0 h1,e],by omega,by omega,h1⟩
  ·rw[if_neg h1] at h;cases h
 ·rw[if_neg h0] at h
  by_cases h1:-(n:Int)<=i
  ·rw[if_pos h1] at h
   have e:(i+n).toNat=j:=Option.some.inj h
   exact⟨by rw[seqIndex_neg (by omega) h1,e],by omega,h1,by omega⟩
  ·rw[if_neg h1] at h;cases h
theorem zls {α:Type}{xs:List α}{i:Int}{v:α} (h:atI xs i=some v):∃ j,seqIndex? i xs.length=some j/\xs[j]?=some v/\j<xs.length/\-(xs.length:Int)<=i/\i<xs.length:=by
 unfold atI at h
 cases e:ixN xs.length i with
 | none=>rw[e] at h;cases h
 | some j =>
  rw[e] at h
  obtain ⟨h1,h2,h3,h4⟩:=zp4 e
  exact⟨j,h1,h,h2,h3,h4⟩
theorem zir {α:Type}{xs:List α}{j:Nat}{v:α} (h:xs[j]?=some v):atI xs (j:Int)=some v:=by
 have hj:j<xs.length:=(List.getElem?_eq_some_iff.mp h).1
 have e:ixN xs.length (j:Int)=some j:=by
  unfold ixN
  rw[if_pos (by omega),if_pos (by omega)];simp
 unfold atI;rw[e];exact h
def zp5 (b:Expr):Prop:=∀ o i,subscripted b false o i=operate [o,i] (getItem o i)
def IxR (X:Cx) (r:R2):Prop :=
 ∀ (value slice:Expr) (pins:List (Addr×Obj)) (s:Shared) (σ:St) (H:Hp) (x y:V) (v u:Value) (Q:VK),Inv X pins σ H s->zbe x v->zbe y u->r x y H Q →
  subscripted slice false v u=operate [v,u] (getItem v u)->wpAny (model X.prog X.w) X.A (subscriptTail value slice v u) (EP X pins σ Q) X.xe s
def MtR (X:Cx) (id:String) (r:V->List V->Hp->VK->Prop):Prop :=
 ∀ (pins:List (Addr×Obj)) (s:Shared) (σ:St) (H:Hp) (x:V) (xs:List V) (v:Value) (us:List Value) (Q:VK),Inv X pins σ H s->zbe x v->zbj xs us->r x xs H Q →
  wpAny (model X.prog X.w) X.A (call (.builtin id) (v::us)) (EP X pins σ Q) X.xe s
section
variable {X:Cx}{a b:Expr}{ta tb:TE}{pos:Pos}
theorem IxR.or {r r':R2} (h:IxR X r) (h':IxR X r'):IxR X (λ x y H Q=>r x y H Q\/r' x y H Q):=by
 intro value slice pins s σ H x y v u Q I rx ry q hs
 rcases q with q|q
 ·exact h value slice pins s σ H x y v u Q I rx ry q hs
 ·exact h' value slice pins s σ H x y v u Q I rx ry q hs
theorem z87 {r:R2} (hr:IxR X r) (ha:PE X a ta) (hb:PE X b tb) (hs:zp5 b):PE X (.Subscript a b pos) (tOp r ta tb):=by
 intro pins s σ H Q I h
 exact Subscript_ (z70 ha hb I h λ v u s2 x y H2 I2 rx ry q=>hr a b pins s2 σ H2 x y v u Q I2 rx ry q (hs _ _))
def ycg (K:PySem.W.Frag):R2:=λ x y H Q=>∃ p xs i v,x=.ref p/\y=.int i/\SqL K H p xs/\atI xs i=some v/\Q v H
def ych (K:PySem.W.Frag):R2:=λ x y H Q=>∃ p xs i v,x=.ref p/\y=.int i/\SqT K H p xs/\atI xs i=some v/\Q v H
def yci:R2:=λ x y H Q=>∃ z i c,x=.str z/\y=.int i/\z.length<=sizeLine/\atI z.cps.toList i=some c/\Q (.str ⟨#[c]⟩) H
theorem zzd:IxR X (ycg X.K):=by
 intro value slice pins s σ H x y v u Q I rx ry h hs
 obtain ⟨p,xs,i,z,rfl,rfl,hq,he,q⟩:=h
 cases rx
 obtain ⟨t,rfl⟩:=ry
 obtain ⟨its,r,pl,hz⟩:=I.list hq
 obtain ⟨j,h1,h2,h3,h4,h5⟩:=zls he
 obtain ⟨w,ew,rw'⟩:=r.get h2
 have hl:=r.length
 have hn:=zgg
 have fin:EP X pins σ Q w s:=⟨z,H,I,rw',q⟩
 by_cases h0:0<=i
 ·have hj:i.toNat=j:=by
   rw[seqIndex_of h0 h5] at h1
   exact Option.some.inj h1
  exact item_listR pl.isList h0 (by omega) (by rw[hj];simpa using ew) fin hs
 ·have hj:(i+(its.toArray.size:Int)).toNat=j:=by
   rw[seqIndex_neg (by omega) h4] at h1
   rw[List.size_toArray,<-hl]
   exact Option.some.inj h1
  exact subscriptTail_builtinR (x:=w) pl.isList.typeIs slot_list_getitem.lookup
   (wpAny_getItem_list_neg (Q:=λ r s'=>r=w/\EP X pins σ Q r s') pl.isList (by omega) (by rw[List.size_toArray] <;> omega) (by omega) (by rw[hj];simpa using ew) ⟨rfl,fin⟩) hs
theorem z3x:IxR X (ych X.K):=by
 intro value slice pins s σ H x y v u Q I rx ry h hs
 obtain ⟨p,xs,i,z,rfl,rfl,hq,he,q⟩:=h
 cases rx
 obtain ⟨t,rfl⟩:=ry
 obtain ⟨its,r,pl,hz⟩:=I.tuple hq
 obtain ⟨j,h1,h2,h3,h4,h5⟩:=zls he
 obtain ⟨w,ew,rw'⟩:=r.get h2
 have hl:=r.length
 have hn:=zgg
 have fin:EP X pins σ Q w s:=⟨z,H,I,rw',q⟩
 exact subscriptTail_builtinR (x:=w) pl.typeIs slot_tuple_getitem.lookup
  (getItem_tuple (j:=j) (Q:=λ r s'=>r=w/\EP X pins σ Q r s') pl (by omega) (by omega) (by rw[List.size_toArray,<-hl];exact h1) (by simpa using ew) ⟨rfl,fin⟩) hs
theorem z3y:IxR X yci:=by
 intro value slice pins s σ H x y v u Q I rx ry h hs
 obtain ⟨z,i,c,rfl,rfl,hz,he,q⟩:=h
 obtain ⟨t,rfl⟩:=rx
 obtain ⟨t',rfl⟩:=ry
 obtain ⟨j,h1,h2,h3,h4,h5⟩:=zls he
 have hl:z.cps.toList.length=z.length:=by simp[Str.length]
 rw[hl] at h1 h4 h5
 have hn:=zgg
 exact tail_any (typeIs_str s z t) slot_str_getitem.lookup (getItem_str (c:=c) (by
  have e1:decide (i< -(2 ^ 63:Int))=false:=decide_eq_false (by omega)
  have e2:decide (i ≥ 2 ^ 63)=false:=decide_eq_false (by omega)
  rw[e1,e2,Bool.or_false]) (by rw[h1];simpa using h2) ⟨.str ⟨#[c]⟩,H,I.tok _,⟨_,rfl⟩,q⟩) hs
theorem zoj (its:List Value) (n j:Nat) (u:Value):Obj.mapSeq (·.setIfInBounds j u) { cls:=.type "list",data:=.seq its.toArray n }={ cls:=.type "list",data:=.seq (its.set j u).toArray n }:=by
 simp[Obj.mapSeq]
theorem Inv.lst {pins:List (Addr×Obj)}{σ:St}{H:Hp}{s:Shared}{p:Addr}{xs:List V} (I:Inv X pins σ H s) (h:H p=some (.lst xs)) :
  ∃ (its:List Value) (n:Nat),zbj xs its/\s.heap.get? p=some { cls:=.type "list",data:=.seq its.toArray n }/\xs.length<=sizeLine:=by
 obtain ⟨z,its,n,r,e⟩:=I.hok p _ h
 exact⟨its,n,r,e,z⟩
theorem Inv.lstUpd {pins:List (Addr×Obj)}{σ:St}{H:Hp}{s:Shared}{p:Addr}{xs ys:List V}{its its':List Value}{n n':Nat}{f:Obj->Obj} (I:Inv X pins σ H s) (h:H p=some (.lst xs))
  (ho:s.heap.get? p=some { cls:=.type "list",data:=.seq its.toArray n }) (hf:f { cls:=.type "list",data:=.seq its.toArray n }={ cls:=.type "list",data:=.seq its'.toArray n' }) (r:zbj ys its') (hz:ys.length<=sizeLine) (t:Nat) :
  Inv X pins σ (upd H p (.lst ys)) { s with heap:=s.heap.update p f,toks:=t }:=by
 have e:(s.heap.update p f).get? p=some { cls:=.type "list",data:=.seq its'.toArray n' }:=by
  rw[Heap.get?_update_self f ho (by rw[hf] <;> rfl),hf]
 refine I.write (x:=p) (e:=p) (by rw[h];trivial) (.inl rfl) (λ b u hb q=>(Heap.get?_update_other _ _ (Ne.symm hb)).trans q) ⟨_,e⟩ ?_
 exact⟨hz,its',n',r,e⟩
def z88:V->V->V->Hp->(Hp->Prop)->Prop:=λ o i v H Q=>∃ p xs k j,o=.ref p/\i=.int k/\H p=some (.lst xs)/\ixN xs.length k=some j/\Q (upd H p (.lst (xs.set j v)))
theorem zuh:ybk X z88:=by
 intro pins s σ H o i v ov iv u Q I ro ri rv h
 obtain ⟨p,xs,k,j,rfl,rfl,hp,hj,q⟩:=h
 cases ro
 obtain ⟨t,rfl⟩:=ri
 obtain ⟨its,n,r,ho,hz⟩:=I.lst hp
 obtain ⟨h1,h2,h3,h4⟩:=zp4 hj
 have hl:=r.length
 have hn:=zgg
 have I':Inv X pins σ (upd H p (.lst (xs.set j v))) { s with heap:=s.heap.update p (Obj.mapSeq (·.setIfInBounds j u)) } :=
  I.lstUpd hp ho (zoj its n j u) (r.set rv j) (by rw[List.length_set];exact hz) s.toks
 by_cases h0:0<=k
 ·have hk:k.toNat=j:=by
   rw[seqIndex_of h0 h4] at h1
   exact Option.some.inj h1
  exact PySem.W.ki_setAt ho h0 (by omega) (by rw[List.size_toArray,<-hl];exact h4) (by rw[hk];exact⟨_,I',q⟩)
 ·have hk:(k+(its.toArray.size:Int)).toNat=j:=by
   rw[seqIndex_neg (by omega) h3] at h1
   rw[List.size_toArray,<-hl]
   exact Option.some.inj h1
  exact PySem.W.ki_setBack ho (by omega) (by rw[List.size_toArray,<-hl];exact h3) (by omega) (by rw[hk];exact⟨_,I',q⟩)
theorem zkb (lo hi:Option Int) (n:Nat):(sliceBounds lo hi none n).1=((HT.sIx n 0 lo:Nat):Int)/\(sliceBounds lo hi none n).2.1=((HT.sIx n n hi:Nat):Int)/\(sliceBounds lo hi none n).2.2=1:=by
 refine⟨?_,?_,rfl⟩
 ·cases lo with
  | none=>simp[sliceBounds,HT.sIx]
  | some i =>
   simp only[sliceBounds,HT.sIx,Option.getD_none,show (1:Int) > 0 by decide,if_true]
   by_cases h:i<0
   ·simp only[h,if_true] <;> omega
   ·simp only[h,if_false] <;> omega
 ·cases hi with
  | none=>simp[sliceBounds,HT.sIx]
  | some i =>
   simp only[sliceBounds,HT.sIx,Option.getD_none,show (1:Int) > 0 by decide,if_true]
   by_cases h:i<0
   ·simp only[h,if_true] <;> omega
   ·simp only[h,if_false] <;> omega
theorem zis (its:List Value) (lo hi:Option Int):slicePick its.toArray lo hi none=((its.drop (HT.sIx its.length 0 lo)).take (HT.sIx its.length its.length hi - HT.sIx its.length 0 lo)).toArray:=by
 obtain ⟨h1,h2,h3⟩:=zkb lo hi its.toArray.size
 unfold slicePick
 rw[h1,h2,h3]
 simp only[sliceRange_one,pick_run,List.size_toArray] <;> rfl
def ycj (K:PySem.W.Frag):V->Option Int->Option Int->Hp->VK->Prop:=λ x lo hi H Q=>∃ a xs,x=.ref a/\SqL K H a xs/\∀ p,H p=none->Q (.ref p) (upd H p (.lst (zpg xs lo hi)))
theorem zze:SlR X (ycj X.K):=by
 intro pins s σ H x v vl vu lo hi sl Q I rx hs pl pu h
 obtain ⟨a,xs,rfl,hx,q⟩:=h
 cases rx
 obtain ⟨its,r,ht,hz⟩:=I.list hx
 have hlen:=r.length
 refine⟨"list",_,slot_list_getitem.lookup,ht.isList.typeIs,?_⟩
 refine wpAny_getItem_list_slice ht.isList hs pl pu .none (by simp) ?_ (by rw[List.size_toArray] <;> omega)
 rw[zis,<-hlen]
 refine⟨.ref s.heap.objs.size,_,I.laid (t':=s.toks) (o:=.lst (zpg xs lo hi)) (λ b ob q=>Heap.get?_push_of_some _ q) (Nat.le_refl _) ?_,rfl,q _ (I.hok.fresh (Nat.le_refl _))⟩
 exact⟨Nat.le_trans (zgj xs lo hi) hz,_,0,(r.drop (HT.sIx xs.length 0 lo)).take (HT.sIx xs.length xs.length hi - HT.sIx xs.length 0 lo),Heap.get?_push_size _ rfl⟩
def zci:V->Bool
 | .non=>true
 | .bl _=>true
 | .int _=>true
 | .str _=>true
 | _=>false
def eqV:V->V->Bool
 | .non,.non=>true
 | .bl a,.bl b=>a == b
 | .bl a,.int b=>(if a then 1 else 0) == b
 | .int a,.bl b=>a == (if b then 1 else 0)
 | .int a,.int b=>a == b
 | .str a,.str b=>a == b
 | _,_=>false
theorem zxa {A:Around}{s:Shared}{y x:V}{u v:Value} (ry:zbe y u) (rx:zbe x v) (fy:zci y=true) (fx:zci x=true):SeqAt.EqAt A s u v (eqV y x):=by
 cases y with
 | non =>
  cases ry
  cases x with
  | non=>cases rx;exact SeqAt.EqAt.same _
  | bl b=>cases rx;exact SeqAt.EqAt.none_bool b
  | int b=>obtain ⟨t,rfl⟩:=rx;exact SeqAt.EqAt.none_int b t
  | str b=>obtain ⟨t,rfl⟩:=rx;exact SeqAt.EqAt.none_str b t
  | _=>exact absurd (show false=true from fx) Bool.false_ne_true
 | bl a =>
  cases ry
  cases x with
  | non=>cases rx;exact SeqAt.EqAt.bool_none a
  | bl b=>cases rx;exact SeqAt.EqAt.bool_bool a b
  | int b=>obtain ⟨t,rfl⟩:=rx;exact SeqAt.EqAt.bool_int a b t
  | str b=>obtain ⟨t,rfl⟩:=rx;exact SeqAt.EqAt.bool_str a b t
  | _=>exact absurd (show false=true from fx) Bool.false_ne_true
 | int a =>
  obtain ⟨t',rfl⟩:=ry
  cases x with
  | non=>cases rx;exact SeqAt.EqAt.int_none a t'
  | bl b=>cases rx;exact SeqAt.EqAt.int_bool a t' b
  | int b=>obtain ⟨t,rfl⟩:=rx;exact SeqAt.EqAt.int_int a t' b t
  | str b=>obtain ⟨t,rfl⟩:=rx;exact SeqAt.EqAt.int_str a t' b t
  | _=>exact absurd (show false=true from fx) Bool.false_ne_true
 | str a =>
  obtain ⟨t',rfl⟩:=ry
  cases x with
  | non=>cases rx;exact SeqAt.EqAt.str_none a t'
  | bl b=>cases rx;exact SeqAt.EqAt.str_bool a t' b
  | int b=>obtain ⟨t,rfl⟩:=rx;exact SeqAt.EqAt.str_int a t' b t
  | str b=>obtain ⟨t,rfl⟩:=rx;exact SeqAt.EqAt.str_str a t' b t
  | _=>exact absurd (show false=true from fx) Bool.false_ne_true
 | _=>exact absurd (show false=true from fy) Bool.false_ne_true
theorem zkc:zcn X (.builtin "len") (λ xs H Q=>∃ p ys,xs=[.ref p]/\(SqL X.K H p ys\/SqT X.K H p ys)/\Q (.int ys.length) H):=by
 intro pins s σ H xs us Q I r h
 obtain ⟨p,ys,rfl,hq,q⟩:=h
 obtain ⟨u,rfl,rx⟩:=zgh r
 cases rx
 have hn:=zgg
 rcases hq with hq|hq
 ·obtain ⟨its,r',pl,hz⟩:=I.list hq
  have hlen:=r'.length
  exact Calls.call_len_list pl.isList (by simp only[List.size_toArray] <;> omega) ⟨.int ys.length,H,I.tok _,⟨s.toks+1,by rw[List.size_toArray,hlen]⟩,q⟩
 ·obtain ⟨its,r',pl,hz⟩:=I.tuple hq
  have hlen:=r'.length
  exact len_tuple pl (by simp only[List.size_toArray] <;> omega) ⟨.int ys.length,H,I.tok _,⟨s.toks+1,by rw[List.size_toArray,hlen]⟩,q⟩
theorem zkd:zcn X (.builtin "len") (λ xs H Q=>∃ z,xs=[.str z]/\z.length<=sizeLine/\Q (.int z.length) H):=by
 intro pins s σ H xs us Q I r h
 obtain ⟨z,rfl,hz,q⟩:=h
 obtain ⟨u,rfl,t,rfl⟩:=zgh r
 have hn:=zgg
 exact len_str (by omega) ⟨.int z.length,H,I.tok _,⟨_,rfl⟩,q⟩
theorem zcn.or {f:Value}{r r':List V->Hp->VK->Prop} (h:zcn X f r) (h':zcn X f r'):zcn X f (λ xs H Q=>r xs H Q\/r' xs H Q):=by
 intro pins s σ H xs us Q I rs q
 rcases q with q|q
 ·exact h pins s σ H xs us Q I rs q
 ·exact h' pins s σ H xs us Q I rs q
theorem zke:zcn X (.type "list") (λ xs H Q=>∃ p ys,xs=[.ref p]/\(SqL X.K H p ys\/SqT X.K H p ys)/\∀ l,H l=none->Q (.ref l) (upd H l (.lst ys))):=by
 intro pins s σ H xs us Q I r h
 obtain ⟨p,ys,rfl,hq,q⟩:=h
 obtain ⟨u,rfl,rx⟩:=zgh r
 cases rx
 have fin:∀ (its:List Value),zbj ys its->ys.length<=sizeLine->∀ (h':Heap) (c':Nat),(∀ b o',s.heap.get? b=some o'->h'.get? b=some o') →
   h'.get? s.heap.objs.size=some { cls:=.type "list",dict:=none,data:=.seq its.toArray c',slots:=#[] }->EP X pins σ Q (.ref s.heap.objs.size) { s with heap:=h' }:=λ its r' hz h' c' kp e =>
  ⟨.ref s.heap.objs.size,_,I.laid (t':=s.toks) kp (Nat.le_refl _) (show zbb X.prog X.w _ h' _ (.lst ys) from ⟨hz,its,c',r',e⟩),rfl,q _ (I.hok.fresh (Nat.le_refl _))⟩
 rcases hq with hq|hq
 ·obtain ⟨its,r',pl,hz⟩:=I.list hq
  have hlen:=r'.length
  obtain ⟨o,ho,hc,n,hd⟩:=pl.isList
  exact call_list_seq p (.inl rfl) ho hc hd (λ h' c' kp e=>fin its r' hz h' c' kp e) (by simp only[List.size_toArray] <;> omega)
 ·obtain ⟨its,r',pl,hz⟩:=I.tuple hq
  have hlen:=r'.length
  obtain ⟨o,ho,hc,n,hd⟩:=pl
  exact call_list_seq p (.inr rfl) ho hc hd (λ h' c' kp e=>fin its r' hz h' c' kp e) (by simp only[List.size_toArray] <;> omega)
theorem zes:zcn X (.type "tuple") (λ xs H Q=>∃ p ys,xs=[.ref p]/\((SqL X.K H p ys/\∀ l,H l=none->Q (.ref l) (upd H l (.tup ys)))\/(SqT X.K H p ys/\Q (.ref p) H))):=by
 intro pins s σ H xs us Q I r h
 obtain ⟨p,ys,rfl,h⟩:=h
 obtain ⟨u,rfl,rx⟩:=zgh r
 cases rx
 rcases h with ⟨hq,q⟩|⟨hq,q⟩
 ·obtain ⟨its,r',pl,hz⟩:=I.list hq
  have hlen:=r'.length
  refine call_tuple_list pl.isList (λ h' kp=>?_) (by simp only[List.size_toArray] <;> omega)
  have I1:Inv X pins σ H { s with heap:=h' }:=I.kept (t':=s.toks) kp
  have I2:Inv X pins σ (upd H h'.objs.size (.tup ys)) { s with heap:=h'.push { cls:=.type "tuple",data:=.seq its.toArray } } :=
   I1.laid (t':=s.toks) (λ b o e=>Heap.get?_push_of_some _ e) (Nat.le_refl _) (show zbb X.prog X.w _ _ _ (.tup ys) from ⟨hz,its,r',IsTup.new _ _⟩)
  exact⟨.ref h'.objs.size,_,I2,rfl,q _ (I1.hok.fresh (Nat.le_refl _))⟩
 ·obtain ⟨its,r',pl,hz⟩:=I.tuple hq
  exact call_tuple_same pl ⟨.ref p,H,I,rfl,q⟩
def tyV (K:PySem.W.Frag) (T:String) (x:V) (H:Hp):Prop:=match x with
 | .str _=>T = "str"
 | .int _=>T = "int"
 | .ref p=>(T = "list" /\ ∃ xs,SqL K H p xs)\/(T = "tuple" /\ ∃ o,K.lookup p=some o/\o.cls=.type "tuple" /\ o.dict=none) ∨
   (T = "dict" /\ ((∃ kvs,H p=some (.dK kvs))\/∃ kvs,H p=some (.dT kvs)))\/(T = "set" /\ ∃ S n,H p=some (.set S n))
 | _=>False
theorem zxb {pins:List (Addr×Obj)}{σ:St}{H:Hp}{s:Shared}{T:String}{x:V}{v:Value} (I:Inv X pins σ H s) (r:zbe x v) (ty:tyV X.K T x H) :
  s.TypeIs v T/\∀ a,v=.ref a->∃ ob,s.heap.get? a=some ob/\ob.dict=none:=by
 cases x with
 | str z =>
  obtain ⟨t,rfl⟩:=r
  cases (show T = "str" from ty)
  exact⟨typeIs_str s z t,λ _ e=>nomatch e⟩
 | int i =>
  obtain ⟨t,rfl⟩:=r
  cases (show T = "int" from ty)
  exact⟨typeIs_int s i t,λ _ e=>nomatch e⟩
 | ref p =>
  cases r
  rcases ty with ⟨rfl,xs,hq⟩|⟨rfl,o,hk,hc,hd⟩|⟨rfl,hk⟩|⟨rfl,S,n,hk⟩
  ·obtain ⟨its,_,pl,_⟩:=I.list hq
   refine⟨pl.isList.typeIs,λ a e=>?_⟩
   cases e
   obtain ⟨o,n,e,c,hd,_⟩:=pl
   exact⟨o,e,hd⟩
  ·refine⟨⟨o,I.kIn p o hk,hc⟩,λ a e=>?_⟩
   cases e
   exact⟨o,I.kIn _ o hk,hd⟩
  ·have z:∃ o,s.heap.get? p=some o/\o.ExactDict:=by
    rcases hk with ⟨kvs,hk⟩|⟨kvs,hk⟩
    ·obtain ⟨_,_,_,_,o,_,_,e,ex,_⟩:=I.hok p _ hk
     exact⟨o,e,ex⟩
    ·obtain ⟨_,_,_,_,o,_,_,e,ex,_⟩:=I.hok p _ hk
     exact⟨o,e,ex⟩
   obtain ⟨o,e,ex⟩:=z
   refine⟨⟨o,e,ex.1⟩,λ a e2=>?_⟩
   cases e2
   exact⟨o,e,ex.2.1⟩
  ·obtain ⟨o,_,_,_,e,ex,_⟩:=I.hok p _ hk
   refine⟨⟨o,e,ex.1⟩,λ a e2=>?_⟩
   cases e2
   exact⟨o,e,ex.2.1⟩
 | _=>exact False.elim ty
def yck (K:PySem.W.Frag) (T:String) (r:V->List V->Hp->VK->Prop) (to:TE):TE:=λ σ H Q=>to σ H λ x H1=>tyV K T x H1/\r x [] H1 Q
def tBM (K:PySem.W.Frag) (T:String) (r:V->List V->Hp->VK->Prop) (to:TE) (t:TA):TE:=λ σ H Q=>to σ H λ x H1=>tyV K T x H1/\t σ H1 λ xs H2=>r x xs H2 Q
variable {o e:Expr}{es:List Expr}{to:TE}{t:TA}{name:Str}{apos cpos:Pos}{T id:String}{r:V->List V->Hp->VK->Prop}
theorem zxc (pa:PlainAttrs T) (slot:Slot T name id) (hty:typeOf (.builtin id)=pure (.type "method_descriptor")) (hm:MtR X id r) (ho:PE X o to)
  (hbase:attributeBase o name X.env (eval o X.env)=eval o X.env:=by rfl) (hline:(apos.endLine == cpos.line)=true:=by rfl):PE X (.Call (.Attribute o name apos) [] [] cpos) (yck X.K T r to):=by
 intro pins s σ H Q I h
 refine wpAny_Call_method0_late hbase hline (thn (ho pins s σ H _ I h) λ v s1 ⟨x,H1,I1,r1,ty,q1⟩=>?_)
 obtain ⟨h1,h2⟩:=zxb I1 r1 ty
 exact⟨T,id,pa,slot,hty,h1,h2,Calls.callWith_builtin rfl (PySem.evalArgs_none (hm pins s1 σ H1 x [] v [] Q I1 r1 .nil q1))⟩
theorem zui (pa:PlainAttrs T) (slot:Slot T name id) (hty:typeOf (.builtin id)=pure (.type "method_descriptor")) (hm:MtR X id r) (ho:PE X o to) (ha:PA X (e::es) t)
  (hbase:attributeBase o name X.env (eval o X.env)=eval o X.env:=by rfl)
  (hfew:((backTo cpos (starEach (e::es) X.env)).all (λ x=>!x.1) && (backToKw cpos (keywordEach [] X.env)).all (λ x=>x.1.isSome)
   && decide ((e::es).length+([]:List Keyword).length+(if ([]:List Keyword).isEmpty then 0 else 1)<30))=true:=by rfl)
  (hline:(apos.endLine == cpos.line)=true:=by rfl) (hs:starEach (e::es) X.env=(false,eval e X.env)::starEach es X.env:=by rfl) (hplain:(backTo cpos (starEach es X.env)).any (·.1)=false:=by rfl) :
  PE X (.Call (.Attribute o name apos) (e::es) [] cpos) (tBM X.K T r to t):=by
 intro pins s σ H Q I h
 refine wpAny_Call_method_late hbase hfew hline rfl (thn (ho pins s σ H _ I h) λ v s1 ⟨x,H1,I1,r1,ty,q1⟩=>?_)
 obtain ⟨h1,h2⟩:=zxb I1 r1 ty
 refine⟨T,id,pa,slot,hty,h1,h2,?_⟩
 have hA:=ha cpos pins s1 σ H1 _ I1 q1
 rw[hs] at hA ⊢
 refine Calls.callWith_builtin (by show (false || (backTo cpos (starEach es X.env)).any (·.1))=false;rw[hplain] <;> rfl) (Calls.evalArgs_plain ?_)
 exact thn hA λ us s2 ⟨vs,H2,I2,r2,q2⟩=>hm pins s2 σ H2 x vs v us Q I2 r1 r2 q2
end
def MtM (X:Cx) (id:String) (r:V->List V->Hp->VK->Prop):Prop :=
 ∀ (pins:List (Addr×Obj)) (s:Shared) (σ:St) (H:Hp) (x:V) (xs:List V) (v:Value) (us:List Value) (Q:VK),Inv X pins σ H s->zbe x v->zbj xs us->r x xs H Q →
  wpAny (model X.prog X.w) X.A (call (.builtin id) (v::us)) (EP X pins σ Q) X.xe s
theorem zbj.one:∀ {x:V}{us:List Value},zbj [x] us->∃ u,us=[u]/\zbe x u
 | _,_,.cons r .nil=>⟨_,rfl,r⟩
theorem zbj.zero:∀ {us:List Value},zbj [] us->us=[]
 | _,.nil=>rfl
theorem zbj.rep {xs:List V}{us:List Value} (h:zbj xs us):∀ k:Nat,zbj (List.replicate k xs).flatten (List.replicate k us).flatten
 | 0=>.nil
 | k+1=>by
  rw[List.replicate_succ,List.replicate_succ,List.flatten_cons,List.flatten_cons]
  exact zbj.append h (zbj.rep h k)
theorem zkf (its:List Value):∀ (k:Nat) (acc:List Value),
  List.foldl (λ x1 x2=>x1++x2) acc.toArray (List.replicate k its.toArray)=(acc++(List.replicate k its).flatten).toArray
 | 0,acc=>by simp
 | k+1,acc=>by
  have e:acc.toArray++its.toArray=(acc++its).toArray:=by simp
  have e2:(acc++its)++(List.replicate k its).flatten=acc++(List.replicate (k+1) its).flatten:=by
   rw[List.replicate_succ,List.flatten_cons,List.append_assoc]
  rw[<-e2,<-zkf its k (acc++its),<-e,List.replicate_succ,List.foldl_cons]
section
variable {X:Cx}{pins:List (Addr×Obj)}{σ:St}{H:Hp}{s:Shared}{l b:Addr}{xs ys zs:List V}
theorem Inv.lset {its its':List Value}{n:Nat}{f:Array Value->Array Value}{t':Nat} (I:Inv X pins σ H s) (hH:H l=some (.lst xs))
  (e:s.heap.get? l=some { cls:=.type "list",data:=.seq its.toArray n }) (hf:f its.toArray=its'.toArray) (hv:zbj ys its') (hz:ys.length<=sizeLine) :
  Inv X pins σ (upd H l (.lst ys)) { s with heap:=s.heap.update l (Obj.mapSeq f),toks:=t' }:=by
 have q:=PySem.IsL.update e f
 rw[hf] at q
 refine I.write (x:=l) (e:=l) (by rw[hH];exact trivial) (.inl rfl) (λ b' u hb hu=>(Heap.get?_update_other s.heap (Obj.mapSeq f) (Ne.symm hb)).trans hu) ⟨_,q⟩ ?_
 exact⟨hz,its',_,hv,q⟩
theorem Inv.lnew {its:List Value}{t':Nat} (I:Inv X pins σ H s) (hv:zbj ys its) (hz:ys.length<=sizeLine) :
  Inv X pins σ (upd H s.heap.objs.size (.lst ys)) { s with heap:=s.heap.push { cls:=.type "list",data:=.seq its.toArray },toks:=t' } :=
 I.laid (λ _ _ q=>Heap.get?_push_of_some _ q) (Nat.le_refl _) ⟨hz,its,0,hv,Heap.get?_push_size _ rfl⟩
theorem Inv.fresh (I:Inv X pins σ H s):H s.heap.objs.size=none:=I.hok.fresh (Nat.le_refl _)
theorem Inv.lstM (I:Inv X pins σ H s) (hH:H l=some (.lst xs)):xs.length<=sizeLine/\∃ (its:List Value) (n:Nat),zbj xs its/\xs.length=its.length/\s.heap.get? l=some { cls:=.type "list",data:=.seq its.toArray n }:=by
 obtain ⟨z,its,n,r,e⟩:=I.hok l _ hH
 exact⟨z,its,n,r,r.length,e⟩
theorem zuj {n:Nat} (h:n<=sizeLine):Builtin.List.listTooLong n=false:=by
 unfold Builtin.List.listTooLong
 exact decide_eq_false (by omega)
end
section
variable {X:Cx}
def zp6:V->List V->Hp->VK->Prop:=λ x vs H Q=>∃ l xs y,x=.ref l/\vs=[y]/\H l=some (.lst xs)/\xs.length<sizeLine/\Q .non (upd H l (.lst (xs++[y])))
theorem zp7:MtM X "list.append" zp6:=by
 intro pins s σ H x vs v us Q I rx rv h
 obtain ⟨l,xs,y,rfl,rfl,hH,hz,q⟩:=h
 cases rx
 obtain ⟨u,rfl,ru⟩:=rv.one
 obtain ⟨z,its,n,r,hl,e⟩:=I.lstM hH
 refine call_meets F.slot_list_append ⟨_,e,rfl⟩ F.entry_list_append (F.args_list_append_2 _ _) (PySem.list_append l its.toArray n u (by rw[List.size_toArray];omega)) ⟨e,?_⟩
 refine⟨.non,_,I.lset (its':=its++[u]) hH e (by simp) (r.append (.cons ru .nil)) ?_,rfl,q⟩
 rw[List.length_append,List.length_singleton]
 omega
def z3z:V->List V->Hp->VK->Prop:=λ x vs H Q=>∃ l xs,x=.ref l/\vs=[]/\H l=some (.lst xs)/\Q .non (upd H l (.lst []))
theorem zuk:MtM X "list.clear" z3z:=by
 intro pins s σ H x vs v us Q I rx rv h
 obtain ⟨l,xs,rfl,rfl,hH,q⟩:=h
 cases rx
 have hus:=rv.zero
 subst hus
 obtain ⟨z,its,n,r,hl,e⟩:=I.lstM hH
 refine call_meets F.slot_list_clear ⟨_,e,rfl⟩ F.entry_list_clear (F.args_list_clear_1 _) (AutoSeq1.list_clear_list_0 l its.toArray n (by rw[List.size_toArray];omega)) ⟨e,?_⟩
 exact⟨.non,_,I.lset (its':=[]) (ys:=[]) hH e rfl .nil (Nat.zero_le _),rfl,q⟩
theorem zp8 {α:Type} (xs:List α) (k:Nat):(List.replicate k xs).flatten.length=k * xs.length:=by
 induction k with
 | zero=>simp
 | succ k ih=>rw[List.replicate_succ,List.flatten_cons,List.length_append,ih,Nat.succ_mul,Nat.add_comm]
end
end L2
namespace Att
open PySem PySem.W PySem.Calls PyProof.Rows
theorem zgk {P:Params}{h:Heap}:∀ (ns:List Int) (vs:List Value),WellAll P h vs (ns.map WData.int)->IntsAre vs ns:=by
 intro ns
 induction ns with
 | nil =>
  intro vs w
  rw[List.map_nil] at w
  cases w
  exact .nil
 | cons n ns ih =>
  intro vs w
  rw[List.map_cons] at w
  cases w with
  | cons a b =>
   cases a
   exact .cons _ _ (ih _ b)
theorem zp9 {l:OpenLaw}{n:Nat} (hn:l.most=some n) {P:Params}{h:Heap}{args:List WData}{vals:List Value}
  (hpre:l.row.toRowW.claim.pre args=true) (hwl:WellAll P h vals args) :
  ∃ a vs ns,vals=[Value.ref a]/\args=[WData.list (ns.map WData.int)]/\h.get? a=some { cls:=.type "list",data:=.seq vs.toArray }/\IntsAre vs ns/\ns.length<=n:=by
 have hsh:WShape.hasAll [] args [.list .int]=true:=(pre_splitW hpre).1
 have hc:l.pre.holds [] { args:=args }=true:=(pre_splitW hpre).2
 obtain ⟨d,r,rfl,h1,h2⟩:=hasAllW_cons hsh
 obtain rfl:=hasAllW_nil h2
 obtain ⟨xs,rfl,h3⟩:=hasW_list h1
 obtain ⟨ns,rfl⟩:=items_int h3
 have hlen:ns.length<=n:=by
  unfold OpenLaw.pre at hc
  have h4:(WTm.not (.lt (.lit (.int (n:Int))) (.len (.arg 0)))).holds [] { args:=[.list (ns.map .int)] }=true:=by
   have h4:=(holds_andW hc).1
   rw[hn] at h4
   exact h4
  have h5:=condW_of h4 (w_not (w_lt w_lit (w_len_list (w_arg rfl))))
  rw[List.length_map] at h5
  refine Nat.le_of_not_lt λ q=>?_
  have q':(n:Int)<((ns.length:Nat):Int):=by omega
  first
   | (rw[decide_eq_true q'] at h5;exact absurd h5 (by decide))
   | (simp at h5;omega)
 cases hwl with
 | cons w1 w2 =>
  cases w2
  cases w1 with
  | list ho hall=>exact⟨_,_,ns,rfl,rfl,ho,zgk ns _ hall,hlen⟩
theorem zqa (l:OpenLaw) (args:List WData):l.row.toRowW.claim.post args (.bool true) args=true :=
 postW_of (r:=l.row.toRowW) (X:=(true == true))
  (show WShape.has [] (.bool true) .bool=true by first|rfl|decide|simp[WShape.has,WShape.arms,WShape.armsAll])
  (show (WTm.eq .res (.lit (.bool true))).value [] { args:=args,res:=some (.bool true),after:=args }=some (.bool (true == true)) from w_eq_bool (w_res rfl) w_lit) rfl
theorem attach_call {l:OpenLaw}{n:Nat}{q:Program}{loose:List Str}{XP:(Str->Option Value)->Heap->Prop}{YP:World->Heap->Prop}{d:DefRec}
  (hn:l.most=some n) (hdf:d.params.defaults=[])
  (call:∀ (w:World) (s₀ s₁:Shared) (mg mb:Str->Option Value) (fa:Addr) (o:Obj) (pm cd doc:Value) (a:Addr) (vs:List Value) (ns:List Int),
   Ground q loose [] XP w s₀ mg mb s₁.heap->YP w s₁.heap →
   s₁.heap.get? fa=some o->o.data=.func (docDef d.name d.params d.body d.scope pm cd doc)->s₁.heap.CodeRec cd d.name->mg d.name=some (.ref fa) →
   s₁.heap.get? a=some { cls:=.type "list",data:=.seq vs.toArray }->IntsAre vs ns->ns.length<=n->s₁.gens=#[] →
   codeAny (model l.prog w) callerA (.call (.ref fa) ⟨[.ref a],[]⟩) (λ r s'=>r=.ok (.ret (.bool true))/\OldK s₁.heap s'.heap/\s'.os=s₁.os/\AllBare s'.gens) s₁) :
  WalkO q loose XP YP l.row.toRowW d [] (λ f vs=>PySem.call f vs):=by
 intro w s₀ s₁ mg mb G Y fa o pm cd doc dV kV ho hd hcd hD hmg hg args vals as hpre hlay hrd hwl hlo
 obtain rfl:dV=.none:=Dflts.none hD hdf
 obtain rfl:kV=.none:=Dflts.noKw hD
 obtain ⟨a,vs,ns,rfl,rfl,hobj,hints,hlen⟩:=zp9 hn hpre hwl
 refine enter_call (codeAny_mono (call w s₀ s₁ mg mb fa o pm cd doc a vs ns G Y ho (fd_plain hd) hcd hmg hobj hints hlen hg) λ r s' hq=>?_)
 obtain ⟨rfl,h2,h3,h4⟩:=hq
 exact⟨.inl ⟨.bool true,.bool true,[],rfl,λ _=>rfl,.bool true,zqa l _,λ _=>⟨List.Pairwise.nil,λ _ hm=>(nomatch hm)⟩⟩,h2,h3,h4⟩
end Att
namespace L2
open PySem PySem.Spec PyProof.Rows
theorem zgl:∀ {vs:List Value}{ns:List Int},IntsAre vs ns->zbj (ns.map V.int) vs
 | _,_,.nil=>.nil
 | _,_,.cons n t h=>.cons ⟨t,rfl⟩ (zgl h)
def z89 (H:Hp):Prop:=∀ b,H b=none\/∃ o xs,H b=some (.frz o (.lst xs))
theorem zul {P:Program}{w:World}{K:PySem.W.Frag}{mg mb:Str->Option Value}{CX:CXT}{k:Nat}{fa a:Addr}{fd:FuncData}{x:Str}{sp:Sp}{s₁:Shared}{vs:List Value}{ns:List Int}
  (KX:K.In s₁.heap) (hns:s₁.heap.Ns mainGlobals mg) (hb:s₁.heap.Ns builtinsNs mb) (hbb:∀ x:Str,x ≠ "__name__" -> mb x=bootBuiltins x) (hlim:s₁.heap.NoLimit) (hg:s₁.gens=#[])
  (ha:s₁.heap.get? a=some { cls:=.type "list",data:=.seq vs.toArray }) (hi:IntsAre vs ns) (hl:ns.length<=sizeLine) (hr:Room k callerA)
  (F:∀ base:Heap,K.In base->base.Ns mainGlobals mg->FnOk P w K mg base CX k fa fd [x] sp) (hbind:∀ (s:Shared) (u:Value),BindsTo s fd ⟨[u],[]⟩ [(x,u)])
  (hsp:∀ H:Hp,z89 H->SqL K H a (ns.map V.int)->sp [.ref a] H (λ v _=>v=.bl true) λ _ _ _=>False)
  (hCX:∀ H e s',CX [] H s₁ (λ _ _ _=>False) e s'->False) :
  codeAny (model P w) callerA (.call (.ref fa) ⟨[.ref a],[]⟩) (λ r s'=>r=.ok (.ret (.bool true))/\OldK s₁.heap s'.heap/\s'.os=s₁.os/\AllBare s'.gens) s₁:=by
 have rv:=zgl hi
 have lenV:=hi.length
 have zt8:∀ H:Hp,z89 H->SqL K H a (ns.map V.int)->HOk P w H s₁.heap->(∀ b,H b≠none->b=a)->(H a≠none->K.lookup a=none) →
   codeAny (model P w) callerA (.call (.ref fa) ⟨[.ref a],[]⟩) (λ r s'=>r=.ok (.ret (.bool true))/\OldK s₁.heap s'.heap/\s'.os=s₁.os/\AllBare s'.gens) s₁:=by
  intro H hO hS hok hA hK
  have base_of:∀ {b:Addr} {o:Obj},s₁.heap.get? b=some o->H b=none->(zt9 s₁.heap H).get? b=some o:=λ e n=>zua e n
  have noA:∀ {b:Addr} {o:Obj} {es:Array DictEntry} {ep:Nat},s₁.heap.get? b=some o->o.data=.dict es ep->H b=none:=λ {b o es ep} e d=>by
   cases q:H b with
   | none=>rfl
   | some u =>
    have e':b=a:=hA b (by rw[q];simp)
    subst e'
    rw[ha] at e;cases e
    have d':Data.seq vs.toArray _=Data.dict es ep:=d
    cases d'
  have nsK:∀ {b:Addr} {m:Str->Option Value},s₁.heap.Ns b m->(zt9 s₁.heap H).Ns b m:=λ {b m} ⟨o,es,ep,e,d,r⟩=>⟨o,es,ep,base_of e (noA e d),d,r⟩
  have hKb:K.In (zt9 s₁.heap H):=λ b o e=>base_of (KX b o e) (by
   cases q:H b with
   | none=>rfl
   | some u =>
    have e':b=a:=hA b (by rw[q];simp)
    subst e'
    rw[hK (by rw[q];simp)] at e;cases e)
  have hM:Mod K mg (zt9 s₁.heap H):=⟨hKb,nsK hns,⟨mb,nsK hb,hbb⟩,let ⟨mc,h1,h2⟩:=hlim;⟨mc,nsK h1,h2⟩⟩
  have e0:Env0 P w K mg (zt9 s₁.heap H) callerA [] s₁ H:=⟨rfl,hM,λ b o e=>zy2 e,Nat.le_of_eq (zpn _ _),trivial,λ b hb=>absurd (show b∈([]:List Addr) from hb) (by simp),hok,.of_eq hg⟩
  refine codeAny_mono ((F _ hKb (nsK hns)).run callerA [] s₁ H ⟨[.ref a],[]⟩ [.ref a] [.ref a] _ _ hr e0 (hbind s₁ (.ref a)) (.cons rfl .nil) (hsp H hO hS)) λ r s' h=>?_
  cases r with
  | error e=>exact (hCX H e s' h).elim
  | ok fl =>
   cases fl with
   | next=>exact False.elim h
   | brk=>exact False.elim h
   | cont=>exact False.elim h
   | ret u =>
    obtain ⟨v,H',os,bare,un,hok',r',q⟩:=h
    have q':v=.bl true:=q
    subst q'
    obtain rfl:u=Value.bool true:=r'
    refine⟨rfl,OldK.of_keep λ b o e=>?_,os,bare⟩
    cases q:H b with
    | none=>exact un.keep b o e q (by intro z;exact absurd (show b∈([]:List Addr) from z) (by simp)) (by simp)
    | some u =>
     rcases hO b with z|⟨ob,xs,z⟩
     ·rw[q] at z;cases z
     ·have z2:=un.frzs b ob _ z
      obtain ⟨e1,_⟩:=hok b _ z
      obtain ⟨e2,_⟩:=hok' b _ z2
      rw[e] at e1;cases e1
      exact e2
 cases hk:K.lookup a with
 | some o =>
  have e:=KX a o hk
  rw[ha] at e
  cases e
  refine zt8 (λ _=>none) (λ _=>.inl rfl) (.inr ⟨_,vs.toArray,_,hk,rfl,rfl,rfl,by rw[List.size_toArray,lenV];exact hl,by simpa using rv⟩) (λ b u z=>by have z':(none:Option HO)=some u:=z;cases z') (λ b z=>absurd rfl z) λ z=>absurd rfl z
 | none =>
  refine zt8 (λ b=>if b=a then some (.frz { cls:=.type "list",data:=.seq vs.toArray } (.lst (ns.map V.int))) else none) (λ b=>?_) (.inl (.inr ⟨{ cls:=.type "list",data:=.seq vs.toArray },if_pos rfl⟩)) (λ b u z=>?_) (λ b z=>?_) λ _=>hk
  ·by_cases hb:b=a
   ·exact .inr ⟨_,_,if_pos hb⟩
   ·exact .inl (if_neg hb)
  ·by_cases hb:b=a
   ·have z':=(if_pos hb).symm.trans z
    cases z'
    subst hb
    exact⟨ha,by rw[List.length_map];exact hl,vs,_,rv,ha⟩
   ·have z':=(if_neg hb).symm.trans z
    cases z'
  ·by_cases hb:b=a
   ·exact hb
   ·exact absurd (if_neg hb) z
theorem walk_of {l:PySem.W.OpenLaw}{n k:Nat}{q:Program}{loose:List Str}{XP:(Str->Option Value)->Heap->Prop}{YP:World->Heap->Prop}{d:DefRec}{K:Params->PySem.W.Frag}{CX:World->CXT}{sp:World->Sp}{x:Str}
  (hn:l.most=some n) (hn2:n<=sizeLine) (hdf:d.params.defaults=[]) (hr:Room k callerA)
  (hY:∀ (w:World) (h:Heap),YP w h->(K w.params).In h)
  (F:∀ (w:World) (mg:Str->Option Value) (fa:Addr) (h:Heap),(K w.params).In h->h.Ns mainGlobals mg->mg d.name=some (.ref fa) →
   ∃ fd:FuncData,(∀ (s:Shared) (u:Value),BindsTo s fd ⟨[u],[]⟩ [(x,u)]) ∧
    ∀ base:Heap,(K w.params).In base->base.Ns mainGlobals mg->FnOk l.prog w (K w.params) mg base (CX w) k fa fd [x] (sp w))
  (hsp:∀ (w:World) (H:Hp) (a:Addr) (ns:List Int),ns.length<=n->z89 H->SqL (K w.params) H a (ns.map V.int)->sp w [.ref a] H (λ v _=>v=.bl true) λ _ _ _=>False)
  (hCX:∀ (w:World) (H:Hp) (s:Shared) (e:Value) (s':Shared),CX w [] H s (λ _ _ _=>False) e s'->False) :
  PySem.W.WalkO q loose XP YP l.row.toRowW d [] (λ f vs=>PySem.call f vs):=by
 refine Att.attach_call hn hdf λ w s₀ s₁ mg mb fa o pm cd doc a vs ns G Y ho hd hcd hmg hobj hints hlen hg=>?_
 have KX:=hY w _ Y
 obtain ⟨fd,hb,hF⟩:=F w mg fa _ KX G.T.g hmg
 exact zul KX G.T.g G.T.b G.T.builtins G.T.nolimit hg hobj hints (Nat.le_trans hlen hn2) hr hF hb (λ H hO hS=>hsp w H a ns hlen hO hS) λ H e s'=>hCX w H s₁ e s'
abbrev CX0:CXT:=λ _ _ _ _ _ _=>False
abbrev E0:XK:=λ _ _ _=>False
theorem zqb {X:Cx}:zpz CX0 X E0:=λ _ _ _ _ _ _ _ h=>h.elim
structure Fun (K:PySem.W.Frag) (x qual:Str) (st:Stmt) (f:Addr) (fd:FuncData):Prop where
 ex:∃ (oc:Value) (od:Option Addr) (kV doc pm:Value) (an:Option Addr) (cdv ct:Value) (osl:Array (Option Value)),
  fd=PySem.W.fnOf x qual (zfe st) (zb9 st) (zad st) .none kV doc pm an cdv ct/\K.lookup f=some ⟨oc,od,.func fd,osl⟩/\PySem.W.codeIn K cdv qual=true
 kp:PySem.W.keepIn K (.ref f)=true
section
variable {P:Program}{w:World}{K:PySem.W.Frag}{mg:Str->Option Value}{base:Heap}
theorem Fun.ok {x qual:Str}{st:Stmt}{f:Addr}{fd:FuncData}{N ps:List Str}{k:Nat}{sp:Sp} (F:Fun K x qual st f fd) (S:FnScope N ps (zad st)) (len:∀ vs H Q E,sp vs H Q E->vs.length=ps.length)
  (hbody:∀ (cdv:Value) (A:Around) (outer:List Env) (s:Shared) (H:Hp) (vs:List V) (Q:VK) (E:XK),Room k (A.deeper (envOfC qual (zad st) s.heap.objs.size f cdv))->sp vs H Q E →
   ∃ t,PSs (zp1 CX0 P w K mg base N qual (zad st) f cdv A outer s H E).nox (zb9 st) t/\t { nx:=λ _ H'=>Q .non H',rt:=Q } (zej N vs) H):FnOk P w K mg base CX0 (k+1) f fd ps sp:=by
 obtain ⟨oc,od,kV,doc,pm,an,cdv,ct,osl,rfl,lk,hcd⟩:=F.ex
 refine z86 lk hcd S len λ A outer s H vs Q E hr hsp=>?_
 obtain ⟨t,h,q⟩:=hbody cdv A outer s H vs Q E hr hsp
 exact⟨t,h.nox,q⟩
theorem Fun.binds {x qual:Str}{st:Stmt}{f:Addr}{fd:FuncData}{ps:List Str} (F:Fun K x qual st f fd)
  (h:∀ (kV doc pm:Value) (an:Option Addr) (cdv ct:Value) (us:List Value),us.length=ps.length->bindArgs (PySem.W.fnOf x qual (zfe st) (zb9 st) (zad st) .none kV doc pm an cdv ct) ⟨us,[]⟩=pure (ps.zip us)):zdo K fd ps []:=by
 obtain ⟨oc,od,kV,doc,pm,an,cdv,ct,osl,rfl,lk,hcd⟩:=F.ex
 exact .all (h kV doc pm an cdv ct)
theorem zav {x qual:Str}{st:Stmt}{f:Addr}{oc:Value}{od an:Option Addr}{osl:Array (Option Value)}{kV doc pm cdv ct:Value} (l:K.lookup f=some ⟨oc,od,.func (PySem.W.fnOf x qual (zfe st) (zb9 st) (zad st) .none kV doc pm an cdv ct),osl⟩)
  (c:PySem.W.codeIn K cdv qual=true) (k:PySem.W.keepIn K (.ref f)=true):Fun K x qual st f (PySem.W.fnOf x qual (zfe st) (zb9 st) (zad st) .none kV doc pm an cdv ct):=⟨⟨oc,od,kV,doc,pm,an,cdv,ct,osl,rfl,l,c⟩,k⟩
end
def zar (H H':Hp):Prop:=∀ b o,H b=some o->H' b=some o
theorem zar.refl (H:Hp):zar H H:=λ _ _ h=>h
theorem zar.trans {H H1 H2:Hp} (a:zar H H1) (b:zar H1 H2):zar H H2:=λ c o h=>b c o (a c o h)
theorem zar.free {H H':Hp} (e:zar H H') {l:Addr} (h:H' l=Option.none):H l=Option.none:=by
 cases q:H l with
 | none=>rfl
 | some o =>
  rw[e l o q] at h
  cases h
theorem zar.seq {K:PySem.W.Frag}{H H':Hp}{a:Addr}{xs:List V} (e:zar H H') (h:SqL K H a xs):SqL K H' a xs:=by
 rcases h with (h|⟨o,h⟩)|h
 ·exact .inl (.inl (e _ _ h))
 ·exact .inl (.inr ⟨o,e _ _ h⟩)
 ·exact .inr h
def zqc (env:Env) (x:Str) (k:NameKind):NameKind:=if (k == NameKind.free && env.scope.kind == .function && env.kindOf x == some .cell)=true then NameKind.cell else k
theorem zh1 {env:Env}:∀ (names:List (Str×NameKind)) (x:Str),
  (names.map λ (n,k)=>if (k == NameKind.free && env.scope.kind == .function && env.kindOf n == some .cell) then (n,NameKind.cell) else (n,k)).lookup x=(names.lookup x).map (zqc env x)
 | [],_=>rfl
 | (n,k)::r,x=>by
  have ih:=zh1 (env:=env) r x
  show List.lookup x ((if (k == NameKind.free && env.scope.kind == .function && env.kindOf n == some .cell)=true then (n,NameKind.cell) else (n,k))::_)=_
  cases hx:x == n with
  | true =>
   have e:x=n:=by simpa using hx
   subst e
   by_cases hc:(k == NameKind.free && env.scope.kind == .function && env.kindOf x == some .cell)=true
   ·rw[if_pos hc];simp only[List.lookup_cons,hx,Option.map_some,zqc,if_pos hc]
   ·rw[if_neg hc];simp only[List.lookup_cons,hx,Option.map_some,zqc,if_neg hc]
  | false =>
   by_cases hc:(k == NameKind.free && env.scope.kind == .function && env.kindOf n == some .cell)=true
   ·rw[if_pos hc];simp only[List.lookup_cons,hx];exact ih
   ·rw[if_neg hc];simp only[List.lookup_cons,hx];exact ih
theorem zfi (scope:Scope) (env:Env) (x:Str):(relabel scope env).names.lookup x=(scope.names.lookup x).map (zqc env x):=zh1 _ _
def zcs (env:Env):List (Str×NameKind)->List (Str×Addr)->List (Str×Addr)
 | [],cs=>cs
 | (n,k)::r,cs=>zcs env r (if (k == NameKind.free)=true then (n,(env.cells.lookup n).getD 0)::cs else cs)
theorem zh2 {scope:Scope}{env:Env} (h:∀ y∈scope.names,y.2=.free->∃ c,env.cells.lookup y.1=some c):closureFor scope env=pure (zcs env scope.names []):=by
 unfold closureFor
 generalize scope.names=names at h
 have key:∀ (names:List (Str×NameKind)) (cs:List (Str×Addr)),(∀ y∈names,y.2=.free->∃ c,env.cells.lookup y.1=some c) →
   (forIn names cs (λ (x:Str×NameKind) (r:List (Str×Addr))=>match x with|(name,kind)=>(if (kind == NameKind.free)=true then (do let a ← cellOf env name;pure (ForInStep.yield ((name,a)::r))) else pure (ForInStep.yield r):Sem (ForInStep (List (Str×Addr))))))=pure (zcs env names cs):=by
  intro names
  induction names with
  | nil=>intro cs _;rfl
  | cons y r ih =>
   intro cs hy
   obtain ⟨n,k⟩:=y
   rw[List.forIn_cons]
   by_cases hk:k=.free
   ·subst hk
    obtain ⟨c,hc⟩:=hy (n,.free) List.mem_cons_self rfl
    have e1:cellOf env n=pure c:=by unfold cellOf;rw[hc]
    have e2:=ih ((n,c)::cs) λ z hz=>hy z (List.mem_cons_of_mem _ hz)
    have e3:zcs env ((n,NameKind.free)::r) cs=zcs env r ((n,c)::cs):=by
     show zcs env r (if (NameKind.free == NameKind.free)=true then (n,(env.cells.lookup n).getD 0)::cs else cs)=_
     rw[if_pos (show (NameKind.free == NameKind.free)=true by decide),show env.cells.lookup n=some c from hc]
     rfl
    rw[e3,<-e2]
    simp only[beq_self_eq_true,if_true,e1]
    rfl
   ·have hb:(k == NameKind.free)=false:=by simpa using hk
    have e2:=ih cs λ z hz=>hy z (List.mem_cons_of_mem _ hz)
    have e3:zcs env ((n,k)::r) cs=zcs env r cs:=by
     show zcs env r (if (k == NameKind.free)=true then (n,(env.cells.lookup n).getD 0)::cs else cs)=_
     rw[if_neg (by rw[hb];exact Bool.false_ne_true)]
    rw[e3,<-e2]
    simp only[hb,Bool.false_eq_true,if_false]
    rfl
 have e:=key names [] h
 refine Eq.trans ?_ (Eq.trans (congrArg (λ t:Sem (List (Str×Addr))=>t >>= λ r=>pure r) e) ?_)
 ·rfl
 ·rfl
theorem zit {env:Env}:∀ (names:List (Str×NameKind)) (cs:List (Str×Addr)),(∀ y∈names,y.2=.free->∃ c,env.cells.lookup y.1=some c)->(∀ x c,cs.lookup x=some c->env.cells.lookup x=some c) →
  ∀ x c,(zcs env names cs).lookup x=some c->env.cells.lookup x=some c
 | [],cs,_,hc,x,c,h=>hc x c h
 | (n,k)::r,cs,hy,hc,x,c,h=>by
  refine zit r _ (λ z hz=>hy z (List.mem_cons_of_mem _ hz)) (λ z d hd=>?_) x c h
  by_cases hk:k=.free
  ·subst hk
   obtain ⟨a,ha⟩:=hy (n,.free) List.mem_cons_self rfl
   rw[if_pos (show (NameKind.free == NameKind.free)=true by decide),show env.cells.lookup n=some a from ha] at hd
   rw[List.lookup_cons] at hd
   cases hz:z == n with
   | true =>
    have e:z=n:=by simpa using hz
    subst e
    rw[hz] at hd
    rw[ha];exact hd
   | false=>rw[hz] at hd;exact hc z d hd
  ·have hb:(k == NameKind.free)=false:=by simpa using hk
   rw[if_neg (by rw[hb];exact Bool.false_ne_true)] at hd
   exact hc z d hd
theorem zxd {env:Env}{x:Str}:∀ (names:List (Str×NameKind)) (cs:List (Str×Addr)),(names.lookup x=some .free\/∃ c,cs.lookup x=some c)->∃ c,(zcs env names cs).lookup x=some c
 | [],cs,h=>by
  rcases h with h|h
  ·cases h
  ·exact h
 | (n,k)::r,cs,h=>by
  refine zxd r _ ?_
  cases hx:x == n with
  | true =>
   rcases h with h|⟨c,h⟩
   ·rw[List.lookup_cons,hx] at h
    cases h
    refine .inr ⟨(env.cells.lookup n).getD 0,?_⟩
    rw[if_pos (show (NameKind.free == NameKind.free)=true by decide),List.lookup_cons,hx]
   ·by_cases hk:(k == NameKind.free)=true
    ·refine .inr ⟨(env.cells.lookup n).getD 0,?_⟩
     rw[if_pos hk,List.lookup_cons,hx]
    ·exact .inr ⟨c,by rw[if_neg hk];exact h⟩
  | false =>
   rcases h with h|⟨c,h⟩
   ·rw[List.lookup_cons,hx] at h
    exact .inl h
   ·refine .inr ⟨c,?_⟩
    by_cases hk:(k == NameKind.free)=true
    ·rw[if_pos hk,List.lookup_cons,hx];exact h
    ·rw[if_neg hk];exact h
def zkg (X:Cx) (vars:List Str) (cap:List Nat):List Str:=vars++cap.map λ i=>X.N.getD i ""
def zd8 (n:Nat) (cap:List Nat) (σ:St):St:=List.replicate n none++cap.map λ i=>(σ[i]?).getD none
def zau (X:Cx) (scope:Scope) (C:Addr) (vars:List Str) (cap:List Nat) (s:Shared) (H:Hp) (ex:List Addr):Cx :=
 { X with N:=zkg X vars cap,s₀:=s,H₀:=H,env:=compEnvC scope (zcs X.env scope.names []) C X.env,outer:=X.stack,stack:=X.stack,ex:=ex,fn:=λ _=>false,xe:=λ _ _=>False }
structure CScope (X:Cx) (scope:Scope):Prop where
 kind:scope.kind=.function
 cell:∀ y∈scope.names,y.2≠.cell
 names:∀ y∈scope.names,y.2=.local->scope.names.lookup y.1=some .local
 free:∀ y∈scope.names,y.2=.free->X.env.kindOf y.1=some .cell\/X.env.kindOf y.1=some .free
section
variable {X:Cx}{pins:List (Addr×Obj)}{σ:St}{H:Hp}{s:Shared}
theorem HOk.track {P:Program}{w:World}{h:Heap}{a:Addr}{o:HO} (x:HOk P w H h) (hn:H a=none) (new:zbb P w (upd H a o) h a o):HOk P w (upd H a o) h:=λ b u e=>by
 by_cases hb:b=a
 ·subst hb;rw[zac] at e;cases e;exact new
 ·rw[zaf hb] at e
  exact (x b u e).stay (λ c v _ q=>q) (λ c q=>by rw[zaf (zam q hn)];exact q) λ c xs q=>by rw[zaf (zam q hn)];exact q
theorem Un.later {fs ex:List Addr}{H H1 H2:Hp}{h h1 h2:Heap} (u:Un fs ex H H1 h h1) (hH:∀ b o,H b=some o->b<h.objs.size) (k:∀ b o,b<h.objs.size->h1.get? b=some o->h2.get? b=some o) (e:∀ b,b<h.objs.size->H2 b=H1 b):Un fs ex H H2 h h2 where
 keep:=λ b o q n hb hx=>k b o (Heap.lt_size q) (u.keep b o q n hb hx)
 slot:=λ b o q n hb hx=>by
  obtain ⟨sl,z⟩:=u.slot b o q n hb hx
  exact⟨sl,k b _ (Heap.lt_size q) z⟩
 free:=λ b o q n hx=>by rw[e b (Heap.lt_size q)];exact u.free b o q n hx
 there:=λ b o q hx=>by
  obtain ⟨o',z⟩:=u.there b o q hx
  exact⟨o',k b o' (Heap.lt_size q) z⟩
 tups:=λ b xs q=>by rw[e b (hH b _ q)];exact u.tups b xs q
 frzs:=λ b o v q=>by rw[e b (hH b _ q)];exact u.frzs b o v q
 tbls:=λ b ps q=>by
  obtain ⟨m,z⟩:=u.tbls b ps q
  exact⟨m,by rw[e b (hH b _ q)];exact z⟩
theorem CScope.cells {scope:Scope} (S:CScope X scope) (I:Inv X pins σ H s):∀ y∈scope.names,y.2=.free->∃ c,X.env.cells.lookup y.1=some c:=λ y hy hf=>I.ok.has y.1 (S.free y hy hf)
theorem zd4 {α:Type}:∀ {l:List (Str×α)}{x:Str}{v:α},l.lookup x=some v->(x,v)∈l:=λ h=>PySem.mem_of_lookup h
theorem zok {scope:Scope}{vars:List Str}{cap:List Nat}{fp:List Addr}{h1:Heap}{t':Nat}{m:Str->Option Value}{C:Addr} (S:CScope X scope) (I:Inv X pins σ H s) (hcap:∀ i∈cap,i<X.N.length/\scope.names.lookup (X.N.getD i "")≠some .local)
  (hfp:∀ b∈fp,zt1 X pins H b) (hob:∀ b∈fp,b<s.heap.objs.size) (hC:s.heap.objs.size<=C) (hk:∀ b o,s.heap.get? b=some o->h1.get? b=some o) (hn:h1.Ns C m) :
  Inv (zau X scope C vars cap s H fp) pins (zd8 vars.length cap σ) H { s with heap:=h1,toks:=t' }:=by
 have hcells:=S.cells I
 have snd:=zit (env:=X.env) scope.names [] hcells (λ x c h=>by cases h)
 have hlt:∀ b o,H b=some o->b<s.heap.objs.size:=λ b o e=>I.hok.lt e
 have stk:∀ b,b∈frs X.stack->b<s.heap.objs.size:=λ b hb=>by
  rcases List.mem_cons.mp (I.stkSub b hb) with e|e
  ·rw[e];exact I.lt
  ·obtain ⟨_,o,ho,_⟩:=I.ok.funs.mem e
   exact Nat.lt_of_lt_of_le (Heap.lt_size ho) I.sz
 have kinds:∀ x,((zau X scope C vars cap s H fp).env.kindOf x=some .cell\/(zau X scope C vars cap s H fp).env.kindOf x=some .free)->scope.names.lookup x=some .free:=λ x h=>by
  have h':(scope.names.lookup x).map (zqc X.env x)=some .cell\/(scope.names.lookup x).map (zqc X.env x)=some .free:=by
   rw[<-zfi scope X.env x];exact h
  cases e:scope.names.lookup x with
  | none=>rw[e] at h';rcases h' with z|z <;> cases z
  | some k =>
   have nc:k≠.cell:=S.cell (x,k) (zd4 e)
   rw[e] at h'
   unfold zqc at h'
   cases k <;> first|rfl|exact absurd rfl nc|(simp at h')
 have okc:(zau X scope C vars cap s H fp).Ok:=by
  refine⟨I.ok.mod,S.kind,I.ok.glob,I.ok.blt,hC,λ x y c h1 h2=>I.ok.inj x y c (snd x c h1) (snd y c h2),λ x hx=>zxd scope.names [] (.inl (kinds x hx)),λ x c h=>(Bool.false_ne_true h).elim,I.ok.hd,I.ok.frames,.inl rfl,
   λ b hb=>⟨?_,λ x c h=>(hfp b hb).2.2.2.2.1 x c (snd x c h)⟩,λ b o e=>I.bs b o e,Nat.le_trans I.ok.bsz I.sz,λ b o e hb=>?_,λ b hb hfs=>?_,I.stack,I.stkFree⟩
  ·exact Nat.ne_of_lt (Nat.lt_of_lt_of_le (hob b hb) hC)
  ·rcases (hfp b hb).2.2.2.1 with z|z
   ·exact I.ok.noex b o e z
   ·exact absurd (Nat.lt_of_lt_of_le (Heap.lt_size (I.ok.bs b o e).1) z) (Nat.lt_irrefl _)
  ·rcases List.mem_cons.mp (I.stkSub b hfs) with z|z
   ·exact (hfp b hb).2.1 z
   ·exact (hfp b hb).2.2.1 z
 refine⟨okc,rfl,I.bare,Un.kept hk,⟨m,hn,λ i x v e1 e2 e3=>?_⟩,λ x c e=>?_,I.hok.fresh hC,λ x c e=>I.freeC x c (snd x c e),λ p hp=>?_,I.hok.kept hk,?_⟩
 ·-- the names of around
  have e1:(zkg X vars cap)[i]?=some x:=e1
  have e3':(relabel scope X.env).names.lookup x=some .local\/(relabel scope X.env).names.lookup x=some .cell\/(relabel scope X.env).names.lookup x=some .free:=e3
  unfold zd8 at e2
  by_cases hi:i<vars.length
  ·rw[List.getElem?_append_left (by simpa using hi),List.getElem?_replicate] at e2
   split at e2 <;> cases e2
  ·rw[List.getElem?_append_right (by simpa using hi),List.length_replicate,List.getElem?_map] at e2
   unfold zkg at e1
   rw[List.getElem?_append_right (by omega),List.getElem?_map] at e1
   cases ej:cap[i - vars.length]? with
   | none=>rw[ej] at e1;cases e1
   | some j =>
    rw[ej] at e1 e2
    have hj:j<X.N.length:=(hcap j (List.mem_of_getElem? ej)).1
    have eN:X.N[j]?=some x:=by
     have z:X.N.getD j "" = x:=Option.some.inj e1
     rw[List.getD_eq_getElem?_getD] at z
     cases q:X.N[j]? with
     | none=>rw[List.getElem?_eq_none_iff] at q;omega
     | some y=>rw[q] at z;exact congrArg some z
    have eσ:σ[j]?=some (some v):=by
     have z:(σ[j]?).getD none=some v:=Option.some.inj e2
     cases q:σ[j]? with
     | none=>rw[q] at z;cases z
     | some y=>rw[q] at z;exact congrArg some z
    rw[zfi] at e3'
    cases e4:scope.names.lookup x with
    | none=>rw[e4] at e3';rcases e3' with z|z|z <;> cases z
    | some k =>
     rw[e4] at e3'
     have nl:k≠.local:=λ z=>by
      have z0:X.N.getD j "" = x:=Option.some.inj e1
      exact (hcap j (List.mem_of_getElem? ej)).2 (by rw[z0,e4,z])
     have nc:k≠.cell:=S.cell (x,k) (zd4 e4)
     have kf:k=.free:=by
      unfold zqc at e3'
      cases k <;> first|rfl|exact absurd rfl nc|exact absurd rfl nl|(simp at e3')
     subst kf
     have vis:Vis X.env.scope x:=by
      rcases S.free (x,.free) (zd4 e4) rfl with z|z
      ·exact .inr (.inl z)
      ·exact .inr (.inr z)
     obtain ⟨m0,hn0,hl0⟩:=I.loc
     obtain ⟨u,r,l⟩:=hl0 j x v eN eσ vis
     refine⟨u,r,.inr ?_⟩
     have kk:(zau X scope C vars cap s H fp).env.kindOf x=some .cell\/(zau X scope C vars cap s H fp).env.kindOf x=some .free:=by
      show (relabel scope X.env).names.lookup x=some .cell\/(relabel scope X.env).names.lookup x=some .free
      rw[zfi,e4]
      show some (zqc X.env x .free)=some .cell\/some (zqc X.env x .free)=some .free
      unfold zqc
      split
      ·exact .inl rfl
      ·exact .inr rfl
     obtain ⟨c,hc⟩:=okc.has x kk
     refine⟨kk,c,hc,?_⟩
     have hc':=snd x c hc
     rcases l with ⟨k1,_⟩|⟨_,c2,hc2,z⟩
     ·rcases S.free (x,.free) (zd4 e4) rfl with z|z
      ·have z:X.env.kindOf x=some .cell:=z
       rw[k1] at z;cases z
      ·have z:X.env.kindOf x=some .free:=z
       rw[k1] at z;cases z
     ·rw[hc'] at hc2;cases hc2
      exact Heap.IsCell.keeps z hk
 ·obtain ⟨v,z⟩:=I.cell x c (snd x c e)
  exact⟨v,Heap.IsCell.keeps z hk⟩
 ·obtain ⟨e,n,ne,nf,d⟩:=I.pin p hp
  refine⟨hk _ _ e,n,Nat.ne_of_lt (Nat.lt_of_lt_of_le (Heap.lt_size e) hC),λ z=>?_,d⟩
  rcases List.mem_cons.mp (I.stkSub p.1 z) with q|q
  ·exact ne q
  ·exact nf q
 ·unfold zd8
  show _=(zkg X vars cap).length
  unfold zkg
  simp
theorem Inv.repin {a:Addr}{o o':Obj}{h':Heap}{t':Nat} (I:Inv X (pins++[(a,o)]) σ H s) (hp:∀ p∈X.pn++pins,p.1≠a) (h1:a∈X.ex\/X.s₀.heap.objs.size<=a) (k:∀ b u,b≠a->s.heap.get? b=some u->h'.get? b=some u) (e:h'.get? a=some o') (hd:∀ v,o'.data≠.cell v) :
  Inv X (pins++[(a,o')]) σ H { s with heap:=h',toks:=t' }:=by
 obtain ⟨e0,n0,ne0,nf0,d0⟩:=I.pin (a,o) (by simp)
 have I1:Inv X pins σ H s:=I.unpinned
 have cne:∀ x c,X.env.cells.lookup x=some c->c≠a:=λ x c q z=>by
  subst z
  obtain ⟨v,ob,hob,hdv⟩:=I.cell x c q
  have e0:s.heap.get? c=some o:=e0
  rw[e0] at hob;cases hob
  exact d0 v hdv
 have I2:Inv X pins σ H { s with heap:=h',toks:=t' }:=I1.turned (it:=a) k n0 ne0 h1 cne hp
 refine I2.pins_of λ p hpp=>?_
 rcases List.mem_append.mp hpp with z|z
 ·exact I2.pin p (List.mem_append_right _ z)
 ·have z:p=(a,o'):=by simpa using z
  subst z
  exact⟨e,n0,ne0,nf0,hd⟩
theorem Inv.pinnew {a:Addr}{o:Obj} (I:Inv X pins σ H s) (e:s.heap.get? a=some o) (hn:H a=none) (hL:a≠X.env.locals) (hf:a ∉ X.fs) (hd:∀ v,o.data≠.cell v):Inv X (pins++[(a,o)]) σ H s:=by
 refine I.pins_of λ p hpp=>?_
 rcases List.mem_append.mp hpp with z|z
 ·exact I.pin p (List.mem_append_right _ z)
 ·have z:p=(a,o):=by simpa using z
  subst z
  exact⟨e,hn,hL,hf,hd⟩
def zt2 (X:Cx) (ifs:List Expr) (t:TT):Prop :=
 ∀ (pins:List (Addr×Obj)) (s:Shared) (σ:St) (H:Hp) (Q:Bool->Hp->Prop),Inv X pins σ H s->t σ H Q →
  wpAny (model X.prog X.w) X.A (forIn ifs true λ c r=>if r=true then do let ok ← isTrue c X.env (eval c X.env);pure (ForInStep.yield ok) else pure (ForInStep.yield r)) (TP X pins σ Q) X.xe s
def ycl:TT:=λ _ H Q=>Q true H
theorem z30:zt2 X [] ycl:=λ pins s σ H Q I h=>wpAny_tests_nil ⟨H,I,h⟩
theorem z31 {c:Expr}{t:TT} (h:PT X c t):zt2 X [c] t:=λ pins s σ H Q I hw=>wpAny_tests_one (h pins s σ H Q I hw)
theorem zkh {prog:Program}{w:World}{A:Around}{R:Result->Shared->Prop}{s:Shared}{elt target iter:Expr}{ifs:List Expr}{scope:Scope}{pos:Pos}{it acc:Value}{env:Env} (I:Nat->Shared->Prop)
  (turn:∀ n s,I n s->wpAny (model prog w) A (pyNext it) (λ r s₁=>match r with
   | none=>R (.ok .next) s₁
   | some v=>wpAny (model prog w) A (letOwnedTupleGo target it v) (λ _ s₁'=>wpAny (model prog w) A (assign target env v) (λ _ s₂ =>
     wpAny (model prog w) A (forIn ifs true λ c r=>if r=true then do let ok ← isTrue c env (eval c env);pure (ForInStep.yield ok) else pure (ForInStep.yield r)) (λ ok s₃ =>
      if ok=true then wpAny (model prog w) A (eval elt env) (λ x s₄ =>
       wpAny (model prog w) A (call (.builtin "list.append") [acc,x]) (λ _ s₅=>∃ m,m<n/\I m s₅) (λ _ _=>False) s₄) (λ _ _=>False) s₃
      else ∃ m,m<n/\I m s₃) (λ _ _=>False) s₂) (λ _ _=>False) s₁') (λ _ _=>False) s₁) (λ _ _=>False) s)
  (n:Nat) (h:I n s) :
  codeAny (model prog w) A (.compLoop (.ListComp elt [⟨target,iter,ifs,0⟩] scope pos) 0 it acc env) R s:=by
 refine codeAny_loop rfl I (λ n s hI=>?_) n h
 show wpAny _ A ((compTurn (.ListComp elt [⟨target,iter,ifs,0⟩] scope pos) 0 it acc env).onRaise (λ x=>do noteFrame x env;theTreesLotGoes x)) _ _ s
 refine wpAny_noted ?_
 rw[compTurn_list]
 refine wpAny_bind (wpAny_standAt (wpAny_bind (wpAny_mono (turn n s hI) (λ r s₁ h₁=>?_) λ _ _ h'=>h'.elim)))
 cases r with
 | none=>exact wpAny_pure h₁
 | some v =>
  refine wpAny_bind (wpAny_mono h₁ (λ _ s₁' h₁'=>?_) λ _ _ h'=>h'.elim)
  refine wpAny_bind (wpAny_mono h₁' (λ _ s₂ h₂=>wpAny_bind (wpAny_mono h₂ (λ ok s₃ h₃=>?_) λ _ _ h'=>h'.elim)) λ _ _ h'=>h'.elim)
  cases ok with
  | false=>exact wpAny_pure ⟨rfl,h₃⟩
  | true =>
   exact wpAny_bind (wpAny_bind (wpAny_mono h₃ (λ x s₄ h₄=>wpAny_bind (wpAny_mono h₄ (λ _ s₅ h₅=>wpAny_pure (wpAny_pure ⟨rfl,h₅⟩)) λ _ _ h'=>h'.elim)) λ _ _ h'=>h'.elim))
end
def Sub (σ σ':St):Prop:=σ'.length=σ.length/\∀ (i:Nat) v,σ[i]?=some (some v)->σ'[i]?=some (some v)
def zzf (J:It) (g:TG) (tt:TT) (te:TE) (σc:St) (Q:List V->Hp->Prop) (H1:Hp):Prop :=
 ∃ W:Nat->Nat->List V->Hp->Prop,(∃ m,W 0 m [] H1)/\∀ i m ys H,W i m ys H →
  (J.stop i H/\Q ys H)\/(J.go i H/\ys.length<sizeLine/\∃ N:List V->Hp->Prop,(∀ ys' H',N ys' H'->∃ m',m'<m/\W (i+1) m' ys' H') ∧
   ∀ x H',J.yld i H x H'->g x σc H' λ σ2 H2=>Sub σc σ2/\tt σ2 H2 λ b H3=>if b=true then te σ2 H3 λ y H4=>N (ys++[y]) H4 else N ys H3)
def zzg (wi:TI) (g:TG) (tt:TT) (te:TE) (n:Nat) (cap:List Nat):TE:=λ σ H Q=>wi σ H λ J H1 =>
 zzf J g tt te (zd8 n cap σ) (λ ys H'=>ys.length<=sizeLine/\∀ D,H' D=none->Q (.ref D) (upd H' D (.lst ys))) H1
abbrev zum (us:List Value) (n:Nat):Obj:={ cls:=.type "list",data:=.seq us.toArray n }
section
variable {X:Cx}{elt iter tg:Expr}{ifs:List Expr}{scope:Scope}{pos:Pos}{wi:TI}{g:TG}{tt:TT}{te:TE}{vars:List Str}{cap:List Nat}
theorem zh3 {pins:List (Addr×Obj)}{σ:St}{H:Hp}{s:Shared}{it:Addr}{fp:List Addr}{tn:Nat->Heap->Prop}{J:It}{Q:List V->Hp->Prop}{RR:Value->Addr->Result->Shared->Prop}{E:Value->Shared->Prop}
  (hc:X.calm=true) (S:CScope X scope) (hcap:∀ i∈cap,i<X.N.length/\scope.names.lookup (X.N.getD i "")≠some .local) (I:Inv X pins σ H s) (T:Turn X.prog X.w X.K tg J fp it tn) (st:tn 0 s.heap) (hf:∀ b∈fp,zt1 X pins H b)
  (hg:∀ s H C ex,PG (zau X scope C vars cap s H ex) tg g) (ht:∀ s H C ex,zt2 (zau X scope C vars cap s H ex) ifs tt) (he:∀ s H C ex,PE (zau X scope C vars cap s H ex) elt te)
  (hL:zzf J g tt te (zd8 vars.length cap σ) (λ ys H'=>ys.length<=sizeLine/\Q ys H') H)
  (fin:∀ (D C:Addr) (ys:List V) (H':Hp) (s':Shared) (m:Str->Option Value),Q ys H'->H' D=none->Inv X pins σ (upd H' D (.lst ys)) s'->s'.heap.Ns C m->(upd H' D (.lst ys)) C=none->C≠X.env.locals->X.s₀.heap.objs.size<=C →
   (∀ x c,X.env.cells.lookup x=some c->c≠C)->(∀ p∈X.pn++pins,p.1≠C)->RR (.ref D) C (.ok .next) s') :
  wpAny (model X.prog X.w) X.A (newList []) (λ acc s₃=>wpAny (model X.prog X.w) X.A (newFunctionEnv scope X.env.globals (zcs X.env scope.names []) [] X.env.qual none .none (some X.env)) (λ cenv s₄ =>
   codeAny (model X.prog X.w) X.A (.compStart (.ListComp elt [⟨tg,iter,ifs,0⟩] scope pos) 0 (.ref it) acc { cenv with scope:=relabel scope X.env }) (RR acc cenv.locals) s₄) E s₃) E s:=by
 refine wpAny_newObj_type (wpAny_newFunctionEnv S.cell (by intro y hy;simp at hy) (λ h₁ hns₁ hsb₁=>?_) S.kind)
 dsimp only at hns₁ hsb₁ ⊢
 generalize hH2:s.heap.push { cls:=.type "list",dict:=none,data:=.seq ([]:List Value).toArray }=H2 at hns₁ hsb₁ ⊢
 have hC:H2.objs.size=s.heap.objs.size+1:=by rw[<-hH2,Heap.size_push]
 generalize hCe:H2.objs.size=C at hns₁ hsb₁ hC ⊢
 generalize hDe:s.heap.objs.size=D at hC ⊢
 have hDC:D≠C:=by rw[hC];exact Nat.ne_of_lt (Nat.lt_succ_self _)
 have below:∀ b,b<s.heap.objs.size->b≠C/\b≠D:=λ b hb=>by
  rw[hDe] at hb
  exact⟨by rw[hC];exact Nat.ne_of_lt (Nat.lt_succ_of_lt hb),Nat.ne_of_lt hb⟩
 have old:∀ b o,s.heap.get? b=some o->h₁.get? b=some o:=λ b o e=>hsb₁.extBut b o (below b (Heap.lt_size e)).1 (Heap.get?_push_of_some _ (hH2 ▸ Heap.get?_push_of_some _ e))
 have hacc:h₁.get? D=some (zum [] 0):=hsb₁.extBut _ _ hDC (Heap.get?_push_of_some _ (by rw[<-hH2,<-hDe];exact Heap.get?_push_size _ rfl))
 have hCle:s.heap.objs.size<=C:=by rw[hC,<-hDe];exact Nat.le_succ _
 have hob:∀ b∈fp,b<s.heap.objs.size:=λ b hb=>by
  obtain ⟨o,e,_⟩:=T.obj 0 _ st b hb
  exact Heap.lt_size e
 have I0:Inv (zau X scope C vars cap s H fp) pins (zd8 vars.length cap σ) H { s with heap:=h₁,toks:=s.toks+([]:List (Str×Value)).length }:=zok S I hcap hf hob hCle old hns₁
 have stkb:∀ b,b∈frs X.stack->b<s.heap.objs.size:=λ b hb=>by
  rcases List.mem_cons.mp (I.stkSub b hb) with e|e
  ·rw[e];exact I.lt
  ·obtain ⟨_,o,ho,_⟩:=I.ok.funs.mem e
   exact Nat.lt_of_lt_of_le (Heap.lt_size ho) I.sz
 have snd:=zit (env:=X.env) scope.names [] (S.cells I) (λ x c h=>by cases h)
 have hDfs:D ∉ (zau X scope C vars cap s H fp).fs:=λ z=>absurd (stkb D z) (by rw[hDe];exact Nat.lt_irrefl _)
 have hHD:H D=none:=I.hok.fresh (by rw[hDe];exact Nat.le_refl _)
 have I1:=I0.pinnew (a:=D) hacc hHD hDC hDfs (λ v z=>by cases z)
 have pnD:∀ p∈(zau X scope C vars cap s H fp).pn++pins,p.1≠D:=λ p hp=>Nat.ne_of_lt (by rw[<-hDe];exact Heap.lt_size (I.pin p hp).1)
 have stat:∀ {us:List Value} {n:Nat} {H':Hp},(∀ b∈fp,H' b=none)->∀ b∈fp,zt1 (zau X scope C vars cap s H fp) (pins++[(D,zum us n)]) H' b:=λ {us n H'} hn b hb=>by
  obtain ⟨f0,f1,f2,f3,f4,f5⟩:=hf b hb
  refine⟨hn b hb,(below b (hob b hb)).1,λ z=>?_,.inl hb,λ x c e=>f4 x c (snd x c e),λ p hp=>?_⟩
  ·rcases List.mem_cons.mp (I.stkSub b z) with q|q
   ·exact f1 q
   ·exact f2 q
  ·have hp:p∈X.pn++(pins++[(D,zum us n)]):=hp
   rw[<-List.append_assoc] at hp
   rcases List.mem_append.mp hp with q|q
   ·exact f5 p q
   ·have q:p=(D,zum us n):=by simpa using q
    subst q
    exact λ z=>(below b (hob b hb)).2 z.symm
 have st1:tn 0 h₁:=T.keep 0 _ _ st λ b _ o e=>old b o e
 obtain ⟨W,⟨m0,w0⟩,turn⟩:=hL
 have loop:∀ s₃:Shared,s₃={ s with heap:=h₁,toks:=s.toks+([]:List (Str×Value)).length } →
   codeAny (model X.prog X.w) X.A (.compLoop (.ListComp elt [⟨tg,iter,ifs,0⟩] scope pos) 0 (.ref it) (.ref D) (compEnvC scope (zcs X.env scope.names []) C X.env)) (RR (.ref D) C) s₃:=by
  rintro s₃ rfl
  refine zkh (env:=(zau X scope C vars cap s H fp).env) (λ n s'=>∃ i ys us k H',Inv (zau X scope C vars cap s H fp) (pins++[(D,zum us k)]) (zd8 vars.length cap σ) H' s'/\zbj ys us/\tn i s'.heap/\(∀ b∈fp,H' b=none)/\W i n ys H') ?_ m0
   ⟨0,[],[],0,H,I1,.nil,st1,λ b hb=>(hf b hb).1,w0⟩
  rintro n s3 ⟨i,ys,us,k,H3,I3,rv3,st3,fr3,w3⟩
  rcases turn i n ys H3 w3 with ⟨stop,hz,qn⟩|⟨go,hz,N,hN,step⟩
  ·refine thn (T.done (zau X scope C vars cap s H fp) rfl rfl rfl hc i _ s3 _ H3 (λ _ _=>False) I3 (stat fr3) st3 stop) λ r s4 ⟨hr,I4⟩=>?_
   subst hr
   obtain ⟨eD,nD,_,_,_⟩:=I4.pin (D,zum us k) (by simp)
   obtain ⟨m4,ns4,_⟩:=id I4.loc
   have hC3:H3 C=none:=I4.free
   refine fin D C ys H3 s4 m4 qn nD ?_ ns4 (by rw[zaf (Ne.symm hDC)];exact hC3) (Ne.symm (below _ I.lt).1) (Nat.le_trans I.sz hCle) (λ x c e=>?_) (λ p hp=>(below _ (Heap.lt_size (I.pin p hp).1)).1)
   ·refine I.call' (ch:=fp) I4.os (Un.later I4.base (λ b o e=>I.hok.lt e) (λ b o _ q=>q) λ b hb=>by rw[zaf (below b hb).2]) ?_ I4.bare λ b hb=>?_
    ·exact I4.hok.track nD ⟨hz,us,k,rv3,eD⟩
    ·obtain ⟨f0,f1,f2,f3,f4,f5⟩:=hf b hb
     exact⟨f3,f1,f4,f5⟩
   ·obtain ⟨v,z⟩:=I.cell x c e
    exact (below _ z.lt).1
  ·refine thn (T.item (zau X scope C vars cap s H fp) rfl rfl rfl hc i _ s3 _ H3 (λ _ _=>False) I3 (stat fr3) st3 go) λ r s4 ⟨u,hr,h4⟩=>?_
   subst hr
   refine thn h4 λ _ s5 ⟨x,H5,I5,r5,y5,st5,fr5⟩=>?_
   have I5':=I5.pinned (stat fr5) (T.obj _ _ st5)
   refine thn (hg s H C fp _ s5 _ H5 x u _ I5' r5 (step x H5 y5)) λ _ s6 ⟨σ6,H6,I6,sub6,q6⟩=>?_
   have again:∀ {σ7:St} {H7:Hp} {s7:Shared},Inv (zau X scope C vars cap s H fp) (pins++[(D,zum us k)]++zj3 fp s5.heap) σ7 H7 s7->Sub (zd8 vars.length cap σ) σ7 →
     Inv (zau X scope C vars cap s H fp) (pins++[(D,zum us k)]) (zd8 vars.length cap σ) H7 s7/\tn (i+1) s7.heap/\∀ b∈fp,H7 b=none:=λ {σ7 H7 s7} I7 sub7=>by
    refine⟨I7.unpinned.weak sub7.1.symm sub7.2,T.keep _ _ _ st5 λ b hb o e=>(I7.pin (b,o) (List.mem_append_right _ (List.mem_append_right _ (zd3 hb e)))).1,λ b hb=>?_⟩
    obtain ⟨o,e,d⟩:=T.obj _ _ st5 b hb
    exact (I7.pin (b,o) (List.mem_append_right _ (List.mem_append_right _ (zd3 hb e)))).2.1
   refine thn (ht s H C fp _ s6 σ6 H6 _ I6 q6) λ ok s7 ⟨H7,I7,q7⟩=>?_
   cases ok with
   | false =>
    obtain ⟨J7,st7,fr7⟩:=again I7 sub6
    obtain ⟨m',hm,w7⟩:=hN _ _ q7
    exact⟨m',hm,i+1,ys,us,k,H7,J7,rv3,st7,fr7,w7⟩
   | true =>
    refine thn (he s H C fp _ s7 σ6 H7 _ I7 q7) λ v s8 ⟨y,H8,I8,r8,q8⟩=>?_
    obtain ⟨J8,st8,fr8⟩:=again I8 sub6
    obtain ⟨m',hm,w8⟩:=hN _ _ q8
    obtain ⟨eD,nD,_,_,_⟩:=J8.pin (D,zum us k) (by simp)
    have hlen:=rv3.length
    refine call_meets F.slot_list_append ⟨_,eD,rfl⟩ F.entry_list_append (F.args_list_append_2 _ _) (PySem.list_append D us.toArray k v (by rw[List.size_toArray];omega)) ⟨eD,?_⟩
    have q:=PySem.IsL.update eD (λ xs=>xs.push v)
    have J9:Inv (zau X scope C vars cap s H fp) (pins++[(D,_)]) (zd8 vars.length cap σ) H8 { s8 with heap:=s8.heap.update D (Obj.mapSeq λ xs=>xs.push v),toks:=s8.toks } :=
     J8.repin pnD (.inr (show s.heap.objs.size<=D by rw[hDe];exact Nat.le_refl _)) (λ b u hb e=>(Heap.get?_update_other _ _ (Ne.symm hb)).trans e) q (λ v z=>by cases z)
    have e9:(us.toArray.push v)=(us++[v]).toArray:=by simp
    rw[e9] at J9
    exact⟨m',hm,i+1,ys++[y],us++[v],_,H8,J9,rv3.append (.cons r8 .nil),T.keep _ _ _ st8 λ b hb o e=>(Heap.get?_update_other _ _ (Ne.symm (below b (hob b hb)).2)).trans e,fr8,w8⟩
 exact codeAny_compStart_list (loop _ rfl) (T.self X.A 0 _ _ _ st1 (loop _ rfl))
theorem zzh (hc:X.calm=true) (S:CScope X scope) (hcap:∀ i∈cap,i<X.N.length/\scope.names.lookup (X.N.getD i "")≠some .local) (hi:PI X tg iter wi)
  (hg:∀ s H C ex,PG (zau X scope C vars cap s H ex) tg g) (ht:∀ s H C ex,zt2 (zau X scope C vars cap s H ex) ifs tt) (he:∀ s H C ex,PE (zau X scope C vars cap s H ex) elt te)
  (hs:∀ x,foldedSetIterable iter X.env x=pure x:=by intro _;rfl):PE X (.ListComp elt [⟨tg,iter,ifs,0⟩] scope pos) (zzg wi g tt te vars.length cap):=by
 intro pins s σ H Q I h
 rw[eval_ListComp]
 refine wpAny_comprehension_free (use:=none) rfl hs (zh2 (S.cells I)) S.kind S.names ?_
 refine thn (hi pins s σ H _ I h) λ v s1 h1=>thn h1 λ itv s2 h2=>?_
 obtain ⟨it,fp,tn,J,H2,e,I2,T,st2,f2,q2⟩:=h2
 subst e
 refine zh3 (RR:=λ acc C=>compPost (model X.prog X.w) X.A X.xe none (EP X pins σ Q) acc C) (Q:=λ ys H'=>∀ D,H' D=none->Q (.ref D) (upd H' D (.lst ys))) hc S hcap I2 T st2 f2 hg ht he q2 ?_
 intro D C ys H' s' m hq hD I' hn hC hCL hCs hCc hCp
 refine⟨m,hn,λ h'' hs''=>⟨.ref D,_,?_,rfl,hq D hD⟩⟩
 exact I'.turned (it:=C) (t':=s'.toks) (λ b o hb e=>hs''.extBut b o hb e) hC hCL (.inr hCs) hCc hCp
theorem zh4 {i:Nat}{x:Str}{pos' spos:Pos} (hN:X.N.Nodup) (hx0:X.N[i]?=some x) (hx:X.env.scope.names.lookup x=some .local) (hc:X.calm=true) (S:CScope X scope) (hcap:∀ i∈cap,i<X.N.length/\scope.names.lookup (X.N.getD i "")≠some .local) (hi:PI X tg iter wi)
  (hg:∀ s H C ex,PG (zau X scope C vars cap s H ex) tg g) (ht:∀ s H C ex,zt2 (zau X scope C vars cap s H ex) ifs tt) (he:∀ s H C ex,PE (zau X scope C vars cap s H ex) elt te)
  (hsw:swapsWith (.ListComp elt [⟨tg,iter,ifs,0⟩] scope pos) (some (.Name x pos')) spos.line X.env=pure true:=by rfl)
  (hs:∀ x,foldedSetIterable iter X.env x=pure x:=by intro _;rfl):PS X (.Assign [.Name x pos'] (.ListComp elt [⟨tg,iter,ifs,0⟩] scope pos) spos) (z8t (zzg wi g tt te vars.length cap) (zuc i)):=by
 intro pins s σ H D I h
 rw[exec_Assign_Name_used _ _ _ _ hsw]
 refine wpAny_bind (wpAny_standAt (wpAny_bind ?_))
 show wpAny _ X.A (do let _ ← comprehension (.ListComp elt [⟨tg,iter,ifs,0⟩] scope pos) scope X.env _ (newList []) false (eval iter X.env) (some (assign (.Name x pos') X.env))) _ _ s
 refine wpAny_bind (wpAny_mono (wpAny_comprehension_free (use:=some (assign (.Name x pos') X.env)) (Q:=λ _ s'=>SP X pins D .next s') rfl hs (zh2 (S.cells I)) S.kind S.names ?_) (λ _ s' hq=>wpAny_pure (wpAny_pure hq)) λ _ _ e=>e)
 refine thn (hi pins s σ H _ I h) λ v s1 h1=>thn h1 λ itv s2 h2=>?_
 obtain ⟨it,fp,tn,J,H2,e,I2,T,st2,f2,q2⟩:=h2
 subst e
 refine zh3 (RR:=λ acc C=>compPost (model X.prog X.w) X.A X.xe (some (assign (.Name x pos') X.env)) (λ _ s'=>SP X pins D .next s') acc C) (Q:=λ ys H'=>∀ D',H' D'=none->zuc i (.ref D') σ (upd H' D' (.lst ys)) D.nx) hc S hcap I2 T st2 f2 hg ht he q2 ?_
 intro D' C ys H' s' m hq hD I' hn hC hCL hCs hCc hCp
 show wpAny _ X.A (assign (.Name x pos') X.env (.ref D')) _ _ _
 refine wpAny_assign_Name (zj2 I' hN hx0 (.inl hx) (v:=.ref D') rfl (λ s'' I'' hb=>?_) (.inr hx))
 obtain ⟨a,sb,ha⟩:=hb
 have hCa:C≠a:=by
  rcases ha with z|z
  ·rw[z];exact hCL
  ·exact Ne.symm (hCc x a z)
 refine⟨m,hn.sameBut sb hCa,λ h'' hs''=>⟨_,_,?_,hq D' hD⟩⟩
 exact I''.turned (it:=C) (t':=s''.toks) (λ b o hb e=>hs''.extBut b o hb e) hC hCL (.inr hCs) hCc hCp
end
inductive D where
 | sc (v:V)|tup (ds:List D)|lst (ds:List D)|dk (ks:List Key) (ds:List D)|dt (ks:List (List Key)) (ds:List D)|er (n:Str) (ks:List Str) (ds:List D)
def zhm {α β:Type} (f:α->β->Bool):List α->List β->Bool
 | [],[]=>true
 | a::as,b::bs=>f a b && zhm f as bs
 | _,_=>false
def lex {α β:Type} (eq lt:α->β->Bool):List α->List β->Bool
 | [],[]=>false
 | [],_::_=>true
 | _::_,[]=>false
 | a::as,b::bs=>if eq a b=true then lex eq lt as bs else lt a b
def HD (h:Heap):Nat->D->Value->Prop
 | 0,d,u=>match d with|.sc v=>zci v=true/\zbe v u|_=>False
 | k+1,d,u=>match d with
  | .sc v=>zci v=true/\zbe v u
  | .tup ds=>∃ a its,u=.ref a/\IsTup h a its.toArray/\Paired (HD h k) ds its
  | .lst ds=>∃ a its,u=.ref a/\PlainL h a its.toArray/\Paired (HD h k) ds its
  | _=>False
def Den (K:PySem.W.Frag) (H:Hp):Nat->D->V->Prop
 | 0,d,x=>match d with|.sc v=>zci v=true/\x=v|_=>False
 | k+1,d,x=>match d with
  | .sc v=>zci v=true/\x=v
  | .tup ds=>∃ a xs,x=.ref a/\SqT K H a xs/\Paired (Den K H k) ds xs
  | .lst ds=>∃ a xs,x=.ref a/\SqL K H a xs/\Paired (Den K H k) ds xs
  | _=>False
def eqD:Nat->D->D->Bool
 | 0,d,e=>match d,e with|.sc a,.sc b=>eqV a b|_,_=>false
 | k+1,d,e=>match d,e with
  | .sc a,.sc b=>eqV a b
  | .tup ds,.tup es=>zhm (eqD k) ds es
  | .lst ds,.lst es=>zhm (eqD k) ds es
  | _,_=>false
def ltV:V->V->Bool
 | .int i,.int j=>decide (i<j)
 | .str x,.str y=>decide (x.cps.toList<y.cps.toList)
 | .bl a,.bl b=>decide (b2i a<b2i b)
 | _,_=>false
def ltD:Nat->D->D->Bool
 | 0,d,e=>match d,e with|.sc a,.sc b=>ltV a b|_,_=>false
 | k+1,d,e=>match d,e with
  | .sc a,.sc b=>ltV a b
  | .tup ds,.tup es=>lex (eqD k) (ltD k) ds es
  | .lst ds,.lst es=>lex (eqD k) (ltD k) ds es
  | _,_=>false
def zun:V->V->Bool
 | .int _,.int _=>true
 | .str _,.str _=>true
 | .bl _,.bl _=>true
 | _,_=>false
def zm5:Nat->D->D->Prop
 | 0,d,e=>match d,e with|.sc a,.sc b=>zun a b=true|_,_=>False
 | k+1,d,e=>match d,e with
  | .sc a,.sc b=>zun a b=true
  | .tup ds,.tup es=>∀ p∈ds.zip es,zm5 k p.1 p.2
  | .lst ds,.lst es=>∀ p∈ds.zip es,zm5 k p.1 p.2
  | _,_=>False
theorem Paired.imp2 {α β γ:Type}{F:α->β->Prop}{G:γ->β->Prop}{R:γ->α->Prop} (f:∀ a b c,F a b->R c a->G c b):∀ {l₁:List α}{l₂:List β}{l₃:List γ},Paired F l₁ l₂->Paired R l₃ l₁->Paired G l₃ l₂
 | _,_,_,.nil,.nil=>.nil
 | _,_,_,.cons a b,.cons c d=>.cons (f _ _ _ a c) (Paired.imp2 f b d)
section
variable {X:Cx}{pins:List (Addr×Obj)}{σ:St}{H:Hp}{s:Shared}
theorem Inv.den (I:Inv X pins σ H s):∀ {k:Nat}{x:V}{d:D}{u:Value},Den X.K H k d x->zbe x u->HD s.heap k d u:=by
 intro k
 induction k with
 | zero =>
  intro x d u h r
  cases d with
  | sc v=>obtain ⟨f,e⟩:=h;subst e;exact⟨f,r⟩
  | _=>exact h.elim
 | succ k ih =>
  intro x d u h r
  cases d with
  | sc v=>obtain ⟨f,e⟩:=h;subst e;exact⟨f,r⟩
  | tup ds =>
   obtain ⟨a,xs,e,hq,p⟩:=h
   subst e
   cases r
   obtain ⟨its,rv,ht,_⟩:=I.tuple hq
   exact⟨a,its,rfl,ht,Paired.imp2 (F:=zbe) (G:=HD s.heap k) (R:=Den X.K H k) (λ x u d r q=>ih q r) rv p⟩
  | lst ds =>
   obtain ⟨a,xs,e,hq,p⟩:=h
   subst e
   cases r
   obtain ⟨its,rv,ht,_⟩:=I.list hq
   exact⟨a,its,rfl,ht,Paired.imp2 (F:=zbe) (G:=HD s.heap k) (R:=Den X.K H k) (λ x u d r q=>ih q r) rv p⟩
  | _=>exact h.elim
end
theorem zm6:∀ {v:V},zci v=true->eqV v v=true
 | .non,_=>rfl
 | .bl b,_=>by simp[eqV]
 | .int i,_=>by simp[eqV]
 | .str x,_=>by simp[eqV]
theorem zda {h:Heap}{a:Addr}{xs ys:Array Value} (h1:IsTup h a xs) (h2:PlainL h a ys):False:=by
 obtain ⟨o,e,c,_⟩:=h1
 obtain ⟨o',e',c',_⟩:=h2.isList
 rw[e] at e';cases e'
 rw[c] at c'
 injection c' with q
 exact absurd q (by decide)
theorem zqd {h:Heap}{a:Addr}{xs ys:List Value} (h1:IsTup h a xs.toArray) (h2:IsTup h a ys.toArray):xs=ys:=by
 obtain ⟨o,e,c,n,d⟩:=h1
 obtain ⟨o',e',c',n',d'⟩:=h2
 rw[e] at e';cases e'
 rw[d] at d'
 injection d' with q _
 simpa using q
theorem zqe {h:Heap}{a:Addr}{xs ys:List Value} (h1:PlainL h a xs.toArray) (h2:PlainL h a ys.toArray):xs=ys:=by
 obtain ⟨o,e,c,n,d⟩:=h1.isList
 obtain ⟨o',e',c',n',d'⟩:=h2.isList
 rw[e] at e';cases e'
 rw[d] at d'
 injection d' with q _
 simpa using q
theorem zgm {h:Heap}{k:Nat} (ih:∀ {d e:D}{u:Value},HD h k d u->HD h k e u->eqD k d e=true):∀ {ds es:List D}{its:List Value},Paired (HD h k) ds its->Paired (HD h k) es its->zhm (eqD k) ds es=true
 | _,_,_,.nil,.nil=>rfl
 | _,_,_,.cons a b,.cons c d=>by
  show (eqD k _ _ && zhm (eqD k) _ _)=true
  rw[ih a c,zgm ih b d]
  rfl
theorem zbw {v:V}{a:Addr} (f:zci v=true) (r:zbe v (.ref a)):False:=by
 cases v with
 | non=>cases r
 | bl b=>cases r
 | int i=>obtain ⟨t,q⟩:=r;cases q
 | str x=>obtain ⟨t,q⟩:=r;cases q
 | _=>cases f
theorem zqf {h:Heap}:∀ {k:Nat}{d e:D}{u:Value},HD h k d u->HD h k e u->eqD k d e=true:=by
 intro k
 induction k with
 | zero =>
  intro d e u h1 h2
  cases d with
  | sc v =>
   cases e with
   | sc w =>
    obtain ⟨f,r⟩:=h1
    obtain ⟨f',r'⟩:=h2
    have q:=r.inj r'
    subst q
    exact zm6 f
   | _=>exact h2.elim
  | _=>exact h1.elim
 | succ k ih =>
  intro d e u h1 h2
  cases d with
  | sc v =>
   obtain ⟨f,r⟩:=h1
   cases e with
   | sc w =>
    obtain ⟨f',r'⟩:=h2
    have q:=r.inj r'
    subst q
    exact zm6 f
   | tup es=>obtain ⟨a,its,q,_⟩:=h2;subst q;exact (zbw f r).elim
   | lst es=>obtain ⟨a,its,q,_⟩:=h2;subst q;exact (zbw f r).elim
   | _=>exact h2.elim
  | tup ds =>
   obtain ⟨a,its,q,t1,p1⟩:=h1
   subst q
   cases e with
   | sc w=>obtain ⟨f,r⟩:=h2;exact (zbw f r).elim
   | tup es =>
    obtain ⟨a',its',q,t2,p2⟩:=h2
    cases q
    have q:=zqd t1 t2
    subst q
    exact zgm ih p1 p2
   | lst es=>obtain ⟨a',its',q,t2,p2⟩:=h2;cases q;exact (zda t1 t2).elim
   | _=>exact h2.elim
  | lst ds =>
   obtain ⟨a,its,q,t1,p1⟩:=h1
   subst q
   cases e with
   | sc w=>obtain ⟨f,r⟩:=h2;exact (zbw f r).elim
   | lst es =>
    obtain ⟨a',its',q,t2,p2⟩:=h2
    cases q
    have q:=zqe t1 t2
    subst q
    exact zgm ih p1 p2
   | tup es=>obtain ⟨a',its',q,t2,p2⟩:=h2;cases q;exact (zda t2 t1).elim
   | _=>exact h2.elim
  | _=>exact h1.elim
def eAt {α β:Type} (f:α->β->Bool) (ds:List α) (es:List β) (j:Nat):Bool:=match ds[j]?,es[j]? with
 | some a,some b=>f a b
 | _,_=>false
theorem ziu {α β:Type} (f:α->β->Bool) (a:α) (b:β) (ds:List α) (es:List β) (j:Nat):eAt f (a::ds) (b::es) (j+1)=eAt f ds es j:=by
 unfold eAt;simp
theorem zcj {α β:Type} (f:α->β->Bool):∀ (ds:List α) (es:List β),ds.length=es.length->(List.range ds.length).all (eAt f ds es)=zhm f ds es
 | [],[],_=>rfl
 | a::as,b::bs,h=>by
  have h':as.length=bs.length:=by simpa using h
  rw[List.length_cons,List.range_succ_eq_map,List.all_cons,List.all_map]
  have e:(eAt f (a::as) (b::bs) ∘ Nat.succ)=eAt f as bs:=by
   funext j;exact ziu f a b as bs j
  rw[e,zcj f as bs h']
  rfl
 | [],_::_,h=>by simp at h
 | _::_,[],h=>by simp at h
theorem zdb {α β:Type} (f:α->β->Bool):∀ {ds:List α}{es:List β},ds.length≠es.length->zhm f ds es=false
 | [],[],h=>absurd rfl h
 | a::as,b::bs,h=>by
  show (f a b && zhm f as bs)=false
  rw[zdb f (by simpa using h),Bool.and_false]
 | [],_::_,_=>rfl
 | _::_,[],_=>rfl
theorem zay {α β:Type}{F:α->β->Prop}:∀ {l₁:List α}{l₂:List β}{j:Nat}{b:β},Paired F l₁ l₂->l₂[j]?=some b->∃ a,l₁[j]?=some a/\F a b
 | _,_,_,_,.nil,e=>by simp at e
 | _,_,0,_,.cons r _,e=>by simp at e;subst e;exact⟨_,rfl,r⟩
 | _,_,j+1,_,.cons _ t,e=>by
  obtain ⟨a,h1,h2⟩:=zay (j:=j) t (by simpa using e)
  exact⟨a,by simpa using h1,h2⟩
section
variable {A:Around}{s:Shared}
theorem zcg {k:Nat} (ih:∀ {A:Around}{d e:D}{u v:Value},HD s.heap k d u->HD s.heap k e v->A.units+k<cLine->SeqAt.EqAt A s u v (eqD k d e)) {ds es:List D}{its its':List Value} (p:Paired (HD s.heap k) ds its) (p':Paired (HD s.heap k) es its') (hu:A.units+(k+1)<cLine)
  (j:Nat) (h1:j<its.toArray.size) (h2:j<its'.toArray.size):SeqAt.EqAt A.in1 s its.toArray[j] its'.toArray[j] (eAt (eqD k) ds es j):=by
 have e1:its[j]?=some its.toArray[j]:=by simp at h1;simp[h1]
 have e2:its'[j]?=some its'.toArray[j]:=by simp at h2;simp[h2]
 obtain ⟨d,q1,r1⟩:=zay p e1
 obtain ⟨e,q2,r2⟩:=zay p' e2
 have z:eAt (eqD k) ds es j=eqD k d e:=by unfold eAt;rw[q1,q2]
 rw[z]
 exact ih r1 r2 (by show A.units+1+k<cLine;omega)
theorem ziv {s:Shared}:∀ {k:Nat}{A:Around}{d e:D}{u v:Value},HD s.heap k d u->HD s.heap k e v->A.units+k<cLine->SeqAt.EqAt A s u v (eqD k d e):=by
 intro k
 induction k with
 | zero =>
  intro A d e u v h1 h2 hu
  cases d with
  | sc a =>
   cases e with
   | sc b=>exact zxa h1.2 h2.2 h1.1 h2.1
   | _=>exact h2.elim
  | _=>exact h1.elim
 | succ k ih =>
  intro A d e u v h1 h2 hu
  have hu':A.units<cLine:=by omega
  cases d with
  | sc a =>
   cases e with
   | sc b=>exact zxa h1.2 h2.2 h1.1 h2.1
   | tup es =>
    obtain ⟨q,its,rfl,t,_⟩:=h2
    obtain ⟨f,r⟩:=h1
    show SeqAt.EqAt A s u (.ref q) false
    cases a with
    | non=>cases r;exact SeqAt.EqAt.none_tuple t hu'
    | bl b=>cases r;exact SeqAt.EqAt.bool_tuple b t hu'
    | int i=>obtain ⟨z,rfl⟩:=r;exact SeqAt.EqAt.int_tuple i z t hu'
    | str x=>obtain ⟨z,rfl⟩:=r;exact SeqAt.EqAt.str_tuple x z t hu'
    | _=>cases f
   | lst es =>
    obtain ⟨q,its,rfl,t,_⟩:=h2
    obtain ⟨f,r⟩:=h1
    show SeqAt.EqAt A s u (.ref q) false
    cases a with
    | non=>cases r;exact SeqAt.EqAt.none_list t.isList hu'
    | bl b=>cases r;exact SeqAt.EqAt.bool_list b t.isList hu'
    | int i=>obtain ⟨z,rfl⟩:=r;exact SeqAt.EqAt.int_list i z t.isList hu'
    | str x=>obtain ⟨z,rfl⟩:=r;exact SeqAt.EqAt.str_list x z t.isList hu'
    | _=>cases f
   | _=>exact h2.elim
  | tup ds =>
   cases e with
   | sc b =>
    obtain ⟨q,its,rfl,t,_⟩:=h1
    obtain ⟨f,r⟩:=h2
    show SeqAt.EqAt A s (.ref q) v false
    cases b with
    | non=>cases r;exact SeqAt.EqAt.tuple_none t hu'
    | bl b=>cases r;exact SeqAt.EqAt.tuple_bool b t hu'
    | int i=>obtain ⟨z,rfl⟩:=r;exact SeqAt.EqAt.tuple_int i z t hu'
    | str x=>obtain ⟨z,rfl⟩:=r;exact SeqAt.EqAt.tuple_str x z t hu'
    | _=>cases f
   | lst es =>
    obtain ⟨q,its,rfl,t,_⟩:=h1
    obtain ⟨q',its',rfl,t',_⟩:=h2
    exact SeqAt.EqAt.tuple_list t t'.isList hu'
   | tup es =>
    obtain ⟨q,its,rfl,t,p⟩:=id h1
    obtain ⟨q',its',rfl,t',p'⟩:=id h2
    by_cases hq:q=q'
    ·subst hq
     rw[zqf h1 h2]
     exact SeqAt.EqAt.same _
    ·refine SeqAt.EqAt.of_refs hq ?_
     have z:=SeqAt.RcAt.tuples (e:=eAt (eqD k) ds es) t t' hu' λ j h1 h2=>zcg ih p p' hu j h1 h2
     have l1:=p.length
     have l2:=p'.length
     have w:eqD (k+1) (.tup ds) (.tup es)=((List.range (min its.toArray.size its'.toArray.size)).all (eAt (eqD k) ds es) && its.toArray.size == its'.toArray.size):=by
      show zhm (eqD k) ds es=_
      simp only[List.size_toArray]
      rw[<-l1,<-l2]
      by_cases hl:ds.length=es.length
      ·rw[<-zcj _ _ _ hl,hl,Nat.min_self]
       simp
      ·rw[zdb _ hl]
       simp[hl]
     rw[w]
     exact z
   | _=>exact h2.elim
  | lst ds =>
   cases e with
   | sc b =>
    obtain ⟨q,its,rfl,t,_⟩:=h1
    obtain ⟨f,r⟩:=h2
    show SeqAt.EqAt A s (.ref q) v false
    cases b with
    | non=>cases r;exact SeqAt.EqAt.list_none t.isList hu'
    | bl b=>cases r;exact SeqAt.EqAt.list_bool b t.isList hu'
    | int i=>obtain ⟨z,rfl⟩:=r;exact SeqAt.EqAt.list_int i z t.isList hu'
    | str x=>obtain ⟨z,rfl⟩:=r;exact SeqAt.EqAt.list_str x z t.isList hu'
    | _=>cases f
   | tup es =>
    obtain ⟨q,its,rfl,t,_⟩:=h1
    obtain ⟨q',its',rfl,t',_⟩:=h2
    exact SeqAt.EqAt.list_tuple t.isList t' hu'
   | lst es =>
    obtain ⟨q,its,rfl,t,p⟩:=id h1
    obtain ⟨q',its',rfl,t',p'⟩:=id h2
    by_cases hq:q=q'
    ·subst hq
     rw[zqf h1 h2]
     exact SeqAt.EqAt.same _
    ·refine SeqAt.EqAt.of_refs hq ?_
     have l1:=p.length
     have l2:=p'.length
     by_cases hl:ds.length=es.length
     ·have z:=SeqAt.RcAt.lists (e:=eAt (eqD k) ds es) t.isList t'.isList (by simp only[List.size_toArray];omega) hu' λ j h1 h2=>zcg ih p p' hu j h1 h2
      have w:eqD (k+1) (.lst ds) (.lst es)=((List.range its.toArray.size).all (eAt (eqD k) ds es)):=by
       show zhm (eqD k) ds es=_
       simp only[List.size_toArray]
       rw[<-l1,<-zcj _ _ _ hl]
      rw[w]
      exact z
     ·have w:eqD (k+1) (.lst ds) (.lst es)=false:=zdb _ hl
      rw[w]
      exact SeqAt.RcAt.lists_lengths t.isList t'.isList (by simp only[List.size_toArray];simp;omega) hu'
   | _=>exact h2.elim
  | _=>exact h1.elim
end
end L2
namespace L2
open PySem PyProof.Rows
def zzi (A:Around) (s:Shared) (y x:Value) (b:Bool):Prop :=
 ∀ (prog:Program) (w:World) (E:Value->Shared->Prop) (Q:Value->Shared->Prop),Q (.bool b) s->wpAny (model prog w) A (richCompare .Lt y x) Q E s
def zki (e c:Nat->Bool) (n m:Nat):Nat->Nat->Bool
 | 0,_=>decide (n<m)
 | k+1,i=>if i<m then (if e i=true then zki e c n m k (i+1) else c i) else decide (n<m)
section
open PySem.SeqAt
open PySem.AutoSeq1 (wpAny_loadPart')
open PySem.MeetsSeq PySem.MeetsSeq2 PySem.MeetsSeq3
theorem zqg (l b:Addr) (items items2:Array Value) (n n2:Nat) (dd dd2:Option Addr) (sl sl2:Array (Option Value)) (hsz:items.size=items2.size) (e:Nat->Bool) (k:Nat) :
  ∀ i:Nat,items.size - i=k->Meets (Builtin.«list.__eq__.loop» ⟨[.ref l,.ref b,rawInt i,rawInt 3],[]⟩)
   (λ A R s=>s.heap.get? l=some { cls:=.type "list",dict:=dd,data:=.seq items n,slots:=sl }/\s.heap.get? b=some { cls:=.type "list",dict:=dd2,data:=.seq items2 n2,slots:=sl2 } ∧
    (∀ j (h1:j<items.size) (h2:j<items2.size),EqAt A.in1 s items[j] items2[j] (e j)) ∧
    R (.ok (.ret (.bool (!((List.range items.size).drop i).all e)))) s):=by
 induction k with
 | zero =>
  intro i hk prog w A R s h
  obtain ⟨hp,g,d,tk,os⟩:=s;obtain ⟨hl,hb,he,h⟩:=h
  wp_walk using wpAny_loadPart' hl,wpAny_loadPart' hb
  have hi1:items[((i:Nat):Int).toNat]?=none:=by simp;omega
  have hi2:items2[((i:Nat):Int).toNat]?=none:=by simp;omega
  have hd:(List.range items.size).drop i=[]:=by simp;omega
  rw[hd] at h
  rw[hi1,hi2]
  wp_walk using wpAny_loadPart' hl,wpAny_loadPart' hb
  show R (.ok (.ret (.bool (items.size != items2.size)))) _
  rw[hsz]
  simpa using h
 | succ k ih =>
  intro i hk prog w A R s h
  obtain ⟨hp,g,d,tk,os⟩:=s;obtain ⟨hl,hb,he,h⟩:=h
  wp_walk using wpAny_loadPart' hl,wpAny_loadPart' hb
  have hlt:i<items.size:=by omega
  have hlt2:i<items2.size:=by omega
  have hi1:items[((i:Nat):Int).toNat]?=some items[i]:=by simp[hlt]
  have hi2:items2[((i:Nat):Int).toNat]?=some items2[i]:=by simp[hlt2]
  have hd:(List.range items.size).drop i=i::(List.range items.size).drop (i+1):=by simp[List.drop_eq_getElem_cons,hlt]
  have hc:((i:Int)+1)=((i+1:Nat):Int):=by push_cast;rfl
  rw[hd,List.all_cons] at h
  rw[hi1,hi2]
  refine wpAny_bind (he i hlt hlt2 prog w _ _ ?_)
  cases hb':e i with
  | true =>
   rw[hb'] at h
   wp_walk
   rw[hc]
   exact⟨plainId_quiet plain_eq_loop _,codeAny_builtin entry_eq_loop (by
    rw[Around.under_plainId plain_eq_loop _]
    exact ih (i+1) (by omega) prog w A R _ ⟨hl,hb,he,by simpa using h⟩)⟩
  | false =>
   rw[hb'] at h
   wp_walk using wpAny_loadPart' hl,wpAny_loadPart' hb
   rw[hi1,hi2]
   wp_walk
   simpa using h
theorem zqh (l b:Addr) (items items2:Array Value) (n n2:Nat) (dd dd2:Option Addr) (sl sl2:Array (Option Value)) (hsz:items.size=items2.size) (e:Nat->Bool) :
  Meets (Builtin.«list.__ne__» ⟨[.ref l,.ref b],[]⟩)
   (λ A R s=>s.heap.get? l=some { cls:=.type "list",dict:=dd,data:=.seq items n,slots:=sl }/\s.heap.get? b=some { cls:=.type "list",dict:=dd2,data:=.seq items2 n2,slots:=sl2 } ∧
    (∀ j (h1:j<items.size) (h2:j<items2.size),EqAt A.in1 s items[j] items2[j] (e j)) ∧
    R (.ok (.ret (.bool (!(List.range items.size).all e)))) s):=by
 intro prog w A R s h
 obtain ⟨hp,g,d,tk,os⟩:=s;obtain ⟨hl,hb,he,h⟩:=h
 have f3:=AutoSeq1.sub_list_list
 have hne:¬ (items.size != items2.size)=true:=by simp[hsz]
 wp_walk using wpAny_loadPart' hl,wpAny_loadPart' hb
 exact⟨plainId_quiet plain_eq_loop _,codeAny_builtin entry_eq_loop (by
  rw[Around.under_plainId plain_eq_loop _]
  exact zqg l b items items2 n n2 dd dd2 sl sl2 hsz e _ 0 rfl prog w A R _ ⟨hl,hb,he,by simpa using h⟩)⟩
theorem zfj (l b:Addr) (items items2:Array Value) (n n2:Nat) (dd dd2:Option Addr) (sl sl2:Array (Option Value)) (hc0:(items.size != items2.size)=true) :
  Meets (Builtin.«list.__ne__» ⟨[.ref l,.ref b],[]⟩)
   (λ _ R s=>s.heap.get? l=some { cls:=.type "list",dict:=dd,data:=.seq items n,slots:=sl }/\s.heap.get? b=some { cls:=.type "list",dict:=dd2,data:=.seq items2 n2,slots:=sl2 } ∧
    R (.ok (.ret (.bool true))) s) :=
 .of_wp λ prog w A R s h=>by
  obtain ⟨hp,g,d,tk,os⟩:=s;obtain ⟨hl,hb,h⟩:=h
  have f3:=AutoSeq1.sub_list_list
  wp_walk using wpAny_loadPart' hl,wpAny_loadPart' hb
  exact⟨_,rfl,h⟩
theorem zqi (l b:Addr) (items items2:Array Value) (n n2:Nat) (dd dd2:Option Addr) (sl sl2:Array (Option Value)) (e c:Nat->Bool) (k:Nat) :
  ∀ i:Nat,items.size - i=k->Meets (Builtin.«list.__eq__.loop» ⟨[.ref l,.ref b,rawInt i,rawInt 0],[]⟩)
   (λ A R s=>s.heap.get? l=some { cls:=.type "list",dict:=dd,data:=.seq items n,slots:=sl }/\s.heap.get? b=some { cls:=.type "list",dict:=dd2,data:=.seq items2 n2,slots:=sl2 } ∧
    (∀ j (h1:j<items.size) (h2:j<items2.size),EqAt A.in1 s items[j] items2[j] (e j)/\(e j=false->zzi A.in1 s items[j] items2[j] (c j))) ∧
    R (.ok (.ret (.bool (zki e c items.size items2.size k i)))) s):=by
 induction k with
 | zero =>
  intro i hk prog w A R s h
  obtain ⟨hp,g,d,tk,os⟩:=s;obtain ⟨hl,hb,he,h⟩:=h
  wp_walk using wpAny_loadPart' hl,wpAny_loadPart' hb
  have hi1:items[((i:Nat):Int).toNat]?=none:=by simp;omega
  rw[hi1]
  wp_walk using wpAny_loadPart' hl,wpAny_loadPart' hb
  show R (.ok (.ret (.bool (decide (items.size<items2.size))))) _
  simpa [zki] using h
 | succ k ih =>
  intro i hk prog w A R s h
  obtain ⟨hp,g,d,tk,os⟩:=s;obtain ⟨hl,hb,he,h⟩:=h
  wp_walk using wpAny_loadPart' hl,wpAny_loadPart' hb
  have hlt:i<items.size:=by omega
  have hi1:items[((i:Nat):Int).toNat]?=some items[i]:=by simp[hlt]
  have hc:((i:Int)+1)=((i+1:Nat):Int):=by push_cast;rfl
  rw[hi1]
  by_cases hlt2:i<items2.size
  ·have hi2:items2[((i:Nat):Int).toNat]?=some items2[i]:=by simp[hlt2]
   rw[hi2]
   have h:R (.ok (.ret (.bool (if i<items2.size then (if e i=true then zki e c items.size items2.size k (i+1) else c i) else decide (items.size<items2.size))))) ⟨hp,g,d,tk,os⟩:=h
   rw[if_pos hlt2] at h
   obtain ⟨h1,h2⟩:=he i hlt hlt2
   refine wpAny_bind (h1 prog w _ _ ?_)
   cases hb':e i with
   | true =>
    rw[hb',if_pos rfl] at h
    wp_walk
    rw[hc]
    exact⟨plainId_quiet plain_eq_loop _,codeAny_builtin entry_eq_loop (by
     rw[Around.under_plainId plain_eq_loop _]
     exact ih (i+1) (by omega) prog w A R _ ⟨hl,hb,he,h⟩)⟩
   | false =>
    rw[hb',if_neg Bool.false_ne_true] at h
    have hri:=h2 hb' prog w
    wp_walk using wpAny_loadPart' hl,wpAny_loadPart' hb
    rw[hi1,hi2]
    wp_walk using hri
    exact h
  ·have hi2:items2[((i:Nat):Int).toNat]?=none:=by simp;omega
   rw[hi2]
   have h:R (.ok (.ret (.bool (if i<items2.size then (if e i=true then zki e c items.size items2.size k (i+1) else c i) else decide (items.size<items2.size))))) ⟨hp,g,d,tk,os⟩:=h
   rw[if_neg hlt2] at h
   wp_walk using wpAny_loadPart' hl,wpAny_loadPart' hb
   exact h
theorem zkj (l b:Addr) (items items2:Array Value) (n n2:Nat) (dd dd2:Option Addr) (sl sl2:Array (Option Value)) (e c:Nat->Bool) :
  Meets (Builtin.«list.__lt__» ⟨[.ref l,.ref b],[]⟩)
   (λ A R s=>s.heap.get? l=some { cls:=.type "list",dict:=dd,data:=.seq items n,slots:=sl }/\s.heap.get? b=some { cls:=.type "list",dict:=dd2,data:=.seq items2 n2,slots:=sl2 } ∧
    (∀ j (h1:j<items.size) (h2:j<items2.size),EqAt A.in1 s items[j] items2[j] (e j)/\(e j=false->zzi A.in1 s items[j] items2[j] (c j))) ∧
    R (.ok (.ret (.bool (zki e c items.size items2.size items.size 0)))) s):=by
 intro prog w A R s h
 obtain ⟨hp,g,d,tk,os⟩:=s;obtain ⟨hl,hb,he,h⟩:=h
 have f3:=AutoSeq1.sub_list_list
 wp_walk using wpAny_loadPart' hl,wpAny_loadPart' hb
 exact⟨plainId_quiet plain_eq_loop _,codeAny_builtin entry_eq_loop (by
  rw[Around.under_plainId plain_eq_loop _]
  exact zqi l b items items2 n n2 dd dd2 sl sl2 e c _ 0 rfl prog w A R _ ⟨hl,hb,he,h⟩)⟩
theorem zol (l b:Addr) (items items2:Array Value) (n n2:Nat) (dd dd2:Option Addr) (sl sl2:Array (Option Value)) (e:Nat->Bool) :
  Meets (Builtin.«tuple.__ne__» ⟨[.ref l,.ref b],[]⟩)
   (λ A R s=>s.heap.get? l=some { cls:=.type "tuple",dict:=dd,data:=.seq items n,slots:=sl }/\s.heap.get? b=some { cls:=.type "tuple",dict:=dd2,data:=.seq items2 n2,slots:=sl2 } ∧
    (∀ j (h1:j<items.size) (h2:j<items2.size),EqAt A.in1 s items[j] items2[j] (e j)) ∧
    R (.ok (.ret (.bool (!((List.range (min items.size items2.size)).all e && items.size == items2.size))))) s) :=
 .of_wp λ prog w A R s h=>by
  obtain ⟨hp,g,d,tk,os⟩:=s;obtain ⟨hl,hb,he,h⟩:=h
  have f2:=AutoSeq1.sub_tuple_tuple
  have hZ:(items.toList.zip items2.toList).length=min items.size items2.size:=by simp
  wp_walk using wpAny_loadPart' hl,wpAny_loadPart' hb,wpAny_forIn_list _ (λ rest b s'=>b.1=none/\s'=⟨hp,g,d,tk,os⟩/\∃ i,rest=(items.toList.zip items2.toList).drop i ∧
   R (.ok (.ret (.bool (!(((List.range (min items.size items2.size)).drop i).all e && items.size == items2.size))))) ⟨hp,g,d,tk,os⟩) _
  case turn =>
   rintro ⟨y,x⟩ rest b s' ⟨hb',rfl,i,hz,hR⟩
   have hlt:i<(items.toList.zip items2.toList).length:=by
    rcases Nat.lt_or_ge i (items.toList.zip items2.toList).length with h'|h'
    ·exact h'
    ·rw[List.drop_of_length_le h'] at hz;cases hz
   have hm:i<min items.size items2.size:=hZ ▸ hlt
   have h1:i<items.size:=Nat.lt_of_lt_of_le hm (Nat.min_le_left _ _)
   have h2:i<items2.size:=Nat.lt_of_lt_of_le hm (Nat.min_le_right _ _)
   rw[List.drop_eq_getElem_cons hlt] at hz
   injection hz with hyx hrest
   have hy:y=items[i]:=by have:=congrArg Prod.fst hyx;simpa using this
   have hx:x=items2[i]:=by have:=congrArg Prod.snd hyx;simpa using this
   subst hy hx
   have hd:(List.range (min items.size items2.size)).drop i=i::(List.range (min items.size items2.size)).drop (i+1):=by simp[List.drop_eq_getElem_cons,hm]
   rw[hd,List.all_cons] at hR
   refine wpAny_bind (he i h1 h2 prog w _ _ ?_)
   cases hy:e i with
   | true =>
    rw[hy] at hR
    wp_walk
    exact⟨rfl,rfl,i+1,hrest,by simpa using hR⟩
   | false =>
    rw[hy] at hR
    wp_walk
    exact⟨_,rfl,by simpa using hR⟩
  case fin =>
   rintro ⟨b1,b2⟩ s' ⟨hb',rfl,i,hz,hR⟩
   simp only at hb'
   subst hb'
   have hge:min items.size items2.size<=i:=by
    rcases Nat.lt_or_ge i (items.toList.zip items2.toList).length with h'|h'
    ·rw[List.drop_eq_getElem_cons h'] at hz;cases hz
    ·exact hZ ▸ h'
   rw[List.drop_of_length_le (by simpa using hge)] at hR
   wp_walk
   exact⟨_,rfl,by simpa [Builtin.Tuple.tupleCompareSizes,bne] using hR⟩
  case h =>
   exact⟨rfl,rfl,0,rfl,by simpa using h⟩
theorem zom (l b:Addr) (items items2:Array Value) (n n2:Nat) (dd dd2:Option Addr) (sl sl2:Array (Option Value)) (e c:Nat->Bool) :
  Meets (Builtin.«tuple.__lt__» ⟨[.ref l,.ref b],[]⟩)
   (λ A R s=>s.heap.get? l=some { cls:=.type "tuple",dict:=dd,data:=.seq items n,slots:=sl }/\s.heap.get? b=some { cls:=.type "tuple",dict:=dd2,data:=.seq items2 n2,slots:=sl2 } ∧
    (∀ j (h1:j<items.size) (h2:j<items2.size),EqAt A.in1 s items[j] items2[j] (e j)/\(e j=false->zzi A.in1 s items[j] items2[j] (c j))) ∧
    R (.ok (.ret (.bool (zki e c items.size items2.size items.size 0)))) s) :=
 .of_wp λ prog w A R s h=>by
  obtain ⟨hp,g,d,tk,os⟩:=s;obtain ⟨hl,hb,he,h⟩:=h
  have f2:=AutoSeq1.sub_tuple_tuple
  have hZ:(items.toList.zip items2.toList).length=min items.size items2.size:=by simp
  wp_walk using wpAny_loadPart' hl,wpAny_loadPart' hb,wpAny_forIn_list _ (λ rest b s'=>b.1=none/\s'=⟨hp,g,d,tk,os⟩/\∃ i,i<=items.size/\rest=(items.toList.zip items2.toList).drop i ∧
   R (.ok (.ret (.bool (zki e c items.size items2.size (items.size - i) i)))) ⟨hp,g,d,tk,os⟩) _
  case turn =>
   rintro ⟨y,x⟩ rest b s' ⟨hb',rfl,i,hi,hz,hR⟩
   have hlt:i<(items.toList.zip items2.toList).length:=by
    rcases Nat.lt_or_ge i (items.toList.zip items2.toList).length with h'|h'
    ·exact h'
    ·rw[List.drop_of_length_le h'] at hz;cases hz
   have hm:i<min items.size items2.size:=hZ ▸ hlt
   have h1:i<items.size:=Nat.lt_of_lt_of_le hm (Nat.min_le_left _ _)
   have h2:i<items2.size:=Nat.lt_of_lt_of_le hm (Nat.min_le_right _ _)
   rw[List.drop_eq_getElem_cons hlt] at hz
   injection hz with hyx hrest
   have hy:y=items[i]:=by have:=congrArg Prod.fst hyx;simpa using this
   have hx:x=items2[i]:=by have:=congrArg Prod.snd hyx;simpa using this
   subst hy hx
   have hk:items.size - i=(items.size - (i+1))+1:=by omega
   have hd:zki e c items.size items2.size (items.size - i) i=(if e i=true then zki e c items.size items2.size (items.size - (i+1)) (i+1) else c i):=by
    rw[hk]
    show (if i<items2.size then _ else _)=_
    rw[if_pos h2]
   rw[hd] at hR
   obtain ⟨q1,q2⟩:=he i h1 h2
   refine wpAny_bind (q1 prog w _ _ ?_)
   cases hy:e i with
   | true =>
    rw[hy,if_pos rfl] at hR
    wp_walk
    exact⟨rfl,rfl,i+1,h1,hrest,hR⟩
   | false =>
    rw[hy,if_neg Bool.false_ne_true] at hR
    have hri:=q2 hy prog w
    wp_walk using hri
    exact⟨_,rfl,by simpa using hR⟩
  case fin =>
   rintro ⟨b1,b2⟩ s' ⟨hb',rfl,i,hi,hz,hR⟩
   simp only at hb'
   subst hb'
   have hge:min items.size items2.size<=i:=by
    rcases Nat.lt_or_ge i (items.toList.zip items2.toList).length with h'|h'
    ·rw[List.drop_eq_getElem_cons h'] at hz;cases hz
    ·exact hZ ▸ h'
   have hd:zki e c items.size items2.size (items.size - i) i=decide (items.size<items2.size):=by
    cases hk:items.size - i with
    | zero=>rfl
    | succ k =>
     show (if i<items2.size then _ else _)=_
     rw[if_neg (by omega)]
   rw[hd] at hR
   wp_walk
   exact⟨_,rfl,by simpa [Builtin.Tuple.tupleCompareSizes] using hR⟩
  case h =>
   exact⟨rfl,rfl,0,Nat.zero_le _,rfl,by simpa using h⟩
end
end L2
namespace L2
open PySem PySem.Spec PyProof.Rows
theorem zm7 {α β:Type} (f g:α->β->Bool):∀ (ds:List α) (es:List β) (e c:Nat->Bool) (n m i:Nat),n=i+ds.length->m=i+es.length->(∀ j,e (i+j)=eAt f ds es j)->(∀ j,c (i+j)=eAt g ds es j)->zki e c n m ds.length i=lex f g ds es
 | [],[],e,c,n,m,i,hn,hm,_,_=>by
  show decide (n<m)=false
  exact decide_eq_false (by simp at hn hm;omega)
 | [],b::bs,e,c,n,m,i,hn,hm,_,_=>by
  show decide (n<m)=true
  exact decide_eq_true (by simp at hn hm;omega)
 | a::as,[],e,c,n,m,i,hn,hm,_,_=>by
  show (if i<m then _ else decide (n<m))=false
  rw[if_neg (by simp at hm;omega)]
  exact decide_eq_false (by simp at hn hm;omega)
 | a::as,b::bs,e,c,n,m,i,hn,hm,he,hc=>by
  show (if i<m then (if e i=true then zki e c n m as.length (i+1) else c i) else decide (n<m))=_
  rw[if_pos (by simp at hm;omega)]
  have e0:e i=f a b:=by have:=he 0;simpa [eAt] using this
  have c0:c i=g a b:=by have:=hc 0;simpa [eAt] using this
  show _=if f a b=true then lex f g as bs else g a b
  rw[e0,c0]
  by_cases h:f a b=true
  ·rw[if_pos h,if_pos h]
   refine zm7 f g as bs e c n m (i+1) (by simp at hn;omega) (by simp at hm;omega) (λ j=>?_) (λ j=>?_)
   ·have:=he (j+1);rw[ziu] at this;rw[<-this];congr 1;omega
   ·have:=hc (j+1);rw[ziu] at this;rw[<-this];congr 1;omega
  ·rw[if_neg h,if_neg h]
theorem zgn {α β:Type} (f g:α->β->Bool) (ds:List α) (es:List β):zki (eAt f ds es) (eAt g ds es) ds.length es.length ds.length 0=lex f g ds es :=
 zm7 f g ds es _ _ _ _ 0 (by simp) (by simp) (λ j=>by rw[Nat.zero_add]) (λ j=>by rw[Nat.zero_add])
section
variable {A:Around}{s:Shared}
theorem zxe {a b:V}{u v:Value} (ra:zbe a u) (rb:zbe b v) (h:zun a b=true):zzi A s u v (ltV a b):=by
 cases a with
 | int i =>
  cases b with
  | int j =>
   obtain ⟨t,rfl⟩:=ra
   obtain ⟨t',rfl⟩:=rb
   exact λ prog w E Q q=>(lt_int q:wpAny (model prog w) A (compareOp .Lt (.int i t) (.int j t')) Q E s)
  | _=>cases h
 | str x =>
  cases b with
  | str y =>
   obtain ⟨t,rfl⟩:=ra
   obtain ⟨t',rfl⟩:=rb
   exact λ prog w E Q q=>(lt_str q:wpAny (model prog w) A (compareOp .Lt (.str x t) (.str y t')) Q E s)
  | _=>cases h
 | bl x =>
  cases b with
  | bl y =>
   cases ra
   cases rb
   exact λ prog w E Q q=>(lt_bool q:wpAny (model prog w) A (compareOp .Lt (.bool x) (.bool y)) Q E s)
  | _=>cases h
 | _=>cases b <;> cases h
def zga:D->D->Bool
 | .tup _,.tup _=>true
 | .lst _,.lst _=>true
 | _,_=>false
theorem zlt {α β:Type}:∀ {ds:List α}{es:List β}{j:Nat}{a:α}{b:β},ds[j]?=some a->es[j]?=some b->(a,b)∈ds.zip es
 | [],_,_,_,_,h,_=>by simp at h
 | _::_,[],_,_,_,_,h=>by simp at h
 | d::ds,e::es,0,a,b,h1,h2=>by simp at h1 h2;subst h1 h2;simp
 | d::ds,e::es,j+1,a,b,h1,h2=>by
  have:=zlt (ds:=ds) (es:=es) (j:=j) (a:=a) (b:=b) (by simpa using h1) (by simpa using h2)
  simp[this]
theorem zzj {s:Shared}:∀ {k:Nat}{A:Around}{d e:D}{u v:Value},HD s.heap k d u->HD s.heap k e v->zm5 k d e->A.units+k<cLine->zzi A s u v (ltD k d e):=by
 intro k
 induction k with
 | zero =>
  intro A d e u v h1 h2 h hu
  cases d with
  | sc a =>
   cases e with
   | sc b=>exact zxe h1.2 h2.2 h
   | _=>exact h2.elim
  | _=>exact h1.elim
 | succ k ih =>
  intro A d e u v h1 h2 h hu
  have hu':A.units<cLine:=by omega
  have items:∀ {ds es:List D} {its its':List Value},Paired (HD s.heap k) ds its->Paired (HD s.heap k) es its'->(∀ p∈ds.zip es,zm5 k p.1 p.2) →
    ∀ j (h1:j<its.toArray.size) (h2:j<its'.toArray.size),SeqAt.EqAt A.in1 s its.toArray[j] its'.toArray[j] (eAt (eqD k) ds es j)/\(eAt (eqD k) ds es j=false->zzi A.in1 s its.toArray[j] its'.toArray[j] (eAt (ltD k) ds es j)):=by
   intro ds es its its' p p' ho j j1 j2
   have e1:its[j]?=some its.toArray[j]:=by simp at j1;simp[j1]
   have e2:its'[j]?=some its'.toArray[j]:=by simp at j2;simp[j2]
   obtain ⟨d,q1,r1⟩:=zay p e1
   obtain ⟨e,q2,r2⟩:=zay p' e2
   have z:eAt (eqD k) ds es j=eqD k d e:=by unfold eAt;rw[q1,q2]
   have z':eAt (ltD k) ds es j=ltD k d e:=by unfold eAt;rw[q1,q2]
   rw[z,z']
   exact⟨ziv r1 r2 (by show A.units+1+k<cLine;omega),λ _=>ih r1 r2 (ho (d,e) (zlt q1 q2)) (by show A.units+1+k<cLine;omega)⟩
  cases d with
  | sc a =>
   cases e with
   | sc b=>exact zxe h1.2 h2.2 h
   | _=>exact h.elim
  | tup ds =>
   cases e with
   | tup es =>
    obtain ⟨q,its,rfl,t,p⟩:=id h1
    obtain ⟨q',its',rfl,t',p'⟩:=id h2
    have l1:=p.length
    have l2:=p'.length
    have key:=items p p' h
    obtain ⟨⟨cls,dd,data,sl⟩,ho,hc,n,hd⟩:=id t
    obtain ⟨⟨cls2,dd2,data2,sl2⟩,ho2,hc2,n2,hd2⟩:=id t'
    simp only at hc hd hc2 hd2
    subst hc hd hc2 hd2
    intro prog w E Q hq
    have hq':Q (.bool (zki (eAt (eqD k) ds es) (eAt (ltD k) ds es) its.toArray.size its'.toArray.size its.toArray.size 0)) s:=by
     simp only[List.size_toArray]
     rw[<-l1,<-l2,zgn]
     exact hq
    exact richCompare_meets_room (op:=.Lt) ⟨_,ho,rfl⟩ ⟨_,ho2,rfl⟩ PySem.F.slot_tuple_lt PySem.F.entry_tuple_lt (PySem.F.args_tuple_lt_2 _ _) (zom q q' its.toArray its'.toArray n n2 dd dd2 sl sl2 _ _)
     ⟨ho,ho2,key,⟨(λ x=>nomatch x),hq'⟩⟩ hu'
   | _=>exact h.elim
  | lst ds =>
   cases e with
   | lst es =>
    obtain ⟨q,its,rfl,t,p⟩:=id h1
    obtain ⟨q',its',rfl,t',p'⟩:=id h2
    have l1:=p.length
    have l2:=p'.length
    have key:=items p p' h
    obtain ⟨⟨cls,dd,data,sl⟩,ho,hc,n,hd⟩:=t.isList
    obtain ⟨⟨cls2,dd2,data2,sl2⟩,ho2,hc2,n2,hd2⟩:=t'.isList
    simp only at hc hd hc2 hd2
    subst hc hd hc2 hd2
    intro prog w E Q hq
    have hq':Q (.bool (zki (eAt (eqD k) ds es) (eAt (ltD k) ds es) its.toArray.size its'.toArray.size its.toArray.size 0)) s:=by
     simp only[List.size_toArray]
     rw[<-l1,<-l2,zgn]
     exact hq
    exact richCompare_meets_room (op:=.Lt) ⟨_,ho,rfl⟩ ⟨_,ho2,rfl⟩ PySem.F.slot_list_lt PySem.F.entry_list_lt (PySem.F.args_list_lt_2 _ _) (zkj q q' its.toArray its'.toArray n n2 dd dd2 sl sl2 _ _)
     ⟨ho,ho2,key,⟨(λ x=>nomatch x),hq'⟩⟩ hu'
   | _=>exact h.elim
  | _=>exact h1.elim
theorem zzk {k:Nat}{d e:D}{u v:Value} (h1:HD s.heap (k+1) d u) (h2:HD s.heap (k+1) e v) (hk:zga d e=true) (hu:A.units+(k+1)<cLine):SeqAt.RcAt A s u v (eqD (k+1) d e):=by
 have hu':A.units<cLine:=by omega
 cases d with
 | sc a=>cases e <;> cases hk
 | tup ds =>
  cases e with
  | tup es =>
   obtain ⟨q,its,rfl,t,p⟩:=id h1
   obtain ⟨q',its',rfl,t',p'⟩:=id h2
   have z:=SeqAt.RcAt.tuples (e:=eAt (eqD k) ds es) t t' hu' λ j h1 h2=>zcg ziv p p' hu j h1 h2
   have l1:=p.length
   have l2:=p'.length
   have w:eqD (k+1) (.tup ds) (.tup es)=((List.range (min its.toArray.size its'.toArray.size)).all (eAt (eqD k) ds es) && its.toArray.size == its'.toArray.size):=by
    show zhm (eqD k) ds es=_
    simp only[List.size_toArray]
    rw[<-l1,<-l2]
    by_cases hl:ds.length=es.length
    ·rw[<-zcj _ _ _ hl,hl,Nat.min_self]
     simp
    ·rw[zdb _ hl]
     simp[hl]
   rw[w]
   exact z
  | _=>cases hk
 | lst ds =>
  cases e with
  | lst es =>
   obtain ⟨q,its,rfl,t,p⟩:=id h1
   obtain ⟨q',its',rfl,t',p'⟩:=id h2
   have l1:=p.length
   have l2:=p'.length
   by_cases hl:ds.length=es.length
   ·have z:=SeqAt.RcAt.lists (e:=eAt (eqD k) ds es) t.isList t'.isList (by simp only[List.size_toArray];omega) hu' λ j h1 h2=>zcg ziv p p' hu j h1 h2
    have w:eqD (k+1) (.lst ds) (.lst es)=((List.range its.toArray.size).all (eAt (eqD k) ds es)):=by
     show zhm (eqD k) ds es=_
     simp only[List.size_toArray]
     rw[<-l1,<-zcj _ _ _ hl]
    rw[w]
    exact z
   ·have w:eqD (k+1) (.lst ds) (.lst es)=false:=zdb _ hl
    rw[w]
    exact SeqAt.RcAt.lists_lengths t.isList t'.isList (by simp only[List.size_toArray];simp;omega) hu'
  | _=>cases hk
 | _=>exact h1.elim
theorem zzl {prog:Program}{w:World}{E:Value->Shared->Prop}{Q:Value->Shared->Prop}{k:Nat}{d e:D}{u v:Value} (h1:HD s.heap (k+1) d u) (h2:HD s.heap (k+1) e v) (hk:zga d e=true) (hu:A.units+(k+1)<cLine) (hq:Q (.bool (!eqD (k+1) d e)) s) :
  wpAny (model prog w) A (compareOp .NotEq u v) Q E s:=by
 have hu':A.units<cLine:=by omega
 cases d with
 | sc a=>cases e <;> cases hk
 | tup ds =>
  cases e with
  | tup es =>
   obtain ⟨q,its,rfl,t,p⟩:=id h1
   obtain ⟨q',its',rfl,t',p'⟩:=id h2
   have key:∀ j (h1:j<its.toArray.size) (h2:j<its'.toArray.size),SeqAt.EqAt A.in1 s its.toArray[j] its'.toArray[j] (eAt (eqD k) ds es j):=λ j h1 h2=>zcg ziv p p' hu j h1 h2
   have l1:=p.length
   have l2:=p'.length
   have w':eqD (k+1) (.tup ds) (.tup es)=((List.range (min its.toArray.size its'.toArray.size)).all (eAt (eqD k) ds es) && its.toArray.size == its'.toArray.size):=by
    show zhm (eqD k) ds es=_
    simp only[List.size_toArray]
    rw[<-l1,<-l2]
    by_cases hl:ds.length=es.length
    ·rw[<-zcj _ _ _ hl,hl,Nat.min_self]
     simp
    ·rw[zdb _ hl]
     simp[hl]
   rw[w'] at hq
   obtain ⟨⟨cls,dd,data,sl⟩,ho,hc,n,hd⟩:=id t
   obtain ⟨⟨cls2,dd2,data2,sl2⟩,ho2,hc2,n2,hd2⟩:=id t'
   simp only at hc hd hc2 hd2
   subst hc hd hc2 hd2
   exact richCompare_meets_room (op:=.NotEq) ⟨_,ho,rfl⟩ ⟨_,ho2,rfl⟩ PySem.F.slot_tuple_ne PySem.F.entry_tuple_ne (PySem.F.args_tuple_ne_2 _ _) (zol q q' its.toArray its'.toArray n n2 dd dd2 sl sl2 _)
    ⟨ho,ho2,key,⟨(λ x=>nomatch x),hq⟩⟩ hu'
  | _=>cases hk
 | lst ds =>
  cases e with
  | lst es =>
   obtain ⟨q,its,rfl,t,p⟩:=id h1
   obtain ⟨q',its',rfl,t',p'⟩:=id h2
   have key:∀ j (h1:j<its.toArray.size) (h2:j<its'.toArray.size),SeqAt.EqAt A.in1 s its.toArray[j] its'.toArray[j] (eAt (eqD k) ds es j):=λ j h1 h2=>zcg ziv p p' hu j h1 h2
   have l1:=p.length
   have l2:=p'.length
   obtain ⟨⟨cls,dd,data,sl⟩,ho,hc,n,hd⟩:=t.isList
   obtain ⟨⟨cls2,dd2,data2,sl2⟩,ho2,hc2,n2,hd2⟩:=t'.isList
   simp only at hc hd hc2 hd2
   subst hc hd hc2 hd2
   by_cases hl:ds.length=es.length
   ·have w':eqD (k+1) (.lst ds) (.lst es)=((List.range its.toArray.size).all (eAt (eqD k) ds es)):=by
     show zhm (eqD k) ds es=_
     simp only[List.size_toArray]
     rw[<-l1,<-zcj _ _ _ hl]
    rw[w'] at hq
    exact richCompare_meets_room (op:=.NotEq) ⟨_,ho,rfl⟩ ⟨_,ho2,rfl⟩ PySem.F.slot_list_ne PySem.F.entry_list_ne (PySem.F.args_list_ne_2 _ _) (zqh q q' its.toArray its'.toArray n n2 dd dd2 sl sl2 (by simp only[List.size_toArray];omega) _)
     ⟨ho,ho2,key,⟨(λ x=>nomatch x),hq⟩⟩ hu'
   ·have w':eqD (k+1) (.lst ds) (.lst es)=false:=zdb _ hl
    rw[w'] at hq
    exact richCompare_meets_room (op:=.NotEq) ⟨_,ho,rfl⟩ ⟨_,ho2,rfl⟩ PySem.F.slot_list_ne PySem.F.entry_list_ne (PySem.F.args_list_ne_2 _ _) (zfj q q' its.toArray its'.toArray n n2 dd dd2 sl sl2 (by simp only[List.size_toArray];simp;omega))
     ⟨ho,ho2,⟨(λ x=>nomatch x),hq⟩⟩ hu'
  | _=>cases hk
 | _=>exact h1.elim
end
section
variable {X:Cx}
def z9a (K:PySem.W.Frag) (k:Nat):R2:=λ x y H Q=>∃ d e,Den K H (k+1) d x/\Den K H (k+1) e y/\zga d e=true/\Q (.bl (eqD (k+1) d e)) H
def z9b (K:PySem.W.Frag) (k:Nat):R2:=λ x y H Q=>∃ d e,Den K H (k+1) d x/\Den K H (k+1) e y/\zga d e=true/\Q (.bl (!eqD (k+1) d e)) H
def ybn (K:PySem.W.Frag) (k:Nat):R2:=λ x y H Q=>∃ d e,Den K H (k+1) d x/\Den K H (k+1) e y/\zm5 (k+1) d e/\Q (.bl (ltD (k+1) d e)) H
theorem z32 (k:Nat) (hu:X.A.units+(k+1)<cLine):OpR X (compareOp .Eq) (z9a X.K k):=by
 intro pins s σ H x y v u Q I rx ry h
 obtain ⟨d,e,h1,h2,hk,q⟩:=h
 exact zzk (I.den h1 rx) (I.den h2 ry) hk hu X.prog X.w X.xe _ ⟨.bl _,H,I,rfl,q⟩
theorem z33 (k:Nat) (hu:X.A.units+(k+1)<cLine):OpR X (compareOp .NotEq) (z9b X.K k):=by
 intro pins s σ H x y v u Q I rx ry h
 obtain ⟨d,e,h1,h2,hk,q⟩:=h
 exact zzl (I.den h1 rx) (I.den h2 ry) hk hu ⟨.bl _,H,I,rfl,q⟩
theorem z34 (k:Nat) (hu:X.A.units+(k+1)<cLine):OpR X (compareOp .Lt) (ybn X.K k):=by
 intro pins s σ H x y v u Q I rx ry h
 obtain ⟨d,e,h1,h2,hk,q⟩:=h
 exact zzj (I.den h1 rx) (I.den h2 ry) hk hu X.prog X.w X.xe _ ⟨.bl _,H,I,rfl,q⟩
end
section
variable {X:Cx}
example (K:PySem.W.Frag):PySem.W.kitOne K (.type "int") (.type "int")=some true:=by rfl
example (K:PySem.W.Frag):PySem.W.kitOne K (.type "bool") (.type "int")=some true:=by rfl
example (K:PySem.W.Frag):PySem.W.kitOne K (.type "int") (.type "bool")=some false:=by rfl
example (K:PySem.W.Frag):PySem.W.kitOne K (.type "list") (.type "list")=some true:=by rfl
end
section
variable {X:Cx}{a b c e o:Expr}{ta tb tc te to:TE}{pos:Pos}
theorem PE.imp {t t':TE} (h:PE X e t) (f:∀ σ H Q,t' σ H Q->t σ H Q):PE X e t':=λ pins s σ H Q I q=>h pins s σ H Q I (f σ H Q q)
theorem PT.imp {t t':TT} (h:PT X e t) (f:∀ σ H Q,t' σ H Q->t σ H Q):PT X e t':=λ pins s σ H Q I q=>h pins s σ H Q I (f σ H Q q)
theorem OpR.imp {f:Value->Value->Sem Value}{r r':R2} (h:OpR X f r) (g:∀ x y H Q,r' x y H Q->r x y H Q):OpR X f r':=λ pins s σ H x y v u Q I rx ry q=>h pins s σ H x y v u Q I rx ry (g x y H Q q)
theorem zcn.imp {f:Value}{r r':List V->Hp->VK->Prop} (h:zcn X f r) (g:∀ xs H Q,r' xs H Q->r xs H Q):zcn X f r':=λ pins s σ H xs us Q I rv q=>h pins s σ H xs us Q I rv (g xs H Q q)
theorem IxR.imp {r r':R2} (h:IxR X r) (g:∀ x y H Q,r' x y H Q->r x y H Q):IxR X r':=λ value slice pins s σ H x y v u Q I rx ry q hs=>h value slice pins s σ H x y v u Q I rx ry (g x y H Q q) hs
theorem MtR.imp {id:String}{r r':V->List V->Hp->VK->Prop} (h:MtR X id r) (g:∀ x xs H Q,r' x xs H Q->r x xs H Q):MtR X id r':=λ pins s σ H x xs v us Q I rx rv q=>h pins s σ H x xs v us Q I rx rv (g x xs H Q q)
theorem SlR.imp {r r':V->Option Int->Option Int->Hp->VK->Prop} (h:SlR X r) (g:∀ x lo hi H Q,r' x lo hi H Q->r x lo hi H Q):SlR X r':=λ pins s σ H x v vl vu lo hi sl Q I rx hs pl pu q=>h pins s σ H x v vl vu lo hi sl Q I rx hs pl pu (g x lo hi H Q q)
theorem PI.imp {tg:Expr}{wi wi':TI} (h:PI X tg e wi) (g:∀ σ H R,wi' σ H R->wi σ H R):PI X tg e wi':=λ pins s σ H R I q=>h pins s σ H R I (g σ H R q)
theorem PG.imp {tg:Expr}{t t':TG} (h:PG X tg t) (g:∀ v σ H Q,t' v σ H Q->t v σ H Q):PG X tg t':=λ pins s σ H v u Q I r q=>h pins s σ H v u Q I r (g v σ H Q q)
def k2 (C:Int->Int->Prop) (g:Int->Int->V):R2:=λ x y H Q=>match x,y with|.int i,.int j=>C i j/\Q (g i j) H|_,_=>False
def k20 (g:Int->Int->V):R2:=λ x y H Q=>match x,y with|.int i,.int j=>Q (g i j) H|_,_=>False
theorem zzm {f:Value->Value->Sem Value}{C:Int->Int->Prop}{g:Int->Int->V} (h:OpR X f (rI C g)):OpR X f (k2 C g):=h.imp λ x y H Q q=>by
 unfold k2 at q
 split at q
 ·exact⟨_,_,rfl,rfl,q⟩
 ·exact q.elim
theorem zkk {f:Value->Value->Sem Value}{g:Int->Int->V} (h:OpR X f (rI0 g)):OpR X f (k20 g):=h.imp λ x y H Q q=>by
 unfold k20 at q
 split at q
 ·exact⟨_,_,rfl,rfl,q⟩
 ·exact q.elim
theorem z9c:OpR X (binaryOp .Add) (k20 λ i j=>.int (i+j)):=zkk z3p
theorem zdi:OpR X (binaryOp .FloorDiv) (k2 z8w λ i j=>.int (i / j)):=zzm zy7
theorem zco:OpR X (binaryOp .Mod) (k2 (λ _ j=>0<j) λ i j=>.int (i % j)):=zzm z3q
theorem ybo:OpR X (compareOp .Lt) (k20 λ i j=>.bl (decide (i<j))):=zkk z8z
theorem ybp:OpR X (compareOp .LtE) (k20 λ i j=>.bl (decide (i<=j))):=zkk z80
theorem z21:OpR X (compareOp .Gt) (k20 λ i j=>.bl (decide (j<i))):=zkk z81
theorem ycm:OpR X (compareOp .GtE) (k20 λ i j=>.bl (decide (j<=i))):=zkk z82
def kEq (neg:Bool):R2:=λ x y H Q=>match x,y with
 | .int i,.int j=>Q (.bl (if neg then !decide (i=j) else decide (i=j))) H
 | .str i,.str j=>Q (.bl (if neg then !decide (i=j) else decide (i=j))) H
 | .bl i,.bl j=>Q (.bl (if neg then !decide (i=j) else decide (i=j))) H
 | _,_=>False
theorem zlu {p q:Prop} [Decidable p] [Decidable q] (h:p↔q):decide p=decide q:=by
 by_cases hp:p
 ·rw[decide_eq_true hp,decide_eq_true (h.mp hp)]
 ·rw[decide_eq_false hp,decide_eq_false λ z=>hp (h.mpr z)]
theorem ycn:OpR X (compareOp .Eq) (kEq false):=z8x.imp λ x y H Q q=>by
 unfold kEq at q
 split at q
 ·exact⟨rfl,by rw[zlu (q:=_=_) ⟨λ z=>V.int.inj z,λ z=>congrArg V.int z⟩];exact q⟩
 ·exact⟨rfl,by rw[zlu (q:=_=_) ⟨λ z=>V.str.inj z,λ z=>congrArg V.str z⟩];exact q⟩
 ·exact⟨rfl,by rw[zlu (q:=_=_) ⟨λ z=>V.bl.inj z,λ z=>congrArg V.bl z⟩];exact q⟩
 ·exact q.elim
theorem yco:OpR X (compareOp .NotEq) (kEq true):=z8y.imp λ x y H Q q=>by
 unfold kEq at q
 split at q
 ·exact⟨rfl,by rw[zlu (q:=_=_) ⟨λ z=>V.int.inj z,λ z=>congrArg V.int z⟩];exact q⟩
 ·exact⟨rfl,by rw[zlu (q:=_=_) ⟨λ z=>V.str.inj z,λ z=>congrArg V.str z⟩];exact q⟩
 ·exact⟨rfl,by rw[zlu (q:=_=_) ⟨λ z=>V.bl.inj z,λ z=>congrArg V.bl z⟩];exact q⟩
 ·exact q.elim
def zzn (t:TE):TT:=λ σ H Q=>t σ H λ x H'=>match x with|.bl k=>Q k H'|_=>False
theorem zkl {x:V}{P:Bool->Prop} (q:match x with|.bl k=>P k|_=>False):∃ k,x=.bl k/\P k:=by
 split at q
 ·exact⟨_,rfl,q⟩
 ·exact q.elim
theorem z35 {op:CmpOp}{r:R2} (ho:OpR X (compareOp op) r) (ha:PE X a ta) (hb:PE X b tb) (hm:behindInMarks op b=false):PT X (.Compare a [op] [b] pos) (zzn (tOp r ta tb)):=by
 intro pins s σ H Q I h
 refine wpAny_isTrue_Compare1 (z70 ha hb I h λ v u s2 x y H2 I2 rx ry q=>thn (ho pins s2 σ H2 x y v u _ I2 rx ry q) λ z s3 ⟨x3,H3,I3,r3,q3⟩=>?_) hm
 obtain ⟨k,rfl,q⟩:=zkl q3
 cases r3
 exact wpAny_truthy_bool ⟨H3,I3,q⟩
theorem z36 {t:TE} (h:PE X e t) (he:∀ whole,isTrue e X.env whole=(do let v ← whole;standAt e.pos;holding [v] (truthy v)):=by intro _;rfl):PT X e (zzn t):=by
 intro pins s σ H Q I hw
 refine isTrue_plain (thn (h pins s σ H _ I hw) λ v s1 ⟨x,H1,I1,r1,q1⟩=>?_) (he _)
 obtain ⟨k,rfl,q⟩:=zkl q1
 cases r1
 exact wpAny_truthy_bool ⟨H1,I1,q⟩
def z9d (ta tb:TE):TE:=λ σ H Q=>ta σ H λ x H1=>match x with|.bl c=>if c=true then tb σ H1 Q else Q (.bl false) H1|_=>False
def ycp (ta tb:TE):TE:=λ σ H Q=>ta σ H λ x H1=>match x with|.bl c=>if c=true then Q (.bl true) H1 else tb σ H1 Q|_=>False
def z9e (ta:TE):TE:=λ σ H Q=>ta σ H λ x H1=>match x with|.bl c=>Q (.bl (!c)) H1|_=>False
variable {rest:List Expr}
theorem z37 (ha:PE X a ta) (hb:PE X (.BoolOp .And (b::rest) pos) tb):PE X (.BoolOp .And (a::b::rest) pos) (z9d ta tb):=by
 intro pins s σ H Q I h
 refine BoolOp_and (thn (ha pins s σ H _ I h) λ v s1 ⟨x,H1,I1,r1,q1⟩=>?_)
 obtain ⟨c,rfl,q1⟩:=zkl q1
 cases r1
 refine wpAny_truthy_bool ?_
 cases c with
 | true=>exact hb pins s1 σ H1 Q I1 q1
 | false=>exact⟨.bl false,H1,I1,rfl,q1⟩
theorem z9f (ha:PE X a ta) (hb:PE X (.BoolOp .Or (b::rest) pos) tb):PE X (.BoolOp .Or (a::b::rest) pos) (ycp ta tb):=by
 intro pins s σ H Q I h
 refine BoolOp_or (thn (ha pins s σ H _ I h) λ v s1 ⟨x,H1,I1,r1,q1⟩=>?_)
 obtain ⟨c,rfl,q1⟩:=zkl q1
 cases r1
 refine wpAny_truthy_bool ?_
 cases c with
 | false=>exact hb pins s1 σ H1 Q I1 q1
 | true=>exact⟨.bl true,H1,I1,rfl,q1⟩
theorem z38 (ha:PE X a ta):PE X (.UnaryOp .Not a pos) (z9e ta):=by
 intro pins s σ H Q I h
 refine UnaryOp_ (thn (ha pins s σ H _ I h) λ v s1 ⟨x,H1,I1,r1,q1⟩=>?_)
 obtain ⟨c,rfl,q1⟩:=zkl q1
 cases r1
 exact not_of (wpAny_truthy_bool ⟨.bl (!c),H1,I1,rfl,q1⟩)
theorem z39 {f:Int->V} (h:UnR X (unaryOp .USub) (rU f)):UnR X (unaryOp .USub) (λ x H Q=>match x with|.int i=>Q (f i) H|_=>False):=λ pins s σ H x v Q I rx q=>h pins s σ H x v Q I rx (by
 dsimp only at q
 split at q
 ·exact⟨_,rfl,q⟩
 ·exact q.elim)
theorem z9g:UnR X (unaryOp .USub) (λ x H Q=>match x with|.int i=>Q (.int (-i)) H|_=>False):=z39 z3r
def z9h (K:PySem.W.Frag):R2:=λ x y H Q=>match x,y with|.ref p,.int i=>∃ xs v,SqL K H p xs/\atI xs i=some v/\Q v H|_,_=>False
def z9i (K:PySem.W.Frag):R2:=λ x y H Q=>match x,y with|.ref p,.int i=>∃ xs v,SqT K H p xs/\atI xs i=some v/\Q v H|_,_=>False
def z9j:R2:=λ x y H Q=>match x,y with|.str z,.int i=>z.length<=sizeLine/\∃ c,atI z.cps.toList i=some c/\Q (.str ⟨#[c]⟩) H|_,_=>False
theorem zzo:IxR X (z9h X.K):=zzd.imp λ x y H Q q=>by
 unfold z9h at q
 split at q
 ·obtain ⟨xs,v,h1,h2,q⟩:=q;exact⟨_,xs,_,v,rfl,rfl,h1,h2,q⟩
 ·exact q.elim
theorem z4a:IxR X (z9i X.K):=z3x.imp λ x y H Q q=>by
 unfold z9i at q
 split at q
 ·obtain ⟨xs,v,h1,h2,q⟩:=q;exact⟨_,xs,_,v,rfl,rfl,h1,h2,q⟩
 ·exact q.elim
theorem z4b:IxR X z9j:=z3y.imp λ x y H Q q=>by
 unfold z9j at q
 split at q
 ·obtain ⟨h1,c,h2,q⟩:=q;exact⟨_,_,c,rfl,rfl,h1,h2,q⟩
 ·exact q.elim
def z9k (t:TE):TO:=λ σ H Q=>t σ H λ x H1=>match x with|.int i=>Q (some i) H1|_=>False
theorem zzp {x:V}{P:Int->Prop} (q:match x with|.int k=>P k|_=>False):∃ k,x=.int k/\P k:=by
 split at q
 ·exact⟨_,rfl,q⟩
 ·exact q.elim
theorem zqj {x:V}{P:Addr->Prop} (q:match x with|.ref k=>P k|_=>False):∃ k,x=.ref k/\P k:=by
 split at q
 ·exact⟨_,rfl,q⟩
 ·exact q.elim
theorem zzq {x:V}{P:Str->Prop} (q:match x with|.str k=>P k|_=>False):∃ k,x=.str k/\P k:=by
 split at q
 ·exact⟨_,rfl,q⟩
 ·exact q.elim
theorem zzr (h:PE X e te):PO X (some e) (z9k te):=by
 intro pins s σ H Q I hw
 rw[evalPart_some]
 refine thn (h pins s σ H _ I hw) λ u s1 ⟨x,H1,I1,r1,q1⟩=>?_
 obtain ⟨i,rfl,q⟩:=zzp q1
 obtain ⟨t,rfl⟩:=r1
 exact⟨some i,H1,I1,.int i t,q⟩
def z9l (K:PySem.W.Frag):V->Option Int->Option Int->Hp->VK->Prop:=λ x lo hi H Q=>match x with|.ref a=>∃ xs,SqL K H a xs/\∀ p,H p=none->Q (.ref p) (upd H p (.lst (zpg xs lo hi)))|_=>False
theorem zzs:SlR X (z9l X.K):=zze.imp λ x lo hi H Q q=>by
 unfold z9l at q
 obtain ⟨a,rfl,xs,h,q⟩:=zqj q
 exact⟨a,xs,rfl,h,q⟩
def zzt:R2:=λ x y H Q=>match x,y with|.str i,.str j=>i.length+j.length<=sizeLine/\Q (.str (i++j)) H|_,_=>False
theorem z4c:OpR X (binaryOp .Add) zzt:=zog.imp λ x y H Q q=>by
 unfold zzt at q
 split at q
 ·exact⟨_,_,rfl,rfl,q⟩
 ·exact q.elim
def zuo (neg:Bool):R2:=λ x y H Q=>match x,y with|.str i,.str j=>Q (.bl (if neg then !Txt.contains j i else Txt.contains j i)) H|_,_=>False
theorem z9m:OpR X (compareOp .In) (zuo false):=zpw.imp λ x y H Q q=>by
 unfold zuo at q
 split at q
 ·exact⟨_,_,rfl,rfl,q⟩
 ·exact q.elim
theorem zup:OpR X (compareOp .NotIn) (zuo true):=zj4.imp λ x y H Q q=>by
 unfold zuo at q
 split at q
 ·exact⟨_,_,rfl,rfl,q⟩
 ·exact q.elim
def zzu (K:PySem.W.Frag):List V->Hp->VK->Prop:=λ xs H Q=>match xs with|[.ref p]=>∃ ys,(SqL K H p ys\/SqT K H p ys)/\Q (.int ys.length) H|_=>False
theorem z4d:zcn X (.builtin "len") (zzu X.K):=zkc.imp λ xs H Q q=>by
 unfold zzu at q
 split at q
 ·obtain ⟨ys,h,q⟩:=q;exact⟨_,ys,rfl,h,q⟩
 ·exact q.elim
def zzv:List V->Hp->VK->Prop:=λ xs H Q=>match xs with|[.str z]=>z.length<=sizeLine/\Q (.int z.length) H|_=>False
theorem zzw:zcn X (.builtin "len") zzv:=zkd.imp λ xs H Q q=>by
 unfold zzv at q
 split at q
 ·exact⟨_,rfl,q⟩
 ·exact q.elim
def zzx (K:PySem.W.Frag):List V->Hp->VK->Prop:=λ xs H Q=>match xs with|[.ref p]=>∃ ys,(SqL K H p ys\/SqT K H p ys)/\∀ l,H l=none->Q (.ref l) (upd H l (.lst ys))|_=>False
theorem ziw:zcn X (.type "list") (zzx X.K):=zke.imp λ xs H Q q=>by
 unfold zzx at q
 split at q
 ·obtain ⟨ys,h,q⟩:=q;exact⟨_,ys,rfl,h,q⟩
 ·exact q.elim
def zqk:V->List V->Hp->VK->Prop:=λ x vs H Q=>match x,vs with|.ref l,[y]=>∃ xs,H l=some (.lst xs)/\xs.length<sizeLine/\Q .non (upd H l (.lst (xs++[y])))|_,_=>False
theorem zgo:MtR X "list.append" zqk:=MtR.imp (r:=zp6) zp7 λ x vs H Q q=>by
 unfold zqk at q
 split at q
 ·obtain ⟨xs,h1,h2,q⟩:=q;exact⟨_,xs,_,rfl,rfl,h1,h2,q⟩
 ·exact q.elim
variable {tg l:Expr}{tl:TE}
def z9n (ta:TA):TI:=λ σ H R=>ta σ H λ vs H1=>match vs with|[.int j]=>-(2 ^ 62)<=j/\j<2 ^ 62/\R (Itr 0 j.toNat) H1|_=>False
def z9o (ta:TA):TI:=λ σ H R=>ta σ H λ vs H1=>match vs with|[.int i,.int j]=>(-(2 ^ 62)<=i/\i<2 ^ 62/\-(2 ^ 62)<=j/\j<2 ^ 62)/\R (Itr i (j - i).toNat) H1|_=>False
theorem PA.imp {es:List Expr}{t t':TA} (h:PA X es t) (f:∀ σ H Q,t' σ H Q->t σ H Q):PA X es t':=λ p pins s σ H Q I q=>h p pins s σ H Q I (f σ H Q q)
theorem zql {ta:TA}{p:Pos} (hg:Gl X "range") (hm:X.mg "range" = none) (ha:PA X [a] ta) (hs:starEach [a] X.env=[(false,eval a X.env)]:=by rfl):PI X tg (.Call (.Name "range" p) [a] [] pos) (z9n ta):=by
 intro pins s σ H R I h
 refine Call_ (zer I hg hm boot_range (PyProof.Rows.callWith_type1 (thn (ha pos pins s σ H _ I h) λ us s1 ⟨vs,H1,I1,r1,q1⟩=>?_) hs rfl))
 dsimp only at q1
 split at q1
 ·obtain ⟨q1,q2,q⟩:=q1
  cases r1 with
  | cons r rr =>
   cases rr
   obtain ⟨t,rfl⟩:=r
   exact call_range_1 (zm1 I1 (by omega) (by omega) q1 q2 (by simpa using q))
 ·exact q1.elim
theorem zqm {ta:TA}{p:Pos} (hg:Gl X "range") (hm:X.mg "range" = none) (ha:PA X [a,b] ta) (hs:starEach [a,b] X.env=[(false,eval a X.env),(false,eval b X.env)]:=by rfl) (hs2:starEach [b] X.env=[(false,eval b X.env)]:=by rfl) :
  PI X tg (.Call (.Name "range" p) [a,b] [] pos) (z9o ta):=by
 intro pins s σ H R I h
 refine Call_ (zer I hg hm boot_range (PyProof.Rows.callWith_type1 (thn (ha pos pins s σ H _ I h) λ us s1 ⟨vs,H1,I1,r1,q1⟩=>?_) (by rw[hs,hs2]) (by rw[hs2];rfl)))
 dsimp only at q1
 split at q1
 ·obtain ⟨⟨q1,q2,q3,q4⟩,q⟩:=q1
  cases r1 with
  | cons r rr =>
   cases rr with
   | cons r' rr =>
    cases rr
    obtain ⟨t,rfl⟩:=r
    obtain ⟨t',rfl⟩:=r'
    exact call_range_2 (zm1 I1 q1 q2 q3 q4 q)
 ·exact q1.elim
def z4e:TGs:=λ vs σ H Q=>match vs with|[]=>Q σ H|_=>False
def zxf (t:TG) (u:TGs):TGs:=λ vs σ H Q=>match vs with|v::r=>t v σ H λ σ' H'=>u r σ' H' Q|[]=>False
theorem zzy:PGs X [] z4e:=λ pins s σ H vs us Q I r h=>zy6 pins s σ H vs us Q I r (by
 unfold z4e at h
 split at h
 ·exact⟨rfl,h⟩
 ·exact h.elim)
theorem zuq {es:List Expr}{t:TG}{u:TGs} (h1:PG X e t) (h2:PGs X es u) (hs:(assignEach (e::es) X.env).map (·.2)=assign e X.env::(assignEach es X.env).map (·.2):=by rfl):PGs X (e::es) (zxf t u) :=
 λ pins s σ H vs us Q I r h=>zud h1 h2 hs pins s σ H vs us Q I r (by
  unfold zxf at h
  split at h
  ·exact⟨_,_,rfl,h⟩
  ·exact h.elim)
def z4f (K:PySem.W.Frag) (n:Nat) (t:TGs):TG:=λ v σ H Q=>match v with|.ref a=>∃ xs,SqT K H a xs/\xs.length=n/\t xs σ H Q|_=>False
theorem z4g {es:List Expr}{k:Nat}{t:TGs}{n:Nat} (hc:X.calm=true) (h:PGs X es t) (hn:(assignEach es X.env).length=n:=by rfl) (hst:(assignEach es X.env).findIdx? (·.1)=none:=by rfl):PG X (.Tuple es k pos) (z4f X.K n t) :=
 (z3m hc h hn hst).imp λ v σ H Q q=>by
  unfold z4f at q
  obtain ⟨a,rfl,xs,h1,h2,q⟩:=zqj q
  exact⟨a,xs,rfl,h1,h2,q⟩
inductive AllC {α:Type} (p:α->Prop):List α->Prop
 | nil:AllC p []
 | cons {x:α} {l:List α}:p x->AllC p l->AllC p (x::l)
theorem AllC.mem {α:Type}{p:α->Prop}:∀ {l:List α},AllC p l->∀ x∈l,p x
 | _,.nil,x,h=>by cases h
 | _,.cons a b,x,h=>by
  rcases List.mem_cons.mp h with rfl|h
  ·exact a
  ·exact b.mem x h
theorem zfx {scope:Scope} (L:List Str) (h1:scope.kind=.function) (h2:∀ y∈scope.names,y.2≠.cell) (h3:∀ y∈scope.names,y.2=.local->scope.names.lookup y.1=some .local) (h4:∀ y∈scope.names,y.2=.free->y.1∈L) (h5:AllC (λ x=>X.env.kindOf x=some .cell\/X.env.kindOf x=some .free) L):CScope X scope :=
 ⟨h1,h2,h3,λ y hy hf=>h5.mem y.1 (h4 y hy hf)⟩
theorem zxg {scope:Scope}{cap:List Nat} (h:AllC (λ i=>i<X.N.length/\scope.names.lookup (X.N.getD i "")≠some .local) cap):∀ i∈cap,i<X.N.length/\scope.names.lookup (X.N.getD i "")≠some .local:=h.mem
structure Df (K:PySem.W.Frag) (mg:Str->Option Value) (x:Str) (st:Stmt) (ps:List Str) (f:Addr) (fd:FuncData):Prop where
 F:Fun K x x st f fd
 m:mg x=some (.ref f)
 b:zdo K fd ps []
theorem zbz:bootBuiltins "len" = some (.builtin "len"):=by decide +kernel
theorem zix:bootBuiltins "isinstance" = some (.builtin "isinstance"):=by decide +kernel
theorem zgp:bootBuiltins "sorted" = some (.builtin "sorted"):=by decide +kernel
theorem zlv:bootBuiltins "reversed" = some (.type "reversed"):=by decide +kernel
theorem z4h:bootBuiltins "int" = some (.type "int"):=by decide +kernel
theorem z4i:bootBuiltins "str" = some (.type "str"):=by decide +kernel
theorem zqn:bootBuiltins "bool" = some (.type "bool"):=by decide +kernel
theorem zek:bootBuiltins "list" = some (.type "list"):=by decide +kernel
theorem ziy:bootBuiltins "tuple" = some (.type "tuple"):=by decide +kernel
theorem zaq {H:Hp}{p:Addr}{o:HO} (hp:H p=none):zar H (upd H p o):=λ b u e=>by rw[zaf (zam e hp)];exact e
theorem zar.seqT {K:PySem.W.Frag}{H H':Hp}{a:Addr}{xs:List V} (e:zar H H') (h:SqT K H a xs):SqT K H' a xs:=by
 rcases h with (h|⟨o,h⟩)|h
 ·exact .inl (.inl (e _ _ h))
 ·exact .inl (.inr ⟨o,e _ _ h⟩)
 ·exact .inr h
end
end L2
set_option maxHeartbeats 1000000
namespace L2
open PySem PySem.Spec PyProof.Rows
def S (l:List Nat):Str:=⟨l.toArray⟩
theorem zca (l:List Nat):(S l).cps.toList=l:=rfl
theorem zho (l:List Nat):(S l).length=l.length:=by simp[S,Str.length]
theorem zzz {l m:List Nat}:S l=S m↔l=m:=⟨λ h=>by have:=congrArg (λ x:Str=>x.cps.toList) h;exact this,λ h=>by rw[h]⟩
theorem ycq (x:Str):x=S x.cps.toList:=by cases x;simp[S]
theorem zz0 (l m:List Nat):S l++S m=S (l++m):=by
 show Str.mk (l.toArray++m.toArray)=Str.mk (l++m).toArray
 simp
theorem zkm (l:List Nat) (c:Nat):Txt.contains (S l) (S [c])=decide (c∈l):=StrLaws.found_one (S l) c
def zel (c:Nat):List Nat->Nat
 | []=>0
 | a::r=>if a=c then 0 else zel c r+1
theorem zet (c:Nat):∀ (l:List Nat),c∈l->l[zel c l]?=some c/\∀ k,k<zel c l->l[k]?≠some c
 | [],h=>by cases h
 | a::r,h=>by
  unfold zel
  by_cases ha:a=c
  ·rw[if_pos ha];exact⟨by simp[ha],λ k hk=>by omega⟩
  ·rw[if_neg ha]
   have hr:c∈r:=by
    rcases List.mem_cons.mp h with z|z
    ·exact absurd z.symm ha
    ·exact z
   obtain ⟨h1,h2⟩:=zet c r hr
   refine⟨by simpa using h1,λ k hk=>?_⟩
   cases k with
   | zero=>simpa using ha
   | succ k=>simpa using h2 k (by omega)
theorem zqo (c:Nat) (l:List Nat) (h:c∈l):zel c l<l.length:=by
 have:=(zet c l h).1
 exact (List.getElem?_eq_some_iff.mp this).1
theorem zqp (l:List Nat) (c i:Nat):StrLaws.At (S l) (S [c]) (S l).length i↔l[i]?=some c:=StrLaws.subAt_one (S l) c i
theorem zz1 (l:List Nat) (c limit:Nat) (hl:1<=limit) (h:c∈l):∃ r,Builtin.Str.occurrences (S l) (S [c]) 0 (S l).length limit=zel c l::r:=by
 obtain ⟨h1,h2⟩:=zet c l h
 rcases StrLaws.occ_head (S l) (S [c]) limit hl with ⟨_,hn⟩|⟨i,r,e,ha,hb⟩
 ·exact absurd ((zqp l c _).mpr h1) (hn _)
 ·have hi:i=zel c l:=by
   rcases Nat.lt_trichotomy i (zel c l) with z|z|z
   ·exact absurd ((zqp l c i).mp ha) (h2 i z)
   ·exact z
   ·exact absurd ((zqp l c _).mpr h1) (hb _ z)
  exact⟨r,by rw[e,hi]⟩
theorem zqq {l:List Nat} (h:∀ c∈l,c<128):Txt.lower (S l)=S (l.map lo1):=by
 rw[lower_ascii (x:=S l) h]
 simp[S]
section
variable {X:Cx}{tg:Expr}
def Its (x:Str):It:=⟨λ i _=>i<x.length,λ i H v H'=>H'=H/\∃ c,x.cps.toList[i]?=some c/\v=.str (S [c]),λ i _=>x.length<=i⟩
theorem zqr {P:Program}{w:World}{K:PySem.W.Frag} (x:Str) (t:Tok) (it:Addr):Turn P w K tg (Its x) [it] it (λ i h=>h.IsStrIter it "str_ascii_iterator" x t i) where
 mem:=by simp
 obj:=λ i h st b hb=>by
  have e:b=it:=by simpa using hb
  subst e
  obtain ⟨o,e,c,d⟩:=st
  exact⟨o,e,λ v z=>by rw[d] at z;cases z⟩
 keep:=λ i h h' st k=>by
  obtain ⟨o,e,r⟩:=st
  exact⟨o,k it (by simp) o e,r⟩
 item:=by
  intro X hP hw hK hc i pins s σ H E I hf st hg
  subst hP hw hK
  have hg:i<x.length:=hg
  obtain ⟨ch,hx⟩:∃ ch,x.cps[i]?=some ch:=⟨_,Array.getElem?_eq_getElem (show i<x.cps.size from hg)⟩
  obtain ⟨f0,f1,f2,f3,f4,f5⟩:=hf it (by simp)
  refine wpAny_pyNext_ascii_item st hx λ h' st' sb=>?_
  have I1:Inv X pins σ H { s with heap:=h',toks:=s.toks+1 }:=I.turned (λ b o hb e=>(sb.2 b hb).trans e) f0 f1 f3 f4 f5
  obtain ⟨o,e,c,d⟩:=id st'
  exact⟨_,rfl,zpq (s:={ s with heap:=h',toks:=s.toks+1 }) e c d (by decide) ⟨.str ⟨#[ch]⟩,H,I1,⟨_,rfl⟩,⟨rfl,ch,by simpa using hx,rfl⟩,st',λ b hb=>(hf b hb).1⟩⟩
 done:=by
  intro X hP hw hK hc i pins s σ H E I hf st hg
  subst hP hw hK
  obtain ⟨f0,f1,f2,f3,f4,f5⟩:=hf it (by simp)
  have hg:x.length<=i:=hg
  exact wpAny_pyNext_ascii_end (I.ok.hd hc) st (by have:x.cps.size<=i:=hg;simp[this]) λ h' eb=>⟨rfl,I.turned (t':=s.toks) (λ b o hb e=>eb b o hb e) f0 f1 f3 f4 f5⟩
 self:=λ _ _ _ _ _ st h=>wpAny_pyIter_striter_ascii st h
theorem zqs {P:Program}{w:World}{K:PySem.W.Frag} (x:Str) (t:Tok) (it:Addr):Turn P w K tg (Its x) [it] it (λ i h=>h.IsStrIter it "str_iterator" x t i) where
 mem:=by simp
 obj:=λ i h st b hb=>by
  have e:b=it:=by simpa using hb
  subst e
  obtain ⟨o,e,c,d⟩:=st
  exact⟨o,e,λ v z=>by rw[d] at z;cases z⟩
 keep:=λ i h h' st k=>by
  obtain ⟨o,e,r⟩:=st
  exact⟨o,k it (by simp) o e,r⟩
 item:=by
  intro X hP hw hK hc i pins s σ H E I hf st hg
  subst hP hw hK
  have hg:i<x.length:=hg
  obtain ⟨ch,hx⟩:∃ ch,x.cps[i]?=some ch:=⟨_,Array.getElem?_eq_getElem (show i<x.cps.size from hg)⟩
  obtain ⟨f0,f1,f2,f3,f4,f5⟩:=hf it (by simp)
  refine wpAny_pyNext_wide_item st hx λ h' st' sb=>?_
  have I1:Inv X pins σ H { s with heap:=h',toks:=s.toks+1 }:=I.turned (λ b o hb e=>(sb.2 b hb).trans e) f0 f1 f3 f4 f5
  obtain ⟨o,e,c,d⟩:=id st'
  exact⟨_,rfl,zpq (s:={ s with heap:=h',toks:=s.toks+1 }) e c d (by decide) ⟨.str ⟨#[ch]⟩,H,I1,⟨_,rfl⟩,⟨rfl,ch,by simpa using hx,rfl⟩,st',λ b hb=>(hf b hb).1⟩⟩
 done:=by
  intro X hP hw hK hc i pins s σ H E I hf st hg
  subst hP hw hK
  obtain ⟨f0,f1,f2,f3,f4,f5⟩:=hf it (by simp)
  have hg:x.length<=i:=hg
  exact wpAny_pyNext_wide_end (I.ok.hd hc) st (by have:x.cps.size<=i:=hg;simp[this]) λ h' eb=>⟨rfl,I.turned (t':=s.toks) (λ b o hb e=>eb b o hb e) f0 f1 f3 f4 f5⟩
 self:=λ _ _ _ _ _ st h=>wpAny_pyIter_striter_wide st h
variable {l:Expr}{tl:TE}
end
section
variable {X:Cx}
def z4j (C:Str->Prop) (f:Str->V):V->List V->Hp->VK->Prop:=λ x vs H Q=>match x,vs with|.str z,[]=>C z/\Q (f z) H|_,_=>False
theorem z9p {id:String}{C:Str->Prop}{f:Str->V} (h:∀ (pins:List (Addr×Obj)) (s:Shared) (σ:St) (H:Hp) (z:Str) (t:Tok) (Q:VK),Inv X pins σ H s->C z->Q (f z) H->wpAny (model X.prog X.w) X.A (call (.builtin id) [.str z t]) (EP X pins σ Q) X.xe s):MtR X id (z4j C f):=by
 intro pins s σ H x vs v us Q I rx rv q
 unfold z4j at q
 split at q
 ·obtain ⟨c,q⟩:=q
  obtain ⟨t,rfl⟩:=rx
  cases rv
  exact h pins s σ H _ t Q I c q
 ·exact q.elim
theorem zur:MtR X "str.lower" (z4j (λ z=>Builtin.Str.tooLong (Txt.lower z).length=false) λ z=>.str (Txt.lower z)) :=
 z9p λ pins s σ H z t Q I c q=>SC.lower c ⟨.str _,H,I.tok _,⟨_,rfl⟩,q⟩
def zqt:V->List V->Hp->VK->Prop:=λ x vs H Q=>match x,vs with|.str z,[.str y]=>∃ i r,Builtin.Str.occurrences z y 0 z.length 1=i::r/\Q (.int i) H|_,_=>False
theorem zus:MtR X "str.index" zqt:=by
 intro pins s σ H x vs v us Q I rx rv q
 unfold zqt at q
 split at q
 ·obtain ⟨i,r,e,q⟩:=q
  obtain ⟨t,rfl⟩:=rx
  obtain ⟨u,rfl,ru⟩:=rv.one
  obtain ⟨t',rfl⟩:=ru
  exact SC.index e ⟨.int i,H,I.tok _,⟨_,rfl⟩,q⟩
 ·exact q.elim
theorem zh5:∀ {ys:List Str}{us:List Value},zbj (ys.map V.str) us->StrsAre us ys
 | [],_,.nil=>.nil
 | y::r,_,.cons h t=>by
  obtain ⟨tk,rfl⟩:=h
  exact .cons y tk (zh5 t)
def zz2 (K:PySem.W.Frag):V->List V->Hp->VK->Prop:=λ x vs H Q=>match x,vs with
 | .str z,[.ref a]=>∃ ys:List Str,SqL K H a (ys.map V.str)/\(ys.map (·.length)).sum+ys.length * z.length<=16777216/\Q (.str (Txt.join z ys)) H
 | _,_=>False
theorem zz3:MtR X "str.join" (zz2 X.K):=by
 intro pins s σ H x vs v us Q I rx rv q
 unfold zz2 at q
 split at q
 ·obtain ⟨ys,hq,hz,q⟩:=q
  obtain ⟨t,rfl⟩:=rx
  obtain ⟨u,rfl,ru⟩:=rv.one
  cases ru
  obtain ⟨its,r,pl,_⟩:=I.list hq
  exact join_list pl.isList (zh5 r) hz λ t' k=>⟨.str _,H,I.tok _,⟨_,rfl⟩,q⟩
 ·exact q.elim
def z9q:V->Option Int->Option Int->Hp->VK->Prop:=λ x lo hi H Q=>match x with|.str z=>z.length<=sizeLine/\Q (.str (StrLaws.sliceText z lo hi)) H|_=>False
theorem z4k:SlR X z9q:=by
 intro pins s σ H x v vl vu lo hi sl Q I rx hs pl pu h
 unfold z9q at h
 obtain ⟨z,rfl,hz,q⟩:=zzq h
 obtain ⟨t,rfl⟩:=rx
 refine⟨"str",_,PySem.F.slot_str_getitem.lookup,typeIs_str _ _ _,?_⟩
 have part:∀ {v:Value} {o:Option Int},IsPart v o->∃ l:Option (Int×Tok),partValue l=v/\l.map (·.1)=o:=λ p=>by
  cases p with
  | none=>exact⟨none,rfl,rfl⟩
  | int i t=>exact⟨some (i,t),rfl,rfl⟩
 obtain ⟨l,e1,e2⟩:=part pl
 obtain ⟨u,e3,e4⟩:=part pu
 subst e1 e2 e3 e4
 refine wpAny_getItem_str_slice (l:=l) (u:=u) (st:=none) hs rfl ?_
 refine post_val_or_str ⟨Nat.le_trans ?_ hz,λ t' k=>⟨.str _,H,I.tok _,⟨_,rfl⟩,q⟩⟩
 exact Txt.slice_le z _ _
end
theorem zut (l:List Nat) (j:Nat):StrLaws.sliceText (S l) none (some (j:Int))=S (l.take j):=by
 by_cases h:j<=l.length
 ·rw[StrLaws.sliceText_to ⟨by omega,by rw[zca];omega⟩]
  simp[S]
 ·have e:StrLaws.sliceText (S l) none (some (j:Int))=StrLaws.sliceText (S l) none (some (l.length:Int)):=by
   unfold StrLaws.sliceText
   have e1:Builtin.Str.strSliceIndices none (some (j:Int)) 1 (S l).length=Builtin.Str.strSliceIndices none (some (l.length:Int)) 1 (S l).length:=by
    rw[zho]
    have h1:min (j:Int) (l.length:Int)=(l.length:Int):=by omega
    have h2:¬ (j:Int)<0:=by omega
    have h3:¬ (l.length:Int)<0:=by omega
    simp[Builtin.Str.strSliceIndices,h1,h2,h3]
   rw[e1]
  rw[e,StrLaws.sliceText_to ⟨by omega,by rw[zca];omega⟩]
  have e2:l.take j=l:=List.take_of_length_le (by omega)
  rw[e2]
  simp[S]
theorem zon (l:List Nat) (i:Nat) (h:i<=l.length):StrLaws.sliceText (S l) (some (i:Int)) none=S (l.drop i):=by
 rw[StrLaws.sliceText_from ⟨by omega,by rw[zca];omega⟩]
 rw[zca]
 have e:((l.length:Int) - (i:Int)).toNat=l.length - i:=by omega
 rw[e,Int.toNat_natCast]
 have e2:(l.drop i).take (l.length - i)=l.drop i:=List.take_of_length_le (by simp)
 rw[e2]
 rfl
def zlw (sep:List Nat):List (List Nat)->List Nat
 | []=>[]
 | [x]=>x
 | x::y::r=>x++sep++zlw sep (y::r)
theorem z4l (sep:List Nat) (ls:List (List Nat)):Txt.join (S sep) (ls.map S)=S (zlw sep ls):=by
 show Builtin.Str.glued (S sep) (ls.map S)=_
 rw[StrLaws.glued_eq_join]
 induction ls with
 | nil=>rfl
 | cons x r ih =>
  cases r with
  | nil=>rfl
  | cons y r =>
   show S x++S sep++Str.join (S sep) ((y::r).map S)=S (x++sep++zlw sep (y::r))
   rw[ih,zz0,zz0]
theorem zkn:∀ (ls:List (List Nat)),zlw [] ls=ls.flatten
 | []=>rfl
 | [x]=>by simp[zlw]
 | x::y::r=>by
  show x++[]++zlw [] (y::r)=_
  rw[zkn (y::r)]
  simp
end L2
namespace L2
open PySem
abbrev bmV:List Value:=[.type "ValueError",.type "Exception",.type "BaseException",.type "object"]
end L2
namespace L2
open PySem
open Builtin Builtin.ObjectAttr
end L2
namespace L2
open PySem
end L2
namespace L2
open PySem PySem.Spec PyProof.Rows
section
variable {κ:Type} [DecidableEq κ]
def zeq (kvs:List (κ×V)) (k:κ):Option V:=(kvs.find? λ kv=>decide (kv.1=k)).map (·.2)
def ziz (kvs:List (κ×V)) (k:κ) (v:V):List (κ×V) :=
 if (kvs.any λ kv=>decide (kv.1=k))=true then kvs.map (λ kv=>if kv.1=k then (kv.1,v) else kv) else kvs++[(k,v)]
theorem zdc {p:κ×V}{r:List (κ×V)}{k:κ} (e:p.1=k):zeq (p::r) k=some p.2:=by simp[zeq,List.find?_cons,e]
theorem zct {p:κ×V}{r:List (κ×V)}{k:κ} (e:¬ p.1=k):zeq (p::r) k=zeq r k:=by simp[zeq,List.find?_cons,e]
theorem zi0 (k:κ):∀ kvs:List (κ×V),(kvs.any λ kv=>decide (kv.1=k))=(zeq kvs k).isSome
 | []=>rfl
 | p::r=>by
  rw[List.any_cons]
  by_cases e:p.1=k
  ·simp only[zdc e,decide_eq_true e,Bool.true_or,Option.isSome_some]
  ·rw[zct e,decide_eq_false e,Bool.false_or];exact zi0 k r
theorem zem (kvs:List (κ×V)) (k:κ) (v:V):(ziz kvs k v).length<=kvs.length+1:=by
 unfold ziz
 split
 ·rw[List.length_map];omega
 ·rw[List.length_append,List.length_cons,List.length_nil];omega
theorem zmy.isSome_eq {o:Option V}{u:Option Value} (r:zmy o u):o.isSome=u.isSome:=by
 cases o with
 | none=>cases u with
  | none=>rfl
  | some _=>exact (show False from r).elim
 | some _=>cases u with
  | none=>exact (show False from r).elim
  | some _=>rfl
theorem zmy.getD {o:Option V}{u:Option Value}{d:V}{d':Value} (r:zmy o u) (rd:zbe d d'):zbe (o.getD d) (u.getD d'):=by
 cases o with
 | none=>cases u with
  | none=>exact rd
  | some _=>exact (show False from r).elim
 | some _=>cases u with
  | none=>exact (show False from r).elim
  | some _=>exact r
theorem KV.val {kvs:List (κ×V)}{vs:List (κ×Value)} (r:KV kvs vs) (k:κ):zmy (zeq kvs k) (valueAt vs k):=by
 unfold KV at r
 induction r with
 | nil=>exact True.intro
 | @cons p q ps qs h t ih =>
  obtain ⟨h1,h2⟩:=h
  by_cases e:p.1=k
  ·have e':q.1=k:=h1.symm.trans e
   have b:valueAt (q::qs) k=some q.2:=by simp[valueAt,List.find?_cons,e']
   rw[zdc e,b];exact h2
  ·have e':¬ q.1=k:=λ z=>e (h1.trans z)
   have b:valueAt (q::qs) k=valueAt qs k:=by simp[valueAt,List.find?_cons,e']
   rw[zct e,b];exact ih
theorem KV.any {kvs:List (κ×V)}{vs:List (κ×Value)} (r:KV kvs vs) (k:κ):(kvs.any λ kv=>decide (kv.1=k))=vs.any λ kv=>decide (kv.1=k):=by
 unfold KV at r
 induction r with
 | nil=>rfl
 | cons h t ih=>rw[List.any_cons,List.any_cons,ih,h.1]
theorem KV.repl {kvs:List (κ×V)}{vs:List (κ×Value)} (r:KV kvs vs) (k:κ) {y:V}{u:Value} (ry:zbe y u) :
  KV (kvs.map λ kv=>if kv.1=k then (kv.1,y) else kv) (vs.map λ kv=>if kv.1=k then (kv.1,u) else kv):=by
 unfold KV at r ⊢
 induction r with
 | nil=>exact .nil
 | @cons p q ps qs h t ih =>
  rw[List.map_cons,List.map_cons]
  refine .cons ?_ ih
  obtain ⟨h1,h2⟩:=h
  by_cases e:p.1=k
  ·rw[if_pos e,if_pos (h1.symm.trans e)];exact⟨h1,ry⟩
  ·rw[if_neg e,if_neg (λ z=>e (h1.trans z))];exact⟨h1,h2⟩
theorem KV.put {kvs:List (κ×V)}{vs:List (κ×Value)} (r:KV kvs vs) (k:κ) {y:V}{u:Value} (ry:zbe y u):KV (ziz kvs k y) (stored vs k u):=by
 unfold ziz stored
 rw[r.any k]
 by_cases e:(vs.any λ kv=>decide (kv.1=k))=true
 ·rw[if_pos e,if_pos e];exact r.repl k ry
 ·rw[if_neg e,if_neg e];exact Paired.snoc r ⟨rfl,ry⟩
theorem KV.length {kvs:List (κ×V)}{vs:List (κ×Value)} (r:KV kvs vs):kvs.length=vs.length:=Paired.length r
end
theorem zoo {P:Program}{w:World}{k:Key}{u:Value} (r:zbe (kV k) u):(zbg P w).is k u=true:=by
 cases k with
 | inl i=>obtain ⟨t,e⟩:=(show ∃ t,u=Value.int i t from r);subst e;exact zlo P w i t
 | inr x=>obtain ⟨t,e⟩:=(show ∃ t,u=Value.str x t from r);subst e;exact zlp P w x t
theorem zko {P:Program}{w:World}:∀ {ks:List Key}{us:List Value},zbj (ks.map kV) us->ItemsAre (zbg P w) ks us
 | [],_,r=>by rw[List.map_nil] at r;cases r;exact .nil
 | k::ks,_,r=>by
  rw[List.map_cons] at r
  cases r with
  | cons h t=>exact .cons (zoo h) (zko t)
abbrev KT (H:Hp):List (List Key×V)->List (List Key×Addr×Value)->Prop:=Paired λ p q=>p.1=q.1/\H q.2.1=some (.tup (p.1.map kV))/\zbe p.2 q.2.2
theorem KT.val {H:Hp}{kvs:List (List Key×V)}{xs:List (List Key×Addr×Value)} (r:KT H kvs xs) (k:List Key):zmy (zeq kvs k) ((atKey xs k).map (·.2)):=by
 induction r with
 | nil=>exact True.intro
 | @cons p q ps qs h t ih =>
  obtain ⟨h1,_,h2⟩:=h
  by_cases e:p.1=k
  ·have e':q.1=k:=h1.symm.trans e
   have b:atKey (q::qs) k=some q.2:=by simp[atKey,List.find?_cons,e']
   rw[zdc e,b];exact h2
  ·have e':¬ q.1=k:=λ z=>e (h1.trans z)
   have b:atKey (q::qs) k=atKey qs k:=by simp[atKey,List.find?_cons,e']
   rw[zct e,b];exact ih
theorem KT.repl {H:Hp}{kvs:List (List Key×V)}{xs:List (List Key×Addr×Value)} (r:KT H kvs xs) (k:List Key) {y:V}{u:Value} (ry:zbe y u) :
  KT H (kvs.map λ kv=>if kv.1=k then (kv.1,y) else kv) (xs.map (putAt k u)):=by
 induction r with
 | nil=>exact .nil
 | @cons p q ps qs h t ih =>
  rw[List.map_cons,List.map_cons]
  refine .cons ?_ ih
  obtain ⟨h1,h2,h3⟩:=h
  unfold putAt
  by_cases e:p.1=k
  ·rw[if_pos e,if_pos (h1.symm.trans e)];exact⟨h1,h2,ry⟩
  ·rw[if_neg e,if_neg (λ z=>e (h1.trans z))];exact⟨h1,h2,h3⟩
theorem KT.put {H:Hp}{kvs:List (List Key×V)}{xs:List (List Key×Addr×Value)} (r:KT H kvs xs) (k:List Key) {b:Addr}{y:V}{u:Value} (hb:H b=some (.tup (k.map kV))) (ry:zbe y u) :
  KT H (ziz kvs k y) (storedH xs k b u):=by
 have e:(kvs.any λ kv=>decide (kv.1=k))=(atKey xs k).isSome:=by
  rw[zi0,(r.val k).isSome_eq,Option.isSome_map]
 unfold ziz storedH
 rw[e]
 by_cases q:(atKey xs k).isSome=true
 ·rw[if_pos q,if_pos q];exact r.repl k ry
 ·rw[if_neg q,if_neg q];exact Paired.snoc r ⟨rfl,hb,ry⟩
theorem KT.keeps {H H':Hp}{kvs:List (List Key×V)}{xs:List (List Key×Addr×Value)} (r:KT H kvs xs) (ht:∀ b ys,H b=some (.tup ys)->H' b=some (.tup ys)):KT H' kvs xs :=
 Paired.mapP r λ _ _ z=>⟨z.1,ht _ _ z.2.1,z.2.2⟩
section
variable {P:Program}{w:World}{H:Hp}{h:Heap}{a:Addr}
theorem z4m {u:HO} (ok:HOk P w H h) (e:Rd H a u):zbb P w H h a u:=e.ok ok
theorem zkp {kvs:List (Key×V)} (ok:HOk P w H h) (e:Rd H a (.dK kvs)):kvs.length<=sizeLine/\(a == sysModules)=false/\∃ vs,KV kvs vs/\h.DictOf (zbg P w) a vs :=
 show zbb P w H h a (.dK kvs) from z4m ok e
theorem z9r {kvs:List (Key×V)} (ok:HOk P w H h) (e:H a=some (.dK kvs)):kvs.length<=sizeLine/\(a == sysModules)=false/\∃ vs,KV kvs vs/\h.DictOf (zbg P w) a vs:=zkp ok (.inl e)
theorem zgq {ks:List Key} (ok:HOk P w H h) (e:H a=some (.tup (ks.map kV))):(tupleKind (zbg P w)).is h ks a:=by
 obtain ⟨_,its,r,o,h1,h2,n,h3⟩:=(show zbb P w H h a (.tup (ks.map kV)) from ok a _ e)
 exact⟨o,its.toArray,n,h1,h2,h3,by simpa using zko r⟩
theorem zlx {kvs:List (List Key×V)} (ok:HOk P w H h) (e:Rd H a (.dT kvs)):kvs.length<=sizeLine/\(a == sysModules)=false ∧
  ∃ xs,KT H kvs xs/\h.DictOfH (tupleKind (zbg P w)) a xs:=by
 obtain ⟨z,y,xs,r,o,es,ep,h1,h2,h3,h4,h5⟩:=(show zbb P w H h a (.dT kvs) from z4m ok e)
 refine⟨z,y,xs,r,o,es,ep,h1,h2,h3,h4,λ x hx=>?_,h5⟩
 have all:∀ {l:List (List Key×V)} {m:List (List Key×Addr×Value)},KT H l m->∀ x∈m,(tupleKind (zbg P w)).is h x.1 x.2.1:=by
  intro l m q
  induction q with
  | nil=>intro x hx;exact nomatch hx
  | @cons p q ps qs hq t ih =>
   intro x hx
   rcases List.mem_cons.mp hx with e|hx
   ·subst e
    exact zgq ok (by rw[<-hq.1];exact hq.2.1)
   ·exact ih x hx
 exact all r x hx
theorem z4n {kvs:List (List Key×V)} (ok:HOk P w H h) (e:H a=some (.dT kvs)):kvs.length<=sizeLine/\(a == sysModules)=false ∧
  ∃ xs,KT H kvs xs/\h.DictOfH (tupleKind (zbg P w)) a xs:=zlx ok (.inl e)
end
def zly (H:Hp) (a:Addr) (y:V) (r:Option V):Prop :=
 (∃ kvs k,Rd H a (.dK kvs)/\y=kV k/\r=zeq kvs k)\/∃ kvs k b,Rd H a (.dT kvs)/\y=.ref b/\H b=some (.tup (k.map kV))/\r=zeq kvs k
def zt3 (H:Hp) (a:Addr) (y v:V) (H':Hp):Prop :=
 (∃ kvs k,H a=some (.dK kvs)/\y=kV k/\kvs.length<sizeLine/\H'=upd H a (.dK (ziz kvs k v))) ∨
 ∃ kvs k b,H a=some (.dT kvs)/\y=.ref b/\H b=some (.tup (k.map kV))/\kvs.length<sizeLine/\H'=upd H a (.dT (ziz kvs k v))
theorem zly.k {H:Hp}{a:Addr}{kvs:List (Key×V)}{k:Key} (e:H a=some (.dK kvs)):zly H a (kV k) (zeq kvs k):=.inl ⟨kvs,k,.inl e,rfl,rfl⟩
theorem zly.t {H:Hp}{a b:Addr}{kvs:List (List Key×V)}{k:List Key} (e:H a=some (.dT kvs)) (eb:H b=some (.tup (k.map kV))):zly H a (.ref b) (zeq kvs k):=.inr ⟨kvs,k,b,.inl e,rfl,eb,rfl⟩
theorem zt3.k {H:Hp}{a:Addr}{kvs:List (Key×V)}{k:Key}{v:V} (e:H a=some (.dK kvs)) (hl:kvs.length<sizeLine):zt3 H a (kV k) v (upd H a (.dK (ziz kvs k v))):=.inl ⟨kvs,k,e,rfl,hl,rfl⟩
theorem zt3.t {H:Hp}{a b:Addr}{kvs:List (List Key×V)}{k:List Key}{v:V} (e:H a=some (.dT kvs)) (eb:H b=some (.tup (k.map kV))) (hl:kvs.length<sizeLine) :
  zt3 H a (.ref b) v (upd H a (.dT (ziz kvs k v))):=.inr ⟨kvs,k,b,e,rfl,eb,hl,rfl⟩
section
variable {X:Cx}{pins:List (Addr×Obj)}{σ:St}{H:Hp}{s:Shared}{a:Addr}{y v:V}{u r:Value}{o:Option V}{A:Around}{E:Value->Shared->Prop}
theorem Inv.big (I:Inv X pins σ H s):sysModules<s.heap.objs.size:=by
 have h:mainGlobals<s.heap.objs.size:=(I.mod.glob.keeps I.bk).lt
 exact Nat.lt_trans (by decide) h
theorem zqu {Q:Value->Shared->Prop} (hu:A.units+1<cLine) (I:Inv X pins σ H s) (g:zly H a y (some v)) (ry:zbe y u) (h:∀ w' s',Inv X pins σ H s'->zbe v w'->Q w' s') :
  wpAny (model X.prog X.w) A (getItem (.ref a) u) Q E s:=by
 rcases g with ⟨kvs,k,e,ey,l⟩|⟨kvs,k,b,e,ey,eb,l⟩
 ·subst ey
  obtain ⟨z,hd,vs,rel,dd⟩:=zkp I.hok e
  obtain ⟨w',hw,rw'⟩:=zmy.some_of (v:=v) (o:=valueAt vs k) (by rw[l];exact rel.val k)
  exact wpAny_getItem_of (zoo ry) dd.mapOf hw (h w' _ (I.tok _) rw')
 ·subst ey
  cases (show u=Value.ref b from ry)
  obtain ⟨z,hd,xs,rel,dd⟩:=zlx I.hok e
  obtain ⟨w',hw,rw'⟩:=zmy.some_of (v:=v) (o:=(atKey xs k).map (·.2)) (by rw[l];exact rel.val k)
  obtain ⟨p,hp,hp2⟩:=Option.map_eq_some_iff.mp hw
  refine wpAny_getItem_heap (tupleKind_room_in1 hu) (zgq I.hok eb) dd hp ?_
  rw[hp2]
  exact h w' _ (I.tok _) rw'
theorem ycr {Q:Value->Shared->Prop} (hu:A.units+1<cLine) (I:Inv X pins σ H s) (g:zly H a y o) (ry:zbe y u) (h:∀ s',Inv X pins σ H s'->Q (.bool o.isSome) s') :
  wpAny (model X.prog X.w) A (compareOp .In u (.ref a)) Q E s:=by
 rcases g with ⟨kvs,k,e,ey,l⟩|⟨kvs,k,b,e,ey,eb,l⟩
 ·subst ey
  obtain ⟨z,hd,vs,rel,dd⟩:=zkp I.hok e
  refine wpAny_in_of (zoo ry) hd dd.mapOf ?_
  rw[<-(rel.val k).isSome_eq,<-l]
  exact h _ (I.tok _)
 ·subst ey
  cases (show u=Value.ref b from ry)
  obtain ⟨z,hd,xs,rel,dd⟩:=zlx I.hok e
  refine wpAny_in_heap (tupleKind_room_in1 hu) (zgq I.hok eb) hd dd ?_
  have q:=(rel.val k).isSome_eq
  rw[Option.isSome_map] at q
  rw[<-q,<-l]
  exact h _ (I.tok _)
theorem zz4 {Q:Value->Shared->Prop} (hu:A.units+1<cLine) (I:Inv X pins σ H s) (g:zly H a y o) (ry:zbe y u) (h:∀ s',Inv X pins σ H s'->Q (.bool (!o.isSome)) s') :
  wpAny (model X.prog X.w) A (compareOp .NotIn u (.ref a)) Q E s:=by
 rcases g with ⟨kvs,k,e,ey,l⟩|⟨kvs,k,b,e,ey,eb,l⟩
 ·subst ey
  obtain ⟨z,hd,vs,rel,dd⟩:=zkp I.hok e
  refine wpAny_notIn_of (zoo ry) hd dd.mapOf ?_
  rw[<-(rel.val k).isSome_eq,<-l]
  exact h _ (I.tok _)
 ·subst ey
  cases (show u=Value.ref b from ry)
  obtain ⟨z,hd,xs,rel,dd⟩:=zlx I.hok e
  refine wpAny_notIn_heap (tupleKind_room_in1 hu) (zgq I.hok eb) hd dd ?_
  have q:=(rel.val k).isSome_eq
  rw[Option.isSome_map] at q
  rw[<-q,<-l]
  exact h _ (I.tok _)
theorem zlz {h':Heap}{t':Nat}{ob:HO} (I:Inv X pins σ H s) (mu:Mut (H a)) (hs:Heap.SameBut a s.heap h') (he:∃ q,h'.get? a=some q) (new:zbb X.prog X.w (upd H a ob) h' a ob) :
  Inv X pins σ (upd H a ob) { s with heap:=h',toks:=t' } :=
 I.write (x:=a) (e:=a) mu (.inl rfl) (λ b q hb z=>(hs.2 b hb).trans z) he new
theorem z4o {P:Program}{w:World}{H':Hp}{h':Heap}{kvs:List (Key×V)}{vs:List (Key×Value)} (z:kvs.length<=sizeLine) (hd:(a == sysModules)=false) (rel:KV kvs vs) (dd:h'.DictOf (zbg P w) a vs) :
  zbb P w H' h' a (.dK kvs):=⟨z,hd,vs,rel,dd⟩
theorem zqv {H':Hp}{Q:Unit->Shared->Prop} (hu:A.units+1<cLine) (I:Inv X pins σ H s) (g:zt3 H a y v H') (ry:zbe y u) (rv:zbe v r) (h:∀ s',Inv X pins σ H' s'->Q () s') :
  wpAny (model X.prog X.w) A (setItem (.ref a) u r) Q E s:=by
 rcases g with ⟨kvs,k,e,ey,l,eH⟩|⟨kvs,k,b,e,ey,eb,l,eH⟩
 ·subst ey eH
  obtain ⟨z,hd,vs,rel,dd⟩:=z9r I.hok e
  have hz:vs.length<=sizeLine:=by rw[<-rel.length];exact z
  have hl:(ziz kvs k v).length<=sizeLine:=by have:=zem kvs k v;omega
  refine wpAny_setItem_pairs (hsz:=hz) (zoo ry) dd λ h' dd' hs=>h _ ?_
  have he:∃ q,h'.get? a=some q:=let ⟨q,_,_,hq,_⟩:=dd';⟨q,hq⟩
  exact zlz I (by rw[e];exact True.intro) hs he (z4o hl hd (rel.put k rv) dd')
 ·subst ey eH
  cases (show u=Value.ref b from ry)
  obtain ⟨z,hd,xs,rel,dd⟩:=z4n I.hok e
  have hz:xs.length<=sizeLine:=by rw[<-Paired.length rel];exact z
  have hl:(ziz kvs k v).length<=sizeLine:=by have:=zem kvs k v;omega
  refine wpAny_setItem_heap (hsz:=hz) (tupleKind_room_in1 hu) (zgq I.hok eb) dd λ h' dd' hs=>h _ ?_
  obtain ⟨q,es,ep,hq,h2,h3,h4,_,h5⟩:=dd'
  refine zlz I (by rw[e];exact True.intro) hs ⟨q,hq⟩ ⟨hl,hd,_,(rel.put k eb rv).keeps λ c ys ec=>?_,q,es,ep,hq,h2,h3,h4,h5⟩
  rw[zaf (z3d ec e (λ z=>nomatch z))]
  exact ec
end
def z9s (i:Expr):Prop:=∀ ov iv,subscripted i false ov iv=operate [ov,iv] (getItem ov iv)
theorem zz5 {prog:Program}{w:World}{A:Around}{E:Value->Shared->Prop}{s:Shared}{env:Env}{value slice:Expr}{pos:Pos}{T id:String}{Q:Value->Shared->Prop}
  (hl:typeLookup (.type T) "__getitem__" = pure (some (.builtin id))) (hs:z9s slice)
  (h:wpAny (model prog w) A (eval value env) (λ o s₁=>wpAny (model prog w) A (eval slice env) (λ i s₂=>s₂.TypeIs o T/\wpAny (model prog w) A (getItem o i) Q E s₂) E s₁) E s) :
  wpAny (model prog w) A (eval (.Subscript value slice pos) env) Q E s:=by
 refine Subscript_ (wpAny_mono h (λ o s₁ h₁=>wpAny_mono h₁ (λ i s₂ h₂=>?_) λ _ _ x=>x) λ _ _ x=>x)
 obtain ⟨hT,h₂⟩:=h₂
 unfold subscriptTail
 refine wpAny_bind ?_
 rw[getitemInPython_of_ne hT.not_modules]
 refine wpAny_bind (wpAny_specialOf hT hl ?_)
 have fin:wpAny (model prog w) A (subscripted slice false o i) (λ r s₃=>wpAny (model prog w) A (letTemporaryGo value o r >>= λ _=>pure r) Q E s₃) E s₂:=by
  rw[hs o i]
  exact wpAny_operating (wpAny_mono h₂ (λ r s₃ h₃=>wpAny_bind (wpAny_letTemporaryGo (wpAny_pure h₃))) λ _ _ x=>x)
 first
  | exact wpAny_pure (wpAny_bind fin)
  | exact wpAny_bind (wpAny_pure (wpAny_bind fin))
  | exact wpAny_bind fin
theorem zl0 {X:Cx}{pins:List (Addr×Obj)}{σ:St}{H:Hp}{s:Shared}{a:Addr}{y:V}{o:Option V} (I:Inv X pins σ H s) (g:zly H a y o):s.TypeIs (.ref a) "dict":=by
 rcases g with ⟨kvs,k,e,_,_⟩|⟨kvs,k,b,e,_,_,_⟩
 ·obtain ⟨_,_,vs,_,dd⟩:=zkp I.hok e
  exact dd.typeIs
 ·obtain ⟨_,_,xs,_,dd⟩:=zlx I.hok e
  exact dd.typeIs
def z9t (td ty:TE):TE:=λ σ H Q=>td σ H λ x H1=>ty σ H1 λ y H2=>∃ a v,x=.ref a/\zly H2 a y (some v)/\Q v H2
def z9u (td ty tv:TE):TS:=λ D σ H=>tv σ H λ v H1=>td σ H1 λ x H2=>ty σ H2 λ y H3=>∃ a H4,x=.ref a/\zt3 H3 a y v H4/\D.nx σ H4
section
variable {X:Cx}{o i e value:Expr}{pos pos' tpos:Pos}{td ty tv:TE}
theorem zz6 (hu:X.A.units+1<cLine) (ho:PE X o td) (hi:PE X i ty) (hs:z9s i):PE X (.Subscript o i pos) (z9t td ty):=by
 intro pins s σ H Q I h
 refine zz5 PySem.F.slot_dict_getitem.lookup hs (thn (ho pins s σ H _ I h) λ u s1 ⟨x,H1,I1,rx,q1⟩=>thn (hi pins s1 σ H1 _ I1 q1) λ iv s2 ⟨y,H2,I2,ry,a,v,ex,g,q2⟩=>?_)
 subst ex
 obtain rfl:u=Value.ref a:=rx
 exact⟨zl0 I2 g,zqu hu I2 g ry λ w' s3 I3 rw'=>⟨v,H2,I3,rw',q2⟩⟩
theorem zqw (hu:X.A.units+1<cLine) (ho:PE X o td) (hi:PE X i ty) (hv:PE X value tv) (hs:swapsWith value (some (.Subscript o i pos')) pos.line X.env=pure false) :
  PS X (.Assign [.Subscript o i pos'] value pos) (z9u td ty tv):=by
 intro pins s σ H D I h
 refine wpAny_Assign_Subscript (thn (hv pins s σ H _ I h) λ r s1 ⟨v,H1,I1,rv,q1⟩=>thn (ho pins s1 σ H1 _ I1 q1) λ u s2 ⟨x,H2,I2,rx,q2⟩=>thn (hi pins s2 σ H2 _ I2 q2) λ iv s3 ⟨y,H3,I3,ry,a,H4,ex,g,q3⟩=>?_) hs
 subst ex
 obtain rfl:u=Value.ref a:=rx
 exact zqv hu I3 g ry rv λ s4 I4=>⟨σ,H4,I4,q3⟩
end
theorem zuu {P:Program}{w:World}{H:Hp} (h:Heap) (hb:sysModules<h.objs.size):zbb P w H (h.push { cls:=.type "dict",data:=.dict #[] }) h.objs.size (.dK []) :=
 ⟨Nat.zero_le _,beq_eq_false_iff_ne.mpr (Ne.symm (Nat.ne_of_lt hb)),[],.nil,Heap.DictOf.new h⟩
theorem zuv {P:Program}{w:World}{H:Hp} (h:Heap) (hb:sysModules<h.objs.size):zbb P w H (h.push { cls:=.type "dict",data:=.dict #[] }) h.objs.size (.dT []) :=
 ⟨Nat.zero_le _,beq_eq_false_iff_ne.mpr (Ne.symm (Nat.ne_of_lt hb)),[],.nil,_,#[],0,Heap.get?_push_size _ rfl,⟨rfl,rfl,rfl⟩,rfl,rfl,List.nodup_nil⟩
def z4p:TE:=λ _ H Q=>∀ p,H p=none->Q (.ref p) (upd H p (.dK []))
def z4q:TE:=λ _ H Q=>∀ p,H p=none->Q (.ref p) (upd H p (.dT []))
section
variable {X:Cx}{pos:Pos}
theorem zuw:PE X (.Dict [] [] pos) z4p:=λ pins s σ H Q I h =>
 wpAny_Dict_empty ⟨.ref s.heap.objs.size,_,I.laid (a:=s.heap.objs.size) (o:=.dK []) (t':=s.toks) (λ _ _ q=>Heap.get?_push_of_some _ q) (Nat.le_refl _) (zuu s.heap I.big),rfl,h _ (I.hok.fresh (Nat.le_refl _))⟩
theorem zi1:PE X (.Dict [] [] pos) z4q:=λ pins s σ H Q I h =>
 wpAny_Dict_empty ⟨.ref s.heap.objs.size,_,I.laid (a:=s.heap.objs.size) (o:=.dT []) (t':=s.toks) (λ _ _ q=>Heap.get?_push_of_some _ q) (Nat.le_refl _) (zuv s.heap I.big),rfl,h _ (I.hok.fresh (Nat.le_refl _))⟩
end
structure M2 (X:Cx) (o:Expr) (m:Str) (apos:Pos) (e f:Expr) (cpos:Pos):Prop where
 base:attributeBase o m X.env (eval o X.env)=eval o X.env
 few:((backTo cpos (starEach [e,f] X.env)).all (λ x=>!x.1) && (backToKw cpos (keywordEach [] X.env)).all (λ x=>x.1.isSome)
  && decide (([e,f]:List Expr).length+([]:List Keyword).length+(if ([]:List Keyword).isEmpty then 0 else 1)<30))=true
 line:(apos.endLine == cpos.line)=true
 trees:backTo cpos (starEach [e,f] X.env)=[(false,eval e X.env),(false,eval f X.env)]
def IsD (H:Hp) (a:Addr):Prop:=(∃ kvs,Rd H a (.dK kvs))\/∃ kvs,Rd H a (.dT kvs)
theorem zxh {X:Cx}{pins:List (Addr×Obj)}{σ:St}{H:Hp}{s:Shared}{a:Addr} (I:Inv X pins σ H s) (d:IsD H a) :
  s.TypeIs (.ref a) "dict" /\ (∀ b,Value.ref a=.ref b->∃ ob,s.heap.get? b=some ob/\ob.dict=none)/\(a == sysModules)=false:=by
 rcases d with ⟨kvs,e⟩|⟨kvs,e⟩
 ·obtain ⟨_,hd,vs,_,dd⟩:=zkp I.hok e
  refine⟨dd.typeIs,λ b q=>?_,hd⟩
  cases q
  obtain ⟨ob,_,_,h1,h2,_⟩:=dd
  exact⟨ob,h1,h2.2.1⟩
 ·obtain ⟨_,hd,xs,_,dd⟩:=zlx I.hok e
  refine⟨dd.typeIs,λ b q=>?_,hd⟩
  cases q
  obtain ⟨ob,_,_,h1,h2,_⟩:=dd
  exact⟨ob,h1,h2.2.1⟩
section
variable {X:Cx}{pins:List (Addr×Obj)}{σ:St}{H:Hp}{s:Shared}{a:Addr}{y d:V}{u r:Value}{o:Option V}{A:Around}{E:Value->Shared->Prop}
theorem z4r {Q:Value->Shared->Prop} (hu:A.units+1<cLine) (I:Inv X pins σ H s) (g:zly H a y o) (ry:zbe y u) (rd:zbe d r) (h:∀ w' s',Inv X pins σ H s'->zbe (o.getD d) w'->Q w' s') :
  wpAny (model X.prog X.w) A (call (.builtin "dict.get") [.ref a,u,r]) Q E s:=by
 rcases g with ⟨kvs,k,e,ey,l⟩|⟨kvs,k,b,e,ey,eb,l⟩
 ·subst ey
  obtain ⟨z,hd,vs,rel,dd⟩:=zkp I.hok e
  refine call_meetsIn PySem.F.slot_dict_get dd.typeIs PySem.F.entry_dict_get (PySem.F.args_dict_get_3 _ _ _) (meets_dict_get_default (zbg X.prog X.w) a (zoo ry) hd r) ⟨_,dd.mapOf,h _ _ (I.tok _) ?_⟩
  rw[l]
  exact (rel.val k).getD rd
 ·subst ey
  cases (show u=Value.ref b from ry)
  obtain ⟨z,hd,xs,rel,dd⟩:=zlx I.hok e
  refine call_meetsIn PySem.F.slot_dict_get dd.typeIs PySem.F.entry_dict_get (PySem.F.args_dict_get_3 _ _ _) (meetsH_dict_get_default (tupleKind (zbg X.prog X.w)) a b hd r) ⟨tupleKind_room_in1 hu,k,xs,zgq I.hok eb,dd,h _ _ (I.tok _) ?_⟩
  rw[l]
  exact (rel.val k).getD rd
end
def z4s (td ty tx:TE):TE:=λ σ H Q=>td σ H λ x H1=>∃ a,x=.ref a/\IsD H1 a/\ty σ H1 λ y H2=>tx σ H2 λ z H3=>∃ o,zly H3 a y o/\Q (o.getD z) H3
section
variable {X:Cx}{o e f:Expr}{apos cpos:Pos}{td ty tx:TE}
theorem zux (hu:X.A.units+1<cLine) (ho:PE X o td) (he:PE X e ty) (hf:PE X f tx) (m:M2 X o "get" apos e f cpos):PE X (.Call (.Attribute o "get" apos) [e,f] [] cpos) (z4s td ty tx):=by
 intro pins s σ H Q I h
 refine wpAny_Call_method m.base m.few m.line PySem.F.plainAttrs_dict PySem.F.slot_dict_get PySem.F.type_dict_get (thn (ho pins s σ H _ I h) λ u s1 ⟨x,H1,I1,rx,a,ex,d,q1⟩=>?_)
 subst ex
 obtain rfl:u=Value.ref a:=rx
 obtain ⟨t1,t2,_⟩:=zxh I1 d
 refine⟨t1,t2,?_⟩
 rw[m.trees]
 refine Calls.callWith_builtin rfl (Calls.evalArgs_plain (Calls.spliced_cons (thn (he pins s1 σ H1 _ I1 q1) λ iv s2 ⟨y,H2,I2,ry,q2⟩ =>
  Calls.spliced_cons (thn (hf pins s2 σ H2 _ I2 q2) λ fv s3 ⟨z,H3,I3,rz,ov,g,q3⟩=>Calls.spliced_nil ?_))))
 exact z4r hu I3 g ry rz λ w' s4 I4 rw'=>⟨_,H3,I4,rw',q3⟩
end
end L2
namespace Att
open PySem PySem.W PySem.Calls PyProof.Rows
end Att
namespace L2
open PySem PySem.Spec PyProof.Rows
def ExO (e C dx:Addr):Heap->Prop:=λ h=>∃ vs sl,h.get? e=some ⟨.ref C,some dx,.fields vs,sl⟩
def XdO (dx:Addr) (fs:List (Str×V)):Heap->Prop:=λ h=>∃ mA,h.Ns1 dx mA/\(∀ f,zmy (fs.lookup f) (mA f))/\PySem.Within mA (fs.map (·.1))
def z4t:List Str:=["__setattr__","__getattribute__","__getattr__","__class__","path","first","last","goal","ring","at","row"]
def NsK (K:PySem.W.Frag) (N:Addr) (ini:Option Value):Prop:=∃ c d es ep sl,K.lookup N=some ⟨c,d,.dict es ep,sl⟩/\(∀ e∈es,∃ n t,e.key=.str n t)/\(∀ n∈z4t,nsFind es n=none)/\nsFind es "__init__" = ini
structure XK' (K:PySem.W.Frag) (nm:Str) (C P:Addr) (fI:Option Addr):Prop where
 cl:∃ q N bs sn sub ab col dd k0 k1 k2 k3 k5,K.lookup C=some (excClassObj nm q C N bs (.ref P::bmV) true sn sub ab col dd k0 k1 k2 k3 k5 "ValueError.__new__")/\NsK K N (fI.map Value.ref)
 pa:∃ pn q N bs hd sn sub ab col dd k0 k1 k2 k3 k5,K.lookup P=some (excClassObj pn q P N bs bmV hd sn sub ab col dd k0 k1 k2 k3 k5 "ValueError.__new__")/\NsK K N none
def ClP (K:PySem.W.Frag) (nm:Str) (C:Addr):Prop:=∃ P fI,XK' K nm C P fI/\PySem.W.nsIn K mainGlobals "PageError" = some (some (.ref P))/\PySem.W.nsIn K mainGlobals nm=some (some (.ref C))
abbrev D.int (i:Int):D:=.sc (.int i)
abbrev D.bl (b:Bool):D:=.sc (.bl b)
abbrev D.non:D:=.sc .non
abbrev D.str (l:List Nat):D:=.sc (.str (S l))
theorem _root_.PySem.Paired.zmap {α β:Type}{F G:α->β->Prop}{l₁:List α}{l₂:List β} (h:Paired F l₁ l₂) (f:∀ a b,F a b->G a b):Paired G l₁ l₂:=Paired.mapP h f
def SqU (K:PySem.W.Frag) (H:Hp) (a:Addr) (xs:List V):Prop:=H a=some (.tup xs)
theorem SqU.toT {K:PySem.W.Frag}{H:Hp}{a:Addr}{xs:List V} (h:SqU K H a xs):SqT K H a xs:=.inl (.inl h)
theorem SqU.of {K:PySem.W.Frag}{H:Hp}{a:Addr}{xs:List V} (h:H a=some (.tup xs)):SqU K H a xs:=h
theorem SqU.same {K:PySem.W.Frag}{H H':Hp}{a:Addr}{xs:List V} (h:SqU K H a xs) (s:zar H H'):SqU K H' a xs:=s _ _ h
def zop (K:PySem.W.Frag) (H:Hp):Nat->D->V->Prop
 | 0,d,x=>match d with|.sc v=>zci v=true/\x=v|_=>False
 | k+1,d,x=>match d with
  | .sc v=>zci v=true/\x=v
  | .tup ds=>∃ a xs,x=.ref a/\SqU K H a xs/\Paired (zop K H k) ds xs
  | .lst ds=>∃ a xs,x=.ref a/\SqL K H a xs/\Paired (zop K H k) ds xs
  | .dk ks ds=>∃ a kvs,x=.ref a/\H a=some (.dK kvs)/\kvs.map Prod.fst=ks/\Paired (zop K H k) ds (kvs.map Prod.snd)
  | .dt ks ds=>∃ a kvs,x=.ref a/\H a=some (.dT kvs)/\kvs.map Prod.fst=ks/\Paired (zop K H k) ds (kvs.map Prod.snd)
  | .er n ks ds=>∃ e C dx fs,x=.ref e/\H e=some (.ext (ExO e C dx))/\ClP K n C/\dx≠e/\H dx=some (.ext (XdO dx fs))/\fs.map Prod.fst=ks/\Paired (zop K H k) ds (fs.map Prod.snd)
theorem z4u {K:PySem.W.Frag}{H:Hp}:∀ {k:Nat}{d:D}{x:V},zop K H k d x->zop K H (k+1) d x:=by
 intro k
 induction k with
 | zero =>
  intro d x h
  cases d with
  | sc v=>exact h
  | _=>exact h.elim
 | succ k ih =>
  intro d x h
  cases d with
  | sc v=>exact h
  | tup ds=>obtain ⟨a,xs,e,q,p⟩:=h;exact⟨a,xs,e,q,p.zmap λ _ _=>ih⟩
  | lst ds=>obtain ⟨a,xs,e,q,p⟩:=h;exact⟨a,xs,e,q,p.zmap λ _ _=>ih⟩
  | dk ks ds=>obtain ⟨a,xs,e,q,hk,p⟩:=h;exact⟨a,xs,e,q,hk,p.zmap λ _ _=>ih⟩
  | dt ks ds=>obtain ⟨a,xs,e,q,hk,p⟩:=h;exact⟨a,xs,e,q,hk,p.zmap λ _ _=>ih⟩
  | er n ks ds=>obtain ⟨e,C,dx,fs,h1,h2,h3,h4,h5,h6,p⟩:=h;exact⟨e,C,dx,fs,h1,h2,h3,h4,h5,h6,p.zmap λ _ _=>ih⟩
theorem zxi {K:PySem.W.Frag}{H:Hp}{j k:Nat}{d:D}{x:V} (h:zop K H j d x) (hk:j<=k):zop K H k d x:=by
 induction hk with
 | refl=>exact h
 | step _ ih=>exact z4u ih
theorem zuy {K:PySem.W.Frag}{H H':Hp} (s:zar H H'):∀ {k:Nat}{d:D}{x:V},zop K H k d x->zop K H' k d x:=by
 intro k
 induction k with
 | zero =>
  intro d x h
  cases d with
  | sc v=>exact h
  | _=>exact h.elim
 | succ k ih =>
  intro d x h
  cases d with
  | sc v=>exact h
  | tup ds=>obtain ⟨a,xs,e,q,p⟩:=h;exact⟨a,xs,e,q.same s,p.zmap λ _ _=>ih⟩
  | lst ds=>obtain ⟨a,xs,e,q,p⟩:=h;exact⟨a,xs,e,s.seq q,p.zmap λ _ _=>ih⟩
  | dk ks ds=>obtain ⟨a,xs,e,q,hk,p⟩:=h;exact⟨a,xs,e,s _ _ q,hk,p.zmap λ _ _=>ih⟩
  | dt ks ds=>obtain ⟨a,xs,e,q,hk,p⟩:=h;exact⟨a,xs,e,s _ _ q,hk,p.zmap λ _ _=>ih⟩
  | er n ks ds=>obtain ⟨e,C,dx,fs,h1,h2,h3,h4,h5,h6,p⟩:=h;exact⟨e,C,dx,fs,h1,s _ _ h2,h3,h4,s _ _ h5,h6,p.zmap λ _ _=>ih⟩
def Dn (K:PySem.W.Frag) (H:Hp) (d:D) (x:V):Prop:=∃ k,zop K H k d x
abbrev Dns (K:PySem.W.Frag) (H:Hp):List D->List V->Prop:=Paired (Dn K H)
section
variable {K:PySem.W.Frag}{H H':Hp}
theorem Dn.same {d:D}{x:V} (h:Dn K H d x) (s:zar H H'):Dn K H' d x:=let ⟨k,h⟩:=h;⟨k,zuy s h⟩
theorem Dns.same {ds:List D}{xs:List V} (h:Dns K H ds xs) (s:zar H H'):Dns K H' ds xs:=h.zmap λ _ _ z=>z.same s
theorem Dns.level:∀ {ds:List D}{xs:List V},Dns K H ds xs->∃ k,Paired (zop K H k) ds xs
 | _,_,.nil=>⟨0,.nil⟩
 | _,_,.cons ⟨k,h⟩ t=>by
  obtain ⟨j,q⟩:=Dns.level t
  exact⟨max k j,.cons (zxi h (Nat.le_max_left _ _)) (q.zmap λ _ _ z=>zxi z (Nat.le_max_right _ _))⟩
theorem zbh {v:V} (h:zci v=true):Dn K H (.sc v) v:=⟨0,h,rfl⟩
theorem Dn.sc {v x:V} (h:Dn K H (.sc v) x):zci v=true/\x=v:=by
 obtain ⟨k,h⟩:=h
 cases k <;> exact h
theorem zgr {ds:List D}{a:Addr}{xs:List V} (h:SqU K H a xs) (p:Dns K H ds xs):Dn K H (.tup ds) (.ref a):=by
 obtain ⟨k,q⟩:=p.level
 exact⟨k+1,a,xs,rfl,h,q⟩
theorem zc1 {ds:List D}{a:Addr}{xs:List V} (h:SqL K H a xs) (p:Dns K H ds xs):Dn K H (.lst ds) (.ref a):=by
 obtain ⟨k,q⟩:=p.level
 exact⟨k+1,a,xs,rfl,h,q⟩
theorem Dn.tupU {ds:List D}{x:V} (h:Dn K H (.tup ds) x):∃ a xs,x=.ref a/\SqU K H a xs/\Dns K H ds xs:=by
 obtain ⟨k,h⟩:=h
 cases k with
 | zero=>exact h.elim
 | succ k=>obtain ⟨a,xs,e,q,p⟩:=h;exact⟨a,xs,e,q,p.zmap λ _ _ z=>⟨k,z⟩⟩
theorem Dn.tup {ds:List D}{x:V} (h:Dn K H (.tup ds) x):∃ a xs,x=.ref a/\SqT K H a xs/\Dns K H ds xs:=let ⟨a,xs,e,q,p⟩:=h.tupU;⟨a,xs,e,q.toT,p⟩
theorem Dn.lst {ds:List D}{x:V} (h:Dn K H (.lst ds) x):∃ a xs,x=.ref a/\SqL K H a xs/\Dns K H ds xs:=by
 obtain ⟨k,h⟩:=h
 cases k with
 | zero=>exact h.elim
 | succ k=>obtain ⟨a,xs,e,q,p⟩:=h;exact⟨a,xs,e,q,p.zmap λ _ _ z=>⟨k,z⟩⟩
theorem z4v {ks:List Key}{ds:List D}{a:Addr}{kvs:List (Key×V)} (h:H a=some (.dK kvs)) (e:kvs.map Prod.fst=ks) (p:Dns K H ds (kvs.map Prod.snd)):Dn K H (.dk ks ds) (.ref a):=by
 obtain ⟨k,q⟩:=p.level
 exact⟨k+1,a,kvs,rfl,h,e,q⟩
theorem zz7 {ks:List (List Key)}{ds:List D}{a:Addr}{kvs:List (List Key×V)} (h:H a=some (.dT kvs)) (e:kvs.map Prod.fst=ks) (p:Dns K H ds (kvs.map Prod.snd)):Dn K H (.dt ks ds) (.ref a):=by
 obtain ⟨k,q⟩:=p.level
 exact⟨k+1,a,kvs,rfl,h,e,q⟩
theorem Dn.dk {ks:List Key}{ds:List D}{x:V} (h:Dn K H (.dk ks ds) x):∃ a kvs,x=.ref a/\H a=some (.dK kvs)/\kvs.map Prod.fst=ks/\Dns K H ds (kvs.map Prod.snd):=by
 obtain ⟨k,h⟩:=h
 cases k with
 | zero=>exact h.elim
 | succ k=>obtain ⟨a,xs,e,q,hk,p⟩:=h;exact⟨a,xs,e,q,hk,p.zmap λ _ _ z=>⟨k,z⟩⟩
theorem Dn.dt {ks:List (List Key)}{ds:List D}{x:V} (h:Dn K H (.dt ks ds) x):∃ a kvs,x=.ref a/\H a=some (.dT kvs)/\kvs.map Prod.fst=ks/\Dns K H ds (kvs.map Prod.snd):=by
 obtain ⟨k,h⟩:=h
 cases k with
 | zero=>exact h.elim
 | succ k=>obtain ⟨a,xs,e,q,hk,p⟩:=h;exact⟨a,xs,e,q,hk,p.zmap λ _ _ z=>⟨k,z⟩⟩
theorem Dn.int {i:Int}{x:V} (h:Dn K H (.int i) x):x=.int i:=h.sc.2
theorem Dn.bl {b:Bool}{x:V} (h:Dn K H (.bl b) x):x=.bl b:=h.sc.2
theorem Dn.str {z:Str}{x:V} (h:Dn K H (.sc (.str z)) x):x=.str z:=h.sc.2
end
theorem _root_.PySem.Paired.zget {α β:Type}{F:α->β->Prop}:∀ {l₁:List α}{l₂:List β}{j:Nat}{a:α},Paired F l₁ l₂->l₁[j]?=some a->∃ b,l₂[j]?=some b/\F a b
 | _,_,_,_,.nil,e=>by simp at e
 | _,_,0,_,.cons r _,e=>by simp at e;subst e;exact⟨_,rfl,r⟩
 | _,_,j+1,_,.cons _ t,e=>by
  obtain ⟨a,h1,h2⟩:=PySem.Paired.zget (j:=j) t (by simpa using e)
  exact⟨a,by simpa using h1,h2⟩
theorem _root_.PySem.Paired.zsnoc {α β:Type}{F:α->β->Prop}:∀ {l₁:List α}{l₂:List β}{a:α}{b:β},Paired F l₁ l₂->F a b->Paired F (l₁++[a]) (l₂++[b])
 | _,_,_,_,.nil,h=>.cons h .nil
 | _,_,_,_,.cons r t,h=>.cons r (PySem.Paired.zsnoc t h)
theorem _root_.PySem.Paired.zapp {α β:Type}{F:α->β->Prop}:∀ {l₁ m₁:List α}{l₂ m₂:List β},Paired F l₁ l₂->Paired F m₁ m₂->Paired F (l₁++m₁) (l₂++m₂)
 | _,_,_,_,.nil,h=>h
 | _,_,_,_,.cons r t,h=>.cons r (PySem.Paired.zapp t h)
theorem _root_.PySem.Paired.ztake {α β:Type}{F:α->β->Prop}:∀ {l₁:List α}{l₂:List β} (n:Nat),Paired F l₁ l₂->Paired F (l₁.take n) (l₂.take n)
 | _,_,0,_=>.nil
 | _,_,_+1,.nil=>.nil
 | _,_,n+1,.cons r t=>.cons r (PySem.Paired.ztake n t)
theorem _root_.PySem.Paired.zdrop {α β:Type}{F:α->β->Prop}:∀ {l₁:List α}{l₂:List β} (n:Nat),Paired F l₁ l₂->Paired F (l₁.drop n) (l₂.drop n)
 | _,_,0,h=>h
 | _,_,_+1,.nil=>.nil
 | _,_,n+1,.cons r t=>PySem.Paired.zdrop n t
theorem _root_.PySem.Paired.zset {α β:Type}{F:α->β->Prop}{a:α}{b:β} (r:F a b):∀ {l₁:List α}{l₂:List β} (i:Nat),Paired F l₁ l₂->Paired F (l₁.set i a) (l₂.set i b)
 | _,_,_,.nil=>.nil
 | _,_,0,.cons _ t=>.cons r t
 | _,_,i+1,.cons q t=>.cons q (PySem.Paired.zset r i t)
theorem _root_.PySem.Paired.zrev {α β:Type}{F:α->β->Prop}{l₁:List α}{l₂:List β} (h:Paired F l₁ l₂):Paired F l₁.reverse l₂.reverse:=by
 induction h with
 | nil=>exact .nil
 | cons r t ih=>simp only[List.reverse_cons];exact ih.zsnoc r
def zhp (H:Hp) (b:Addr):Prop:=H b=none\/∃ xs,H b=some (.tup xs)
theorem zhp.no {H:Hp}{b:Addr}{o:HO} (h:zhp H b) (e:H b=some o) (ho:∀ xs,o≠.tup xs):False:=by
 rcases h with h|⟨xs,h⟩
 ·rw[h] at e;cases e
 ·rw[h] at e;cases e;exact ho xs rfl
theorem zhp.back {H H':Hp}{b:Addr} (h:zhp H' b) (s:zar H H'):zhp H b:=by
 cases e:H b with
 | none=>exact .inl e
 | some o =>
  rcases h with h|⟨xs,h⟩
  ·rw[s b o e] at h;cases h
  ·rw[s b o e] at h;cases h;exact .inr ⟨xs,e⟩
structure Ex (Hf H Hf' H':Hp):Prop where
 ff:zar Hf Hf'
 hh:zar H H'
 fh:zar Hf' H'
 nw:∀ b,Hf' b≠none->Hf b≠none\/zhp H b
 nf:∀ b o u,Hf' b=some (.frz o u)->Hf b=some (.frz o u)
theorem Ex.refl {Hf H:Hp} (s:zar Hf H):Ex Hf H Hf H:=⟨zar.refl _,zar.refl _,s,λ _ h=>.inl h,λ _ _ _ h=>h⟩
theorem Ex.trans {Hf H Hf1 H1 Hf2 H2:Hp} (a:Ex Hf H Hf1 H1) (b:Ex Hf1 H1 Hf2 H2):Ex Hf H Hf2 H2 :=
 ⟨a.ff.trans b.ff,a.hh.trans b.hh,b.fh,λ c h=>(b.nw c h).elim (a.nw c) λ z=>.inr (z.back a.hh),λ c o u h=>a.nf c o u (b.nf c o u h)⟩
theorem Ex.new {Hf H:Hp}{p:Addr}{o:HO} (s:zar Hf H) (hp:H p=none) (ho:∀ x u,o≠.frz x u:=by intro x u z;cases z):Ex Hf H (upd Hf p o) (upd H p o):=by
 have hf:Hf p=none:=s.free hp
 refine⟨zaq hf,zaq hp,λ b u e=>?_,λ b h=>?_,λ b x u h=>?_⟩
 ·by_cases hb:b=p
  ·subst hb;rw[zac] at e ⊢;exact e
  ·rw[zaf hb] at e ⊢;exact s b u e
 ·by_cases hb:b=p
  ·subst hb;exact .inr (.inl hp)
  ·rw[zaf hb] at h;exact .inl h
 ·by_cases hb:b=p
  ·subst hb;rw[zac] at h;cases h;exact absurd rfl (ho x u)
  ·rw[zaf hb] at h;exact h
theorem Ex.made {Hf H:Hp}{p:Addr}{o:HO} (s:zar Hf H) (hp:H p=none):Ex Hf H Hf (upd H p o) :=
 ⟨zar.refl _,zaq hp,s.trans (zaq hp),λ _ h=>.inl h,λ _ _ _ h=>h⟩
inductive Sl where
 | sh (d:D)|ow (ds:List D)|dk (ks:List Key) (ds:List D)|dt (ks:List (List Key)) (ds:List D)
abbrev Rho:=List (Option Sl)
def zd5:Sl->Bool
 | .sh _=>false
 | _=>true
def zl1 (K:PySem.W.Frag) (Hf H:Hp):Sl->V->Prop
 | .sh d,v=>Dn K Hf d v
 | .ow ds,v=>∃ p xs,v=.ref p/\Hf p=none/\H p=some (.lst xs)/\Dns K Hf ds xs
 | .dk ks ds,v=>∃ p xs,v=.ref p/\Hf p=none/\H p=some (.dK xs)/\xs.map Prod.fst=ks/\Dns K Hf ds (xs.map Prod.snd)
 | .dt ks ds,v=>∃ p xs,v=.ref p/\Hf p=none/\H p=some (.dT xs)/\xs.map Prod.fst=ks/\Dns K Hf ds (xs.map Prod.snd)
theorem zl1.ext {K:PySem.W.Frag}{Hf H Hf' H':Hp}{sl:Sl}{v:V} (h:zl1 K Hf H sl v) (e:Ex Hf H Hf' H'):zl1 K Hf' H' sl v:=by
 have nn:∀ {p:Addr} {o:HO},Hf p=none->H p=some o->(∀ xs,o≠.tup xs)->Hf' p=none:=λ {p o} h1 h2 ho=>by
  cases q:Hf' p with
  | none=>rfl
  | some u =>
   rcases e.nw p (by rw[q];exact λ z=>nomatch z) with z|z
   ·exact absurd h1 z
   ·exact (z.no h2 ho).elim
 cases sl with
 | sh d=>exact Dn.same h e.ff
 | ow ds=>obtain ⟨p,xs,r,h1,h2,h3⟩:=h;exact⟨p,xs,r,nn h1 h2 (λ _ z=>nomatch z),e.hh _ _ h2,Dns.same h3 e.ff⟩
 | dk ks ds=>obtain ⟨p,xs,r,h1,h2,hk,h3⟩:=h;exact⟨p,xs,r,nn h1 h2 (λ _ z=>nomatch z),e.hh _ _ h2,hk,Dns.same h3 e.ff⟩
 | dt ks ds=>obtain ⟨p,xs,r,h1,h2,hk,h3⟩:=h;exact⟨p,xs,r,nn h1 h2 (λ _ z=>nomatch z),e.hh _ _ h2,hk,Dns.same h3 e.ff⟩
structure Bs where
 f:Hp
 h:Hp
structure VI (K:PySem.W.Frag) (B:Bs) (Hf:Hp) (ρ:Rho) (σ:St) (H:Hp):Prop where
 ex:Ex B.f B.h Hf H
 len:ρ.length=σ.length
 ok:∀ (i:Nat) sl,ρ[i]?=some (some sl)->∃ v,σ[i]?=some (some v)/\zl1 K Hf H sl v
 own:∀ (i:Nat) sl p,ρ[i]?=some (some sl)->zd5 sl=true->σ[i]?=some (some (.ref p))->B.h p=none
 dis:∀ (i j:Nat) si sj p,ρ[i]?=some (some si)->ρ[j]?=some (some sj)->zd5 si=true->zd5 sj=true->σ[i]?=some (some (.ref p))->σ[j]?=some (some (.ref p))->i=j
section
variable {K:PySem.W.Frag}{B:Bs}{Hf H Hf' H':Hp}{ρ:Rho}{σ:St}
theorem VI.ext (I:VI K B Hf ρ σ H) (e:Ex Hf H Hf' H'):VI K B Hf' ρ σ H' :=
 ⟨I.ex.trans e,I.len,λ i sl h=>let ⟨v,h1,h2⟩:=I.ok i sl h;⟨v,h1,h2.ext e⟩,I.own,I.dis⟩
theorem VI.fh (I:VI K B Hf ρ σ H):zar Hf H:=I.ex.fh
theorem VI.sh {i:Nat}{d:D} (I:VI K B Hf ρ σ H) (h:ρ[i]?=some (some (.sh d))):∃ v,σ[i]?=some (some v)/\Dn K Hf d v:=I.ok i _ h
theorem VI.set {i:Nat}{d:D}{v:V} (I:VI K B Hf ρ σ H) (h:Dn K Hf d v):VI K B Hf (ρ.set i (some (.sh d))) (σ.set i (some v)) H:=by
 have g:∀ {j:Nat} {sl:Sl},(ρ.set i (some (.sh d)))[j]?=some (some sl)->(j=i/\sl=.sh d/\i<ρ.length)\/(j≠i/\ρ[j]?=some (some sl)):=λ {j sl} e=>by
  by_cases hj:i=j
  ·subst hj
   rw[List.getElem?_set_self'] at e
   cases q:ρ[i]? with
   | none=>rw[q] at e;cases e
   | some z =>
    rw[q] at e
    simp at e
    exact .inl ⟨rfl,e.symm,(List.getElem?_eq_some_iff.mp q).1⟩
  ·rw[List.getElem?_set_ne hj] at e
   exact .inr ⟨λ z=>hj z.symm,e⟩
 refine⟨I.ex,by simp[I.len],λ j sl e=>?_,λ j sl p e o q=>?_,λ j k sj sk p e1 e2 o1 o2 q1 q2=>?_⟩
 ·rcases g e with ⟨rfl,rfl,hl⟩|⟨hj,e⟩
  ·refine⟨v,?_,h⟩
   rw[List.getElem?_set_self (by rw[<-I.len];exact hl)]
  ·obtain ⟨u,h1,h2⟩:=I.ok j sl e
   exact⟨u,by rw[List.getElem?_set_ne (λ z=>hj z.symm)];exact h1,h2⟩
 ·rcases g e with ⟨rfl,rfl,hl⟩|⟨hj,e⟩
  ·cases o
  ·rw[List.getElem?_set_ne (λ z=>hj z.symm)] at q
   exact I.own j sl p e o q
 ·rcases g e1 with ⟨rfl,rfl,hl⟩|⟨hj,e1⟩
  ·cases o1
  ·rcases g e2 with ⟨rfl,rfl,hl⟩|⟨hk,e2⟩
   ·cases o2
   ·rw[List.getElem?_set_ne (λ z=>hj z.symm)] at q1
    rw[List.getElem?_set_ne (λ z=>hk z.symm)] at q2
    exact I.dis j k sj sk p e1 e2 o1 o2 q1 q2
end
def Raw (K:PySem.W.Frag) (Hf H:Hp) (d:D) (x:V):Prop:=match d with
 | .lst ds=>∃ p xs,x=.ref p/\H p=some (.lst xs)/\Dns K Hf ds xs
 | .dk ks ds=>∃ p xs,x=.ref p/\H p=some (.dK xs)/\xs.map Prod.fst=ks/\Dns K Hf ds (xs.map Prod.snd)
 | .dt ks ds=>∃ p xs,x=.ref p/\H p=some (.dT xs)/\xs.map Prod.fst=ks/\Dns K Hf ds (xs.map Prod.snd)
 | _=>False
def DnB (K:PySem.W.Frag) (Hf H:Hp) (d:D) (x:V):Prop:=Dn K Hf d x\/Raw K Hf H d x
abbrev z4w (K:PySem.W.Frag) (Hf H:Hp):List D->List V->Prop:=Paired (DnB K Hf H)
section
variable {K:PySem.W.Frag}{Hf H Hf' H':Hp}
theorem DnB.ext {d:D}{x:V} (h:DnB K Hf H d x) (e:Ex Hf H Hf' H'):DnB K Hf' H' d x:=by
 rcases h with h|h
 ·exact .inl (h.same e.ff)
 ·refine .inr ?_
  cases d with
  | lst ds=>obtain ⟨p,xs,h2,h3,h4⟩:=h;exact⟨p,xs,h2,e.hh _ _ h3,h4.same e.ff⟩
  | dk ks ds=>obtain ⟨p,xs,h2,h3,hk,h4⟩:=h;exact⟨p,xs,h2,e.hh _ _ h3,hk,h4.same e.ff⟩
  | dt ks ds=>obtain ⟨p,xs,h2,h3,hk,h4⟩:=h;exact⟨p,xs,h2,e.hh _ _ h3,hk,h4.same e.ff⟩
  | _=>exact h.elim
theorem DnB.whole {d:D}{x:V} (h:DnB K Hf H d x) (s:zar Hf H):Dn K H d x:=by
 rcases h with h|h
 ·exact h.same s
 ·cases d with
  | lst ds=>obtain ⟨p,xs,rfl,h3,h4⟩:=h;exact zc1 (SqL.of h3) (h4.same s)
  | dk ks ds=>obtain ⟨p,xs,rfl,h3,hk,h4⟩:=h;exact z4v h3 hk (h4.same s)
  | dt ks ds=>obtain ⟨p,xs,rfl,h3,hk,h4⟩:=h;exact zz7 h3 hk (h4.same s)
  | _=>exact h.elim
theorem DnB.sc {v x:V} (h:DnB K Hf H (.sc v) x):zci v=true/\x=v:=by
 rcases h with h|h
 ·exact h.sc
 ·exact h.elim
theorem DnB.tup {ds:List D}{x:V} (h:DnB K Hf H (.tup ds) x):∃ a xs,x=.ref a/\SqT K Hf a xs/\Dns K Hf ds xs:=by
 rcases h with h|h
 ·exact h.tup
 ·exact h.elim
theorem DnB.tupU {ds:List D}{x:V} (h:DnB K Hf H (.tup ds) x):∃ a xs,x=.ref a/\SqU K Hf a xs/\Dns K Hf ds xs:=by
 rcases h with h|h
 ·exact h.tupU
 ·exact h.elim
theorem DnB.lst {ds:List D}{x:V} (h:DnB K Hf H (.lst ds) x) (s:zar Hf H):∃ a xs,x=.ref a/\SqL K H a xs/\Dns K Hf ds xs:=by
 rcases h with h|⟨p,xs,h2,h3,h4⟩
 ·obtain ⟨a,xs,e,h1,h2⟩:=h.lst
  exact⟨a,xs,e,s.seq h1,h2⟩
 ·exact⟨p,xs,h2,SqL.of h3,h4⟩
theorem DnB.dk {ks:List Key}{ds:List D}{x:V} (h:DnB K Hf H (.dk ks ds) x) (s:zar Hf H):∃ a kvs,x=.ref a/\H a=some (.dK kvs)/\kvs.map Prod.fst=ks/\Dns K Hf ds (kvs.map Prod.snd):=by
 rcases h with h|⟨p,xs,h2,h3,hk,h4⟩
 ·obtain ⟨a,xs,e,h1,hk,h2⟩:=h.dk
  exact⟨a,xs,e,s _ _ h1,hk,h2⟩
 ·exact⟨p,xs,h2,h3,hk,h4⟩
theorem DnB.dt {ks:List (List Key)}{ds:List D}{x:V} (h:DnB K Hf H (.dt ks ds) x) (s:zar Hf H):∃ a kvs,x=.ref a/\H a=some (.dT kvs)/\kvs.map Prod.fst=ks/\Dns K Hf ds (kvs.map Prod.snd):=by
 rcases h with h|⟨p,xs,h2,h3,hk,h4⟩
 ·obtain ⟨a,xs,e,h1,hk,h2⟩:=h.dt
  exact⟨a,xs,e,s _ _ h1,hk,h2⟩
 ·exact⟨p,xs,h2,h3,hk,h4⟩
end
def eV (K:PySem.W.Frag) (B:Bs) (f:Rho->Option D):TE:=λ σ H Q=>∃ Hf ρ d,VI K B Hf ρ σ H/\f ρ=some d/\∀ Hf' H' v,Ex Hf H Hf' H'->Dn K Hf' d v->Q v H'
def eB (K:PySem.W.Frag) (B:Bs) (f:Rho->Option D):TE:=λ σ H Q=>∃ Hf ρ d,VI K B Hf ρ σ H/\f ρ=some d/\∀ Hf' H' v,Ex Hf H Hf' H'->DnB K Hf' H' d v->Q v H'
def tV (K:PySem.W.Frag) (B:Bs) (f:Rho->Option Bool):TT:=λ σ H Q=>∃ Hf ρ b,VI K B Hf ρ σ H/\f ρ=some b/\∀ Hf' H',Ex Hf H Hf' H'->Q b H'
def aV (K:PySem.W.Frag) (B:Bs) (f:Rho->Option (List D)):TA:=λ σ H Q=>∃ Hf ρ ds,VI K B Hf ρ σ H/\f ρ=some ds/\∀ Hf' H' vs,Ex Hf H Hf' H'->Dns K Hf' ds vs->Q vs H'
def aB (K:PySem.W.Frag) (B:Bs) (f:Rho->Option (List D)):TA:=λ σ H Q=>∃ Hf ρ ds,VI K B Hf ρ σ H/\f ρ=some ds/\∀ Hf' H' vs,Ex Hf H Hf' H'->z4w K Hf' H' ds vs->Q vs H'
def oV (K:PySem.W.Frag) (B:Bs) (f:Rho->Option (Option Int)):TO:=λ σ H Q=>∃ Hf ρ o,VI K B Hf ρ σ H/\f ρ=some o/\∀ Hf' H',Ex Hf H Hf' H'->Q o H'
def eC (d:D):Rho->Option D:=λ _=>some d
def zal (i:Nat):Rho->Option D:=λ ρ=>match ρ[i]? with|some (some (.sh d))=>some d|_=>none
def zaa (i:Nat):Rho->Option D:=λ ρ=>match ρ[i]? with|some (some (.sh d))=>some d|some (some (.ow ds))=>some (.lst ds)|some (some (.dk ks ds))=>some (.dk ks ds)|some (some (.dt ks ds))=>some (.dt ks ds)|_=>none
def e1 (g:D->Option D) (fa:Rho->Option D):Rho->Option D:=λ ρ=>(fa ρ).bind g
def e2 (g:D->D->Option D) (fa fb:Rho->Option D):Rho->Option D:=λ ρ=>(fa ρ).bind λ d=>(fb ρ).bind λ e=>g d e
def eN (g:List D->Option D) (fa:Rho->Option (List D)):Rho->Option D:=λ ρ=>(fa ρ).bind g
def aN:Rho->Option (List D):=λ _=>some []
def aC (fa:Rho->Option D) (fr:Rho->Option (List D)):Rho->Option (List D):=λ ρ=>(fa ρ).bind λ d=>(fr ρ).bind λ ds=>some (d::ds)
def toB:D->Option Bool|.sc (.bl b)=>some b|_=>none
def tE (fa:Rho->Option D):Rho->Option Bool:=λ ρ=>(fa ρ).bind toB
def zdj (fa fb:Rho->Option Bool):Rho->Option Bool:=λ ρ=>(fa ρ).bind λ a=>if a=true then fb ρ else some false
def bOr (fa fb:Rho->Option Bool):Rho->Option Bool:=λ ρ=>(fa ρ).bind λ a=>if a=true then some true else fb ρ
def zd6 (fa:Rho->Option Bool):Rho->Option Bool:=λ ρ=>(fa ρ).bind λ a=>some (!a)
def eT (ft:Rho->Option Bool):Rho->Option D:=λ ρ=>(ft ρ).bind λ b=>some (.bl b)
theorem bind_some {α β:Type}{o:Option α}{f:α->Option β}{z:β} (h:o.bind f=some z):∃ a,o=some a/\f a=some z:=by
 cases o with
 | none=>cases h
 | some a=>exact⟨a,rfl,h⟩
section
variable {X:Cx}{B:Bs}{e a b c:Expr}{es:List Expr}{f fa fb fc:Rho->Option D}{ft fu:Rho->Option Bool}{fr:Rho->Option (List D)}{pos:Pos}
theorem v_b (h:PE X e (eV X.K B f)):PE X e (eB X.K B f):=h.imp λ σ H Q ⟨Hf,ρ,d,I,hd,q⟩=>⟨Hf,ρ,d,I,hd,λ Hf' H' v ex dv=>q Hf' H' v ex (.inl dv)⟩
theorem ycs (h:PA X es (aV X.K B fr)):PA X es (aB X.K B fr):=h.imp λ σ H Q ⟨Hf,ρ,d,I,hd,q⟩=>⟨Hf,ρ,d,I,hd,λ Hf' H' v ex dv=>q Hf' H' v ex (dv.zmap λ _ _ z=>.inl z)⟩
theorem z73 {v:V} (hv:zci v=true) (h:PE X e (tC v)):PE X e (eV X.K B (eC (.sc v))):=h.imp λ σ H Q ⟨Hf,ρ,d,I,hd,q⟩=>by
 cases hd
 exact q Hf H v (.refl I.fh) (zbh hv)
theorem zag {i:Int}{j:Nat}:PE X (.Constant (.int i) j pos) (eV X.K B (eC (.int i))):=z73 rfl z3e
theorem zoq {i:Bool}{j:Nat}:PE X (.Constant (.bool i) j pos) (eV X.K B (eC (.bl i))):=z73 rfl z3f
theorem zf2 {x:Str}{l:List Nat}{j:Nat} (h:x=S l):PE X (.Constant (.str x) j pos) (eV X.K B (eC (.str l))):=by subst h;exact z73 rfl z3g
theorem zaj (i:Nat) {x:Str}{pos:Pos} (hN:X.N[i]?=some x:=by rfl) (hv:Vis X.env.scope x:=by first|exact Or.inl rfl|exact Or.inr (Or.inl rfl)|exact Or.inr (Or.inr rfl)) (hd:(x == ("__debug__" : Str))=false:=by decide)
  (hcd:(x == ("__classdict__" : Str))=false:=by decide):PE X (.Name x pos) (eV X.K B (zal i)):=(zcc hN hv hd hcd).imp λ σ H Q ⟨Hf,ρ,d,I,hd,q⟩=>by
 unfold zal at hd
 split at hd
 ·rename_i d' e
  cases hd
  obtain ⟨v,h1,h2⟩:=I.sh e
  exact⟨v,h1,q Hf H v (.refl I.fh) h2⟩
 ·cases hd
theorem zab (i:Nat) {x:Str}{pos:Pos} (hN:X.N[i]?=some x:=by rfl) (hv:Vis X.env.scope x:=by first|exact Or.inl rfl|exact Or.inr (Or.inl rfl)|exact Or.inr (Or.inr rfl)) (hd:(x == ("__debug__" : Str))=false:=by decide)
  (hcd:(x == ("__classdict__" : Str))=false:=by decide):PE X (.Name x pos) (eB X.K B (zaa i)):=(zcc hN hv hd hcd).imp λ σ H Q ⟨Hf,ρ,d,I,hd,q⟩=>by
 unfold zaa at hd
 split at hd
 ·rename_i d' e
  cases hd
  obtain ⟨v,h1,h2⟩:=I.sh e
  exact⟨v,h1,q Hf H v (.refl I.fh) (.inl h2)⟩
 ·rename_i ds e
  cases hd
  obtain ⟨v,h1,p,xs,rfl,h2,h3,h4⟩:=I.ok i _ e
  exact⟨_,h1,q Hf H _ (.refl I.fh) (.inr ⟨p,xs,rfl,h3,h4⟩)⟩
 ·rename_i ks ds e
  cases hd
  obtain ⟨v,h1,p,xs,rfl,h2,h3,h4⟩:=I.ok i _ e
  exact⟨_,h1,q Hf H _ (.refl I.fh) (.inr ⟨p,xs,rfl,h3,h4⟩)⟩
 ·rename_i ks ds e
  cases hd
  obtain ⟨v,h1,p,xs,rfl,h2,h3,h4⟩:=I.ok i _ e
  exact⟨_,h1,q Hf H _ (.refl I.fh) (.inr ⟨p,xs,rfl,h3,h4⟩)⟩
 ·cases hd
def P2 (K:PySem.W.Frag) (r:R2) (g:D->D->Option D):Prop:=∀ Hf H x y d e z (Q:VK),zar Hf H->DnB K Hf H d x->DnB K Hf H e y->g d e=some z->(∀ Hf' H' v,Ex Hf H Hf' H'->Dn K Hf' z v->Q v H')->r x y H Q
theorem zm8 {r:R2}{g:D->D->Option D} (hp:P2 X.K r g) {σ:St}{H:Hp}{Q:VK} (h:eV X.K B (e2 g fa fb) σ H Q):tOp r (eB X.K B fa) (eB X.K B fb) σ H Q:=by
 obtain ⟨Hf,ρ,z,I,hz,q⟩:=h
 obtain ⟨d,hd,hz⟩:=bind_some hz
 obtain ⟨e,he,hz⟩:=bind_some hz
 exact⟨Hf,ρ,d,I,hd,λ Hf1 H1 x ex1 dx=>⟨Hf1,ρ,e,I.ext ex1,he,λ Hf2 H2 y ex2 dy=>hp Hf2 H2 x y d e z Q ex2.fh (dx.ext ex2) dy hz λ Hf' H' v ex3 dv=>q Hf' H' v ((ex1.trans ex2).trans ex3) dv⟩⟩
theorem zbk {op:Operator}{r:R2}{g:D->D->Option D} (ho:OpR X (binaryOp op) r) (hp:P2 X.K r g) (ha:PE X a (eB X.K B fa)) (hb:PE X b (eB X.K B fb)):PE X (.BinOp a op b pos) (eV X.K B (e2 g fa fb)) :=
 (z8u ho ha hb).imp λ σ H Q h=>zm8 hp h
theorem zuz {op:CmpOp}{r:R2}{g:D->D->Option D} (ho:OpR X (compareOp op) r) (hp:P2 X.K r g) (ha:PE X a (eB X.K B fa)) (hb:PE X b (eB X.K B fb)) (hm:behindInMarks op b=false):PE X (.Compare a [op] [b] pos) (eV X.K B (e2 g fa fb)) :=
 (zy8 ho ha hb hm).imp λ σ H Q h=>zm8 hp h
theorem zxj {t:TE}{σ:St}{H:Hp}{Q:Bool->Hp->Prop} (ht:∀ R,eV X.K B f σ H R->t σ H R) (h:tV X.K B (tE f) σ H Q):zzn t σ H Q:=by
 obtain ⟨Hf,ρ,b,I,hb,q⟩:=h
 obtain ⟨d,hd,hb⟩:=bind_some hb
 refine ht _ ⟨Hf,ρ,d,I,hd,λ Hf' H' v ex dv=>?_⟩
 unfold toB at hb
 split at hb
 ·cases hb
  rw[dv.bl]
  exact q Hf' H' ex
 ·cases hb
theorem zaz {op:CmpOp}{r:R2}{g:D->D->Option D} (ho:OpR X (compareOp op) r) (hp:P2 X.K r g) (ha:PE X a (eB X.K B fa)) (hb:PE X b (eB X.K B fb)) (hm:behindInMarks op b=false):PT X (.Compare a [op] [b] pos) (tV X.K B (tE (e2 g fa fb))) :=
 (z35 ho ha hb hm).imp λ σ H Q h=>zxj (λ R z=>zm8 hp z) h
theorem zck (ha:PE X a (eV X.K B fa)) (he:∀ whole,isTrue a X.env whole=(do let v ← whole;standAt a.pos;holding [v] (truthy v)):=by intro _;rfl):PT X a (tV X.K B (tE fa)) :=
 (z36 ha he).imp λ σ H Q h=>zxj (λ R z=>z) h
theorem zds (ha:PT X a (tV X.K B ft)):PT X (.UnaryOp .Not a pos) (tV X.K B (zd6 ft)):=(z3j ha).imp λ σ H Q ⟨Hf,ρ,z,I,hz,q⟩=>by
 obtain ⟨x,hx,hz⟩:=bind_some hz
 cases hz
 exact⟨Hf,ρ,x,I,hx,λ Hf' H' ex=>q Hf' H' ex⟩
variable {rest:List Expr}
theorem zu0 {σ:St}{H:Hp}{Q:Bool->Hp->Prop} (h:tV X.K B (zdj ft fu) σ H Q):ybj (tV X.K B ft) (tV X.K B fu) σ H Q:=by
 obtain ⟨Hf,ρ,z,I,hz,q⟩:=h
 obtain ⟨x,hx,hz⟩:=bind_some hz
 refine⟨Hf,ρ,x,I,hx,λ Hf1 H1 ex1=>?_⟩
 cases x with
 | true=>rw[if_pos rfl] at hz ⊢;exact⟨Hf1,ρ,z,I.ext ex1,hz,λ Hf' H' ex=>q Hf' H' (ex1.trans ex)⟩
 | false=>rw[if_neg Bool.false_ne_true] at hz ⊢;cases hz;exact q Hf1 H1 ex1
theorem zz8 {σ:St}{H:Hp}{Q:Bool->Hp->Prop} (h:tV X.K B (bOr ft fu) σ H Q):tOr (tV X.K B ft) (tV X.K B fu) σ H Q:=by
 obtain ⟨Hf,ρ,z,I,hz,q⟩:=h
 obtain ⟨x,hx,hz⟩:=bind_some hz
 refine⟨Hf,ρ,x,I,hx,λ Hf1 H1 ex1=>?_⟩
 cases x with
 | true=>rw[if_pos rfl] at hz ⊢;cases hz;exact q Hf1 H1 ex1
 | false=>rw[if_neg Bool.false_ne_true] at hz ⊢;exact⟨Hf1,ρ,z,I.ext ex1,hz,λ Hf' H' ex=>q Hf' H' (ex1.trans ex)⟩
theorem PW.imp {t t':TT} (h:PW X e t) (f:∀ σ H Q,t' σ H Q->t σ H Q):PW X e t':=λ wh pins s σ H Q I q=>h wh pins s σ H Q I (f σ H Q q)
theorem zdt (ha:PT X a (tV X.K B ft)):PW X (.BoolOp .And [a] pos) (tV X.K B ft):=zy3 ha
theorem zgs (ha:PT X a (tV X.K B ft)):PW X (.BoolOp .Or [a] pos) (tV X.K B ft):=z3h ha
theorem zeu (ha:PT X a (tV X.K B ft)) (hb:PW X (.BoolOp .And (b::rest) pos) (tV X.K B fu)):PW X (.BoolOp .And (a::b::rest) pos) (tV X.K B (zdj ft fu)):=(z3i ha hb).imp λ σ H Q h=>zu0 h
theorem zi2 (ha:PT X a (tV X.K B ft)) (hb:PW X (.BoolOp .Or (b::rest) pos) (tV X.K B fu)):PW X (.BoolOp .Or (a::b::rest) pos) (tV X.K B (bOr ft fu)):=(z8o ha hb).imp λ σ H Q h=>zz8 h
theorem zqx {op:BoolOp} (h:PE X a (eV X.K B fa)):PE X (.BoolOp op [a] pos) (eV X.K B fa):=z3k h
theorem zxk (ha:PE X a (eV X.K B fa)) (hb:PE X (.BoolOp .And (b::rest) pos) (eV X.K B fb)):PE X (.BoolOp .And (a::b::rest) pos) (eV X.K B (eT (zdj (tE fa) (tE fb)))):=(z37 ha hb).imp λ σ H Q ⟨Hf,ρ,z,I,hz,q⟩=>by
 obtain ⟨x,hx,hz⟩:=bind_some hz
 cases hz
 obtain ⟨y,hy,hx⟩:=bind_some hx
 obtain ⟨d,hd,hy⟩:=bind_some hy
 refine⟨Hf,ρ,d,I,hd,λ Hf1 H1 v ex1 dv=>?_⟩
 unfold toB at hy
 split at hy
 ·cases hy
  rw[dv.bl]
  cases y with
  | true =>
   rw[if_pos rfl] at hx
   obtain ⟨d',hd',hx⟩:=bind_some hx
   refine⟨Hf1,ρ,d',I.ext ex1,hd',λ Hf2 H2 v2 ex2 dv2=>?_⟩
   unfold toB at hx
   split at hx
   ·cases hx;exact q Hf2 H2 v2 (ex1.trans ex2) dv2
   ·cases hx
  | false=>rw[if_neg Bool.false_ne_true] at hx;cases hx;exact q Hf1 H1 _ ex1 (zbh rfl)
 ·cases hy
theorem z9v (ha:PE X a (eV X.K B fa)) (hb:PE X (.BoolOp .Or (b::rest) pos) (eV X.K B fb)):PE X (.BoolOp .Or (a::b::rest) pos) (eV X.K B (eT (bOr (tE fa) (tE fb)))):=(z9f ha hb).imp λ σ H Q ⟨Hf,ρ,z,I,hz,q⟩=>by
 obtain ⟨x,hx,hz⟩:=bind_some hz
 cases hz
 obtain ⟨y,hy,hx⟩:=bind_some hx
 obtain ⟨d,hd,hy⟩:=bind_some hy
 refine⟨Hf,ρ,d,I,hd,λ Hf1 H1 v ex1 dv=>?_⟩
 unfold toB at hy
 split at hy
 ·cases hy
  rw[dv.bl]
  cases y with
  | false =>
   rw[if_neg Bool.false_ne_true] at hx
   obtain ⟨d',hd',hx⟩:=bind_some hx
   refine⟨Hf1,ρ,d',I.ext ex1,hd',λ Hf2 H2 v2 ex2 dv2=>?_⟩
   unfold toB at hx
   split at hx
   ·cases hx;exact q Hf2 H2 v2 (ex1.trans ex2) dv2
   ·cases hx
  | true=>rw[if_pos rfl] at hx;cases hx;exact q Hf1 H1 _ ex1 (zbh rfl)
 ·cases hy
theorem z4x (ha:PE X a (eV X.K B fa)):PE X (.UnaryOp .Not a pos) (eV X.K B (eT (zd6 (tE fa)))):=(z38 ha).imp λ σ H Q ⟨Hf,ρ,z,I,hz,q⟩=>by
 obtain ⟨x,hx,hz⟩:=bind_some hz
 cases hz
 obtain ⟨y,hy,hx⟩:=bind_some hx
 cases hx
 obtain ⟨d,hd,hy⟩:=bind_some hy
 refine⟨Hf,ρ,d,I,hd,λ Hf1 H1 v ex1 dv=>?_⟩
 unfold toB at hy
 split at hy
 ·cases hy
  rw[dv.bl]
  exact q Hf1 H1 _ ex1 (zbh rfl)
 ·cases hy
theorem zbl:PA X [] (aV X.K B aN):=zee.imp λ σ H Q ⟨Hf,ρ,ds,I,hd,q⟩=>by cases hd;exact q Hf H [] (.refl I.fh) .nil
theorem zao (ha:PE X e (eV X.K B fa)) (hr:PA X es (aV X.K B fr)) (hs:starEach (e::es) X.env=(false,eval e X.env)::starEach es X.env:=by rfl):PA X (e::es) (aV X.K B (aC fa fr)):=(zch ha hr hs).imp λ σ H Q ⟨Hf,ρ,ds,I,hd,q⟩=>by
 obtain ⟨d,h1,hd⟩:=bind_some hd
 obtain ⟨r,h2,hd⟩:=bind_some hd
 cases hd
 exact⟨Hf,ρ,d,I,h1,λ Hf1 H1 v ex1 dv=>⟨Hf1,ρ,r,I.ext ex1,h2,λ Hf2 H2 vs ex2 dvs=>q Hf2 H2 _ (ex1.trans ex2) (.cons (dv.same ex2.ff) dvs)⟩⟩
theorem zba:PA X [] (aB X.K B aN):=ycs zbl
theorem za0 (ha:PE X e (eB X.K B fa)) (hr:PA X es (aB X.K B fr)) (hs:starEach (e::es) X.env=(false,eval e X.env)::starEach es X.env:=by rfl):PA X (e::es) (aB X.K B (aC fa fr)):=(zch ha hr hs).imp λ σ H Q ⟨Hf,ρ,ds,I,hd,q⟩=>by
 obtain ⟨d,h1,hd⟩:=bind_some hd
 obtain ⟨r,h2,hd⟩:=bind_some hd
 cases hd
 exact⟨Hf,ρ,d,I,h1,λ Hf1 H1 v ex1 dv=>⟨Hf1,ρ,r,I.ext ex1,h2,λ Hf2 H2 vs ex2 dvs=>q Hf2 H2 _ (ex1.trans ex2) (.cons (dv.ext ex2) dvs)⟩⟩
def za1:List D->Option D:=λ ds=>if ds.length<=sizeLine then some (.tup ds) else none
def zcy:List D->Option D:=λ ds=>if ds.length<=sizeLine then some (.lst ds) else none
theorem zcp {x1} (h:PA X es (aV X.K B fr)):PE X (.Tuple es x1 pos) (eV X.K B (eN za1 fr)):=(z3t h).imp λ σ H Q ⟨Hf,ρ,z,I,hz,q⟩=>by
 obtain ⟨ds,hd,hz⟩:=bind_some hz
 unfold za1 at hz
 split at hz
 ·rename_i hl
  cases hz
  refine⟨Hf,ρ,ds,I,hd,λ Hf1 H1 vs ex dvs=>⟨by rw[<-dvs.length];exact hl,λ p hp=>?_⟩⟩
  have e2:=Ex.new (o:=.tup vs) ex.fh hp
  exact q _ _ _ (ex.trans e2) (zgr (SqU.of zac) (dvs.same e2.ff))
 ·cases hz
theorem zkq (h:PA X es (aV X.K B fr)):PE X (.List es pos) (eV X.K B (eN zcy fr)):=(zm3 h).imp λ σ H Q ⟨Hf,ρ,z,I,hz,q⟩=>by
 obtain ⟨ds,hd,hz⟩:=bind_some hz
 unfold zcy at hz
 split at hz
 ·rename_i hl
  cases hz
  refine⟨Hf,ρ,ds,I,hd,λ Hf1 H1 vs ex dvs=>⟨by rw[<-dvs.length];exact hl,λ p hp=>?_⟩⟩
  have e2:=Ex.new (o:=.lst vs) ex.fh hp
  exact q _ _ _ (ex.trans e2) (zc1 (SqL.of zac) (dvs.same e2.ff))
 ·cases hz
end
section
variable {κ α:Type} [DecidableEq κ]
def zbf (m:List (κ×α)) (k:κ):Option α:=(m.find? λ kv=>decide (kv.1=k)).map (·.2)
def zi3 (m:List (κ×α)) (k:κ) (v:α):List (κ×α) :=
 if (m.any λ kv=>decide (kv.1=k))=true then m.map (λ kv=>if kv.1=k then (kv.1,v) else kv) else m++[(k,v)]
abbrev PKV (K:PySem.W.Frag) (H:Hp):List (κ×D)->List (κ×V)->Prop:=Paired λ a b=>a.1=b.1/\Dn K H a.2 b.2
variable {K:PySem.W.Frag}{H:Hp}
theorem zl2:∀ {kvs:List (κ×V)}{ks:List κ}{ds:List D},kvs.map Prod.fst=ks->Dns K H ds (kvs.map Prod.snd)->PKV K H (ks.zip ds) kvs
 | [],_,_,e,p=>by subst e;cases p;exact .nil
 | kv::r,_,_,e,p=>by
  subst e
  rw[List.map_cons] at p
  cases p with
  | cons a b=>exact .cons ⟨rfl,a⟩ (zl2 rfl b)
theorem PKV.fst:∀ {m:List (κ×D)}{kvs:List (κ×V)},PKV K H m kvs->kvs.map Prod.fst=m.map Prod.fst
 | _,_,.nil=>rfl
 | _,_,.cons a b=>by rw[List.map_cons,List.map_cons,a.1,PKV.fst b]
theorem PKV.snd:∀ {m:List (κ×D)}{kvs:List (κ×V)},PKV K H m kvs->Dns K H (m.map Prod.snd) (kvs.map Prod.snd)
 | _,_,.nil=>.nil
 | _,_,.cons a b=>.cons a.2 (PKV.snd b)
theorem PKV.any:∀ {m:List (κ×D)}{kvs:List (κ×V)} (k:κ),PKV K H m kvs->(kvs.any λ kv=>decide (kv.1=k))=m.any λ kv=>decide (kv.1=k)
 | _,_,_,.nil=>rfl
 | _,_,k,.cons a b=>by rw[List.any_cons,List.any_cons,a.1,PKV.any k b]
theorem PKV.val:∀ {m:List (κ×D)}{kvs:List (κ×V)} (k:κ),PKV K H m kvs->(zbf m k=none->zeq kvs k=none)/\∀ d,zbf m k=some d->∃ v,zeq kvs k=some v/\Dn K H d v
 | _,_,k,.nil=>⟨λ _=>rfl,λ d h=>by cases h⟩
 | a::m,b::kvs,k,.cons h t=>by
  have ih:=PKV.val k t
  by_cases e:b.1=k
  ·have e2:a.1=k:=h.1.trans e
   refine⟨λ z=>?_,λ d z=>?_⟩
   ·simp[zbf,List.find?_cons,e2] at z
   ·simp[zbf,List.find?_cons,e2] at z
    subst z
    exact⟨b.2,zdc e,h.2⟩
  ·have e2:¬ a.1=k:=λ z=>e (h.1.symm.trans z)
   have e3:zbf (a::m) k=zbf m k:=by simp[zbf,List.find?_cons,e2]
   rw[e3,zct e]
   exact ih
theorem PKV.repl {d:D}{v:V} (k:κ) (hd:Dn K H d v):∀ {m:List (κ×D)}{kvs:List (κ×V)},PKV K H m kvs->PKV K H (m.map λ kv=>if kv.1=k then (kv.1,d) else kv) (kvs.map λ kv=>if kv.1=k then (kv.1,v) else kv)
 | _,_,.nil=>.nil
 | a::m,b::kvs,.cons h t=>by
  refine .cons ?_ (PKV.repl k hd t)
  by_cases e:b.1=k
  ·dsimp only;rw[if_pos e,if_pos (h.1.trans e)];exact⟨h.1,hd⟩
  ·dsimp only;rw[if_neg e,if_neg (λ z=>e (h.1.symm.trans z))];exact h
theorem PKV.put {d:D}{v:V} (k:κ) {m:List (κ×D)}{kvs:List (κ×V)} (h:PKV K H m kvs) (hd:Dn K H d v):PKV K H (zi3 m k d) (ziz kvs k v):=by
 unfold zi3 ziz
 rw[PKV.any k h]
 split
 ·exact PKV.repl k hd h
 ·exact h.zsnoc ⟨rfl,hd⟩
end
def zl3:D->Option Key
 | .sc (.int i)=>some (.inl i)
 | .sc (.str x)=>some (.inr x)
 | _=>none
def zgt:List D->Option (List Key)
 | []=>some []
 | d::r=>(zl3 d).bind λ k=>(zgt r).map (k::·)
def zev:D->Option (List Key)
 | .tup ds=>zgt ds
 | _=>none
section
variable {K:PySem.W.Frag}{Hf H:Hp}
theorem z4y {d:D}{x:V}{k:Key} (h:Dn K H d x) (e:zl3 d=some k):x=kV k:=by
 unfold zl3 at e
 split at e
 ·cases e;exact h.sc.2
 ·cases e;exact h.sc.2
 ·cases e
theorem zi4 {d:D}{x:V}{k:Key} (h:DnB K Hf H d x) (e:zl3 d=some k):x=kV k:=by
 unfold zl3 at e
 split at e
 ·cases e;exact h.sc.2
 ·cases e;exact h.sc.2
 ·cases e
theorem zqy:∀ {ds:List D}{xs:List V}{ks:List Key},Dns K H ds xs->zgt ds=some ks->xs=ks.map kV
 | _,_,_,.nil,e=>by cases e;rfl
 | _,_,_,.cons a b,e=>by
  unfold zgt at e
  obtain ⟨k,h1,e⟩:=bind_some e
  rename_i r _ _
  cases h2:zgt r with
  | none=>rw[h2] at e;cases e
  | some ks =>
   rw[h2] at e
   cases e
   rw[List.map_cons,z4y a h1,zqy b h2]
theorem zgu {d:D}{x:V}{k:List Key} (h:DnB K Hf H d x) (e:zev d=some k):∃ b,x=.ref b/\Hf b=some (.tup (k.map kV)):=by
 unfold zev at e
 split at e
 ·obtain ⟨a,xs,rfl,h1,h2⟩:=h.tupU
  have h1:Hf a=some (.tup xs):=h1
  rw[zqy h2 e] at h1
  exact⟨a,rfl,h1⟩
 ·cases e
end
def zd9 (d k:D):Option (Option D):=match d with
 | .dk ks ds=>(zl3 k).map λ key=>zbf (ks.zip ds) key
 | .dt ks ds=>(zev k).map λ key=>zbf (ks.zip ds) key
 | _=>none
theorem zi5 {K:PySem.W.Frag}{Hf H:Hp}{d k:D}{x y:V}{o:Option D} (s:zar Hf H) (hd:DnB K Hf H d x) (hk:DnB K Hf H k y) (h:zd9 d k=some o):∃ a r,x=.ref a/\IsD H a/\zly H a y r/\(o=none->r=none)/\∀ z,o=some z->∃ v,r=some v/\Dn K Hf z v:=by
 unfold zd9 at h
 split at h
 ·obtain ⟨key,h1,h2⟩:=Option.map_eq_some_iff.mp h
  obtain ⟨a,kvs,rfl,h3,h4,h5⟩:=hd.dk s
  have e:=zi4 hk h1
  subst e
  have p:=(zl2 h4 h5).val key
  rw[h2] at p
  exact⟨a,_,rfl,.inl ⟨kvs,.inl h3⟩,zly.k h3,p.1,p.2⟩
 ·obtain ⟨key,h1,h2⟩:=Option.map_eq_some_iff.mp h
  obtain ⟨a,kvs,rfl,h3,h4,h5⟩:=hd.dt s
  obtain ⟨b,rfl,hb⟩:=zgu hk h1
  have p:=(zl2 h4 h5).val key
  rw[h2] at p
  exact⟨a,_,rfl,.inr ⟨kvs,.inl h3⟩,zly.t h3 (s _ _ hb),p.1,p.2⟩
 ·cases h
def zz9 (neg:Bool):R2:=λ x y H Q=>∃ a o,y=.ref a/\zly H a x o/\Q (.bl (if neg then !o.isSome else o.isSome)) H
section
variable {X:Cx}
theorem z4z (hu:X.A.units+1<cLine):OpR X (compareOp .In) (zz9 false):=by
 intro pins s σ H x y v u Q I rx ry ⟨a,o,e,g,q⟩
 subst e
 obtain rfl:u=Value.ref a:=ry
 exact ycr hu I g rx λ s' I'=>⟨.bl o.isSome,H,I',rfl,q⟩
theorem zqz (hu:X.A.units+1<cLine):OpR X (compareOp .NotIn) (zz9 true):=by
 intro pins s σ H x y v u Q I rx ry ⟨a,o,e,g,q⟩
 subst e
 obtain rfl:u=Value.ref a:=ry
 exact zz4 hu I g rx λ s' I'=>⟨.bl (!o.isSome),H,I',rfl,q⟩
end
section
variable {X:Cx}
def z0a (K:PySem.W.Frag):R2:=λ x y H Q=>match x,y with|.ref l,.ref b=>∃ xs zs,SqL K H l xs/\SqL K H b zs/\xs.length+zs.length<=sizeLine/\∀ p,H p=none->Q (.ref p) (upd H p (.lst (xs++zs)))|_,_=>False
theorem z0b:OpR X (binaryOp .Add) (z0a X.K):=by
 intro pins s σ H x y v u Q I rx ry h
 unfold z0a at h
 split at h
 ·rename_i l b
  obtain ⟨xs,zs,hl,hb,hz,q⟩:=h
  cases rx
  cases ry
  obtain ⟨its,r,pl,_⟩:=I.list hl
  obtain ⟨its2,r2,pl2,_⟩:=I.list hb
  have l1:=r.length
  have l2:=r2.length
  obtain ⟨⟨cls,dd,data,sl⟩,ho,hc,n,hd⟩:=pl.isList
  obtain ⟨⟨cls2,dd2,data2,sl2⟩,ho2,hc2,n2,hd2⟩:=pl2.isList
  simp only at hc hd hc2 hd2
  subst hc hd hc2 hd2
  refine concat_meets ⟨_,ho,rfl⟩ ⟨_,ho2,rfl⟩ noFill_list_add seq_list_add PySem.F.slot_list_add PySem.F.entry_list_add (PySem.F.args_list_add_2 _ _) (list_addW l b its.toArray its2.toArray n n2 dd dd2 sl sl2 (by simp;omega)) ⟨ho,ho2,?_⟩
  have ea:its.toArray++its2.toArray=(its++its2).toArray:=by simp
  rw[ea]
  exact⟨.ref _,_,I.lnew (t':=s.toks) (r.append r2) (by rw[List.length_append];omega),rfl,q _ I.fresh⟩
 ·exact h.elim
mutual
def deq:D->D->Bool
 | .sc a,.sc b=>eqV a b
 | .tup ds,.tup es=>zb1 ds es
 | .lst ds,.lst es=>zb1 ds es
 | _,_=>false
def zb1:List D->List D->Bool
 | [],[]=>true
 | a::as,b::bs=>deq a b && zb1 as bs
 | _,_=>false
end
theorem zq0:∀ {k:Nat}{h:Heap}{d e:D}{u v:Value},HD h k d u->HD h k e v->eqD k d e=deq d e:=by
 intro k
 induction k with
 | zero =>
  intro h d e u v h1 h2
  cases d with
  | sc a =>
   cases e with
   | sc b=>rw[deq];rfl
   | _=>exact h2.elim
  | _=>exact h1.elim
 | succ k ih =>
  intro h d e u v h1 h2
  have all:∀ {ds es:List D} {us vs:List Value},Paired (HD h k) ds us->Paired (HD h k) es vs->zhm (eqD k) ds es=zb1 ds es:=by
   intro ds es us vs p
   induction p generalizing es vs with
   | nil=>intro q;cases q <;> simp[zhm,zb1]
   | cons a b ih2 =>
    intro q
    cases q with
    | nil=>simp[zhm,zb1]
    | cons a' b' =>
     rw[zhm,zb1,ih a a',ih2 b']
  cases d with
  | sc a=>cases e <;> simp[eqD,deq]
  | tup ds =>
   cases e with
   | tup es =>
    obtain ⟨_,_,_,_,p⟩:=h1
    obtain ⟨_,_,_,_,p'⟩:=h2
    rw[deq];exact all p p'
   | _=>simp[eqD,deq]
  | lst ds =>
   cases e with
   | lst es =>
    obtain ⟨_,_,_,_,p⟩:=h1
    obtain ⟨_,_,_,_,p'⟩:=h2
    rw[deq];exact all p p'
   | _=>simp[eqD,deq]
  | _=>exact h1.elim
def dOk:Nat->D->Bool
 | _,.sc _=>true
 | 0,_=>false
 | n+1,.tup ds=>ds.all (dOk n)
 | n+1,.lst ds=>ds.all (dOk n)
 | _+1,_=>false
theorem Dn.at {K:PySem.W.Frag}{H:Hp}:∀ {n:Nat}{d:D}{x:V},Dn K H d x->dOk n d=true->Den K H n d x:=by
 intro n
 induction n with
 | zero =>
  intro d x h hd
  cases d with
  | sc v=>exact h.sc
  | _=>cases hd
 | succ n ih =>
  intro d x h hd
  have go:∀ {ds:List D} {xs:List V},Dns K H ds xs->ds.all (dOk n)=true->Paired (Den K H n) ds xs:=by
   intro ds xs p
   induction p with
   | nil=>intro _;exact .nil
   | cons a b ih2 =>
    intro hh
    rw[List.all_cons,Bool.and_eq_true] at hh
    exact .cons (ih a hh.1) (ih2 hh.2)
  cases d with
  | sc v=>exact h.sc
  | tup ds=>obtain ⟨a,xs,e,q,p⟩:=h.tup;exact⟨a,xs,e,q,go p hd⟩
  | lst ds=>obtain ⟨a,xs,e,q,p⟩:=h.lst;exact⟨a,xs,e,q,go p hd⟩
  | _=>cases hd
theorem zxl {h:Heap}:∀ {k:Nat}{d e:D}{u:Value},HD h k d u->HD h k e u->d=e:=by
 intro k
 induction k with
 | zero =>
  intro d e u h1 h2
  cases d with
  | sc v =>
   cases e with
   | sc w=>obtain ⟨f,r⟩:=h1;obtain ⟨f',r'⟩:=h2;rw[r.inj r']
   | _=>exact h2.elim
  | _=>exact h1.elim
 | succ k ih =>
  intro d e u h1 h2
  have all:∀ {ds es:List D} {us:List Value},Paired (HD h k) ds us->Paired (HD h k) es us->ds=es:=by
   intro ds es us p
   induction p generalizing es with
   | nil=>intro q;cases q;rfl
   | cons a b ih2=>intro q;cases q with|cons a' b'=>rw[ih a a',ih2 b']
  cases d with
  | sc v =>
   obtain ⟨f,r⟩:=h1
   cases e with
   | sc w=>obtain ⟨f',r'⟩:=h2;rw[r.inj r']
   | tup es=>obtain ⟨a,its,q,_⟩:=h2;subst q;exact (zbw f r).elim
   | lst es=>obtain ⟨a,its,q,_⟩:=h2;subst q;exact (zbw f r).elim
   | _=>exact h2.elim
  | tup ds =>
   obtain ⟨a,its,q,t1,p1⟩:=h1
   subst q
   cases e with
   | sc w=>obtain ⟨f,r⟩:=h2;exact (zbw f r).elim
   | tup es=>obtain ⟨a',its',q,t2,p2⟩:=h2;cases q;have q:=zqd t1 t2;subst q;rw[all p1 p2]
   | lst es=>obtain ⟨a',its',q,t2,p2⟩:=h2;cases q;exact (zda t1 t2).elim
   | _=>exact h2.elim
  | lst ds =>
   obtain ⟨a,its,q,t1,p1⟩:=h1
   subst q
   cases e with
   | sc w=>obtain ⟨f,r⟩:=h2;exact (zbw f r).elim
   | lst es=>obtain ⟨a',its',q,t2,p2⟩:=h2;cases q;have q:=zqe t1 t2;subst q;rw[all p1 p2]
   | tup es=>obtain ⟨a',its',q,t2,p2⟩:=h2;cases q;exact (zda t2 t1).elim
   | _=>exact h2.elim
  | _=>exact h1.elim
open Classical in
def eqF (h:Heap) (k:Nat) (e:D) (w:Value):Bool:=if z:∃ d,HD h k d w then eqD k z.choose e else false
theorem zm9 {h:Heap}{k:Nat}{d e:D}{w:Value} (x:HD h k d w):eqF h k e w=eqD k d e:=by
 have z:∃ d,HD h k d w:=⟨d,x⟩
 unfold eqF
 rw[dif_pos z,zxl z.choose_spec x]
def z0c (K:PySem.W.Frag) (k:Nat) (neg:Bool):R2:=λ x y H Q=>∃ p xs ds e,y=.ref p/\(SqL K H p xs\/SqT K H p xs)/\Den K H k e x/\Paired (Den K H k) ds xs/\Q (.bl (if neg then !(ds.any λ d=>eqD k d e) else ds.any λ d=>eqD k d e)) H
theorem zgv {h:Heap}{k:Nat}{e:D}:∀ {ds:List D}{us:List Value},Paired (HD h k) ds us->us.any (eqF h k e)=ds.any λ d=>eqD k d e
 | _,_,.nil=>rfl
 | _,_,.cons a b=>by rw[List.any_cons,List.any_cons,zm9 a,zgv b]
theorem zh6 {A:Around}{s:Shared}{k:Nat}{e:D}{v:Value} (hv:HD s.heap k e v) (hu:A.units+k<cLine):∀ {ds:List D}{us:List Value},Paired (HD s.heap k) ds us->∀ u∈us,SeqAt.EqAt A s u v (eqF s.heap k e u)
 | _,_,.nil=>λ u hu=>by cases hu
 | _,_,.cons a b=>λ u hm=>by
  rcases List.mem_cons.mp hm with rfl|hm
  ·rw[zm9 a];exact ziv a hv hu
  ·exact zh6 hv hu b u hm
theorem Inv.dens {pins:List (Addr×Obj)}{σ:St}{H:Hp}{s:Shared}{k:Nat} (I:Inv X pins σ H s) {ds:List D}{xs:List V}{us:List Value} (p:Paired (Den X.K H k) ds xs) (r:zbj xs us):Paired (HD s.heap k) ds us :=
 Paired.imp2 (F:=zbe) (G:=HD s.heap k) (R:=Den X.K H k) (λ x u d r q=>I.den q r) r p
theorem z40 (k:Nat) (hu:X.A.units+(k+1)<cLine):OpR X (compareOp .In) (z0c X.K k false):=by
 intro pins s σ H x y v u Q I rx ry h
 obtain ⟨p,xs,ds,e,rfl,hq,hx,hd,q⟩:=h
 cases ry
 have hv:=I.den hx rx
 rcases hq with hq|hq
 ·obtain ⟨its,r,pl,hz⟩:=I.list hq
  have hp:=I.dens hd r
  refine SeqAt.in_listAt (eqF s.heap k e) pl.isList (λ w hw=>zh6 (A:=X.A.in1) hv (by show X.A.units+1+k<cLine;omega) hp w (by simpa using hw)) ⟨.bl _,H,I,rfl,?_⟩
  rw[show its.toArray.any (eqF s.heap k e)=its.any (eqF s.heap k e) by simp,zgv hp]
  exact q
 ·obtain ⟨its,r,pl,hz⟩:=I.tuple hq
  have hp:=I.dens hd r
  refine SeqAt.in_tupleAt (eqF s.heap k e) pl (λ w hw=>zh6 (A:=X.A.in1) hv (by show X.A.units+1+k<cLine;omega) hp w (by simpa using hw)) ⟨.bl _,H,I,rfl,?_⟩
  rw[show its.toArray.any (eqF s.heap k e)=its.any (eqF s.heap k e) by simp,zgv hp]
  exact q
theorem zq1 (k:Nat) (hu:X.A.units+(k+1)<cLine):OpR X (compareOp .NotIn) (z0c X.K k true):=by
 intro pins s σ H x y v u Q I rx ry h
 obtain ⟨p,xs,ds,e,rfl,hq,hx,hd,q⟩:=h
 cases ry
 have hv:=I.den hx rx
 rcases hq with hq|hq
 ·obtain ⟨its,r,pl,hz⟩:=I.list hq
  have hp:=I.dens hd r
  refine SeqAt.notIn_listAt (eqF s.heap k e) pl.isList (λ w hw=>zh6 (A:=X.A.in1) hv (by show X.A.units+1+k<cLine;omega) hp w (by simpa using hw)) ⟨.bl _,H,I,rfl,?_⟩
  rw[show its.toArray.any (eqF s.heap k e)=its.any (eqF s.heap k e) by simp,zgv hp]
  exact q
 ·obtain ⟨its,r,pl,hz⟩:=I.tuple hq
  have hp:=I.dens hd r
  refine SeqAt.notIn_tupleAt (eqF s.heap k e) pl (λ w hw=>zh6 (A:=X.A.in1) hv (by show X.A.units+1+k<cLine;omega) hp w (by simpa using hw)) ⟨.bl _,H,I,rfl,?_⟩
  rw[show its.toArray.any (eqF s.heap k e)=its.any (eqF s.heap k e) by simp,zgv hp]
  exact q
abbrev LV:Nat:=9
theorem zfy {K:PySem.W.Frag}{H:Hp}:∀ {k:Nat}{d e:D}{x y:V},Den K H k d x->Den K H k e y->eqD k d e=deq d e:=by
 intro k
 induction k with
 | zero =>
  intro d e u v h1 h2
  cases d with
  | sc a =>
   cases e with
   | sc b=>rw[deq];rfl
   | _=>exact h2.elim
  | _=>exact h1.elim
 | succ k ih =>
  intro d e u v h1 h2
  have all:∀ {ds es:List D} {us vs:List V},Paired (Den K H k) ds us->Paired (Den K H k) es vs->zhm (eqD k) ds es=zb1 ds es:=by
   intro ds es us vs p
   induction p generalizing es vs with
   | nil=>intro q;cases q <;> simp[zhm,zb1]
   | cons a b ih2 =>
    intro q
    cases q with
    | nil=>simp[zhm,zb1]
    | cons a' b'=>rw[zhm,zb1,ih a a',ih2 b']
  cases d with
  | sc a=>cases e <;> simp[eqD,deq]
  | tup ds =>
   cases e with
   | tup es=>obtain ⟨_,_,_,_,p⟩:=h1;obtain ⟨_,_,_,_,p'⟩:=h2;rw[deq];exact all p p'
   | _=>simp[eqD,deq]
  | lst ds =>
   cases e with
   | lst es=>obtain ⟨_,_,_,_,p⟩:=h1;obtain ⟨_,_,_,_,p'⟩:=h2;rw[deq];exact all p p'
   | _=>simp[eqD,deq]
  | _=>exact h1.elim
def scK:V->Nat
 | .int _=>1
 | .str _=>2
 | .bl _=>3
 | _=>0
def gEq (d e:D):Option Bool:=match d,e with
 | .sc a,.sc b=>if scK a=scK b/\scK a≠0 then some (eqV a b) else none
 | .tup ds,.tup es=>if dOk LV (.tup ds) && dOk LV (.tup es) then some (zb1 ds es) else none
 | .lst ds,.lst es=>if dOk LV (.lst ds) && dOk LV (.lst es) then some (zb1 ds es) else none
 | _,_=>none
def zc8 (d e:D):Option D:=(gEq d e).map D.bl
def zfb (d e:D):Option D:=(gEq d e).map λ b=>D.bl (!b)
theorem zb2 {α:Type} [BEq α] [LawfulBEq α] (i j:α) [inst:Decidable (i=j)]:decide (i=j)=(i == j):=by
 by_cases h:i=j
 ·simp[h]
 ·rw[decide_eq_false h];exact (beq_eq_false_iff_ne.mpr h).symm
theorem zor {n:Nat} (hr:Room n X.A):OpR X (compareOp .Eq) (λ x y H Q=>kEq false x y H Q\/z9a X.K 8 x y H Q):=ycn.or (z32 8 (by have:=hr.units;omega))
theorem z0d {n:Nat} (hr:Room n X.A):OpR X (compareOp .NotEq) (λ x y H Q=>kEq true x y H Q\/z9b X.K 8 x y H Q):=yco.or (z33 8 (by have:=hr.units;omega))
theorem zxm {K:PySem.W.Frag}{Hf H:Hp}{a b x y:V}{neg z:Bool}{Q:VK} (hx:x=a) (hy:y=b) (h:(if scK a=scK b/\scK a≠0 then some (eqV a b) else none)=some z) (q:Q (.bl (if neg then !z else z)) H):kEq neg x y H Q:=by
 subst hx hy
 split at h
 ·rename_i hs
  cases h
  cases x with
  | bl i =>
   cases y with
   | bl j=>show Q (V.bl (if neg=true then !decide (i=j) else decide (i=j))) H;rw[zb2 i j];exact q
   | _=>exact absurd hs.1 (by simp[scK])
  | int i =>
   cases y with
   | int j=>show Q (V.bl (if neg=true then !decide (i=j) else decide (i=j))) H;rw[zb2 i j];exact q
   | _=>exact absurd hs.1 (by simp[scK])
  | str i =>
   cases y with
   | str j=>show Q (V.bl (if neg=true then !decide (i=j) else decide (i=j))) H;rw[zb2 i j];exact q
   | _=>exact absurd hs.1 (by simp[scK])
  | _=>exact absurd rfl hs.2
 ·cases h
theorem zfk {K:PySem.W.Frag}:P2 K (λ x y H Q=>kEq false x y H Q\/z9a K 8 x y H Q) zc8:=by
 intro Hf H x y d e z Q s hd he hz q
 unfold zc8 at hz
 cases hg:gEq d e with
 | none=>rw[hg] at hz;cases hz
 | some b =>
  rw[hg] at hz
  have hz:D.bl b=z:=Option.some.inj hz
  subst hz
  have q:=q Hf H (.bl b) (.refl s) (zbh rfl)
  unfold gEq at hg
  split at hg
  ·exact .inl (zxm (K:=K) (Hf:=Hf) hd.sc.2 he.sc.2 hg q)
  ·split at hg
   ·rename_i hk
    rw[Bool.and_eq_true] at hk
    cases hg
    have h1:=(hd.whole s).at hk.1
    have h2:=(he.whole s).at hk.2
    refine .inr ⟨_,_,h1,h2,rfl,?_⟩
    rw[zfy h1 h2,deq];exact q
   ·cases hg
  ·split at hg
   ·rename_i hk
    rw[Bool.and_eq_true] at hk
    cases hg
    have h1:=(hd.whole s).at hk.1
    have h2:=(he.whole s).at hk.2
    refine .inr ⟨_,_,h1,h2,rfl,?_⟩
    rw[zfy h1 h2,deq];exact q
   ·cases hg
  ·cases hg
theorem zl4 {K:PySem.W.Frag}:P2 K (λ x y H Q=>kEq true x y H Q\/z9b K 8 x y H Q) zfb:=by
 intro Hf H x y d e z Q s hd he hz q
 unfold zfb at hz
 cases hg:gEq d e with
 | none=>rw[hg] at hz;cases hz
 | some b =>
  rw[hg] at hz
  have hz:D.bl (!b)=z:=Option.some.inj hz
  subst hz
  have q:=q Hf H (.bl (!b)) (.refl s) (zbh rfl)
  unfold gEq at hg
  split at hg
  ·exact .inl (zxm (K:=K) (Hf:=Hf) hd.sc.2 he.sc.2 hg q)
  ·split at hg
   ·rename_i hk
    rw[Bool.and_eq_true] at hk
    cases hg
    have h1:=(hd.whole s).at hk.1
    have h2:=(he.whole s).at hk.2
    refine .inr ⟨_,_,h1,h2,rfl,?_⟩
    rw[zfy h1 h2,deq];exact q
   ·cases hg
  ·split at hg
   ·rename_i hk
    rw[Bool.and_eq_true] at hk
    cases hg
    have h1:=(hd.whole s).at hk.1
    have h2:=(he.whole s).at hk.2
    refine .inr ⟨_,_,h1,h2,rfl,?_⟩
    rw[zfy h1 h2,deq];exact q
   ·cases hg
  ·cases hg
def gIn (d e:D):Option Bool:=match e with
 | .sc (.str t)=>match d with|.sc (.str x)=>some (Txt.contains t x)|_=>none
 | .lst es=>if dOk LV d && es.all (dOk LV) then some (es.any λ z=>deq z d) else none
 | .tup es=>if dOk LV d && es.all (dOk LV) then some (es.any λ z=>deq z d) else none
 | .dk ks es=>(zd9 (.dk ks es) d).map Option.isSome
 | .dt ks es=>(zd9 (.dt ks es) d).map Option.isSome
 | _=>none
def zll (d e:D):Option D:=(gIn d e).map D.bl
def zbi (d e:D):Option D:=(gIn d e).map λ b=>D.bl (!b)
theorem ybq {n:Nat} (hr:Room n X.A):OpR X (compareOp .In) (λ x y H Q=>zuo false x y H Q\/z0c X.K 9 false x y H Q\/zz9 false x y H Q):=z9m.or ((z40 9 (by have:=hr.units;omega)).or (z4z (by have:=hr.units;omega)))
theorem zi6 {n:Nat} (hr:Room n X.A):OpR X (compareOp .NotIn) (λ x y H Q=>zuo true x y H Q\/z0c X.K 9 true x y H Q\/zz9 true x y H Q):=zup.or ((zq1 9 (by have:=hr.units;omega)).or (zqz (by have:=hr.units;omega)))
theorem Dns.at {K:PySem.W.Frag}{H:Hp}{n:Nat}:∀ {ds:List D}{xs:List V},Dns K H ds xs->ds.all (dOk n)=true->Paired (Den K H n) ds xs
 | _,_,.nil,_=>.nil
 | _,_,.cons a b,h=>by
  rw[List.all_cons,Bool.and_eq_true] at h
  exact .cons (a.at h.1) (Dns.at b h.2)
theorem zl5 {K:PySem.W.Frag}{H:Hp}{k:Nat}{e:D}{y:V} (he:Den K H k e y):∀ {ds:List D}{xs:List V},Paired (Den K H k) ds xs->(ds.any λ d=>eqD k d e)=ds.any λ d=>deq d e
 | _,_,.nil=>rfl
 | _,_,.cons a b=>by rw[List.any_cons,List.any_cons,zfy a he,zl5 he b]
theorem zxn {K:PySem.W.Frag}{Hf H:Hp}{x y:V}{d e:D}{neg b:Bool}{Q:VK} (s:zar Hf H) (hd:DnB K Hf H d x) (he:DnB K Hf H e y) (hg:gIn d e=some b) (q:Q (.bl (if neg then !b else b)) H):zuo neg x y H Q\/z0c K 9 neg x y H Q\/zz9 neg x y H Q:=by
 unfold gIn at hg
 split at hg
 ·split at hg
  ·cases hg
   rw[hd.sc.2,he.sc.2]
   exact .inl q
  ·cases hg
 ·split at hg
  ·rename_i es hk
   rw[Bool.and_eq_true] at hk
   cases hg
   obtain ⟨a,xs,rfl,hq,hs⟩:=he.lst s
   have h1:=(hd.whole s).at hk.1
   have h2:=Dns.at (hs.same s) hk.2
   exact .inr (.inl ⟨a,xs,es,d,rfl,.inl hq,h1,h2,by rw[zl5 h1 h2];exact q⟩)
  ·cases hg
 ·split at hg
  ·rename_i es hk
   rw[Bool.and_eq_true] at hk
   cases hg
   obtain ⟨a,xs,rfl,hq,hs⟩:=he.tup
   have h1:=(hd.whole s).at hk.1
   have h2:=Dns.at (hs.same s) hk.2
   exact .inr (.inl ⟨a,xs,es,d,rfl,.inr (s.seqT hq),h1,h2,by rw[zl5 h1 h2];exact q⟩)
  ·cases hg
 ·obtain ⟨o,h1,h2⟩:=Option.map_eq_some_iff.mp hg
  obtain ⟨a,r,rfl,_,g,n1,n2⟩:=zi5 s he hd h1
  refine .inr (.inr ⟨a,r,rfl,g,?_⟩)
  have e:r.isSome=b:=by
   rw[<-h2]
   cases o with
   | none=>rw[n1 rfl];rfl
   | some z=>obtain ⟨v,e,_⟩:=n2 z rfl;rw[e];rfl
  rw[e];exact q
 ·obtain ⟨o,h1,h2⟩:=Option.map_eq_some_iff.mp hg
  obtain ⟨a,r,rfl,_,g,n1,n2⟩:=zi5 s he hd h1
  refine .inr (.inr ⟨a,r,rfl,g,?_⟩)
  have e:r.isSome=b:=by
   rw[<-h2]
   cases o with
   | none=>rw[n1 rfl];rfl
   | some z=>obtain ⟨v,e,_⟩:=n2 z rfl;rw[e];rfl
  rw[e];exact q
 ·cases hg
theorem z41 {K:PySem.W.Frag}:P2 K (λ x y H Q=>zuo false x y H Q\/z0c K 9 false x y H Q\/zz9 false x y H Q) zll:=by
 intro Hf H x y d e z Q s hd he hz q
 unfold zll at hz
 cases hg:gIn d e with
 | none=>rw[hg] at hz;cases hz
 | some b =>
  rw[hg] at hz
  have hz:D.bl b=z:=Option.some.inj hz
  subst hz
  exact zxn s hd he hg (q Hf H (.bl b) (.refl s) (zbh rfl))
theorem zgb {K:PySem.W.Frag}:P2 K (λ x y H Q=>zuo true x y H Q\/z0c K 9 true x y H Q\/zz9 true x y H Q) zbi:=by
 intro Hf H x y d e z Q s hd he hz q
 unfold zbi at hz
 cases hg:gIn d e with
 | none=>rw[hg] at hz;cases hz
 | some b =>
  rw[hg] at hz
  have hz:D.bl (!b)=z:=Option.some.inj hz
  subst hz
  exact zxn s hd he hg (q Hf H (.bl (!b)) (.refl s) (zbh rfl))
end
section
variable {X:Cx}{B:Bs}{K:PySem.W.Frag}
def gII (h:Int->Int->V) (d e:D):Option D:=match d,e with|.sc (.int i),.sc (.int j)=>some (.sc (h i j))|_,_=>none
def zl6 (c:Int->Int->Bool) (h:Int->Int->V) (d e:D):Option D:=match d,e with|.sc (.int i),.sc (.int j)=>if c i j=true then some (.sc (h i j)) else none|_,_=>none
theorem zq2 {h:Int->Int->V} (hf:∀ i j,zci (h i j)=true):P2 K (k20 h) (gII h):=by
 intro Hf H x y d e z Q s hd he hz q
 unfold gII at hz
 split at hz
 ·cases hz
  rw[hd.sc.2,he.sc.2]
  exact q Hf H _ (.refl s) (zbh (hf _ _))
 ·cases hz
theorem zq3 {C:Int->Int->Prop}{c:Int->Int->Bool}{h:Int->Int->V} (hc:∀ i j,c i j=true->C i j) (hf:∀ i j,zci (h i j)=true):P2 K (k2 C h) (zl6 c h):=by
 intro Hf H x y d e z Q s hd he hz q
 unfold zl6 at hz
 split at hz
 ·split at hz
  ·rename_i hk
   cases hz
   rw[hd.sc.2,he.sc.2]
   exact⟨hc _ _ hk,q Hf H _ (.refl s) (zbh (hf _ _))⟩
  ·cases hz
 ·cases hz
def gLe:=gII λ i j=>.bl (decide (i<=j))
def gGt:=gII λ i j=>.bl (decide (j<i))
def gGe:=gII λ i j=>.bl (decide (j<=i))
def zf3 (a b:Int):Bool:=!(decide (Builtin.Int.intBits a > shortFactorBits) && decide (Builtin.Int.intBits b > shortFactorBits) && Builtin.Int.intTooBig (Builtin.Int.intBits a+Builtin.Int.intBits b))
theorem z0e:OpR X (binaryOp .Mult) (rI (λ i j=>zf3 i j=true) λ i j=>.int (i * j)):=opI λ i j _ _ _ _ _ hc q=>mul_int q (by unfold IntMulOk;intro h;unfold zf3 at hc;rw[h] at hc;cases hc)
def zdu:=zl6 zf3 λ i j=>.int (i * j)
def zew:=zl6 (λ i j=>decide (0<j/\j<1073741824)) λ i j=>.int (i / j)
def zb5:=zl6 (λ _ j=>decide (0<j)) λ i j=>.int (i % j)
theorem zos:P2 K (k20 λ i j=>.bl (decide (j<i))) gGt:=zq2 λ _ _=>rfl
theorem z9w:P2 K (k20 λ i j=>.bl (decide (j<=i))) gGe:=zq2 λ _ _=>rfl
theorem zfl:P2 K (k2 (λ i j=>zf3 i j=true) λ i j=>.int (i * j)) zdu:=zq3 (λ _ _ h=>h) λ _ _=>rfl
theorem zdk:P2 K (k2 z8w λ i j=>.int (i / j)) zew:=zq3 (λ _ _ h=>of_decide_eq_true (p:=_/\_) h) λ _ _=>rfl
theorem zbq:P2 K (k2 (λ _ j=>0<j) λ i j=>.int (i % j)) zb5:=zq3 (λ _ _ h=>of_decide_eq_true h) λ _ _=>rfl
theorem zgw:OpR X (binaryOp .Mult) (k2 (λ i j=>zf3 i j=true) λ i j=>.int (i * j)):=zzm z0e
def zb6 (d e:D):Option D:=match d,e with
 | .sc (.int i),.sc (.int j)=>some (.int (i+j))
 | .sc (.str i),.sc (.str j)=>if i.length+j.length<=sizeLine then some (.sc (.str (i++j))) else none
 | .lst ds,.lst es=>if ds.length+es.length<=sizeLine then some (.lst (ds++es)) else none
 | _,_=>none
def ybr (K:PySem.W.Frag):R2:=λ x y H Q=>k20 (λ i j=>.int (i+j)) x y H Q\/zzt x y H Q\/z0a K x y H Q
theorem zbt:OpR X (binaryOp .Add) (ybr X.K):=z9c.or (z4c.or z0b)
theorem za2:P2 K (ybr K) zb6:=by
 intro Hf H x y d e z Q s hd he hz q
 unfold zb6 at hz
 split at hz
 ·cases hz
  rw[hd.sc.2,he.sc.2]
  exact .inl (q Hf H _ (.refl s) (zbh rfl))
 ·split at hz
  ·rename_i hk
   cases hz
   rw[hd.sc.2,he.sc.2]
   exact .inr (.inl ⟨hk,q Hf H _ (.refl s) (zbh rfl)⟩)
  ·cases hz
 ·split at hz
  ·rename_i hk
   cases hz
   obtain ⟨a,xs,rfl,h1,h2⟩:=hd.lst s
   obtain ⟨b,ys,rfl,h3,h4⟩:=he.lst s
   refine .inr (.inr ⟨xs,ys,h1,h3,by rw[<-h2.length,<-h4.length];exact hk,λ p hp=>?_⟩)
   have e2:=Ex.new (o:=.lst (xs++ys)) s hp
   exact q _ _ _ e2 (zc1 (SqL.of zac) ((h2.zapp h4).zmap λ _ _ z=>z.same e2.ff))
  ·cases hz
 ·cases hz
mutual
def dlt:D->D->Bool
 | .sc a,.sc b=>ltV a b
 | .tup ds,.tup es=>zdq ds es
 | .lst ds,.lst es=>zdq ds es
 | _,_=>false
def zdq:List D->List D->Bool
 | [],[]=>false
 | [],_::_=>true
 | _::_,[]=>false
 | a::as,b::bs=>if deq a b=true then zdq as bs else dlt a b
end
mutual
def zb8:D->D->Bool
 | .sc a,.sc b=>zun a b
 | .tup ds,.tup es=>zdl ds es
 | .lst ds,.lst es=>zdl ds es
 | _,_=>false
def zdl:List D->List D->Bool
 | a::as,b::bs=>zb8 a b && zdl as bs
 | _,_=>true
end
theorem z42 {H:Hp}:∀ {k:Nat}{d e:D}{x y:V},Den K H k d x->Den K H k e y->ltD k d e=dlt d e/\(zb8 d e=true->zm5 k d e):=by
 intro k
 induction k with
 | zero =>
  intro d e u v h1 h2
  cases d with
  | sc a =>
   cases e with
   | sc b=>rw[dlt,zb8];exact⟨rfl,λ h=>h⟩
   | _=>exact h2.elim
  | _=>exact h1.elim
 | succ k ih =>
  intro d e u v h1 h2
  have all:∀ {ds es:List D} {us vs:List V},Paired (Den K H k) ds us->Paired (Den K H k) es vs->lex (eqD k) (ltD k) ds es=zdq ds es/\(zdl ds es=true->∀ p∈ds.zip es,zm5 k p.1 p.2):=by
   intro ds es us vs p
   induction p generalizing es vs with
   | nil=>intro q;cases q <;> simp[lex,zdq]
   | cons a b ih2 =>
    intro q
    cases q with
    | nil=>simp[lex,zdq]
    | cons a' b' =>
     obtain ⟨i1,i2⟩:=ih2 b'
     obtain ⟨j1,j2⟩:=ih a a'
     refine⟨?_,λ h=>?_⟩
     ·rw[lex,zdq,zfy a a',i1,j1]
     ·rw[zdl,Bool.and_eq_true] at h
      intro p hp
      rw[List.zip_cons_cons] at hp
      rcases List.mem_cons.mp hp with rfl|hp
      ·exact j2 h.1
      ·exact i2 h.2 p hp
  cases d with
  | sc a =>
   cases e with
   | sc b=>rw[dlt,zb8];exact⟨rfl,λ h=>h⟩
   | _=>simp[ltD,dlt,zb8]
  | tup ds =>
   cases e with
   | tup es=>obtain ⟨_,_,_,_,p⟩:=h1;obtain ⟨_,_,_,_,p'⟩:=h2;rw[dlt,zb8];exact all p p'
   | _=>simp[ltD,dlt,zb8]
  | lst ds =>
   cases e with
   | lst es=>obtain ⟨_,_,_,_,p⟩:=h1;obtain ⟨_,_,_,_,p'⟩:=h2;rw[dlt,zb8];exact all p p'
   | _=>simp[ltD,dlt,zb8]
  | _=>exact h1.elim
def gLt (d e:D):Option D:=match d,e with
 | .sc (.int i),.sc (.int j)=>some (.bl (decide (i<j)))
 | d,e=>if (dOk LV d && dOk LV e && zb8 d e)=true then some (.bl (dlt d e)) else none
def kLt (K:PySem.W.Frag):R2:=λ x y H Q=>k20 (λ i j=>.bl (decide (i<j))) x y H Q\/ybn K 8 x y H Q
theorem ybs {n:Nat} (hr:Room n X.A):OpR X (compareOp .Lt) (kLt X.K):=ybo.or (z34 8 (by have:=hr.units;omega))
theorem z43:P2 K (kLt K) gLt:=by
 intro Hf H x y d e z Q s hd he hz q
 unfold gLt at hz
 split at hz
 ·cases hz
  rw[hd.sc.2,he.sc.2]
  exact .inl (q Hf H _ (.refl s) (zbh rfl))
 ·split at hz
  ·rename_i hk
   rw[Bool.and_eq_true,Bool.and_eq_true] at hk
   cases hz
   have h1:=(hd.whole s).at hk.1.1
   have h2:=(he.whole s).at hk.1.2
   obtain ⟨j1,j2⟩:=z42 h1 h2
   refine .inr ⟨_,_,h1,h2,j2 hk.2,?_⟩
   rw[j1]
   exact q Hf H _ (.refl s) (zbh rfl)
  ·cases hz
def zf4 (d:D):Option D:=match d with|.sc (.int i)=>some (.int (-i))|_=>none
variable {a:Expr}{fa fb:Rho->Option D}{pos:Pos}
theorem zhq (ha:PE X a (eV X.K B fa)):PE X (.UnaryOp .USub a pos) (eV X.K B (e1 zf4 fa)):=(z8v z9g ha).imp λ σ H Q ⟨Hf,ρ,z,I,hz,q⟩=>by
 obtain ⟨d,hd,hz⟩:=bind_some hz
 refine⟨Hf,ρ,d,I,hd,λ Hf1 H1 v ex1 dv=>?_⟩
 unfold zf4 at hz
 split at hz
 ·cases hz
  rw[dv.int]
  exact q Hf1 H1 _ ex1 (zbh rfl)
 ·cases hz
theorem zh7 {α β:Type}{F:α->β->Prop}{l:List α}{m:List β}{i:Int}{a:α} (p:Paired F l m) (h:atI l i=some a):∃ b,atI m i=some b/\F a b:=by
 have e:=p.length
 unfold atI at h ⊢
 rw[<-e]
 cases q:ixN l.length i with
 | none=>rw[q] at h;cases h
 | some j =>
  rw[q] at h
  obtain ⟨b,h1,h2⟩:=p.zget (show l[j]?=some a from h)
  exact⟨b,h1,h2⟩
def gIx (d e:D):Option D:=match d,e with
 | .lst ds,.sc (.int i)=>atI ds i
 | .tup ds,.sc (.int i)=>atI ds i
 | .sc (.str z),.sc (.int i)=>if z.length<=sizeLine then (atI z.cps.toList i).map λ c=>.str [c] else none
 | _,_=>none
def kIx (K:PySem.W.Frag):R2:=λ x y H Q=>z9h K x y H Q\/z9i K x y H Q\/z9j x y H Q
theorem yct:IxR X (kIx X.K):=zzo.or (z4a.or z4b)
theorem z9x:P2 K (kIx K) gIx:=by
 intro Hf H x y d e z Q s hd he hz q
 unfold gIx at hz
 split at hz
 ·obtain ⟨a,xs,rfl,h1,h2⟩:=hd.lst s
  obtain ⟨v,h3,h4⟩:=zh7 h2 hz
  rw[he.sc.2]
  exact .inl ⟨xs,v,h1,h3,q Hf H v (.refl s) h4⟩
 ·obtain ⟨a,xs,rfl,h1,h2⟩:=hd.tup
  obtain ⟨v,h3,h4⟩:=zh7 h2 hz
  rw[he.sc.2]
  exact .inr (.inl ⟨xs,v,s.seqT h1,h3,q Hf H v (.refl s) h4⟩)
 ·split at hz
  ·rename_i hk
   obtain ⟨c,hc,hz⟩:=Option.map_eq_some_iff.mp hz
   subst hz
   rw[hd.sc.2,he.sc.2]
   exact .inr (.inr ⟨hk,c,hc,q Hf H _ (.refl s) (zbh rfl)⟩)
  ·cases hz
 ·cases hz
theorem zcu {b:Expr} (ha:PE X a (eB X.K B fa)) (hb:PE X b (eB X.K B fb)) (hs:zp5 b):PE X (.Subscript a b pos) (eV X.K B (e2 gIx fa fb)):=(z87 yct ha hb hs).imp λ σ H Q h=>zm8 z9x h
def zh8 {α:Type} (xs:List α) (lo hi:Option Int):List α:=(xs.drop (HT.sIx xs.length 0 lo)).take (HT.sIx xs.length xs.length hi - HT.sIx xs.length 0 lo)
theorem zh9 {α:Type}{F:α->V->Prop}{l:List α}{m:List V} (p:Paired F l m) (lo hi:Option Int):Paired F (zh8 l lo hi) (zpg m lo hi):=by
 have e:=p.length
 unfold zh8 zpg
 rw[<-e]
 exact (p.zdrop _).ztake _
def gSl (d:D) (lo hi:Option Int):Option D:=match d with
 | .lst ds=>some (.lst (zh8 ds lo hi))
 | .tup ds=>some (.tup (zh8 ds lo hi))
 | .sc (.str z)=>if z.length<=sizeLine then some (.sc (.str (StrLaws.sliceText z lo hi))) else none
 | _=>none
def eSl (fa:Rho->Option D) (fl fh:Rho->Option (Option Int)):Rho->Option D:=λ ρ=>(fa ρ).bind λ d=>(fl ρ).bind λ lo=>(fh ρ).bind λ hi=>gSl d lo hi
def oN:Rho->Option (Option Int):=λ _=>some none
def toI:D->Option Int|.sc (.int i)=>some i|_=>none
def oS (fa:Rho->Option D):Rho->Option (Option Int):=λ ρ=>(fa ρ).bind λ d=>(toI d).map some
theorem PO.imp {e:Option Expr}{t t':TO} (h:PO X e t) (f:∀ σ H Q,t' σ H Q->t σ H Q):PO X e t':=λ pins s σ H Q I q=>h pins s σ H Q I (f σ H Q q)
theorem zu1:PO X none (oV X.K B oN):=zzc.imp λ σ H Q ⟨Hf,ρ,z,I,hz,q⟩=>by cases hz;exact q Hf H (.refl I.fh)
theorem zl7 (ha:PE X a (eB X.K B fa)):PO X (some a) (oV X.K B (oS fa)):=(zzr ha).imp λ σ H Q ⟨Hf,ρ,z,I,hz,q⟩=>by
 obtain ⟨d,hd,hz⟩:=bind_some hz
 refine⟨Hf,ρ,d,I,hd,λ Hf1 H1 v ex1 dv=>?_⟩
 unfold toI at hz
 split at hz
 ·cases hz
  rw[dv.sc.2]
  exact q Hf1 H1 ex1
 ·cases hz
def z44 (K:PySem.W.Frag):V->Option Int->Option Int->Hp->VK->Prop:=λ x lo hi H Q=>∃ a xs,x=.ref a/\SqT K H a xs ∧
 ((HT.sIx xs.length 0 lo=0/\HT.sIx xs.length xs.length hi=xs.length/\Q (.ref a) H)\/(¬ (HT.sIx xs.length 0 lo=0/\HT.sIx xs.length xs.length hi=xs.length)/\∀ p,H p=none->Q (.ref p) (upd H p (.tup (zpg xs lo hi)))))
end
end L2
namespace HT
open PySem PyProof.Rows
section
variable {prog:Program}{w:World}{A:Around}{E:Value->Shared->Prop}{s:Shared}
theorem getItem_tuple_all {t sl:Addr}{items:Array Value}{vl vu:Value}{lo hi:Option Int}{Q:Value->Shared->Prop} (ht:IsTup s.heap t items) (hs:s.heap.IsSliceOf sl vl vu .none) (pl:IsPart vl lo) (pu:IsPart vu hi)
  (hw:sIx items.size 0 lo=0/\sIx items.size items.size hi=items.size) (h:Q (.ref t) s):wpAny (model prog w) A (getItem (.ref t) (.ref sl)) Q E s:=by
 obtain ⟨os,hos,hcs,hds⟩:=id hs
 have hTs:s.TypeIs (.ref sl) "slice":=⟨os,hos,hcs⟩
 unfold getItem
 try with_reducible refine wpAny_holding ?_
 first|refine wpAny_bind (wpAny_pure ?_)|skip
 refine wpAny_bind (wpAny_sequenceKey ht.typeIs (by decide) ?_)
 refine wpAny_bind (wpAny_callSpecial?_slot (name:=Str.ofString "__getitem__") ht.typeIs PyProof.Rows.slot_tuple_getitem
  (wpAny_call_entry PyProof.Rows.slot_tuple_getitem ht.typeIs entry_tuple_getitem ?_ (args_tuple_getitem _ _)))
 show wpAny _ _ (Builtin.Tuple.tupleItemsOf (.ref t) >>= _) _ _ s
 refine wpAny_bind (tupleItemsOf_ ht ?_)
 refine wpAny_bind (wpAny_typeOf hTs ?_)
 rw[if_pos (by decide)]
 refine wpAny_bind (zdh hs pl pu ?_)
 have hno:(((sIx items.size 0 lo:Nat):Int) == 0 && (1:Int) == 1 && (sIx items.size items.size hi - sIx items.size 0 lo) == items.size)=true:=by
  rw[hw.1,hw.2];simp
 show wpAny _ _ (if (((sIx items.size 0 lo:Nat):Int) == 0 && (1:Int) == 1 && (sIx items.size items.size hi - sIx items.size 0 lo) == items.size)=true then _ else _) _ _ s
 rw[if_pos hno]
 refine wpAny_bind (m:=Builtin.Tuple.tupleIsExact _) (wpAny_bind (wpAny_typeOf ht.typeIs (wpAny_pure ?_)))
 rw[if_pos (by decide)]
 first
  | exact wpAny_bind (wpAny_rule (wpAny_pure ⟨_,rfl,wpAny_pure h⟩))
  | exact wpAny_bind (wpAny_rule (wpAny_bind (wpAny_pure (wpAny_pure ⟨_,rfl,wpAny_pure h⟩))))
  | exact wpAny_bind (wpAny_bind (wpAny_rule (wpAny_pure (wpAny_pure ⟨_,rfl,wpAny_pure h⟩))))
  | exact wpAny_bind (wpAny_rule (wpAny_bind (wpAny_pure ⟨_,rfl,wpAny_pure h⟩)))
end
end HT
namespace L2
open PySem PySem.Spec PyProof.Rows
section
variable {X:Cx}{B:Bs}{K:PySem.W.Frag}
theorem z0f:SlR X (z44 X.K):=by
 intro pins s σ H x v vl vu lo hi sl Q I rx hs pl pu h
 obtain ⟨a,xs,rfl,hx,h⟩:=h
 rcases h with ⟨h1,h2,q⟩|⟨h1,q⟩
 ·cases rx
  obtain ⟨its,r,ht,hz⟩:=I.tuple hx
  have hlen:its.toArray.size=xs.length:=by rw[List.size_toArray];exact r.length.symm
  refine⟨"tuple",_,PyProof.Rows.slot_tuple_getitem.lookup,ht.typeIs,?_⟩
  exact HT.getItem_tuple_all ht hs pl pu (by rw[hlen];exact⟨h1,h2⟩) ⟨.ref a,H,I,rfl,q⟩
 ·exact z3w pins s σ H _ v vl vu lo hi sl Q I rx hs pl pu ⟨a,xs,rfl,hx,h1,q⟩
def kSl (K:PySem.W.Frag):V->Option Int->Option Int->Hp->VK->Prop:=λ x lo hi H Q=>z9l K x lo hi H Q\/z44 K x lo hi H Q\/z9q x lo hi H Q
theorem ycu:SlR X (kSl X.K):=zzs.or (z0f.or z4k)
theorem zu2 {α:Type}{xs:List α}{lo hi:Option Int} (h1:HT.sIx xs.length 0 lo=0) (h2:HT.sIx xs.length xs.length hi=xs.length):zh8 xs lo hi=xs:=by
 unfold zh8;rw[h1,h2];simp
theorem ycv {Hf H:Hp}{x:V}{d z:D}{lo hi:Option Int}{Q:VK} (s:zar Hf H) (hd:DnB K Hf H d x) (hz:gSl d lo hi=some z) (q:∀ Hf' H' v,Ex Hf H Hf' H'->Dn K Hf' z v->Q v H'):kSl K x lo hi H Q:=by
 unfold gSl at hz
 split at hz
 ·cases hz
  obtain ⟨a,xs,rfl,h1,h2⟩:=hd.lst s
  refine .inl ⟨xs,h1,λ p hp=>?_⟩
  have e2:=Ex.new (o:=.lst (zpg xs lo hi)) s hp
  exact q _ _ _ e2 (zc1 (SqL.of zac) ((zh9 h2 lo hi).zmap λ _ _ z=>z.same e2.ff))
 ·cases hz
  obtain ⟨a,xs,rfl,h1,h2⟩:=hd.tupU
  refine .inr (.inl ⟨a,xs,rfl,s.seqT h1.toT,?_⟩)
  by_cases hw:HT.sIx xs.length 0 lo=0/\HT.sIx xs.length xs.length hi=xs.length
  ·refine .inl ⟨hw.1,hw.2,q Hf H _ (.refl s) ?_⟩
   have e:=h2.length
   rw[zu2 (by rw[e];exact hw.1) (by rw[e];exact hw.2)]
   exact zgr h1 h2
  ·refine .inr ⟨hw,λ p hp=>?_⟩
   have e2:=Ex.new (o:=.tup (zpg xs lo hi)) s hp
   exact q _ _ _ e2 (zgr (SqU.of zac) ((zh9 h2 lo hi).zmap λ _ _ z=>z.same e2.ff))
 ·split at hz
  ·rename_i hk
   cases hz
   rw[hd.sc.2]
   exact .inr (.inr ⟨hk,q Hf H _ (.refl s) (zbh rfl)⟩)
  ·cases hz
 ·cases hz
variable {a e:Expr}{es:List Expr}{fa fb:Rho->Option D}{fr:Rho->Option (List D)}{pos p2:Pos}{lo hi:Option Expr}{fl fh:Rho->Option (Option Int)}
theorem zph (ha:PE X a (eB X.K B fa)) (hl:PO X lo (oV X.K B fl)) (hh:PO X hi (oV X.K B fh)):PE X (.Subscript a (.Slice lo hi none p2) pos) (eV X.K B (eSl fa fl fh)):=(zug ycu ha hl hh).imp λ σ H Q ⟨Hf,ρ,z,I,hz,q⟩=>by
 obtain ⟨d,hd,hz⟩:=bind_some hz
 obtain ⟨l,hl,hz⟩:=bind_some hz
 obtain ⟨h,hh,hz⟩:=bind_some hz
 exact⟨Hf,ρ,d,I,hd,λ Hf1 H1 v ex1 dv=>⟨Hf1,ρ,l,I.ext ex1,hl,λ Hf2 H2 ex2=>⟨Hf2,ρ,h,(I.ext ex1).ext ex2,hh,λ Hf3 H3 ex3 =>
  ycv ex3.fh ((dv.ext ex2).ext ex3) hz λ Hf' H' v' ex dv'=>q Hf' H' v' (((ex1.trans ex2).trans ex3).trans ex) dv'⟩⟩⟩
def PN (K:PySem.W.Frag) (r:List V->Hp->VK->Prop) (g:List D->Option D):Prop:=∀ Hf H xs ds z (Q:VK),zar Hf H->z4w K Hf H ds xs->g ds=some z->(∀ Hf' H' v,Ex Hf H Hf' H'->Dn K Hf' z v->Q v H')->r xs H Q
theorem zxo {r:List V->Hp->VK->Prop}{g:List D->Option D} (hp:PN X.K r g) {σ:St}{H:Hp}{Q:VK} (h:eV X.K B (eN g fr) σ H Q):tCB r (aB X.K B fr) σ H Q:=by
 obtain ⟨Hf,ρ,z,I,hz,q⟩:=h
 obtain ⟨ds,hd,hz⟩:=bind_some hz
 exact⟨Hf,ρ,ds,I,hd,λ Hf1 H1 vs ex1 dvs=>hp Hf1 H1 vs ds z Q ex1.fh dvs hz λ Hf' H' v ex dv=>q Hf' H' v (ex1.trans ex) dv⟩
theorem zdd {id:String}{r:List V->Hp->VK->Prop}{g:List D->Option D}{x:Str}{p:Pos} (hc:zcn X (.builtin id) r) (hp:PN X.K r g) (hg:Gl X x) (hm:X.mg x=none) (hv:bootBuiltins x=some (.builtin id)) (ha:PA X (e::es) (aB X.K B fr)) (hn:x ≠ "__name__":=by decide) (hdb:(x == ("__debug__" : Str))=false:=by decide)
  (he:starEach (e::es) X.env=(false,eval e X.env)::starEach es X.env:=by rfl) (hpl:(backTo pos (starEach es X.env)).any (·.1)=false:=by rfl):PE X (.Call (.Name x p) (e::es) [] pos) (eV X.K B (eN g fr)) :=
 (ziq hc hg hm hv ha hn hdb he hpl).imp λ σ H Q h=>zxo hp h
theorem zot {id:String}{r:List V->Hp->VK->Prop}{g:List D->Option D}{x:Str}{p:Pos} (hc:zcn X (.type id) r) (hp:PN X.K r g) (hg:Gl X x) (hm:X.mg x=none) (hv:bootBuiltins x=some (.type id)) (ha:PA X (e::es) (aB X.K B fr)) (hn:x ≠ "__name__":=by decide) (hdb:(x == ("__debug__" : Str))=false:=by decide)
  (he:starEach (e::es) X.env=(false,eval e X.env)::starEach es X.env:=by rfl) (hpl:(backTo pos (starEach es X.env)).any (·.1)=false:=by rfl):PE X (.Call (.Name x p) (e::es) [] pos) (eV X.K B (eN g fr)) :=
 (zka hc hg hm hv ha hn hdb he hpl).imp λ σ H Q h=>zxo hp h
theorem zcd {Hf H:Hp}{d:D}{xs:List V} (h:z4w K Hf H [d] xs):∃ x,xs=[x]/\DnB K Hf H d x:=by
 cases h with|cons a b=>cases b;exact⟨_,rfl,a⟩
theorem z45 {Hf H:Hp}{d e:D}{xs:List V} (h:z4w K Hf H [d,e] xs):∃ x y,xs=[x,y]/\DnB K Hf H d x/\DnB K Hf H e y:=by
 cases h with|cons a b=>cases b with|cons b c=>cases c;exact⟨_,_,rfl,a,b⟩
def zb7:List D->Option D
 | [.lst ds]=>some (.int ds.length)
 | [.tup ds]=>some (.int ds.length)
 | [.sc (.str z)]=>if z.length<=sizeLine then some (.int z.length) else none
 | _=>none
def ybt (K:PySem.W.Frag):List V->Hp->VK->Prop:=λ xs H Q=>zzu K xs H Q\/zzv xs H Q
theorem zde:zcn X (.builtin "len") (ybt X.K):=z4d.or zzw
theorem zb0:PN K (ybt K) zb7:=by
 intro Hf H xs ds z Q s hd hz q
 unfold zb7 at hz
 split at hz
 ·cases hz
  obtain ⟨x,rfl,hx⟩:=zcd hd
  obtain ⟨a,ys,rfl,h1,h2⟩:=hx.lst s
  exact .inl ⟨ys,.inl h1,by rw[<-h2.length];exact q Hf H _ (.refl s) (zbh rfl)⟩
 ·cases hz
  obtain ⟨x,rfl,hx⟩:=zcd hd
  obtain ⟨a,ys,rfl,h1,h2⟩:=hx.tup
  exact .inl ⟨ys,.inr (s.seqT h1),by rw[<-h2.length];exact q Hf H _ (.refl s) (zbh rfl)⟩
 ·split at hz
  ·rename_i hk
   cases hz
   obtain ⟨x,rfl,hx⟩:=zcd hd
   rw[hx.sc.2]
   exact .inr ⟨hk,q Hf H _ (.refl s) (zbh rfl)⟩
  ·cases hz
 ·cases hz
def zou:List D->Option D
 | [.lst ds]=>some (.lst ds)
 | [.tup ds]=>some (.lst ds)
 | _=>none
theorem zl8:PN K (zzx K) zou:=by
 intro Hf H xs ds z Q s hd hz q
 unfold zou at hz
 split at hz
 ·cases hz
  obtain ⟨x,rfl,hx⟩:=zcd hd
  obtain ⟨a,ys,rfl,h1,h2⟩:=hx.lst s
  refine⟨ys,.inl h1,λ p hp=>?_⟩
  have e2:=Ex.new (o:=.lst ys) s hp
  exact q _ _ _ e2 (zc1 (SqL.of zac) (h2.same e2.ff))
 ·cases hz
  obtain ⟨x,rfl,hx⟩:=zcd hd
  obtain ⟨a,ys,rfl,h1,h2⟩:=hx.tup
  refine⟨ys,.inr (s.seqT h1),λ p hp=>?_⟩
  have e2:=Ex.new (o:=.lst ys) s hp
  exact q _ _ _ e2 (zc1 (SqL.of zac) (h2.same e2.ff))
 ·cases hz
def zna:List D->Option D
 | [.lst ds]=>some (.tup ds)
 | [.tup ds]=>some (.tup ds)
 | _=>none
theorem znb:PN K (λ xs H Q=>∃ p ys,xs=[.ref p]/\((SqL K H p ys/\∀ l,H l=none->Q (.ref l) (upd H l (.tup ys)))\/(SqT K H p ys/\Q (.ref p) H))) zna:=by
 intro Hf H xs ds z Q s hd hz q
 unfold zna at hz
 split at hz
 ·cases hz
  obtain ⟨x,rfl,hx⟩:=zcd hd
  obtain ⟨a,ys,rfl,h1,h2⟩:=hx.lst s
  refine⟨a,ys,rfl,.inl ⟨h1,λ p hp=>?_⟩⟩
  have e2:=Ex.new (o:=.tup ys) s hp
  exact q _ _ _ e2 (zgr (SqU.of zac) (h2.same e2.ff))
 ·cases hz
  obtain ⟨x,rfl,hx⟩:=zcd hd
  obtain ⟨a,ys,rfl,h1,h2⟩:=hx.tupU
  exact⟨a,ys,rfl,.inr ⟨s.seqT h1.toT,q Hf H _ (.refl s) (zgr h1 h2)⟩⟩
 ·cases hz
def tyN:D->String
 | .sc .non => "NoneType"
 | .sc (.bl _) => "bool"
 | .sc (.int _) => "int"
 | .sc (.str _) => "str"
 | .sc _ => "?"
 | .tup _ => "tuple"
 | .lst _ => "list"
 | _ => "?"
def z9y (t n:String):Bool:=t == n || (t == "bool" && n == "int")
def zq4 (n:String):Prop:=∀ (K:PySem.W.Frag) (d:D),tyN d ≠ "?" -> PySem.W.kitOne K (.type (tyN d)) (.type n)=some (z9y (tyN d) n)
end
section
variable {X:Cx}{B:Bs}{K:PySem.W.Frag}
variable {a e o:Expr}{es:List Expr}{fa fb:Rho->Option D}{fr:Rho->Option (List D)}{pos p2 apos cpos:Pos}
def z9z (K:PySem.W.Frag):List V->Hp->VK->Prop:=λ xs H Q=>∃ x n t b,xs=[x,.ty n]/\(TyOf K H x t\/(t=.type "list" /\ ∃ p ys,x=.ref p/\SqL K H p ys)\/(t=.type "tuple" /\ ∃ p ys,x=.ref p/\SqT K H p ys))/\PySem.W.kitOne K t (.type n)=some b/\Q (.bl b) H
theorem zq5:zcn X (.builtin "isinstance") (z9z X.K):=by
 intro pins s σ H vs us Q I rv h
 obtain ⟨x,n,t,b,rfl,ty,e,q⟩:=h
 obtain ⟨u,w',rfl,r1,r2⟩:=z84 rv
 cases r2
 rcases ty with ty|⟨rfl,p,ys,rfl,hq⟩|⟨rfl,p,ys,rfl,hq⟩
 ·exact zpy I r1 ty e λ tk=>⟨.bl b,H,I.tok _,rfl,q⟩
 ·cases r1
  obtain ⟨its,_,⟨ob,nn,h1,h2,_⟩,_⟩:=I.list hq
  exact PySem.W.kia_one PySem.W.kitx_list I.kIn ⟨ob,h1,h2⟩ e (λ z=>nomatch z) λ tk=>⟨.bl b,H,I.tok _,rfl,q⟩
 ·cases r1
  obtain ⟨its,_,⟨ob,h1,h2,_⟩,_⟩:=I.tuple hq
  exact PySem.W.kia_one PySem.W.kitx_tuple I.kIn ⟨ob,h1,h2⟩ e (λ z=>nomatch z) λ tk=>⟨.bl b,H,I.tok _,rfl,q⟩
theorem z0g:zq4 "int":=λ K d h=>by
 cases d with
 | sc v=>cases v <;> first|rfl|exact absurd rfl h
 | _=>first|rfl|exact absurd rfl h
theorem znc:zq4 "bool":=λ K d h=>by
 cases d with
 | sc v=>cases v <;> first|rfl|exact absurd rfl h
 | _=>first|rfl|exact absurd rfl h
theorem znd:zq4 "list":=λ K d h=>by
 cases d with
 | sc v=>cases v <;> first|rfl|exact absurd rfl h
 | _=>first|rfl|exact absurd rfl h
theorem zq6:zq4 "tuple":=λ K d h=>by
 cases d with
 | sc v=>cases v <;> first|rfl|exact absurd rfl h
 | _=>first|rfl|exact absurd rfl h
def zt4 (n:String) (d:D):Option D:=if tyN d = "?" then none else some (.bl (z9y (tyN d) n))
theorem zov {n:String}{x:Str}{p p':Pos} (hi:zq4 n) (hg:Gl X "isinstance") (hm:X.mg "isinstance" = none) (ht:PE X (.Name x p') (tC (.ty n))) (ha:PE X a (eB X.K B fa))
  (hs1:starEach [a,.Name x p'] X.env=(false,eval a X.env)::starEach [.Name x p'] X.env:=by rfl) (hs2:starEach [.Name x p'] X.env=[(false,eval (.Name x p') X.env)]:=by rfl) (hpl:(backTo pos (starEach [.Name x p'] X.env)).any (·.1)=false:=by rfl):PE X (.Call (.Name "isinstance" p) [a,.Name x p'] [] pos) (eV X.K B (e1 (zt4 n) fa)) :=
 (ziq zq5 hg hm zix (zch ha (zch ht zee hs2) hs1) (by decide) (by decide) hs1 hpl).imp λ σ H Q ⟨Hf,ρ,z,I,hz,q⟩=>by
  obtain ⟨d,hd,hz⟩:=bind_some hz
  unfold zt4 at hz
  split at hz
  ·cases hz
  ·rename_i hq
   cases hz
   refine⟨Hf,ρ,d,I,hd,λ Hf1 H1 v ex1 dv=>⟨v,n,.type (tyN d),z9y (tyN d) n,rfl,?_,hi _ d hq,q Hf1 H1 _ ex1 (zbh rfl)⟩⟩
   cases d with
   | sc w =>
    rw[dv.sc.2]
    cases w with
    | non=>exact .inl .non
    | bl b=>exact .inl (.bl b)
    | int b=>exact .inl (.int b)
    | str b=>exact .inl (.str b)
    | _=>exact absurd rfl hq
   | tup ds=>obtain ⟨a,ys,rfl,h1,_⟩:=dv.tup;exact .inr (.inr ⟨rfl,a,ys,rfl,ex1.fh.seqT h1⟩)
   | lst ds=>obtain ⟨a,ys,rfl,h1,_⟩:=dv.lst ex1.fh;exact .inr (.inl ⟨rfl,a,ys,rfl,h1⟩)
   | _=>exact absurd rfl hq
def PM (K:PySem.W.Frag) (T:String) (r:V->List V->Hp->VK->Prop) (g:D->List D->Option D):Prop:=∀ Hf H x xs d ds z (Q:VK),zar Hf H->DnB K Hf H d x->z4w K Hf H ds xs->g d ds=some z->(∀ Hf' H' v,Ex Hf H Hf' H'->Dn K Hf' z v->Q v H')->r x xs H Q
def eM (T:String) (g:D->List D->Option D) (fo:Rho->Option D) (fr:Rho->Option (List D)):Rho->Option D:=λ ρ=>(fo ρ).bind λ d=>(fr ρ).bind λ ds=>if tyN d=T then g d ds else none
theorem zxp {Hf H:Hp}{d:D}{x:V}{T:String} (s:zar Hf H) (h:DnB K Hf H d x) (hT:tyN d=T) (h2:T ≠ "tuple"):T = "str" \/ T = "int" \/ T = "list" -> tyV K T x H:=by
 intro hh
 subst hT
 cases d with
 | sc v =>
  rw[h.sc.2]
  cases v with
  | str z=>rfl
  | int z=>rfl
  | _=>rcases hh with z|z|z <;> exact absurd z (by simp[tyN])
 | tup ds=>exact absurd rfl h2
 | lst ds=>obtain ⟨a,ys,rfl,h1,_⟩:=h.lst s;exact .inl ⟨rfl,ys,h1⟩
 | _=>rcases hh with z|z|z <;> exact absurd z (by simp[tyN])
theorem ycw {T id:String}{name:Str}{r:V->List V->Hp->VK->Prop}{g:D->List D->Option D} (pa:PlainAttrs T) (slot:Slot T name id) (hty:typeOf (.builtin id)=pure (.type "method_descriptor")) (hm:MtR X id r) (hp:PM X.K T r g) (ho:PE X o (eB X.K B fa)) (hT:(T = "str" \/ T = "int" \/ T = "list")/\T ≠ "tuple":=by decide)
  (hbase:attributeBase o name X.env (eval o X.env)=eval o X.env:=by rfl) (hline:(apos.endLine == cpos.line)=true:=by rfl):PE X (.Call (.Attribute o name apos) [] [] cpos) (eV X.K B (eM T g fa aN)) :=
 (zxc pa slot hty hm ho hbase hline).imp λ σ H Q ⟨Hf,ρ,z,I,hz,q⟩=>by
  obtain ⟨d,hd,hz⟩:=bind_some hz
  obtain ⟨ds,hds,hz⟩:=bind_some hz
  cases hds
  split at hz
  ·rename_i hq
   exact⟨Hf,ρ,d,I,hd,λ Hf1 H1 v ex1 dv=>⟨zxp ex1.fh dv hq hT.2 hT.1,hp Hf1 H1 v [] d [] z Q ex1.fh dv .nil hz λ Hf' H' v' ex dv'=>q Hf' H' v' (ex1.trans ex) dv'⟩⟩
  ·cases hz
theorem v_m {T id:String}{name:Str}{r:V->List V->Hp->VK->Prop}{g:D->List D->Option D} (pa:PlainAttrs T) (slot:Slot T name id) (hty:typeOf (.builtin id)=pure (.type "method_descriptor")) (hm:MtR X id r) (hp:PM X.K T r g) (ho:PE X o (eB X.K B fa)) (ha:PA X (e::es) (aB X.K B fr)) (hT:(T = "str" \/ T = "int" \/ T = "list")/\T ≠ "tuple":=by decide)
  (hbase:attributeBase o name X.env (eval o X.env)=eval o X.env:=by rfl)
  (hfew:((backTo cpos (starEach (e::es) X.env)).all (λ x=>!x.1) && (backToKw cpos (keywordEach [] X.env)).all (λ x=>x.1.isSome)
   && decide ((e::es).length+([]:List Keyword).length+(if ([]:List Keyword).isEmpty then 0 else 1)<30))=true:=by rfl)
  (hline:(apos.endLine == cpos.line)=true:=by rfl) (hs:starEach (e::es) X.env=(false,eval e X.env)::starEach es X.env:=by rfl) (hplain:(backTo cpos (starEach es X.env)).any (·.1)=false:=by rfl) :
  PE X (.Call (.Attribute o name apos) (e::es) [] cpos) (eV X.K B (eM T g fa fr)) :=
 (zui pa slot hty hm ho ha hbase hfew hline hs hplain).imp λ σ H Q ⟨Hf,ρ,z,I,hz,q⟩=>by
  obtain ⟨d,hd,hz⟩:=bind_some hz
  obtain ⟨ds,hds,hz⟩:=bind_some hz
  split at hz
  ·rename_i hq
   exact⟨Hf,ρ,d,I,hd,λ Hf1 H1 v ex1 dv=>⟨zxp ex1.fh dv hq hT.2 hT.1,Hf1,ρ,ds,I.ext ex1,hds,λ Hf2 H2 vs ex2 dvs=>hp Hf2 H2 v vs d ds z Q ex2.fh (dv.ext ex2) dvs hz λ Hf' H' v' ex dv'=>q Hf' H' v' ((ex1.trans ex2).trans ex) dv'⟩⟩
  ·cases hz
def gM0 (c:Str->Bool) (f:Str->V):D->List D->Option D:=λ d ds=>match d,ds with|.sc (.str z),[]=>if c z=true then some (.sc (f z)) else none|_,_=>none
theorem ycx {C:Str->Prop}{c:Str->Bool}{f:Str->V} (hc:∀ z,c z=true->C z) (hf:∀ z,zci (f z)=true):PM K "str" (z4j C f) (gM0 c f):=by
 intro Hf H x xs d ds z Q s hd hds hz q
 unfold gM0 at hz
 split at hz
 ·split at hz
  ·rename_i hk
   cases hz
   cases hds
   rw[hd.sc.2]
   exact⟨hc _ hk,q Hf H _ (.refl s) (zbh (hf _))⟩
  ·cases hz
 ·cases hz
def zne:=gM0 (λ z=>!Builtin.Str.tooLong (Txt.lower z).length) λ z=>.str (Txt.lower z)
theorem zu3:PM K "str" (z4j (λ z=>Builtin.Str.tooLong (Txt.lower z).length=false) λ z=>.str (Txt.lower z)) zne:=ycx (λ z h=>by simpa using h) λ _=>rfl
def zkr:D->List D->Option D:=λ d ds=>match d,ds with|.sc (.str z),[.sc (.str y)]=>(Builtin.Str.occurrences z y 0 z.length 1).head?.map λ i=>.int i|_,_=>none
theorem zu4:PM K "str" zqt zkr:=by
 intro Hf H x xs d ds z Q s hd hds hz q
 unfold zkr at hz
 split at hz
 ·obtain ⟨i,hi,hz⟩:=Option.map_eq_some_iff.mp hz
  subst hz
  obtain ⟨x2,rfl,hx⟩:=zcd hds
  rw[hd.sc.2,hx.sc.2]
  cases ho:Builtin.Str.occurrences _ _ 0 _ 1 with
  | nil=>rw[ho] at hi;cases hi
  | cons j r =>
   rw[ho] at hi
   have hi:j=i:=Option.some.inj hi
   subst hi
   exact⟨j,r,ho,q Hf H _ (.refl s) (zbh rfl)⟩
 ·cases hz
def zia:List D->Option (List Str)
 | []=>some []
 | .sc (.str z)::r=>(zia r).map (z::·)
 | _=>none
theorem zks {Hf:Hp}:∀ {ds:List D}{xs:List V}{bs:List Str},Dns K Hf ds xs->zia ds=some bs->xs=bs.map V.str
 | [],_,bs,.nil,h=>by cases h;rfl
 | .sc (.str b)::r,_,bs,.cons p t,h=>by
  unfold zia at h
  obtain ⟨bs',h1,h2⟩:=Option.map_eq_some_iff.mp h
  subst h2
  rw[p.str,zks t h1];rfl
 | .sc .non::r,_,bs,.cons p t,h=>by cases h
 | .sc (.int _)::r,_,bs,.cons p t,h=>by cases h
 | .sc (.bl _)::r,_,bs,.cons p t,h=>by cases h
 | .sc (.byt _)::r,_,bs,.cons p t,h=>by cases h
 | .sc (.flt _)::r,_,bs,.cons p t,h=>by cases h
 | .sc (.ref _)::r,_,bs,.cons p t,h=>by cases h
 | .sc (.ty _)::r,_,bs,.cons p t,h=>by cases h
 | .tup _::r,_,bs,.cons p t,h=>by cases h
 | .lst _::r,_,bs,.cons p t,h=>by cases h
def zq7:D->List D->Option D:=λ d ds=>match d,ds with
 | .sc (.str z),[.lst es]=>(zia es).bind λ ys=>if (ys.map (·.length)).sum+ys.length * z.length<=16777216 then some (.sc (.str (Txt.join z ys))) else none
 | _,_=>none
theorem z0h:PM K "str" (zz2 K) zq7:=by
 intro Hf H x xs d ds z Q s hd hds hz q
 unfold zq7 at hz
 split at hz
 ·obtain ⟨ys,hy,hz⟩:=bind_some hz
  split at hz
  ·rename_i hk
   cases hz
   obtain ⟨x2,rfl,hx⟩:=zcd hds
   obtain ⟨a,zs,rfl,h1,h2⟩:=hx.lst s
   rw[zks h2 hy] at h1
   rw[hd.sc.2]
   exact⟨ys,h1,hk,q Hf H _ (.refl s) (zbh rfl)⟩
  ·cases hz
 ·cases hz
end
def zt5 (K:PySem.W.Frag) (J:It) (HJ Hf:Hp) (ds:List D):Prop:=∀ Hf' H',zar HJ H'->zar Hf Hf'->zar Hf' H'->∀ i:Nat,
 (∀ d,ds[i]?=some d->J.go i H'/\∀ x H'',J.yld i H' x H''->∃ Hf'',Ex Hf' H' Hf'' H''/\Dn K Hf'' d x)/\(ds.length<=i->J.stop i H')
def iV (K:PySem.W.Frag) (B:Bs) (f:Rho->Option (List D)):TI:=λ σ H R=>∃ Hf ρ ds,VI K B Hf ρ σ H/\f ρ=some ds/\∀ J Hf' H',Ex Hf H Hf' H'->zt5 K J Hf' Hf' ds->R J H'
def iB (K:PySem.W.Frag) (B:Bs) (f:Rho->Option (List D)):TI:=λ σ H R=>∃ Hf ρ ds,VI K B Hf ρ σ H/\f ρ=some ds/\∀ J Hf' H',Ex Hf H Hf' H'->zt5 K J H' Hf' ds->R J H'
section
variable {X:Cx}{B:Bs}{K:PySem.W.Frag}{tg l:Expr}{tl:TE}{fa:Rho->Option D}{fr:Rho->Option (List D)}{pos:Pos}
theorem zt5.weak {J:It}{HJ HJ' Hf:Hp}{ds:List D} (h:zt5 K J HJ Hf ds) (s:zar HJ HJ'):zt5 K J HJ' Hf ds:=λ Hf' H' s1 s2 s3=>h Hf' H' (s.trans s1) s2 s3
theorem ycy {e:Expr} (h:PI X tg e (iV X.K B fr)):PI X tg e (iB X.K B fr):=h.imp λ σ H R ⟨Hf,ρ,ds,I,hd,q⟩=>⟨Hf,ρ,ds,I,hd,λ J Hf' H' ex ok=>q J Hf' H' ex (ok.weak ex.fh)⟩
def z46 (K:PySem.W.Frag) (tl:TE):TI:=λ σ H R=>tl σ H λ x H1=>(∃ a xs,x=.ref a/\SqL K H1 a xs/\R (Itl K a) H1)\/(∃ a xs,x=.ref a/\SqT K H1 a xs/\R (Itt K a) H1)\/∃ z,x=.str z/\R (Its z) H1
theorem zxq (hl:PE X l tl):PI X tg l (z46 X.K tl):=by
 intro pins s σ H R I h
 refine thn (hl pins s σ H _ I h) λ v s1 ⟨x,H1,I1,r1,q1⟩=>?_
 rcases q1 with ⟨a,xs,rfl,hq,q⟩|⟨a,xs,rfl,hq,q⟩|⟨z,rfl,q⟩
 ·cases r1
  obtain ⟨its,rv,p,hz⟩:=I1.list hq
  refine wpAny_pyIter_list p.isList ?_
  refine⟨s1.heap.objs.size,[s1.heap.objs.size],_,_,H1,rfl,I1.kept (t':=s1.toks) λ b o e=>Heap.get?_push_of_some _ e,zpr a _,⟨_,Heap.get?_push_size _ rfl,rfl,rfl⟩,λ b hb=>?_,q⟩
  have e:b=s1.heap.objs.size:=by simpa using hb
  subst e
  exact I1.fpOk (Nat.le_refl _) I1.fresh
 ·cases r1
  obtain ⟨its,rv,p,hz⟩:=I1.tuple hq
  refine wpAny_pyIter_tuple (show s1.heap.IsTuple a its.toArray from p) ?_
  refine⟨s1.heap.objs.size,[s1.heap.objs.size],_,_,H1,rfl,I1.kept (t':=s1.toks) λ b o e=>Heap.get?_push_of_some _ e,zoe a _,⟨_,Heap.get?_push_size _ rfl,rfl,rfl⟩,λ b hb=>?_,q⟩
  have e:b=s1.heap.objs.size:=by simpa using hb
  subst e
  exact I1.fpOk (Nat.le_refl _) I1.fresh
 ·obtain ⟨t,rfl⟩:=r1
  have fp:∀ {h':Heap} {o:Obj},∀ b∈[s1.heap.objs.size],zt1 X pins H1 b:=λ b hb=>by
   have e:b=s1.heap.objs.size:=by simpa using hb
   subst e
   exact I1.fpOk (Nat.le_refl _) I1.fresh
  cases ha:z.cps.all (·<128) with
  | true =>
   exact wpAny_pyIter_ascii ha ⟨s1.heap.objs.size,[s1.heap.objs.size],_,_,H1,rfl,I1.kept (t':=s1.toks) λ b o e=>Heap.get?_push_of_some _ e,zqr z t _,⟨_,Heap.get?_push_size _ rfl,rfl,rfl⟩,fp (h':=s1.heap) (o:={ cls:=.none,data:=.fields #[] }),q⟩
  | false =>
   exact wpAny_pyIter_wide ha ⟨s1.heap.objs.size,[s1.heap.objs.size],_,_,H1,rfl,I1.kept (t':=s1.toks) λ b o e=>Heap.get?_push_of_some _ e,zqs z t _,⟨_,Heap.get?_push_size _ rfl,rfl,rfl⟩,fp (h':=s1.heap) (o:={ cls:=.none,data:=.fields #[] }),q⟩
def itD:D->Option (List D)
 | .lst ds=>some ds
 | .tup ds=>some ds
 | .sc (.str z)=>some (z.cps.toList.map λ c=>.str [c])
 | _=>none
def iE (fa:Rho->Option D):Rho->Option (List D):=λ ρ=>(fa ρ).bind itD
theorem zq8 {a:Addr}{xs:List V}{ds:List D}{HJ Hf:Hp} (h:SqL K HJ a xs) (p:Dns K Hf ds xs):zt5 K (Itl K a) HJ Hf ds:=λ Hf' H' s1 s2 s3 i=>by
 have hq:=s1.seq h
 refine⟨λ d hd=>?_,λ hi=>⟨xs,hq,by rw[<-p.length];exact hi⟩⟩
 obtain ⟨x,hx,hdx⟩:=p.zget hd
 refine⟨⟨xs,x,hq,hx⟩,λ y H'' ⟨e,hy⟩=>?_⟩
 subst e
 have:=hy xs hq
 rw[hx] at this
 cases this
 exact⟨Hf',.refl s3,hdx.same s2⟩
theorem zxr {a:Addr}{xs:List V}{ds:List D}{HJ Hf:Hp} (h:SqT K HJ a xs) (p:Dns K Hf ds xs):zt5 K (Itt K a) HJ Hf ds:=λ Hf' H' s1 s2 s3 i=>by
 have hq:=s1.seqT h
 refine⟨λ d hd=>?_,λ hi=>⟨xs,hq,by rw[<-p.length];exact hi⟩⟩
 obtain ⟨x,hx,hdx⟩:=p.zget hd
 refine⟨⟨xs,x,hq,hx⟩,λ y H'' ⟨e,hy⟩=>?_⟩
 subst e
 have:=hy xs hq
 rw[hx] at this
 cases this
 exact⟨Hf',.refl s3,hdx.same s2⟩
theorem zxs {z:Str}{HJ Hf:Hp}:zt5 K (Its z) HJ Hf (z.cps.toList.map λ c=>.str [c]):=λ Hf' H' s1 s2 s3 i=>by
 refine⟨λ d hd=>?_,λ hi=>?_⟩
 ·rw[List.getElem?_map] at hd
  obtain ⟨c,hc,rfl⟩:=Option.map_eq_some_iff.mp hd
  have hlt:i<z.cps.toList.length:=(List.getElem?_eq_some_iff.mp hc).1
  refine⟨by show i<z.length;simpa [Str.length] using hlt,λ x H'' ⟨e,c',hc',hx⟩=>?_⟩
  subst e
  rw[hc] at hc'
  cases hc'
  rw[hx]
  exact⟨Hf',.refl s3,zbh rfl⟩
 ·show z.length<=i
  simpa [Str.length] using hi
theorem zow (h:PE X l (eV X.K B fa)):PI X tg l (iV X.K B (iE fa)):=(zxq h).imp λ σ H R ⟨Hf,ρ,ds,I,hz,q⟩=>by
 obtain ⟨d,hd,hz⟩:=bind_some hz
 refine⟨Hf,ρ,d,I,hd,λ Hf1 H1 v ex1 dv=>?_⟩
 unfold itD at hz
 split at hz
 ·cases hz
  obtain ⟨a,xs,rfl,h1,h2⟩:=dv.lst
  exact .inl ⟨a,xs,rfl,ex1.fh.seq h1,q _ Hf1 H1 ex1 (zq8 h1 h2)⟩
 ·cases hz
  obtain ⟨a,xs,rfl,h1,h2⟩:=dv.tup
  exact .inr (.inl ⟨a,xs,rfl,ex1.fh.seqT h1,q _ Hf1 H1 ex1 (zxr h1 h2)⟩)
 ·cases hz
  rw[dv.str]
  exact .inr (.inr ⟨_,rfl,q _ Hf1 H1 ex1 zxs⟩)
 ·cases hz
theorem zl9 (h:PE X l (eB X.K B fa)):PI X tg l (iB X.K B (iE fa)):=(zxq h).imp λ σ H R ⟨Hf,ρ,ds,I,hz,q⟩=>by
 obtain ⟨d,hd,hz⟩:=bind_some hz
 refine⟨Hf,ρ,d,I,hd,λ Hf1 H1 v ex1 dv=>?_⟩
 unfold itD at hz
 split at hz
 ·cases hz
  obtain ⟨a,xs,rfl,h1,h2⟩:=dv.lst ex1.fh
  exact .inl ⟨a,xs,rfl,h1,q _ Hf1 H1 ex1 (zq8 h1 h2)⟩
 ·cases hz
  obtain ⟨a,xs,rfl,h1,h2⟩:=dv.tup
  exact .inr (.inl ⟨a,xs,rfl,ex1.fh.seqT h1,q _ Hf1 H1 ex1 (zxr (ex1.fh.seqT h1) h2)⟩)
 ·cases hz
  rw[dv.sc.2]
  exact .inr (.inr ⟨_,rfl,q _ Hf1 H1 ex1 zxs⟩)
 ·cases hz
def zj1 (lo:Int) (n:Nat):List D:=(List.range n).map λ k=>.int (lo+(k:Nat))
theorem zxt {lo:Int}{n:Nat}{HJ Hf:Hp}:zt5 K (Itr lo n) HJ Hf (zj1 lo n):=λ Hf' H' s1 s2 s3 i=>by
 refine⟨λ d hd=>?_,λ hi=>?_⟩
 ·unfold zj1 at hd
  rw[List.getElem?_map] at hd
  obtain ⟨c,hc,rfl⟩:=Option.map_eq_some_iff.mp hd
  have hlt:i<n:=by have:=(List.getElem?_eq_some_iff.mp hc).1;simpa using this
  rw[List.getElem?_range hlt] at hc
  cases hc
  refine⟨hlt,λ x H'' ⟨e,hx⟩=>?_⟩
  subst e
  rw[hx]
  exact⟨Hf',.refl s3,zbh rfl⟩
 ·show n<=i
  simpa [zj1] using hi
def zq9:List D->Option (List D)|[.sc (.int j)]=>if -(2 ^ 62)<=j/\j<2 ^ 62 then some (zj1 0 j.toNat) else none|_=>none
def zxu:List D->Option (List D)|[.sc (.int i),.sc (.int j)]=>if -(2 ^ 62)<=i/\i<2 ^ 62/\-(2 ^ 62)<=j/\j<2 ^ 62 then some (zj1 i (j - i).toNat) else none|_=>none
def iR (g:List D->Option (List D)) (fr:Rho->Option (List D)):Rho->Option (List D):=λ ρ=>(fr ρ).bind g
theorem zex {a:Expr}{p:Pos} (hg:Gl X "range") (hm:X.mg "range" = none) (ha:PA X [a] (aB X.K B fr)) (hs:starEach [a] X.env=[(false,eval a X.env)]:=by rfl):PI X tg (.Call (.Name "range" p) [a] [] pos) (iV X.K B (iR zq9 fr)):=(zql hg hm ha hs).imp λ σ H R ⟨Hf,ρ,ds,I,hz,q⟩=>by
 obtain ⟨es,he,hz⟩:=bind_some hz
 refine⟨Hf,ρ,es,I,he,λ Hf1 H1 vs ex1 dvs=>?_⟩
 unfold zq9 at hz
 split at hz
 ·split at hz
  ·rename_i hk
   cases hz
   obtain ⟨x,rfl,hx⟩:=zcd dvs
   rw[hx.sc.2]
   exact⟨hk.1,hk.2,q _ Hf1 H1 ex1 zxt⟩
  ·cases hz
 ·cases hz
theorem zu5 {a b:Expr}{p:Pos} (hg:Gl X "range") (hm:X.mg "range" = none) (ha:PA X [a,b] (aB X.K B fr)) (hs:starEach [a,b] X.env=[(false,eval a X.env),(false,eval b X.env)]:=by rfl) (hs2:starEach [b] X.env=[(false,eval b X.env)]:=by rfl):PI X tg (.Call (.Name "range" p) [a,b] [] pos) (iV X.K B (iR zxu fr)):=(zqm hg hm ha hs hs2).imp λ σ H R ⟨Hf,ρ,ds,I,hz,q⟩=>by
 obtain ⟨es,he,hz⟩:=bind_some hz
 refine⟨Hf,ρ,es,I,he,λ Hf1 H1 vs ex1 dvs=>?_⟩
 unfold zxu at hz
 split at hz
 ·split at hz
  ·rename_i hk
   cases hz
   obtain ⟨x,y,rfl,hx,hy⟩:=z45 dvs
   rw[hx.sc.2,hy.sc.2]
   exact⟨⟨hk.1,hk.2.1,hk.2.2.1,hk.2.2.2⟩,q _ Hf1 H1 ex1 zxt⟩
  ·cases hz
 ·cases hz
def gV (K:PySem.W.Frag) (B:Bs) (sl:List Nat) (g:D->Rho->Option Rho):TG:=λ v σ H Q=>∃ Hf ρ d ρ',VI K B Hf ρ σ H/\Dn K Hf d v/\g d ρ=some ρ'/\∀ σ',VI K B Hf ρ' σ' H->σ'.length=σ.length->(∀ j:Nat,j ∉ sl->σ'[j]?=σ[j]?)->Q σ' H
def gsV (K:PySem.W.Frag) (B:Bs) (sl:List Nat) (g:List D->Rho->Option Rho):TGs:=λ vs σ H Q=>∃ Hf ρ ds ρ',VI K B Hf ρ σ H/\Dns K Hf ds vs/\g ds ρ=some ρ'/\∀ σ',VI K B Hf ρ' σ' H->σ'.length=σ.length->(∀ j:Nat,j ∉ sl->σ'[j]?=σ[j]?)->Q σ' H
def gN (i:Nat):D->Rho->Option Rho:=λ d ρ=>some (ρ.set i (some (.sh d)))
theorem zcq {i:Nat}{x:Str} (hN:X.N.Nodup) (hi:X.N[i]?=some x) (hx:Loc X.env.scope x) (hf:X.fn x=true\/X.env.scope.names.lookup x=some .local:=by first|exact .inl rfl|exact .inr rfl|assumption):PG X (.Name x pos) (gV X.K B [i] (gN i)):=(zy5 hN hi hx hf).imp λ v σ H Q ⟨Hf,ρ,d,ρ',I,dv,hg,q⟩=>by
 cases hg
 refine q _ (I.set dv) (by simp) λ j hj=>?_
 rw[List.getElem?_set_ne]
 intro e
 exact hj (by simp[e])
def gT0:List D->Rho->Option Rho:=λ ds ρ=>match ds with|[]=>some ρ|_=>none
def gTC (g:D->Rho->Option Rho) (r:List D->Rho->Option Rho):List D->Rho->Option Rho:=λ ds ρ=>match ds with|d::ds=>(g d ρ).bind λ ρ1=>r ds ρ1|[]=>none
def gT (n:Nat) (r:List D->Rho->Option Rho):D->Rho->Option Rho:=λ d ρ=>match d with|.tup ds=>if ds.length=n then r ds ρ else none|_=>none
theorem PGs.imp {ts:List Expr}{t t':TGs} (h:PGs X ts t) (g:∀ v σ H Q,t' v σ H Q->t v σ H Q):PGs X ts t':=λ pins s σ H v u Q I r q=>h pins s σ H v u Q I r (g v σ H Q q)
theorem zi7:PGs X [] (gsV X.K B [] gT0):=zzy.imp λ vs σ H Q ⟨Hf,ρ,ds,ρ',I,dv,hg,q⟩=>by
 unfold gT0 at hg
 split at hg
 ·cases hg
  cases dv
  exact q σ I rfl λ _ _=>rfl
 ·cases hg
theorem zcb {e:Expr}{es:List Expr}{g:D->Rho->Option Rho}{r:List D->Rho->Option Rho}{sl sr:List Nat} (h1:PG X e (gV X.K B sl g)) (h2:PGs X es (gsV X.K B sr r)) (hs:(assignEach (e::es) X.env).map (·.2)=assign e X.env::(assignEach es X.env).map (·.2):=by rfl):PGs X (e::es) (gsV X.K B (sl++sr) (gTC g r)):=(zuq h1 h2 hs).imp λ vs σ H Q ⟨Hf,ρ,ds,ρ',I,dv,hg,q⟩=>by
 unfold gTC at hg
 split at hg
 ·obtain ⟨ρ1,hg1,hg2⟩:=bind_some hg
  cases dv with
  | cons d1 dr =>
   refine⟨Hf,ρ,_,ρ1,I,d1,hg1,λ σ1 I1 l1 k1=>⟨Hf,ρ1,_,ρ',I1,dr,hg2,λ σ2 I2 l2 k2=>q σ2 I2 (l2.trans l1) λ j hj=>?_⟩⟩
   rw[k2 j λ z=>hj (List.mem_append_right _ z),k1 j λ z=>hj (List.mem_append_left _ z)]
 ·cases hg
theorem zu6 {es:List Expr}{k:Nat}{r:List D->Rho->Option Rho}{sl:List Nat}{n:Nat} (hc:X.calm=true) (h:PGs X es (gsV X.K B sl r)) (hn:(assignEach es X.env).length=n:=by rfl) (hst:(assignEach es X.env).findIdx? (·.1)=none:=by rfl):PG X (.Tuple es k pos) (gV X.K B sl (gT n r)):=(z4g hc h hn hst).imp λ v σ H Q ⟨Hf,ρ,d,ρ',I,dv,hg,q⟩=>by
 unfold gT at hg
 split at hg
 ·split at hg
  ·rename_i hl
   obtain ⟨a,xs,rfl,h1,h2⟩:=dv.tup
   exact⟨xs,I.fh.seqT h1,by rw[<-h2.length];exact hl,Hf,ρ,_,ρ',I,h2,hg,q⟩
  ·cases hg
 ·cases hg
end
def zfm (n:Nat) (cap:List Nat) (ρ:Rho):Rho:=List.replicate n none++cap.map λ i=>(ρ[i]?).getD none
def zen (g:D->Rho->Option Rho) (tt:Rho->Option Bool) (te:Rho->Option D) (ρ:Rho):List D->Option (List D)
 | []=>some []
 | d::r=>(g d ρ).bind λ ρ1=>(tt ρ1).bind λ b=>if b=true then (te ρ1).bind λ y=>(zen g tt te ρ r).map (y::·) else zen g tt te ρ r
def zb3 (n:Nat) (cap:List Nat) (fi:Rho->Option (List D)) (g:D->Rho->Option Rho) (tt:Rho->Option Bool) (te:Rho->Option D):Rho->Option (List D) :=
 λ ρ=>(fi ρ).bind λ ds=>if ds.length<=sizeLine then zen g tt te (zfm n cap ρ) ds else none
def eW (K:PySem.W.Frag) (B:Bs) (f:Rho->Option (List D)):TE:=λ σ H Q=>∃ Hf ρ ds,VI K B Hf ρ σ H/\f ρ=some ds/\∀ Hf' H' p xs,Ex Hf H Hf' H'->H p=none->Hf' p=none->H' p=some (.lst xs)->Dns K Hf' ds xs->Q (.ref p) H'
def eL (f:Rho->Option (List D)):Rho->Option D:=λ ρ=>(f ρ).map .lst
theorem Ex.frz {Hf H Hf' H':Hp}{p:Addr}{o:HO} (e:Ex Hf H Hf' H') (hp:H p=none) (hp':H' p=some o) (hf:Hf' p=none) (ho:∀ x u,o≠.frz x u:=by intro x u z;cases z):Ex Hf H (upd Hf' p o) H':=by
 refine⟨e.ff.trans (zaq hf),e.hh,λ b u h=>?_,λ b h=>?_,λ b x u h=>?_⟩
 ·by_cases hb:b=p
  ·subst hb;rw[zac] at h;rw[hp'];exact h
  ·rw[zaf hb] at h;exact e.fh b u h
 ·by_cases hb:b=p
  ·subst hb;exact .inr (.inl hp)
  ·rw[zaf hb] at h;exact e.nw b h
 ·by_cases hb:b=p
  ·subst hb;rw[zac] at h;cases h;exact absurd rfl (ho x u)
  ·rw[zaf hb] at h;exact e.nf b x u h
section
variable {X:Cx}{B:Bs}{K:PySem.W.Frag}{tg e iter elt:Expr}{ifs:List Expr}{fa:Rho->Option D}{fr fi:Rho->Option (List D)}{pos:Pos}{g:D->Rho->Option Rho}{tt:Rho->Option Bool}{te:Rho->Option D}
theorem zra {t:TE}{σ:St}{H:Hp}{Q:VK} (ht:∀ R,eW K B fr σ H R->t σ H R) (h:eV K B (eL fr) σ H Q):t σ H Q:=by
 obtain ⟨Hf,ρ,z,I,hz,q⟩:=h
 obtain ⟨ds,hd,hz⟩:=Option.map_eq_some_iff.mp hz
 subst hz
 refine ht Q ⟨Hf,ρ,ds,I,hd,λ Hf' H' p xs ex hp hf hp' dx=>?_⟩
 have e2:=ex.frz hp hp' hf
 exact q _ H' _ e2 (zc1 (SqL.of zac) (dx.same (zaq hf)))
theorem zpi (h:PE X e (eW X.K B fr)):PE X e (eV X.K B (eL fr)):=h.imp λ σ H Q z=>zra (λ R z=>z) z
theorem zrb {cap:List Nat} (h:cap.Nodup) {i j x:Nat} (h1:cap[i]?=some x) (h2:cap[j]?=some x):i=j:=by
 obtain ⟨a,ha⟩:=List.getElem?_eq_some_iff.mp h1
 obtain ⟨b,hb⟩:=List.getElem?_eq_some_iff.mp h2
 rcases Nat.lt_trichotomy i j with z|z|z
 ·exact absurd (ha.trans hb.symm) (List.pairwise_iff_getElem.mp h i j a b z)
 ·exact z
 ·exact absurd (hb.trans ha.symm) (List.pairwise_iff_getElem.mp h j i b a z)
theorem znf {n:Nat}{cap:List Nat}{ρ:Rho}{i:Nat}{sl:Sl} (h:(zfm n cap ρ)[i]?=some (some sl)):∃ c,n<=i/\cap[i - n]?=some c/\ρ[c]?=some (some sl):=by
 unfold zfm at h
 by_cases hi:i<n
 ·rw[List.getElem?_append_left (by simpa using hi),List.getElem?_replicate] at h
  split at h <;> cases h
 ·rw[List.getElem?_append_right (by simpa using hi),List.length_replicate,List.getElem?_map] at h
  obtain ⟨c,hc,h⟩:=Option.map_eq_some_iff.mp h
  refine⟨c,by omega,hc,?_⟩
  cases q:ρ[c]? with
  | none=>rw[q] at h;cases h
  | some z=>rw[q] at h;exact congrArg some h
theorem zxv {n:Nat}{cap:List Nat}{σ:St}{i c:Nat} (hi:n<=i) (hc:cap[i - n]?=some c):(zd8 n cap σ)[i]?=some ((σ[c]?).getD none):=by
 unfold zd8
 rw[List.getElem?_append_right (by simpa using hi),List.length_replicate,List.getElem?_map,hc]
 rfl
theorem VI.comp {Hf H:Hp}{ρ:Rho}{σ:St}{n:Nat}{cap:List Nat} (I:VI K B Hf ρ σ H) (hc:cap.Nodup):VI K B Hf (zfm n cap ρ) (zd8 n cap σ) H:=by
 have back:∀ {i c:Nat} {v:V},n<=i->cap[i - n]?=some c->(zd8 n cap σ)[i]?=some (some v)->σ[c]?=some (some v):=λ {i c v} hi hc e=>by
  rw[zxv hi hc] at e
  cases q:σ[c]? with
  | none=>rw[q] at e;cases e
  | some z=>rw[q] at e;exact e
 refine⟨I.ex,by simp[zfm,zd8],λ i sl h=>?_,λ i sl p h o q=>?_,λ i j si sj p h1 h2 o1 o2 q1 q2=>?_⟩
 ·obtain ⟨c,hi,hc,h⟩:=znf h
  obtain ⟨v,h1,h2⟩:=I.ok c sl h
  exact⟨v,by rw[zxv hi hc,h1];rfl,h2⟩
 ·obtain ⟨c,hi,hc,h⟩:=znf h
  exact I.own c sl p h o (back hi hc q)
 ·obtain ⟨c,hi,hc1,h1⟩:=znf h1
  obtain ⟨d,hj,hc2,h2⟩:=znf h2
  have e:=I.dis c d si sj p h1 h2 o1 o2 (back hi hc1 q1) (back hj hc2 q2)
  subst e
  have:=zrb hc hc1 hc2
  omega
theorem zgx {ρ:Rho}:∀ {ds rs:List D},zen g tt te ρ ds=some rs->rs.length<=ds.length
 | [],rs,h=>by cases h;exact Nat.le_refl _
 | d::r,rs,h=>by
  unfold zen at h
  obtain ⟨ρ1,_,h⟩:=bind_some h
  obtain ⟨b,_,h⟩:=bind_some h
  split at h
  ·obtain ⟨y,_,h⟩:=bind_some h
   obtain ⟨rs',h1,h2⟩:=Option.map_eq_some_iff.mp h
   subst h2
   have:=zgx h1
   simp;omega
  ·have:=zgx h
   simp;omega
theorem zrc {J:It}{Hf H:Hp}{ρ:Rho}{σc:St}{ds rs:List D}{sl:List Nat}{Q:List V->Hp->Prop} (I:VI K B Hf ρ σc H) (hJ:zt5 K J H Hf ds) (hl:ds.length<=sizeLine) (hr:zen g tt te ρ ds=some rs) (hs:∀ j∈sl,σc[j]?=some none)
  (q:∀ Hf' H' ys,Ex Hf H Hf' H'->Dns K Hf' rs ys->Q ys H'):zzf J (gV K B sl g) (tV K B tt) (eV K B te) σc Q H:=by
 refine⟨λ i m ys H'=>m=ds.length - i/\i<=ds.length/\∃ Hf' done todo,Ex Hf H Hf' H'/\Dns K Hf' done ys/\done.length<=i/\zen g tt te ρ (ds.drop i)=some todo/\rs=done++todo,⟨ds.length,by simp,Nat.zero_le _,Hf,[],rs,.refl I.fh,.nil,Nat.le_refl _,hr,rfl⟩,?_⟩
 rintro i m ys H' ⟨rfl,hi,Hf',done,todo,ex,dn,hdl,hc,hrs⟩
 have ok:=hJ Hf' H' ex.hh ex.ff ex.fh i
 by_cases hlt:i<ds.length
 ·obtain ⟨go,yld⟩:=ok.1 ds[i] (by simp[hlt])
  have hyl:=dn.length
  refine .inr ⟨go,by omega,λ ys' H2=>∃ Hf2 done' todo',Ex Hf H Hf2 H2/\Dns K Hf2 done' ys'/\done'.length<=i+1/\zen g tt te ρ (ds.drop (i+1))=some todo'/\rs=done'++todo',λ ys' H2 ⟨Hf2,done',todo',h1,h2,h3,h4,h5⟩=>⟨ds.length - (i+1),by omega,rfl,hlt,Hf2,done',todo',h1,h2,h3,h4,h5⟩,λ x H2 y=>?_⟩
  obtain ⟨Hf2,ex2,dx⟩:=yld x H2 y
  rw[List.drop_eq_getElem_cons hlt] at hc
  unfold zen at hc
  obtain ⟨ρ1,hg,hc⟩:=bind_some hc
  obtain ⟨b,hb,hc⟩:=bind_some hc
  have e2:=ex.trans ex2
  refine⟨Hf2,ρ,_,ρ1,I.ext e2,dx,hg,λ σ' I' hle hk=>⟨⟨hle,λ j v hv=>?_⟩,Hf2,ρ1,b,I',hb,λ Hf3 H3 ex3=>?_⟩⟩
  ·rw[hk j λ z=>?_]
   ·exact hv
   ·have:=hs j z
    rw[hv] at this
    cases this
  ·have e3:=e2.trans ex3
   cases b with
   | true =>
    rw[if_pos rfl] at hc
    show if true=true then _ else _
    rw[if_pos rfl]
    obtain ⟨y,hy,hc⟩:=bind_some hc
    obtain ⟨t',h1,h2⟩:=Option.map_eq_some_iff.mp hc
    subst h2
    refine⟨Hf3,ρ1,y,I'.ext ex3,hy,λ Hf4 H4 v ex4 dv=>⟨Hf4,done++[y],t',e3.trans ex4,?_,by simp;omega,h1,by rw[hrs];simp⟩⟩
    exact (dn.same ((ex2.trans ex3).trans ex4).ff).zsnoc dv
   | false =>
    rw[if_neg Bool.false_ne_true] at hc
    show if false=true then _ else _
    rw[if_neg Bool.false_ne_true]
    exact⟨Hf3,done,todo,e3,dn.same (ex2.trans ex3).ff,by omega,hc,hrs⟩
 ·have e:i=ds.length:=by omega
  subst e
  refine .inl ⟨ok.2 (Nat.le_refl _),?_⟩
  rw[List.drop_length] at hc
  unfold zen at hc
  cases hc
  rw[List.append_nil] at hrs
  subst hrs
  exact q Hf' H' ys ex dn
theorem zib:zt2 X [] (tV X.K B λ _=>some true):=λ pins s σ H Q I h=>z30 pins s σ H Q I (by
 obtain ⟨Hf,ρ,b,I2,hb,q⟩:=h
 cases hb
 exact q Hf H (.refl I2.fh))
theorem zxw {c:Expr} (h:PT X c (tV X.K B tt)):zt2 X [c] (tV X.K B tt):=z31 h
variable {scope:Scope}{vars:List Str}{cap:List Nat}{sl:List Nat}
theorem zi8 {σ:St}{H:Hp}{Q:VK} (hn:cap.Nodup) (hsl:sl.all (·<vars.length)=true) (h:eW X.K B (zb3 vars.length cap fi g tt te) σ H Q) :
  zzg (iB X.K B fi) (gV X.K B sl g) (tV X.K B tt) (eV X.K B te) vars.length cap σ H Q:=by
 obtain ⟨Hf,ρ,rs,I,hz,q⟩:=h
 obtain ⟨ds,hd,hz⟩:=bind_some hz
 split at hz
 ·rename_i hl
  refine⟨Hf,ρ,ds,I,hd,λ J Hf1 H1 ex1 ok=>zrc ((I.ext ex1).comp hn) ok hl hz (λ j hj=>?_) λ Hf2 H2 ys ex2 dn=>⟨?_,λ p hp=>?_⟩⟩
  ·have hj:=List.all_eq_true.mp hsl j hj
   have hj:j<vars.length:=by simpa using hj
   unfold zd8
   rw[List.getElem?_append_left (by simpa using hj),List.getElem?_replicate,if_pos hj]
  ·rw[<-dn.length];exact Nat.le_trans (zgx hz) hl
  ·have e3:=(ex1.trans ex2).trans (Ex.made (o:=.lst ys) ex2.fh hp)
   exact q Hf2 _ p ys e3 ((ex1.trans ex2).hh.free hp) (ex2.fh.free hp) zac dn
 ·cases hz
theorem zkt (hc:X.calm=true) (S:CScope X scope) (hcap:∀ i∈cap,i<X.N.length/\scope.names.lookup (X.N.getD i "")≠some .local) (hn:cap.Nodup) (hsl:sl.all (·<vars.length)=true) (hi:PI X tg iter (iB X.K B fi))
  (hg:∀ s H C ex,PG (zau X scope C vars cap s H ex) tg (gV X.K B sl g)) (ht:∀ s H C ex,zt2 (zau X scope C vars cap s H ex) ifs (tV X.K B tt)) (he:∀ s H C ex,PE (zau X scope C vars cap s H ex) elt (eV X.K B te))
  (hs:∀ x,foldedSetIterable iter X.env x=pure x:=by intro _;rfl):PE X (.ListComp elt [⟨tg,iter,ifs,0⟩] scope pos) (eW X.K B (zb3 vars.length cap fi g tt te)) :=
 (zzh hc S hcap hi hg ht he hs).imp λ σ H Q h=>zi8 hn hsl h
variable {es:List Expr}
def lOk (f:Rho->Option (List D)):Rho->Option (List D):=λ ρ=>(f ρ).bind λ ds=>if ds.length<=sizeLine then some ds else none
theorem zic (h:PA X es (aV X.K B fr)):PE X (.List es pos) (eW X.K B (lOk fr)):=(zm3 h).imp λ σ H Q ⟨Hf,ρ,z,I,hz,q⟩=>by
 obtain ⟨ds,hd,hz⟩:=bind_some hz
 split at hz
 ·rename_i hl
  cases hz
  refine⟨Hf,ρ,_,I,hd,λ Hf1 H1 vs ex dvs=>⟨by rw[<-dvs.length];exact hl,λ p hp=>?_⟩⟩
  exact q Hf1 _ p vs (ex.trans (Ex.made (o:=.lst vs) ex.fh hp)) (ex.hh.free hp) (ex.fh.free hp) zac dvs
 ·cases hz
def zt6:List D->Option (List D)
 | [.lst ds]=>some ds
 | [.tup ds]=>some ds
 | _=>none
def wN (g:List D->Option (List D)) (fr:Rho->Option (List D)):Rho->Option (List D):=λ ρ=>(fr ρ).bind g
theorem z0i {x:Str}{p:Pos}{a:Expr} (hg:Gl X "list") (hm:X.mg "list" = none) (ha:PA X [a] (aB X.K B fr)) (he:starEach [a] X.env=[(false,eval a X.env)]:=by rfl):PE X (.Call (.Name "list" p) [a] [] pos) (eW X.K B (wN zt6 fr)) :=
 (zka ziw hg hm zek ha (by decide) (by decide) he rfl).imp λ σ H Q ⟨Hf,ρ,z,I,hz,q⟩=>by
  obtain ⟨ds,hd,hz⟩:=bind_some hz
  refine⟨Hf,ρ,ds,I,hd,λ Hf1 H1 vs ex dvs=>?_⟩
  unfold zt6 at hz
  split at hz
  ·cases hz
   obtain ⟨x,rfl,hx⟩:=zcd dvs
   obtain ⟨a,ys,rfl,h1,h2⟩:=hx.lst ex.fh
   exact⟨ys,.inl h1,λ p hp=>q Hf1 _ p ys (ex.trans (Ex.made (o:=.lst ys) ex.fh hp)) (ex.hh.free hp) (ex.fh.free hp) zac h2⟩
  ·cases hz
   obtain ⟨x,rfl,hx⟩:=zcd dvs
   obtain ⟨a,ys,rfl,h1,h2⟩:=hx.tup
   exact⟨ys,.inr (ex.fh.seqT h1),λ p hp=>q Hf1 _ p ys (ex.trans (Ex.made (o:=.lst ys) ex.fh hp)) (ex.hh.free hp) (ex.fh.free hp) zac h2⟩
  ·cases hz
end
inductive Out where
 | nx (ρ:Rho)|bk (ρ:Rho)|ct (ρ:Rho)|rt (d:D)|rw (ds:List D)|bad
def zeo (K:PySem.W.Frag) (B:Bs) (Hb:Hp) (o:Out) (D:Ends):Prop:=match o with
 | .nx ρ=>∀ Hf σ H,zar Hb Hf->VI K B Hf ρ σ H->D.nx σ H
 | .bk ρ=>∀ Hf σ H,zar Hb Hf->VI K B Hf ρ σ H->D.bk σ H
 | .ct ρ=>∀ Hf σ H,zar Hb Hf->VI K B Hf ρ σ H->D.ct σ H
 | .rt d=>∀ Hf H v,Ex B.f B.h Hf H->Dn K Hf d v->D.rt v H
 | .rw ds=>∀ Hf H p xs,Ex B.f B.h Hf H->B.h p=none->Hf p=none->H p=some (.lst xs)->Dns K Hf ds xs->D.rt (.ref p) H
 | .bad=>False
def sV (K:PySem.W.Frag) (B:Bs) (f:Rho->Out):TS:=λ D σ H=>∃ Hf ρ,VI K B Hf ρ σ H/\zeo K B Hf (f ρ) D
theorem zeo.mono {K:PySem.W.Frag}{B:Bs}{Hb Hc:Hp}{o:Out}{D:Ends} (h:zeo K B Hb o D) (s:zar Hb Hc):zeo K B Hc o D:=by
 cases o with
 | nx ρ=>exact λ Hf σ H z=>h Hf σ H (s.trans z)
 | bk ρ=>exact λ Hf σ H z=>h Hf σ H (s.trans z)
 | ct ρ=>exact λ Hf σ H z=>h Hf σ H (s.trans z)
 | rt d=>exact h
 | rw d=>exact h
 | bad=>exact h
def zbm:Rho->Out:=λ ρ=>.nx ρ
def zaw (f g:Rho->Out):Rho->Out:=λ ρ=>match f ρ with|.nx ρ'=>g ρ'|o=>o
def sIf (ft:Rho->Option Bool) (f g:Rho->Out):Rho->Out:=λ ρ=>match ft ρ with|some true=>f ρ|some false=>g ρ|none=>.bad
def zbn (i:Nat) (fe:Rho->Option D):Rho->Out:=λ ρ=>match fe ρ with|some d=>.nx (ρ.set i (some (.sh d)))|none=>.bad
def zi9 (i:Nat) (fe:Rho->Option (List D)):Rho->Out:=λ ρ=>match fe ρ with|some d=>.nx (ρ.set i (some (.ow d)))|none=>.bad
def zja (g:D->Rho->Option Rho) (fe:Rho->Option D):Rho->Out:=λ ρ=>match (fe ρ).bind λ d=>g d ρ with|some ρ'=>.nx ρ'|none=>.bad
def zfn (fe:Rho->Option D):Rho->Out:=λ ρ=>match fe ρ with|some _=>.nx ρ|none=>.bad
def zce (fe:Rho->Option D):Rho->Out:=λ ρ=>match fe ρ with|some d=>.rt d|none=>.bad
def zf5 (fe:Rho->Option (List D)):Rho->Out:=λ ρ=>match fe ρ with|some d=>.rw d|none=>.bad
def zma (i:Nat):Rho->Out:=λ ρ=>match ρ[i]? with|some (some (.ow ds))=>.rw ds|_=>.bad
def zmb:Rho->Out:=λ _=>.rt .non
def zfo (i:Nat) (fe:Rho->Option D):Rho->Out:=λ ρ=>match ρ[i]? with
 | some (some (.ow ds))=>match fe ρ with|some d=>if ds.length<sizeLine then .nx (ρ.set i (some (.ow (ds++[d])))) else .bad|none=>.bad
 | _=>.bad
def zmc (i:Nat) (f:Rho->Out):Rho->Out:=λ ρ=>match ρ[i]? with|some (some (.ow ds))=>f (ρ.set i (some (.sh (.lst ds))))|_=>f ρ
def zid (g:D->Rho->Option Rho) (f:Rho->Out):List D->Rho->Out
 | [],ρ=>.nx ρ
 | d::r,ρ=>match g d ρ with
  | none=>.bad
  | some ρ1=>match f ρ1 with
   | .nx ρ2=>zid g f r ρ2
   | .ct ρ2=>zid g f r ρ2
   | .bk ρ2=>.nx ρ2
   | o=>o
def zhr (fi:Rho->Option (List D)) (g:D->Rho->Option Rho) (f:Rho->Out):Rho->Out:=λ ρ=>match fi ρ with|some ds=>zid g f ds ρ|none=>.bad
def zey (ft:Rho->Option Bool) (f:Rho->Out):Nat->Rho->Out
 | 0,_=>.bad
 | n+1,ρ=>match ft ρ with
  | some true=>match f ρ with
   | .nx ρ2=>zey ft f n ρ2
   | .ct ρ2=>zey ft f n ρ2
   | .bk ρ2=>.nx ρ2
   | o=>o
  | some false=>.nx ρ
  | none=>.bad
def zrd (μ:Rho->Nat) (ft:Rho->Option Bool) (f:Rho->Out):Rho->Out:=λ ρ=>zey ft f (μ ρ) ρ
section
variable {X:Cx}{B:Bs}{K:PySem.W.Frag}{st:Stmt}{rest sts:List Stmt}{tg e iter a:Expr}{f g h:Rho->Out}{fe fa:Rho->Option D}{fr fi:Rho->Option (List D)}{ft:Rho->Option Bool}{pos:Pos}{gt:D->Rho->Option Rho}{sl:List Nat}
theorem PS.imp {t t':TS} (h:PS X st t) (k:∀ D σ H,t' D σ H->t D σ H):PS X st t':=λ pins s σ H D I q=>h pins s σ H D I (k D σ H q)
theorem PSs.imp {t t':TS} (h:PSs X sts t) (k:∀ D σ H,t' D σ H->t D σ H):PSs X sts t':=λ pins s σ H D I q=>h pins s σ H D I (k D σ H q)
theorem zcz:PSs X [] (sV X.K B zbm):=zlr.imp λ D σ H ⟨Hf,ρ,I,q⟩=>q Hf σ H (zar.refl _) I
theorem zah (h1:PS X st (sV X.K B f)) (h2:PSs X rest (sV X.K B g)):PSs X (st::rest) (sV X.K B (zaw f g)):=(zc9 h1 h2).imp λ D σ H ⟨Hf,ρ,I,q⟩=>by
 refine⟨Hf,ρ,I,?_⟩
 unfold zaw at q
 cases e:f ρ with
 | nx ρ'=>rw[e] at q;exact λ Hf' σ' H' z I'=>⟨Hf',ρ',I',zeo.mono q z⟩
 | bk ρ'=>rw[e] at q;exact q
 | ct ρ'=>rw[e] at q;exact q
 | rt d=>rw[e] at q;exact q
 | rw d=>rw[e] at q;exact q
 | bad=>rw[e] at q;exact q
theorem zap (h1:PS X st (sV X.K B f)):PSs X [st] (sV X.K B f):=zfg h1
theorem zcr {c:Expr}{as bs:List Stmt} (hc:PT X c (tV X.K B ft)) (ha:PSs X as (sV X.K B f)) (hb:PSs X bs (sV X.K B g)):PS X (.If c as bs pos) (sV X.K B (sIf ft f g)):=(zy4 hc ha hb).imp λ D σ H ⟨Hf,ρ,I,q⟩=>by
 unfold sIf at q
 cases e:ft ρ with
 | none=>rw[e] at q;exact q.elim
 | some b =>
  rw[e] at q
  refine⟨Hf,ρ,b,I,e,λ Hf1 H1 ex1=>?_⟩
  cases b with
  | true=>rw[if_pos rfl];exact⟨Hf1,ρ,I.ext ex1,zeo.mono q ex1.ff⟩
  | false=>rw[if_neg Bool.false_ne_true];exact⟨Hf1,ρ,I.ext ex1,zeo.mono q ex1.ff⟩
theorem zbc {i:Nat}{x:Str}{pos':Pos} (hN:X.N.Nodup) (hi:X.N[i]?=some x) (hx:Loc X.env.scope x) (he:PE X e (eV X.K B fe)) (hs:swapsWith e (some (.Name x pos')) pos.line X.env=pure false:=by rfl) (hf:X.fn x=true\/X.env.scope.names.lookup x=some .local:=by first|exact .inl rfl|exact .inr rfl|assumption):PS X (.Assign [.Name x pos'] e pos) (sV X.K B (zbn i fe)):=(zdr hN hi hx he hs hf).imp λ D σ H ⟨Hf,ρ,I,q⟩=>by
 unfold zbn at q
 cases e:fe ρ with
 | none=>rw[e] at q;exact q.elim
 | some d=>rw[e] at q;exact⟨Hf,ρ,d,I,e,λ Hf1 H1 v ex1 dv=>q Hf1 _ H1 ex1.ff ((I.ext ex1).set dv)⟩
theorem VI.setO {Hf H Hf' H':Hp}{ρ:Rho}{σ:St}{i:Nat}{ds:List D}{p:Addr}{xs:List V} (I:VI K B Hf ρ σ H) (ex:Ex Hf H Hf' H') (hp:H p=none) (hf:Hf' p=none) (hp':H' p=some (.lst xs)) (dn:Dns K Hf' ds xs):VI K B Hf' (ρ.set i (some (.ow ds))) (σ.set i (some (.ref p))) H':=by
 have g:∀ {j:Nat} {sl:Sl},(ρ.set i (some (.ow ds)))[j]?=some (some sl)->(j=i/\sl=.ow ds/\i<ρ.length)\/(j≠i/\ρ[j]?=some (some sl)):=λ {j sl} e=>by
  by_cases hj:i=j
  ·subst hj
   rw[List.getElem?_set_self'] at e
   cases q:ρ[i]? with
   | none=>rw[q] at e;cases e
   | some z =>
    rw[q] at e
    simp at e
    exact .inl ⟨rfl,e.symm,(List.getElem?_eq_some_iff.mp q).1⟩
  ·rw[List.getElem?_set_ne hj] at e
   exact .inr ⟨λ z=>hj z.symm,e⟩
 have I1:=I.ext ex
 have hBp:B.h p=none:=I.ex.hh.free hp
 have nown:∀ {j:Nat} {sl:Sl},ρ[j]?=some (some sl)->zd5 sl=true->σ[j]?≠some (some (.ref p)):=λ {j sl} e o z=>by
  obtain ⟨v,h1,h2⟩:=I.ok j sl e
  rw[z] at h1
  cases h1
  cases sl with
  | sh d=>cases o
  | ow d=>obtain ⟨p',xs',e1,_,e2,_⟩:=h2;cases e1;rw[hp] at e2;cases e2
  | dk ks d=>obtain ⟨p',xs',e1,_,e2,_⟩:=h2;cases e1;rw[hp] at e2;cases e2
  | dt ks d=>obtain ⟨p',xs',e1,_,e2,_⟩:=h2;cases e1;rw[hp] at e2;cases e2
 refine⟨I1.ex,by simp[I.len],λ j sl e=>?_,λ j sl p' e o q=>?_,λ j k sj sk p' e1 e2 o1 o2 q1 q2=>?_⟩
 ·rcases g e with ⟨rfl,rfl,hl⟩|⟨hj,e⟩
  ·exact⟨.ref p,by rw[List.getElem?_set_self (by rw[<-I.len];exact hl)],p,xs,rfl,hf,hp',dn⟩
  ·obtain ⟨u,h1,h2⟩:=I1.ok j sl e
   exact⟨u,by rw[List.getElem?_set_ne (λ z=>hj z.symm)];exact h1,h2⟩
 ·rcases g e with ⟨rfl,rfl,hl⟩|⟨hj,e⟩
  ·rw[List.getElem?_set_self (by rw[<-I.len];exact hl)] at q
   cases q
   exact hBp
  ·rw[List.getElem?_set_ne (λ z=>hj z.symm)] at q
   exact I.own j sl p' e o q
 ·rcases g e1 with ⟨rfl,rfl,hl⟩|⟨hj,e1⟩
  ·rcases g e2 with ⟨rfl,rfl,hl2⟩|⟨hk,e2⟩
   ·rfl
   ·rw[List.getElem?_set_self (by rw[<-I.len];exact hl)] at q1
    cases q1
    rw[List.getElem?_set_ne (λ z=>hk z.symm)] at q2
    exact absurd q2 (nown e2 o2)
  ·rw[List.getElem?_set_ne (λ z=>hj z.symm)] at q1
   rcases g e2 with ⟨hki,hsk,hl2⟩|⟨hk,e2⟩
   ·rw[hki,List.getElem?_set_self (by rw[<-I.len];exact hl2)] at q2
    cases q2
    exact absurd q1 (nown e1 o1)
   ·rw[List.getElem?_set_ne (λ z=>hk z.symm)] at q2
    exact I.dis j k sj sk p' e1 e2 o1 o2 q1 q2
theorem zre {i:Nat}{x:Str}{pos':Pos} (hN:X.N.Nodup) (hi:X.N[i]?=some x) (hx:Loc X.env.scope x) (he:PE X e (eW X.K B fr)) (hs:swapsWith e (some (.Name x pos')) pos.line X.env=pure false:=by rfl) (hf:X.fn x=true\/X.env.scope.names.lookup x=some .local:=by first|exact .inl rfl|exact .inr rfl|assumption):PS X (.Assign [.Name x pos'] e pos) (sV X.K B (zi9 i fr)):=(zdr hN hi hx he hs hf).imp λ D σ H ⟨Hf,ρ,I,q⟩=>by
 unfold zi9 at q
 cases e:fr ρ with
 | none=>rw[e] at q;exact q.elim
 | some d=>rw[e] at q;exact⟨Hf,ρ,d,I,e,λ Hf1 H1 p xs ex hp hf hp' dn=>q Hf1 _ H1 ex.ff (I.setO ex hp hf hp' dn)⟩
theorem z47 {elt:Expr}{ifs:List Expr}{scope:Scope}{vars:List Str}{cap:List Nat}{g:D->Rho->Option Rho}{tt:Rho->Option Bool}{te:Rho->Option D}{i:Nat}{x:Str}{pos' spos:Pos} (hN:X.N.Nodup) (hx0:X.N[i]?=some x) (hx:X.env.scope.names.lookup x=some .local)
  (hc:X.calm=true) (S:CScope X scope) (hcap:∀ i∈cap,i<X.N.length/\scope.names.lookup (X.N.getD i "")≠some .local) (hn:cap.Nodup) (hsl:sl.all (·<vars.length)=true) (hi:PI X tg iter (iB X.K B fi))
  (hg:∀ s H C ex,PG (zau X scope C vars cap s H ex) tg (gV X.K B sl g)) (ht:∀ s H C ex,zt2 (zau X scope C vars cap s H ex) ifs (tV X.K B tt)) (he:∀ s H C ex,PE (zau X scope C vars cap s H ex) elt (eV X.K B te))
  (hsw:swapsWith (.ListComp elt [⟨tg,iter,ifs,0⟩] scope pos) (some (.Name x pos')) spos.line X.env=pure true:=by rfl)
  (hs:∀ x,foldedSetIterable iter X.env x=pure x:=by intro _;rfl):PS X (.Assign [.Name x pos'] (.ListComp elt [⟨tg,iter,ifs,0⟩] scope pos) spos) (sV X.K B (zbn i (eL (zb3 vars.length cap fi g tt te)))) :=
 (zh4 hN hx0 hx hc S hcap hi hg ht he hsw hs).imp λ D σ H ⟨Hf,ρ,I,q⟩=>by
  unfold zbn at q
  cases e:eL (zb3 vars.length cap fi g tt te) ρ with
  | none=>rw[e] at q;exact q.elim
  | some d =>
   rw[e] at q
   exact zra (λ R z=>zi8 hn hsl z) (show eV X.K B _ σ H _ from ⟨Hf,ρ,d,I,e,λ Hf1 H1 v ex1 dv=>q Hf1 _ H1 ex1.ff ((I.ext ex1).set dv)⟩)
theorem z48 (he:PE X e (eV X.K B fe)) (hg:PG X tg (gV X.K B sl gt)) (hs:swapsWithSole [tg] e pos.line X.env=pure false:=by rfl) (hw:swappedStores [tg] e X.env=pure none:=by rfl) (h1:(assignEach [tg] X.env).map (·.2)=[assign tg X.env]:=by rfl):PS X (.Assign [tg] e pos) (sV X.K B (zja gt fe)):=(zpp he hg hs hw h1).imp λ D σ H ⟨Hf,ρ,I,q⟩=>by
 unfold zja at q
 cases e:fe ρ with
 | none=>rw[e] at q;exact q.elim
 | some d =>
  rw[e] at q
  cases e2:gt d ρ with
  | none=>simp only[Option.bind_some,e2] at q;exact q.elim
  | some ρ' =>
   simp only[Option.bind_some,e2] at q
   exact⟨Hf,ρ,d,I,e,λ Hf1 H1 v ex1 dv=>⟨Hf1,ρ,d,ρ',I.ext ex1,dv,e2,λ σ' I' _ _=>q Hf1 σ' H1 ex1.ff I'⟩⟩
theorem zxx (he:PE X e (eV X.K B fe)) (hs:swapsWith e none pos.line X.env=pure false:=by rfl):PS X (.Expr e pos) (sV X.K B (zfn fe)):=(zfh he hs).imp λ D σ H ⟨Hf,ρ,I,q⟩=>by
 unfold zfn at q
 cases e:fe ρ with
 | none=>rw[e] at q;exact q.elim
 | some d=>rw[e] at q;exact⟨Hf,ρ,d,I,e,λ Hf1 H1 v ex1 dv=>q Hf1 _ H1 ex1.ff (I.ext ex1)⟩
theorem zbp (he:PE X e (eV X.K B fe)):PS X (.Return (some e) pos) (sV X.K B (zce fe)):=(zhz he).imp λ D σ H ⟨Hf,ρ,I,q⟩=>by
 unfold zce at q
 cases e:fe ρ with
 | none=>rw[e] at q;exact q.elim
 | some d=>rw[e] at q;exact⟨Hf,ρ,d,I,e,λ Hf1 H1 v ex1 dv=>q Hf1 H1 v (I.ex.trans ex1) dv⟩
theorem z49 (he:PE X e (eW X.K B fr)):PS X (.Return (some e) pos) (sV X.K B (zf5 fr)):=(zhz he).imp λ D σ H ⟨Hf,ρ,I,q⟩=>by
 unfold zf5 at q
 cases e:fr ρ with
 | none=>rw[e] at q;exact q.elim
 | some d=>rw[e] at q;exact⟨Hf,ρ,d,I,e,λ Hf1 H1 p xs ex1 hp hf hp' dn=>q Hf1 H1 p xs (I.ex.trans ex1) (I.ex.hh.free hp) hf hp' dn⟩
theorem VI.mut {Hf H:Hp}{ρ:Rho}{σ:St}{i:Nat}{ds ds':List D}{p:Addr}{xs':List V} (I:VI K B Hf ρ σ H) (hi:ρ[i]?=some (some (.ow ds))) (hp:σ[i]?=some (some (.ref p))) (dn:Dns K Hf ds' xs'):VI K B Hf (ρ.set i (some (.ow ds'))) σ (upd H p (.lst xs')):=by
 obtain ⟨v,h1,p',xs,e1,hf,hH,_⟩:=I.ok i _ hi
 rw[hp] at h1
 cases h1
 cases e1
 have hB:=I.own i _ p hi rfl hp
 have hlt:i<ρ.length:=(List.getElem?_eq_some_iff.mp hi).1
 have g:∀ {j:Nat} {sl:Sl},(ρ.set i (some (.ow ds')))[j]?=some (some sl)->(j=i/\sl=.ow ds')\/(j≠i/\ρ[j]?=some (some sl)):=λ {j sl} e=>by
  by_cases hj:i=j
  ·subst hj
   rw[List.getElem?_set_self hlt] at e
   cases e
   exact .inl ⟨rfl,rfl⟩
  ·rw[List.getElem?_set_ne hj] at e
   exact .inr ⟨λ z=>hj z.symm,e⟩
 have fs:zar Hf (upd H p (.lst xs')):=λ b o h=>by
  rw[zaf (zam h hf)];exact I.fh b o h
 refine⟨⟨I.ex.ff,λ b o h=>?_,fs,I.ex.nw,I.ex.nf⟩,by simp[I.len],λ j sl e=>?_,λ j sl p' e o q=>?_,λ j k sj sk p' e1 e2 o1 o2 q1 q2=>?_⟩
 ·rw[zaf (zam h hB)];exact I.ex.hh b o h
 ·rcases g e with ⟨rfl,rfl⟩|⟨hj,e⟩
  ·exact⟨.ref p,hp,p,xs',rfl,hf,zac,dn⟩
  ·obtain ⟨u,h1,h2⟩:=I.ok j sl e
   refine⟨u,h1,?_⟩
   have ne:∀ {p':Addr},zd5 sl=true->u=.ref p'->p'≠p:=λ {p'} o z1 z2=>by
    subst z1 z2
    exact hj (I.dis j i sl _ _ e hi o rfl h1 hp)
   cases sl with
   | sh d=>exact h2
   | ow d=>obtain ⟨p',xs,e1,e2,e3,e4⟩:=h2;exact⟨p',xs,e1,e2,by rw[zaf (ne rfl e1)];exact e3,e4⟩
   | dk ks d=>obtain ⟨p',xs,e1,e2,e3,e4⟩:=h2;exact⟨p',xs,e1,e2,by rw[zaf (ne rfl e1)];exact e3,e4⟩
   | dt ks d=>obtain ⟨p',xs,e1,e2,e3,e4⟩:=h2;exact⟨p',xs,e1,e2,by rw[zaf (ne rfl e1)];exact e3,e4⟩
 ·rcases g e with ⟨rfl,rfl⟩|⟨hj,e⟩
  ·rw[hp] at q;cases q;exact hB
  ·exact I.own j sl p' e o q
 ·rcases g e1 with ⟨rfl,rfl⟩|⟨hj,e1⟩
  ·rcases g e2 with ⟨rfl,rfl⟩|⟨hk,e2⟩
   ·rfl
   ·exact I.dis _ k _ sk p' hi e2 rfl o2 q1 q2
  ·rcases g e2 with ⟨hki,hsk⟩|⟨hk,e2⟩
   ·rw[hki] at q2 ⊢
    exact I.dis j _ sj _ p' e1 hi o1 rfl q1 q2
   ·exact I.dis j k sj sk p' e1 e2 o1 o2 q1 q2
theorem zu7 {i:Nat}{x:Str}{p1 p2 p3:Pos} (hN:X.N[i]?=some x) (ha:PE X a (eV X.K B fa)) (hv:Vis X.env.scope x:=by first|exact Or.inl rfl|exact Or.inr (Or.inl rfl)|exact Or.inr (Or.inr rfl)) (hd:(x == ("__debug__" : Str))=false:=by decide) (hcd:(x == ("__classdict__" : Str))=false:=by decide)
  (hbase:attributeBase (.Name x p1) "append" X.env (eval (.Name x p1) X.env)=eval (.Name x p1) X.env:=by rfl)
  (hfew:((backTo p3 (starEach [a] X.env)).all (λ x=>!x.1) && (backToKw p3 (keywordEach [] X.env)).all (λ x=>x.1.isSome) && decide ([a].length+([]:List Keyword).length+(if ([]:List Keyword).isEmpty then 0 else 1)<30))=true:=by rfl)
  (hline:(p2.endLine == p3.line)=true:=by rfl) (hs:starEach [a] X.env=(false,eval a X.env)::starEach [] X.env:=by rfl) (hplain:(backTo p3 (starEach [] X.env)).any (·.1)=false:=by rfl) (hsw:swapsWith (.Call (.Attribute (.Name x p1) "append" p2) [a] [] p3) none pos.line X.env=pure false:=by rfl) :
  PS X (.Expr (.Call (.Attribute (.Name x p1) "append" p2) [a] [] p3) pos) (sV X.K B (zfo i fa)) :=
 (zfh (zui PySem.F.plainAttrs_list PySem.F.slot_list_append PySem.F.type_list_append zgo (zcc hN hv hd hcd) (zch ha zee hs) hbase hfew hline hs hplain) hsw).imp λ D σ H ⟨Hf,ρ,I,q⟩=>by
  unfold zfo at q
  split at q
  ·rename_i ds e
   obtain ⟨v,h1,p,xs,rfl,h2,h3,h4⟩:=I.ok i _ e
   refine⟨_,h1,.inl ⟨rfl,xs,SqL.of h3⟩,?_⟩
   split at q
   ·rename_i d hd
    split at q
    ·rename_i hk
     refine⟨Hf,ρ,d,I,hd,λ Hf1 H1 v ex1 dv=>?_⟩
     refine⟨xs,ex1.hh _ _ h3,by rw[<-h4.length];exact hk,q Hf1 σ _ ex1.ff ?_⟩
     exact (I.ext ex1).mut e h1 ((h4.same ex1.ff).zsnoc dv)
    ·exact q.elim
   ·exact q.elim
  ·exact q.elim
theorem VI.frz {Hf H:Hp}{ρ:Rho}{σ:St}{i:Nat}{ds:List D} (I:VI K B Hf ρ σ H) (hi:ρ[i]?=some (some (.ow ds))):∃ Hf',zar Hf Hf'/\VI K B Hf' (ρ.set i (some (.sh (.lst ds)))) σ H:=by
 obtain ⟨v,h1,p,xs,rfl,hf,hH,dn⟩:=I.ok i _ hi
 have hB:=I.own i _ p hi rfl h1
 have ex:=I.ex.frz hB hH hf
 refine⟨upd Hf p (.lst xs),zaq hf,ex,by simp[I.len],λ j sl e=>?_,λ j sl p' e o q=>?_,λ j k sj sk p' e1 e2 o1 o2 q1 q2=>?_⟩
 ·by_cases hj:i=j
  ·subst hj
   rw[List.getElem?_set_self (List.getElem?_eq_some_iff.mp hi).1] at e
   cases e
   exact⟨_,h1,zc1 (SqL.of zac) (dn.same (zaq hf))⟩
  ·rw[List.getElem?_set_ne hj] at e
   obtain ⟨u,g1,g2⟩:=I.ok j sl e
   refine⟨u,g1,?_⟩
   have ne:∀ {p':Addr},zd5 sl=true->u=.ref p'->p'≠p:=λ {p'} o z1 z2=>by
    subst z1 z2
    exact hj (I.dis i j _ sl _ hi e rfl o h1 g1)
   cases sl with
   | sh d=>exact Dn.same g2 (zaq hf)
   | ow d=>obtain ⟨p',xs,e1,e2,e3,e4⟩:=g2;exact⟨p',xs,e1,by rw[zaf (ne rfl e1)];exact e2,e3,Dns.same e4 (zaq hf)⟩
   | dk ks d=>obtain ⟨p',xs,e1,e2,e3,e4⟩:=g2;exact⟨p',xs,e1,by rw[zaf (ne rfl e1)];exact e2,e3,e4.1,Dns.same e4.2 (zaq hf)⟩
   | dt ks d=>obtain ⟨p',xs,e1,e2,e3,e4⟩:=g2;exact⟨p',xs,e1,by rw[zaf (ne rfl e1)];exact e2,e3,e4.1,Dns.same e4.2 (zaq hf)⟩
 ·by_cases hj:i=j
  ·subst hj
   rw[List.getElem?_set_self (List.getElem?_eq_some_iff.mp hi).1] at e
   cases e
   cases o
  ·rw[List.getElem?_set_ne hj] at e
   exact I.own j sl p' e o q
 ·by_cases hj:i=j
  ·subst hj
   rw[List.getElem?_set_self (List.getElem?_eq_some_iff.mp hi).1] at e1
   cases e1
   cases o1
  ·by_cases hk:i=k
   ·subst hk
    rw[List.getElem?_set_self (List.getElem?_eq_some_iff.mp hi).1] at e2
    cases e2
    cases o2
   ·rw[List.getElem?_set_ne hj] at e1
    rw[List.getElem?_set_ne hk] at e2
    exact I.dis j k sj sk p' e1 e2 o1 o2 q1 q2
theorem zrf (i:Nat) (h:PSs X sts (sV X.K B f)):PSs X sts (sV X.K B (zmc i f)):=h.imp λ D σ H ⟨Hf,ρ,I,q⟩=>by
 unfold zmc at q
 split at q
 ·rename_i ds e
  obtain ⟨Hf',z,I'⟩:=I.frz e
  exact⟨Hf',_,I',zeo.mono q z⟩
 ·exact⟨Hf,ρ,I,q⟩
theorem zjb {body:List Stmt} (hp:PassesOwn (model X.prog X.w) X.A X.env X.xe) (hc:X.calm=true) (hi:PI X tg iter (iV X.K B fi)) (hg:PG X tg (gV X.K B sl gt)) (hb:PSs X body (sV X.K B f)) (hs:∀ x,foldedSetIterable iter X.env x=pure x:=by intro _;rfl):PS X (.For tg iter body [] pos) (sV X.K B (zhr fi gt f)):=(zm2 hp hc hi hg hb hs).imp λ D σ H ⟨Hf,ρ,I,q⟩=>by
 unfold zhr at q
 cases e:fi ρ with
 | none=>rw[e] at q;exact q.elim
 | some ds =>
  rw[e] at q
  refine⟨Hf,ρ,ds,I,e,λ J Hf1 H1 ex1 ok=>?_⟩
  refine⟨λ i m σ H=>m=ds.length - i/\i<=ds.length/\∃ Hf2 ρ2,VI X.K B Hf2 ρ2 σ H/\zar Hf1 Hf2/\zeo X.K B Hf1 (zid gt f (ds.drop i) ρ2) D,⟨ds.length,by simp,Nat.zero_le _,Hf1,ρ,I.ext ex1,zar.refl _,zeo.mono q ex1.ff⟩,?_⟩
  rintro i m σ2 H2 ⟨rfl,hi,Hf2,ρ2,I2,s12,q⟩
  have okk:=ok Hf2 H2 (s12.trans I2.fh) s12 I2.fh i
  by_cases hlt:i<ds.length
  ·obtain ⟨go,yld⟩:=okk.1 ds[i] (by simp[hlt])
   refine .inr ⟨go,λ σ' H'=>∃ Hf3 ρ3,VI X.K B Hf3 ρ3 σ' H'/\zar Hf1 Hf3/\zeo X.K B Hf1 (zid gt f (ds.drop (i+1)) ρ3) D,λ σ' H' z=>⟨ds.length - (i+1),by omega,rfl,hlt,z⟩,λ x H3 y=>?_⟩
   obtain ⟨Hf3,ex3,dx⟩:=yld x H3 y
   rw[List.drop_eq_getElem_cons hlt] at q
   unfold zid at q
   cases hg:gt ds[i] ρ2 with
   | none=>rw[hg] at q;exact q.elim
   | some ρ1 =>
    simp only[hg] at q
    refine⟨Hf3,ρ2,_,ρ1,I2.ext ex3,dx,hg,λ σ' I' _ _=>⟨Hf3,ρ1,I',?_⟩⟩
    cases hf:f ρ1 with
    | nx ρ'=>simp only[hf] at q;exact λ Hf' σ'' H'' z I''=>⟨Hf',ρ',I'',(s12.trans ex3.ff).trans z,q⟩
    | ct ρ'=>simp only[hf] at q;exact λ Hf' σ'' H'' z I''=>⟨Hf',ρ',I'',(s12.trans ex3.ff).trans z,q⟩
    | bk ρ'=>simp only[hf] at q;exact λ Hf' σ'' H'' z I''=>q Hf' σ'' H'' ((s12.trans ex3.ff).trans z) I''
    | rt d=>simp only[hf] at q;exact q
    | rw d=>simp only[hf] at q;exact q
    | bad=>simp only[hf] at q;exact q.elim
  ·have e:i=ds.length:=by omega
   subst e
   rw[List.drop_length] at q
   exact .inl ⟨okk.2 (Nat.le_refl _),q Hf2 σ2 H2 s12 I2⟩
theorem z0j (μ:Rho->Nat) {c:Expr}{body:List Stmt} (hp:PassesOwn (model X.prog X.w) X.A X.env X.xe) (hc:PT X c (tV X.K B ft)) (hb:PSs X body (sV X.K B f)):PS X (.While c body [] pos) (sV X.K B (zrd μ ft f)):=(zue hp hc hb).imp λ D σ H ⟨Hf,ρ,I,q⟩=>by
 unfold zrd at q
 refine⟨λ m σ H=>∃ Hf2 ρ2,VI X.K B Hf2 ρ2 σ H/\zar Hf Hf2/\zeo X.K B Hf (zey ft f m ρ2) D,⟨_,Hf,ρ,I,zar.refl _,q⟩,?_⟩
 rintro m σ2 H2 ⟨Hf2,ρ2,I2,s2,q⟩
 cases m with
 | zero=>exact q.elim
 | succ m =>
  unfold zey at q
  cases e:ft ρ2 with
  | none=>rw[e] at q;exact q.elim
  | some b =>
   rw[e] at q
   refine⟨Hf2,ρ2,b,I2,e,λ Hf3 H3 ex3=>?_⟩
   cases b with
   | false=>rw[if_neg Bool.false_ne_true];exact q Hf3 σ2 H3 (s2.trans ex3.ff) (I2.ext ex3)
   | true =>
    rw[if_pos rfl]
    refine⟨λ σ' H'=>∃ Hf4 ρ4,VI X.K B Hf4 ρ4 σ' H'/\zar Hf Hf4/\zeo X.K B Hf (zey ft f m ρ4) D,λ σ' H' z=>⟨m,Nat.lt_succ_self _,z⟩,Hf3,ρ2,I2.ext ex3,?_⟩
    cases hf:f ρ2 with
    | nx ρ'=>simp only[hf] at q;exact λ Hf' σ'' H'' z I''=>⟨Hf',ρ',I'',(s2.trans ex3.ff).trans z,q⟩
    | ct ρ'=>simp only[hf] at q;exact λ Hf' σ'' H'' z I''=>⟨Hf',ρ',I'',(s2.trans ex3.ff).trans z,q⟩
    | bk ρ'=>simp only[hf] at q;exact λ Hf' σ'' H'' z I''=>q Hf' σ'' H'' ((s2.trans ex3.ff).trans z) I''
    | rt d=>simp only[hf] at q;exact q
    | rw d=>simp only[hf] at q;exact q
    | bad=>simp only[hf] at q;exact q.elim
end
def zez (n:Nat) (ds:List D):Rho:=ds.map (λ d=>some (.sh d))++List.replicate (n - ds.length) none
def fnR (np n:Nat) (f:Rho->Out) (ds:List D):Option D:=if ds.length=np then (match f (zez n ds) with|.rt d=>some d|.rw es=>some (.lst es)|.nx _=>some .non|_=>none) else none
def fnW (np n:Nat) (f:Rho->Out) (ds:List D):Option (List D):=if ds.length=np then (match f (zez n ds) with|.rw es=>some es|_=>none) else none
def spV (K:PySem.W.Frag) (np:Nat) (F:List D->Option D):Sp:=λ vs H Q _=>∃ Hf ds d,zar Hf H/\Dns K Hf ds vs/\ds.length=np/\F ds=some d/\∀ Hf' H' v,Ex Hf H Hf' H'->Dn K Hf' d v->Q v H'
def spW (K:PySem.W.Frag) (np:Nat) (F:List D->Option (List D)):Sp:=λ vs H Q _=>∃ Hf ds rs,zar Hf H/\Dns K Hf ds vs/\ds.length=np/\F ds=some rs/\∀ Hf' H' p xs,Ex Hf H Hf' H'->H p=none->Hf' p=none->H' p=some (.lst xs)->Dns K Hf' rs xs->Q (.ref p) H'
theorem VI.init {K:PySem.W.Frag}{Hf H:Hp}{N:List Str}{vs:List V}{ds:List D} (s:zar Hf H) (h:Dns K Hf ds vs):VI K ⟨Hf,H⟩ Hf (zez N.length ds) (zej N vs) H:=by
 have hl:=h.length
 have key:∀ {i:Nat} {sl:Sl},(zez N.length ds)[i]?=some (some sl)->∃ d,ds[i]?=some d/\sl=.sh d:=λ {i sl} e=>by
  unfold zez at e
  by_cases hi:i<ds.length
  ·rw[List.getElem?_append_left (by simpa using hi),List.getElem?_map] at e
   obtain ⟨d,h1,h2⟩:=Option.map_eq_some_iff.mp e
   exact⟨d,h1,(Option.some.inj h2).symm⟩
  ·rw[List.getElem?_append_right (by simpa using hi),List.getElem?_replicate] at e
   split at e <;> cases e
 refine⟨.refl s,by simp[zez,zej,hl],λ i sl e=>?_,λ i sl p e o=>?_,λ i j si sj p e1 e2 o1=>?_⟩
 ·obtain ⟨d,h1,rfl⟩:=key e
  obtain ⟨v,h2,h3⟩:=h.zget h1
  refine⟨v,?_,h3⟩
  have hi:i<vs.length:=(List.getElem?_eq_some_iff.mp h2).1
  unfold zej
  rw[List.getElem?_append_left (by simpa using hi),List.getElem?_map,h2]
  rfl
 ·obtain ⟨d,h1,rfl⟩:=key e
  cases o
 ·obtain ⟨d,h1,rfl⟩:=key e1
  cases o1
section
variable {P:Program}{w:World}{K:PySem.W.Frag}{mg:Str->Option Value}{base:Heap}
theorem okV {x qual:Str}{st:Stmt}{f:Addr}{fd:FuncData}{N ps:List Str}{k:Nat}{fs:Rho->Out} (F:Fun K x qual st f fd) (S:FnScope N ps (zad st))
  (hbody:∀ (cdv:Value) (A:Around) (outer:List Env) (s:Shared) (H:Hp) (E:XK) (B:Bs),Room k (A.deeper (envOfC qual (zad st) s.heap.objs.size f cdv))->PSs (zp1 CX0 P w K mg base N qual (zad st) f cdv A outer s H E).nox (zb9 st) (sV K B fs)):FnOk P w K mg base CX0 (k+1) f fd ps (spV K ps.length (fnR ps.length N.length fs)):=by
 refine F.ok S (λ vs H Q E h=>?_) (λ cdv A outer s H vs Q E hr h=>?_)
 ·obtain ⟨Hf,ds,d,_,h1,h2,_⟩:=h
  rw[<-h2,h1.length]
 ·obtain ⟨Hf,ds,d,hs,h1,h2,h3,q⟩:=h
  refine⟨_,hbody cdv A outer s H E ⟨Hf,H⟩ hr,Hf,zez N.length ds,VI.init hs h1,?_⟩
  unfold fnR at h3
  rw[if_pos h2] at h3
  cases e:fs (zez N.length ds) with
  | rt d'=>rw[e] at h3;cases h3;exact λ Hf' H' v ex dv=>q Hf' H' v ex dv
  | rw es =>
   rw[e] at h3
   cases h3
   exact λ Hf' H' p xs ex hp hf hp' dn=>q _ H' _ (ex.frz hp hp' hf) (zc1 (SqL.of zac) (dn.same (zaq hf)))
  | nx ρ'=>rw[e] at h3;cases h3;exact λ Hf' σ' H' _ I'=>q Hf' H' .non I'.ex (zbh rfl)
  | bk ρ'=>rw[e] at h3;cases h3
  | ct ρ'=>rw[e] at h3;cases h3
  | bad=>rw[e] at h3;cases h3
theorem okW {x qual:Str}{st:Stmt}{f:Addr}{fd:FuncData}{N ps:List Str}{k:Nat}{fs:Rho->Out} (F:Fun K x qual st f fd) (S:FnScope N ps (zad st))
  (hbody:∀ (cdv:Value) (A:Around) (outer:List Env) (s:Shared) (H:Hp) (E:XK) (B:Bs),Room k (A.deeper (envOfC qual (zad st) s.heap.objs.size f cdv))->PSs (zp1 CX0 P w K mg base N qual (zad st) f cdv A outer s H E).nox (zb9 st) (sV K B fs)):FnOk P w K mg base CX0 (k+1) f fd ps (spW K ps.length (fnW ps.length N.length fs)):=by
 refine F.ok S (λ vs H Q E h=>?_) (λ cdv A outer s H vs Q E hr h=>?_)
 ·obtain ⟨Hf,ds,d,_,h1,h2,_⟩:=h
  rw[<-h2,h1.length]
 ·obtain ⟨Hf,ds,d,hs,h1,h2,h3,q⟩:=h
  refine⟨_,hbody cdv A outer s H E ⟨Hf,H⟩ hr,Hf,zez N.length ds,VI.init hs h1,?_⟩
  unfold fnW at h3
  rw[if_pos h2] at h3
  cases e:fs (zez N.length ds) with
  | rw es=>rw[e] at h3;cases h3;exact λ Hf' H' p xs ex hp hf hp' dn=>q Hf' H' p xs ex hp hf hp' dn
  | rt d'=>rw[e] at h3;cases h3
  | nx ρ'=>rw[e] at h3;cases h3
  | bk ρ'=>rw[e] at h3;cases h3
  | ct ρ'=>rw[e] at h3;cases h3
  | bad=>rw[e] at h3;cases h3
end
section
variable {X:Cx}{B:Bs}{k:Nat}{f:Addr}{fd:FuncData}{ps:List Str}{x:Str}{p pos:Pos}{e:Expr}{es:List Expr}{fr:Rho->Option (List D)}{np:Nat}
def zat (np:Nat) (F:List D->Option D) (fr:Rho->Option (List D)):Rho->Option D:=λ ρ=>(fr ρ).bind λ ds=>if ds.length=np then F ds else none
def zea (np:Nat) (F:List D->Option (List D)) (fr:Rho->Option (List D)):Rho->Option (List D):=λ ρ=>(fr ρ).bind λ ds=>if ds.length=np then F ds else none
theorem za3 {F:List D->Option D} (G:FnOk X.prog X.w X.K X.mg X.base CX0 k f fd ps (spV X.K np F)) (hr:Room k X.A) (hg:Gl X x) (hm:X.mg x=some (.ref f)) (hk:PySem.W.keepIn X.K (.ref f)=true) (hb:zdo X.K fd ps [])
  (ha:PA X (e::es) (aV X.K B fr)) (hdb:(x == ("__debug__" : Str))=false:=by decide) (he:starEach (e::es) X.env=(false,eval e X.env)::starEach es X.env:=by rfl) (hpl:(backTo pos (starEach es X.env)).any (·.1)=false:=by rfl):PE X (.Call (.Name x p) (e::es) [] pos) (eV X.K B (zat np F fr)) :=
 (zgi G hr hg hm hk hb .nil zqb ha hdb he hpl).imp λ σ H Q ⟨Hf,ρ,z,I,hz,q⟩=>by
  obtain ⟨ds,hd,hz⟩:=bind_some hz
  split at hz
  ·rename_i hn
   refine⟨Hf,ρ,ds,I,hd,λ Hf1 H1 vs ex1 dvs=>?_⟩
   show spV X.K np F (vs++[]) H1 Q E0
   rw[List.append_nil]
   exact⟨Hf1,ds,z,ex1.fh,dvs,hn,hz,λ Hf' H' v ex dv=>q Hf' H' v (ex1.trans ex) dv⟩
  ·cases hz
theorem zfp {F:List D->Option (List D)} (G:FnOk X.prog X.w X.K X.mg X.base CX0 k f fd ps (spW X.K np F)) (hr:Room k X.A) (hg:Gl X x) (hm:X.mg x=some (.ref f)) (hk:PySem.W.keepIn X.K (.ref f)=true) (hb:zdo X.K fd ps [])
  (ha:PA X (e::es) (aV X.K B fr)) (hdb:(x == ("__debug__" : Str))=false:=by decide) (he:starEach (e::es) X.env=(false,eval e X.env)::starEach es X.env:=by rfl) (hpl:(backTo pos (starEach es X.env)).any (·.1)=false:=by rfl):PE X (.Call (.Name x p) (e::es) [] pos) (eW X.K B (zea np F fr)) :=
 (zgi G hr hg hm hk hb .nil zqb ha hdb he hpl).imp λ σ H Q ⟨Hf,ρ,z,I,hz,q⟩=>by
  obtain ⟨ds,hd,hz⟩:=bind_some hz
  split at hz
  ·rename_i hn
   refine⟨Hf,ρ,ds,I,hd,λ Hf1 H1 vs ex1 dvs=>?_⟩
   show spW X.K np F (vs++[]) H1 Q E0
   rw[List.append_nil]
   exact⟨Hf1,ds,z,ex1.fh,dvs,hn,hz,λ Hf' H' p xs ex hp hf hp' dn=>q Hf' H' p xs (ex1.trans ex) (ex1.hh.free hp) hf hp' dn⟩
  ·cases hz
def zc2 (np:Nat) (F:List D->Option D) (fr:Rho->Option (List D)):Rho->Option D:=λ ρ=>(fr ρ).bind λ ds=>if ds.length=np then (F ds).bind λ d=>match d with|.sc v=>some (.sc v)|_=>none else none
theorem zmd {F:List D->Option D} (G:FnOk X.prog X.w X.K X.mg X.base CX0 k f fd ps (spV X.K np F)) (hr:Room k X.A) (hg:Gl X x) (hm:X.mg x=some (.ref f)) (hk:PySem.W.keepIn X.K (.ref f)=true) (hb:zdo X.K fd ps [])
  (ha:PA X (e::es) (aB X.K B fr)) (hdb:(x == ("__debug__" : Str))=false:=by decide) (he:starEach (e::es) X.env=(false,eval e X.env)::starEach es X.env:=by rfl) (hpl:(backTo pos (starEach es X.env)).any (·.1)=false:=by rfl):PE X (.Call (.Name x p) (e::es) [] pos) (eV X.K B (zc2 np F fr)) :=
 (zgi G hr hg hm hk hb .nil zqb ha hdb he hpl).imp λ σ H Q ⟨Hf,ρ,z,I,hz,q⟩=>by
  obtain ⟨ds,hd,hz⟩:=bind_some hz
  split at hz
  ·rename_i hn
   obtain ⟨d,hF,hz⟩:=bind_some hz
   split at hz
   ·cases hz
    refine⟨Hf,ρ,ds,I,hd,λ Hf1 H1 vs ex1 dvs=>?_⟩
    show spV X.K np F (vs++[]) H1 Q E0
    rw[List.append_nil]
    refine⟨H1,ds,_,zar.refl _,dvs.zmap λ _ _ z=>z.whole ex1.fh,hn,hF,λ Hf' H' v ex dv=>?_⟩
    have ex2:Ex Hf1 H1 Hf1 H':=⟨zar.refl _,ex.hh,ex1.fh.trans ex.hh,λ _ h=>.inl h,λ _ _ _ h=>h⟩
    obtain ⟨fl,rfl⟩:=dv.sc
    exact q Hf1 H' _ (ex1.trans ex2) (zbh fl)
   ·cases hz
  ·cases hz
end
def LF:List Nat:=[97,98,99,100,101,102,103,104,105,106,107,108,109,110,111,112,113,114,115,116,117,118,119,120,121,122,65,66,67,68,69,70,71,72,73,74,75,76,77,78,79,80,81,82,83,84,85,86,87,88,89,90,48,49,50,51,52,53,54,55,56,57]
def SG:List Nat:=[97,98,99,100,101,102,103,104,105,106,107,108,109,110,111,112,113,114,115,116,117,118,119,120,121,122,65,66,67,68,69,70,71,72,73,74,75,76,77,78,79,80,81,82,83,84,85,86,87,88,89,90,48,49,50,51,52,53,54,55,56,57,45]
theorem zfc {P:Program}{w:World}{K:PySem.W.Frag}{mg:Str->Option Value}{base:Heap}{x qual:Str}{st:Stmt}{f:Addr}{fd:FuncData}{N ps:List Str}{k np nN:Nat}{fs:Rho->Out}{F':List D->Option D} (hF:F'=fnR np nN fs) (hp:ps.length=np) (hN:N.length=nN) (F:Fun K x qual st f fd) (S:FnScope N ps (zad st))
  (hbody:∀ (cdv:Value) (A:Around) (outer:List Env) (s:Shared) (H:Hp) (E:XK) (B:Bs),Room k (A.deeper (envOfC qual (zad st) s.heap.objs.size f cdv))->PSs (zp1 CX0 P w K mg base N qual (zad st) f cdv A outer s H E).nox (zb9 st) (sV K B fs)):FnOk P w K mg base CX0 (k+1) f fd ps (spV K np F'):=by
 subst hF hp hN
 exact okV F S hbody
theorem z90 {P:Program}{w:World}{K:PySem.W.Frag}{mg:Str->Option Value}{base:Heap}{x qual:Str}{st:Stmt}{f:Addr}{fd:FuncData}{N ps:List Str}{k np nN:Nat}{fs:Rho->Out}{F':List D->Option (List D)} (hF:F'=fnW np nN fs) (hp:ps.length=np) (hN:N.length=nN) (F:Fun K x qual st f fd) (S:FnScope N ps (zad st))
  (hbody:∀ (cdv:Value) (A:Around) (outer:List Env) (s:Shared) (H:Hp) (E:XK) (B:Bs),Room k (A.deeper (envOfC qual (zad st) s.heap.objs.size f cdv))->PSs (zp1 CX0 P w K mg base N qual (zad st) f cdv A outer s H E).nox (zb9 st) (sV K B fs)):FnOk P w K mg base CX0 (k+1) f fd ps (spW K np F'):=by
 subst hF hp hN
 exact okW F S hbody
section
variable {X:Cx}{B:Bs}{K:PySem.W.Frag}{a b c:Expr}{fa fb fc:Rho->Option D}{pos:Pos}
theorem z0k {x:Str}{l:List Nat}{n:Str}{tk:Tok}{pos:Pos} (h:x=S l) (hg:Gl X n) (hm:X.mg n=some (.str x tk)) (hd:(n == ("__debug__" : Str))=false:=by decide):PE X (.Name n pos) (eV X.K B (eC (.str l))):=by
 subst h
 exact z73 rfl (zlq (v:=.str (S l)) hg hm ⟨tk,rfl⟩ hd)
theorem zjc {H:Hp}:∀ ns:List Int,Dns K H (ns.map D.int) (ns.map V.int)
 | []=>.nil
 | n::r=>.cons (zbh rfl) (zjc r)
end
theorem z0l {f g:Rho->Out}{ρ ρ':Rho} (h:f ρ=.nx ρ'):zaw f g ρ=g ρ':=by unfold zaw;rw[h]
theorem st {f g:Rho->Out}{ρ ρ':Rho}{o:Out} (h:f ρ=.nx ρ') (k:g ρ'=o):zaw f g ρ=o:=(z0l h).trans k
theorem zjd {f g:Rho->Out}{ρ:Rho}{d:D} (h:f ρ=.rt d):zaw f g ρ=.rt d:=by unfold zaw;rw[h]
theorem zme {ft:Rho->Option Bool}{f g:Rho->Out}{ρ:Rho} (h:ft ρ=some true):sIf ft f g ρ=f ρ:=by unfold sIf;rw[h]
theorem zc3 {ft:Rho->Option Bool}{f g:Rho->Out}{ρ:Rho} (h:ft ρ=some false):sIf ft f g ρ=g ρ:=by unfold sIf;rw[h]
theorem zai {i:Nat}{fe:Rho->Option D}{ρ:Rho}{d:D} (h:fe ρ=some d):zbn i fe ρ=.nx (ρ.set i (some (.sh d))):=by unfold zbn;rw[h]
theorem zrg {i:Nat}{fe:Rho->Option (List D)}{ρ:Rho}{d:List D} (h:fe ρ=some d):zi9 i fe ρ=.nx (ρ.set i (some (.ow d))):=by unfold zi9;rw[h]
theorem zbd {fe:Rho->Option D}{ρ:Rho}{d:D} (h:fe ρ=some d):zce fe ρ=.rt d:=by unfold zce;rw[h]
theorem zu8 {fe:Rho->Option (List D)}{ρ:Rho}{d:List D} (h:fe ρ=some d):zf5 fe ρ=.rw d:=by unfold zf5;rw[h]
theorem zdf {fi:Rho->Option (List D)}{g:D->Rho->Option Rho}{f:Rho->Out}{ρ:Rho}{ds:List D}{o:Out} (h:fi ρ=some ds) (h2:zid g f ds ρ=o):zhr fi g f ρ=o:=by unfold zhr;rw[h];exact h2
theorem za9 {np n:Nat}{f:Rho->Out}{ds:List D}{d:D} (hl:ds.length=np) (h:f (zez n ds)=.rt d):fnR np n f ds=some d:=by unfold fnR;rw[if_pos hl,h]
theorem zrh {np n:Nat}{f:Rho->Out}{ds:List D}{d:List D} (hl:ds.length=np) (h:f (zez n ds)=.rw d):fnW np n f ds=some d:=by unfold fnW;rw[if_pos hl,h]
theorem zae {g:D->D->Option D}{fa fb:Rho->Option D}{ρ:Rho}{d e z:D} (ha:fa ρ=some d) (hb:fb ρ=some e) (hg:g d e=some z):e2 g fa fb ρ=some z:=by unfold e2;rw[ha,hb];exact hg
theorem zas {g:List D->Option D}{fr:Rho->Option (List D)}{ρ:Rho}{ds:List D}{z:D} (ha:fr ρ=some ds) (hg:g ds=some z):eN g fr ρ=some z:=by unfold eN;rw[ha];exact hg
theorem zan {np:Nat}{F:List D->Option D}{fr:Rho->Option (List D)}{ρ:Rho}{ds:List D}{z:D} (ha:fr ρ=some ds) (hn:ds.length=np) (hF:F ds=some z):zat np F fr ρ=some z:=by unfold zat;rw[ha];show (if ds.length=np then F ds else none)=_;rw[if_pos hn];exact hF
theorem zox {g:List D->Option (List D)}{fr:Rho->Option (List D)}{ρ:Rho}{ds xs:List D} (ha:fr ρ=some ds) (hg:g ds=some xs):iR g fr ρ=some xs:=by unfold iR;rw[ha];exact hg
theorem zri {fa:Rho->Option D}{ρ:Rho}{d:D}{xs:List D} (ha:fa ρ=some d) (hg:itD d=some xs):iE fa ρ=some xs:=by unfold iE;rw[ha];exact hg
theorem zfq {f:Rho->Option (List D)}{ρ:Rho}{xs:List D} (ha:f ρ=some xs):eL f ρ=some (.lst xs):=by unfold eL;rw[ha];rfl
theorem zdg {n:Nat}{cap:List Nat}{fi:Rho->Option (List D)}{g:D->Rho->Option Rho}{tt:Rho->Option Bool}{te:Rho->Option D}{ρ:Rho}{ds rs:List D} (hi:fi ρ=some ds) (hl:ds.length<=sizeLine) (hc:zen g tt te (zfm n cap ρ) ds=some rs):zb3 n cap fi g tt te ρ=some rs:=by unfold zb3;rw[hi];show (if ds.length<=sizeLine then _ else _)=_;rw[if_pos hl];exact hc
theorem z91 {T:String}{g:D->List D->Option D}{fo:Rho->Option D}{fr:Rho->Option (List D)}{ρ:Rho}{d z:D}{ds:List D} (h1:fo ρ=some d) (h2:fr ρ=some ds) (h3:tyN d=T) (h4:g d ds=some z):eM T g fo fr ρ=some z:=by unfold eM;rw[h1,h2];show (if tyN d=T then g d ds else none)=_;rw[if_pos h3];exact h4
theorem zef {d e:D}{b:Bool} (h:gEq d e=some b):zc8 d e=some (.bl b):=by unfold zc8;rw[h];rfl
theorem zie {d e:D}{b:Bool} (h:gEq d e=some b):zfb d e=some (.bl (!b)):=by unfold zfb;rw[h];rfl
theorem z5a {d e:D}{b:Bool} (h:gIn d e=some b):zll d e=some (.bl b):=by unfold zll;rw[h];rfl
theorem zrj {d e:D}{b:Bool} (h:gIn d e=some b):zbi d e=some (.bl (!b)):=by unfold zbi;rw[h];rfl
theorem zak {fa:Rho->Option D}{fr:Rho->Option (List D)}{ρ:Rho}{d:D}{ds:List D} (h1:fa ρ=some d) (h2:fr ρ=some ds):aC fa fr ρ=some (d::ds):=by unfold aC;rw[h1,h2];rfl
theorem z5b {fa fb:Rho->Option Bool}{ρ:Rho} (h:fa ρ=some true):bOr fa fb ρ=some true:=by unfold bOr;rw[h];rfl
theorem zhs {fa fb:Rho->Option Bool}{ρ:Rho}{b:Bool} (h:fa ρ=some false) (h2:fb ρ=some b):bOr fa fb ρ=some b:=by unfold bOr;rw[h];exact h2
theorem ze0 {fa fb:Rho->Option Bool}{ρ:Rho} (h:fa ρ=some false):zdj fa fb ρ=some false:=by unfold zdj;rw[h];rfl
theorem zdv {fa fb:Rho->Option Bool}{ρ:Rho}{b:Bool} (h:fa ρ=some true) (h2:fb ρ=some b):zdj fa fb ρ=some b:=by unfold zdj;rw[h];exact h2
theorem zc0 {fa:Rho->Option Bool}{ρ:Rho}{b:Bool} (h:fa ρ=some b):zd6 fa ρ=some (!b):=by unfold zd6;rw[h];rfl
theorem zu9 {fa:Rho->Option Bool}{ρ:Rho}{b:Bool} (h:fa ρ=some b):eT fa ρ=some (.bl b):=by unfold eT;rw[h];rfl
theorem za4 {fa:Rho->Option D}{ρ:Rho}{b:Bool} (h:fa ρ=some (.bl b)):tE fa ρ=some b:=by unfold tE;rw[h];rfl
theorem ze1 {α:Type} (enc:α->D) {g:D->Rho->Option Rho}{tt:Rho->Option Bool}{te:Rho->Option D}{ρ:Rho} (p:α->Bool) (k:α->D):∀ (xs:List α),(∀ x∈xs,∃ ρ1,g (enc x) ρ=some ρ1/\tt ρ1=some (p x)/\(p x=true->te ρ1=some (k x)))->zen g tt te ρ (xs.map enc)=some ((xs.filter p).map k)
 | [],_=>rfl
 | x::r,h=>by
  obtain ⟨ρ1,h1,h2,h3⟩:=h x (by simp)
  have ih:=ze1 enc p k r λ y hy=>h y (by simp[hy])
  rw[List.map_cons,zen,h1,Option.bind_some,h2,Option.bind_some,ih]
  cases hp:p x with
  | true=>rw[if_pos rfl,h3 hp,List.filter_cons_of_pos hp];rfl
  | false=>rw[if_neg Bool.false_ne_true,List.filter_cons_of_neg (by simp[hp])]
theorem zc4 {α:Type} (enc:α->D) {g:D->Rho->Option Rho}{tt:Rho->Option Bool}{te:Rho->Option D}{ρ:Rho} (k:α->D) (xs:List α) (h:∀ x∈xs,∃ ρ1,g (enc x) ρ=some ρ1/\tt ρ1=some true/\te ρ1=some (k x)):zen g tt te ρ (xs.map enc)=some (xs.map k):=by
 rw[ze1 enc (λ _=>true) k xs λ x hx=>let ⟨ρ1,h1,h2,h3⟩:=h x hx;⟨ρ1,h1,h2,λ _=>h3⟩]
 congr 1
 congr 1
 exact List.filter_eq_self.mpr λ _ _=>rfl
theorem ycz (l:List Nat):itD (.sc (.str (S l)))=some (l.map λ c=>.str [c]):=rfl
theorem zep (l m:List Nat) (h:l.length+m.length<=sizeLine):zb6 (.sc (.str (S l))) (.sc (.str (S m)))=some (.str (l++m)):=by
 unfold zb6
 dsimp only
 rw[if_pos (by rw[zho,zho];exact h),zz0]
theorem z92 (c:Nat) (l:List Nat):gIn (.sc (.str (S [c]))) (.sc (.str (S l)))=some (decide (c∈l)):=by
 unfold gIn
 dsimp only
 rw[zkm]
theorem z0m (c:Nat) (l:List Nat) (h:c∈l):zkr (.sc (.str (S l))) [.sc (.str (S [c]))]=some (.int (zel c l)):=by
 obtain ⟨r,e⟩:=zz1 l c 1 (Nat.le_refl _) h
 unfold zkr
 dsimp only
 rw[e]
 rfl
theorem zrk (l:List Nat) (j:Nat) (h:l.length<=sizeLine):gSl (.sc (.str (S l))) none (some (j:Int))=some (.str (l.take j)):=by
 unfold gSl
 dsimp only
 rw[if_pos (by rw[zho];exact h),zut]
theorem zng (l:List Nat) (i:Nat) (h:l.length<=sizeLine) (hi:i<=l.length):gSl (.sc (.str (S l))) (some (i:Int)) none=some (.str (l.drop i)):=by
 unfold gSl
 dsimp only
 rw[if_pos (by rw[zho];exact h),zon _ _ hi]
theorem znh:∀ (ls:List (List Nat)),zia (ls.map D.str)=some (ls.map S)
 | []=>rfl
 | x::r=>by
  show (zia (r.map D.str)).map (S x::·)=_
  rw[znh r];rfl
theorem z0n (sep:List Nat) (ls:List (List Nat)) (h:(ls.map List.length).sum+ls.length * sep.length<=16777216):zq7 (.sc (.str (S sep))) [.lst (ls.map D.str)]=some (.str (zlw sep ls)):=by
 unfold zq7
 dsimp only
 rw[znh,Option.bind_some,if_pos,z4l]
 rw[List.map_map]
 have e:(λ x:Str=>x.length) ∘ S=List.length:=by funext l;exact zho l
 show (ls.map ((λ x:Str=>x.length) ∘ S)).sum+_<=_
 rw[e,List.length_map,zho]
 exact h
theorem z5c {c:Str->Bool}{f:Str->V}{z:Str} (h:c z=true):gM0 c f (.sc (.str z)) []=some (.sc (f z)):=if_pos h
theorem zva {l:List Nat} (h:∀ c∈l,c<128) (hl:l.length<=sizeLine):zne (.sc (.str (S l))) []=some (.str (l.map lo1)):=by
 have e:=z5c (c:=λ z=>!Builtin.Str.tooLong (Txt.lower z).length) (f:=λ z=>V.str (Txt.lower z)) (z:=S l) (by
  show (!Builtin.Str.tooLong (Txt.lower (S l)).length)=true
  rw[zqq h,zho,List.length_map]
  unfold Builtin.Str.tooLong
  simp;exact hl)
 unfold zne
 rw[e]
 show some (D.sc (V.str (Txt.lower (S l))))=_
 rw[zqq h]
theorem zdw {i j:Int} (h:0<j/\j<1073741824):zew (.int i) (.int j)=some (.int (i / j)):=by
 unfold zew zl6;exact if_pos (decide_eq_true h)
theorem zbx {i j:Int} (h:0<j):zb5 (.int i) (.int j)=some (.int (i % j)):=by
 unfold zb5 zl6;exact if_pos (decide_eq_true h)
theorem zif {i j:Int} (h:zf3 i j=true):zdu (.int i) (.int j)=some (.int (i * j)):=by
 unfold zdu zl6;exact if_pos h
theorem zni {i j:Int} (h:IntMulOk i j):zf3 i j=true:=by
 unfold IntMulOk at h
 unfold zf3
 rw[Bool.not_eq_true']
 exact Bool.eq_false_iff.mpr h
theorem zrl {i j:Int} (h:-(2 ^ 64)<i/\i<2 ^ 64):zf3 i j=true:=zni (z72.ok (.inl h))
theorem zje {i j:Int} (h:-(2 ^ 64)<j/\j<2 ^ 64):zf3 i j=true:=zni (z72.ok (.inr h))
theorem zc5 {i j:Int}:zb6 (.int i) (.int j)=some (.int (i+j)):=rfl
theorem z5d {i j:Int}:gLt (.int i) (.int j)=some (.bl (decide (i<j))):=rfl
theorem z5e {i j:Int}:gLe (.int i) (.int j)=some (.bl (decide (i<=j))):=rfl
theorem zmf {i j:Int}:gGt (.int i) (.int j)=some (.bl (decide (j<i))):=rfl
theorem z93 {i j:Int}:gGe (.int i) (.int j)=some (.bl (decide (j<=i))):=rfl
theorem zgy {i j:Int}:gEq (.int i) (.int j)=some (decide (i=j)):=by
 unfold gEq
 dsimp only
 rw[if_pos ⟨rfl,by simp[scK]⟩,zb2];rfl
theorem z5f {i j:Bool}:gEq (.bl i) (.bl j)=some (i == j):=by
 unfold gEq
 dsimp only
 rw[if_pos ⟨rfl,by simp[scK]⟩];rfl
theorem znj {α:Type}{xs:List α}{i:Int} (h0:0<=i) (h1:i<xs.length):∃ c,c∈xs/\atI xs i=some c:=by
 have hi:i.toNat<xs.length:=by omega
 have e:((i.toNat:Nat):Int)=i:=by omega
 have h:=zir (xs:=xs) (j:=i.toNat) (v:=xs[i.toNat]) (by simp[hi])
 rw[e] at h
 exact⟨xs[i.toNat],List.getElem_mem hi,h⟩
theorem z5g {l:List Nat}{i:Int}{c:Nat} (hl:l.length<=sizeLine) (h:atI l i=some c):gIx (.sc (.str (S l))) (.int i)=some (.str [c]):=by
 unfold gIx
 dsimp only
 rw[if_pos (by rw[zho];exact hl),zca,h];rfl
theorem zrm {l:List D}{i:Int}:gIx (.lst l) (.int i)=atI l i:=rfl
theorem zrn {n:Nat}{j:Int} (h:j=n) (hn:n<=1000000):zq9 [.int j]=some ((List.range n).map λ k=>.int ((k:Nat):Int)):=by
 subst h
 unfold zq9
 dsimp only
 rw[if_pos ⟨by omega,by omega⟩]
 unfold zj1
 simp
theorem z0o {i j:Int} (h1:-1000000<=i) (h2:i<=1000000) (h3:-1000000<=j) (h4:j<=1000000):zxu [.int i,.int j]=some (zj1 i (j - i).toNat):=by
 unfold zxu
 dsimp only
 rw[if_pos ⟨by omega,by omega,by omega,by omega⟩]
theorem zro {α:Type} (xs:List α) (k:Nat):zh8 xs none (some (k:Int))=xs.take k:=by
 unfold zh8
 rw[HT.sIx_none,HT.sIx_nat,List.drop_zero,Nat.sub_zero]
 by_cases h:k<=xs.length
 ·rw[Nat.min_eq_left h]
 ·rw[Nat.min_eq_right (by omega),List.take_length,List.take_of_length_le (by omega)]
theorem zrp {α:Type} (xs:List α) (a b:Nat) (h:a<=b):zh8 xs (some (a:Int)) (some (b:Int))=(xs.drop a).take (b - a):=by
 unfold zh8
 rw[HT.sIx_nat,HT.sIx_nat]
 by_cases h1:b<=xs.length
 ·rw[Nat.min_eq_left h1,Nat.min_eq_left (by omega)]
 ·rw[Nat.min_eq_right (by omega)]
  by_cases h2:a<=xs.length
  ·rw[Nat.min_eq_left h2,List.take_of_length_le (by simp),List.take_of_length_le (by simp;omega)]
  ·rw[Nat.min_eq_right (by omega),List.drop_length,List.drop_of_length_le (by omega)];simp
theorem zrq {α β:Type} (f:α->β) (xs:List α) (lo hi:Option Int):zh8 (xs.map f) lo hi=(zh8 xs lo hi).map f:=by
 unfold zh8
 rw[List.length_map,List.map_take,List.map_drop]
theorem z0p {ds es:List D} (h:ds.length+es.length<=sizeLine):zb6 (.lst ds) (.lst es)=some (.lst (ds++es)):=by
 unfold zb6;exact if_pos h
theorem zxy {ds es:List D} (h:(dOk LV (.tup ds) && dOk LV (.tup es))=true):gEq (.tup ds) (.tup es)=some (zb1 ds es):=by
 unfold gEq;exact if_pos h
theorem zxz {ds es:List D} (h:(dOk LV (.lst ds) && dOk LV (.lst es))=true):gEq (.lst ds) (.lst es)=some (zb1 ds es):=by
 unfold gEq;exact if_pos h
theorem zmg (l m:List Nat):deq (.str l) (.str m)=decide (l=m):=by
 rw[deq]
 show (S l == S m)=_
 rw[<-zb2 (S l) (S m)]
 exact zlu zzz
theorem zjf (l m:Int):deq (.int l) (.int m)=decide (l=m):=by
 rw[deq]
 show (l == m)=_
 rw[<-zb2 l m]
theorem znk (l m:Bool):deq (.bl l) (.bl m)=(l == m):=by rw[deq];rfl
theorem sz {n:Nat} (h:n<=100000):n<=sizeLine:=Nat.le_trans h (by decide)
theorem szl {n:Nat} (h:n<=100000):n<sizeLine:=Nat.lt_of_le_of_lt h (by decide)
section
variable {K:PySem.W.Frag}{B:Bs}
theorem zl1.own {Hf H:Hp}{sl:Sl}{v:V} (h:zl1 K Hf H sl v) (o:zd5 sl=true):∃ p ob,v=.ref p/\Hf p=none/\H p=some ob:=by
 cases sl with
 | sh d=>cases o
 | ow ds=>obtain ⟨p,xs,h1,h2,h3,_⟩:=h;exact⟨p,_,h1,h2,h3⟩
 | dk ks ds=>obtain ⟨p,xs,h1,h2,h3,_⟩:=h;exact⟨p,_,h1,h2,h3⟩
 | dt ks ds=>obtain ⟨p,xs,h1,h2,h3,_⟩:=h;exact⟨p,_,h1,h2,h3⟩
theorem zl1.away {Hf H:Hp}{sl:Sl}{v:V}{p:Addr}{ob:HO} (h:zl1 K Hf H sl v) (ne:zd5 sl=true->v≠.ref p):zl1 K Hf (upd H p ob) sl v:=by
 cases sl with
 | sh d=>exact h
 | ow ds=>obtain ⟨q,xs,rfl,h2,h3,h4⟩:=h;exact⟨q,xs,rfl,h2,by rw[zaf (λ z=>ne rfl (by rw[z]))];exact h3,h4⟩
 | dk ks ds=>obtain ⟨q,xs,rfl,h2,h3,h4⟩:=h;exact⟨q,xs,rfl,h2,by rw[zaf (λ z=>ne rfl (by rw[z]))];exact h3,h4⟩
 | dt ks ds=>obtain ⟨q,xs,rfl,h2,h3,h4⟩:=h;exact⟨q,xs,rfl,h2,by rw[zaf (λ z=>ne rfl (by rw[z]))];exact h3,h4⟩
theorem VI.mutG {Hf H:Hp}{ρ:Rho}{σ:St}{i:Nat}{sl sl':Sl}{p:Addr}{ob:HO} (I:VI K B Hf ρ σ H) (hi:ρ[i]?=some (some sl)) (ho:zd5 sl=true) (ho':zd5 sl'=true) (hp:σ[i]?=some (some (.ref p))) (ok:zl1 K Hf (upd H p ob) sl' (.ref p)):VI K B Hf (ρ.set i (some sl')) σ (upd H p ob):=by
 have hB:=I.own i _ p hi ho hp
 have hf:Hf p=none:=by obtain ⟨q,_,e,h,_⟩:=ok.own ho';cases e;exact h
 have hlt:i<ρ.length:=(List.getElem?_eq_some_iff.mp hi).1
 have g:∀ {j:Nat} {s:Sl},(ρ.set i (some sl'))[j]?=some (some s)->(j=i/\s=sl')\/(j≠i/\ρ[j]?=some (some s)):=λ {j s} e=>by
  by_cases hj:i=j
  ·subst hj
   rw[List.getElem?_set_self hlt] at e
   cases e
   exact .inl ⟨rfl,rfl⟩
  ·rw[List.getElem?_set_ne hj] at e
   exact .inr ⟨λ z=>hj z.symm,e⟩
 have fs:zar Hf (upd H p ob):=λ b o h=>by
  rw[zaf (zam h hf)];exact I.fh b o h
 refine⟨⟨I.ex.ff,λ b o h=>?_,fs,I.ex.nw,I.ex.nf⟩,by simp[I.len],λ j s e=>?_,λ j s p' e o q=>?_,λ j k sj sk p' e1 e2 o1 o2 q1 q2=>?_⟩
 ·rw[zaf (zam h hB)];exact I.ex.hh b o h
 ·rcases g e with ⟨rfl,rfl⟩|⟨hj,e⟩
  ·exact⟨.ref p,hp,ok⟩
  ·obtain ⟨u,h1,h2⟩:=I.ok j s e
   exact⟨u,h1,h2.away λ o z=>hj (by subst z;exact I.dis j i s _ _ e hi o ho h1 hp)⟩
 ·rcases g e with ⟨rfl,rfl⟩|⟨hj,e⟩
  ·rw[hp] at q;cases q;exact hB
  ·exact I.own j s p' e o q
 ·rcases g e1 with ⟨rfl,rfl⟩|⟨hj,e1⟩
  ·rcases g e2 with ⟨rfl,rfl⟩|⟨hk,e2⟩
   ·rfl
   ·exact I.dis _ k _ sk p' hi e2 ho o2 q1 q2
  ·rcases g e2 with ⟨hki,hsk⟩|⟨hk,e2⟩
   ·rw[hki] at q2 ⊢
    exact I.dis j _ sj _ p' e1 hi o1 ho q1 q2
   ·exact I.dis j k sj sk p' e1 e2 o1 o2 q1 q2
theorem VI.setG {Hf H Hf' H':Hp}{ρ:Rho}{σ:St}{i:Nat}{sl:Sl}{p:Addr} (I:VI K B Hf ρ σ H) (ex:Ex Hf H Hf' H') (hp:H p=none) (ho:zd5 sl=true) (ok:zl1 K Hf' H' sl (.ref p)):VI K B Hf' (ρ.set i (some sl)) (σ.set i (some (.ref p))) H':=by
 have g:∀ {j:Nat} {s:Sl},(ρ.set i (some sl))[j]?=some (some s)->(j=i/\s=sl/\i<ρ.length)\/(j≠i/\ρ[j]?=some (some s)):=λ {j s} e=>by
  by_cases hj:i=j
  ·subst hj
   rw[List.getElem?_set_self'] at e
   cases q:ρ[i]? with
   | none=>rw[q] at e;cases e
   | some z =>
    rw[q] at e
    simp at e
    exact .inl ⟨rfl,e.symm,(List.getElem?_eq_some_iff.mp q).1⟩
  ·rw[List.getElem?_set_ne hj] at e
   exact .inr ⟨λ z=>hj z.symm,e⟩
 have I1:=I.ext ex
 have hBp:B.h p=none:=I.ex.hh.free hp
 have nown:∀ {j:Nat} {s:Sl},ρ[j]?=some (some s)->zd5 s=true->σ[j]?≠some (some (.ref p)):=λ {j s} e o z=>by
  obtain ⟨v,h1,h2⟩:=I.ok j s e
  rw[z] at h1
  cases h1
  obtain ⟨q,ob,e1,_,e2⟩:=h2.own o
  cases e1
  rw[hp] at e2
  cases e2
 refine⟨I1.ex,by simp[I.len],λ j s e=>?_,λ j s p' e o q=>?_,λ j k sj sk p' e1 e2 o1 o2 q1 q2=>?_⟩
 ·rcases g e with ⟨rfl,rfl,hl⟩|⟨hj,e⟩
  ·exact⟨.ref p,by rw[List.getElem?_set_self (by rw[<-I.len];exact hl)],ok⟩
  ·obtain ⟨u,h1,h2⟩:=I1.ok j s e
   exact⟨u,by rw[List.getElem?_set_ne (λ z=>hj z.symm)];exact h1,h2⟩
 ·rcases g e with ⟨rfl,rfl,hl⟩|⟨hj,e⟩
  ·rw[List.getElem?_set_self (by rw[<-I.len];exact hl)] at q
   cases q
   exact hBp
  ·rw[List.getElem?_set_ne (λ z=>hj z.symm)] at q
   exact I.own j s p' e o q
 ·rcases g e1 with ⟨rfl,rfl,hl⟩|⟨hj,f1⟩
  ·rcases g e2 with ⟨rfl,rfl,hl2⟩|⟨hk,e2⟩
   ·rfl
   ·rw[List.getElem?_set_self (by rw[<-I.len];exact hl)] at q1
    cases q1
    rw[List.getElem?_set_ne (λ z=>hk z.symm)] at q2
    exact absurd q2 (nown e2 o2)
  ·rw[List.getElem?_set_ne (λ z=>hj z.symm)] at q1
   rcases g e2 with ⟨hki,hsk,hl2⟩|⟨hk,e2⟩
   ·subst hki
    rw[List.getElem?_set_self (by rw[<-I.len];exact hl2)] at q2
    cases q2
    exact absurd q1 (nown f1 o1)
   ·rw[List.getElem?_set_ne (λ z=>hk z.symm)] at q2
    exact I.dis j k sj sk p' f1 e2 o1 o2 q1 q2
end
def z22 (i:Nat) (sl:Sl):Rho->Out:=λ ρ=>.nx (ρ.set i (some sl))
def zfr (sl:Sl) (k d:D):Option Sl:=match sl with
 | .dk ks ds=>(zl3 k).bind λ key=>if ks.length<sizeLine then some (.dk ((zi3 (ks.zip ds) key d).map Prod.fst) ((zi3 (ks.zip ds) key d).map Prod.snd)) else none
 | .dt ks ds=>(zev k).bind λ key=>if ks.length<sizeLine then some (.dt ((zi3 (ks.zip ds) key d).map Prod.fst) ((zi3 (ks.zip ds) key d).map Prod.snd)) else none
 | _=>none
def zeb (i:Nat) (fk fv:Rho->Option D):Rho->Out:=λ ρ=>match ρ[i]? with
 | some (some sl)=>match (fv ρ).bind λ d=>(fk ρ).bind λ k=>zfr sl k d with|some sl'=>.nx (ρ.set i (some sl'))|none=>.bad
 | _=>.bad
def zgz (d k:D):Option D:=(zd9 d k).bind id
def zcl (fo fk fz:Rho->Option D):Rho->Option D:=λ ρ=>(fo ρ).bind λ d=>(fk ρ).bind λ k=>(fz ρ).bind λ z=>(zd9 d k).map λ o=>o.getD z
section
variable {X:Cx}{B:Bs}{o e i f:Expr}{pos apos cpos:Pos}{fo fk fz fv:Rho->Option D}
theorem z5h {j:Nat}{x:Str}{pos' p2:Pos} (hN:X.N.Nodup) (hi:X.N[j]?=some x) (hx:Loc X.env.scope x) (hs:swapsWith (.Dict [] [] p2) (some (.Name x pos')) pos.line X.env=pure false:=by rfl) (hf:X.fn x=true\/X.env.scope.names.lookup x=some .local:=by first|exact .inl rfl|exact .inr rfl|assumption):PS X (.Assign [.Name x pos'] (.Dict [] [] p2) pos) (sV X.K B (z22 j (.dk [] []))) :=
 (zdr hN hi hx zuw hs hf).imp λ D σ H ⟨Hf,ρ,I,q⟩=>λ p hp=>q Hf _ _ (zar.refl _) (I.setG (Ex.made I.fh hp) hp rfl ⟨p,[],rfl,I.fh.free hp,zac,rfl,.nil⟩)
theorem zrr {j:Nat}{x:Str}{pos' p2:Pos} (hN:X.N.Nodup) (hi:X.N[j]?=some x) (hx:Loc X.env.scope x) (hs:swapsWith (.Dict [] [] p2) (some (.Name x pos')) pos.line X.env=pure false:=by rfl) (hf:X.fn x=true\/X.env.scope.names.lookup x=some .local:=by first|exact .inl rfl|exact .inr rfl|assumption):PS X (.Assign [.Name x pos'] (.Dict [] [] p2) pos) (sV X.K B (z22 j (.dt [] []))) :=
 (zdr hN hi hx zi1 hs hf).imp λ D σ H ⟨Hf,ρ,I,q⟩=>λ p hp=>q Hf _ _ (zar.refl _) (I.setG (Ex.made I.fh hp) hp rfl ⟨p,[],rfl,I.fh.free hp,zac,rfl,.nil⟩)
theorem zrs {n j:Nat}{x:Str}{value:Expr}{p1 pos':Pos} (hr:Room n X.A) (hN:X.N[j]?=some x) (hi:PE X i (eB X.K B fk)) (hv:PE X value (eV X.K B fv)) (hvis:Vis X.env.scope x:=by first|exact Or.inl rfl|exact Or.inr (Or.inl rfl)|exact Or.inr (Or.inr rfl)) (hd:(x == ("__debug__" : Str))=false:=by decide) (hcd:(x == ("__classdict__" : Str))=false:=by decide)
  (hs:swapsWith value (some (.Subscript (.Name x p1) i pos')) pos.line X.env=pure false:=by rfl):PS X (.Assign [.Subscript (.Name x p1) i pos'] value pos) (sV X.K B (zeb j fk fv)) :=
 (zqw (by have:=hr.units;omega) (zcc hN hvis hd hcd) hi hv hs).imp λ D σ H ⟨Hf,ρ,I,q⟩=>by
  unfold zeb at q
  split at q
  ·rename_i sl hsl
   split at q
   ·rename_i sl' hz
    obtain ⟨d,hfv,hz⟩:=bind_some hz
    obtain ⟨k,hfk,hz⟩:=bind_some hz
    obtain ⟨v0,h1,h2⟩:=I.ok j _ hsl
    refine⟨Hf,ρ,d,I,hfv,λ Hf1 H1 v ex1 dv=>⟨v0,h1,Hf1,ρ,k,I.ext ex1,hfk,λ Hf2 H2 y ex2 dk=>?_⟩⟩
    have I2:=(I.ext ex1).ext ex2
    have ok2:=(h2.ext ex1).ext ex2
    unfold zfr at hz
    split at hz
    ·obtain ⟨key,hk,hz⟩:=bind_some hz
     split at hz
     ·rename_i ks ds hl
      cases hz
      obtain ⟨p,kvs,rfl,hf,hH,e1,e2⟩:=ok2
      have ey:=zi4 dk hk
      subst ey
      have pk:=(zl2 e1 e2).put key (dv.same ex2.ff)
      exact⟨p,_,rfl,zt3.k hH (by rw[<-List.length_map (f:=Prod.fst),e1];exact hl),q Hf2 σ _ (ex1.ff.trans ex2.ff) (I2.mutG hsl rfl rfl h1 ⟨p,_,rfl,hf,zac,pk.fst,pk.snd⟩)⟩
     ·cases hz
    ·obtain ⟨key,hk,hz⟩:=bind_some hz
     split at hz
     ·rename_i ks ds hl
      cases hz
      obtain ⟨p,kvs,rfl,hf,hH,e1,e2⟩:=ok2
      obtain ⟨b,rfl,hb⟩:=zgu dk hk
      have pk:=(zl2 e1 e2).put key (dv.same ex2.ff)
      exact⟨p,_,rfl,zt3.t hH (ex2.fh _ _ hb) (by rw[<-List.length_map (f:=Prod.fst),e1];exact hl),q Hf2 σ _ (ex1.ff.trans ex2.ff) (I2.mutG hsl rfl rfl h1 ⟨p,_,rfl,hf,zac,pk.fst,pk.snd⟩)⟩
     ·cases hz
    ·cases hz
   ·exact q.elim
  ·exact q.elim
theorem zoy {n:Nat} (hr:Room n X.A) (ho:PE X o (eB X.K B fo)) (hi:PE X i (eB X.K B fk)) (hs:z9s i):PE X (.Subscript o i pos) (eV X.K B (e2 zgz fo fk)) :=
 (zz6 (by have:=hr.units;omega) ho hi hs).imp λ σ H Q ⟨Hf,ρ,z,I,hz,q⟩=>by
  obtain ⟨d,hd,hz⟩:=bind_some hz
  obtain ⟨k,hk,hz⟩:=bind_some hz
  refine⟨Hf,ρ,d,I,hd,λ Hf1 H1 x ex1 dx=>⟨Hf1,ρ,k,I.ext ex1,hk,λ Hf2 H2 y ex2 dy=>?_⟩⟩
  unfold zgz at hz
  obtain ⟨ov,h1,h2⟩:=bind_some hz
  have h2:ov=some z:=h2
  subst h2
  obtain ⟨a,r,rfl,_,g,_,n2⟩:=zi5 ex2.fh (dx.ext ex2) dy h1
  obtain ⟨v,rfl,dv⟩:=n2 z rfl
  exact⟨a,v,rfl,g,q Hf2 H2 v (ex1.trans ex2) dv⟩
theorem z5i {K:PySem.W.Frag}{Hf H:Hp}{d k:D}{x:V}{r:Option D} (s:zar Hf H) (hd:DnB K Hf H d x) (h:zd9 d k=some r):∃ a,x=.ref a/\IsD H a:=by
 unfold zd9 at h
 split at h
 ·obtain ⟨a,kvs,rfl,h3,_⟩:=hd.dk s;exact⟨a,rfl,.inl ⟨kvs,.inl h3⟩⟩
 ·obtain ⟨a,kvs,rfl,h3,_⟩:=hd.dt s;exact⟨a,rfl,.inr ⟨kvs,.inl h3⟩⟩
 ·cases h
theorem zjg {n:Nat} (hr:Room n X.A) (ho:PE X o (eB X.K B fo)) (he:PE X e (eB X.K B fk)) (hf:PE X f (eV X.K B fz)) (m:M2 X o "get" apos e f cpos:=by exact⟨rfl,rfl,rfl,rfl⟩):PE X (.Call (.Attribute o "get" apos) [e,f] [] cpos) (eV X.K B (zcl fo fk fz)) :=
 (zux (by have:=hr.units;omega) ho he hf m).imp λ σ H Q ⟨Hf,ρ,z,I,hz,q⟩=>by
  obtain ⟨d,hd,hz⟩:=bind_some hz
  obtain ⟨k,hk,hz⟩:=bind_some hz
  obtain ⟨t,ht,hz⟩:=bind_some hz
  obtain ⟨ov,h1,h2⟩:=Option.map_eq_some_iff.mp hz
  refine⟨Hf,ρ,d,I,hd,λ Hf1 H1 x ex1 dx=>?_⟩
  obtain ⟨a,rfl,isd⟩:=z5i ex1.fh dx h1
  refine⟨a,rfl,isd,Hf1,ρ,k,I.ext ex1,hk,λ Hf2 H2 y ex2 dy=>⟨Hf2,ρ,t,(I.ext ex1).ext ex2,ht,λ Hf3 H3 u ex3 du=>?_⟩⟩
  obtain ⟨a',r,e,_,g,n1,n2⟩:=zi5 ex3.fh ((dx.ext ex2).ext ex3) (dy.ext ex3) h1
  cases e
  refine⟨r,g,?_⟩
  cases ov with
  | none=>subst h2;rw[n1 rfl];exact q Hf3 H3 _ ((ex1.trans ex2).trans ex3) du
  | some w=>subst h2;obtain ⟨v,rfl,dv⟩:=n2 w rfl;exact q Hf3 H3 v ((ex1.trans ex2).trans ex3) dv
end
end L2
namespace L2
open PySem PySem.W PyProof.Rows
structure WO (lt:Nat->Nat->Bool):Prop where
 irr:∀ a,lt a a=false
 nt:∀ a b c,lt a c=true->lt a b=true\/lt b c=true
 asy:∀ a b,lt a b=true->lt b a=false
def zfs (lt:Nat->Nat->Bool) (n:Nat) {α:Type}:KasT α->(α->Prop)->Prop
 | .ret a,Q=>Q a
 | .ask i j k,Q=>i<n/\j<n/\zfs lt n (k (lt i j)) Q
section
variable {lt:Nat->Nat->Bool}{n:Nat}{α β:Type}
theorem zfs.bind {f:α->KasT β}{Q:β->Prop}:∀ (t:KasT α),zfs lt n t (λ a=>zfs lt n (f a) Q)->zfs lt n (t.bind f) Q
 | .ret a,h=>by rw[KasT.bind.eq_1];exact h
 | .ask i j k,h=>by rw[KasT.bind.eq_2];exact⟨h.1,h.2.1,zfs.bind _ h.2.2⟩
theorem zfs.mono {Q Q':α->Prop} (m:∀ a,Q a->Q' a):∀ {t:KasT α},zfs lt n t Q->zfs lt n t Q'
 | .ret a,h=>m a h
 | .ask i j k,h=>⟨h.1,h.2.1,zfs.mono m h.2.2⟩
theorem zfs.wp {cmp:Nat->Nat->(Bool->Shared->Prop)->Shared->Prop}{s:Shared}{Q:α->Prop}{G:α->Shared->Prop} (hc:∀ i j C,i<n->j<n->C (lt i j) s->cmp i j C s) (hg:∀ a,Q a->G a s):∀ {t:KasT α},zfs lt n t Q->KasT.kasWp cmp t G s
 | .ret a,h=>by rw[KasT.kasWp.eq_1];exact hg a h
 | .ask i j k,h=>by rw[KasT.kasWp.eq_2];exact hc i j _ h.1 h.2.1 (zfs.wp hc hg h.2.2)
end
abbrev gp (p:Array Nat) (i:Nat):Nat:=p.getD i 0
theorem zku (p:Array Nat) (i:Nat):gp p i=(p[i]?).getD 0:=by simp[gp,Array.getD_eq_getD_getElem?]
def Ix (n:Nat) (p:Array Nat):Prop:=p.toList.Perm (List.range n)
section
variable {lt:Nat->Nat->Bool}{n:Nat}{p q:Array Nat}
theorem Ix.size (h:Ix n p):p.size=n:=by have:=h.length_eq;simpa using this
theorem Ix.bd (h:Ix n p) (hn:0<n) (i:Nat):gp p i<n:=by
 rw[zku]
 cases e:p[i]? with
 | none=>exact hn
 | some x =>
  have:x∈p.toList:=by
   obtain ⟨hi,rfl⟩:=Array.getElem?_eq_some_iff.mp e
   simp
  exact List.mem_range.mp (h.mem_iff.mp this)
theorem Ix.of (h:Ix n p) (hq:q.Perm p):Ix n q:=(Array.perm_iff_toList_perm.mp hq).trans h
def Up (lt:Nat->Nat->Bool) (p:Array Nat) (k:Nat):Prop:=∀ i j,i<=j->j<k->lt (gp p j) (gp p i)=false
def Dw (lt:Nat->Nat->Bool) (p:Array Nat) (k:Nat):Prop:=∀ i j,i<=j->j<k->lt (gp p i) (gp p j)=false
theorem WO.le (w:WO lt) {a b c:Nat} (h1:lt b a=false) (h2:lt c b=false):lt c a=false:=by
 cases h:lt c a with
 | false=>rfl
 | true =>
  rcases w.nt c b a h with z|z
  ·rw[h2] at z;cases z
  ·rw[h1] at z;cases z
theorem Up.snoc (w:WO lt) {k:Nat} (h:Up lt p k) (h0:0<k) (hk:lt (gp p k) (gp p (k - 1))=false):Up lt p (k+1):=λ i j hij hj=>by
 by_cases e:j=k
 ·subst e
  by_cases e2:i=j
  ·subst e2;exact w.irr _
  ·exact w.le (h i (j - 1) (by omega) (by omega)) hk
 ·exact h i j hij (by omega)
theorem Dw.snoc (w:WO lt) {k:Nat} (h:Dw lt p k) (h0:0<k) (hk:lt (gp p (k - 1)) (gp p k)=false):Dw lt p (k+1):=λ i j hij hj=>by
 by_cases e:j=k
 ·subst e
  by_cases e2:i=j
  ·subst e2;exact w.irr _
  ·exact w.le hk (h i (j - 1) (by omega) (by omega))
 ·exact h i j hij (by omega)
theorem zrt (w:WO lt) (hn:0<n) (hp:Ix n p):∀ (f x:Nat),1<=x->Up lt p x->zfs lt n (kas_asc p f x) λ m=>x<=m/\m<=x+f/\Up lt p m/\(m<x+f->lt (gp p m) (gp p (m - 1))=true)
 | 0,x,hx,h=>by rw[kas_asc.eq_1];exact⟨Nat.le_refl _,Nat.le_refl _,h,λ z=>absurd z (Nat.lt_irrefl _)⟩
 | f+1,x,hx,h=>by
  rw[kas_asc.eq_2]
  refine⟨hp.bd hn x,hp.bd hn (x - 1),?_⟩
  dsimp only
  split
  ·rename_i hc;exact⟨Nat.le_refl _,by omega,h,λ _=>hc⟩
  ·rename_i hc
   have hc:lt (gp p x) (gp p (x - 1))=false:=Bool.eq_false_iff.mpr hc
   exact (zrt w hn hp f (x+1) (by omega) (h.snoc w (by omega) hc)).mono λ m ⟨h1,h2,h3,h4⟩=>⟨by omega,by omega,h3,λ z=>h4 (by omega)⟩
theorem zru (hp:Ix n p) {i j:Nat} (hj:j<=n) (k:Nat):gp (kas_rev p i j) k=if i<=k/\k<j then gp p (i+j - 1 - k) else gp p k:=by
 rw[zku,show kas_rev p i j=mirror p i j ((j - i) / 2) from rfl,getElem?_mirror_all (by rw[hp.size];exact hj)]
 split <;> rw[zku]
theorem Ix.rev (hp:Ix n p) (i j:Nat):Ix n (kas_rev p i j):=hp.of (mirror_perm p i j _)
def Alk (lt:Nat->Nat->Bool) (p q:Array Nat):Prop:=∀ k,lt (gp p k) (gp q k)=false/\lt (gp q k) (gp p k)=false
theorem Dw.alk (w:WO lt) {k:Nat} (h:Dw lt p k) (a:Alk lt p q):Dw lt q k:=λ i j hij hj=>w.le (w.le (a j).1 (h i j hij hj)) (a i).2
theorem zmh (w:WO lt) (hp:Ix n p) {i j:Nat} (hj:j<=n) (he:∀ a b,i<=a->a<j->i<=b->b<j->lt (gp p a) (gp p b)=false):Alk lt p (kas_rev p i j):=λ k=>by
 rw[zru hp hj]
 split
 ·rename_i h;exact⟨he _ _ (by omega) (by omega) (by omega) (by omega),he _ _ (by omega) (by omega) (by omega) (by omega)⟩
 ·exact⟨w.irr _,w.irr _⟩
theorem zjh (w:WO lt) (hn:0<n):∀ (f:Nat) (p:Array Nat) (i e:Nat),Ix n p->1<=i->i+f<=n->e+1<=i->Dw lt p i->(∀ a b,i - (e+1)<=a->a<i->i - (e+1)<=b->b<i->lt (gp p a) (gp p b)=false) →
  zfs lt n (kas_desc f p i e) λ r=>Ix n r.1/\i<=r.2.1/\r.2.1<=i+f/\r.2.2+1<=r.2.1/\Dw lt r.1 r.2.1/\(∀ a b,r.2.1 - (r.2.2+1)<=a->a<r.2.1->r.2.1 - (r.2.2+1)<=b->b<r.2.1->lt (gp r.1 a) (gp r.1 b)=false)
 | 0,p,i,e,hp,h1,hf,h2,h3,h4=>by rw[kas_desc.eq_1];exact⟨hp,Nat.le_refl _,Nat.le_refl _,h2,h3,h4⟩
 | f+1,p,i,e,hp,h1,hf,h2,h3,h4=>by
  rw[kas_desc.eq_2]
  refine⟨hp.bd hn i,hp.bd hn (i - 1),?_⟩
  dsimp only
  split
  ·rename_i hc
   have hk:lt (gp p (i - 1)) (gp p i)=false:=w.asy _ _ hc
   have hd:=h3.snoc w (by omega) hk
   split
   ·have al:=zmh w hp (i:=i - (e+1)) (j:=i) (by omega) h4
    exact (zjh w hn f _ (i+1) 0 (hp.rev _ _) (by omega) (by omega) (by omega) (hd.alk w al) (λ a b ha hb hc hd=>by
     have:a=b:=by omega
     rw[this];exact w.irr _)).mono λ r ⟨g1,g2,g3,g4⟩=>⟨g1,by omega,by omega,g4⟩
   ·exact (zjh w hn f _ (i+1) 0 hp (by omega) (by omega) (by omega) hd (λ a b ha hb hc hd=>by
     have:a=b:=by omega
     rw[this];exact w.irr _)).mono λ r ⟨g1,g2,g3,g4⟩=>⟨g1,by omega,by omega,g4⟩
  ·rename_i hc
   have hc:lt (gp p i) (gp p (i - 1))=false:=Bool.eq_false_iff.mpr hc
   refine⟨hp.bd hn (i - 1),hp.bd hn i,?_⟩
   dsimp only
   split
   ·exact⟨hp,Nat.le_refl _,by show i<=i+(f+1);omega,h2,h3,h4⟩
   ·rename_i hd
    have hd:lt (gp p (i - 1)) (gp p i)=false:=Bool.eq_false_iff.mpr hd
    refine (zjh w hn f p (i+1) (e+1) hp (by omega) (by omega) (by omega) (h3.snoc w (by omega) hd) λ a b a1 a2 b1 b2=>?_).mono λ r ⟨g1,g2,g3,g4⟩=>⟨g1,by omega,by omega,g4⟩
    by_cases ea:a=i
    ·by_cases eb:b=i
     ·rw[ea,eb];exact w.irr _
     ·rw[ea];exact w.le (h4 (i - 1) b (by omega) (by omega) (by omega) (by omega)) hc
    ·by_cases eb:b=i
     ·rw[eb];exact w.le hd (h4 a (i - 1) (by omega) (by omega) (by omega) (by omega))
     ·exact h4 a b (by omega) (by omega) (by omega) (by omega)
theorem Dw.turn (hp:Ix n p) {k:Nat} (hk:k<=n) (h:Dw lt p k):Up lt (kas_rev p 0 k) k:=λ i j hij hj=>by
 rw[zru hp hk,zru hp hk,if_pos ⟨by omega,hj⟩,if_pos ⟨by omega,by omega⟩]
 exact h _ _ (by omega) (by omega)
theorem znl (w:WO lt) (hn:0<n) (hp:Ix n p) {k:Nat} (h1:1<=k) (hk:k<=n) (h:Dw lt p k):zfs lt n (kas_tail3 k n p) λ r=>Ix n r.2/\r.1<=n/\1<=r.1/\Up lt r.2 r.1:=by
 unfold kas_tail3
 refine zfs.bind _ ((zrt w hn (hp.rev 0 k) (n - k) k h1 (h.turn hp hk)).mono λ m ⟨m1,m2,m3,_⟩=>?_)
 exact⟨hp.rev 0 k,by omega,by omega,m3⟩
theorem zg0 (w:WO lt) (hn:0<n) (hp:Ix n p) {k:Nat} (h1:1<=k) (hk:k+1<=n) (h:Dw lt p (k+1)):zfs lt n (kas_descPart k n p) λ r=>Ix n r.2/\r.1<=n/\1<=r.1/\Up lt r.2 r.1:=by
 unfold kas_descPart
 refine zfs.bind _ ((zjh w hn (n - (k+1)) p (k+1) 0 hp (by omega) (by omega) (by omega) h (λ a b ha hb hc hd=>by
  have:a=b:=by omega
  rw[this];exact w.irr _)).mono λ r ⟨g1,g2,g3,g4,g5,g6⟩=>?_)
 split
 ·exact znl w hn (g1.rev _ _) (by omega) (by omega) (g5.alk w (zmh w g1 (by omega) g6))
 ·exact znl w hn g1 (by omega) (by omega) g5
theorem zvb (w:WO lt) (hn:0<n) (hp:Ix n p):zfs lt n (kas_count n p) λ r=>Ix n r.2/\r.1<=n/\1<=r.1/\Up lt r.2 r.1:=by
 rw[kas_count.eq_1]
 have u1:Up lt p 1:=λ i j hij hj=>by
  have:i=j:=by omega
  rw[this];exact w.irr _
 refine zfs.bind _ ((zrt w hn hp (n - 1) 1 (by omega) u1).mono λ m ⟨m1,m2,m3,m4⟩=>?_)
 split
 ·rename_i hm
  have:m=n:=by simpa using hm
  exact⟨hp,by omega,by omega,m3⟩
 ·rename_i hm
  have hm:m≠n:=by simpa using hm
  have hlt:=m4 (by omega)
  have hk:lt (gp p (m - 1)) (gp p m)=false:=w.asy _ _ hlt
  split
  ·refine⟨hp.bd hn _,hp.bd hn _,?_⟩
   dsimp only
   split
   ·exact⟨hp,by omega,by omega,m3⟩
   ·rename_i hc
    have hc:lt (gp p 0) (gp p (m - 1))=false:=Bool.eq_false_iff.mpr hc
    have eqs:∀ a b,0<=a->a<m->0<=b->b<m->lt (gp p a) (gp p b)=false:=λ a b _ ha _ hb =>
     w.le (w.le (m3 b (m - 1) (by omega) (by omega)) hc) (m3 0 a (by omega) ha)
    have d0:Dw lt p m:=λ i j hij hj=>eqs i j (by omega) (by omega) (by omega) hj
    exact zg0 w hn (hp.rev 0 m) (by omega) (by omega) ((d0.snoc w (by omega) hk).alk w (zmh w hp (by omega) eqs))
  ·have:m=1:=by omega
   subst this
   exact zg0 w hn hp (by omega) (by omega) (Dw.snoc w (λ i j hij hj=>by
    have:i=j:=by omega
    rw[this];exact w.irr _) (by omega) hk)
theorem zji (w:WO lt) (hn:0<n) (hp:Ix n p) {k:Nat} (hu:Up lt p k):∀ (f l r:Nat),l<=r->r<=k->r - l<=f->(∀ a,a<l->lt (gp p k) (gp p a)=false)->(∀ a,r<=a->a<k->lt (gp p k) (gp p a)=true) →
  zfs lt n (kas_place p k f l r) λ m=>m<=k/\(∀ a,a<m->lt (gp p k) (gp p a)=false)/\∀ a,m<=a->a<k->lt (gp p k) (gp p a)=true
 | 0,l,r,hlr,hr,hf,h1,h2=>by
  rw[kas_place.eq_1]
  have:l=r:=by omega
  subst this
  exact⟨by omega,h1,h2⟩
 | f+1,l,r,hlr,hr,hf,h1,h2=>by
  rw[kas_place.eq_2]
  split
  ·have:l=r:=by omega
   subst this
   exact⟨by omega,h1,h2⟩
  ·refine⟨hp.bd hn _,hp.bd hn _,?_⟩
   dsimp only
   split
   ·rename_i hc
    refine zji w hn hp hu f l _ (by omega) (by omega) (by omega) h1 λ a ha hak=>?_
    rcases w.nt _ (gp p a) _ hc with z|z
    ·exact z
    ·rw[hu _ a (by omega) hak] at z;cases z
   ·rename_i hc
    have hc:lt (gp p k) (gp p ((l+r) / 2))=false:=Bool.eq_false_iff.mpr hc
    refine zji w hn hp hu f _ r (by omega) hr (by omega) (λ a ha=>?_) h2
    exact w.le (hu a ((l+r) / 2) (by omega) (by omega)) hc
theorem zx0 (w:WO lt) (hn:0<n):∀ (f:Nat) (p:Array Nat) (x:Nat),Ix n p->1<=x->x+f=n->Up lt p x->zfs lt n (kas_bin f p x) λ q=>Ix n q/\Up lt q n
 | 0,p,x,hp,h1,hf,hu=>by
  rw[kas_bin.eq_1];have:x=n:=by omega
  subst this;exact⟨hp,hu⟩
 | f+1,p,x,hp,h1,hf,hu=>by
  rw[kas_bin.eq_2]
  refine zfs.bind _ ((zji w hn hp hu x 0 x (by omega) (by omega) (by omega) (λ a ha=>absurd ha (by omega)) (λ a h1 h2=>absurd h1 (by omega))).mono λ m ⟨m1,m2,m3⟩=>?_)
  have at_:∀ k,gp (bubble p x (x - m)) k=if k=m then gp p x else if m<k/\k<=x then gp p (k - 1) else gp p k:=λ k=>by
   rw[zku,getElem?_bubble (by rw[hp.size];omega) (x - m) (by omega),show x - (x - m)=m by omega]
   split
   ·rw[zku]
   ·split <;> rw[zku]
  refine zx0 w hn f _ (x+1) (hp.of (bubble_perm _ _ _)) (by omega) (by omega) λ i j hij hj=>?_
  rw[at_,at_]
  by_cases ej:j=m
  ·rw[if_pos ej]
   by_cases ei:i=m
   ·rw[if_pos ei];exact w.irr _
   ·rw[if_neg ei,if_neg (by omega)];exact m2 i (by omega)
  ·rw[if_neg ej]
   by_cases ei:i=m
   ·rw[if_pos ei,if_pos ⟨by omega,by omega⟩];exact w.asy _ _ (m3 (j - 1) (by omega) (by omega))
   ·rw[if_neg ei]
    by_cases hj2:m<j
    ·rw[if_pos ⟨hj2,by omega⟩]
     by_cases hi2:m<i
     ·rw[if_pos ⟨hi2,by omega⟩];exact hu _ _ (by omega) (by omega)
     ·rw[if_neg (by omega)];exact hu _ _ (by omega) (by omega)
    ·rw[if_neg (by omega),if_neg (by omega)];exact hu _ _ hij (by omega)
theorem z0q (w:WO lt) (hn:0<n):zfs lt n (kas_sort n) λ q=>Ix n q/\Up lt q n:=by
 unfold kas_sort
 have h0:Ix n (List.range n).toArray:=by unfold Ix;exact List.Perm.refl _
 refine zfs.bind _ ((zvb w hn h0).mono λ r ⟨r1,r2,r3,r4⟩=>?_)
 split
 ·rw[show max r.1 1=r.1 by omega]
  exact zx0 w hn _ _ _ r1 r3 (by omega) r4
 ·have:r.1=n:=by omega
  rw[this] at r4
  exact⟨r1,r4⟩
end
end L2
namespace L2
open PySem PySem.Spec PyProof.Rows
def z23 (x:Int):List Int->List Int
 | []=>[x]
 | y::r=>if x<=y then x::y::r else y::z23 x r
def zvc:List Int->List Int
 | []=>[]
 | x::r=>z23 x (zvc r)
theorem zg1 (x:Int):∀ l,(z23 x l).Perm (x::l)
 | []=>List.Perm.refl _
 | y::r=>by
  unfold z23
  split
  ·exact List.Perm.refl _
  ·exact ((zg1 x r).cons y).trans (List.Perm.swap x y r)
theorem zdx:∀ l,(zvc l).Perm l
 | []=>List.Perm.refl _
 | x::r=>(zg1 x _).trans ((zdx r).cons x)
theorem zrv (x:Int):∀ {l:List Int},l.Pairwise (·<=·)->(z23 x l).Pairwise (·<=·)
 | [],_=>List.pairwise_singleton _ _
 | y::r,h=>by
  unfold z23
  split
  ·rename_i hxy
   refine List.pairwise_cons.mpr ⟨λ z hz=>?_,h⟩
   rcases List.mem_cons.mp hz with rfl|hz
   ·exact hxy
   ·exact Int.le_trans hxy ((List.pairwise_cons.mp h).1 z hz)
  ·rename_i hxy
   refine List.pairwise_cons.mpr ⟨λ z hz=>?_,zrv x (List.pairwise_cons.mp h).2⟩
   rcases List.mem_cons.mp ((zg1 x r).mem_iff.mp hz) with rfl|hz
   ·omega
   ·exact (List.pairwise_cons.mp h).1 z hz
theorem zrw:∀ l,(zvc l).Pairwise (·<=·)
 | []=>List.Pairwise.nil
 | x::r=>zrv x (zrw r)
theorem z0r {a b:List Int} (hp:a.Perm b) (ha:a.Pairwise (·<=·)) (hb:b.Pairwise (·<=·)):a=b :=
 hp.eq_of_pairwise (λ x y _ _ h1 h2=>Int.le_antisymm h1 h2) ha hb
theorem zrx:∀ (ns:List Int) (us:List Value),us.length=ns.length->(∀ (j:Nat) (v:Value),us[j]?=some v->∃ i,ns[j]?=some i/\∃ t:Tok,v=Value.int i t)->IntsAre us ns
 | [],[],_,_=>.nil
 | [],_::_,h,_=>by simp at h
 | _::_,[],h,_=>by simp at h
 | n::ns,u::us,h,f=>by
  obtain ⟨i,h1,t,rfl⟩:=f 0 u rfl
  cases h1
  exact .cons _ t (zrx ns us (by simpa using h) λ j v e=>f (j+1) v (by simpa using e))
theorem KV.fst {κ:Type}:∀ {kvs:List (κ×V)}{vs:List (κ×Value)},KV kvs vs->vs.map Prod.fst=kvs.map Prod.fst
 | _,_,.nil=>rfl
 | _,_,.cons a b=>by rw[List.map_cons,List.map_cons,a.1,KV.fst b]
theorem KV.len {κ:Type}{kvs:List (κ×V)}{vs:List (κ×Value)} (h:KV kvs vs):kvs.length=vs.length:=Paired.length h
def z5j:List V->Hp->VK->Prop:=λ xs H Q=>∃ a kvs ns,xs=[.ref a]/\Rd H a (.dK kvs)/\kvs.map Prod.fst=ns.map Sum.inl/\ns.length<64/\∀ p,H p=none->Q (.ref p) (upd H p (.lst ((zvc ns).map V.int)))
section
variable {X:Cx}
theorem zkv (hc:X.calm=true):zcn X (.builtin "sorted") z5j:=by
 intro pins s σ H xs us Q I rv h
 obtain ⟨a,kvs,ns,rfl,hr,hk,h64,q⟩:=h
 obtain ⟨u,rfl,ru⟩:=zgh rv
 cases ru
 obtain ⟨z,hd,vs,rel,dd⟩:=zkp I.hok hr
 obtain ⟨ep,hat⟩:=dd.dictAt
 have hlen:vs.length=ns.length:=by rw[<-KV.len rel,<-List.length_map (f:=Prod.fst),hk,List.length_map]
 refine PySem.Calls.call_function_entry kind_sorted plain_sorted entry_sorted (args_sorted1 _) ?_
 unfold Builtin.«sorted»
 refine wpAny_bind (m:=checkCount "sorted" 1 1 _) (wpAny_pure ?_)
 refine wpAny_bind (PySem.W.kdu_collect (A:=X.A.in1) (PySem.W.kdl_dict (knd:=zbg X.prog X.w) (kvs:=vs) (ep:=ep) hd) (I.ok.hd hc) hat (by rw[hlen];exact sz (by omega)) λ h' tk acc hkeep hacc=>?_)
 have hal:acc.toList.length=ns.length:=by rw[Array.length_toList,<-hlen];exact hacc.1
 have hI:IntsAre acc.toList ns:=zrx ns _ hal λ j v e=>by
  obtain ⟨k,x,e1,e2⟩:=hacc.2 j v (by rw[<-Array.getElem?_toList];exact e)
  have e3:(vs.map Prod.fst)[j]?=some k:=by rw[List.getElem?_map,e1];rfl
  rw[KV.fst rel,hk,List.getElem?_map] at e3
  obtain ⟨i,h1,h2⟩:=Option.map_eq_some_iff.mp e3
  subst h2
  rcases za7 (show zln (Sum.inl i) v=true from e2) with ⟨i',t,h3,h4⟩|⟨x',t,h3,h4⟩
  ·cases h3;exact⟨i,h1,t,h4⟩
  ·cases h3
 refine wpAny_bind (wpAny_newList ?_ (by rw[hal];exact sz (by omega)))
 have hoL:(h'.push (seqObj "list" acc.toList.toArray 0)).get? h'.objs.size=some (seqObj "list" acc.toList.toArray 0):=Heap.get?_push_size _ rfl
 refine wpAny_bind (wpAny_holding (wpAny_call_entry slot_list_sort ⟨_,hoL,rfl⟩ entry_list_sort (list_sort_tree hoL hI (by rw[hal];exact h64) λ out ns' a1 a2 a3=>⟨_,rfl,?_⟩) (args_list_sort _)))
 refine wpAny_pure ⟨_,rfl,?_⟩
 obtain ⟨e,he⟩:=sortedHeap_at (out:=out) hoL
 have I1:Inv X pins σ H { s with heap:=h',toks:=tk }:=I.kept hkeep
 have e2:=z0r (a2.trans (zdx ns).symm) a3 (zrw ns)
 subst e2
 refine⟨.ref h'.objs.size,upd H h'.objs.size (.lst ((zvc ns).map V.int)),I1.laid (t':=tk) (λ b ob qb=>?_) (Nat.le_refl _) ?_,rfl,q _ (I1.hok.fresh (Nat.le_refl _))⟩
 ·have qb:h'.get? b=some ob:=qb
  have hb:b<h'.objs.size:=Heap.lt_size qb
  rw[sortedHeap_old (Nat.ne_of_lt hb) (by rw[size_push'];exact Nat.lt_succ_of_lt hb),Heap.get?_push_ne _ _ _ (Nat.ne_of_lt hb)]
  exact qb
 ·refine⟨by rw[List.length_map,(zdx ns).length_eq];exact sz (by omega),out.toList,e,zgl a1,?_⟩
  simpa using he
def zoz:List Key->Option (List Int)
 | []=>some []
 | .inl i::r=>(zoz r).map (i::·)
 | .inr _::_=>none
theorem znm:∀ {ks:List Key}{ns:List Int},zoz ks=some ns->ks=ns.map Sum.inl
 | [],_,h=>by cases h;rfl
 | .inl i::r,ns,h=>by
  unfold zoz at h
  obtain ⟨m,h1,h2⟩:=Option.map_eq_some_iff.mp h
  subst h2
  rw[znm h1];rfl
 | .inr _::_,_,h=>by cases h
theorem zvd (ns:List Int):zoz (ns.map Sum.inl)=some ns:=by
 induction ns with
 | nil=>rfl
 | cons a r ih=>rw[List.map_cons,zoz,ih];rfl
def zkw:List D->Option (List D)
 | [.dk ks _]=>(zoz ks).bind λ ns=>if ns.length<64 then some ((zvc ns).map D.int) else none
 | _=>none
variable {B:Bs}{a:Expr}{fr:Rho->Option (List D)}{pos:Pos}
theorem zve {p:Pos} (hc:X.calm=true) (hg:Gl X "sorted") (hm:X.mg "sorted" = none) (ha:PA X [a] (aB X.K B fr)) (he:starEach [a] X.env=[(false,eval a X.env)]:=by rfl):PE X (.Call (.Name "sorted" p) [a] [] pos) (eW X.K B (wN zkw fr)) :=
 (ziq (zkv hc) hg hm zgp ha (by decide) (by decide) he rfl).imp λ σ H Q ⟨Hf,ρ,z,I,hz,q⟩=>by
  obtain ⟨ds,hd,hz⟩:=bind_some hz
  refine⟨Hf,ρ,ds,I,hd,λ Hf1 H1 vs ex dvs=>?_⟩
  unfold zkw at hz
  split at hz
  ·obtain ⟨ns,h1,hz⟩:=bind_some hz
   split at hz
   ·rename_i h64
    cases hz
    obtain ⟨x,rfl,hx⟩:=zcd dvs
    obtain ⟨b,kvs,rfl,h3,h4,_⟩:=hx.dk ex.fh
    exact⟨b,kvs,ns,rfl,.of h3,by rw[h4];exact znm h1,h64,λ p hp=>q Hf1 _ p _ (ex.trans (Ex.made (o:=.lst ((zvc ns).map V.int)) ex.fh hp)) (ex.hh.free hp) (ex.fh.free hp) zac (zjc _)⟩
   ·cases hz
  ·cases hz
end
def toD:Sl->D
 | .sh d=>d
 | .ow ds=>.lst ds
 | .dk ks ds=>.dk ks ds
 | .dt ks ds=>.dt ks ds
section
variable {X:Cx}{B:Bs}{K:PySem.W.Frag}{sts:List Stmt}{f:Rho->Out}
theorem VI.frzG {Hf H:Hp}{ρ:Rho}{σ:St}{i:Nat}{sl:Sl} (I:VI K B Hf ρ σ H) (hi:ρ[i]?=some (some sl)) (ho:zd5 sl=true):∃ Hf',zar Hf Hf'/\VI K B Hf' (ρ.set i (some (.sh (toD sl)))) σ H:=by
 obtain ⟨v,h1,h2⟩:=I.ok i _ hi
 obtain ⟨p,ob,rfl,hf,hH⟩:=h2.own ho
 have hB:=I.own i _ p hi ho h1
 have hs:=zaq (o:=ob) hf
 have dn:Dn K (upd Hf p ob) (toD sl) (.ref p):=by
  cases sl with
  | sh d=>cases ho
  | ow ds=>obtain ⟨q,xs,e,_,h3,h4⟩:=h2;cases e;rw[h3] at hH;cases hH;exact zc1 (SqL.of zac) (Dns.same h4 hs)
  | dk ks ds=>obtain ⟨q,xs,e,_,h3,h4,h5⟩:=h2;cases e;rw[h3] at hH;cases hH;exact z4v zac h4 (Dns.same h5 hs)
  | dt ks ds=>obtain ⟨q,xs,e,_,h3,h4,h5⟩:=h2;cases e;rw[h3] at hH;cases hH;exact zz7 zac h4 (Dns.same h5 hs)
 have hlt:=(List.getElem?_eq_some_iff.mp hi).1
 have g:∀ {j:Nat} {s:Sl},(ρ.set i (some (.sh (toD sl))))[j]?=some (some s)->(j=i/\s=.sh (toD sl))\/(j≠i/\ρ[j]?=some (some s)):=λ {j s} e=>by
  by_cases hj:i=j
  ·subst hj
   rw[List.getElem?_set_self hlt] at e
   cases e
   exact .inl ⟨rfl,rfl⟩
  ·rw[List.getElem?_set_ne hj] at e
   exact .inr ⟨λ z=>hj z.symm,e⟩
 have nfz:∀ x u,ob≠.frz x u:=λ x u z=>by
  subst z
  cases sl with
  | sh d=>cases ho
  | ow ds=>obtain ⟨q,xs,e,_,h3,_⟩:=h2;cases e;rw[h3] at hH;cases hH
  | dk ks ds=>obtain ⟨q,xs,e,_,h3,_⟩:=h2;cases e;rw[h3] at hH;cases hH
  | dt ks ds=>obtain ⟨q,xs,e,_,h3,_⟩:=h2;cases e;rw[h3] at hH;cases hH
 refine⟨upd Hf p ob,hs,I.ex.frz hB hH hf nfz,by simp[I.len],λ j s e=>?_,λ j s p' e o q=>?_,λ j k sj sk p' e1 e2 o1 o2 q1 q2=>?_⟩
 ·rcases g e with ⟨rfl,rfl⟩|⟨hj,e⟩
  ·exact⟨_,h1,dn⟩
  ·obtain ⟨u,g1,g2⟩:=I.ok j s e
   refine⟨u,g1,?_⟩
   have ne:∀ {p':Addr},zd5 s=true->u=.ref p'->p'≠p:=λ {p'} o z1 z2=>by
    subst z1 z2
    exact hj (I.dis j i s _ _ e hi o ho g1 h1)
   cases s with
   | sh d=>exact Dn.same g2 hs
   | ow d=>obtain ⟨p',xs,e1,e2,e3,e4⟩:=g2;exact⟨p',xs,e1,by rw[zaf (ne rfl e1)];exact e2,e3,Dns.same e4 hs⟩
   | dk ks d=>obtain ⟨p',xs,e1,e2,e3,e4⟩:=g2;exact⟨p',xs,e1,by rw[zaf (ne rfl e1)];exact e2,e3,e4.1,Dns.same e4.2 hs⟩
   | dt ks d=>obtain ⟨p',xs,e1,e2,e3,e4⟩:=g2;exact⟨p',xs,e1,by rw[zaf (ne rfl e1)];exact e2,e3,e4.1,Dns.same e4.2 hs⟩
 ·rcases g e with ⟨rfl,rfl⟩|⟨hj,e⟩
  ·cases o
  ·exact I.own j s p' e o q
 ·rcases g e1 with ⟨rfl,rfl⟩|⟨hj,e1⟩
  ·cases o1
  ·rcases g e2 with ⟨rfl,rfl⟩|⟨hk,e2⟩
   ·cases o2
   ·exact I.dis j k sj sk p' e1 e2 o1 o2 q1 q2
def zvf (i:Nat) (f:Rho->Out):Rho->Out:=λ ρ=>match ρ[i]? with
 | some (some sl)=>if zd5 sl=true then f (ρ.set i (some (.sh (toD sl)))) else f ρ
 | _=>f ρ
theorem zx1 (i:Nat) (h:PSs X sts (sV X.K B f)):PSs X sts (sV X.K B (zvf i f)):=h.imp λ D σ H ⟨Hf,ρ,I,q⟩=>by
 unfold zvf at q
 split at q
 ·rename_i sl e
  split at q
  ·rename_i ho
   obtain ⟨Hf',z,I'⟩:=I.frzG e ho
   exact⟨Hf',_,I',zeo.mono q z⟩
  ·exact⟨Hf,ρ,I,q⟩
 ·exact⟨Hf,ρ,I,q⟩
def z5k (ds:List D) (k d:D):Option (List D):=(toI k).bind λ n=>(ixN ds.length n).map λ j=>ds.set j d
def zo0 (i:Nat) (fk fv:Rho->Option D):Rho->Out:=λ ρ=>match ρ[i]? with
 | some (some (.ow ds))=>match (fv ρ).bind λ d=>(fk ρ).bind λ k=>z5k ds k d with|some ds'=>.nx (ρ.set i (some (.ow ds')))|none=>.bad
 | _=>.bad
variable {fk fv:Rho->Option D}{pos:Pos}{ix:Expr}
theorem z5l {j:Nat}{x:Str}{value:Expr}{p1 pos':Pos} (hN:X.N[j]?=some x) (hi:PE X ix (eB X.K B fk)) (hv:PE X value (eV X.K B fv)) (hvis:Vis X.env.scope x:=by first|exact Or.inl rfl|exact Or.inr (Or.inl rfl)|exact Or.inr (Or.inr rfl)) (hd:(x == ("__debug__" : Str))=false:=by decide) (hcd:(x == ("__classdict__" : Str))=false:=by decide)
  (ha:∀ v,assign (.Subscript (.Name x p1) ix pos') X.env v=(do
   let ov ← holding [v] (eval (.Name x p1) X.env)
   let iv ← holding [v,ov] (eval ix X.env)
   standAt pos'
   holding [v,ov,iv] (setItem ov iv v)
   release [v,ov,iv] []):=by intro _;rfl)
  (hs:swapsWithSole [.Subscript (.Name x p1) ix pos'] value pos.line X.env=pure false:=by rfl) (hw:swappedStores [.Subscript (.Name x p1) ix pos'] value X.env=pure none:=by rfl) (h1:(assignEach [.Subscript (.Name x p1) ix pos'] X.env).map (·.2)=[assign (.Subscript (.Name x p1) ix pos') X.env]:=by rfl) :
  PS X (.Assign [.Subscript (.Name x p1) ix pos'] value pos) (sV X.K B (zo0 j fk fv)) :=
 (zpp hv (z3n (zcc hN hvis hd hcd) hi zuh ha) hs hw h1).imp λ D σ H ⟨Hf,ρ,I,q⟩=>by
  unfold zo0 at q
  split at q
  ·rename_i ds hsl
   split at q
   ·rename_i ds' hz
    obtain ⟨d,hfv,hz⟩:=bind_some hz
    obtain ⟨k,hfk,hz⟩:=bind_some hz
    obtain ⟨n,hn,hz⟩:=bind_some hz
    obtain ⟨m,hm,hz⟩:=Option.map_eq_some_iff.mp hz
    subst hz
    obtain ⟨v0,g1,g2⟩:=I.ok j _ hsl
    refine⟨Hf,ρ,d,I,hfv,λ Hf1 H1 v ex1 dv=>⟨v0,g1,Hf1,ρ,k,I.ext ex1,hfk,λ Hf2 H2 y ex2 dk=>?_⟩⟩
    obtain ⟨p,xs,rfl,hf,hH,dn⟩:=(zl1.ext g2 ex1).ext ex2
    unfold toI at hn
    split at hn
    ·cases hn
     refine⟨p,xs,_,m,rfl,dk.sc.2,hH,by rw[<-dn.length];exact hm,q Hf2 σ _ (ex1.ff.trans ex2.ff) ?_⟩
     exact ((I.ext ex1).ext ex2).mut hsl g1 (dn.zset (dv.same ex2.ff) m)
    ·cases hn
   ·exact q.elim
  ·exact q.elim
end
def zry:List D->Option D
 | [.sc (.int i)]=>if i.natAbs.log2<1920 then some (.sc (.str (toString i:String))) else none
 | _=>none
theorem z0s {K:PySem.W.Frag}:PN K (λ xs H Q=>∃ i,xs=[.int i]/\i.natAbs.log2<1920/\Q (.str (toString i:String)) H) zry:=by
 intro Hf H xs ds z Q s hd hz q
 unfold zry at hz
 split at hz
 ·split at hz
  ·rename_i hk
   cases hz
   obtain ⟨x,rfl,hx⟩:=zcd hd
   rw[hx.sc.2]
   exact⟨_,rfl,hk,q Hf H _ (.refl s) (zbh rfl)⟩
  ·cases hz
 ·cases hz
def yc0:=gII λ i j=>.bl (decide (i<j))
theorem zvg:typeLookup (.type "list_reverseiterator") "__len__" = pure none:=by rw[typeLookup_type,builtinLookup_eq_fast];kernel_rfl
theorem z0t:typeLookup (.type "list_reverseiterator") "__length_hint__" = pure (some (.builtin "list_reverseiterator.__length_hint__")):=by rw[typeLookup_type,builtinLookup_eq_fast];kernel_rfl
section
variable {prog:Program}{w:World}{A:Around}{E:Value->Shared->Prop}{s:Shared}
theorem z5m {I l:Addr}{i:Int}{Q:Bool->Shared->Prop} (hit:s.heap.IsRevIter I l i) (h:Q false s):wpAny (model prog w) A (Builtin.List.listLengthHint (.ref I)) Q E s:=by
 unfold Builtin.List.listLengthHint
 refine wpAny_bind (wpAny_specialOf hit.typeIs zvg ?_)
 show wpAny _ A (specialOf (Value.ref I) (Str.ofString "__length_hint__") >>= _) _ _ _;refine wpAny_bind (wpAny_specialOf hit.typeIs z0t ?_)
 generalize hid:("list_reverseiterator.__length_hint__" : String)=id0
 wp_delta
 rw[show splitId id0=some ("list_reverseiterator","__length_hint__") from by subst hid;decide +kernel]
 subst hid
 refine wpAny_bind (wpAny_isInstance (T:="list_reverseiterator") (b:=true) hit.typeIs (by rw[isSubtype_type];kernel_rfl) ?_)
 exact wpAny_pure h
theorem z0u {l I:Addr}{items:Array Value}{Q:Value->Shared->Prop} (hh:A.handled=none) (hit:s.heap.IsRevIter I l ((items.size:Int) - 1)) (hl:s.heap.IsList l items) (hne:l≠I) (hn:items.size<=sizeLine)
  (hQ:∀ h' tk acc c,(∀ b o,b≠I->s.heap.get? b=some o->h'.get? b=some o)->h'.get? s.heap.objs.size=some { cls:=.type "list",dict:=none,data:=.seq acc c,slots:=#[] }->ItemsOf (λ i v=>items[items.size - 1 - i]?=some v) acc items.size->Q (.ref s.heap.objs.size) { s with heap:=h',toks:=tk }) :
  wpAny (model prog w) A (call (.type "list") [.ref I]) Q E s:=by
 have hI:I<s.heap.objs.size:=by obtain ⟨o,ho,_⟩:=hit;exact Heap.lt_size ho
 have hL:l<s.heap.objs.size:=by obtain ⟨o,ho,_⟩:=hl;exact Heap.lt_size ho
 refine callType_codes (Q₁:=λ obj s₁=>obj=.ref s.heap.objs.size/\s₁={ s with heap:=s.heap.push { cls:=.type "list",data:=.seq #[] } }) PySem.F.called_list (PySem.F.typeCall_list_1 _) PySem.F.entry_list_init (code_list_new _ ⟨rfl,rfl⟩) λ obj s₁ h₁=>?_
 obtain ⟨rfl,rfl⟩:=h₁
 have hS:(s.heap.push { cls:=.type "list",data:=.seq #[] }).get? s.heap.objs.size=some { cls:=.type "list",data:=.seq #[] }:=Heap.get?_push_size _ rfl
 refine⟨⟨_,hS,rfl⟩,PySem.F.args_list_init_2 _ _,?_⟩
 show wpAny _ _ (do let old ← Builtin.List.listItems (.ref s.heap.objs.size);Builtin.List.listUpdate (.ref s.heap.objs.size) (λ _=>#[]);letGo old.toList.reverse;Builtin.List.listExtendWith (.ref s.heap.objs.size) (.ref I) .none) _ _ _
 refine wpAny_bind (listItems_at hS rfl ?_)
 refine wpAny_bind (listUpdate_at hS rfl ?_ (Nat.zero_le _) (Nat.zero_le _))
 refine wpAny_bind (wpAny_letGo ?_)
 have hS₂:=Heap.get?_update_self (Obj.mapSeq (λ _=>(#[]:Array Value))) hS rfl
 have oth:∀ b o,b≠s.heap.objs.size->s.heap.get? b=some o->((s.heap.push { cls:=.type "list",data:=.seq #[] }).update s.heap.objs.size (Obj.mapSeq (λ _=>(#[]:Array Value)))).get? b=some o:=λ b o hb e=>(Heap.get?_update_other _ _ (Ne.symm hb)).trans (Heap.get?_push_of_some _ e)
 have hit2:=hit.at (h':=(s.heap.push { cls:=.type "list",data:=.seq #[] }).update s.heap.objs.size (Obj.mapSeq (λ _=>(#[]:Array Value)))) λ o e=>oth I o (Nat.ne_of_lt hI) e
 have hl2:=hl.at (h':=(s.heap.push { cls:=.type "list",data:=.seq #[] }).update s.heap.objs.size (Obj.mapSeq (λ _=>(#[]:Array Value)))) λ o e=>oth l o (Nat.ne_of_lt hL) e
 have W:=Walks.listRev (prog:=prog) (w:=w) (A:=A.in1.in1) hh I l hne items
 have h1:Builtin.List.listSameRef (.ref s.heap.objs.size) (.ref I)=false:=by simp[Builtin.List.listSameRef,Nat.ne_of_gt hI]
 have hSf:s.heap.objs.size ∉ [I,l]:=by simp only[List.mem_cons,List.not_mem_nil,or_false,not_or];exact⟨Nat.ne_of_gt hI,Nat.ne_of_gt hL⟩
 unfold Builtin.List.listExtendWith
 refine wpAny_bind (wpAny_typeOf (T:="list_reverseiterator") hit2.typeIs ?_)
 rw[if_neg (by rw[h1];decide)]
 refine wpAny_bind (wpAny_pyIter_revIter hit2 ?_)
 refine wpAny_bind (wpAny_holding (z5m hit2 ?_))
 rw[if_neg (by decide)]
 refine wpAny_pure ⟨plainId_quiet PySem.F.plain_extend_loop _,codeAny_extend_loopS W.toS hn _ hSf _ items.size 0 _ #[] _ rfl (Nat.zero_le _) ⟨Nat.zero_le _,by simpa using hit2,hl2⟩ hS₂ (ItemsOf.nil _) λ s' acc' c' hm hS' hacc=>?_⟩
 rw[Moved.eq_with hm]
 refine⟨rfl,hQ s'.heap s'.toks acc' c' (λ b o hb e=>hm.heap b o (λ hmem=>?_) (oth b o (Nat.ne_of_lt (Heap.lt_size e)) e)) hS' hacc⟩
 rcases List.mem_cons.mp hmem with e'|hmem
 ·exact absurd (Heap.lt_size e) (by rw[e'];exact Nat.lt_irrefl _)
 ·exact hb (List.mem_singleton.mp hmem)
end
def z74:List D->Option (List D)
 | [.lst ds]=>some ds.reverse
 | _=>none
section
variable {X:Cx}{B:Bs}{a:Expr}{fr:Rho->Option (List D)}{pos:Pos}
theorem zvh {ys:List V}{its:List Value} (r:zbj ys its) {acc:Array Value} (h:ItemsOf (λ i v=>its.toArray[its.toArray.size - 1 - i]?=some v) acc its.toArray.size):zbj ys.reverse acc.toList:=by
 have e:acc.toList=its.reverse:=by
  apply List.ext_getElem?
  intro i
  obtain ⟨h1,h2⟩:=h
  have h1:acc.size=its.length:=h1.trans (by simp)
  by_cases hi:i<acc.size
  ·have e1:acc[i]?=some acc[i]:=Array.getElem?_eq_getElem hi
   have:=h2 i _ e1
   rw[Array.getElem?_toList,e1,<-this,List.getElem?_reverse (by omega)]
   simp
  ·rw[Array.getElem?_toList,Array.getElem?_eq_none (by omega),List.getElem?_eq_none (by rw[List.length_reverse];omega)]
 rw[e]
 exact Paired.zrev r
def z94 (K:PySem.W.Frag):List V->Hp->VK->Prop:=λ xs H Q=>∃ p ys,xs=[.ref p]/\SqL K H p ys/\∀ l,H l=none->Q (.ref l) (upd H l (.lst ys.reverse))
theorem z0v {p p2 pos2:Pos}{t:TA} (hc:X.calm=true) (hg:Gl X "list") (hm:X.mg "list" = none) (hg2:Gl X "reversed") (hm2:X.mg "reversed" = none) (ha:PA X [a] t) (he:starEach [a] X.env=[(false,eval a X.env)]:=by rfl)
  (he2:starEach [.Call (.Name "reversed" p2) [a] [] pos2] X.env=[(false,eval (.Call (.Name "reversed" p2) [a] [] pos2) X.env)]:=by rfl):PE X (.Call (.Name "list" p) [.Call (.Name "reversed" p2) [a] [] pos2] [] pos) (tCB (z94 X.K) t):=by
 intro pins s σ H Q I h
 refine wpAny_Call_Name_kw (zer I hg hm zek ?_ (by decide) (by decide))
 refine PyProof.Rows.callWith_type1 ?_ he2 rfl
 rw[he2]
 show wpAny _ _ (spliced [(false,eval (.Call (.Name "reversed" p2) [a] [] pos2) X.env)]) _ _ s
 refine Calls.spliced_cons (wpAny_Call_Name_kw (zer I hg2 hm2 zlv ?_ (by decide) (by decide)))
 refine PyProof.Rows.callWith_type1 (thn (ha pos2 pins s σ H _ I h) λ us s1 ⟨vs,H1,I1,r1,q0,ys,e,hq,q⟩=>?_) he rfl
 subst e
 obtain ⟨u,rfl,ru⟩:=zgh r1
 cases ru
 obtain ⟨its,r,pl,hz⟩:=I1.list hq
 have e:its.toArray.size=ys.length:=by rw[List.size_toArray];exact r.length.symm
 have hlt:q0<s1.heap.objs.size:=by obtain ⟨_,h1,_⟩:=pl.isList;exact Heap.lt_size h1
 refine call_reversed_list pl.isList (Calls.spliced_nil ?_)
 have I2:Inv X pins σ H1 { s1 with heap:=s1.heap.push (revObj q0 ((its.toArray.size:Int) - 1)) }:=I1.kept (t':=s1.toks) λ b o e=>Heap.get?_push_of_some _ e
 have l2:({ s1 with heap:=s1.heap.push (revObj q0 ((its.toArray.size:Int) - 1)) }:Shared).heap.IsList q0 its.toArray:=pl.isList.push _
 refine z0u (l:=q0) (I:=s1.heap.objs.size) (items:=its.toArray) (I.ok.hd hc) ⟨_,Heap.get?_push_size _ rfl,rfl,rfl⟩ l2 (Nat.ne_of_lt hlt) (by rw[e];exact hz) λ h' tk acc c keep hl hacc=>?_
 have hacc':=zvh r hacc
 have fp:=I1.fpOk (H':=H1) (Nat.le_refl s1.heap.objs.size) (I1.hok.fresh (Nat.le_refl _))
 obtain ⟨f0,f1,f2,f3,f4,f5⟩:=fp
 have hs2:(s1.heap.push (revObj q0 ((its.toArray.size:Int) - 1))).objs.size=s1.heap.objs.size+1:=size_push' _ _
 have I3:=I2.laid (a:=(s1.heap.push (revObj q0 ((its.toArray.size:Int) - 1))).objs.size) (o:=.lst ys.reverse) (t':=tk) (h':=(s1.heap.push (revObj q0 ((its.toArray.size:Int) - 1))).push { cls:=.type "list",dict:=none,data:=.seq acc c,slots:=#[] }) (λ b ob eb=>Heap.get?_push_of_some _ eb) (Nat.le_refl _)
  ⟨by rw[List.length_reverse];exact hz,acc.toList,c,hacc',Heap.get?_push_size _ rfl⟩
 have I4:=I3.turned (t':=tk) (it:=s1.heap.objs.size) (h':=h') (λ b ob hb eb=>by
  by_cases hbs:b=(s1.heap.push (revObj q0 ((its.toArray.size:Int) - 1))).objs.size
  ·subst hbs
   have eb:((s1.heap.push (revObj q0 ((its.toArray.size:Int) - 1))).push { cls:=.type "list",dict:=none,data:=.seq acc c,slots:=#[] }).get? (s1.heap.push (revObj q0 ((its.toArray.size:Int) - 1))).objs.size=some ob:=eb
   rw[Heap.get?_push_size _ rfl] at eb
   cases eb
   exact hl
  ·have eb:((s1.heap.push (revObj q0 ((its.toArray.size:Int) - 1))).push { cls:=.type "list",dict:=none,data:=.seq acc c,slots:=#[] }).get? b=some ob:=eb
   rw[Heap.get?_push_ne _ _ _ hbs] at eb
   exact keep b ob hb eb) (by rw[zaf (by rw[hs2];exact Nat.ne_of_lt (Nat.lt_succ_self _))];exact f0) f1 f3 f4 f5
 exact⟨.ref _,_,I4,rfl,q _ (I2.hok.fresh (Nat.le_refl _))⟩
theorem z5n {p p2 pos2:Pos} (hc:X.calm=true) (hg:Gl X "list") (hm:X.mg "list" = none) (hg2:Gl X "reversed") (hm2:X.mg "reversed" = none) (ha:PA X [a] (aB X.K B fr)) (he:starEach [a] X.env=[(false,eval a X.env)]:=by rfl)
  (he2:starEach [.Call (.Name "reversed" p2) [a] [] pos2] X.env=[(false,eval (.Call (.Name "reversed" p2) [a] [] pos2) X.env)]:=by rfl):PE X (.Call (.Name "list" p) [.Call (.Name "reversed" p2) [a] [] pos2] [] pos) (eW X.K B (wN z74 fr)) :=
 (z0v hc hg hm hg2 hm2 ha he he2).imp λ σ H Q ⟨Hf,ρ,z,I,hz,q⟩=>by
  obtain ⟨ds,hd,hz⟩:=bind_some hz
  refine⟨Hf,ρ,ds,I,hd,λ Hf1 H1 vs ex dvs=>?_⟩
  unfold z74 at hz
  split at hz
  ·cases hz
   obtain ⟨x,rfl,hx⟩:=zcd dvs
   obtain ⟨b,ys,rfl,h1,h2⟩:=hx.lst ex.fh
   exact⟨b,ys,rfl,h1,λ l hl=>q Hf1 _ l ys.reverse (ex.trans (Ex.made (o:=.lst ys.reverse) ex.fh hl)) (ex.hh.free hl) (ex.fh.free hl) zac h2.zrev⟩
  ·cases hz
end
section
variable {prog:Program}{w:World}{A:Around}{E:Value->Shared->Prop}{s:Shared}
theorem zvi {k:Nat}{ds es:List D}{its its':List Value} (p:Paired (HD s.heap k) ds its) (p':Paired (HD s.heap k) es its') (ho:∀ q∈ds.zip es,zm5 k q.1 q.2) (hu:A.units+k<cLine) (j:Nat) (j1:j<its.toArray.size) (j2:j<its'.toArray.size) :
  SeqAt.EqAt A s its.toArray[j] its'.toArray[j] (eAt (eqD k) ds es j)/\(eAt (eqD k) ds es j=false->zzi A s its.toArray[j] its'.toArray[j] (eAt (ltD k) ds es j)):=by
 have x1:its[j]?=some its.toArray[j]:=by simp at j1;simp[j1]
 have x2:its'[j]?=some its'.toArray[j]:=by simp at j2;simp[j2]
 obtain ⟨d,q1,r1⟩:=zay p x1
 obtain ⟨e,q2,r2⟩:=zay p' x2
 have z:eAt (eqD k) ds es j=eqD k d e:=by unfold eAt;rw[q1,q2]
 have z':eAt (ltD k) ds es j=ltD k d e:=by unfold eAt;rw[q1,q2]
 rw[z,z']
 exact⟨ziv r1 r2 hu,λ _=>zzj r1 r2 (ho (d,e) (zlt q1 q2)) hu⟩
theorem zig {k:Nat}{ds es:List D}{u v:Value}{Q:Bool->Shared->Prop} (h1:HD s.heap (k+1) (.lst ds) u) (h2:HD s.heap (k+1) (.lst es) v) (ho:zm5 (k+1) (.lst ds) (.lst es)) (hu:A.units+(k+1)<cLine) (q:Q (ltD (k+1) (.lst ds) (.lst es)) s):wpAny (model prog w) A (oneLt' true u v) Q E s:=by
 obtain ⟨a,its,rfl,t,p⟩:=h1
 obtain ⟨a',its',rfl,t',p'⟩:=h2
 have l1:=p.length
 have l2:=p'.length
 obtain ⟨⟨cls,dd,data,sl⟩,hx,hc,n,hd⟩:=t.isList
 obtain ⟨⟨cls2,dd2,data2,sl2⟩,hx2,hc2,n2,hd2⟩:=t'.isList
 simp only at hc hd hc2 hd2
 subst hc hd hc2 hd2
 have q':Q (zki (eAt (eqD k) ds es) (eAt (ltD k) ds es) its.toArray.size its'.toArray.size its.toArray.size 0) s:=by
  simp only[List.size_toArray]
  rw[<-l1,<-l2,zgn]
  exact q
 rw[oneLt'_eq]
 simp only[if_true]
 refine wpAny_bind (wpAny_cRoomFor_or (.inr (by omega)) ?_)
 refine wpAny_bind (wpAny_callSpecialIfBound?_slot (name:=Str.ofString "__lt__") ⟨_,hx,rfl⟩ PySem.F.slot_list_lt (call_meets PySem.F.slot_list_lt ⟨_,hx,rfl⟩ PySem.F.entry_list_lt (PySem.F.args_list_lt_2 _ _) (zkj a a' its.toArray its'.toArray n n2 dd dd2 sl sl2 _ _) ⟨hx,hx2,zvi p p' ho (by show A.units+1+k<cLine;omega),?_⟩))
 exact wpAny_truthy_bool q'
def znn:D->Bool|.lst _=>true|_=>false
theorem zkx {k:Nat}{Q:Bool->Shared->Prop}{fin:Bool} (hu:A.units+(k+1)<cLine):∀ {ds es:List D}{its its':List Value} (i:Nat),Paired (HD s.heap (k+1)) ds its->Paired (HD s.heap (k+1)) es its'->(∀ q∈ds.zip es,zm5 (k+1) q.1 q.2) →
  (i=0->(ds.head?.map znn).getD true=true/\(es.head?.map znn).getD true=true)->fin=decide (ds.length<es.length)->Q (lex (eqD (k+1)) (ltD (k+1)) ds es) s->PySem.W.KatLex prog w A true fin Q (its.zip its') i s
 | [],[],_,_,i,.nil,.nil,_,_,hf,q=>by subst hf;exact PySem.W.kat_nil (by simpa [lex] using q)
 | [],_::_,_,_,i,.nil,.cons _ _,_,_,hf,q=>by subst hf;exact PySem.W.kat_nil (by simpa [lex] using q)
 | _::_,[],_,_,i,.cons _ _,.nil,_,_,hf,q=>by subst hf;exact PySem.W.kat_nil (by simpa [lex] using q)
 | d::ds,e::es,_,_,i,.cons a b,.cons a' b',ho,hh,hf,q=>by
  rw[List.zip_cons_cons]
  have ho':∀ q∈ds.zip es,zm5 (k+1) q.1 q.2:=λ q hq=>ho q (by rw[List.zip_cons_cons];exact List.mem_cons_of_mem _ hq)
  have hde:=ho (d,e) (by rw[List.zip_cons_cons];exact List.mem_cons_self)
  refine PySem.W.kat_cons (ziv a a' hu prog w _ _ (PySem.W.kat_go (λ he=>PySem.W.kat_yes ?_) λ he=>PySem.W.kat_no ?_))
  ·refine zkx hu (i+1) b b' ho' (λ z=>by omega) (by rw[hf];simp) ?_
   rw[lex,if_pos he] at q
   exact q
  ·rw[lex,if_neg (by rw[he];exact Bool.false_ne_true)] at q
   by_cases hi:i=0
   ·subst hi
    obtain ⟨x1,x2⟩:=hh rfl
    cases d with
    | lst ds' =>
     cases e with
     | lst es'=>exact zig a a' hde hu q
     | _=>cases x2
    | _=>cases x1
   ·have:(true && (i == 0))=false:=by simp[hi]
    rw[this]
    exact PySem.W.kat_one _ _ (zzj a a' hde hu prog w _ _ q)
def z0w:D->Bool
 | .lst _=>true
 | .tup (.lst _::_)=>true
 | _=>false
theorem z5o {k:Nat}{d e:D}{u v:Value}{κ:SortKind}{Q:Bool->Shared->Prop} (h1:HD s.heap (k+2) d u) (h2:HD s.heap (k+2) e v) (ho:zm5 (k+2) d e) (hu:A.units+(k+2)<cLine)
  (hk:(κ=oneType'/\znn d=true/\znn e=true)\/(κ=tuples' true/\znn d=false/\znn e=false/\z0w d=true/\z0w e=true)) (q:Q (ltD (k+2) d e) s):wpAny (model prog w) A (keyLt' κ u v) Q E s:=by
 rcases hk with ⟨rfl,x1,x2⟩|⟨rfl,x1,x2,x3,x4⟩
 ·cases d with
  | lst ds =>
   cases e with
   | lst es=>rw[keyLt'_oneType];exact zig h1 h2 ho hu q
   | _=>cases x2
  | _=>cases x1
 ·cases d with
  | tup ds =>
   cases e with
   | tup es =>
    obtain ⟨a,its,rfl,t,p⟩:=h1
    obtain ⟨a',its',rfl,t',p'⟩:=h2
    obtain ⟨ox,hx,hc,n,hd⟩:=t
    obtain ⟨oy,hy,hc2,n2,hd2⟩:=t'
    refine PySem.W.kat_lt hx hd hy hd2 (zkx (k:=k) (by omega) 0 p p' ho (λ _=>?_) ?_ q)
    ·cases ds with
     | nil=>cases x3
     | cons d0 ds =>
      cases es with
      | nil=>cases x4
      | cons e0 es =>
       refine⟨?_,?_⟩
       ·cases d0 <;> first|rfl|cases x3
       ·cases e0 <;> first|rfl|cases x4
    ·rw[List.size_toArray,List.size_toArray,<-p.length,<-p'.length]
   | sc _=>cases x4
   | lst _=>cases x2
   | dk _ _=>cases x4
   | dt _ _=>cases x4
   | er _ _ _=>cases x4
  | sc _=>cases x3
  | lst _=>cases x1
  | dk _ _=>cases x3
  | dt _ _=>cases x3
  | er _ _ _=>cases x3
end
theorem z0x {h:Heap}:∀ {k:Nat}{d e:D}{u v:Value},HD h k d u->HD h k e v->ltD k d e=dlt d e/\(zb8 d e=true->zm5 k d e):=by
 intro k
 induction k with
 | zero =>
  intro d e u v h1 h2
  cases d with
  | sc a =>
   cases e with
   | sc b=>rw[dlt,zb8];exact⟨rfl,λ h=>h⟩
   | _=>exact h2.elim
  | _=>exact h1.elim
 | succ k ih =>
  intro d e u v h1 h2
  have all:∀ {ds es:List D} {us vs:List Value},Paired (HD h k) ds us->Paired (HD h k) es vs->lex (eqD k) (ltD k) ds es=zdq ds es/\(zdl ds es=true->∀ p∈ds.zip es,zm5 k p.1 p.2):=by
   intro ds es us vs p
   induction p generalizing es vs with
   | nil=>intro q;cases q <;> simp[lex,zdq]
   | cons a b ih2 =>
    intro q
    cases q with
    | nil=>simp[lex,zdq]
    | cons a' b' =>
     obtain ⟨i1,i2⟩:=ih2 b'
     obtain ⟨j1,j2⟩:=ih a a'
     refine⟨?_,λ h=>?_⟩
     ·rw[lex,zdq,zq0 a a',i1,j1]
     ·rw[zdl,Bool.and_eq_true] at h
      intro p hp
      rw[List.zip_cons_cons] at hp
      rcases List.mem_cons.mp hp with rfl|hp
      ·exact j2 h.1
      ·exact i2 h.2 p hp
  cases d with
  | sc a =>
   cases e with
   | sc b=>rw[dlt,zb8];exact⟨rfl,λ h=>h⟩
   | _=>simp[ltD,dlt,zb8]
  | tup ds =>
   cases e with
   | tup es=>obtain ⟨_,_,_,_,p⟩:=h1;obtain ⟨_,_,_,_,p'⟩:=h2;rw[dlt,zb8];exact all p p'
   | _=>simp[ltD,dlt,zb8]
  | lst ds =>
   cases e with
   | lst es=>obtain ⟨_,_,_,_,p⟩:=h1;obtain ⟨_,_,_,_,p'⟩:=h2;rw[dlt,zb8];exact all p p'
   | _=>simp[ltD,dlt,zb8]
  | _=>exact h1.elim
def atObj (a:Addr) (o:Obj):HO:=.ext λ h=>h.get? a=some o
structure KOrd (rs:List D) (lt:Nat->Nat->Bool):Prop where
 wo:WO lt
 ok:∀ r∈rs,dOk LV r=true
 kd:(∀ r∈rs,znn r=true)\/∀ r∈rs,znn r=false/\z0w r=true
 lo:∀ (i j:Nat) (r t:D),rs[i]?=some r->rs[j]?=some t->zb8 r t=true/\lt i j=dlt r t
section
variable {X:Cx}{pins:List (Addr×Obj)}{σ:St}{H Hf:Hp}{s:Shared}{a kS f:Addr}{e1:Nat}{E:Value->Shared->Prop}{P:PySem.Fin->Shared->Prop}{A:Around}
theorem zvj {P:Program}{w:World}{H:Hp}{h:Heap}{a:Addr}{o:Obj} (e:h.get? a=some o):zbb P w H h a (atObj a o):=⟨e,⟨o,e⟩,λ _ _ p k=>k o p⟩
theorem Inv.atObj {o:Obj} (I:Inv X pins σ H s) (h:H a=some (atObj a o)):s.heap.get? a=some o:=(show zbb X.prog X.w H s.heap a (L2.atObj a o) from I.hok a _ h).1
theorem z95 {st':SortSt}{ks ys:List V}{out:List Value} (I:Inv X pins σ H s) (hk:H kS=some (.lst ks)) (ha:H a=some (atObj a (seqObj "list" #[] e1))) (hne:kS≠a) (ho:(arrOf st').map (·.2)=out.toArray) (hf:failedOf st'=none) (ry:zbj ys out) (hz:out.length<64)
  (q:∀ s',Inv X pins σ (upd (upd H kS (.lst [])) a (.lst ys)) s'->P (.done (.ret .none)) s'):wpAny (model X.prog X.w) A (ksk_tail a false e1 (.ref kS) st') P E s:=by
 obtain ⟨its,n,rk,hok,hkz⟩:=I.lst hk
 have haO:=I.atObj ha
 have I1:Inv X pins σ (upd H kS (.lst [])) { s with heap:=s.heap.update kS (Obj.mapSeq λ _=>(#[]:Array Value)),toks:=s.toks }:=I.lstUpd (its':=[]) (n':=if (#[]:Array Value).size == its.toArray.size then n else n+1) hk hok rfl .nil (Nat.zero_le _) s.toks
 have haO1:(s.heap.update kS (Obj.mapSeq λ _=>(#[]:Array Value))).get? a=some (seqObj "list" #[] e1):=(Heap.get?_update_other _ _ hne).trans haO
 have hnew:=get?_update_seq haO1 (λ _=>out.toArray)
 have hH1:(upd H kS (.lst [])) a=some (atObj a (seqObj "list" #[] e1)):=by rw[zaf hne.symm];exact ha
 have I2:=I1.write (x:=a) (e:=a) (o:=.lst ys) (t':=s.toks) (h':=(s.heap.update kS (Obj.mapSeq λ _=>(#[]:Array Value))).update a (Obj.mapSeq λ _=>out.toArray)) (by rw[hH1];trivial) (.inl rfl) (λ b u hb e=>(Heap.get?_update_other _ _ (Ne.symm hb)).trans e) ⟨_,hnew⟩
  ⟨by rw[ry.length];exact sz (by omega),out,_,ry,hnew⟩
 unfold ksk_tail
 dsimp only
 refine wpAny_bind (listUpdate_at hok rfl ?_ (by rw[List.size_toArray,<-rk.length];exact hkz) (Nat.zero_le _))
 refine wpAny_bind (wpAny_letGo ?_)
 refine wpAny_bind (seqEpoch_at haO1 rfl ?_)
 rw[ho]
 refine wpAny_bind (listUpdate_at haO1 rfl ?_ (Nat.zero_le _) (by show out.toArray.size<=_;rw[List.size_toArray];exact Nat.le_succ_of_le (sz (by omega))))
 rw[hf]
 simp only[bne_self_eq_false,Bool.false_eq_true,if_false]
 exact wpAny_pure (q _ I2)
theorem z96 {r:D}{k:V}{u:Value} (I:Inv X pins σ H s) (fh:zar Hf H) (dn:Dn X.K Hf r k) (o:dOk LV r=true) (rl:zbe k u):HD s.heap LV r u:=I.den ((dn.same fh).at o) rl
theorem zih {h:Heap}:∀ {rs:List D}{us:List Value},Paired (HD h LV) rs us->(∀ r∈rs,znn r=false/\z0w r=true)->∃ fs,PySem.W.KatTups h us fs/\fs.length=us.length/\∀ v∈fs,∃ b o,v=.ref b/\h.get? b=some o/\o.cls=.type "list"
 | _,_,.nil,_=>⟨[],.nil,rfl,λ v hv=>by cases hv⟩
 | r::rs,u::us,.cons a b,hr=>by
  obtain ⟨fs,t,l,g⟩:=zih b λ x hx=>hr x (List.mem_cons_of_mem _ hx)
  obtain ⟨x1,x2⟩:=hr r List.mem_cons_self
  cases r with
  | tup ds =>
   cases ds with
   | nil=>cases x2
   | cons d0 ds =>
    cases d0 with
    | lst es =>
     obtain ⟨c,its,rfl,t1,p⟩:=a
     obtain ⟨o,ho,hc,n,hd⟩:=t1
     cases p with
     | cons p1 p2 =>
      obtain ⟨c2,its2,rfl,pl,_⟩:=p1
      obtain ⟨o2,ho2,hc2,_⟩:=pl.isList
      refine⟨.ref c2::fs,.cons (f:=.ref c2) ho hc hd (by simp) t,by simp[l],λ v hv=>?_⟩
      rcases List.mem_cons.mp hv with rfl|hv
      ·exact⟨c2,o2,rfl,ho2,hc2⟩
      ·exact g v hv
    | sc _=>cases x2
    | tup _=>cases x2
    | dk _ _=>cases x2
    | dt _ _=>cases x2
    | er _ _ _=>cases x2
  | lst _=>cases x1
  | sc _=>cases x2
  | dk _ _=>cases x2
  | dt _ _=>cases x2
  | er _ _ _=>cases x2
theorem zky {M:Model}{h:Heap}{b:Addr}{o:Obj}{T:Value} (ho:h.get? b=some o) (hc:o.cls=T):PySem.W.Looks M h (typeOf (.ref b)) T:=by
 subst hc;exact (PySem.W.Looks.ld ho).andThen .now
theorem yc1 {rs:List D}{us vs:List Value}{lt:Nat->Nat->Bool}{before:Nat}{keyStore:Value} (hp:Paired (HD s.heap LV) rs us) (ord:KOrd rs lt) (hl:us.length=vs.length) (h64:vs.length<64) (hu:A.units+LV<cLine)
  (tail:∀ (st':SortSt) (π:Array Nat),Ix vs.length π->Up lt π vs.length->(arrOf st').map (·.2)=(π.toList.map λ i=>vs.getD i Value.none).toArray->failedOf st'=none->wpAny (model X.prog X.w) A (ksk_tail a false before keyStore st') P E s) :
  wpAny (model X.prog X.w) A (ksk_end a false vs.toArray before keyStore us.toArray) P E s:=by
 unfold ksk_end
 dsimp only
 simp only[Bool.false_eq_true,if_false]
 have hrl:=hp.length
 by_cases h2:vs.toArray.size<2
 ·rw[if_pos h2,if_pos h2]
  refine wpAny_bind (wpAny_pure ?_)
  rw[StateT.run_pure]
  refine wpAny_bind (wpAny_pure ?_)
  dsimp only
  rw[List.size_toArray] at h2
  refine tail _ (List.range vs.length).toArray (List.Perm.refl _) (λ i j hij hj=>?_) ?_ rfl
  ·have:i=j:=by omega
   rw[this];exact ord.wo.irr _
  ·show ((us.toArray.zip vs.toArray)).map (·.2)=_
   have e1:(us.toArray.zip vs.toArray).map (·.2)=vs.toArray:=by
    apply Array.ext'
    simp[List.map_snd_zip,hl]
   rw[e1]
   congr 1
   apply List.ext_getElem?
   intro i
   by_cases hi:i<vs.length
   ·simp[hi]
   ·simp[hi]
 ·rw[if_neg h2,if_neg h2]
  rw[List.size_toArray] at h2
  have run:∀ κ:SortKind,((κ=oneType'/\∀ r∈rs,znn r=true)\/(κ=tuples' true/\∀ r∈rs,znn r=false/\z0w r=true))->wpAny (model X.prog X.w) A (sortRuns'.run (SortSt.mk' κ (us.toArray.zip vs.toArray) #[] 7 none) >>= λ x=>ksk_tail a false before keyStore x.2) P E s:=by
   intro κ hκ
   refine wpAny_bind (PySem.W.kat_run (ks:=us) (vs:=vs) (Q:=λ st' s'=>wpAny (model X.prog X.w) A (ksk_tail a false before keyStore st') P E s') (G:=λ π s'=>s'=s/\Ix vs.length π/\Up lt π vs.length) hl (by omega) h64 (λ π st' s' hs har hf ⟨e,g1,g2⟩=>?_) ?_)
   ·subst e
    exact tail st' π g1 g2 (PySem.W.kat_snds hl har) hf
   ·refine zfs.wp (λ i j C hi hj hC=>?_) (λ π hπ=>⟨rfl,hπ⟩) (z0q ord.wo (by omega))
    unfold PySem.W.kas_ask
    have hi':i<us.length:=by omega
    have hj':j<us.length:=by omega
    obtain ⟨ri,qi,di⟩:=zay hp (show us[i]?=some us[i] by simp[hi'])
    obtain ⟨rj,qj,dj⟩:=zay hp (show us[j]?=some us[j] by simp[hj'])
    have ei:us.getD i Value.none=us[i]:=by simp[hi']
    have ej:us.getD j Value.none=us[j]:=by simp[hj']
    rw[ei,ej]
    obtain ⟨o1,o2⟩:=ord.lo i j ri rj qi qj
    have mi:=List.mem_of_getElem? qi
    have mj:=List.mem_of_getElem? qj
    have lo:=z0x di dj
    refine z5o (k:=7) di dj (lo.2 o1) (by omega) ?_ (by rw[lo.1,<-o2];exact hC)
    rcases hκ with ⟨rfl,h⟩|⟨rfl,h⟩
    ·exact .inl ⟨rfl,h _ mi,h _ mj⟩
    ·exact .inr ⟨rfl,(h _ mi).1,(h _ mj).1,(h _ mi).2,(h _ mj).2⟩
  rcases ord.kd with hk|hk
  ·refine wpAny_bind (PySem.W.kas_kind (T:=.type "list") (by omega) (λ v hv=>?_) rfl rfl (run _ (.inl ⟨rfl,hk⟩)))
   obtain ⟨i,hi⟩:=List.getElem?_of_mem hv
   obtain ⟨r,qr,dr⟩:=zay hp hi
   have:=hk r (List.mem_of_getElem? qr)
   cases r with
   | lst es =>
    obtain ⟨c,its,rfl,pl,_⟩:=dr
    obtain ⟨o,ho,hc,_⟩:=pl.isList
    exact zky ho hc
   | _=>cases this
  ·obtain ⟨fs,t,lf,g⟩:=zih hp hk
   refine wpAny_bind (PySem.W.kat_kind (T:=.type "list") t (by omega) (λ v hv=>?_) rfl (run _ (.inr ⟨rfl,hk⟩)))
   obtain ⟨b,o,rfl,ho,hc⟩:=g v hv
   exact zky ho hc
end
section
variable {X:Cx}{pins:List (Addr×Obj)}{σ:St}{H Hf:Hp}{s:Shared}{a kS f:Addr}{e1 k:Nat}{E:Value->Shared->Prop}{P:PySem.Fin->Shared->Prop}{fd:FuncData}{p:Str}{F:List D->Option D}
theorem z0y {sp:Sp}{u:Value}{v:V}{Q:VK} (G:FnOk X.prog X.w X.K X.mg X.base CX0 k f fd [p] sp) (hr:Room k X.A.in1.in1) (hb:zdo X.K fd [p] []) (I:Inv X pins σ H s) (r:zbe v u) (h:sp [v] H Q E0):wpAny (model X.prog X.w) X.A.in1.in1 (call (.ref f) [u]) (EP X pins σ Q) (λ _ _=>False) s:=by
 have hbb:BindsTo s fd ⟨[u],[]⟩ ([p].zip [u]):=by have:=hb s [u] I.kIn rfl;rwa [List.append_nil] at this
 refine wpAny_call (codeAny_mono (G.run X.A.in1.in1 X.stack s H ⟨[u],[]⟩ [u] [v] Q E0 hr I.env0.in1.in1 hbb (.cons r .nil) h) λ r s' hq=>?_)
 cases r with
 | error e=>exact hq.elim
 | ok fl =>
  cases fl with
  | ret u=>exact I.after hq
  | next=>exact False.elim hq
  | brk=>exact False.elim hq
  | cont=>exact False.elim hq
structure KI (X:Cx) (pins:List (Addr×Obj)) (σ:St) (Hf H:Hp) (a kS:Addr) (o:Obj) (rs:List D) (s:Shared) (Hf' H':Hp) (ks:List V):Prop where
 inv:Inv X pins σ H' s
 st:H' kS=some (.lst ks)
 at_:H' a=some (atObj a o)
 fr:∀ b ob,b≠kS->H b=some ob->H' b=some ob
 ff:zar Hf Hf'
 fh:zar Hf' H'
 nw:∀ b,Hf' b≠none->Hf b≠none\/zhp H b
 nf:∀ b o u,Hf' b=some (.frz o u)->Hf b=some (.frz o u)
 dn:Dns X.K Hf' rs ks
theorem z97 {xs:List V}{vs:List Value}{ds rs:List D}{lt:Nat->Nat->Bool} (G:FnOk X.prog X.w X.K X.mg X.base CX0 k f fd [p] (spV X.K 1 F)) (hr:Room k X.A.in1.in1) (hb:zdo X.K fd [p] [])
  (I:Inv X pins σ H s) (hkS:H kS=some (.lst [])) (ha:H a=some (atObj a (seqObj "list" #[] e1))) (hne:kS≠a) (hfk:Hf kS=none) (fh:zar Hf H) (hd:Dns X.K Hf ds xs) (rv:zbj xs vs)
  (hF:∀ (i:Nat) d,ds[i]?=some d->∃ r,rs[i]?=some r/\F [d]=some r) (hl:rs.length=ds.length) (h64:ds.length<64) (ord:KOrd rs lt)
  (q:∀ Hf' H' ks s' (π:Array Nat) s2 ys,KI X pins σ Hf H a kS (seqObj "list" #[] e1) rs s' Hf' H' ks->Ix ds.length π->Up lt π ds.length->ys=π.toList.map (λ i=>xs.getD i V.non)->Inv X pins σ (upd (upd H' kS (.lst [])) a (.lst ys)) s2->P (.done (.ret .none)) s2) :
  wpAny (model X.prog X.w) X.A.in1.in1 (ksk_rest a (.ref f) false vs.toArray e1 (.ref kS)) P E s:=by
 have l1:ds.length=xs.length:=hd.length
 have l2:xs.length=vs.length:=rv.length
 unfold ksk_rest
 refine wpAny_bind (wpAny_rule ?_)
 rw[List.forIn_toArray]
 refine wpAny_bind (ksk_fold (λ i s'=>∃ Hf' H' ks,KI X pins σ Hf H a kS (seqObj "list" #[] e1) (rs.take i) s' Hf' H' ks) vs 0 s ⟨Hf,H,[],⟨I,hkS,ha,λ _ _ _ h=>h,zar.refl _,fh,λ _ h=>.inl h,λ _ _ _ h=>h,by rw[List.take_zero];exact .nil⟩⟩ ?step ?done)
 case step =>
  rintro j x s' hx ⟨Hf',H',ks,K⟩
  simp only[Nat.zero_add] at K ⊢
  have hj:j<vs.length:=(List.getElem?_eq_some_iff.mp hx).1
  obtain ⟨v,qv,rx⟩:=zay rv hx
  obtain ⟨d,qd,dd⟩:=zay hd qv
  obtain ⟨r,qr,hr'⟩:=hF j d qd
  have hkl:ks.length<=64:=by rw[<-K.dn.length,List.length_take];omega
  refine wpAny_bind (wpAny_attempt (wpAny_mono (z0y (Q:=λ v H2=>∃ Hf2,Ex Hf' H' Hf2 H2/\Dn X.K Hf2 r v) G hr hb K.inv rx ⟨Hf',[d],r,K.fh,.cons (dd.same K.ff) .nil,rfl,hr',λ Hf2 H2 v ex dv=>⟨Hf2,ex,dv⟩⟩) (λ u s2 he=>?_) λ _ _ h=>h.elim))
  obtain ⟨w,H2,I2,rw_,Hf2,ex,dw⟩:=he
  dsimp only
  have hk2:H2 kS=some (.lst ks):=ex.hh _ _ K.st
  obtain ⟨its,n,rk,hok,hkz⟩:=I2.lst hk2
  have hfk2:Hf2 kS=none:=by
   cases z:Hf2 kS with
   | none=>rfl
   | some o =>
    rcases ex.nw kS (by rw[z];exact λ z=>nomatch z) with y|y
    ·rcases K.nw kS y with y|y
     ·exact absurd hfk y
     ·exact (y.no hkS (λ _ z=>nomatch z)).elim
    ·exact (y.no K.st (λ _ z=>nomatch z)).elim
  have I3:Inv X pins σ (upd H2 kS (.lst (ks++[w]))) { s2 with heap:=s2.heap.update kS (Obj.mapSeq (·.push u)),toks:=s2.toks }:=I2.lstUpd (its':=its++[u]) (n':=if (its.toArray.push u).size == its.toArray.size then n else n+1) hk2 hok (by show Obj.mk _ _ _ _=_;simp[Obj.mapSeq]) (rk.append (.cons rw_ .nil)) (by rw[List.length_append,List.length_singleton];exact sz (by omega)) s2.toks
  have hla:=rk.length
  refine wpAny_bind (listUpdate_at hok rfl ?_ (by rw[List.size_toArray,<-hla];exact sz (by omega)) (by show (its.toArray.push u).size<=_;rw[Array.size_push,List.size_toArray,<-hla];exact Nat.le_succ_of_le (sz (by omega))))
  refine wpAny_pure ⟨rfl,Hf2,upd H2 kS (.lst (ks++[w])),ks++[w],⟨I3,zac,by rw[zaf hne.symm];exact ex.hh _ _ K.at_,λ b ob hb e=>by rw[zaf hb];exact ex.hh _ _ (K.fr b ob hb e),K.ff.trans ex.ff,λ b ob e=>?_,λ b h=>?_,λ b o u h=>K.nf b o u (ex.nf b o u h),?_⟩⟩
  ·rw[zaf (zam e hfk2)];exact ex.fh b ob e
  ·rcases ex.nw b h with y|y
   ·exact K.nw b y
   ·by_cases hb:b=kS
    ·subst hb;exact (y.no K.st (λ _ z=>nomatch z)).elim
    ·cases z:H b with
     | none=>exact .inr (.inl z)
     | some o =>
      rcases y with y|⟨xs,y⟩
      ·rw[K.fr b o hb z] at y;cases y
      ·rw[K.fr b o hb z] at y;cases y;exact .inr (.inr ⟨xs,z⟩)
  ·have:rs.take (j+1)=rs.take j++[r]:=by rw[List.take_add_one,qr];rfl
   rw[this]
   exact (K.dn.same ex.ff).zsnoc dw
 case done =>
  rintro s' ⟨Hf',H',ks,K⟩
  rw[Nat.zero_add,List.take_of_length_le (by omega)] at K
  obtain ⟨its,n,rk,hok,hkz⟩:=K.inv.lst K.st
  refine wpAny_bind (listItems_at hok rfl ?_)
  have hp:Paired (HD s'.heap LV) rs its:=by
   have all:∀ {rs:List D} {ks:List V} {us:List Value},Dns X.K Hf' rs ks->zbj ks us->(∀ r∈rs,dOk LV r=true)->Paired (HD s'.heap LV) rs us:=by
    intro rs ks us d
    induction d generalizing us with
    | nil=>intro v _;cases v;exact .nil
    | cons a b ih=>intro v o;cases v with|cons c e=>exact .cons (z96 K.inv K.fh a (o _ List.mem_cons_self) c) (ih e λ r h=>o r (List.mem_cons_of_mem _ h))
   exact all K.dn rk ord.ok
  have hil:its.length=vs.length:=by rw[<-hp.length];omega
  refine yc1 (vs:=vs) hp ord hil (by omega) (by have:=hr.units;show _+9<cLine;omega) λ st' π h1 h2 h3 h4=>?_
  have hn:vs.length=ds.length:=by omega
  rw[hn] at h1 h2
  refine z95 (ys:=π.toList.map λ i=>xs.getD i V.non) K.inv K.st K.at_ hne h3 h4 ?_ (by rw[List.length_map,Array.length_toList,h1.size];exact h64) λ s2 I2=>q Hf' H' ks s' π s2 _ K h1 h2 rfl I2
  have bd:∀ i∈π.toList,i<ds.length:=λ i hi=>List.mem_range.mp (h1.mem_iff.mp hi)
  have each:∀ l:List Nat,(∀ i∈l,i<ds.length)->zbj (l.map λ i=>xs.getD i V.non) (l.map λ i=>vs.getD i Value.none):=by
   intro l
   induction l with
   | nil=>intro _;exact .nil
   | cons i r ih =>
    intro h
    have hi:=h i List.mem_cons_self
    refine .cons ?_ (ih λ j hj=>h j (List.mem_cons_of_mem _ hj))
    have hiv:i<vs.length:=by omega
    have ev:vs[i]?=some vs[i]:=List.getElem?_eq_getElem hiv
    obtain ⟨v,qv,rx⟩:=zay rv ev
    show zbe (xs.getD i V.non) (vs.getD i Value.none)
    rw[List.getD_eq_getElem?_getD,qv,List.getD_eq_getElem?_getD,ev];exact rx
  exact each _ bd
end
section
variable {X:Cx}{pins:List (Addr×Obj)}{σ:St}{H Hf:Hp}{s:Shared}{a f:Addr}{k:Nat}{E:Value->Shared->Prop}{P:PySem.Fin->Shared->Prop}{fd:FuncData}{p:Str}{F:List D->Option D}
structure KEnd (X:Cx) (pins:List (Addr×Obj)) (σ:St) (Hf H:Hp) (a:Addr) (xs:List V) (n:Nat) (lt:Nat->Nat->Bool) (s:Shared) (Hf' H':Hp) (π:Array Nat):Prop where
 inv:Inv X pins σ H' s
 at_:H' a=some (.lst (π.toList.map λ i=>xs.getD i V.non))
 fa:Hf' a=none
 ff:zar Hf Hf'
 fh:zar Hf' H'
 fr:∀ b ob,b≠a->H b=some ob->H' b=some ob
 nw:∀ b,Hf' b≠none->Hf b≠none\/zhp H b
 nf:∀ b o u,Hf' b=some (.frz o u)->Hf b=some (.frz o u)
 ix:Ix n π
 up:Up lt π n
theorem z98 {xs:List V}{ds rs:List D}{lt:Nat->Nat->Bool} (G:FnOk X.prog X.w X.K X.mg X.base CX0 k f fd [p] (spV X.K 1 F)) (hr:Room k X.A.in1.in1) (hb:zdo X.K fd [p] [])
  (I:Inv X pins σ H s) (ha:H a=some (.lst xs)) (hfa:Hf a=none) (fh:zar Hf H) (hd:Dns X.K Hf ds xs)
  (hF:∀ (i:Nat) d,ds[i]?=some d->∃ r,rs[i]?=some r/\F [d]=some r) (hl:rs.length=ds.length) (h64:ds.length<64) (ord:KOrd rs lt)
  (q:∀ Hf' H' s' (π:Array Nat),KEnd X pins σ Hf H a xs ds.length lt s' Hf' H' π->P (.done (.ret .none)) s') :
  wpAny (model X.prog X.w) X.A.in1.in1 (ksk_tree a (.ref f) false) P E s:=by
 obtain ⟨vs,n,rv,ho,hz⟩:=I.lst ha
 have lv:=rv.length
 have ld:=hd.length
 have ho1:=get?_update_seq ho (λ _=>(#[]:Array Value))
 generalize he1:(if (#[]:Array Value).size == vs.toArray.size then n else n+1)=e1 at ho1
 have I1:Inv X pins σ (upd H a (atObj a (seqObj "list" #[] e1))) { s with heap:=s.heap.update a (Obj.mapSeq λ _=>(#[]:Array Value)),toks:=s.toks }:=I.write (x:=a) (e:=a) (by rw[ha];trivial) (.inl rfl) (λ b u hb e=>(Heap.get?_update_other _ _ (Ne.symm hb)).trans e) ⟨_,ho1⟩ (zvj ho1)
 have I2:Inv X pins σ (upd H a (atObj a (seqObj "list" #[] e1))) { s with heap:=(s.heap.update a (Obj.mapSeq λ _=>(#[]:Array Value))).push (seqObj "tuple" vs.toArray 0),toks:=s.toks }:=I1.kept λ b o e=>Heap.get?_push_of_some _ e
 have I3:=I2.laid (a:=((s.heap.update a (Obj.mapSeq λ _=>(#[]:Array Value))).push (seqObj "tuple" vs.toArray 0)).objs.size) (o:=.lst []) (t':=s.toks) (h':=((s.heap.update a (Obj.mapSeq λ _=>(#[]:Array Value))).push (seqObj "tuple" vs.toArray 0)).push (seqObj "list" #[] 0)) (λ b o e=>Heap.get?_push_of_some _ e) (Nat.le_refl _) ⟨Nat.zero_le _,[],0,.nil,Heap.get?_push_size _ rfl⟩
 have hfresh:(upd H a (atObj a (seqObj "list" #[] e1))) ((s.heap.update a (Obj.mapSeq λ _=>(#[]:Array Value))).push (seqObj "tuple" vs.toArray 0)).objs.size=none:=I2.hok.fresh (Nat.le_refl _)
 unfold ksk_tree
 refine wpAny_bind (listItems_at ho rfl ?_)
 refine wpAny_bind (listUpdate_at ho rfl ?_ (by rw[List.size_toArray,<-lv];exact hz) (Nat.zero_le _))
 refine wpAny_bind (seqEpoch_at ho1 rfl ?_)
 refine wpAny_bind (wpAny_newTuple ?_ (by show vs.length<=_;rw[<-lv];exact hz))
 refine wpAny_bind (wpAny_newList ?_ (Nat.zero_le _))
 refine wpAny_holding ?_
 generalize hkS:((s.heap.update a (Obj.mapSeq λ _=>(#[]:Array Value))).push (seqObj "tuple" vs.toArray 0)).objs.size=kS at I3 hfresh
 have hne:kS≠a:=λ z=>by subst z;rw[zac] at hfresh;cases hfresh
 have hHk:H kS=none:=by rw[zaf hne] at hfresh;exact hfresh
 have hfk:Hf kS=none:=fh.free hHk
 have fh3:zar Hf (upd (upd H a (atObj a (seqObj "list" #[] e1))) kS (.lst [])):=λ b o e=>by
  rw[zaf (zam e hfk),zaf (zam e hfa)];exact fh b o e
 have h3:∀ {b:Addr},b≠a->b≠kS->(upd (upd H a (atObj a (seqObj "list" #[] e1))) kS (.lst [])) b=H b:=λ {b} h1 h2=>by rw[zaf h2,zaf h1]
 refine z97 (kS:=kS) G hr hb I3 zac (by rw[zaf hne.symm,zac]) hne hfk fh3 hd rv hF hl h64 ord λ Hf' H' ks s' π s2 ys K hix hup hys I4=>q Hf' (upd (upd H' kS (.lst [])) a (.lst ys)) s2 π ?_
 have fa':Hf' a=none:=by
  cases z:Hf' a with
  | none=>rfl
  | some o =>
   rcases K.nw a (by rw[z];exact λ z=>nomatch z) with y|y
   ·exact absurd hfa y
   ·exact (y.no (by rw[zaf hne.symm,zac]) (λ _ z=>by unfold atObj at z;cases z)).elim
 have fk':Hf' kS=none:=by
  cases z:Hf' kS with
  | none=>rfl
  | some o =>
   rcases K.nw kS (by rw[z];exact λ z=>nomatch z) with y|y
   ·exact absurd hfk y
   ·exact (y.no zac (λ _ z=>nomatch z)).elim
 subst hys
 refine⟨I4,zac,fa',K.ff,λ b o e=>?_,λ b ob h1 e=>?_,λ b h=>?_,K.nf,hix,hup⟩
 ·rw[zaf (zam e fa'),zaf (zam e fk')];exact K.fh b o e
 ·have h2:b≠kS:=λ z=>by subst z;rw[hHk] at e;cases e
  rw[zaf h1,zaf h2]
  exact K.fr b ob h2 (by rw[h3 h1 h2];exact e)
 ·rcases K.nw b h with y|y
  ·exact .inl y
  ·have h1:b≠a:=λ z=>by subst z;exact h fa'
   have h2:b≠kS:=λ z=>by subst z;exact h fk'
   unfold zhp at y
   rw[h3 h1 h2] at y
   exact .inr y
theorem zii {xs:List V}{ds rs:List D}{lt:Nat->Nat->Bool}{u:Value}{Q:VK} (G:FnOk X.prog X.w X.K X.mg X.base CX0 k f fd [p] (spV X.K 1 F)) (hr:Room k X.A.in1.in1) (hb:zdo X.K fd [p] [])
  (I:Inv X pins σ H s) (fh:zar Hf H) (hd:Dns X.K Hf ds xs)
  (hcol:∀ R:List Value->Shared->Prop,(∀ h' tk vs,(∀ b o,s.heap.get? b=some o->h'.get? b=some o)->zbj xs vs->R vs { s with heap:=h',toks:=tk })->wpAny (model X.prog X.w) X.A.in1 (collect u) R X.xe s)
  (hF:∀ (i:Nat) d,ds[i]?=some d->∃ r,rs[i]?=some r/\F [d]=some r) (hl:rs.length=ds.length) (h64:ds.length<64) (ord:KOrd rs lt)
  (q:∀ Hf' H' l (π:Array Nat),Ex Hf H Hf' H'->H l=none->Hf' l=none->H' l=some (.lst (π.toList.map λ i=>xs.getD i V.non))->Ix ds.length π->Up lt π ds.length->Q (.ref l) H') :
  wpAny (model X.prog X.w) X.A (call (.builtin "sorted") [u] [(Str.ofString "key",.ref f)]) (EP X pins σ Q) X.xe s:=by
 have ld:=hd.length
 refine call_function_entry_kw kind_sorted plain_sorted entry_sorted (ksk_s1 _ _) ?_
 unfold Builtin.«sorted»
 refine wpAny_bind (m:=checkCount "sorted" 1 1 _) (wpAny_pure ?_)
 refine wpAny_bind (hcol _ λ h' tk vs keep rv=>?_)
 have lv:=rv.length
 refine wpAny_bind (wpAny_newList ?_ (by rw[<-lv];exact sz (by omega)))
 have I1:Inv X pins σ H { s with heap:=h',toks:=tk }:=I.kept keep
 have I2:=I1.laid (a:=h'.objs.size) (o:=.lst xs) (t':=tk) (h':=h'.push (seqObj "list" vs.toArray 0)) (λ b o e=>Heap.get?_push_of_some _ e) (Nat.le_refl _) ⟨sz (by omega),vs,0,rv,Heap.get?_push_size _ rfl⟩
 have hfl:H h'.objs.size=none:=I1.hok.fresh (Nat.le_refl _)
 have hoL:(h'.push (seqObj "list" vs.toArray 0)).get? h'.objs.size=some (seqObj "list" vs.toArray 0):=Heap.get?_push_size _ rfl
 refine wpAny_bind (wpAny_holding (wpAny_call_entry_kw slot_list_sort ⟨_,hoL,rfl⟩ entry_list_sort ?body (ksk_l1 _ _)))
 case body =>
  have ht:=ksk_t1 f h'.objs.size
  show wpAny (model X.prog X.w) X.A.in1.in1 (Builtin.«list.sort» ⟨[.ref h'.objs.size],[(Str.ofString "key",.ref f)]⟩) _ _ _
  rw[ht]
  refine z98 G hr hb I2 zac (fh.free hfl) (fh.trans (zaq hfl)) hd hF hl h64 ord λ Hf' H' s' π K=>?_
  refine⟨_,rfl,wpAny_pure ⟨_,rfl,.ref h'.objs.size,H',K.inv,rfl,q Hf' H' _ π ⟨K.ff,λ b o e=>?_,K.fh,λ b h=>?_,K.nf⟩ hfl K.fa K.at_ K.ix K.up⟩⟩
  ·have hn:b≠h'.objs.size:=zam e hfl
   exact K.fr b o hn (by rw[zaf hn];exact e)
  ·rcases K.nw b h with y|y
   ·exact .inl y
   ·by_cases hn:b=h'.objs.size
    ·subst hn;exact .inr (.inl hfl)
    ·unfold zhp at y;rw[zaf hn] at y;exact .inr y
end
def zo1 (h:Heap) (d:Addr) (es:Array DictEntry) (ep:Nat):Prop:=∃ o,h.get? d=some o/\o.ExactDict/\o.data=.dict es ep
section
variable {prog:Program}{w:World}{A:Around}{E:Value->Shared->Prop}{s:Shared}{d it:Addr}{es:Array DictEntry}{ep i:Nat}
theorem zo1.ty (x:zo1 s.heap d es ep):s.TypeIs (.ref d) "dict":=let ⟨o,ho,hc,_⟩:=x;⟨o,ho,hc.1⟩
theorem zo1.at {h h':Heap} (x:zo1 h d es ep) (e:∀ o,h.get? d=some o->h'.get? d=some o):zo1 h' d es ep:=let ⟨o,ho,r⟩:=x;⟨o,e _ ho,r⟩
theorem zo1.lt {h:Heap} (x:zo1 h d es ep):d<h.objs.size:=let ⟨_,ho,_⟩:=x;Heap.lt_size ho
theorem zvk {Q:Value->Shared->Prop} (hd:(d == sysModules)=false) (hm:zo1 s.heap d es ep) (hQ:Q (.ref s.heap.objs.size) { s with heap:=s.heap.push { cls:=.type "dict_keyiterator",data:=.fields #[.ref d,.int 0 0,.int es.size 0,.int ep 0] } }):wpAny (model prog w) A (pyIter (.ref d)) Q E s:=by
 obtain ⟨o,ho,hc,hdat⟩:=id hm
 refine wpAny_pyIter_slot hm.ty PySem.F.slot_dict_iter (wpAny_call_entry PySem.F.slot_dict_iter hm.ty PySem.F.entry_dict_iter ?_ (PySem.F.args_dict_iter_1 _));unfold Builtin.«dict.__iter__»
 refine wpAny_bind ?_;unfold Builtin.Dict.dictSlotNone;refine wpAny_bind (wpAny_notOrdered_dict hm.ty ?_)
 show wpAny _ _ (pure (Value.ref d)) _ _ s;refine wpAny_pure ?_;show wpAny _ _ (Builtin.Dict.showsAll d >>= _) _ _ s;unfold Builtin.Dict.showsAll
 rw[if_neg (by rw[hd];exact Bool.false_ne_true)];refine wpAny_bind (wpAny_pure ?_);refine wpAny_bind (wpAny_dictEntries ho hdat ?_);refine wpAny_bind (wpAny_dictEpoch ho hdat ?_)
 refine wpAny_bind (wpAny_newObj_type (wpAny_pure ⟨_,rfl,"dict_keyiterator",_,⟨_,Heap.get?_push_size _ rfl,rfl⟩,PySem.F.slot_dict_keyiterator_next.lookup,?_⟩));simpa [rawInt] using hQ
theorem zvl {Q:Option Value->Shared->Prop} (hit:s.heap.IsKeyIter it d i es.size ep) (hm:zo1 s.heap d es ep) (hi:i<es.size) (hQ:∀ h',h'.IsKeyIter it d (i+1) es.size ep->Heap.SameBut it s.heap h'->Q (some es[i].key) { s with heap:=h' }):wpAny (model prog w) A (pyNext (.ref it)) Q E s:=by
 obtain ⟨o,ho,hc,hd⟩:=id hit
 obtain ⟨od,hod,hcd,hdd⟩:=id hm
 unfold pyNext
 refine wpAny_bind (wpAny_attempt (wpAny_callSpecial?_slot (name:=Str.ofString "__next__") hit.typeIs PySem.F.slot_dict_keyiterator_next (wpAny_call_entry PySem.F.slot_dict_keyiterator_next hit.typeIs PySem.F.entry_dict_keyiterator_next ?_ (PySem.F.args_dict_keyiterator_next_1 _))))
 refine wpAny_bind (wpAny_pure ?_);refine wpAny_bind ?_;refine wpAny_bind ?_
 first|refine wpAny_bind (wpAny_typeNameOfWhole_keyiter hit.typeIs (wpAny_pure ?_));refine wpAny_bind (wpAny_fieldsOf ho hd ?_)|refine wpAny_bind (wpAny_typeNameOf_keyiter hit.typeIs (wpAny_pure ?_));refine wpAny_bind (wpAny_fieldsOf ho hd ?_)
 have hown:Builtin.Dict_items.ownsTuple "dict_keyiterator" = false:=by decide +kernel
 simp only[hown,Bool.false_eq_true,if_false];show wpAny _ _ (if (Value.ref d == Value.none)=true then _ else _) _ _ s
 rw[if_neg (show ¬ ((Value.ref d == Value.none)=true) from Bool.false_ne_true)];refine wpAny_bind (wpAny_pure ?_);refine wpAny_bind (wpAny_dictEntries hod hdd ?_)
 rw[if_neg (by simp)];refine wpAny_bind (wpAny_pure ?_);refine wpAny_bind (wpAny_dictEpoch hod hdd ?_);rw[if_neg (by simp)];refine wpAny_pure ?_
 simp only[show ¬ ((i:Int)<0) from by omega,if_false,Int.toNat_natCast,Array.getElem?_eq_getElem hi];refine wpAny_bind ?_
 first|refine wpAny_bind (wpAny_typeNameOfWhole_keyiter hit.typeIs (wpAny_pure ?_));refine wpAny_bind (wpAny_isOneOf_keyiter hit.typeIs ?_)|refine wpAny_bind (wpAny_typeNameOf_keyiter hit.typeIs (wpAny_pure ?_));refine wpAny_bind (wpAny_isOneOf_keyiter hit.typeIs ?_)
 show wpAny _ _ (setField (.ref it) 1 (rawInt ((i:Int)+1)) >>= _) _ _ s;refine wpAny_bind (wpAny_setField ho hd (by simp) ?_)
 have hit':(s.heap.update it (Obj.mapFields (·.setIfInBounds 1 (rawInt ((i:Int)+1))))).IsKeyIter it d (i+1) es.size ep:=⟨_,Heap.get?_update_self _ ho (Obj.isFreed_of_fields (Obj.data_mapFields hd _)),(Obj.cls_mapFields ..).trans hc,by rw[Obj.data_mapFields hd];simp[rawInt]⟩
 refine wpAny_bind (wpAny_holding ?_);refine wpAny_bind (wpAny_isOneOf_keyiter (s:={ s with heap:=s.heap.update it (Obj.mapFields (·.setIfInBounds 1 (rawInt ((i:Int)+1)))) }) hit'.typeIs ?_)
 show wpAny _ _ (pure es[i].key) _ _ _;exact wpAny_pure (wpAny_pure ⟨_,rfl,wpAny_pure (hQ _ hit' (Heap.SameBut.update ..))⟩)
theorem z0z {Q:Option Value->Shared->Prop} (hh:A.handled=none) (hit:s.heap.IsKeyIter it d i es.size ep) (hm:zo1 s.heap d es ep) (hi:es.size<=i) (hQ:∀ h',Heap.ExtBut it s.heap h'->Q none { s with heap:=h' }):wpAny (model prog w) A (pyNext (.ref it)) Q E s:=by
 obtain ⟨o,ho,hc,hd⟩:=id hit
 obtain ⟨od,hod,hcd,hdd⟩:=id hm
 unfold pyNext
 refine wpAny_bind (wpAny_attempt (wpAny_callSpecial?_slot (name:=Str.ofString "__next__") hit.typeIs PySem.F.slot_dict_keyiterator_next (wpAny_call_entry PySem.F.slot_dict_keyiterator_next hit.typeIs PySem.F.entry_dict_keyiterator_next ?_ (PySem.F.args_dict_keyiterator_next_1 _))))
 refine wpAny_bind (wpAny_pure ?_);refine wpAny_bind ?_;refine wpAny_bind ?_
 first|refine wpAny_bind (wpAny_typeNameOfWhole_keyiter hit.typeIs (wpAny_pure ?_));refine wpAny_bind (wpAny_fieldsOf ho hd ?_)|refine wpAny_bind (wpAny_typeNameOf_keyiter hit.typeIs (wpAny_pure ?_));refine wpAny_bind (wpAny_fieldsOf ho hd ?_)
 have hown:Builtin.Dict_items.ownsTuple "dict_keyiterator" = false:=by decide +kernel
 simp only[hown,Bool.false_eq_true,if_false];show wpAny _ _ (if (Value.ref d == Value.none)=true then _ else _) _ _ s
 rw[if_neg (show ¬ ((Value.ref d == Value.none)=true) from Bool.false_ne_true)];refine wpAny_bind (wpAny_pure ?_);refine wpAny_bind (wpAny_dictEntries hod hdd ?_)
 rw[if_neg (by simp)];refine wpAny_bind (wpAny_pure ?_);refine wpAny_bind (wpAny_dictEpoch hod hdd ?_);rw[if_neg (by simp)];refine wpAny_pure ?_
 simp only[show ¬ ((i:Int)<0) from by omega,if_false,Int.toNat_natCast,Array.getElem?_eq_none hi];refine wpAny_bind ?_
 first|refine wpAny_bind (wpAny_typeNameOfWhole_keyiter hit.typeIs (wpAny_pure ?_));show wpAny _ _ (setField (.ref it) 0 .none >>= _) _ _ s|refine wpAny_bind (wpAny_typeNameOf_keyiter hit.typeIs (wpAny_pure ?_));show wpAny _ _ (setField (.ref it) 0 .none >>= _) _ _ s
 refine wpAny_bind (wpAny_setField ho hd (by simp) ?_);show wpAny _ _ (newExc (.type "StopIteration") [] >>= _) _ _ _;refine wpAny_bind ?_;simp only[newExc,newTuple]
 refine wpAny_bind (wpAny_newObj_type ?_ (by size_fits));refine wpAny_bind (m:=firstArgMember _ _) (wpAny_of_eq (a:=Value.none) (by first|rfl|(simp only[firstArgMember];rfl)) ?_)
 refine wpAny_newObj_type ?_ (by size_fits);simp only[raiseNew];refine wpAny_bind (wpAny_handled ?_);rw[show A.in1.handled=none from hh];refine wpAny_bind (wpAny_pure (wpAny_throw ?_))
 refine wpAny_bind (wpAny_isInstance (T:="StopIteration") (b:=true) ⟨_,Heap.get?_push_size _ rfl,rfl⟩ isSubtype_stop ?_);exact wpAny_pure (hQ _ (((Heap.SameBut.update ..).extBut.push _).push _))
theorem zrz (hh:A.handled=none) (I d:Addr) (hne:d≠I) (es:Array DictEntry) (ep:Nat):Walks prog w A I [I,d] [I] es.size (λ i v=>∃ e,es[i]?=some e/\v=e.key) (λ i h=>h.IsKeyIter I d i es.size ep/\zo1 h d es ep) where
 sub:=λ b hb=>by simp at hb;simp[hb]
 frame:=λ _ _ _ x hk=>⟨x.1.at λ o e=>hk I (by simp) o e,x.2.at λ o e=>hk d (by simp) o e⟩
 item:=λ i s Q E hi x hQ=>zvl x.1 x.2 hi λ h' hit' hs'=>hQ _ h' s.toks ⟨es[i],by simp[hi],rfl⟩ ⟨hit',x.2.at λ o e=>(hs'.2 d hne).trans e⟩ λ b o hb e=>hs'.extBut b o (λ z=>hb (by simp[z])) e
 done:=λ s Q E x hQ=>z0z hh x.1 x.2 (Nat.le_refl _) λ h' he'=>hQ h' s.toks λ b o hb e=>he' b o (λ z=>hb (by simp[z])) e
 self:=λ _ _ _ _ x hQ=>wpAny_pyIter_keyiter x.1 hQ
theorem z00 (lo:(d == sysModules)=false):PySem.W.KdlSrc prog w "dict" d d es.size (λ i v=>∃ e,es[i]?=some e/\v=e.key) (λ h=>zo1 h d es ep) where
 type:=λ _ x=>x.ty
 there:=λ _ x=>⟨x.lt,x.lt⟩
 keep:=λ _ _ x hk=>x.at λ o e=>hk d (.inl rfl) o e
 notList:=by decide
 notTuple:=by decide
 hint:=λ _ _ _ _ x hq=>PySem.W.kdl_hint_dict x.ty hq
 iter:=λ _ _ hh x=>⟨_,_,(λ _ _ hq=>zvk lo x hq),zrz hh _ d (Nat.ne_of_lt x.lt) es ep,⟨⟨_,Heap.get?_push_size _ rfl,rfl,rfl⟩,x.at λ o e=>Heap.get?_push_of_some _ e⟩⟩
theorem zg2 {R:List Value->Shared->Prop} (hh:A.handled=none) (lo:(d == sysModules)=false) (x:zo1 s.heap d es ep) (hn:es.size<=sizeLine) (h:∀ h' tk,(∀ b o,s.heap.get? b=some o->h'.get? b=some o)->R (es.toList.map (·.key)) { s with heap:=h',toks:=tk }):wpAny (model prog w) A (collect (.ref d)) R E s:=by
 refine PySem.W.kdu_collect (z00 (es:=es) (ep:=ep) lo) hh x hn λ h' tk acc keep hacc=>?_
 have e:acc.toList=es.toList.map (·.key):=by
  apply List.ext_getElem?
  intro i
  obtain ⟨h1,h2⟩:=hacc
  by_cases hi:i<acc.size
  ·obtain ⟨e,q1,q2⟩:=h2 i _ (Array.getElem?_eq_getElem hi)
   rw[Array.getElem?_toList,Array.getElem?_eq_getElem hi,q2,List.getElem?_map,Array.getElem?_toList,q1];rfl
  ·rw[Array.getElem?_toList,Array.getElem?_eq_none (by omega),List.getElem?_eq_none (by rw[List.length_map,Array.length_toList];omega)]
 rw[e]
 exact h h' tk keep
end
def z01:D->Bool|.sc (.str _)=>true|_=>false
def sgI:Nat->D->Bool
 | 0,.sc (.int _)=>true
 | 1,.sc (.bl _)=>true
 | 2,.tup ds=>ds.all z01
 | _,_=>false
def sgs:List Nat->List D->Bool
 | [],[]=>true
 | n::ns,d::ds=>sgI n d && sgs ns ds
 | _,_=>false
def isN (sg:List Nat):D->Bool
 | .tup ds=>sgs sg ds
 | _=>false
mutual
def zhn:D->Bool
 | .sc (.int _)=>true
 | .sc (.bl _)=>true
 | .sc (.str _)=>true
 | .tup ds=>zf6 ds
 | _=>false
def zf6:List D->Bool
 | []=>true
 | d::ds=>zhn d && zf6 ds
end
mutual
def hD (w:World):D->Int
 | .sc (.int i)=>hashInt i
 | .sc (.bl b)=>if b then 1 else 0
 | .sc (.str x)=>hashStr w x
 | .tup ds=>reduceHash (Builtin.Tuple.tupleHashOf (hDs w ds))
 | _=>0
def hDs (w:World):List D->List Int
 | []=>[]
 | d::ds=>hD w d::hDs w ds
end
mutual
def dr:D->Nat
 | .tup ds=>drs ds+1
 | _=>1
def drs:List D->Nat
 | []=>0
 | d::ds=>dr d+drs ds
end
section
variable {prog:Program}{w:World}{E:Value->Shared->Prop}
theorem zkz {A:Around}{k:Nat} (ih:∀ {s:Shared}{d:D}{u:Value}{Q:Int->Shared->Prop},HD s.heap k d u->zhn d=true->Q (hD w d) { s with toks:=s.toks+dr d }->wpAny (model prog w) A (pyHash u) Q E s) :
  ∀ {ds:List D} {its:List Value} {s:Shared} {b:Array Int} {Q:Array Int->Shared->Prop},Paired (HD s.heap k) ds its->zf6 ds=true->(∀ b':Array Int,b'.toList=b.toList++hDs w ds->Q b' { s with toks:=s.toks+drs ds }) →
  wpAny (model prog w) A (forIn its b λ x r=>do let h ← pyHash x;pure PUnit.unit;pure (ForInStep.yield (r.push h))) Q E s
 | _,_,s,b,Q,.nil,_,h=>by rw[List.forIn_nil];exact wpAny_pure (by have:=h b (by simp[hDs]);simpa [drs] using this)
 | d::ds,u::its,s,b,Q,.cons a r,hk,h=>by
  rw[zf6,Bool.and_eq_true] at hk
  rw[List.forIn_cons]
  refine wpAny_bind (wpAny_bind (ih a hk.1 ?_))
  refine wpAny_bind (wpAny_pure (wpAny_pure ?_))
  refine zkz ih (s:={ s with toks:=s.toks+dr d }) r hk.2 λ b' hb=>?_
  have:=h b' (by rw[hb,hDs];simp)
  rw[drs] at this
  simpa [Nat.add_assoc] using this
theorem z5p:∀ {k:Nat}{A:Around}{s:Shared}{d:D}{u:Value}{Q:Int->Shared->Prop},HD s.heap k d u->zhn d=true->A.units+k<cLine->Q (hD w d) { s with toks:=s.toks+dr d }->wpAny (model prog w) A (pyHash u) Q E s:=by
 intro k
 induction k with
 | zero =>
  intro A s d u Q h hk hu q
  cases d with
  | sc v =>
   obtain ⟨_,r⟩:=h
   cases v with
   | int i=>obtain ⟨t,rfl⟩:=r;exact wpAny_pyHash_int q
   | str x=>obtain ⟨t,rfl⟩:=r;exact wpAny_pyHash_str q
   | bl b =>
    cases r
    refine PySem.W.pyHash_slot (T:="bool") rfl PySem.F.slot_bool_hash entry_int_hash (args_int_hash _) (beq_builtin_none _) (.inr (by omega)) ?_
    cases b
    ·exact (show wpAny _ _ (do ret (← mkInt 0)) _ _ s from wpAny_bind (wpAny_mkInt (wpAny_pure ⟨_,_,rfl,q⟩)))
    ·exact (show wpAny _ _ (do ret (← mkInt 1)) _ _ s from wpAny_bind (wpAny_mkInt (wpAny_pure ⟨_,_,rfl,q⟩)))
   | _=>cases hk
  | _=>exact h.elim
 | succ k ih =>
  intro A s d u Q h hk hu q
  cases d with
  | sc v =>
   obtain ⟨_,r⟩:=h
   cases v with
   | int i=>obtain ⟨t,rfl⟩:=r;exact wpAny_pyHash_int q
   | str x=>obtain ⟨t,rfl⟩:=r;exact wpAny_pyHash_str q
   | bl b =>
    cases r
    refine PySem.W.pyHash_slot (T:="bool") rfl PySem.F.slot_bool_hash entry_int_hash (args_int_hash _) (beq_builtin_none _) (.inr (by omega)) ?_
    cases b
    ·exact (show wpAny _ _ (do ret (← mkInt 0)) _ _ s from wpAny_bind (wpAny_mkInt (wpAny_pure ⟨_,_,rfl,q⟩)))
    ·exact (show wpAny _ _ (do ret (← mkInt 1)) _ _ s from wpAny_bind (wpAny_mkInt (wpAny_pure ⟨_,_,rfl,q⟩)))
   | _=>cases hk
  | tup ds =>
   obtain ⟨a,its,rfl,t,p⟩:=h
   obtain ⟨o,ho,hc,n,hd⟩:=t
   rw[zhn] at hk
   refine PySem.W.pyHash_slot (T:="tuple") ⟨_,ho,hc⟩ PySem.F.slot_tuple_hash PySem.F.entry_tuple_hash (PySem.F.args_tuple_hash_1 _) (beq_builtin_none _) (.inr (by omega)) ?_
   show wpAny _ _ (Builtin.Tuple.tupleItemsOf (.ref a) >>= _) _ _ s
   refine wpAny_bind (wpAny_tupleItemsOf ho hd ?_);refine wpAny_bind ?_;rw[<-Array.forIn_toList]
   refine zkz (A:=A.in1) (k:=k) (λ {s d u Q} h1 h2 q1=>ih h1 h2 (by show A.units+1+k<cLine;omega) q1) p hk λ b' hb=>?_
   show wpAny _ _ (retInt (Builtin.Tuple.tupleHashOf b'.toList)) _ _ _
   rw[hb]
   refine wpAny_bind (wpAny_mkInt (wpAny_pure ⟨_,_,rfl,?_⟩))
   rw[hD,dr] at q
   simpa [Nat.add_assoc] using q
  | _=>cases hk
theorem z02:∀ {k n:Nat}{A:Around}{s:Shared}{d:D}{u:Value}{Q:Bool->Shared->Prop},HD s.heap k d u->zhn d=true->k<=n->Q true s->wpAny (model prog w) A (eqIsQuiet n u) Q E s:=by
 have flat:∀ {n:Nat} {A:Around} {s:Shared} {v:V} {u:Value} {Q:Bool->Shared->Prop},zbe v u->zhn (.sc v)=true->Q true s->wpAny (model prog w) A (eqIsQuiet n u) Q E s:=by
  intro n A s v u Q r hk q
  have hv:carriedByValue u=true:=by
   cases v with
   | int i=>obtain ⟨t,rfl⟩:=r;rfl
   | str x=>obtain ⟨t,rfl⟩:=r;rfl
   | bl b=>cases r;rfl
   | _=>cases hk
  rw[eqIsQuiet_byValue n hv]
  exact wpAny_pure q
 intro k
 induction k with
 | zero =>
  intro n A s d u Q h hk hn q
  cases d with
  | sc v=>exact flat h.2 hk q
  | _=>exact h.elim
 | succ k ih =>
  intro n A s d u Q h hk hn q
  cases d with
  | sc v=>exact flat h.2 hk q
  | tup ds =>
   obtain ⟨a,its,rfl,t,p⟩:=h
   obtain ⟨o,ho,hc,m,hd⟩:=t
   rw[zhn] at hk
   obtain ⟨n',rfl⟩:∃ n',n=n'+1:=⟨n - 1,by omega⟩
   unfold eqIsQuiet
   refine wpAny_bind (wpAny_specialOf (T:="tuple") ⟨_,ho,hc⟩ PySem.F.slot_tuple_eq.lookup ?_);show wpAny _ _ (isInstance (.ref a) (.type "tuple") >>= _) _ _ s
   refine wpAny_bind (wpAny_isInstance (T:="tuple") ⟨_,ho,hc⟩ isSubtype_tuple_tuple ?_);simp only[Bool.not_true,Bool.false_eq_true,if_false]
   refine wpAny_bind (wpAny_seqItems ho hd ?_);refine wpAny_bind ?_;show wpAny _ _ (forIn its.toArray _ _) _ _ s;rw[<-Array.forIn_toList]
   refine wpAny_forIn_list _ (λ rest r s'=>r.1=none/\s'=s/\∃ es,Paired (HD s.heap k) es rest/\zf6 es=true) _ ?_ ?_ _ _ ⟨rfl,rfl,ds,p,hk⟩
   ·rintro v rest r s' ⟨hr,rfl,es,pe,he⟩
    cases pe with
    | cons a1 b1 =>
     rw[zf6,Bool.and_eq_true] at he
     refine wpAny_bind (ih a1 he.1 (by omega) ?_)
     simp only[Bool.not_true,Bool.false_eq_true,if_false]
     exact wpAny_pure ⟨rfl,rfl,_,b1,he.2⟩
   ·rintro ⟨r1,r2⟩ s' ⟨hr,rfl,_⟩
    simp only at hr
    subst hr
    exact wpAny_pure q
  | _=>cases hk
theorem z03 {h h':Heap}{c:Addr}{o:Obj}{es:Array DictEntry}{ep:Nat} (ho:h.get? c=some o) (hd:o.data=.dict es ep) (hs:Heap.SameBut c h h'):∀ {k:Nat}{d:D}{u:Value},HD h k d u->HD h' k d u:=by
 intro k
 induction k with
 | zero=>intro d u x;cases d <;> exact x
 | succ k ih =>
  intro d u x
  have ne:∀ {b:Addr} {o':Obj} {xs:Array Value} {n:Nat},h.get? b=some o'->o'.data=.seq xs n->b≠c:=λ {b o' xs n} e1 e2 z=>by
   subst z
   rw[ho] at e1
   cases e1
   rw[hd] at e2
   cases e2
  cases d with
  | sc v=>exact x
  | tup ds =>
   obtain ⟨a,its,e,⟨o',h1,h2,n,h3⟩,p⟩:=x
   exact⟨a,its,e,⟨o',(hs.2 a (ne h1 h3)).trans h1,h2,n,h3⟩,p.zmap λ _ _=>ih⟩
  | lst ds =>
   obtain ⟨a,its,e,⟨o',n,h1,h2,h3⟩,p⟩:=x
   exact⟨a,its,e,⟨o',n,(hs.2 a (ne h1 (by first|exact h3.2.1|exact h3.2|exact h3.2.2))).trans h1,h2,h3⟩,p.zmap λ _ _=>ih⟩
  | _=>exact x.elim
end
theorem zno:∀ {ds es:List D},ds.all z01=true->es.all z01=true->(zb1 ds es=true↔ds=es)
 | [],[],_,_=>by simp[zb1]
 | [],_::_,_,_=>by simp[zb1]
 | _::_,[],_,_=>by simp[zb1]
 | d::ds,e::es,h1,h2=>by
  rw[List.all_cons,Bool.and_eq_true] at h1 h2
  have ih:=zno h1.2 h2.2
  cases d with
  | sc a =>
   cases a with
   | str x =>
    cases e with
    | sc b =>
     cases b with
     | str y=>rw[zb1,Bool.and_eq_true,ih,deq];simp[eqV]
     | _=>cases h2.1
    | _=>cases h2.1
   | _=>cases h1.1
  | _=>cases h1.1
theorem z5q {n:Nat}{d e:D} (h1:sgI n d=true) (h2:sgI n e=true):deq d e=true↔d=e:=by
 match n,d,e,h1,h2 with
 | 0,.sc (.int i),.sc (.int j),_,_=>rw[deq];simp[eqV]
 | 1,.sc (.bl i),.sc (.bl j),_,_=>rw[deq];simp[eqV]
 | 2,.tup ds,.tup es,h1,h2=>rw[deq,zno h1 h2];simp
theorem zr0:∀ {sg:List Nat}{ds es:List D},sgs sg ds=true->sgs sg es=true->(zb1 ds es=true↔ds=es)
 | [],[],[],_,_=>by simp[zb1]
 | n::sg,d::ds,e::es,h1,h2=>by
  rw[sgs,Bool.and_eq_true] at h1 h2
  rw[zb1,Bool.and_eq_true,z5q h1.1 h2.1,zr0 h1.2 h2.2];simp
theorem z04 {n:Nat}{d:D} (h:sgI n d=true):zhn d=true:=by
 match n,d,h with
 | 0,.sc (.int i),_=>simp[zhn]
 | 1,.sc (.bl i),_=>simp[zhn]
 | 2,.tup ds,h =>
  rw[zhn]
  have:∀ l:List D,l.all z01=true->zf6 l=true:=by
   intro l
   induction l with
   | nil=>intro _;simp[zf6]
   | cons a r ih =>
    intro h
    rw[List.all_cons,Bool.and_eq_true] at h
    rw[zf6,ih h.2]
    cases a with
    | sc v=>cases v <;> first|(simp[zhn];done)|cases h.1
    | _=>cases h.1
  exact this ds h
theorem znp:∀ {sg:List Nat}{ds:List D},sgs sg ds=true->zf6 ds=true
 | [],[],_=>by simp[zf6]
 | n::sg,d::ds,h=>by
  rw[sgs,Bool.and_eq_true] at h
  rw[zf6,z04 h.1,znp h.2];rfl
theorem znq {sg:List Nat}{d:D} (h:isN sg d=true):zhn d=true:=by
 cases d with
 | tup ds=>rw[zhn];exact znp h
 | _=>cases h
theorem zr1 {sg:List Nat}{d e:D} (h1:isN sg d=true) (h2:isN sg e=true):deq d e=true↔d=e:=by
 cases d with
 | tup ds =>
  cases e with
  | tup es=>rw[deq,zr0 h1 h2];simp
  | _=>cases h2
 | _=>cases h1
open Classical in
def zvm (prog:Program) (w:World) (sg:List Nat):HeapKind prog w D where
 is:=λ h d a=>isN sg d=true/\HD h 3 d (.ref a)
 hash:=hD w
 draws:=dr
 room:=λ A=>A.units+3<cLine
 inj:=λ h1 h2=>zxl h1.2 h2.2
 keeps:=λ h ho hd hs=>⟨h.1,z03 ho hd hs h.2⟩
 pyHash:=λ hu hk h=>z5p hk.2 (znq hk.1) hu h
 eqBool:=λ {A E s x y a b Q} hu hx hy h=>by
  refine ziv hx.2 hy.2 hu prog w E Q ?_
  rw[zq0 hx.2 hy.2]
  have:deq x y=decide (x=y):=by
   by_cases e:x=y
   ·rw[decide_eq_true e];exact (zr1 hx.1 hy.1).mpr e
   ·rw[decide_eq_false e];exact Bool.eq_false_iff.mpr λ z=>e ((zr1 hx.1 hy.1).mp z)
  rw[this];exact h
 quiet:=λ hk h=>z02 hk.2 (znq hk.1) (by omega) h
def z24 (lt:D->D->Bool) (x:D):List D->List D
 | []=>[x]
 | y::r=>if lt x y=true then x::y::r else y::z24 lt x r
def zk0 (lt:D->D->Bool):List D->List D
 | []=>[]
 | x::r=>z24 lt x (zk0 lt r)
structure LtT (lt:D->D->Bool) (S:List D):Prop where
 tr:∀ a∈S,∀ b∈S,∀ c∈S,lt a b=true->lt b c=true->lt a c=true
 tot:∀ a∈S,∀ b∈S,a=b\/lt a b=true\/lt b a=true
 as:∀ a∈S,∀ b∈S,lt a b=true->lt b a=false
theorem zg3 (lt:D->D->Bool) (x:D):∀ l,(z24 lt x l).Perm (x::l)
 | []=>List.Perm.refl _
 | y::r=>by
  unfold z24
  split
  ·exact List.Perm.refl _
  ·exact ((zg3 lt x r).cons y).trans (List.Perm.swap x y r)
theorem zbr (lt:D->D->Bool):∀ l,(zk0 lt l).Perm l
 | []=>List.Perm.refl _
 | x::r=>(zg3 lt x _).trans ((zbr lt r).cons x)
theorem zr2 {lt:D->D->Bool}{S:List D} (T:LtT lt S) {x:D} (hx:x∈S):∀ {l:List D},(∀ y∈l,y∈S)->x ∉ l->l.Pairwise (λ a b=>lt a b=true)->(z24 lt x l).Pairwise (λ a b=>lt a b=true)
 | [],_,_,_=>List.pairwise_singleton _ _
 | y::r,hS,hn,h=>by
  have hy:=hS y List.mem_cons_self
  unfold z24
  split
  ·rename_i hxy
   refine List.pairwise_cons.mpr ⟨λ z hz=>?_,h⟩
   rcases List.mem_cons.mp hz with rfl|hz
   ·exact hxy
   ·exact T.tr x hx y hy z (hS z (List.mem_cons_of_mem _ hz)) hxy ((List.pairwise_cons.mp h).1 z hz)
  ·rename_i hxy
   refine List.pairwise_cons.mpr ⟨λ z hz=>?_,zr2 T hx (λ z hz=>hS z (List.mem_cons_of_mem _ hz)) (λ z=>hn (List.mem_cons_of_mem _ z)) (List.pairwise_cons.mp h).2⟩
   rcases List.mem_cons.mp ((zg3 lt x r).mem_iff.mp hz) with rfl|hz
   ·rcases T.tot _ hx y hy with e|e|e
    ·exact absurd (e ▸ List.mem_cons_self) hn
    ·exact absurd e hxy
    ·exact e
   ·exact (List.pairwise_cons.mp h).1 z hz
theorem zmi {lt:D->D->Bool}{S:List D} (T:LtT lt S):∀ {l:List D},(∀ y∈l,y∈S)->l.Nodup->(zk0 lt l).Pairwise (λ a b=>lt a b=true)
 | [],_,_=>List.Pairwise.nil
 | x::r,hS,hn=>by
  have hn:=List.nodup_cons.mp hn
  exact zr2 T (hS x List.mem_cons_self) (λ y hy=>hS y (List.mem_cons_of_mem _ ((zbr lt r).mem_iff.mp hy))) (λ z=>hn.1 ((zbr lt r).mem_iff.mp z)) (zmi T (λ y hy=>hS y (List.mem_cons_of_mem _ hy)) hn.2)
theorem znr {lt:D->D->Bool}{l out:List D} (T:LtT lt l) (hn:l.Nodup) (hp:out.Perm l) (ho:out.Pairwise λ a b=>lt b a=false):out=zk0 lt l:=by
 have h1:=zbr lt l
 have h2:(zk0 lt l).Pairwise λ a b=>lt b a=false:=by
  have up:=zmi T (λ y hy=>hy) hn
  rw[List.pairwise_iff_getElem] at up ⊢
  intro i j hi hj hij
  exact T.as _ (h1.mem_iff.mp (List.getElem_mem hi)) _ (h1.mem_iff.mp (List.getElem_mem hj)) (up i j hi hj hij)
 refine (hp.trans h1.symm).eq_of_pairwise (λ a b ha hb e1 e2=>?_) ho h2
 rcases T.tot a (hp.mem_iff.mp ha) b (h1.mem_iff.mp hb) with e|e|e
 ·exact e
 ·rw[e] at e2;cases e2
 ·rw[e] at e1;cases e1
def rk (F:List D->Option D) (d:D):D:=(F [d]).getD .non
def ltK (F:List D->Option D) (d e:D):Bool:=dlt (rk F d) (rk F e)
structure KOk (F:List D->Option D) (ks:List D):Prop where
 ex:∀ d∈ks,∃ r,F [d]=some r/\dOk LV r=true
 kd:(∀ d∈ks,znn (rk F d)=true)\/∀ d∈ks,znn (rk F d)=false/\z0w (rk F d)=true
 ok:∀ d∈ks,∀ e∈ks,zb8 (rk F d) (rk F e)=true
 lt:LtT (ltK F) ks
 nd:ks.Nodup
 sm:ks.length<64
open Classical in
def zht (F:List D->Option D) (ks:List D):Option (List D):=if KOk F ks then some (zk0 (ltK F) ks) else none
theorem zec {F:List D->Option D}{d r:D} (h:F [d]=some r):rk F d=r:=by unfold rk;rw[h];rfl
def ltI (F:List D->Option D) (ks:List D) (i j:Nat):Bool:=ltK F (ks.getD (min i (ks.length - 1)) .non) (ks.getD (min j (ks.length - 1)) .non)
theorem KOk.irr {F:List D->Option D}{ks:List D} (h:KOk F ks) {d:D} (hd:d∈ks):ltK F d d=false:=by
 cases e:ltK F d d with
 | false=>rfl
 | true=>have:=h.lt.as d hd d hd e;rw[e] at this;cases this
theorem KOk.wo {F:List D->Option D}{ks:List D} (h:KOk F ks) (hn:0<ks.length):WO (ltI F ks):=by
 have m:∀ i,ks.getD (min i (ks.length - 1)) .non∈ks:=λ i=>by
  have hi:min i (ks.length - 1)<ks.length:=by omega
  rw[List.getD_eq_getElem?_getD,List.getElem?_eq_getElem hi]
  exact List.getElem_mem hi
 refine⟨λ a=>h.irr (m a),λ a b c hac=>?_,λ a b hab=>h.lt.as _ (m a) _ (m b) hab⟩
 unfold ltI at hac ⊢
 rcases h.lt.tot _ (m a) _ (m b) with e|e|e
 ·rw[<-e];exact .inr hac
 ·exact .inl e
 ·exact .inr (h.lt.tr _ (m b) _ (m a) _ (m c) e hac)
theorem KOk.ord {F:List D->Option D}{ks:List D} (h:KOk F ks):KOrd (ks.map (rk F)) (if 0<ks.length then ltI F ks else λ _ _=>false):=by
 refine⟨?_,λ r hr=>?_,?_,λ i j r t hi hj=>?_⟩
 ·split
  ·rename_i hn;exact h.wo hn
  ·exact⟨λ _=>rfl,(λ _ _ _ z=>nomatch z),(λ _ _ z=>nomatch z)⟩
 ·obtain ⟨d,hd,rfl⟩:=List.mem_map.mp hr
  obtain ⟨r,h1,h2⟩:=h.ex d hd
  rw[zec h1];exact h2
 ·rcases h.kd with k|k
  ·exact .inl λ r hr=>by obtain ⟨d,hd,rfl⟩:=List.mem_map.mp hr;exact k d hd
  ·exact .inr λ r hr=>by obtain ⟨d,hd,rfl⟩:=List.mem_map.mp hr;exact k d hd
 ·rw[List.getElem?_map] at hi hj
  obtain ⟨d,hd,rfl⟩:=Option.map_eq_some_iff.mp hi
  obtain ⟨e,he,rfl⟩:=Option.map_eq_some_iff.mp hj
  have i1:=(List.getElem?_eq_some_iff.mp hd).1
  have j1:=(List.getElem?_eq_some_iff.mp he).1
  refine⟨h.ok d (List.mem_of_getElem? hd) e (List.mem_of_getElem? he),?_⟩
  rw[if_pos (by omega)]
  unfold ltI ltK
  rw[show min i (ks.length - 1)=i by omega,show min j (ks.length - 1)=j by omega,List.getD_eq_getElem?_getD,hd,List.getD_eq_getElem?_getD,he];rfl
theorem KOk.out {F:List D->Option D}{ks:List D} (h:KOk F ks) {π:Array Nat} (hix:Ix ks.length π) (hup:Up (if 0<ks.length then ltI F ks else λ _ _=>false) π ks.length):π.toList.map (λ i=>ks.getD i .non)=zk0 (ltK F) ks:=by
 have hsz:=hix.size
 have bd:∀ i∈π.toList,i<ks.length:=λ i hi=>List.mem_range.mp (hix.mem_iff.mp hi)
 refine znr h.lt h.nd ?_ ?_
 ·have e:(List.range ks.length).map (λ i=>ks.getD i D.non)=ks:=by
   apply List.ext_getElem?
   intro i
   by_cases hi:i<ks.length
   ·simp[hi]
   ·simp[hi]
  have:=hix.map λ i=>ks.getD i D.non
  rwa [e] at this
 ·rw[List.pairwise_iff_getElem]
  intro i j hi hj hij
  rw[List.length_map,Array.length_toList] at hi hj
  have u:=hup i j (by omega) (by omega)
  rw[if_pos (by omega)] at u
  have gi:gp π i=π[i]:=by rw[zku];simp[hi]
  have gj:gp π j=π[j]:=by rw[zku];simp[hj]
  have bi:=bd π[i] (by simp)
  have bj:=bd π[j] (by simp)
  unfold ltI at u
  rw[gi,gj,show min π[i] (ks.length - 1)=π[i] by omega,show min π[j] (ks.length - 1)=π[j] by omega] at u
  simpa using u
abbrev zo2:DecidableEq D:=λ a b=>Classical.propDecidable (a=b)
def zhu (prog:Program) (w:World) (sg:List Nat) (p:Addr) (xs:List (D×Addr×Value)):HO:=.ext λ h=>(p == sysModules)=false/\∃ o es ep,h.get? p=some o/\o.ExactDict/\o.data=.dict es ep/\es.toList=xs.map (@entryOfKey prog w D zo2 (zvm prog w sg))/\(xs.map (·.1)).Nodup
def zr3 (K:PySem.W.Frag) (Hf:Hp) (sg:List Nat) (xs:List (D×Addr×Value)):Prop:=∀ x∈xs,isN sg x.1=true/\Dn K Hf x.1 (.ref x.2.1)/\x.2.2=.bool true
open Classical in
def zf7 (ks:List D) (d:D):List D:=if d∈ks then ks else ks++[d]
section
variable {X:Cx}{pins:List (Addr×Obj)}{σ:St}{H Hf:Hp}{s:Shared}{sg:List Nat}{p:Addr}{xs:List (D×Addr×Value)}
theorem z05 {P:Program}{w:World}{H:Hp}{h:Heap}{a:Addr}{φ:Heap->Prop} (h1:φ h) (h2:∃ o,h.get? a=some o) (h3:∀ h1 h2:Heap,φ h1->(∀ o,h1.get? a=some o->h2.get? a=some o)->φ h2):zbb P w H h a (.ext φ):=⟨h1,h2,h3⟩
theorem zns {P:Program}{w:World}{H:Hp}{h:Heap} (h1:(p == sysModules)=false) {o:Obj}{es:Array DictEntry}{ep:Nat} (ho:h.get? p=some o) (hx:o.ExactDict) (hd:o.data=.dict es ep) (he:es.toList=xs.map (@entryOfKey P w D zo2 (zvm P w sg))) (hn:(xs.map (·.1)).Nodup):zbb P w H h p (zhu P w sg p xs) :=
 z05 ⟨h1,o,es,ep,ho,hx,hd,he,hn⟩ ⟨o,ho⟩ λ _ _ ⟨a1,o,es,ep,a2,r⟩ k=>⟨a1,o,es,ep,k o a2,r⟩
theorem Inv.ndict (I:Inv X pins σ H s) (h:H p=some (zhu X.prog X.w sg p xs)):(p == sysModules)=false/\∃ o es ep,s.heap.get? p=some o/\o.ExactDict/\o.data=.dict es ep/\es.toList=xs.map (@entryOfKey X.prog X.w D zo2 (zvm X.prog X.w sg))/\(xs.map (·.1)).Nodup :=
 (show zbb X.prog X.w H s.heap p (zhu X.prog X.w sg p xs) from I.hok p _ h).1
theorem z06 {x:D} (h:z01 x=true):dOk 1 x=true:=by
 cases x with
 | sc v=>rfl
 | _=>cases h
theorem z07 {d:D} (h:isN sg d=true):dOk 3 d=true:=by
 cases d with
 | tup ds =>
  have str:∀ l:List D,l.all z01=true->l.all (dOk 1)=true:=λ l h=>List.all_eq_true.mpr λ x hx=>(z06 (List.all_eq_true.mp h x hx))
  have one:∀ (n:Nat) (d:D),sgI n d=true->dOk 2 d=true:=λ n d h=>by
   match n,d,h with
   | 0,.sc (.int i),_=>rfl
   | 1,.sc (.bl i),_=>rfl
   | 2,.tup ds,h=>exact str ds h
  have all:∀ {sg:List Nat} {ds:List D},sgs sg ds=true->ds.all (dOk 2)=true:=by
   intro sg
   induction sg with
   | nil=>intro ds h;cases ds with|nil=>rfl|cons _ _=>cases h
   | cons n sg ih =>
    intro ds h
    cases ds with
    | nil=>cases h
    | cons d ds =>
     rw[sgs,Bool.and_eq_true] at h
     rw[List.all_cons,one n d h.1,ih h.2];rfl
  exact all h
 | _=>cases h
theorem ybu (I:Inv X pins σ H s) (fh:zar Hf H) {d:D}{a:Addr} (hN:isN sg d=true) (dn:Dn X.K Hf d (.ref a)):isN sg d=true/\HD s.heap 3 d (.ref a):=⟨hN,I.den ((dn.same fh).at (z07 hN)) rfl⟩
theorem zr4 {xs:List (D×Addr×Value)}{K:PySem.W.Frag} (hx:zr3 K Hf sg xs) {d:D}{a:Addr} (hN:isN sg d=true) (dn:Dn K Hf d (.ref a)):zr3 K Hf sg (@storedH D zo2 xs d a (.bool true))/\(@storedH D zo2 xs d a (.bool true)).map (·.1)=zf7 (xs.map (·.1)) d:=by
 unfold storedH zf7
 by_cases h:d∈xs.map (·.1)
 ·have h2:(@atKey D zo2 xs d).isSome=true:=by
   unfold atKey
   rw[Option.isSome_map,List.find?_isSome]
   obtain ⟨x,hx1,hx2⟩:=List.mem_map.mp h
   exact⟨x,hx1,@decide_eq_true _ (zo2 _ _) hx2⟩
  rw[if_pos h2,if_pos h]
  have e:xs.map (@putAt D zo2 d (.bool true))=xs:=by
   refine (List.map_congr_left λ x hx1=>?_).trans (List.map_id _)
   show @putAt D zo2 d (.bool true) x=x
   unfold putAt
   split
   ·rw[<-(hx x hx1).2.2]
   ·rfl
  rw[e]
  exact⟨hx,rfl⟩
 ·have h2:¬ (@atKey D zo2 xs d).isSome=true:=λ z=>by
   unfold atKey at z
   rw[Option.isSome_map,List.find?_isSome] at z
   obtain ⟨x,hx1,hx2⟩:=z
   exact h (List.mem_map.mpr ⟨x,hx1,@of_decide_eq_true _ (zo2 _ _) hx2⟩)
  rw[if_neg h2,if_neg h]
  refine⟨λ x hx1=>?_,by rw[List.map_append];rfl⟩
  rcases List.mem_append.mp hx1 with hx1|hx1
  ·exact hx x hx1
  ·rw[List.mem_singleton.mp hx1];exact⟨hN,dn,rfl⟩
theorem yc2 {a:Addr}{d:D}{Q:Unit->Shared->Prop}{E:Value->Shared->Prop} (hu:X.A.units+4<cLine) (I:Inv X pins σ H s) (fh:zar Hf H) (hp:H p=some (zhu X.prog X.w sg p xs)) (hx:zr3 X.K Hf sg xs) (hl:xs.length<=100000) (hN:isN sg d=true) (dn:Dn X.K Hf d (.ref a))
  (q:∀ s',Inv X pins σ (upd H p (zhu X.prog X.w sg p (@storedH D zo2 xs d a (.bool true)))) s'->Q () s'):wpAny (model X.prog X.w) X.A (setItem (.ref p) (.ref a) (.bool true)) Q E s:=by
 obtain ⟨h0,o,es,ep,h1,h2,h3,h4,h5⟩:=I.ndict hp
 refine @wpAny_setItem_heap X.prog X.w D zo2 (zvm X.prog X.w sg) X.A E s p a d xs (.bool true) Q (show X.A.units+1+3<cLine by omega) (ybu I fh hN dn) ⟨o,es,ep,h1,h2,h3,h4,λ x hx1=>ybu I fh (hx x hx1).1 (hx x hx1).2.1,h5⟩ (λ h' hd' hs=>q _ ?_) (sz hl)
 obtain ⟨o',es',ep',g1,g2,g3,g4,_,g5⟩:=hd'
 exact I.write (x:=p) (e:=p) (by rw[hp];trivial) (.inl rfl) (λ b u hb e=>(hs.2 b hb).trans e) ⟨_,g1⟩ (zns h0 g1 g2 g3 g4 g5)
end
structure NS (X:Cx) (B:Bs) (sg:List Nat) (j:Nat) (Hf:Hp) (ρ:Rho) (σ:St) (H:Hp) (ks:List D):Prop where
 vi:VI X.K B Hf ρ σ H
 nj:ρ[j]?=some none
 ex:∃ p xs,σ[j]?=some (some (.ref p))/\Hf p=none/\B.h p=none/\H p=some (zhu X.prog X.w sg p xs)/\xs.map (·.1)=ks/\zr3 X.K Hf sg xs
abbrev GN:=Rho->List D->Option (Rho×List D)
def sNx (X:Cx) (B:Bs) (sg:List Nat) (j:Nat) (g:GN):TS:=λ D σ H=>∃ Hf ρ ks ρ' ks',NS X B sg j Hf ρ σ H ks/\g ρ ks=some (ρ',ks')/\∀ Hf' σ' H',zar Hf Hf'->NS X B sg j Hf' ρ' σ' H' ks'->D.nx σ' H'
def zmj (sg:List Nat) (fk:Rho->Option D):GN:=λ ρ ks=>(fk ρ).bind λ d=>if isN sg d=true/\ks.length<=100000 then some (ρ,zf7 ks d) else none
def zo3 (gt:D->Rho->Option Rho) (f:GN):List D->GN
 | [],ρ,ks=>some (ρ,ks)
 | d::r,ρ,ks=>(gt d ρ).bind λ ρ1=>(f ρ1 ks).bind λ z=>zo3 gt f r z.1 z.2
def zjj (fi:Rho->Option (List D)) (gt:D->Rho->Option Rho) (f:GN):GN:=λ ρ ks=>(fi ρ).bind λ ds=>zo3 gt f ds ρ ks
theorem zmk {Hf H Hf' H':Hp}{p:Addr}{o:HO} (e:Ex Hf H Hf' H') (h1:Hf p=none) (h2:H p=some o) (ho:∀ xs,o≠.tup xs:=by intro xs z;cases z):Hf' p=none:=by
 cases z:Hf' p with
 | none=>rfl
 | some u =>
  rcases e.nw p (by rw[z];exact λ z=>nomatch z) with y|y
  ·exact absurd h1 y
  ·exact (y.no h2 ho).elim
section
variable {X:Cx}{B:Bs}{sg:List Nat}{j:Nat}{Hf Hf' H H':Hp}{ρ:Rho}{σ:St}{ks:List D}{K:PySem.W.Frag}
theorem NS.ext (I:NS X B sg j Hf ρ σ H ks) (e:Ex Hf H Hf' H'):NS X B sg j Hf' ρ σ H' ks :=
 ⟨I.vi.ext e,I.nj,let ⟨p,xs,h1,h2,h3,h4,h5,h6⟩:=I.ex;⟨p,xs,h1,zmk e h2 h4 (λ _ z=>nomatch z),h3,e.hh _ _ h4,h5,λ x hx=>⟨(h6 x hx).1,(h6 x hx).2.1.same e.ff,(h6 x hx).2.2⟩⟩⟩
theorem VI.setU {x:Option V} (I:VI K B Hf ρ σ H) (hj:ρ[j]?=some none):VI K B Hf ρ (σ.set j x) H:=by
 have ne:∀ {i:Nat} {sl:Sl},ρ[i]?=some (some sl)->j≠i:=λ {i sl} h z=>by subst z;rw[hj] at h;cases h
 refine⟨I.ex,by simp[I.len],λ i sl h=>?_,λ i sl p h o q=>?_,λ i k si sk p h1 h2 o1 o2 q1 q2=>?_⟩
 ·obtain ⟨v,h1,h2⟩:=I.ok i sl h
  exact⟨v,by rw[List.getElem?_set_ne (ne h)];exact h1,h2⟩
 ·rw[List.getElem?_set_ne (ne h)] at q;exact I.own i sl p h o q
 ·rw[List.getElem?_set_ne (ne h1)] at q1
  rw[List.getElem?_set_ne (ne h2)] at q2
  exact I.dis i k si sk p h1 h2 o1 o2 q1 q2
theorem VI.offE {p:Addr}{φ:Heap->Prop}{o:HO} (I:VI K B Hf ρ σ H) (hf:Hf p=none) (hB:B.h p=none) (hp:H p=some (.ext φ)):VI K B Hf ρ σ (upd H p o):=by
 refine⟨⟨I.ex.ff,λ b u h=>?_,λ b u h=>?_,I.ex.nw,I.ex.nf⟩,I.len,λ i sl h=>?_,I.own,I.dis⟩
 ·rw[zaf (zam h hB)];exact I.ex.hh b u h
 ·rw[zaf (zam h hf)];exact I.fh b u h
 ·obtain ⟨v,h1,h2⟩:=I.ok i sl h
  refine⟨v,h1,h2.away λ o z=>?_⟩
  subst z
  cases sl with
  | sh d=>cases o
  | ow ds=>obtain ⟨q,xs,e,_,h3,_⟩:=h2;cases e;rw[hp] at h3;cases h3
  | dk ks ds=>obtain ⟨q,xs,e,_,h3,_⟩:=h2;cases e;rw[hp] at h3;cases h3
  | dt ks ds=>obtain ⟨q,xs,e,_,h3,_⟩:=h2;cases e;rw[hp] at h3;cases h3
variable {fk:Rho->Option D}{pos:Pos}{key:Expr}
theorem z5r {n:Nat}{x:Str}{p1 pos' cp:Pos}{kk:Nat} (hr:Room n X.A) (hN:X.N[j]?=some x) (hk:PE X key (eV X.K B fk)) (hvis:Vis X.env.scope x:=by first|exact Or.inl rfl|exact Or.inr (Or.inl rfl)|exact Or.inr (Or.inr rfl)) (hd:(x == ("__debug__" : Str))=false:=by decide) (hcd:(x == ("__classdict__" : Str))=false:=by decide)
  (hs:swapsWith (.Constant (.bool true) kk cp) (some (.Subscript (.Name x p1) key pos')) pos.line X.env=pure false:=by rfl):PS X (.Assign [.Subscript (.Name x p1) key pos'] (.Constant (.bool true) kk cp) pos) (sNx X B sg j (zmj sg fk)):=by
 intro pins s σ H D I h
 obtain ⟨Hf,ρ,ks,ρ',ks',N,hg,q⟩:=h
 obtain ⟨d,hd0,hg⟩:=bind_some hg
 split at hg
 ·rename_i hc
  cases hg
  obtain ⟨p,xs,hσ,hf,hB,hp,hks,hxs⟩:=N.ex
  refine wpAny_Assign_Subscript (thn (z3f pins s σ H (λ v H1=>v=.bl true/\H1=H) I ⟨rfl,rfl⟩) λ r s1 ⟨v,H1,I1,rv,e1,e2⟩=>?_) hs
  subst e1 e2
  cases rv
  refine thn (zcc hN hvis hd hcd pins s1 σ H1 (λ v H2=>v=.ref p/\H2=H1) I1 ⟨_,hσ,rfl,rfl⟩) λ u s2 ⟨v,H2,I2,ru,e1,e2⟩=>?_
  subst e1 e2
  cases ru
  refine thn (hk pins s2 σ H2 (λ v H3=>∃ Hf3,Ex Hf H2 Hf3 H3/\Dn X.K Hf3 d v) I2 ⟨Hf,ρ,d,N.vi,hd0,λ Hf3 H3 v ex dv=>⟨Hf3,ex,dv⟩⟩) λ iv s3 ⟨y,H3,I3,ry,Hf3,ex,dy⟩=>?_
  have N3:=N.ext ex
  obtain ⟨a,rfl⟩:∃ a,y=.ref a:=by
   cases d with
   | tup ds=>obtain ⟨a,_,e,_⟩:=dy.tupU;exact⟨a,e⟩
   | _=>cases hc.1
  cases ry
  have hp3:H3 p=some (zhu X.prog X.w sg p xs):=ex.hh _ _ hp
  have hf3:=zmk ex hf hp (λ _ z=>nomatch z)
  have hxs3:zr3 X.K Hf3 sg xs:=λ x hx=>⟨(hxs x hx).1,(hxs x hx).2.1.same ex.ff,(hxs x hx).2.2⟩
  refine yc2 (by have:=hr.units;omega) I3 ex.fh hp3 hxs3 (by rw[<-List.length_map (f:=(·.1)),hks];exact hc.2) hc.1 dy λ s4 I4=>⟨σ,_,I4,q Hf3 σ _ ex.ff ⟨N3.vi.offE hf3 hB hp3,N3.nj,p,_,hσ,hf3,hB,zac,?_,(zr4 hxs3 hc.1 dy).1⟩⟩
  rw[(zr4 hxs3 hc.1 dy).2,hks]
 ·cases hg
variable {tg iter:Expr}{fi:Rho->Option (List D)}{gt:D->Rho->Option Rho}{sl:List Nat}{g:GN}
theorem zvn {body:List Stmt} (hp:PassesOwn (model X.prog X.w) X.A X.env X.xe) (hc:X.calm=true) (hi:PI X tg iter (iV X.K B fi)) (hg:PG X tg (gV X.K B sl gt)) (hj:j ∉ sl) (hgt:∀ d ρ ρ1,gt d ρ=some ρ1->ρ1[j]?=ρ[j]?) (hb:PSs X body (sNx X B sg j g)) (hs:∀ x,foldedSetIterable iter X.env x=pure x:=by intro _;rfl):PS X (.For tg iter body [] pos) (sNx X B sg j (zjj fi gt g)):=(zm2 hp hc hi hg hb hs).imp λ D σ H ⟨Hf,ρ,ks,ρ',ks',N,hgg,q⟩=>by
 obtain ⟨ds,e,hgg⟩:=bind_some hgg
 refine⟨Hf,ρ,ds,N.vi,e,λ J Hf1 H1 ex1 ok=>?_⟩
 refine⟨λ i m σ H=>m=ds.length - i/\i<=ds.length/\∃ Hf2 ρ2 ks2,NS X B sg j Hf2 ρ2 σ H ks2/\zar Hf1 Hf2/\zo3 gt g (ds.drop i) ρ2 ks2=some (ρ',ks'),⟨ds.length,by simp,Nat.zero_le _,Hf1,ρ,ks,N.ext ex1,zar.refl _,hgg⟩,?_⟩
 rintro i m σ2 H2 ⟨rfl,hi,Hf2,ρ2,ks2,N2,s12,q2⟩
 have okk:=ok Hf2 H2 (s12.trans N2.vi.fh) s12 N2.vi.fh i
 by_cases hlt:i<ds.length
 ·obtain ⟨go,yld⟩:=okk.1 ds[i] (by simp[hlt])
  refine .inr ⟨go,λ σ' H'=>∃ Hf3 ρ3 ks3,NS X B sg j Hf3 ρ3 σ' H' ks3/\zar Hf1 Hf3/\zo3 gt g (ds.drop (i+1)) ρ3 ks3=some (ρ',ks'),λ σ' H' z=>⟨ds.length - (i+1),by omega,rfl,hlt,z⟩,λ x H3 y=>?_⟩
  obtain ⟨Hf3,ex3,dx⟩:=yld x H3 y
  rw[List.drop_eq_getElem_cons hlt] at q2
  unfold zo3 at q2
  obtain ⟨ρ1,hg1,q2⟩:=bind_some q2
  obtain ⟨z,hz,q2⟩:=bind_some q2
  have N3:=N2.ext ex3
  refine⟨Hf3,ρ2,_,ρ1,N3.vi,dx,hg1,λ σ' I' _ hk=>⟨Hf3,ρ1,ks2,z.1,z.2,⟨I',(hgt _ _ _ hg1).trans N3.nj,?_⟩,hz,λ Hf' σ'' H'' sm N'=>⟨Hf',z.1,z.2,N',(s12.trans ex3.ff).trans sm,q2⟩⟩⟩
  obtain ⟨p,xs,h1,r⟩:=N3.ex
  exact⟨p,xs,(hk j hj).trans h1,r⟩
 ·have e:i=ds.length:=by omega
  subst e
  rw[List.drop_length] at q2
  unfold zo3 at q2
  cases q2
  exact .inl ⟨okk.2 (Nat.le_refl _),q Hf2 σ2 H2 (ex1.ff.trans s12) N2⟩
theorem zvo {st:Stmt} (h:PS X st (sNx X B sg j g)):PSs X [st] (sNx X B sg j g):=zfg h
end
section
variable {X:Cx}{B:Bs}{sg:List Nat}{j k:Nat}{g:GN}{F:List D->Option D}{f:Addr}{fd:FuncData}{p:Str}{pos:Pos}
theorem zvp (sg:List Nat):PE X (.Dict [] [] pos) (λ _ H Q=>∀ p,H p=none->Q (.ref p) (upd H p (zhu X.prog X.w sg p []))):=λ pins s σ H Q I h =>
 wpAny_Dict_empty ⟨.ref s.heap.objs.size,_,I.laid (a:=s.heap.objs.size) (o:=zhu X.prog X.w sg s.heap.objs.size []) (t':=s.toks) (λ _ _ q=>Heap.get?_push_of_some _ q) (Nat.le_refl _) (zns (beq_eq_false_iff_ne.mpr (Ne.symm (Nat.ne_of_lt I.big))) (es:=#[]) (ep:=0) (Heap.get?_push_size _ rfl) ⟨rfl,rfl,rfl⟩ rfl rfl List.nodup_nil),rfl,h _ (I.hok.fresh (Nat.le_refl _))⟩
def z5s (X:Cx) (B:Bs) (sg:List Nat) (j:Nat) (F:List D->Option D):TE:=λ σ H Q=>∃ Hf ρ ks,NS X B sg j Hf ρ σ H ks/\KOk F ks/\∀ Hf' H' l ys,Ex Hf H Hf' H'->H l=none->Hf' l=none->H' l=some (.lst ys)->Dns X.K Hf' (zk0 (ltK F) ks) ys->Q (.ref l) H'
theorem zvq {x fn:Str}{p1 p2 p3 p4:Pos} (hc:X.calm=true) (G:FnOk X.prog X.w X.K X.mg X.base CX0 k f fd [p] (spV X.K 1 F)) (hr:Room k X.A.in1.in1) (hg:Gl X "sorted") (hm:X.mg "sorted" = none) (hgf:Gl X fn) (hmf:X.mg fn=some (.ref f)) (hb:zdo X.K fd [p] []) (hN:X.N[j]?=some x)
  (hvis:Vis X.env.scope x:=by first|exact Or.inl rfl|exact Or.inr (Or.inl rfl)|exact Or.inr (Or.inr rfl)) (hd:(x == ("__debug__" : Str))=false:=by decide) (hcd:(x == ("__classdict__" : Str))=false:=by decide) (hfd:(fn == ("__debug__" : Str))=false:=by decide) :
  PE X (.Call (.Name "sorted" p1) [.Name x p2] [⟨some "key",.Name fn p3,p4⟩] pos) (z5s X B sg j F):=by
 intro pins s σ H Q I h
 obtain ⟨Hf,ρ,ks,N,ok,q⟩:=h
 obtain ⟨a,xs,hσ,hf,hB,hp,hks,hxs⟩:=N.ex
 refine wpAny_Call_Name_kw (zer I hg hm zgp ?_ (by decide) (by decide))
 refine callWith_kw (thn ((zch (zcc hN hvis hd hcd) zee (by rfl)) pos pins s σ H (λ vs H1=>vs=[.ref a]/\H1=H) I ⟨_,hσ,rfl,rfl⟩) λ us s1 ⟨vs,H1,I1,rv,e1,e2⟩=>?_) (by rfl) (by rfl) (by rfl) (by rfl)
 subst e1 e2
 obtain ⟨u,rfl,ru⟩:=zgh rv
 cases ru
 refine thn ((zp0 (zlq (v:=.ref f) hgf hmf rfl hfd) zw9) pos pins s1 σ H1 (λ vs H2=>vs=[.ref f]/\H2=H1) I1 ⟨rfl,rfl⟩) λ us s2 ⟨vs,H2,I2,rv,e1,e2⟩=>?_
 subst e1 e2
 obtain ⟨u,rfl,ru⟩:=zgh rv
 cases ru
 show wpAny (model X.prog X.w) X.A (call (.builtin "sorted") [.ref a] [(Str.ofString "key",.ref f)]) _ _ _
 obtain ⟨h0,o,es,ep,h1,h2,h3,h4,h5⟩:=I2.ndict hp
 have hl:xs.length=ks.length:=by rw[<-hks,List.length_map]
 have hsm:=ok.sm
 have dn:Dns X.K Hf ks (xs.map λ x=>V.ref x.2.1):=by
  rw[<-hks]
  have:∀ l:List (D×Addr×Value),(∀ x∈l,x∈xs)->Dns X.K Hf (l.map (·.1)) (l.map λ x=>V.ref x.2.1):=by
   intro l
   induction l with
   | nil=>intro _;exact .nil
   | cons y r ih=>intro hh;exact .cons (hxs y (hh y List.mem_cons_self)).2.1 (ih λ z hz=>hh z (List.mem_cons_of_mem _ hz))
  exact this xs λ x hx=>hx
 have hes:es.toList.map (·.key)=xs.map λ x=>Value.ref x.2.1:=by rw[h4,List.map_map];rfl
 have hsz:es.size=xs.length:=by rw[<-Array.length_toList,h4,List.length_map]
 refine zii (rs:=ks.map (rk F)) G hr hb I2 N.vi.fh dn (λ R hR=>zg2 (A:=X.A.in1) (I.ok.hd hc) h0 ⟨o,h1,h2,h3⟩ (by rw[hsz];exact sz (by omega)) λ h' tk keep=>?_) (λ i d hd=>?_) (by rw[List.length_map]) ok.sm ok.ord λ Hf' H' l π ex hl1 hl2 hl3 hix hup=>q Hf' H' l _ ex hl1 hl2 hl3 ?_
 ·rw[hes]
  refine hR h' tk _ keep ?_
  have:∀ l:List (D×Addr×Value),zbj (l.map λ x=>V.ref x.2.1) (l.map λ x=>Value.ref x.2.1):=by
   intro l
   induction l with
   | nil=>exact .nil
   | cons y r ih=>exact .cons rfl ih
  exact this xs
 ·obtain ⟨r,e1,_⟩:=ok.ex d (List.mem_of_getElem? hd)
  exact⟨r,by rw[List.getElem?_map,hd];show some (rk F d)=_;rw[zec e1],e1⟩
 ·rw[<-ok.out hix hup]
  have dn':=dn.same ex.ff
  have each:∀ l:List Nat,(∀ i∈l,i<ks.length)->Dns X.K Hf' (l.map λ i=>ks.getD i D.non) (l.map λ i=>(xs.map λ x=>V.ref x.2.1).getD i V.non):=by
   intro l
   induction l with
   | nil=>intro _;exact .nil
   | cons i r ih =>
    intro hh
    refine .cons ?_ (ih λ z hz=>hh z (List.mem_cons_of_mem _ hz))
    have hi:=hh i List.mem_cons_self
    have e1:ks[i]?=some ks[i]:=List.getElem?_eq_getElem hi
    obtain ⟨v,e2,dv⟩:=dn'.zget e1
    show Dn X.K Hf' (ks.getD i D.non) ((xs.map λ x=>V.ref x.2.1).getD i V.non)
    rw[List.getD_eq_getElem?_getD,e1,List.getD_eq_getElem?_getD,e2];exact dv
  exact each _ λ i hi=>List.mem_range.mp (hix.mem_iff.mp hi)
def zk1 (j:Nat) (g:GN) (F:List D->Option D):Rho->Out:=λ ρ=>match ρ[j]? with
 | some none=>(match g ρ [] with|some z=>(match zht F z.2 with|some out=>.rw out|none=>.bad)|none=>.bad)
 | _=>.bad
theorem zx2 {x fn:Str}{s2:Stmt}{q1 q2 q3 p1 p2 p3 p4 pos':Pos} (sg:List Nat) (hNd:X.N.Nodup) (hN:X.N[j]?=some x) (hx:Loc X.env.scope x) (h2:PS X s2 (sNx X B sg j g)) (hc:X.calm=true) (G:FnOk X.prog X.w X.K X.mg X.base CX0 k f fd [p] (spV X.K 1 F)) (hr:Room k X.A.in1.in1) (hg:Gl X "sorted") (hm:X.mg "sorted" = none) (hgf:Gl X fn) (hmf:X.mg fn=some (.ref f)) (hb:zdo X.K fd [p] [])
  (hs:swapsWith (.Dict [] [] q1) (some (.Name x q2)) q3.line X.env=pure false:=by rfl) (hf:X.fn x=true\/X.env.scope.names.lookup x=some .local:=by first|exact .inl rfl|exact .inr rfl|assumption)
  (hvis:Vis X.env.scope x:=by first|exact Or.inl rfl|exact Or.inr (Or.inl rfl)|exact Or.inr (Or.inr rfl)) (hd:(x == ("__debug__" : Str))=false:=by decide) (hcd:(x == ("__classdict__" : Str))=false:=by decide) (hfd:(fn == ("__debug__" : Str))=false:=by decide) :
  PSs X [.Assign [.Name x q2] (.Dict [] [] q1) q3,s2,.Return (some (.Call (.Name "sorted" p1) [.Name x p2] [⟨some "key",.Name fn p3,p4⟩] pos)) pos'] (sV X.K B (zk1 j g F)) :=
 (zc9 (zdr hNd hN hx (zvp sg) hs hf) (zc9 h2 (zfg (zhz (zvq (B:=B) (sg:=sg) hc G hr hg hm hgf hmf hb hN hvis hd hcd hfd))))).imp λ D σ H ⟨Hf,ρ,I,q⟩=>by
  unfold zk1 at q
  split at q
  ·rename_i hj
   split at q
   ·rename_i z hz
    split at q
    ·rename_i out ho
     intro a ha
     have ok:KOk F z.2:=by
      unfold zht at ho
      split at ho
      ·assumption
      ·cases ho
     have eo:out=zk0 (ltK F) z.2:=by
      unfold zht at ho
      rw[if_pos ok] at ho
      exact (Option.some.inj ho).symm
     have hjl:j<σ.length:=by rw[<-I.len];exact (List.getElem?_eq_some_iff.mp hj).1
     have I1:VI X.K B Hf ρ (σ.set j (some (.ref a))) (upd H a (zhu X.prog X.w sg a [])):=(I.setU hj).ext (Ex.made I.fh ha)
     refine⟨Hf,ρ,[],z.1,z.2,⟨I1,hj,a,[],by rw[List.getElem?_set_self hjl],I.fh.free ha,I.ex.hh.free ha,zac,rfl,λ x hx=>by cases hx⟩,hz,λ Hf' σ' H' sm N'=>⟨Hf',z.1,z.2,N',ok,λ Hf2 H2 l ys ex hl1 hl2 hl3 dn=>?_⟩⟩
     exact q Hf2 H2 l ys (N'.vi.ex.trans ex) (N'.vi.ex.hh.free hl1) hl2 hl3 (by rw[eo];exact dn)
    ·exact q.elim
   ·exact q.elim
  ·exact q.elim
end
theorem Room.in2 {k:Nat}{A:Around} (h:Room (k+1) A):Room k A.in1.in1:=⟨h.hd,by have:=h.dp;show A.depth+3 * k+5<_;omega,by have:=h.un;show A.units+1+1+16 * k+200<_;omega⟩
def HG (j:Nat) (r:List D->Rho->Option Rho):Prop:=∀ ds ρ ρ1,r ds ρ=some ρ1->ρ1[j]?=ρ[j]?
theorem ze2 {i j:Nat} (h:i≠j):∀ d ρ ρ1,gN i d ρ=some ρ1->ρ1[j]?=ρ[j]?:=λ d ρ ρ1 e=>by cases e;exact List.getElem?_set_ne h
theorem z08 {j:Nat}:HG j gT0:=λ ds ρ ρ1 e=>by
 unfold gT0 at e
 split at e
 ·cases e;rfl
 ·cases e
theorem zhv {j:Nat}{g:D->Rho->Option Rho}{r:List D->Rho->Option Rho} (h1:∀ d ρ ρ1,g d ρ=some ρ1->ρ1[j]?=ρ[j]?) (h2:HG j r):HG j (gTC g r):=λ ds ρ ρ1 e=>by
 unfold gTC at e
 split at e
 ·obtain ⟨ρ2,e1,e2⟩:=bind_some e
  exact (h2 _ _ _ e2).trans (h1 _ _ _ e1)
 ·cases e
theorem z09 {j n:Nat}{r:List D->Rho->Option Rho} (h:HG j r):∀ d ρ ρ1,gT n r d ρ=some ρ1->ρ1[j]?=ρ[j]?:=λ d ρ ρ1 e=>by
 unfold gT at e
 split at e
 ·split at e
  ·exact h _ _ _ e
  ·cases e
 ·cases e
end L2
namespace L2
open PySem PyProof.Rows
variable {X:Cx}
variable {K:PySem.W.Frag}
end L2
namespace L2
open PySem PySem.Spec PyProof.Rows
section
variable {X:Cx}
def z1a (K:PySem.W.Frag):R2:=λ x y H Q=>match x,y with|.ref l,.int k=>∃ xs,SqL K H l xs/\-(2 ^ 63)<=k/\k<2 ^ 63/\xs.length * k.toNat<=sizeLine/\∀ p,H p=none->Q (.ref p) (upd H p (.lst (List.replicate k.toNat xs).flatten))|_,_=>False
theorem z5t:OpR X (binaryOp .Mult) (z1a X.K):=by
 intro pins s σ H x y v u Q I rx ry h
 unfold z1a at h
 split at h
 ·rename_i l k
  obtain ⟨xs,hl,h1,h2,hz,q⟩:=h
  cases rx
  obtain ⟨t,rfl⟩:=ry
  obtain ⟨its,r,pl,_⟩:=I.list hl
  have l1:=r.length
  obtain ⟨⟨cls,dd,data,sl⟩,n,e,hc,hdd,hd⟩:=pl
  simp only at hc hd hdd;subst hc hd hdd
  have hlen:its.toArray.size * k.toNat<=sizeLine:=by rw[List.size_toArray,<-l1];exact hz
  have hcap:¬ its.toArray.size * k.toNat > (2 ^ 63 - 1) / 8:=by have:(sizeLine:Nat)<=(2 ^ 63 - 1) / 8:=(by decide);omega
  have hfit:¬ (!Builtin.List.listFitsIndex k)=true:=by rw[fitsIndex_both h1 h2];exact Bool.false_ne_true
  have hlong:¬ Builtin.List.listTooLong (its.toArray.size * k.toNat)=true:=by rw[zuj hlen];exact Bool.false_ne_true
  have hnew:List.foldl (λ x1 x2=>x1++x2) #[] (List.replicate (if its.toArray.isEmpty=true then 0 else k.toNat) its.toArray)=(List.replicate k.toNat its).flatten.toArray:=by
   have f0:∀ m:Nat,List.foldl (λ x1 x2=>x1++x2) #[] (List.replicate m its.toArray)=(List.replicate m its).flatten.toArray:=λ m=>by have:=zkf its m [];rw[List.nil_append] at this;exact this
   rw[f0];cases its with
   | nil=>simp
   | cons a r'=>rw[if_neg (by simp)]
  refine wpAny_binaryOp_repeat_ref (T:="list") (U:="int") (by decide) ⟨_,e,rfl⟩ (λ s'=>typeIs_int s' k t) noFill_list_mul F.fills_int_mul F.slot_int_rmul repeat_list F.slot_int_index.lookup (call_meets F.slot_int_rmul (typeIs_int s k t) F.entry_int_rmul (F.args_int_rmul_2 _ _) (lm_int_rmul_list_any k t l its.toArray n none sl) ⟨e,rfl,⟨_,e,rfl⟩,call_meets F.slot_list_mul ⟨_,e,rfl⟩ F.entry_list_mul (F.args_list_mul_2 _ _) (lm_list_mul_any l its.toArray n none sl k t hfit hcap hlong) ⟨e,?_⟩⟩)
  rw[hnew]
  exact⟨.ref _,_,I.lnew (t':=s.toks) (r.rep k.toNat) (by rw[zp8,Nat.mul_comm];exact hz),rfl,q _ I.fresh⟩
 ·exact h.elim
def zx3 (x:Str) (n:Nat):Str:=⟨(List.replicate n x.cps.toList).flatten.toArray⟩
theorem zk2 (a:Array Nat):∀ (k:Nat) (acc:List Nat),List.foldl (λ x1 x2=>x1++x2) acc.toArray (List.replicate k a)=(acc++(List.replicate k a.toList).flatten).toArray
 | 0,acc=>by simp
 | k+1,acc=>by
  rw[List.replicate_succ,List.replicate_succ,List.foldl_cons,show acc.toArray++a=(acc++a.toList).toArray by simp,zk2 a k,List.flatten_cons,List.append_assoc]
def z1b:R2:=λ x y H Q=>match x,y with|.str z,.int k=>-(2 ^ 63)<=k/\k<2 ^ 62/\z.length * k.toNat<=sizeLine/\Q (.str (zx3 z k.toNat)) H|_,_=>False
theorem z1c (k:Nat):(List.replicate k ([]:List Nat)).flatten=[]:=by induction k with|zero=>rfl|succ k ih=>rw[List.replicate_succ,List.flatten_cons,ih];rfl
theorem z5u:OpR X (binaryOp .Mult) z1b:=by
 intro pins s σ H x y v u Q I rx ry h
 unfold z1b at h
 split at h
 ·rename_i z k
  obtain ⟨h1,h2,hz,q⟩:=h
  obtain ⟨t,rfl⟩:=rx
  obtain ⟨t',rfl⟩:=ry
  have hcap:∀ n:Int,1<=n->n<2 ^ 62->z.length * n.toNat<=sizeLine->¬ ((z.length:Int) > (2 ^ 63 - 1) / n):=λ n g1 g2 g3=>by
   have a1:(z.length:Int) * n<=(sizeLine:Nat):=by
    have:((z.length * n.toNat:Nat):Int)<=(sizeLine:Nat):=Int.ofNat_le.mpr g3
    rw[Int.natCast_mul,Int.toNat_of_nonneg (by omega)] at this
    exact this
   have a2:((sizeLine:Nat):Int)<=2 ^ 63 - 1:=by decide
   have a3:=(Int.le_ediv_iff_mul_le (a:=(z.length:Int)) (b:=2 ^ 63 - 1) (show (0:Int)<n by omega)).mpr (by omega)
   omega
  refine PySem.P.mul_str (by rw[decide_eq_false (by omega),decide_eq_false (by omega)];rfl) (λ g _=>hcap k (by omega) h2 hz) (λ _ _=>decide_eq_false (by omega)) ?_
  have hlen:(zx3 z k.toNat).length<=sizeLine:=by
   show (List.replicate k.toNat z.cps.toList).flatten.toArray.size<=_
   rw[List.size_toArray,zp8,Nat.mul_comm]
   exact hz
  split
  ·rename_i hk
   have e:zx3 z k.toNat=Str.empty:=by rw[show k.toNat=0 by omega];rfl
   rw[e] at q
   exact⟨by decide,⟨.str Str.empty,H,I.tok _,⟨_,rfl⟩,q⟩⟩
  ·split
   ·rename_i hk1 hk
    have e:zx3 z k.toNat=z:=by
     rcases (Bool.or_eq_true _ _).mp hk with hk|hk
     ·have:k=1:=by simpa using hk
      subst this
      show (⟨([z.cps.toList].flatten).toArray⟩:Str)=z
      simp
     ·have hz0:z.cps.toList=[]:=by
       have:z.length=0:=by simpa using hk
       have:z.cps.size=0:=this
       simpa using this
      unfold zx3
      rw[hz0,z1c]
      cases z with|mk cps=>simp at hz0;subst hz0;rfl
    rw[e] at q
    exact⟨.str z,H,I,⟨_,rfl⟩,q⟩
   ·have e:(⟨(List.replicate k.toNat z.cps).foldl (·++·) #[]⟩:Str)=zx3 z k.toNat:=by
     have:=zk2 z.cps k.toNat []
     rw[List.nil_append] at this
     exact congrArg Str.mk this
    rw[e]
    exact⟨hlen,⟨.str (zx3 z k.toNat),H,I.tok _,⟨_,rfl⟩,q⟩⟩
 ·exact h.elim
end
def z99 (d e:D):Option D:=match d,e with
 | .sc (.int i),.sc (.int j)=>if zf3 i j=true then some (.int (i * j)) else none
 | .sc (.str z),.sc (.int k)=>if -(2 ^ 63)<=k/\k<2 ^ 62/\z.length * k.toNat<=sizeLine then some (.sc (.str (zx3 z k.toNat))) else none
 | .lst ds,.sc (.int k)=>if -(2 ^ 63)<=k/\k<2 ^ 63/\ds.length * k.toNat<=sizeLine then some (.lst (List.replicate k.toNat ds).flatten) else none
 | _,_=>none
def ybv (K:PySem.W.Frag):R2:=λ x y H Q=>k2 (λ i j=>zf3 i j=true) (λ i j=>.int (i * j)) x y H Q\/z1b x y H Q\/z1a K x y H Q
theorem yaa {X:Cx}:OpR X (binaryOp .Mult) (ybv X.K):=zgw.or (z5u.or z5t)
theorem Dns.rep {K:PySem.W.Frag}{H:Hp}{ds:List D}{xs:List V} (h:Dns K H ds xs):∀ k:Nat,Dns K H (List.replicate k ds).flatten (List.replicate k xs).flatten
 | 0=>.nil
 | k+1=>by rw[List.replicate_succ,List.replicate_succ,List.flatten_cons,List.flatten_cons];exact h.zapp (Dns.rep h k)
theorem z5v {K:PySem.W.Frag}:P2 K (ybv K) z99:=by
 intro Hf H x y d e z Q s hd he hz q
 unfold z99 at hz
 split at hz
 ·split at hz
  ·rename_i hk
   cases hz
   rw[hd.sc.2,he.sc.2]
   exact .inl ⟨hk,q Hf H _ (.refl s) (zbh rfl)⟩
  ·cases hz
 ·split at hz
  ·rename_i hk
   cases hz
   rw[hd.sc.2,he.sc.2]
   exact .inr (.inl ⟨hk.1,hk.2.1,hk.2.2,q Hf H _ (.refl s) (zbh rfl)⟩)
  ·cases hz
 ·split at hz
  ·rename_i hk
   cases hz
   obtain ⟨a,xs,rfl,h1,h2⟩:=hd.lst s
   rw[he.sc.2]
   refine .inr (.inr ⟨xs,h1,hk.1,hk.2.1,by rw[<-h2.length];exact hk.2.2,λ p hp=>?_⟩)
   rename_i kk
   have e2:=Ex.new (o:=.lst (List.replicate kk.toNat xs).flatten) s hp
   exact q _ _ _ e2 (zc1 (SqL.of zac) ((Dns.rep h2 _).zmap λ _ _ z=>z.same e2.ff))
  ·cases hz
 ·cases hz
section
variable {X:Cx}{B:Bs}{a b c d:Expr}{fa fb fc fd:Rho->Option D}{pos:Pos}
def zr5 (r r' r'':R2) (ta tb tc td:TE):TE:=λ σ H Q=>ta σ H λ x H1=>tb σ H1 λ y H2=>r x y H2 λ z H3=>∃ k,z=.bl k ∧
 (if k=true then tc σ H3 λ w' H4=>r' y w' H4 λ z2 H5=>∃ k2,z2=.bl k2/\(if k2=true then td σ H5 λ u' H6=>r'' w' u' H6 Q else Q (.bl false) H5) else Q (.bl false) H3)
def zg4 (g g' g'':D->D->Option D) (fa fb fc fd:Rho->Option D):Rho->Option D:=λ ρ=>(fa ρ).bind λ d=>(fb ρ).bind λ e=>(g d e).bind λ z=>(toB z).bind λ k=>if k=true then (fc ρ).bind λ w=>(g' e w).bind λ z2=>(toB z2).bind λ k2=>if k2=true then (fd ρ).bind λ u=>g'' w u else some (.bl false) else some (.bl false)
theorem zo4 {h h' h'':Int->Int->V} (hf:∀ i j,zci (h i j)=true) (hf':∀ i j,zci (h' i j)=true) (hf'':∀ i j,zci (h'' i j)=true) {K:PySem.W.Frag}{σ:St}{H:Hp}{Q:VK} (hh:eV K B (zg4 (gII h) (gII h') (gII h'') fa fb fc fd) σ H Q):zr5 (k20 h) (k20 h') (k20 h'') (eB K B fa) (eB K B fb) (eB K B fc) (eB K B fd) σ H Q:=by
 obtain ⟨Hf,ρ,z,I,hz,q⟩:=hh
 obtain ⟨d,hd,hz⟩:=bind_some hz
 obtain ⟨e,he,hz⟩:=bind_some hz
 obtain ⟨k,hk,hz⟩:=bind_some hz
 obtain ⟨m,hm,hy⟩:=bind_some hz
 clear hz
 refine⟨Hf,ρ,d,I,hd,λ Hf1 H1 x ex1 dx=>⟨Hf1,ρ,e,I.ext ex1,he,λ Hf2 H2 y ex2 dy=>?_⟩⟩
 have dy0:=dy
 refine (zq2 (K:=K) hf) Hf2 H2 x y d e k _ ex2.fh (dx.ext ex2) dy hk λ Hf3 H3 v ex3 dv=>?_
 unfold toB at hm
 split at hm
 ·cases hm
  refine⟨m,dv.bl,?_⟩
  have e3:=(ex1.trans ex2).trans ex3
  cases m with
  | true =>
   rw[if_pos rfl] at hy ⊢
   obtain ⟨w,hw,hz⟩:=bind_some hy
   obtain ⟨k2,hk2,hz⟩:=bind_some hz
   obtain ⟨m2,hm2,hy2⟩:=bind_some hz
   clear hz
   refine⟨Hf3,ρ,w,I.ext e3,hw,λ Hf4 H4 u ex4 du=>?_⟩
   have du0:=du
   refine (zq2 (K:=K) hf') Hf4 H4 y u e w k2 _ ex4.fh ((dy0.ext ex3).ext ex4) du hk2 λ Hf5 H5 v5 ex5 dv5=>?_
   unfold toB at hm2
   split at hm2
   ·cases hm2
    refine⟨m2,dv5.bl,?_⟩
    have e5:=(e3.trans ex4).trans ex5
    cases m2 with
    | true =>
     rw[if_pos rfl] at hy2 ⊢
     obtain ⟨w2,hw2,hz⟩:=bind_some hy2
     exact⟨Hf5,ρ,w2,I.ext e5,hw2,λ Hf6 H6 u6 ex6 du6=>(zq2 (K:=K) hf'') Hf6 H6 u u6 w w2 z Q ex6.fh ((du0.ext ex5).ext ex6) du6 hz λ Hf' H' v' ex7 dv'=>q Hf' H' v' ((e5.trans ex6).trans ex7) dv'⟩
    | false=>rw[if_neg Bool.false_ne_true] at hy2 ⊢;cases hy2;exact q Hf5 H5 _ e5 (zbh rfl)
   ·cases hm2
  | false=>rw[if_neg Bool.false_ne_true] at hy ⊢;cases hy;exact q Hf3 H3 _ e3 (zbh rfl)
 ·cases hm
theorem zr6 {g g' g'':D->D->Option D}{ρ:Rho}{x y z w:D}{k1 k2 k3:Bool} (ha:fa ρ=some x) (hb:fb ρ=some y) (h1:g x y=some (.bl k1)) (hc:k1=true->fc ρ=some z) (h2:k1=true->g' y z=some (.bl k2)) (hd:k1=true->k2=true->fd ρ=some w) (h3:k1=true->k2=true->g'' z w=some (.bl k3)):zg4 g g' g'' fa fb fc fd ρ=some (.bl (k1 && (k2 && k3))):=by
 unfold zg4
 rw[ha,hb,Option.bind_some,Option.bind_some,h1,Option.bind_some]
 cases k1 with
 | false=>rfl
 | true =>
  show ((fc ρ).bind _)=_
  rw[hc rfl,Option.bind_some,h2 rfl,Option.bind_some]
  cases k2 with
  | false=>rfl
  | true=>show ((fd ρ).bind _)=_;rw[hd rfl rfl,Option.bind_some,h3 rfl rfl];rfl
end
theorem zo5 {i:Nat}:∀ d ρ ρ1,gN i d ρ=some ρ1->(∀ (k:Nat) s,ρ[k]?=some (some s)->zd5 s=false)->∀ (k:Nat) s,ρ1[k]?=some (some s)->zd5 s=false:=λ d ρ ρ1 e h k s q=>by
 cases e
 by_cases hk:i=k
 ·subst hk
  rw[List.getElem?_set] at q
  split at q
  ·split at q
   ·cases q;rfl
   ·cases q
  ·exact h _ s q
 ·rw[List.getElem?_set_ne hk] at q;exact h k s q
def NG (r:List D->Rho->Option Rho):Prop:=∀ ds ρ ρ1,r ds ρ=some ρ1->(∀ (k:Nat) s,ρ[k]?=some (some s)->zd5 s=false)->∀ (k:Nat) s,ρ1[k]?=some (some s)->zd5 s=false
theorem yab:NG gT0:=λ ds ρ ρ1 e h=>by
 unfold gT0 at e
 split at e
 ·cases e;exact h
 ·cases e
theorem z1d {g:D->Rho->Option Rho}{r:List D->Rho->Option Rho} (h1:∀ d ρ ρ1,g d ρ=some ρ1->(∀ (k:Nat) s,ρ[k]?=some (some s)->zd5 s=false)->∀ (k:Nat) s,ρ1[k]?=some (some s)->zd5 s=false) (h2:NG r):NG (gTC g r):=λ ds ρ ρ1 e h=>by
 unfold gTC at e
 split at e
 ·obtain ⟨ρ2,e1,e2⟩:=bind_some e
  exact h2 _ _ _ e2 (h1 _ _ _ e1 h)
 ·cases e
theorem yac {n:Nat}{r:List D->Rho->Option Rho} (h:NG r):∀ d ρ ρ1,gT n r d ρ=some ρ1->(∀ (k:Nat) s,ρ[k]?=some (some s)->zd5 s=false)->∀ (k:Nat) s,ρ1[k]?=some (some s)->zd5 s=false:=λ d ρ ρ1 e hh=>by
 unfold gT at e
 split at e
 ·split at e
  ·exact h _ _ _ e hh
  ·cases e
 ·cases e
def jn (A C:Hp):Hp:=λ b=>match A b with|some o=>some o|none=>C b
section
variable {A C H:Hp}
theorem yad:zar A (jn A C):=λ b u h=>by unfold jn;rw[h]
theorem z5w (h1:zar A H) (h2:zar C H):zar (jn A C) H:=λ b u h=>by
 unfold jn at h
 cases e:A b with
 | some o=>rw[e] at h;cases h;exact h1 b _ e
 | none=>rw[e] at h;exact h2 b u h
theorem ybw (h1:zar A H) (h2:zar C H):zar C (jn A C):=λ b u h=>by
 unfold jn
 cases e:A b with
 | some o =>
  have z:=h1 b o e
  rw[h2 b u h] at z
  exact z.symm
 | none=>exact h
def noF (C:Hp):Hp:=λ b=>match C b with|some (.frz _ _)=>none|x=>x
theorem znt:zar (noF C) C:=λ b u h=>by
 unfold noF at h
 split at h
 ·cases h
 ·exact h
theorem z5x {b:Addr} (h:noF C b≠none):C b≠none:=λ z=>h (by unfold noF;rw[z])
theorem z1e {b:Addr}{xs:List V} (h:C b=some (.lst xs)):noF C b=some (.lst xs):=by unfold noF;rw[h]
theorem z5y {b:Addr}{xs:List (List Key×V)} (h:C b=some (.dT xs)):noF C b=some (.dT xs):=by unfold noF;rw[h]
theorem yae {b:Addr}{o:Obj}{u:HO} (h:jn A (noF C) b=some (.frz o u)):A b=some (.frz o u):=by
 unfold jn at h
 cases e:A b with
 | some x=>rw[e] at h;exact h
 | none =>
  rw[e] at h
  have h:noF C b=some (.frz o u):=h
  unfold noF at h
  split at h
  ·cases h
  ·rename_i n;exact absurd h (n o u)
theorem zr7 {b:Addr} (h:jn A C b≠none):A b≠none\/C b≠none:=by
 unfold jn at h
 cases e:A b with
 | some o=>exact .inl λ z=>nomatch z
 | none=>rw[e] at h;exact .inr h
end
def emp:Hp:=λ _=>none
theorem zvr {H:Hp}{p:Addr}{o:HO} (h:H p=some o):zar (upd emp p o) H:=λ b u e=>by
 by_cases hb:b=p
 ·subst hb;rw[zac] at e;cases e;exact h
 ·rw[zaf hb] at e;cases e
theorem zvs {p b:Addr}{o:HO} (h:upd emp p o b≠none):b=p:=by
 by_cases hb:b=p
 ·exact hb
 ·rw[zaf hb] at h;exact absurd rfl h
theorem VI.offH {K:PySem.W.Frag}{B:Bs}{Hf H:Hp}{ρ:Rho}{σ:St}{p:Addr}{o:HO} (I:VI K B Hf ρ σ H) (no:∀ (i:Nat) sl,ρ[i]?=some (some sl)->zd5 sl=true->σ[i]?≠some (some (.ref p))) (hf:Hf p=none) (hB:B.h p=none):VI K B Hf ρ σ (upd H p o):=by
 refine⟨⟨I.ex.ff,λ b u h=>?_,λ b u h=>?_,I.ex.nw,I.ex.nf⟩,I.len,λ i sl h=>?_,I.own,I.dis⟩
 ·rw[zaf (zam h hB)];exact I.ex.hh b u h
 ·rw[zaf (zam h hf)];exact I.fh b u h
 ·obtain ⟨v,h1,h2⟩:=I.ok i sl h
  exact⟨v,h1,h2.away λ o z=>no i sl h o (by rw[h1,z])⟩
section
variable {X:Cx}{B:Bs}{a b c d:Expr}{fa fb fc fd:Rho->Option D}{pos:Pos}
theorem zr8 {op op' op'':CmpOp}{r r' r'':R2}{ta tb tc td:TE} (ho:OpR X (compareOp op) r) (ho':OpR X (compareOp op') r') (ho'':OpR X (compareOp op'') r'') (ha:PE X a ta) (hb:PE X b tb) (hc:PE X c tc) (hd:PE X d td)
  (hm:lastMarks [op,op',op''] [b,c,d]=false:=by with_unfolding_all rfl):PE X (.Compare a [op,op',op''] [b,c,d] pos) (zr5 r r' r'' ta tb tc td):=by
 intro pins s σ H Q I h
 refine Compare_chain (thn (ha pins s σ H _ I h) λ v s1 ⟨x,H1,I1,r1,q1⟩=>chain_link (thn (hb pins s1 σ H1 _ I1 q1) λ u s2 ⟨y,H2,I2,r2,q2⟩=>thn (ho pins s2 σ H2 x y v u _ I2 r1 r2 q2) λ d s3 ⟨z,H3,I3,r3,k,e,q3⟩=>?_)) hm
 subst e;cases r3
 refine wpAny_truthy_bool ?_
 cases k with
 | false=>exact ite_ff ⟨.bl false,H3,I3,rfl,q3⟩
 | true =>
  refine ite_tt (chain_link (thn (hc pins s3 σ H3 _ I3 q3) λ w' s4 ⟨z',H4,I4,r4,q4⟩=>thn (ho' pins s4 σ H4 y z' u w' _ I4 r2 r4 q4) λ d' s5 ⟨z2,H5,I5,r5,k2,e2,q5⟩=>?_))
  subst e2;cases r5
  refine wpAny_truthy_bool ?_
  cases k2 with
  | false=>exact ite_ff ⟨.bl false,H5,I5,rfl,q5⟩
  | true=>exact ite_tt (chain_last (thn (hd pins s5 σ H5 _ I5 q5) λ w2 s6 ⟨z3,H6,I6,r6,q6⟩=>ho'' pins s6 σ H6 z' z3 w' w2 Q I6 r4 r6 q6))
theorem zvt {op op' op'':CmpOp}{h h' h'':Int->Int->V} (ho:OpR X (compareOp op) (k20 h)) (ho':OpR X (compareOp op') (k20 h')) (ho'':OpR X (compareOp op'') (k20 h'')) (ha:PE X a (eB X.K B fa)) (hb:PE X b (eB X.K B fb)) (hc:PE X c (eB X.K B fc)) (hd:PE X d (eB X.K B fd)) (hp:∀ i j,zci (h i j)=true:=by exact λ _ _=>rfl) (hp':∀ i j,zci (h' i j)=true:=by exact λ _ _=>rfl) (hp'':∀ i j,zci (h'' i j)=true:=by exact λ _ _=>rfl)
  (hm:lastMarks [op,op',op''] [b,c,d]=false:=by with_unfolding_all rfl):PE X (.Compare a [op,op',op''] [b,c,d] pos) (eV X.K B (zg4 (gII h) (gII h') (gII h'') fa fb fc fd)):=(zr8 ho ho' ho'' ha hb hc hd hm).imp λ σ H Q z=>zo4 hp hp' hp'' z
end
def zx4:Rho->Out:=λ _=>.bad
theorem zo6 {X:Cx}{B:Bs}{st:Stmt}:PS X st (sV X.K B zx4):=(zub (X:=X) (st:=st)).imp λ D σ H ⟨Hf,ρ,I,q⟩=>q
end L2
namespace L2
open PySem PySem.Spec PyProof.Rows
open Sem (wp)
section
variable {prog:Program}{w:World}{K:Type} [DecidableEq K] {knd:HeapKind prog w K}{A:Around}{E:Value->Shared->Prop}{s:Shared}{d a:Addr}{k:K}{xs:List (K×Addr×Value)}
theorem zg5 {dflt:Value}{Q:Value->Shared->Prop} (hu:knd.room A) (zhn:knd.is s.heap k a) (hm:s.heap.DictOfH knd d xs)
  (hthere:∀ p,atKey xs k=some p->Q p.2 { s with toks:=s.toks+knd.draws k })
  (hnew:atKey xs k=none->∀ h',h'.DictOfH knd d (xs++[(k,a,dflt)])->Heap.SameBut d s.heap h'->Q dflt { s with heap:=h',toks:=s.toks+knd.draws k })
  (hsz:xs.length<=sizeLine) :
  wpAny (model prog w) A (dictSetDefault d (.ref a) dflt) Q E s:=by
 obtain ⟨o,es,ep,ho,hc,hd,he,his,hn⟩:=hm
 unfold dictSetDefault
 try with_reducible refine wpAny_holding ?_
 refine wpAny_bind (knd.pyHash hu zhn ?_)
 refine wpAny_bind (wpAny_dictFind_heap (s:={ s with toks:=s.toks+knd.draws k }) hu zhn ho hd he his hn ?_ ?_)
 ·intro hno
  have hnot:k ∉ xs.map (·.1):=not_mem_keys_of_get hno
  refine wpAny_bind (wpAny_rule (wpAny_bind (wpAny_updateDictKeys (hz:=by have e:=size_of_entries he;omega) (s:={ s with toks:=s.toks+knd.draws k }) ho hd (wpAny_pure (hnew (atKey_none_of_get hno) _ ⟨_,_,ep+1,Heap.get?_update_self _ ho (Obj.isFreed_of_dict (Obj.data_mapDictKeys hd _)),
   hc.mapDictKeys _,Obj.data_mapDictKeys hd _,?_,?_,?_⟩ (Heap.SameBut.update ..))))))
  ·simp[he,entryOfKey]
  ·intro x hx
   rcases List.mem_append.mp hx with hx|hx
   ·exact knd.keeps (his x hx) ho hd (Heap.SameBut.update ..)
   ·simp only[List.mem_singleton] at hx
    subst hx
    exact knd.keeps zhn ho hd (Heap.SameBut.update ..)
  ·rw[List.map_append,List.nodup_append]
   refine⟨hn,by simp,?_⟩
   intro x hx y hy
   simp only[List.map_cons,List.map_nil,List.mem_singleton] at hy
   subst hy
   exact λ e=>hnot (e ▸ hx)
 ·intro j p hj
  refine wpAny_bind (wpAny_dictEntries (s:={ s with toks:=s.toks+knd.draws k }) ho hd ?_)
  rw[entry_at he j,hj]
  exact wpAny_bind (wpAny_rule (wpAny_pure (hthere _ (atKey_of_get hn hj))))
theorem zft (hd:(d == sysModules)=false) (dflt:Value) :
  MeetsIn prog w (Builtin.«dict.setdefault» ⟨[.ref d,.ref a,dflt],[]⟩) (λ A R s=>knd.room A.in1/\∃ k xs,knd.is s.heap k a/\s.heap.DictOfH knd d xs/\xs.length<=sizeLine ∧
   (∀ p,atKey xs k=some p->R (.ok (.ret p.2)) { s with toks:=s.toks+knd.draws k }) ∧
   (atKey xs k=none->∀ h',h'.DictOfH knd d (xs++[(k,a,dflt)])->Heap.SameBut d s.heap h'->R (.ok (.ret dflt)) { s with heap:=h',toks:=s.toks+knd.draws k })) :=
 .of_wp λ A R s ⟨hu,k,xs,zhn,hm,hz,h1,h2⟩=>by
  unfold Builtin.«dict.setdefault»
  refine wpAny_bind ?_
  unfold Builtin.Dict.keyAndDefault
  refine wpAny_bind (wpAny_notOrdered_dict hm.typeIs ?_)
  show wpAny _ _ (pure (d,Value.ref a,some dflt)) _ _ s
  refine wpAny_pure ?_
  show wpAny _ _ (if (d == sysModules)=true then _ else (dictSetDefault d (.ref a) dflt >>= _)) _ _ s
  rw[if_neg (by rw[hd];exact Bool.false_ne_true)]
  exact wpAny_bind (zg5 hu zhn hm (λ p hp=>wpAny_pure ⟨p.2,rfl,h1 p hp⟩) (λ hn h' hm' hs'=>wpAny_pure ⟨dflt,rfl,h2 hn h' hm' hs'⟩) hz)
end
end L2
namespace L2
open PySem PySem.Spec PyProof.Rows
def zeg (H:Hp):Hp:=λ b=>match H b with|some (.tup xs)=>some (.tup xs)|_=>none
theorem zk3 {H:Hp}:zar (zeg H) H:=λ b u h=>by
 unfold zeg at h
 split at h
 ·rename_i e;cases h;exact e
 ·cases h
theorem z1f {H:Hp}{b:Addr}{xs:List V} (h:H b=some (.tup xs)):zeg H b=some (.tup xs):=by unfold zeg;rw[h]
theorem Ex.tups {Hf H:Hp} (s:zar Hf H):Ex Hf H (jn Hf (zeg H)) H:=by
 refine⟨yad,zar.refl _,z5w s zk3,λ b hb=>?_,λ b o u h=>?_⟩
 rcases zr7 hb with z|z
 ·exact .inl z
 ·unfold zeg at z
  split at z
  ·rename_i xs e;exact .inr (.inr ⟨xs,e⟩)
  ·exact absurd rfl z
 ·unfold jn at h
  cases e:Hf b with
  | some x=>rw[e] at h;exact h
  | none =>
   rw[e] at h
   have h:zeg H b=some (.frz o u):=h
   unfold zeg at h
   split at h <;> cases h
def kyD:Key->D
 | .inl i=>.int i
 | .inr x=>.sc (.str x)
theorem zr9 {K:PySem.W.Frag}{H:Hp}:∀ ks:List Key,Dns K H (ks.map kyD) (ks.map kV)
 | []=>.nil
 | .inl i::r=>.cons (zbh rfl) (zr9 r)
 | .inr x::r=>.cons (zbh rfl) (zr9 r)
def ktD (ks:List Key):D:=.tup (ks.map kyD)
def zx5 (F:List D->Option D) (fa:Rho->Option D):Rho->Option (List D):=λ ρ=>(fa ρ).bind λ d=>match d with
 | .dt ks _=>zht F (ks.map ktD)
 | _=>none
section
variable {X:Cx}{B:Bs}{k:Nat}{F:List D->Option D}{f:Addr}{fd:FuncData}{p:Str}{pos:Pos}{a:Expr}{fa:Rho->Option D}
theorem z1g {fn:Str}{p1 p3 p4:Pos} (hc:X.calm=true) (G:FnOk X.prog X.w X.K X.mg X.base CX0 k f fd [p] (spV X.K 1 F)) (hr:Room k X.A.in1.in1) (hg:Gl X "sorted") (hm:X.mg "sorted" = none) (hgf:Gl X fn) (hmf:X.mg fn=some (.ref f)) (hb:zdo X.K fd [p] []) (ha:PE X a (eB X.K B fa))
  (hfd:(fn == ("__debug__" : Str))=false:=by decide) (hs0:starEach [a] X.env=(false,eval a X.env)::starEach [] X.env:=by rfl)
  (hk1:backTo pos (starEach [a] X.env)=(false,eval a X.env)::backTo pos (starEach [] X.env):=by rfl) (hk2:((backTo pos (starEach [a] X.env)).any λ x=>x.1)=false:=by rfl) :
  PE X (.Call (.Name "sorted" p1) [a] [⟨some "key",.Name fn p3,p4⟩] pos) (eW X.K B (zx5 F fa)):=by
 intro pins s σ H Q I h
 obtain ⟨Hf,ρ,out,N,hz,q⟩:=h
 obtain ⟨d,hd0,hz⟩:=bind_some hz
 split at hz
 ·rename_i ks dvs
  unfold zht at hz
  split at hz
  ·rename_i ok
   cases hz
   refine wpAny_Call_Name_kw (zer I hg hm zgp ?_ (by decide) (by decide))
   refine callWith_kw (thn ((zch ha zee hs0) pos pins s σ H (λ vs H1=>∃ Hf1 v,vs=[v]/\Ex Hf H Hf1 H1/\DnB X.K Hf1 H1 (.dt ks dvs) v) I ⟨Hf,ρ,_,N,hd0,λ Hf1 H1 v ex dv=>⟨Hf1,v,rfl,ex,dv⟩⟩) λ us s1 ⟨vs,H1,I1,rv,Hf1,v,e1,ex1,dv⟩=>?_) (by first|exact hk1|exact hk2|rfl) (by first|exact hk1|exact hk2|rfl) (by first|exact hk1|exact hk2|rfl) (by first|exact hk1|exact hk2|rfl)
   subst e1
   obtain ⟨u,rfl,ru⟩:=zgh rv
   obtain ⟨ad,kvs,rfl,h3,h4,h5⟩:=dv.dt ex1.fh
   cases ru
   refine thn ((zp0 (zlq (v:=.ref f) hgf hmf rfl hfd) zw9) pos pins s1 σ H1 (λ vs H2=>vs=[.ref f]/\H2=H1) I1 ⟨rfl,rfl⟩) λ us s2 ⟨vs,H2,I2,rv,e1,e2⟩=>?_
   subst e1 e2
   obtain ⟨u,rfl,ru⟩:=zgh rv
   cases ru
   show wpAny (model X.prog X.w) X.A (call (.builtin "sorted") [.ref ad] [(Str.ofString "key",.ref f)]) _ _ _
   obtain ⟨z1,h0,xs,rel,o,es,ep,g1,g2,g3,g4,g5⟩:=(show zbb X.prog X.w H2 s2.heap ad (.dT kvs) from I2.hok ad _ h3)
   have ext:=Ex.tups ex1.fh
   have dn:Dns X.K (jn Hf1 (zeg H2)) (ks.map ktD) (xs.map λ x=>V.ref x.2.1):=by
    rw[<-h4]
    have:∀ {l:List (List Key×V)} {m:List (List Key×Addr×Value)},Paired (λ (p:List Key×V) (q:List Key×Addr×Value)=>p.1=q.1/\H2 q.2.1=some (.tup (p.1.map kV))/\zbe p.2 q.2.2) l m->Dns X.K (jn Hf1 (zeg H2)) ((l.map Prod.fst).map ktD) (m.map λ x=>V.ref x.2.1):=by
     intro l m pr
     induction pr with
     | nil=>exact .nil
     | cons r t ih=>exact .cons (zgr (SqU.of (ybw ex1.fh zk3 _ _ (z1f r.2.1))) (zr9 _)) ih
    exact this rel
   have hl:xs.length=(ks.map ktD).length:=by rw[dn.length,List.length_map]
   have hes:es.toList.map (·.key)=xs.map λ x=>Value.ref x.2.1:=by rw[g4,List.map_map];rfl
   have hsz:es.size=xs.length:=by rw[<-Array.length_toList,g4,List.length_map]
   have hsm:=ok.sm
   refine zii (rs:=(ks.map ktD).map (rk F)) G hr hb I2 ext.fh dn (λ R hR=>zg2 (A:=X.A.in1) (I.ok.hd hc) h0 ⟨o,g1,g2,g3⟩ (by rw[hsz];exact sz (by omega)) λ h' tk keep=>?_) (λ i d hd=>?_) (by rw[List.length_map]) ok.sm ok.ord λ Hf' H' l π ex hl1 hl2 hl3 hix hup=>q Hf' H' l _ (ex1.trans (ext.trans ex)) (ex1.hh.free hl1) hl2 hl3 ?_
   ·rw[hes]
    refine hR h' tk _ keep ?_
    have:∀ l:List (List Key×Addr×Value),zbj (l.map λ x=>V.ref x.2.1) (l.map λ x=>Value.ref x.2.1):=by
     intro l
     induction l with
     | nil=>exact .nil
     | cons y r ih=>exact .cons rfl ih
    exact this xs
   ·obtain ⟨r,e1,_⟩:=ok.ex d (List.mem_of_getElem? hd)
    exact⟨r,by rw[List.getElem?_map,hd];show some (rk F d)=_;rw[zec e1],e1⟩
   ·rw[<-ok.out hix hup]
    have dn':=dn.same ex.ff
    have each:∀ l:List Nat,(∀ i∈l,i<(ks.map ktD).length)->Dns X.K Hf' (l.map λ i=>(ks.map ktD).getD i D.non) (l.map λ i=>(xs.map λ x=>V.ref x.2.1).getD i V.non):=by
     intro l
     induction l with
     | nil=>intro _;exact .nil
     | cons i r ih =>
      intro hh
      refine .cons ?_ (ih λ z hz=>hh z (List.mem_cons_of_mem _ hz))
      have hi:=hh i List.mem_cons_self
      have e1:(ks.map ktD)[i]?=some (ks.map ktD)[i]:=List.getElem?_eq_getElem hi
      obtain ⟨v,e2,dv⟩:=dn'.zget e1
      show Dn X.K Hf' ((ks.map ktD).getD i D.non) ((xs.map λ x=>V.ref x.2.1).getD i V.non)
      rw[List.getD_eq_getElem?_getD,e1,List.getD_eq_getElem?_getD,e2];exact dv
    exact each _ λ i hi=>List.mem_range.mp (hix.mem_iff.mp hi)
  ·cases hz
 ·cases hz
end
section
variable {X:Cx}{pins:List (Addr×Obj)}{σ:St}{H:Hp}{s:Shared}{a b:Addr}{v:V}{r:Value}{A:Around}{E:Value->Shared->Prop}{kvs:List (List Key×V)}{k:List Key}
theorem zvu {Q:Value->Shared->Prop} (hu:A.units+1<cLine) (I:Inv X pins σ H s) (e:H a=some (.dT kvs)) (eb:H b=some (.tup (k.map kV))) (hl:kvs.length<sizeLine) (rd:zbe v r)
  (q1:∀ w' u' s',zeq kvs k=some w'->zbe w' u'->Inv X pins σ H s'->Q u' s') (q2:zeq kvs k=none->∀ s',Inv X pins σ (upd H a (.dT (ziz kvs k v))) s'->Q r s') :
  wpAny (model X.prog X.w) A (call (.builtin "dict.setdefault") [.ref a,.ref b,r]) Q E s:=by
 obtain ⟨z,hd,xs,rel,dd⟩:=z4n I.hok e
 have hz:xs.length<=sizeLine:=by rw[<-Paired.length rel];exact z
 have hv:=rel.val k
 refine call_meetsIn PySem.F.slot_dict_setdefault dd.typeIs PySem.F.entry_dict_setdefault (PySem.F.args_dict_setdefault_3 _ _ _) (zft (knd:=tupleKind (zbg X.prog X.w)) hd r) ⟨tupleKind_room_in1 hu,k,xs,zgq I.hok eb,dd,hz,λ p hp=>?_,λ hn h' dd' hs=>?_⟩
 ·rw[hp] at hv
  cases l:zeq kvs k with
  | none=>rw[l] at hv;exact hv.elim
  | some w'=>rw[l] at hv;exact q1 w' p.2 _ l hv (I.tok _)
 ·rw[hn] at hv
  cases l:zeq kvs k with
  | some w'=>rw[l] at hv;exact hv.elim
  | none =>
   refine q2 l _ ?_
   have rp:=rel.put k eb rd
   rw[storedH_new hn] at rp
   have hl2:(ziz kvs k v).length<=sizeLine:=by have:=zem kvs k v;omega
   obtain ⟨q,es,ep,hq,h2,h3,h4,_,h5⟩:=dd'
   refine zlz I (by rw[e];exact True.intro) hs ⟨q,hq⟩ ⟨hl2,hd,_,rp.keeps λ c ys ec=>?_,q,es,ep,hq,h2,h3,h4,h5⟩
   rw[zaf (z3d ec e (λ z=>nomatch z))]
   exact ec
end
def yc3 (td ty tx:TE):TE:=λ σ H Q=>td σ H λ x H1=>∃ a,x=.ref a/\IsD H1 a/\ty σ H1 λ y H2=>tx σ H2 λ z H3=>∃ b kvs k,y=.ref b/\H3 a=some (.dT kvs)/\H3 b=some (.tup (k.map kV))/\kvs.length<sizeLine ∧
 (∀ w,zeq kvs k=some w->Q w H3)/\(zeq kvs k=none->Q z (upd H3 a (.dT (ziz kvs k z))))
section
variable {X:Cx}{o e f:Expr}{apos cpos:Pos}{td ty tx:TE}
theorem zx6 (hu:X.A.units+1<cLine) (ho:PE X o td) (he:PE X e ty) (hf:PE X f tx) (m:M2 X o "setdefault" apos e f cpos):PE X (.Call (.Attribute o "setdefault" apos) [e,f] [] cpos) (yc3 td ty tx):=by
 intro pins s σ H Q I h
 refine wpAny_Call_method m.base m.few m.line PySem.F.plainAttrs_dict PySem.F.slot_dict_setdefault PySem.F.type_dict_setdefault (thn (ho pins s σ H _ I h) λ u s1 ⟨x,H1,I1,rx,a,ex,d,q1⟩=>?_)
 subst ex
 obtain rfl:u=Value.ref a:=rx
 obtain ⟨t1,t2,_⟩:=zxh I1 d
 refine⟨t1,t2,?_⟩
 rw[m.trees]
 refine Calls.callWith_builtin rfl (Calls.evalArgs_plain (Calls.spliced_cons (thn (he pins s1 σ H1 _ I1 q1) λ iv s2 ⟨y,H2,I2,ry,q2⟩ =>
  Calls.spliced_cons (thn (hf pins s2 σ H2 _ I2 q2) λ fv s3 ⟨z,H3,I3,rz,b,kvs,k,ey,ea,eb,hl,q3,q4⟩=>Calls.spliced_nil ?_))))
 subst ey
 obtain rfl:iv=Value.ref b:=ry
 exact zvu hu I3 ea eb hl rz (λ w' u' s4 l rw' I4=>⟨w',H3,I4,rw',q3 w' l⟩) λ l s4 I4=>⟨z,_,I4,rz,q4 l⟩
end
abbrev GD:=List (List Key×List D)
structure GS (X:Cx) (B:Bs) (j:Nat) (Hf:Hp) (ρ:Rho) (σ:St) (H:Hp) (gd:GD) (Hn:Hp):Prop where
 vi:VI X.K B Hf ρ σ H
 nj:ρ[j]?=some none
 nh:zar Hn H
 nt:∀ b xs,Hn b≠some (.tup xs)
 fr:∀ b,Hn b≠none->Hf b=none/\B.h b=none
 no:∀ (i:Nat) sl,ρ[i]?=some (some sl)->zd5 sl=false
 ex:∃ p kvs,σ[j]?=some (some (.ref p))/\Hn p=some (.dT kvs)/\kvs.map Prod.fst=gd.map Prod.fst/\(kvs.map Prod.snd).Nodup/\Paired (λ ds v=>∃ l xs,v=.ref l/\Hn l=some (.lst xs)/\Dns X.K Hf ds xs) (gd.map Prod.snd) (kvs.map Prod.snd)
section
variable {X:Cx}{B:Bs}{j:Nat}{Hf Hf' H H' Hn:Hp}{ρ:Rho}{σ:St}{gd:GD}
theorem GS.ext (I:GS X B j Hf ρ σ H gd Hn) (e:Ex Hf H Hf' H'):GS X B j Hf' ρ σ H' gd Hn:=by
 refine⟨I.vi.ext e,I.nj,I.nh.trans e.hh,I.nt,λ b hb=>⟨?_,(I.fr b hb).2⟩,I.no,?_⟩
 ·cases z:Hn b with
  | none=>exact absurd z hb
  | some o=>exact zmk e (I.fr b hb).1 (I.nh b o z) (λ xs hx=>I.nt b xs (by rw[z,hx]))
 ·obtain ⟨p,kvs,h1,h2,h3,h4,h5⟩:=I.ex
  exact⟨p,kvs,h1,h2,h3,h4,h5.zmap λ _ _ ⟨l,xs,a1,a2,a3⟩=>⟨l,xs,a1,a2,a3.same e.ff⟩⟩
end
abbrev GG:=Rho->GD->Option (Rho×GD)
def sG (X:Cx) (B:Bs) (j:Nat) (g:GG):TS:=λ D σ H=>∃ Hf ρ gd Hn ρ' gd',GS X B j Hf ρ σ H gd Hn/\g ρ gd=some (ρ',gd')/\∀ Hf' σ' H' Hn',zar Hf Hf'->GS X B j Hf' ρ' σ' H' gd' Hn'->D.nx σ' H'
def zo7 (gd:GD) (k:List Key):GD:=if (zbf gd k).isSome=true then gd else gd++[(k,[])]
def zf8 (k:List Key) (d:D):GD->GD
 | []=>[]
 | x::r=>if x.1=k then (x.1,x.2++[d])::r else x::zf8 k d r
theorem zk4 (k:List Key) (d:D):∀ gd:GD,(zf8 k d gd).map Prod.fst=gd.map Prod.fst
 | []=>rfl
 | x::r=>by
  unfold zf8
  split
  ·rfl
  ·rw[List.map_cons,zk4 k d r];rfl
theorem znu {gd:GD}{k:List Key}:∀ {kvs:List (List Key×V)},kvs.map Prod.fst=gd.map Prod.fst->(zeq kvs k).isSome=(zbf gd k).isSome:=by
 induction gd with
 | nil=>intro kvs h;cases kvs with|nil=>rfl|cons _ _=>simp at h
 | cons x r ih =>
  intro kvs h
  cases kvs with
  | nil=>simp at h
  | cons y m =>
   simp only[List.map_cons,List.cons.injEq] at h
   by_cases e:y.1=k
   ·have e':x.1=k:=by rw[<-h.1];exact e
    simp[zeq,zbf,List.find?_cons,e,e']
   ·have e':¬ x.1=k:=by rw[<-h.1];exact e
    rw[zct e,ih h.2]
    simp[zbf,List.find?_cons,e']
theorem zk5 {kvs:List (List Key×V)}{k:List Key}{v:V} (h:zeq kvs k=none):ziz kvs k v=kvs++[(k,v)]:=by
 unfold ziz
 rw[zi0,h];rfl
section
variable {K:PySem.W.Frag}{Hf Hn:Hp}
theorem zvv {k:List Key}{d:D}{y:V}{l:Addr}{xs:List V} (hx:Hn l=some (.lst xs)) (dy:Dn K Hf d y):∀ {gd:GD}{kvs:List (List Key×V)},kvs.map Prod.fst=gd.map Prod.fst->(kvs.map Prod.snd).Nodup->zeq kvs k=some (.ref l)->Paired (λ ds v=>∃ l xs,v=.ref l/\Hn l=some (.lst xs)/\Dns K Hf ds xs) (gd.map Prod.snd) (kvs.map Prod.snd) →
  Paired (λ ds v=>∃ l' xs',v=.ref l'/\upd Hn l (.lst (xs++[y])) l'=some (.lst xs')/\Dns K Hf ds xs') ((zf8 k d gd).map Prod.snd) (kvs.map Prod.snd):=by
 intro gd
 induction gd with
 | nil=>intro kvs h _ hv _;cases kvs with|nil=>cases hv|cons _ _=>simp at h
 | cons x r ih =>
  intro kvs h nd hv pr
  cases kvs with
  | nil=>simp at h
  | cons z m =>
   simp only[List.map_cons,List.cons.injEq] at h
   rw[List.map_cons,List.nodup_cons] at nd
   rw[List.map_cons,List.map_cons] at pr
   cases pr with
   | cons p1 p2 =>
    have keep:∀ {a:List (List D)} {b:List V},(.ref l) ∉ b->Paired (λ ds v=>∃ l xs,v=.ref l/\Hn l=some (.lst xs)/\Dns K Hf ds xs) a b->Paired (λ ds v=>∃ l' xs',v=.ref l'/\upd Hn l (.lst (xs++[y])) l'=some (.lst xs')/\Dns K Hf ds xs') a b:=by
     intro a b hb q
     induction q with
     | nil=>exact .nil
     | cons q1 q2 ih2 =>
      obtain ⟨l',xs',e1,e2,e3⟩:=q1
      refine .cons ⟨l',xs',e1,?_,e3⟩ (ih2 λ w=>hb (List.mem_cons_of_mem _ w))
      rw[zaf (λ w=>hb (by rw[e1,w];exact List.mem_cons_self))];exact e2
    unfold zf8
    by_cases e:x.1=k
    ·have e':z.1=k:=by rw[h.1];exact e
     rw[zdc e'] at hv
     have hz:z.2=.ref l:=Option.some.inj hv
     rw[if_pos e,List.map_cons,List.map_cons]
     obtain ⟨l',xs',e1,e2,e3⟩:=p1
     rw[hz] at e1
     cases e1
     rw[hx] at e2
     cases e2
     refine .cons ⟨l,_,hz,zac,e3.zsnoc dy⟩ (keep (by rw[<-hz];exact nd.1) p2)
    ·have e':¬ z.1=k:=by rw[h.1];exact e
     rw[zct e'] at hv
     rw[if_neg e,List.map_cons,List.map_cons]
     obtain ⟨l',xs',e1,e2,e3⟩:=p1
     have hm:(.ref l)∈m.map Prod.snd:=by
      unfold zeq at hv
      obtain ⟨w,hw1,hw2⟩:=Option.map_eq_some_iff.mp hv
      rw[<-hw2]
      exact List.mem_map_of_mem (List.mem_of_find?_eq_some hw1)
     refine .cons ⟨l',xs',e1,?_,e3⟩ (ih h.2 nd.2 hv p2)
     rw[zaf (λ w=>nd.1 (by rw[e1,w];exact hm))];exact e2
end
section
variable {X:Cx}{B:Bs}{j:Nat}{Hf Hf' H H' Hn:Hp}{ρ:Rho}{σ:St}{gd:GD}
theorem GS.app {k:List Key}{d:D}{y:V}{l p:Addr}{xs:List V}{kvs:List (List Key×V)} (I:GS X B j Hf ρ σ H gd Hn) (hσ:σ[j]?=some (some (.ref p))) (hp:Hn p=some (.dT kvs)) (hv:zeq kvs k=some (.ref l)) (hx:Hn l=some (.lst xs)) (dy:Dn X.K Hf d y):GS X B j Hf ρ σ (upd H l (.lst (xs++[y]))) (zf8 k d gd) (upd Hn l (.lst (xs++[y]))):=by
 have hn:Hn l≠none:=by rw[hx];exact λ z=>nomatch z
 have hlp:p≠l:=λ z=>by rw[z,hx] at hp;cases hp
 refine⟨I.vi.offH (λ i sl h o z=>by have:=I.no i sl h;rw[o] at this;cases this) (I.fr l hn).1 (I.fr l hn).2,I.nj,λ b u z=>?_,λ b ys z=>?_,λ b hb=>?_,I.no,?_⟩
 ·by_cases hb:b=l
  ·subst hb;rw[zac] at z ⊢;exact z
  ·rw[zaf hb] at z ⊢;exact I.nh b u z
 ·by_cases hb:b=l
  ·subst hb;rw[zac] at z;cases z
  ·rw[zaf hb] at z;exact I.nt b ys z
 ·by_cases hb':b=l
  ·rw[hb'];exact I.fr l hn
  ·rw[zaf hb'] at hb;exact I.fr b hb
 ·obtain ⟨p',kvs',h1,h2,h3,h4,h5⟩:=I.ex
  rw[hσ] at h1
  cases h1
  rw[hp] at h2
  cases h2
  exact⟨p,kvs,hσ,by rw[zaf hlp];exact hp,by rw[zk4];exact h3,h4,zvv hx dy h3 h4 hv h5⟩
theorem GS.new {k:List Key}{l p:Addr}{kvs:List (List Key×V)} (I:GS X B j Hf ρ σ H gd Hn) (hσ:σ[j]?=some (some (.ref p))) (hp:Hn p=some (.dT kvs)) (hl:H l=none):GS X B j Hf ρ σ (upd (upd H l (.lst [])) p (.dT (kvs++[(k,.ref l)]))) (gd++[(k,[])]) (upd (upd Hn l (.lst [])) p (.dT (kvs++[(k,.ref l)]))):=by
 have hn:Hn p≠none:=by rw[hp];exact λ z=>nomatch z
 have hpl:p≠l:=λ z=>by have:=I.nh p _ hp;rw[z,hl] at this;cases this
 have hnl:Hn l=none:=I.nh.free hl
 have I1:=I.ext (Ex.made (o:=.lst []) I.vi.fh hl)
 refine⟨I1.vi.offH (λ i sl h o z=>by have:=I.no i sl h;rw[o] at this;cases this) (I.fr p hn).1 (I.fr p hn).2,I.nj,λ b u z=>?_,λ b ys z=>?_,λ b hb=>?_,I.no,?_⟩
 ·by_cases hb:b=p
  ·subst hb;rw[zac] at z ⊢;exact z
  ·rw[zaf hb] at z ⊢
   by_cases hb2:b=l
   ·subst hb2;rw[zac] at z ⊢;exact z
   ·rw[zaf hb2] at z ⊢;exact I.nh b u z
 ·by_cases hb:b=p
  ·subst hb;rw[zac] at z;cases z
  ·rw[zaf hb] at z
   by_cases hb2:b=l
   ·subst hb2;rw[zac] at z;cases z
   ·rw[zaf hb2] at z;exact I.nt b ys z
 ·by_cases hb':b=p
  ·rw[hb'];exact I.fr p hn
  ·rw[zaf hb'] at hb
   by_cases hb2:b=l
   ·rw[hb2];exact⟨I.vi.fh.free hl,I.vi.ex.hh.free hl⟩
   ·rw[zaf hb2] at hb;exact I.fr b hb
 ·obtain ⟨p',kvs',h1,h2,h3,h4,h5⟩:=I.ex
  rw[hσ] at h1
  cases h1
  rw[hp] at h2
  cases h2
  have hm:∀ v∈kvs.map Prod.snd,∃ l' xs',v=.ref l'/\Hn l'=some (.lst xs'):=by
   have:∀ {a:List (List D)} {b:List V},Paired (λ ds v=>∃ l xs,v=.ref l/\Hn l=some (.lst xs)/\Dns X.K Hf ds xs) a b->∀ v∈b,∃ l' xs',v=.ref l'/\Hn l'=some (.lst xs'):=by
    intro a b q
    induction q with
    | nil=>intro v hv;cases hv
    | cons q1 q2 ih =>
     intro v hv
     obtain ⟨l',xs',e1,e2,_⟩:=q1
     rcases List.mem_cons.mp hv with rfl|hv
     ·exact⟨l',xs',e1,e2⟩
     ·exact ih v hv
   exact this h5
  refine⟨p,_,hσ,zac,by rw[List.map_append,List.map_append,h3];rfl,?_,?_⟩
  ·rw[List.map_append,List.nodup_append]
   refine⟨h4,by simp,λ v hv w hw e=>?_⟩
   obtain ⟨l',xs',e1,e2⟩:=hm v hv
   simp at hw
   rw[e,hw] at e1
   cases e1
   rw[hnl] at e2;cases e2
  ·rw[List.map_append,List.map_append]
   refine (h5.zmap λ ds v ⟨l',xs',a1,a2,a3⟩=>⟨l',xs',a1,?_,a3⟩).zsnoc ⟨l,[],rfl,by rw[zaf hpl.symm,zac],.nil⟩
   rw[zaf (λ w=>by rw[w,hp] at a2;cases a2),zaf (λ w=>by rw[w,hnl] at a2;cases a2)];exact a2
end
def z1h (gd:GD) (k:List Key) (d:D):GD:=zf8 k d (zo7 gd k)
def gSd (fk:Rho->Option D):GG:=λ ρ gd=>(fk ρ).bind λ kd=>(zev kd).bind λ k=>if gd.length<100000 then some (ρ,zo7 gd k) else none
def gSa (fk fv:Rho->Option D):GG:=λ ρ gd=>(fk ρ).bind λ kd=>(zev kd).bind λ k=>(fv ρ).bind λ d=>if gd.length<100000/\(gd.all λ x=>decide (x.2.length<100000))=true then some (ρ,z1h gd k d) else none
def z75 (i:Nat) (fe:Rho->Option D):GG:=λ ρ gd=>(fe ρ).map λ d=>(ρ.set i (some (.sh d)),gd)
def z1i:GG:=λ ρ gd=>some (ρ,gd)
def zo8 (g h:GG):GG:=λ ρ gd=>(g ρ gd).bind λ z=>h z.1 z.2
def z25 (ft:Rho->Option Bool) (g h:GG):GG:=λ ρ gd=>(ft ρ).bind λ b=>if b=true then g ρ gd else h ρ gd
def zpj (gt:D->Rho->Option Rho) (f:GG):List D->GG
 | [],ρ,gd=>some (ρ,gd)
 | d::r,ρ,gd=>(gt d ρ).bind λ ρ1=>(f ρ1 gd).bind λ z=>zpj gt f r z.1 z.2
def zsa (fi:Rho->Option (List D)) (gt:D->Rho->Option Rho) (f:GG):GG:=λ ρ gd=>(fi ρ).bind λ ds=>zpj gt f ds ρ gd
theorem zij {α β:Type}{F:α->β->Prop}:∀ {l:List α}{r:List β},Paired F l r->∀ y∈r,∃ x∈l,F x y
 | _,_,.nil,y,h=>by cases h
 | _,_,.cons p q,y,h=>by
  rcases List.mem_cons.mp h with rfl|h
  ·exact⟨_,List.mem_cons_self,p⟩
  ·obtain ⟨x,h1,h2⟩:=zij q y h
   exact⟨x,List.mem_cons_of_mem _ h1,h2⟩
theorem z1j {kvs:List (List Key×V)}{k:List Key}{v:V} (h:zeq kvs k=some v):v∈kvs.map Prod.snd:=by
 unfold zeq at h
 obtain ⟨w,hw1,hw2⟩:=Option.map_eq_some_iff.mp h
 rw[<-hw2]
 exact List.mem_map_of_mem (List.mem_of_find?_eq_some hw1)
theorem z1k {kvs:List (List Key×V)}{k:List Key}{v:V} (h:zeq kvs k=none):zeq (kvs++[(k,v)]) k=some v:=by
 induction kvs with
 | nil=>exact zdc rfl
 | cons x r ih =>
  by_cases e:x.1=k
  ·rw[zdc e] at h;cases h
  ·rw[zct e] at h
   rw[List.cons_append,zct e];exact ih h
section
variable {X:Cx}{B:Bs}{j:Nat}{pos:Pos}{key v:Expr}{fk fv:Rho->Option D}
theorem yc4 {n:Nat}{x:Str}{p1 p2 p3 p4:Pos} (hr:Room n X.A) (hN:X.N[j]?=some x) (hk:PE X key (eB X.K B fk)) (m:M2 X (.Name x p1) "setdefault" p2 key (.List [] p3) p4) (hvis:Vis X.env.scope x:=by first|exact Or.inl rfl|exact Or.inr (Or.inl rfl)|exact Or.inr (Or.inr rfl)) (hd:(x == ("__debug__" : Str))=false:=by decide) (hcd:(x == ("__classdict__" : Str))=false:=by decide)
  (hs:swapsWith (.Call (.Attribute (.Name x p1) "setdefault" p2) [key,.List [] p3] [] p4) none pos.line X.env=pure false:=by rfl) :
  PS X (.Expr (.Call (.Attribute (.Name x p1) "setdefault" p2) [key,.List [] p3] [] p4) pos) (sG X B j (gSd fk)) :=
 (zfh (zx6 (by have:=hr.units;omega) (zcc hN hvis hd hcd) hk (zm3 zee) m) hs).imp λ D σ H ⟨Hf,ρ,gd,Hn,ρ',gd',N,hg,q⟩=>by
  obtain ⟨kd,hk0,hg⟩:=bind_some hg
  obtain ⟨k,hk1,hg⟩:=bind_some hg
  split at hg
  ·rename_i hlen
   cases hg
   obtain ⟨p,kvs,hσ,hp,h3,h4,h5⟩:=N.ex
   refine⟨_,hσ,p,rfl,.inr ⟨kvs,.inl (N.nh _ _ hp)⟩,Hf,ρ,kd,N.vi,hk0,λ Hf1 H1 y ex1 dy=>⟨Nat.zero_le _,λ l hl=>?_⟩⟩
   have N1:=N.ext ex1
   obtain ⟨b,rfl,hb⟩:=zgu dy hk1
   have hp1:H1 p=some (.dT kvs):=N1.nh _ _ hp
   have hb1:=ex1.fh _ _ hb
   have hkl:kvs.length=gd.length:=by rw[<-List.length_map (f:=Prod.fst),h3,List.length_map]
   have hs1:=znu (k:=k) h3
   refine⟨b,kvs,k,rfl,by rw[zaf (zam hp1 hl)];exact hp1,by rw[zaf (zam hb1 hl)];exact hb1,by rw[hkl];exact szl (by omega),λ w hw=>?_,λ hw=>?_⟩
   ·rw[hw] at hs1
    have e:zo7 gd k=gd:=by unfold zo7;exact if_pos hs1.symm
    rw[e] at q
    exact q Hf1 σ _ Hn ex1.ff (N1.ext (Ex.made N1.vi.fh hl))
   ·rw[hw] at hs1
    have e:zo7 gd k=gd++[(k,[])]:=by unfold zo7;rw[if_neg (by rw[<-hs1];decide)]
    rw[e] at q
    rw[zk5 hw]
    exact q Hf1 σ _ _ ex1.ff (N1.new hσ hp hl)
  ·cases hg
theorem ybx {n:Nat}{x:Str}{p1 p2 p3 p4 p5 p6:Pos} (hr:Room n X.A) (hN:X.N[j]?=some x) (hk:PE X key (eB X.K B fk)) (hv:PE X v (eV X.K B fv)) (m:M2 X (.Name x p1) "setdefault" p2 key (.List [] p3) p4) (hvis:Vis X.env.scope x:=by first|exact Or.inl rfl|exact Or.inr (Or.inl rfl)|exact Or.inr (Or.inr rfl)) (hd:(x == ("__debug__" : Str))=false:=by decide) (hcd:(x == ("__classdict__" : Str))=false:=by decide)
  (hbase:attributeBase (.Call (.Attribute (.Name x p1) "setdefault" p2) [key,.List [] p3] [] p4) "append" X.env (eval (.Call (.Attribute (.Name x p1) "setdefault" p2) [key,.List [] p3] [] p4) X.env)=eval (.Call (.Attribute (.Name x p1) "setdefault" p2) [key,.List [] p3] [] p4) X.env:=by rfl)
  (hfew:((backTo p6 (starEach [v] X.env)).all (λ x=>!x.1) && (backToKw p6 (keywordEach [] X.env)).all (λ x=>x.1.isSome) && decide ([v].length+([]:List Keyword).length+(if ([]:List Keyword).isEmpty then 0 else 1)<30))=true:=by rfl)
  (hline:(p5.endLine == p6.line)=true:=by rfl) (hst:starEach [v] X.env=(false,eval v X.env)::starEach [] X.env:=by rfl) (hplain:(backTo p6 (starEach [] X.env)).any (·.1)=false:=by rfl)
  (hs:swapsWith (.Call (.Attribute (.Call (.Attribute (.Name x p1) "setdefault" p2) [key,.List [] p3] [] p4) "append" p5) [v] [] p6) none pos.line X.env=pure false:=by rfl) :
  PS X (.Expr (.Call (.Attribute (.Call (.Attribute (.Name x p1) "setdefault" p2) [key,.List [] p3] [] p4) "append" p5) [v] [] p6) pos) (sG X B j (gSa fk fv)) :=
 (zfh (zui PySem.F.plainAttrs_list PySem.F.slot_list_append PySem.F.type_list_append zgo (zx6 (by have:=hr.units;omega) (zcc hN hvis hd hcd) hk (zm3 zee) m) (zch hv zee hst) hbase hfew hline hst hplain) hs).imp λ D σ H ⟨Hf,ρ,gd,Hn,ρ',gd',N,hg,q⟩=>by
  obtain ⟨kd,hk0,hg⟩:=bind_some hg
  obtain ⟨k,hk1,hg⟩:=bind_some hg
  obtain ⟨d,hd0,hg⟩:=bind_some hg
  split at hg
  ·rename_i hc
   cases hg
   obtain ⟨p,kvs,hσ,hp,h3,h4,h5⟩:=N.ex
   refine⟨_,hσ,p,rfl,.inr ⟨kvs,.inl (N.nh _ _ hp)⟩,Hf,ρ,kd,N.vi,hk0,λ Hf1 H1 y ex1 dy=>⟨Nat.zero_le _,λ l hl=>?_⟩⟩
   have N1:=N.ext ex1
   obtain ⟨b,rfl,hb⟩:=zgu dy hk1
   have hp1:H1 p=some (.dT kvs):=N1.nh _ _ hp
   have hb1:=ex1.fh _ _ hb
   have hkl:kvs.length=gd.length:=by rw[<-List.length_map (f:=Prod.fst),h3,List.length_map]
   have hs1:=znu (k:=k) h3
   refine⟨b,kvs,k,rfl,by rw[zaf (zam hp1 hl)];exact hp1,by rw[zaf (zam hb1 hl)];exact hb1,by rw[hkl];exact szl (by omega),λ w hw=>?_,λ hw=>?_⟩
   ·rw[hw] at hs1
    have e:zo7 gd k=gd:=by unfold zo7;exact if_pos hs1.symm
    unfold z1h at q
    rw[e] at q
    have N2:=N1.ext (Ex.made (o:=.lst []) N1.vi.fh hl)
    obtain ⟨ds,hds,l',xs,rfl,hx,dx⟩:=zij h5 w (z1j hw)
    refine⟨.inl ⟨rfl,xs,SqL.of (N2.nh _ _ hx)⟩,Hf1,ρ,d,N2.vi,hd0,λ Hf2 H2 y ex2 dy2=>?_⟩
    have N3:=N2.ext ex2
    refine⟨xs,N3.nh _ _ hx,?_,q Hf2 σ _ _ (ex1.ff.trans ex2.ff) (N3.app hσ hp hw hx dy2)⟩
    obtain ⟨z,hz,rfl⟩:=List.mem_map.mp hds
    have:=of_decide_eq_true (List.all_eq_true.mp hc.2 z hz)
    rw[<-dx.length];exact szl (by omega)
   ·rw[hw] at hs1
    have e:zo7 gd k=gd++[(k,[])]:=by unfold zo7;rw[if_neg (by rw[<-hs1];decide)]
    unfold z1h at q
    rw[e] at q
    rw[zk5 hw]
    have N2:=N1.new (k:=k) hσ hp hl
    have hpl:p≠l:=zam hp1 hl
    have hx:(upd (upd Hn l (.lst [])) p (.dT (kvs++[(k,.ref l)]))) l=some (.lst []):=by rw[zaf hpl.symm,zac]
    refine⟨.inl ⟨rfl,[],SqL.of (N2.nh _ _ hx)⟩,Hf1,ρ,d,N2.vi,hd0,λ Hf2 H2 y ex2 dy2=>?_⟩
    have N3:=N2.ext ex2
    exact⟨[],N3.nh _ _ hx,szl (by decide),q Hf2 σ _ _ (ex1.ff.trans ex2.ff) (N3.app hσ zac (z1k hw) hx dy2)⟩
  ·cases hg
variable {g h:GG}{st:Stmt}{rest as bs:List Stmt}{ft:Rho->Option Bool}{fe:Rho->Option D}
theorem zvw (h:PS X st (sG X B j g)):PSs X [st] (sG X B j g):=zfg h
theorem yaf:PSs X [] (sG X B j z1i):=zlr.imp λ D σ H ⟨Hf,ρ,gd,Hn,ρ',gd',N,hg,q⟩=>by
 cases hg
 exact q Hf σ H Hn (zar.refl _) N
theorem zx7 (h1:PS X st (sG X B j g)) (h2:PSs X rest (sG X B j h)):PSs X (st::rest) (sG X B j (zo8 g h)):=(zc9 h1 h2).imp λ D σ H ⟨Hf,ρ,gd,Hn,ρ',gd',N,hg,q⟩=>by
 obtain ⟨z,hz,hg⟩:=bind_some hg
 exact⟨Hf,ρ,gd,Hn,z.1,z.2,N,hz,λ Hf1 σ1 H1 Hn1 s1 N1=>⟨Hf1,z.1,z.2,Hn1,ρ',gd',N1,hg,λ Hf2 σ2 H2 Hn2 s2 N2=>q Hf2 σ2 H2 Hn2 (s1.trans s2) N2⟩⟩
theorem yc5 {c:Expr} (hc:PT X c (tV X.K B ft)) (ha:PSs X as (sG X B j g)) (hb:PSs X bs (sG X B j h)):PS X (.If c as bs pos) (sG X B j (z25 ft g h)):=(zy4 hc ha hb).imp λ D σ H ⟨Hf,ρ,gd,Hn,ρ',gd',N,hg,q⟩=>by
 obtain ⟨b,hb0,hg⟩:=bind_some hg
 refine⟨Hf,ρ,b,N.vi,hb0,λ Hf1 H1 ex1=>?_⟩
 have N1:=N.ext ex1
 cases b with
 | true =>
  rw[if_pos rfl] at hg
  show if true=true then _ else _
  rw[if_pos rfl]
  exact⟨Hf1,ρ,gd,Hn,ρ',gd',N1,hg,λ Hf2 σ2 H2 Hn2 s2 N2=>q Hf2 σ2 H2 Hn2 (ex1.ff.trans s2) N2⟩
 | false =>
  rw[if_neg Bool.false_ne_true] at hg
  show if false=true then _ else _
  rw[if_neg Bool.false_ne_true]
  exact⟨Hf1,ρ,gd,Hn,ρ',gd',N1,hg,λ Hf2 σ2 H2 Hn2 s2 N2=>q Hf2 σ2 H2 Hn2 (ex1.ff.trans s2) N2⟩
theorem GS.set {Hf H Hn:Hp}{ρ:Rho}{σ:St}{gd:GD}{i:Nat}{d:D}{w:V} (N:GS X B j Hf ρ σ H gd Hn) (hij:i≠j) (dv:Dn X.K Hf d w):GS X B j Hf (ρ.set i (some (.sh d))) (σ.set i (some w)) H gd Hn:=by
 refine⟨N.vi.set dv,by rw[List.getElem?_set_ne hij];exact N.nj,N.nh,N.nt,N.fr,zo5 (i:=i) d ρ _ rfl N.no,?_⟩
 ·obtain ⟨p,kvs,h1,r⟩:=N.ex
  exact⟨p,kvs,by rw[List.getElem?_set_ne hij];exact h1,r⟩
theorem yag {i:Nat}{y:Str}{pos':Pos}{e:Expr} (hij:i≠j) (hNd:X.N.Nodup) (hi:X.N[i]?=some y) (hx:Loc X.env.scope y) (he:PE X e (eV X.K B fe)) (hs:swapsWith e (some (.Name y pos')) pos.line X.env=pure false:=by rfl) (hf:X.fn y=true\/X.env.scope.names.lookup y=some .local:=by first|exact .inl rfl|exact .inr rfl|assumption):PS X (.Assign [.Name y pos'] e pos) (sG X B j (z75 i fe)):=(zdr hNd hi hx he hs hf).imp λ D σ H ⟨Hf,ρ,gd,Hn,ρ',gd',N,hg,q⟩=>by
 obtain ⟨d,hd0,hg⟩:=Option.map_eq_some_iff.mp hg
 cases hg
 exact⟨Hf,ρ,d,N.vi,hd0,λ Hf1 H1 w ex1 dv=>q Hf1 _ H1 Hn ex1.ff ((N.ext ex1).set hij dv)⟩
variable {tg iter:Expr}{fi:Rho->Option (List D)}{gt:D->Rho->Option Rho}{sl:List Nat}
theorem z1l {body:List Stmt} (hp:PassesOwn (model X.prog X.w) X.A X.env X.xe) (hc:X.calm=true) (hi:PI X tg iter (iV X.K B fi)) (hg:PG X tg (gV X.K B sl gt)) (hj:j ∉ sl) (hgt:∀ d ρ ρ1,gt d ρ=some ρ1->ρ1[j]?=ρ[j]?) (hno:∀ d ρ ρ1,gt d ρ=some ρ1->(∀ (i:Nat) s,ρ[i]?=some (some s)->zd5 s=false)->∀ (i:Nat) s,ρ1[i]?=some (some s)->zd5 s=false) (hb:PSs X body (sG X B j g)) (hs:∀ x,foldedSetIterable iter X.env x=pure x:=by intro _;rfl):PS X (.For tg iter body [] pos) (sG X B j (zsa fi gt g)):=(zm2 hp hc hi hg hb hs).imp λ D σ H ⟨Hf,ρ,gd,Hn,ρ',gd',N,hgg,q⟩=>by
 obtain ⟨ds,e,hgg⟩:=bind_some hgg
 refine⟨Hf,ρ,ds,N.vi,e,λ J Hf1 H1 ex1 ok=>?_⟩
 refine⟨λ i m σ H=>m=ds.length - i/\i<=ds.length/\∃ Hf2 ρ2 gd2 Hn2,GS X B j Hf2 ρ2 σ H gd2 Hn2/\zar Hf1 Hf2/\zpj gt g (ds.drop i) ρ2 gd2=some (ρ',gd'),⟨ds.length,by simp,Nat.zero_le _,Hf1,ρ,gd,Hn,N.ext ex1,zar.refl _,hgg⟩,?_⟩
 rintro i m σ2 H2 ⟨rfl,hi,Hf2,ρ2,gd2,Hn2,N2,s12,q2⟩
 have okk:=ok Hf2 H2 (s12.trans N2.vi.fh) s12 N2.vi.fh i
 by_cases hlt:i<ds.length
 ·obtain ⟨go,yld⟩:=okk.1 ds[i] (by simp[hlt])
  refine .inr ⟨go,λ σ' H'=>∃ Hf3 ρ3 gd3 Hn3,GS X B j Hf3 ρ3 σ' H' gd3 Hn3/\zar Hf1 Hf3/\zpj gt g (ds.drop (i+1)) ρ3 gd3=some (ρ',gd'),λ σ' H' z=>⟨ds.length - (i+1),by omega,rfl,hlt,z⟩,λ x H3 y=>?_⟩
  obtain ⟨Hf3,ex3,dx⟩:=yld x H3 y
  rw[List.drop_eq_getElem_cons hlt] at q2
  unfold zpj at q2
  obtain ⟨ρ1,hg1,q2⟩:=bind_some q2
  obtain ⟨z,hz,q2⟩:=bind_some q2
  have N3:=N2.ext ex3
  refine⟨Hf3,ρ2,_,ρ1,N3.vi,dx,hg1,λ σ' I' _ hk=>⟨Hf3,ρ1,gd2,Hn2,z.1,z.2,⟨I',(hgt _ _ _ hg1).trans N3.nj,N3.nh,N3.nt,N3.fr,hno _ _ _ hg1 N3.no,?_⟩,hz,λ Hf' σ'' H'' Hn' sm N'=>⟨Hf',z.1,z.2,Hn',N',(s12.trans ex3.ff).trans sm,q2⟩⟩⟩
  obtain ⟨p,xs,h1,r⟩:=N3.ex
  exact⟨p,xs,(hk j hj).trans h1,r⟩
 ·have e:i=ds.length:=by omega
  subst e
  rw[List.drop_length] at q2
  unfold zpj at q2
  cases q2
  exact .inl ⟨okk.2 (Nat.le_refl _),q Hf2 σ2 H2 Hn2 (ex1.ff.trans s12) N2⟩
def zx8 (j:Nat) (g:GG):Rho->Out:=λ ρ=>match ρ[j]? with
 | some none=>if (ρ.all λ s=>match s with|some sl=>!zd5 sl|none=>true)=true then (match g ρ [] with|some z=>.rt (.dt (z.2.map Prod.fst) (z.2.map λ x=>.lst x.2))|none=>.bad) else .bad
 | _=>.bad
theorem zx9 {x:Str}{s2:Stmt}{q1 q2 q3 p2 pos':Pos} (hNd:X.N.Nodup) (hN:X.N[j]?=some x) (hx:Loc X.env.scope x) (h2:PS X s2 (sG X B j g))
  (hs:swapsWith (.Dict [] [] q1) (some (.Name x q2)) q3.line X.env=pure false:=by rfl) (hf:X.fn x=true\/X.env.scope.names.lookup x=some .local:=by first|exact .inl rfl|exact .inr rfl|assumption)
  (hvis:Vis X.env.scope x:=by first|exact Or.inl rfl|exact Or.inr (Or.inl rfl)|exact Or.inr (Or.inr rfl)) (hd:(x == ("__debug__" : Str))=false:=by decide) (hcd:(x == ("__classdict__" : Str))=false:=by decide) :
  PSs X [.Assign [.Name x q2] (.Dict [] [] q1) q3,s2,.Return (some (.Name x p2)) pos'] (sV X.K B (zx8 j g)) :=
 (zc9 (zdr hNd hN hx zi1 hs hf) (zc9 h2 (zfg (zhz (zcc hN hvis hd hcd))))).imp λ D σ H ⟨Hf,ρ,I,q⟩=>by
  unfold zx8 at q
  split at q
  ·rename_i hj
   split at q
   ·rename_i hall
    split at q
    ·rename_i z hz
     intro a ha
     have hjl:j<σ.length:=by rw[<-I.len];exact (List.getElem?_eq_some_iff.mp hj).1
     have I1:VI X.K B Hf ρ (σ.set j (some (.ref a))) (upd H a (.dT [])):=(I.setU hj).ext (Ex.made I.fh ha)
     have hno:∀ (i:Nat) sl,ρ[i]?=some (some sl)->zd5 sl=false:=λ i sl h=>by
      have:=List.all_eq_true.mp hall _ (List.mem_of_getElem? h)
      simpa using this
     refine⟨Hf,ρ,[],upd emp a (.dT []),z.1,z.2,⟨I1,hj,zvr zac,λ b xs h=>?_,λ b hb=>?_,hno,a,[],by rw[List.getElem?_set_self hjl],zac,rfl,List.nodup_nil,.nil⟩,hz,λ Hf' σ' H' Hn' sm N'=>?_⟩
     ·by_cases hb:b=a
      ·subst hb;rw[zac] at h;cases h
      ·rw[zaf hb] at h;cases h
     ·rw[zvs hb];exact⟨I.fh.free ha,I.ex.hh.free ha⟩
     ·obtain ⟨p,kvs,h1,h2,h3,h4,h5⟩:=N'.ex
      have jr0:=ybw N'.vi.fh (znt.trans N'.nh)
      have jl:∀ b xs,Hn' b=some (.lst xs)->jn Hf' (noF Hn') b=some (.lst xs):=λ b xs e=>jr0 _ _ (z1e e)
      refine⟨_,h1,q (jn Hf' (noF Hn')) H' _ ⟨N'.vi.ex.ff.trans yad,N'.vi.ex.hh,z5w N'.vi.fh (znt.trans N'.nh),λ b hb=>?_,λ b o u h=>N'.vi.ex.nf b o u (yae h)⟩ ?_⟩
      ·rcases zr7 hb with w|w
       ·exact N'.vi.ex.nw b w
       ·exact .inr (.inl (N'.fr b (z5x w)).2)
      ·refine zz7 (jr0 _ _ (z5y h2)) h3 ?_
       have:∀ {a:List (List L2.D)} {b:List V},Paired (λ ds v=>∃ l xs,v=.ref l/\Hn' l=some (.lst xs)/\Dns X.K Hf' ds xs) a b->Dns X.K (jn Hf' (noF Hn')) (a.map L2.D.lst) b:=by
        intro a b pr
        induction pr with
        | nil=>exact .nil
        | cons r t ih =>
         obtain ⟨l,xs,rfl,e2,e3⟩:=r
         exact .cons (zc1 (SqL.of (jl _ _ e2)) (e3.same yad)) ih
       have e:=this h5
       rw[List.map_map] at e
       exact e
    ·exact q.elim
   ·exact q.elim
  ·exact q.elim
end
inductive OutD where
 | nx (ρ:Rho)|rt (ds:List D) (ρ:Rho)|bad
structure NewL (K:PySem.W.Frag) (B:Bs) (Hf:Hp) (ρ:Rho) (σ:St) (H:Hp) (ds:List D) (q:Addr) (xs:List V):Prop where
 hq:H q=some (.lst xs)
 fq:Hf q=none
 bq:B.h q=none
 dn:Dns K Hf ds xs
 ap:∀ (i:Nat) sl,ρ[i]?=some (some sl)->zd5 sl=true->σ[i]?≠some (some (.ref q))
def At (jd:Nat) (p:Addr) (σ:St):Prop:=σ[jd]?=some (some (.ref p))
theorem At.set {jd i:Nat}{p:Addr}{σ:St}{x:Option V} (h:At jd p σ) (hi:i≠jd):At jd p (σ.set i x):=by unfold At;rw[List.getElem?_set_ne hi];exact h
theorem At.off {jd:Nat}{p:Addr}{σ σ':St}{sl:List Nat} (h:At jd p σ) (hs:sl.all (λ i=>decide (i≠jd))=true) (e:∀ j:Nat,j ∉ sl->σ'[j]?=σ[j]?):At jd p σ':=by
 unfold At
 rw[e jd λ z=>of_decide_eq_true (List.all_eq_true.mp hs jd z) rfl];exact h
def zg6 (K:PySem.W.Frag) (B:Bs) (jd:Nat) (p:Addr) (Hb:Hp) (o:OutD) (D:Ends):Prop:=match o with
 | .nx ρ=>∀ Hf σ H,zar Hb Hf->VI K B Hf ρ σ H->At jd p σ->D.nx σ H
 | .rt ds ρ=>∀ Hf σ H q xs,zar Hb Hf->VI K B Hf ρ σ H->At jd p σ->NewL K B Hf ρ σ H ds q xs->D.rt (.ref q) H
 | .bad=>False
theorem zg6.mono {K:PySem.W.Frag}{B:Bs}{jd:Nat}{p:Addr}{Hb Hc:Hp}{o:OutD}{D:Ends} (h:zg6 K B jd p Hb o D) (s:zar Hb Hc):zg6 K B jd p Hc o D:=by
 cases o with
 | nx ρ=>exact λ Hf σ H z=>h Hf σ H (s.trans z)
 | rt ds ρ=>exact λ Hf σ H q xs z=>h Hf σ H q xs (s.trans z)
 | bad=>exact h
def dV (K:PySem.W.Frag) (B:Bs) (jd:Nat) (f:Rho->OutD):TS:=λ D σ H=>∃ Hf ρ p,VI K B Hf ρ σ H/\At jd p σ/\zg6 K B jd p Hf (f ρ) D
def dL (f:Rho->Out):Rho->OutD:=λ ρ=>match f ρ with|.nx ρ'=>.nx ρ'|_=>.bad
def zfd (f g:Rho->OutD):Rho->OutD:=λ ρ=>match f ρ with|.nx ρ'=>g ρ'|o=>o
def dIf (ft:Rho->Option Bool) (f g:Rho->OutD):Rho->OutD:=λ ρ=>match ft ρ with|some true=>f ρ|some false=>g ρ|none=>.bad
def zsb:Rho->OutD:=λ ρ=>.nx ρ
def zed (gt:D->Rho->Option Rho) (f:Rho->OutD):List D->Rho->OutD
 | [],ρ=>.nx ρ
 | d::r,ρ=>match gt d ρ with|some ρ1=>(match f ρ1 with|.nx ρ'=>zed gt f r ρ'|o=>o)|none=>.bad
def z26 (fi:Rho->Option (List D)) (gt:D->Rho->Option Rho) (f:Rho->OutD):Rho->OutD:=λ ρ=>match fi ρ with|some ds=>zed gt f ds ρ|none=>.bad
def z1m (fe:Rho->Option (List D)):Rho->OutD:=λ ρ=>match fe ρ with|some ds=>.rt ds ρ|none=>.bad
def z1n (i:Nat):Rho->OutD:=λ ρ=>match ρ[i]? with|some (some (.ow ds))=>.rt ds (ρ.set i none)|_=>.bad
theorem VI.out {K:PySem.W.Frag}{B:Bs}{Hf H:Hp}{ρ:Rho}{σ:St} (I:VI K B Hf ρ σ H) (i:Nat):VI K B Hf (ρ.set i none) σ H:=by
 have g:∀ {j:Nat} {sl:Sl},(ρ.set i none)[j]?=some (some sl)->j≠i/\ρ[j]?=some (some sl):=λ {j sl} e=>by
  by_cases hj:i=j
  ·subst hj
   rw[List.getElem?_set] at e
   split at e
   ·split at e <;> cases e
   ·rename_i hh;exact absurd rfl hh
  ·rw[List.getElem?_set_ne hj] at e
   exact⟨λ z=>hj z.symm,e⟩
 exact⟨I.ex,by rw[List.length_set];exact I.len,λ j sl e=>I.ok j sl (g e).2,λ j sl p e=>I.own j sl p (g e).2,λ j k sj sk p e1 e2=>I.dis j k sj sk p (g e1).2 (g e2).2⟩
section
variable {X:Cx}{B:Bs}{jd:Nat}{st:Stmt}{rest as bs body:List Stmt}{f g:Rho->OutD}{pos:Pos}{e c tg iter:Expr}{ft:Rho->Option Bool}{fe:Rho->Option D}{fr fi:Rho->Option (List D)}{gt:D->Rho->Option Rho}{sl:List Nat}
theorem z1o {K:PySem.W.Frag}{p:Addr}{Hb:Hp}{D:Ends}{o:Rho->Out}{ρ:Rho} (q:zg6 K B jd p Hb (dL o ρ) D):zeo K B Hb (o ρ) { D with nx:=λ σ H=>At jd p σ->D.nx σ H }:=by
 unfold dL at q
 cases e:o ρ with
 | nx ρ'=>rw[e] at q;exact q
 | _=>rw[e] at q;exact q.elim
theorem zvx {i:Nat}{x:Str}{pos':Pos} (hij:i≠jd) (hN:X.N.Nodup) (hi:X.N[i]?=some x) (hx:Loc X.env.scope x) (he:PE X e (eV X.K B fe)) (hs:swapsWith e (some (.Name x pos')) pos.line X.env=pure false:=by rfl) (hf:X.fn x=true\/X.env.scope.names.lookup x=some .local:=by first|exact .inl rfl|exact .inr rfl|assumption):PS X (.Assign [.Name x pos'] e pos) (dV X.K B jd (dL (zbn i fe))):=(zdr hN hi hx he hs hf).imp λ D σ H ⟨Hf,ρ,p,I,hp,q⟩=>by
 have q:=z1o q
 unfold zbn at q
 cases e:fe ρ with
 | none=>rw[e] at q;exact q.elim
 | some d=>rw[e] at q;exact⟨Hf,ρ,d,I,e,λ Hf1 H1 v ex1 dv=>q Hf1 _ H1 ex1.ff ((I.ext ex1).set dv) (hp.set hij)⟩
theorem yah {i:Nat}{x:Str}{pos':Pos} (hij:i≠jd) (hN:X.N.Nodup) (hi:X.N[i]?=some x) (hx:Loc X.env.scope x) (he:PE X e (eW X.K B fr)) (hs:swapsWith e (some (.Name x pos')) pos.line X.env=pure false:=by rfl) (hf:X.fn x=true\/X.env.scope.names.lookup x=some .local:=by first|exact .inl rfl|exact .inr rfl|assumption):PS X (.Assign [.Name x pos'] e pos) (dV X.K B jd (dL (zi9 i fr))):=(zdr hN hi hx he hs hf).imp λ D σ H ⟨Hf,ρ,p,I,hp,q⟩=>by
 have q:=z1o q
 unfold zi9 at q
 cases e:fr ρ with
 | none=>rw[e] at q;exact q.elim
 | some d=>rw[e] at q;exact⟨Hf,ρ,d,I,e,λ Hf1 H1 a xs ex ha hf ha' dn=>q Hf1 _ H1 ex.ff (I.setO ex ha hf ha' dn) (hp.set hij)⟩
theorem zya {elt:Expr}{ifs:List Expr}{scope:Scope}{vars:List Str}{cap:List Nat}{g:D->Rho->Option Rho}{tt:Rho->Option Bool}{te:Rho->Option D}{i:Nat}{x:Str}{pos' spos:Pos} (hij:i≠jd) (hN:X.N.Nodup) (hx0:X.N[i]?=some x) (hx:X.env.scope.names.lookup x=some .local)
  (hc:X.calm=true) (S:CScope X scope) (hcap:∀ i∈cap,i<X.N.length/\scope.names.lookup (X.N.getD i "")≠some .local) (hn:cap.Nodup) (hsl:sl.all (·<vars.length)=true) (hi:PI X tg iter (iB X.K B fi))
  (hg:∀ s H C ex,PG (zau X scope C vars cap s H ex) tg (gV X.K B sl g)) (ht:∀ s H C ex,zt2 (zau X scope C vars cap s H ex) ifs (tV X.K B tt)) (he:∀ s H C ex,PE (zau X scope C vars cap s H ex) elt (eV X.K B te))
  (hsw:swapsWith (.ListComp elt [⟨tg,iter,ifs,0⟩] scope pos) (some (.Name x pos')) spos.line X.env=pure true:=by rfl)
  (hs:∀ x,foldedSetIterable iter X.env x=pure x:=by intro _;rfl):PS X (.Assign [.Name x pos'] (.ListComp elt [⟨tg,iter,ifs,0⟩] scope pos) spos) (dV X.K B jd (dL (zbn i (eL (zb3 vars.length cap fi g tt te))))) :=
 (zh4 hN hx0 hx hc S hcap hi hg ht he hsw hs).imp λ D σ H ⟨Hf,ρ,p,I,hp,q⟩=>by
  have q:=z1o q
  unfold zbn at q
  cases e:eL (zb3 vars.length cap fi g tt te) ρ with
  | none=>rw[e] at q;exact q.elim
  | some d =>
   rw[e] at q
   exact zra (λ R z=>zi8 hn hsl z) (show eV X.K B _ σ H _ from ⟨Hf,ρ,d,I,e,λ Hf1 H1 v ex1 dv=>q Hf1 _ H1 ex1.ff ((I.ext ex1).set dv) (hp.set hij)⟩)
theorem yai (hsl:sl.all (λ i=>decide (i≠jd))=true) (he:PE X e (eV X.K B fe)) (hg:PG X tg (gV X.K B sl gt)) (hs:swapsWithSole [tg] e pos.line X.env=pure false:=by rfl) (hw:swappedStores [tg] e X.env=pure none:=by rfl) (h1:(assignEach [tg] X.env).map (·.2)=[assign tg X.env]:=by rfl):PS X (.Assign [tg] e pos) (dV X.K B jd (dL (zja gt fe))):=(zpp he hg hs hw h1).imp λ D σ H ⟨Hf,ρ,p,I,hp,q⟩=>by
 have q:=z1o q
 unfold zja at q
 cases e:fe ρ with
 | none=>rw[e] at q;exact q.elim
 | some d =>
  rw[e] at q
  cases e2:gt d ρ with
  | none=>simp only[Option.bind_some,e2] at q;exact q.elim
  | some ρ' =>
   simp only[Option.bind_some,e2] at q
   exact⟨Hf,ρ,d,I,e,λ Hf1 H1 v ex1 dv=>⟨Hf1,ρ,d,ρ',I.ext ex1,dv,e2,λ σ' I' _ eo=>q Hf1 σ' H1 ex1.ff I' (hp.off hsl eo)⟩⟩
theorem z1p {a:Expr}{fa:Rho->Option D}{i:Nat}{x:Str}{p1 p2 p3:Pos} (hN:X.N[i]?=some x) (ha:PE X a (eV X.K B fa)) (hv:Vis X.env.scope x:=by first|exact Or.inl rfl|exact Or.inr (Or.inl rfl)|exact Or.inr (Or.inr rfl)) (hd:(x == ("__debug__" : Str))=false:=by decide) (hcd:(x == ("__classdict__" : Str))=false:=by decide)
  (hbase:attributeBase (.Name x p1) "append" X.env (eval (.Name x p1) X.env)=eval (.Name x p1) X.env:=by rfl)
  (hfew:((backTo p3 (starEach [a] X.env)).all (λ x=>!x.1) && (backToKw p3 (keywordEach [] X.env)).all (λ x=>x.1.isSome) && decide ([a].length+([]:List Keyword).length+(if ([]:List Keyword).isEmpty then 0 else 1)<30))=true:=by rfl)
  (hline:(p2.endLine == p3.line)=true:=by rfl) (hs:starEach [a] X.env=(false,eval a X.env)::starEach [] X.env:=by rfl) (hplain:(backTo p3 (starEach [] X.env)).any (·.1)=false:=by rfl) (hsw:swapsWith (.Call (.Attribute (.Name x p1) "append" p2) [a] [] p3) none pos.line X.env=pure false:=by rfl) :
  PS X (.Expr (.Call (.Attribute (.Name x p1) "append" p2) [a] [] p3) pos) (dV X.K B jd (dL (zfo i fa))) :=
 (zfh (zui PySem.F.plainAttrs_list PySem.F.slot_list_append PySem.F.type_list_append zgo (zcc hN hv hd hcd) (zch ha zee hs) hbase hfew hline hs hplain) hsw).imp λ D σ H ⟨Hf,ρ,pp,I,hp,q⟩=>by
  have q:=z1o q
  unfold zfo at q
  split at q
  ·rename_i ds e
   obtain ⟨v,h1,p,xs,rfl,h2,h3,h4⟩:=I.ok i _ e
   refine⟨_,h1,.inl ⟨rfl,xs,SqL.of h3⟩,?_⟩
   split at q
   ·rename_i d hd
    split at q
    ·rename_i hk
     refine⟨Hf,ρ,d,I,hd,λ Hf1 H1 v ex1 dv=>?_⟩
     refine⟨xs,ex1.hh _ _ h3,by rw[<-h4.length];exact hk,q Hf1 σ _ ex1.ff ?_ hp⟩
     exact (I.ext ex1).mut e h1 ((h4.same ex1.ff).zsnoc dv)
    ·exact q.elim
   ·exact q.elim
  ·exact q.elim
theorem zyb {i:Expr}{fk fv:Rho->Option D}{n j:Nat}{x:Str}{value:Expr}{p1 pos':Pos} (hr:Room n X.A) (hN:X.N[j]?=some x) (hi:PE X i (eB X.K B fk)) (hv:PE X value (eV X.K B fv)) (hvis:Vis X.env.scope x:=by first|exact Or.inl rfl|exact Or.inr (Or.inl rfl)|exact Or.inr (Or.inr rfl)) (hd:(x == ("__debug__" : Str))=false:=by decide) (hcd:(x == ("__classdict__" : Str))=false:=by decide)
  (hs:swapsWith value (some (.Subscript (.Name x p1) i pos')) pos.line X.env=pure false:=by rfl):PS X (.Assign [.Subscript (.Name x p1) i pos'] value pos) (dV X.K B jd (dL (zeb j fk fv))) :=
 (zqw (by have:=hr.units;omega) (zcc hN hvis hd hcd) hi hv hs).imp λ D σ H ⟨Hf,ρ,pp,I,hp,q⟩=>by
  have q:=z1o q
  unfold zeb at q
  split at q
  ·rename_i sl hsl
   split at q
   ·rename_i sl' hz
    obtain ⟨d,hfv,hz⟩:=bind_some hz
    obtain ⟨k,hfk,hz⟩:=bind_some hz
    obtain ⟨v0,h1,h2⟩:=I.ok j _ hsl
    refine⟨Hf,ρ,d,I,hfv,λ Hf1 H1 v ex1 dv=>⟨v0,h1,Hf1,ρ,k,I.ext ex1,hfk,λ Hf2 H2 y ex2 dk=>?_⟩⟩
    have I2:=(I.ext ex1).ext ex2
    have ok2:=(h2.ext ex1).ext ex2
    unfold zfr at hz
    split at hz
    ·obtain ⟨key,hk,hz⟩:=bind_some hz
     split at hz
     ·rename_i ks ds hl
      cases hz
      obtain ⟨p,kvs,rfl,hf,hH,e1,e2⟩:=ok2
      have ey:=zi4 dk hk
      subst ey
      have pk:=(zl2 e1 e2).put key (dv.same ex2.ff)
      exact⟨p,_,rfl,zt3.k hH (by rw[<-List.length_map (f:=Prod.fst),e1];exact hl),q Hf2 σ _ (ex1.ff.trans ex2.ff) (I2.mutG hsl rfl rfl h1 ⟨p,_,rfl,hf,zac,pk.fst,pk.snd⟩) hp⟩
     ·cases hz
    ·obtain ⟨key,hk,hz⟩:=bind_some hz
     split at hz
     ·rename_i ks ds hl
      cases hz
      obtain ⟨p,kvs,rfl,hf,hH,e1,e2⟩:=ok2
      obtain ⟨b,rfl,hb⟩:=zgu dk hk
      have pk:=(zl2 e1 e2).put key (dv.same ex2.ff)
      exact⟨p,_,rfl,zt3.t hH (ex2.fh _ _ hb) (by rw[<-List.length_map (f:=Prod.fst),e1];exact hl),q Hf2 σ _ (ex1.ff.trans ex2.ff) (I2.mutG hsl rfl rfl h1 ⟨p,_,rfl,hf,zac,pk.fst,pk.snd⟩) hp⟩
     ·cases hz
    ·cases hz
   ·exact q.elim
  ·exact q.elim
theorem z5z:PSs X [] (dV X.K B jd zsb):=zlr.imp λ D σ H ⟨Hf,ρ,p,I,hp,q⟩=>q Hf σ H (zar.refl _) I hp
theorem zk6 (h:PS X st (dV X.K B jd f)):PSs X [st] (dV X.K B jd f):=zfg h
theorem zcv (h1:PS X st (dV X.K B jd f)) (h2:PSs X rest (dV X.K B jd g)):PSs X (st::rest) (dV X.K B jd (zfd f g)):=(zc9 h1 h2).imp λ D σ H ⟨Hf,ρ,p,I,hp,q⟩=>by
 refine⟨Hf,ρ,p,I,hp,?_⟩
 unfold zfd at q
 cases e:f ρ with
 | nx ρ'=>rw[e] at q;exact λ Hf' σ' H' z I' hp'=>⟨Hf',ρ',p,I',hp',zg6.mono q z⟩
 | rt d r=>rw[e] at q;exact q
 | bad=>rw[e] at q;exact q
theorem yaj (hc:PT X c (tV X.K B ft)) (ha:PSs X as (dV X.K B jd f)) (hb:PSs X bs (dV X.K B jd g)):PS X (.If c as bs pos) (dV X.K B jd (dIf ft f g)):=(zy4 hc ha hb).imp λ D σ H ⟨Hf,ρ,p,I,hp,q⟩=>by
 unfold dIf at q
 cases e:ft ρ with
 | none=>rw[e] at q;exact q.elim
 | some b =>
  rw[e] at q
  refine⟨Hf,ρ,b,I,e,λ Hf1 H1 ex1=>?_⟩
  cases b with
  | true=>rw[if_pos rfl];exact⟨Hf1,ρ,p,I.ext ex1,hp,zg6.mono q ex1.ff⟩
  | false=>rw[if_neg Bool.false_ne_true];exact⟨Hf1,ρ,p,I.ext ex1,hp,zg6.mono q ex1.ff⟩
theorem zyc (he:PE X e (eW X.K B fr)):PS X (.Return (some e) pos) (dV X.K B jd (z1m fr)):=(zhz he).imp λ D σ H ⟨Hf,ρ,pp,I,hpp,q⟩=>by
 unfold z1m at q
 cases e:fr ρ with
 | none=>rw[e] at q;exact q.elim
 | some d =>
  rw[e] at q
  refine⟨Hf,ρ,d,I,e,λ Hf1 H1 p xs ex1 hp hf hp' dn=>q Hf1 σ H1 p xs ex1.ff (I.ext ex1) hpp ⟨hp',hf,I.ex.hh.free hp,dn,λ i sl e o z=>?_⟩⟩
  obtain ⟨v,h1,h2⟩:=I.ok i sl e
  rw[z] at h1
  cases h1
  cases sl with
  | sh d=>cases o
  | ow ds=>obtain ⟨p',xs',e1,_,h3,_⟩:=h2;cases e1;rw[hp] at h3;cases h3
  | dk ks ds=>obtain ⟨p',xs',e1,_,h3,_⟩:=h2;cases e1;rw[hp] at h3;cases h3
  | dt ks ds=>obtain ⟨p',xs',e1,_,h3,_⟩:=h2;cases e1;rw[hp] at h3;cases h3
theorem z50 (i:Nat) {x:Str}{p:Pos} (hN:X.N[i]?=some x:=by rfl) (hv:Vis X.env.scope x:=by first|exact Or.inl rfl|exact Or.inr (Or.inl rfl)|exact Or.inr (Or.inr rfl)) (hd:(x == ("__debug__" : Str))=false:=by decide) (hcd:(x == ("__classdict__" : Str))=false:=by decide):PS X (.Return (some (.Name x p)) pos) (dV X.K B jd (z1n i)):=(zhz (zcc hN hv hd hcd)).imp λ D σ H ⟨Hf,ρ,pp,I,hpp,q⟩=>by
 unfold z1n at q
 split at q
 ·rename_i ds e
  obtain ⟨v,h1,p,xs,rfl,h2,h3,h4⟩:=I.ok i _ e
  refine⟨_,h1,q Hf σ H p xs (zar.refl _) (I.out i) hpp ⟨h3,h2,I.own i _ p e rfl h1,h4,λ j sl e' o z=>?_⟩⟩
  by_cases hj:i=j
  ·subst hj
   rw[List.getElem?_set] at e'
   split at e'
   ·split at e' <;> cases e'
   ·rename_i hh;exact absurd rfl hh
  ·rw[List.getElem?_set_ne hj] at e'
   exact hj (I.dis i j _ sl p e e' rfl o h1 z)
 ·exact q.elim
theorem z51 (hsl:sl.all (λ i=>decide (i≠jd))=true) (hp:PassesOwn (model X.prog X.w) X.A X.env X.xe) (hc:X.calm=true) (hi:PI X tg iter (iV X.K B fi)) (hg:PG X tg (gV X.K B sl gt)) (hb:PSs X body (dV X.K B jd f)) (hs:∀ x,foldedSetIterable iter X.env x=pure x:=by intro _;rfl):PS X (.For tg iter body [] pos) (dV X.K B jd (z26 fi gt f)):=(zm2 hp hc hi hg hb hs).imp λ D σ H ⟨Hf,ρ,pp,I,hpp,q⟩=>by
 unfold z26 at q
 cases e:fi ρ with
 | none=>rw[e] at q;exact q.elim
 | some ds =>
  rw[e] at q
  refine⟨Hf,ρ,ds,I,e,λ J Hf1 H1 ex1 ok=>?_⟩
  refine⟨λ i m σ H=>m=ds.length - i/\i<=ds.length/\At jd pp σ/\∃ Hf2 ρ2,VI X.K B Hf2 ρ2 σ H/\zar Hf1 Hf2/\zg6 X.K B jd pp Hf1 (zed gt f (ds.drop i) ρ2) D,⟨ds.length,by simp,Nat.zero_le _,hpp,Hf1,ρ,I.ext ex1,zar.refl _,zg6.mono q ex1.ff⟩,?_⟩
  rintro i m σ2 H2 ⟨rfl,hi,hp2,Hf2,ρ2,I2,s12,q⟩
  have okk:=ok Hf2 H2 (s12.trans I2.fh) s12 I2.fh i
  by_cases hlt:i<ds.length
  ·obtain ⟨go,yld⟩:=okk.1 ds[i] (by simp[hlt])
   refine .inr ⟨go,λ σ' H'=>At jd pp σ'/\∃ Hf3 ρ3,VI X.K B Hf3 ρ3 σ' H'/\zar Hf1 Hf3/\zg6 X.K B jd pp Hf1 (zed gt f (ds.drop (i+1)) ρ3) D,λ σ' H' z=>⟨ds.length - (i+1),by omega,rfl,hlt,z⟩,λ x H3 y=>?_⟩
   obtain ⟨Hf3,ex3,dx⟩:=yld x H3 y
   rw[List.drop_eq_getElem_cons hlt] at q
   unfold zed at q
   cases hg:gt ds[i] ρ2 with
   | none=>rw[hg] at q;exact q.elim
   | some ρ1 =>
    simp only[hg] at q
    refine⟨Hf3,ρ2,_,ρ1,I2.ext ex3,dx,hg,λ σ' I' _ eo=>⟨Hf3,ρ1,pp,I',hp2.off hsl eo,?_⟩⟩
    cases hf:f ρ1 with
    | nx ρ'=>simp only[hf] at q;exact λ Hf' σ'' H'' z I'' hp''=>⟨hp'',Hf',ρ',I'',(s12.trans ex3.ff).trans z,q⟩
    | rt d r=>simp only[hf] at q;exact λ Hf' σ'' H'' a xs z=>q Hf' σ'' H'' a xs ((s12.trans ex3.ff).trans z)
    | bad=>simp only[hf] at q;exact q.elim
  ·have e:i=ds.length:=by omega
   subst e
   rw[List.drop_length] at q
   exact .inl ⟨okk.2 (Nat.le_refl _),q Hf2 σ2 H2 s12 I2 hp2⟩
end
def rem (H:Hp) (p:Addr):Hp:=λ b=>if b=p then none else H b
theorem zvy {H:Hp}{p:Addr}:zar (rem H p) H:=λ b u h=>by
 unfold rem at h
 split at h
 ·cases h
 ·exact h
theorem zik {H:Hp}{p b:Addr} (h:b≠p):rem H p b=H b:=if_neg h
theorem z52 {H:Hp}{p:Addr}:rem H p p=none:=if_pos rfl
structure DicOk (K:PySem.W.Frag) (Hf H:Hp) (p:Addr) (ks:List (List Key)) (dvs:List D):Prop where
 f:Hf p=none
 ex:∃ kvs,H p=some (.dT kvs)/\kvs.map Prod.fst=ks/\Dns K Hf dvs (kvs.map Prod.snd)
def spD (K:PySem.W.Frag) (np jd:Nat) (F:List D->Option (List D×List (List Key)×List D)):Sp:=λ vs H Q _=>∃ Hf ds p ks dvs es ks' dvs',zar Hf H/\ds.length=np/\vs.length=np/\ds[jd]?=some (.dt ks dvs)/\vs[jd]?=some (.ref p)/\DicOk K Hf H p ks dvs/\(∀ (i:Nat) d v,i≠jd->ds[i]?=some d->vs[i]?=some v->Dn K Hf d v)/\F ds=some (es,ks',dvs') ∧
 ∀ Hf' H' q xs,Ex Hf (rem H p) Hf' H'->DicOk K Hf' H' p ks' dvs'->q≠p->H q=none->Hf' q=none->H' q=some (.lst xs)->Dns K Hf' es xs->Q (.ref q) H'
def fnD (np n jd:Nat) (f:Rho->OutD) (ds:List D):Option (List D×List (List Key)×List D):=if ds.length=np then (match ds[jd]? with
 | some (.dt ks dvs)=>(match f ((zez n ds).set jd (some (.dt ks dvs))) with
  | .rt es ρ'=>(match ρ'[jd]? with|some (some (.dt ks' dvs'))=>some (es,ks',dvs')|_=>none)
  | _=>none)
 | _=>none) else none
theorem z1q {np n jd:Nat}{f:Rho->OutD}{ds:List D}{z:List D×List (List Key)×List D} (h:fnD np n jd f ds=some z):∃ ks dvs ρ',ds[jd]?=some (.dt ks dvs)/\f ((zez n ds).set jd (some (.dt ks dvs)))=.rt z.1 ρ'/\ρ'[jd]?=some (some (.dt z.2.1 z.2.2)):=by
 unfold fnD at h
 split at h
 ·split at h
  ·rename_i ks dvs e1
   split at h
   ·rename_i es ρ' e2
    split at h
    ·rename_i ks' dvs' e3
     cases h
     exact⟨ks,dvs,ρ',e1,e2,e3⟩
    ·cases h
   ·cases h
  ·cases h
 ·cases h
section
variable {P:Program}{w:World}{K:PySem.W.Frag}{mg:Str->Option Value}{base:Heap}
theorem okD {x qual:Str}{st:Stmt}{f:Addr}{fd:FuncData}{N ps:List Str}{k np nN jd:Nat}{fs:Rho->OutD}{F':List D->Option (List D×List (List Key)×List D)} (hF:F'=fnD np nN jd fs) (hp:ps.length=np) (hN:N.length=nN) (hn:np<=nN) (F:Fun K x qual st f fd) (S:FnScope N ps (zad st))
  (hbody:∀ (cdv:Value) (A:Around) (outer:List Env) (s:Shared) (H:Hp) (E:XK) (B:Bs),Room k (A.deeper (envOfC qual (zad st) s.heap.objs.size f cdv))->PSs (zp1 CX0 P w K mg base N qual (zad st) f cdv A outer s H E).nox (zb9 st) (dV K B jd fs)):FnOk P w K mg base CX0 (k+1) f fd ps (spD K np jd F'):=by
 subst hF hp hN
 refine F.ok S (λ vs H Q E h=>?_) (λ cdv A outer s H vs Q E hr h=>?_)
 ·obtain ⟨Hf,ds,p,ks,dvs,es,ks',dvs',_,h1,h2,_⟩:=h
  exact h2
 ·obtain ⟨Hf,ds,p,ks,dvs,es,ks',dvs',hs,h1,h2,h3,h4,h5,h6,h7,q⟩:=h
  obtain ⟨ks0,dvs0,ρ',g1,g2,g3⟩:=z1q h7
  rw[h3] at g1;cases g1
  have hjd:jd<ds.length:=(List.getElem?_eq_some_iff.mp h3).1
  have key:∀ {i:Nat} {sl:Sl},((zez N.length ds).set jd (some (.dt ks dvs)))[i]?=some (some sl)->(i=jd/\sl=.dt ks dvs)\/(i≠jd/\∃ d,ds[i]?=some d/\sl=.sh d):=λ {i sl} e=>by
   by_cases hj:jd=i
   ·subst hj
    rw[List.getElem?_set] at e
    split at e
    ·split at e
     ·cases e;exact .inl ⟨rfl,rfl⟩
     ·cases e
    ·rename_i hh;exact absurd rfl hh
   ·rw[List.getElem?_set_ne hj] at e
    refine .inr ⟨λ z=>hj z.symm,?_⟩
    unfold zez at e
    by_cases hi:i<ds.length
    ·rw[List.getElem?_append_left (by rw[List.length_map];exact hi),List.getElem?_map] at e
     cases hd:ds[i]? with
     | none=>rw[hd] at e;cases e
     | some d=>rw[hd] at e;cases e;exact⟨d,rfl,rfl⟩
    ·rw[List.getElem?_append_right (by rw[List.length_map];omega),List.getElem?_replicate] at e
     split at e <;> cases e
  have hst:∀ {i:Nat},i<ds.length->(zej N vs)[i]?=(vs[i]?).map some:=λ {i} hi=>by
   unfold zej
   rw[List.getElem?_append_left (by rw[List.length_map];omega),List.getElem?_map]
  have I:VI K ⟨Hf,rem H p⟩ Hf ((zez N.length ds).set jd (some (.dt ks dvs))) (zej N vs) H:=by
   refine⟨⟨zar.refl _,zvy,hs,λ b h=>.inl h,λ _ _ _ h=>h⟩,?_,λ i sl e=>?_,λ i sl a e o z=>?_,λ i j si sj a e1 e2 o1 o2 z1 z2=>?_⟩
   ·rw[List.length_set];unfold zez zej;rw[List.length_append,List.length_append,List.length_map,List.length_map,List.length_replicate,List.length_replicate];omega
   ·rcases key e with ⟨rfl,rfl⟩|⟨hne,d,hd,rfl⟩
    ·refine⟨.ref p,by rw[hst hjd,h4];rfl,?_⟩
     obtain ⟨kvs,y1,y2,y3⟩:=h5.ex
     exact⟨p,kvs,rfl,h5.f,y1,y2,y3⟩
    ·have hi:=(List.getElem?_eq_some_iff.mp hd).1
     have hv:vs[i]?=some vs[i]:=List.getElem?_eq_getElem (by omega)
     exact⟨vs[i],by rw[hst hi,hv];rfl,h6 i d _ hne hd hv⟩
   ·rcases key e with ⟨rfl,rfl⟩|⟨hne,d,hd,rfl⟩
    ·rw[hst hjd,h4] at z
     cases z
     exact z52
    ·cases o
   ·rcases key e1 with ⟨rfl,rfl⟩|⟨_,d,_,rfl⟩
    ·rcases key e2 with ⟨rfl,rfl⟩|⟨_,d,_,rfl⟩
     ·rfl
     ·cases o2
    ·cases o1
  refine⟨_,hbody cdv A outer s H E ⟨Hf,rem H p⟩ hr,Hf,_,p,I,by unfold At;rw[hst hjd,h4];rfl,?_⟩
  rw[g2]
  intro Hf' σ' H' a xs z I' hp' nl
  obtain ⟨v,y1,y2⟩:=I'.ok jd _ g3
  have hp':σ'[jd]?=some (some (.ref p)):=hp'
  rw[hp'] at y1
  cases y1
  obtain ⟨p',kvs',e1,f1,f2,f3,f4⟩:=y2
  cases e1
  have hap:a≠p:=λ z=>nl.ap jd _ g3 rfl (by rw[z];exact hp')
  exact q Hf' H' a xs I'.ex ⟨f1,kvs',f2,f3,f4⟩ hap (by have:=nl.bq;rw[show (Bs.mk Hf (rem H p)).h=rem H p from rfl,zik hap] at this;exact this) nl.fq nl.hq nl.dn
end
section
variable {K:PySem.W.Frag}{B:Bs}{Hf H Hf' H':Hp}{ρ:Rho}{σ:St}{i j:Nat}{p q:Addr}{ks ks':List (List Key)}{dvs dvs' ds:List D}{xs:List V}
theorem zbu {ρ:Rho}{x:Option Sl}{k:Nat}{sl:Sl} (e:(ρ.set j x)[k]?=some (some sl)):(k=j/\x=some sl/\j<ρ.length)\/(k≠j/\ρ[k]?=some (some sl)):=by
 by_cases hj:j=k
 ·subst hj
  rw[List.getElem?_set] at e
  split at e
  ·split at e
   ·rename_i hl;exact .inl ⟨rfl,Option.some.inj e,hl⟩
   ·cases e
  ·rename_i hh;exact absurd rfl hh
 ·rw[List.getElem?_set_ne hj] at e
  exact .inr ⟨λ z=>hj z.symm,e⟩
theorem zl1.rem {sl:Sl}{v:V} (h:zl1 K Hf H sl v) (hv:zd5 sl=true->v≠.ref p):zl1 K Hf (L2.rem H p) sl v:=by
 cases sl with
 | sh d=>exact h
 | ow ds=>obtain ⟨a,xs,rfl,n1,n2,n3⟩:=h;exact⟨a,xs,rfl,n1,by rw[zik (λ z=>hv rfl (by rw[z]))];exact n2,n3⟩
 | dk ks ds=>obtain ⟨a,xs,rfl,n1,n2,n3⟩:=h;exact⟨a,xs,rfl,n1,by rw[zik (λ z=>hv rfl (by rw[z]))];exact n2,n3⟩
 | dt ks ds=>obtain ⟨a,xs,rfl,n1,n2,n3⟩:=h;exact⟨a,xs,rfl,n1,by rw[zik (λ z=>hv rfl (by rw[z]))];exact n2,n3⟩
theorem VI.dic (I:VI K B Hf ρ σ H) (hj:ρ[j]?=some (some (.dt ks dvs))) (hp:σ[j]?=some (some (.ref p))) (ex:Ex Hf (L2.rem H p) Hf' H') (ok:DicOk K Hf' H' p ks' dvs'):VI K B Hf' (ρ.set j (some (.dt ks' dvs'))) σ H':=by
 have hB:B.h p=none:=I.own j _ p hj rfl hp
 have hfp:Hf p=none:=by
  obtain ⟨v,h1,a,kvs,e1,f1,_⟩:=I.ok j _ hj
  rw[hp] at h1;cases h1;cases e1;exact f1
 have nop:∀ (k:Nat) sl,k≠j->ρ[k]?=some (some sl)->zd5 sl=true->σ[k]?≠some (some (.ref p)):=λ k sl hk e o z=>hk (I.dis k j sl _ p e hj o rfl z hp)
 have I1:VI K B Hf (ρ.set j none) σ (L2.rem H p):=by
  refine⟨⟨I.ex.ff,λ b u h=>?_,λ b u h=>?_,I.ex.nw,I.ex.nf⟩,by rw[List.length_set];exact I.len,λ k sl e=>?_,λ k sl a e=>?_,λ k l sk sl a e1 e2=>?_⟩
  ·rw[zik (λ z=>by rw[z,hB] at h;cases h)];exact I.ex.hh b u h
  ·rw[zik (λ z=>by rw[z,hfp] at h;cases h)];exact I.fh b u h
  ·rcases zbu e with ⟨_,h,_⟩|⟨hk,e⟩
   ·cases h
   ·obtain ⟨v,h1,h2⟩:=I.ok k sl e
    exact⟨v,h1,h2.rem λ o z=>nop k sl hk e o (by rw[h1,z])⟩
  ·rcases zbu e with ⟨_,h,_⟩|⟨hk,e⟩
   ·cases h
   ·exact I.own k sl a e
  ·rcases zbu e1 with ⟨_,h,_⟩|⟨_,e1⟩
   ·cases h
   ·rcases zbu e2 with ⟨_,h,_⟩|⟨_,e2⟩
    ·cases h
    ·exact I.dis k l sk sl a e1 e2
 have I2:=I1.ext ex
 have back:∀ {k:Nat} {sl:Sl},k≠j->ρ[k]?=some (some sl)->(ρ.set j none)[k]?=some (some sl):=λ {k sl} hk e=>by rw[List.getElem?_set_ne (Ne.symm hk)];exact e
 refine⟨I2.ex,by rw[List.length_set];exact I.len,λ k sl e=>?_,λ k sl a e o z=>?_,λ k l sk sl a e1 e2 o1 o2 z1 z2=>?_⟩
 ·rcases zbu e with ⟨rfl,h,_⟩|⟨hk,e⟩
  ·cases h
   obtain ⟨kvs,f2,f3,f4⟩:=ok.ex
   exact⟨.ref p,hp,p,kvs,rfl,ok.f,f2,f3,f4⟩
  ·exact I2.ok k sl (back hk e)
 ·rcases zbu e with ⟨rfl,h,_⟩|⟨hk,e⟩
  ·rw[hp] at z;cases z;exact hB
  ·exact I.own k sl a e o z
 ·rcases zbu e1 with ⟨rfl,h1,_⟩|⟨hk,d1⟩
  ·rcases zbu e2 with ⟨rfl,h2,_⟩|⟨hl,d2⟩
   ·rfl
   ·rw[hp] at z1;cases z1
    exact absurd z2 (nop l sl hl d2 o2)
  ·rcases zbu e2 with ⟨rfl,h2,_⟩|⟨hl,d2⟩
   ·rw[hp] at z2;cases z2
    exact absurd z1 (nop k sk hk d1 o1)
   ·exact I.dis k l sk sl a d1 d2 o1 o2 z1 z2
theorem VI.setN (I:VI K B Hf ρ σ H) (bq:B.h q=none) (fq:Hf q=none) (hq:H q=some (.lst xs)) (dn:Dns K Hf ds xs) (ap:∀ (k:Nat) sl,ρ[k]?=some (some sl)->zd5 sl=true->σ[k]?≠some (some (.ref q))):VI K B Hf (ρ.set i (some (.ow ds))) (σ.set i (some (.ref q))) H:=by
 have hs:∀ {k:Nat} {x:V},k≠i->(σ.set i (some (.ref q)))[k]?=some (some x)->σ[k]?=some (some x):=λ {k x} hk z=>by rw[List.getElem?_set_ne (Ne.symm hk)] at z;exact z
 have hsi:i<ρ.length->(σ.set i (some (.ref q)))[i]?=some (some (.ref q)):=λ hl=>by rw[List.getElem?_set_self (by rw[<-I.len];exact hl)]
 refine⟨I.ex,by rw[List.length_set,List.length_set];exact I.len,λ k sl e=>?_,λ k sl a e o z=>?_,λ k l sk sl a e1 e2 o1 o2 z1 z2=>?_⟩
 ·rcases zbu e with ⟨rfl,h,hl⟩|⟨hk,e⟩
  ·cases h
   exact⟨.ref q,hsi hl,q,xs,rfl,fq,hq,dn⟩
  ·obtain ⟨v,h1,h2⟩:=I.ok k sl e
   exact⟨v,by rw[List.getElem?_set_ne (Ne.symm hk)];exact h1,h2⟩
 ·rcases zbu e with ⟨rfl,h,hl⟩|⟨hk,e⟩
  ·rw[hsi hl] at z;cases z;exact bq
  ·exact I.own k sl a e o (hs hk z)
 ·rcases zbu e1 with ⟨rfl,h1,hl1⟩|⟨hk,d1⟩
  ·rcases zbu e2 with ⟨rfl,h2,_⟩|⟨hl,d2⟩
   ·rfl
   ·rw[hsi hl1] at z1;cases z1
    exact absurd (hs hl z2) (ap l sl d2 o2)
  ·rcases zbu e2 with ⟨rfl,h2,hl2⟩|⟨hl,d2⟩
   ·rw[hsi hl2] at z2;cases z2
    exact absurd (hs hk z1) (ap k sk d1 o1)
   ·exact I.dis k l sk sl a d1 d2 o1 o2 (hs hk z1) (hs hl z2)
end
def RM (K:PySem.W.Frag) (Hf:Hp) (p:Addr) (x:Bool×D) (v:V):Prop:=match x.1 with|true=>v=.ref p|false=>Dn K Hf x.2 v
def aMx (K:PySem.W.Frag) (B:Bs) (j:Nat) (fr:Rho->Option (List (Bool×D))):TA:=λ σ H R=>∃ Hf ρ xs p,VI K B Hf ρ σ H/\σ[j]?=some (some (.ref p))/\fr ρ=some xs/\∀ Hf' H' vs,Ex Hf H Hf' H'->Paired (RM K Hf' p) xs vs->R vs H'
def mN:Rho->Option (List (Bool×D)):=λ _=>some []
def mV (f:Rho->Option D) (fr:Rho->Option (List (Bool×D))):Rho->Option (List (Bool×D)):=λ ρ=>(f ρ).bind λ d=>(fr ρ).map ((false,d)::·)
def mD (j:Nat) (fr:Rho->Option (List (Bool×D))):Rho->Option (List (Bool×D)):=λ ρ=>match ρ[j]? with|some (some (.dt ks dvs))=>(fr ρ).map ((true,.dt ks dvs)::·)|_=>none
def MOk (j:Nat) (fr:Rho->Option (List (Bool×D))):Prop:=∀ ρ xs,fr ρ=some xs->∀ d,(true,d)∈xs->∃ ks dvs,ρ[j]?=some (some (.dt ks dvs))/\d=.dt ks dvs
theorem zsc {j:Nat}:MOk j mN:=λ ρ xs e d h=>by cases e;cases h
theorem zg7 {j:Nat}{f:Rho->Option D}{fr:Rho->Option (List (Bool×D))} (h:MOk j fr):MOk j (mV f fr):=λ ρ xs e d hd=>by
 unfold mV at e
 obtain ⟨a,h1,e⟩:=bind_some e
 cases h2:fr ρ with
 | none=>rw[h2] at e;cases e
 | some ys =>
  rw[h2] at e
  cases e
  rcases List.mem_cons.mp hd with z|z
  ·cases z
  ·exact h ρ ys h2 d z
theorem zsd {j:Nat}{fr:Rho->Option (List (Bool×D))} (h:MOk j fr):MOk j (mD j fr):=λ ρ xs e d hd=>by
 unfold mD at e
 split at e
 ·rename_i ks dvs hj
  cases h2:fr ρ with
  | none=>rw[h2] at e;cases e
  | some ys =>
   rw[h2] at e
   cases e
   rcases List.mem_cons.mp hd with z|z
   ·cases z;exact⟨ks,dvs,hj,rfl⟩
   ·exact h ρ ys h2 d z
 ·cases e
section
variable {X:Cx}{B:Bs}{j:Nat}{e:Expr}{es:List Expr}{f:Rho->Option D}{fr:Rho->Option (List (Bool×D))}
theorem z53:PA X [] (aMx X.K B j mN):=zee.imp λ σ H R ⟨Hf,ρ,xs,p,I,hp,e,q⟩=>by cases e;exact q Hf H [] (Ex.refl I.fh) .nil
theorem zse (he:PE X e (eV X.K B f)) (hr:PA X es (aMx X.K B j fr)) (hs:starEach (e::es) X.env=(false,eval e X.env)::starEach es X.env:=by rfl):PA X (e::es) (aMx X.K B j (mV f fr)):=(zch he hr hs).imp λ σ H R ⟨Hf,ρ,xs,p,I,hp,e,q⟩=>by
 unfold mV at e
 obtain ⟨d,h1,e⟩:=bind_some e
 cases h2:fr ρ with
 | none=>rw[h2] at e;cases e
 | some ys =>
  rw[h2] at e
  cases e
  exact⟨Hf,ρ,d,I,h1,λ Hf1 H1 v ex1 dv=>⟨Hf1,ρ,ys,p,I.ext ex1,hp,h2,λ Hf2 H2 vs ex2 pr=>q Hf2 H2 (v::vs) (ex1.trans ex2) (.cons (show RM X.K Hf2 p (false,d) v from Dn.same dv ex2.ff) pr)⟩⟩
theorem z54 {x:Str}{p0:Pos} (hN:X.N[j]?=some x) (hr:PA X es (aMx X.K B j fr)) (hv:Vis X.env.scope x:=by first|exact Or.inl rfl|exact Or.inr (Or.inl rfl)|exact Or.inr (Or.inr rfl)) (hd:(x == ("__debug__" : Str))=false:=by decide) (hcd:(x == ("__classdict__" : Str))=false:=by decide) (hs:starEach (.Name x p0::es) X.env=(false,eval (.Name x p0) X.env)::starEach es X.env:=by rfl):PA X (.Name x p0::es) (aMx X.K B j (mD j fr)):=(zch (zcc hN hv hd hcd) hr hs).imp λ σ H R ⟨Hf,ρ,xs,p,I,hp,e,q⟩=>by
 unfold mD at e
 split at e
 ·rename_i ks dvs hj
  cases h2:fr ρ with
  | none=>rw[h2] at e;cases e
  | some ys =>
   rw[h2] at e
   cases e
   exact⟨.ref p,hp,Hf,ρ,ys,p,I,hp,h2,λ Hf2 H2 vs ex2 pr=>q Hf2 H2 (.ref p::vs) ex2 (.cons (show RM X.K Hf2 p (true,D.dt ks dvs) (.ref p) from rfl) pr)⟩
 ·cases e
end
def ze3 (i j np jd:Nat) (F:List D->Option (List D×List (List Key)×List D)) (fr:Rho->Option (List (Bool×D))):Rho->Out:=λ ρ=>match fr ρ with
 | some xs=>if xs.map Prod.fst=(List.range np).map (λ i=>decide (i=jd))/\jd<np then (match F (xs.map Prod.snd) with|some z=>.nx ((ρ.set j (some (.dt z.2.1 z.2.2))).set i (some (.ow z.1)))|none=>.bad) else .bad
 | none=>.bad
theorem zil {i j np jd:Nat}{F:List D->Option (List D×List (List Key)×List D)}{fr:Rho->Option (List (Bool×D))}{ρ:Rho}:(∃ xs z,fr ρ=some xs/\xs.map Prod.fst=(List.range np).map (λ i=>decide (i=jd))/\jd<np/\F (xs.map Prod.snd)=some z/\ze3 i j np jd F fr ρ=.nx ((ρ.set j (some (.dt z.2.1 z.2.2))).set i (some (.ow z.1))))\/ze3 i j np jd F fr ρ=.bad:=by
 unfold ze3
 split
 ·rename_i xs e
  split
  ·rename_i hc
   split
   ·rename_i z hz
    exact .inl ⟨xs,z,e,hc.1,hc.2,hz,rfl⟩
   ·exact .inr rfl
  ·exact .inr rfl
 ·exact .inr rfl
section
variable {X:Cx}{B:Bs}{i j:Nat}{k np jd:Nat}{f:Addr}{fd:FuncData}{ps:List Str}{F:List D->Option (List D×List (List Key)×List D)}{fr:Rho->Option (List (Bool×D))}{e:Expr}{es:List Expr}{pos cp p1:Pos}
theorem zk7 {Q:VK}{σ:St}{H:Hp}{E:XK} (hmo:MOk j fr) {Hf:Hp}{ρ:Rho} (I:VI X.K B Hf ρ σ H) {xs:List (Bool×D)}{z:List D×List (List Key)×List D} (hfr:fr ρ=some xs) (hfl:xs.map Prod.fst=(List.range np).map (λ i=>decide (i=jd))) (hjn:jd<np) (hF:F (xs.map Prod.snd)=some z)
  (q:∀ Hf' H' a ys p,σ[j]?=some (some (.ref p))->zar Hf Hf'->VI X.K B Hf' (ρ.set j (some (.dt z.2.1 z.2.2))) σ H'->B.h a=none->Hf' a=none->H' a=some (.lst ys)->Dns X.K Hf' z.1 ys->(∀ (k:Nat) sl,(ρ.set j (some (.dt z.2.1 z.2.2)))[k]?=some (some sl)->zd5 sl=true->σ[k]?≠some (some (.ref a)))->Q (.ref a) H') :
  aMx X.K B j fr σ H λ vs H1=>spD X.K np jd F (vs++[]) H1 Q E:=by
 have hxl:xs.length=np:=by have:=congrArg List.length hfl;rw[List.length_map,List.length_map,List.length_range] at this;exact this
 have hflag:∀ {n:Nat} {x:Bool×D},xs[n]?=some x->x.1=decide (n=jd):=λ {n x} hx=>by
  have h1:(xs.map Prod.fst)[n]?=some x.1:=by rw[List.getElem?_map,hx];rfl
  have hn:n<np:=by rw[<-hxl];exact (List.getElem?_eq_some_iff.mp hx).1
  rw[hfl,List.getElem?_map,List.getElem?_range hn] at h1
  exact (Option.some.inj h1).symm
 have hx0:xs[jd]?=some xs[jd]:=List.getElem?_eq_getElem (by omega)
 have hf0:xs[jd].1=true:=by rw[hflag hx0];exact decide_eq_true rfl
 obtain ⟨ks,dvs,hj,hd⟩:=hmo ρ xs hfr xs[jd].2 (by
  have:=List.mem_of_getElem? hx0
  rw[show xs[jd]=(true,xs[jd].2) from Prod.ext hf0 rfl] at this
  exact this)
 obtain ⟨v,hv,p,kvs,e1,f1,f2,f3,f4⟩:=I.ok j _ hj
 subst e1
 refine⟨Hf,ρ,xs,p,I,hv,hfr,λ Hf1 H1 vs ex1 pr=>?_⟩
 have I1:=I.ext ex1
 obtain ⟨v1,hv1,p1,kvs1,g0,g1,g2,g3,g4⟩:=I1.ok j _ hj
 subst g0
 rw[hv] at hv1
 cases hv1
 have hvl:vs.length=np:=by rw[<-pr.length];exact hxl
 show spD X.K np jd F (vs++[]) H1 Q E
 rw[List.append_nil]
 refine⟨Hf1,xs.map Prod.snd,p,ks,dvs,z.1,z.2.1,z.2.2,ex1.fh,by rw[List.length_map];exact hxl,hvl,by rw[List.getElem?_map,hx0];exact congrArg some hd,?_,⟨g1,kvs1,g2,g3,g4⟩,λ n d v hn hd' hv'=>?_,hF,λ Hf2 H2 a ys ex2 ok2 hap ha1 ha2 ha3 dn=>?_⟩
 ·obtain ⟨y,hy,hr⟩:=pr.zget hx0
  have hr:(match xs[jd].1 with|true=>y=V.ref p|false=>Dn X.K Hf1 xs[jd].2 y):=hr
  rw[hf0] at hr
  rw[hy,hr]
 ·rw[List.getElem?_map] at hd'
  cases hx:xs[n]? with
  | none=>rw[hx] at hd';cases hd'
  | some x =>
   rw[hx] at hd'
   cases hd'
   obtain ⟨y,hy,hr⟩:=pr.zget hx
   rw[hv'] at hy
   cases hy
   have hr:(match x.1 with|true=>v=V.ref p|false=>Dn X.K Hf1 x.2 v):=hr
   rw[hflag hx,decide_eq_false hn] at hr
   exact hr
 ·have I2:=I1.dic hj hv ex2 ok2
  have hB:B.h a=none:=I1.ex.hh.free ha1
  refine q Hf2 H2 a ys p hv (ex1.ff.trans ex2.ff) I2 hB ha2 ha3 dn λ k sl e o zz=>?_
  rcases zbu e with ⟨rfl,_,_⟩|⟨hk,e⟩
  ·rw[hv] at zz;cases zz;exact hap rfl
  ·obtain ⟨v,w1,w2⟩:=I1.ok k sl e
   rw[zz] at w1
   cases w1
   cases sl with
   | sh d=>cases o
   | ow ds=>obtain ⟨p',xs',e1,_,h3,_⟩:=w2;cases e1;rw[ha1] at h3;cases h3
   | dk ks ds=>obtain ⟨p',xs',e1,_,h3,_⟩:=w2;cases e1;rw[ha1] at h3;cases h3
   | dt ks ds=>obtain ⟨p',xs',e1,_,h3,_⟩:=w2;cases e1;rw[ha1] at h3;cases h3
theorem z1r {x fx:Str}{pos':Pos} (hmo:MOk j fr) (G:FnOk X.prog X.w X.K X.mg X.base CX0 k f fd ps (spD X.K np jd F)) (hr:Room k X.A) (hg:Gl X fx) (hm:X.mg fx=some (.ref f)) (hk:PySem.W.keepIn X.K (.ref f)=true) (hb:zdo X.K fd ps [])
  (hN:X.N.Nodup) (hi:X.N[i]?=some x) (hx:Loc X.env.scope x) (ha:PA X (e::es) (aMx X.K B j fr)) (hdb:(fx == ("__debug__" : Str))=false:=by decide) (he:starEach (e::es) X.env=(false,eval e X.env)::starEach es X.env:=by rfl) (hpl:(backTo cp (starEach es X.env)).any (·.1)=false:=by rfl)
  (hs:swapsWith (.Call (.Name fx p1) (e::es) [] cp) (some (.Name x pos')) pos.line X.env=pure false:=by rfl) (hf:X.fn x=true\/X.env.scope.names.lookup x=some .local:=by first|exact .inl rfl|exact .inr rfl|assumption) :
  PS X (.Assign [.Name x pos'] (.Call (.Name fx p1) (e::es) [] cp) pos) (sV X.K B (ze3 i j np jd F fr)) :=
 (zdr hN hi hx (zgi G hr hg hm hk hb .nil zqb ha hdb he hpl) hs hf).imp λ D σ H ⟨Hf,ρ,I,q⟩=>by
  rcases zil (i:=i) (j:=j) (np:=np) (jd:=jd) (F:=F) (fr:=fr) (ρ:=ρ) with ⟨xs,z,h1,h2,h3,h4,h5⟩|h5
  ·rw[h5] at q
   exact zk7 (X:=X) (B:=B) (Q:=λ v H'=>D.nx (σ.set i (some v)) H') hmo I h1 h2 h3 h4 λ Hf' H' a ys p _ s I' b1 b2 b3 b4 b5=>q Hf' _ H' s (I'.setN b1 b2 b3 b4 b5)
  ·rw[h5] at q;exact q.elim
theorem z1s {x fx:Str}{pos':Pos} (hij:i≠j) (hmo:MOk j fr) (G:FnOk X.prog X.w X.K X.mg X.base CX0 k f fd ps (spD X.K np jd F)) (hr:Room k X.A) (hg:Gl X fx) (hm:X.mg fx=some (.ref f)) (hk:PySem.W.keepIn X.K (.ref f)=true) (hb:zdo X.K fd ps [])
  (hN:X.N.Nodup) (hi:X.N[i]?=some x) (hx:Loc X.env.scope x) (ha:PA X (e::es) (aMx X.K B j fr)) (hdb:(fx == ("__debug__" : Str))=false:=by decide) (he:starEach (e::es) X.env=(false,eval e X.env)::starEach es X.env:=by rfl) (hpl:(backTo cp (starEach es X.env)).any (·.1)=false:=by rfl)
  (hs:swapsWith (.Call (.Name fx p1) (e::es) [] cp) (some (.Name x pos')) pos.line X.env=pure false:=by rfl) (hf:X.fn x=true\/X.env.scope.names.lookup x=some .local:=by first|exact .inl rfl|exact .inr rfl|assumption) :
  PS X (.Assign [.Name x pos'] (.Call (.Name fx p1) (e::es) [] cp) pos) (dV X.K B j (dL (ze3 i j np jd F fr))) :=
 (zdr hN hi hx (zgi G hr hg hm hk hb .nil zqb ha hdb he hpl) hs hf).imp λ D σ H ⟨Hf,ρ,pp,I,hpp,q⟩=>by
  have q:=z1o q
  rcases zil (i:=i) (j:=j) (np:=np) (jd:=jd) (F:=F) (fr:=fr) (ρ:=ρ) with ⟨xs,z,h1,h2,h3,h4,h5⟩|h5
  ·rw[h5] at q
   exact zk7 (X:=X) (B:=B) (Q:=λ v H'=>D.nx (σ.set i (some v)) H') hmo I h1 h2 h3 h4 λ Hf' H' a ys p _ s I' b1 b2 b3 b4 b5=>q Hf' _ H' s (I'.setN b1 b2 b3 b4 b5) (hpp.set hij)
  ·rw[h5] at q;exact q.elim
end
def z55 (i:Nat):Rho->Out:=λ ρ=>match ρ[i]? with|some (some (.ow _))=>.nx (ρ.set i (some (.ow [])))|_=>.bad
section
variable {X:Cx}{B:Bs}{pos:Pos}
theorem z1t {i:Nat}{x:Str}{p1 p2 p3:Pos} (hN:X.N[i]?=some x) (hv:Vis X.env.scope x:=by first|exact Or.inl rfl|exact Or.inr (Or.inl rfl)|exact Or.inr (Or.inr rfl)) (hd:(x == ("__debug__" : Str))=false:=by decide) (hcd:(x == ("__classdict__" : Str))=false:=by decide)
  (hbase:attributeBase (.Name x p1) "clear" X.env (eval (.Name x p1) X.env)=eval (.Name x p1) X.env:=by rfl) (hline:(p2.endLine == p3.line)=true:=by rfl) (hsw:swapsWith (.Call (.Attribute (.Name x p1) "clear" p2) [] [] p3) none pos.line X.env=pure false:=by rfl) :
  PS X (.Expr (.Call (.Attribute (.Name x p1) "clear" p2) [] [] p3) pos) (sV X.K B (z55 i)) :=
 (zfh (zxc PySem.F.plainAttrs_list PySem.F.slot_list_clear PySem.F.type_list_clear zuk (zcc hN hv hd hcd) hbase hline) hsw).imp λ D σ H ⟨Hf,ρ,I,q⟩=>by
  unfold z55 at q
  split at q
  ·rename_i ds e
   obtain ⟨v,h1,p,xs,rfl,h2,h3,h4⟩:=I.ok i _ e
   exact⟨_,h1,.inl ⟨rfl,xs,SqL.of h3⟩,p,xs,rfl,rfl,h3,q Hf σ _ (zar.refl _) (I.mut e h1 .nil)⟩
  ·exact q.elim
def yc6:R2:=λ x y H Q=>∃ a b,x=.ref a/\y=.ref b/\H a=some (.dT [])/\H b=some (.dT [])/\Q (.bl true) H
theorem znv {P:Program}{w:World}{H:Hp}{h:Heap}{a:Addr} (x:zbb P w H h a (.dT [])):(a == sysModules)=false/\h.DictOf (zbg P w) a []:=by
 obtain ⟨_,lo,xs,rel,o,es,ep,g1,g2,g3,g4,g5⟩:=x
 cases rel
 have he:es=#[]:=by
  have:es.toList=[]:=g4
  cases es;simp at this;rw[this]
 subst he
 exact⟨lo,o,#[],ep,g1,g2,g3,λ e h=>by simp at h,.nil,List.nodup_nil⟩
theorem z56 {n:Nat} (hr:Room n X.A):OpR X (compareOp .Eq) yc6:=by
 intro pins s σ H x y v u Q I rx ry h
 obtain ⟨a,b,rfl,rfl,ha,hb,q⟩:=h
 cases rx
 cases ry
 obtain ⟨z1,d1⟩:=znv (show zbb X.prog X.w H s.heap a (.dT []) from I.hok a _ ha)
 obtain ⟨z2,d2⟩:=znv (show zbb X.prog X.w H s.heap b (.dT []) from I.hok b _ hb)
 exact PySem.W.keq_eq z1 z2 d1 d2 (by have:=hr.units;omega) (λ _=>.nil) ⟨.bl true,H,I,rfl,q⟩
def z57 (j:Nat):Rho->Option Bool:=λ ρ=>match ρ[j]? with|some (some (.dt [] _))=>some true|_=>none
theorem yak {n j:Nat}{x:Str}{p1 p2:Pos} (hr:Room n X.A) (hN:X.N[j]?=some x) (hv:Vis X.env.scope x:=by first|exact Or.inl rfl|exact Or.inr (Or.inl rfl)|exact Or.inr (Or.inr rfl)) (hd:(x == ("__debug__" : Str))=false:=by decide) (hcd:(x == ("__classdict__" : Str))=false:=by decide) (hm:behindInMarks .Eq (.Dict [] [] p2)=false:=by rfl) :
  PT X (.Compare (.Name x p1) [.Eq] [.Dict [] [] p2] pos) (tV X.K B (z57 j)) :=
 (zy9 (z56 hr) (zcc hN hv hd hcd) zi1 hm).imp λ σ H Q ⟨Hf,ρ,b,I,e,q⟩=>by
  unfold z57 at e
  split at e
  ·rename_i dvs hj
   cases e
   obtain ⟨v,h1,p,kvs,rfl,f1,f2,f3,f4⟩:=I.ok j _ hj
   have hk:kvs=[]:=List.map_eq_nil_iff.mp f3
   subst hk
   refine⟨.ref p,h1,λ a ha=>⟨p,a,rfl,rfl,?_,zac,true,rfl,q Hf _ (Ex.made I.fh ha)⟩⟩
   rw[zaf (λ z=>by rw[z,ha] at f2;cases f2)];exact f2
  ·cases e
end
def ixD (e:D):List D->Nat->Option Nat
 | [],_=>none
 | d::r,n=>if deq d e=true then some n else ixD e r (n+1)
theorem znw {e:D}:∀ {ds:List D}{n j:Nat},ixD e ds n=some j->n<=j/\(∃ d,ds[j - n]?=some d/\deq d e=true)/\∀ m d,m<j - n->ds[m]?=some d->deq d e=false
 | [],n,j,h=>by cases h
 | d::r,n,j,h=>by
  unfold ixD at h
  split at h
  ·rename_i hd
   cases h
   exact⟨Nat.le_refl _,⟨d,by rw[Nat.sub_self];rfl,hd⟩,λ m d' hm=>by omega⟩
  ·rename_i hd
   obtain ⟨h1,⟨d1,h2,h3⟩,h4⟩:=znw h
   refine⟨by omega,⟨d1,?_,h3⟩,λ m d' hm hd'=>?_⟩
   ·rw[show j - n=(j - (n+1))+1 by omega,List.getElem?_cons_succ];exact h2
   ·cases m with
    | zero=>cases hd';exact Bool.eq_false_iff.mpr hd
    | succ m=>rw[List.getElem?_cons_succ] at hd';exact h4 m d' (by omega) hd'
def yby (K:PySem.W.Frag) (k:Nat):V->List V->Hp->VK->Prop:=λ x vs H Q=>∃ p xs ds e y j,x=.ref p/\vs=[y]/\SqL K H p xs/\Den K H k e y/\Paired (Den K H k) ds xs/\(∃ d,ds[j]?=some d/\eqD k d e=true)/\(∀ m d,m<j->ds[m]?=some d->eqD k d e=false)/\Q (.int ((j:Nat):Int)) H
section
variable {X:Cx}{B:Bs}
theorem zdy {α β:Type}{F:α->β->Prop}:∀ {l:List α}{r:List β},Paired F l r->∀ {j:Nat}{a:α},l[j]?=some a->∃ b,r[j]?=some b/\F a b
 | _,_,.nil,j,a,e=>by simp at e
 | _,_,.cons p q,0,a,e=>by simp at e;subst e;exact⟨_,rfl,p⟩
 | _,_,.cons p q,j+1,a,e=>by
  rw[List.getElem?_cons_succ] at e
  obtain ⟨b,h1,h2⟩:=zdy q e
  exact⟨b,by rw[List.getElem?_cons_succ];exact h1,h2⟩
theorem z58 (k:Nat) {n:Nat} (hr:Room n X.A) (hk:k<=9):MtR X "list.index" (yby X.K k):=by
 intro pins s σ H x vs v us Q I rx rv h
 obtain ⟨p,xs,ds,e,y,j,rfl,rfl,hq,hy,hd,⟨d0,h1,h2⟩,h3,q⟩:=h
 cases rx
 obtain ⟨u,rfl,ru⟩:=rv.one
 obtain ⟨its,r,pl,hz⟩:=I.list hq
 have hp:=I.dens hd r
 have hv:=I.den hy ru
 have hu:=hr.units
 obtain ⟨w0,hw0,hx0⟩:=zdy hp h1
 have hj:j<its.length:=(List.getElem?_eq_some_iff.mp hw0).1
 have hl:its.length=xs.length:=r.length.symm
 have hsz:=zgg
 obtain ⟨⟨cls,dd,data,sl⟩,ho,hc,c,hdd⟩:=pl.isList
 simp only at hc hdd
 subst hc hdd
 refine call_meets PySem.F.slot_list_index ⟨_,ho,rfl⟩ PySem.F.entry_list_index (PySem.F.args_list_index_2 _ _) (SeqAt.list_indexAt p its.toArray c dd sl u (eqF s.heap k e) j (by simpa using hj) (by omega) ?_ λ m hm hmj=>?_) ⟨ho,λ w hw=>zh6 (A:=X.A.in1) hv (by show X.A.units+1+k<cLine;omega) hp w (by simpa using hw),.int ((j:Nat):Int),H,I.tok _,⟨_,rfl⟩,q⟩
 ·have e0:its.toArray[j]'(by simpa using hj)=w0:=by
   have:=List.getElem?_eq_getElem hj
   rw[this] at hw0
   simpa using hw0
  rw[e0,zm9 hx0];exact h2
 ·have hm':m<its.length:=by simpa using hm
  have hds:m<ds.length:=by rw[hp.length];exact hm'
  obtain ⟨w1,hw1,hx1⟩:=zdy hp (List.getElem?_eq_getElem hds)
  have e0:its.toArray[m]=w1:=by
   have:=List.getElem?_eq_getElem hm'
   rw[this] at hw1
   simpa using hw1
  rw[e0,zm9 hx1];exact h3 m _ hmj (List.getElem?_eq_getElem hds)
def z27 (d:D) (es:List D):Option D:=match d,es with
 | .lst ds,[e]=>if dOk LV e && ds.all (dOk LV) then (ixD e ds 0).map λ j=>.int ((j:Nat):Int) else none
 | _,_=>none
theorem z59 {K:PySem.W.Frag}:PM K "list" (yby K LV) z27:=by
 intro Hf H x xs d ds z Q s hd hds hz q
 unfold z27 at hz
 split at hz
 ·rename_i es e
  split at hz
  ·rename_i hk
   rw[Bool.and_eq_true] at hk
   cases hi:ixD e es 0 with
   | none=>rw[hi] at hz;cases hz
   | some j =>
    rw[hi] at hz
    cases hz
    obtain ⟨y,rfl,hy⟩:=zcd hds
    obtain ⟨p,ys,rfl,h1,h2⟩:=hd.lst s
    have hy:=(hy.whole s).at hk.1
    have h2:=(h2.same s).at hk.2
    obtain ⟨_,⟨d1,g1,g2⟩,g3⟩:=znw hi
    refine⟨p,ys,es,e,y,j,rfl,rfl,h1,hy,h2,⟨d1,g1,?_⟩,λ m d hm hd=>?_,q Hf H _ (.refl s) (zbh rfl)⟩
    ·obtain ⟨v,_,dv⟩:=zdy h2 g1
     rw[zfy dv hy];exact g2
    ·obtain ⟨v,_,dv⟩:=zdy h2 hd
     rw[zfy dv hy];exact g3 m d (by omega) hd
  ·cases hz
 ·cases hz
end
def zyd (K:PySem.W.Frag):R2:=λ x y H Q=>∃ t b xs zs,x=.ref t/\y=.ref b/\SqT K H t xs/\SqT K H b zs/\xs≠[]/\zs≠[]/\xs.length+zs.length<=sizeLine/\∀ p,H p=none->Q (.ref p) (upd H p (.tup (xs++zs)))
section
variable {X:Cx}
theorem znx:OpR X (binaryOp .Add) (zyd X.K):=by
 intro pins s σ H x y v u Q I rx ry h
 obtain ⟨t,b,xs,zs,rfl,rfl,ht,hb,n1,n2,hz,q⟩:=h
 cases rx
 cases ry
 obtain ⟨its,r,pl,_⟩:=I.tuple ht
 obtain ⟨its2,r2,pl2,_⟩:=I.tuple hb
 have l1:=r.length
 have l2:=r2.length
 have m1:its≠[]:=λ z=>n1 (List.eq_nil_of_length_eq_zero (by rw[l1,z];rfl))
 have m2:its2≠[]:=λ z=>n2 (List.eq_nil_of_length_eq_zero (by rw[l2,z];rfl))
 obtain ⟨⟨cls,dd,data,sl⟩,ho,hc,n,hd⟩:=id pl
 obtain ⟨⟨cls2,dd2,data2,sl2⟩,ho2,hc2,n2',hd2⟩:=id pl2
 simp only at hc hd hc2 hd2
 subst hc hd hc2 hd2
 refine concat_meets ⟨_,ho,rfl⟩ ⟨_,ho2,rfl⟩ noFill_tuple_add seq_tuple_add PySem.F.slot_tuple_add PySem.F.entry_tuple_add (PySem.F.args_tuple_add_2 _ _) (tuple_addW2 t b its.toArray its2.toArray n n2' dd dd2 sl sl2 (by simpa using m1) (by simpa using m2) (by simp;omega)) ⟨ho,ho2,?_⟩
 have ea:its.toArray++its2.toArray=(its++its2).toArray:=by simp
 rw[ea]
 exact⟨.ref _,_,I.laid (t':=s.toks) (λ b o e=>Heap.get?_push_of_some _ e) (Nat.le_refl _) (show zbb X.prog X.w _ _ _ (.tup (xs++zs)) from ⟨by rw[List.length_append];omega,its++its2,r.append r2,IsTup.new _ _⟩),rfl,q _ I.fresh⟩
end
def zsf (d e:D):Option D:=match d,e with
 | .tup ds,.tup es=>if 0<ds.length/\0<es.length/\ds.length+es.length<=sizeLine then some (.tup (ds++es)) else none
 | _,_=>none
theorem zsg {K:PySem.W.Frag}:P2 K (zyd K) zsf:=by
 intro Hf H x y d e z Q s hd he hz q
 unfold zsf at hz
 split at hz
 ·split at hz
  ·rename_i ds es hk
   cases hz
   obtain ⟨a,xs,rfl,h1,h2⟩:=hd.tupU
   obtain ⟨b,ys,rfl,h3,h4⟩:=he.tupU
   have h1:Hf a=some (.tup xs):=h1
   have h3:Hf b=some (.tup ys):=h3
   have l1:=h2.length
   have l2:=h4.length
   refine⟨a,b,xs,ys,rfl,rfl,SqT.of (s _ _ h1),SqT.of (s _ _ h3),λ z=>?_,λ z=>?_,by omega,λ p hp=>q (upd Hf p (.tup (xs++ys))) _ _ (Ex.new s hp) (zgr (SqU.of zac) ((show Dns K Hf (ds++es) (xs++ys) from h2.zapp h4).same (zaq (s.free hp))))⟩
   ·subst z;rw[l1] at hk;exact absurd hk.1 (by simp)
   ·subst z;rw[l2] at hk;exact absurd hk.2.1 (by simp)
  ·cases hz
 ·cases hz
end L2
namespace L2
open PySem
theorem zml {fa fb:Rho->Option Bool}{ρ:Rho}{a b:Bool} (h:fa ρ=some a) (h2:a=true->fb ρ=some b):zdj fa fb ρ=some (a && b):=by
 cases a with
 | false=>exact ze0 h
 | true=>exact zdv h (h2 rfl)
theorem z6a {fa fb:Rho->Option Bool}{ρ:Rho}{a b:Bool} (h:fa ρ=some a) (h2:a=false->fb ρ=some b):bOr fa fb ρ=some (a || b):=by
 cases a with
 | false=>exact zhs h (h2 rfl)
 | true=>exact z5b h
theorem zcm {g:D->Rho->Option Rho}{f:Rho->Out}{x:D}{r:List D}{ρ ρ1 ρ2:Rho} (h1:g x ρ=some ρ1) (h2:f ρ1=.nx ρ2):zid g f (x::r) ρ=zid g f r ρ2:=by
 rw[zid,h1];dsimp only;rw[h2]
theorem zjk {g:D->Option D}{fa:Rho->Option D}{ρ:Rho}{d z:D} (ha:fa ρ=some d) (hg:g d=some z):e1 g fa ρ=some z:=by unfold e1;rw[ha];exact hg
theorem ze4 {i:Nat}{fe:Rho->Option D}{ρ:Rho}{ds:List D}{d:D} (h0:ρ[i]?=some (some (.ow ds))) (h1:fe ρ=some d) (h2:ds.length<=100000):zfo i fe ρ=.nx (ρ.set i (some (.ow (ds++[d])))):=by
 unfold zfo
 rw[h0]
 dsimp only
 rw[h1]
 dsimp only
 rw[if_pos (szl h2)]
theorem zg8 {g:D->Rho->Option Rho}{fe:Rho->Option D}{ρ ρ1:Rho}{d:D} (h:fe ρ=some d) (h2:g d ρ=some ρ1):zja g fe ρ=.nx ρ1:=by unfold zja;rw[h];simp only[Option.bind_some,h2]
theorem zsh {l:List Int}:zb7 [.lst (l.map D.int)]=some (.int l.length):=by unfold zb7;dsimp only;rw[List.length_map]
def dAt (l:List Int) (i:Nat):Int:=l.getD i 0
theorem zye {l:List Int}{i:Nat} (h:i<l.length):gIx (.lst (l.map D.int)) (.int (i:Nat))=some (.int (dAt l i)):=by
 refine zir ?_
 rw[List.getElem?_map]
 simp[dAt,h]
theorem zsi {i:Int}:zf4 (.int i)=some (.int (-i)):=rfl
theorem z6b {l:List Int}{a b:Nat} (h:a<=b):gSl (.lst (l.map D.int)) (some (a:Int)) (some (b:Int))=some (.lst (((l.drop a).take (b - a)).map D.int)):=by
 unfold gSl
 dsimp only
 rw[zrq,zrp _ _ _ h]
structure TotD (C:D->Prop):Prop where
 eq:∀ a b,C a->C b->(deq a b=true↔a=b)
 ok:∀ a b,C a->C b->zb8 a b=true
 tr:∀ a b c,C a->C b->C c->dlt a b=true->dlt b c=true->dlt a c=true
 tot:∀ a b,C a->C b->a=b\/dlt a b=true\/dlt b a=true
 as:∀ a b,C a->C b->dlt a b=true->dlt b a=false
theorem TotD.irr {C:D->Prop} (T:TotD C) {a:D} (h:C a):dlt a a=false:=by
 cases e:dlt a a with
 | false=>rfl
 | true=>rw[T.as a a h h e] at e;cases e
def yal (d:D):Prop:=∃ i:Int,d=.int i
def CBl (d:D):Prop:=∃ b:Bool,d=.bl b
def yam (d:D):Prop:=∃ l:List Nat,d=.str l
theorem zjl (i j:Int):dlt (.int i) (.int j)=decide (i<j):=by rw[dlt];rfl
theorem zsj:TotD yal where
 eq:=λ a b ⟨i,x⟩ ⟨j,y⟩=>by subst x y;rw[zjf];simp
 ok:=λ a b ⟨i,x⟩ ⟨j,y⟩=>by subst x y;rw[zb8];rfl
 tr:=λ a b c ⟨i,x⟩ ⟨j,y⟩ ⟨k,z⟩ h1 h2=>by
  subst x y z
  rw[zjl] at *
  have:=of_decide_eq_true h1
  have:=of_decide_eq_true h2
  exact decide_eq_true (by omega)
 tot:=λ a b ⟨i,x⟩ ⟨j,y⟩=>by
  subst x y
  rw[zjl,zjl]
  rcases Int.lt_trichotomy i j with h|h|h
  ·exact .inr (.inl (decide_eq_true h))
  ·exact .inl (by rw[h])
  ·exact .inr (.inr (decide_eq_true h))
 as:=λ a b ⟨i,x⟩ ⟨j,y⟩ h=>by
  subst x y
  rw[zjl] at *
  have:=of_decide_eq_true h
  exact decide_eq_false (by omega)
theorem z76 (i j:Bool):dlt (.bl i) (.bl j)=(!i && j):=by rw[dlt];cases i <;> cases j <;> rfl
theorem zyf:TotD CBl where
 eq:=λ a b ⟨i,x⟩ ⟨j,y⟩=>by subst x y;rw[znk];cases i <;> cases j <;> simp
 ok:=λ a b ⟨i,x⟩ ⟨j,y⟩=>by subst x y;rw[zb8];rfl
 tr:=λ a b c ⟨i,x⟩ ⟨j,y⟩ ⟨k,z⟩ h1 h2=>by
  subst x y z
  rw[z76] at *
  cases i <;> cases j <;> cases k <;> simp_all
 tot:=λ a b ⟨i,x⟩ ⟨j,y⟩=>by
  subst x y
  rw[z76,z76]
  cases i <;> cases j <;> simp
 as:=λ a b ⟨i,x⟩ ⟨j,y⟩ h=>by
  subst x y
  rw[z76] at *
  cases i <;> cases j <;> simp_all
theorem z77 (l m:List Nat):dlt (.str l) (.str m)=decide (l<m):=by rw[dlt];rfl
theorem zsk {i j:List Nat} (h:D.str i=D.str j):i=j:=by
 have h2:S i=S j:=V.str.inj (D.sc.inj h)
 have h3:i.toArray=j.toArray:=Str.mk.inj h2
 simpa using h3
theorem zsl:TotD yam where
 eq:=λ a b ⟨i,x⟩ ⟨j,y⟩=>by subst x y;rw[zmg];exact⟨λ h=>by rw[of_decide_eq_true h],λ h=>decide_eq_true (zsk h)⟩
 ok:=λ a b ⟨i,x⟩ ⟨j,y⟩=>by subst x y;rw[zb8];rfl
 tr:=λ a b c ⟨i,x⟩ ⟨j,y⟩ ⟨k,z⟩ h1 h2=>by
  subst x y z
  rw[z77] at *
  exact decide_eq_true (List.lt_trans (of_decide_eq_true h1) (of_decide_eq_true h2))
 tot:=λ a b ⟨i,x⟩ ⟨j,y⟩=>by
  subst x y
  rw[z77,z77]
  by_cases h:i<j
  ·exact .inr (.inl (decide_eq_true h))
  ·by_cases h':j<i
   ·exact .inr (.inr (decide_eq_true h'))
   ·exact .inl (by rw[List.le_antisymm (List.not_lt.mp h') (List.not_lt.mp h)])
 as:=λ a b ⟨i,x⟩ ⟨j,y⟩ h=>by
  subst x y
  rw[z77] at *
  exact decide_eq_false (List.lt_asymm (of_decide_eq_true h))
def Fam (C:Nat->D->Prop):List D->Prop
 | []=>True
 | d::r=>C 0 d/\Fam (λ i=>C (i+1)) r
theorem zny:∀ {C:Nat->D->Prop},(∀ i,TotD (C i))->∀ as bs,Fam C as->Fam C bs->(zb1 as bs=true↔as=bs)
 | C,T,[],[],_,_=>by simp[zb1]
 | C,T,[],_::_,_,_=>by simp[zb1]
 | C,T,_::_,[],_,_=>by simp[zb1]
 | C,T,a::as,b::bs,ha,hb=>by
  rw[zb1,Bool.and_eq_true,(T 0).eq a b ha.1 hb.1,zny (λ i=>T (i+1)) as bs ha.2 hb.2]
  simp
theorem zsm:∀ {C:Nat->D->Prop},(∀ i,TotD (C i))->∀ as bs,Fam C as->Fam C bs->zdl as bs=true
 | C,T,[],[],_,_=>by simp[zdl]
 | C,T,[],_::_,_,_=>by simp[zdl]
 | C,T,_::_,[],_,_=>by simp[zdl]
 | C,T,a::as,b::bs,ha,hb=>by rw[zdl,(T 0).ok a b ha.1 hb.1,zsm (λ i=>T (i+1)) as bs ha.2 hb.2];rfl
theorem zmm:∀ {C:Nat->D->Prop},(∀ i,TotD (C i))->∀ as bs,Fam C as->Fam C bs->as=bs\/zdq as bs=true\/zdq bs as=true
 | C,T,[],[],_,_=>.inl rfl
 | C,T,[],_::_,_,_=>.inr (.inl (by rw[zdq]))
 | C,T,_::_,[],_,_=>.inr (.inr (by rw[zdq]))
 | C,T,a::as,b::bs,ha,hb=>by
  by_cases e:a=b
  ·subst e
   have h:=((T 0).eq a a ha.1 ha.1).mpr rfl
   rw[zdq,zdq,h,if_pos rfl,if_pos rfl]
   rcases zmm (λ i=>T (i+1)) as bs ha.2 hb.2 with z|z|z
   ·exact .inl (by rw[z])
   ·exact .inr (.inl z)
   ·exact .inr (.inr z)
  ·have h1:¬ deq a b=true:=λ z=>e (((T 0).eq a b ha.1 hb.1).mp z)
   have h2:¬ deq b a=true:=λ z=>e (((T 0).eq b a hb.1 ha.1).mp z).symm
   rw[zdq,zdq,if_neg h1,if_neg h2]
   rcases (T 0).tot a b ha.1 hb.1 with z|z|z
   ·exact absurd z e
   ·exact .inr (.inl z)
   ·exact .inr (.inr z)
theorem zsn:∀ {C:Nat->D->Prop},(∀ i,TotD (C i))->∀ as bs,Fam C as->Fam C bs->zdq as bs=true->zdq bs as=false
 | C,T,[],[],_,_,h=>by rw[zdq] at h;cases h
 | C,T,[],_::_,_,_,_=>by rw[zdq]
 | C,T,_::_,[],_,_,h=>by rw[zdq] at h;cases h
 | C,T,a::as,b::bs,ha,hb,h=>by
  by_cases e:a=b
  ·subst e
   have h0:=((T 0).eq a a ha.1 ha.1).mpr rfl
   rw[zdq,h0,if_pos rfl] at h ⊢
   exact zsn (λ i=>T (i+1)) as bs ha.2 hb.2 h
  ·have h1:¬ deq a b=true:=λ z=>e (((T 0).eq a b ha.1 hb.1).mp z)
   have h2:¬ deq b a=true:=λ z=>e (((T 0).eq b a hb.1 ha.1).mp z).symm
   rw[zdq,if_neg h1] at h
   rw[zdq,if_neg h2]
   exact (T 0).as a b ha.1 hb.1 h
open Classical in
theorem zso:∀ {C:Nat->D->Prop},(∀ i,TotD (C i))->∀ as bs cs,Fam C as->Fam C bs->Fam C cs->zdq as bs=true->zdq bs cs=true->zdq as cs=true
 | C,T,as,[],cs,_,_,_,h,h'=>by cases as <;> (rw[zdq] at h;cases h)
 | C,T,as,b::bs,[],_,_,_,h,h'=>by rw[zdq] at h';cases h'
 | C,T,[],b::bs,c::cs,_,_,_,h,h'=>by rw[zdq]
 | C,T,a::as,b::bs,c::cs,ha,hb,hc,h,h'=>by
  have eqv:∀ x y,C 0 x->C 0 y->∀ p q:Bool,(if deq x y=true then p else q)=if x=y then p else q:=λ x y hx hy p q=>by
   by_cases e:x=y
   ·rw[if_pos (((T 0).eq x y hx hy).mpr e),if_pos e]
   ·rw[if_neg (λ z=>e (((T 0).eq x y hx hy).mp z)),if_neg e]
  rw[zdq,eqv a b ha.1 hb.1] at h
  rw[zdq,eqv b c hb.1 hc.1] at h'
  rw[zdq,eqv a c ha.1 hc.1]
  by_cases e1:a=b
  ·subst e1
   rw[if_pos rfl] at h
   by_cases e2:a=c
   ·subst e2
    rw[if_pos rfl] at h' ⊢
    exact zso (λ i=>T (i+1)) as bs cs ha.2 hb.2 hc.2 h h'
   ·rw[if_neg e2] at h' ⊢;exact h'
  ·rw[if_neg e1] at h
   by_cases e2:b=c
   ·subst e2
    rw[if_neg e1];exact h
   ·rw[if_neg e2] at h'
    have h3:=(T 0).tr a b c ha.1 hb.1 hc.1 h h'
    by_cases e3:a=c
    ·subst e3;rw[(T 0).irr ha.1] at h3;cases h3
    ·rw[if_neg e3];exact h3
def ybz (C:Nat->D->Prop) (d:D):Prop:=∃ ds,d=.lst ds/\Fam C ds
def z1u (C:Nat->D->Prop) (d:D):Prop:=∃ ds,d=.tup ds/\Fam C ds
theorem z1v {C:Nat->D->Prop} (T:∀ i,TotD (C i)):TotD (ybz C) where
 eq:=λ a b ⟨i,x,p⟩ ⟨j,y,q⟩=>by subst x y;rw[deq,zny T i j p q];simp
 ok:=λ a b ⟨i,x,p⟩ ⟨j,y,q⟩=>by subst x y;rw[zb8];exact zsm T i j p q
 tr:=λ a b c ⟨i,x,p⟩ ⟨j,y,q⟩ ⟨k,z,r⟩ h1 h2=>by subst x y z;rw[dlt] at *;exact zso T i j k p q r h1 h2
 tot:=λ a b ⟨i,x,p⟩ ⟨j,y,q⟩=>by
  subst x y;rw[dlt,dlt]
  rcases zmm T i j p q with z|z
  ·exact .inl (by rw[z])
  ·exact .inr z
 as:=λ a b ⟨i,x,p⟩ ⟨j,y,q⟩ h=>by subst x y;rw[dlt] at *;exact zsn T i j p q h
theorem zjm {C:Nat->D->Prop} (T:∀ i,TotD (C i)):TotD (z1u C) where
 eq:=λ a b ⟨i,x,p⟩ ⟨j,y,q⟩=>by subst x y;rw[deq,zny T i j p q];simp
 ok:=λ a b ⟨i,x,p⟩ ⟨j,y,q⟩=>by subst x y;rw[zb8];exact zsm T i j p q
 tr:=λ a b c ⟨i,x,p⟩ ⟨j,y,q⟩ ⟨k,z,r⟩ h1 h2=>by subst x y z;rw[dlt] at *;exact zso T i j k p q r h1 h2
 tot:=λ a b ⟨i,x,p⟩ ⟨j,y,q⟩=>by
  subst x y;rw[dlt,dlt]
  rcases zmm T i j p q with z|z
  ·exact .inl (by rw[z])
  ·exact .inr z
 as:=λ a b ⟨i,x,p⟩ ⟨j,y,q⟩ h=>by subst x y;rw[dlt] at *;exact zsn T i j p q h
theorem zsp {C:D->Prop}:∀ {ds:List D},(∀ d∈ds,C d)->Fam (λ _=>C) ds
 | [],_=>True.intro
 | d::r,h=>⟨h d List.mem_cons_self,zsp λ e he=>h e (List.mem_cons_of_mem _ he)⟩
end L2
namespace K20
open PySem L2
def f_q1b:Rho->Out :=
  (zaw (sIf (tE (e2 zbi (eC (.str [124])) (zaa 0))) (zce (zal 0)) zbm)
  (zaw (zbn 1 (eM "str" zkr (zaa 0) (aC (eC (.str [124])) aN)))
  (zce (e2 zb6 (e2 zb6 (eSl (zaa 0) (oS (e2 zb6 (zaa 1) (eC (.int 1)))) oN) (eC (.str [44,32]))) (eSl (zaa 0) oN (oS (zaa 1)))))))
def zhw:List D->Option D:=fnR 1 2 f_q1b
def f_q18:Rho->Out :=
  (zce (eM "str" zne (eM "str" zq7 (eC (.str [])) (aC (eL (zb3 1 [] (iE (zat 1 zhw (aC (zal 0) aN))) (gN 0) (tE (e2 zll (zaa 0) (eC (.str LF)))) (zal 0))) aN)) aN))
def zk8:List D->Option D:=fnR 1 1 f_q18
def f_q1e:Rho->Out :=
  (zce (eL (zb3 1 [] (iE (zaa 0)) (gN 0) (λ _=>some true) (eN za1 (aC (zat 1 zk8 (aC (zal 0) aN)) (aC (zat 1 zhw (aC (zal 0) aN)) aN))))))
def zdp:List D->Option D:=fnR 1 1 f_q1e
def f_q1d:Rho->Out :=
  (zce (zg4 gLe gLe yc0 (eC (.int 0)) (e2 gIx (zaa 0) (eC (.int 1))) (e2 gIx (zaa 0) (eC (.int 2))) (zaa 1)))
def zk9:List D->Option D:=fnR 2 2 f_q1d
def f_q17:Rho->Out :=
  (zce (eN zna (aC (eN zou (aC (zaa 0) aN)) aN)))
def zfu:List D->Option D:=fnR 1 1 f_q17
def f_q10:Rho->Out :=
  (zce (eN za1 (aC (zat 1 zdp (aC (e2 gIx (zaa 0) (eC (.int 0))) aN)) (aC (e2 gIx (zaa 0) (eC (.int 1))) (aC (e2 gIx (zaa 0) (eC (.int 2))) (aC (e2 gIx (zaa 0) (eC (.int 3))) aN))))))
def zfv:List D->Option D:=fnR 1 1 f_q10
def f_q19:Rho->Out :=
  (zk1 1 (zjj (iE (zal 0)) (gN 2) (zjj (iE (zal 2)) (gT 4 (gTC (gN 3) (gTC (gN 4) (gTC (gN 5) (gTC (gN 6) gT0))))) (zmj [2,0,0,1] (eN za1 (aC (zat 1 zfu (aC (zal 3) aN)) (aC (zal 4) (aC (zal 5) (aC (zal 6) aN)))))))) zfv)
def zla:List D->Option (List D):=fnW 1 7 f_q19
def f_q11:Rho->Out :=
  (zce (eN za1 (aC (zat 1 zdp (aC (e2 gIx (zaa 0) (eC (.int 0))) aN)) (aC (e2 gIx (zaa 0) (eC (.int 2))) (aC (zat 1 zdp (aC (e2 gIx (zaa 0) (eC (.int 1))) aN)) aN)))))
def zfw:List D->Option D:=fnR 1 1 f_q11
def f_q7:Rho->Out :=
  (zk1 1 (zjj (iE (zal 0)) (gN 2) (zjj (iE (zal 2)) (gT 3 (gTC (gN 3) (gTC (gN 4) (gTC (gN 5) gT0)))) (zmj [2,2,1] (eN za1 (aC (zat 1 zfu (aC (zal 3) aN)) (aC (zat 1 zfu (aC (zal 4) aN)) (aC (zal 5) aN))))))) zfw)
def zsq:List D->Option (List D):=fnW 1 6 f_q7
def f_q2:Rho->Out :=
  (zx8 1 (zsa (iE (zal 0)) (gT 3 (gTC (gN 2) (gTC (gN 3) (gTC (gN 4) gT0)))) (z25 (zd6 (tE (zal 4))) (gSa (zaa 2) (zal 3)) z1i)))
def z1w:List D->Option D:=fnR 1 5 f_q2
def f_q1:Rho->Out :=
  (zaw (z22 1 (.dt [] []))
  (zaw (zhr (iE (zal 0)) (gT 2 (gTC (gN 2) (gTC (gN 3) gT0))) (zeb 1 (zaa 2) (e2 gGt (eN zb7 (aC (zaa 3) aN)) (eC (.int 0)))))
  (zvf 1 (zce (zal 1)))))
def z1x:List D->Option D:=fnR 1 4 f_q1
def f_q5:Rho->Out :=
  (zaw (sIf (tE (e2 zc8 (zaa 1) (zaa 0))) zx4 zbm)
  (zaw (sIf (zdj (zd6 (tE (zal 2))) (tE (zcl (zaa 3) (zaa 0) (eC (.bl false))))) zx4 zbm)
  (sIf (zdj (zd6 (tE (zal 2))) (tE (e2 gGt (eN zb7 (aC (e2 zgz (zaa 4) (zaa 0)) aN)) (eC (.int 1))))) zx4 zbm)))
def z1y:List D->Option D:=fnR 5 5 f_q5
def f_q15:Rho->Out :=
  (zce (eSl (zaa 0) (oS (eM "list" z27 (zaa 0) (aC (e2 gIx (zaa 0) (e1 zf4 (eC (.int 1)))) aN))) (oS (e1 zf4 (eC (.int 1))))))
def zmn:List D->Option D:=fnR 1 1 f_q15
def f_q6:Rho->Out :=
  (zaw (zi9 2 (lOk (aC (zal 0) aN)))
  (zaw (z22 3 (.dt [] []))
  (zaw (zrd (λ _=>1000) (zdj (tE (e2 zll (e2 gIx (zaa 2) (e1 zf4 (eC (.int 1)))) (zaa 1))) (tE (e2 zbi (e2 gIx (zaa 2) (e1 zf4 (eC (.int 1)))) (zaa 3)))) (zaw (zeb 3 (e2 gIx (zaa 2) (e1 zf4 (eC (.int 1)))) (eC (.bl true)))
  (zfo 2 (e2 gIx (e2 zgz (zaa 1) (e2 gIx (zaa 2) (e1 zf4 (eC (.int 1))))) (eC (.int 0))))))
  (zmc 2 (zce (zal 2))))))
def z1z:List D->Option D:=fnR 2 4 f_q6
def f_qb:Rho->Out :=
  (zaw (zbn 3 (e2 gIx (zaa 0) (eC (.int 0))))
  (zaw (zbn 4 (e2 gIx (zaa 0) (eC (.int 1))))
  (zaw (zbn 5 (e2 gIx (zaa 0) (eC (.int 2))))
  (zaw (zfn (zat 5 z1y (aC (zal 3) (aC (zal 4) (aC (zal 5) (aC (zal 1) (aC (zal 2) aN)))))))
  (zaw (zbn 6 (zat 2 z1z (aC (zal 4) (aC (zal 2) aN))))
  (zaw (zbn 7 (zat 1 zmn (aC (zal 6) aN)))
  (zaw (sIf (tE (e2 gGt (eN zb7 (aC (zaa 7) aN)) (eC (.int 0)))) zx4 zbm)
  (zaw (zbn 8 (e2 gIx (zaa 6) (e1 zf4 (eC (.int 1)))))
  (zaw (sIf (bOr (tE (e2 zbi (zaa 8) (zaa 1))) (bOr (zdj (tE (zal 5)) (tE (e2 zbi (zaa 3) (zaa 1)))) (tE (e2 zc8 (zaa 8) (zaa 3))))) zx4 zbm)
  (zce (eN za1 (aC (zal 3) (aC (zal 4) (aC (zal 5) (aC (zal 8) (aC (eN zb7 (aC (zaa 6) aN)) aN))))))))))))))))
def z13:List D->Option D:=fnR 3 9 f_qb
def f_q1f:Rho->Out :=
  (zaw (zbn 2 (eL (zea 1 zsq (aC (eN zcy (aC (zal 1) aN)) aN))))
  (zaw (zbn 3 (zat 1 z1x (aC (zal 0) aN)))
  (zaw (zbn 4 (zat 1 z1w (aC (zal 2) aN)))
  (zf5 (zb3 1 [3,4] (iE (zaa 2)) (gN 0) (λ _=>some true) (zat 3 z13 (aC (zal 0) (aC (zal 1) (aC (zal 2) aN)))))))))
def zhx:List D->Option (List D):=fnW 2 5 f_q1f
def f_q1c:Rho->Out :=
  (zaw (zi9 3 (lOk aN))
  (zaw (zbn 4 (zal 2))
  (zaw (zbn 5 (eC (.int 0)))
  (zaw (zhr (iE (zal 0)) (gN 6) (zaw (sIf (zdj (tE (e2 gGt (zaa 5) (eC (.int 0)))) (bOr (tE (zal 6)) (tE (e2 gGe (zaa 5) (zaa 1))))) (zaw (zbn 4 (e2 zb6 (zaa 4) (eC (.int 1))))
  (zbn 5 (eC (.int 0)))) zbm)
  (zaw (zbn 5 (e2 zb6 (zaa 5) (eC (.int 1))))
  (zfo 3 (zal 4)))))
  (zmc 3 (zce (zal 3)))))))
def zmo:List D->Option D:=fnR 3 7 f_q1c
def f_q14:Rho->Out :=
  (zce (eT (zdj (tE (e2 zc8 (e2 zb6 (e2 gIx (zaa 0) (eC (.int 1))) (eC (.int 1))) (zaa 1))) (tE (e2 zc8 (e2 gIx (zaa 0) (eC (.int 2))) (zaa 2))))))
def zjn:List D->Option D:=fnR 3 3 f_q14
def f_q0:Rho->Out :=
  (zaw (z22 2 (.dk [] []))
  (zaw (zhr (iE (zal 1)) (gT 4 (gTC (gN 3) (gTC (gN 4) (gTC (gN 5) (gTC (gN 6) gT0))))) (zhr (iE (eSl (zaa 0) (oS (zaa 4)) (oS (e2 zb6 (zaa 5) (eC (.int 1)))))) (gN 7) (zeb 2 (zaa 7) (eT (bOr (tE (zal 6)) (tE (zcl (zaa 2) (zaa 7) (eC (.bl false)))))))))
  (zvf 2 (zce (zal 2)))))
def z14:List D->Option D:=fnR 2 8 f_q0
def f_qe:Rho->Out :=
  (zaw (zbn 2 (zat 2 z14 (aC (zal 0) (aC (zal 1) aN))))
  (zaw (zi9 3 (lOk aN))
  (zaw (zhr (iE (eL (wN zkw (aC (zaa 2) aN)))) (gN 4) (sIf (zdj (tE (e2 gGt (eN zb7 (aC (zaa 3) aN)) (eC (.int 0)))) (tE (zat 3 zjn (aC (e2 gIx (zaa 3) (e1 zf4 (eC (.int 1)))) (aC (zal 4) (aC (e2 zgz (zaa 2) (zaa 4)) aN)))))) (zo0 3 (e1 zf4 (eC (.int 1))) (eN za1 (aC (e2 gIx (e2 gIx (zaa 3) (e1 zf4 (eC (.int 1)))) (eC (.int 0))) (aC (zal 4) (aC (e2 zgz (zaa 2) (zaa 4)) aN))))) (zfo 3 (eN za1 (aC (zal 4) (aC (zal 4) (aC (e2 zgz (zaa 2) (zaa 4)) aN)))))))
  (zmc 3 (zce (zal 3))))))
def z15:List D->Option D:=fnR 2 5 f_qe
def f_q3:Rho->Out :=
  (zx8 1 (zsa (iE (zal 0)) (gN 2) (zo8 (z75 3 (e2 gIx (zaa 2) (eC (.int 0))))
  (zo8 (zsa (iR zxu (aC (eC (.int 1)) (aC (eN zb7 (aC (zaa 3) aN)) aN))) (gN 4) (gSd (eSl (zaa 3) oN (oS (zaa 4)))))
  (gSa (zaa 3) (zal 2))))))
def z16:List D->Option D:=fnR 1 5 f_q3
def f_q4:Rho->Out :=
  (zhr (iE (zal 0)) (gN 2) (sIf (zd6 (tE (zat 2 zk9 (aC (zal 2) (aC (zal 1) aN))))) zx4 zbm))
def z17:List D->Option D:=fnR 2 3 f_q4
def f_q16:Rho->Out :=
  (zaw (zbn 4 (eL (zea 1 zla (aC (eN zcy (aC (zal 3) aN)) aN))))
  (zaw (zfn (zat 2 z17 (aC (zal 4) (aC (eN zb7 (aC (zaa 0) aN)) aN))))
  (zaw (zbn 5 (zat 3 zmo (aC (zal 0) (aC (zal 1) (aC (zal 2) aN)))))
  (zaw (zbn 6 (zat 1 z16 (aC (zal 4) aN)))
  (zce (eL (zb3 1 [5,6] (iE (eL (zx5 zdp (zaa 6)))) (gN 0) (λ _=>some true) (eN za1 (aC (zal 0) (aC (zat 2 z15 (aC (zal 1) (aC (e2 zgz (zaa 2) (zaa 0)) aN))) aN))))))))))
def zmp:List D->Option D:=fnR 4 7 f_q16
def f_qf:Rho->Out :=
  (zce (eT (zdj (tE (e1 (zt4 "int") (zaa 0))) (tE (eT (zd6 (tE (e1 (zt4 "bool") (zaa 0)))))))))
def zyg:List D->Option D:=fnR 1 1 f_qf
def f_q9:Rho->Out :=
  (zaw (sIf (tE (e2 gLt (zaa 1) (eN zb7 (aC (zaa 0) aN)))) (zce (e2 gIx (zaa 0) (zaa 1))) zbm)
  (zce (eC (.int 0))))
def zt7:List D->Option D:=fnR 2 2 f_q9
def f_qa:Rho->Out :=
  (zaw (zbn 2 (eC (.str SG)))
  (zaw (zbn 3 (eC (.str [])))
  (zaw (zhr (iR zq9 (aC (e2 zb6 (eC (.int 1)) (e2 zb5 (zaa 0) (eC (.int 3)))) aN)) (gN 4) (zbn 3 (e2 zb6 (zaa 3) (e2 gIx (zaa 2) (e2 zb5 (e2 zb6 (e2 zew (zaa 0) (e2 zb6 (zaa 4) (eC (.int 5)))) (e2 zdu (e2 zdu (eC (.int 7)) (zaa 4)) (zaa 4))) (eC (.int 63)))))))
  (zaw (zbn 5 (e2 zb5 (e2 zew (zaa 0) (eC (.int 15))) (e2 zb6 (eN zb7 (aC (zaa 3) aN)) (eC (.int 1)))))
  (zaw (zbn 6 (e2 zb6 (e2 zb6 (eSl (zaa 3) oN (oS (zaa 5))) (eN zry (aC (e2 zew (zaa 1) (eC (.int 2))) aN))) (eSl (zaa 3) (oS (zaa 5)) oN)))
  (zaw (zbn 7 (e2 zb5 (e2 zb6 (e2 zew (zaa 0) (eC (.int 240))) (e2 zew (zaa 1) (eC (.int 2)))) (eC (.int 6))))
  (zaw (sIf (tE (e2 zc8 (zaa 7) (eC (.int 1)))) (zbn 6 (e2 zb6 (e2 zb6 (zaa 6) (eC (.str [124]))) (zaa 3))) zbm)
  (zaw (sIf (tE (e2 zc8 (zaa 7) (eC (.int 5)))) (zbn 6 (e2 zb6 (e2 zb6 (e2 zb6 (e2 zb6 (zaa 6) (eC (.str [124]))) (eSl (zaa 3) oN (oS (eC (.int 3))))) (eC (.str [32]))) (eSl (zaa 3) oN (oS (eC (.int 3)))))) zbm)
  (zaw (sIf (tE (e2 zc8 (zaa 7) (eC (.int 2)))) (zbn 6 (e2 zb6 (e2 zb6 (zaa 3) (eC (.str [32]))) (zaa 6))) zbm)
  (zaw (sIf (tE (e2 zc8 (zaa 7) (eC (.int 3)))) (zbn 6 (e2 zb6 (eC (.str [45])) (zaa 6))) zbm)
  (zaw (sIf (tE (e2 zc8 (e2 zb5 (zaa 1) (eC (.int 2))) (eC (.int 1)))) (zce (e2 zb6 (zaa 6) (eC (.str [45])))) zbm)
  (zce (zal 6)))))))))))))
def zpk:List D->Option D:=fnR 2 8 f_qa
def f_q8:Rho->Out :=
  (zaw (zbn 2 (e2 gIx (eN zcy (aC (eC (.int 1)) (aC (eC (.int 1)) (aC (eC (.int 2)) (aC (eC (.int 3)) (aC (eC (.int 2)) (aC (eC (.int 6)) aN))))))) (e2 zb5 (zaa 0) (eC (.int 6)))))
  (zce (eN zna (aC (eL (zb3 1 [0,1] (iR zq9 (aC (zaa 2) aN)) (gN 0) (λ _=>some true) (zat 2 zpk (aC (zal 2) (aC (e2 zb5 (e2 zew (zaa 1) (e2 zb6 (eC (.int 7)) (e2 zdu (eC (.int 5)) (zaa 0)))) (eC (.int 6))) aN))))) aN))))
def zyh:List D->Option D:=fnR 2 3 f_q8
def f_qc:Rho->Out :=
  (zaw (zbn 4 (zat 2 zpk (aC (zal 3) (aC (e2 zb6 (eC (.int 20)) (zaa 1)) aN))))
  (zaw (zbn 5 (e2 gIx (zaa 0) (e2 zb5 (e2 zew (zaa 2) (eC (.int 3))) (eN zb7 (aC (zaa 0) aN)))))
  (zaw (sIf (tE (e2 zc8 (e2 zb5 (zaa 2) (eC (.int 3))) (eC (.int 0)))) (zce (eN za1 (aC (zal 4) aN))) zbm)
  (zaw (sIf (tE (e2 gLt (eN zb7 (aC (zaa 5) aN)) (eC (.int 6)))) (zce (e2 zsf (zaa 5) (eN za1 (aC (zal 4) aN)))) zbm)
  (zce (e2 zsf (eN za1 (aC (zal 4) aN)) (eSl (zaa 5) oN (oS (eC (.int 2))))))))))
def zvz:List D->Option D:=fnR 4 6 f_qc
def f_qd:Rho->Out :=
  (zaw (zi9 2 (lOk aN))
  (zaw (zhr (iR zq9 (aC (e2 zb6 (eC (.int 1)) (e2 zb5 (zaa 0) (eC (.int 7)))) aN)) (gN 3) (zaw (zbn 4 (e2 zb5 (e2 zdu (e2 zb6 (zaa 0) (e2 zdu (zaa 3) (zaa 3))) (eC (.int 1583458089))) (eC (.int 2147483647))))
  (zfo 2 (eN za1 (aC (zat 2 zyh (aC (zal 4) (aC (zal 1) aN))) (aC (e2 zb5 (zaa 3) (eC (.int 5))) (aC (e2 zb5 (zaa 3) (eC (.int 5))) (aC (e2 zc8 (e2 zb5 (zaa 4) (eC (.int 2))) (eC (.int 0))) aN))))))))
  (zmc 2 (zce (zal 2)))))
def z18:List D->Option D:=fnR 2 5 f_qd
def f_q13:Rho->OutD :=
  (zfd (dL (zbn 3 (eL (zb3 1 [] (iE (zaa 0)) (gN 0) (tE (e2 zfb (e2 gIx (zaa 0) (eC (.int 1))) (eN zcy aN))) (e2 gIx (zaa 0) (eC (.int 0)))))))
  (zfd (z26 (iE (zal 0)) (gN 4) (dIf (zdj (tE (e2 zc8 (e2 gIx (zaa 4) (eC (.int 1))) (eN zcy aN))) (zdj (tE (e2 zc8 (e2 zb5 (zaa 2) (eC (.int 2))) (eC (.int 0)))) (z57 1))) (zfd (dL (zeb 1 (e2 gIx (zaa 4) (eC (.int 0))) (eN za1 (aC (e2 gIx (zaa 3) (e2 zb5 (e2 zew (zaa 2) (eC (.int 2))) (eN zb7 (aC (zaa 3) aN)))) (aC (eC (.int 2)) aN)))))
  (z1m (lOk (aC (eN za1 (aC (e2 gIx (zaa 4) (eC (.int 0))) (aC (e2 gIx (zaa 3) (e2 zb5 (e2 zew (zaa 2) (eC (.int 2))) (eN zb7 (aC (zaa 3) aN)))) (aC (eC (.bl false)) aN)))) aN)))) zsb))
  (z1m (lOk aN))))
def zmq:List D->Option (List D×List (List Key)×List D):=fnD 3 5 1 f_q13
def f_q12:Rho->OutD :=
  (zfd (dL (zbn 4 (eL (zb3 1 [] (iE (zaa 1)) (gN 0) (λ _=>some true) (e2 gIx (zaa 0) (eC (.int 0)))))))
  (zfd (dL (zi9 5 (wN zt6 (aC (zaa 4) aN))))
  (zfd (dL (ze3 6 2 3 1 zmq (mV (zal 1) (mD 2 (mV (zal 3) mN)))))
  (zfd (z26 (iR zq9 (aC (eN zb7 (aC (zaa 0) aN)) aN)) (gN 7) (zfd (dL (zbn 8 (e2 zb5 (e2 zdu (e2 gIx (zaa 0) (zaa 7)) (eC (.int 1583458089))) (eC (.int 2147483647)))))
  (zfd (dL (zbn 9 (e2 gIx (zaa 5) (e2 zb5 (e2 zew (zaa 8) (eC (.int 7))) (eN zb7 (aC (zaa 5) aN))))))
  (zfd (dL (zja (gT 2 (gTC (gN 10) (gTC (gN 11) gT0))) (zcl (zaa 2) (zaa 9) (eN za1 (aC (zal 9) (aC (eC (.int 1)) aN))))))
  (zfd (dL (zbn 12 (zat 4 zvz (aC (zal 4) (aC (zal 7) (aC (e2 zew (zaa 8) (eC (.int 31))) (aC (zal 3) aN)))))))
  (dIf (tE (e2 gGt (e2 zb5 (zaa 8) (eC (.int 3))) (eC (.int 0)))) (zfd (dL (zeb 2 (zaa 12) (eN za1 (aC (zal 10) (aC (e2 zb6 (zaa 11) (eC (.int 1))) aN)))))
  (zfd (dL (zfo 5 (zal 12)))
  (dL (zfo 6 (eN za1 (aC (zal 12) (aC (zal 9) (aC (eC (.bl false)) aN)))))))) (zfd (dL (zbn 12 (e2 gIx (zaa 4) (e2 zb5 (e2 zew (zaa 8) (eC (.int 41))) (eN zb7 (aC (zaa 4) aN))))))
  (dIf (zdj (tE (e2 zfb (zaa 12) (zaa 9))) (tE (e2 zfb (zaa 12) (zaa 10)))) (dL (zfo 6 (eN za1 (aC (zal 12) (aC (zal 9) (aC (eC (.bl true)) aN)))))) zsb))))))))
  (z1n 6)))))
def zmr:List D->Option (List D×List (List Key)×List D):=fnD 4 13 2 f_q12
def f_q1a:Rho->Out :=
  (zaw (sIf (bOr (zd6 (tE (e1 (zt4 "list") (zaa 0)))) (tE (e2 zfb (eN zb7 (aC (zaa 0) aN)) (eN zb7 (aC (zaa 1) aN))))) (zce (eC (.bl false))) zbm)
  (zaw (zhr (iR zq9 (aC (eN zb7 (aC (zaa 1) aN)) aN)) (gN 3) (zaw (zja (gT 3 (gTC (gN 4) (gTC (gN 5) (gTC (gN 6) gT0)))) (e2 gIx (zaa 1) (zaa 3)))
  (zaw (zja (gT 2 (gTC (gN 7) (gTC (gN 8) gT0))) (zcl (zaa 2) (zaa 5) (eN za1 (aC (zal 5) (aC (eC (.int 1)) aN)))))
  (zaw (zbn 9 (e2 gIx (zaa 0) (zaa 3)))
  (zaw (sIf (bOr (zd6 (tE (e1 (zt4 "tuple") (zaa 9)))) (tE (e2 zfb (zaa 9) (eN za1 (aC (zal 4) (aC (zal 5) (aC (zal 6) (aC (zal 7) (aC (zal 8) aN))))))))) (zce (eC (.bl false))) zbm)
  (sIf (bOr (zd6 (tE (e1 (zt4 "bool") (e2 gIx (zaa 9) (eC (.int 2)))))) (zd6 (tE (zat 1 zyg (aC (e2 gIx (zaa 9) (eC (.int 4))) aN))))) (zce (eC (.bl false))) zbm))))))
  (zce (eC (.bl true)))))
def zjo:List D->Option D:=fnR 3 10 f_q1a
def f_q20:Rho->Out :=
  (zaw (zbn 1 (zat 2 zt7 (aC (zal 0) (aC (eC (.int 0)) aN))))
  (zaw (zbn 2 (zat 4 zmp (aC (e2 z99 (eN zcy (aC (eC (.bl false)) aN)) (eC (.int 5))) (aC (eC (.int 2)) (aC (eC (.int 7)) (aC (zat 2 z18 (aC (zat 2 zt7 (aC (zal 0) (aC (eC (.int 1)) aN))) (aC (zal 1) aN))) aN))))))
  (zaw (z22 3 (.dt [] []))
  (zaw (ze3 4 3 4 2 zmr (mV (eSl (zaa 0) (oS (eC (.int 2))) (oS (eC (.int 26)))) (mV (zal 2) (mD 3 (mV (zal 1) mN)))))
  (zmc 4 (zaw (zbn 5 (eL (zea 1 zsq (aC (eN zcy (aC (zal 4) aN)) aN))))
  (zaw (zbn 6 (e2 zb6 (eL (wN z74 (aC (zaa 4) aN))) (eSl (zaa 4) oN (oS (e2 zb5 (zaa 1) (eC (.int 4)))))))
  (zaw (zbn 7 (eN zou (aC (zaa 6) aN)))
  (zaw (zbn 8 (eL (zb3 2 [] (iE (zaa 2)) (gT 2 (gTC (gN 0) (gTC (gN 1) gT0))) (λ _=>some true) (eN za1 (aC (zal 0) (aC (eN zou (aC (zaa 1) aN)) aN))))))
  (zaw (zi9 9 (zea 2 zhx (aC (zal 2) (aC (zal 6) aN))))
  (zaw (sIf (bOr (zd6 (tE (zc2 3 zjo (aC (zaa 9) (aC (zaa 5) (aC (zaa 3) aN)))))) (bOr (tE (e2 zfb (zaa 2) (zaa 8))) (tE (e2 zfb (zaa 6) (zaa 7))))) (zce (eC (.bl false))) zbm)
  (zaw (sIf (bOr (zd6 (tE (e1 (zt4 "list") (eL (zea 2 zhx (aC (zal 2) (aC (eN zcy aN) aN))))))) (zd6 (tE (zc2 3 zjo (aC (zaa 9) (aC (zaa 5) (aC (zaa 3) aN))))))) (zce (eC (.bl false))) zbm)
  (zaw (z55 9)
  (zce (zc2 3 zjo (aC (eL (zea 2 zhx (aC (zal 2) (aC (zal 6) aN)))) (aC (zaa 5) (aC (zaa 3) aN))))))))))))))))))
def zjp:List D->Option D:=fnR 1 10 f_q20
end K20
namespace K20
open PySem L2
open PyProof.Rows (lo1)
theorem zdz (p:Int) (n:Nat):zj1 p (n+1)=.int p::zj1 (p+1) n:=by
 unfold zj1
 rw[List.range_succ_eq_map,List.map_cons,List.map_map]
 refine congr (congrArg _ ?_) (List.map_congr_left λ k _=>?_)
 ·show D.int (p+((0:Nat):Int))=_;rw[show p+((0:Nat):Int)=p by omega]
 ·show D.int (p+((k+1:Nat):Int))=_;rw[show p+((k+1:Nat):Int)=p+1+(k:Int) by omega]
def zby (l:List Nat):List Nat:=if 124∈l then l.drop (zel 124 l+1)++[44,32]++l.take (zel 124 l) else l
theorem znz (l:List Nat) (h:l.length<=1000):zhw [.str l]=some (.str (zby l)):=by
 unfold zhw f_q1b zby
 have hz:l.length<=sizeLine:=sz (by omega)
 by_cases hc:124∈l
 ·have hi:=zqo 124 l hc
  have e1:zb6 (D.int (zel 124 l)) (D.int 1)=some (.int ((zel 124 l+1:Nat):Int)):=rfl
  simp only[fnR,fnW,zez,zaw,sIf,zbn,zi9,zja,zfn,zce,zf5,zma,zmb,zfo,zmc,zhr,zbm,eC,zal,zaa,L2.e1,L2.e2,eN,aN,aC,tE,zdj,bOr,zd6,eT,eSl,oN,oS,toI,toB,eM,tyN,zat,zc2,zea,eL,lOk,wN,zt6,zb3,zfm,iE,iR,gN,gT,gTC,gT0,zll,zbi,zc8,zfb,gII,zl6,zb7,zcy,za1,List.map_cons,List.map_nil,List.length_cons,List.length_nil,List.cons_append,List.nil_append,List.replicate,Nat.sub_self,Nat.reduceAdd,Nat.reduceSub,Nat.reduceLeDiff,Nat.zero_add,List.set_cons_zero,List.set_cons_succ,List.getElem?_cons_zero,List.getElem?_cons_succ,Option.bind_some,Option.bind_none,Option.map_some,Option.map_none,Option.getD_some,if_pos,ite_true,ite_false,reduceIte,Bool.not_true,Bool.not_false,Bool.false_eq_true,reduceCtorEq,List.append_nil,zca,itD,z92,hc,decide_true,z0m 124 l hc,e1,zng l _ hz hi,zrk l _ hz]
  rw[zep _ _ (sz (by simp;omega))]
  simp only[fnR,fnW,zez,zaw,sIf,zbn,zi9,zja,zfn,zce,zf5,zma,zmb,zfo,zmc,zhr,zbm,eC,zal,zaa,L2.e1,L2.e2,eN,aN,aC,tE,zdj,bOr,zd6,eT,eSl,oN,oS,toI,toB,eM,tyN,zat,zc2,zea,eL,lOk,wN,zt6,zb3,zfm,iE,iR,gN,gT,gTC,gT0,zll,zbi,zc8,zfb,gII,zl6,zb7,zcy,za1,List.map_cons,List.map_nil,List.length_cons,List.length_nil,List.cons_append,List.nil_append,List.replicate,Nat.sub_self,Nat.reduceAdd,Nat.reduceSub,Nat.reduceLeDiff,Nat.zero_add,List.set_cons_zero,List.set_cons_succ,List.getElem?_cons_zero,List.getElem?_cons_succ,Option.bind_some,Option.bind_none,Option.map_some,Option.map_none,Option.getD_some,if_pos,ite_true,ite_false,reduceIte,Bool.not_true,Bool.not_false,Bool.false_eq_true,reduceCtorEq,List.append_nil,zca,itD]
  rw[zep _ _ (sz (by simp;omega))]
 ·simp only[fnR,fnW,zez,zaw,sIf,zbn,zi9,zja,zfn,zce,zf5,zma,zmb,zfo,zmc,zhr,zbm,eC,zal,zaa,L2.e1,L2.e2,eN,aN,aC,tE,zdj,bOr,zd6,eT,eSl,oN,oS,toI,toB,eM,tyN,zat,zc2,zea,eL,lOk,wN,zt6,zb3,zfm,iE,iR,gN,gT,gTC,gT0,zll,zbi,zc8,zfb,gII,zl6,zb7,zcy,za1,List.map_cons,List.map_nil,List.length_cons,List.length_nil,List.cons_append,List.nil_append,List.replicate,Nat.sub_self,Nat.reduceAdd,Nat.reduceSub,Nat.reduceLeDiff,Nat.zero_add,List.set_cons_zero,List.set_cons_succ,List.getElem?_cons_zero,List.getElem?_cons_succ,Option.bind_some,Option.bind_none,Option.map_some,Option.map_none,Option.getD_some,if_pos,ite_true,ite_false,reduceIte,Bool.not_true,Bool.not_false,Bool.false_eq_true,reduceCtorEq,List.append_nil,zca,itD,z92,hc,decide_false]
def asc (l:List Nat):Prop:=∀ c∈l,c<128
theorem zsr {l:List Nat} (h:asc l):asc (zby l):=by
 unfold zby
 split
 ·intro c hc
  simp only[List.mem_append] at hc
  rcases hc with (hc|hc)|hc
  ·exact h c (List.mem_of_mem_drop hc)
  ·simp at hc;omega
  ·exact h c (List.mem_of_mem_take hc)
 ·exact h
theorem zss {l:List Nat}:(zby l).length<=l.length+2:=by
 unfold zby
 split
 ·simp;omega
 ·omega
def yan (l:List Nat):List Nat:=((zby l).filter λ c=>decide (c∈LF)).map lo1
theorem yao (l:List Nat):((l.map λ c=>[c]).map List.length).sum=l.length:=by
 induction l with
 | nil=>rfl
 | cons a r ih=>simp only[List.map_cons,List.sum_cons,ih,List.length_cons,List.length_nil];omega
theorem yap (l:List Nat):(l.map λ c=>[c]).flatten=l:=by
 induction l with
 | nil=>rfl
 | cons a r ih=>simp[ih]
theorem z6c (l:List Nat) (ha:asc l) (h:l.length<=1000):zk8 [.str l]=some (.str (yan l)):=by
 unfold zk8 f_q18 yan
 have hs:=zss (l:=l)
 have hcomp:zen (gN 0) (tE (e2 zll (zaa 0) (eC (.str LF)))) (zal 0) [none] ((zby l).map λ c=>.str [c])=some (((zby l).filter λ c=>decide (c∈LF)).map λ c=>D.str [c]) :=
  ze1 (λ c=>D.str [c]) (λ c=>decide (c∈LF)) (λ c=>D.str [c]) (zby l) λ c hc=>⟨_,rfl,by simp only[fnR,fnW,zez,zaw,sIf,zbn,zi9,zja,zfn,zce,zf5,zma,zmb,zfo,zmc,zhr,zbm,eC,zal,zaa,L2.e1,L2.e2,eN,aN,aC,tE,zdj,bOr,zd6,eT,eSl,oN,oS,toI,toB,eM,tyN,zat,zc2,zea,eL,lOk,wN,zt6,zb3,zfm,iE,iR,gN,gT,gTC,gT0,zll,zbi,zc8,zfb,gII,zl6,zb7,zcy,za1,List.map_cons,List.map_nil,List.length_cons,List.length_nil,List.cons_append,List.nil_append,List.replicate,Nat.sub_self,Nat.reduceAdd,Nat.reduceSub,Nat.reduceLeDiff,Nat.zero_add,List.set_cons_zero,List.set_cons_succ,List.getElem?_cons_zero,List.getElem?_cons_succ,Option.bind_some,Option.bind_none,Option.map_some,Option.map_none,Option.getD_some,if_pos,ite_true,ite_false,reduceIte,Bool.not_true,Bool.not_false,Bool.false_eq_true,reduceCtorEq,List.append_nil,zca,itD,z92],λ _=>by simp only[fnR,fnW,zez,zaw,sIf,zbn,zi9,zja,zfn,zce,zf5,zma,zmb,zfo,zmc,zhr,zbm,eC,zal,zaa,L2.e1,L2.e2,eN,aN,aC,tE,zdj,bOr,zd6,eT,eSl,oN,oS,toI,toB,eM,tyN,zat,zc2,zea,eL,lOk,wN,zt6,zb3,zfm,iE,iR,gN,gT,gTC,gT0,zll,zbi,zc8,zfb,gII,zl6,zb7,zcy,za1,List.map_cons,List.map_nil,List.length_cons,List.length_nil,List.cons_append,List.nil_append,List.replicate,Nat.sub_self,Nat.reduceAdd,Nat.reduceSub,Nat.reduceLeDiff,Nat.zero_add,List.set_cons_zero,List.set_cons_succ,List.getElem?_cons_zero,List.getElem?_cons_succ,Option.bind_some,Option.bind_none,Option.map_some,Option.map_none,Option.getD_some,if_pos,ite_true,ite_false,reduceIte,Bool.not_true,Bool.not_false,Bool.false_eq_true,reduceCtorEq,List.append_nil,zca,itD]⟩
 have hf:((zby l).filter λ c=>decide (c∈LF)).length<=l.length+2:=Nat.le_trans (List.length_filter_le _ _) hs
 simp only[fnR,fnW,zez,zaw,sIf,zbn,zi9,zja,zfn,zce,zf5,zma,zmb,zfo,zmc,zhr,zbm,eC,zal,zaa,L2.e1,L2.e2,eN,aN,aC,tE,zdj,bOr,zd6,eT,eSl,oN,oS,toI,toB,eM,tyN,zat,zc2,zea,eL,lOk,wN,zt6,zb3,zfm,iE,iR,gN,gT,gTC,gT0,zll,zbi,zc8,zfb,gII,zl6,zb7,zcy,za1,List.map_cons,List.map_nil,List.length_cons,List.length_nil,List.cons_append,List.nil_append,List.replicate,Nat.sub_self,Nat.reduceAdd,Nat.reduceSub,Nat.reduceLeDiff,Nat.zero_add,List.set_cons_zero,List.set_cons_succ,List.getElem?_cons_zero,List.getElem?_cons_succ,Option.bind_some,Option.bind_none,Option.map_some,Option.map_none,Option.getD_some,if_pos,ite_true,ite_false,reduceIte,Bool.not_true,Bool.not_false,Bool.false_eq_true,reduceCtorEq,List.append_nil,zca,itD,znz l h,ycz,List.length_map,sz (show (zby l).length<=100000 by omega),hcomp]
 have e:(List.map (λ c=>D.str [c]) (List.filter (λ c=>decide (c∈LF)) (zby l)))=((List.filter (λ c=>decide (c∈LF)) (zby l)).map λ c=>[c]).map D.str:=by rw[List.map_map];rfl
 rw[e,z0n,zkn,yap]
 ·simp only[fnR,fnW,zez,zaw,sIf,zbn,zi9,zja,zfn,zce,zf5,zma,zmb,zfo,zmc,zhr,zbm,eC,zal,zaa,L2.e1,L2.e2,eN,aN,aC,tE,zdj,bOr,zd6,eT,eSl,oN,oS,toI,toB,eM,tyN,zat,zc2,zea,eL,lOk,wN,zt6,zb3,zfm,iE,iR,gN,gT,gTC,gT0,zll,zbi,zc8,zfb,gII,zl6,zb7,zcy,za1,List.map_cons,List.map_nil,List.length_cons,List.length_nil,List.cons_append,List.nil_append,List.replicate,Nat.sub_self,Nat.reduceAdd,Nat.reduceSub,Nat.reduceLeDiff,Nat.zero_add,List.set_cons_zero,List.set_cons_succ,List.getElem?_cons_zero,List.getElem?_cons_succ,Option.bind_some,Option.bind_none,Option.map_some,Option.map_none,Option.getD_some,if_pos,ite_true,ite_false,reduceIte,Bool.not_true,Bool.not_false,Bool.false_eq_true,reduceCtorEq,List.append_nil,zca,itD]
  rw[zva]
  ·intro c hc
   exact zsr ha c (List.mem_filter.mp hc).1
  ·exact sz (by omega)
 ·rw[yao]
  simp
  omega
theorem zjq:∀ c∈SG,c<128/\c≠44/\c≠124/\c≠32:=by decide
theorem zyi:SG.length=63:=rfl
def gd (c:Nat):Prop:=c∈SG\/c=32\/c=124
theorem z6d {c:Nat} (h:gd c):c<128:=by
 rcases h with h|h|h
 ·exact (zjq c h).1
 ·omega
 ·omega
theorem yaq {c:Nat} (h:gd c):c≠44:=by
 rcases h with h|h|h
 ·exact (zjq c h).2.1
 ·omega
 ·omega
structure GdH (l:List Nat):Prop where
 g:∀ c∈l,gd c
 len:l.length<=60
 pos:1<=l.length
def dgL (i:Int):List Nat:=(Str.ofString (toString i)).cps.toList
def dgT (n:Nat):Bool:=(dgL (n:Int)).all (λ c=>decide (c∈SG)) && decide ((dgL (n:Int)).length<=3) && decide (1<=(dgL (n:Int)).length)
theorem yar:∀ n,n<500->dgT n=true:=by decide +kernel
theorem z19 {k:Int} (h0:0<=k) (h1:k<1000):(∀ c∈dgL (k / 2),c∈SG)/\(dgL (k / 2)).length<=3/\1<=(dgL (k / 2)).length:=by
 obtain ⟨n,hn⟩:=Int.eq_ofNat_of_zero_le (show 0<=k / 2 by omega)
 rw[hn]
 have:=yar n (by omega)
 unfold dgT at this
 simp only[Bool.and_eq_true,decide_eq_true_eq,List.all_eq_true] at this
 exact⟨this.1.1,this.1.2,this.2⟩
theorem z2a (i:Int) (h:i.natAbs.log2<1920):zry [.int i]=some (.str (dgL i)):=by
 unfold zry
 dsimp only
 rw[if_pos h]
 show some (D.sc (.str _))=some (D.sc (.str (S (Str.ofString (toString i)).cps.toList)))
 rw[<-ycq]
def baF (c:Int) (n:Nat):List Nat:=(List.range n).map λ (j:Nat)=>SG.getD ((c / ((j:Int)+5)+7 * (j:Int) * (j:Int)) % 63).toNat 0
def hd0 (c k:Int) (b:List Nat):List Nat:=b.take (c / 15 % ((b.length:Nat)+1)).toNat++dgL (k / 2)++b.drop (c / 15 % ((b.length:Nat)+1)).toNat
def hd1 (c k:Int) (b h:List Nat):List Nat:=if (c / 240+k / 2) % 6=1 then h++[124]++b else if (c / 240+k / 2) % 6=5 then h++[124]++b.take 3++[32]++b.take 3 else if (c / 240+k / 2) % 6=2 then b++[32]++h else if (c / 240+k / 2) % 6=3 then [45]++h else h
def hbF (c k:Int):List Nat:=if k % 2=1 then hd1 c k (baF c (1+c % 3).toNat) (hd0 c k (baF c (1+c % 3).toNat))++[45] else hd1 c k (baF c (1+c % 3).toNat) (hd0 c k (baF c (1+c % 3).toNat))
theorem zst (c:Int) (n:Nat):(baF c n).length=n:=by unfold baF;rw[List.length_map,List.length_range]
theorem z6e (c:Int) (n:Nat):∀ z∈baF c n,z∈SG:=λ z hz=>by
 obtain ⟨j,_,rfl⟩:=List.mem_map.mp hz
 have h1:=Int.emod_nonneg (c / ((j:Int)+5)+7 * (j:Int) * (j:Int)) (show (63:Int)≠0 by decide)
 have h2:=Int.emod_lt_of_pos (c / ((j:Int)+5)+7 * (j:Int) * (j:Int)) (show (0:Int)<63 by decide)
 generalize (c / ((j:Int)+5)+7 * (j:Int) * (j:Int)) % 63=i at h1 h2
 have hi:i.toNat<SG.length:=by rw[zyi];omega
 rw[List.getD_eq_getElem?_getD,List.getElem?_eq_getElem hi]
 exact List.getElem_mem hi
def z6f:Rho->Out:=zbn 3 (e2 zb6 (zaa 3) (e2 gIx (zaa 2) (e2 zb5 (e2 zb6 (e2 zew (zaa 0) (e2 zb6 (zaa 4) (eC (.int 5)))) (e2 zdu (e2 zdu (eC (.int 7)) (zaa 4)) (zaa 4))) (eC (.int 63)))))
theorem zsu (c:Int) (a1:Option Sl):∀ (n m:Nat) (z:Option Sl),m+n<=1000->∃ z',zid (gN 4) z6f (zj1 ((m:Nat):Int) n) [some (.sh (.int c)),a1,some (.sh (.str SG)),some (.sh (.str (baF c m))),z,none,none,none]=.nx [some (.sh (.int c)),a1,some (.sh (.str SG)),some (.sh (.str (baF c (m+n)))),z',none,none,none]
 | 0,m,z,_=>⟨z,rfl⟩
 | n+1,m,z,h=>by
  obtain ⟨z',e⟩:=zsu c a1 n (m+1) (some (.sh (.int (m:Nat)))) (by omega)
  refine⟨z',?_⟩
  rw[zdz,show ((m:Nat):Int)+1=((m+1:Nat):Int) by omega,show m+(n+1)=m+1+n by omega]
  refine (zcm rfl ?_).trans e
  have h1:=Int.emod_nonneg (c / ((m:Int)+5)+7 * (m:Int) * (m:Int)) (show (63:Int)≠0 by decide)
  have h2:=Int.emod_lt_of_pos (c / ((m:Int)+5)+7 * (m:Int) * (m:Int)) (show (0:Int)<63 by decide)
  have hb:baF c (m+1)=baF c m++[SG.getD ((c / ((m:Int)+5)+7 * (m:Int) * (m:Int)) % 63).toNat 0]:=by
   unfold baF
   rw[List.range_succ,List.map_append];rfl
  have hx:gIx (.str SG) (.int ((c / ((m:Int)+5)+7 * (m:Int) * (m:Int)) % 63))=some (.str [SG.getD ((c / ((m:Int)+5)+7 * (m:Int) * (m:Int)) % 63).toNat 0]):=by
   generalize (c / ((m:Int)+5)+7 * (m:Int) * (m:Int)) % 63=i at h1 h2
   obtain ⟨j,rfl⟩:=Int.eq_ofNat_of_zero_le h1
   refine z5g (sz (by decide)) (zir ?_)
   have hj:j<SG.length:=by rw[zyi];omega
   rw[Int.toNat_natCast,List.getD_eq_getElem?_getD,List.getElem?_eq_getElem hj];rfl
  refine (zai (zae rfl (zae rfl (zae (zae (zae rfl (zae rfl rfl zc5) (zdw (by omega))) (zae (zae rfl rfl (zif (zje ⟨by omega,by omega⟩))) rfl (zif (zje ⟨by omega,by omega⟩))) zc5) rfl (zbx (by decide))) hx) (zep _ _ (sz (by rw[zst];simp;omega))))).trans ?_
  rw[hb];rfl
theorem zn0 {n:Nat} (h:n<=1000000):zq9 [.int (n:Nat)]=some (zj1 ((0:Nat):Int) n):=by
 rw[zrn rfl h]
 unfold zj1
 refine congrArg some (List.map_congr_left λ k _=>?_)
 show D.int _=D.int _
 rw[show ((0:Nat):Int)+(k:Nat)=((k:Nat):Int) by omega]
theorem zsv {b d:List Nat} (n:Nat):(b.take n++d++b.drop n).length=b.length+d.length:=by
 rw[List.length_append,List.length_append,List.length_take,List.length_drop];omega
theorem zsw (c k:Int) (h0:0<=k) (h1:k<1000):zpk [.int c,.int k]=some (.str (hbF c k)):=by
 have m1:=Int.emod_nonneg c (show (3:Int)≠0 by decide)
 have m2:=Int.emod_lt_of_pos c (show (0:Int)<3 by decide)
 obtain ⟨n,hn⟩:=Int.eq_ofNat_of_zero_le (show 0<=1+c % 3 by omega)
 unfold hbF
 rw[hn,Int.toNat_natCast]
 have hn16:n<=16:=by omega
 obtain ⟨z',el⟩:=zsu c (some (.sh (.int k))) n 0 none (by omega)
 rw[Nat.zero_add] at el
 have bl:=zst c n
 generalize hb:baF c n=b at *
 obtain ⟨g1,g2,g3⟩:=z19 h0 h1
 have a1:=Int.emod_nonneg (c / 15) (show (((b.length:Nat):Int)+1)≠0 by omega)
 have a2:=Int.emod_lt_of_pos (c / 15) (show (0:Int)<((b.length:Nat):Int)+1 by omega)
 unfold hd0
 obtain ⟨at',hat⟩:=Int.eq_ofNat_of_zero_le a1
 rw[hat,Int.toNat_natCast]
 have hle:at'<=b.length:=by omega
 have hlog:(k / 2).natAbs.log2<1920:=by
  by_cases hz:k / 2=0
  ·rw[hz];decide
  ·exact Nat.lt_of_lt_of_le ((Nat.log2_lt (by omega)).mpr (show (k / 2).natAbs<2 ^ 10 by omega)) (by decide)
 have lh:=zsv (b:=b) (d:=dgL (k / 2)) at'
 refine za9 rfl (st rfl (st rfl (st (zdf (zox (ds:=[.int (n:Nat)]) (zak (zae rfl (zae rfl rfl (zbx (by decide))) (zc5.trans (by rw[hn]))) rfl) (zn0 (by omega))) el) ?_)))
 refine st (zai (d:=.int (at':Nat)) (zae (zae rfl rfl (zdw (by decide))) (zae (zas rfl (show zb7 [.str b]=some (.int (b.length:Nat)) by unfold zb7;dsimp only;rw[zho,if_pos (sz (by omega))])) rfl zc5) ((zbx (by omega)).trans (by rw[hat])))) ?_
 refine st (zai (d:=.str (b.take at'++dgL (k / 2)++b.drop at')) (zae (zae (zrk b at' (sz (by omega))) (zas (zak (zae rfl rfl (zdw (by decide))) rfl) (z2a _ hlog)) (zep _ _ (sz (by rw[List.length_take];omega)))) (zng b at' (sz (by omega)) hle) (zep _ _ (sz (by rw[List.length_append,List.length_take,List.length_drop];omega))))) ?_
 generalize b.take at'++dgL (k / 2)++b.drop at'=h at *
 have w1:=Int.emod_nonneg (c / 240+k / 2) (show (6:Int)≠0 by decide)
 have w2:=Int.emod_lt_of_pos (c / 240+k / 2) (show (0:Int)<6 by decide)
 refine st (zai (zae (zae (zae rfl rfl (zdw (by decide))) (zae rfl rfl (zdw (by decide))) zc5) rfl (zbx (by decide)))) ?_
 unfold hd1
 generalize (c / 240+k / 2) % 6=w at *
 have ht:∀ (x:Int) (hx:List Nat),tE (e2 zc8 (zaa 7) (eC (.int x))) [some (.sh (.int c)),some (.sh (.int k)),some (.sh (.str SG)),some (.sh (.str b)),z',some (.sh (.int (at':Nat))),some (.sh (.str hx)),some (.sh (.int w))]=some (decide (w=x)):=λ x hx=>za4 (zae rfl rfl (zef zgy))
 have hk:∀ hx:List Nat,tE (e2 zc8 (e2 zb5 (zaa 1) (eC (.int 2))) (eC (.int 1))) [some (.sh (.int c)),some (.sh (.int k)),some (.sh (.str SG)),some (.sh (.str b)),z',some (.sh (.int (at':Nat))),some (.sh (.str hx)),some (.sh (.int w))]=some (decide (k % 2=1)):=λ hx=>za4 (zae (zae rfl rfl (zbx (by decide))) rfl (zef zgy))
 have fin:∀ hx:List Nat,hx.length<=1000->zaw (sIf (tE (e2 zc8 (e2 zb5 (zaa 1) (eC (.int 2))) (eC (.int 1)))) (zce (e2 zb6 (zaa 6) (eC (.str [45])))) zbm) (zce (zal 6)) [some (.sh (.int c)),some (.sh (.int k)),some (.sh (.str SG)),some (.sh (.str b)),z',some (.sh (.int (at':Nat))),some (.sh (.str hx)),some (.sh (.int w))]=.rt (.str (if k % 2=1 then hx++[45] else hx)):=λ hx hl=>by
  have q:=hk hx
  by_cases hk2:k % 2=1
  ·rw[decide_eq_true hk2] at q
   rw[if_pos hk2]
   exact zjd ((zme q).trans (zbd (zae rfl rfl (zep hx [45] (sz (by simp;omega))))))
  ·rw[decide_eq_false hk2] at q
   rw[if_neg hk2]
   exact st ((zc3 q).trans rfl) rfl
 have no:∀ (x:Int) (hx:List Nat) (f:Rho->Out),w≠x->sIf (tE (e2 zc8 (zaa 7) (eC (.int x)))) f zbm [some (.sh (.int c)),some (.sh (.int k)),some (.sh (.str SG)),some (.sh (.str b)),z',some (.sh (.int (at':Nat))),some (.sh (.str hx)),some (.sh (.int w))]=.nx [some (.sh (.int c)),some (.sh (.int k)),some (.sh (.str SG)),some (.sh (.str b)),z',some (.sh (.int (at':Nat))),some (.sh (.str hx)),some (.sh (.int w))]:=λ x hx f hne=>by
  have q:=ht x hx
  rw[decide_eq_false hne] at q
  exact (zc3 q).trans rfl
 have b3:(b.take 3).length<=3:=by rw[List.length_take];omega
 have yes:∀ (x:Int) (f:Rho->Out) (ρ:Rho),w=x->f [some (.sh (.int c)),some (.sh (.int k)),some (.sh (.str SG)),some (.sh (.str b)),z',some (.sh (.int (at':Nat))),some (.sh (.str h)),some (.sh (.int w))]=.nx ρ->sIf (tE (e2 zc8 (zaa 7) (eC (.int x)))) f zbm [some (.sh (.int c)),some (.sh (.int k)),some (.sh (.str SG)),some (.sh (.str b)),z',some (.sh (.int (at':Nat))),some (.sh (.str h)),some (.sh (.int w))]=.nx ρ:=λ x f ρ he hf=>by
  have q:=ht x h
  rw[decide_eq_true he] at q
  exact (zme q).trans hf
 by_cases e1':w=1
 ·rw[if_pos e1']
  refine st (yes 1 _ _ e1' (zai (d:=.str (h++[124]++b)) (zae (zae rfl rfl (zep h [124] (sz (by simp;omega)))) rfl (zep _ b (sz (by simp;omega)))))) ?_
  exact st (no 5 _ _ (by omega)) (st (no 2 _ _ (by omega)) (st (no 3 _ _ (by omega)) (fin _ (by simp;omega))))
 ·rw[if_neg e1']
  refine st (no 1 _ _ e1') ?_
  by_cases e5':w=5
  ·rw[if_pos e5']
   have s3:eSl (zaa 3) oN (oS (eC (.int 3))) [some (.sh (.int c)),some (.sh (.int k)),some (.sh (.str SG)),some (.sh (.str b)),z',some (.sh (.int (at':Nat))),some (.sh (.str h)),some (.sh (.int w))]=some (.str (b.take 3)):=zrk b 3 (sz (by omega))
   refine st (yes 5 _ _ e5' (zai (d:=.str (h++[124]++b.take 3++[32]++b.take 3)) (zae (zae (zae (zae rfl rfl (zep h [124] (sz (by simp;omega)))) s3 (zep _ _ (sz (by simp;omega)))) rfl (zep _ [32] (sz (by simp;omega)))) s3 (zep _ _ (sz (by simp;omega)))))) ?_
   exact st (no 2 _ _ (by omega)) (st (no 3 _ _ (by omega)) (fin _ (by simp;omega)))
  ·rw[if_neg e5']
   refine st (no 5 _ _ e5') ?_
   by_cases e2':w=2
   ·rw[if_pos e2']
    refine st (yes 2 _ _ e2' (zai (d:=.str (b++[32]++h)) (zae (zae rfl rfl (zep b [32] (sz (by simp;omega)))) rfl (zep _ h (sz (by simp;omega)))))) ?_
    exact st (no 3 _ _ (by omega)) (fin _ (by simp;omega))
   ·rw[if_neg e2']
    refine st (no 2 _ _ e2') ?_
    by_cases e3':w=3
    ·rw[if_pos e3']
     exact st (yes 3 _ _ e3' (zai (d:=.str ([45]++h)) (zae rfl rfl (zep [45] h (sz (by simp;omega)))))) (fin _ (by simp;omega))
    ·rw[if_neg e3']
     exact st (no 3 _ _ e3') (fin _ (by omega))
theorem z6g {l:List Nat} (h:∀ z∈l,z∈SG):∀ z∈l,gd z:=λ z hz=>.inl (h z hz)
theorem zdm {a b:List Nat} (ha:∀ z∈a,gd z) (hb:∀ z∈b,gd z):∀ z∈a++b,gd z:=λ z hz=>(List.mem_append.mp hz).elim (ha z) (hb z)
theorem zsx {c:Nat} (h:gd c):∀ z∈[c],gd z:=λ z hz=>by rw[List.mem_singleton.mp hz];exact h
theorem zsy (c k:Int) (h0:0<=k) (h1:k<1000):GdH (hbF c k):=by
 have m1:=Int.emod_nonneg c (show (3:Int)≠0 by decide)
 have m2:=Int.emod_lt_of_pos c (show (0:Int)<3 by decide)
 obtain ⟨n,hn⟩:=Int.eq_ofNat_of_zero_le (show 0<=1+c % 3 by omega)
 unfold hbF hd0
 rw[hn,Int.toNat_natCast]
 have bl:=zst c n
 have bs:=z6g (z6e c n)
 generalize baF c n=b at *
 obtain ⟨g1,g2,g3⟩:=z19 h0 h1
 generalize (c / 15 % ((b.length:Nat)+1)).toNat=at'
 have lh:=zsv (b:=b) (d:=dgL (k / 2)) at'
 have hh:∀ z∈b.take at'++dgL (k / 2)++b.drop at',gd z:=zdm (zdm (λ z hz=>bs z (List.mem_of_mem_take hz)) (z6g g1)) λ z hz=>bs z (List.mem_of_mem_drop hz)
 generalize b.take at'++dgL (k / 2)++b.drop at'=h at *
 have t3:∀ z∈b.take 3,gd z:=λ z hz=>bs z (List.mem_of_mem_take hz)
 have l3:(b.take 3).length<=3:=by rw[List.length_take];omega
 have x124:=zsx (c:=124) (.inr (.inr rfl))
 have x32:=zsx (c:=32) (.inr (.inl rfl))
 have x45:=zsx (c:=45) (.inl (by decide))
 have r:(∀ z∈hd1 c k b h,gd z)/\(hd1 c k b h).length<=55/\1<=(hd1 c k b h).length:=by
  unfold hd1
  split
  ·exact⟨zdm (zdm hh x124) bs,by simp;omega,by simp;omega⟩
  ·split
   ·exact⟨zdm (zdm (zdm (zdm hh x124) t3) x32) t3,by simp;omega,by simp;omega⟩
   ·split
    ·exact⟨zdm (zdm bs x32) hh,by simp;omega,by simp;omega⟩
    ·split
     ·exact⟨zdm x45 hh,by simp;omega,by simp⟩
     ·exact⟨hh,by omega,by omega⟩
 split
 ·exact⟨zdm r.1 x45,by simp;omega,by simp⟩
 ·exact⟨r.1,by omega,r.2.2⟩
theorem z2b {l:List Nat} (h:GdH l):asc l:=λ c hc=>z6d (h.g c hc)
theorem z6h {l:List Nat} (h:GdH l):44 ∉ l:=λ hc=>yaq (h.g 44 hc) rfl
theorem zjr {c:Nat}:∀ {a r:List Nat},c ∉ a->zel c (a++c::r)=a.length
 | [],r,_=>by simp[zel]
 | x::a,r,h=>by
  have hx:¬ x=c:=λ e=>h (by simp[e])
  have ih:=zjr (c:=c) (a:=a) (r:=r) (λ z=>h (List.mem_cons_of_mem _ z))
  show (if x=c then 0 else zel c (a++c::r)+1)=a.length+1
  rw[if_neg hx,ih]
theorem zlb {c:Nat}{l:List Nat} (h:c∈l):l=l.take (zel c l)++c::l.drop (zel c l+1):=by
 obtain ⟨h1,_⟩:=zet c l h
 have hlt:=zqo c l h
 have e:=List.drop_eq_getElem_cons hlt
 have e2:l[zel c l]=c:=by
  rw[List.getElem?_eq_getElem hlt] at h1
  exact Option.some.inj h1
 rw[e2] at e
 rw[<-e,List.take_append_drop]
theorem zsz {l m:List Nat} (hl:44 ∉ l) (hm:44 ∉ m) (h:zby l=zby m):l=m:=by
 unfold zby at h
 have key:∀ {x y:List Nat},44 ∉ x->124∈y->44 ∉ y->x=y.drop (zel 124 y+1)++[44,32]++y.take (zel 124 y)->False:=λ {x y} hx _ _ e=>hx (by rw[e];simp)
 by_cases h1:124∈l
 ·by_cases h2:124∈m
  ·rw[if_pos h1,if_pos h2] at h
   have n1:44 ∉ l.drop (zel 124 l+1):=λ z=>hl (List.mem_of_mem_drop z)
   have n2:44 ∉ m.drop (zel 124 m+1):=λ z=>hm (List.mem_of_mem_drop z)
   have e1:=zjr (r:=32::l.take (zel 124 l)) n1
   have e2:=zjr (r:=32::m.take (zel 124 m)) n2
   have h':l.drop (zel 124 l+1)++44::32::l.take (zel 124 l)=m.drop (zel 124 m+1)++44::32::m.take (zel 124 m):=by simpa using h
   rw[h',e2] at e1
   obtain ⟨q1,q2⟩:=List.append_inj h' e1.symm
   have q3:l.take (zel 124 l)=m.take (zel 124 m):=by simpa using q2
   rw[zlb h1,zlb h2,q1,q3]
  ·rw[if_pos h1,if_neg h2] at h
   exact (key hm h1 hl h.symm).elim
 ·by_cases h2:124∈m
  ·rw[if_neg h1,if_pos h2] at h
   exact (key hl h2 hm h).elim
  ·rw[if_neg h1,if_neg h2] at h
   exact h
def rkD (l:List Nat):D:=.tup [.str (yan l),.str (zby l)]
theorem zv0 (a b c d:List Nat):zb1 [.str a,.str b] [.str c,.str d]=(decide (a=c) && decide (b=d)):=by
 simp only[zb1,zmg,Bool.and_true]
theorem yas {l m:List Nat} (hl:44 ∉ l) (hm:44 ∉ m):deq (rkD l) (rkD m)=decide (l=m):=by
 unfold rkD
 rw[deq,zv0]
 by_cases h:l=m
 ·subst h;simp
 ·have:¬ zby l=zby m:=λ z=>h (zsz hl hm z)
  simp[h,this]
theorem zyj:∀ {as bs:List (List Nat)},(∀ a∈as,44 ∉ a)->(∀ b∈bs,44 ∉ b)->zb1 (as.map rkD) (bs.map rkD)=decide (as=bs)
 | [],[],_,_=>by simp[zb1]
 | [],b::bs,_,_=>by simp[zb1]
 | a::as,[],_,_=>by simp[zb1]
 | a::as,b::bs,h1,h2=>by
  simp only[List.map_cons,zb1]
  rw[yas (h1 a (by simp)) (h2 b (by simp)),zyj (λ x hx=>h1 x (by simp[hx])) (λ x hx=>h2 x (by simp[hx]))]
  by_cases e:a=b <;> simp[e]
theorem zms:∀ (as bs:List (List Nat)),zb1 (as.map D.str) (bs.map D.str)=decide (as=bs)
 | [],[]=>by simp[zb1]
 | [],b::bs=>by simp[zb1]
 | a::as,[]=>by simp[zb1]
 | a::as,b::bs=>by
  simp only[List.map_cons,zb1]
  rw[zmg,zms as bs]
  by_cases e:a=b <;> simp[e]
theorem z2c (as:List (List Nat)):dOk LV (.lst (as.map rkD))=true:=by
 show (as.map rkD).all (dOk 8)=true
 rw[List.all_map,List.all_eq_true]
 intro x _
 rfl
theorem ze5 (as:List (List Nat)):dOk LV (.tup (as.map D.str))=true:=by
 show (as.map D.str).all (dOk 8)=true
 rw[List.all_map,List.all_eq_true]
 intro x _
 rfl
theorem zjs (hs:List (List Nat)) (ha:∀ h∈hs,asc h/\h.length<=1000) (hn:hs.length<=1000):zdp [.tup (hs.map D.str)]=some (.lst (hs.map rkD)):=by
 refine za9 rfl (zbd (zfq (zdg (ds:=hs.map D.str) rfl (by rw[List.length_map];exact sz (by omega)) ?_)))
 exact zc4 D.str rkD hs λ h hh=>⟨_,rfl,rfl,zas (zak (zan rfl rfl (z6c h (ha h hh).1 (ha h hh).2)) (zak (zan rfl rfl (znz h (ha h hh).2)) rfl)) rfl⟩
theorem zlc (ns:List Int) (k:Nat):zt7 [.lst (ns.map D.int),.int (k:Nat)]=some (.int (dAt ns k)):=by
 have q:tE (e2 gLt (zaa 1) (eN zb7 (aC (zaa 0) aN))) [some (.sh (.lst (ns.map D.int))),some (.sh (.int (k:Nat)))]=some (decide (((k:Nat):Int)<(ns.length:Nat))):=za4 (zae rfl (zas rfl zsh) z5d)
 cases hq:decide (((k:Nat):Int)<(ns.length:Nat)) with
 | true =>
  rw[hq] at q
  exact za9 rfl (zjd ((zme q).trans (zbd (zae rfl rfl (zye (by have:=of_decide_eq_true hq;omega))))))
 | false =>
  rw[hq] at q
  refine za9 rfl (st ((zc3 q).trans rfl) (zbd ?_))
  have:dAt ns k=0:=by
   unfold dAt
   have:=of_decide_eq_false hq
   rw[List.getD_eq_getElem?_getD,List.getElem?_eq_none (by omega)];rfl
  rw[this];rfl
structure GdP (hs:List (List Nat)):Prop where
 g:∀ h∈hs,GdH h
 len:hs.length<=6
 pos:1<=hs.length
def MkD (hs:List (List Nat)) (f l:Int) (m:Bool):D:=.tup [.tup (hs.map D.str),.int f,.int l,.bl m]
def GdM (d:D):Prop:=∃ hs f l m,GdP hs/\d=MkD hs f l m
theorem GdP.asc {hs:List (List Nat)} (h:GdP hs):∀ l∈hs,asc l/\l.length<=1000:=λ l hl=>⟨z2b (h.g l hl),Nat.le_trans (h.g l hl).len (by decide)⟩
theorem GdP.nc {hs:List (List Nat)} (h:GdP hs):∀ l∈hs,44 ∉ l:=λ l hl=>z6h (h.g l hl)
theorem zbv {hs:List (List Nat)} (h:GdP hs) (f l:Int) (m:Bool):zfv [MkD hs f l m]=some (.tup [.lst (hs.map rkD),.int f,.int l,.bl m]) :=
 za9 rfl (zbd (zas (zak (zan (zak (zae rfl rfl rfl) rfl) rfl (zjs hs h.asc (Nat.le_trans h.len (by decide)))) (zak (zae rfl rfl rfl) (zak (zae rfl rfl rfl) (zak (zae rfl rfl rfl) rfl)))) rfl))
abbrev CRk:D->Prop:=ybz λ _=>z1u λ _=>yam
theorem zg9:TotD CRk:=z1v λ _=>zjm λ _=>zsl
theorem crk (hs:List (List Nat)):CRk (.lst (hs.map rkD)):=⟨_,rfl,zsp λ d hd=>by
 obtain ⟨l,_,rfl⟩:=List.mem_map.mp hd
 exact⟨_,rfl,⟨_,rfl⟩,⟨_,rfl⟩,True.intro⟩⟩
def CMf:Nat->D->Prop|0=>CRk|1=>yal|2=>yal|_=>CBl
theorem yat:TotD (z1u CMf):=zjm λ i=>match i with|0=>zg9|1=>zsj|2=>zsj|_+3=>zyf
theorem zjt {hs gs:List (List Nat)} (h:GdP hs) (g:GdP gs) (e:hs.map rkD=gs.map rkD):hs=gs:=by
 have h1:=zyj h.nc g.nc
 rw[<-e] at h1
 obtain ⟨ds,e1,e2⟩:=crk hs
 have e1:hs.map rkD=ds:=D.lst.inj e1
 have h2:=(zny (C:=λ _=>z1u λ _=>yam) (λ _=>zjm λ _=>zsl) (hs.map rkD) (hs.map rkD) (by rw[e1];exact e2) (by rw[e1];exact e2)).mpr rfl
 rw[h2] at h1
 exact of_decide_eq_true h1.symm
structure Rkd (F:List D->Option D) (C Gd:D->Prop):Prop where
 T:TotD C
 ex:∀ d,Gd d->F [d]=some (rk F d)
 cl:∀ d,Gd d->C (rk F d)
 dk:∀ d,Gd d->dOk LV (rk F d)=true
 kb:∀ d,Gd d->znn (rk F d)=false/\z0w (rk F d)=true
 inj:∀ d e,Gd d->Gd e->rk F d=rk F e->d=e
theorem yau:Rkd zfv (z1u CMf) GdM where
 T:=yat
 ex:=λ d ⟨hs,f,l,m,h,e⟩=>by subst e;rw[zec (zbv h f l m)];exact zbv h f l m
 cl:=λ d ⟨hs,f,l,m,h,e⟩=>by subst e;rw[zec (zbv h f l m)];exact⟨_,rfl,crk hs,⟨_,rfl⟩,⟨_,rfl⟩,⟨_,rfl⟩,True.intro⟩
 dk:=λ d ⟨hs,f,l,m,h,e⟩=>by subst e;rw[zec (zbv h f l m)];simp[dOk,LV,rkD]
 kb:=λ d ⟨hs,f,l,m,h,e⟩=>by subst e;rw[zec (zbv h f l m)];exact⟨rfl,rfl⟩
 inj:=λ d e ⟨hs,f,l,m,h,e1⟩ ⟨gs,f',l',m',h',e2⟩ z=>by
  subst e1 e2
  rw[zec (zbv h f l m),zec (zbv h' f' l' m')] at z
  have z:=D.tup.inj z
  simp only[List.cons.injEq,D.lst.injEq] at z
  obtain ⟨z1,z2,z3,z4,_⟩:=z
  have:=zjt h h' z1
  subst this
  unfold MkD
  rw[z2,z3,z4]
section
variable {F:List D->Option D}{C Gd:D->Prop} (R:Rkd F C Gd)
include R
theorem Rkd.ltT {ks:List D} (hg:∀ d∈ks,Gd d):LtT (ltK F) ks where
 tr:=λ a ha b hb c hc h1 h2=>R.T.tr _ _ _ (R.cl a (hg a ha)) (R.cl b (hg b hb)) (R.cl c (hg c hc)) h1 h2
 tot:=λ a ha b hb=>by
  rcases R.T.tot _ _ (R.cl a (hg a ha)) (R.cl b (hg b hb)) with z|z
  ·exact .inl (R.inj a b (hg a ha) (hg b hb) z)
  ·exact .inr z
 as:=λ a ha b hb h=>R.T.as _ _ (R.cl a (hg a ha)) (R.cl b (hg b hb)) h
theorem Rkd.kok {ks:List D} (hg:∀ d∈ks,Gd d) (nd:ks.Nodup) (sm:ks.length<64):KOk F ks where
 ex:=λ d hd=>⟨_,R.ex d (hg d hd),R.dk d (hg d hd)⟩
 kd:=.inr λ d hd=>R.kb d (hg d hd)
 ok:=λ d hd e he=>R.T.ok _ _ (R.cl d (hg d hd)) (R.cl e (hg e he))
 lt:=R.ltT hg
 nd:=nd
 sm:=sm
end
def dd (l:List D):List D:=l.foldl zf7 []
theorem z2d:∀ (l acc:List D),acc.Nodup->(l.foldl zf7 acc).Nodup/\∀ d,d∈l.foldl zf7 acc↔d∈acc\/d∈l
 | [],acc,h=>⟨h,λ d=>by simp⟩
 | x::r,acc,h=>by
  rw[List.foldl_cons]
  have h2:(zf7 acc x).Nodup/\∀ d,d∈zf7 acc x↔d∈acc\/d=x:=by
   unfold zf7
   split
   ·rename_i hx;exact⟨h,λ d=>⟨.inl,λ z=>z.elim id λ e=>by rw[e];exact hx⟩⟩
   ·rename_i hx;exact⟨List.nodup_append.mpr ⟨h,by simp,λ a ha b hb e=>hx (by rw[List.mem_singleton.mp hb] at e;rw[<-e];exact ha)⟩,λ d=>by simp⟩
  obtain ⟨i1,i2⟩:=z2d r (zf7 acc x) h2.1
  refine⟨i1,λ d=>?_⟩
  rw[i2,h2.2,List.mem_cons,or_assoc]
theorem zhy (l:List D):(dd l).Nodup:=(z2d l [] List.nodup_nil).1
theorem zcw {l:List D}{d:D}:d∈dd l↔d∈l:=by
 have:=(z2d l [] List.nodup_nil).2 d
 simpa [dd] using this
theorem ze6:∀ {l m:List D},l.Nodup->(∀ d∈l,d∈m)->l.length<=m.length
 | [],m,_,_=>Nat.zero_le _
 | x::r,m,h,hs=>by
  have h':=List.nodup_cons.mp h
  obtain ⟨m1,m2,e⟩:=List.append_of_mem (hs x List.mem_cons_self)
  have:=ze6 (m:=m1++m2) h'.2 λ d hd=>by
   have h1:=hs d (List.mem_cons_of_mem _ hd)
   rw[e] at h1
   have hne:d≠x:=λ z=>h'.1 (by rw[<-z];exact hd)
   simp only[List.mem_append,List.mem_cons] at h1 ⊢
   rcases h1 with h1|h1|h1
   ·exact .inl h1
   ·exact absurd h1 hne
   ·exact .inr h1
  rw[e]
  simp at this ⊢
  omega
theorem zv1 {F:List D->Option D}{C Gd:D->Prop} (R:Rkd F C Gd) {l m:List D} (hg:∀ d∈l,Gd d) (h:∀ d,d∈l↔d∈m):zk0 (ltK F) (dd m)=zk0 (ltK F) (dd l):=by
 have hgm:∀ d∈dd m,Gd d:=λ d hd=>hg d ((h d).mpr (zcw.mp hd))
 have hgl:∀ d∈dd l,Gd d:=λ d hd=>hg d (zcw.mp hd)
 have T:=R.ltT hgl
 refine znr T (zhy l) ?_ ?_
 ·refine (zbr _ _).trans ((List.perm_ext_iff_of_nodup (zhy m) (zhy l)).mpr λ d=>?_)
  rw[zcw,zcw,h]
 ·have Tm:=R.ltT hgm
  have up:=zmi Tm (l:=dd m) (λ y hy=>hy) (zhy m)
  refine List.Pairwise.imp_of_mem (λ {a b} ha hb hab=>?_) up
  exact Tm.as a ((zbr _ _).mem_iff.mp ha) b ((zbr _ _).mem_iff.mp hb) hab
theorem zha (hs:List (List Nat)):zfu [.tup (hs.map D.str)]=some (.tup (hs.map D.str)):=za9 rfl (zbd (zas (zak (zas rfl rfl) rfl) rfl))
theorem zgc (ks:List D) (d:D):(zf7 ks d).length<=ks.length+1:=by unfold zf7;split <;> simp
theorem zju (hs:List (List Nat)):(hs.map D.str).all z01=true:=List.all_eq_true.mpr λ d hd=>by obtain ⟨l,_,rfl⟩:=List.mem_map.mp hd;rfl
theorem yav (hs:List (List Nat)) (f l:Int) (m:Bool):isN [2,0,0,1] (MkD hs f l m)=true:=by
 simp only[isN,MkD,sgs,Bool.and_eq_true,Bool.and_true]
 exact⟨zju hs,rfl,rfl,rfl⟩
abbrev tgM:D->Rho->Option Rho:=gT 4 (gTC (gN 3) (gTC (gN 4) (gTC (gN 5) (gTC (gN 6) gT0))))
abbrev puM:GN:=zmj [2,0,0,1] (eN za1 (aC (zat 1 zfu (aC (zal 3) aN)) (aC (zal 4) (aC (zal 5) (aC (zal 6) aN)))))
theorem ze7 {gt:D->Rho->Option Rho}{f:GN}{d:D}{r:List D}{ρ ρ1 ρ2:Rho}{ks ks2:List D} (h1:gt d ρ=some ρ1) (h2:f ρ1 ks=some (ρ2,ks2)):zo3 gt f (d::r) ρ ks=zo3 gt f r ρ2 ks2:=by
 rw[zo3,h1,Option.bind_some,h2,Option.bind_some]
theorem zs0 {sg:List Nat}{fk:Rho->Option D}{ρ:Rho}{ks:List D}{d:D} (h:fk ρ=some d) (h1:isN sg d=true) (h2:ks.length<=100000):zmj sg fk ρ ks=some (ρ,zf7 ks d):=by
 unfold zmj
 rw[h,Option.bind_some,if_pos ⟨h1,h2⟩]
theorem zyk (a b:Option Sl):∀ (h ks:List D) (z3 z4 z5 z6:Option Sl),(∀ d∈h,GdM d)->ks.length+h.length<=100000->∃ y3 y4 y5 y6,zo3 tgM puM h [a,none,b,z3,z4,z5,z6] ks=some ([a,none,b,y3,y4,y5,y6],h.foldl zf7 ks)
 | [],ks,z3,z4,z5,z6,_,_=>⟨z3,z4,z5,z6,rfl⟩
 | d::r,ks,z3,z4,z5,z6,hg,hl=>by
  obtain ⟨hs,f,l,m,_,rfl⟩:=hg _ List.mem_cons_self
  rw[List.length_cons] at hl
  have al:=zgc ks (MkD hs f l m)
  obtain ⟨y3,y4,y5,y6,ih⟩:=zyk a b r (zf7 ks (MkD hs f l m)) (some (.sh (.tup (hs.map D.str)))) (some (.sh (.int f))) (some (.sh (.int l))) (some (.sh (.bl m))) (λ e he=>hg e (List.mem_cons_of_mem _ he)) (by omega)
  exact⟨y3,y4,y5,y6,(ze7 rfl (zs0 (zas (zak (zan rfl rfl (zha hs)) (zak rfl (zak rfl (zak rfl rfl)))) rfl) (yav hs f l m) (by omega))).trans ih⟩
theorem zyl (a:Option Sl):∀ (hs:List (List D)) (ks:List D) (b z3 z4 z5 z6:Option Sl),(∀ d∈hs.flatten,GdM d)->ks.length+hs.flatten.length<=100000->∃ y2 y3 y4 y5 y6,zo3 (gN 2) (zjj (iE (zal 2)) tgM puM) (hs.map D.lst) [a,none,b,z3,z4,z5,z6] ks=some ([a,none,y2,y3,y4,y5,y6],hs.flatten.foldl zf7 ks)
 | [],ks,b,z3,z4,z5,z6,_,_=>⟨b,z3,z4,z5,z6,rfl⟩
 | h::r,ks,b,z3,z4,z5,z6,hg,hl=>by
  rw[List.flatten_cons,List.length_append] at hl
  have lk:∀ (l acc:List D),(l.foldl zf7 acc).length<=acc.length+l.length:=λ l=>by
   induction l with
   | nil=>intro acc;simp
   | cons x l ih=>intro acc;rw[List.foldl_cons,List.length_cons];have:=ih (zf7 acc x);have:=zgc acc x;omega
  have lk1:=lk h ks
  obtain ⟨y3,y4,y5,y6,e1⟩:=zyk a (some (.sh (.lst h))) h ks z3 z4 z5 z6 (λ d hd=>hg d (by rw[List.flatten_cons];exact List.mem_append_left _ hd)) (by omega)
  obtain ⟨w2,w3,w4,w5,w6,e2⟩:=zyl a r (h.foldl zf7 ks) (some (.sh (.lst h))) y3 y4 y5 y6 (λ d hd=>hg d (by rw[List.flatten_cons];exact List.mem_append_right _ hd)) (by omega)
  refine⟨w2,w3,w4,w5,w6,?_⟩
  rw[List.map_cons,List.flatten_cons,List.foldl_append,<-e2]
  refine ze7 rfl ?_
  show zjj (iE (zal 2)) tgM puM [a,none,some (.sh (.lst h)),z3,z4,z5,z6] ks=_
  unfold zjj
  exact e1
theorem zs1 {hs:List (List D)} (hg:∀ d∈hs.flatten,GdM d) (hl:hs.flatten.length<=10000) (sm:(dd hs.flatten).length<64):zla [.lst (hs.map D.lst)]=some (zk0 (ltK zfv) (dd hs.flatten)):=by
 obtain ⟨y2,y3,y4,y5,y6,e⟩:=zyl (some (.sh (.lst (hs.map D.lst)))) hs [] none none none none none hg (by rw[List.length_nil];omega)
 refine zrh rfl ?_
 have ok:=yau.kok (λ d hd=>hg d (zcw.mp hd)) (zhy hs.flatten) sm
 have e':zjj (iE (zal 0)) (gN 2) (zjj (iE (zal 2)) tgM puM) [some (.sh (.lst (hs.map D.lst))),none,none,none,none,none,none] []=some ([some (.sh (.lst (hs.map D.lst))),none,y2,y3,y4,y5,y6],dd hs.flatten):=e
 show zk1 1 (zjj (iE (zal 0)) (gN 2) (zjj (iE (zal 2)) tgM puM)) zfv [some (.sh (.lst (hs.map D.lst))),none,none,none,none,none,none]=_
 unfold zk1
 simp only[List.getElem?_cons_succ,List.getElem?_cons_zero]
 rw[e']
 dsimp only
 unfold zht
 rw[if_pos ok]
theorem ze8:∀ {l:List D},(∀ d∈l,deq d d=true)->zb1 l l=true
 | [],_=>by simp[zb1]
 | d::r,h=>by rw[zb1,h d List.mem_cons_self,ze8 λ e he=>h e (List.mem_cons_of_mem _ he)];rfl
theorem zd7 {np:Nat}{F:List D->Option (List D)}{fr:Rho->Option (List D)}{ρ:Rho}{ds:List D}{z:List D} (ha:fr ρ=some ds) (hn:ds.length=np) (hF:F ds=some z):zea np F fr ρ=some z:=by unfold zea;rw[ha];show (if ds.length=np then F ds else none)=_;rw[if_pos hn];exact hF
section
variable {κ α:Type} [DecidableEq κ]
theorem za5 (a:κ×α) (m:List (κ×α)) (k:κ):zbf (a::m) k=if a.1=k then some a.2 else zbf m k:=by
 unfold zbf
 rw[List.find?_cons]
 by_cases h:a.1=k
 ·rw[if_pos h,decide_eq_true h];rfl
 ·rw[if_neg h,decide_eq_false h]
theorem zd0 {m:List (κ×α)}{k:κ} (h:k ∉ m.map Prod.fst):zbf m k=none:=by
 induction m with
 | nil=>rfl
 | cons a r ih =>
  rw[List.map_cons,List.mem_cons] at h
  rw[za5,if_neg (λ z=>h (.inl z.symm)),ih λ z=>h (.inr z)]
theorem zc6 {m:List (κ×α)}{k:κ} (h:k∈m.map Prod.fst):∃ v,zbf m k=some v:=by
 induction m with
 | nil=>simp at h
 | cons a r ih =>
  rw[za5]
  by_cases e:a.1=k
  ·exact⟨_,if_pos e⟩
  ·rw[if_neg e]
   rw[List.map_cons,List.mem_cons] at h
   exact ih (h.resolve_left λ z=>e z.symm)
theorem zs2 (m:List (κ×α)) (k:κ):(m.any λ kv=>decide (kv.1=k))=decide (k∈m.map Prod.fst):=by
 induction m with
 | nil=>simp
 | cons a r ih =>
  rw[List.any_cons,ih,List.map_cons]
  by_cases e:a.1=k
  ·simp[e]
  ·have e2:¬ k=a.1:=λ z=>e z.symm
   simp[e,e2]
theorem zcx {m:List (κ×α)}{k:κ} (v:α) (h:k ∉ m.map Prod.fst):zi3 m k v=m++[(k,v)]:=by
 unfold zi3
 rw[zs2,decide_eq_false h,if_neg Bool.false_ne_true]
theorem zgd {m:List (κ×α)}{k:κ} (v:α) (h:k∈m.map Prod.fst):zi3 m k v=m.map λ kv=>if kv.1=k then (kv.1,v) else kv:=by
 unfold zi3
 rw[zs2,decide_eq_true h,if_pos rfl]
theorem zhb (m:List (κ×α)) (k:κ) (v:α):(zi3 m k v).map Prod.fst=if k∈m.map Prod.fst then m.map Prod.fst else m.map Prod.fst++[k]:=by
 by_cases h:k∈m.map Prod.fst
 ·rw[zgd v h,if_pos h,List.map_map]
  refine List.map_congr_left λ kv _=>?_
  show (if kv.1=k then (kv.1,v) else kv).1=kv.1
  split <;> rfl
 ·rw[zcx v h,if_neg h,List.map_append];rfl
theorem zv2 (m:List (κ×α)) (k k':κ) (v:α):zbf (zi3 m k v) k'=if k'=k then some v else zbf m k':=by
 by_cases h:k∈m.map Prod.fst
 ·rw[zgd v h]
  induction m with
  | nil=>simp at h
  | cons a r ih =>
   rw[List.map_cons,za5,za5]
   by_cases e:a.1=k
   ·rw[if_pos e]
    by_cases e2:a.1=k'
    ·rw[if_pos e2,if_pos (e2.symm.trans e)]
    ·rw[if_neg e2,if_neg e2,if_neg (λ z=>e2 (e.trans z.symm))]
     have:∀ l:List (κ×α),¬ k'=k->zbf (l.map λ kv=>if kv.1=k then (kv.1,v) else kv) k'=zbf l k':=by
      intro l hk
      induction l with
      | nil=>rfl
      | cons b l ih2 =>
       rw[List.map_cons,za5,za5,ih2]
       by_cases e3:b.1=k
       ·rw[if_pos e3,if_neg (λ z=>hk (z.symm.trans e3)),if_neg (λ z=>hk (z.symm.trans e3))]
       ·rw[if_neg e3]
     exact this r λ z=>e2 (e.trans z.symm)
   ·rw[if_neg e]
    rw[List.map_cons,List.mem_cons] at h
    by_cases e2:a.1=k'
    ·rw[if_pos e2,if_neg (λ z=>e (e2.trans z)),if_pos e2]
    ·rw[if_neg e2,if_neg e2,ih (h.resolve_left λ z=>e z.symm)]
 ·rw[zcx v h]
  induction m with
  | nil =>
   rw[List.nil_append,za5]
   by_cases e:k=k'
   ·rw[if_pos e,if_pos e.symm]
   ·rw[if_neg e,if_neg (λ z=>e z.symm)]
  | cons a r ih =>
   rw[List.map_cons,List.mem_cons] at h
   rw[List.cons_append,za5,za5,ih λ z=>h (.inr z)]
   by_cases e2:a.1=k'
   ·rw[if_pos e2,if_pos e2,if_neg (λ z=>h (.inl (z.symm.trans e2.symm)))]
   ·rw[if_neg e2,if_neg e2]
end
def kz (m:List (Int×Bool)):List Key:=m.map λ p=>Sum.inl p.1
def dz (m:List (Int×Bool)):List D:=m.map λ p=>D.bl p.2
def phi (p:Int×Bool):Key×D:=(Sum.inl p.1,D.bl p.2)
theorem zym (m:List (Int×Bool)):(kz m).zip (dz m)=m.map phi:=by
 induction m with
 | nil=>rfl
 | cons a r ih=>show (_::_)=_;rw[List.map_cons];exact congrArg _ ih
theorem zyn (m:List (Int×Bool)):(m.map phi).map Prod.fst=kz m:=by rw[List.map_map];rfl
theorem z6i (m:List (Int×Bool)):(m.map phi).map Prod.snd=dz m:=by rw[List.map_map];rfl
theorem zyo (m:List (Int×Bool)):kz m=(m.map Prod.fst).map Sum.inl:=by rw[List.map_map];rfl
theorem zyp {m:List (Int×Bool)}{k:Int}:(Sum.inl k:Key)∈(m.map phi).map Prod.fst↔k∈m.map Prod.fst:=by
 rw[zyn,zyo,List.mem_map]
 exact⟨λ ⟨x,h1,h2⟩=>by cases h2;exact h1,λ h=>⟨k,h,rfl⟩⟩
theorem zv3 (m:List (Int×Bool)) (k:Int):zbf (m.map phi) (Sum.inl k)=(zbf m k).map D.bl:=by
 induction m with
 | nil=>rfl
 | cons a r ih =>
  rw[List.map_cons,za5,za5,ih]
  by_cases e:a.1=k
  ·rw[if_pos e,if_pos (by show Sum.inl a.1=Sum.inl k;rw[e])];rfl
  ·rw[if_neg e,if_neg (by show ¬ Sum.inl a.1=Sum.inl k;exact λ z=>e (Sum.inl.inj z))]
theorem zv4 (m:List (Int×Bool)) (k:Int) (b:Bool):zi3 (m.map phi) (Sum.inl k) (D.bl b)=(zi3 m k b).map phi:=by
 by_cases h:k∈m.map Prod.fst
 ·rw[zgd _ (zyp.mpr h),zgd _ h,List.map_map,List.map_map]
  refine List.map_congr_left λ kv _=>?_
  show (if (Sum.inl kv.1:Key)=Sum.inl k then ((Sum.inl kv.1:Key),D.bl b) else phi kv)=phi (if kv.1=k then (kv.1,b) else kv)
  by_cases e:kv.1=k
  ·rw[if_pos e,if_pos (by rw[e])];rfl
  ·rw[if_neg e,if_neg (λ z=>e (Sum.inl.inj z))]
 ·rw[zcx _ (λ z=>h (zyp.mp z)),zcx _ h,List.map_append];rfl
theorem zs3 (m:List (Int×Bool)) (k:Int):zd9 (.dk (kz m) (dz m)) (.int k)=some ((zbf m k).map D.bl):=by
 unfold zd9
 show some (zbf ((kz m).zip (dz m)) (Sum.inl k))=_
 rw[zym,zv3]
theorem z6j {m:List (Int×Bool)}{k:Int}{b:Bool} (h:zbf m k=some b):zgz (.dk (kz m) (dz m)) (.int k)=some (.bl b):=by
 unfold zgz
 rw[zs3,h];rfl
theorem zv5 {m:List (Int×Bool)} (k:Int) (b:Bool) (h:m.length<=100000):zfr (.dk (kz m) (dz m)) (.int k) (.bl b)=some (.dk (kz (zi3 m k b)) (dz (zi3 m k b))):=by
 unfold zfr
 show (if (kz m).length<sizeLine then some (Sl.dk _ _) else none)=_
 rw[if_pos (by unfold kz;rw[List.length_map];exact szl h),zym,zv4,zyn,z6i]
theorem zyq:∀ {l m:List Int},l.Nodup->(∀ x∈l,x∈m)->l.length<=m.length
 | [],_,_,_=>Nat.zero_le _
 | a::l,m,hn,hs=>by
  have ha:=hs a (by simp)
  have hn:=List.nodup_cons.mp hn
  have:=zyq (l:=l) (m:=m.erase a) hn.2 λ x hx=>(List.mem_erase_of_ne (λ z:x=a=>hn.1 (z ▸ hx))).mpr (hs x (List.mem_cons_of_mem _ hx))
  rw[List.length_erase_of_mem ha] at this
  have hp:=List.length_pos_of_mem ha
  rw[List.length_cons];omega
structure Good (pg:List Int) (m:List (Int×Bool)):Prop where
 nd:(m.map Prod.fst).Nodup
 sub:∀ x∈m.map Prod.fst,x∈pg
theorem Good.len {pg:List Int}{m:List (Int×Bool)} (h:Good pg m):m.length<=pg.length:=by
 have:=zyq h.nd h.sub
 rwa [List.length_map] at this
theorem Good.put {pg:List Int}{m:List (Int×Bool)} (h:Good pg m) {k:Int} (hk:k∈pg) (b:Bool):Good pg (zi3 m k b):=by
 constructor
 ·rw[zhb]
  split
  ·exact h.nd
  ·rename_i hn
   exact List.nodup_append.mpr ⟨h.nd,by simp,λ x hx y hy z=>by
    rw[List.mem_singleton] at hy
    subst hy z
    exact hn hx⟩
 ·rw[zhb]
  split
  ·exact h.sub
  ·intro x hx
   rcases List.mem_append.mp hx with hx|hx
   ·exact h.sub x hx
   ·rw[List.mem_singleton.mp hx];exact hk
theorem zjv {fo fk fz:Rho->Option D}{ρ:Rho}{d k z:D}{o:Option D} (h1:fo ρ=some d) (h2:fk ρ=some k) (h3:fz ρ=some z) (h4:zd9 d k=some o):zcl fo fk fz ρ=some (o.getD z):=by
 unfold zcl;rw[h1,h2,h3];show (zd9 d k).map _=_;rw[h4];rfl
theorem zhc {i:Nat}{fk fv:Rho->Option D}{ρ:Rho}{sl sl':Sl}{d k:D} (h0:ρ[i]?=some (some sl)) (h1:fv ρ=some d) (h2:fk ρ=some k) (h3:zfr sl k d=some sl'):zeb i fk fv ρ=.nx (ρ.set i (some sl')):=by
 unfold zeb
 rw[h0]
 dsimp only
 rw[h1,h2]
 show (match zfr sl k d with|some sl'=>Out.nx (ρ.set i (some sl'))|none=>Out.bad)=_
 rw[h3]
theorem z2e {i:Nat}{fk fv:Rho->Option D}{ρ:Rho}{ds ds':List D}{d k:D} (h0:ρ[i]?=some (some (.ow ds))) (h1:fv ρ=some d) (h2:fk ρ=some k) (h3:z5k ds k d=some ds'):zo0 i fk fv ρ=.nx (ρ.set i (some (.ow ds'))):=by
 unfold zo0
 rw[h0]
 dsimp only
 rw[h1,h2]
 show (match z5k ds k d with|some ds'=>Out.nx (ρ.set i (some (.ow ds')))|none=>Out.bad)=_
 rw[h3]
abbrev Mk:=Nat×Nat×Bool
def MkS (p:D) (m:Mk):D:=.tup [p,.int (m.1:Nat),.int (m.2.1:Nat),.bl m.2.2]
def stp (most:Bool) (m:List (Int×Bool)) (page:Int):List (Int×Bool):=zi3 m page (most || (zbf m page).getD false)
def zo9 (pg:List Int) (k:Mk):List Int:=(pg.drop k.1).take (k.2.1+1 - k.1)
def za8 (pg:List Int) (mks:List Mk):List (Int×Bool):=mks.foldl (λ m k=>(zo9 pg k).foldl (stp k.2.2) m) []
theorem zjw {pg:List Int}{k:Mk}{x:Int} (h:x∈zo9 pg k):x∈pg:=List.mem_of_mem_drop (List.mem_of_mem_take h)
theorem Good.stps {pg:List Int}{most:Bool}:∀ {ps:List Int}{m:List (Int×Bool)},Good pg m->(∀ x∈ps,x∈pg)->Good pg (ps.foldl (stp most) m)
 | [],_,h,_=>h
 | x::r,m,h,hs=>Good.stps (ps:=r) (h.put (hs x (by simp)) _) λ y hy=>hs y (List.mem_cons_of_mem _ hy)
theorem zdn (pg:List Int):∀ (mks:List Mk) (m:List (Int×Bool)),Good pg m->Good pg (mks.foldl (λ m k=>(zo9 pg k).foldl (stp k.2.2) m) m)
 | [],_,h=>h
 | k::r,m,h=>zdn pg r _ (h.stps λ _ hx=>zjw hx)
theorem zhd (pg:List Int) (mks:List Mk):Good pg (za8 pg mks):=zdn pg mks [] ⟨List.nodup_nil,λ x hx=>by simp at hx⟩
def z6k:Rho->Out:=zeb 2 (zaa 7) (eT (bOr (tE (zal 6)) (tE (zcl (zaa 2) (zaa 7) (eC (.bl false))))))
theorem zn1 {pg:List Int} (hpg:pg.length<=1000) (a b c d e:Option Sl) (most:Bool):∀ (ps:List Int) (m:List (Int×Bool)) (z:Option Sl),Good pg m->(∀ x∈ps,x∈pg) →
  ∃ z',zid (gN 7) z6k (ps.map D.int) [a,b,some (.dk (kz m) (dz m)),c,d,e,some (.sh (.bl most)),z]=.nx [a,b,some (.dk (kz (ps.foldl (stp most) m)) (dz (ps.foldl (stp most) m))),c,d,e,some (.sh (.bl most)),z']
 | [],m,z,_,_=>⟨z,rfl⟩
 | x::r,m,z,hm,hs=>by
  obtain ⟨z',ih⟩:=zn1 hpg a b c d e most r (stp most m x) (some (.sh (.int x))) (hm.put (hs x (by simp)) _) λ y hy=>hs y (List.mem_cons_of_mem _ hy)
  refine⟨z',?_⟩
  rw[List.map_cons,List.foldl_cons,<-ih]
  refine zcm rfl ?_
  have hl:m.length<=100000:=Nat.le_trans hm.len (by omega)
  have g:tE (zcl (zaa 2) (zaa 7) (eC (.bl false))) [a,b,some (.dk (kz m) (dz m)),c,d,e,some (.sh (.bl most)),some (.sh (.int x))]=some ((zbf m x).getD false):=by
   refine za4 ((zjv (z:=.bl false) rfl rfl rfl (zs3 m x)).trans ?_)
   cases zbf m x <;> rfl
  have g2:eT (bOr (tE (zal 6)) (tE (zcl (zaa 2) (zaa 7) (eC (.bl false))))) [a,b,some (.dk (kz m) (dz m)),c,d,e,some (.sh (.bl most)),some (.sh (.int x))]=some (.bl (most || (zbf m x).getD false)):=by
   refine zu9 ?_
   cases most with
   | true=>exact z5b rfl
   | false=>exact zhs rfl g
  exact (zhc rfl g2 rfl (zv5 x _ hl)).trans rfl
def yaw:Rho->Out:=zhr (iE (eSl (zaa 0) (oS (zaa 4)) (oS (e2 zb6 (zaa 5) (eC (.int 1)))))) (gN 7) z6k
theorem zn2 {pg:List Int} (hpg:pg.length<=1000) (p:D) (b:Option Sl):∀ (mks:List Mk) (m:List (Int×Bool)) (c d e f z:Option Sl),Good pg m->(∀ k∈mks,k.1<=k.2.1) →
  ∃ c' d' e' f' z',zid (gT 4 (gTC (gN 3) (gTC (gN 4) (gTC (gN 5) (gTC (gN 6) gT0))))) yaw (mks.map (MkS p)) [some (.sh (.lst (pg.map D.int))),b,some (.dk (kz m) (dz m)),c,d,e,f,z] =
   .nx [some (.sh (.lst (pg.map D.int))),b,some (.dk (kz (mks.foldl (λ m k=>(zo9 pg k).foldl (stp k.2.2) m) m)) (dz (mks.foldl (λ m k=>(zo9 pg k).foldl (stp k.2.2) m) m))),c',d',e',f',z']
 | [],m,c,d,e,f,z,_,_=>⟨c,d,e,f,z,rfl⟩
 | k::r,m,c,d,e,f,z,hm,hk=>by
  obtain ⟨z1,h1⟩:=zn1 hpg (some (.sh (.lst (pg.map D.int)))) b (some (.sh p)) (some (.sh (.int (k.1:Nat)))) (some (.sh (.int (k.2.1:Nat)))) k.2.2 (zo9 pg k) m z hm λ x hx=>zjw hx
  obtain ⟨c',d',e',f',z',ih⟩:=zn2 hpg p b r _ (some (.sh p)) (some (.sh (.int (k.1:Nat)))) (some (.sh (.int (k.2.1:Nat)))) (some (.sh (.bl k.2.2))) z1 (hm.stps (most:=k.2.2) λ x hx=>zjw hx) λ j hj=>hk j (List.mem_cons_of_mem _ hj)
  refine⟨c',d',e',f',z',?_⟩
  rw[List.map_cons,List.foldl_cons,<-ih]
  refine zcm (ρ1:=[some (.sh (.lst (pg.map D.int))),b,some (.dk (kz m) (dz m)),some (.sh p),some (.sh (.int (k.1:Nat))),some (.sh (.int (k.2.1:Nat))),some (.sh (.bl k.2.2)),z]) rfl ?_
  refine zdf (ds:=(zo9 pg k).map D.int) (zri (d:=.lst ((zo9 pg k).map D.int)) ?_ rfl) h1
  have hc:zh8 (pg.map D.int) (some ((k.1:Nat):Int)) (some ((k.2.1:Nat)+1:Int))=(zo9 pg k).map D.int:=by
   have e0:((k.2.1:Nat)+1:Int)=((k.2.1+1:Nat):Int):=by omega
   rw[e0,zrq,zrp _ _ _ (by have:=hk k (by simp);omega)];rfl
  show (gSl (.lst (pg.map D.int)) (some ((k.1:Nat):Int)) (some ((k.2.1:Nat)+1:Int)))=_
  unfold gSl
  dsimp only
  rw[hc]
theorem zs4 {pg:List Int} (hpg:pg.length<=1000) (p:D) (mks:List Mk) (hk:∀ k∈mks,k.1<=k.2.1):z14 [.lst (pg.map D.int),.lst (mks.map (MkS p))]=some (.dk (kz (za8 pg mks)) (dz (za8 pg mks))):=by
 obtain ⟨c,d,e,f,z,h⟩:=zn2 hpg p (some (.sh (.lst (mks.map (MkS p))))) mks [] none none none none none ⟨List.nodup_nil,λ x hx=>by simp at hx⟩ hk
 exact za9 rfl (st rfl (st (zdf (zri rfl rfl) h) rfl))
abbrev Td:=Int×Int×Bool
def TdD (t:Td):D:=.tup [.int t.1,.int t.2.1,.bl t.2.2]
theorem z2f (t:Td) (page:Int) (s:Bool):zjn [TdD t,.int page,.bl s]=some (.bl (decide (t.2.1+1=page) && (t.2.2 == s))):=by
 refine za9 rfl (zbd (zu9 ?_))
 have q1:tE (e2 zc8 (e2 zb6 (e2 gIx (zaa 0) (eC (.int 1))) (eC (.int 1))) (zaa 1)) (zez 3 [TdD t,.int page,.bl s])=some (decide (t.2.1+1=page)):=za4 (zae (d:=.int (t.2.1+1)) rfl rfl (zef zgy))
 have q2:tE (e2 zc8 (e2 gIx (zaa 0) (eC (.int 2))) (zaa 2)) (zez 3 [TdD t,.int page,.bl s])=some (t.2.2 == s):=za4 (zae (d:=.bl t.2.2) rfl rfl (zef z5f))
 cases h:decide (t.2.1+1=page) with
 | false=>rw[h] at q1;exact ze0 q1
 | true=>rw[h] at q1;exact zdv q1 q2
def zld (a b:Int) (t:Bool):List (Int×Bool)->List Td
 | []=>[(a,b,t)]
 | (page,s)::r=>if b+1=page/\t=s then zld a page s r else (a,b,t)::zld page page s r
def zn3:List (Int×Bool)->List Td
 | []=>[]
 | (page,s)::r=>zld page page s r
theorem zjx (a b:Int) (t:Bool):∀ (r:List (Int×Bool)),(zld a b t r).length<=r.length+1
 | []=>by simp[zld]
 | (page,s)::r=>by
  unfold zld
  split
  ·have:=zjx a page s r;simp;omega
  ·have:=zjx page page s r;simp;omega
theorem zv6 (r:List (Int×Bool)):(zn3 r).length<=r.length:=by
 cases r with
 | nil=>simp[zn3]
 | cons x r=>have:=zjx x.1 x.1 x.2 r;unfold zn3;simp;omega
def z6l:Rho->Out:=sIf (zdj (tE (e2 gGt (eN zb7 (aC (zaa 3) aN)) (eC (.int 0)))) (tE (zat 3 zjn (aC (e2 gIx (zaa 3) (e1 zf4 (eC (.int 1)))) (aC (zal 4) (aC (e2 zgz (zaa 2) (zaa 4)) aN)))))) (zo0 3 (e1 zf4 (eC (.int 1))) (eN za1 (aC (e2 gIx (e2 gIx (zaa 3) (e1 zf4 (eC (.int 1)))) (eC (.int 0))) (aC (zal 4) (aC (e2 zgz (zaa 2) (zaa 4)) aN))))) (zfo 3 (eN za1 (aC (zal 4) (aC (zal 4) (aC (e2 zgz (zaa 2) (zaa 4)) aN)))))
theorem zjy {α:Type} (l:List α) (x:α):atI (l++[x]) (-1)=some x:=by
 unfold atI
 have e:ixN (l++[x]).length (-1)=some l.length:=by
  unfold ixN
  rw[if_neg (by omega),if_pos (by simp;omega)]
  congr 1
  simp;omega
 rw[e]
 show (l++[x])[l.length]?=_
 simp
theorem zv7 (l:List D) (x d:D):z5k (l++[x]) (.int (-1)) d=some (l++[d]):=by
 unfold z5k
 have e:ixN (l++[x]).length (-1)=some l.length:=by
  unfold ixN
  rw[if_neg (by omega),if_pos (by simp;omega)]
  congr 1
  simp;omega
 show (ixN (l++[x]).length (-1)).map _=_
 rw[e]
 show some ((l++[x]).set l.length d)=_
 congr 1
 simp
theorem zhe {m:List (Int×Bool)} (n k:Option Sl):∀ (r:List (Int×Bool)) (init:List Td) (a b:Int) (t:Bool) (z:Option Sl),(∀ x∈r,zbf m x.1=some x.2)->init.length+r.length<=50000 →
  ∃ z',zid (gN 4) z6l (r.map λ x=>D.int x.1) [n,k,some (.sh (.dk (kz m) (dz m))),some (.ow ((init++[(a,b,t)]).map TdD)),z]=.nx [n,k,some (.sh (.dk (kz m) (dz m))),some (.ow ((init++zld a b t r).map TdD)),z']
 | [],init,a,b,t,z,_,_=>⟨z,rfl⟩
 | (page,s)::r,init,a,b,t,z,hv,hl=>by
  have hv1:zgz (.dk (kz m) (dz m)) (.int page)=some (.bl s):=z6j (hv (page,s) (by simp))
  have hv2:∀ x∈r,zbf m x.1=some x.2:=λ x hx=>hv x (List.mem_cons_of_mem _ hx)
  rw[List.length_cons] at hl
  have em:∀ (x:Td),(init++[x]).map TdD=init.map TdD++[TdD x]:=λ x=>by rw[List.map_append];rfl
  have hat:atI ((init++[(a,b,t)]).map TdD) (-1)=some (TdD (a,b,t)):=by rw[em];exact zjy _ _
  have q1:tE (e2 gGt (eN zb7 (aC (zaa 3) aN)) (eC (.int 0))) [n,k,some (.sh (.dk (kz m) (dz m))),some (.ow ((init++[(a,b,t)]).map TdD)),some (.sh (.int page))]=some true:=by
   refine za4 (zae (zas (z:=.int ((init++[(a,b,t)]).map TdD).length) rfl rfl) rfl ?_)
   rw[zmf]
   congr 2
   exact decide_eq_true (by rw[List.length_map,List.length_append,List.length_singleton];omega)
  have q2:tE (zat 3 zjn (aC (e2 gIx (zaa 3) (e1 zf4 (eC (.int 1)))) (aC (zal 4) (aC (e2 zgz (zaa 2) (zaa 4)) aN)))) [n,k,some (.sh (.dk (kz m) (dz m))),some (.ow ((init++[(a,b,t)]).map TdD)),some (.sh (.int page))]=some (decide (b+1=page) && (t == s)) :=
   za4 (zan (zak (zae rfl rfl hat) (zak rfl (zak (zae rfl rfl hv1) rfl))) rfl (z2f (a,b,t) page s))
  by_cases hc:b+1=page/\t=s
  ·have hq:(decide (b+1=page) && (t == s))=true:=by rw[decide_eq_true hc.1,hc.2];simp
   rw[hq] at q2
   obtain ⟨z',ih⟩:=zhe n k r init a page s (some (.sh (.int page))) hv2 (by omega)
   refine⟨z',?_⟩
   have eg:zld a b t ((page,s)::r)=zld a page s r:=by rw[zld,if_pos hc]
   rw[eg,<-ih]
   refine zcm rfl ((zme (zdv q1 q2)).trans ?_)
   refine (z2e (ds':=(init++[(a,page,s)]).map TdD) rfl (zas (ds:=[.int a,.int page,.bl s]) (zak (zae (zae rfl rfl hat) rfl rfl) (zak rfl (zak (zae rfl rfl hv1) rfl))) rfl) rfl ?_).trans rfl
   rw[em,em];exact zv7 _ _ _
  ·have hq:(decide (b+1=page) && (t == s))=false:=by
    cases h1:decide (b+1=page) with
    | false=>rfl
    | true =>
     cases h2:t == s with
     | false=>rfl
     | true=>exact absurd ⟨of_decide_eq_true h1,by simpa using h2⟩ hc
   rw[hq] at q2
   obtain ⟨z',ih⟩:=zhe n k r (init++[(a,b,t)]) page page s (some (.sh (.int page))) hv2 (by rw[List.length_append,List.length_singleton];omega)
   refine⟨z',?_⟩
   have eg:init++zld a b t ((page,s)::r)=init++[(a,b,t)]++zld page page s r:=by rw[zld,if_neg hc,List.append_assoc];rfl
   rw[eg,<-ih]
   refine zcm rfl ((zc3 (zdv q1 q2)).trans ?_)
   refine (ze4 (ds:=(init++[(a,b,t)]).map TdD) (d:=TdD (page,page,s)) rfl (zas (ds:=[.int page,.int page,.bl s]) (zak rfl (zak rfl (zak (zae rfl rfl hv1) rfl))) rfl) (by simp;omega)).trans ?_
   show Out.nx [n,k,some (.sh (.dk (kz m) (dz m))),some (.ow ((init++[(a,b,t)]).map TdD++[TdD (page,page,s)])),some (.sh (.int page))]=_
   simp only[List.map_append,List.map_cons,List.map_nil]
def zim (m:List (Int×Bool)):List (Int×Bool):=(zvc (m.map Prod.fst)).map λ k=>(k,(zbf m k).getD false)
theorem zv8 (m:List (Int×Bool)):(zim m).map (λ x=>D.int x.1)=(zvc (m.map Prod.fst)).map D.int:=by unfold zim;rw[List.map_map];rfl
theorem zv9 {m:List (Int×Bool)}{x:Int×Bool} (h:x∈zim m):zbf m x.1=some x.2:=by
 obtain ⟨k,h1,rfl⟩:=List.mem_map.mp h
 obtain ⟨v,h2⟩:=zc6 ((zdx _).mem_iff.mp h1)
 show zbf m k=some ((zbf m k).getD false)
 rw[h2];rfl
theorem zjz (m:List (Int×Bool)):(zim m).length=m.length:=by unfold zim;rw[List.length_map,(zdx _).length_eq,List.length_map]
theorem zs5 {m:List (Int×Bool)} (n k:Option Sl) (hl:m.length<=1000):∃ z',zid (gN 4) z6l ((zim m).map λ x=>D.int x.1) [n,k,some (.sh (.dk (kz m) (dz m))),some (.ow []),none]=.nx [n,k,some (.sh (.dk (kz m) (dz m))),some (.ow ((zn3 (zim m)).map TdD)),z']:=by
 have hv:∀ x∈zim m,zbf m x.1=some x.2:=λ x hx=>zv9 hx
 have hsl:=zjz m
 cases hr:zim m with
 | nil=>exact⟨none,rfl⟩
 | cons x r =>
  rw[hr] at hv hsl
  obtain ⟨page,s⟩:=x
  rw[List.length_cons] at hsl
  have hv1:zgz (.dk (kz m) (dz m)) (.int page)=some (.bl s):=z6j (hv (page,s) (by simp))
  obtain ⟨z',ih⟩:=zhe n k r [] page page s (some (.sh (.int page))) (λ x hx=>hv x (List.mem_cons_of_mem _ hx)) (by simp;omega)
  refine⟨z',?_⟩
  show _=Out.nx [n,k,_,some (.ow (([]++zld page page s r).map TdD)),z']
  rw[<-ih]
  refine zcm rfl ((zc3 (ze0 (za4 (zae (zas rfl rfl) rfl zmf)))).trans ?_)
  exact (ze4 (ds:=[]) (d:=TdD (page,page,s)) rfl (zas (ds:=[.int page,.int page,.bl s]) (zak rfl (zak rfl (zak (zae rfl rfl hv1) rfl))) rfl) (by simp)).trans rfl
theorem zle {pg:List Int} (hpg:pg.length<=62) (p:D) (mks:List Mk) (hk:∀ k∈mks,k.1<=k.2.1):z15 [.lst (pg.map D.int),.lst (mks.map (MkS p))]=some (.lst ((zn3 (zim (za8 pg mks))).map TdD)):=by
 have hg:=zhd pg mks
 have hl:=hg.len
 obtain ⟨z,h⟩:=zs5 (m:=za8 pg mks) (some (.sh (.lst (pg.map D.int)))) (some (.sh (.lst (mks.map (MkS p))))) (by omega)
 refine za9 rfl (st (zai (zan rfl rfl (zs4 (by omega) p mks hk))) (st rfl (st (zdf (ds:=(zim (za8 pg mks)).map λ x:Int×Bool=>D.int x.1) (zri (d:=.lst ((zim (za8 pg mks)).map λ x:Int×Bool=>D.int x.1)) (zfq ?_) rfl) h) rfl)))
 show zkw [.dk (kz (za8 pg mks)) (dz (za8 pg mks))]=_
 unfold zkw
 dsimp only
 rw[zyo,zvd,zv8]
 show (if ((za8 pg mks).map Prod.fst).length<64 then some _ else none)=_
 rw[if_pos (by rw[List.length_map];omega)]
def zyr:Rho->Out:=(zaw (sIf (zdj (tE (e2 gGt (zaa 5) (eC (.int 0)))) (bOr (tE (zal 6)) (tE (e2 gGe (zaa 5) (zaa 1))))) (zaw (zbn 4 (e2 zb6 (zaa 4) (eC (.int 1))))
  (zbn 5 (eC (.int 0)))) zbm)
  (zaw (zbn 5 (e2 zb6 (zaa 5) (eC (.int 1))))
  (zfo 3 (zal 4))))
theorem zs6 (a c:Option Sl) (most page filled:Int) (acc:List Int) (b:Bool) (hl:acc.length<=1000):∃ p f,zyr [a,some (.sh (.int most)),c,some (.ow (acc.map D.int)),some (.sh (.int page)),some (.sh (.int filled)),some (.sh (.bl b))]=.nx [a,some (.sh (.int most)),c,some (.ow ((acc++[p]).map D.int)),some (.sh (.int p)),some (.sh (.int f)),some (.sh (.bl b))]:=by
 have q:zdj (tE (e2 gGt (zaa 5) (eC (.int 0)))) (bOr (tE (zal 6)) (tE (e2 gGe (zaa 5) (zaa 1)))) [a,some (.sh (.int most)),c,some (.ow (acc.map D.int)),some (.sh (.int page)),some (.sh (.int filled)),some (.sh (.bl b))]=some (decide (0<filled) && (b || decide (most<=filled))):=zml (za4 (zae rfl rfl zmf)) λ _=>z6a (za4 rfl) λ _=>za4 (zae rfl rfl z93)
 have hz:(acc.map D.int).length<=100000:=by rw[List.length_map];omega
 cases e:(decide (0<filled) && (b || decide (most<=filled))) with
 | true =>
  rw[e] at q
  refine⟨page+1,0+1,st ((zme q).trans (st (zai (zae rfl rfl zc5)) (zai rfl))) (st (zai (zae rfl rfl zc5)) ((ze4 (ds:=acc.map D.int) (d:=.int (page+1)) rfl rfl hz).trans ?_))⟩
  rw[List.map_append];rfl
 | false =>
  rw[e] at q
  refine⟨page,filled+1,st ((zc3 q).trans rfl) (st (zai (zae rfl rfl zc5)) ((ze4 (ds:=acc.map D.int) (d:=.int page) rfl rfl hz).trans ?_))⟩
  rw[List.map_append];rfl
theorem zlf (a c:Option Sl) (most:Int):∀ (r:List Bool) (acc:List Int) (page filled:Int) (z:Option Sl),acc.length+r.length<=1000->∃ (pg:List Int) (p f y:Option Sl),pg.length=acc.length+r.length/\zid (gN 6) zyr (r.map D.bl) [a,some (.sh (.int most)),c,some (.ow (acc.map D.int)),some (.sh (.int page)),some (.sh (.int filled)),z]=.nx [a,some (.sh (.int most)),c,some (.ow (pg.map D.int)),p,f,y]
 | [],acc,page,filled,z,_=>⟨acc,_,_,_,rfl,rfl⟩
 | b::r,acc,page,filled,z,hl=>by
  rw[List.length_cons] at hl
  obtain ⟨p,f,e⟩:=zs6 a c most page filled acc b (by omega)
  obtain ⟨pg,p',f',y,h1,h2⟩:=zlf a c most r (acc++[p]) p f (some (.sh (.bl b))) (by rw[List.length_append,List.length_singleton];omega)
  refine⟨pg,p',f',y,by rw[h1,List.length_append,List.length_singleton,List.length_cons];omega,?_⟩
  rw[List.map_cons,<-h2]
  exact zcm rfl e
theorem zwa (bs:List Bool) (hl:bs.length<=1000) (most first:Int):∃ pg:List Int,pg.length=bs.length/\zmo [.lst (bs.map D.bl),.int most,.int first]=some (.lst (pg.map D.int)):=by
 obtain ⟨pg,p,f,y,h1,h2⟩:=zlf (some (.sh (.lst (bs.map D.bl)))) (some (.sh (.int first))) most bs [] first 0 none (by rw[List.length_nil];omega)
 refine⟨pg,by rw[h1,List.length_nil];omega,za9 rfl (st rfl (st (zai rfl) (st (zai rfl) (st (zdf rfl h2) rfl))))⟩
abbrev Pth:=List (List Nat)
abbrev M4:=Pth×Nat×Nat×Bool
def mkE (x:M4):D:=MkD x.1 ((x.2.1:Nat):Int) ((x.2.2.1:Nat):Int) x.2.2.2
structure GdK (n:Nat) (x:M4):Prop where
 p:GdP x.1
 lo:x.2.1<=x.2.2.1
 hi:x.2.2.1<n
theorem z2g {x:M4}{n:Nat} (h:GdK n x):zk9 [mkE x,.int (n:Nat)]=some (.bl true):=by
 refine za9 rfl (zbd ?_)
 have h1:=h.lo
 have h2:=h.hi
 refine (zr6 (x:=.int 0) (y:=.int ((x.2.1:Nat):Int)) (z:=.int ((x.2.2.1:Nat):Int)) (w:=.int (n:Nat)) rfl (zae rfl rfl rfl) z5e (λ _=>zae rfl rfl rfl) (λ _=>z5e) (λ _ _=>rfl) (λ _ _=>rfl)).trans ?_
 rw[decide_eq_true (show (0:Int)<=((x.2.1:Nat):Int) by omega),decide_eq_true (show ((x.2.1:Nat):Int)<=((x.2.2.1:Nat):Int) by omega),decide_eq_true (show ((x.2.2.1:Nat):Int)<((n:Nat):Int) by omega)]
 rfl
theorem zys {np n:Nat}{f:Rho->Out}{ds:List D}{ρ:Rho} (hl:ds.length=np) (h:f (zez n ds)=.nx ρ):fnR np n f ds=some .non:=by unfold fnR;rw[if_pos hl,h]
theorem zs7 {os:List M4}{n:Nat} (h:∀ x∈os,GdK n x):z17 [.lst (os.map mkE),.int (n:Nat)]=some .non:=by
 have loop:∀ (r:List M4) (a z:Option Sl),(∀ x∈r,GdK n x)->∃ y,zid (gN 2) (sIf (zd6 (tE (zat 2 zk9 (aC (zal 2) (aC (zal 1) aN))))) zx4 zbm) (r.map mkE) [a,some (.sh (.int (n:Nat))),z]=.nx [a,some (.sh (.int (n:Nat))),y]:=by
  intro r
  induction r with
  | nil=>intro a z _;exact⟨z,rfl⟩
  | cons x r ih =>
   intro a z hg
   obtain ⟨y,e⟩:=ih a (some (.sh (mkE x))) λ w hw=>hg w (List.mem_cons_of_mem _ hw)
   refine⟨y,?_⟩
   rw[List.map_cons,<-e]
   exact zcm rfl ((zc3 (zc0 (b:=true) (za4 (zan rfl rfl (z2g (hg x List.mem_cons_self)))))).trans rfl)
 obtain ⟨y,e⟩:=loop os (some (.sh (.lst (os.map mkE)))) none h
 exact zys rfl (zdf rfl e)
theorem z6m {x:M4} (h:GdP x.1):GdM (mkE x):=⟨_,_,_,_,h,rfl⟩
theorem zs8 {α β:Type}{f:α->β}{ms:List α}:∀ (l:List β),(∀ d∈l,d∈ms.map f)->∃ os:List α,l=os.map f/\∀ x∈os,x∈ms
 | [],_=>⟨[],rfl,λ x hx=>by cases hx⟩
 | d::r,h=>by
  obtain ⟨x,h1,h2⟩:=List.mem_map.mp (h d List.mem_cons_self)
  obtain ⟨os,h3,h4⟩:=zs8 r λ e he=>h e (List.mem_cons_of_mem _ he)
  refine⟨x::os,by rw[List.map_cons,h2,<-h3],λ y hy=>?_⟩
  rcases List.mem_cons.mp hy with rfl|hy
  ·exact h1
  ·exact h4 y hy
theorem z2h {ms:List M4} (h:∀ x∈ms,GdP x.1) (hl:ms.length<=60):∃ os:List M4,zla [.lst [.lst (ms.map mkE)]]=some (os.map mkE)/\(∀ x∈os,x∈ms)/\os.length<=ms.length/\(ms≠[]->os≠[]):=by
 have hg:∀ d∈[ms.map mkE].flatten,GdM d:=λ d hd=>by
  rw[List.flatten_cons,List.flatten_nil,List.append_nil] at hd
  obtain ⟨x,hx,rfl⟩:=List.mem_map.mp hd
  exact z6m (h x hx)
 have hf:[ms.map mkE].flatten=ms.map mkE:=by rw[List.flatten_cons,List.flatten_nil,List.append_nil]
 have hd:(dd [ms.map mkE].flatten).length<=ms.length:=by
  have:=ze6 (zhy [ms.map mkE].flatten) λ d hd=>zcw.mp hd
  rw[hf,List.length_map] at this
  rw[hf];exact this
 have e:=zs1 (hs:=[ms.map mkE]) hg (by rw[hf,List.length_map];omega) (by omega)
 have hp:=zbr (ltK zfv) (dd [ms.map mkE].flatten)
 obtain ⟨os,h1,h2⟩:=zs8 (f:=mkE) (ms:=ms) (zk0 (ltK zfv) (dd [ms.map mkE].flatten)) λ d hd=>by
  have:=zcw.mp (hp.mem_iff.mp hd)
  rw[hf] at this;exact this
 refine⟨os,by rw[<-h1];exact e,h2,?_,λ hne hos=>?_⟩
 ·have:=congrArg List.length h1
  rw[hp.length_eq,List.length_map] at this
  omega
 ·obtain ⟨x,r,rfl⟩:=List.exists_cons_of_ne_nil hne
  have hx:mkE x∈zk0 (ltK zfv) (dd [(x::r).map mkE].flatten):=hp.mem_iff.mpr (zcw.mpr (by rw[hf];exact List.mem_map.mpr ⟨x,List.mem_cons_self,rfl⟩))
  rw[h1,hos] at hx
  cases hx
abbrev pD (p:Pth):D:=.tup (p.map D.str)
def pK (p:Pth):List Key:=p.map λ l=>Sum.inr (S l)
theorem zzz {i j:List Nat} (h:S i=S j):i=j:=zsk (show D.str i=D.str j by unfold D.str;rw[h])
theorem zfz:∀ {p q:Pth},pK p=pK q->p=q
 | [],[],_=>rfl
 | a::p,b::q,h=>by
  have h:(Sum.inr (S a):Key)::pK p=Sum.inr (S b)::pK q:=h
  obtain ⟨h1,h2⟩:=List.cons.inj h
  rw[zzz (Sum.inr.inj h1),zfz h2]
 | [],_::_,h=>by cases h
 | _::_,[],h=>by cases h
theorem zn4:∀ p:Pth,zgt (p.map D.str)=some (pK p)
 | []=>rfl
 | a::p=>by
  rw[List.map_cons,zgt,zn4 p];rfl
theorem ze9 (p:Pth):zev (pD p)=some (pK p):=zn4 p
theorem zs9 {p q:Pth} (h:pD p=pD q):p=q:=by
 have h1:=ze9 p
 rw[h,ze9] at h1
 exact zfz (Option.some.inj h1.symm)
theorem z6n (p:Pth):ktD (pK p)=pD p:=by
 unfold ktD pK
 rw[List.map_map];rfl
theorem zge {β γ:Type} (enc:β->γ) (p:Pth):∀ m:List (Pth×β),zbf (m.map λ e=>(pK e.1,enc e.2)) (pK p)=(zbf m p).map enc
 | []=>rfl
 | a::m=>by
  rw[List.map_cons,za5,za5,zge enc p m]
  by_cases e:a.1=p
  ·rw[if_pos e,if_pos (by rw[e])];rfl
  ·rw[if_neg e,if_neg (λ z=>e (zfz z))]
theorem zhf {β:Type} (enc:β->D):∀ m:List (Pth×β),(m.map λ e=>pK e.1).zip (m.map λ e=>enc e.2)=m.map λ e=>(pK e.1,enc e.2)
 | []=>rfl
 | a::m=>by rw[List.map_cons,List.map_cons,List.zip_cons_cons,zhf enc m,List.map_cons]
theorem zin {β:Type} (enc:β->D) (m:List (Pth×β)) (p:Pth):zd9 (.dt (m.map λ e=>pK e.1) (m.map λ e=>enc e.2)) (pD p)=some ((zbf m p).map enc):=by
 unfold zd9
 show (zev (pD p)).map _=_
 rw[ze9,Option.map_some,zhf,zge]
theorem ndl {α:Type}:∀ {l m:List α},l.Nodup->(∀ d∈l,d∈m)->l.length<=m.length
 | [],m,_,_=>Nat.zero_le _
 | x::r,m,h,hs=>by
  have h':=List.nodup_cons.mp h
  obtain ⟨m1,m2,e⟩:=List.append_of_mem (hs x List.mem_cons_self)
  have:=ndl (m:=m1++m2) h'.2 λ d hd=>by
   have h1:=hs d (List.mem_cons_of_mem _ hd)
   rw[e] at h1
   have hne:d≠x:=λ z=>h'.1 (by rw[<-z];exact hd)
   simp only[List.mem_append,List.mem_cons] at h1 ⊢
   rcases h1 with h1|h1|h1
   ·exact .inl h1
   ·exact absurd h1 hne
   ·exact .inr h1
  rw[e]
  simp at this ⊢
  omega
def zhg (ms:List M4):List Pth:=ms.flatMap λ x=>(List.range x.1.length).map λ k=>x.1.take (k+1)
theorem zlg {ms:List M4}{x:M4} (hx:x∈ms) {k:Nat} (h1:1<=k) (h2:k<=x.1.length):x.1.take k∈zhg ms :=
 List.mem_flatMap.mpr ⟨x,hx,List.mem_map.mpr ⟨k - 1,List.mem_range.mpr (by omega),by rw[show k - 1+1=k by omega]⟩⟩
theorem zn5 {ms:List M4} (h:∀ x∈ms,GdP x.1) {p:Pth} (hp:p∈zhg ms):GdP p:=by
 obtain ⟨x,hx,h2⟩:=List.mem_flatMap.mp hp
 obtain ⟨k,hk,rfl⟩:=List.mem_map.mp h2
 have g:=h x hx
 have hk:=List.mem_range.mp hk
 have:=g.len
 exact⟨λ y hy=>g.g y (List.mem_of_mem_take hy),by rw[List.length_take];omega,by rw[List.length_take];omega⟩
theorem zhh:∀ {ms:List M4},(∀ x∈ms,GdP x.1)->(zhg ms).length<=6 * ms.length
 | [],_=>Nat.zero_le _
 | x::ms,h=>by
  have ih:=zhh (ms:=ms) λ y hy=>h y (List.mem_cons_of_mem _ hy)
  have:=(h x List.mem_cons_self).len
  unfold zhg at ih ⊢
  rw[List.flatMap_cons,List.length_append,List.length_map,List.length_range,List.length_cons]
  omega
def gE (e:Pth×List M4):List Key×List D:=(pK e.1,e.2.map mkE)
structure MI (ms:List M4) (N:Nat) (m:List (Pth×List M4)):Prop where
 nd:(m.map Prod.fst).Nodup
 sub:∀ e∈m,e.1∈zhg ms
 mm:∀ e∈m,∀ x∈e.2,x.1=e.1/\x∈ms
 ln:∀ e∈m,e.2.length<=N
theorem MI.len {ms:List M4}{N:Nat}{m:List (Pth×List M4)} (h:MI ms N m) (hg:∀ x∈ms,GdP x.1):m.length<=6 * ms.length:=by
 have:=ndl h.nd (m:=zhg ms) λ p hp=>by
  obtain ⟨e,he,rfl⟩:=List.mem_map.mp hp
  exact h.sub e he
 rw[List.length_map] at this
 exact Nat.le_trans this (zhh hg)
def sd (m:List (Pth×List M4)) (p:Pth):List (Pth×List M4):=if (zbf m p).isSome=true then m else m++[(p,[])]
theorem z6o (m:List (Pth×List M4)) (p:Pth):zo7 (m.map gE) (pK p)=(sd m p).map gE:=by
 unfold zo7 sd
 have:zbf (m.map gE) (pK p)=(zbf m p).map (List.map mkE):=zge (List.map mkE) p m
 rw[this,Option.isSome_map]
 split
 ·rfl
 ·rw[List.map_append];rfl
theorem zgf {β:Type}{m:List (Pth×β)}{p:Pth}:(zbf m p).isSome=true↔p∈m.map Prod.fst:=by
 constructor
 ·intro h
  refine Classical.byContradiction λ z=>?_
  rw[zd0 z] at h;cases h
 ·intro h
  obtain ⟨v,e⟩:=zc6 h
  rw[e];rfl
theorem MI.sd {ms:List M4}{N:Nat}{m:List (Pth×List M4)} (h:MI ms N m) {p:Pth} (hp:p∈zhg ms):MI ms N (K20.sd m p)/\p∈(K20.sd m p).map Prod.fst:=by
 unfold K20.sd
 split
 ·rename_i hs
  exact⟨h,zgf.mp hs⟩
 ·rename_i hs
  have hn:p ∉ m.map Prod.fst:=λ z=>hs (zgf.mpr z)
  refine⟨⟨?_,λ e he=>?_,λ e he=>?_,λ e he=>?_⟩,by simp⟩
  ·rw[List.map_append]
   exact List.nodup_append.mpr ⟨h.nd,by simp,λ a ha b hb z=>hn (by
    have:b=p:=by simpa using hb
    rw[<-this,<-z];exact ha)⟩
  ·rcases List.mem_append.mp he with he|he
   ·exact h.sub e he
   ·rw[List.mem_singleton.mp he];exact hp
  ·rcases List.mem_append.mp he with he|he
   ·exact h.mm e he
   ·rw[List.mem_singleton.mp he];intro x hx;cases hx
  ·rcases List.mem_append.mp he with he|he
   ·exact h.ln e he
   ·rw[List.mem_singleton.mp he];exact Nat.zero_le _
def ap (p:Pth) (x:M4):List (Pth×List M4)->List (Pth×List M4)
 | []=>[]
 | e::r=>if e.1=p then (e.1,e.2++[x])::r else e::ap p x r
theorem z6p (p:Pth) (x:M4):∀ m:List (Pth×List M4),zf8 (pK p) (mkE x) (m.map gE)=(ap p x m).map gE
 | []=>rfl
 | e::r=>by
  rw[List.map_cons,zf8,ap]
  by_cases h:e.1=p
  ·rw[if_pos h,if_pos (show (gE e).1=pK p by rw[<-h];rfl),List.map_cons]
   refine congrArg (·::_) ?_
   show (pK e.1,e.2.map mkE++[mkE x])=(pK e.1,(e.2++[x]).map mkE)
   rw[List.map_append];rfl
  ·rw[if_neg h,if_neg (show ¬ (gE e).1=pK p from λ z=>h (zfz z)),List.map_cons,z6p p x r]
theorem zyt (p:Pth) (x:M4):∀ m:List (Pth×List M4),(ap p x m).map Prod.fst=m.map Prod.fst
 | []=>rfl
 | e::r=>by
  rw[ap]
  split
  ·rfl
  ·rw[List.map_cons,List.map_cons,zyt p x r]
theorem zn6 {p:Pth}{x:M4}{e:Pth×List M4}:∀ {m:List (Pth×List M4)},e∈ap p x m->e∈m\/∃ f∈m,f.1=p/\e=(f.1,f.2++[x])
 | [],h=>by cases h
 | f::r,h=>by
  rw[ap] at h
  split at h
  ·rename_i hf
   rcases List.mem_cons.mp h with rfl|h
   ·exact .inr ⟨f,List.mem_cons_self,hf,rfl⟩
   ·exact .inl (List.mem_cons_of_mem _ h)
  ·rcases List.mem_cons.mp h with rfl|h
   ·exact .inl List.mem_cons_self
   ·rcases zn6 h with h|⟨g,h1,h2⟩
    ·exact .inl (List.mem_cons_of_mem _ h)
    ·exact .inr ⟨g,List.mem_cons_of_mem _ h1,h2⟩
theorem MI.ap {ms:List M4}{N:Nat}{m:List (Pth×List M4)} (h:MI ms N m) {x:M4} (hx:x∈ms):MI ms (N+1) (K20.ap x.1 x m) where
 nd:=by rw[zyt];exact h.nd
 sub:=λ e he=>by
  rcases zn6 he with he|⟨f,h1,_,rfl⟩
  ·exact h.sub e he
  ·exact h.sub f h1
 mm:=λ e he y hy=>by
  rcases zn6 he with he|⟨f,h1,h2,rfl⟩
  ·exact h.mm e he y hy
  ·rcases List.mem_append.mp hy with hy|hy
   ·exact h.mm f h1 y hy
   ·rw[List.mem_singleton.mp hy];exact⟨h2.symm,hx⟩
 ln:=λ e he=>by
  rcases zn6 he with he|⟨f,h1,_,rfl⟩
  ·exact Nat.le_succ_of_le (h.ln e he)
  ·have:=h.ln f h1
   show (f.2++[x]).length<=_
   rw[List.length_append,List.length_singleton];omega
def NE (m:List (Pth×List M4)):Prop:=∃ e∈m,e.2≠[]
theorem NE.sd {m:List (Pth×List M4)} (h:NE m) (p:Pth):NE (K20.sd m p):=by
 obtain ⟨e,h1,h2⟩:=h
 unfold K20.sd
 split
 ·exact⟨e,h1,h2⟩
 ·exact⟨e,List.mem_append_left _ h1,h2⟩
theorem zyu {p:Pth}{x:M4}:∀ {m:List (Pth×List M4)},p∈m.map Prod.fst->∃ f∈ap p x m,f.2≠[]
 | [],h=>by cases h
 | f::r,h=>by
  rw[ap]
  split
  ·exact⟨_,List.mem_cons_self,by simp⟩
  ·rename_i hf
   rw[List.map_cons,List.mem_cons] at h
   obtain ⟨g,h1,h2⟩:=zyu (x:=x) (h.resolve_left λ z=>hf z.symm)
   exact⟨g,List.mem_cons_of_mem _ h1,h2⟩
theorem zfa {gt:D->Rho->Option Rho}{f:GG}{d:D}{r:List D}{ρ ρ1:Rho}{gd:GD}{z:Rho×GD} (h1:gt d ρ=some ρ1) (h2:f ρ1 gd=some z):zpj gt f (d::r) ρ gd=zpj gt f r z.1 z.2:=by
 rw[zpj,h1,Option.bind_some,h2,Option.bind_some]
theorem z6q {fk:Rho->Option D}{ρ:Rho}{m:List (Pth×List M4)}{p:Pth} (h:fk ρ=some (pD p)) (hl:m.length<100000):gSd fk ρ (m.map gE)=some (ρ,(sd m p).map gE):=by
 unfold gSd
 rw[h,Option.bind_some,ze9,Option.bind_some,if_pos (by rw[List.length_map];exact hl),z6o]
theorem z6r {fk fv:Rho->Option D}{ρ:Rho}{m:List (Pth×List M4)}{p:Pth}{x:M4} (h:fk ρ=some (pD p)) (hv:fv ρ=some (mkE x)) (hl:m.length<100000) (hn:∀ e∈m,e.2.length<100000):gSa fk fv ρ (m.map gE)=some (ρ,(ap p x (sd m p)).map gE):=by
 unfold gSa
 have hc:(m.map gE).length<100000/\((m.map gE).all λ x=>decide (x.2.length<100000))=true:=by
  refine⟨by rw[List.length_map];exact hl,List.all_eq_true.mpr λ y hy=>?_⟩
  obtain ⟨e,he,rfl⟩:=List.mem_map.mp hy
  refine decide_eq_true ?_
  show (e.2.map mkE).length<_
  rw[List.length_map];exact hn e he
 rw[h,Option.bind_some,ze9,Option.bind_some,hv,Option.bind_some,if_pos hc,z1h,z6o,z6p]
abbrev slP:Rho->Option D:=eSl (zaa 3) oN (oS (zaa 4))
theorem zn7 {ms:List M4} (hg:∀ x∈ms,GdP x.1) (hm:ms.length<=60) {x:M4} (hx:x∈ms) {N:Nat} (a b:Option Sl):∀ (n k:Nat) (m:List (Pth×List M4)) (z:Option Sl),1<=k->k+n<=x.1.length->MI ms N m →
  ∃ m' y,zpj (gN 4) (gSd slP) (zj1 ((k:Nat):Int) n) [a,none,b,some (.sh (pD x.1)),z] (m.map gE)=some ([a,none,b,some (.sh (pD x.1)),y],m'.map gE)/\MI ms N m'/\(NE m->NE m')
 | 0,k,m,z,_,_,h=>⟨m,z,rfl,h,id⟩
 | n+1,k,m,z,h1,h2,h=>by
  have h3:=(h.sd (zlg hx h1 (by omega))).1
  obtain ⟨m',y,e,h4,h5⟩:=zn7 hg hm hx a b n (k+1) (sd m (x.1.take k)) (some (.sh (.int (k:Nat)))) (by omega) (by omega) h3
  refine⟨m',y,?_,h4,λ z=>h5 (z.sd _)⟩
  rw[zdz,<-e]
  have hs:slP [a,none,b,some (.sh (pD x.1)),some (.sh (.int (k:Nat)))]=some (pD (x.1.take k)):=by
   show some (D.tup (zh8 (x.1.map D.str) none (some ((k:Nat):Int))))=_
   rw[zro,<-List.map_take]
  have:=h.len hg
  exact zfa rfl (z6q hs (by omega))
def zta:GG:=(zo8 (z75 3 (e2 gIx (zaa 2) (eC (.int 0))))
  (zo8 (zsa (iR zxu (aC (eC (.int 1)) (aC (eN zb7 (aC (zaa 3) aN)) aN))) (gN 4) (gSd (eSl (zaa 3) oN (oS (zaa 4)))))
  (gSa (zaa 3) (zal 2))))
theorem ztb {ms:List M4} (hg:∀ x∈ms,GdP x.1) (hm:ms.length<=60) (a:Option Sl):∀ (os:List M4) (m:List (Pth×List M4)) (N:Nat) (z2 z3 z4:Option Sl),(∀ x∈os,x∈ms)->N+os.length<=1000->MI ms N m →
  ∃ m' ρ',zpj (gN 2) zta (os.map mkE) [a,none,z2,z3,z4] (m.map gE)=some (ρ',m'.map gE)/\MI ms (N+os.length) m'/\(NE m\/os≠[]->NE m')
 | [],m,N,z2,z3,z4,_,_,h=>⟨m,_,rfl,h,λ z=>z.resolve_right λ z=>z rfl⟩
 | x::os,m,N,z2,z3,z4,hs,hN,h=>by
  rw[List.length_cons] at hN
  have hx:=hs x List.mem_cons_self
  have gx:=hg x hx
  have gl:=gx.len
  have gp:=gx.pos
  obtain ⟨m1,y,e1,h1,_⟩:=zn7 hg hm hx a (some (.sh (mkE x))) (x.1.length - 1) 1 m z4 (Nat.le_refl _) (by omega) h
  have hp:x.1∈zhg ms:=by
   have:=zlg hx gp (Nat.le_refl _)
   rwa [List.take_length] at this
  obtain ⟨h2,hin⟩:=h1.sd hp
  obtain ⟨m',ρ',e,h4,h6⟩:=ztb hg hm a os (ap x.1 x (sd m1 x.1)) (N+1) (some (.sh (mkE x))) (some (.sh (pD x.1))) y (λ y hy=>hs y (List.mem_cons_of_mem _ hy)) (by omega) (h2.ap hx)
  refine⟨m',ρ',?_,by rw[List.length_cons,show N+(os.length+1)=N+1+os.length by omega];exact h4,λ _=>h6 (.inl (zyu hin))⟩
  rw[List.map_cons,<-e]
  refine zfa (ρ1:=[a,none,some (.sh (mkE x)),z3,z4]) (z:=([a,none,some (.sh (mkE x)),some (.sh (pD x.1)),y],(ap x.1 x (sd m1 x.1)).map gE)) rfl ?_
  have l1:z75 3 (e2 gIx (zaa 2) (eC (.int 0))) [a,none,some (.sh (mkE x)),z3,z4] (m.map gE)=some ([a,none,some (.sh (mkE x)),some (.sh (pD x.1)),z4],m.map gE):=rfl
  have r2:iR zxu (aC (eC (.int 1)) (aC (eN zb7 (aC (zaa 3) aN)) aN)) [a,none,some (.sh (mkE x)),some (.sh (pD x.1)),z4]=some (zj1 ((1:Nat):Int) (x.1.length - 1)):=by
   refine zox (ds:=[.int 1,.int ((x.1.length:Nat):Int)]) (zak rfl (zak (zas rfl ?_) rfl)) ?_
   ·show some (D.int (((x.1.map D.str).length:Nat):Int))=_
    rw[List.length_map]
   ·refine (z0o (by decide) (by decide) (by omega) (by omega)).trans ?_
    rw[show (((x.1.length:Nat):Int) - 1).toNat=x.1.length - 1 by omega];rfl
  have l2:zsa (iR zxu (aC (eC (.int 1)) (aC (eN zb7 (aC (zaa 3) aN)) aN))) (gN 4) (gSd (eSl (zaa 3) oN (oS (zaa 4)))) [a,none,some (.sh (mkE x)),some (.sh (pD x.1)),z4] (m.map gE)=some ([a,none,some (.sh (mkE x)),some (.sh (pD x.1)),y],m1.map gE):=by
   unfold zsa
   rw[r2,Option.bind_some];exact e1
  have l3:gSa (zaa 3) (zal 2) [a,none,some (.sh (mkE x)),some (.sh (pD x.1)),y] (m1.map gE)=some ([a,none,some (.sh (mkE x)),some (.sh (pD x.1)),y],(ap x.1 x (sd m1 x.1)).map gE):=by
   have:=h1.len hg
   exact z6r rfl rfl (by omega) λ e he=>by have:=h1.ln e he;omega
  show zta _ _=_
  unfold zta zo8
  rw[l1,Option.bind_some]
  dsimp only
  rw[l2,Option.bind_some]
  exact l3
def dtD (m:List (Pth×List M4)):D:=.dt (m.map λ e=>pK e.1) (m.map λ e=>.lst (e.2.map mkE))
theorem ztc {ms os:List M4} (hg:∀ x∈ms,GdP x.1) (hm:ms.length<=60) (hs:∀ x∈os,x∈ms) (hl:os.length<=60):∃ m,z16 [.lst (os.map mkE)]=some (dtD m)/\MI ms os.length m/\(os≠[]->NE m):=by
 obtain ⟨m,ρ',e,h,hne⟩:=ztb hg hm (some (.sh (.lst (os.map mkE)))) os [] 0 none none none hs (by omega) ⟨List.nodup_nil,(λ e he=>nomatch he),(λ e he=>nomatch he),(λ e he=>nomatch he)⟩
 rw[Nat.zero_add] at h
 refine⟨m,za9 rfl ?_,h,λ z=>hne (.inr z)⟩
 show zx8 1 (zsa (iE (zal 0)) (gN 2) zta) [some (.sh (.lst (os.map mkE))),none,none,none,none]=_
 unfold zx8
 have e':zsa (iE (zal 0)) (gN 2) zta [some (.sh (.lst (os.map mkE))),none,none,none,none] []=some (ρ',m.map gE):=e
 simp only[List.getElem?_cons_succ,List.getElem?_cons_zero]
 refine (if_pos rfl).trans ?_
 rw[e']
 dsimp only
 rw[List.map_map,List.map_map];rfl
theorem z6s {p:Pth} (h:GdP p):zdp [pD p]=some (.lst (p.map rkD)):=zjs p h.asc (Nat.le_trans h.len (by decide))
theorem yax {ks:List Pth} (hg:∀ p∈ks,GdP p) (nd:ks.Nodup) (sm:ks.length<64):KOk zdp (ks.map pD):=by
 have ga:∀ d∈ks.map pD,∃ p,GdP p/\d=pD p/\rk zdp d=.lst (p.map rkD):=λ d hd=>by
  obtain ⟨p,hp,rfl⟩:=List.mem_map.mp hd
  exact⟨p,hg p hp,rfl,zec (z6s (hg p hp))⟩
 refine⟨λ d hd=>?_,.inl λ d hd=>?_,λ d hd e he=>?_,⟨λ a ha b hb c hc h1 h2=>?_,λ a ha b hb=>?_,λ a ha b hb h=>?_⟩,?_,by rw[List.length_map];exact sm⟩
 ·obtain ⟨p,g,rfl,_⟩:=ga d hd
  exact⟨_,z6s g,z2c p⟩
 ·obtain ⟨p,g,rfl,e⟩:=ga d hd
  rw[e];rfl
 ·obtain ⟨p,g,rfl,e1⟩:=ga d hd
  obtain ⟨q,g2,rfl,e2⟩:=ga e he
  rw[e1,e2];exact zg9.ok _ _ (crk p) (crk q)
 ·obtain ⟨p,g,rfl,e1⟩:=ga a ha
  obtain ⟨q,g2,rfl,e2⟩:=ga b hb
  obtain ⟨r,g3,rfl,e3⟩:=ga c hc
  unfold ltK at h1 h2 ⊢
  rw[e1,e2] at h1;rw[e2,e3] at h2;rw[e1,e3]
  exact zg9.tr _ _ _ (crk p) (crk q) (crk r) h1 h2
 ·obtain ⟨p,g,rfl,e1⟩:=ga a ha
  obtain ⟨q,g2,rfl,e2⟩:=ga b hb
  unfold ltK
  rw[e1,e2]
  rcases zg9.tot _ _ (crk p) (crk q) with z|z
  ·exact .inl (by rw[zjt g g2 (D.lst.inj z)])
  ·exact .inr z
 ·obtain ⟨p,g,rfl,e1⟩:=ga a ha
  obtain ⟨q,g2,rfl,e2⟩:=ga b hb
  unfold ltK at h ⊢
  rw[e1,e2] at h;rw[e1,e2]
  exact zg9.as _ _ (crk p) (crk q) h
 ·exact List.pairwise_map.mpr (List.Pairwise.imp (λ {a b} h e=>h (zs9 e)) nd)
theorem z2i {α β:Type}{f:α->β}{l m:List β} (h:l.Perm m):∀ {ks:List α},m=ks.map f->∃ ks':List α,l=ks'.map f/\ks'.Perm ks:=by
 induction h with
 | nil =>
  intro ks e
  cases ks with
  | nil=>exact⟨[],rfl,.refl _⟩
  | cons a r=>cases e
 | cons x _ ih =>
  intro ks e
  cases ks with
  | nil=>cases e
  | cons a r =>
   obtain ⟨e1,e2⟩:=List.cons.inj e
   obtain ⟨r',h1,h2⟩:=ih e2
   exact⟨a::r',by rw[List.map_cons,e1,h1],h2.cons a⟩
 | swap x y l =>
  intro ks e
  match ks,e with
  | [],e=>cases e
  | [a],e=>cases e
  | a::b::r,e =>
   obtain ⟨e1,e2⟩:=List.cons.inj e
   obtain ⟨e2,e3⟩:=List.cons.inj e2
   exact⟨b::a::r,by rw[List.map_cons,List.map_cons,e1,e2,e3],List.Perm.swap a b r⟩
 | trans _ _ ih1 ih2 =>
  intro ks e
  obtain ⟨k2,h1,h2⟩:=ih2 e
  obtain ⟨k1,h3,h4⟩:=ih1 h1
  exact⟨k1,h3,h4.trans h2⟩
theorem z6t {ks:List Pth} (hg:∀ p∈ks,GdP p) (nd:ks.Nodup) (sm:ks.length<64):∃ ks':List Pth,zht zdp (ks.map pD)=some (ks'.map pD)/\ks'.Perm ks:=by
 obtain ⟨ks',h1,h2⟩:=z2i (zbr (ltK zdp) (ks.map pD)) rfl
 refine⟨ks',?_,h2⟩
 unfold zht
 rw[if_pos (yax hg nd sm),h1]
theorem zhi {β:Type}{p:Pth}{v:β}:∀ {m:List (Pth×β)},zbf m p=some v->(p,v)∈m
 | [],h=>by cases h
 | a::m,h=>by
  rw[za5] at h
  split at h
  ·rename_i e
   cases h
   rw[<-e];exact List.mem_cons_self
  ·exact List.mem_cons_of_mem _ (zhi h)
theorem z2j {α:Type} (m:List (Int×α)) (k:Int) (v:α):zi3 m k v≠[]:=by
 intro z
 have:=congrArg (List.map Prod.fst) z
 rw[zhb] at this
 split at this
 ·rename_i h;rw[this] at h;cases h
 ·simp at this
theorem zmt {most:Bool}:∀ (ps:List Int) (m:List (Int×Bool)),m≠[]\/ps≠[]->ps.foldl (stp most) m≠[]
 | [],m,h=>h.resolve_right λ z=>z rfl
 | x::r,m,_=>zmt r _ (.inl (z2j _ _ _))
theorem zeh {pg:List Int}:∀ (mks:List Mk) (m:List (Int×Bool)),m≠[]->mks.foldl (λ m k=>(zo9 pg k).foldl (stp k.2.2) m) m≠[]
 | [],m,h=>h
 | k::r,m,h=>zeh r _ (zmt _ _ (.inl h))
theorem ztd {pg:List Int}{k:Mk}{r:List M4} (h:zo9 pg k≠[]) {p:Pth}:za8 pg (((p,k)::r).map (·.2))≠[]:=by
 unfold za8
 rw[List.map_cons,List.foldl_cons]
 exact zeh _ _ (zmt _ _ (.inr h))
theorem zte (a b:Int) (t:Bool):∀ r:List (Int×Bool),zld a b t r≠[]
 | []=>by unfold zld;simp
 | x::r=>by
  unfold zld
  split
  ·exact zte _ _ _ r
  ·simp
theorem z2k {m:List (Int×Bool)} (h:m≠[]):zn3 m≠[]:=by
 cases m with
 | nil=>exact absurd rfl h
 | cons x r=>unfold zn3;exact zte _ _ _ r
def enD (e:Pth×List Td):D:=.tup [pD e.1,.lst (e.2.map TdD)]
structure GdE (ms:List M4) (E:List (Pth×List Td)):Prop where
 nd:(E.map Prod.fst).Nodup
 sub:∀ e∈E,e.1∈zhg ms
 ln:∀ e∈E,e.2.length<=62
theorem zlh {fe:Rho->Option D}{ρ:Rho}{d:D} (h:fe ρ=some d):zfn fe ρ=.nx ρ:=by unfold zfn;rw[h]
theorem zpa {ms:List M4} (bs:List Bool) (hb:bs.length<=62) (hg:∀ x∈ms,GdK bs.length x) (hm:ms.length<=8) (most first:Int):∃ E,zmp [.lst (bs.map D.bl),.int most,.int first,.lst (ms.map mkE)]=some (.lst (E.map enD))/\GdE ms E/\(ms≠[]->∃ e∈E,e.2≠[]):=by
 have hp:∀ x∈ms,GdP x.1:=λ x hx=>(hg x hx).p
 obtain ⟨os,e1,o1,o2,o3⟩:=z2h hp (by omega)
 have e2:=zs7 (os:=os) λ x hx=>hg x (o1 x hx)
 obtain ⟨pg,p1,e3⟩:=zwa bs (by omega) most first
 obtain ⟨m,e4,M,hNE⟩:=ztc hp (by omega) o1 (by omega)
 have ml:=M.len hp
 obtain ⟨ks,e5,k1⟩:=z6t (ks:=m.map Prod.fst) (λ p hpp=>by
  obtain ⟨e,he,rfl⟩:=List.mem_map.mp hpp
  exact zn5 hp (M.sub e he)) M.nd (by rw[List.length_map];omega)
 have kl:=k1.length_eq
 rw[List.length_map] at kl
 have hv:∀ p∈ks,∃ xs,zbf m p=some xs/\(p,xs)∈m:=λ p hpp=>by
  obtain ⟨xs,hx⟩:=zc6 (k1.mem_iff.mp hpp)
  exact⟨xs,hx,zhi hx⟩
 refine⟨ks.map λ p=>(p,zn3 (zim (za8 pg (((zbf m p).getD []).map (·.2))))),?_,⟨?_,λ e he=>?_,λ e he=>?_⟩,λ hms=>?_⟩
 ·refine za9 rfl (st (zai (zfq (zd7 (zak (zas rfl rfl) rfl) rfl e1))) (st (zlh (zan (ds:=[.lst (os.map mkE),.int ((bs.length:Nat):Int)]) (zak rfl (zak (zas rfl ?_) rfl)) rfl e2)) (st (zai (zan rfl rfl e3)) (st (zai (zan rfl rfl e4)) (zbd ?_)))))
  ·show some (D.int (((bs.map D.bl).length:Nat):Int))=_
   rw[List.length_map]
  ·refine (zfq (zdg (ds:=ks.map pD) (zri (d:=.lst (ks.map pD)) (zfq ?_) rfl) (sz (by rw[List.length_map];omega)) (zc4 pD (λ p=>enD (p,zn3 (zim (za8 pg (((zbf m p).getD []).map (·.2)))))) ks λ p hpp=>⟨_,rfl,rfl,?_⟩))).trans ?_
   ·show zht zdp ((m.map λ e=>pK e.1).map ktD)=_
    rw[<-e5,List.map_map,List.map_map]
    exact congrArg _ (List.map_congr_left λ e _=>z6n e.1)
   ·obtain ⟨xs,hx,hxm⟩:=hv p hpp
    rw[hx]
    have hk:∀ k∈xs.map (·.2),k.1<=k.2.1:=λ k hk=>by
     obtain ⟨x,hx2,rfl⟩:=List.mem_map.mp hk
     exact (hg x (M.mm _ hxm x hx2).2).lo
    have hs:=zle (pg:=pg) (by omega) (pD p) (xs.map (·.2)) hk
    have he:(xs.map (·.2)).map (MkS (pD p))=xs.map mkE:=by
     rw[List.map_map]
     refine List.map_congr_left λ x hx2=>?_
     show MkS (pD p) x.2=mkE x
     unfold MkS mkE MkD
     rw[(M.mm _ hxm x hx2).1]
    rw[he] at hs
    refine zas (ds:=[pD p,.lst ((zn3 (zim (za8 pg (xs.map (·.2))))).map TdD)]) (zak rfl (zak (zan (ds:=[.lst (pg.map D.int),.lst (xs.map mkE)]) (zak rfl (zak (zae (d:=dtD m) (e:=pD p) rfl rfl ?_) rfl)) rfl hs) rfl)) rfl
    unfold zgz
    have:=zin (λ xs:List M4=>D.lst (xs.map mkE)) m p
    rw[hx] at this
    show (zd9 (.dt (m.map λ e=>pK e.1) (m.map λ e=>D.lst (e.2.map mkE))) (pD p)).bind id=_
    rw[this];rfl
   ·rw[List.map_map];rfl
 ·rw[List.map_map]
  have:(ks.map (Prod.fst ∘ λ p=>(p,zn3 (zim (za8 pg (((zbf m p).getD []).map (·.2)))))))=ks:=by
   have:(Prod.fst ∘ λ p:Pth=>(p,zn3 (zim (za8 pg (((zbf m p).getD []).map (·.2))))))=id:=rfl
   rw[this,List.map_id]
  rw[this]
  exact k1.nodup_iff.mpr M.nd
 ·obtain ⟨p,hpp,rfl⟩:=List.mem_map.mp he
  obtain ⟨xs,_,hxm⟩:=hv p hpp
  exact M.sub _ hxm
 ·obtain ⟨p,hpp,rfl⟩:=List.mem_map.mp he
  have h1:=zv6 (zim (za8 pg (((zbf m p).getD []).map (·.2))))
  rw[zjz] at h1
  have h2:=(zhd pg (((zbf m p).getD []).map (·.2))).len
  show (zn3 _).length<=62
  omega
 ·obtain ⟨e,he,hn⟩:=hNE (o3 hms)
  have hpe:e.1∈ks:=k1.mem_iff.mpr (List.mem_map.mpr ⟨e,he,rfl⟩)
  refine⟨_,List.mem_map.mpr ⟨e.1,hpe,rfl⟩,?_⟩
  have hv1:zbf m e.1=some e.2:=by
   obtain ⟨xs,h1,h2⟩:=hv e.1 hpe
   rw[h1]
   have:(e.1,xs)=e:=by
    have nd:=M.nd
    rw[List.nodup_iff_pairwise_ne,List.pairwise_map] at nd
    rcases List.mem_iff_getElem.mp h2 with ⟨a,ha,ea⟩
    rcases List.mem_iff_getElem.mp he with ⟨c,hc,ec⟩
    have hac:a=c:=by
     rcases Nat.lt_trichotomy a c with z|z|z
     ·exact absurd (show m[a].1=m[c].1 by rw[ea,ec]) (List.pairwise_iff_getElem.mp nd a c ha hc z)
     ·exact z
     ·exact absurd (show m[c].1=m[a].1 by rw[ea,ec]) (List.pairwise_iff_getElem.mp nd c a hc ha z)
    subst hac
    rw[<-ea,ec]
   rw[<-this]
  rw[hv1]
  show zn3 (zim (za8 pg (e.2.map (·.2))))≠[]
  obtain ⟨x,r,hxr⟩:=List.exists_cons_of_ne_nil hn
  have hx:=M.mm e he x (by rw[hxr];exact List.mem_cons_self)
  have gx:=hg x hx.2
  have hcut:zo9 pg x.2≠[]:=by
   unfold zo9
   intro z
   have:=congrArg List.length z
   rw[List.length_take,List.length_drop,List.length_nil] at this
   have h1:=gx.lo
   have h2:=gx.hi
   omega
  have hst:za8 pg (e.2.map (·.2))≠[]:=by
   rw[hxr]
   exact ztd hcut
  intro z
  have:=z2k (m:=zim (za8 pg (e.2.map (·.2)))) (λ y=>hst (by
   have h1:=congrArg List.length y
   rw[zjz,List.length_nil] at h1
   exact List.eq_nil_of_length_eq_zero h1))
  exact this z
def SeD (hs gs:List (List Nat)) (a:Bool):D:=.tup [.tup (hs.map D.str),.tup (gs.map D.str),.bl a]
def GdS (d:D):Prop:=∃ hs gs a,GdP hs/\GdP gs/\d=SeD hs gs a
theorem zb4 {hs gs:List (List Nat)} (h:GdP hs) (h2:GdP gs) (a:Bool):zfw [SeD hs gs a]=some (.tup [.lst (hs.map rkD),.bl a,.lst (gs.map rkD)]) :=
 za9 rfl (zbd (zas (zak (zan (zak (zae rfl rfl rfl) rfl) rfl (zjs hs h.asc (Nat.le_trans h.len (by decide)))) (zak (zae rfl rfl rfl) (zak (zan (zak (zae rfl rfl rfl) rfl) rfl (zjs gs h2.asc (Nat.le_trans h2.len (by decide)))) rfl))) rfl))
def CSf:Nat->D->Prop|0=>CRk|1=>CBl|_=>CRk
theorem yay:TotD (z1u CSf):=zjm λ i=>match i with|0=>zg9|1=>zyf|_+2=>zg9
theorem z6u:Rkd zfw (z1u CSf) GdS where
 T:=yay
 ex:=λ d ⟨hs,gs,a,h,g,e⟩=>by subst e;rw[zec (zb4 h g a)];exact zb4 h g a
 cl:=λ d ⟨hs,gs,a,h,g,e⟩=>by subst e;rw[zec (zb4 h g a)];exact⟨_,rfl,crk hs,⟨_,rfl⟩,crk gs,True.intro⟩
 dk:=λ d ⟨hs,gs,a,h,g,e⟩=>by subst e;rw[zec (zb4 h g a)];simp[dOk,LV,rkD]
 kb:=λ d ⟨hs,gs,a,h,g,e⟩=>by subst e;rw[zec (zb4 h g a)];exact⟨rfl,rfl⟩
 inj:=λ d e ⟨hs,gs,a,h,g,e1⟩ ⟨hs',gs',a',h',g',e2⟩ z=>by
  subst e1 e2
  rw[zec (zb4 h g a),zec (zb4 h' g' a')] at z
  have z:=D.tup.inj z
  simp only[List.cons.injEq,D.lst.injEq] at z
  obtain ⟨z1,z2,z3,_⟩:=z
  have e1:=zjt h h' z1
  have e2:=zjt g g' z3
  subst e1 e2
  unfold SeD
  rw[z2]
theorem yaz (hs gs:List (List Nat)) (a:Bool):isN [2,2,1] (SeD hs gs a)=true:=by
 simp only[isN,SeD,sgs,Bool.and_eq_true,Bool.and_true]
 exact⟨zju hs,zju gs,rfl⟩
abbrev tgS:D->Rho->Option Rho:=gT 3 (gTC (gN 3) (gTC (gN 4) (gTC (gN 5) gT0)))
abbrev puS:GN:=zmj [2,2,1] (eN za1 (aC (zat 1 zfu (aC (zal 3) aN)) (aC (zat 1 zfu (aC (zal 4) aN)) (aC (zal 5) aN))))
theorem zyv (a b:Option Sl):∀ (h ks:List D) (z3 z4 z5:Option Sl),(∀ d∈h,GdS d)->ks.length+h.length<=100000->∃ y3 y4 y5,zo3 tgS puS h [a,none,b,z3,z4,z5] ks=some ([a,none,b,y3,y4,y5],h.foldl zf7 ks)
 | [],ks,z3,z4,z5,_,_=>⟨z3,z4,z5,rfl⟩
 | d::r,ks,z3,z4,z5,hg,hl=>by
  obtain ⟨hs,gs,m,_,_,rfl⟩:=hg _ List.mem_cons_self
  rw[List.length_cons] at hl
  have al:=zgc ks (SeD hs gs m)
  obtain ⟨y3,y4,y5,ih⟩:=zyv a b r (zf7 ks (SeD hs gs m)) (some (.sh (.tup (hs.map D.str)))) (some (.sh (.tup (gs.map D.str)))) (some (.sh (.bl m))) (λ e he=>hg e (List.mem_cons_of_mem _ he)) (by omega)
  exact⟨y3,y4,y5,(ze7 rfl (zs0 (zas (zak (zan rfl rfl (zha hs)) (zak (zan rfl rfl (zha gs)) (zak rfl rfl))) rfl) (yaz hs gs m) (by omega))).trans ih⟩
theorem zyw (a:Option Sl):∀ (hs:List (List D)) (ks:List D) (b z3 z4 z5:Option Sl),(∀ d∈hs.flatten,GdS d)->ks.length+hs.flatten.length<=100000->∃ y2 y3 y4 y5,zo3 (gN 2) (zjj (iE (zal 2)) tgS puS) (hs.map D.lst) [a,none,b,z3,z4,z5] ks=some ([a,none,y2,y3,y4,y5],hs.flatten.foldl zf7 ks)
 | [],ks,b,z3,z4,z5,_,_=>⟨b,z3,z4,z5,rfl⟩
 | h::r,ks,b,z3,z4,z5,hg,hl=>by
  rw[List.flatten_cons,List.length_append] at hl
  have lk:∀ (l acc:List D),(l.foldl zf7 acc).length<=acc.length+l.length:=λ l=>by
   induction l with
   | nil=>intro acc;simp
   | cons x l ih=>intro acc;rw[List.foldl_cons,List.length_cons];have:=ih (zf7 acc x);have:=zgc acc x;omega
  have lk1:=lk h ks
  obtain ⟨y3,y4,y5,e1⟩:=zyv a (some (.sh (.lst h))) h ks z3 z4 z5 (λ d hd=>hg d (by rw[List.flatten_cons];exact List.mem_append_left _ hd)) (by omega)
  obtain ⟨w2,w3,w4,w5,e2⟩:=zyw a r (h.foldl zf7 ks) (some (.sh (.lst h))) y3 y4 y5 (λ d hd=>hg d (by rw[List.flatten_cons];exact List.mem_append_right _ hd)) (by omega)
  refine⟨w2,w3,w4,w5,?_⟩
  rw[List.map_cons,List.flatten_cons,List.foldl_append,<-e2]
  refine ze7 rfl ?_
  show zjj (iE (zal 2)) tgS puS [a,none,some (.sh (.lst h)),z3,z4,z5] ks=_
  unfold zjj
  exact e1
theorem zpb {hs:List (List D)} (hg:∀ d∈hs.flatten,GdS d) (hl:hs.flatten.length<=10000) (sm:(dd hs.flatten).length<64):zsq [.lst (hs.map D.lst)]=some (zk0 (ltK zfw) (dd hs.flatten)):=by
 obtain ⟨y2,y3,y4,y5,e⟩:=zyw (some (.sh (.lst (hs.map D.lst)))) hs [] none none none none hg (by rw[List.length_nil];omega)
 refine zrh rfl ?_
 have ok:=z6u.kok (λ d hd=>hg d (zcw.mp hd)) (zhy hs.flatten) sm
 have e':zjj (iE (zal 0)) (gN 2) (zjj (iE (zal 2)) tgS puS) [some (.sh (.lst (hs.map D.lst))),none,none,none,none,none] []=some ([some (.sh (.lst (hs.map D.lst))),none,y2,y3,y4,y5],dd hs.flatten):=e
 show zk1 1 (zjj (iE (zal 0)) (gN 2) (zjj (iE (zal 2)) tgS puS)) zfw [some (.sh (.lst (hs.map D.lst))),none,none,none,none,none]=_
 unfold zk1
 simp only[List.getElem?_cons_succ,List.getElem?_cons_zero]
 rw[e']
 dsimp only
 unfold zht
 rw[if_pos ok]
theorem ztf (n y:Int):∃ hs,zyh [.int n,.int y]=some (.tup (hs.map D.str))/\GdP hs/\∀ h∈hs,∃ k:Nat,k<6/\h=hbF y ((k:Nat):Int):=by
 have hn:∃ q:Nat,gIx (.lst [.int 1,.int 1,.int 2,.int 3,.int 2,.int 6]) (.int (n % 6))=some (.int (q:Nat))/\1<=q/\q<=6:=by
  have:n % 6=0\/n % 6=1\/n % 6=2\/n % 6=3\/n % 6=4\/n % 6=5:=by omega
  rcases this with h|h|h|h|h|h <;> rw[h]
  ·exact⟨1,rfl,by omega,by omega⟩
  ·exact⟨1,rfl,by omega,by omega⟩
  ·exact⟨2,rfl,by omega,by omega⟩
  ·exact⟨3,rfl,by omega,by omega⟩
  ·exact⟨2,rfl,by omega,by omega⟩
  ·exact⟨6,rfl,by omega,by omega⟩
 obtain ⟨q,hq,q1,q6⟩:=hn
 have hk:∀ j:Nat,0<=n / (7+5 * (j:Int)) % 6/\n / (7+5 * (j:Int)) % 6<1000:=λ j=>by
  have h1:=Int.emod_nonneg (n / (7+5 * (j:Int))) (show (6:Int)≠0 by decide)
  have h2:=Int.emod_lt_of_pos (n / (7+5 * (j:Int))) (show (0:Int)<6 by decide)
  omega
 refine⟨(List.range q).map λ j:Nat=>hbF y (n / (7+5 * (j:Int)) % 6),?_,⟨λ h hh=>?_,by rw[List.length_map,List.length_range];omega,by rw[List.length_map,List.length_range];omega⟩,λ h hh=>?_⟩
 ·have hhd:∀ j:Nat,j<q->zat 2 zpk (aC (zal 2) (aC (e2 zb5 (e2 zew (zaa 1) (e2 zb6 (eC (.int 7)) (e2 zdu (eC (.int 5)) (zaa 0)))) (eC (.int 6))) aN)) [some (.sh (.int (j:Nat))),some (.sh (.int n)),some (.sh (.int y))]=some (.str (hbF y (n / (7+5 * (j:Int)) % 6))):=λ j hj =>
   zan (ds:=[.int y,.int (n / (7+5 * (j:Int)) % 6)]) (zak rfl (zak (zae (zae rfl (zae rfl (zae rfl rfl (zif (zrl ⟨by decide,by decide⟩))) zc5) (zdw (show 0<7+5 * (j:Int)/\7+5 * (j:Int)<1073741824 by omega))) rfl (zbx (by decide))) rfl)) rfl (zsw _ _ (hk j).1 (hk j).2)
  have hc:eL (zb3 1 [0,1] (iR zq9 (aC (zaa 2) aN)) (gN 0) (λ _=>some true) (zat 2 zpk (aC (zal 2) (aC (e2 zb5 (e2 zew (zaa 1) (e2 zb6 (eC (.int 7)) (e2 zdu (eC (.int 5)) (zaa 0)))) (eC (.int 6))) aN)))) [some (.sh (.int n)),some (.sh (.int y)),some (.sh (.int (q:Nat)))]=some (.lst (((List.range q).map λ j:Nat=>hbF y (n / (7+5 * (j:Int)) % 6)).map D.str)):=by
   refine (zfq (zdg (zox (ds:=[.int (q:Nat)]) rfl (zrn (n:=q) rfl (by omega))) (sz (by rw[List.length_map,List.length_range];omega)) (zc4 (λ k:Nat=>D.int ((k:Nat):Int)) (λ j:Nat=>D.str (hbF y (n / (7+5 * (j:Int)) % 6))) (List.range q) λ j hj=>⟨_,rfl,rfl,hhd j (List.mem_range.mp hj)⟩))).trans ?_
   rw[List.map_map];rfl
  exact za9 rfl (st (zai (zae rfl (zae rfl rfl (zbx (by decide))) hq)) (zbd (zas (zak hc rfl) rfl)))
 ·obtain ⟨j,_,rfl⟩:=List.mem_map.mp hh
  exact zsy _ _ (hk j).1 (hk j).2
 ·obtain ⟨j,_,rfl⟩:=List.mem_map.mp hh
  have h1:=Int.emod_nonneg (n / (7+5 * (j:Int))) (show (6:Int)≠0 by decide)
  have h2:=Int.emod_lt_of_pos (n / (7+5 * (j:Int))) (show (0:Int)<6 by decide)
  exact⟨(n / (7+5 * (j:Int)) % 6).toNat,by omega,by rw[Int.toNat_of_nonneg h1]⟩
theorem z6v:∀ i,i<23->∀ j,j<23->dgL ((i:Nat):Int)=dgL ((j:Nat):Int)->i=j:=by decide +kernel
theorem ya0:∀ i,i<23->∀ c∈dgL ((i:Nat):Int),c≠45:=by decide +kernel
theorem zn8 {p:Nat->Bool}:∀ {e u:List Nat},(∀ c∈e,p c=true)->(e++u).dropWhile p=u.dropWhile p
 | [],u,_=>rfl
 | c::e,u,h=>by
  rw[List.cons_append,List.dropWhile_cons,if_pos (h c List.mem_cons_self)]
  exact zn8 λ x hx=>h x (List.mem_cons_of_mem _ hx)
theorem ztg {p:Nat->Bool}{c:Nat}{z:List Nat} (hc:p c=false):∀ (P:List Nat),(P++c::z).dropWhile p=P.dropWhile p++c::z
 | []=>by rw[List.nil_append,List.dropWhile_cons,if_neg (by rw[hc];exact Bool.false_ne_true)];rfl
 | x::P=>by
  rw[List.cons_append,List.dropWhile_cons,List.dropWhile_cons]
  by_cases h:p x=true
  ·rw[if_pos h,if_pos h,ztg hc P]
  ·rw[if_neg h,if_neg h];rfl
def zlm (c:Nat):Bool:=c == 45
def z2l (u:List Nat):List Nat:=((u.dropWhile zlm).reverse.dropWhile zlm).reverse
theorem zwb {e P s R t:List Nat} (he:∀ c∈e,c=45) (ht:∀ c∈t,c=45) (hs:s≠[]) (hn:∀ c∈s,c≠45):z2l (e++(P++s++R)++t)=P.dropWhile zlm++s++(R.reverse.dropWhile zlm).reverse:=by
 obtain ⟨c,z,rfl⟩:=List.exists_cons_of_ne_nil hs
 have h1:(e++(P++c::z++R)++t).dropWhile zlm=P.dropWhile zlm++c::(z++R++t):=by
  rw[show e++(P++c::z++R)++t=e++(P++c::(z++R++t)) by simp,zn8 λ x hx=>by rw[he x hx];rfl]
  exact ztg (by unfold zlm;exact beq_eq_false_iff_ne.mpr (hn c List.mem_cons_self)) P
 unfold z2l
 rw[h1]
 obtain ⟨d,y,hd⟩:=List.exists_cons_of_ne_nil (show (c::z).reverse≠[] by simp)
 have hd':zlm d=false:=by
  unfold zlm
  exact beq_eq_false_iff_ne.mpr (hn d (List.mem_reverse.mp (by rw[hd];exact List.mem_cons_self)))
 have h2:(P.dropWhile zlm++c::(z++R++t)).reverse=t.reverse++(R.reverse++d::(y++(P.dropWhile zlm).reverse)):=by
  rw[show P.dropWhile zlm++c::(z++R++t)=P.dropWhile zlm++(c::z)++R++t by simp,List.reverse_append,List.reverse_append,List.reverse_append,hd]
  simp
 rw[h2,zn8 λ x hx=>by rw[ht x (List.mem_reverse.mp hx)];rfl,ztg hd',List.reverse_append,List.reverse_cons,List.reverse_append,List.reverse_reverse]
 have:y.reverse++[d]=c::z:=by
  have:=congrArg List.reverse hd
  rw[List.reverse_reverse,List.reverse_cons] at this
  exact this.symm
 rw[List.append_assoc (P.dropWhile zlm),this]
def zt8 (u:List Nat):List Nat:=if 124∈u then u.takeWhile (λ c=>c != 124) else if 32∈u then (u.dropWhile (λ c=>c != 32)).drop 1 else u
theorem zth {p:Nat->Bool}{c:Nat}{z:List Nat} (hc:p c=false):∀ {P:List Nat},(∀ x∈P,p x=true)->(P++c::z).takeWhile p=P
 | [],_=>by rw[List.nil_append,List.takeWhile_cons,if_neg (by rw[hc];exact Bool.false_ne_true)]
 | x::P,h=>by rw[List.cons_append,List.takeWhile_cons,if_pos (h x List.mem_cons_self),zth hc λ y hy=>h y (List.mem_cons_of_mem _ hy)]
theorem z6w {l:List Nat} (h:∀ z∈l,z∈SG):124 ∉ l/\32 ∉ l:=⟨λ z=>(zjq _ (h _ z)).2.2.1 rfl,λ z=>(zjq _ (h _ z)).2.2.2 rfl⟩
theorem z2m (c:Int):∃ A C:List Nat,∀ k:Nat,k<46->z2l (zt8 (hbF c ((k:Nat):Int)))=A++dgL ((k / 2:Nat):Int)++C:=by
 generalize hb:baF c (1+c % 3).toNat=b
 have bsg:∀ z∈b,z∈SG:=by rw[<-hb];exact z6e c _
 have b45:=z6w bsg
 generalize hat:(c / 15 % ((b.length:Nat)+1)).toNat=at_
 refine⟨(b.take at_).dropWhile zlm,((b.drop at_).reverse.dropWhile zlm).reverse,λ k hk=>?_⟩
 have hk2:(((k:Nat):Int) / 2)=((k / 2:Nat):Int):=by omega
 obtain ⟨d1,d2,d3⟩:=z19 (k:=((k:Nat):Int)) (by omega) (by omega)
 rw[hk2] at d1 d3
 generalize hs:dgL ((k / 2:Nat):Int)=s at d1 d3
 have hn:∀ x∈s,x≠45:=by rw[<-hs];exact ya0 (k / 2) (by omega)
 have hne:s≠[]:=λ z=>by rw[z] at d3;simp at d3
 have h0sg:∀ z∈b.take at_++s++b.drop at_,z∈SG:=λ z hz=>by
  rcases List.mem_append.mp hz with hz|hz
  ·rcases List.mem_append.mp hz with hz|hz
   ·exact bsg z (List.mem_of_mem_take hz)
   ·exact d1 z hz
  ·exact bsg z (List.mem_of_mem_drop hz)
 have h0:hd0 c ((k:Nat):Int) b=b.take at_++s++b.drop at_:=by unfold hd0;rw[hat,hk2,hs]
 have n0:=z6w h0sg
 have key:∃ e t:List Nat,(∀ x∈e,x=45)/\(∀ x∈t,x=45)/\zt8 (hbF c ((k:Nat):Int))=e++(b.take at_++s++b.drop at_)++t:=by
  generalize hh:b.take at_++s++b.drop at_=h at h0 n0 h0sg ⊢
  have hτ:∃ t:List Nat,(∀ x∈t,x=45)/\hbF c ((k:Nat):Int)=hd1 c ((k:Nat):Int) b h++t:=by
   unfold hbF
   rw[hb,h0]
   split
   ·exact⟨[45],λ x hx=>by simpa using hx,rfl⟩
   ·exact⟨[],(λ x hx=>nomatch hx),by rw[List.append_nil]⟩
  obtain ⟨t,ht,e⟩:=hτ
  have t1:124 ∉ t:=λ z=>by have:=ht _ z;omega
  have t2:32 ∉ t:=λ z=>by have:=ht _ z;omega
  rw[e]
  unfold hd1
  split
  ·refine⟨[],[],λ x hx=>(by cases hx),λ x hx=>(by cases hx),?_⟩
   unfold zt8
   rw[if_pos (by simp),show h++[124]++b++t=h++124::(b++t) by simp,zth (by decide) λ x hx=>bne_iff_ne.mpr λ z=>n0.1 (by rw[<-z];exact hx)]
   simp
  ·split
   ·refine⟨[],[],λ x hx=>(by cases hx),λ x hx=>(by cases hx),?_⟩
    unfold zt8
    rw[if_pos (by simp),show h++[124]++b.take 3++[32]++b.take 3++t=h++124::(b.take 3++[32]++b.take 3++t) by simp,zth (by decide) λ x hx=>bne_iff_ne.mpr λ z=>n0.1 (by rw[<-z];exact hx)]
    simp
   ·split
    ·refine⟨[],t,λ x hx=>(by cases hx),ht,?_⟩
     unfold zt8
     rw[if_neg (by simp[b45.1,n0.1,t1]),if_pos (by simp),show b++[32]++h++t=b++32::(h++t) by simp]
     have:(b++32::(h++t)).dropWhile (λ c=>c != 32)=32::(h++t):=by
      rw[zn8 λ x hx=>bne_iff_ne.mpr λ z=>b45.2 (by rw[<-z];exact hx),List.dropWhile_cons,if_neg (by decide)]
     rw[this];simp
    ·split
     ·refine⟨[45],t,λ x hx=>by simpa using hx,ht,?_⟩
      unfold zt8
      rw[if_neg (by simp[n0.1,t1]),if_neg (by simp[n0.2,t2])]
     ·refine⟨[],t,λ x hx=>(by cases hx),ht,?_⟩
      unfold zt8
      rw[if_neg (by simp[n0.1,t1]),if_neg (by simp[n0.2,t2])]
      simp
 obtain ⟨e,t,he,ht,hc⟩:=key
 rw[hc]
 exact zwb he ht hne hn
theorem z6x (c:Int) {k j:Nat} (hk:k<46) (hj:j<46) (h:hbF c ((k:Nat):Int)=hbF c ((j:Nat):Int)):k=j:=by
 obtain ⟨A,C,hc⟩:=z2m c
 have h1:=hc k hk
 rw[h,hc j hj] at h1
 have h2:=z6v (k / 2) (by omega) (j / 2) (by omega) (List.append_cancel_left (List.append_cancel_right h1)).symm
 have hl:=congrArg List.length h
 unfold hbF hd1 hd0 at hl
 rw[show ((k:Nat):Int) / 2=((k / 2:Nat):Int) by omega,show ((j:Nat):Int) / 2=((j / 2:Nat):Int) by omega,h2] at hl
 by_cases p1:((k:Nat):Int) % 2=1 <;> by_cases p2:((j:Nat):Int) % 2=1
 ·omega
 ·rw[if_pos p1,if_neg p2,List.length_append,List.length_singleton] at hl;omega
 ·rw[if_neg p1,if_pos p2,List.length_append,List.length_singleton] at hl;omega
 ·omega
abbrev En:=List (Pth×List Td)
def HP (y:Int) (n:Nat) (p:Pth):Prop:=∀ h∈p,∃ k:Nat,k<n/\h=hbF y ((k:Nat):Int)
def z6y:Rho->Out:=(zaw (zbn 4 (e2 zb5 (e2 zdu (e2 zb6 (zaa 0) (e2 zdu (zaa 3) (zaa 3))) (eC (.int 1583458089))) (eC (.int 2147483647))))
  (zfo 2 (eN za1 (aC (zat 2 zyh (aC (zal 4) (aC (zal 1) aN))) (aC (e2 zb5 (zaa 3) (eC (.int 5))) (aC (e2 zb5 (zaa 3) (eC (.int 5))) (aC (e2 zc8 (e2 zb5 (zaa 4) (eC (.int 2))) (eC (.int 0))) aN)))))))
theorem zti (c y:Int):∀ (n k:Nat) (ms:List M4) (z3 z4:Option Sl),k+n<=10->ms.length=k->(∀ x∈ms,GdK 5 x/\HP y 6 x.1)->∃ (ms':List M4) (y3 y4:Option Sl),zid (gN 3) z6y (zj1 ((k:Nat):Int) n) [some (.sh (.int c)),some (.sh (.int y)),some (.ow (ms.map mkE)),z3,z4]=.nx [some (.sh (.int c)),some (.sh (.int y)),some (.ow (ms'.map mkE)),y3,y4]/\ms'.length=k+n/\∀ x∈ms',GdK 5 x/\HP y 6 x.1
 | 0,k,ms,z3,z4,_,hl,hg=>⟨ms,z3,z4,rfl,hl,hg⟩
 | n+1,k,ms,z3,z4,hk,hl,hg=>by
  obtain ⟨hs,hp,gp,hh⟩:=ztf ((c+((k:Nat):Int) * ((k:Nat):Int)) * 1583458089 % 2147483647) y
  generalize hx:(hs,k % 5,k % 5,decide ((c+((k:Nat):Int) * ((k:Nat):Int)) * 1583458089 % 2147483647 % 2=0))=x
  have gx:GdK 5 x/\HP y 6 x.1:=by rw[<-hx];exact⟨⟨gp,Nat.le_refl _,by show k % 5<5;omega⟩,hh⟩
  obtain ⟨ms',y3,y4,h1,h2,h3⟩:=zti c y n (k+1) (ms++[x]) (some (.sh (.int (k:Nat)))) (some (.sh (.int ((c+((k:Nat):Int) * ((k:Nat):Int)) * 1583458089 % 2147483647)))) (by omega) (by rw[List.length_append,List.length_singleton,hl]) λ z hz=>by
   rcases List.mem_append.mp hz with hz|hz
   ·exact hg z hz
   ·rw[List.mem_singleton.mp hz];exact gx
  refine⟨ms',y3,y4,?_,by omega,h3⟩
  rw[zdz,<-h1]
  refine zcm rfl ((st (zai (d:=.int ((c+((k:Nat):Int) * ((k:Nat):Int)) * 1583458089 % 2147483647)) (zae (zae (zae rfl (zae rfl rfl (zif (zrl ⟨by omega,by omega⟩))) zc5) rfl (zif (zje ⟨by decide,by decide⟩))) rfl (zbx (by decide)))) ((ze4 (ds:=ms.map mkE) (d:=mkE x) rfl ?_ (by rw[List.length_map];omega)).trans ?_)))
  ·rw[<-hx]
   have h5:zb5 (.int ((k:Nat):Int)) (.int 5)=some (.int ((k % 5:Nat):Int)):=(zbx (by decide)).trans (by rw[show ((k:Nat):Int) % 5=((k % 5:Nat):Int) by omega])
   exact zas (zak (zan rfl rfl hp) (zak (zae rfl rfl h5) (zak (zae rfl rfl h5) (zak (zae (zae rfl rfl (zbx (by decide))) rfl (zef zgy)) rfl)))) rfl
  ·rw[List.map_append];rfl
theorem zwc (c y:Int):∃ ms:List M4,z18 [.int c,.int y]=some (.lst (ms.map mkE))/\(∀ x∈ms,GdK 5 x/\HP y 6 x.1)/\ms.length<=7/\ms≠[]:=by
 obtain ⟨n,hn⟩:=Int.eq_ofNat_of_zero_le (show 0<=1+c % 7 by omega)
 have h7:n<=7/\1<=n:=by omega
 obtain ⟨ms,y3,y4,e,h1,h2⟩:=zti c y n 0 [] none none (by omega) rfl λ x hx=>by cases hx
 refine⟨ms,za9 rfl (st rfl (st (zdf (zox (ds:=[.int (n:Nat)]) (zak ((zae rfl (zae rfl rfl (zbx (by decide))) zc5).trans (by rw[hn])) rfl) (zn0 (by omega))) e) rfl)),h2,by omega,λ z=>by rw[z] at h1;simp at h1;omega⟩
theorem ztj {ds es:List D} (h1:0<ds.length) (h2:0<es.length) (h:ds.length+es.length<=sizeLine):zsf (.tup ds) (.tup es)=some (.tup (ds++es)):=if_pos ⟨h1,h2,h⟩
theorem z28 {p:Pth}{y:Int}{n m:Nat} (h:HP y n p) (hm:n<=m):HP y m p:=λ x hx=>let ⟨k,h1,h2⟩:=h x hx;⟨k,Nat.lt_of_lt_of_le h1 hm,h2⟩
theorem zwd {E:En}{y:Int} (hE:∀ e∈E,GdP e.1/\HP y 6 e.1) (hne:E≠[]) (hl:E.length<=100) (k:Nat) (hk:k<26) (n:Int):∃ p:Pth,zvz [.lst (E.map λ e=>pD e.1),.int (k:Nat),.int n,.int y]=some (pD p)/\GdP p/\HP y (21+k) p/\hbF y ((20+k:Nat):Int)∈p:=by
 have hh:=zsw y ((20+k:Nat):Int) (by omega) (by omega)
 have gh:=zsy y ((20+k:Nat):Int) (by omega) (by omega)
 generalize hH:hbF y ((20+k:Nat):Int)=h at hh gh
 have hlen:0<E.length:=List.length_pos_iff.mpr hne
 have i1:=Int.emod_nonneg (n / 3) (show ((E.length:Nat):Int)≠0 by omega)
 have i2:=Int.emod_lt_of_pos (n / 3) (show (0:Int)<((E.length:Nat):Int) by omega)
 obtain ⟨d,hd,hat⟩:=znj (xs:=E.map λ e=>pD e.1) i1 (by rw[List.length_map];exact i2)
 obtain ⟨e,he,rfl⟩:=List.mem_map.mp hd
 obtain ⟨ge,he6⟩:=hE e he
 have s4:zat 2 zpk (aC (zal 3) (aC (e2 zb6 (eC (.int 20)) (zaa 1)) aN)) [some (.sh (.lst (E.map λ e=>pD e.1))),some (.sh (.int (k:Nat))),some (.sh (.int n)),some (.sh (.int y)),none,none]=some (.str h) :=
  zan (ds:=[.int y,.int ((20+k:Nat):Int)]) (zak rfl (zak (zae rfl rfl (show zb6 (.int 20) (.int ((k:Nat):Int))=some (.int ((20+k:Nat):Int)) by rw[zc5];congr 3)) rfl)) rfl hh
 have s5:e2 gIx (zaa 0) (e2 zb5 (e2 zew (zaa 2) (eC (.int 3))) (eN zb7 (aC (zaa 0) aN))) [some (.sh (.lst (E.map λ e=>pD e.1))),some (.sh (.int (k:Nat))),some (.sh (.int n)),some (.sh (.int y)),some (.sh (.str h)),none]=some (pD e.1) :=
  zae rfl (zae (zae rfl rfl (zdw (by decide))) (zas (z:=.int ((E.length:Nat):Int)) rfl (by show some (D.int (((E.map λ e=>pD e.1).length:Nat):Int))=_;rw[List.length_map])) (zbx (by omega))) hat
 have hself:HP y (21+k) [h]:=λ x hx=>by rw[List.mem_singleton.mp hx];exact⟨20+k,by omega,hH.symm⟩
 have g1:GdP [h]:=⟨λ x hx=>by rw[List.mem_singleton.mp hx];exact gh,by simp,by simp⟩
 have q1:tE (e2 zc8 (e2 zb5 (zaa 2) (eC (.int 3))) (eC (.int 0))) [some (.sh (.lst (E.map λ e=>pD e.1))),some (.sh (.int (k:Nat))),some (.sh (.int n)),some (.sh (.int y)),some (.sh (.str h)),some (.sh (pD e.1))]=some (decide (n % 3=0)):=za4 (zae (zae rfl rfl (zbx (by decide))) rfl (zef zgy))
 by_cases h3:n % 3=0
 ·rw[decide_eq_true h3] at q1
  exact⟨[h],za9 rfl (st (zai s4) (st (zai s5) (zjd ((zme q1).trans (zbd (zas (zak rfl rfl) rfl)))))),g1,hself,List.mem_singleton.mpr rfl⟩
 ·rw[decide_eq_false h3] at q1
  have q2:tE (e2 gLt (eN zb7 (aC (zaa 5) aN)) (eC (.int 6))) [some (.sh (.lst (E.map λ e=>pD e.1))),some (.sh (.int (k:Nat))),some (.sh (.int n)),some (.sh (.int y)),some (.sh (.str h)),some (.sh (pD e.1))]=some (decide (e.1.length<6)):=by
   refine za4 ((zae (zas (z:=.int ((e.1.length:Nat):Int)) rfl (by show some (D.int (((e.1.map D.str).length:Nat):Int))=_;rw[List.length_map])) rfl z5d).trans ?_)
   rw[decide_eq_decide.mpr (show (((e.1.length:Nat):Int)<6↔e.1.length<6) by omega)]
  by_cases h6:e.1.length<6
  ·rw[decide_eq_true h6] at q2
   refine⟨e.1++[h],za9 rfl (st (zai s4) (st (zai s5) (st ((zc3 q1).trans rfl) (zjd ((zme q2).trans (zbd (zae (e:=.tup [.str h]) rfl (zas (zak rfl rfl) rfl) ?_))))))),⟨λ x hx=>?_,by rw[List.length_append,List.length_singleton];omega,by rw[List.length_append,List.length_singleton];omega⟩,λ x hx=>?_,by simp⟩
   ·have:=ztj (ds:=e.1.map D.str) (es:=[.str h]) (by rw[List.length_map];have:=ge.pos;omega) (by simp) (sz (by rw[List.length_map,List.length_singleton];omega))
    rw[this]
    show some (D.tup (e.1.map D.str++[h].map D.str))=some (D.tup ((e.1++[h]).map D.str))
    rw[List.map_append]
   ·rcases List.mem_append.mp hx with hx|hx
    ·exact ge.g x hx
    ·rw[List.mem_singleton.mp hx];exact gh
   ·rcases List.mem_append.mp hx with hx|hx
    ·exact z28 he6 (by omega) x hx
    ·exact hself x hx
  ·rw[decide_eq_false h6] at q2
   refine⟨h::e.1.take 2,za9 rfl (st (zai s4) (st (zai s5) (st ((zc3 q1).trans rfl) (st ((zc3 q2).trans rfl) (zbd (zae (d:=.tup [.str h]) (e:=.tup ((e.1.take 2).map D.str)) (zas (zak rfl rfl) rfl) ?_ ?_)))))),⟨λ x hx=>?_,by rw[List.length_cons,List.length_take];omega,by rw[List.length_cons];omega⟩,λ x hx=>?_,List.mem_cons_self⟩
   ·show some (D.tup (zh8 (e.1.map D.str) none (some ((2:Nat):Int))))=_
    rw[zro,List.map_take]
   ·exact ztj (ds:=[.str h]) (es:=(e.1.take 2).map D.str) (by simp) (by rw[List.length_map,List.length_take];have:=ge.pos;omega) (sz (by rw[List.length_map,List.length_singleton,List.length_take];omega))
   ·rcases List.mem_cons.mp hx with rfl|hx
    ·exact gh
    ·exact ge.g x (List.mem_of_mem_take hx)
   ·rcases List.mem_cons.mp hx with rfl|hx
    ·exact hself _ (List.mem_singleton.mpr rfl)
    ·exact z28 he6 (by omega) x (List.mem_of_mem_take hx)
abbrev See:=Pth×Pth×Bool
def seE (s:See):D:=SeD s.1 s.2.1 s.2.2
abbrev Lt:=List (Pth×Pth×Nat)
def etD (x:Pth×Nat):D:=.tup [pD x.1,.int ((x.2:Nat):Int)]
def dts (L:Lt):Sl:=.dt (L.map λ e=>pK e.1) (L.map λ e=>etD e.2)
def gtL (L:Lt) (g:Pth):Pth×Nat:=(zbf L g).getD (g,1)
theorem dst {f g:Rho->OutD}{ρ ρ':Rho}{o:OutD} (h:f ρ=.nx ρ') (k:g ρ'=o):zfd f g ρ=o:=by unfold zfd;rw[h];exact k
theorem z6z {f g:Rho->OutD}{ρ ρ':Rho}{ds:List D} (h:f ρ=.rt ds ρ'):zfd f g ρ=.rt ds ρ':=by unfold zfd;rw[h]
theorem zcf {f:Rho->Out}{ρ ρ':Rho} (h:f ρ=.nx ρ'):dL f ρ=.nx ρ':=by unfold dL;rw[h]
theorem z2n {ft:Rho->Option Bool}{f g:Rho->OutD}{ρ:Rho} (h:ft ρ=some true):dIf ft f g ρ=f ρ:=by unfold dIf;rw[h]
theorem zwe {ft:Rho->Option Bool}{f g:Rho->OutD}{ρ:Rho} (h:ft ρ=some false):dIf ft f g ρ=g ρ:=by unfold dIf;rw[h]
theorem zmu {fi:Rho->Option (List D)}{g:D->Rho->Option Rho}{f:Rho->OutD}{ρ:Rho}{ds:List D}{o:OutD} (h:fi ρ=some ds) (h2:zed g f ds ρ=o):z26 fi g f ρ=o:=by unfold z26;rw[h];exact h2
theorem zn9 {g:D->Rho->Option Rho}{f:Rho->OutD}{d:D}{r:List D}{ρ ρ1 ρ2:Rho} (h1:g d ρ=some ρ1) (h2:f ρ1=.nx ρ2):zed g f (d::r) ρ=zed g f r ρ2:=by
 rw[zed,h1]
 dsimp only
 rw[h2]
theorem zwf {g:D->Rho->Option Rho}{f:Rho->OutD}{d:D}{r:List D}{ρ ρ1 ρ2:Rho}{es:List D} (h1:g d ρ=some ρ1) (h2:f ρ1=.rt es ρ2):zed g f (d::r) ρ=.rt es ρ2:=by
 rw[zed,h1]
 dsimp only
 rw[h2]
theorem zoa {i j np jd:Nat}{F:List D->Option (List D×List (List Key)×List D)}{fr:Rho->Option (List (Bool×D))}{ρ:Rho}{xs:List (Bool×D)}{z:List D×List (List Key)×List D} (h1:fr ρ=some xs) (h2:xs.map Prod.fst=(List.range np).map (λ i=>decide (i=jd))) (h3:jd<np) (h4:F (xs.map Prod.snd)=some z):ze3 i j np jd F fr ρ=.nx ((ρ.set j (some (.dt z.2.1 z.2.2))).set i (some (.ow z.1))):=by
 unfold ze3
 rw[h1]
 dsimp only
 rw[if_pos ⟨h2,h3⟩,h4]
theorem ztk {np n jd:Nat}{f:Rho->OutD}{ds:List D}{ks ks':List (List Key)}{dvs dvs' es:List D}{ρ':Rho} (h0:ds.length=np) (h1:ds[jd]?=some (.dt ks dvs)) (h2:f ((zez n ds).set jd (some (.dt ks dvs)))=.rt es ρ') (h3:ρ'[jd]?=some (some (.dt ks' dvs'))):fnD np n jd f ds=some (es,ks',dvs'):=by
 unfold fnD
 rw[if_pos h0,h1]
 dsimp only
 rw[h2]
 dsimp only
 rw[h3]
theorem ztl {L:Lt}{p:Pth}{v:Pth×Nat} (h:p ∉ L.map Prod.fst) (hl:L.length<=1000):zfr (dts L) (pD p) (etD v)=some (dts (L++[(p,v)])):=by
 unfold zfr dts
 dsimp only
 rw[ze9,Option.bind_some,if_pos (by rw[List.length_map];exact szl (by omega)),zhf etD,zcx]
 ·rw[List.map_append,List.map_append,List.map_map,List.map_map,List.map_append,List.map_append];rfl
 ·intro z
  rw[List.map_map] at z
  obtain ⟨e,h1,h2⟩:=List.mem_map.mp z
  exact h (List.mem_map.mpr ⟨e,h1,zfz h2⟩)
abbrev dtL (L:Lt):D:=.dt (L.map λ e=>pK e.1) (L.map λ e=>etD e.2)
theorem ztm {fo fk fz:Rho->Option D}{ρ:Rho}{L:Lt}{g:Pth} (h1:fo ρ=some (dtL L)) (h2:fk ρ=some (pD g)) (h3:fz ρ=some (.tup [pD g,.int 1])):zcl fo fk fz ρ=some (etD (gtL L g)):=by
 rw[zjv h1 h2 h3 (zin etD L g)]
 unfold gtL
 cases zbf L g <;> rfl
theorem zc7 {β:Type}{m:List (Pth×β)}{p x:Pth}{v:β} (h:p ∉ m.map Prod.fst):zbf (m++[(p,v)]) x=if x=p then some v else zbf m x:=by
 rw[<-zcx v h,zv2]
theorem zwg {L:Lt}{p x:Pth}{v:Pth×Nat} (h:p ∉ L.map Prod.fst) (hx:x≠p):gtL (L++[(p,v)]) x=gtL L x:=by
 unfold gtL
 rw[zc7 h,if_neg hx]
theorem zwh (a b:Pth):gEq (pD a) (pD b)=some (decide (a=b)):=by
 show gEq (.tup (a.map D.str)) (.tup (b.map D.str))=_
 rw[zxy (by rw[ze5,ze5];rfl),zms]
theorem zyx (ts:List Td):gEq (.lst (ts.map TdD)) (.lst [])=some ts.isEmpty:=by
 have h1:dOk LV (.lst (ts.map TdD))=true:=by
  rw[show LV=8+1 from rfl,dOk]
  exact List.all_eq_true.mpr λ d hd=>by obtain ⟨t,_,rfl⟩:=List.mem_map.mp hd;simp[TdD,dOk]
 have h2:dOk LV (.lst [])=true:=by rw[show LV=8+1 from rfl,dOk];rfl
 rw[zxz (by rw[h1,h2];rfl)]
 cases ts with
 | nil=>rw[List.map_nil,zb1];rfl
 | cons t r =>
  rw[List.map_cons,zb1]
  ·rfl
  ·intro h;cases h
  ·intro a as b bs _ h;cases h
def zbs (E:En):List Pth:=(E.filter λ e=>!e.2.isEmpty).map Prod.fst
def A0:Option (Pth×Pth)->List See
 | none=>[]
 | some z=>[(z.1,z.2,false)]
def L0:Option (Pth×Pth)->Lt
 | none=>[]
 | some z=>[(z.1,z.2,2)]
def zli:Rho->OutD:=(dIf (zdj (tE (e2 zc8 (e2 gIx (zaa 4) (eC (.int 1))) (eN zcy aN))) (zdj (tE (e2 zc8 (e2 zb5 (zaa 2) (eC (.int 2))) (eC (.int 0)))) (z57 1))) (zfd (dL (zeb 1 (e2 gIx (zaa 4) (eC (.int 0))) (eN za1 (aC (e2 gIx (zaa 3) (e2 zb5 (e2 zew (zaa 2) (eC (.int 2))) (eN zb7 (aC (zaa 3) aN)))) (aC (eC (.int 2)) aN)))))
  (z1m (lOk (aC (eN za1 (aC (e2 gIx (zaa 4) (eC (.int 0))) (aC (e2 gIx (zaa 3) (e2 zb5 (e2 zew (zaa 2) (eC (.int 2))) (eN zb7 (aC (zaa 3) aN)))) (aC (eC (.bl false)) aN)))) aN)))) zsb)
theorem zlj {E:En}{y:Int} (hf:zbs E≠[]) (a:Option Sl):∀ (r:En) (z4:Option Sl),(∀ e∈r,e∈E) →
  (∃ y4,zed (gN 4) zli (r.map enD) [a,some (dts []),some (.sh (.int y)),some (.sh (.lst ((zbs E).map pD))),z4]=.nx [a,some (dts []),some (.sh (.int y)),some (.sh (.lst ((zbs E).map pD))),y4]) ∨
  ∃ e f y4,e∈E/\e.2=[]/\f∈zbs E/\zed (gN 4) zli (r.map enD) [a,some (dts []),some (.sh (.int y)),some (.sh (.lst ((zbs E).map pD))),z4]=.rt [seE (e.1,f,false)] [a,some (dts [(e.1,f,2)]),some (.sh (.int y)),some (.sh (.lst ((zbs E).map pD))),y4]
 | [],z4,_=>.inl ⟨z4,rfl⟩
 | e::r,z4,hr=>by
  have q1:tE (e2 zc8 (e2 gIx (zaa 4) (eC (.int 1))) (eN zcy aN)) [a,some (dts []),some (.sh (.int y)),some (.sh (.lst ((zbs E).map pD))),some (.sh (enD e))]=some e.2.isEmpty:=za4 (zae (d:=.lst (e.2.map TdD)) (zae rfl rfl rfl) (zas rfl rfl) (zef (zyx e.2)))
  have q2:tE (e2 zc8 (e2 zb5 (zaa 2) (eC (.int 2))) (eC (.int 0))) [a,some (dts []),some (.sh (.int y)),some (.sh (.lst ((zbs E).map pD))),some (.sh (enD e))]=some (decide (y % 2=0)):=za4 (zae (zae rfl rfl (zbx (by decide))) rfl (zef zgy))
  by_cases hc:e.2=[]/\y % 2=0
  ·right
   have hlen:0<(zbs E).length:=List.length_pos_iff.mpr hf
   obtain ⟨d,hd,hat⟩:=znj (xs:=(zbs E).map pD) (i:=y / 2 % (((zbs E).length:Nat):Int)) (Int.emod_nonneg _ (by omega)) (by rw[List.length_map];exact Int.emod_lt_of_pos _ (by omega))
   obtain ⟨f,hff,rfl⟩:=List.mem_map.mp hd
   have qf:∀ s1:Option Sl,e2 gIx (zaa 3) (e2 zb5 (e2 zew (zaa 2) (eC (.int 2))) (eN zb7 (aC (zaa 3) aN))) [a,s1,some (.sh (.int y)),some (.sh (.lst ((zbs E).map pD))),some (.sh (enD e))]=some (pD f):=λ s1 =>
    zae rfl (zae (zae rfl rfl (zdw (by decide))) (zas (z:=.int (((zbs E).length:Nat):Int)) rfl (by show some (D.int ((((zbs E).map pD).length:Nat):Int))=_;rw[List.length_map])) (zbx (by omega))) hat
   refine⟨e,f,some (.sh (enD e)),hr e List.mem_cons_self,hc.1,hff,zwf (ρ1:=[a,some (dts []),some (.sh (.int y)),some (.sh (.lst ((zbs E).map pD))),some (.sh (enD e))]) rfl ?_⟩
   refine (z2n (zdv (q1.trans (by rw[hc.1];rfl)) (zdv (q2.trans (by rw[decide_eq_true hc.2])) rfl))).trans ?_
   refine dst (zcf (zhc (sl:=dts []) (k:=pD e.1) (d:=etD (f,2)) rfl (zas (zak (qf _) (zak rfl rfl)) rfl) (zae rfl rfl rfl) (ztl (L:=[]) (by simp) (by simp)))) ?_
   have:lOk (aC (eN za1 (aC (e2 gIx (zaa 4) (eC (.int 0))) (aC (e2 gIx (zaa 3) (e2 zb5 (e2 zew (zaa 2) (eC (.int 2))) (eN zb7 (aC (zaa 3) aN)))) (aC (eC (.bl false)) aN)))) aN) [a,some (dts [(e.1,f,2)]),some (.sh (.int y)),some (.sh (.lst ((zbs E).map pD))),some (.sh (enD e))]=some [seE (e.1,f,false)]:=by
    unfold lOk
    rw[zak (zas (zak (zae rfl rfl rfl) (zak (qf _) (zak rfl rfl))) rfl) rfl];rfl
   show z1m _ [a,some (dts [(e.1,f,2)]),some (.sh (.int y)),some (.sh (.lst ((zbs E).map pD))),some (.sh (enD e))]=_
   unfold z1m
   rw[this]
  ·have qq:zdj (tE (e2 zc8 (e2 gIx (zaa 4) (eC (.int 1))) (eN zcy aN))) (zdj (tE (e2 zc8 (e2 zb5 (zaa 2) (eC (.int 2))) (eC (.int 0)))) (z57 1)) [a,some (dts []),some (.sh (.int y)),some (.sh (.lst ((zbs E).map pD))),some (.sh (enD e))]=some false:=by
    cases he:e.2 with
    | cons t ts=>rw[he] at q1;exact ze0 q1
    | nil =>
     rw[he] at q1
     have hy:¬ y % 2=0:=λ z=>hc ⟨he,z⟩
     rw[decide_eq_false hy] at q2
     exact zdv q1 (ze0 q2)
   have hb:zli [a,some (dts []),some (.sh (.int y)),some (.sh (.lst ((zbs E).map pD))),some (.sh (enD e))]=.nx [a,some (dts []),some (.sh (.int y)),some (.sh (.lst ((zbs E).map pD))),some (.sh (enD e))]:=(zwe qq).trans rfl
   have hn:zed (gN 4) zli ((e::r).map enD) [a,some (dts []),some (.sh (.int y)),some (.sh (.lst ((zbs E).map pD))),z4]=zed (gN 4) zli (r.map enD) [a,some (dts []),some (.sh (.int y)),some (.sh (.lst ((zbs E).map pD))),some (.sh (enD e))]:=zn9 rfl hb
   rw[hn]
   exact zlj hf a r (some (.sh (enD e))) λ x hx=>hr x (List.mem_cons_of_mem _ hx)
theorem z2o {E:En}{y:Int} (hf:zbs E≠[]) (hl:E.length<=100):∃ z:Option (Pth×Pth),(∀ w,z=some w->(∃ e∈E,e.1=w.1/\e.2=[])/\w.2∈zbs E)/\zmq [.lst (E.map enD),dtL [],.int y]=some ((A0 z).map seE,(L0 z).map (λ e=>pK e.1),(L0 z).map λ e=>etD e.2):=by
 have c3:eL (zb3 1 [] (iE (zaa 0)) (gN 0) (tE (e2 zfb (e2 gIx (zaa 0) (eC (.int 1))) (eN zcy aN))) (e2 gIx (zaa 0) (eC (.int 0)))) [some (.sh (.lst (E.map enD))),some (dts []),some (.sh (.int y)),none,none]=some (.lst ((zbs E).map pD)):=by
  refine (zfq (zdg (ds:=E.map enD) rfl (sz (by rw[List.length_map];omega)) (ze1 enD (λ e=>!e.2.isEmpty) (λ e=>pD e.1) E λ e _=>⟨[some (.sh (enD e))],rfl,za4 (zae (d:=.lst (e.2.map TdD)) (zae rfl rfl rfl) (zas rfl rfl) (zie (zyx e.2))),λ _=>zae rfl rfl rfl⟩))).trans ?_
  unfold zbs
  rw[List.map_map];rfl
 rcases zlj (y:=y) hf (some (.sh (.lst (E.map enD)))) E none (λ e he=>he) with ⟨y4,h⟩|⟨e,f,y4,he,he2,hff,h⟩
 ·refine⟨none,(λ w z=>nomatch z),?_⟩
  have:f_q13 [some (.sh (.lst (E.map enD))),some (dts []),some (.sh (.int y)),none,none]=.rt [] [some (.sh (.lst (E.map enD))),some (dts []),some (.sh (.int y)),some (.sh (.lst ((zbs E).map pD))),y4]:=dst (zcf (zai c3)) (dst (zmu rfl h) rfl)
  exact ztk rfl rfl this rfl
 ·refine⟨some (e.1,f),(λ w z=>by cases z;exact⟨⟨e,he,rfl,he2⟩,hff⟩),?_⟩
  have:f_q13 [some (.sh (.lst (E.map enD))),some (dts []),some (.sh (.int y)),none,none]=.rt [seE (e.1,f,false)] [some (.sh (.lst (E.map enD))),some (dts [(e.1,f,2)]),some (.sh (.int y)),some (.sh (.lst ((zbs E).map pD))),y4]:=dst (zcf (zai c3)) (z6z (zmu rfl h))
  exact ztk rfl rfl this rfl
structure SI (E:En) (y:Int) (k:Nat) (L:Lt) (Gs:List Pth) (A:List See):Prop where
 nd:(L.map Prod.fst).Nodup
 kg:∀ p∈L.map Prod.fst,p∈Gs
 tg:∀ e∈E,e.1∈Gs
 gp:∀ g∈Gs,GdP g/\HP y (20+k) g
 en:∀ g∈Gs,(∃ e∈E,e.1=(gtL L g).1)/\zbf L (gtL L g).1=none
 ch:∀ s∈A,s.2.2=false->zbf L s.1=some ((gtL L s.2.1).1,(gtL L s.2.1).2+1)
 ks:L.map Prod.fst=(A.filter λ s=>!s.2.2).map Prod.fst
 se:∀ s∈A,s.2.1≠s.1/\s.2.1∈Gs/\GdP s.1/\(gtL L s.2.1).1≠s.1/\(s.2.2=true->∃ e∈E,e.1=s.1)/\(s.2.2=false->∀ e∈E,e.1=s.1->e.2=[])
 st:∀ g∈Gs,(gtL L g).2<=k+2
 l1:L.length<=k+1
 l2:Gs.length<=E.length+k
 l3:A.length<=k+1
theorem ztn {E:En} (nd:(E.map Prod.fst).Nodup) {e f:Pth×List Td} (he:e∈E) (hf:f∈E) (h:e.1=f.1):e=f:=by
 rw[List.nodup_iff_pairwise_ne,List.pairwise_map] at nd
 rcases List.mem_iff_getElem.mp he with ⟨a,ha,ea⟩
 rcases List.mem_iff_getElem.mp hf with ⟨c,hc,ec⟩
 have hac:a=c:=by
  rcases Nat.lt_trichotomy a c with z|z|z
  ·exact absurd (show E[a].1=E[c].1 by rw[ea,ec,h]) (List.pairwise_iff_getElem.mp nd a c ha hc z)
  ·exact z
  ·exact absurd (show E[c].1=E[a].1 by rw[ea,ec,h]) (List.pairwise_iff_getElem.mp nd c a hc ha z)
 subst hac
 rw[<-ea,ec]
theorem SI.init {E:En}{y:Int} (nd:(E.map Prod.fst).Nodup) (hE:∀ e∈E,GdP e.1/\HP y 6 e.1) {z:Option (Pth×Pth)} (hz:∀ w,z=some w->(∃ e∈E,e.1=w.1/\e.2=[])/\w.2∈zbs E):SI E y 0 (L0 z) (E.map Prod.fst) (A0 z):=by
 have hgp:∀ g∈E.map Prod.fst,GdP g/\HP y (20+0) g:=λ g hg=>by
  obtain ⟨e,he,rfl⟩:=List.mem_map.mp hg
  exact⟨(hE e he).1,z28 (hE e he).2 (by omega)⟩
 have htg:∀ e∈E,e.1∈E.map Prod.fst:=λ e he=>List.mem_map.mpr ⟨e,he,rfl⟩
 cases z with
 | none =>
  refine⟨List.nodup_nil,(λ p h=>nomatch h),htg,hgp,λ g hg=>?_,(λ s h=>nomatch h),rfl,(λ s h=>nomatch h),(λ g _=>by show 1<=0+2;omega),Nat.zero_le _,by rw[List.length_map];omega,Nat.zero_le _⟩
  obtain ⟨e,he,rfl⟩:=List.mem_map.mp hg
  exact⟨⟨e,he,rfl⟩,rfl⟩
 | some w =>
  obtain ⟨⟨e,he,h1,h2⟩,h3⟩:=hz w rfl
  obtain ⟨f,hf,h4⟩:=List.mem_map.mp h3
  have hf:=List.mem_filter.mp hf
  have hne:w.2≠w.1:=λ z=>by
   have:=ztn nd hf.1 he (by rw[h4,z,h1])
   rw[this,h2] at hf
   cases hf.2
  have hv:∀ g,zbf (L0 (some w)) g=if w.1=g then some (w.2,2) else none:=λ g=>by
   show zbf [(w.1,w.2,2)] g=_
   rw[za5];rfl
  have hgt:∀ g,g≠w.1->gtL (L0 (some w)) g=(g,1):=λ g hg=>by unfold gtL;rw[hv,if_neg (Ne.symm hg)];rfl
  refine⟨by show [w.1].Nodup;simp,λ p hp=>?_,htg,hgp,λ g hg=>?_,λ s hs hb=>?_,rfl,λ s hs=>?_,λ g hg=>?_,by show 1<=0+1;omega,by rw[List.length_map];omega,by show 1<=0+1;omega⟩
  ·have:p=w.1:=by simpa [L0] using hp
   rw[this,<-h1];exact htg e he
  ·by_cases hg1:g=w.1
   ·have:gtL (L0 (some w)) g=(w.2,2):=by unfold gtL;rw[hv,if_pos hg1.symm];rfl
    rw[this]
    exact⟨⟨f,hf.1,h4⟩,by rw[hv,if_neg (Ne.symm hne)]⟩
   ·rw[hgt g hg1]
    obtain ⟨e',he',h5⟩:=List.mem_map.mp hg
    exact⟨⟨e',he',h5⟩,by rw[hv,if_neg (Ne.symm hg1)]⟩
  ·have:s=(w.1,w.2,false):=by simpa [A0] using hs
   subst this
   rw[hgt w.2 hne,hv,if_pos rfl]
  ·have:s=(w.1,w.2,false):=by simpa [A0] using hs
   subst this
   refine⟨hne,by rw[<-h4];exact htg f hf.1,by rw[<-h1];exact (hE e he).1,by rw[hgt w.2 hne];exact hne,(λ z=>nomatch z),λ _ e' he' h5=>?_⟩
   rw[ztn nd he' he (by rw[h5,h1])];exact h2
  ·by_cases hg1:g=w.1
   ·have:gtL (L0 (some w)) g=(w.2,2):=by unfold gtL;rw[hv,if_pos hg1.symm];rfl
    rw[this];show 2<=0+2;omega
   ·rw[hgt g hg1];show 1<=0+2;omega
theorem SI.fresh {E:En}{y:Int}{k:Nat}{L:Lt}{Gs:List Pth}{A:List See} (h:SI E y k L Gs A) (hk:k<26) {p:Pth} (hp:hbF y ((20+k:Nat):Int)∈p):p ∉ Gs:=λ z=>by
 obtain ⟨j,h1,h2⟩:=(h.gp p z).2 _ hp
 have:=z6x y (by omega) (by omega) h2
 omega
theorem SI.up {E:En}{y:Int}{k:Nat}{L:Lt}{Gs:List Pth}{A:List See} (h:SI E y k L Gs A):SI E y (k+1) L Gs A :=
 ⟨h.nd,h.kg,h.tg,λ g hg=>⟨(h.gp g hg).1,z28 (h.gp g hg).2 (by omega)⟩,h.en,h.ch,h.ks,h.se,λ g hg=>by have:=h.st g hg;omega,by have:=h.l1;omega,by have:=h.l2;omega,by have:=h.l3;omega⟩
theorem SI.also {E:En}{y:Int}{k:Nat}{L:Lt}{Gs:List Pth}{A:List See} (h:SI E y k L Gs A) {e:Pth×List Td}{g:Pth} (he:e∈E) (hE:GdP e.1) (hg:g∈Gs) (h1:e.1≠g) (h2:e.1≠(gtL L g).1):SI E y (k+1) L Gs (A++[(e.1,g,true)]):=by
 have u:=h.up
 refine⟨u.nd,u.kg,u.tg,u.gp,u.en,λ s hs hb=>?_,?_,λ s hs=>?_,u.st,u.l1,u.l2,by rw[List.length_append,List.length_singleton];have:=h.l3;omega⟩
 ·rcases List.mem_append.mp hs with hs|hs
  ·exact u.ch s hs hb
  ·rw[List.mem_singleton.mp hs] at hb;cases hb
 ·rw[List.filter_append,List.filter_cons_of_neg (by simp),List.filter_nil,List.append_nil];exact u.ks
 ·rcases List.mem_append.mp hs with hs|hs
  ·exact u.se s hs
  ·rw[List.mem_singleton.mp hs]
   exact⟨Ne.symm h1,hg,hE,Ne.symm h2,λ _=>⟨e,he,rfl⟩,(λ z=>nomatch z)⟩
theorem SI.add {E:En}{y:Int}{k:Nat}{L:Lt}{Gs:List Pth}{A:List See} (h:SI E y k L Gs A) (hk:k<26) {p g:Pth} (hg:g∈Gs) (gp:GdP p) (hh:HP y (21+k) p) (hp:hbF y ((20+k:Nat):Int)∈p):SI E y (k+1) (L++[(p,(gtL L g).1,(gtL L g).2+1)]) (Gs++[p]) (A++[(p,g,false)]):=by
 have hn:=h.fresh hk hp
 have hnL:p ∉ L.map Prod.fst:=λ z=>hn (h.kg p z)
 have gne:∀ {x},x∈Gs->x≠p:=λ {x} hx z=>hn (by rw[<-z];exact hx)
 have same:∀ {x},x∈Gs->gtL (L++[(p,(gtL L g).1,(gtL L g).2+1)]) x=gtL L x:=λ {x} hx=>zwg hnL (gne hx)
 have newp:gtL (L++[(p,(gtL L g).1,(gtL L g).2+1)]) p=((gtL L g).1,(gtL L g).2+1):=by unfold gtL;rw[zc7 hnL,if_pos rfl];rfl
 have endG:∀ {x},x∈Gs->(gtL L x).1∈Gs:=λ {x} hx=>by obtain ⟨e,he,h1⟩:=(h.en x hx).1;rw[<-h1];exact h.tg e he
 refine⟨?_,λ q hq=>?_,λ e he=>List.mem_append_left _ (h.tg e he),λ x hx=>?_,λ x hx=>?_,λ s hs hb=>?_,?_,λ s hs=>?_,λ x hx=>?_,by rw[List.length_append,List.length_singleton];have:=h.l1;omega,by rw[List.length_append,List.length_singleton];have:=h.l2;omega,by rw[List.length_append,List.length_singleton];have:=h.l3;omega⟩
 ·rw[List.map_append]
  exact List.nodup_append.mpr ⟨h.nd,by simp,λ a ha b hb z=>hnL (by
   have:b=p:=by simpa using hb
   rw[<-this,<-z];exact ha)⟩
 ·rw[List.map_append] at hq
  rcases List.mem_append.mp hq with hq|hq
  ·exact List.mem_append_left _ (h.kg q hq)
  ·have:q=p:=by simpa using hq
   rw[this];exact List.mem_append_right _ (List.mem_singleton.mpr rfl)
 ·rcases List.mem_append.mp hx with hx|hx
  ·exact⟨(h.gp x hx).1,z28 (h.gp x hx).2 (by omega)⟩
  ·rw[List.mem_singleton.mp hx];exact⟨gp,z28 hh (by omega)⟩
 ·rcases List.mem_append.mp hx with hx|hx
  ·rw[same hx]
   refine⟨(h.en x hx).1,?_⟩
   rw[zc7 hnL,if_neg (gne (endG hx))];exact (h.en x hx).2
  ·rw[List.mem_singleton.mp hx,newp]
   refine⟨(h.en g hg).1,?_⟩
   rw[zc7 hnL,if_neg (gne (endG hg))];exact (h.en g hg).2
 ·rcases List.mem_append.mp hs with hs|hs
  ·have hsG:=(h.se s hs).2.1
   have hsp:s.1≠p:=λ z=>by
    have h1:=h.ch s hs hb
    rw[z] at h1
    rw[zd0 hnL] at h1;cases h1
   rw[same hsG,zc7 hnL,if_neg hsp];exact h.ch s hs hb
  ·rw[List.mem_singleton.mp hs]
   show zbf _ p=some ((gtL _ g).1,(gtL _ g).2+1)
   rw[same hg,zc7 hnL,if_pos rfl]
 ·rw[List.map_append,List.filter_append,List.map_append,h.ks];rfl
 ·rcases List.mem_append.mp hs with hs|hs
  ·obtain ⟨s1,s2,s3,s4,s5,s6⟩:=h.se s hs
   refine⟨s1,List.mem_append_left _ s2,s3,?_,s5,s6⟩
   rw[same s2];exact s4
  ·rw[List.mem_singleton.mp hs]
   refine⟨gne hg,List.mem_append_left _ hg,gp,?_,(λ z=>nomatch z),λ _ e he z=>absurd (h.tg e he) (by rw[z];exact hn)⟩
   show (gtL _ g).1≠p
   rw[same hg];exact gne (endG hg)
 ·rcases List.mem_append.mp hx with hx|hx
  ·rw[same hx];have:=h.st x hx;omega
  ·rw[List.mem_singleton.mp hx,newp];have:=h.st g hg;show (gtL L g).2+1<=_;omega
def z60:Rho->OutD:=(zfd (dL (zbn 8 (e2 zb5 (e2 zdu (e2 gIx (zaa 0) (zaa 7)) (eC (.int 1583458089))) (eC (.int 2147483647)))))
  (zfd (dL (zbn 9 (e2 gIx (zaa 5) (e2 zb5 (e2 zew (zaa 8) (eC (.int 7))) (eN zb7 (aC (zaa 5) aN))))))
  (zfd (dL (zja (gT 2 (gTC (gN 10) (gTC (gN 11) gT0))) (zcl (zaa 2) (zaa 9) (eN za1 (aC (zal 9) (aC (eC (.int 1)) aN))))))
  (zfd (dL (zbn 12 (zat 4 zvz (aC (zal 4) (aC (zal 7) (aC (e2 zew (zaa 8) (eC (.int 31))) (aC (zal 3) aN)))))))
  (dIf (tE (e2 gGt (e2 zb5 (zaa 8) (eC (.int 3))) (eC (.int 0)))) (zfd (dL (zeb 2 (zaa 12) (eN za1 (aC (zal 10) (aC (e2 zb6 (zaa 11) (eC (.int 1))) aN)))))
  (zfd (dL (zfo 5 (zal 12)))
  (dL (zfo 6 (eN za1 (aC (zal 12) (aC (zal 9) (aC (eC (.bl false)) aN)))))))) (zfd (dL (zbn 12 (e2 gIx (zaa 4) (e2 zb5 (e2 zew (zaa 8) (eC (.int 41))) (eN zb7 (aC (zaa 4) aN))))))
  (dIf (zdj (tE (e2 zfb (zaa 12) (zaa 9))) (tE (e2 zfb (zaa 12) (zaa 10)))) (dL (zfo 6 (eN za1 (aC (zal 12) (aC (zal 9) (aC (eC (.bl true)) aN)))))) zsb)))))))
theorem zwi {E:En}{y:Int} (hE:∀ e∈E,GdP e.1/\HP y 6 e.1) (hne:E≠[]) (hl:E.length<=100) {cs:List Int}{k:Nat} (hk:k<cs.length) (hk2:k<26) {L:Lt}{Gs:List Pth}{A:List See} (h:SI E y k L Gs A) (s1 z8 z9 z10 z11 z12:Option Sl) :
  ∃ L' Gs' A' y8 y9 y10 y11 y12,SI E y (k+1) L' Gs' A'/\z60 [some (.sh (.lst (cs.map D.int))),s1,some (dts L),some (.sh (.int y)),some (.sh (.lst (E.map λ e=>pD e.1))),some (.ow (Gs.map pD)),some (.ow (A.map seE)),some (.sh (.int (k:Nat))),z8,z9,z10,z11,z12]=.nx [some (.sh (.lst (cs.map D.int))),s1,some (dts L'),some (.sh (.int y)),some (.sh (.lst (E.map λ e=>pD e.1))),some (.ow (Gs'.map pD)),some (.ow (A'.map seE)),some (.sh (.int (k:Nat))),y8,y9,y10,y11,y12]:=by
 generalize hm:dAt cs k * 1583458089 % 2147483647=m
 have hlen:0<E.length:=List.length_pos_iff.mpr hne
 have hG0:0<Gs.length:=by
  obtain ⟨e,r,he⟩:=List.exists_cons_of_ne_nil hne
  exact List.length_pos_of_mem (h.tg e (by rw[he];exact List.mem_cons_self))
 have lG:=h.l2
 have lA:=h.l3
 have lL:=h.l1
 obtain ⟨d,hd,hat⟩:=znj (xs:=Gs.map pD) (i:=m / 7 % ((Gs.length:Nat):Int)) (Int.emod_nonneg _ (by omega)) (by rw[List.length_map];exact Int.emod_lt_of_pos _ (by omega))
 obtain ⟨g,hg,rfl⟩:=List.mem_map.mp hd
 obtain ⟨p,hpf,gp,hh,hp⟩:=zwd hE hne hl k hk2 (m / 31)
 have hnL:p ∉ L.map Prod.fst:=λ z=>h.fresh hk2 hp (h.kg p z)
 have r8:∀ {a:Option Sl},e2 zb5 (e2 zdu (e2 gIx (zaa 0) (zaa 7)) (eC (.int 1583458089))) (eC (.int 2147483647)) [some (.sh (.lst (cs.map D.int))),s1,some (dts L),some (.sh (.int y)),some (.sh (.lst (E.map λ e=>pD e.1))),some (.ow (Gs.map pD)),some (.ow (A.map seE)),some (.sh (.int (k:Nat))),z8,z9,z10,z11,z12]=some (.int m):=λ {a} =>
  zae (zae (zae rfl rfl (zye hk)) rfl (zif (zje ⟨by decide,by decide⟩))) rfl ((zbx (by decide)).trans (by rw[hm]))
 have r9:e2 gIx (zaa 5) (e2 zb5 (e2 zew (zaa 8) (eC (.int 7))) (eN zb7 (aC (zaa 5) aN))) [some (.sh (.lst (cs.map D.int))),s1,some (dts L),some (.sh (.int y)),some (.sh (.lst (E.map λ e=>pD e.1))),some (.ow (Gs.map pD)),some (.ow (A.map seE)),some (.sh (.int (k:Nat))),some (.sh (.int m)),z9,z10,z11,z12]=some (pD g) :=
  zae (d:=.lst (Gs.map pD)) rfl (zae (zae rfl rfl (zdw (by decide))) (zas (ds:=[.lst (Gs.map pD)]) (z:=.int ((Gs.length:Nat):Int)) rfl (by show some (D.int (((Gs.map pD).length:Nat):Int))=_;rw[List.length_map])) (zbx (by omega))) hat
 have r10:zcl (zaa 2) (zaa 9) (eN za1 (aC (zal 9) (aC (eC (.int 1)) aN))) [some (.sh (.lst (cs.map D.int))),s1,some (dts L),some (.sh (.int y)),some (.sh (.lst (E.map λ e=>pD e.1))),some (.ow (Gs.map pD)),some (.ow (A.map seE)),some (.sh (.int (k:Nat))),some (.sh (.int m)),some (.sh (pD g)),z10,z11,z12]=some (etD (gtL L g)):=ztm rfl rfl (zas rfl rfl)
 have r12:zat 4 zvz (aC (zal 4) (aC (zal 7) (aC (e2 zew (zaa 8) (eC (.int 31))) (aC (zal 3) aN)))) [some (.sh (.lst (cs.map D.int))),s1,some (dts L),some (.sh (.int y)),some (.sh (.lst (E.map λ e=>pD e.1))),some (.ow (Gs.map pD)),some (.ow (A.map seE)),some (.sh (.int (k:Nat))),some (.sh (.int m)),some (.sh (pD g)),some (.sh (pD (gtL L g).1)),some (.sh (.int (((gtL L g).2:Nat):Int))),z12]=some (pD p) :=
  zan (ds:=[.lst (E.map λ e=>pD e.1),.int (k:Nat),.int (m / 31),.int y]) (zak rfl (zak rfl (zak (zae rfl rfl (zdw (by decide))) (zak rfl rfl)))) rfl hpf
 have qt:tE (e2 gGt (e2 zb5 (zaa 8) (eC (.int 3))) (eC (.int 0))) [some (.sh (.lst (cs.map D.int))),s1,some (dts L),some (.sh (.int y)),some (.sh (.lst (E.map λ e=>pD e.1))),some (.ow (Gs.map pD)),some (.ow (A.map seE)),some (.sh (.int (k:Nat))),some (.sh (.int m)),some (.sh (pD g)),some (.sh (pD (gtL L g).1)),some (.sh (.int (((gtL L g).2:Nat):Int))),some (.sh (pD p))]=some (decide (0<m % 3)):=za4 (zae (zae rfl rfl (zbx (by decide))) rfl zmf)
 by_cases ht:0<m % 3
 ·rw[decide_eq_true ht] at qt
  refine⟨_,_,_,some (.sh (.int m)),some (.sh (pD g)),some (.sh (pD (gtL L g).1)),some (.sh (.int (((gtL L g).2:Nat):Int))),some (.sh (pD p)),h.add hk2 hg gp hh hp,dst (zcf (zai (r8 (a:=none)))) (dst (zcf (zai r9)) (dst (zcf (zg8 r10 rfl)) (dst (zcf (zai r12)) ((z2n qt).trans (dst (zcf (zhc (sl:=dts L) (k:=pD p) (d:=etD ((gtL L g).1,(gtL L g).2+1)) rfl (zas (zak rfl (zak (zae rfl rfl zc5) rfl)) rfl) rfl (ztl hnL (by omega)))) (dst (zcf (ze4 (ds:=Gs.map pD) (d:=pD p) rfl rfl (by rw[List.length_map];omega))) ((zcf (ze4 (ds:=A.map seE) (d:=seE (p,g,false)) rfl (zas (zak rfl (zak rfl (zak rfl rfl))) rfl) (by rw[List.length_map];omega))).trans ?_)))))))⟩
  rw[List.map_append,List.map_append];rfl
 ·rw[decide_eq_false ht] at qt
  obtain ⟨d,hd,hat2⟩:=znj (xs:=E.map λ e=>pD e.1) (i:=m / 41 % ((E.length:Nat):Int)) (Int.emod_nonneg _ (by omega)) (by rw[List.length_map];exact Int.emod_lt_of_pos _ (by omega))
  obtain ⟨e,he,rfl⟩:=List.mem_map.mp hd
  have r13:e2 gIx (zaa 4) (e2 zb5 (e2 zew (zaa 8) (eC (.int 41))) (eN zb7 (aC (zaa 4) aN))) [some (.sh (.lst (cs.map D.int))),s1,some (dts L),some (.sh (.int y)),some (.sh (.lst (E.map λ e=>pD e.1))),some (.ow (Gs.map pD)),some (.ow (A.map seE)),some (.sh (.int (k:Nat))),some (.sh (.int m)),some (.sh (pD g)),some (.sh (pD (gtL L g).1)),some (.sh (.int (((gtL L g).2:Nat):Int))),some (.sh (pD p))]=some (pD e.1) :=
   zae rfl (zae (zae rfl rfl (zdw (by decide))) (zas (z:=.int ((E.length:Nat):Int)) rfl (by show some (D.int (((E.map λ e=>pD e.1).length:Nat):Int))=_;rw[List.length_map])) (zbx (by omega))) hat2
  have q2:zdj (tE (e2 zfb (zaa 12) (zaa 9))) (tE (e2 zfb (zaa 12) (zaa 10))) [some (.sh (.lst (cs.map D.int))),s1,some (dts L),some (.sh (.int y)),some (.sh (.lst (E.map λ e=>pD e.1))),some (.ow (Gs.map pD)),some (.ow (A.map seE)),some (.sh (.int (k:Nat))),some (.sh (.int m)),some (.sh (pD g)),some (.sh (pD (gtL L g).1)),some (.sh (.int (((gtL L g).2:Nat):Int))),some (.sh (pD e.1))]=some (!decide (e.1=g) && !decide (e.1=(gtL L g).1)):=zml (za4 (zae rfl rfl (zie (zwh e.1 g)))) λ _=>za4 (zae rfl rfl (zie (zwh e.1 (gtL L g).1)))
  by_cases hc:e.1≠g/\e.1≠(gtL L g).1
  ·rw[decide_eq_false hc.1,decide_eq_false hc.2] at q2
   refine⟨_,_,_,some (.sh (.int m)),some (.sh (pD g)),some (.sh (pD (gtL L g).1)),some (.sh (.int (((gtL L g).2:Nat):Int))),some (.sh (pD e.1)),h.also he (hE e he).1 hg hc.1 hc.2,dst (zcf (zai (r8 (a:=none)))) (dst (zcf (zai r9)) (dst (zcf (zg8 r10 rfl)) (dst (zcf (zai r12)) ((zwe qt).trans (dst (zcf (zai r13)) ((z2n q2).trans ((zcf (ze4 (ds:=A.map seE) (d:=seE (e.1,g,true)) rfl (zas (zak rfl (zak rfl (zak rfl rfl))) rfl) (by rw[List.length_map];omega))).trans ?_)))))))⟩
   rw[List.map_append];rfl
  ·have q3:(!decide (e.1=g) && !decide (e.1=(gtL L g).1))=false:=by
    by_cases h1:e.1=g
    ·rw[decide_eq_true h1];rfl
    ·have h2:e.1=(gtL L g).1:=Classical.byContradiction λ z=>hc ⟨h1,z⟩
     rw[decide_eq_true h2,Bool.not_true,Bool.and_false]
   rw[q3] at q2
   exact⟨_,_,_,some (.sh (.int m)),some (.sh (pD g)),some (.sh (pD (gtL L g).1)),some (.sh (.int (((gtL L g).2:Nat):Int))),some (.sh (pD e.1)),h.up,dst (zcf (zai (r8 (a:=none)))) (dst (zcf (zai r9)) (dst (zcf (zg8 r10 rfl)) (dst (zcf (zai r12)) ((zwe qt).trans (dst (zcf (zai r13)) ((zwe q2).trans rfl))))))⟩
theorem zob {E:En}{y:Int} (hE:∀ e∈E,GdP e.1/\HP y 6 e.1) (hne:E≠[]) (hl:E.length<=100) {cs:List Int} (s1:Option Sl):∀ (n k:Nat) (L:Lt) (Gs:List Pth) (A:List See) (z7 z8 z9 z10 z11 z12:Option Sl),k+n=cs.length->k+n<=24->SI E y k L Gs A →
  ∃ L' Gs' A' y7 y8 y9 y10 y11 y12,SI E y (k+n) L' Gs' A'/\zed (gN 7) z60 (zj1 ((k:Nat):Int) n) [some (.sh (.lst (cs.map D.int))),s1,some (dts L),some (.sh (.int y)),some (.sh (.lst (E.map λ e=>pD e.1))),some (.ow (Gs.map pD)),some (.ow (A.map seE)),z7,z8,z9,z10,z11,z12]=.nx [some (.sh (.lst (cs.map D.int))),s1,some (dts L'),some (.sh (.int y)),some (.sh (.lst (E.map λ e=>pD e.1))),some (.ow (Gs'.map pD)),some (.ow (A'.map seE)),y7,y8,y9,y10,y11,y12]
 | 0,k,L,Gs,A,z7,z8,z9,z10,z11,z12,_,_,h=>⟨L,Gs,A,z7,z8,z9,z10,z11,z12,h,rfl⟩
 | n+1,k,L,Gs,A,z7,z8,z9,z10,z11,z12,hk,hk2,h=>by
  obtain ⟨L',Gs',A',y8,y9,y10,y11,y12,h',e⟩:=zwi hE hne hl (cs:=cs) (k:=k) (by omega) (by omega) h s1 z8 z9 z10 z11 z12
  obtain ⟨L2,G2,A2,w7,w8,w9,w10,w11,w12,h2,e2'⟩:=zob hE hne hl (cs:=cs) s1 n (k+1) L' Gs' A' (some (.sh (.int (k:Nat)))) y8 y9 y10 y11 y12 (by omega) (by omega) h'
  refine⟨L2,G2,A2,w7,w8,w9,w10,w11,w12,by rw[show k+(n+1)=k+1+n by omega];exact h2,?_⟩
  rw[zdz,<-e2']
  exact zn9 rfl e
theorem z2p {E:En}{y:Int} (nd:(E.map Prod.fst).Nodup) (hE:∀ e∈E,GdP e.1/\HP y 6 e.1) (hf:zbs E≠[]) (hl:E.length<=100) {cs:List Int} (hc:cs.length<=24):∃ L Gs A,SI E y cs.length L Gs A/\zmr [.lst (cs.map D.int),.lst (E.map enD),dtL [],.int y]=some (A.map seE,L.map (λ e=>pK e.1),L.map λ e=>etD e.2):=by
 have hne:E≠[]:=λ z=>hf (by rw[z];rfl)
 obtain ⟨z,hz,hs⟩:=z2o (y:=y) hf hl
 obtain ⟨L,Gs,A,y7,y8,y9,y10,y11,y12,h,e⟩:=zob hE hne hl (cs:=cs) (some (.sh (.lst (E.map enD)))) cs.length 0 _ _ _ none none none none none none (by omega) (by omega) (SI.init nd hE hz)
 rw[Nat.zero_add] at h
 refine⟨L,Gs,A,h,?_⟩
 have c4:eL (zb3 1 [] (iE (zaa 1)) (gN 0) (λ _=>some true) (e2 gIx (zaa 0) (eC (.int 0)))) [some (.sh (.lst (cs.map D.int))),some (.sh (.lst (E.map enD))),some (dts []),some (.sh (.int y)),none,none,none,none,none,none,none,none,none]=some (.lst (E.map λ e=>pD e.1)) :=
  zfq (zdg (ds:=E.map enD) rfl (sz (by rw[List.length_map];omega)) (zc4 enD (λ e=>pD e.1) E λ e _=>⟨[some (.sh (enD e))],rfl,rfl,zae rfl rfl rfl⟩))
 have hgo:(E.map λ e=>pD e.1)=(E.map Prod.fst).map pD:=by rw[List.map_map];rfl
 have:f_q12 [some (.sh (.lst (cs.map D.int))),some (.sh (.lst (E.map enD))),some (dts []),some (.sh (.int y)),none,none,none,none,none,none,none,none,none]=.rt (A.map seE) [some (.sh (.lst (cs.map D.int))),some (.sh (.lst (E.map enD))),some (dts L),some (.sh (.int y)),some (.sh (.lst (E.map λ e=>pD e.1))),some (.ow (Gs.map pD)),none,y7,y8,y9,y10,y11,y12]:=by
  have e':=e
  rw[<-hgo] at e'
  refine dst (zcf (zai c4)) (dst (zcf (zrg (d:=E.map λ e:Pth×List Td=>pD e.1) rfl)) (dst (zcf (zoa (xs:=[(false,.lst (E.map enD)),(true,dtL []),(false,.int y)]) rfl rfl (by decide) hs)) (dst (zmu (zox (ds:=[.int ((cs.length:Nat):Int)]) (zak (zas rfl zsh) rfl) (zn0 (by omega))) e') rfl)))
 exact ztk rfl rfl this rfl
theorem z2q {s t:See} (h:seE s=seE t):s=t:=by
 have h:D.tup [pD s.1,pD s.2.1,.bl s.2.2]=D.tup [pD t.1,pD t.2.1,.bl t.2.2]:=h
 have h:=D.tup.inj h
 simp only[List.cons.injEq] at h
 obtain ⟨h1,h2,h3,_⟩:=h
 have h3:s.2.2=t.2.2:=by injection h3 with h3;injection h3
 exact Prod.ext (zs9 h1) (Prod.ext (zs9 h2) h3)
theorem zto {s:See}{A:List See}:seE s∈A.map seE↔s∈A:=by
 rw[List.mem_map]
 exact⟨λ ⟨t,h1,h2⟩=>by rw[<-z2q h2];exact h1,λ h=>⟨s,h,rfl⟩⟩
theorem z61 {s:See} (h1:GdP s.1) (h2:GdP s.2.1):GdS (seE s):=⟨_,_,_,h1,h2,rfl⟩
theorem z62 {A:List See} (hg:∀ s∈A,GdP s.1/\GdP s.2.1) (hl:A.length<64):∃ O:List See,(∀ s,s∈O↔s∈A)/\O.Nodup/\O.length<=A.length/\∀ H:List See,(∀ s,s∈H↔s∈A)->H.length<=5000->zsq [.lst [.lst (H.map seE)]]=some (O.map seE):=by
 have hgA:∀ d∈A.map seE,GdS d:=λ d hd=>by obtain ⟨s,hs,rfl⟩:=List.mem_map.mp hd;exact z61 (hg s hs).1 (hg s hs).2
 have hp:=zbr (ltK zfw) (dd (A.map seE))
 obtain ⟨O,h1,h2⟩:=zs8 (f:=seE) (ms:=A) (zk0 (ltK zfw) (dd (A.map seE))) λ d hd=>zcw.mp (hp.mem_iff.mp hd)
 have hlen:(dd (A.map seE)).length<=A.length:=by
  have:=ze6 (zhy (A.map seE)) λ d hd=>zcw.mp hd
  rwa [List.length_map] at this
 refine⟨O,λ s=>⟨h2 s,λ hs=>?_⟩,?_,?_,λ H hH hHl=>?_⟩
 ·have:seE s∈zk0 (ltK zfw) (dd (A.map seE)):=hp.mem_iff.mpr (zcw.mpr (zto.mpr hs))
  rw[h1] at this
  exact zto.mp this
 ·have:(O.map seE).Nodup:=by rw[<-h1];exact hp.nodup_iff.mpr (zhy _)
  exact List.Pairwise.imp (λ h e=>h (by rw[e])) (List.pairwise_map.mp this)
 ·have:=congrArg List.length h1
  rw[hp.length_eq,List.length_map] at this
  omega
 ·have hm:∀ d,d∈A.map seE↔d∈H.map seE:=λ d=>by
   rw[List.mem_map,List.mem_map]
   exact⟨λ ⟨s,a,b⟩=>⟨s,(hH s).mpr a,b⟩,λ ⟨s,a,b⟩=>⟨s,(hH s).mp a,b⟩⟩
  have hf:[H.map seE].flatten=H.map seE:=by rw[List.flatten_cons,List.flatten_nil,List.append_nil]
  have hdd:(dd (H.map seE)).length<64:=by
   have:=ze6 (zhy (H.map seE)) (m:=dd (A.map seE)) λ d hd=>zcw.mpr ((hm d).mpr (zcw.mp hd))
   omega
  have e:=zpb (hs:=[H.map seE]) (by rw[hf];exact λ d hd=>hgA d ((hm d).mpr hd)) (by rw[hf,List.length_map];omega) (by rw[hf];exact hdd)
  rw[hf] at e
  refine e.trans ?_
  rw[zv1 z6u hgA hm,h1]
abbrev hpD (E:En):D:=.dt (E.map λ e=>pK e.1) (E.map λ e=>.bl (!e.2.isEmpty))
def hps (E:En):Sl:=.dt (E.map λ e=>pK e.1) (E.map λ e=>.bl (!e.2.isEmpty))
theorem z2r {E:En}{p:Pth}{ts:List Td} (h:p ∉ E.map Prod.fst) (hl:E.length<=1000):zfr (hps E) (pD p) (.bl (!ts.isEmpty))=some (hps (E++[(p,ts)])):=by
 unfold zfr hps
 dsimp only
 rw[ze9,Option.bind_some,if_pos (by rw[List.length_map];exact szl (by omega)),zhf (λ ts:List Td=>D.bl (!ts.isEmpty)),zcx]
 ·rw[List.map_append,List.map_append,List.map_map,List.map_map,List.map_append,List.map_append];rfl
 ·intro z
  rw[List.map_map] at z
  obtain ⟨e,h1,h2⟩:=List.mem_map.mp z
  exact h (List.mem_map.mpr ⟨e,h1,zfz h2⟩)
theorem zio (a:Option Sl):∀ (E dn:En) (z2 z3:Option Sl),((dn++E).map Prod.fst).Nodup->dn.length+E.length<=1000->∃ y2 y3,zid (gT 2 (gTC (gN 2) (gTC (gN 3) gT0))) (zeb 1 (zaa 2) (e2 gGt (eN zb7 (aC (zaa 3) aN)) (eC (.int 0)))) (E.map enD) [a,some (hps dn),z2,z3]=.nx [a,some (hps (dn++E)),y2,y3]
 | [],dn,z2,z3,_,_=>⟨z2,z3,by rw[List.append_nil];rfl⟩
 | e::E,dn,z2,z3,hn,hl=>by
  rw[List.length_cons] at hl
  obtain ⟨y2,y3,ih⟩:=zio a E (dn++[e]) (some (.sh (pD e.1))) (some (.sh (.lst (e.2.map TdD)))) (by rw[List.append_assoc];exact hn) (by rw[List.length_append,List.length_singleton];omega)
  refine⟨y2,y3,?_⟩
  rw[List.append_assoc] at ih
  rw[List.map_cons,<-(show (dn++([e]++E))=dn++e::E from rfl),<-ih]
  have hv:e.1 ∉ dn.map Prod.fst:=λ z=>by
   rw[List.map_append] at hn
   exact (List.nodup_append.mp hn).2.2 e.1 z e.1 (by simp) rfl
  have hb:e2 gGt (eN zb7 (aC (zaa 3) aN)) (eC (.int 0)) [a,some (hps dn),some (.sh (pD e.1)),some (.sh (.lst (e.2.map TdD)))]=some (.bl (!e.2.isEmpty)):=by
   refine (zae (zas (z:=.int ((e.2.length:Nat):Int)) rfl (by show some (D.int (((e.2.map TdD).length:Nat):Int))=_;rw[List.length_map])) rfl zmf).trans ?_
   cases e.2 with
   | nil=>rfl
   | cons t r=>rw[decide_eq_true (by rw[List.length_cons];omega)];rfl
  exact zcm (ρ1:=[a,some (hps dn),some (.sh (pD e.1)),some (.sh (.lst (e.2.map TdD)))]) rfl (zhc (sl:=hps dn) rfl hb rfl (z2r hv (by omega)))
theorem zpc {E:En} (nd:(E.map Prod.fst).Nodup) (hl:E.length<=100):z1x [.lst (E.map enD)]=some (hpD E):=by
 obtain ⟨y2,y3,e⟩:=zio (some (.sh (.lst (E.map enD)))) E [] none none nd (by rw[List.length_nil];omega)
 exact za9 rfl (st rfl (st (zdf rfl e) rfl))
abbrev Nx:=List (Pth×Pth)
abbrev stD (N:Nx):D:=.dt (N.map λ e=>pK e.1) (N.map λ e=>.lst [pD e.2])
def gS (s:Pth×Pth):List Key×List D:=(pK s.1,[pD s.2])
def Sn (O:List See):Nx:=(O.filter λ s=>!s.2.2).map λ s=>(s.1,s.2.1)
theorem zlk {k:List Key}{d:D}:∀ {gd:GD},(∀ x∈gd,x.1≠k)->zf8 k d (gd++[(k,[])])=gd++[(k,[d])]
 | [],_=>by rw[List.nil_append,zf8,if_pos rfl];rfl
 | x::r,h=>by
  rw[List.cons_append,zf8,if_neg (h x List.mem_cons_self),zlk λ y hy=>h y (List.mem_cons_of_mem _ hy)];rfl
theorem zhj (a:Option Sl):∀ (O:List See) (N:Nx) (z2 z3 z4:Option Sl),((N++Sn O).map Prod.fst).Nodup->N.length+O.length<=1000->∃ ρ',zpj (gT 3 (gTC (gN 2) (gTC (gN 3) (gTC (gN 4) gT0)))) (z25 (zd6 (tE (zal 4))) (gSa (zaa 2) (zal 3)) z1i) (O.map seE) [a,none,z2,z3,z4] (N.map gS)=some (ρ',(N++Sn O).map gS)
 | [],N,z2,z3,z4,_,_=>⟨_,by show some (_,N.map gS)=some (_,(N++[]).map gS);rw[List.append_nil]⟩
 | s::O,N,z2,z3,z4,hn,hl=>by
  rw[List.length_cons] at hl
  have qb:∀ gd:GD,z25 (zd6 (tE (zal 4))) (gSa (zaa 2) (zal 3)) z1i [a,none,some (.sh (pD s.1)),some (.sh (pD s.2.1)),some (.sh (.bl s.2.2))] gd=if (!s.2.2)=true then gSa (zaa 2) (zal 3) [a,none,some (.sh (pD s.1)),some (.sh (pD s.2.1)),some (.sh (.bl s.2.2))] gd else z1i [a,none,some (.sh (pD s.1)),some (.sh (pD s.2.1)),some (.sh (.bl s.2.2))] gd:=λ gd=>rfl
  by_cases hb:s.2.2=true
  ·have hS:Sn (s::O)=Sn O:=by unfold Sn;rw[List.filter_cons_of_neg (by rw[hb];exact Bool.false_ne_true)]
   rw[hS] at hn ⊢
   obtain ⟨ρ',ih⟩:=zhj a O N (some (.sh (pD s.1))) (some (.sh (pD s.2.1))) (some (.sh (.bl s.2.2))) hn (by omega)
   refine⟨ρ',?_⟩
   rw[List.map_cons,<-ih]
   refine zfa (ρ1:=[a,none,some (.sh (pD s.1)),some (.sh (pD s.2.1)),some (.sh (.bl s.2.2))]) (z:=([a,none,some (.sh (pD s.1)),some (.sh (pD s.2.1)),some (.sh (.bl s.2.2))],N.map gS)) rfl ?_
   rw[qb,if_neg (by rw[hb];exact Bool.false_ne_true)];rfl
  ·have hb:s.2.2=false:=Bool.eq_false_iff.mpr hb
   have hS:Sn (s::O)=(s.1,s.2.1)::Sn O:=by unfold Sn;rw[List.filter_cons_of_pos (by rw[hb];rfl)];rfl
   rw[hS] at hn ⊢
   obtain ⟨ρ',ih⟩:=zhj a O (N++[(s.1,s.2.1)]) (some (.sh (pD s.1))) (some (.sh (pD s.2.1))) (some (.sh (.bl s.2.2))) (by rw[List.append_assoc];exact hn) (by rw[List.length_append,List.length_singleton];omega)
   refine⟨ρ',?_⟩
   rw[List.append_assoc] at ih
   rw[List.map_cons,<-(show N++([(s.1,s.2.1)]++Sn O)=N++(s.1,s.2.1)::Sn O from rfl),<-ih]
   have hnk:s.1 ∉ N.map Prod.fst:=λ z=>by
    rw[List.map_append] at hn
    exact (List.nodup_append.mp hn).2.2 s.1 z s.1 (by simp) rfl
   have hv:zbf (N.map gS) (pK s.1)=none:=by
    have h1:zbf (N.map gS) (pK s.1)=(zbf N s.1).map (λ g=>[pD g]):=zge (λ g:Pth=>[pD g]) s.1 N
    rw[h1,zd0 hnk];rfl
   have hx:∀ x∈N.map gS,x.1≠pK s.1:=λ x hx z=>by
    obtain ⟨e,he,rfl⟩:=List.mem_map.mp hx
    exact hnk (List.mem_map.mpr ⟨e,he,zfz z⟩)
   refine (zfa (ρ1:=[a,none,some (.sh (pD s.1)),some (.sh (pD s.2.1)),some (.sh (.bl s.2.2))]) (z:=([a,none,some (.sh (pD s.1)),some (.sh (pD s.2.1)),some (.sh (.bl s.2.2))],(N++[(s.1,s.2.1)]).map gS)) rfl ?_)
   rw[qb,if_pos (by rw[hb];rfl)]
   have hc:(N.map gS).length<100000/\((N.map gS).all λ x=>decide (x.2.length<100000))=true:=by
    refine⟨by rw[List.length_map];omega,List.all_eq_true.mpr λ y hy=>?_⟩
    obtain ⟨e,he,rfl⟩:=List.mem_map.mp hy
    rfl
   unfold gSa
   show ((zev (pD s.1)).bind λ k=>(some (pD s.2.1)).bind λ d=>if (N.map gS).length<100000/\((N.map gS).all λ x=>decide (x.2.length<100000))=true then some ([a,none,some (.sh (pD s.1)),some (.sh (pD s.2.1)),some (.sh (.bl s.2.2))],z1h (N.map gS) k d) else none)=_
   rw[ze9,Option.bind_some,Option.bind_some,if_pos hc]
   have hS2:z1h (N.map gS) (pK s.1) (pD s.2.1)=(N++[(s.1,s.2.1)]).map gS:=by
    unfold z1h zo7
    rw[hv,if_neg (by exact Bool.false_ne_true),zlk hx,List.map_append];rfl
   rw[hS2]
theorem zwj {O:List See} (nd:((Sn O).map Prod.fst).Nodup) (hl:O.length<=100):z1w [.lst (O.map seE)]=some (stD (Sn O)):=by
 obtain ⟨ρ',e⟩:=zhj (some (.sh (.lst (O.map seE)))) O [] none none none (by rw[List.nil_append];exact nd) (by rw[List.length_nil];omega)
 rw[List.nil_append] at e
 refine za9 rfl ?_
 show zx8 1 (zsa (iE (zal 0)) (gT 3 (gTC (gN 2) (gTC (gN 3) (gTC (gN 4) gT0)))) (z25 (zd6 (tE (zal 4))) (gSa (zaa 2) (zal 3)) z1i)) [some (.sh (.lst (O.map seE))),none,none,none,none]=_
 unfold zx8
 have e':zsa (iE (zal 0)) (gT 3 (gTC (gN 2) (gTC (gN 3) (gTC (gN 4) gT0)))) (z25 (zd6 (tE (zal 4))) (gSa (zaa 2) (zal 3)) z1i) [some (.sh (.lst (O.map seE))),none,none,none,none] []=some (ρ',(Sn O).map gS):=e
 simp only[List.getElem?_cons_succ,List.getElem?_cons_zero]
 refine (if_pos rfl).trans ?_
 rw[e']
 dsimp only
 rw[List.map_map,List.map_map];rfl
theorem zyy {α β:Type}{l:List (α×β)} (nd:(l.map Prod.fst).Nodup) {s t:α×β} (hs:s∈l) (ht:t∈l) (h:s.1=t.1):s=t:=by
 rw[List.nodup_iff_pairwise_ne,List.pairwise_map] at nd
 rcases List.mem_iff_getElem.mp hs with ⟨a,ha,ea⟩
 rcases List.mem_iff_getElem.mp ht with ⟨c,hc,ec⟩
 have hac:a=c:=by
  rcases Nat.lt_trichotomy a c with z|z|z
  ·exact absurd (show l[a].1=l[c].1 by rw[ea,ec,h]) (List.pairwise_iff_getElem.mp nd a c ha hc z)
  ·exact z
  ·exact absurd (show l[c].1=l[a].1 by rw[ea,ec,h]) (List.pairwise_iff_getElem.mp nd c a hc ha z)
 subst hac
 rw[<-ea,ec]
theorem ztp {β:Type}{m:List (Pth×β)} (nd:(m.map Prod.fst).Nodup) {p:Pth}{v:β} (h:(p,v)∈m):zbf m p=some v:=by
 obtain ⟨w,hw⟩:=zc6 (List.mem_map.mpr ⟨(p,v),h,rfl⟩)
 have hw:zbf m p=some w:=hw
 have:=zyy nd (zhi hw) h rfl
 cases this
 exact hw
structure WI (E:En) (L:Lt) (Gs:List Pth) (O:List See) (N:Nx):Prop where
 nE:(E.map Prod.fst).Nodup
 nN:(N.map Prod.fst).Nodup
 no:∀ g∈Gs,zbf L g=none->zbf N g=none
 nx:∀ g∈Gs,∀ v,zbf L g=some v->∃ g',zbf N g=some g'/\g'∈Gs/\gtL L g=((gtL L g').1,(gtL L g').2+1)
 sn:∀ s∈O,s.2.2=false->zbf N s.1=some s.2.1
 en:∀ g∈Gs,∃ e∈E,e.1=(gtL L g).1
 se:∀ s∈O,s.2.1≠s.1/\s.2.1∈Gs/\GdP s.1/\(gtL L s.2.1).1≠s.1/\(s.2.2=true->∃ e∈E,e.1=s.1)/\(s.2.2=false->∀ e∈E,e.1=s.1->e.2=[])
 st:∀ g∈Gs,(gtL L g).2<=100
theorem SI.wi {E:En}{y:Int}{k:Nat}{L:Lt}{Gs:List Pth}{A O:List See} (h:SI E y k L Gs A) (nE:(E.map Prod.fst).Nodup) (hk:k<=90) (hO:∀ s,s∈O↔s∈A) (nO:O.Nodup):WI E L Gs O (Sn O):=by
 have nA:((A.filter λ s=>!s.2.2).map Prod.fst).Nodup:=by rw[<-h.ks];exact h.nd
 have hfil:∀ s,s∈O.filter (λ s=>!s.2.2)↔s∈A.filter λ s=>!s.2.2:=λ s=>by rw[List.mem_filter,List.mem_filter,hO]
 have nN:((Sn O).map Prod.fst).Nodup:=by
  have e:(Sn O).map Prod.fst=(O.filter λ s=>!s.2.2).map Prod.fst:=by unfold Sn;rw[List.map_map];rfl
  rw[e]
  refine List.pairwise_map.mpr (List.Pairwise.imp_of_mem (λ {a b} ha hb hne z=>hne (zyy nA ((hfil a).mp ha) ((hfil b).mp hb) z)) (nO.filter _))
 have hin:∀ {s},s∈O->s.2.2=false->(s.1,s.2.1)∈Sn O:=λ {s} hs hb=>List.mem_map.mpr ⟨s,List.mem_filter.mpr ⟨hs,by rw[hb];rfl⟩,rfl⟩
 refine⟨nE,nN,λ g hg hv=>?_,λ g hg v hv=>?_,λ s hs hb=>ztp nN (hin hs hb),λ g hg=>(h.en g hg).1,λ s hs=>h.se s ((hO s).mp hs),λ g hg=>by have:=h.st g hg;omega⟩
 ·refine zd0 λ z=>?_
  obtain ⟨e,he,h1⟩:=List.mem_map.mp z
  obtain ⟨s,hs,rfl⟩:=List.mem_map.mp he
  have:g∈L.map Prod.fst:=by rw[h.ks];exact List.mem_map.mpr ⟨s,(hfil s).mp hs,h1⟩
  obtain ⟨w,hw⟩:=zc6 this
  rw[hv] at hw;cases hw
 ·have hgk:g∈L.map Prod.fst:=List.mem_map.mpr ⟨(g,v),zhi hv,rfl⟩
  rw[h.ks] at hgk
  obtain ⟨s,hs,h1⟩:=List.mem_map.mp hgk
  have hsA:=List.mem_filter.mp hs
  have hb:s.2.2=false:=by have:=hsA.2;cases hq:s.2.2 with|false=>rfl|true=>rw[hq] at this;cases this
  refine⟨s.2.1,?_,(h.se s hsA.1).2.1,?_⟩
  ·rw[<-h1];exact ztp nN (hin ((hO s).mpr hsA.1) hb)
  ·have:=h.ch s hsA.1 hb
   rw[h1] at this
   show (zbf L g).getD (g,1)=_
   rw[this];rfl
abbrev Sq:=List (Pth×Bool)
def sns (m:Sq):Sl:=.dt (m.map λ e=>pK e.1) (m.map λ e=>.bl e.2)
abbrev snD (m:Sq):D:=.dt (m.map λ e=>pK e.1) (m.map λ e=>.bl e.2)
theorem z2s {m:Sq}{p:Pth} (h:p ∉ m.map Prod.fst) (hl:m.length<=1000):zfr (sns m) (pD p) (.bl true)=some (sns (m++[(p,true)])):=by
 unfold zfr sns
 dsimp only
 rw[ze9,Option.bind_some,if_pos (by rw[List.length_map];exact szl (by omega)),zhf D.bl,zcx]
 ·rw[List.map_append,List.map_append,List.map_map,List.map_map,List.map_append,List.map_append];rfl
 ·intro z
  rw[List.map_map] at z
  obtain ⟨e,h1,h2⟩:=List.mem_map.mp z
  exact h (List.mem_map.mpr ⟨e,h1,zfz h2⟩)
theorem z2t {β:Type} (enc:β->D) (m:List (Pth×β)) (p:Pth):gIn (pD p) (.dt (m.map λ e=>pK e.1) (m.map λ e=>enc e.2))=some (decide (p∈m.map Prod.fst)):=by
 show (zd9 _ (pD p)).map Option.isSome=_
 rw[zin enc m p,Option.map_some,Option.isSome_map]
 by_cases h:p∈m.map Prod.fst
 ·rw[decide_eq_true h,zgf.mpr h]
 ·rw[decide_eq_false h,zd0 h];rfl
abbrev zwk:Rho->Option D:=e2 gIx (zaa 2) (e1 zf4 (eC (.int 1)))
theorem zj0 {a b d:Option Sl}{l:List Pth}{c:Pth}:zwk [a,b,some (.ow ((l++[c]).map pD)),d]=some (pD c):=by
 refine zae (d:=.lst ((l++[c]).map pD)) (e:=.int (-1)) rfl (zjk rfl zsi) ?_
 rw[zrm,List.map_append]
 exact zjy (l.map pD) (pD c)
def z2u:Rho->Option Bool:=zdj (tE (e2 zll (e2 gIx (zaa 2) (e1 zf4 (eC (.int 1)))) (zaa 1))) (tE (e2 zbi (e2 gIx (zaa 2) (e1 zf4 (eC (.int 1)))) (zaa 3)))
def z63:Rho->Out:=(zaw (zeb 3 (e2 gIx (zaa 2) (e1 zf4 (eC (.int 1)))) (eC (.bl true)))
  (zfo 2 (e2 gIx (e2 zgz (zaa 1) (e2 gIx (zaa 2) (e1 zf4 (eC (.int 1))))) (eC (.int 0)))))
theorem zwl {E:En}{L:Lt}{Gs:List Pth}{O:List See}{N:Nx} (w:WI E L Gs O N) (a:Option Sl):∀ (n:Nat) (c:Pth) (sn:Sq) (fuel:Nat),c∈Gs->(gtL L c).2=n->n<fuel->sn.length+n<=200->(∀ x∈sn.map Prod.fst,n<(gtL L x).2)->(sn.map Prod.fst).Nodup →
  ∃ (pre:List Pth) (sn':Option Sl),zey z2u z63 fuel [a,some (.sh (stD N)),some (.ow ((sn.map Prod.fst++[c]).map pD)),some (sns sn)]=.nx [a,some (.sh (stD N)),some (.ow ((sn.map Prod.fst++(pre++[(gtL L c).1])).map pD)),sn']/\(pre++[(gtL L c).1]).length=n/\(sn.map Prod.fst++(pre++[(gtL L c).1])).Nodup:=by
 intro n
 induction n with
 | zero =>
  intro c sn fuel hc hn
  exfalso
  unfold gtL at hn
  cases hv:zbf L c with
  | none=>rw[hv] at hn;cases hn
  | some v =>
   obtain ⟨g',_,_,h3⟩:=w.nx c hc v hv
   unfold gtL at h3
   rw[h3] at hn
   cases hn
 | succ n ih =>
  intro c sn fuel hc hn hf hl hx nd
  obtain ⟨fuel,rfl⟩:∃ f,fuel=f+1:=⟨fuel - 1,by omega⟩
  have hcs:c ∉ sn.map Prod.fst:=λ z=>by have:=hx c z;omega
  have nd2:(sn.map Prod.fst++[c]).Nodup:=List.nodup_append.mpr ⟨nd,by simp,λ x hx y hy z=>hcs (by rw[<-List.mem_singleton.mp hy,<-z];exact hx)⟩
  have q1:tE (e2 zll zwk (zaa 1)) [a,some (.sh (stD N)),some (.ow ((sn.map Prod.fst++[c]).map pD)),some (sns sn)]=some (decide (c∈N.map Prod.fst)):=za4 (zae (e:=stD N) zj0 rfl (z5a (z2t (λ g:Pth=>D.lst [pD g]) N c)))
  have q2:tE (e2 zbi zwk (zaa 3)) [a,some (.sh (stD N)),some (.ow ((sn.map Prod.fst++[c]).map pD)),some (sns sn)]=some (!decide (c∈sn.map Prod.fst)):=za4 (zae (e:=snD sn) zj0 rfl (zrj (z2t D.bl sn c)))
  rw[decide_eq_false hcs] at q2
  cases hv:zbf L c with
  | none =>
   have hg:gtL L c=(c,1):=by unfold gtL;rw[hv];rfl
   rw[hg] at hn ⊢
   have hn:1=n+1:=hn
   have hcN:c ∉ N.map Prod.fst:=λ z=>by
    obtain ⟨u,hu⟩:=zc6 z
    rw[w.no c hc hv] at hu;cases hu
   rw[decide_eq_false hcN] at q1
   refine⟨[],some (sns sn),?_,by show 1=n+1;exact hn,nd2⟩
   unfold zey
   rw[show z2u _=some false from ze0 q1];rfl
  | some v =>
   obtain ⟨g',h1,h2,h3⟩:=w.nx c hc v hv
   have hcN:c∈N.map Prod.fst:=zgf.mp (by rw[h1];rfl)
   rw[decide_eq_true hcN] at q1
   have hn':(gtL L g').2=n:=by rw[h3] at hn;exact Nat.succ.inj hn
   obtain ⟨pre,sn',e,p1,p2⟩:=ih g' (sn++[(c,true)]) fuel h2 hn' (by omega) (by rw[List.length_append,List.length_singleton];omega) (λ x hxx=>by
    rw[List.map_append] at hxx
    rcases List.mem_append.mp hxx with hxx|hxx
    ·have:=hx x hxx;omega
    ·have:x=c:=by simpa using hxx
     rw[this];omega) (by rw[List.map_append];exact nd2)
   have hmap:(sn++[(c,true)]).map Prod.fst=sn.map Prod.fst++[c]:=by rw[List.map_append];rfl
   rw[hmap,List.append_assoc (sn.map Prod.fst) [c] (pre++[(gtL L g').1])] at e p2
   rw[h3]
   refine⟨c::pre,sn',?_,by show (pre++[(gtL L g').1]).length+1=n+1;rw[p1],p2⟩
   have hix:e2 gIx (e2 zgz (zaa 1) zwk) (eC (.int 0)) [a,some (.sh (stD N)),some (.ow ((sn.map Prod.fst++[c]).map pD)),some (sns (sn++[(c,true)]))]=some (pD g'):=by
    refine zae (d:=.lst [pD g']) (zae (d:=stD N) rfl zj0 ?_) rfl rfl
    unfold zgz
    rw[zin (λ g:Pth=>D.lst [pD g]) N c,h1];rfl
   have hb:z63 [a,some (.sh (stD N)),some (.ow ((sn.map Prod.fst++[c]).map pD)),some (sns sn)]=.nx [a,some (.sh (stD N)),some (.ow ((sn.map Prod.fst++[c]++[g']).map pD)),some (sns (sn++[(c,true)]))]:=by
    refine st (zhc (sl:=sns sn) rfl rfl zj0 (z2s hcs (by omega))) ((ze4 (ds:=(sn.map Prod.fst++[c]).map pD) (d:=pD g') rfl hix (by rw[List.length_map,List.length_append,List.length_map,List.length_singleton];omega)).trans ?_)
    rw[List.map_append (l₁:=sn.map Prod.fst++[c])];rfl
   rw[zey]
   rw[show z2u [a,some (.sh (stD N)),some (.ow ((sn.map Prod.fst++[c]).map pD)),some (sns sn)]=some true from zdv q1 q2]
   dsimp only
   rw[hb]
   exact e
theorem z64 {E:En}{L:Lt}{Gs:List Pth}{O:List See}{N:Nx} (w:WI E L Gs O N) {g:Pth} (hg:g∈Gs):∃ pre:List Pth,z1z [pD g,stD N]=some (.lst ((pre++[(gtL L g).1]).map pD))/\(pre++[(gtL L g).1]).length=(gtL L g).2/\(pre++[(gtL L g).1]).Nodup:=by
 have hst:=w.st g hg
 obtain ⟨pre,sn',e,h1,h2⟩:=zwl w (some (.sh (pD g))) _ g [] 1000 hg rfl (by omega) (by rw[List.length_nil];omega) (λ x hx=>nomatch hx) List.nodup_nil
 refine⟨pre,za9 rfl (st rfl (st rfl (st e rfl))),h1,h2⟩
theorem ztq (a b:Pth):deq (pD a) (pD b)=decide (a=b):=by rw[deq,zms]
theorem ztr {e:Pth}:∀ {pre:List Pth}{n:Nat},e ∉ pre->ixD (pD e) ((pre++[e]).map pD) n=some (n+pre.length)
 | [],n,_=>by
  show ixD (pD e) [pD e] n=_
  unfold ixD
  rw[if_pos (by rw[ztq,decide_eq_true rfl])];rfl
 | x::r,n,h=>by
  show ixD (pD e) (pD x::(r++[e]).map pD) n=_
  rw[ixD,if_neg (by rw[ztq,decide_eq_false (λ z=>h (by rw[z];exact List.mem_cons_self))];exact Bool.false_ne_true),ztr (λ z=>h (List.mem_cons_of_mem _ z)),List.length_cons]
  congr 1
  omega
theorem z2v {pre:List Pth}{e:Pth} (nd:(pre++[e]).Nodup):zmn [.lst ((pre++[e]).map pD)]=some (.lst []):=by
 have hne:e ∉ pre:=λ z=>(List.nodup_append.mp nd).2.2 e z e (List.mem_singleton.mpr rfl) rfl
 have hi:eM "list" z27 (zaa 0) (aC (e2 gIx (zaa 0) (e1 zf4 (eC (.int 1)))) aN) [some (.sh (.lst ((pre++[e]).map pD)))]=some (.int ((pre.length:Nat):Int)):=by
  refine z91 (d:=.lst ((pre++[e]).map pD)) (ds:=[pD e]) rfl (zak (zae (d:=.lst ((pre++[e]).map pD)) (e:=.int (-1)) rfl (zjk rfl zsi) ?_) rfl) rfl ?_
  ·rw[zrm,List.map_append];exact zjy (pre.map pD) (pD e)
  ·unfold z27
   dsimp only
   have h1:dOk LV (pD e)=true:=ze5 e
   have h2:((pre++[e]).map pD).all (dOk LV)=true:=List.all_eq_true.mpr λ d hd=>by obtain ⟨p,_,rfl⟩:=List.mem_map.mp hd;exact ze5 p
   rw[h1,h2]
   refine (if_pos rfl).trans ?_
   rw[ztr hne,Nat.zero_add];rfl
 refine za9 rfl (zbd ?_)
 show eSl (zaa 0) (oS (eM "list" z27 (zaa 0) (aC (e2 gIx (zaa 0) (e1 zf4 (eC (.int 1)))) aN))) (oS (e1 zf4 (eC (.int 1)))) [some (.sh (.lst ((pre++[e]).map pD)))]=_
 unfold eSl oS
 rw[hi]
 show some (D.lst (zh8 ((pre++[e]).map pD) (some ((pre.length:Nat):Int)) (some (-1))))=_
 have:zh8 ((pre++[e]).map pD) (some ((pre.length:Nat):Int)) (some (-1))=[]:=by
  unfold zh8
  have hl:((pre++[e]).map pD).length=pre.length+1:=by rw[List.length_map,List.length_append,List.length_singleton]
  rw[hl,HT.sIx_nat]
  have h1:HT.sIx (pre.length+1) (pre.length+1) (some (-1))=pre.length:=by
   unfold HT.sIx
   dsimp only
   rw[if_pos (by decide)]
   omega
  rw[h1,show pre.length - min pre.length (pre.length+1)=0 by omega,List.take_zero]
 rw[this]
def wyE (L:Lt) (s:See):D:=.tup [pD s.1,pD s.2.1,.bl s.2.2,pD (gtL L s.2.1).1,.int (((gtL L s.2.1).2:Nat):Int)]
theorem z2w {E:En}{L:Lt}{Gs:List Pth}{O:List See}{N:Nx} (w:WI E L Gs O N) {s:See} (hs:s∈O):z1y [pD s.1,pD s.2.1,.bl s.2.2,hpD E,stD N]=some .non:=by
 obtain ⟨s1,s2,s3,s4,s5,s6⟩:=w.se s hs
 have q1:tE (e2 zc8 (zaa 1) (zaa 0)) [some (.sh (pD s.1)),some (.sh (pD s.2.1)),some (.sh (.bl s.2.2)),some (.sh (hpD E)),some (.sh (stD N))]=some false:=(za4 (zae rfl rfl (zef (zwh s.2.1 s.1)))).trans (by rw[decide_eq_false s1])
 have qn:zd6 (tE (zal 2)) [some (.sh (pD s.1)),some (.sh (pD s.2.1)),some (.sh (.bl s.2.2)),some (.sh (hpD E)),some (.sh (stD N))]=some (!s.2.2):=zc0 (za4 rfl)
 have q2:zdj (zd6 (tE (zal 2))) (tE (zcl (zaa 3) (zaa 0) (eC (.bl false)))) [some (.sh (pD s.1)),some (.sh (pD s.2.1)),some (.sh (.bl s.2.2)),some (.sh (hpD E)),some (.sh (stD N))]=some false:=by
  cases hb:s.2.2 with
  | true=>rw[hb] at qn;exact ze0 qn
  | false =>
   rw[hb] at qn
   refine zdv qn ?_
   have e:=zjv (fo:=zaa 3) (fk:=zaa 0) (fz:=eC (.bl false)) (ρ:=[some (.sh (pD s.1)),some (.sh (pD s.2.1)),some (.sh (.bl false)),some (.sh (hpD E)),some (.sh (stD N))]) (d:=hpD E) (k:=pD s.1) (z:=.bl false) rfl rfl rfl (zin (λ ts:List Td=>D.bl (!ts.isEmpty)) E s.1)
   refine za4 (e.trans ?_)
   cases hv:zbf E s.1 with
   | none=>rfl
   | some ts =>
    have h:=s6 hb (s.1,ts) (zhi hv) rfl
    have h:ts=[]:=h
    rw[h];rfl
 have q3:zdj (zd6 (tE (zal 2))) (tE (e2 gGt (eN zb7 (aC (e2 zgz (zaa 4) (zaa 0)) aN)) (eC (.int 1)))) [some (.sh (pD s.1)),some (.sh (pD s.2.1)),some (.sh (.bl s.2.2)),some (.sh (hpD E)),some (.sh (stD N))]=some false:=by
  cases hb:s.2.2 with
  | true=>rw[hb] at qn;exact ze0 qn
  | false =>
   rw[hb] at qn
   refine zdv qn ?_
   have hd:zgz (stD N) (pD s.1)=some (.lst [pD s.2.1]):=by
    unfold zgz
    rw[zin (λ g:Pth=>D.lst [pD g]) N s.1,w.sn s hs hb];rfl
   exact za4 ((zae (zas (zak (zae rfl rfl hd) rfl) rfl) rfl zmf).trans rfl)
 exact zys rfl (st ((zc3 q1).trans rfl) (st ((zc3 q2).trans rfl) ((zc3 q3).trans rfl)))
theorem yc7 {E:En}{L:Lt}{Gs:List Pth}{O:List See}{N:Nx} (w:WI E L Gs O N) {s:See} (hs:s∈O):z13 [seE s,hpD E,stD N]=some (wyE L s):=by
 obtain ⟨s1,s2,s3,s4,s5,s6⟩:=w.se s hs
 obtain ⟨pre,hw,h1,h2⟩:=z64 w s2
 have hin:∀ p:Pth,(∃ e∈E,e.1=p)->zbi (pD p) (hpD E)=some (.bl false):=λ p ⟨e,he,hp⟩=>by
  rw[zrj (z2t (λ ts:List Td=>D.bl (!ts.isEmpty)) E p),decide_eq_true (List.mem_map.mpr ⟨e,he,hp⟩)];rfl
 have hl:zb7 [.lst ((pre++[(gtL L s.2.1).1]).map pD)]=some (.int (((gtL L s.2.1).2:Nat):Int)):=by
  show some (D.int ((((pre++[(gtL L s.2.1).1]).map pD).length:Nat):Int))=_
  rw[List.length_map,h1]
 have he:gIx (.lst ((pre++[(gtL L s.2.1).1]).map pD)) (.int (-1))=some (pD (gtL L s.2.1).1):=by
  rw[zrm,List.map_append];exact zjy (pre.map pD) (pD (gtL L s.2.1).1)
 refine za9 rfl (st (zai (d:=pD s.1) (zae rfl rfl rfl)) (st (zai (d:=pD s.2.1) (zae rfl rfl rfl)) (st (zai (d:=.bl s.2.2) (zae rfl rfl rfl)) (st (zlh (zan rfl rfl (z2w w hs))) (st (zai (zan rfl rfl hw)) (st (zai (zan rfl rfl (z2v h2))) (st ((zc3 ((za4 (zae (zas rfl rfl) rfl zmf)).trans rfl)).trans rfl) (st (zai (zae rfl (zjk rfl zsi) he)) (st ((zc3 ?_).trans rfl) (zbd (zas (zak rfl (zak rfl (zak rfl (zak rfl (zak (zas rfl hl) rfl))))) rfl)))))))))))
 refine zhs (za4 (zae rfl rfl (hin _ (w.en _ s2)))) (zhs ?_ ((za4 (zae rfl rfl (zef (zwh (gtL L s.2.1).1 s.1)))).trans (by rw[decide_eq_false s4])))
 cases hb:s.2.2 with
 | false=>exact ze0 (za4 rfl)
 | true=>exact zdv (za4 rfl) (za4 (zae rfl rfl (hin _ (s5 hb))))
theorem zts {E:En}{L:Lt}{Gs:List Pth}{O H:List See} (w:WI E L Gs O (Sn O)) (hl:E.length<=100) (ho:O.length<=100) (hp:zsq [.lst [.lst (H.map seE)]]=some (O.map seE)):zhx [.lst (E.map enD),.lst (H.map seE)]=some (O.map (wyE L)):=by
 refine zrh rfl (st (zai (zfq (zd7 (zak (zas rfl rfl) rfl) rfl hp))) (st (zai (zan rfl rfl (zpc w.nE hl))) (st (zai (zan rfl rfl (zwj w.nN ho))) (zu8 (zdg (ds:=O.map seE) rfl (sz (by rw[List.length_map];omega)) (zc4 seE (wyE L) O λ s hs=>⟨[some (.sh (seE s)),some (.sh (hpD E)),some (.sh (stD (Sn O)))],rfl,rfl,zan rfl rfl (yc7 w hs)⟩))))))
theorem zpd (p:Pth):deq (pD p) (pD p)=true:=by rw[ztq,decide_eq_true rfl]
theorem zpe (p:Pth) (n:Nat):dOk (n+1) (pD p)=true:=by
 rw[dOk]
 exact List.all_eq_true.mpr λ d hd=>by obtain ⟨t,_,rfl⟩:=List.mem_map.mp hd;rw[dOk]
theorem z65 (L:Lt) (s:See):zfb (wyE L s) (.tup [pD s.1,pD s.2.1,.bl s.2.2,pD (gtL L s.2.1).1,.int (((gtL L s.2.1).2:Nat):Int)])=some (.bl false):=by
 have hk:dOk LV (wyE L s)=true:=by
  unfold wyE
  rw[show LV=8+1 from rfl,dOk,List.all_cons,List.all_cons,List.all_cons,List.all_cons,List.all_cons,zpe,zpe,zpe];rfl
 have hd:zb1 [pD s.1,pD s.2.1,.bl s.2.2,pD (gtL L s.2.1).1,.int (((gtL L s.2.1).2:Nat):Int)] [pD s.1,pD s.2.1,.bl s.2.2,pD (gtL L s.2.1).1,.int (((gtL L s.2.1).2:Nat):Int)]=true:=ze8 λ d hd=>by
  rcases List.mem_cons.mp hd with rfl|hd
  ·exact zpd _
  rcases List.mem_cons.mp hd with rfl|hd
  ·exact zpd _
  rcases List.mem_cons.mp hd with rfl|hd
  ·rw[znk,beq_self_eq_true]
  rcases List.mem_cons.mp hd with rfl|hd
  ·exact zpd _
  rw[List.mem_singleton.mp hd,zjf,decide_eq_true rfl]
 have:=zie (d:=wyE L s) (e:=wyE L s) ((zxy (by rw[show D.tup [pD s.1,pD s.2.1,.bl s.2.2,pD (gtL L s.2.1).1,.int (((gtL L s.2.1).2:Nat):Int)]=wyE L s from rfl,hk];rfl)).trans (by rw[hd]))
 exact this
def z66:Rho->Out:=(zaw (zja (gT 3 (gTC (gN 4) (gTC (gN 5) (gTC (gN 6) gT0)))) (e2 gIx (zaa 1) (zaa 3)))
  (zaw (zja (gT 2 (gTC (gN 7) (gTC (gN 8) gT0))) (zcl (zaa 2) (zaa 5) (eN za1 (aC (zal 5) (aC (eC (.int 1)) aN)))))
  (zaw (zbn 9 (e2 gIx (zaa 0) (zaa 3)))
  (zaw (sIf (bOr (zd6 (tE (e1 (zt4 "tuple") (zaa 9)))) (tE (e2 zfb (zaa 9) (eN za1 (aC (zal 4) (aC (zal 5) (aC (zal 6) (aC (zal 7) (aC (zal 8) aN))))))))) (zce (eC (.bl false))) zbm)
  (sIf (bOr (zd6 (tE (e1 (zt4 "bool") (e2 gIx (zaa 9) (eC (.int 2)))))) (zd6 (tE (zat 1 zyg (aC (e2 gIx (zaa 9) (eC (.int 4))) aN))))) (zce (eC (.bl false))) zbm)))))
theorem ztt {α:Type} (f:α->D) {l:List α}{k:Nat}{x:α} (h:l[k]?=some x):gIx (.lst (l.map f)) (.int ((k:Nat):Int))=some (f x):=zir (by rw[List.getElem?_map,h];rfl)
theorem zwm (i:Int):zyg [.int i]=some (.bl true):=za9 rfl (zbd ((zu9 (zml (za4 (zjk (d:=.int i) rfl rfl)) λ _=>za4 (zu9 (zc0 (za4 (zjk (d:=.int i) rfl rfl)))))).trans rfl))
theorem ztu {L:Lt} (O:List See):∀ (n k:Nat) (z3 z4 z5 z6 z7 z8 z9:Option Sl),k+n=O.length->∃ y3 y4 y5 y6 y7 y8 y9,zid (gN 3) z66 (zj1 ((k:Nat):Int) n) [some (.sh (.lst (O.map (wyE L)))),some (.sh (.lst (O.map seE))),some (.sh (dtL L)),z3,z4,z5,z6,z7,z8,z9]=.nx [some (.sh (.lst (O.map (wyE L)))),some (.sh (.lst (O.map seE))),some (.sh (dtL L)),y3,y4,y5,y6,y7,y8,y9]
 | 0,k,z3,z4,z5,z6,z7,z8,z9,_=>⟨z3,z4,z5,z6,z7,z8,z9,rfl⟩
 | n+1,k,z3,z4,z5,z6,z7,z8,z9,hk=>by
  have hs:O[k]?=some O[k]:=List.getElem?_eq_getElem (by omega)
  generalize O[k]=s at hs
  obtain ⟨y3,y4,y5,y6,y7,y8,y9,e⟩:=ztu O n (k+1) (some (.sh (.int (k:Nat)))) (some (.sh (pD s.1))) (some (.sh (pD s.2.1))) (some (.sh (.bl s.2.2))) (some (.sh (pD (gtL L s.2.1).1))) (some (.sh (.int (((gtL L s.2.1).2:Nat):Int)))) (some (.sh (wyE L s))) (by omega)
  refine⟨y3,y4,y5,y6,y7,y8,y9,?_⟩
  rw[zdz,<-e]
  refine zcm rfl (st (zg8 (d:=seE s) (zae rfl rfl (ztt seE hs)) rfl) (st (zg8 (d:=etD (gtL L s.2.1)) (ztm (L:=L) rfl rfl (zas rfl rfl)) rfl) (st (zai (zae rfl rfl (ztt (wyE L) hs))) (st ((zc3 (zhs (zc0 (b:=true) (za4 (zjk (d:=wyE L s) rfl rfl))) (za4 (zae (d:=wyE L s) rfl (zas (zak rfl (zak rfl (zak rfl (zak rfl (zak rfl rfl))))) rfl) (z65 L s))))).trans rfl) ((zc3 (zhs (zc0 (b:=true) (za4 (zjk (d:=.bl s.2.2) (zae rfl rfl rfl) rfl))) (zc0 (b:=true) (za4 (zan (ds:=[.int (((gtL L s.2.1).2:Nat):Int)]) (zak (zae rfl rfl rfl) rfl) rfl (zwm _)))))).trans rfl)))))
theorem ya1 {L:Lt}{O:List See} (ho:O.length<=100):zjo [.lst (O.map (wyE L)),.lst (O.map seE),dtL L]=some (.bl true):=by
 obtain ⟨y3,y4,y5,y6,y7,y8,y9,e⟩:=ztu (L:=L) O O.length 0 none none none none none none none (by omega)
 have hl1:zb7 [.lst (O.map (wyE L))]=some (.int ((O.length:Nat):Int)):=by show some (D.int (((O.map (wyE L)).length:Nat):Int))=_;rw[List.length_map]
 have hl2:zb7 [.lst (O.map seE)]=some (.int ((O.length:Nat):Int)):=by show some (D.int (((O.map seE).length:Nat):Int))=_;rw[List.length_map]
 refine za9 rfl (st ((zc3 (zhs (zc0 (b:=true) (za4 (zjk (d:=.lst (O.map (wyE L))) rfl rfl))) ((za4 (zae (zas rfl hl1) (zas rfl hl2) (zie zgy))).trans (by rw[decide_eq_true rfl];rfl)))).trans rfl) (st (zdf (zox (ds:=[.int ((O.length:Nat):Int)]) (zak (zas rfl hl2) rfl) (zn0 (by omega))) e) (zbd rfl)))
theorem z67 (t:Td):deq (TdD t) (TdD t)=true:=by
 unfold TdD
 rw[deq,zb1,zb1,zb1,zb1,zjf,zjf,znk,decide_eq_true rfl,decide_eq_true rfl,beq_self_eq_true];rfl
theorem ztv {l:List D} (h:dOk LV (.lst l)=true) (hd:∀ d∈l,deq d d=true):zfb (.lst l) (.lst l)=some (.bl false):=by
 have:gEq (.lst l) (.lst l)=some true:=by rw[zxz (by rw[h];rfl),ze8 hd]
 exact zie this
theorem z68 (E:En):zfb (.lst (E.map enD)) (.lst (E.map enD))=some (.bl false):=by
 refine ztv ?_ λ d hd=>?_
 ·rw[show LV=8+1 from rfl,dOk]
  refine List.all_eq_true.mpr λ d hd=>?_
  obtain ⟨e,_,rfl⟩:=List.mem_map.mp hd
  unfold enD
  have h2:dOk 7 (.lst (e.2.map TdD))=true:=by
   rw[dOk]
   exact List.all_eq_true.mpr λ d hd=>by obtain ⟨t,_,rfl⟩:=List.mem_map.mp hd;simp[TdD,dOk]
  rw[dOk,List.all_cons,List.all_cons,zpe,h2];rfl
 ·obtain ⟨e,_,rfl⟩:=List.mem_map.mp hd
  unfold enD
  rw[deq,zb1,zb1,zb1,zpd,deq,ze8 λ d hd=>by obtain ⟨t,_,rfl⟩:=List.mem_map.mp hd;exact z67 t];rfl
theorem z69 (H:List See):zfb (.lst (H.map seE)) (.lst (H.map seE))=some (.bl false):=by
 refine ztv ?_ λ d hd=>?_
 ·rw[show LV=8+1 from rfl,dOk]
  refine List.all_eq_true.mpr λ d hd=>?_
  obtain ⟨s,_,rfl⟩:=List.mem_map.mp hd
  unfold seE SeD
  rw[dOk,List.all_cons,List.all_cons,List.all_cons,show D.tup (s.1.map D.str)=pD s.1 from rfl,show D.tup (s.2.1.map D.str)=pD s.2.1 from rfl,zpe,zpe];rfl
 ·obtain ⟨s,_,rfl⟩:=List.mem_map.mp hd
  unfold seE SeD
  rw[deq,zb1,zb1,zb1,zb1,show D.tup (s.1.map D.str)=pD s.1 from rfl,show D.tup (s.2.1.map D.str)=pD s.2.1 from rfl,zpd,zpd,znk,beq_self_eq_true];rfl
theorem z2x {ρ:Rho}{i:Nat}{E:En} (h:zaa i ρ=some (.lst (E.map enD))) (hl:E.length<=100):eL (zb3 2 [] (iE (zaa i)) (gT 2 (gTC (gN 0) (gTC (gN 1) gT0))) (λ _=>some true) (eN za1 (aC (zal 0) (aC (eN zou (aC (zaa 1) aN)) aN)))) ρ=some (.lst (E.map enD)) :=
 zfq (zdg (ds:=E.map enD) (zri h rfl) (sz (by rw[List.length_map];omega)) (zc4 enD enD E λ e _=>⟨[some (.sh (pD e.1)),some (.sh (.lst (e.2.map TdD)))],rfl,rfl,zas (zak rfl (zak (zas rfl rfl) rfl)) rfl⟩))
theorem z2y {i:Nat}{ρ:Rho}{ds:List D} (h:ρ[i]?=some (some (.ow ds))):z55 i ρ=.nx (ρ.set i (some (.ow []))):=by unfold z55;rw[h]
theorem zhk {np:Nat}{F:List D->Option D}{fr:Rho->Option (List D)}{ρ:Rho}{ds:List D}{b:Bool} (ha:fr ρ=some ds) (hn:ds.length=np) (hF:F ds=some (.bl b)):zc2 np F fr ρ=some (.bl b):=by
 unfold zc2
 rw[ha]
 show (if ds.length=np then (F ds).bind _ else none)=_
 rw[if_pos hn,hF];rfl
theorem zwn {y:Int}{ms:List M4} (h:∀ x∈ms,HP y 6 x.1) {p:Pth} (hp:p∈zhg ms):HP y 6 p:=by
 obtain ⟨x,hx,h2⟩:=List.mem_flatMap.mp hp
 obtain ⟨k,_,rfl⟩:=List.mem_map.mp h2
 exact λ a ha=>h x hx a (List.mem_of_mem_take ha)
theorem zwo (ns:List Int) (hl:ns.length<=63):zjp [.lst (ns.map D.int)]=some (.bl true):=by
 generalize hy:dAt ns 0=y
 generalize hc:dAt ns 1=c
 have r1:zt7 [.lst (ns.map D.int),.int 0]=some (.int y):=by rw[<-hy];exact zlc ns 0
 have r0:zt7 [.lst (ns.map D.int),.int 1]=some (.int c):=by rw[<-hc];exact zlc ns 1
 obtain ⟨ms,r2,gm,lm,nm⟩:=zwc c y
 have hp:∀ x∈ms,GdP x.1:=λ x hx=>(gm x hx).1.p
 obtain ⟨E,r3,GE,hfull⟩:=zpa [false,false,false,false,false] (by decide) (λ x hx=>(gm x hx).1) (by omega) 2 7
 have lE:E.length<=100:=by
  have:=ndl GE.nd (m:=zhg ms) λ p hpp=>by
   obtain ⟨e,he,rfl⟩:=List.mem_map.mp hpp
   exact GE.sub e he
  rw[List.length_map] at this
  have:=zhh hp
  omega
 have hE:∀ e∈E,GdP e.1/\HP y 6 e.1:=λ e he=>⟨zn5 hp (GE.sub e he),zwn (λ x hx=>(gm x hx).2) (GE.sub e he)⟩
 have hf:zbs E≠[]:=by
  obtain ⟨e,he,hn⟩:=hfull nm
  intro z
  have:e.1∈zbs E:=List.mem_map.mpr ⟨e,List.mem_filter.mpr ⟨he,by cases hq:e.2 with|nil=>exact absurd hq hn|cons a b=>rfl⟩,rfl⟩
  rw[z] at this;cases this
 generalize hcs:(ns.drop 2).take 24=cs
 have lcs:cs.length<=24:=by rw[<-hcs,List.length_take];omega
 have s1:gSl (.lst (ns.map D.int)) (some 2) (some 26)=some (.lst (cs.map D.int)):=by rw[<-hcs];exact z6b (l:=ns) (a:=2) (b:=26) (by decide)
 obtain ⟨L,Gs,A,hI,r4⟩:=z2p GE.nd hE hf lE lcs
 have lA:=hI.l3
 obtain ⟨O,hO,nO,lO,hpour⟩:=z62 (A:=A) (λ s hs=>⟨(hI.se s hs).2.2.1,(hI.gp _ (hI.se s hs).2.1).1⟩) (by omega)
 have w:=hI.wi GE.nd (by omega) hO nO
 obtain ⟨k,hk⟩:=Int.eq_ofNat_of_zero_le (Int.emod_nonneg y (show (4:Int)≠0 by decide))
 generalize hH:A.reverse++A.take k=H
 have hmH:∀ s,s∈H↔s∈A:=λ s=>by
  rw[<-hH,List.mem_append,List.mem_reverse]
  exact⟨λ z=>z.elim id List.mem_of_mem_take,.inl⟩
 have lH:H.length<=5000:=by rw[<-hH,List.length_append,List.length_reverse,List.length_take];omega
 have pA:=hpour A (λ s=>Iff.rfl) (by omega)
 have pH:=hpour H hmH lH
 have wH:=zts w lE (by omega) pH
 have w0:zhx [.lst (E.map enD),.lst []]=some []:=by
  have hno:∀ s,s∈([]:List See)↔s∈([]:List See):=λ s=>Iff.rfl
  obtain ⟨O0,hO0,nO0,lO0,hp0⟩:=z62 (A:=[]) (λ s hs=>nomatch hs) (by decide)
  have e0:O0=[]:=List.eq_nil_of_length_eq_zero (by simpa using lO0)
  subst e0
  have W0:WI E [] [] [] (Sn []):=⟨GE.nd,List.nodup_nil,(λ g h=>nomatch h),(λ g h=>nomatch h),(λ s h=>nomatch h),(λ g h=>nomatch h),(λ s h=>nomatch h),(λ g h=>nomatch h)⟩
  exact zts (H:=[]) W0 lE (by decide) (hp0 [] hno (by decide))
 have o1:=ya1 (L:=L) (O:=O) (by omega)
 have r6:e2 zb6 (eL (wN z74 (aC (zaa 4) aN))) (eSl (zaa 4) oN (oS (e2 zb5 (zaa 1) (eC (.int 4))))) [some (.sh (.lst (ns.map D.int))),some (.sh (.int y)),some (.sh (.lst (E.map enD))),some (dts L),some (.sh (.lst (A.map seE))),some (.sh (.lst (O.map seE))),none,none,none,none]=some (.lst (H.map seE)):=by
  refine zae (d:=.lst (A.reverse.map seE)) (e:=.lst ((A.take k).map seE)) ?_ ?_ ((z0p (sz (by rw[List.length_map,List.length_map,List.length_reverse,List.length_take];omega))).trans (by rw[<-List.map_append,hH]))
  ·show some (D.lst (A.map seE).reverse)=_
   rw[List.map_reverse]
  ·show (((zb5 (.int y) (.int 4)).bind λ d=>(toI d).map some).bind λ hi=>gSl (.lst (A.map seE)) none hi)=_
   rw[zbx (by decide),hk]
   show some (D.lst (zh8 (A.map seE) none (some ((k:Nat):Int))))=_
   rw[zro,List.map_take]
 have hfr:mV (eSl (zaa 0) (oS (eC (.int 2))) (oS (eC (.int 26)))) (mV (zal 2) (mD 3 (mV (zal 1) mN))) [some (.sh (.lst (ns.map D.int))),some (.sh (.int y)),some (.sh (.lst (E.map enD))),some (dts []),none,none,none,none,none,none]=some [(false,.lst (cs.map D.int)),(false,.lst (E.map enD)),(true,dtL []),(false,.int y)]:=by
  unfold mV
  rw[show eSl (zaa 0) (oS (eC (.int 2))) (oS (eC (.int 26))) [some (.sh (.lst (ns.map D.int))),some (.sh (.int y)),some (.sh (.lst (E.map enD))),some (dts []),none,none,none,none,none,none]=some (.lst (cs.map D.int)) from s1];rfl
 refine za9 rfl (st (zai (zan rfl rfl r1)) (st (zai (zan (zak (zae (zas rfl rfl) rfl rfl) (zak rfl (zak rfl (zak (zan (zak (zan rfl rfl r0) rfl) rfl r2) rfl)))) rfl r3)) (st rfl (st (zoa (xs:=[(false,.lst (cs.map D.int)),(false,.lst (E.map enD)),(true,dtL []),(false,.int y)]) hfr rfl (by decide) r4) ?_))))
 show zmc 4 _ [some (.sh (.lst (ns.map D.int))),some (.sh (.int y)),some (.sh (.lst (E.map enD))),some (dts L),some (.ow (A.map seE)),none,none,none,none,none]=_
 refine st (zai (zfq (zd7 (zak (zas rfl rfl) rfl) rfl pA))) (st (zai r6) (st (zai (zas rfl rfl)) (st (zai (z2x rfl lE)) (st (zrg (zd7 (zak rfl (zak rfl rfl)) rfl wH)) (st ((zc3 ?_).trans rfl) (st ((zc3 ?_).trans rfl) (st (z2y rfl) (zbd (zhk (ds:=[.lst (O.map (wyE L)),.lst (O.map seE),dtL L]) (zak (zfq (zd7 (zak rfl (zak rfl rfl)) rfl wH)) rfl) rfl o1)))))))))
 ·exact zhs (zc0 (b:=true) (za4 (zhk (ds:=[.lst (O.map (wyE L)),.lst (O.map seE),dtL L]) rfl rfl o1))) (zhs (za4 (zae rfl rfl (z68 E))) (za4 (zae rfl rfl (z69 H))))
 ·exact zhs (zc0 (b:=true) (za4 (zjk (d:=.lst []) (zfq (zd7 (zak rfl (zak (zas rfl rfl) rfl)) rfl w0)) rfl))) (zc0 (b:=true) (za4 (zhk (ds:=[.lst (O.map (wyE L)),.lst (O.map seE),dtL L]) rfl rfl o1)))
end K20
set_option maxHeartbeats 4000000
namespace K20
open PySem L2
abbrev zwp:Stmt:=top 10
abbrev zwq:Stmt:=top 11
abbrev zwr:Stmt:=top 12
abbrev zws:Stmt:=top 14
abbrev zwt:Stmt:=top 15
abbrev z78:Stmt:=top 16
abbrev zwu:Stmt:=top 17
abbrev zwv:Stmt:=top 18
abbrev zww:Stmt:=top 19
abbrev zwx:Stmt:=top 21
abbrev z79:Stmt:=top 22
abbrev z8a:Stmt:=top 23
abbrev z8b:Stmt:=top 24
abbrev z8c:Stmt:=top 25
abbrev z8d:Stmt:=top 26
abbrev zwy:Stmt:=top 27
abbrev zd1:Stmt:=top 28
abbrev zwz:Stmt:=top 30
abbrev z8e:Stmt:=top 32
abbrev z8f:Stmt:=top 33
abbrev zw0:Stmt:=top 34
abbrev zw1:Stmt:=top 36
abbrev z8g:Stmt:=top 37
abbrev z8h:Stmt:=top 38
abbrev z8i:Stmt:=top 40
abbrev z8j:Stmt:=top 41
abbrev z8k:Stmt:=top 42
abbrev z8l:Stmt:=top 43
abbrev z8m:Stmt:=top 44
abbrev z8n:Stmt:=top 45
abbrev zw2:Stmt:=top 46
abbrev zw3:Stmt:=top 47
abbrev zw4:Stmt:=top 48
abbrev zmv:Stmt:=top 49
theorem zyz:FnScope ["head","bar"] ["head"] (zad zwp):=⟨rfl,rfl,rfl,by decide +kernel,rfl,by decide +kernel,by decide +kernel⟩
theorem z7a:FnScope ["head"] ["head"] (zad zwq):=⟨rfl,rfl,rfl,by decide +kernel,rfl,by decide +kernel,by decide +kernel⟩
theorem z7b:FnScope ["path"] ["path"] (zad zwr):=⟨rfl,rfl,rfl,by decide +kernel,rfl,by decide +kernel,by decide +kernel⟩
theorem z7c:FnScope ["mark","many"] ["mark","many"] (zad zws):=⟨rfl,rfl,rfl,by decide +kernel,rfl,by decide +kernel,by decide +kernel⟩
theorem zhl:FnScope ["hands","found","hand","path","first","last","most"] ["hands"] (zad zwt):=⟨rfl,rfl,rfl,by decide +kernel,rfl,by decide +kernel,by decide +kernel⟩
theorem zpf:FnScope ["hands","found","hand","path","goal","also"] ["hands"] (zad z78):=⟨rfl,rfl,rfl,by decide +kernel,rfl,by decide +kernel,by decide +kernel⟩
theorem z7d:FnScope ["path"] ["path"] (zad zwu):=⟨rfl,rfl,rfl,by decide +kernel,rfl,by decide +kernel,by decide +kernel⟩
theorem z7e:FnScope ["mark"] ["mark"] (zad zwv):=⟨rfl,rfl,rfl,by decide +kernel,rfl,by decide +kernel,by decide +kernel⟩
theorem z7f:FnScope ["see"] ["see"] (zad zww):=⟨rfl,rfl,rfl,by decide +kernel,rfl,by decide +kernel,by decide +kernel⟩
theorem zoc:FnScope ["rows","sees","ordered","has_pages","sent"] ["rows","sees"] (zad zwx):=⟨rfl,rfl,rfl,by decide +kernel,rfl,by decide +kernel,by decide +kernel⟩
theorem zw5:FnScope ["rows","has_pages","path","found"] ["rows"] (zad z79):=⟨rfl,rfl,rfl,by decide +kernel,rfl,by decide +kernel,by decide +kernel⟩
theorem ztw:FnScope ["ordered","sent","path","goal","also"] ["ordered"] (zad z8a):=⟨rfl,rfl,rfl,by decide +kernel,rfl,by decide +kernel,by decide +kernel⟩
theorem zmw:FnScope ["see","has_pages","sent","path","goal","also","come","ring","end"] ["see","has_pages","sent"] (zad z8b):=⟨rfl,rfl,rfl,by decide +kernel,rfl,by decide +kernel,by decide +kernel⟩
theorem ya2:FnScope ["path","goal","also","has_pages","sent"] ["path","goal","also","has_pages","sent"] (zad z8c):=⟨rfl,rfl,rfl,by decide +kernel,rfl,by decide +kernel,by decide +kernel⟩
theorem z2z:FnScope ["goal","sent","come","seen"] ["goal","sent"] (zad z8d):=⟨rfl,rfl,rfl,by decide +kernel,rfl,by decide +kernel,by decide +kernel⟩
theorem z7g:FnScope ["come"] ["come"] (zad zwy):=⟨rfl,rfl,rfl,by decide +kernel,rfl,by decide +kernel,by decide +kernel⟩
theorem zf0:FnScope ["book","most","first","told","page","filled","new"] ["book","most","first"] (zad zwz):=⟨rfl,rfl,rfl,by decide +kernel,rfl,by decide +kernel,by decide +kernel⟩
theorem zw6:FnScope ["numbers","marks","strong","told","page"] ["numbers","marks"] (zad z8e):=⟨rfl,rfl,rfl,by decide +kernel,rfl,by decide +kernel,by decide +kernel⟩
theorem zmx:FnScope ["numbers","marks","strong","path","first","last","most","page"] ["numbers","marks"] (zad z8f):=⟨rfl,rfl,rfl,by decide +kernel,rfl,by decide +kernel,by decide +kernel⟩
theorem z7h:FnScope ["stretch","page","is_strong"] ["stretch","page","is_strong"] (zad zw0):=⟨rfl,rfl,rfl,by decide +kernel,rfl,by decide +kernel,by decide +kernel⟩
theorem zod:FnScope ["book","most","first","marks","ordered","numbers","found"] ["book","most","first","marks"] (zad zw1):=⟨rfl,rfl,rfl,by decide +kernel,rfl,by decide +kernel,by decide +kernel⟩
theorem z7i:FnScope ["ordered","many","mark"] ["ordered","many"] (zad z8g):=⟨rfl,rfl,rfl,by decide +kernel,rfl,by decide +kernel,by decide +kernel⟩
theorem ztx:FnScope ["ordered","found","mark","path","many"] ["ordered"] (zad z8h):=⟨rfl,rfl,rfl,by decide +kernel,rfl,by decide +kernel,by decide +kernel⟩
theorem ya3:FnScope ["_law_found"] ["_law_found"] (zad z8i):=⟨rfl,rfl,rfl,by decide +kernel,rfl,by decide +kernel,by decide +kernel⟩
theorem ya4:FnScope ["_law_script","_law_k"] ["_law_script","_law_k"] (zad z8j):=⟨rfl,rfl,rfl,by decide +kernel,rfl,by decide +kernel,by decide +kernel⟩
theorem zf9:FnScope ["_law_cell","_law_k","_law_signs","_law_base","_law_j","_law_at","_law_head","_law_way"] ["_law_cell","_law_k"] (zad z8k):=⟨rfl,rfl,rfl,by decide +kernel,rfl,by decide +kernel,by decide +kernel⟩
theorem z7j:FnScope ["_law_number","_law_by","_law_many"] ["_law_number","_law_by"] (zad z8l):=⟨rfl,rfl,rfl,by decide +kernel,rfl,by decide +kernel,by decide +kernel⟩
theorem z20:FnScope ["_law_there","_law_k","_law_number","_law_by","_law_head","_law_base"] ["_law_there","_law_k","_law_number","_law_by"] (zad z8m):=⟨rfl,rfl,rfl,by decide +kernel,rfl,by decide +kernel,by decide +kernel⟩
theorem zw7:FnScope ["_law_cell","_law_by","_law_marks_here","_law_k","_law_number"] ["_law_cell","_law_by"] (zad z8n):=⟨rfl,rfl,rfl,by decide +kernel,rfl,by decide +kernel,by decide +kernel⟩
theorem zty:FnScope ["_law_rows","_law_ends","_law_by","_law_full","_law_row"] ["_law_rows","_law_ends","_law_by"] (zad zw2):=⟨rfl,rfl,rfl,by decide +kernel,rfl,by decide +kernel,by decide +kernel⟩
theorem zd2:FnScope ["_law_cells","_law_rows","_law_ends","_law_by","_law_there","_law_goals","_law_sees_here","_law_k","_law_number","_law_goal","_law_end","_law_steps","_law_path"] ["_law_cells","_law_rows","_law_ends","_law_by"] (zad zw3):=⟨rfl,rfl,rfl,by decide +kernel,rfl,by decide +kernel,by decide +kernel⟩
theorem zf1:FnScope ["_law_found","_law_sees_here","_law_ends","_law_k","_law_path","_law_goal","_law_also","_law_end","_law_steps","_law_row"] ["_law_found","_law_sees_here","_law_ends"] (zad zw4):=⟨rfl,rfl,rfl,by decide +kernel,rfl,by decide +kernel,by decide +kernel⟩
theorem zei:FnScope ["_law_script","_law_by","_law_rows","_law_ends","_law_sees_here","_law_due","_law_handed","_law_given","_law_kept","_law_found"] ["_law_script"] (zad zmv):=⟨rfl,rfl,rfl,by decide +kernel,rfl,by decide +kernel,by decide +kernel⟩
abbrev zbo:Str:="abcdefghijklmnopqrstuvwxyzABCDEFGHIJKLMNOPQRSTUVWXYZ0123456789"
structure Adr where
 f_q1b:Addr
 fd_q1b:FuncData
 f_q18:Addr
 fd_q18:FuncData
 f_q1e:Addr
 fd_q1e:FuncData
 f_q1d:Addr
 fd_q1d:FuncData
 f_q19:Addr
 fd_q19:FuncData
 f_q7:Addr
 fd_q7:FuncData
 f_q17:Addr
 fd_q17:FuncData
 f_q10:Addr
 fd_q10:FuncData
 f_q11:Addr
 fd_q11:FuncData
 f_q1f:Addr
 fd_q1f:FuncData
 f_q1:Addr
 fd_q1:FuncData
 f_q2:Addr
 fd_q2:FuncData
 f_qb:Addr
 fd_qb:FuncData
 f_q5:Addr
 fd_q5:FuncData
 f_q6:Addr
 fd_q6:FuncData
 f_q15:Addr
 fd_q15:FuncData
 f_from_least:Addr
 fd_from_least:FuncData
 f_q1c:Addr
 fd_q1c:FuncData
 f_qe:Addr
 fd_qe:FuncData
 f_q0:Addr
 fd_q0:FuncData
 f_q14:Addr
 fd_q14:FuncData
 f_q16:Addr
 fd_q16:FuncData
 f_q4:Addr
 fd_q4:FuncData
 f_q3:Addr
 fd_q3:FuncData
 f_qf:Addr
 fd_qf:FuncData
 f_q9:Addr
 fd_q9:FuncData
 f_qa:Addr
 fd_qa:FuncData
 f_q8:Addr
 fd_q8:FuncData
 f_qc:Addr
 fd_qc:FuncData
 f_qd:Addr
 fd_qd:FuncData
 f_q13:Addr
 fd_q13:FuncData
 f_q12:Addr
 fd_q12:FuncData
 f_q1a:Addr
 fd_q1a:FuncData
 f_q20:Addr
 fd_q20:FuncData
 tk_LETTERS_AND_FIGURES:Tok
structure Txt (K:PySem.W.Frag) (mg:Str->Option Value) (t:Adr):Prop where
 d_q1b:Df K mg "shown" zwp ["head"] t.f_q1b t.fd_q1b
 d_q18:Df K mg "key_of" zwq ["head"] t.f_q18 t.fd_q18
 d_q1e:Df K mg "rank" zwr ["path"] t.f_q1e t.fd_q1e
 d_q1d:Df K mg "fits" zws ["mark","many"] t.f_q1d t.fd_q1d
 d_q19:Df K mg "poured" zwt ["hands"] t.f_q19 t.fd_q19
 d_q7:Df K mg "poured_sees" z78 ["hands"] t.f_q7 t.fd_q7
 d_q17:Df K mg "copied" zwu ["path"] t.f_q17 t.fd_q17
 d_q10:Df K mg "mark_rank" zwv ["mark"] t.f_q10 t.fd_q10
 d_q11:Df K mg "see_rank" zww ["see"] t.f_q11 t.fd_q11
 d_q1f:Df K mg "ways" zwx ["rows","sees"] t.f_q1f t.fd_q1f
 d_q1:Df K mg "pages_by_path" z79 ["rows"] t.f_q1 t.fd_q1
 d_q2:Df K mg "goals_by_path" z8a ["ordered"] t.f_q2 t.fd_q2
 d_qb:Df K mg "way_of_see" z8b ["see","has_pages","sent"] t.f_qb t.fd_qb
 d_q5:Df K mg "refuse_start" z8c ["path","goal","also","has_pages","sent"] t.f_q5 t.fd_q5
 d_q6:Df K mg "way_of_goal" z8d ["goal","sent"] t.f_q6 t.fd_q6
 d_q15:Df K mg "ring_in" zwy ["come"] t.f_q15 t.fd_q15
 d_from_least:Df K mg "from_least" zd1 ["ring"] t.f_from_least t.fd_from_least
 d_q1c:Df K mg "pages" zwz ["book","most","first"] t.f_q1c t.fd_q1c
 d_qe:Df K mg "stretches" z8e ["numbers","marks"] t.f_qe t.fd_qe
 d_q0:Df K mg "strong_by_page" z8f ["numbers","marks"] t.f_q0 t.fd_q0
 d_q14:Df K mg "goes_on" zw0 ["stretch","page","is_strong"] t.f_q14 t.fd_q14
 d_q16:Df K mg "entries" zw1 ["book","most","first","marks"] t.f_q16 t.fd_q16
 d_q4:Df K mg "refuse_unfit" z8g ["ordered","many"] t.f_q4 t.fd_q4
 d_q3:Df K mg "marks_by_path" z8h ["ordered"] t.f_q3 t.fd_q3
 d_qf:Df K mg "_law_whole" z8i ["_law_found"] t.f_qf t.fd_qf
 d_q9:Df K mg "_law_cell_at" z8j ["_law_script","_law_k"] t.f_q9 t.fd_q9
 d_qa:Df K mg "_law_head_by" z8k ["_law_cell","_law_k"] t.f_qa t.fd_qa
 d_q8:Df K mg "_law_path_by" z8l ["_law_number","_law_by"] t.f_q8 t.fd_q8
 d_qc:Df K mg "_law_fresh" z8m ["_law_there","_law_k","_law_number","_law_by"] t.f_qc t.fd_qc
 d_qd:Df K mg "_law_marks" z8n ["_law_cell","_law_by"] t.f_qd t.fd_qd
 d_q13:Df K mg "_law_sent" zw2 ["_law_rows","_law_ends","_law_by"] t.f_q13 t.fd_q13
 d_q12:Df K mg "_law_sees" zw3 ["_law_cells","_law_rows","_law_ends","_law_by"] t.f_q12 t.fd_q12
 d_q1a:Df K mg "_law_so" zw4 ["_law_found","_law_sees_here","_law_ends"] t.f_q1a t.fd_q1a
 d_q20:Df K mg "law" zmv ["_law_script"] t.f_q20 t.fd_q20
 bool:mg "bool" = none
 int:mg "int" = none
 isinstance:mg "isinstance" = none
 len:mg "len" = none
 list:mg "list" = none
 min:mg "min" = none
 range:mg "range" = none
 reversed:mg "reversed" = none
 sorted:mg "sorted" = none
 str:mg "str" = none
 tuple:mg "tuple" = none
 c_LETTERS_AND_FIGURES:mg "LETTERS_AND_FIGURES" = some (.str zbo t.tk_LETTERS_AND_FIGURES)
section
variable {P:Program}{w:World}{K:PySem.W.Frag}{mg:Str->Option Value}{base:Heap}{t:Adr}
theorem zy0 (T:Txt K mg t):FnOk P w K mg base CX0 1 t.f_q1b t.fd_q1b ["head"] (spV K 1 zhw):=by
 exact zfc (k:=0) (fs:=f_q1b) rfl rfl rfl T.d_q1b.F zyz λ cdv A outer s H E B hr=>(zah (zcr (zaz (zi6 hr) zgb (v_b (zf2 (l:=[124]) (by decide +kernel))) (zab 0) (by with_unfolding_all rfl)) (zap (zbp (zaj 0))) zcz)
   (zah (@zbc _ _ _ _ _ 1 _ _ zyz.nd rfl (Or.inl rfl) (v_m PySem.F.plainAttrs_str PySem.F.slot_str_index PySem.F.type_str_index zus zu4 (zab 0) (za0 (v_b (zf2 (l:=[124]) (by decide +kernel))) zba)) rfl (.inl rfl))
   (zap (zbp (zbk zbt za2 (v_b (zbk zbt za2 (v_b (zph (zab 0) (zl7 (v_b (zbk zbt za2 (zab 1) (v_b zag)))) zu1)) (v_b (zf2 (l:=[44,32]) (by decide +kernel))))) (v_b (zph (zab 0) zu1 (zl7 (zab 1)))))))))
theorem z7k (T:Txt K mg t):FnOk P w K mg base CX0 2 t.f_q18 t.fd_q18 ["head"] (spV K 1 zk8):=by
 have G_q1b:FnOk P w K mg base CX0 1 t.f_q1b t.fd_q1b ["head"] (spV K 1 zhw):=zy0 T
 exact zfc (k:=1) (fs:=f_q18) rfl rfl rfl T.d_q18.F z7a λ cdv A outer s H E B hr=>(zap (zbp (ycw PySem.F.plainAttrs_str PySem.F.slot_str_lower PySem.F.type_str_lower zur zu3 (v_b (v_m PySem.F.plainAttrs_str PySem.F.slot_str_join PySem.F.type_str_join zz3 z0h (v_b (zf2 (l:=[]) (by decide +kernel))) (za0 (v_b (zpi (zkt rfl (vars:=["sign"]) (cap:=[]) (zfx [] rfl (by decide +kernel) (by decide +kernel) (by decide +kernel) .nil) (zxg .nil) (by decide) (by decide) (zl9 (v_b (za3 G_q1b (hr.mono (by decide)) (by rfl) T.d_q1b.m T.d_q1b.F.kp T.d_q1b.b (zao (zaj 0) zbl)))) (λ _ _ _ _=>(zcq (i:=0) (show List.Nodup (["sign"]:List Str) by decide +kernel) rfl (Or.inl rfl))) (λ _ _ _ _=>(zxw (zaz (ybq hr) z41 (zab 0) (v_b (z0k (x:=zbo) (l:=LF) (by decide +kernel) (by rfl) T.c_LETTERS_AND_FIGURES)) (by with_unfolding_all rfl)))) (λ _ _ _ _=>(zaj 0))))) zba))))))
theorem ztz (T:Txt K mg t):FnOk P w K mg base CX0 3 t.f_q1e t.fd_q1e ["path"] (spV K 1 zdp):=by
 have G_q18:FnOk P w K mg base CX0 2 t.f_q18 t.fd_q18 ["head"] (spV K 1 zk8):=z7k T
 have G_q1b:FnOk P w K mg base CX0 1 t.f_q1b t.fd_q1b ["head"] (spV K 1 zhw):=zy0 T
 exact zfc (k:=2) (fs:=f_q1e) rfl rfl rfl T.d_q1e.F z7b λ cdv A outer s H E B hr=>(zap (zbp (zpi (zkt rfl (vars:=["head"]) (cap:=[]) (zfx [] rfl (by decide +kernel) (by decide +kernel) (by decide +kernel) .nil) (zxg .nil) (by decide) (by decide) (zl9 (zab 0)) (λ _ _ _ _=>(zcq (i:=0) (show List.Nodup (["head"]:List Str) by decide +kernel) rfl (Or.inl rfl))) (λ _ _ _ _=>zib) (λ _ _ _ _=>(zcp (zao (za3 G_q18 (hr.mono (by decide)) (by rfl) T.d_q18.m T.d_q18.F.kp T.d_q18.b (zao (zaj 0) zbl)) (zao (za3 G_q1b (hr.mono (by decide)) (by rfl) T.d_q1b.m T.d_q1b.F.kp T.d_q1b.b (zao (zaj 0) zbl)) zbl))))))))
theorem z7l (T:Txt K mg t):FnOk P w K mg base CX0 1 t.f_q1d t.fd_q1d ["mark","many"] (spV K 2 zk9):=by
 exact zfc (k:=0) (fs:=f_q1d) rfl rfl rfl T.d_q1d.F z7c λ cdv A outer s H E B hr=>(zap (zbp (zvt ybp ybp ybo (v_b zag) (v_b (zcu (zab 0) (v_b zag) (λ _ _=>rfl))) (v_b (zcu (zab 0) (v_b zag) (λ _ _=>rfl))) (zab 1))))
theorem zy1 (T:Txt K mg t):FnOk P w K mg base CX0 1 t.f_q17 t.fd_q17 ["path"] (spV K 1 zfu):=by
 exact zfc (k:=0) (fs:=f_q17) rfl rfl rfl T.d_q17.F z7d λ cdv A outer s H E B hr=>(zap (zbp (zot zes znb (by rfl) T.tuple ziy (za0 (v_b (zot ziw zl8 (by rfl) T.list zek (za0 (zab 0) zba))) zba))))
theorem z7m (T:Txt K mg t):FnOk P w K mg base CX0 4 t.f_q10 t.fd_q10 ["mark"] (spV K 1 zfv):=by
 have G_q1e:FnOk P w K mg base CX0 3 t.f_q1e t.fd_q1e ["path"] (spV K 1 zdp):=ztz T
 exact zfc (k:=3) (fs:=f_q10) rfl rfl rfl T.d_q10.F z7e λ cdv A outer s H E B hr=>(zap (zbp (zcp (zao (za3 G_q1e (hr.mono (by decide)) (by rfl) T.d_q1e.m T.d_q1e.F.kp T.d_q1e.b (zao (zcu (zab 0) (v_b zag) (λ _ _=>rfl)) zbl)) (zao (zcu (zab 0) (v_b zag) (λ _ _=>rfl)) (zao (zcu (zab 0) (v_b zag) (λ _ _=>rfl)) (zao (zcu (zab 0) (v_b zag) (λ _ _=>rfl)) zbl)))))))
theorem z7n (T:Txt K mg t):FnOk P w K mg base CX0 6 t.f_q19 t.fd_q19 ["hands"] (spW K 1 zla):=by
 have G_q17:FnOk P w K mg base CX0 1 t.f_q17 t.fd_q17 ["path"] (spV K 1 zfu):=zy1 T
 have G_q10:FnOk P w K mg base CX0 4 t.f_q10 t.fd_q10 ["mark"] (spV K 1 zfv):=z7m T
 exact z90 (k:=5) (fs:=f_q19) rfl rfl rfl T.d_q19.F zhl λ cdv A outer s H E B hr=>(zx2 (j:=1) [2,0,0,1] zhl.nd rfl (Or.inl rfl) (zvn PassesOwn.never rfl (zow (zaj 0)) (zcq (i:=2) zhl.nd rfl (Or.inl rfl)) (by decide) (ze2 (by decide)) (zvo (zvn PassesOwn.never rfl (zow (zaj 2)) (zu6 rfl (zcb (zcq (i:=3) zhl.nd rfl (Or.inl rfl)) (zcb (zcq (i:=4) zhl.nd rfl (Or.inl rfl)) (zcb (zcq (i:=5) zhl.nd rfl (Or.inl rfl)) (zcb (zcq (i:=6) zhl.nd rfl (Or.inl rfl)) zi7))))) (by decide) (z09 (zhv (ze2 (by decide)) (zhv (ze2 (by decide)) (zhv (ze2 (by decide)) (zhv (ze2 (by decide)) z08))))) (zvo (z5r hr rfl (zcp (zao (za3 G_q17 (hr.mono (by decide)) (by rfl) T.d_q17.m T.d_q17.F.kp T.d_q17.b (zao (zaj 3) zbl)) (zao (zaj 4) (zao (zaj 5) (zao (zaj 6) zbl)))))))))) rfl G_q10 (hr.mono (by decide)).in2 (by rfl) T.sorted (by rfl) T.d_q10.m T.d_q10.b)
theorem z7o (T:Txt K mg t):FnOk P w K mg base CX0 4 t.f_q11 t.fd_q11 ["see"] (spV K 1 zfw):=by
 have G_q1e:FnOk P w K mg base CX0 3 t.f_q1e t.fd_q1e ["path"] (spV K 1 zdp):=ztz T
 exact zfc (k:=3) (fs:=f_q11) rfl rfl rfl T.d_q11.F z7f λ cdv A outer s H E B hr=>(zap (zbp (zcp (zao (za3 G_q1e (hr.mono (by decide)) (by rfl) T.d_q1e.m T.d_q1e.F.kp T.d_q1e.b (zao (zcu (zab 0) (v_b zag) (λ _ _=>rfl)) zbl)) (zao (zcu (zab 0) (v_b zag) (λ _ _=>rfl)) (zao (za3 G_q1e (hr.mono (by decide)) (by rfl) T.d_q1e.m T.d_q1e.F.kp T.d_q1e.b (zao (zcu (zab 0) (v_b zag) (λ _ _=>rfl)) zbl)) zbl))))))
theorem z7p (T:Txt K mg t):FnOk P w K mg base CX0 6 t.f_q7 t.fd_q7 ["hands"] (spW K 1 zsq):=by
 have G_q17:FnOk P w K mg base CX0 1 t.f_q17 t.fd_q17 ["path"] (spV K 1 zfu):=zy1 T
 have G_q11:FnOk P w K mg base CX0 4 t.f_q11 t.fd_q11 ["see"] (spV K 1 zfw):=z7o T
 exact z90 (k:=5) (fs:=f_q7) rfl rfl rfl T.d_q7.F zpf λ cdv A outer s H E B hr=>(zx2 (j:=1) [2,2,1] zpf.nd rfl (Or.inl rfl) (zvn PassesOwn.never rfl (zow (zaj 0)) (zcq (i:=2) zpf.nd rfl (Or.inl rfl)) (by decide) (ze2 (by decide)) (zvo (zvn PassesOwn.never rfl (zow (zaj 2)) (zu6 rfl (zcb (zcq (i:=3) zpf.nd rfl (Or.inl rfl)) (zcb (zcq (i:=4) zpf.nd rfl (Or.inl rfl)) (zcb (zcq (i:=5) zpf.nd rfl (Or.inl rfl)) zi7)))) (by decide) (z09 (zhv (ze2 (by decide)) (zhv (ze2 (by decide)) (zhv (ze2 (by decide)) z08)))) (zvo (z5r hr rfl (zcp (zao (za3 G_q17 (hr.mono (by decide)) (by rfl) T.d_q17.m T.d_q17.F.kp T.d_q17.b (zao (zaj 3) zbl)) (zao (za3 G_q17 (hr.mono (by decide)) (by rfl) T.d_q17.m T.d_q17.F.kp T.d_q17.b (zao (zaj 4) zbl)) (zao (zaj 5) zbl))))))))) rfl G_q11 (hr.mono (by decide)).in2 (by rfl) T.sorted (by rfl) T.d_q11.m T.d_q11.b)
theorem ya5 (T:Txt K mg t):FnOk P w K mg base CX0 1 t.f_q2 t.fd_q2 ["ordered"] (spV K 1 z1w):=by
 exact zfc (k:=0) (fs:=f_q2) rfl rfl rfl T.d_q2.F ztw λ cdv A outer s H E B hr=>(zx9 (j:=1) ztw.nd rfl (Or.inl rfl) (z1l PassesOwn.never rfl (zow (zaj 0)) (zu6 rfl (zcb (zcq (i:=2) ztw.nd rfl (Or.inl rfl)) (zcb (zcq (i:=3) ztw.nd rfl (Or.inl rfl)) (zcb (zcq (i:=4) ztw.nd rfl (Or.inl rfl)) zi7)))) (by decide) (z09 (zhv (ze2 (by decide)) (zhv (ze2 (by decide)) (zhv (ze2 (by decide)) z08)))) (yac (z1d zo5 (z1d zo5 (z1d zo5 yab))))
   (zvw (yc5 (zds (zck (zaj 4))) (zvw (ybx hr rfl (zab 2) (zaj 3) ⟨rfl,rfl,rfl,rfl⟩)) yaf))))
theorem ya6 (T:Txt K mg t):FnOk P w K mg base CX0 1 t.f_q1 t.fd_q1 ["rows"] (spV K 1 z1x):=by
 exact zfc (k:=0) (fs:=f_q1) rfl rfl rfl T.d_q1.F zw5 λ cdv A outer s H E B hr=>(zah (zrr (j:=1) zw5.nd rfl (Or.inl rfl))
   (zah (zjb PassesOwn.never rfl (zow (zaj 0)) (zu6 rfl (zcb (zcq (i:=2) zw5.nd rfl (Or.inl rfl)) (zcb (zcq (i:=3) zw5.nd rfl (Or.inl rfl)) zi7))) (zap (zrs (j:=1) hr rfl (zab 2) (zuz z21 zos (v_b (zdd zde zb0 (by rfl) T.len zbz (za0 (zab 3) zba))) (v_b zag) (za6 _)))))
   (zx1 1 (zap (zbp (zaj 1))))))
theorem ya7 (T:Txt K mg t):FnOk P w K mg base CX0 1 t.f_q5 t.fd_q5 ["path","goal","also","has_pages","sent"] (spV K 5 z1y):=by
 exact zfc (k:=0) (fs:=f_q5) rfl rfl rfl T.d_q5.F ya2 λ cdv A outer s H E B hr=>(zah (zcr (zaz (zor hr) zfk (zab 1) (zab 0) (za6 _)) (zap zo6) zcz)
   (zah (zcr (PW.pt (zeu (zds (zck (zaj 2))) (zdt (zck (zjg hr (zab 3) (zab 0) zoq))))) (zap zo6) zcz)
   (zap (zcr (PW.pt (zeu (zds (zck (zaj 2))) (zdt (zaz z21 zos (v_b (zdd zde zb0 (by rfl) T.len zbz (za0 (v_b (zoy hr (zab 4) (zab 0) (λ _ _=>rfl))) zba))) (v_b zag) (za6 _))))) (zap zo6) zcz))))
theorem z7q (T:Txt K mg t):FnOk P w K mg base CX0 1 t.f_q15 t.fd_q15 ["come"] (spV K 1 zmn):=by
 exact zfc (k:=0) (fs:=f_q15) rfl rfl rfl T.d_q15.F z7g λ cdv A outer s H E B hr=>(zap (zbp (zph (zab 0) (zl7 (v_b (v_m PySem.F.plainAttrs_list PySem.F.slot_list_index PySem.F.type_list_index (z58 LV hr (by decide)) z59 (zab 0) (za0 (v_b (zcu (zab 0) (v_b (zhq zag)) (λ _ _=>rfl))) zba)))) (zl7 (v_b (zhq zag))))))
theorem ya8 (T:Txt K mg t):FnOk P w K mg base CX0 1 t.f_q6 t.fd_q6 ["goal","sent"] (spV K 2 z1z):=by
 exact zfc (k:=0) (fs:=f_q6) rfl rfl rfl T.d_q6.F z2z λ cdv A outer s H E B hr=>(zah (zre (i:=2) z2z.nd rfl (Or.inl rfl) (zic (zao (zaj 0) zbl)))
   (zah (zrr (j:=3) z2z.nd rfl (Or.inl rfl))
   (zah (z0j (λ _=>1000) PassesOwn.never (PW.pt (zeu (zaz (ybq hr) z41 (v_b (zcu (zab 2) (v_b (zhq zag)) (λ _ _=>rfl))) (zab 1) (by with_unfolding_all rfl)) (zdt (zaz (zi6 hr) zgb (v_b (zcu (zab 2) (v_b (zhq zag)) (λ _ _=>rfl))) (zab 3) (by with_unfolding_all rfl))))) (zah (zrs (j:=3) hr rfl (v_b (zcu (zab 2) (v_b (zhq zag)) (λ _ _=>rfl))) zoq)
   (zap (zu7 (i:=2) rfl (zcu (v_b (zoy hr (zab 1) (v_b (zcu (zab 2) (v_b (zhq zag)) (λ _ _=>rfl))) (λ _ _=>rfl))) (v_b zag) (λ _ _=>rfl))))))
   (zrf 2 (zap (zbp (zaj 2)))))))
theorem ya9 (T:Txt K mg t):FnOk P w K mg base CX0 2 t.f_qb t.fd_qb ["see","has_pages","sent"] (spV K 3 z13):=by
 have G_q5:FnOk P w K mg base CX0 1 t.f_q5 t.fd_q5 ["path","goal","also","has_pages","sent"] (spV K 5 z1y):=ya7 T
 have G_q15:FnOk P w K mg base CX0 1 t.f_q15 t.fd_q15 ["come"] (spV K 1 zmn):=z7q T
 have G_q6:FnOk P w K mg base CX0 1 t.f_q6 t.fd_q6 ["goal","sent"] (spV K 2 z1z):=ya8 T
 exact zfc (k:=1) (fs:=f_qb) rfl rfl rfl T.d_qb.F zmw λ cdv A outer s H E B hr=>(zah (@zbc _ _ _ _ _ 3 _ _ zmw.nd rfl (Or.inl rfl) (zcu (zab 0) (v_b zag) (λ _ _=>rfl)) rfl (.inl rfl))
   (zah (@zbc _ _ _ _ _ 4 _ _ zmw.nd rfl (Or.inl rfl) (zcu (zab 0) (v_b zag) (λ _ _=>rfl)) rfl (.inl rfl))
   (zah (@zbc _ _ _ _ _ 5 _ _ zmw.nd rfl (Or.inl rfl) (zcu (zab 0) (v_b zag) (λ _ _=>rfl)) rfl (.inl rfl))
   (zah (zxx (za3 G_q5 (hr.mono (by decide)) (by rfl) T.d_q5.m T.d_q5.F.kp T.d_q5.b (zao (zaj 3) (zao (zaj 4) (zao (zaj 5) (zao (zaj 1) (zao (zaj 2) zbl)))))))
   (zah (@zbc _ _ _ _ _ 6 _ _ zmw.nd rfl (Or.inl rfl) (za3 G_q6 (hr.mono (by decide)) (by rfl) T.d_q6.m T.d_q6.F.kp T.d_q6.b (zao (zaj 4) (zao (zaj 2) zbl))) rfl (.inl rfl))
   (zah (@zbc _ _ _ _ _ 7 _ _ zmw.nd rfl (Or.inl rfl) (za3 G_q15 (hr.mono (by decide)) (by rfl) T.d_q15.m T.d_q15.F.kp T.d_q15.b (zao (zaj 6) zbl)) rfl (.inl rfl))
   (zah (zcr (zaz z21 zos (v_b (zdd zde zb0 (by rfl) T.len zbz (za0 (zab 7) zba))) (v_b zag) (za6 _)) (zap zo6) zcz)
   (zah (@zbc _ _ _ _ _ 8 _ _ zmw.nd rfl (Or.inl rfl) (zcu (zab 6) (v_b (zhq zag)) (λ _ _=>rfl)) rfl (.inl rfl))
   (zah (zcr (PW.pt (zi2 (zaz (zi6 hr) zgb (zab 8) (zab 1) (by with_unfolding_all rfl)) (zi2 (PW.pt (zeu (zck (zaj 5)) (zdt (zaz (zi6 hr) zgb (zab 3) (zab 1) (by with_unfolding_all rfl))))) (zgs (zaz (zor hr) zfk (zab 8) (zab 3) (za6 _)))))) (zap zo6) zcz)
   (zap (zbp (zcp (zao (zaj 3) (zao (zaj 4) (zao (zaj 5) (zao (zaj 8) (zao (zdd zde zb0 (by rfl) T.len zbz (za0 (zab 6) zba)) zbl)))))))))))))))))
theorem z7r (T:Txt K mg t):FnOk P w K mg base CX0 7 t.f_q1f t.fd_q1f ["rows","sees"] (spW K 2 zhx):=by
 have G_q2:FnOk P w K mg base CX0 1 t.f_q2 t.fd_q2 ["ordered"] (spV K 1 z1w):=ya5 T
 have G_q1:FnOk P w K mg base CX0 1 t.f_q1 t.fd_q1 ["rows"] (spV K 1 z1x):=ya6 T
 have G_q7:FnOk P w K mg base CX0 6 t.f_q7 t.fd_q7 ["hands"] (spW K 1 zsq):=z7p T
 have G_qb:FnOk P w K mg base CX0 2 t.f_qb t.fd_qb ["see","has_pages","sent"] (spV K 3 z13):=ya9 T
 exact z90 (k:=6) (fs:=f_q1f) rfl rfl rfl T.d_q1f.F zoc λ cdv A outer s H E B hr=>(zah (@zbc _ _ _ _ _ 2 _ _ zoc.nd rfl (Or.inl rfl) (zpi (zfp G_q7 (hr.mono (by decide)) (by rfl) T.d_q7.m T.d_q7.F.kp T.d_q7.b (zao (zkq (zao (zaj 1) zbl)) zbl))) rfl (.inl rfl))
   (zah (@zbc _ _ _ _ _ 3 _ _ zoc.nd rfl (Or.inr rfl) (za3 G_q1 (hr.mono (by decide)) (by rfl) T.d_q1.m T.d_q1.F.kp T.d_q1.b (zao (zaj 0) zbl)) rfl (.inl rfl))
   (zah (@zbc _ _ _ _ _ 4 _ _ zoc.nd rfl (Or.inr rfl) (za3 G_q2 (hr.mono (by decide)) (by rfl) T.d_q2.m T.d_q2.F.kp T.d_q2.b (zao (zaj 2) zbl)) rfl (.inl rfl))
   (zap (z49 (zkt rfl (vars:=["see"]) (cap:=[3,4]) (zfx ["has_pages","sent"] rfl (by decide +kernel) (by decide +kernel) (by decide +kernel) (.cons (Or.inl rfl) (.cons (Or.inl rfl) .nil))) (zxg (.cons (⟨of_decide_eq_true (by rfl),of_decide_eq_true (by rfl)⟩) (.cons (⟨of_decide_eq_true (by rfl),of_decide_eq_true (by rfl)⟩) .nil))) (by decide) (by decide) (zl9 (zab 2)) (λ _ _ _ _=>(zcq (i:=0) (show List.Nodup (["see","has_pages","sent"]:List Str) by decide +kernel) rfl (Or.inl rfl))) (λ _ _ _ _=>zib) (λ _ _ _ _=>(za3 G_qb (hr.mono (by decide)) (by rfl) T.d_qb.m T.d_qb.F.kp T.d_qb.b (zao (zaj 0) (zao (zaj 1) (zao (zaj 2) zbl)))))))))))
theorem z7s (T:Txt K mg t):FnOk P w K mg base CX0 1 t.f_q1c t.fd_q1c ["book","most","first"] (spV K 3 zmo):=by
 exact zfc (k:=0) (fs:=f_q1c) rfl rfl rfl T.d_q1c.F zf0 λ cdv A outer s H E B hr=>(zah (zre (i:=3) zf0.nd rfl (Or.inl rfl) (zic zbl))
   (zah (@zbc _ _ _ _ _ 4 _ _ zf0.nd rfl (Or.inl rfl) (zaj 2) rfl (.inl rfl))
   (zah (@zbc _ _ _ _ _ 5 _ _ zf0.nd rfl (Or.inl rfl) zag rfl (.inl rfl))
   (zah (zjb PassesOwn.never rfl (zow (zaj 0)) (zcq (i:=6) zf0.nd rfl (Or.inl rfl)) (zah (zcr (PW.pt (zeu (zaz z21 zos (zab 5) (v_b zag) (za6 _)) (zdt (PW.pt (zi2 (zck (zaj 6)) (zgs (zaz ycm z9w (zab 5) (zab 1) (za6 _)))))))) (zah (@zbc _ _ _ _ _ 4 _ _ zf0.nd rfl (Or.inl rfl) (zbk zbt za2 (zab 4) (v_b zag)) rfl (.inl rfl))
   (zap (@zbc _ _ _ _ _ 5 _ _ zf0.nd rfl (Or.inl rfl) zag rfl (.inl rfl)))) zcz)
   (zah (@zbc _ _ _ _ _ 5 _ _ zf0.nd rfl (Or.inl rfl) (zbk zbt za2 (zab 5) (v_b zag)) rfl (.inl rfl))
   (zap (zu7 (i:=3) rfl (zaj 4))))))
   (zrf 3 (zap (zbp (zaj 3))))))))
theorem z7t (T:Txt K mg t):FnOk P w K mg base CX0 1 t.f_q14 t.fd_q14 ["stretch","page","is_strong"] (spV K 3 zjn):=by
 exact zfc (k:=0) (fs:=f_q14) rfl rfl rfl T.d_q14.F z7h λ cdv A outer s H E B hr=>(zap (zbp (zxk (zuz (zor hr) zfk (v_b (zbk zbt za2 (v_b (zcu (zab 0) (v_b zag) (λ _ _=>rfl))) (v_b zag))) (zab 1) (za6 _)) (zqx (zuz (zor hr) zfk (v_b (zcu (zab 0) (v_b zag) (λ _ _=>rfl))) (zab 2) (za6 _))))))
theorem yba (T:Txt K mg t):FnOk P w K mg base CX0 1 t.f_q0 t.fd_q0 ["numbers","marks"] (spV K 2 z14):=by
 exact zfc (k:=0) (fs:=f_q0) rfl rfl rfl T.d_q0.F zmx λ cdv A outer s H E B hr=>(zah (z5h (j:=2) zmx.nd rfl (Or.inl rfl))
   (zah (zjb PassesOwn.never rfl (zow (zaj 1)) (zu6 rfl (zcb (zcq (i:=3) zmx.nd rfl (Or.inl rfl)) (zcb (zcq (i:=4) zmx.nd rfl (Or.inl rfl)) (zcb (zcq (i:=5) zmx.nd rfl (Or.inl rfl)) (zcb (zcq (i:=6) zmx.nd rfl (Or.inl rfl)) zi7))))) (zap (zjb PassesOwn.never rfl (zow (zph (zab 0) (zl7 (zab 4)) (zl7 (v_b (zbk zbt za2 (zab 5) (v_b zag)))))) (zcq (i:=7) zmx.nd rfl (Or.inl rfl)) (zap (zrs (j:=2) hr rfl (zab 7) (z9v (zaj 6) (zqx (zjg hr (zab 2) (zab 7) zoq))))))))
   (zx1 2 (zap (zbp (zaj 2))))))
theorem ybb (T:Txt K mg t):FnOk P w K mg base CX0 2 t.f_qe t.fd_qe ["numbers","marks"] (spV K 2 z15):=by
 have G_q14:FnOk P w K mg base CX0 1 t.f_q14 t.fd_q14 ["stretch","page","is_strong"] (spV K 3 zjn):=z7t T
 have G_q0:FnOk P w K mg base CX0 1 t.f_q0 t.fd_q0 ["numbers","marks"] (spV K 2 z14):=yba T
 exact zfc (k:=1) (fs:=f_qe) rfl rfl rfl T.d_qe.F zw6 λ cdv A outer s H E B hr=>(zah (@zbc _ _ _ _ _ 2 _ _ zw6.nd rfl (Or.inl rfl) (za3 G_q0 (hr.mono (by decide)) (by rfl) T.d_q0.m T.d_q0.F.kp T.d_q0.b (zao (zaj 0) (zao (zaj 1) zbl))) rfl (.inl rfl))
   (zah (zre (i:=3) zw6.nd rfl (Or.inl rfl) (zic zbl))
   (zah (zjb PassesOwn.never rfl (zow (zpi (zve rfl (by rfl) T.sorted (za0 (zab 2) zba)))) (zcq (i:=4) zw6.nd rfl (Or.inl rfl)) (zap (zcr (PW.pt (zeu (zaz z21 zos (v_b (zdd zde zb0 (by rfl) T.len zbz (za0 (zab 3) zba))) (v_b zag) (za6 _)) (zdt (zck (za3 G_q14 (hr.mono (by decide)) (by rfl) T.d_q14.m T.d_q14.F.kp T.d_q14.b (zao (zcu (zab 3) (v_b (zhq zag)) (λ _ _=>rfl)) (zao (zaj 4) (zao (zoy hr (zab 2) (zab 4) (λ _ _=>rfl)) zbl)))))))) (zap (z5l (j:=3) rfl (v_b (zhq zag)) (zcp (zao (zcu (v_b (zcu (zab 3) (v_b (zhq zag)) (λ _ _=>rfl))) (v_b zag) (λ _ _=>rfl)) (zao (zaj 4) (zao (zoy hr (zab 2) (zab 4) (λ _ _=>rfl)) zbl)))))) (zap (zu7 (i:=3) rfl (zcp (zao (zaj 4) (zao (zaj 4) (zao (zoy hr (zab 2) (zab 4) (λ _ _=>rfl)) zbl)))))))))
   (zrf 3 (zap (zbp (zaj 3)))))))
theorem ybc (T:Txt K mg t):FnOk P w K mg base CX0 1 t.f_q3 t.fd_q3 ["ordered"] (spV K 1 z16):=by
 exact zfc (k:=0) (fs:=f_q3) rfl rfl rfl T.d_q3.F ztx λ cdv A outer s H E B hr=>(zx9 (j:=1) ztx.nd rfl (Or.inl rfl) (z1l PassesOwn.never rfl (zow (zaj 0)) (zcq (i:=2) ztx.nd rfl (Or.inl rfl)) (by decide) (ze2 (by decide)) zo5
   (zx7 (yag (i:=3) (by decide) ztx.nd rfl (Or.inl rfl) (zcu (zab 2) (v_b zag) (λ _ _=>rfl)))
   (zx7 (z1l PassesOwn.never rfl (zu5 (by rfl) T.range (za0 (v_b zag) (za0 (v_b (zdd zde zb0 (by rfl) T.len zbz (za0 (zab 3) zba))) zba))) (zcq (i:=4) ztx.nd rfl (Or.inl rfl)) (by decide) (ze2 (by decide)) zo5
   (zvw (yc4 hr rfl (v_b (zph (zab 3) zu1 (zl7 (zab 4)))) ⟨rfl,rfl,rfl,rfl⟩)))
   (zvw (ybx hr rfl (zab 3) (zaj 2) ⟨rfl,rfl,rfl,rfl⟩))))))
theorem ybd (T:Txt K mg t):FnOk P w K mg base CX0 2 t.f_q4 t.fd_q4 ["ordered","many"] (spV K 2 z17):=by
 have G_q1d:FnOk P w K mg base CX0 1 t.f_q1d t.fd_q1d ["mark","many"] (spV K 2 zk9):=z7l T
 exact zfc (k:=1) (fs:=f_q4) rfl rfl rfl T.d_q4.F z7i λ cdv A outer s H E B hr=>(zap (zjb PassesOwn.never rfl (zow (zaj 0)) (zcq (i:=2) z7i.nd rfl (Or.inl rfl)) (zap (zcr (zds (zck (za3 G_q1d (hr.mono (by decide)) (by rfl) T.d_q1d.m T.d_q1d.F.kp T.d_q1d.b (zao (zaj 2) (zao (zaj 1) zbl))))) (zap zo6) zcz))))
theorem z7u (T:Txt K mg t):FnOk P w K mg base CX0 8 t.f_q16 t.fd_q16 ["book","most","first","marks"] (spV K 4 zmp):=by
 have G_q3:FnOk P w K mg base CX0 1 t.f_q3 t.fd_q3 ["ordered"] (spV K 1 z16):=ybc T
 have G_q1c:FnOk P w K mg base CX0 1 t.f_q1c t.fd_q1c ["book","most","first"] (spV K 3 zmo):=z7s T
 have G_q19:FnOk P w K mg base CX0 6 t.f_q19 t.fd_q19 ["hands"] (spW K 1 zla):=z7n T
 have G_q1e:FnOk P w K mg base CX0 3 t.f_q1e t.fd_q1e ["path"] (spV K 1 zdp):=ztz T
 have G_q4:FnOk P w K mg base CX0 2 t.f_q4 t.fd_q4 ["ordered","many"] (spV K 2 z17):=ybd T
 have G_qe:FnOk P w K mg base CX0 2 t.f_qe t.fd_qe ["numbers","marks"] (spV K 2 z15):=ybb T
 exact zfc (k:=7) (fs:=f_q16) rfl rfl rfl T.d_q16.F zod λ cdv A outer s H E B hr=>(zah (@zbc _ _ _ _ _ 4 _ _ zod.nd rfl (Or.inl rfl) (zpi (zfp G_q19 (hr.mono (by decide)) (by rfl) T.d_q19.m T.d_q19.F.kp T.d_q19.b (zao (zkq (zao (zaj 3) zbl)) zbl))) rfl (.inl rfl))
   (zah (zxx (za3 G_q4 (hr.mono (by decide)) (by rfl) T.d_q4.m T.d_q4.F.kp T.d_q4.b (zao (zaj 4) (zao (zdd zde zb0 (by rfl) T.len zbz (za0 (zab 0) zba)) zbl))))
   (zah (@zbc _ _ _ _ _ 5 _ _ zod.nd rfl (Or.inr rfl) (za3 G_q1c (hr.mono (by decide)) (by rfl) T.d_q1c.m T.d_q1c.F.kp T.d_q1c.b (zao (zaj 0) (zao (zaj 1) (zao (zaj 2) zbl)))) rfl (.inl rfl))
   (zah (@zbc _ _ _ _ _ 6 _ _ zod.nd rfl (Or.inr rfl) (za3 G_q3 (hr.mono (by decide)) (by rfl) T.d_q3.m T.d_q3.F.kp T.d_q3.b (zao (zaj 4) zbl)) rfl (.inl rfl))
   (zap (zbp (zpi (zkt rfl (vars:=["path"]) (cap:=[5,6]) (zfx ["numbers","found"] rfl (by decide +kernel) (by decide +kernel) (by decide +kernel) (.cons (Or.inl rfl) (.cons (Or.inl rfl) .nil))) (zxg (.cons (⟨of_decide_eq_true (by rfl),of_decide_eq_true (by rfl)⟩) (.cons (⟨of_decide_eq_true (by rfl),of_decide_eq_true (by rfl)⟩) .nil))) (by decide) (by decide) (zl9 (v_b (zpi (z1g rfl G_q1e (hr.mono (by decide)).in2 (by rfl) T.sorted (by rfl) T.d_q1e.m T.d_q1e.b (zab 6))))) (λ _ _ _ _=>(zcq (i:=0) (show List.Nodup (["path","numbers","found"]:List Str) by decide +kernel) rfl (Or.inl rfl))) (λ _ _ _ _=>zib) (λ _ _ _ _=>(zcp (zao (zaj 0) (zao (za3 G_qe (hr.mono (by decide)) (by rfl) T.d_qe.m T.d_qe.F.kp T.d_qe.b (zao (zaj 1) (zao (zoy hr (zab 2) (zab 0) (λ _ _=>rfl)) zbl))) zbl))))))))))))
theorem ybe (T:Txt K mg t):FnOk P w K mg base CX0 1 t.f_qf t.fd_qf ["_law_found"] (spV K 1 zyg):=by
 exact zfc (k:=0) (fs:=f_qf) rfl rfl rfl T.d_qf.F ya3 λ cdv A outer s H E B hr=>(zap (zbp (zxk (zov z0g (by rfl) T.isinstance (zff (v:=.ty "int") (by rfl) T.int z4h rfl) (zab 0)) (zqx (z4x (zov znc (by rfl) T.isinstance (zff (v:=.ty "bool") (by rfl) T.bool zqn rfl) (zab 0)))))))
theorem ybf (T:Txt K mg t):FnOk P w K mg base CX0 1 t.f_q9 t.fd_q9 ["_law_script","_law_k"] (spV K 2 zt7):=by
 exact zfc (k:=0) (fs:=f_q9) rfl rfl rfl T.d_q9.F ya4 λ cdv A outer s H E B hr=>(zah (zcr (zaz (ybs hr) z43 (zab 1) (v_b (zdd zde zb0 (by rfl) T.len zbz (za0 (zab 0) zba))) (za6 _)) (zap (zbp (zcu (zab 0) (zab 1) (λ _ _=>rfl)))) zcz)
   (zap (zbp zag)))
theorem z7v (T:Txt K mg t):FnOk P w K mg base CX0 1 t.f_qa t.fd_qa ["_law_cell","_law_k"] (spV K 2 zpk):=by
 exact zfc (k:=0) (fs:=f_qa) rfl rfl rfl T.d_qa.F zf9 λ cdv A outer s H E B hr=>(zah (@zbc _ _ _ _ _ 2 _ _ zf9.nd rfl (Or.inl rfl) (zf2 (l:=SG) (by decide +kernel)) rfl (.inl rfl))
   (zah (@zbc _ _ _ _ _ 3 _ _ zf9.nd rfl (Or.inl rfl) (zf2 (l:=[]) (by decide +kernel)) rfl (.inl rfl))
   (zah (zjb PassesOwn.never rfl (zex (by rfl) T.range (za0 (v_b (zbk zbt za2 (v_b zag) (v_b (zbk zco zbq (zab 0) (v_b zag))))) zba)) (zcq (i:=4) zf9.nd rfl (Or.inl rfl)) (zap (@zbc _ _ _ _ _ 3 _ _ zf9.nd rfl (Or.inl rfl) (zbk zbt za2 (zab 3) (v_b (zcu (zab 2) (v_b (zbk zco zbq (v_b (zbk zbt za2 (v_b (zbk zdi zdk (zab 0) (v_b (zbk zbt za2 (zab 4) (v_b zag))))) (v_b (zbk zgw zfl (v_b (zbk zgw zfl (v_b zag) (zab 4))) (zab 4))))) (v_b zag))) (λ _ _=>rfl)))) rfl (.inl rfl))))
   (zah (@zbc _ _ _ _ _ 5 _ _ zf9.nd rfl (Or.inl rfl) (zbk zco zbq (v_b (zbk zdi zdk (zab 0) (v_b zag))) (v_b (zbk zbt za2 (v_b (zdd zde zb0 (by rfl) T.len zbz (za0 (zab 3) zba))) (v_b zag)))) rfl (.inl rfl))
   (zah (@zbc _ _ _ _ _ 6 _ _ zf9.nd rfl (Or.inl rfl) (zbk zbt za2 (v_b (zbk zbt za2 (v_b (zph (zab 3) zu1 (zl7 (zab 5)))) (v_b (zot zj5 z0s (by rfl) T.str z4i (za0 (v_b (zbk zdi zdk (zab 1) (v_b zag))) zba))))) (v_b (zph (zab 3) (zl7 (zab 5)) zu1))) rfl (.inl rfl))
   (zah (@zbc _ _ _ _ _ 7 _ _ zf9.nd rfl (Or.inl rfl) (zbk zco zbq (v_b (zbk zbt za2 (v_b (zbk zdi zdk (zab 0) (v_b zag))) (v_b (zbk zdi zdk (zab 1) (v_b zag))))) (v_b zag)) rfl (.inl rfl))
   (zah (zcr (zaz (zor hr) zfk (zab 7) (v_b zag) (za6 _)) (zap (@zbc _ _ _ _ _ 6 _ _ zf9.nd rfl (Or.inl rfl) (zbk zbt za2 (v_b (zbk zbt za2 (zab 6) (v_b (zf2 (l:=[124]) (by decide +kernel))))) (zab 3)) rfl (.inl rfl))) zcz)
   (zah (zcr (zaz (zor hr) zfk (zab 7) (v_b zag) (za6 _)) (zap (@zbc _ _ _ _ _ 6 _ _ zf9.nd rfl (Or.inl rfl) (zbk zbt za2 (v_b (zbk zbt za2 (v_b (zbk zbt za2 (v_b (zbk zbt za2 (zab 6) (v_b (zf2 (l:=[124]) (by decide +kernel))))) (v_b (zph (zab 3) zu1 (zl7 (v_b zag)))))) (v_b (zf2 (l:=[32]) (by decide +kernel))))) (v_b (zph (zab 3) zu1 (zl7 (v_b zag))))) rfl (.inl rfl))) zcz)
   (zah (zcr (zaz (zor hr) zfk (zab 7) (v_b zag) (za6 _)) (zap (@zbc _ _ _ _ _ 6 _ _ zf9.nd rfl (Or.inl rfl) (zbk zbt za2 (v_b (zbk zbt za2 (zab 3) (v_b (zf2 (l:=[32]) (by decide +kernel))))) (zab 6)) rfl (.inl rfl))) zcz)
   (zah (zcr (zaz (zor hr) zfk (zab 7) (v_b zag) (za6 _)) (zap (@zbc _ _ _ _ _ 6 _ _ zf9.nd rfl (Or.inl rfl) (zbk zbt za2 (v_b (zf2 (l:=[45]) (by decide +kernel))) (zab 6)) rfl (.inl rfl))) zcz)
   (zah (zcr (zaz (zor hr) zfk (v_b (zbk zco zbq (zab 1) (v_b zag))) (v_b zag) (za6 _)) (zap (zbp (zbk zbt za2 (zab 6) (v_b (zf2 (l:=[45]) (by decide +kernel)))))) zcz)
   (zap (zbp (zaj 6))))))))))))))
theorem ybg (T:Txt K mg t):FnOk P w K mg base CX0 2 t.f_q8 t.fd_q8 ["_law_number","_law_by"] (spV K 2 zyh):=by
 have G_qa:FnOk P w K mg base CX0 1 t.f_qa t.fd_qa ["_law_cell","_law_k"] (spV K 2 zpk):=z7v T
 exact zfc (k:=1) (fs:=f_q8) rfl rfl rfl T.d_q8.F z7j λ cdv A outer s H E B hr=>(zah (@zbc _ _ _ _ _ 2 _ _ z7j.nd rfl (Or.inl rfl) (zcu (v_b (zkq (zao zag (zao zag (zao zag (zao zag (zao zag (zao zag zbl)))))))) (v_b (zbk zco zbq (zab 0) (v_b zag))) (λ _ _=>rfl)) rfl (.inl rfl))
   (zap (zbp (zot zes znb (by rfl) T.tuple ziy (za0 (v_b (zpi (zkt rfl (vars:=["_law_j"]) (cap:=[0,1]) (zfx ["_law_number","_law_by"] rfl (by decide +kernel) (by decide +kernel) (by decide +kernel) (.cons (Or.inl rfl) (.cons (Or.inl rfl) .nil))) (zxg (.cons (⟨of_decide_eq_true (by rfl),of_decide_eq_true (by rfl)⟩) (.cons (⟨of_decide_eq_true (by rfl),of_decide_eq_true (by rfl)⟩) .nil))) (by decide) (by decide) (ycy (zex (by rfl) T.range (za0 (zab 2) zba))) (λ _ _ _ _=>(zcq (i:=0) (show List.Nodup (["_law_j","_law_number","_law_by"]:List Str) by decide +kernel) rfl (Or.inl rfl))) (λ _ _ _ _=>zib) (λ _ _ _ _=>(za3 G_qa (hr.mono (by decide)) (by rfl) T.d_qa.m T.d_qa.F.kp T.d_qa.b (zao (zaj 2) (zao (zbk zco zbq (v_b (zbk zdi zdk (zab 1) (v_b (zbk zbt za2 (v_b zag) (v_b (zbk zgw zfl (v_b zag) (zab 0))))))) (v_b zag)) zbl))))))) zba)))))
theorem ybh (T:Txt K mg t):FnOk P w K mg base CX0 2 t.f_qc t.fd_qc ["_law_there","_law_k","_law_number","_law_by"] (spV K 4 zvz):=by
 have G_qa:FnOk P w K mg base CX0 1 t.f_qa t.fd_qa ["_law_cell","_law_k"] (spV K 2 zpk):=z7v T
 exact zfc (k:=1) (fs:=f_qc) rfl rfl rfl T.d_qc.F z20 λ cdv A outer s H E B hr=>(zah (@zbc _ _ _ _ _ 4 _ _ z20.nd rfl (Or.inl rfl) (za3 G_qa (hr.mono (by decide)) (by rfl) T.d_qa.m T.d_qa.F.kp T.d_qa.b (zao (zaj 3) (zao (zbk zbt za2 (v_b zag) (zab 1)) zbl))) rfl (.inl rfl))
   (zah (@zbc _ _ _ _ _ 5 _ _ z20.nd rfl (Or.inl rfl) (zcu (zab 0) (v_b (zbk zco zbq (v_b (zbk zdi zdk (zab 2) (v_b zag))) (v_b (zdd zde zb0 (by rfl) T.len zbz (za0 (zab 0) zba))))) (λ _ _=>rfl)) rfl (.inl rfl))
   (zah (zcr (zaz (zor hr) zfk (v_b (zbk zco zbq (zab 2) (v_b zag))) (v_b zag) (za6 _)) (zap (zbp (zcp (zao (zaj 4) zbl)))) zcz)
   (zah (zcr (zaz (ybs hr) z43 (v_b (zdd zde zb0 (by rfl) T.len zbz (za0 (zab 5) zba))) (v_b zag) (za6 _)) (zap (zbp (zbk znx zsg (zab 5) (v_b (zcp (zao (zaj 4) zbl)))))) zcz)
   (zap (zbp (zbk znx zsg (v_b (zcp (zao (zaj 4) zbl))) (v_b (zph (zab 5) zu1 (zl7 (v_b zag)))))))))))
theorem ybi (T:Txt K mg t):FnOk P w K mg base CX0 3 t.f_qd t.fd_qd ["_law_cell","_law_by"] (spV K 2 z18):=by
 have G_q8:FnOk P w K mg base CX0 2 t.f_q8 t.fd_q8 ["_law_number","_law_by"] (spV K 2 zyh):=ybg T
 exact zfc (k:=2) (fs:=f_qd) rfl rfl rfl T.d_qd.F zw7 λ cdv A outer s H E B hr=>(zah (zre (i:=2) zw7.nd rfl (Or.inl rfl) (zic zbl))
   (zah (zjb PassesOwn.never rfl (zex (by rfl) T.range (za0 (v_b (zbk zbt za2 (v_b zag) (v_b (zbk zco zbq (zab 0) (v_b zag))))) zba)) (zcq (i:=3) zw7.nd rfl (Or.inl rfl)) (zah (@zbc _ _ _ _ _ 4 _ _ zw7.nd rfl (Or.inl rfl) (zbk zco zbq (v_b (zbk zgw zfl (v_b (zbk zbt za2 (zab 0) (v_b (zbk zgw zfl (zab 3) (zab 3))))) (v_b zag))) (v_b zag)) rfl (.inl rfl))
   (zap (zu7 (i:=2) rfl (zcp (zao (za3 G_q8 (hr.mono (by decide)) (by rfl) T.d_q8.m T.d_q8.F.kp T.d_q8.b (zao (zaj 4) (zao (zaj 1) zbl))) (zao (zbk zco zbq (zab 3) (v_b zag)) (zao (zbk zco zbq (zab 3) (v_b zag)) (zao (zuz (zor hr) zfk (v_b (zbk zco zbq (zab 4) (v_b zag))) (v_b zag) (za6 _)) zbl)))))))))
   (zrf 2 (zap (zbp (zaj 2))))))
theorem z7w (T:Txt K mg t):FnOk P w K mg base CX0 1 t.f_q13 t.fd_q13 ["_law_rows","_law_ends","_law_by"] (spD K 3 1 zmq):=by
 exact okD (k:=0) (fs:=f_q13) rfl rfl rfl (by decide) T.d_q13.F zty λ cdv A outer s H E B hr=>(zcv (zya (i:=3) (by decide) zty.nd rfl rfl rfl (vars:=["_law_row"]) (cap:=[]) (zfx [] rfl (by decide +kernel) (by decide +kernel) (by decide +kernel) .nil) (zxg .nil) (by decide) (by decide) (zl9 (zab 0)) (λ _ _ _ _=>(zcq (i:=0) (show List.Nodup (["_law_row"]:List Str) by decide +kernel) rfl (Or.inl rfl))) (λ _ _ _ _=>(zxw (zaz (z0d hr) zl4 (v_b (zcu (zab 0) (v_b zag) (λ _ _=>rfl))) (v_b (zkq zbl)) (za6 _)))) (λ _ _ _ _=>(zcu (zab 0) (v_b zag) (λ _ _=>rfl))))
   (zcv (z51 (by decide) PassesOwn.never rfl (zow (zaj 0)) (zcq (i:=4) zty.nd rfl (Or.inl rfl)) (zk6 (yaj (PW.pt (zeu (zaz (zor hr) zfk (v_b (zcu (zab 4) (v_b zag) (λ _ _=>rfl))) (v_b (zkq zbl)) (za6 _)) (zeu (zaz (zor hr) zfk (v_b (zbk zco zbq (zab 2) (v_b zag))) (v_b zag) (za6 _)) (zdt (yak (j:=1) hr rfl))))) (zcv (zyb (j:=1) hr rfl (v_b (zcu (zab 4) (v_b zag) (λ _ _=>rfl))) (zcp (zao (zcu (zab 3) (v_b (zbk zco zbq (v_b (zbk zdi zdk (zab 2) (v_b zag))) (v_b (zdd zde zb0 (by rfl) T.len zbz (za0 (zab 3) zba))))) (λ _ _=>rfl)) (zao zag zbl))))
   (zk6 (zyc (zic (zao (zcp (zao (zcu (zab 4) (v_b zag) (λ _ _=>rfl)) (zao (zcu (zab 3) (v_b (zbk zco zbq (v_b (zbk zdi zdk (zab 2) (v_b zag))) (v_b (zdd zde zb0 (by rfl) T.len zbz (za0 (zab 3) zba))))) (λ _ _=>rfl)) (zao zoq zbl)))) zbl))))) z5z)))
   (zk6 (zyc (zic zbl)))))
theorem z7x (T:Txt K mg t):FnOk P w K mg base CX0 3 t.f_q12 t.fd_q12 ["_law_cells","_law_rows","_law_ends","_law_by"] (spD K 4 2 zmr):=by
 have G_qc:FnOk P w K mg base CX0 2 t.f_qc t.fd_qc ["_law_there","_law_k","_law_number","_law_by"] (spV K 4 zvz):=ybh T
 have G_q13:FnOk P w K mg base CX0 1 t.f_q13 t.fd_q13 ["_law_rows","_law_ends","_law_by"] (spD K 3 1 zmq):=z7w T
 exact okD (k:=2) (fs:=f_q12) rfl rfl rfl (by decide) T.d_q12.F zd2 λ cdv A outer s H E B hr=>(zcv (zya (i:=4) (by decide) zd2.nd rfl rfl rfl (vars:=["_law_row"]) (cap:=[]) (zfx [] rfl (by decide +kernel) (by decide +kernel) (by decide +kernel) .nil) (zxg .nil) (by decide) (by decide) (zl9 (zab 1)) (λ _ _ _ _=>(zcq (i:=0) (show List.Nodup (["_law_row"]:List Str) by decide +kernel) rfl (Or.inl rfl))) (λ _ _ _ _=>zib) (λ _ _ _ _=>(zcu (zab 0) (v_b zag) (λ _ _=>rfl))))
   (zcv (yah (i:=5) (by decide) zd2.nd rfl (Or.inl rfl) (z0i (x:="") (by rfl) T.list (za0 (zab 4) zba)))
   (zcv (z1s (i:=6) (j:=2) (by decide) (zg7 (zsd (zg7 zsc))) G_q13 (hr.mono (by decide)) (by rfl) T.d_q13.m T.d_q13.F.kp T.d_q13.b zd2.nd rfl (Or.inl rfl) (zse (zaj 1) (z54 rfl (zse (zaj 3) z53))))
   (zcv (z51 (by decide) PassesOwn.never rfl (zex (by rfl) T.range (za0 (v_b (zdd zde zb0 (by rfl) T.len zbz (za0 (zab 0) zba))) zba)) (zcq (i:=7) zd2.nd rfl (Or.inl rfl)) (zcv (zvx (i:=8) (by decide) zd2.nd rfl (Or.inl rfl) (zbk zco zbq (v_b (zbk zgw zfl (v_b (zcu (zab 0) (zab 7) (λ _ _=>rfl))) (v_b zag))) (v_b zag)))
   (zcv (zvx (i:=9) (by decide) zd2.nd rfl (Or.inl rfl) (zcu (zab 5) (v_b (zbk zco zbq (v_b (zbk zdi zdk (zab 8) (v_b zag))) (v_b (zdd zde zb0 (by rfl) T.len zbz (za0 (zab 5) zba))))) (λ _ _=>rfl)))
   (zcv (yai (by decide) (zjg hr (zab 2) (zab 9) (zcp (zao (zaj 9) (zao zag zbl)))) (zu6 rfl (zcb (zcq (i:=10) zd2.nd rfl (Or.inl rfl)) (zcb (zcq (i:=11) zd2.nd rfl (Or.inl rfl)) zi7))))
   (zcv (zvx (i:=12) (by decide) zd2.nd rfl (Or.inl rfl) (za3 G_qc (hr.mono (by decide)) (by rfl) T.d_qc.m T.d_qc.F.kp T.d_qc.b (zao (zaj 4) (zao (zaj 7) (zao (zbk zdi zdk (zab 8) (v_b zag)) (zao (zaj 3) zbl))))))
   (zk6 (yaj (zaz z21 zos (v_b (zbk zco zbq (zab 8) (v_b zag))) (v_b zag) (za6 _)) (zcv (zyb (j:=2) hr rfl (zab 12) (zcp (zao (zaj 10) (zao (zbk zbt za2 (zab 11) (v_b zag)) zbl))))
   (zcv (z1p (i:=5) rfl (zaj 12))
   (zk6 (z1p (i:=6) rfl (zcp (zao (zaj 12) (zao (zaj 9) (zao zoq zbl)))))))) (zcv (zvx (i:=12) (by decide) zd2.nd rfl (Or.inl rfl) (zcu (zab 4) (v_b (zbk zco zbq (v_b (zbk zdi zdk (zab 8) (v_b zag))) (v_b (zdd zde zb0 (by rfl) T.len zbz (za0 (zab 4) zba))))) (λ _ _=>rfl)))
   (zk6 (yaj (PW.pt (zeu (zaz (z0d hr) zl4 (zab 12) (zab 9) (za6 _)) (zdt (zaz (z0d hr) zl4 (zab 12) (zab 10) (za6 _))))) (zk6 (z1p (i:=6) rfl (zcp (zao (zaj 12) (zao (zaj 9) (zao zoq zbl)))))) z5z))))))))))
   (zk6 (z50 6))))))
theorem z7y (T:Txt K mg t):FnOk P w K mg base CX0 2 t.f_q1a t.fd_q1a ["_law_found","_law_sees_here","_law_ends"] (spV K 3 zjo):=by
 have G_qf:FnOk P w K mg base CX0 1 t.f_qf t.fd_qf ["_law_found"] (spV K 1 zyg):=ybe T
 exact zfc (k:=1) (fs:=f_q1a) rfl rfl rfl T.d_q1a.F zf1 λ cdv A outer s H E B hr=>(zah (zcr (PW.pt (zi2 (zds (zck (zov znd (by rfl) T.isinstance (zff (v:=.ty "list") (by rfl) T.list zek rfl) (zab 0)))) (zgs (zaz (z0d hr) zl4 (v_b (zdd zde zb0 (by rfl) T.len zbz (za0 (zab 0) zba))) (v_b (zdd zde zb0 (by rfl) T.len zbz (za0 (zab 1) zba))) (za6 _))))) (zap (zbp zoq)) zcz)
   (zah (zjb PassesOwn.never rfl (zex (by rfl) T.range (za0 (v_b (zdd zde zb0 (by rfl) T.len zbz (za0 (zab 1) zba))) zba)) (zcq (i:=3) zf1.nd rfl (Or.inl rfl)) (zah (z48 (zcu (zab 1) (zab 3) (λ _ _=>rfl)) (zu6 rfl (zcb (zcq (i:=4) zf1.nd rfl (Or.inl rfl)) (zcb (zcq (i:=5) zf1.nd rfl (Or.inl rfl)) (zcb (zcq (i:=6) zf1.nd rfl (Or.inl rfl)) zi7)))))
   (zah (z48 (zjg hr (zab 2) (zab 5) (zcp (zao (zaj 5) (zao zag zbl)))) (zu6 rfl (zcb (zcq (i:=7) zf1.nd rfl (Or.inl rfl)) (zcb (zcq (i:=8) zf1.nd rfl (Or.inl rfl)) zi7))))
   (zah (@zbc _ _ _ _ _ 9 _ _ zf1.nd rfl (Or.inl rfl) (zcu (zab 0) (zab 3) (λ _ _=>rfl)) rfl (.inl rfl))
   (zah (zcr (PW.pt (zi2 (zds (zck (zov zq6 (by rfl) T.isinstance (zff (v:=.ty "tuple") (by rfl) T.tuple ziy rfl) (zab 9)))) (zgs (zaz (z0d hr) zl4 (zab 9) (v_b (zcp (zao (zaj 4) (zao (zaj 5) (zao (zaj 6) (zao (zaj 7) (zao (zaj 8) zbl))))))) (za6 _))))) (zap (zbp zoq)) zcz)
   (zap (zcr (PW.pt (zi2 (zds (zck (zov znc (by rfl) T.isinstance (zff (v:=.ty "bool") (by rfl) T.bool zqn rfl) (v_b (zcu (zab 9) (v_b zag) (λ _ _=>rfl)))))) (zgs (zds (zck (za3 G_qf (hr.mono (by decide)) (by rfl) T.d_qf.m T.d_qf.F.kp T.d_qf.b (zao (zcu (zab 9) (v_b zag) (λ _ _=>rfl)) zbl))))))) (zap (zbp zoq)) zcz)))))))
   (zap (zbp zoq))))
theorem z7z (T:Txt K mg t):FnOk P w K mg base CX0 9 t.f_q20 t.fd_q20 ["_law_script"] (spV K 1 zjp):=by
 have G_q9:FnOk P w K mg base CX0 1 t.f_q9 t.fd_q9 ["_law_script","_law_k"] (spV K 2 zt7):=ybf T
 have G_qd:FnOk P w K mg base CX0 3 t.f_qd t.fd_qd ["_law_cell","_law_by"] (spV K 2 z18):=ybi T
 have G_q12:FnOk P w K mg base CX0 3 t.f_q12 t.fd_q12 ["_law_cells","_law_rows","_law_ends","_law_by"] (spD K 4 2 zmr):=z7x T
 have G_q1a:FnOk P w K mg base CX0 2 t.f_q1a t.fd_q1a ["_law_found","_law_sees_here","_law_ends"] (spV K 3 zjo):=z7y T
 have G_q16:FnOk P w K mg base CX0 8 t.f_q16 t.fd_q16 ["book","most","first","marks"] (spV K 4 zmp):=z7u T
 have G_q7:FnOk P w K mg base CX0 6 t.f_q7 t.fd_q7 ["hands"] (spW K 1 zsq):=z7p T
 have G_q1f:FnOk P w K mg base CX0 7 t.f_q1f t.fd_q1f ["rows","sees"] (spW K 2 zhx):=z7r T
 exact zfc (k:=8) (fs:=f_q20) rfl rfl rfl T.d_q20.F zei λ cdv A outer s H E B hr=>(zah (@zbc _ _ _ _ _ 1 _ _ zei.nd rfl (Or.inl rfl) (za3 G_q9 (hr.mono (by decide)) (by rfl) T.d_q9.m T.d_q9.F.kp T.d_q9.b (zao (zaj 0) (zao zag zbl))) rfl (.inl rfl))
   (zah (@zbc _ _ _ _ _ 2 _ _ zei.nd rfl (Or.inl rfl) (za3 G_q16 (hr.mono (by decide)) (by rfl) T.d_q16.m T.d_q16.F.kp T.d_q16.b (zao (zbk yaa z5v (v_b (zkq (zao zoq zbl))) (v_b zag)) (zao zag (zao zag (zao (za3 G_qd (hr.mono (by decide)) (by rfl) T.d_qd.m T.d_qd.F.kp T.d_qd.b (zao (za3 G_q9 (hr.mono (by decide)) (by rfl) T.d_q9.m T.d_q9.F.kp T.d_q9.b (zao (zaj 0) (zao zag zbl))) (zao (zaj 1) zbl))) zbl))))) rfl (.inl rfl))
   (zah (zrr (j:=3) zei.nd rfl (Or.inl rfl))
   (zah (z1r (i:=4) (j:=3) (zg7 (zg7 (zsd (zg7 zsc)))) G_q12 (hr.mono (by decide)) (by rfl) T.d_q12.m T.d_q12.F.kp T.d_q12.b zei.nd rfl (Or.inl rfl) (zse (zph (zab 0) (zl7 (v_b zag)) (zl7 (v_b zag))) (zse (zaj 2) (z54 rfl (zse (zaj 1) z53)))))
   (zrf 4 (zah (@zbc _ _ _ _ _ 5 _ _ zei.nd rfl (Or.inl rfl) (zpi (zfp G_q7 (hr.mono (by decide)) (by rfl) T.d_q7.m T.d_q7.F.kp T.d_q7.b (zao (zkq (zao (zaj 4) zbl)) zbl))) rfl (.inl rfl))
   (zah (@zbc _ _ _ _ _ 6 _ _ zei.nd rfl (Or.inl rfl) (zbk zbt za2 (v_b (zpi (z5n rfl (by rfl) T.list (by rfl) T.reversed (za0 (zab 4) zba)))) (v_b (zph (zab 4) zu1 (zl7 (v_b (zbk zco zbq (zab 1) (v_b zag))))))) rfl (.inl rfl))
   (zah (@zbc _ _ _ _ _ 7 _ _ zei.nd rfl (Or.inl rfl) (zot ziw zl8 (by rfl) T.list zek (za0 (zab 6) zba)) rfl (.inl rfl))
   (zah (z47 (i:=8) zei.nd rfl rfl rfl (vars:=["_law_path","_law_parts"]) (cap:=[]) (zfx [] rfl (by decide +kernel) (by decide +kernel) (by decide +kernel) .nil) (zxg .nil) (by decide) (by decide) (zl9 (zab 2)) (λ _ _ _ _=>(zu6 rfl (zcb (zcq (i:=0) (show List.Nodup (["_law_path","_law_parts"]:List Str) by decide +kernel) rfl (Or.inl rfl)) (zcb (zcq (i:=1) (show List.Nodup (["_law_path","_law_parts"]:List Str) by decide +kernel) rfl (Or.inl rfl)) zi7)))) (λ _ _ _ _=>zib) (λ _ _ _ _=>(zcp (zao (zaj 0) (zao (zot ziw zl8 (by rfl) T.list zek (za0 (zab 1) zba)) zbl)))))
   (zah (zre (i:=9) zei.nd rfl (Or.inl rfl) (zfp G_q1f (hr.mono (by decide)) (by rfl) T.d_q1f.m T.d_q1f.F.kp T.d_q1f.b (zao (zaj 2) (zao (zaj 6) zbl))))
   (zah (zcr (PW.pt (zi2 (zds (zck (zmd G_q1a (hr.mono (by decide)) (by rfl) T.d_q1a.m T.d_q1a.F.kp T.d_q1a.b (za0 (zab 9) (za0 (zab 5) (za0 (zab 3) zba)))))) (zi2 (zaz (z0d hr) zl4 (zab 2) (zab 8) (za6 _)) (zgs (zaz (z0d hr) zl4 (zab 6) (zab 7) (za6 _)))))) (zap (zbp zoq)) zcz)
   (zah (zcr (PW.pt (zi2 (zds (zck (zov znd (by rfl) T.isinstance (zff (v:=.ty "list") (by rfl) T.list zek rfl) (v_b (zpi (zfp G_q1f (hr.mono (by decide)) (by rfl) T.d_q1f.m T.d_q1f.F.kp T.d_q1f.b (zao (zaj 2) (zao (zkq zbl) zbl)))))))) (zgs (zds (zck (zmd G_q1a (hr.mono (by decide)) (by rfl) T.d_q1a.m T.d_q1a.F.kp T.d_q1a.b (za0 (zab 9) (za0 (zab 5) (za0 (zab 3) zba))))))))) (zap (zbp zoq)) zcz)
   (zah (z1t (i:=9) rfl)
   (zap (zbp (zmd G_q1a (hr.mono (by decide)) (by rfl) T.d_q1a.m T.d_q1a.F.kp T.d_q1a.b (za0 (v_b (zpi (zfp G_q1f (hr.mono (by decide)) (by rfl) T.d_q1f.m T.d_q1f.F.kp T.d_q1f.b (zao (zaj 2) (zao (zaj 6) zbl))))) (za0 (zab 5) (za0 (zab 3) zba)))))))))))))))))))
end
theorem zt0 {K:PySem.W.Frag}{H:Hp}{a:Addr}{ns:List Int}{E:XK}{Q:VK} (hl:ns.length<=63) (hS:SqL K H a (ns.map V.int)) (q:∀ H',Q (.bl true) H'):spV K 1 zjp [.ref a] H Q E:=by
 refine⟨H,[.lst (ns.map D.int)],.bl true,zar.refl _,.cons (zc1 hS (zjc ns)) .nil,rfl,zwo ns hl,λ Hf' H' v _ dv=>?_⟩
 rw[dv.bl]
 exact q H'
abbrev fT (K:PySem.W.Frag) (x:String) (s:Stmt) (f:Addr) (pm cd:Value):Prop:=PySem.W.nsIn K mainGlobals x=some (some (.ref f))/\K.lookup f=some (Zf x x s pm cd)/\PySem.W.codeIn K cd x=true/\PySem.W.keepIn K (.ref f)=true
theorem all_mk {l:PySem.W.OpenLaw}{w:World}{h:Heap}{mg:Str->Option Value}{fa:Addr} (X:(KK w.params).In h) (G:h.Ns mainGlobals mg) (hfa:mg "law" = some (.ref fa)) :
  ∃ fd:FuncData,(∀ (s:Shared) (v:Value),BindsTo s fd ⟨[v],[]⟩ [("_law_script",v)])/\∀ base:Heap,(KK w.params).In base->base.Ns mainGlobals mg->FnOk l.prog w (KK w.params) mg base CX0 9 fa fd ["_law_script"] (spV (KK w.params) 1 zjp):=by
 have ⟨a_q1b,l_q1b,c_q1b,k_q1b⟩:fT (KK w.params) "shown" zwp 148 (Zs "pageback.heads" 363) (.ref 147):=by and_intros <;> kernel_rfl
 have ⟨a_q18,l_q18,c_q18,k_q18⟩:fT (KK w.params) "key_of" zwq 153 (Zs "pageback.heads" 363) (.ref 152):=by and_intros <;> kernel_rfl
 have ⟨a_q1e,l_q1e,c_q1e,k_q1e⟩:fT (KK w.params) "rank" zwr 158 (Zs "pageback.heads" 363) (.ref 157):=by and_intros <;> kernel_rfl
 have ⟨a_q1d,l_q1d,c_q1d,k_q1d⟩:fT (KK w.params) "fits" zws 165 (Zs "pageback.marks" 387) (.ref 164):=by and_intros <;> kernel_rfl
 have ⟨a_q19,l_q19,c_q19,k_q19⟩:fT (KK w.params) "poured" zwt 172 (Zs "pageback.marks" 387) (.ref 171):=by and_intros <;> kernel_rfl
 have ⟨a_q7,l_q7,c_q7,k_q7⟩:fT (KK w.params) "poured_sees" z78 179 (Zs "pageback.marks" 387) (.ref 178):=by and_intros <;> kernel_rfl
 have ⟨a_q17,l_q17,c_q17,k_q17⟩:fT (KK w.params) "copied" zwu 186 (Zs "pageback.marks" 387) (.ref 185):=by and_intros <;> kernel_rfl
 have ⟨a_q10,l_q10,c_q10,k_q10⟩:fT (KK w.params) "mark_rank" zwv 193 (Zs "pageback.marks" 387) (.ref 192):=by and_intros <;> kernel_rfl
 have ⟨a_q11,l_q11,c_q11,k_q11⟩:fT (KK w.params) "see_rank" zww 200 (Zs "pageback.marks" 387) (.ref 199):=by and_intros <;> kernel_rfl
 have ⟨a_q1f,l_q1f,c_q1f,k_q1f⟩:fT (KK w.params) "ways" zwx 205 (Zs "pageback.sees" 443) (.ref 204):=by and_intros <;> kernel_rfl
 have ⟨a_q1,l_q1,c_q1,k_q1⟩:fT (KK w.params) "pages_by_path" z79 212 (Zs "pageback.sees" 443) (.ref 211):=by and_intros <;> kernel_rfl
 have ⟨a_q2,l_q2,c_q2,k_q2⟩:fT (KK w.params) "goals_by_path" z8a 219 (Zs "pageback.sees" 443) (.ref 218):=by and_intros <;> kernel_rfl
 have ⟨a_qb,l_qb,c_qb,k_qb⟩:fT (KK w.params) "way_of_see" z8b 226 (Zs "pageback.sees" 443) (.ref 225):=by and_intros <;> kernel_rfl
 have ⟨a_q5,l_q5,c_q5,k_q5⟩:fT (KK w.params) "refuse_start" z8c 233 (Zs "pageback.sees" 443) (.ref 232):=by and_intros <;> kernel_rfl
 have ⟨a_q6,l_q6,c_q6,k_q6⟩:fT (KK w.params) "way_of_goal" z8d 240 (Zs "pageback.sees" 443) (.ref 239):=by and_intros <;> kernel_rfl
 have ⟨a_q15,l_q15,c_q15,k_q15⟩:fT (KK w.params) "ring_in" zwy 247 (Zs "pageback.sees" 443) (.ref 246):=by and_intros <;> kernel_rfl
 have ⟨a_from_least,l_from_least,c_from_least,k_from_least⟩:fT (KK w.params) "from_least" zd1 254 (Zs "pageback.sees" 443) (.ref 253):=by and_intros <;> kernel_rfl
 have ⟨a_q1c,l_q1c,c_q1c,k_q1c⟩:fT (KK w.params) "pages" zwz 261 (Zs "pageback.book" 523) (.ref 260):=by and_intros <;> kernel_rfl
 have ⟨a_qe,l_qe,c_qe,k_qe⟩:fT (KK w.params) "stretches" z8e 268 (Zs "pageback.stretches" 538) (.ref 267):=by and_intros <;> kernel_rfl
 have ⟨a_q0,l_q0,c_q0,k_q0⟩:fT (KK w.params) "strong_by_page" z8f 275 (Zs "pageback.stretches" 538) (.ref 274):=by and_intros <;> kernel_rfl
 have ⟨a_q14,l_q14,c_q14,k_q14⟩:fT (KK w.params) "goes_on" zw0 282 (Zs "pageback.stretches" 538) (.ref 281):=by and_intros <;> kernel_rfl
 have ⟨a_q16,l_q16,c_q16,k_q16⟩:fT (KK w.params) "entries" zw1 287 (Zs "pageback.entries" 574) (.ref 286):=by and_intros <;> kernel_rfl
 have ⟨a_q4,l_q4,c_q4,k_q4⟩:fT (KK w.params) "refuse_unfit" z8g 294 (Zs "pageback.entries" 574) (.ref 293):=by and_intros <;> kernel_rfl
 have ⟨a_q3,l_q3,c_q3,k_q3⟩:fT (KK w.params) "marks_by_path" z8h 301 (Zs "pageback.entries" 574) (.ref 300):=by and_intros <;> kernel_rfl
 have ⟨a_qf,l_qf,c_qf,k_qf⟩:fT (KK w.params) "_law_whole" z8i 308 Zm (.ref 307):=by and_intros <;> kernel_rfl
 have ⟨a_q9,l_q9,c_q9,k_q9⟩:fT (KK w.params) "_law_cell_at" z8j 315 Zm (.ref 314):=by and_intros <;> kernel_rfl
 have ⟨a_qa,l_qa,c_qa,k_qa⟩:fT (KK w.params) "_law_head_by" z8k 322 Zm (.ref 321):=by and_intros <;> kernel_rfl
 have ⟨a_q8,l_q8,c_q8,k_q8⟩:fT (KK w.params) "_law_path_by" z8l 327 Zm (.ref 326):=by and_intros <;> kernel_rfl
 have ⟨a_qc,l_qc,c_qc,k_qc⟩:fT (KK w.params) "_law_fresh" z8m 334 Zm (.ref 333):=by and_intros <;> kernel_rfl
 have ⟨a_qd,l_qd,c_qd,k_qd⟩:fT (KK w.params) "_law_marks" z8n 341 Zm (.ref 340):=by and_intros <;> kernel_rfl
 have ⟨a_q13,l_q13,c_q13,k_q13⟩:fT (KK w.params) "_law_sent" zw2 346 Zm (.ref 345):=by and_intros <;> kernel_rfl
 have ⟨a_q12,l_q12,c_q12,k_q12⟩:fT (KK w.params) "_law_sees" zw3 351 Zm (.ref 350):=by and_intros <;> kernel_rfl
 have ⟨a_q1a,l_q1a,c_q1a,k_q1a⟩:fT (KK w.params) "_law_so" zw4 358 Zm (.ref 357):=by and_intros <;> kernel_rfl
 have ⟨a_q20,l_q20,c_q20,k_q20⟩:fT (KK w.params) "law" zmv 363 Zm (.ref 362):=by and_intros <;> kernel_rfl
 have z_bool:PySem.W.nsIn (KK w.params) mainGlobals "bool" = some none:=by kernel_rfl
 have z_int:PySem.W.nsIn (KK w.params) mainGlobals "int" = some none:=by kernel_rfl
 have z_isinstance:PySem.W.nsIn (KK w.params) mainGlobals "isinstance" = some none:=by kernel_rfl
 have z_len:PySem.W.nsIn (KK w.params) mainGlobals "len" = some none:=by kernel_rfl
 have z_list:PySem.W.nsIn (KK w.params) mainGlobals "list" = some none:=by kernel_rfl
 have z_min:PySem.W.nsIn (KK w.params) mainGlobals "min" = some none:=by kernel_rfl
 have z_range:PySem.W.nsIn (KK w.params) mainGlobals "range" = some none:=by kernel_rfl
 have z_reversed:PySem.W.nsIn (KK w.params) mainGlobals "reversed" = some none:=by kernel_rfl
 have z_sorted:PySem.W.nsIn (KK w.params) mainGlobals "sorted" = some none:=by kernel_rfl
 have z_str:PySem.W.nsIn (KK w.params) mainGlobals "str" = some none:=by kernel_rfl
 have z_tuple:PySem.W.nsIn (KK w.params) mainGlobals "tuple" = some none:=by kernel_rfl
 have y_LETTERS_AND_FIGURES:PySem.W.nsIn (KK w.params) mainGlobals "LETTERS_AND_FIGURES" = some (some (.str zbo 365)):=by kernel_rfl
 generalize KK w.params=K at *
 have e:=hfa.symm.trans (PySem.W.mg_of X G a_q20)
 cases e
 have zhw:=zav (st:=zwp) l_q1b c_q1b k_q1b
 have b_shown:=zhw.binds (ps:=["head"]) λ _ _ _ _ _ _ us hl=>match us,hl with|[_],_=>rfl
 have zk8:=zav (st:=zwq) l_q18 c_q18 k_q18
 have b_key_of:=zk8.binds (ps:=["head"]) λ _ _ _ _ _ _ us hl=>match us,hl with|[_],_=>rfl
 have zdp:=zav (st:=zwr) l_q1e c_q1e k_q1e
 have b_rank:=zdp.binds (ps:=["path"]) λ _ _ _ _ _ _ us hl=>match us,hl with|[_],_=>rfl
 have zk9:=zav (st:=zws) l_q1d c_q1d k_q1d
 have b_fits:=zk9.binds (ps:=["mark","many"]) λ _ _ _ _ _ _ us hl=>match us,hl with|[_,_],_=>rfl
 have zla:=zav (st:=zwt) l_q19 c_q19 k_q19
 have b_poured:=zla.binds (ps:=["hands"]) λ _ _ _ _ _ _ us hl=>match us,hl with|[_],_=>rfl
 have zsq:=zav (st:=z78) l_q7 c_q7 k_q7
 have b_poured_sees:=zsq.binds (ps:=["hands"]) λ _ _ _ _ _ _ us hl=>match us,hl with|[_],_=>rfl
 have zfu:=zav (st:=zwu) l_q17 c_q17 k_q17
 have b_copied:=zfu.binds (ps:=["path"]) λ _ _ _ _ _ _ us hl=>match us,hl with|[_],_=>rfl
 have zfv:=zav (st:=zwv) l_q10 c_q10 k_q10
 have b_mark_rank:=zfv.binds (ps:=["mark"]) λ _ _ _ _ _ _ us hl=>match us,hl with|[_],_=>rfl
 have zfw:=zav (st:=zww) l_q11 c_q11 k_q11
 have b_see_rank:=zfw.binds (ps:=["see"]) λ _ _ _ _ _ _ us hl=>match us,hl with|[_],_=>rfl
 have zhx:=zav (st:=zwx) l_q1f c_q1f k_q1f
 have b_ways:=zhx.binds (ps:=["rows","sees"]) λ _ _ _ _ _ _ us hl=>match us,hl with|[_,_],_=>rfl
 have z1x:=zav (st:=z79) l_q1 c_q1 k_q1
 have b_pages_by_path:=z1x.binds (ps:=["rows"]) λ _ _ _ _ _ _ us hl=>match us,hl with|[_],_=>rfl
 have z1w:=zav (st:=z8a) l_q2 c_q2 k_q2
 have b_goals_by_path:=z1w.binds (ps:=["ordered"]) λ _ _ _ _ _ _ us hl=>match us,hl with|[_],_=>rfl
 have z13:=zav (st:=z8b) l_qb c_qb k_qb
 have b_way_of_see:=z13.binds (ps:=["see","has_pages","sent"]) λ _ _ _ _ _ _ us hl=>match us,hl with|[_,_,_],_=>rfl
 have z1y:=zav (st:=z8c) l_q5 c_q5 k_q5
 have b_refuse_start:=z1y.binds (ps:=["path","goal","also","has_pages","sent"]) λ _ _ _ _ _ _ us hl=>match us,hl with|[_,_,_,_,_],_=>rfl
 have z1z:=zav (st:=z8d) l_q6 c_q6 k_q6
 have b_way_of_goal:=z1z.binds (ps:=["goal","sent"]) λ _ _ _ _ _ _ us hl=>match us,hl with|[_,_],_=>rfl
 have zmn:=zav (st:=zwy) l_q15 c_q15 k_q15
 have b_ring_in:=zmn.binds (ps:=["come"]) λ _ _ _ _ _ _ us hl=>match us,hl with|[_],_=>rfl
 have F_from_least:=zav (st:=zd1) l_from_least c_from_least k_from_least
 have b_from_least:=F_from_least.binds (ps:=["ring"]) λ _ _ _ _ _ _ us hl=>match us,hl with|[_],_=>rfl
 have zmo:=zav (st:=zwz) l_q1c c_q1c k_q1c
 have b_pages:=zmo.binds (ps:=["book","most","first"]) λ _ _ _ _ _ _ us hl=>match us,hl with|[_,_,_],_=>rfl
 have z15:=zav (st:=z8e) l_qe c_qe k_qe
 have b_stretches:=z15.binds (ps:=["numbers","marks"]) λ _ _ _ _ _ _ us hl=>match us,hl with|[_,_],_=>rfl
 have z14:=zav (st:=z8f) l_q0 c_q0 k_q0
 have b_strong_by_page:=z14.binds (ps:=["numbers","marks"]) λ _ _ _ _ _ _ us hl=>match us,hl with|[_,_],_=>rfl
 have zjn:=zav (st:=zw0) l_q14 c_q14 k_q14
 have b_goes_on:=zjn.binds (ps:=["stretch","page","is_strong"]) λ _ _ _ _ _ _ us hl=>match us,hl with|[_,_,_],_=>rfl
 have zmp:=zav (st:=zw1) l_q16 c_q16 k_q16
 have b_entries:=zmp.binds (ps:=["book","most","first","marks"]) λ _ _ _ _ _ _ us hl=>match us,hl with|[_,_,_,_],_=>rfl
 have z17:=zav (st:=z8g) l_q4 c_q4 k_q4
 have b_refuse_unfit:=z17.binds (ps:=["ordered","many"]) λ _ _ _ _ _ _ us hl=>match us,hl with|[_,_],_=>rfl
 have z16:=zav (st:=z8h) l_q3 c_q3 k_q3
 have b_marks_by_path:=z16.binds (ps:=["ordered"]) λ _ _ _ _ _ _ us hl=>match us,hl with|[_],_=>rfl
 have zyg:=zav (st:=z8i) l_qf c_qf k_qf
 have b_law_whole:=zyg.binds (ps:=["_law_found"]) λ _ _ _ _ _ _ us hl=>match us,hl with|[_],_=>rfl
 have zt7:=zav (st:=z8j) l_q9 c_q9 k_q9
 have b_law_cell_at:=zt7.binds (ps:=["_law_script","_law_k"]) λ _ _ _ _ _ _ us hl=>match us,hl with|[_,_],_=>rfl
 have zpk:=zav (st:=z8k) l_qa c_qa k_qa
 have b_law_head_by:=zpk.binds (ps:=["_law_cell","_law_k"]) λ _ _ _ _ _ _ us hl=>match us,hl with|[_,_],_=>rfl
 have zyh:=zav (st:=z8l) l_q8 c_q8 k_q8
 have b_law_path_by:=zyh.binds (ps:=["_law_number","_law_by"]) λ _ _ _ _ _ _ us hl=>match us,hl with|[_,_],_=>rfl
 have zvz:=zav (st:=z8m) l_qc c_qc k_qc
 have b_law_fresh:=zvz.binds (ps:=["_law_there","_law_k","_law_number","_law_by"]) λ _ _ _ _ _ _ us hl=>match us,hl with|[_,_,_,_],_=>rfl
 have z18:=zav (st:=z8n) l_qd c_qd k_qd
 have b_law_marks:=z18.binds (ps:=["_law_cell","_law_by"]) λ _ _ _ _ _ _ us hl=>match us,hl with|[_,_],_=>rfl
 have zmq:=zav (st:=zw2) l_q13 c_q13 k_q13
 have b_law_sent:=zmq.binds (ps:=["_law_rows","_law_ends","_law_by"]) λ _ _ _ _ _ _ us hl=>match us,hl with|[_,_,_],_=>rfl
 have zmr:=zav (st:=zw3) l_q12 c_q12 k_q12
 have b_law_sees:=zmr.binds (ps:=["_law_cells","_law_rows","_law_ends","_law_by"]) λ _ _ _ _ _ _ us hl=>match us,hl with|[_,_,_,_],_=>rfl
 have zjo:=zav (st:=zw4) l_q1a c_q1a k_q1a
 have b_law_so:=zjo.binds (ps:=["_law_found","_law_sees_here","_law_ends"]) λ _ _ _ _ _ _ us hl=>match us,hl with|[_,_,_],_=>rfl
 have zjp:=zav (st:=zmv) l_q20 c_q20 k_q20
 have b_law:=zjp.binds (ps:=["_law_script"]) λ _ _ _ _ _ _ us hl=>match us,hl with|[_],_=>rfl
 have T:Txt K mg ⟨148,_,153,_,158,_,165,_,172,_,179,_,186,_,193,_,200,_,205,_,212,_,219,_,226,_,233,_,240,_,247,_,254,_,261,_,268,_,275,_,282,_,287,_,294,_,301,_,308,_,315,_,322,_,327,_,334,_,341,_,346,_,351,_,358,_,363,_,365⟩:=⟨⟨zhw,PySem.W.mg_of X G a_q1b,b_shown⟩,⟨zk8,PySem.W.mg_of X G a_q18,b_key_of⟩,⟨zdp,PySem.W.mg_of X G a_q1e,b_rank⟩,⟨zk9,PySem.W.mg_of X G a_q1d,b_fits⟩,⟨zla,PySem.W.mg_of X G a_q19,b_poured⟩,⟨zsq,PySem.W.mg_of X G a_q7,b_poured_sees⟩,⟨zfu,PySem.W.mg_of X G a_q17,b_copied⟩,⟨zfv,PySem.W.mg_of X G a_q10,b_mark_rank⟩,⟨zfw,PySem.W.mg_of X G a_q11,b_see_rank⟩,⟨zhx,PySem.W.mg_of X G a_q1f,b_ways⟩,⟨z1x,PySem.W.mg_of X G a_q1,b_pages_by_path⟩,⟨z1w,PySem.W.mg_of X G a_q2,b_goals_by_path⟩,⟨z13,PySem.W.mg_of X G a_qb,b_way_of_see⟩,⟨z1y,PySem.W.mg_of X G a_q5,b_refuse_start⟩,⟨z1z,PySem.W.mg_of X G a_q6,b_way_of_goal⟩,⟨zmn,PySem.W.mg_of X G a_q15,b_ring_in⟩,⟨F_from_least,PySem.W.mg_of X G a_from_least,b_from_least⟩,⟨zmo,PySem.W.mg_of X G a_q1c,b_pages⟩,⟨z15,PySem.W.mg_of X G a_qe,b_stretches⟩,⟨z14,PySem.W.mg_of X G a_q0,b_strong_by_page⟩,⟨zjn,PySem.W.mg_of X G a_q14,b_goes_on⟩,⟨zmp,PySem.W.mg_of X G a_q16,b_entries⟩,⟨z17,PySem.W.mg_of X G a_q4,b_refuse_unfit⟩,⟨z16,PySem.W.mg_of X G a_q3,b_marks_by_path⟩,⟨zyg,PySem.W.mg_of X G a_qf,b_law_whole⟩,⟨zt7,PySem.W.mg_of X G a_q9,b_law_cell_at⟩,⟨zpk,PySem.W.mg_of X G a_qa,b_law_head_by⟩,⟨zyh,PySem.W.mg_of X G a_q8,b_law_path_by⟩,⟨zvz,PySem.W.mg_of X G a_qc,b_law_fresh⟩,⟨z18,PySem.W.mg_of X G a_qd,b_law_marks⟩,⟨zmq,PySem.W.mg_of X G a_q13,b_law_sent⟩,⟨zmr,PySem.W.mg_of X G a_q12,b_law_sees⟩,⟨zjo,PySem.W.mg_of X G a_q1a,b_law_so⟩,⟨zjp,PySem.W.mg_of X G a_q20,b_law⟩,PySem.W.mg_none_of X G z_bool,PySem.W.mg_none_of X G z_int,PySem.W.mg_none_of X G z_isinstance,PySem.W.mg_none_of X G z_len,PySem.W.mg_none_of X G z_list,PySem.W.mg_none_of X G z_min,PySem.W.mg_none_of X G z_range,PySem.W.mg_none_of X G z_reversed,PySem.W.mg_none_of X G z_sorted,PySem.W.mg_none_of X G z_str,PySem.W.mg_none_of X G z_tuple,PySem.W.mg_of X G y_LETTERS_AND_FIGURES⟩
 exact⟨PySem.W.fnOf "law" "law" (zfe zmv) (zb9 zmv) (zad zmv) .none .none .none Zm none (.ref 362) .none,λ s v=>.of_eq rfl,λ base _ _=>z7z T⟩
theorem walk {l:PySem.W.OpenLaw}{q:Program}{loose:List Str}{XP:(Str->Option Value)->Heap->Prop}{YP:World->Heap->Prop}{d:DefRec}{K:Params->PySem.W.Frag} (hn:l.most=some 63) (hdf:d.params.defaults=[])
  (hY:∀ (w:World) (h:Heap),YP w h->(K w.params).In h)
  (F:∀ (w:World) (mg:Str->Option Value) (fa:Addr) (h:Heap),(K w.params).In h->h.Ns mainGlobals mg->mg d.name=some (.ref fa) →
   ∃ fd:FuncData,(∀ (s:Shared) (u:Value),BindsTo s fd ⟨[u],[]⟩ [("_law_script",u)])/\∀ base:Heap,(K w.params).In base->base.Ns mainGlobals mg->FnOk l.prog w (K w.params) mg base CX0 9 fa fd ["_law_script"] (spV (K w.params) 1 zjp)) :
  PySem.W.WalkO q loose XP YP l.row.toRowW d [] (λ f vs=>PySem.call f vs) :=
 L2.walk_of (n:=63) (k:=9) (x:="_law_script") (CX:=λ _=>CX0) (sp:=λ w=>spV (K w.params) 1 zjp) hn (by decide) hdf ⟨rfl,by decide,by decide⟩ hY F (λ _ H a ns hl hO hS=>zt0 hl hS λ _=>rfl) λ _ _ _ _ _ z=>z
end K20
open PySem PySem.W PyProof.Rows
set_option maxRecDepth 100000 in
set_option maxHeartbeats 0 in
theorem PySem.Challenge.cw_pageback_k20_ways_told_holds : PySem.Challenge.rw_pageback_k20_ways_told.Holds := by
 w_on;o_law
 refine PySem.W.holds_open (q:=K20.VV) (loose:=[]) (XP:=PySem.W.XL K20.VV []) (kwd:=[]) K20.hl (PySem.W.kHook K20.KK K20.AA K20.ka).of (PySem.W.kHook K20.KK K20.AA K20.ka).keeps (λ s e=>PySem.W.xl_of s (Bool.and_eq_true_iff.mp e).left) PySem.W.XL.keeps (by rfl) (by rfl) (by rfl) (λ s e=>PySem.W.recFacts_of (Bool.and_eq_true_iff.mp e).right) (by rfl) ?said (by decide +kernel) ⟨rfl,rfl,rfl,rfl,rfl,by decide +kernel⟩ ?hw ?hc
 case said=>assumption
 case hw=>w_witness2
 refine K20.walk (l:=PySem.Challenge.rw_pageback_k20_ways_told) rfl rfl (λ w h Y=>PySem.W.kIn_of Y) ?F
 case F =>
  intro w mg fa h KX G hmg
  exact K20.all_mk KX G hmg
end
