import PyProof.Rows.All
import KE.KDictOf
import KE.KDictSum
import KE.KEqDict
import KE.KFromBytes
import KE.KIntText
import KE.KIsAll
import KE.KRevIter
import KE.KSortTup
import KE.LcSums
import PySem.Challenge.RW_pageback_k15_entries_made
noncomputable section
def aa:=@PySem.wpAny_bind
def ba:=@if_pos
def da:=@List.mem_cons_of_mem
def ia:=@List.length_map
def ja:=@List.map_cons
def la:=@Bool.false_ne_true
def oa:=@if_neg
def qa:=@List.getElem?_set_ne
def ua:=@PyProof.Rows.wpS_bind
def va:=@PySem.wpAny_pure
def wa:=@Nat.le_refl
def xa:=@List.size_toArray
def ya:=@List.getElem?_eq_some_iff
def za:=@List.mem_cons_self
def bb:=@PySem.Heap.get?_push_of_some
def db:=@Option.map_eq_some_iff
def gb:=@PyProof.Rows.wpS_pure
def ib:=@Option.bind_some
def jb:=@List.getElem?_set_self
def lb:=@Or.inl
def pb:=@List.length_cons
def ub:=@decide_eq_true
def vb:=@List.mem_map
def wb:=@PySem.Heap.lt_size
def xb:=@List.map_append
def yb:=@List.mem_cons
def zb:=@List.mem_singleton
def ac:=@List.mem_append
def bc:=@Bool.false_eq_true
def cc:=@PySem.Heap.get?_push_size
def dc:=@Nat.lt_of_lt_of_le
def gc:=@Bool.and_eq_true
def ic:=@PySem.wpAny_loadPart'
def jc:=@List.length_append
def kc:=@List.append_nil
def lc:=@of_decide_eq_true
def pc:=@List.getElem?_map
def qc:=@List.getElem?_cons_zero
def rc:=@List.getElem?_cons_succ
def uc:=@List.mem_append_right
def vc:=@Option.some.inj
def wc:=@List.getD_eq_getElem?_getD
def xc:=@PySem.PassesOwn.never
def yc:=@List.drop_eq_getElem_cons
def zc:=@congrArg
def ed:=@List.getElem?_eq_getElem
def jd:=@List.all_eq_true
def md:=@decide_eq_false
def pd:=@List.length_singleton
def ud:=@List.length_nil
def vd:=@Nat.zero_le
def yd:=@Nat.ne_of_lt
def zd:=@List.map_map
def ae:=@Option.map_some
def be:=@List.set_cons_zero
def ce:=@List.set_cons_succ
def de:=@Nat.zero_add
def ge:=@List.mem_of_getElem?
def ie:=@Nat.le_trans
def je:=@List.take_of_length_le
def ke:=@List.cons_append
def me:=@List.map_nil
def oe:=@PyProof.Rows.wpS_forRange
def qe:=@List.pairwise_iff_getElem
def re:=@Array.toList_append
def se:=@Option.getD_some
def ue:=@List.nil_append
def ve:=@Array.length_toList
def we:=@Or.inr
def ye:=@List.getElem_mem
def ze:=@Option.bind_none
def af:=@PySem.Heap.get?_update_other
def bf:=@PyProof.Rows.slot_tuple_getitem
def cf:=@Option.map_none
def df:=@List.mem_range
def ef:=@Bool.not_true
def gf:=@List.getElem?_append_left
def jf:=@List.pairwise_cons
def mf:=@List.find?_cons
def pf:=@Bool.not_false
def qf:=@List.mem_reverse
def rf:=@Array.getElem?_toList
def sf:=@List.getElem?_append_right
def tf:=@List.mem_append_left
def uf:=@List.foldl_cons
def vf:=@List.lookup_cons
def wf:=@Array.getElem?_eq_getElem
def xf:=@List.map_congr_left
def yf:=@PyProof.Rows.wpS_modify
def zf:=@List.ext_getElem?
def ag:=@Array.size_map
def bg:=@List.any_cons
def cg:=@List.nodup_cons
def dg:=@Nat.sub_self
def fg:=@PySem.wpAny_Call_Name_kw
def gg:=@True.intro
def ig:=@List.getElem?_replicate
def jg:=@PyProof.Rows.wpS_mono
def kg:=@PyProof.Rows.callWith_type1
def lg:=@PySem.wpAny_holding
def ng:=@List.all_cons
def og:=@PySem.wpAny_newObj_type
def qg:=@PySem.wpAny_truthy_bool
def rg:=@List.nodup_nil
def ug:=@PySem.wpAny_mono
def vg:=@PySem.wpAny_rule
def wg:=@List.getElem?_eq_none
def xg:=@List.take_append_drop
def yg:=@Array.map_append
def zg:=@Nat.lt_irrefl
def ah:=@PySem.wpAny_typeNameOfWhole_keyiter
def bh:=@List.pairwise_append
def dh:=@if_false
def eh:=@Bool.not_eq_true'
def gh:=@Ne.symm
def jh:=@PyProof.Rows.wpS_get
def kh:=@Nat.min_eq_left
def lh:=@List.drop_of_length_le
def mh:=@PySem.richCompare_meets_room
def oh:=@List.drop_eq_nil_of_le
def ph:=@List.length_take
def qh:=@List.drop_length
def rh:=@PySem.Calls.spliced_cons
def uh:=@PySem.tupleKind_room_in1
def vh:=@List.zip_cons_cons
def xh:=@List.Perm.refl
def yh:=@Array.map_push
def zh:=@List.extract_eq_drop_take
def ai:=@List.mem_filter
def ci:=@ite_false
def ii:=@List.mem_of_mem_drop
def ji:=@List.append_assoc
def ki:=@Option.isSome_map
def li:=@List.nodup_append
def oi:=@PySem.wpAny_typeNameOf_keyiter
def pi:=@beq_eq_false_iff_ne
def ui:=@PySem.Heap.SameBut.update
def xi:=@PySem.wpAny_callSpecial?_slot
def yi:=@PySem.wpAny_call_entry
def zi:=@List.append_cons
def aj:=@PySem.Calls.callWith_builtin
def cj:=@Nat.lt_of_succ_lt_succ
def fj:=@Bool.eq_iff_iff
def ij:=@ite_true
def jj:=@List.length_replicate
def kj:=@PySem.Heap.get?_update_self
def lj:=@List.Pairwise.nil
def oj:=@List.flatten_cons
def pj:=@if_true
def tj:=@PySem.Around.under_plainId
def uj:=@List.getElem?_mapIdx
def vj:=@List.mem_of_mem_take
def wj:=@Array.ext'
def xj:=@List.length_drop
def yj:=@PySem.wpAny_passesOwn
def zj:=@List.cons.injEq
def ak:=@decide_eq_true_iff
def ek:=@List.getElem?_set_self'
def ik:=@PySem.AutoSeq1.sub_list_list
def jk:=@Array.getElem?_eq_none
def qk:=@PySem.Calls.spliced_nil
def uk:=@Int.toNat_natCast
def vk:=@Array.toList_push
def wk:=@Array.map_reverse
def xk:=@PySem.wpAny_dictEntries
def yk:=@List.pairwise_reverse
def zk:=@PySem.wpAny_isOneOf_keyiter
def il:=@List.length_filter_le
def ll:=@Nat.min_eq_right
def ml:=@List.take_length
def ol:=@PySem.plainId_quiet
def ul:=@PyProof.Rows.listUpdate_at
def wl:=@List.cons.inj
def xl:=@PySem.Calls.evalArgs_plain
def yl:=@List.getElem?_of_mem
def zl:=@PyProof.Rows.wpS_lift
def am:=@PySem.codeAny_builtin
def bm:=@PySem.wpAny_specialOf
def cm:=@List.filterMap_cons
def dm:=@List.length_reverse
def fm:=@List.map_eq_nil_iff
def gm:=@Array.getD_eq_getD_getElem?
def im:=@Nat.ne_of_gt
def jm:=@Nat.lt_or_ge
def km:=@PySem.Calls.Name_function_global
def qm:=@List.perm_ext_iff_of_nodup
def rm:=@Bool.not_eq_false'
def tm:=@PySem.wpAny_fieldsOf
def um:=@List.mem_of_find?_eq_some
def vm:=@Classical.byContradiction
def wm:=@List.reverse_perm
def xm:=@List.getElem?_set
def ym:=@List.length_range
def zm:=@PySem.wpAny_mkInt
def en:=@Array.swapIfInBounds_def
def gn:=@PySem.wpAny_attempt
def kn:=@List.filter_cons_of_pos
def ln:=@List.filter_cons_of_neg
def mn:=@List.pairwise_singleton
def on:=@decide_eq_false_iff_not
def rn:=@PySem.wpAny_pyHash_int
def vn:=@PySem.wpAny_pyHash_str
def wn:=@Nat.min_le_right
def xn:=@beq_self_eq_true
def yn:=@Nat.lt_succ_self
def zn:=@PySem.wpAny_forIn_list
def ao:=@PySem.wpAny_Dict_empty
def bo:=@PySem.wpAny_isInstance
def io:=@Array.toList_map
def jo:=@PySem.beq_builtin_none
def mo:=@List.mem_flatMap
def oo:=@List.any_eq_true
def qo:=@ite_congr
def vo:=@List.range_succ_eq_map
def yo:=@Array.getElem?_extract
def zo:=@PySem.codeAny_mono
def bp:=@PySem.wpAny_typeOf
def ip:=@PyProof.Rows.minRun'_succ
def jp:=@PySem.wpAny_execs_nil
def lp:=@List.of_mem_zip
def pp:=@List.length_set
def tp:=@PySem.SeqAt.EqAt.same
def vp:=@PySem.wpAny_dictEpoch
def zp:=@Array.mem_toList_iff
def dq:=@Array.toList_extract
def gq:=@Array.toList_reverse
def jq:=@Bool.and_eq_true_iff
def kq:=@List.Perm.swap
def lq:=@List.drop_take
def mq:=@List.take_take
def pq:=@List.getElem?_range
def qq:=@List.mem_map_of_mem
def sq:=@List.map_take
def uq:=@Bool.and_true
def yr:=@PySem.typeIs_str
def zr:=@PySem.call_meets
def cu:=@Nat.le_of_lt
def gu:=@Nat.min_self
def ku:=@decide_false
def nu:=@Sum.inl.inj
def tu:=@decide_true
set_option Elab.async false
set_option linter.all false
set_option maxRecDepth 100000
set_option maxHeartbeats 4000000
namespace L2
open PySem
noncomputable def ze1(s:Stmt):Arguments:=match s with
 |.FunctionDef _ a _ _ _ _ _ _ _ _=>a
 |_=>{ posonlyargs:=[],args:=[],vararg:=none,kwonlyargs:=[],kw_defaults:=[],kwarg:=none,defaults:=[] }
noncomputable def zca(s:Stmt):List Stmt:=match s with
 |.FunctionDef _ _ b _ _ _ _ _ _ _=>b
 |_=>[]
noncomputable def zag(s:Stmt):Scope:=match s with
 |.FunctionDef _ _ _ _ _ _ sc _ _ _=>sc
 |_=>{ kind:=.function,names:=[],isGenerator:=false,isCoroutine:=false }
end L2
namespace K15
open PySem L2
noncomputable def top(i:Nat):Stmt:=PySem.Challenge.pw_pageback_k15_entries_made.main.body.getD i (.Pass ⟨0,0,0,0⟩)
noncomputable abbrev Zs(x:String)(t:Tok):Value:=.str (Str.ofString x) t
noncomputable abbrev Ze(P:Params)(x:String)(t:Tok)(v:Value):DictEntry:=⟨PyData.keyHash P (Str.ofString x),Zs x t,v⟩
noncomputable abbrev Zt(a:Array Value):Obj:=⟨.type "tuple",none,.seq a,#[]⟩
noncomputable abbrev Zc(a:Array Value):Obj:=⟨.type "code",none,.fields a,#[]⟩
noncomputable abbrev Zd(a:Array DictEntry)(n:Nat):Obj:=⟨.type "dict",none,.dict a n,#[]⟩
noncomputable abbrev Zf(n q:String)(s:Stmt)(pm cd:Value):Obj:=⟨.type "function",none,.func (PySem.W.fnOf (Str.ofString n) (Str.ofString q) (ze1 s) (zca s) (zag s) .none .none .none pm none cd .none),#[]⟩
noncomputable abbrev Zk(n q:String)(a b c:Tok)(l k:Int)(r r1:Addr)(x y z:Value)(m:Addr)(d e:Nat):Obj:=Zc #[Zs n a,Zs q b,Zs "/claim/cut.py" c,.int l 0,.int k 0,.int 0 0,.int 0 0,.int 3 0,.ref r,.bool true,.int 181 0,.ref r1,x,y,z,.ref m,.int d 0,.int l 0,Zs "/claim/cut.py" e]
noncomputable abbrev Zm:Value:=Zs "law_pageback_k15_entries_made" 376
noncomputable def KK(P:Params):PySem.W.Frag :=
 [(3,Zd #[Ze P "__name__" 165 Zm,Ze P "__doc__" 166 .none,Ze P "__package__" 167 .none,Ze P "__loader__" 168 (.builtin "__main__.__loader__#opaque"),Ze P "__spec__" 169 .none,Ze P "__annotations__" 170 (.ref 6),Ze P "__builtins__" 171 (.ref 4),Ze P "__file__" 173 (Zs "/claim/cut.py" 172),Ze P "__cached__" 174 .none,Ze P "pages" 201 (.ref 21),Ze P "PageError" 221 (.ref 31),Ze P "OutOfBook" 250 (.ref 51),Ze P "LETTERS_AND_FIGURES" 254 (Zs "abcdefghijklmnopqrstuvwxyzABCDEFGHIJKLMNOPQRSTUVWXYZ0123456789" 253),Ze P "shown" 262 (.ref 60),Ze P "key_of" 268 (.ref 65),Ze P "rank" 274 (.ref 70),Ze P "fits" 284 (.ref 77),Ze P "poured" 297 (.ref 84),Ze P "copied" 304 (.ref 91),Ze P "mark_rank" 311 (.ref 98),Ze P "stretches" 324 (.ref 105),Ze P "strong_by_page" 338 (.ref 112),Ze P "goes_on" 347 (.ref 119),Ze P "entries" 355 (.ref 124),Ze P "refuse_unfit" 364 (.ref 131),Ze P "marks_by_path" 375 (.ref 138),Ze P "_law_cell_at" 385 (.ref 145),Ze P "_law_whole" 392 (.ref 152),Ze P "_law_head_by" 408 (.ref 159),Ze P "_law_path_by" 418 (.ref 166),Ze P "_law_shown" 428 (.ref 173),Ze P "_law_rank" 439 (.ref 180),Ze P "_law_book" 445 (.ref 185),Ze P "_law_pages" 458 (.ref 192),Ze P "_law_settings" 466 (.ref 199),Ze P "_law_marks" 479 (.ref 206),Ze P "_law_runs" 495 (.ref 213),Ze P "_law_entries" 501 (.ref 218),Ze P "_law_alike" 511 (.ref 225),Ze P "law" 530 (.ref 232)] 40),
  (20,Zk "pages" "pages" 189 190 191 2 3 15 16 (.none) (.ref 17) (.ref 18) 19 199 200),
  (21,Zf "pages" "pages" (top 1) (Zs "pageback.book" 187) (.ref 20)),
  (30,Zd #[Ze P "__module__" 211 (Zs "pageback.errors" 202),Ze P "__firstlineno__" 215 (.int 14 214),Ze P "__static_attributes__" 216 (.ref 29),Ze P "__weakref__" 218 (.ref 32),Ze P "__doc__" 219 .none] 3),
  (31,Obj.mk (.type "type") none (Data.cls (ClassData.mk (Str.ofString "PageError") [.type "ValueError"] [.ref 31,.type "ValueError",.type "Exception",.type "BaseException",.type "object"] 30 (Str.ofString "PageError") true [] [.ref 51] false none false)) #[some (.ref 22),none,some (Zs "PageError" 204),some (Zs "PageError" 212),some (.builtin "ValueError.__new__"),some (.bool true)]),
  (50,Zd #[Ze P "__module__" 229 (Zs "pageback.errors" 202),Ze P "__firstlineno__" 233 (.int 16 232),Ze P "__init__" 243 (.ref 48),Ze P "__static_attributes__" 247 (.ref 49),Ze P "__doc__" 248 .none] 2),
  (51,Obj.mk (.type "type") none (Data.cls (ClassData.mk (Str.ofString "OutOfBook") [.ref 31] [.ref 51,.ref 31,.type "ValueError",.type "Exception",.type "BaseException",.type "object"] 50 (Str.ofString "OutOfBook") true [] [] false none false)) #[some (.ref 35),none,some (Zs "OutOfBook" 222),some (Zs "OutOfBook" 230),some (.builtin "ValueError.__new__"),some (.bool true)]),
  (59,Zk "shown" "shown" 255 256 257 24 1 54 55 (.none) (.ref 56) (.ref 57) 58 260 261),
  (60,Zf "shown" "shown" (top 7) (Zs "pageback.heads" 251) (.ref 59)),
  (64,Zk "key_of" "key_of" 263 264 265 29 1 61 62 .none .none .none 63 266 267),
  (65,Zf "key_of" "key_of" (top 8) (Zs "pageback.heads" 251) (.ref 64)),
  (69,Zk "rank" "rank" 269 270 271 31 1 66 67 .none .none .none 68 272 273),
  (70,Zf "rank" "rank" (top 9) (Zs "pageback.heads" 251) (.ref 69)),
  (76,Zk "fits" "fits" 277 278 279 34 2 71 72 (.none) (.ref 73) (.ref 74) 75 282 283),
  (77,Zf "fits" "fits" (top 11) (Zs "pageback.marks" 275) (.ref 76)),
  (83,Zk "poured" "poured" 285 286 287 36 1 78 79 (.none) (.ref 80) (.ref 81) 82 295 296),
  (84,Zf "poured" "poured" (top 12) (Zs "pageback.marks" 275) (.ref 83)),
  (90,Zk "copied" "copied" 298 299 300 42 1 85 86 (.none) (.ref 87) (.ref 88) 89 302 303),
  (91,Zf "copied" "copied" (top 13) (Zs "pageback.marks" 275) (.ref 90)),
  (97,Zk "mark_rank" "mark_rank" 305 306 307 44 1 92 93 (.none) (.ref 94) (.ref 95) 96 309 310),
  (98,Zf "mark_rank" "mark_rank" (top 14) (Zs "pageback.marks" 275) (.ref 97)),
  (104,Zk "stretches" "stretches" 314 315 316 47 2 99 100 (.none) (.ref 101) (.ref 102) 103 322 323),
  (105,Zf "stretches" "stretches" (top 16) (Zs "pageback.stretches" 312) (.ref 104)),
  (111,Zk "strong_by_page" "strong_by_page" 325 326 327 56 2 106 107 (.none) (.ref 108) (.ref 109) 110 336 337),
  (112,Zf "strong_by_page" "strong_by_page" (top 17) (Zs "pageback.stretches" 312) (.ref 111)),
  (118,Zk "goes_on" "goes_on" 339 340 341 62 3 113 114 (.none) (.ref 115) (.ref 116) 117 345 346),
  (119,Zf "goes_on" "goes_on" (top 18) (Zs "pageback.stretches" 312) (.ref 118)),
  (123,Zk "entries" "entries" 350 351 352 65 4 120 121 .none .none .none 122 353 354),
  (124,Zf "entries" "entries" (top 20) (Zs "pageback.entries" 348) (.ref 123)),
  (130,Zk "refuse_unfit" "refuse_unfit" 356 357 358 71 2 125 126 (.none) (.ref 127) (.ref 128) 129 362 363),
  (131,Zf "refuse_unfit" "refuse_unfit" (top 21) (Zs "pageback.entries" 348) (.ref 130)),
  (137,Zk "marks_by_path" "marks_by_path" 365 366 367 75 1 132 133 (.none) (.ref 134) (.ref 135) 136 373 374),
  (138,Zf "marks_by_path" "marks_by_path" (top 22) (Zs "pageback.entries" 348) (.ref 137)),
  (144,Zk "_law_cell_at" "_law_cell_at" 378 379 380 84 2 139 140 (.none) (.ref 141) (.ref 142) 143 383 384),
  (145,Zf "_law_cell_at" "_law_cell_at" (top 24) Zm (.ref 144)),
  (151,Zk "_law_whole" "_law_whole" 386 387 388 88 1 146 147 (.none) (.ref 148) (.ref 149) 150 390 391),
  (152,Zf "_law_whole" "_law_whole" (top 25) Zm (.ref 151)),
  (158,Zk "_law_head_by" "_law_head_by" 393 394 395 90 2 153 154 (.none) (.ref 155) (.ref 156) 157 406 407),
  (159,Zf "_law_head_by" "_law_head_by" (top 26) Zm (.ref 158)),
  (165,Zk "_law_path_by" "_law_path_by" 409 410 411 104 2 160 161 (.none) (.ref 162) (.ref 163) 164 416 417),
  (166,Zf "_law_path_by" "_law_path_by" (top 27) Zm (.ref 165)),
  (172,Zk "_law_shown" "_law_shown" 419 420 421 109 1 167 168 (.none) (.ref 169) (.ref 170) 171 426 427),
  (173,Zf "_law_shown" "_law_shown" (top 28) Zm (.ref 172)),
  (179,Zk "_law_rank" "_law_rank" 429 430 431 114 1 174 175 (.none) (.ref 176) (.ref 177) 178 437 438),
  (180,Zf "_law_rank" "_law_rank" (top 29) Zm (.ref 179)),
  (184,Zk "_law_book" "_law_book" 440 441 442 123 1 181 182 .none .none .none 183 443 444),
  (185,Zf "_law_book" "_law_book" (top 30) Zm (.ref 184)),
  (191,Zk "_law_pages" "_law_pages" 446 447 448 125 3 186 187 (.none) (.ref 188) (.ref 189) 190 456 457),
  (192,Zf "_law_pages" "_law_pages" (top 31) Zm (.ref 191)),
  (198,Zk "_law_settings" "_law_settings" 459 460 461 136 1 193 194 (.none) (.ref 195) (.ref 196) 197 464 465),
  (199,Zf "_law_settings" "_law_settings" (top 32) Zm (.ref 198)),
  (205,Zk "_law_marks" "_law_marks" 467 468 469 139 3 200 201 (.none) (.ref 202) (.ref 203) 204 477 478),
  (206,Zf "_law_marks" "_law_marks" (top 33) Zm (.ref 205)),
  (212,Zk "_law_runs" "_law_runs" 480 481 482 147 2 207 208 (.none) (.ref 209) (.ref 210) 211 493 494),
  (213,Zf "_law_runs" "_law_runs" (top 34) Zm (.ref 212)),
  (217,Zk "_law_entries" "_law_entries" 496 497 498 159 2 214 215 .none .none .none 216 499 500),
  (218,Zf "_law_entries" "_law_entries" (top 35) Zm (.ref 217)),
  (224,Zk "_law_alike" "_law_alike" 502 503 504 169 2 219 220 (.none) (.ref 221) (.ref 222) 223 509 510),
  (225,Zf "_law_alike" "_law_alike" (top 36) Zm (.ref 224)),
  (231,Zk "law" "law" 512 513 514 181 1 226 227 (.none) (.ref 228) (.ref 229) 230 528 529),
  (232,Zf "law" "law" (top 37) Zm (.ref 231))]
noncomputable def AA:List Addr:=[3,20,21,30,31,50,51,59,60,64,65,69,70,76,77,83,84,90,91,97,98,104,105,111,112,118,119,123,124,130,131,137,138,144,145,151,152,158,159,165,166,172,173,179,180,184,185,191,192,198,199,205,206,212,213,217,218,224,225,231,232]
noncomputable def VV:Program:={ PySem.Challenge.pw_pageback_k15_entries_made with main:={ PySem.Challenge.pw_pageback_k15_entries_made.main with body:=[1,3,4,6,7,8,9,11,12,13,14,16,17,18,20,21,22,24,25,26,27,28,29,30,31,32,33,34,35,36,37].map top } }
theorem ka(P:Params):AA=List.map (λx=>x.fst) (KK P):=by kernel_rfl
theorem hl:PySem.W.LeftO PySem.Challenge.pw_pageback_k15_entries_made VV [] (λs=>PySem.W.xlAt VV [] s && PySem.W.recOk PySem.Challenge.rw_pageback_k15_entries_made.row.records s) (PySem.W.kHook KK AA ka).obs (PySem.W.kHook KK AA ka).val 2914:=λw=>by kernel_rfl
end K15
namespace L2
open PySem PySem.Spec PyProof.Rows
noncomputable abbrev Key:=Sum Int Str
noncomputable def zlf:Key->Value->Bool
 |.inl k,v=>Value.isInt k v
 |.inr x,v=>Value.isStrOf x v
noncomputable def ybp(w:World):Key->Int
 |.inl k=>hashInt k
 |.inr x=>hashStr w x
theorem za6:∀{k:Key}{v:Value},zlf k v=true->(∃i t,k=Sum.inl i/\v=Value.int i t)\/(∃x t,k=Sum.inr x/\v=Value.str x t)
 |.inl i,v,h=>by
  obtain⟨t,e⟩:=Value.isInt_shape (k:=i) (v:=v) h;exact .inl ⟨i,t,rfl,e⟩
 |.inr x,v,h=>by
  obtain⟨t,e⟩:=Value.isStrOf_shape (x:=x) (v:=v) h;exact .inr ⟨x,t,rfl,e⟩
theorem zp0(i:Int)(t:Tok):zlf (.inl i) (.int i t)=true:=by simp[zlf,Value.isInt]
theorem zp1(x:Str)(t:Tok):zlf (.inr x) (.str x t)=true:=by simp[zlf,Value.isStrOf]
theorem z2x(a b:Int):decide ((Sum.inl a:Key)=Sum.inl b)=(a == b):=by
 by_cases e:a=b
 ·subst e;simp
 ·have h:¬(Sum.inl a:Key)=Sum.inl b:=λq=>e (nu q)
  rw[md h];exact(pi.mpr e).symm
theorem z2y(a b:Str):decide ((Sum.inr a:Key)=Sum.inr b)=decide (a=b):=by
 by_cases e:a=b
 ·subst e;simp
 ·have h:¬(Sum.inr a:Key)=Sum.inr b:=λq=>e (Sum.inr.inj q)
  rw[md h,md e]
theorem z2z(a:Int)(b:Str):decide ((Sum.inl a:Key)=Sum.inr b)=false:=md (λq=>nomatch q)
theorem z20(a:Str)(b:Int):decide ((Sum.inr a:Key)=Sum.inl b)=false:=md (λq=>nomatch q)
noncomputable def zbh(prog:Program)(w:World):PySem.KeyKind prog w Key where
 is:=zlf
 hash:=ybp w
 inj:=λv a b ha hb=>by
  rcases za6 ha with⟨i,t,rfl,rfl⟩|⟨x,t,rfl,rfl⟩
  ·rcases za6 hb with⟨j,u,rfl,e⟩|⟨y,u,rfl,e⟩
   ·injection e with e1 _;rw[e1]
   ·exact nomatch e
  ·rcases za6 hb with⟨j,u,rfl,e⟩|⟨y,u,rfl,e⟩
   ·exact nomatch e
   ·injection e with e1 _;rw[e1]
 byValue:=λk v h=>by
  rcases za6 h with⟨i,t,rfl,rfl⟩|⟨x,t,rfl,rfl⟩ <;> rfl
 pyHash:=λhv h=>by
  rcases za6 hv with⟨i,t,rfl,rfl⟩|⟨x,t,rfl,rfl⟩
  ·exact rn h
  ·exact vn h
 eqBool:=λhu hv h=>by
  rcases za6 hu with⟨i,t,rfl,rfl⟩|⟨x,t,rfl,rfl⟩
  ·rcases za6 hv with⟨j,u,rfl,rfl⟩|⟨y,u,rfl,rfl⟩
   ·rw[z2x]at h;exact wpAny_eqBool_int h
   ·rw[z2z]at h;exact SeqAt.EqAt.int_str i t y u _ _ _ _ h
  ·rcases za6 hv with⟨j,u,rfl,rfl⟩|⟨y,u,rfl,rfl⟩
   ·rw[z20]at h;exact SeqAt.EqAt.str_int x t j u _ _ _ _ h
   ·rw[z2y]at h;exact wpAny_eqBool_str h
 «strs»:=λk x t v h=>by
  rcases za6 h with⟨i,u,rfl,e⟩|⟨y,u,rfl,e⟩
  ·exact nomatch e
  ·injection e with e1 _
   subst e1
   cases v <;> rfl
theorem zlg(prog:Program)(w:World)(i:Int)(t:Tok):(zbh prog w).is (.inl i) (.int i t)=true:=zp0 i t
theorem zlh(prog:Program)(w:World)(x:Str)(t:Tok):(zbh prog w).is (.inr x) (.str x t)=true:=zp1 x t
inductive V where
 |non|bl (b:Bool)|int (i:Int)|str (x:Str)|byt (b:Array UInt8)|flt (b:UInt64)|ref (a:Addr)|ty (n:String)
 deriving DecidableEq
def zbf:V->Value->Prop
 |.non,u=>u=Value.none
 |.bl b,u=>u=Value.bool b
 |.int i,u=>∃t,u=Value.int i t
 |.str x,u=>∃t,u=Value.str x t
 |.byt b,u=>∃t,u=Value.bytes b t
 |.flt b,u=>∃t,u=Value.float b t
 |.ref a,u=>u=Value.ref a
 |.ty n,u=>u=Value.type n
abbrev zbs:List V->List Value->Prop:=Paired zbf
theorem zbs.length{xs:List V}{us:List Value}(r:zbs xs us):xs.length=us.length:=Paired.length r
theorem zbs.get:∀{xs:List V}{us:List Value}{i:Nat}{x:V},zbs xs us->xs[i]?=some x->∃u,us[i]?=some u/\zbf x u
 |_,_,_,_,.nil,e=>by simp at e
 |_,_,0,_,.cons r _,e=>by simp at e;subst e;exact⟨_,rfl,r⟩
 |_,_,i+1,x,.cons _ t,e=>by
  obtain⟨u,h1,h2⟩:=zbs.get (i:=i) (x:=x) t (by simpa using e);exact⟨u,by simpa using h1,h2⟩
theorem zbs.set{x:V}{u:Value}(r:zbf x u):∀{xs:List V}{us:List Value} (i:Nat),zbs xs us->zbs (xs.set i x) (us.set i u)
 |_,_,_,.nil=>.nil
 |_,_,0,.cons _ t=>.cons r t
 |_,_,i+1,.cons q t=>.cons q (zbs.set r i t)
theorem zbs.append:∀{xs ys:List V}{us ws:List Value},zbs xs us->zbs ys ws->zbs (xs++ys) (us++ws)
 |_,_,_,_,.nil,s=>s
 |_,_,_,_,.cons r t,s=>.cons r (zbs.append t s)
theorem zbs.take:∀{xs:List V}{us:List Value} (n:Nat),zbs xs us->zbs (xs.take n) (us.take n)
 |_,_,0,_=>.nil
 |_,_,_+1,.nil=>.nil
 |_,_,n+1,.cons r t=>.cons r (zbs.take n t)
theorem zbs.drop:∀{xs:List V}{us:List Value} (n:Nat),zbs xs us->zbs (xs.drop n) (us.drop n)
 |_,_,0,r=>r
 |_,_,_+1,.nil=>.nil
 |_,_,n+1,.cons _ t=>zbs.drop n t
def zmv:Option V->Option Value->Prop
 |some v,some u=>zbf v u
 |none,none=>True
 |_,_=>False
def KV{κ:Type}:List (κ×V)->List (κ×Value)->Prop:=Paired λ(p:κ×V) (q:κ×Value)=>p.1=q.1/\zbf p.2 q.2
noncomputable def kV:Key->V
 |.inl i=>.int i
 |.inr x=>.str x
inductive HO where
 |lst (xs:List V)
 |tup (xs:List V)
 |dK (kvs:List (Key×V))|dT (kvs:List (List Key×V))
 |set (S:Int->Bool) (n:Nat)
 |ins (C dx:Addr) (fs:List (Str×V))
 |own (x:Addr)
 |xd (fs:List (Str×V))
 |met (f x:Addr)
 |rng (lo hi:Int)
 |frz (o:Obj) (u:HO)
 |tbl (ps:Array Value)
 |ext (φ:Heap->Prop)
noncomputable abbrev Hp:=Addr->Option HO
noncomputable def upd(H:Hp)(a:Addr)(o:HO):Hp:=λb=>if b=a then some o else H b
theorem zac{H:Hp}{a:Addr}{o:HO}:upd H a o a=some o:=by unfold upd;rw[ba rfl]
theorem zae{H:Hp}{a b:Addr}{o:HO}(h:b≠a):upd H a o b=H b:=by unfold upd;rw[oa h]
theorem z21{H:Hp}{a b:Addr}{o u:HO}(h:H a=some o)(h':H b=some u)(d:o≠u):a≠b:=by
 intro e;subst e;rw[h]at h';exact d (vc h')
theorem zai{H:Hp}{a b:Addr}{o:HO}(h:H a=some o)(h':H b=none):a≠b:=by
 intro e;subst e;rw[h]at h';cases h'
section
variable (P:Program)(w:World)
def zbi(H:Hp)(h:Heap)(a:Addr):HO->Prop
 |.lst xs=>xs.length<=sizeLine/\∃(its:List Value) (n:Nat),zbs xs its/\h.get? a=some { cls:=.type "list",data:=.seq its.toArray n }
 |.tup xs=>xs.length<=sizeLine/\∃its:List Value,zbs xs its/\IsTup h a its.toArray
 |.dK kvs=>kvs.length<=sizeLine/\(a == sysModules)=false/\∃vs,KV kvs vs/\h.DictOf (zbh P w) a vs
 |.dT kvs=>kvs.length<=sizeLine/\(a == sysModules)=false/\∃xs:List (List Key×Addr×Value),
   Paired (λ(p:List Key×V) (q:List Key×Addr×Value)=>p.1=q.1/\H q.2.1=some (.tup (p.1.map kV))/\zbf p.2 q.2.2) kvs xs ∧
   ∃o es ep,h.get? a=some o/\o.ExactDict/\o.data=.dict es ep/\es.toList=xs.map (entryOfKey (tupleKind (zbh P w)))/\(xs.map (·.1)).Nodup
 |.set S n=>h.SetOf (intKind P w) a S n
 |.ins C dx fs=>H dx=some (.own a)/\fs.length<=1000/\dx≠a/\h.get? a=some (PySem.W.instObj C dx) ∧
   ∃mA,h.Ns1 dx mA/\(∀f,zmv (fs.lookup f) (mA f))/\PySem.Within mA (fs.map (·.1))
 |.own _=>∃o,h.get? a=some o
 |.xd fs=>∃mA,h.Ns1 a mA/\∀f,zmv (fs.lookup f) (mA f)
 |.rng lo hi=>∃t u v,h.get? a=some { cls:=.type "range",data:=.fields #[.int lo t,.int hi u,.int 1 v] }
 |.frz o u=>h.get? a=some o/\zbi H h a u
 |.tbl ps=>h.get? a=some { cls:=.none,data:=.fields ps }
 |.met f x=>h.get? a=some (PySem.W.methodObj (.ref f) (.ref x))
 |.ext φ=>φ h/\(∃o,h.get? a=some o)/\∀h1 h2:Heap,φ h1->(∀o,h1.get? a=some o->h2.get? a=some o)->φ h2
def HOk(H:Hp)(h:Heap):Prop:=∀a o,H a=some o->zbi P w H h a o
end
section
variable {P:Program}{w:World}{H H':Hp}{h h':Heap}{a:Addr}{o:HO}
theorem zbi.lt(x:zbi P w H h a o):a<h.objs.size:=by
 cases o with
 |lst xs=>obtain⟨_,_,_,_,e⟩:=x;exact wb e
 |tup xs=>obtain⟨_,_,_,p⟩:=x;exact p.lt
 |dK kvs=>obtain⟨_,_,_,_,o,_,_,e,_⟩:=x;exact wb e
 |dT kvs=>obtain⟨_,_,_,_,o,_,_,e,_⟩:=x;exact wb e
 |set S n=>obtain⟨o,_,_,_,e,_⟩:=x;exact wb e
 |ins C dx fs=>obtain⟨_,_,_,e,_⟩:=x;exact wb e
 |own y=>obtain⟨_,e⟩:=x;exact wb e
 |xd fs=>obtain⟨_,⟨_,_,_,e,_⟩,_⟩:=x;exact wb e
 |rng lo hi=>obtain⟨_,_,_,e⟩:=x;exact wb e
 |frz ob u=>obtain⟨e,_⟩:=x;exact wb e
 |tbl ps=>exact wb (show h.get? a=some _ from x)
 |met f y=>exact wb (show h.get? a=some _ from x)
 |ext φ=>obtain⟨_,⟨_,e⟩,_⟩:=x;exact wb e
theorem Paired.mapP{α β:Type}{F G:α->β->Prop}:∀{l₁:List α}{l₂:List β},Paired F l₁ l₂->(∀a b,F a b->G a b)->Paired G l₁ l₂
 |_,_,.nil,_=>.nil
 |_,_,.cons r t,f=>.cons (f _ _ r) (Paired.mapP t f)
theorem zbi.stay(x:zbi P w H h a o)(k:∀b u,(b=a\/H b=some (.own a))->h.get? b=some u->h'.get? b=some u)
  (ho:∀b,H b=some (.own a)->H' b=some (.own a)) (ht:∀b xs,H b=some (.tup xs)->H' b=some (.tup xs)):zbi P w H' h' a o:=by
 induction o with
 |lst xs=>obtain⟨z,its,n,r,e⟩:=x;exact⟨z,its,n,r,k _ _ (.inl rfl) e⟩
 |tup xs=>obtain⟨z,its,r,ob,e,c⟩:=x;exact⟨z,its,r,ob,k _ _ (.inl rfl) e,c⟩
 |dK kvs=>obtain⟨z,y,vs,r,ob,es,ep,e,c⟩:=x;exact⟨z,y,vs,r,ob,es,ep,k _ _ (.inl rfl) e,c⟩
 |dT kvs =>
  obtain⟨z,y,xs,r,ob,es,ep,e,c⟩:=x;exact⟨z,y,xs,Paired.mapP r λp q z=>⟨z.1,ht _ _ z.2.1,z.2.2⟩,ob,es,ep,k _ _ (.inl rfl) e,c⟩
 |set S n=>obtain⟨ob,es,ep,t,e,c⟩:=x;exact⟨ob,es,ep,t,k _ _ (.inl rfl) e,c⟩
 |ins C dx fs =>
  obtain⟨d,z,ne,e,mA,⟨od,es,ep,e2,c⟩,r⟩:=x;exact⟨ho _ d,z,ne,k _ _ (.inl rfl) e,mA,⟨od,es,ep,k _ _ (.inr d) e2,c⟩,r⟩
 |own y=>obtain⟨ob,e⟩:=x;exact⟨ob,k _ _ (.inl rfl) e⟩
 |xd fs=>obtain⟨mA,⟨od,es,ep,e,c⟩,r⟩:=x;exact⟨mA,⟨od,es,ep,k _ _ (.inl rfl) e,c⟩,r⟩
 |rng lo hi=>obtain⟨t,u,v,e⟩:=x;exact⟨t,u,v,k _ _ (.inl rfl) e⟩
 |frz ob u ih=>obtain⟨e,q⟩:=x;exact⟨k _ _ (.inl rfl) e,ih q⟩
 |tbl ps =>
  have e:h.get? a=some { cls:=.none,data:=.fields ps }:=x;show h'.get? a=some { cls:=.none,data:=.fields ps };exact k a _ (.inl rfl) e
 |met f y =>
  have e:h.get? a=some (PySem.W.methodObj (.ref f) (.ref y)):=x;show h'.get? a=some (PySem.W.methodObj (.ref f) (.ref y));exact k a _ (.inl rfl) e
 |ext φ=>obtain⟨p,⟨o,e⟩,st⟩:=x;exact⟨st _ _ p λo q=>k _ _ (.inl rfl) q,⟨o,k _ _ (.inl rfl) e⟩,st⟩
theorem HOk.lt(x:HOk P w H h)(e:H a=some o):a<h.objs.size:=(x a o e).lt
theorem HOk.fresh(x:HOk P w H h)(e:h.objs.size<=a):H a=none:=by
 cases q:H a with
 |none=>rfl
 |some u=>exact absurd (dc (x.lt q) e) (zg _)
theorem HOk.kept(x:HOk P w H h)(k:∀b u,h.get? b=some u->h'.get? b=some u):HOk P w H h':=λa o e =>
 (x a o e).stay (λb u _ q=>k b u q) (λ_ q=>q) λ_ _ q=>q
theorem HOk.laid(x:HOk P w H h)(k:∀b u,h.get? b=some u->h'.get? b=some u)(hp:h.objs.size<=a)(new:zbi P w (upd H a o) h' a o):HOk P w (upd H a o) h':=λb u e=>by
 have hn:=x.fresh hp;by_cases hb:b=a
 ·subst hb;rw[zac]at e;cases e;exact new
 ·rw[zae hb]at e
  exact(x b u e).stay (λc v _ q=>k c v q) (λc q=>by rw[zae (zai q hn)];exact q) λc xs q=>by rw[zae (zai q hn)];exact q
end
def Rd(H:Hp)(a:Addr)(u:HO):Prop:=H a=some u\/∃o,H a=some (.frz o u)
theorem Rd.of{H:Hp}{a:Addr}{u:HO}(h:H a=some u):Rd H a u:=.inl h
theorem Rd.ok{P:Program}{w:World}{H:Hp}{h:Heap}{a:Addr}{u:HO}(r:Rd H a u)(x:HOk P w H h):zbi P w H h a u:=by
 rcases r with r|⟨o,r⟩
 ·exact x a u r
 ·obtain⟨_,q⟩:=x a _ r
  exact q
def Mut:Option HO->Prop
 |some (.lst _)=>True
 |some (.dK _)=>True
 |some (.dT _)=>True
 |some (.set _ _)=>True
 |some (.ins _ _ _)=>True
 |some (.ext _)=>True
 |_=>False
section
variable {P:Program}{w:World}{H:Hp}{h h':Heap}{x e:Addr}{o':HO}
theorem HOk.write(ok:HOk P w H h)(mu:Mut (H x))(he:e=x\/H e=some (.own x))(k:∀b u,b≠e->h.get? b=some u->h'.get? b=some u)(heo:∃u,h'.get? e=some u)
  (new:zbi P w (upd H x o') h' x o'):HOk P w (upd H x o') h':=λb u q=>by
 have nown:∀c y,H c=some (.own y)->c≠x:=λc y r z=>by subst z;rw[r]at mu;exact mu
 have ntup:∀c xs,H c=some (.tup xs)->c≠x:=λc xs r z=>by subst z;rw[r]at mu;exact mu
 by_cases hb:b=x
 ·subst hb;rw[zac]at q;cases q;exact new
 ·rw[zae hb]at q
  by_cases hbe:b=e
  ·have q':H b=some (.own x):=by
    rcases he with z|z
    ·exact absurd (hbe.trans z) hb
    ·rw[hbe];exact z
   rw[q]at q';cases q';obtain⟨v,hv⟩:=heo;exact⟨v,by rw[hbe];exact hv⟩
  ·refine(ok b u q).stay (λc v hc r=>k c v ?_ r) (λc r=>by rw[zae (nown c b r)];exact r) λc xs r=>by rw[zae (ntup c xs r)];exact r
   rcases hc with rfl|hc
   ·exact hbe
   ·rintro rfl
    rcases he with z|z
    ·exact nown c b hc z
    ·rw[hc]at z;cases z;exact hb rfl
end
structure Un(fs ex:List Addr)(H H':Hp)(h h':Heap):Prop where
 keep:∀b o,h.get? b=some o->H b=none->b ∉ fs->b ∉ ex->h'.get? b=some o
 slot:∀b o,h.get? b=some o->H b=none->b∈fs->b ∉ ex->∃sl,h'.get? b=some { o with slots:=sl }
 free:∀b o,h.get? b=some o->H b=none->b ∉ ex->H' b=none
 there:∀b o,h.get? b=some o->b ∉ ex->∃o',h'.get? b=some o'
 tups:∀b xs,H b=some (.tup xs)->H' b=some (.tup xs)
 frzs:∀b o u,H b=some (.frz o u)->H' b=some (.frz o u)
 tbls:∀b ps,H b=some (.tbl ps)->∃zpz,H' b=some (.tbl (ps++zpz))
section
variable {fs fs' ex ex':List Addr}{H H1 H2:Hp}{h h1 h2 h':Heap}{a x e:Addr}{o:HO}
theorem Un.any(u:Un fs ex H H1 h h1){b:Addr}{ob:Obj}(q:h.get? b=some ob)(n:H b=none)(hx:b ∉ ex):∃sl,h1.get? b=some { ob with slots:=sl }:=by
 by_cases hb:b∈fs
 ·exact u.slot b ob q n hb hx
 ·exact⟨ob.slots,u.keep b ob q n hb hx⟩
theorem Un.kept(k:∀b u,h.get? b=some u->h'.get? b=some u):Un fs ex H H h h' :=
 ⟨λb ob q _ _ _=>k b ob q,λb ob q _ _ _=>⟨ob.slots,k b ob q⟩,λ_ _ _ n _=>n,λb ob q _=>⟨ob,k b ob q⟩,λ_ _ q=>q,λ_ _ _ q=>q,λ_ ps q=>⟨#[],by rw[q];simp⟩⟩
theorem Un.refl:Un fs ex H H h h:=Un.kept λ_ _ q=>q
theorem Un.laid(k:∀b u,h.get? b=some u->h'.get? b=some u)(hp:h.objs.size<=a)(hn:H a=none):Un fs ex H (upd H a o) h h' where
 keep:=λb u q _ _ _=>k b u q
 slot:=λb u q _ _ _=>⟨u.slots,k b u q⟩
 free:=λb u q n _=>by rw[zae (yd (dc (wb q) hp))];exact n
 there:=λb u q _=>⟨u,k b u q⟩
 tups:=λb xs q=>by rw[zae (zai q hn)];exact q
 frzs:=λb u xs q=>by rw[zae (zai q hn)];exact q
 tbls:=λb ps q=>⟨#[],by rw[zae (zai q hn),q];simp⟩
theorem Un.write(mu:Mut (H x))(he:e=x\/H e=some (.own x))(k:∀b u,b≠e->h.get? b=some u->h'.get? b=some u)(heo:∃u,h'.get? e=some u):Un fs ex H (upd H x o) h h':=by
 have hx:∀b,H b=none->b≠x:=λb n z=>by subst z;rw[n]at mu;exact mu
 have hb:∀b,H b=none->b≠e:=λb n z=>by
  subst z;rcases he with r|r
  ·exact hx b n r
  ·rw[n]at r;cases r
 have hm:∀b u,H b=some u->¬Mut (some u)->b≠x:=λb u q nm z=>by subst z;rw[q]at mu;exact nm mu
 refine⟨λ b u q n _ _=>k b u (hb b n) q,λ b u q n _ _=>⟨u.slots,k b u (hb b n) q⟩,λ b u q n _=>by rw[zae (hx b n)];exact n,λ b u q _=>?_,
  λb xs q=>by rw[zae (hm b _ q λz=>z)];exact q,λb u xs q=>by rw[zae (hm b _ q λz=>z)];exact q,λb ps q=>⟨#[],by rw[zae (hm b _ q λz=>z),q];simp⟩⟩
 by_cases hbe:b=e
 ·subst hbe;exact heo
 ·exact⟨u,k b u hbe q⟩
end
noncomputable def trk(h:Heap)(H:Hp):List Addr:=(List.range h.objs.size).filter λa=>(H a).isSome
noncomputable def zuc(h:Heap)(H:Hp):Heap:=PySem.W.hideAll h (trk h H)
theorem zp2(h:Heap)(H:Hp):(zuc h H).objs.size=h.objs.size:=PySem.W.hideAll_size _ _
theorem zud{h:Heap}{H:Hp}{b:Addr}{o:Obj}(e:h.get? b=some o)(n:H b=none):(zuc h H).get? b=some o :=
 PySem.W.hideAll_get _ e λhm=>by
  have q:(H b).isSome=true:=(ai.mp hm).2;rw[n]at q;simp at q
theorem zze{h:Heap}{H:Hp}{b:Addr}{o:Obj}(e:(zuc h H).get? b=some o):h.get? b=some o/\H b=none:=by
 have e':h.get? b=some o:=PySem.W.of_hideAll (trk h H) e;refine⟨e',?_⟩
 cases q:H b with
 |none=>rfl
 |some x =>
  have hm:b∈trk h H:=ai.mpr ⟨df.mpr (wb e'),by simp[q]⟩;have z:(zuc h H).get? b=none:=PySem.W.hideAll_none (trk h H) hm;rw[z]at e;cases e
structure Mod(K:PySem.W.Frag)(mg:Str->Option Value)(base:Heap):Prop where
 kin:K.In base
 glob:base.Ns mainGlobals mg
 blt:∃mb,base.Ns builtinsNs mb/\∀x:Str,x ≠ "__name__" -> mb x=bootBuiltins x
 nolimit:base.NoLimit
structure Cx where
 prog:Program
 w:World
 K:PySem.W.Frag
 mg:Str->Option Value
 base:Heap
 A:Around
 N:List Str
 s₀:Shared
 H₀:Hp
 env:Env
 outer:List Env
 stack:List Env
 ex:List Addr
 fn:Str->Bool
 calm:Bool
 pn:List (Addr×Obj)
 xe:Value->Shared->Prop
noncomputable def frs(l:List Env):List Addr:=l.filterMap (·.frame)
noncomputable abbrev Cx.fs(X:Cx):List Addr:=frs X.outer
def Vis(sc:Scope)(x:Str):Prop:=sc.names.lookup x=some .local\/sc.names.lookup x=some .cell\/sc.names.lookup x=some .free
def Loc(sc:Scope)(x:Str):Prop:=sc.names.lookup x=some .local\/sc.names.lookup x=some .cell
def ybq(env:Env)(h:Heap)(m:Str->Option Value)(x:Str)(u:Value):Prop :=
 (env.kindOf x=some .local/\m x=some u)\/((env.kindOf x=some .cell\/env.kindOf x=some .free)/\∃c,env.cells.lookup x=some c/\h.IsCell c (some u))
structure Cx.Ok(X:Cx):Prop where
 mod:Mod X.K X.mg X.base
 kind:X.env.scope.kind=.function
 glob:X.env.globals=mainGlobals
 blt:X.env.builtins=builtinsNs
 above:X.s₀.heap.objs.size<=X.env.locals
 inj:∀x y c,X.env.cells.lookup x=some c->X.env.cells.lookup y=some c->x=y
 has:∀x,(X.env.kindOf x=some .cell\/X.env.kindOf x=some .free)->∃c,X.env.cells.lookup x=some c
 cab:∀x c,X.fn x=true->X.env.cells.lookup x=some c->X.s₀.heap.objs.size<=c
 hd:X.calm=true->X.A.handled=none
 frames:X.A.frames=some X.stack
 stk:X.stack=X.outer\/(X.stack=X.env::X.outer/\X.env.frame=some X.env.locals)
 exf:∀b∈X.ex,b≠X.env.locals/\∀x c,X.env.cells.lookup x=some c->c≠b
 bs:∀b o,X.base.get? b=some o->X.s₀.heap.get? b=some o/\X.H₀ b=none
 bsz:X.base.objs.size<=X.s₀.heap.objs.size
 noex:∀b o,X.base.get? b=some o->b ∉ X.ex
 exfs:∀b∈X.ex,b ∉ X.fs
 funs:X.s₀.heap.FunFrames X.base X.outer
 frf:∀b∈X.fs,X.H₀ b=none
structure Inv(X:Cx)(pins:List (Addr×Obj))(σ:List (Option V))(H:Hp)(s:Shared):Prop where
 ok:X.Ok
 os:s.os=X.s₀.os
 bare:AllBare s.gens
 base:Un X.fs X.ex X.H₀ H X.s₀.heap s.heap
 loc:∃m,s.heap.Ns X.env.locals m/\∀(i:Nat) (x:Str) (v:V),X.N[i]?=some x->σ[i]?=some (some v)->Vis X.env.scope x->∃u,zbf v u/\ybq X.env s.heap m x u
 cell:∀x c,X.env.cells.lookup x=some c->∃v,s.heap.IsCell c v
 free:H X.env.locals=none
 freeC:∀x c,X.env.cells.lookup x=some c->H c=none
 pin:∀p∈X.pn++pins,s.heap.get? p.1=some p.2/\H p.1=none/\p.1≠X.env.locals/\p.1 ∉ X.fs/\∀v,p.2.data≠.cell v
 hok:HOk X.prog X.w H s.heap
 len:σ.length=X.N.length
section
variable {X:Cx}{pins:List (Addr×Obj)}{σ:List (Option V)}{H H':Hp}{s:Shared}{h':Heap}
theorem Cx.Ok.nofr(ok:X.Ok){b:Addr}{o:Obj}(e:X.base.get? b=some o):b ∉ X.fs:=λhb=>by
 have:=(ok.funs.mem hb).1
 rw[e]at this;cases this
theorem Inv.bs(I:Inv X pins σ H s):∀b o,X.base.get? b=some o->s.heap.get? b=some o/\H b=none:=λb o e =>
 ⟨I.base.keep b o (I.ok.bs b o e).1 (I.ok.bs b o e).2 (I.ok.nofr e) (I.ok.noex b o e),I.base.free b o (I.ok.bs b o e).1 (I.ok.bs b o e).2 (I.ok.noex b o e)⟩
theorem Inv.bk(I:Inv X pins σ H s):∀b o,X.base.get? b=some o->s.heap.get? b=some o:=λb o e=>(I.bs b o e).1
theorem Inv.mod(I:Inv X pins σ H s):Mod X.K X.mg X.base:=I.ok.mod
theorem Inv.kIn(I:Inv X pins σ H s):X.K.In s.heap:=I.ok.mod.kin.keeps I.bk
theorem Inv.lt(I:Inv X pins σ H s):X.env.locals<s.heap.objs.size:=let ⟨_,hn,_⟩:=I.loc;hn.lt
theorem Inv.sz(I:Inv X pins σ H s):X.s₀.heap.objs.size<=s.heap.objs.size:=ie I.ok.above (cu I.lt)
theorem Inv.nofs(I:Inv X pins σ H s){a:Addr}(h:s.heap.objs.size<=a):a ∉ X.fs:=λhb=>by
 obtain⟨_,o,ho,_⟩:=I.ok.funs.mem hb
 exact absurd (dc (wb ho) (ie I.sz h)) (zg _)
theorem Inv.cne(I:Inv X pins σ H s):∀x c,X.env.cells.lookup x=some c->c≠X.env.locals:=λx c e z=>by
 obtain⟨v,o,ho,hd⟩:=I.cell x c e;obtain⟨m,⟨o',es,ep,ho',hd',_⟩,_⟩:=I.loc;rw[z,ho']at ho;cases ho;rw[hd']at hd;cases hd
theorem Inv.funs(I:Inv X pins σ H s):s.heap.FunFrames X.base X.outer:=by
 have all:∀(l:List Env),(∀b∈frs l,b∈X.fs)->X.s₀.heap.FunFrames X.base l->s.heap.FunFrames X.base l:=by
  intro l
  induction l with
  |nil=>intro _ _;trivial
  |cons env r ih =>
   intro hs hl;obtain⟨hk,⟨L,o,hf,hn,ho,hd⟩,hr⟩:=hl;have hL:L∈X.fs:=hs L (by unfold frs;rw[cm,hf];exact za);obtain⟨sl,e⟩:=I.base.slot L o ho (I.ok.frf L hL) hL λz=>I.ok.exfs L z hL
   exact⟨hk,⟨L,_,hf,hn,e,hd⟩,ih (λb hb=>hs b (by unfold frs;rw[cm,hf];exact da _ hb)) hr⟩
 exact all X.outer (λ_ hb=>hb) I.ok.funs
theorem Inv.stack(I:Inv X pins σ H s):s.heap.FunFrames X.base X.stack:=by
 rcases I.ok.stk with e|⟨e,hf⟩
 ·rw[e];exact I.funs
 ·rw[e]
  obtain⟨m,hn,_⟩:=I.loc;refine .cons (by rw[I.ok.kind];decide) hf hn ?_ I.funs
  exact Heap.get?_none_of_le (ie I.ok.bsz I.ok.above)
theorem Inv.stkSub(I:Inv X pins σ H s):∀b∈frs X.stack,b∈X.env.locals::X.fs:=λb hb=>by
 rcases I.ok.stk with e|⟨e,hf⟩
 ·rw[e]at hb;exact da _ hb
 ·rw[e]at hb
  unfold frs at hb;rw[cm,hf]at hb;exact hb
theorem Inv.stkFree(I:Inv X pins σ H s):∀b∈frs X.stack,H b=none:=λb hb=>by
 rcases yb.mp (I.stkSub b hb) with e|hb
 ·rw[e];exact I.free
 ·obtain⟨_,o,ho,_⟩:=I.ok.funs.mem hb
  exact I.base.free b o ho (I.ok.frf b hb) λz=>I.ok.exfs b z hb
theorem Inv.step{g':Array GenState}{t':Nat}{d':Drawn}{ch:List Addr}(I:Inv X pins σ H s)
  (hch:∀b∈ch,(b∈X.ex\/X.s₀.heap.objs.size<=b)/\b≠X.env.locals/\(∀x c,X.env.cells.lookup x=some c->c≠b)/\∀p∈X.pn++pins,p.1≠b)
  (keep:∀b o,b≠X.env.locals->b ∉ X.fs->b ∉ ch->s.heap.get? b=some o->H b=none->h'.get? b=some o)
  (slot:∀b o,b≠X.env.locals->b∈X.fs->b ∉ ch->s.heap.get? b=some o->H b=none->∃sl,h'.get? b=some { o with slots:=sl }) (free:∀b o,b ∉ ch->s.heap.get? b=some o->H b=none->H' b=none)
  (there:∀b o,b ∉ ch->s.heap.get? b=some o->∃o',h'.get? b=some o')
  (tups:∀b xs,H b=some (.tup xs)->H' b=some (.tup xs)) (frzs:∀b o u,H b=some (.frz o u)->H' b=some (.frz o u)) (tbls:∀b ps,H b=some (.tbl ps)->∃zpz,H' b=some (.tbl (ps++zpz)))
  (ns:∀m,s.heap.Ns X.env.locals m->h'.Ns X.env.locals m) (hok:HOk X.prog X.w H' h') (hg:AllBare g') :
  Inv X pins σ H' { s with heap:=h',gens:=g',drawn:=d',toks:=t' }:=by
 have neL:∀b o,X.s₀.heap.get? b=some o->b≠X.env.locals:=λb o e=>yd (dc (wb e) I.ok.above)
 have neC:∀b o,X.s₀.heap.get? b=some o->b ∉ X.ex->b ∉ ch:=λb o e hx hb=>by
  rcases(hch b hb).1 with z|z
  ·exact hx z
  ·exact absurd (dc (wb e) z) (zg _)
 have cellK:∀x c,X.env.cells.lookup x=some c->∀v,s.heap.IsCell c v->h'.IsCell c v:=λx c e v ⟨o,ho,hd⟩=>by
  have nch:c ∉ ch:=λz=>(hch c z).2.2.1 x c e rfl
  by_cases hc:c∈X.fs
  ·obtain⟨sl,q⟩:=slot c o (I.cne x c e) hc nch ho (I.freeC x c e)
   exact⟨_,q,hd⟩
  ·exact⟨o,keep c o (I.cne x c e) hc nch ho (I.freeC x c e),hd⟩
 refine⟨I.ok,I.os,hg,⟨λb o e n hb hx=>?_,λb o e n hb hx=>?_,λb o e n hx=>?_,λb o e hx=>?_,λb xs e=>tups b xs (I.base.tups b xs e),λb o xs e=>frzs b o xs (I.base.frzs b o xs e),λb ps e=>?_⟩,?_,λx c e=>?_,?_,λx c e=>?_,λp hp=>?_,hok,I.len⟩
 ·exact keep b o (neL b o e) hb (neC b o e hx) (I.base.keep b o e n hb hx) (I.base.free b o e n hx)
 ·obtain⟨sl,e1⟩:=I.base.slot b o e n hb hx
  obtain⟨sl',e2⟩:=slot b _ (neL b o e) hb (neC b o e hx) e1 (I.base.free b o e n hx);exact⟨sl',e2⟩
 ·obtain⟨o',e1⟩:=I.base.there b o e hx
  exact free b o' (neC b o e hx) e1 (I.base.free b o e n hx)
 ·obtain⟨o',e1⟩:=I.base.there b o e hx
  exact there b o' (neC b o e hx) e1
 ·obtain⟨m1,e1⟩:=I.base.tbls b ps e
  obtain⟨m2,e2⟩:=tbls b _ e1;exact⟨m1++m2,by rw[e2,Array.append_assoc]⟩
 ·obtain⟨m,hn,hl⟩:=I.loc
  refine⟨m,ns m hn,λi x v e1 e2 e3=>?_⟩;obtain⟨u,r,l⟩:=hl i x v e1 e2 e3;refine⟨u,r,?_⟩;rcases l with l|⟨k,c,e,z⟩
  ·exact .inl l
  ·exact .inr ⟨k,c,e,cellK x c e _ z⟩
 ·obtain⟨v,z⟩:=I.cell x c e
  exact⟨v,cellK x c e v z⟩
 ·obtain⟨m,⟨o,_,_,ho,_⟩,_⟩:=I.loc
  exact free _ o (λz=>(hch _ z).2.1 rfl) ho I.free
 ·obtain⟨v,o,ho,hd⟩:=I.cell x c e
  exact free c o (λz=>(hch c z).2.2.1 x c e rfl) ho (I.freeC x c e)
 ·obtain⟨e,n,ne,nf,d⟩:=I.pin p hp
  have nch:p.1 ∉ ch:=λz=>(hch p.1 z).2.2.2 p hp rfl
  exact⟨keep p.1 p.2 ne nf nch e n,free p.1 p.2 nch e n,ne,nf,d⟩
theorem Inv.un{t':Nat}(I:Inv X pins σ H s)(u:Un X.fs [] H H' s.heap h')(hok:HOk X.prog X.w H' h'):Inv X pins σ H' { s with heap:=h',toks:=t' }:=by
 obtain⟨m,⟨o,es,ep,ho,r⟩,_⟩:=id I.loc;obtain⟨sl,hL⟩:=u.any ho I.free (by simp)
 exact I.step (g':=s.gens) (d':=s.drawn) (ch:=[]) (λ _ z=>nomatch z) (λ b o _ hb _ e n=>u.keep b o e n hb (by simp)) (λ b o _ hb _ e n=>u.slot b o e n hb (by simp)) (λ b o _ e n=>u.free b o e n (by simp)) (λ b o _ e=>u.there b o e (by simp)) u.tups u.frzs u.tbls (λ m' hm=>by
  obtain⟨o',es',ep',ho',r'⟩:=hm;rw[ho]at ho';cases ho';exact⟨_,es',ep',hL,r'⟩) hok I.bare
theorem Inv.call{g':Array GenState}{t':Nat}{d':Drawn}{ch:List Addr}(I:Inv X pins σ H s)(u:Un (frs X.stack) ch H H' s.heap h')(hok:HOk X.prog X.w H' h')(hg:AllBare g')
  (hch:∀b∈ch,(b∈X.ex\/X.s₀.heap.objs.size<=b)/\b≠X.env.locals/\(∀x c,X.env.cells.lookup x=some c->c≠b)/\∀p∈X.pn++pins,p.1≠b) :
  Inv X pins σ H' { s with heap:=h',gens:=g',drawn:=d',toks:=t' }:=by
 obtain⟨m,⟨o,es,ep,ho,r⟩,_⟩:=id I.loc;obtain⟨sl,hL⟩:=u.any ho I.free λz=>(hch _ z).2.1 rfl
 exact I.step (ch:=ch) hch (λ b o hL hb hc e n=>u.keep b o e n (λ z=>(List.mem_cons.mp (I.stkSub b z)).elim hL hb) hc) (λ b o _ _ hc e n=>u.any e n hc) (λ b o hc e n=>u.free b o e n hc) (λ b o hc e=>u.there b o e hc) u.tups u.frzs u.tbls (λ m' hm=>by
  obtain⟨o',es',ep',ho',r'⟩:=hm;rw[ho]at ho';cases ho';exact⟨_,es',ep',hL,r'⟩) hok hg
theorem Inv.turned{t':Nat}{it:Addr}(I:Inv X pins σ H s)(k:∀b o,b≠it->s.heap.get? b=some o->h'.get? b=some o)(hn:H it=none)(hL:it≠X.env.locals)
  (h1:it∈X.ex\/X.s₀.heap.objs.size<=it) (h2:∀x c,X.env.cells.lookup x=some c->c≠it) (h3:∀p∈X.pn++pins,p.1≠it):Inv X pins σ H { s with heap:=h',toks:=t' }:=by
 have nit:∀b u,H b=some u->b≠it:=λb u e z=>by rw[z,hn]at e;cases e
 refine I.step (g':=s.gens) (d':=s.drawn) (ch:=[it]) (λb hb=>?_) (λb o _ _ hc e _=>k b o (λz=>hc (by simp[z])) e) (λb o _ _ hc e _=>⟨o.slots,k b o (λz=>hc (by simp[z])) e⟩) (λ_ _ _ _ n=>n)
  (λb o hc e=>⟨o,k b o (λz=>hc (by simp[z])) e⟩) (λ_ _ e=>e) (λ_ _ _ e=>e) (λb ps e=>⟨#[],by rw[e];simp⟩) (λm hm=>?_) (λb u e=>?_) I.bare
 ·have e:b=it:=by simpa using hb
  subst e;exact⟨h1,hL,h2,h3⟩
 ·obtain⟨o,es,ep,ho,r⟩:=hm
  exact⟨o,es,ep,k _ o (gh hL) ho,r⟩
 ·refine(I.hok b u e).stay (λc v hc q=>k c v ?_ q) (λ_ q=>q) λ_ _ q=>q
  rcases hc with z|z
  ·rw[z];exact nit b u e
  ·exact nit c _ z
theorem Inv.tok(I:Inv X pins σ H s)(t:Nat):Inv X pins σ H { s with toks:=t }:=I.un (h':=s.heap) (t':=t) Un.refl I.hok
theorem Inv.kept{t':Nat}(I:Inv X pins σ H s)(k:∀b u,s.heap.get? b=some u->h'.get? b=some u):Inv X pins σ H { s with heap:=h',toks:=t' }:=I.un (Un.kept k) (I.hok.kept k)
theorem Inv.laid{a:Addr}{o:HO}{t':Nat}(I:Inv X pins σ H s)(k:∀b u,s.heap.get? b=some u->h'.get? b=some u)(hp:s.heap.objs.size<=a)(new:zbi X.prog X.w (upd H a o) h' a o) :
  Inv X pins σ (upd H a o) { s with heap:=h',toks:=t' }:=I.un (Un.laid k hp (I.hok.fresh hp)) (I.hok.laid k hp new)
theorem Inv.write{x e:Addr}{o:HO}{t':Nat}(I:Inv X pins σ H s)(mu:Mut (H x))(he:e=x\/H e=some (.own x))(k:∀b u,b≠e->s.heap.get? b=some u->h'.get? b=some u)(heo:∃u,h'.get? e=some u)
  (new:zbi X.prog X.w (upd H x o) h' x o):Inv X pins σ (upd H x o) { s with heap:=h',toks:=t' }:=I.un (Un.write mu he k heo) (I.hok.write mu he k heo new)
theorem Inv.weak{σ':List (Option V)}(I:Inv X pins σ H s)(hl:σ'.length=σ.length)(w:∀(i:Nat) v,σ'[i]?=some (some v)->σ[i]?=some (some v)):Inv X pins σ' H s :=
 ⟨I.ok,I.os,I.bare,I.base,let ⟨m,hn,hl'⟩:=I.loc;⟨m,hn,λi x v e1 e2 e3=>hl' i x v e1 (w i v e2) e3⟩,I.cell,I.free,I.freeC,I.pin,I.hok,hl.trans I.len⟩
theorem Inv.pins_of{pins':List (Addr×Obj)}(I:Inv X pins σ H s)(h:∀p∈pins',s.heap.get? p.1=some p.2/\H p.1=none/\p.1≠X.env.locals/\p.1 ∉ X.fs/\∀v,p.2.data≠.cell v):Inv X pins' σ H s :=
 ⟨I.ok,I.os,I.bare,I.base,I.loc,I.cell,I.free,I.freeC,λp hp=>(ac.mp hp).elim (λz=>I.pin p (tf _ z)) (h p),I.hok,I.len⟩
theorem zmw{N:List Str}(hN:N.Nodup){i j:Nat}{x:Str}(a:N[i]?=some x)(b:N[j]?=some x):i=j:=by
 obtain⟨h1,e1⟩:=ya.mp a;obtain⟨h2,e2⟩:=ya.mp b;exact(List.getElem_inj hN).mp (e1.trans e2.symm)
theorem zp3{M:Model}{A:Around}{E:Value->Shared->Prop}{i:Nat}{x:Str}{v:V}{u:Value}{Q:Unit->Shared->Prop}(I:Inv X pins σ H s)(hN:X.N.Nodup)(hi:X.N[i]?=some x)(hx:Loc X.env.scope x)(r:zbf v u)
  (h:∀s',Inv X pins (σ.set i (some v)) H s'->(∃a,Heap.SameBut a s.heap s'.heap/\(a=X.env.locals\/X.env.cells.lookup x=some a))->Q () s') (hf:X.fn x=true\/X.env.scope.names.lookup x=some .local:=by first|exact .inl rfl|exact .inr rfl|assumption):wpAny M A (storeName X.env x u) Q E s:=by
 obtain⟨m,hn,hl⟩:=id I.loc;have hcls:(X.env.scope.kind == .class || (X.env.scope.kind == .module && X.env.locals != X.env.globals))=false:=by rw[I.ok.kind];rfl
 have hiσ:i<σ.length:=by rw[I.len];exact(ya.mp hi).1
 have cne:=I.cne
 have tracked:∀{a:Addr} {h':Heap},(∃o,s.heap.get? a=some o/\H a=none)->Heap.SameBut a s.heap h'->HOk X.prog X.w H h':=λ{a h'} ha hs b ob e=>by
  obtain⟨_,_,hfree⟩:=ha;refine(I.hok b ob e).stay (λc w' hc q=>(hs.2 c ?_).trans q) (λ_ q=>q) λ_ _ q=>q
  rintro rfl;rcases hc with rfl|hc
  ·rw[hfree]at e;cases e
  ·rw[hfree]at hc;cases hc
 rcases hx with hk|hk
 ·refine wpAny_storeName_local hk hn (λh' hn' hs=>?_) hcls
  obtain⟨oL,_,_,hoL,_⟩:=id hn;refine h _ ⟨I.ok,I.os,I.bare,⟨λb o e n hb hx=>?_,λb o e n hb hx=>?_,I.base.free,λb o e hx=>?_,I.base.tups,I.base.frzs,I.base.tbls⟩,⟨_,hn',λj y v' e1 e2 e3=>?_⟩,λy c e=>?_,I.free,I.freeC,λp hp=>?_,tracked ⟨oL,hoL,I.free⟩ hs,by simpa using I.len⟩ ⟨_,hs,.inl rfl⟩
  ·exact(hs.2 b (yd (dc (wb e) I.ok.above))).trans (I.base.keep b o e n hb hx)
  ·obtain⟨sl,e1⟩:=I.base.slot b o e n hb hx
   exact⟨sl,(hs.2 b (yd (dc (wb e) I.ok.above))).trans e1⟩
  ·obtain⟨o',e1⟩:=I.base.there b o e hx
   exact⟨o',(hs.2 b (yd (dc (wb e) I.ok.above))).trans e1⟩
  ·by_cases hj:j=i
   ·subst hj
    rw[hi]at e1;cases e1;rw[jb hiσ]at e2;cases e2;exact⟨u,r,.inl ⟨hk,by simp⟩⟩
   ·rw[qa (gh hj)]at e2
    obtain⟨u',r',q⟩:=hl j y v' e1 e2 e3;refine⟨u',r',?_⟩;rcases q with⟨k,e⟩|⟨k,c,e,z⟩
    ·refine .inl ⟨k,?_⟩
     have:y≠x:=λe=>hj (zmw hN e1 (e ▸ hi))
     simp[this,e]
    ·exact .inr ⟨k,c,e,z.sameBut hs (cne y c e)⟩
  ·obtain⟨w',z⟩:=I.cell y c e
   exact⟨w',z.sameBut hs (cne y c e)⟩
  ·obtain⟨e,n,ne,nf,d⟩:=I.pin p hp
   exact⟨(hs.2 p.1 ne).trans e,n,ne,nf,d⟩
 ·have hfn:X.fn x=true:=by
   rcases hf with z|z
   ·exact z
   ·rw[z]at hk;cases hk
  obtain⟨c,hc⟩:=I.ok.has x (.inl hk);obtain⟨w',z⟩:=I.cell x c hc;refine wpAny_storeName_cell I.ok.kind hk hc z (λh' hc' hs=>?_);obtain⟨oc,hoc,hocd⟩:=id z;refine h { s with heap:=h' } ⟨I.ok,I.os,I.bare,⟨λb o e n hb hx=>?_,λb o e n hb hx=>?_,I.base.free,λb o e hx=>?_,I.base.tups,I.base.frzs,I.base.tbls⟩,⟨m,hn.sameBut hs (gh (cne x c hc)),λj y v' e1 e2 e3=>?_⟩,λy c' e=>?_,I.free,I.freeC,λp hp=>?_,tracked ⟨oc,hoc,I.freeC x c hc⟩ hs,by simpa using I.len⟩ ⟨c,hs,.inr hc⟩
  ·exact(hs.2 b (yd (dc (wb e) (I.ok.cab x c hfn hc)))).trans (I.base.keep b o e n hb hx)
  ·obtain⟨sl,e1⟩:=I.base.slot b o e n hb hx
   exact⟨sl,(hs.2 b (yd (dc (wb e) (I.ok.cab x c hfn hc)))).trans e1⟩
  ·obtain⟨o',e1⟩:=I.base.there b o e hx
   exact⟨o',(hs.2 b (yd (dc (wb e) (I.ok.cab x c hfn hc)))).trans e1⟩
  ·by_cases hj:j=i
   ·subst hj
    rw[hi]at e1;cases e1;rw[jb hiσ]at e2;cases e2;exact⟨u,r,.inr ⟨.inl hk,c,hc,hc'⟩⟩
   ·rw[qa (gh hj)]at e2
    obtain⟨u',r',q⟩:=hl j y v' e1 e2 e3;refine⟨u',r',?_⟩;rcases q with q|⟨k,c',e,z'⟩
    ·exact .inl q
    ·refine .inr ⟨k,c',e,z'.sameBut hs ?_⟩
     rintro rfl;exact hj (zmw hN e1 (I.ok.inj _ _ _ e hc ▸ hi))
  ·by_cases hcc:c'=c
   ·subst hcc;exact⟨_,hc'⟩
   ·obtain⟨w2,z2⟩:=I.cell y c' e
    exact⟨w2,z2.sameBut hs hcc⟩
  ·obtain⟨e,n,ne,nf,d⟩:=I.pin p hp
   refine⟨(hs.2 p.1 ?_).trans e,n,ne,nf,d⟩;intro q;rw[q,hoc]at e;have q':oc=p.2:=vc e;exact d w' (by rw[<-q'];exact hocd)
theorem zmx{M:Model}{A:Around}{E:Value->Shared->Prop}{i:Nat}{x:Str}{v:V}{u:Value}{Q:Unit->Shared->Prop}(I:Inv X pins σ H s)(hN:X.N.Nodup)(hi:X.N[i]?=some x)(hx:Loc X.env.scope x)(r:zbf v u)
  (h:∀s',Inv X pins (σ.set i (some v)) H s'->Q () s') (hf:X.fn x=true\/X.env.scope.names.lookup x=some .local:=by first|exact .inl rfl|exact .inr rfl|assumption):wpAny M A (storeName X.env x u) Q E s :=
 zp3 I hN hi hx r (λs' I' _=>h s' I') hf
theorem Inv.call'{s':Shared}{ch:List Addr}(I:Inv X pins σ H s)(ho:s'.os=s.os)(u:Un (frs X.stack) ch H H' s.heap s'.heap)(hok:HOk X.prog X.w H' s'.heap)(hg:AllBare s'.gens)
  (hch:∀b∈ch,(b∈X.ex\/X.s₀.heap.objs.size<=b)/\b≠X.env.locals/\(∀x c,X.env.cells.lookup x=some c->c≠b)/\∀p∈X.pn++pins,p.1≠b):Inv X pins σ H' s':=by
 obtain⟨h',g',d',t',o'⟩:=s';have e:o'=s.os:=ho;subst e;exact I.call (g':=g') (t':=t') (d':=d') u hok hg hch
end
noncomputable abbrev XK:=Value->Option Addr->Hp->Prop
noncomputable abbrev St:=List (Option V)
noncomputable abbrev VK:=V->Hp->Prop
noncomputable abbrev TE:=St->Hp->VK->Prop
noncomputable abbrev TT:=St->Hp->(Bool->Hp->Prop)->Prop
noncomputable abbrev TA:=St->Hp->(List V->Hp->Prop)->Prop
structure Ends where
 nx:St->Hp->Prop
 rt:VK
 bk:St->Hp->Prop:=λ_ _=>False
 ct:St->Hp->Prop:=λ_ _=>False
noncomputable abbrev TS:=Ends->St->Hp->Prop
def EP(X:Cx)(pins:List (Addr×Obj))(σ:St)(Q:VK)(u:Value)(s':Shared):Prop:=∃v H',Inv X pins σ H' s'/\zbf v u/\Q v H'
def TP(X:Cx)(pins:List (Addr×Obj))(σ:St)(Q:Bool->Hp->Prop)(b:Bool)(s':Shared):Prop:=∃H',Inv X pins σ H' s'/\Q b H'
def AP(X:Cx)(pins:List (Addr×Obj))(σ:St)(Q:List V->Hp->Prop)(us:List Value)(s':Shared):Prop:=∃vs H',Inv X pins σ H' s'/\zbs vs us/\Q vs H'
def SP(X:Cx)(pins:List (Addr×Obj))(D:Ends)(f:Flow)(s':Shared):Prop :=
 match f with
 |.next=>∃σ' H',Inv X pins σ' H' s'/\D.nx σ' H'
 |.brk=>∃σ' H',Inv X pins σ' H' s'/\D.bk σ' H'
 |.cont=>∃σ' H',Inv X pins σ' H' s'/\D.ct σ' H'
 |.ret u=>∃v σ' H',Inv X pins σ' H' s'/\zbf v u/\D.rt v H'
def PE(X:Cx)(e:Expr)(t:TE):Prop :=
 ∀(pins:List (Addr×Obj)) (s:Shared) (σ:St) (H:Hp) (Q:VK),Inv X pins σ H s->t σ H Q->wpAny (model X.prog X.w) X.A (eval e X.env) (EP X pins σ Q) X.xe s
def PT(X:Cx)(e:Expr)(t:TT):Prop :=
 ∀(pins:List (Addr×Obj)) (s:Shared) (σ:St) (H:Hp) (Q:Bool->Hp->Prop),Inv X pins σ H s->t σ H Q->wpAny (model X.prog X.w) X.A (isTrue e X.env (eval e X.env)) (TP X pins σ Q) X.xe s
def PW(X:Cx)(e:Expr)(t:TT):Prop :=
 ∀(whole:Sem Value) (pins:List (Addr×Obj)) (s:Shared) (σ:St) (H:Hp) (Q:Bool->Hp->Prop),Inv X pins σ H s->t σ H Q->wpAny (model X.prog X.w) X.A (isTrue e X.env whole) (TP X pins σ Q) X.xe s
theorem PW.pt{X:Cx}{e:Expr}{t:TT}(h:PW X e t):PT X e t:=h _
def PA(X:Cx)(es:List Expr)(t:TA):Prop :=
 ∀(pos:Pos) (pins:List (Addr×Obj)) (s:Shared) (σ:St) (H:Hp) (Q:List V->Hp->Prop),Inv X pins σ H s->t σ H Q->wpAny (model X.prog X.w) X.A (spliced (backTo pos (starEach es X.env))) (AP X pins σ Q) X.xe s
def PS(X:Cx)(st:Stmt)(t:TS):Prop :=
 ∀(pins:List (Addr×Obj)) (s:Shared) (σ:St) (H:Hp) (D:Ends),Inv X pins σ H s->t D σ H->wpAny (model X.prog X.w) X.A (exec st X.env) (SP X pins D) X.xe s
def PSs(X:Cx)(st:List Stmt)(t:TS):Prop :=
 ∀(pins:List (Addr×Obj)) (s:Shared) (σ:St) (H:Hp) (D:Ends),Inv X pins σ H s->t D σ H->wpAny (model X.prog X.w) X.A (execs st X.env) (SP X pins D) X.xe s
theorem thn{α:Type}{t:Sem α}{Q Q':α->Shared->Prop}{M:Model}{A:Around}{E:Value->Shared->Prop}{s:Shared}(h:wpAny M A t Q E s)(hQ:∀a s,Q a s->Q' a s):wpAny M A t Q' E s:=ug h hQ λ_ _ x=>x
section
variable {X:Cx}
noncomputable def ybr(i:Nat):TE:=λσ H Q=>∃v,σ[i]?=some (some v)/\Q v H
noncomputable def tC(v:V):TE:=λ_ H Q=>Q v H
theorem zcy {i:Nat}{x:Str}{pos:Pos} (hN:X.N[i]?=some x) (hv:Vis X.env.scope x) (hd:(x == ("__debug__" : Str))=false:=by decide) (hcd:(x == ("__classdict__" : Str))=false:=by decide):PE X (.Name x pos) (ybr i):=by
 intro pins s σ H Q I h;obtain⟨v,e,h⟩:=h;obtain⟨m,hn,hl⟩:=I.loc;obtain⟨u,r,l⟩:=hl i x v hN e hv;have fin:EP X pins σ Q u s:=⟨v,H,I,r,h⟩
 rcases l with⟨hk,hm⟩|⟨hk,c,hc,hcell⟩
 ·exact wpAny_Name (wpAny_loadName_local I.ok.kind hk hn hm fin) hd
 ·rcases hk with hk|hk
  ·exact wpAny_Name (wpAny_loadName_cell I.ok.kind hk hc hcell fin) hd
  ·exact wpAny_Name (wpAny_loadName_free I.ok.kind hk hc hcell fin hcd) hd
theorem zwz{i j pos}:PE X (.Constant (.int i) j pos) (tC (.int i)):=λ_ _ _ H _ I h=>wpAny_Constant_int ⟨.int i,H,I.tok _,⟨_,rfl⟩,h⟩
theorem z22{b j pos}:PE X (.Constant (.bool b) j pos) (tC (.bl b)):=λ_ _ _ H _ I h=>Constant_bool ⟨.bl b,H,I,rfl,h⟩
theorem zw0{x j pos}:PE X (.Constant (.str x) j pos) (tC (.str x)):=λ_ _ _ H _ I h=>Calls.Constant_str ⟨.str x,H,I.tok _,⟨_,rfl⟩,h⟩
def Gl(X:Cx)(x:Str):Prop:=X.env.kindOf x=some .globalImplicit
theorem zp4{E:Value->Shared->Prop}{pins:List (Addr×Obj)}{s:Shared}{σ:St}{H:Hp}{x:Str}{u:Value}{pos:Pos}{Q:Value->Shared->Prop}(I:Inv X pins σ H s)(hg:Gl X x)(hm:X.mg x=some u)(h:Q u s)
  (hd:(x == ("__debug__" : Str))=false:=by decide):wpAny (model X.prog X.w) X.A (eval (.Name x pos) X.env) Q E s :=
 km I.ok.kind hg (Calls.loadGlobal_global (by rw[I.ok.glob];exact I.mod.glob.keeps I.bk) hm h) hd
theorem zeb{E:Value->Shared->Prop}{pins:List (Addr×Obj)}{s:Shared}{σ:St}{H:Hp}{x:Str}{u:Value}{pos:Pos}{Q:Value->Shared->Prop}(I:Inv X pins σ H s)(hg:Gl X x)(hm:X.mg x=none)(hv:bootBuiltins x=some u)(h:Q u s)
  (hn:x ≠ "__name__":=by decide) (hd:(x == ("__debug__" : Str))=false:=by decide):wpAny (model X.prog X.w) X.A (eval (.Name x pos) X.env) Q E s:=by
 obtain⟨mb,h1,h2⟩:=I.mod.blt;exact km I.ok.kind hg (Calls.loadGlobal_builtin (by rw[I.ok.glob];exact I.mod.glob.keeps I.bk) hm (by rw[I.ok.blt];exact h1.keeps I.bk) ((h2 x hn).trans hv) h) hd
theorem zh1 {x:Str}{v:V}{u:Value}{pos:Pos} (hg:Gl X x) (hm:X.mg x=some u) (r:zbf v u) (hd:(x == ("__debug__" : Str))=false:=by decide):PE X (.Name x pos) (tC v) :=
 λ_ _ _ H _ I h=>zp4 I hg hm ⟨v,H,I,r,h⟩ hd
theorem zds {x:Str}{v:V}{u:Value}{pos:Pos} (hg:Gl X x) (hm:X.mg x=none) (hv:bootBuiltins x=some u) (r:zbf v u) (hn:x ≠ "__name__":=by decide) (hd:(x == ("__debug__" : Str))=false:=by decide):PE X (.Name x pos) (tC v) :=
 λ_ _ _ H _ I h=>zeb I hg hm hv ⟨v,H,I,r,h⟩ hn hd
variable {a b:Expr}{ta tb:TE}{pos:Pos}
variable {tA tB':TT}{rest:List Expr}
noncomputable def ya8(t u:TT):TT:=λσ H Q=>t σ H λc H1=>if c=true then u σ H1 Q else Q false H1
noncomputable def tOr(t u:TT):TT:=λσ H Q=>t σ H λc H1=>if c=true then Q true H1 else u σ H1 Q
noncomputable def ybs(t:TT):TT:=λσ H Q=>t σ H λc H1=>Q (!c) H1
theorem zzf(ha:PT X a tA):PW X (.BoolOp .And [a] pos) tA:=by
 intro wh pins s σ H Q I h;refine isTrue_and (thn (ha pins s σ H Q I h) λc s1 e=>?_)
 cases c with
 |true=>exact isTrue_and_nil e
 |false=>exact e
theorem z23(ha:PT X a tA):PW X (.BoolOp .Or [a] pos) tA:=by
 intro wh pins s σ H Q I h;refine isTrue_or (thn (ha pins s σ H Q I h) λc s1 e=>?_)
 cases c with
 |false=>exact isTrue_or_nil e
 |true=>exact e
theorem z24(ha:PT X a tA)(hb:PW X (.BoolOp .And (b::rest) pos) tB'):PW X (.BoolOp .And (a::b::rest) pos) (ya8 tA tB'):=by
 intro wh pins s σ H Q I h;refine isTrue_and (thn (ha pins s σ H _ I h) λc s1 ⟨H1,I1,q1⟩=>?_)
 cases c with
 |true=>exact hb wh pins s1 σ H1 Q I1 q1
 |false=>exact⟨H1,I1,q1⟩
theorem z8d(ha:PT X a tA)(hb:PW X (.BoolOp .Or (b::rest) pos) tB'):PW X (.BoolOp .Or (a::b::rest) pos) (tOr tA tB'):=by
 intro wh pins s σ H Q I h;refine isTrue_or (thn (ha pins s σ H _ I h) λc s1 ⟨H1,I1,q1⟩=>?_)
 cases c with
 |true=>exact⟨H1,I1,q1⟩
 |false=>exact hb wh pins s1 σ H1 Q I1 q1
theorem z25(ha:PT X a tA):PT X (.UnaryOp .Not a pos) (ybs tA):=by
 intro pins s σ H Q I h;exact isTrue_not (ha pins s σ H (λc H1=>Q (!c) H1) I h)
theorem z26{op}{t:TE}(h:PE X a t):PE X (.BoolOp op [a] pos) t:=λpins s σ H Q I hw=>BoolOp_one (h pins s σ H Q I hw)
end
def SqL(K:PySem.W.Frag)(H:Hp)(a:Addr)(xs:List V):Prop :=
 Rd H a (.lst xs) ∨
  ∃(o:Obj) (its:Array Value) (n:Nat),K.lookup a=some o/\o.cls=.type "list" /\ o.dict=none/\o.data=.seq its n/\its.size<=sizeLine/\zbs xs its.toList
def SqT(K:PySem.W.Frag)(H:Hp)(a:Addr)(xs:List V):Prop :=
 Rd H a (.tup xs) ∨
  ∃(o:Obj) (its:Array Value) (n:Nat),K.lookup a=some o/\o.cls=.type "tuple" /\ o.data=.seq its n/\its.size<=sizeLine/\zbs xs its.toList
noncomputable def ybt:Value->Option V
 |.none=>some .non
 |.bool b=>some (.bl b)
 |.int i _=>some (.int i)
 |.str x _=>some (.str x)
 |.bytes b _=>some (.byt b)
 |.float b _=>some (.flt b)
 |.ref a=>some (.ref a)
 |.type n=>some (.ty n)
 |_=>none
theorem zbf.abs{x:V}{u:Value}(r:zbf x u):ybt u=some x:=by
 cases x with
 |non=>cases r;rfl
 |bl _=>cases r;rfl
 |int _=>obtain⟨t,rfl⟩:=r;rfl
 |str _=>obtain⟨t,rfl⟩:=r;rfl
 |byt _=>obtain⟨t,rfl⟩:=r;rfl
 |flt _=>obtain⟨t,rfl⟩:=r;rfl
 |ref _=>cases r;rfl
 |ty _=>cases r;rfl
theorem zbf.inj{x y:V}{u:Value}(r:zbf x u)(q:zbf y u):x=y:=vc (r.abs.symm.trans q.abs)
theorem zbs.inj:∀{xs ys:List V}{us:List Value},zbs xs us->zbs ys us->xs=ys
 |_,_,_,.nil,.nil=>rfl
 |_,_,_,.cons r t,.cons r' t'=>by rw[r.inj r',zbs.inj t t']
section
variable {X:Cx}{pins:List (Addr×Obj)}{σ:St}{H:Hp}{s:Shared}{a:Addr}{xs ys:List V}
theorem SqL.of{K:PySem.W.Frag}(h:H a=some (.lst xs)):SqL K H a xs:=.inl (.inl h)
theorem Inv.list(I:Inv X pins σ H s)(h:SqL X.K H a xs):∃its:List Value,zbs xs its/\PlainL s.heap a its.toArray/\xs.length<=sizeLine:=by
 rcases h with h|⟨o,its,n,hk,hc,hd,hs,hz,r⟩
 ·obtain⟨z,its,n,r,e⟩:=h.ok I.hok
  exact⟨its,r,⟨_,n,e,rfl,rfl,rfl⟩,z⟩
 ·refine⟨its.toList,r,⟨o,n,I.kIn a o hk,hc,hd,by simpa using hs⟩,?_⟩
  have e:=r.length;simp only[ve]at e;omega
theorem Inv.tuple(I:Inv X pins σ H s)(h:SqT X.K H a xs):∃its:List Value,zbs xs its/\IsTup s.heap a its.toArray/\xs.length<=sizeLine:=by
 rcases h with h|⟨o,its,n,hk,hc,hs,hz,r⟩
 ·obtain⟨z,its,r,p⟩:=h.ok I.hok
  exact⟨its,r,p,z⟩
 ·refine⟨its.toList,r,⟨o,I.kIn a o hk,hc,n,by simpa using hs⟩,?_⟩
  have e:=r.length;simp only[ve]at e;omega
theorem Inv.list_inj(I:Inv X pins σ H s)(h:SqL X.K H a xs)(h':SqL X.K H a ys):xs=ys:=by
 obtain⟨its,r,⟨o,n,e,_,_,d⟩,_⟩:=I.list h;obtain⟨its',r',⟨o',n',e',_,_,d'⟩,_⟩:=I.list h';rw[e]at e';cases e';rw[d]at d';injection d' with d1 _
 have:its=its':=by simpa using zc Array.toList d1
 subst this;exact r.inj r'
theorem Inv.tuple_inj(I:Inv X pins σ H s)(h:SqT X.K H a xs)(h':SqT X.K H a ys):xs=ys:=by
 obtain⟨its,r,⟨o,e,_,n,d⟩,_⟩:=I.tuple h;obtain⟨its',r',⟨o',e',_,n',d'⟩,_⟩:=I.tuple h';rw[e]at e';cases e';rw[d]at d';injection d' with d1 _
 have:its=its':=by simpa using zc Array.toList d1
 subst this;exact r.inj r'
end
noncomputable abbrev Cx.wish(X:Cx)(E:Value->Shared->Prop):Cx:={ X with xe:=E }
noncomputable abbrev Cx.nox(X:Cx):Cx:=X.wish λ_ _=>False
theorem Cx.Ok.wish{X:Cx}(ok:X.Ok)(E:Value->Shared->Prop):(X.wish E).Ok :=
 ⟨ok.mod,ok.kind,ok.glob,ok.blt,ok.above,ok.inj,ok.has,ok.cab,ok.hd,ok.frames,ok.stk,ok.exf,ok.bs,ok.bsz,ok.noex,ok.exfs,ok.funs,ok.frf⟩
theorem Cx.Ok.unwish{X:Cx}{E:Value->Shared->Prop}(ok:(X.wish E).Ok):X.Ok :=
 ⟨ok.mod,ok.kind,ok.glob,ok.blt,ok.above,ok.inj,ok.has,ok.cab,ok.hd,ok.frames,ok.stk,ok.exf,ok.bs,ok.bsz,ok.noex,ok.exfs,ok.funs,ok.frf⟩
section
variable {X:Cx}{pins:List (Addr×Obj)}{σ:St}{H:Hp}{s:Shared}{E:Value->Shared->Prop}
theorem Inv.wish(I:Inv X pins σ H s)(E:Value->Shared->Prop):Inv (X.wish E) pins σ H s:=⟨I.ok.wish E,I.os,I.bare,I.base,I.loc,I.cell,I.free,I.freeC,I.pin,I.hok,I.len⟩
theorem Inv.unwish(I:Inv (X.wish E) pins σ H s):Inv X pins σ H s:=⟨I.ok.unwish,I.os,I.bare,I.base,I.loc,I.cell,I.free,I.freeC,I.pin,I.hok,I.len⟩
theorem SP.unwish{D:Ends}{f:Flow}{s':Shared}(h:SP (X.wish E) pins D f s'):SP X pins D f s':=by
 cases f with
 |next=>obtain⟨σ',H',I,q⟩:=h;exact⟨σ',H',I.unwish,q⟩
 |brk=>obtain⟨σ',H',I,q⟩:=h;exact⟨σ',H',I.unwish,q⟩
 |cont=>obtain⟨σ',H',I,q⟩:=h;exact⟨σ',H',I.unwish,q⟩
 |ret u=>obtain⟨v,σ',H',I,r,q⟩:=h;exact⟨v,σ',H',I.unwish,r,q⟩
theorem PSs.nox{st:List Stmt}{t:TS}(h:PSs X.nox st t):PSs X st t:=λpins s σ H D I hw =>
 ug (h pins s σ H D (I.wish _) hw) (λ_ _ q=>q.unwish) λ_ _ z=>False.elim z
end
section
variable {X:Cx}{st:Stmt}{rest:List Stmt}{t u:TS}{e:Expr}{te:TE}{pos:Pos}
noncomputable def z8e:TS:=λD σ H=>D.nx σ H
noncomputable def ybu(t u:TS):TS:=λD σ H=>t { D with nx:=u D } σ H
theorem zp5:PSs X [] z8e:=λ_ _ σ H _ I h=>jp ⟨σ,H,I,h⟩
theorem zb8(h1:PS X st t)(h2:PSs X rest u):PSs X (st::rest) (ybu t u):=by
 intro pins s σ H D I h;refine wpAny_execs_cons (thn (h1 pins s σ H { D with nx:=u D } I h) λf s1 q=>?_)
 cases f with
 |next =>
  obtain⟨σ',H',I',q⟩:=q;exact h2 pins s1 σ' H' D I' q
 |ret v=>exact q
 |brk=>exact q
 |cont=>exact q
theorem zef(h1:PS X st t):PSs X [st] t:=by
 intro pins s σ H D I h;refine wpAny_execs_cons (thn (h1 pins s σ H D I h) λf s1 q=>?_)
 cases f with
 |next=>exact jp q
 |ret v=>exact q
 |brk=>exact q
 |cont=>exact q
theorem Inv.quiet{pins:List (Addr×Obj)}{σ:St}{H:Hp}{s:Shared}(I:Inv X pins σ H s):interactive X.env=false:=by simp[interactive,I.ok.kind]
noncomputable def z8f(te:TE):TS:=λD σ H=>te σ H λ_ H1=>D.nx σ H1
theorem zf5(he:PE X e te)(hs:swapsWith e none pos.line X.env=pure false:=by rfl):PS X (.Expr e pos) (z8f te):=by
 intro pins s σ H D I h;exact wpAny_Expr_any (thn (he pins s σ H _ I h) λv s1 ⟨x,H1,I1,r1,q1⟩=>⟨σ,H1,I1,q1⟩) I.quiet hs
noncomputable def ybv(te:TE):TS:=λD σ H=>te σ H D.rt
theorem zjd(he:PE X e te):PS X (.Return (some e) pos) (ybv te):=by
 intro pins s σ H D I h;exact wpAny_Return_some (thn (he pins s σ H _ I h) λv s1 ⟨x,H1,I1,r1,q1⟩=>⟨x,σ,H1,I1,r1,q1⟩)
noncomputable def ybw(c:TT)(t u:TS):TS:=λD σ H=>c σ H λb H1=>if b=true then t D σ H1 else u D σ H1
theorem z27{c:Expr}{a b:List Stmt}{tc:TT}(hc:PT X c tc)(ha:PSs X a t)(hb:PSs X b u):PS X (.If c a b pos) (ybw tc t u):=by
 intro pins s σ H D I h;refine wpAny_If (thn (hc pins s σ H _ I h) λd s1 ⟨H1,I1,q1⟩=>?_)
 cases d with
 |true=>exact ha pins s1 σ H1 D I1 q1
 |false=>exact hb pins s1 σ H1 D I1 q1
noncomputable def z28:TS:=λ_ _ _=>False
theorem zue:PS X st z28:=λ_ _ _ _ _ _ h=>h.elim
end
noncomputable abbrev TG:=V->St->Hp->(St->Hp->Prop)->Prop
noncomputable abbrev TGs:=List V->St->Hp->(St->Hp->Prop)->Prop
def PG(X:Cx)(target:Expr)(t:TG):Prop :=
 ∀(pins:List (Addr×Obj)) (s:Shared) (σ:St) (H:Hp) (v:V) (u:Value) (Q:St->Hp->Prop),Inv X pins σ H s->zbf v u->t v σ H Q →
  wpAny (model X.prog X.w) X.A (assign target X.env u) (λ_ s'=>∃σ' H',Inv X pins σ' H' s'/\Q σ' H') X.xe s
def PGs(X:Cx)(ts:List Expr)(t:TGs):Prop :=
 ∀(pins:List (Addr×Obj)) (s:Shared) (σ:St) (H:Hp) (vs:List V) (us:List Value) (Q:St->Hp->Prop),Inv X pins σ H s->zbs vs us->t vs σ H Q →
  wpAny (model X.prog X.w) X.A (assignInOrder ((assignEach ts X.env).map (·.2)) us) (λ_ s'=>∃σ' H',Inv X pins σ' H' s'/\Q σ' H') X.xe s
noncomputable abbrev z8g:=V->V->V->Hp->(Hp->Prop)->Prop
def ya9(X:Cx)(t:z8g):Prop :=
 ∀(pins:List (Addr×Obj)) (s:Shared) (σ:St) (H:Hp) (o i v:V) (ov iv u:Value) (Q:Hp->Prop),Inv X pins σ H s->zbf o ov->zbf i iv->zbf v u->t o i v H Q →
  wpAny (model X.prog X.w) X.A (setItem ov iv u) (λ_ s'=>∃H',Inv X pins σ H' s'/\Q H') X.xe s
section
variable {X:Cx}{pos:Pos}
noncomputable def z29(i:Nat):TG:=λv σ H Q=>Q (σ.set i (some v)) H
theorem zp6{i:Nat}{x:Str}(hN:X.N.Nodup)(hi:X.N[i]?=some x)(hx:Loc X.env.scope x)(hf:X.fn x=true\/X.env.scope.names.lookup x=some .local:=by first|exact .inl rfl|exact .inr rfl|assumption):PG X (.Name x pos) (z29 i):=by
 intro pins s σ H v u Q I r h;exact wpAny_assign_Name (zmx I hN hi hx r (λs' I'=>⟨_,H,I',h⟩) hf)
noncomputable def ybx:TGs:=λvs σ H Q=>vs=[]/\Q σ H
noncomputable def z8h(t:TG)(u:TGs):TGs:=λvs σ H Q=>∃v r,vs=v::r/\t v σ H λσ' H'=>u r σ' H' Q
theorem zzg:PGs X [] ybx:=by
 intro pins s σ H vs us Q I r h;obtain⟨e,h⟩:=h;subst e;cases r;exact assignInOrder_nil ⟨σ,H,I,h⟩
theorem zuf{e:Expr}{es:List Expr}{t:TG}{u:TGs}(h1:PG X e t)(h2:PGs X es u)
  (hs:(assignEach (e::es) X.env).map (·.2)=assign e X.env::(assignEach es X.env).map (·.2):=by rfl):PGs X (e::es) (z8h t u):=by
 intro pins s σ H vs us Q I r h;obtain⟨v,vr,e1,h⟩:=h;subst e1
 cases r with
 |cons r rr =>
  rw[hs];refine assignInOrder_cons (thn (h1 pins s σ H _ _ _ I r h) λ_ s1 ⟨σ1,H1,I1,q1⟩=>?_);exact h2 pins s1 σ1 H1 _ _ Q I1 rr q1
noncomputable def yby(K:PySem.W.Frag)(n:Nat)(t:TGs):TG:=λv σ H Q=>∃a xs,v=.ref a/\SqT K H a xs/\xs.length=n/\t xs σ H Q
theorem z3a{es:List Expr}{k:Nat}{t:TGs}{n:Nat}(hc:X.calm=true)(h:PGs X es t)
  (hn:(assignEach es X.env).length=n:=by rfl) (hst:(assignEach es X.env).findIdx? (·.1)=none:=by rfl):PG X (.Tuple es k pos) (yby X.K n t):=by
 intro pins s σ H v u Q I r hw;obtain⟨a,xs,e1,hq,hl,hw⟩:=hw;subst e1;cases r;obtain⟨its,rv,ht,hz⟩:=I.tuple hq;refine assign_Tuple_tuple (I.ok.hd hc) ht (by simp[hn,<-hl,rv.length]) hst λh' hx=>?_
 have I1:Inv X pins σ H { s with heap:=h' }:=I.kept (t':=s.toks) λb o e=>hx b o (yd (wb e)) e
 exact h pins _ σ H xs _ Q I1 (by simpa using rv) hw
noncomputable def ybz(to ti:TE)(t:z8g):TG:=λv σ H Q=>to σ H λo H1=>ti σ H1 λi H2=>t o i v H2 λH3=>Q σ H3
theorem z3b{o i:Expr}{to ti:TE}{t:z8g}(ho:PE X o to)(hi:PE X i ti)(hs:ya9 X t)
  (ha:∀ v,assign (.Subscript o i pos) X.env v=(do
   let ov ← holding [v] (eval o X.env)
   let iv ← holding [v,ov] (eval i X.env)
   standAt pos
   holding [v,ov,iv] (setItem ov iv v)
   release [v,ov,iv] []):=by intro _;rfl):PG X (.Subscript o i pos) (ybz to ti t):=by
 intro pins s σ H v u Q I r h;rw[ha];refine aa (lg (thn (ho pins s σ H _ I h) λov s1 ⟨x,H1,I1,r1,q1⟩=>?_));refine aa (lg (thn (hi pins s1 σ H1 _ I1 q1) λiv s2 ⟨y,H2,I2,r2,q2⟩=>?_));refine aa (wpAny_standAt (aa (lg (thn (hs pins s2 σ H2 x y v ov iv u _ I2 r1 r2 r q2) λ_ s3 ⟨H3,I3,q3⟩=>?_))));exact wpAny_release ⟨σ,H3,I3,q3⟩
noncomputable def yba(te:TE)(g:TG):TS:=λD σ H=>te σ H λx H1=>g x σ H1 D.nx
theorem zw1{tg e:Expr}{te:TE}{g:TG}(he:PE X e te)(hg:PG X tg g)(hs:swapsWithSole [tg] e pos.line X.env=pure false:=by rfl)(hw:swappedStores [tg] e X.env=pure none:=by rfl)
  (h1:(assignEach [tg] X.env).map (·.2)=[assign tg X.env]:=by rfl):PS X (.Assign [tg] e pos) (yba te g):=by
 intro pins s σ H D I h;refine wpAny_Assign_stores (thn (he pins s σ H _ I h) λv s1 ⟨x,H1,I1,r1,q1⟩=>?_) hs hw;rw[h1];exact thn (hg pins s1 σ H1 x v _ I1 r1 q1) λ_ s2 q=>q
theorem zf6{i:Nat}{x:Str}{e:Expr}{te:TE}{pos':Pos}(hN:X.N.Nodup)(hi:X.N[i]?=some x)(hx:Loc X.env.scope x)(he:PE X e te)(hs:swapsWith e (some (.Name x pos')) pos.line X.env=pure false:=by rfl)(hf:X.fn x=true\/X.env.scope.names.lookup x=some .local:=by first|exact .inl rfl|exact .inr rfl|assumption) :
  PS X (.Assign [.Name x pos'] e pos) (yba te (z29 i)):=by
 intro pins s σ H D I h;refine wpAny_Assign_Name (thn (he pins s σ H _ I h) λv s1 ⟨y,H1,I1,r1,q1⟩=>?_) hs;exact zmx I1 hN hi hx r1 (λs2 I2=>⟨_,H1,I2,q1⟩) hf
end
structure It where
 go:Nat->Hp->Prop
 yld:Nat->Hp->V->Hp->Prop
 stop:Nat->Hp->Prop
def zt3(X:Cx)(pins:List (Addr×Obj))(H:Hp)(b:Addr):Prop :=
 H b=none/\b≠X.env.locals/\b ∉ X.fs/\(b∈X.ex\/X.s₀.heap.objs.size<=b)/\(∀x c,X.env.cells.lookup x=some c->c≠b)/\∀p∈X.pn++pins,p.1≠b
theorem Inv.fpOk{X:Cx}{pins:List (Addr×Obj)}{σ:St}{H H':Hp}{s:Shared}{b:Addr}(I:Inv X pins σ H s)(hb:s.heap.objs.size<=b)(hn:H' b=none):zt3 X pins H' b:=by
 refine⟨hn,im (dc I.lt hb),I.nofs hb,.inr (ie I.sz hb),λx c e z=>?_,λp hp z=>?_⟩
 ·obtain⟨v,q⟩:=I.cell x c e
  exact absurd (dc q.lt (by rw[z];exact hb)) (zg _)
 ·exact absurd (dc (wb (I.pin p hp).1) (by rw[z];exact hb)) (zg _)
structure Turn(P:Program)(w:World)(K:PySem.W.Frag)(tg:Expr)(J:It)(fp:List Addr)(it:Addr)(tn:Nat->Heap->Prop):Prop where
 mem:it∈fp
 obj:∀i h,tn i h->∀b∈fp,∃o,h.get? b=some o/\∀v,o.data≠.cell v
 keep:∀i h h',tn i h->(∀b∈fp,∀o,h.get? b=some o->h'.get? b=some o)->tn i h'
 item:∀(X:Cx),X.prog=P->X.w=w->X.K=K->X.calm=true->∀(i:Nat) (pins:List (Addr×Obj)) (s:Shared) (σ:St) (H:Hp) (E:Value->Shared->Prop),Inv X pins σ H s->(∀b∈fp,zt3 X pins H b)->tn i s.heap->J.go i H →
  wpAny (model P w) X.A (pyNext (.ref it)) (λ r s1=>∃ u,r=some u ∧
   wpAny (model P w) X.A (letOwnedTupleGo tg (.ref it) u) (λ_ s2=>∃x H',Inv X pins σ H' s2/\zbf x u/\J.yld i H x H'/\tn (i+1) s2.heap/\∀b∈fp,H' b=none) E s1) E s
 done:∀(X:Cx),X.prog=P->X.w=w->X.K=K->X.calm=true->∀(i:Nat) (pins:List (Addr×Obj)) (s:Shared) (σ:St) (H:Hp) (E:Value->Shared->Prop),Inv X pins σ H s->(∀b∈fp,zt3 X pins H b)->tn i s.heap->J.stop i H →
  wpAny (model P w) X.A (pyNext (.ref it)) (λr s1=>r=none/\Inv X pins σ H s1) E s
 self:∀(A:Around) (i:Nat) (s:Shared) (Q:Value->Shared->Prop) (E:Value->Shared->Prop),tn i s.heap->Q (.ref it) s->wpAny (model P w) A (pyIter (.ref it)) Q E s
noncomputable abbrev TI:=St->Hp->(It->Hp->Prop)->Prop
def PIE(X:Cx)(pins:List (Addr×Obj))(σ:St)(tg:Expr)(R:It->Hp->Prop)(itv:Value)(s2:Shared):Prop :=
 ∃(it:Addr) (fp:List Addr) (tn:Nat->Heap->Prop) (J:It) (H':Hp),itv=.ref it/\Inv X pins σ H' s2/\Turn X.prog X.w X.K tg J fp it tn/\tn 0 s2.heap/\(∀b∈fp,zt3 X pins H' b)/\R J H'
def PI(X:Cx)(tg iter:Expr)(wi:TI):Prop :=
 ∀(pins:List (Addr×Obj)) (s:Shared) (σ:St) (H:Hp) (R:It->Hp->Prop),Inv X pins σ H s->wi σ H R →
  wpAny (model X.prog X.w) X.A (eval iter X.env) (λv s1=>wpAny (model X.prog X.w) X.A (pyIter v) (PIE X pins σ tg R) X.xe s1) X.xe s
theorem zp7{M:Model}{A:Around}{E:Value->Shared->Prop}{s:Shared}{tg:Expr}{it:Addr}{u:Value}{o:Obj}{n:String}{vs:Array Value}{Q:Unit->Shared->Prop}(ho:s.heap.get? it=some o)(hc:o.cls=.type n)(hd:o.data=.fields vs)
  (hn:["enumerate","zip","dict_itemiterator","dict_reverseitemiterator","odict_iterator","itertools.zip_longest","itertools.pairwise"].contains n=false) (hQ:Q () s):wpAny M A (letOwnedTupleGo tg (.ref it) u) Q E s:=by
 unfold letOwnedTupleGo
 cases tg <;> first
  |exact va hQ
  | (cases u <;> first
    |exact va hQ
    | (refine wpAny_bind (wpAny_load ho ?_)
       rw[hc,hd];show wpAny M A (if (["enumerate","zip","dict_itemiterator","dict_reverseitemiterator","odict_iterator","itertools.zip_longest","itertools.pairwise"].contains n && vs[0]? == some (rawInt _))=true then _ else _) Q E s;rw[oa (by intro h;rw[hn,Bool.false_and]at h;cases h)];exact va hQ))
noncomputable def Itl(K:PySem.W.Frag)(a:Addr):It :=
 ⟨λi H=>∃xs x,SqL K H a xs/\xs[i]?=some x,λi H x H'=>H'=H/\∀xs,SqL K H a xs->xs[i]?=some x,λi H=>∃xs,SqL K H a xs/\xs.length<=i⟩
noncomputable def Itt(K:PySem.W.Frag)(a:Addr):It :=
 ⟨λi H=>∃xs x,SqT K H a xs/\xs[i]?=some x,λi H x H'=>H'=H/\∀xs,SqT K H a xs->xs[i]?=some x,λi H=>∃xs,SqT K H a xs/\xs.length<=i⟩
noncomputable def Itr(lo:Int)(n:Nat):It:=⟨λi _=>i<n,λi H x H'=>H'=H/\x=.int (lo+i),λi _=>n<=i⟩
theorem zje{P:Program}{w:World}{K:PySem.W.Frag}{tg:Expr}(a it:Addr):Turn P w K tg (Itl K a) [it] it (λi h=>h.IsListIter it a i) where
 mem:=by simp
 obj:=λi h st b hb=>by
  have e:b=it:=by simpa using hb
  subst e;obtain⟨o,e,c,d⟩:=st;exact⟨o,e,λv z=>by rw[d]at z;cases z⟩
 keep:=λi h h' st k=>st.at λo e=>k it (by simp) o e
 item:=by
  intro X hP hw hK hc i pins s σ H E I hf st hg;subst hP hw hK;obtain⟨xs,x,hq,hx⟩:=hg;obtain⟨its,rv,p,hz⟩:=I.list hq;obtain⟨u,hu,ru⟩:=rv.get hx;obtain⟨f0,f1,f2,f3,f4,f5⟩:=hf it (by simp);refine wpAny_pyNext_list_item st p.isList (x:=u) (by simpa using hu) λh' st' sb=>?_
  have I1:Inv X pins σ H { s with heap:=h' }:=I.turned (t':=s.toks) (λb o hb e=>(sb.2 b hb).trans e) f0 f1 f3 f4 f5;obtain⟨o,e,c,d⟩:=id st';exact⟨u,rfl,zp7 (s:={ s with heap:=h' }) e c d (by decide) ⟨x,H,I1,ru,⟨rfl,λys hy=>by rw[I.list_inj hy hq];exact hx⟩,st',λb hb=>(hf b hb).1⟩⟩
 done:=by
  intro X hP hw hK hc i pins s σ H E I hf st hg;subst hP hw hK;obtain⟨xs,hq,hx⟩:=hg;obtain⟨its,rv,p,hz⟩:=I.list hq;obtain⟨f0,f1,f2,f3,f4,f5⟩:=hf it (by simp);have hl:=rv.length;exact wpAny_pyNext_list_end (I.ok.hd hc) st p.isList (by simp;omega) λh' eb=>⟨rfl,I.turned (t':=s.toks) (λb o hb e=>eb b o hb e) f0 f1 f3 f4 f5⟩
 self:=λ_ _ _ _ _ st h=>wpAny_pyIter_listiter st h
theorem zos{P:Program}{w:World}{K:PySem.W.Frag}{tg:Expr}(a it:Addr):Turn P w K tg (Itt K a) [it] it (λi h=>h.IsTupleIter it a i) where
 mem:=by simp
 obj:=λi h st b hb=>by
  have e:b=it:=by simpa using hb
  subst e;obtain⟨o,e,c,d⟩:=st;exact⟨o,e,λv z=>by rw[d]at z;cases z⟩
 keep:=λi h h' st k=>st.at λo e=>k it (by simp) o e
 item:=by
  intro X hP hw hK hc i pins s σ H E I hf st hg;subst hP hw hK;obtain⟨xs,x,hq,hx⟩:=hg;obtain⟨its,rv,p,hz⟩:=I.tuple hq;obtain⟨u,hu,ru⟩:=rv.get hx;obtain⟨f0,f1,f2,f3,f4,f5⟩:=hf it (by simp);refine wpAny_pyNext_tuple_item st (show s.heap.IsTuple a its.toArray from p) (x:=u) (by simpa using hu) λh' st' sb=>?_
  have I1:Inv X pins σ H { s with heap:=h' }:=I.turned (t':=s.toks) (λb o hb e=>(sb.2 b hb).trans e) f0 f1 f3 f4 f5;obtain⟨o,e,c,d⟩:=id st';exact⟨u,rfl,zp7 (s:={ s with heap:=h' }) e c d (by decide) ⟨x,H,I1,ru,⟨rfl,λys hy=>by rw[I.tuple_inj hy hq];exact hx⟩,st',λb hb=>(hf b hb).1⟩⟩
 done:=by
  intro X hP hw hK hc i pins s σ H E I hf st hg;subst hP hw hK;obtain⟨xs,hq,hx⟩:=hg;obtain⟨its,rv,p,hz⟩:=I.tuple hq;obtain⟨f0,f1,f2,f3,f4,f5⟩:=hf it (by simp);have hl:=rv.length;exact wpAny_pyNext_tuple_end (I.ok.hd hc) st (show s.heap.IsTuple a its.toArray from p) (by simp;omega) λh' eb=>⟨rfl,I.turned (t':=s.toks) (λb o hb e=>eb b o hb e) f0 f1 f3 f4 f5⟩
 self:=λ_ _ _ _ _ st h=>wpAny_pyIter_tupleiter st h
theorem zot{P:Program}{w:World}{K:PySem.W.Frag}{tg:Expr}(it:Addr)(lo:Int)(n:Nat):Turn P w K tg (Itr lo n) [it] it (λi h=>IsRangeIter h it (lo+(i:Nat) * 1) ((n:Int) - (i:Nat)) 1) where
 mem:=by simp
 obj:=λi h st b hb=>by
  have e:b=it:=by simpa using hb
  subst e
  exact⟨_,st,λ v z=>by
   have z':Data.fields _=Data.cell v:=z
   cases z'⟩
 keep:=λi h h' st k=>k it (by simp) _ st
 item:=by
  intro X hP hw hK hc i pins s σ H E I hf st hg;subst hP hw hK;obtain⟨f0,f1,f2,f3,f4,f5⟩:=hf it (by simp);have W:=Walks.range (prog:=X.prog) (w:=X.w) (I.ok.hd hc) it lo 1 n;refine W.item i s _ _ hg st λv h' tk hv st' kk=>?_
  obtain⟨t,rfl⟩:=hv;have I1:Inv X pins σ H { s with heap:=h',toks:=tk }:=I.turned (λb o hb e=>kk b o (by simpa using hb) e) f0 f1 f3 f4 f5;refine⟨_,rfl,zp7 (s:={ s with heap:=h',toks:=tk }) (n:="range_iterator") st' rfl rfl (by decide) ⟨.int (lo+i),H,I1,⟨t,?_⟩,⟨rfl,rfl⟩,st',λb hb=>(hf b hb).1⟩⟩;rw[Int.mul_one]
 done:=by
  intro X hP hw hK hc i pins s σ H E I hf st hg;subst hP hw hK;obtain⟨f0,f1,f2,f3,f4,f5⟩:=hf it (by simp);exact wpAny_pyNext_range_end (I.ok.hd hc) st (by have:n<=i:=hg;omega) λh' eb=>⟨rfl,I.turned (t':=s.toks) (λb o hb e=>eb b o hb e) f0 f1 f3 f4 f5⟩
 self:=λ_ _ _ _ _ st h=>wpAny_pyIter_rangeiter st h
section
variable {X:Cx}{tg:Expr}
theorem zmy{pins:List (Addr×Obj)}{σ:St}{H:Hp}{s:Shared}{R:It->Hp->Prop}{E:Value->Shared->Prop}{lo hi:Int}{t u v:Tok}{tk:Nat}(I:Inv X pins σ H s)(h1:-(2 ^ 62)<=lo)(h2:lo<2 ^ 62)(h3:-(2 ^ 62)<=hi)(h4:hi<2 ^ 62)
  (q:R (Itr lo (hi - lo).toNat) H):wpAny (model X.prog X.w) X.A (pyIter (.ref s.heap.objs.size)) (PIE X pins σ tg R) E { s with heap:=s.heap.push { cls:=.type "range",data:=.fields #[.int lo t,.int hi u,.int 1 v] },toks:=tk }:=by
 refine wpAny_pyIter_range (IsRange.new ..) (small_one h1 h2 h3 h4) ?_;have I1:Inv X pins σ H { s with heap:=s.heap.push { cls:=.type "range",data:=.fields #[.int lo t,.int hi u,.int 1 v] },toks:=tk }:=I.kept λb o e=>bb _ e
 refine⟨(s.heap.push { cls:=.type "range",data:=.fields #[.int lo t,.int hi u,.int 1 v] }).objs.size,[(s.heap.push { cls:=.type "range",data:=.fields #[.int lo t,.int hi u,.int 1 v] }).objs.size],_,_,H,rfl,
  I1.kept (t':=tk) λb o e=>bb _ e,zot _ lo (hi - lo).toNat,?_,λb hb=>?_,q⟩
 ·have e1:lo+((0:Nat):Int) * 1=lo:=by simp
  have e2:(((hi - lo).toNat:Nat):Int) - ((0:Nat):Int)=Builtin.Range.rangeSize lo hi 1:=by rw[rangeSize_one];split <;> omega
  show IsRangeIter _ _ (lo+((0:Nat):Int) * 1) ((((hi - lo).toNat:Nat):Int) - ((0:Nat):Int)) 1;rw[e1,e2];exact cc _ rfl
 ·have e:b=(s.heap.push { cls:=.type "range",data:=.fields #[.int lo t,.int hi u,.int 1 v] }).objs.size:=by simpa using hb
  subst e;exact I1.fpOk (wa _) (I1.hok.fresh (wa _))
noncomputable def yb0(wi:TI)(g:TG)(tb:TS):TS:=λD σ H=>wi σ H λJ H1=>∃W:Nat->Nat->St->Hp->Prop,(∃m,W 0 m σ H1)/\∀i m σ H,W i m σ H →
 (J.stop i H/\D.nx σ H)\/(J.go i H/\∃N:St->Hp->Prop,(∀σ' H',N σ' H'->∃m',m'<m/\W (i+1) m' σ' H')/\∀x H',J.yld i H x H'->g x σ H' λσ2 H2=>tb { D with nx:=N,ct:=N,bk:=D.nx } σ2 H2)
noncomputable def zjf(fp:List Addr)(h:Heap):List (Addr×Obj):=fp.filterMap λb=>(h.get? b).map λo=>(b,o)
theorem zd6{fp:List Addr}{h:Heap}{b:Addr}{o:Obj}(hb:b∈fp)(e:h.get? b=some o):(b,o)∈zjf fp h:=List.mem_filterMap.mpr ⟨b,hb,by rw[e];rfl⟩
theorem zp8{fp:List Addr}{h:Heap}{p:Addr×Obj}(hp:p∈zjf fp h):p.1∈fp/\h.get? p.1=some p.2:=by
 obtain⟨b,hb,e⟩:=List.mem_filterMap.mp hp
 cases q:h.get? b with
 |none=>rw[q]at e;cases e
 |some o =>
  rw[q]at e;have e':(b,o)=p:=vc e;subst e';exact⟨hb,q⟩
theorem Inv.pinned{pins:List (Addr×Obj)}{σ:St}{H:Hp}{s:Shared}{fp:List Addr}(I:Inv X pins σ H s)(hf:∀b∈fp,zt3 X pins H b)(ho:∀b∈fp,∃o,s.heap.get? b=some o/\∀v,o.data≠.cell v):Inv X (pins++zjf fp s.heap) σ H s :=
 I.pins_of λp hp=>(ac.mp hp).elim (λz=>I.pin p (uc _ z)) λz=>by
  obtain⟨hb,e⟩:=zp8 z;obtain⟨f0,f1,f2,_⟩:=hf p.1 hb;obtain⟨o,e',d⟩:=ho p.1 hb;rw[e]at e';cases e';exact⟨e,f0,f1,f2,d⟩
theorem Inv.unpinned{pins pl:List (Addr×Obj)}{σ:St}{H:Hp}{s:Shared}(I:Inv X (pins++pl) σ H s):Inv X pins σ H s:=I.pins_of λp hp=>I.pin p (uc _ (tf _ hp))
theorem zmz{iter:Expr}{body:List Stmt}{wi:TI}{g:TG}{tb:TS}{pos:Pos}(hp:PassesOwn (model X.prog X.w) X.A X.env X.xe)(hc:X.calm=true)(hi:PI X tg iter wi)(hg:PG X tg g)(hb:PSs X body tb)
  (hs:∀x,foldedSetIterable iter X.env x=pure x:=by intro _;rfl):PS X (.For tg iter body [] pos) (yb0 wi g tb):=by
 intro pins s σ H D I h;refine wpAny_For (thn (hi pins s σ H _ I h) λv s1 h1=>thn h1 λitv s2 h2=>?_) hs;obtain⟨it,fp,tn,J,H2,e,I2,T,st2,f2,W,⟨m0,w0⟩,turn⟩:=h2;subst e;have stat:∀{H':Hp},(∀b∈fp,H' b=none)->∀b∈fp,zt3 X pins H' b:=λhn b hb=>⟨hn b hb,(f2 b hb).2⟩
 refine codeAny_forLoop_any (λn s'=>∃i σ' H',Inv X pins σ' H' s'/\tn i s'.heap/\(∀b∈fp,H' b=none)/\W i n σ' H') ?_ m0 ⟨0,σ,H2,I2,st2,λb hb=>(f2 b hb).1,w0⟩;rintro n s3 ⟨i,σ3,H3,I3,st3,fr3,w3⟩;rcases turn i n σ3 H3 w3 with⟨stop,qn⟩|⟨go,N,hN,step⟩
 ·refine yj hp (thn (T.done X rfl rfl rfl hc i pins s3 σ3 H3 X.xe I3 (stat fr3) st3 stop) λr s4 ⟨hr,I4⟩=>?_)
  subst hr;exact jp ⟨σ3,H3,I4,qn⟩
 ·refine yj hp (thn (T.item X rfl rfl rfl hc i pins s3 σ3 H3 X.xe I3 (stat fr3) st3 go) λr s4 ⟨u,hr,h4⟩=>?_)
  subst hr;refine yj hp (thn h4 λ_ s5 ⟨x,H5,I5,r5,y5,st5,fr5⟩=>?_);have I5':=I5.pinned (stat fr5) (T.obj _ _ st5);refine yj hp (thn (hg _ s5 σ3 H5 x u _ I5' r5 (step x H5 y5)) λ_ s6 ⟨σ6,H6,I6,q6⟩=>?_);refine yj hp (thn (hb _ s6 σ6 H6 _ I6 q6) λf s7 q7=>?_)
  have again:∀{σ7:St} {H7:Hp},Inv X (pins++zjf fp s5.heap) σ7 H7 s7->N σ7 H7->∃m,m<n/\∃i σ' H',Inv X pins σ' H' s7/\tn i s7.heap/\(∀b∈fp,H' b=none)/\W i m σ' H':=λ{σ7 H7} I7 n7=>by
   obtain⟨m',hm,w7⟩:=hN σ7 H7 n7;refine⟨m',hm,i+1,σ7,H7,I7.unpinned,T.keep _ _ _ st5 λb hb o e=>(I7.pin (b,o) (uc _ (uc _ (zd6 hb e)))).1,λb hb=>?_,w7⟩;obtain⟨o,e,d⟩:=T.obj _ _ st5 b hb;exact(I7.pin (b,o) (uc _ (uc _ (zd6 hb e)))).2.1
  cases f with
  |next=>obtain⟨σ7,H7,I7,n7⟩:=q7;exact again I7 n7
  |cont=>obtain⟨σ7,H7,I7,n7⟩:=q7;exact again I7 n7
  |brk=>obtain⟨σ7,H7,I7,q7⟩:=q7;exact⟨σ7,H7,I7.unpinned,q7⟩
  |ret v=>obtain⟨x7,σ7,H7,I7,r7,q7⟩:=q7;exact⟨x7,σ7,H7,I7.unpinned,r7,q7⟩
end
noncomputable abbrev R2:=V->V->Hp->VK->Prop
def OpR(X:Cx)(f:Value->Value->Sem Value)(r:R2):Prop :=
 ∀(pins:List (Addr×Obj)) (s:Shared) (σ:St) (H:Hp) (x y:V) (v u:Value) (Q:VK),Inv X pins σ H s->zbf x v->zbf y u->r x y H Q →
  wpAny (model X.prog X.w) X.A (f v u) (EP X pins σ Q) X.xe s
def UnR(X:Cx)(f:Value->Sem Value)(r:V->Hp->VK->Prop):Prop :=
 ∀(pins:List (Addr×Obj)) (s:Shared) (σ:St) (H:Hp) (x:V) (v:Value) (Q:VK),Inv X pins σ H s->zbf x v->r x H Q →
  wpAny (model X.prog X.w) X.A (f v) (EP X pins σ Q) X.xe s
def zcf(X:Cx)(f:Value)(r:List V->Hp->VK->Prop):Prop :=
 ∀(pins:List (Addr×Obj)) (s:Shared) (σ:St) (H:Hp) (xs:List V) (us:List Value) (Q:VK),Inv X pins σ H s->zbs xs us->r xs H Q →
  wpAny (model X.prog X.w) X.A (call f us) (EP X pins σ Q) X.xe s
noncomputable def tOp(r:R2)(ta tb:TE):TE:=λσ H Q=>ta σ H λx H1=>tb σ H1 λy H2=>r x y H2 Q
noncomputable def tUn(r:V->Hp->VK->Prop)(ta:TE):TE:=λσ H Q=>ta σ H λx H1=>r x H1 Q
noncomputable def rI(C:Int->Int->Prop)(g:Int->Int->V):R2:=λx y H Q=>∃i j,x=.int i/\y=.int j/\C i j/\Q (g i j) H
noncomputable def rI0(g:Int->Int->V):R2:=λx y H Q=>∃i j,x=.int i/\y=.int j/\Q (g i j) H
def rU(g:Int->V):V->Hp->VK->Prop:=λx H Q=>∃i,x=.int i/\Q (g i) H
section
variable {X:Cx}{a b c:Expr}{ta tb tc:TE}{pos:Pos}
theorem z7o(ha:PE X a ta)(hb:PE X b tb){pins:List (Addr×Obj)}{s:Shared}{σ:St}{H:Hp}{R:V->V->Hp->Prop}(I:Inv X pins σ H s)
  (h:ta σ H λx H1=>tb σ H1 λy H2=>R x y H2) {Q:Value->Shared->Prop} {f:Value->Value->Sem Value}
  (hf:∀v u s2 x y H2,Inv X pins σ H2 s2->zbf x v->zbf y u->R x y H2->wpAny (model X.prog X.w) X.A (f v u) Q X.xe s2) :
  wpAny (model X.prog X.w) X.A (eval a X.env) (λv s₁=>wpAny (model X.prog X.w) X.A (eval b X.env) (λu s₂=>wpAny (model X.prog X.w) X.A (f v u) Q X.xe s₂) X.xe s₁) X.xe s:=by
 refine thn (ha pins s σ H _ I h) λv s1 ⟨x,H1,I1,r1,q1⟩=>?_
 refine thn (hb pins s1 σ H1 _ I1 q1) λu s2 ⟨y,H2,I2,r2,q2⟩=>?_
 exact hf v u s2 x y H2 I2 r1 r2 q2
theorem z8i{op:Operator}{r:R2}(ho:OpR X (binaryOp op) r)(ha:PE X a ta)(hb:PE X b tb):PE X (.BinOp a op b pos) (tOp r ta tb):=by
 intro pins s σ H Q I h;exact wpAny_BinOp (z7o ha hb I h λv u s2 x y H2 I2 rx ry q=>ho pins s2 σ H2 x y v u Q I2 rx ry q)
theorem z8j{op:UnaryOp}{r:V->Hp->VK->Prop}(ho:UnR X (unaryOp op) r)(ha:PE X a ta):PE X (.UnaryOp op a pos) (tUn r ta):=by
 intro pins s σ H Q I h;exact UnaryOp_ (thn (ha pins s σ H _ I h) λv s1 ⟨x,H1,I1,r1,q1⟩=>ho pins s1 σ H1 x v Q I1 r1 q1)
theorem opI{f:Value->Value->Sem Value}{C:Int->Int->Prop}{g:Int->Int->Int}
  (rule:∀(i j:Int) (t u:Tok) (s:Shared) (Q:Value->Shared->Prop) (E:Value->Shared->Prop),C i j->Q (.int (g i j) s.toks) { s with toks:=s.toks+1 }->wpAny (model X.prog X.w) X.A (f (.int i t) (.int j u)) Q E s) :
  OpR X f (rI C λi j=>.int (g i j)):=by
 intro pins s σ H x y v u Q I rx ry h;obtain⟨i,j,rfl,rfl,hc,q⟩:=h;obtain⟨t,rfl⟩:=rx;obtain⟨t',rfl⟩:=ry;exact rule i j t t' s _ _ hc ⟨.int (g i j),H,I.tok _,⟨_,rfl⟩,q⟩
theorem ybb{f:Value->Value->Sem Value}{g:Int->Int->Int}
  (rule:∀(i j:Int) (t u:Tok) (s:Shared) (Q:Value->Shared->Prop) (E:Value->Shared->Prop),Q (.int (g i j) s.toks) { s with toks:=s.toks+1 }->wpAny (model X.prog X.w) X.A (f (.int i t) (.int j u)) Q E s) :
  OpR X f (rI0 λi j=>.int (g i j)):=by
 intro pins s σ H x y v u Q I rx ry h;obtain⟨i,j,rfl,rfl,q⟩:=h;obtain⟨t,rfl⟩:=rx;obtain⟨t',rfl⟩:=ry;exact rule i j t t' s _ _ ⟨.int (g i j),H,I.tok _,⟨_,rfl⟩,q⟩
theorem z7p{f:Value->Value->Sem Value}{g:Int->Int->Bool}
  (rule:∀(i j:Int) (t u:Tok) (s:Shared) (Q:Value->Shared->Prop) (E:Value->Shared->Prop),Q (.bool (g i j)) s->wpAny (model X.prog X.w) X.A (f (.int i t) (.int j u)) Q E s) :
  OpR X f (rI0 λi j=>.bl (g i j)):=by
 intro pins s σ H x y v u Q I rx ry h;obtain⟨i,j,rfl,rfl,q⟩:=h;obtain⟨t,rfl⟩:=rx;obtain⟨t',rfl⟩:=ry;exact rule i j t t' s _ _ ⟨.bl (g i j),H,I,rfl,q⟩
def z8k(i j:Int):Prop:=0<j/\j<1073741824
def z8l(i j:Int):Prop:=0<=j/\j<=1000000/\i.natAbs<2 ^ 64
def z7q(i j:Int):Prop:=(-(2 ^ 64)<i/\i<2 ^ 64)\/(-(2 ^ 64)<j/\j<2 ^ 64)
theorem z7q.ok{i j:Int}(h:z7q i j):IntMulOk i j:=by
 rcases h with⟨h1,h2⟩|⟨h1,h2⟩
 ·exact .of_left (intBits_le_64 h1 h2)
 ·exact .of_right (intBits_le_64 h1 h2)
theorem z3c:OpR X (binaryOp .Add) (rI0 λi j=>.int (i+j)):=ybb λ_ _ _ _ _ _ _ q=>add_int q
theorem z3d:OpR X (binaryOp .Sub) (rI0 λi j=>.int (i - j)):=ybb λ_ _ _ _ _ _ _ q=>sub_int q
theorem zzh:OpR X (binaryOp .FloorDiv) (rI z8k λi j=>.int (i / j)):=opI λi j _ _ _ _ _ hc q=>by
 have h1:(0:Int)<j:=hc.1;have h2:j<1073741824:=hc.2;exact floordiv_int (by omega) (by rw[Int.fdiv_eq_ediv_of_nonneg i (by omega)];exact q) (.inl (PyProof.noPylong_small (by omega)))
theorem z3e:OpR X (binaryOp .Mod) (rI (λ_ j=>0<j) λi j=>.int (i % j)):=opI λi j _ _ _ _ _ hc q=>by
 have h1:(0:Int)<j:=hc;exact mod_int' (by omega) (by rw[Int.fmod_eq_emod_of_nonneg i (by omega)];exact q)
theorem z3f:OpR X (binaryOp .Pow) (rI z8l λi j=>.int (i ^ j.toNat)):=opI λ_ _ _ _ _ _ _ hc q=>pow_int_small hc.1 hc.2.1 hc.2.2 q
theorem unI{f:Value->Sem Value}{g:Int->Int}
  (rule:∀(i:Int) (t:Tok) (s:Shared) (Q:Value->Shared->Prop) (E:Value->Shared->Prop),Q (.int (g i) s.toks) { s with toks:=s.toks+1 }->wpAny (model X.prog X.w) X.A (f (.int i t)) Q E s) :
  UnR X f (rU λi=>.int (g i)):=by
 intro pins s σ H x v Q I rx h;obtain⟨i,rfl,q⟩:=h;obtain⟨t,rfl⟩:=rx;exact rule i t s _ _ ⟨.int (g i),H,I.tok _,⟨_,rfl⟩,q⟩
theorem z3g:UnR X (unaryOp .USub) (rU λi=>.int (-i)):=unI λ_ _ _ _ _ q=>neg_int q
end
noncomputable def ybc:V->V->Bool
 |.non,.non=>true|.non,.int _=>true|.int _,.non=>true|.non,.bl _=>true|.bl _,.non=>true|.non,.str _=>true|.str _,.non=>true
 |.int _,.int _=>true|.bl _,.bl _=>true|.str _,.str _=>true|.byt _,.byt _=>true
 |.int _,.str _=>true|.str _,.int _=>true|.bl _,.str _=>true|.str _,.bl _=>true
 |_,_=>false
noncomputable def rEq:R2:=λx y H Q=>ybc x y=true/\Q (.bl (decide (x=y))) H
noncomputable def rNe:R2:=λx y H Q=>ybc x y=true/\Q (.bl (!decide (x=y))) H
theorem zp9{i j:Int}:decide (V.int i=V.int j)=(i == j):=by
 rw[fj];simp
theorem zw2{i j:Bool}:decide (V.bl i=V.bl j)=(i == j):=by
 rw[fj];simp
theorem zqa{i j:Str}:decide (V.str i=V.str j)=(i == j):=by
 rw[fj];simp
theorem zqb{i j:Array UInt8}:decide (V.byt i=V.byt j)=(i.toList == j.toList):=by
 rw[fj];cases i;cases j;simp
section
variable {X:Cx}{a b c:Expr}{ta tb tc:TE}{pos:Pos}
theorem zaw{pins:List (Addr×Obj)}{σ:St}{H:Hp}{s:Shared}{Q:VK}{k k':Bool}(I:Inv X pins σ H s)(q:Q (.bl k) H)(e:k=k'):EP X pins σ Q (.bool k') s:=by
 subst e;exact⟨.bl k,H,I,rfl,q⟩
theorem z8m:OpR X (compareOp .Eq) rEq:=by
 intro pins s σ H x y v u Q I rx ry h;obtain⟨hs,q⟩:=h
 cases x with
 |non =>
  cases rx
  cases y with
  |non=>cases ry;exact PySem.EqNone.eq_none_none (zaw I q (by simp))
  |bl j=>cases ry;exact PySem.EqNone.eq_none_bool (zaw I q (by simp))
  |int j=>obtain⟨t',rfl⟩:=ry;exact PySem.EqNone.eq_none_int (zaw I q (by simp))
  |str j=>obtain⟨t',rfl⟩:=ry;exact PySem.EqNone.eq_none_str (zaw I q (by simp))
  |_=>exact absurd (show false=true from hs) la
 |bl i =>
  cases rx
  cases y with
  |non=>cases ry;exact PySem.EqNone.eq_bool_none (zaw I q (by simp))
  |bl j=>cases ry;exact eq_bool (zaw I q zw2)
  |str j=>obtain⟨t',rfl⟩:=ry;exact PySem.EqMixed.eq_bool_str (zaw I q (by simp))
  |_=>exact absurd (show false=true from hs) la
 |int i =>
  obtain⟨t,rfl⟩:=rx
  cases y with
  |non=>cases ry;exact PySem.EqNone.eq_int_none (zaw I q (by simp))
  |int j=>obtain⟨t',rfl⟩:=ry;exact eq_int (zaw I q zp9)
  |str j=>obtain⟨t',rfl⟩:=ry;exact PySem.EqMixed.eq_int_str (zaw I q (by simp))
  |_=>exact absurd (show false=true from hs) la
 |str i =>
  obtain⟨t,rfl⟩:=rx
  cases y with
  |non=>cases ry;exact PySem.EqNone.eq_str_none (zaw I q (by simp))
  |bl j=>cases ry;exact PySem.EqMixed.eq_str_bool (zaw I q (by simp))
  |int j=>obtain⟨t',rfl⟩:=ry;exact PySem.EqMixed.eq_str_int (zaw I q (by simp))
  |str j=>obtain⟨t',rfl⟩:=ry;exact eq_str (zaw I q zqa)
  |_=>exact absurd (show false=true from hs) la
 |byt i =>
  obtain⟨t,rfl⟩:=rx
  cases y with
  |byt j=>obtain⟨t',rfl⟩:=ry;exact PySem.W.eq_bytes (zaw I q zqb)
  |_=>exact absurd (show false=true from hs) la
 |_=>cases y <;> exact absurd (show false=true from hs) la
theorem z8n:OpR X (compareOp .NotEq) rNe:=by
 intro pins s σ H x y v u Q I rx ry h;obtain⟨hs,q⟩:=h
 cases x with
 |non =>
  cases rx
  cases y with
  |non=>cases ry;exact PySem.EqNone.ne_none_none (zaw I q (by simp))
  |bl j=>cases ry;exact PySem.EqNone.ne_none_bool (zaw I q (by simp))
  |int j=>obtain⟨t',rfl⟩:=ry;exact PySem.EqNone.ne_none_int (zaw I q (by simp))
  |str j=>obtain⟨t',rfl⟩:=ry;exact PySem.EqNone.ne_none_str (zaw I q (by simp))
  |_=>exact absurd (show false=true from hs) la
 |bl i =>
  cases rx
  cases y with
  |non=>cases ry;exact PySem.EqNone.ne_bool_none (zaw I q (by simp))
  |bl j=>cases ry;exact ne_bool (zaw I q (zc not zw2))
  |str j=>obtain⟨t',rfl⟩:=ry;exact PySem.EqMixed.ne_bool_str (zaw I q (by simp))
  |_=>exact absurd (show false=true from hs) la
 |int i =>
  obtain⟨t,rfl⟩:=rx
  cases y with
  |non=>cases ry;exact PySem.EqNone.ne_int_none (zaw I q (by simp))
  |int j=>obtain⟨t',rfl⟩:=ry;exact ne_int (zaw I q (zc not zp9))
  |str j=>obtain⟨t',rfl⟩:=ry;exact PySem.EqMixed.ne_int_str (zaw I q (by simp))
  |_=>exact absurd (show false=true from hs) la
 |str i =>
  obtain⟨t,rfl⟩:=rx
  cases y with
  |non=>cases ry;exact PySem.EqNone.ne_str_none (zaw I q (by simp))
  |bl j=>cases ry;exact PySem.EqMixed.ne_str_bool (zaw I q (by simp))
  |int j=>obtain⟨t',rfl⟩:=ry;exact PySem.EqMixed.ne_str_int (zaw I q (by simp))
  |str j=>obtain⟨t',rfl⟩:=ry;exact ne_str (zaw I q (zc not zqa))
  |_=>exact absurd (show false=true from hs) la
 |byt i =>
  obtain⟨t,rfl⟩:=rx
  cases y with
  |byt j=>obtain⟨t',rfl⟩:=ry;exact PySem.W.ne_bytes (zaw I q (zc not zqb))
  |_=>exact absurd (show false=true from hs) la
 |_=>cases y <;> exact absurd (show false=true from hs) la
theorem z8o:OpR X (compareOp .Lt) (rI0 λi j=>.bl (decide (i<j))):=z7p λ_ _ _ _ _ _ _ q=>lt_int q
theorem z8p:OpR X (compareOp .LtE) (rI0 λi j=>.bl (decide (i<=j))):=z7p λ_ _ _ _ _ _ _ q=>le_int q
theorem z8q:OpR X (compareOp .Gt) (rI0 λi j=>.bl (decide (j<i))):=z7p λ_ _ _ _ _ _ _ q=>gt_int q
theorem z8r:OpR X (compareOp .GtE) (rI0 λi j=>.bl (decide (j<=i))):=z7p λ_ _ _ _ _ _ _ q=>ge_int q
theorem zqc:OpR X (compareOp .In) (λx y H Q=>∃i j,x=.str i/\y=.str j/\Q (.bl (!(Builtin.Str.occurrences j i 0 j.length 1).isEmpty)) H):=by
 intro pins s σ H x y v u Q I rx ry h;obtain⟨i,j,rfl,rfl,q⟩:=h;obtain⟨t,rfl⟩:=rx;obtain⟨t',rfl⟩:=ry;exact in_str (zaw I q rfl)
theorem zjg:OpR X (compareOp .NotIn) (λx y H Q=>∃i j,x=.str i/\y=.str j/\Q (.bl (!(!(Builtin.Str.occurrences j i 0 j.length 1).isEmpty))) H):=by
 intro pins s σ H x y v u Q I rx ry h;obtain⟨i,j,rfl,rfl,q⟩:=h;obtain⟨t,rfl⟩:=rx;obtain⟨t',rfl⟩:=ry;exact notIn_str (zaw I q rfl)
theorem OpR.or{f:Value->Value->Sem Value}{r r':R2}(h:OpR X f r)(h':OpR X f r'):OpR X f (λx y H Q=>r x y H Q\/r' x y H Q):=by
 intro pins s σ H x y v u Q I rx ry q;rcases q with q|q
 ·exact h pins s σ H x y v u Q I rx ry q
 ·exact h' pins s σ H x y v u Q I rx ry q
theorem zbe(b:Expr){op:CmpOp}(h:op≠.In:=by decide)(h2:op≠.NotIn:=by decide):behindInMarks op b=false:=by
 have e1:(op == CmpOp.In)=false:=by cases op <;> first|rfl|exact absurd rfl h
 have e2:(op == CmpOp.NotIn)=false:=by cases op <;> first|rfl|exact absurd rfl h2
 cases b <;> simp[behindInMarks,e1,e2]
theorem zzi{op:CmpOp}{r:R2}(ho:OpR X (compareOp op) r)(ha:PE X a ta)(hb:PE X b tb)(hm:behindInMarks op b=false):PE X (.Compare a [op] [b] pos) (tOp r ta tb):=by
 intro pins s σ H Q I h;exact wpAny_Compare1 (z7o ha hb I h λv u s2 x y H2 I2 rx ry q=>ho pins s2 σ H2 x y v u Q I2 rx ry q) hm
theorem zhk:(sizeLine:Nat)<2 ^ 63:=by rw[sizeLine_eq];decide
theorem zou:OpR X (binaryOp .Add) (λx y H Q=>∃i j,x=.str i/\y=.str j/\i.length+j.length<=sizeLine/\Q (.str (i++j)) H):=by
 intro pins s σ H x y v u Q I rx ry h;obtain⟨i,j,rfl,rfl,hz,q⟩:=h;obtain⟨t,rfl⟩:=rx;obtain⟨t',rfl⟩:=ry;exact add_str (λt' tk=>⟨.str (i++j),H,I.tok _,⟨_,rfl⟩,q⟩) hz
theorem zek{x:V}{us:List Value}(r:zbs [x] us):∃u,us=[u]/\zbf x u:=by
 cases r with
 |cons r1 r2=>cases r2;exact⟨_,rfl,r1⟩
theorem z3h{x y:V}{us:List Value}(r:zbs [x,y] us):∃u w',us=[u,w']/\zbf x u/\zbf y w':=by
 cases r with
 |cons r1 r2 =>
  cases r2 with
  |cons r3 r4=>cases r4;exact⟨_,_,rfl,r1,r3⟩
theorem zqd(hc:X.calm=true):zcf X (.builtin "min") (λxs H Q=>∃i j,xs=[.int i,.int j]/\Q (.int (if j<i then j else i)) H):=by
 intro pins s σ H xs us Q I r h;obtain⟨i,j,rfl,q⟩:=h;obtain⟨u,w',rfl,⟨t,rfl⟩,⟨t',rfl⟩⟩:=z3h r;refine min_two_ints (I.ok.hd hc) λh' tk k=>⟨_,H,I.kept k,?_,q⟩
 by_cases hj:j<i
 ·rw[ba hj,ba hj];exact⟨_,rfl⟩
 ·rw[oa hj,oa hj];exact⟨_,rfl⟩
theorem zqe:zcf X (.type "int") (λxs H Q=>(∃i,xs=[.int i]/\Q (.int i) H)\/∃k,xs=[.bl k]/\Q (.int (if k then 1 else 0)) H):=by
 intro pins s σ H xs us Q I r h;rcases h with⟨i,rfl,q⟩|⟨k,rfl,q⟩
 ·obtain⟨u,rfl,t,rfl⟩:=zek r
  exact call_int_int ⟨.int i,H,I,⟨_,rfl⟩,q⟩
 ·obtain⟨u,rfl,r1⟩:=zek r
  cases r1;exact call_int_bool ⟨.int (if k then 1 else 0),H,I.tok _,⟨_,rfl⟩,q⟩
end
structure ObjM(h:Heap)(x dx C:Addr)(mA:Str->Option Value):Prop where
 obj:h.get? x=some (PySem.W.instObj C dx)
 ns:h.Ns1 dx mA
 ne:dx≠x
theorem zqf{h:Heap}{dx:Addr}{mA:Str->Option Value}(n:h.Ns1 dx mA):∃od,h.get? dx=some od/\∀name,PySem.W.lookIn name od=some (mA name):=by
 obtain⟨o,es,ep,ho,hd,hk,_,hm⟩:=n;refine⟨o,ho,λname=>?_⟩;have e:=hm name;unfold nsFind findBy at e;rw[<-Array.find?_toList]at e;unfold PySem.W.lookIn;rw[hd];dsimp only;split
 ·rename_i y q
  rw[q]at e;exact zc some e
 ·rename_i q
  rw[q]at e
  have a:es.toList.any (·.refKey)=false:=by
   rw[List.any_eq_false];intro y hy;obtain⟨z,t,zha⟩:=hk y (zp.mp hy);simp[DictEntry.refKey,zha]
  have a':¬es.toList.any (·.refKey)=true:=by rw[a];exact la
  rw[oa a'];exact zc some e
theorem ObjM.look{h:Heap}{x dx C:Addr}{mA:Str->Option Value}(I:ObjM h x dx C mA):∃od,PySem.W.InstAt h x (PySem.W.instObj C dx) C (some od)/\∀name,PySem.W.lookIn name od=some (mA name) :=
 let ⟨od,ho,hl⟩:=zqf I.ns
 ⟨od,⟨I.obj,rfl,rfl,ho⟩,hl⟩
theorem zmv.some_of{v:V}{o:Option Value}(r:zmv (some v) o):∃u,o=some u/\zbf v u:=by
 cases o with
 |none=>exact(show False from r).elim
 |some u=>exact⟨u,rfl,r⟩
section
variable {P:Program}{w:World}{H H':Hp}{h h':Heap}{a C dx:Addr}{fs fs':List (Str×V)}
theorem zzj(hok:HOk P w H h)(e:H a=some (.ins C dx fs)):∃mA,ObjM h a dx C mA/\(∀f,zmv (fs.lookup f) (mA f))/\PySem.Within mA (fs.map (·.1))/\fs.length<=1000/\H dx=some (.own a):=by
 obtain⟨d,z,ne,ob,mA,n,r,q⟩:=(show zbi P w H h a (.ins C dx fs) from hok a _ e)
 exact⟨mA,⟨ob,n,ne⟩,r,q,z,d⟩
end
structure Cls(K:PySem.W.Frag)(C:Addr):Prop where
 pg:PySem.W.plainGet K C Str.empty=true
 hd:PySem.W.hasDictIn K C=true
 po:PySem.W.plainOver K C=true
 sa:PySem.W.findIn K (.ref C) "__setattr__" = some (some (.builtin "object.__setattr__"))
theorem Cls.get{K:PySem.W.Frag}{C:Addr}(c:Cls K C)(f:Str):PySem.W.plainGet K C f=true:=c.pg
section
variable {X:Cx}{pins:List (Addr×Obj)}{σ:St}{H:Hp}{s:Shared}{A:Around}{E:Value->Shared->Prop}{Q:Value->Shared->Prop}{c:Value}{b:Bool}
inductive TyOf (K:PySem.W.Frag) (H:Hp):V->Value->Prop where
 |non:TyOf K H .non (.type "NoneType")
 |bl (x:Bool):TyOf K H (.bl x) (.type "bool")
 |int (i:Int):TyOf K H (.int i) (.type "int")
 |str (x:Str):TyOf K H (.str x) (.type "str")
 |flt (x:UInt64):TyOf K H (.flt x) (.type "float")
 |lst {a:Addr} {xs:List V} (e:H a=some (.lst xs)):TyOf K H (.ref a) (.type "list")
 |frz {a:Addr} {o:Obj} {xs:List V} (e:H a=some (.frz o (.lst xs))):TyOf K H (.ref a) (.type "list")
 |tup {a:Addr} {xs:List V} (e:H a=some (.tup xs)):TyOf K H (.ref a) (.type "tuple")
 |dK {a:Addr} {kvs:List (Key×V)} (e:H a=some (.dK kvs)):TyOf K H (.ref a) (.type "dict")
 |dT {a:Addr} {kvs:List (List Key×V)} (e:H a=some (.dT kvs)):TyOf K H (.ref a) (.type "dict")
 |ins {a C dx:Addr} {fs:List (Str×V)} (e:H a=some (.ins C dx fs)) (cl:Cls K C) (ha:PySem.W.findIn K (.ref C) "__class__" = some (some (.builtin "object.__class__")))
   (hn:PySem.W.specialIn K (.builtin "object.__class__") "__get__" = some (some (.builtin "getset_descriptor.__get__"))) (htk:PySem.W.takesIn K (.builtin "object.__class__")=some true)
   (hm:PySem.W.mroIn K C (.type "object")=some true):TyOf K H (.ref a) (.ref C)
theorem zqg{x:V}{u t:Value}(I:Inv X pins σ H s)(rx:zbf x u)(ty:TyOf X.K H x t)(e:PySem.W.kitOne X.K t c=some b)(h:∀tk,Q (.bool b) { s with toks:=tk }) :
  wpAny (model X.prog X.w) A (call (.builtin "isinstance") [u,c]) Q E s:=by
 cases ty with
 |non=>cases (show u=Value.none from rx);exact PySem.W.kia_one PySem.W.kitx_none I.kIn gg e (λz=>nomatch z) h
 |bl y=>cases (show u=Value.bool y from rx);exact PySem.W.kia_one PySem.W.kitx_bool I.kIn gg e (λz=>nomatch z) h
 |int i=>obtain⟨t,q⟩:=(show ∃t,u=Value.int i t from rx);cases q;exact PySem.W.kia_one PySem.W.kitx_int I.kIn gg e (λz=>nomatch z) h
 |str y=>obtain⟨t,q⟩:=(show ∃t,u=Value.str y t from rx);cases q;exact PySem.W.kia_one PySem.W.kitx_str I.kIn gg e (λz=>nomatch z) h
 |flt y=>obtain⟨t,q⟩:=(show ∃t,u=Value.float y t from rx);cases q;exact PySem.W.kia_one PySem.W.kitx_float I.kIn gg e (λz=>nomatch z) h
 |@lst a xs ea =>
  cases (show u=Value.ref a from rx)
  obtain⟨_,_,n,_,h1⟩:=(show zbi X.prog X.w H s.heap a (.lst xs) from I.hok a _ ea)
  exact PySem.W.kia_one PySem.W.kitx_list I.kIn ⟨_,h1,rfl⟩ e (λz=>nomatch z) h
 |@frz a ob xs ea =>
  cases (show u=Value.ref a from rx)
  obtain⟨_,_,_,n,_,h1⟩:=(show zbi X.prog X.w H s.heap a (.frz ob (.lst xs)) from I.hok a _ ea)
  exact PySem.W.kia_one PySem.W.kitx_list I.kIn ⟨_,h1,rfl⟩ e (λz=>nomatch z) h
 |@tup a xs ea =>
  cases (show u=Value.ref a from rx)
  obtain⟨_,_,_,p⟩:=(show zbi X.prog X.w H s.heap a (.tup xs) from I.hok a _ ea)
  obtain⟨o,h1,h2,_⟩:=p;exact PySem.W.kia_one PySem.W.kitx_tuple I.kIn ⟨o,h1,h2⟩ e (λz=>nomatch z) h
 |@dK a kvs ea =>
  cases (show u=Value.ref a from rx)
  obtain⟨_,_,vs,_,p⟩:=(show zbi X.prog X.w H s.heap a (.dK kvs) from I.hok a _ ea)
  obtain⟨o,es,ep,h1,h2,_⟩:=p;exact PySem.W.kia_one PySem.W.kitx_dict I.kIn ⟨o,h1,h2.1⟩ e (λz=>nomatch z) h
 |@dT a kvs ea =>
  cases (show u=Value.ref a from rx)
  obtain⟨_,_,xs,_,o,es,ep,h1,h2,_⟩:=(show zbi X.prog X.w H s.heap a (.dT kvs) from I.hok a _ ea)
  exact PySem.W.kia_one PySem.W.kitx_dict I.kIn ⟨o,h1,h2.1⟩ e (λz=>nomatch z) h
 |@ins a C dx fs ea cl ha hn htk hm =>
  cases (show u=Value.ref a from rx)
  obtain⟨mA,O,_⟩:=zzj I.hok ea;obtain⟨od,J,_⟩:=O.look;exact PySem.W.kia_one (PySem.W.kitx_own (cl.get _) cl.hd ha hn htk hm) I.kIn J e (λz=>nomatch z) h
end
structure Room(k:Nat)(A:Around):Prop where
 hd:A.handled=none
 dp:A.depth+3 * k+5<recursionLimit
 un:A.units+16 * k+200<cLine
theorem Room.mono{j k:Nat}{A:Around}(r:Room k A)(h:j<=k):Room j A:=⟨r.hd,by have:=r.dp;omega,by have:=r.un;omega⟩
theorem Room.deeper{k:Nat}{A:Around}(r:Room (k+1) A)(env:Env):Room k (A.deeper env) :=
 ⟨r.hd,by have:=r.dp;show A.depth+1+3 * k+5<_;omega,by have:=r.un;show A.units+3+16 * k+200<_;omega⟩
theorem Room.depth{k:Nat}{A:Around}(r:Room k A):A.depth<recursionLimit:=by have:=r.dp;omega
theorem Room.units{k:Nat}{A:Around}(r:Room k A):A.units+64<cLine:=by have:=r.un;omega
noncomputable def ybd:TA:=λ_ H Q=>Q [] H
noncomputable def z3i(ta:TE)(tr:TA):TA:=λσ H Q=>ta σ H λx H1=>tr σ H1 λxs H2=>Q (x::xs) H2
section
variable {X:Cx}{e:Expr}{es:List Expr}{te:TE}{t:TA}{pos:Pos}
theorem zdt:PA X [] ybd:=λ_ _ _ _ H Q I h=>qk ⟨[],H,I,.nil,h⟩
theorem zcb(ha:PE X e te)(hr:PA X es t)(hs:starEach (e::es) X.env=(false,eval e X.env)::starEach es X.env:=by rfl):PA X (e::es) (z3i te t):=by
 intro pos pins s σ H Q I h;rw[hs];show wpAny _ _ (spliced ((false,eval e X.env)::backTo pos (starEach es X.env))) _ _ s;refine rh (thn (ha pins s σ H _ I h) λu s1 ⟨x,H1,I1,r1,q1⟩=>?_);exact thn (hr pos pins s1 σ H1 _ I1 q1) λus s2 ⟨xs,H2,I2,r2,q2⟩=>⟨x::xs,H2,I2,.cons r1 r2,q2⟩
noncomputable def yb1(t:TA):TE:=λσ H Q=>t σ H λxs H1=>xs.length<=sizeLine/\∀p,H1 p=none->Q (.ref p) (upd H1 p (.tup xs))
noncomputable def yb2(t:TA):TE:=λσ H Q=>t σ H λxs H1=>xs.length<=sizeLine/\∀p,H1 p=none->Q (.ref p) (upd H1 p (.lst xs))
theorem zw3{x1}(h:PA X es t):PE X (.Tuple es x1 pos) (yb1 t):=by
 intro pins s σ H Q I hq;refine wpAny_Tuple_spliced (thn (h pos pins s σ H _ I hq) λus s1 ⟨xs,H1,I1,r,z,q⟩=>⟨by rw[<-r.length];exact z,?_⟩);have hf:H1 s1.heap.objs.size=none:=I1.hok.fresh (wa _);refine⟨.ref s1.heap.objs.size,upd H1 s1.heap.objs.size (.tup xs),I1.laid (t':=s1.toks) (λb u e=>bb _ e) (wa _) ?_,rfl,q _ hf⟩;exact⟨z,us,r,⟨_,cc _ rfl,rfl,_,rfl⟩⟩
theorem zm0(h:PA X es t):PE X (.List es pos) (yb2 t):=by
 intro pins s σ H Q I hq;refine wpAny_List_spliced (thn (h pos pins s σ H _ I hq) λus s1 ⟨xs,H1,I1,r,z,q⟩=>⟨by rw[<-r.length];exact z,?_⟩);have hf:H1 s1.heap.objs.size=none:=I1.hok.fresh (wa _);refine⟨.ref s1.heap.objs.size,upd H1 s1.heap.objs.size (.lst xs),I1.laid (t':=s1.toks) (λb u e=>bb _ e) (wa _) ?_,rfl,q _ hf⟩;exact⟨z,us,0,r,cc _ rfl⟩
end
noncomputable abbrev Sp:=List V->Hp->VK->XK->Prop
noncomputable abbrev CXT:=List Env->Hp->Shared->XK->Value->Shared->Prop
structure Env0(P:Program)(w:World)(K:PySem.W.Frag)(mg:Str->Option Value)(base:Heap)(A:Around)(outer:List Env)(s:Shared)(H:Hp):Prop where
 frames:A.frames=some outer
 mod:Mod K mg base
 bs:∀b o,base.get? b=some o->s.heap.get? b=some o/\H b=none
 bsz:base.objs.size<=s.heap.objs.size
 funs:s.heap.FunFrames base outer
 frf:∀b∈frs outer,H b=none
 hok:HOk P w H s.heap
 bare:AllBare s.gens
def CE(outer:List Env)(P:Program)(w:World)(H:Hp)(s:Shared)(Q:VK)(u:Value)(s':Shared):Prop :=
 ∃v H',s'.os=s.os/\AllBare s'.gens/\Un (frs outer) [] H H' s.heap s'.heap/\HOk P w H' s'.heap/\zbf v u/\Q v H'
def CR(CX:CXT)(outer:List Env)(P:Program)(w:World)(H:Hp)(s:Shared)(Q:VK)(E:XK)(r:Result)(s':Shared):Prop :=
 match r with
 |.ok (.ret u)=>CE outer P w H s Q u s'
 |.ok _=>False
 |.error e=>CX outer H s E e s'
structure FnOk(P:Program)(w:World)(K:PySem.W.Frag)(mg:Str->Option Value)(base:Heap)(CX:CXT)(k:Nat)(f:Addr)(fd:FuncData)(ps:List Str)(sp:Sp):Prop where
 len:∀vs H Q E,sp vs H Q E->vs.length=ps.length
 run:∀(A:Around) (outer:List Env) (s:Shared) (H:Hp) (args:Args) (us:List Value) (vs:List V) (Q:VK) (E:XK),Room k A->Env0 P w K mg base A outer s H->BindsTo s fd args (ps.zip us)->zbs vs us->sp vs H Q E →
  codeAny (model P w) A (.call (.ref f) args) (CR CX outer P w H s Q E) s
theorem Env0.in1{P:Program}{w:World}{K:PySem.W.Frag}{mg:Str->Option Value}{base:Heap}{A:Around}{outer:List Env}{s:Shared}{H:Hp}(e:Env0 P w K mg base A outer s H) :
  Env0 P w K mg base A.in1 outer s H:=⟨e.frames,e.mod,e.bs,e.bsz,e.funs,e.frf,e.hok,e.bare⟩
section
variable {X:Cx}{pins:List (Addr×Obj)}{σ:St}{H:Hp}{s s':Shared}
theorem Inv.env0(I:Inv X pins σ H s):Env0 X.prog X.w X.K X.mg X.base X.A X.stack s H :=
 ⟨I.ok.frames,I.ok.mod,I.bs,ie I.ok.bsz I.sz,I.stack,I.stkFree,I.hok,I.bare⟩
theorem Inv.after{Q:VK}{u:Value}(I:Inv X pins σ H s)(h:CE X.stack X.prog X.w H s Q u s'):EP X pins σ Q u s':=by
 obtain⟨v,H',os,bare,un,hok,r,q⟩:=h;obtain⟨hh,g,d,t,os'⟩:=s';obtain rfl:os'=s.os:=os;exact⟨v,H',I.call (h':=hh) (g':=g) (d':=d) (t':=t) (ch:=[]) un hok bare (λb z=>absurd z (by simp)),r,q⟩
end
noncomputable def z8s(sp:Sp)(dvs:List V)(E:XK)(t:TA):TE:=λσ H Q=>t σ H λvs H1=>sp (vs++dvs) H1 Q E
def zdu(K:PySem.W.Frag)(fd:FuncData)(ps:List Str)(ds:List Value):Prop :=
 ∀(s:Shared) (us:List Value),K.In s.heap->(us++ds).length=ps.length->BindsTo s fd ⟨us,[]⟩ (ps.zip (us++ds))
theorem zdu.all{K:PySem.W.Frag}{fd:FuncData}{ps:List Str}(h:∀us:List Value,us.length=ps.length->bindArgs fd ⟨us,[]⟩=pure (ps.zip us)):zdu K fd ps []:=λs us _ hl=>by
 rw[kc]at hl ⊢;exact .of_eq (h us hl)
def zqh(CX:CXT)(X:Cx)(E:XK):Prop:=∀(pins:List (Addr×Obj)) (σ:St) (H:Hp) (s:Shared) (e:Value) (s':Shared),Inv X pins σ H s->CX X.stack H s E e s'->X.xe e s'
section
variable {X:Cx}{CX:CXT}{k:Nat}{f C:Addr}{fd:FuncData}{ps:List Str}{sp:Sp}{dvs:List V}{ds:List Value}{E:XK}{x m:Str}{p pos apos:Pos}{e o:Expr}{es:List Expr}{ta:TE}{t:TA}
theorem z3j{pins:List (Addr×Obj)}{σ:St}{H:Hp}{s:Shared}{Q:VK}{us:List Value}{vs:List V}(F:FnOk X.prog X.w X.K X.mg X.base CX k f fd ps sp)(hr:Room k X.A)(hb:zdu X.K fd ps ds)(hd:zbs dvs ds)(hx:zqh CX X E)
  (I:Inv X pins σ H s) (r:zbs vs us) (h:sp (vs++dvs) H Q E):wpAny (model X.prog X.w) X.A (call (.ref f) us) (EP X pins σ Q) X.xe s:=by
 have r2:zbs (vs++dvs) (us++ds):=r.append hd;have hl:(us++ds).length=ps.length:=by rw[<-r2.length];exact F.len _ _ _ _ h
 refine wpAny_call (zo (F.run X.A X.stack s H ⟨us,[]⟩ (us++ds) (vs++dvs) Q E hr I.env0 (hb s us I.kIn hl) r2 h) λr s' hq=>?_)
 cases r with
 |error e=>exact hx pins σ H s e s' I hq
 |ok fl =>
  cases fl with
  |ret u=>exact I.after hq
  |next=>exact False.elim hq
  |brk=>exact False.elim hq
  |cont=>exact False.elim hq
theorem zli(F:FnOk X.prog X.w X.K X.mg X.base CX k f fd ps sp)(hr:Room k X.A)(hg:Gl X x)(hm:X.mg x=some (.ref f))(hk:PySem.W.keepIn X.K (.ref f)=true)(hb:zdu X.K fd ps ds)(hd:zbs dvs ds)(hx:zqh CX X E)
  (ha:PA X (e::es) t) (hdb:(x == ("__debug__" : Str))=false:=by decide) (he:starEach (e::es) X.env=(false,eval e X.env)::starEach es X.env:=by rfl) (hpl:(backTo pos (starEach es X.env)).any (·.1)=false:=by rfl) :
  PE X (.Call (.Name x p) (e::es) [] pos) (z8s sp dvs E t):=by
 intro pins s σ H Q I h;refine fg (zp4 I hg hm ?_ hdb);refine PySem.W.callWith_K (h₀:=X.base) I.ok.mod.kin hk (thn (ha pos pins s σ H _ I h) λus s1 ⟨vs,H1,I1,r,q⟩=>⟨I1.kIn,?_⟩) he hpl;exact z3j F hr hb hd hx I1 r q
end
def PK(X:Cx)(kws:List Keyword)(t:TA):Prop :=
 ∀(pos:Pos) (pins:List (Addr×Obj)) (s:Shared) (σ:St) (H:Hp) (Q:List V->Hp->Prop),Inv X pins σ H s->t σ H Q->wpAny (model X.prog X.w) X.A (evalAll ((backToKw pos (keywordEach kws X.env)).map (·.2))) (AP X pins σ Q) X.xe s
section
variable {X:Cx}{CX:CXT}{k:Nat}{f C:Addr}{fd:FuncData}{ps ks:List Str}{sp:Sp}{E:XK}{x m:Str}{p pos apos kpos:Pos}{e o:Expr}{es:List Expr}{kws:List Keyword}{te ta:TE}{t tk:TA}{nm:Option Str}
theorem zqi:PK X [] ybd:=λ_ _ _ _ H Q I h=>wpAny_evalAll_nil ⟨[],H,I,.nil,h⟩
theorem zlj(ha:PE X e te)(hr:PK X kws t):PK X (⟨nm,e,kpos⟩::kws) (z3i te t):=by
 intro pos pins s σ H Q I h;show wpAny _ _ (evalAll ((do let v ← eval e X.env;standAt pos;pure v)::(backToKw pos (keywordEach kws X.env)).map (·.2))) _ _ s;refine wpAny_evalAll_cons (aa (thn (ha pins s σ H _ I h) λu s1 ⟨x,H1,I1,r1,q1⟩=>aa (wpAny_standAt (va ?_))));exact thn (hr pos pins s1 σ H1 _ I1 q1) λus s2 ⟨xs,H2,I2,r2,q2⟩=>⟨x::xs,H2,I2,.cons r1 r2,q2⟩
variable {g:List Value->List Value->List Value}{gV:List V->List V->List V}
end
structure FnScope(N P:List Str)(sc:Scope):Prop where
 kind:sc.kind=.function
 co:sc.isCoroutine=false
 gen:sc.isGenerator=false
 nd:N.Nodup
 pre:N.take P.length=P
 par:∀x∈P,sc.names.lookup x=some .local\/sc.names.lookup x=some .cell
 nofree:∀y∈sc.names,y.2≠.free
theorem zjh{kindOf:Str->Option NameKind}{x:Str}:∀{binds:List (Str×Value)}{m:Str->Option Value},(∀v,(x,v) ∉ binds)->bindL kindOf binds m x=m x
 |[],_,_=>rfl
 |(n,v)::r,m,h=>by
  unfold bindL;rw[zjh λw hw=>h w (da _ hw)];split
  ·have:x≠n:=by rintro rfl;exact h v za
   simp[this]
  ·rfl
theorem zji{kindOf:Str->Option NameKind}{x:Str}:∀{binds:List (Str×Value)}{m:Str->Option Value},(∀v,(x,v) ∉ binds)->bindC kindOf binds m x=m x
 |[],_,_=>rfl
 |(n,v)::r,m,h=>by
  unfold bindC;rw[zji λw hw=>h w (da _ hw)];split
  ·rfl
  ·have:x≠n:=by rintro rfl;exact h v za
   simp[this]
theorem zjj{kindOf:Str->Option NameKind}{x:Str}{v:Value}:∀{P:List Str}{vs:List Value}{i:Nat}{m:Str->Option Value},P.Nodup->P[i]?=some x->vs[i]?=some v->kindOf x=some .local →
  bindL kindOf (P.zip vs) m x=some v
 |[],_,_,_,_,h,_,_=>by simp at h
 |_::_,[],_,_,_,_,h,_=>by simp at h
 |p::P,w::vs,0,m,nd,h1,h2,hk=>by
  simp at h1 h2;subst h1;subst h2;show bindL kindOf ((p,w)::P.zip vs) m p=_;unfold bindL;rw[zjh λv hv=>(cg.mp nd).1 (lp hv).1,ba hk];simp
 |p::P,w::vs,i+1,m,nd,h1,h2,hk=>by
  show bindL kindOf ((p,w)::P.zip vs) m x=_;unfold bindL;exact zjj (i:=i) (cg.mp nd).2 (by simpa using h1) (by simpa using h2) hk
theorem zjk{kindOf:Str->Option NameKind}{x:Str}{v:Value}:∀{P:List Str}{vs:List Value}{i:Nat}{m:Str->Option Value},P.Nodup->P[i]?=some x->vs[i]?=some v->kindOf x≠some .local →
  bindC kindOf (P.zip vs) m x=some v
 |[],_,_,_,_,h,_,_=>by simp at h
 |_::_,[],_,_,_,_,h,_=>by simp at h
 |p::P,w::vs,0,m,nd,h1,h2,hk=>by
  simp at h1 h2;subst h1;subst h2;show bindC kindOf ((p,w)::P.zip vs) m p=_;unfold bindC;rw[zji λv hv=>(cg.mp nd).1 (lp hv).1,oa hk];simp
 |p::P,w::vs,i+1,m,nd,h1,h2,hk=>by
  show bindC kindOf ((p,w)::P.zip vs) m x=_;unfold bindC;exact zjk (i:=i) (cg.mp nd).2 (by simpa using h1) (by simpa using h2) hk
noncomputable def zf7(N:List Str)(vs:List V):St:=vs.map some++List.replicate (N.length - vs.length) none
noncomputable def zqj(CX:CXT)(P:Program)(w:World)(K:PySem.W.Frag)(mg:Str->Option Value)(base:Heap)(N:List Str)(qual:Str)(scope:Scope)(f:Addr)(cd:Value)(A:Around)(outer:List Env)(s:Shared)(H:Hp)(E:XK):Cx where
 prog:=P
 w:=w
 K:=K
 mg:=mg
 base:=base
 A:=A.deeper (envOfC qual scope s.heap.objs.size f cd)
 N:=N
 s₀:=s
 H₀:=H
 env:=envOfC qual scope s.heap.objs.size f cd
 outer:=outer
 stack:=envOfC qual scope s.heap.objs.size f cd::outer
 ex:=[]
 calm:=true
 fn:=λ_=>true
 pn:=[]
 xe:=λe s'=>wpAny (model P w) (A.deeper (envOfC qual scope s.heap.objs.size f cd)) (leaving (envOfC qual scope s.heap.objs.size f cd) e) (λ_ s''=>CX outer H s E e s'') (λe' s''=>CX outer H s E e' s'') s'
theorem zm1{sc:Scope}{n:Nat}{x:Str}(h:sc.names.lookup x=some .cell):∃c,(cellsFrom n sc.names []).lookup x=some c:=by
 have q:=PySem.W.cellsFrom_some sc.names n [] (.inl h);exact Option.isSome_iff_exists.mp q
theorem zqk{CX:CXT}{P:Program}{w:World}{K:PySem.W.Frag}{mg:Str->Option Value}{base:Heap}{N ps:List Str}{qual:Str}{scope:Scope}{f:Addr}{cd:Value}{A:Around}{outer:List Env}{s s1:Shared}{H:Hp}{E:XK}{us:List Value}{vs:List V}
  (S:FnScope N ps scope) (hd:A.handled=none) (e0:Env0 P w K mg base A outer s H) (hl:vs.length=ps.length) (r:zbs vs us)
  (x:InCallC s s.heap.objs.size (bindL (envOfC qual scope s.heap.objs.size f cd).kindOf (ps.zip us) λ_=>none) (cellsFrom (s.heap.objs.size+1) scope.names []) (bindC (envOfC qual scope s.heap.objs.size f cd).kindOf (ps.zip us) λ_=>none) s1) :
  Inv (zqj CX P w K mg base N qual scope f cd A outer s H E) [] (zf7 N vs) H s1:=by
 have hpl:ps.length<=N.length:=by have:=zc List.length S.pre;rw[ph]at this;omega
 obtain⟨h1,tk,rfl,hk⟩:=x.done;have noA:∀b:Addr,b ∉ (zqj CX P w K mg base N qual scope f cd A outer s H E).ex:=λb z=>absurd (show b∈([]:List Addr) from z) (by simp)
 refine⟨⟨e0.mod,S.kind,rfl,rfl,Nat.le_refl _,λ y z c h1 h2=>?_,λ y hy=>?_,λ y c _ h=>?_,λ _=>hd,Around.frames_deeper e0.frames,.inr ⟨rfl,rfl⟩,λ b z=>absurd z (noA b),e0.bs,e0.bsz,λ b _ _=>noA b,λ b z=>absurd z (noA b),e0.funs,e0.frf⟩,
  rfl,e0.bare,Un.kept hk,⟨_,x.toInCall.ns,λi y v h1 h2 h3=>?_⟩,λy c h=>⟨_,x.cell y c h⟩,e0.hok.fresh (wa _),λy c h=>?_,λp hp=>absurd (show p∈([]:List (Addr×Obj)) from hp) (by simp),e0.hok.kept hk,?_⟩
 ·exact name_of_addr x.apart (PySem.mem_of_lookup h1) (PySem.mem_of_lookup h2)
 ·have hy:scope.names.lookup y=some .cell\/scope.names.lookup y=some .free:=hy
  rcases hy with hy|hy
  ·exact zm1 hy
  ·exact absurd rfl (S.nofree _ (PySem.mem_of_lookup hy))
 ·exact cu (x.above y c (PySem.mem_of_lookup h))
 ·have hi:i<vs.length:=by
   unfold zf7 at h2;by_cases hi:i<vs.length
   ·exact hi
   ·rw[sf (by simpa using hi)]at h2
    rw[ig]at h2
    split at h2 <;> cases h2
  have ha:vs[i]?=some v:=by
   unfold zf7 at h2;rw[gf (by simpa using hi),pc]at h2
   cases e:vs[i]? with
   |none=>rw[e]at h2;cases h2
   |some a=>rw[e]at h2;cases h2;rfl
  obtain⟨u,hu,rv⟩:=r.get ha
  have hp:ps[i]?=some y:=by
   rw[<-S.pre,List.getElem?_take_of_lt (by omega)];exact h1
  have ndP:ps.Nodup:=by rw[<-S.pre];exact S.nd.sublist (List.take_sublist _ _)
  refine⟨u,rv,?_⟩;rcases S.par y (ge hp) with k|k
  ·exact .inl ⟨k,zjj ndP hp hu k⟩
  ·obtain⟨c,e⟩:=zm1 (n:=s.heap.objs.size+1) k
   refine .inr ⟨.inl k,c,e,?_⟩;have q:=x.cell y c e;rw[zjk ndP hp hu (by show scope.names.lookup y≠_;rw[k];decide)]at q;exact q
 ·exact e0.hok.fresh (cu (x.above y c (PySem.mem_of_lookup h)))
 ·unfold zf7
  show _=N.length;rw[jc,ia,jj];omega
theorem z8t{CX:CXT}{P:Program}{w:World}{K:PySem.W.Frag}{mg:Str->Option Value}{base:Heap}{k:Nat}{f:Addr}{name qual:Str}{params:Arguments}{body:List Stmt}{scope:Scope}{dV kV doc pm cdv ct oc:Value}{an od:Option Addr}
  {osl:Array (Option Value)} {N ps:List Str} {sp:Sp} (lk:K.lookup f=some ⟨oc,od,.func (PySem.W.fnOf name qual params body scope dV kV doc pm an cdv ct),osl⟩) (hcd:PySem.W.codeIn K cdv qual=true) (S:FnScope N ps scope)
  (len:∀vs H Q E,sp vs H Q E->vs.length=ps.length)
  (hbody:∀ (A:Around) (outer:List Env) (s:Shared) (H:Hp) (vs:List V) (Q:VK) (E:XK),Room k (A.deeper (envOfC qual scope s.heap.objs.size f cdv))->sp vs H Q E →
   ∃t,PSs (zqj CX P w K mg base N qual scope f cdv A outer s H E) body t/\t { nx:=λ_ H'=>Q .non H',rt:=Q } (zf7 N vs) H) :
  FnOk P w K mg base CX (k+1) f (PySem.W.fnOf name qual params body scope dV kV doc pm an cdv ct) ps sp:=by
 refine⟨len,λA outer s H args us vs Q E hr e0 hb r hsp=>?_⟩;have hl:=len _ _ _ _ hsp;have KX:K.In s.heap:=e0.mod.kin.keeps λb o e=>(e0.bs b o e).1
 have lim:s.heap.NoLimit:=e0.mod.nolimit.keeps λb o e=>(e0.bs b o e).1
 have hkind:∀y∈ps.zip us,scope.names.lookup y.1=some .local\/(scope.names.lookup y.1=some .cell/\((cellsFrom (s.heap.objs.size+1) scope.names []).lookup y.1).isSome=true):=λ⟨n,v⟩ hy=>by
  rcases S.par n (lp hy).1 with q|q
  ·exact .inl q
  ·exact .inr ⟨q,PySem.W.cellsFrom_some _ _ _ (.inl q)⟩
 refine codeAny_call_function hr.depth (KX _ _ lk) rfl S.co S.gen rfl (PySem.W.codeRec_of KX hcd) (hb _ _ _ _ ?_)
 refine wpAny_newFunctionEnv_cells S.kind hkind λenv he s1 x=>?_
 subst he;refine⟨lim.keeps x.toInCall.keep,codeAny_func ?_⟩;obtain⟨t,ht,hq⟩:=hbody A outer s H vs Q E (hr.deeper _) hsp;have I:Inv (zqj CX P w K mg base N qual scope f cdv A outer s H E) [] (zf7 N vs) H s1:=zqk S hr.hd e0 hl r x;refine ug (ht [] s1 (zf7 N vs) H _ I hq) (λfl s' hs=>?_) λe s' hs=>hs
 have fin:∀{σ':St} {H':Hp} {v:V} {u:Value},Inv (zqj CX P w K mg base N qual scope f cdv A outer s H E) [] σ' H' s'->zbf v u->Q v H'->CE outer P w H s Q u s' :=
  λ{σ' H' v u} J rv q=>⟨v,H',J.os,J.bare,J.base,J.hok,rv,q⟩
 cases fl with
 |ret u =>
  obtain⟨v,σ',H',J,rv,q⟩:=hs;exact fin J rv q
 |next =>
  obtain⟨σ',H',J,q⟩:=hs;exact fin (v:=V.non) (u:=Value.none) J rfl q
 |brk =>
  obtain⟨_,_,_,q⟩:=hs;exact False.elim q
 |cont =>
  obtain⟨_,_,_,q⟩:=hs;exact False.elim q
section
variable {X:Cx}{x:Str}{p pos:Pos}{e:Expr}{es:List Expr}{t:TA}{id T:String}{r:List V->Hp->VK->Prop}
noncomputable def tCB(r:List V->Hp->VK->Prop)(t:TA):TE:=λσ H Q=>t σ H λvs H1=>r vs H1 Q
theorem zh2 (hc:zcf X (.builtin id) r) (hg:Gl X x) (hm:X.mg x=none) (hv:bootBuiltins x=some (.builtin id)) (ha:PA X (e::es) t) (hn:x ≠ "__name__":=by decide) (hdb:(x == ("__debug__" : Str))=false:=by decide)
  (he:starEach (e::es) X.env=(false,eval e X.env)::starEach es X.env:=by rfl) (hpl:(backTo pos (starEach es X.env)).any (·.1)=false:=by rfl):PE X (.Call (.Name x p) (e::es) [] pos) (tCB r t):=by
 intro pins s σ H Q I h;refine fg (zeb I hg hm hv ?_ hn hdb);exact PyProof.Rows.callWith_builtin1 (thn (ha pos pins s σ H _ I h) λus s1 ⟨vs,H1,I1,r1,q1⟩=>hc pins s1 σ H1 vs us Q I1 r1 q1) he hpl
theorem zql (hc:zcf X (.type T) r) (hg:Gl X x) (hm:X.mg x=none) (hv:bootBuiltins x=some (.type T)) (ha:PA X (e::es) t) (hn:x ≠ "__name__":=by decide) (hdb:(x == ("__debug__" : Str))=false:=by decide)
  (he:starEach (e::es) X.env=(false,eval e X.env)::starEach es X.env:=by rfl) (hpl:(backTo pos (starEach es X.env)).any (·.1)=false:=by rfl):PE X (.Call (.Name x p) (e::es) [] pos) (tCB r t):=by
 intro pins s σ H Q I h;refine fg (zeb I hg hm hv ?_ hn hdb);exact kg (thn (ha pos pins s σ H _ I h) λus s1 ⟨vs,H1,I1,r1,q1⟩=>hc pins s1 σ H1 vs us Q I1 r1 q1) he hpl
end
end L2
namespace HT
open PySem PyProof.Rows
section
open PySem.SeqAt
open PySem.AutoSeq1 (wpAny_loadPart')
open PySem.MeetsSeq PySem.MeetsSeq2 PySem.MeetsSeq3
end
section
variable {prog:Program}{w:World}{A:Around}{E:Value->Shared->Prop}{s:Shared}
noncomputable def sIx(n d:Nat):Option Int->Nat
 |none=>d
 |some v=>if v<0 then (v+(n:Int)).toNat else min v.toNat n
theorem sIx_none(n d:Nat):sIx n d none=d:=rfl
theorem sIx_nat(n d k:Nat):sIx n d (some (k:Int))=min k n:=by
 show (if (k:Int)<0 then ((k:Int)+(n:Int)).toNat else min (k:Int).toNat n)=min k n;rw[oa (by omega),uk]
theorem z3k(n d:Nat)(hd:d<=n)(o:Option Int):sIx n d o<=n:=by
 cases o with
 |none=>exact hd
 |some v =>
  show (if v<0 then (v+(n:Int)).toNat else min v.toNat n)<=n;by_cases hv:v<0
  ·rw[ba hv];omega
  ·rw[oa hv];exact wn _ _
theorem zqm(v:Int)(n d:Nat):(if v<0 then max (v+(n:Int)) 0 else min v (n:Int))=((sIx n d (some v):Nat):Int):=by
 show (if v<0 then max (v+(n:Int)) 0 else min v (n:Int))=(((if v<0 then (v+(n:Int)).toNat else min v.toNat n):Nat):Int);by_cases hv:v<0
 ·simp only[ba hv];omega
 ·simp only[oa hv];omega
theorem zov(lo hi:Option Int)(n:Nat):Builtin.Slice.sliceAdjust lo hi 1 (n:Int)=(((sIx n 0 lo:Nat):Int),((sIx n n hi:Nat):Int)):=by
 have h1:¬((1:Int)<0):=by omega
 unfold Builtin.Slice.sliceAdjust;simp only[h1,dh];refine Prod.ext ?_ ?_
 ·cases lo with
  |none=>rfl
  |some v=>exact zqm v n 0
 ·cases hi with
  |none=>rfl
  |some v=>exact zqm v n n
theorem zow(i j:Nat):Builtin.Slice.slicePlaces (i:Int) (j:Int) 1=j - i:=by
 unfold Builtin.Slice.slicePlaces;have h1:(1:Int) > 0:=by omega
 simp only[h1,pj,Int.ediv_one]
 split <;> omega
theorem zhl{v:Value}{o:Option Int}{Q:Option Int->Shared->Prop}(p:IsPart v o)(h:Q o s):wpAny (model prog w) A (Builtin.Slice.slicePartIndex v) Q E s:=by
 cases p with
 |none=>exact slicePart_none h
 |int i t=>exact slicePart_int h
theorem zdk{sl:Addr}{vl vu:Value}{lo hi:Option Int}{n:Nat}{Q:Int×Int×Nat->Shared->Prop}(hs:s.heap.IsSliceOf sl vl vu .none)(pl:IsPart vl lo)(pu:IsPart vu hi)
  (h:Q (((sIx n 0 lo:Nat):Int),1,sIx n n hi - sIx n 0 lo) s):wpAny (model prog w) A (Builtin.Slice.sliceApplied (.ref sl) (pure (n:Int))) Q E s:=by
 obtain⟨os,hos,hcs,hds⟩:=id hs;unfold Builtin.Slice.sliceApplied Builtin.Slice.sliceFields;refine aa (aa (wpAny_field hos hds (x:=vl) rfl (aa (wpAny_field hos hds (x:=vu) rfl (aa (wpAny_field hos hds (x:=.none) rfl (va ?_)))))));refine aa (slicePart_none ?_);show wpAny _ _ (if ((1:Int) == 0)=true then _ else _) _ _ s;rw[oa (by decide)];refine aa (zhl pl (aa (zhl pu (aa (va ?_)))));show wpAny _ _ (match Builtin.Slice.sliceAdjust lo hi 1 (n:Int) with|(lo,hi)=>pure (lo,(1:Int),Builtin.Slice.slicePlaces lo hi 1)) _ _ s;rw[zov lo hi n];show wpAny _ _ (pure (((sIx n 0 lo:Nat):Int),(1:Int),Builtin.Slice.slicePlaces ((sIx n 0 lo:Nat):Int) ((sIx n n hi:Nat):Int) 1)) _ _ s;rw[zow];exact va h
theorem zug(xs:Array Value)(i k:Nat):((List.range k).filterMap λ(m:Nat)=>xs[((i:Int)+(m:Int) * 1).toNat]?).toArray=((xs.toList.drop i).take k).toArray:=by
 have e:(λ(m:Nat)=>xs[((i:Int)+(m:Int) * 1).toNat]?)=λm=>xs[i+m]?:=by
  funext m
  have:((i:Int)+(m:Int) * 1).toNat=i+m:=by omega
  rw[this]
 rw[e]
 have:=pick_run xs i k
 rw[List.filterMap_map]at this;have e2:((λx=>xs[x]?) ∘ λx=>i+x)=λm=>xs[i+m]?:=rfl
 rw[e2]at this;rw[this]
theorem getItem_tuple_cut{t sl:Addr}{items:Array Value}{vl vu:Value}{lo hi:Option Int}{Q:Value->Shared->Prop}(ht:IsTup s.heap t items)(hs:s.heap.IsSliceOf sl vl vu .none)(pl:IsPart vl lo)(pu:IsPart vu hi)
  (hw:¬(sIx items.size 0 lo=0/\sIx items.size items.size hi=items.size))
  (h:Q (.ref s.heap.objs.size) { s with heap:=s.heap.push { cls:=.type "tuple",data:=.seq ((items.toList.drop (sIx items.size 0 lo)).take (sIx items.size items.size hi - sIx items.size 0 lo)).toArray } })
  (hsz:items.size<=sizeLine):wpAny (model prog w) A (getItem (.ref t) (.ref sl)) Q E s:=by
 have htake:sizeOk (.seq ((items.toList.drop (sIx items.size 0 lo)).take (sIx items.size items.size hi - sIx items.size 0 lo)).toArray):=by
  show ((items.toList.drop (sIx items.size 0 lo)).take (sIx items.size items.size hi - sIx items.size 0 lo)).toArray.size<=sizeLine;rw[xa,ph,xj,ve];omega
 have hj:sIx items.size items.size hi<=items.size:=z3k _ _ (wa _) hi;obtain⟨os,hos,hcs,hds⟩:=id hs;have hTs:s.TypeIs (.ref sl) "slice":=⟨os,hos,hcs⟩
 unfold getItem
 try with_reducible refine lg ?_
 first|refine aa (va ?_)|skip
 refine aa (wpAny_sequenceKey ht.typeIs (by decide) ?_)
 refine wpAny_bind (wpAny_callSpecial?_slot (name:=Str.ofString "__getitem__") ht.typeIs PyProof.Rows.slot_tuple_getitem
  (yi bf ht.typeIs entry_tuple_getitem ?_ (args_tuple_getitem _ _)))
 show wpAny _ _ (Builtin.Tuple.tupleItemsOf (.ref t) >>= _) _ _ s;refine aa (tupleItemsOf_ ht ?_);refine aa (bp hTs ?_);rw[ba (by decide)];refine aa (zdk hs pl pu ?_)
 have hno:¬((((sIx items.size 0 lo:Nat):Int) == 0 && (1:Int) == 1 && (sIx items.size items.size hi - sIx items.size 0 lo) == items.size)=true):=by
  intro q;rw[gc,gc]at q;have q1:((sIx items.size 0 lo:Nat):Int)=0:=eq_of_beq q.1.1;have q2:sIx items.size items.size hi - sIx items.size 0 lo=items.size:=eq_of_beq q.2;exact hw ⟨by omega,by omega⟩
 show wpAny _ _ (if (((sIx items.size 0 lo:Nat):Int) == 0 && (1:Int) == 1 && (sIx items.size items.size hi - sIx items.size 0 lo) == items.size)=true then _ else _) _ _ s;rw[oa hno,zug]
 first
  |exact aa (m:=Builtin.Tuple.tupleExact _) (og (va ⟨_,rfl,va h⟩) htake)
  |exact aa (m:=Builtin.Tuple.tupleExact _) (og (aa (va (va ⟨_,rfl,va h⟩))) htake)
  |exact aa (aa (m:=Builtin.Tuple.tupleExact _) (og (va (va ⟨_,rfl,va h⟩)) htake))
  |exact aa (aa (m:=Builtin.Tuple.tupleExact _) (og (va ⟨_,rfl,va h⟩) htake))
end
end HT
namespace L2
open PySem PySem.Spec PyProof.Rows
noncomputable abbrev TO:=St->Hp->(Option Int->Hp->Prop)->Prop
def PO(X:Cx)(e:Option Expr)(t:TO):Prop :=
 ∀(pins:List (Addr×Obj)) (s:Shared) (σ:St) (H:Hp) (Q:Option Int->Hp->Prop),Inv X pins σ H s->t σ H Q →
  wpAny (model X.prog X.w) X.A (evalPart e X.env) (λu s'=>∃o H',Inv X pins σ H' s'/\IsPart u o/\Q o H') X.xe s
noncomputable def zzk:TO:=λ_ H Q=>Q none H
section
variable {X:Cx}{e:Expr}{te:TE}{lo hi:Option Expr}{tl th:TO}{pos p2:Pos}
theorem zzl:PO X none zzk:=by
 intro pins s σ H Q I h;rw[evalPart_none];exact va ⟨none,H,I,.none,h⟩
def SlR(X:Cx)(r:V->Option Int->Option Int->Hp->VK->Prop):Prop :=
 ∀(pins:List (Addr×Obj)) (s:Shared) (σ:St) (H:Hp) (x:V) (v vl vu:Value) (lo hi:Option Int) (sl:Addr) (Q:VK),Inv X pins σ H s->zbf x v->s.heap.IsSliceOf sl vl vu .none->IsPart vl lo->IsPart vu hi->r x lo hi H Q →
  ∃T id,typeLookup (.type T) "__getitem__" = pure (some (.builtin id))/\s.TypeIs v T/\wpAny (model X.prog X.w) X.A (getItem v (.ref sl)) (EP X pins σ Q) X.xe s
theorem SlR.or{r r':V->Option Int->Option Int->Hp->VK->Prop}(h:SlR X r)(h':SlR X r'):SlR X (λx lo hi H Q=>r x lo hi H Q\/r' x lo hi H Q):=by
 intro pins s σ H x v vl vu lo hi sl Q I rx hs pl pu q;rcases q with q|q
 ·exact h pins s σ H x v vl vu lo hi sl Q I rx hs pl pu q
 ·exact h' pins s σ H x v vl vu lo hi sl Q I rx hs pl pu q
noncomputable def tSl(r:V->Option Int->Option Int->Hp->VK->Prop)(te:TE)(tl th:TO):TE:=λσ H Q=>te σ H λx H1=>tl σ H1 λl H2=>th σ H2 λu H3=>r x l u H3 Q
theorem zuh{r:V->Option Int->Option Int->Hp->VK->Prop}(hr:SlR X r)(he:PE X e te)(hl:PO X lo tl)(hu:PO X hi th):PE X (.Subscript e (.Slice lo hi none p2) pos) (tSl r te tl th):=by
 intro pins s σ H Q I h;refine Subscript_ (thn (he pins s σ H _ I h) λv s1 ⟨x,H1,I1,r1,q1⟩=>?_);refine wpAny_Slice (thn (hl pins s1 σ H1 _ I1 q1) λvl s2 ⟨l,H2,I2,pl,q2⟩=>thn (hu pins s2 σ H2 _ I2 q2) λvu s3 ⟨u,H3,I3,pu,q3⟩=>?_);rw[evalPart_none];refine va ?_;have I4:Inv X pins σ H3 { s3 with heap:=s3.heap.push { cls:=.type "slice",data:=.fields #[vl,vu,.none] } }:=I3.kept (t':=s3.toks) λb ob q=>bb _ q
 obtain⟨T,id,hT,ht,hg⟩:=hr pins { s3 with heap:=s3.heap.push { cls:=.type "slice",data:=.fields #[vl,vu,.none] } } σ H3 x v vl vu l u s3.heap.objs.size Q I4 r1 (Heap.IsSliceOf.new ..) pl pu q3;show wpAny (model X.prog X.w) X.A (subscriptTail e (.Slice lo hi none p2) v (.ref s3.heap.objs.size)) (EP X pins σ Q) X.xe { s3 with heap:=s3.heap.push { cls:=.type "slice",data:=.fields #[vl,vu,.none] } };exact tail_any (ops:=[.ref s3.heap.objs.size,v]) ht hT hg (by with_unfolding_all rfl)
noncomputable def zpq(xs:List V)(lo hi:Option Int):List V:=(xs.drop (HT.sIx xs.length 0 lo)).take (HT.sIx xs.length xs.length hi - HT.sIx xs.length 0 lo)
theorem zf8(xs:List V)(lo hi:Option Int):(zpq xs lo hi).length<=xs.length:=by
 unfold zpq;rw[ph,xj];omega
def yb3(K:PySem.W.Frag):V->Option Int->Option Int->Hp->VK->Prop:=λx lo hi H Q=>∃a xs,x=.ref a/\SqT K H a xs ∧
 ¬(HT.sIx xs.length 0 lo=0/\HT.sIx xs.length xs.length hi=xs.length)/\∀p,H p=none->Q (.ref p) (upd H p (.tup (zpq xs lo hi)))
theorem z3l:SlR X (yb3 X.K):=by
 intro pins s σ H x v vl vu lo hi sl Q I rx hs pl pu h;obtain⟨a,xs,rfl,hx,hw,q⟩:=h;cases rx;obtain⟨its,r,ht,hz⟩:=I.tuple hx;have hlen:its.toArray.size=xs.length:=by rw[xa];exact r.length.symm
 refine⟨"tuple",_,bf.lookup,ht.typeIs,?_⟩;refine HT.getItem_tuple_cut ht hs pl pu (by rw[hlen];exact hw) ?_ (by rw[hlen];exact hz);rw[hlen];refine⟨.ref s.heap.objs.size,_,I.laid (t':=s.toks) (o:=.tup (zpq xs lo hi)) (λb ob q=>bb _ q) (wa _) ?_,rfl,q _ (I.hok.fresh (wa _))⟩;exact⟨ie (zf8 xs lo hi) hz,_,(r.drop (HT.sIx xs.length 0 lo)).take (HT.sIx xs.length xs.length hi - HT.sIx xs.length 0 lo),IsTup.new _ _⟩
end
noncomputable def ixN(n:Nat)(i:Int):Option Nat:=if 0<=i then (if i<n then some i.toNat else none) else if -(n:Int)<=i then some (i+n).toNat else none
noncomputable def atI{α:Type}(xs:List α)(i:Int):Option α:=(ixN xs.length i).bind λj=>xs[j]?
theorem zqn{n:Nat}{i:Int}{j:Nat}(h:ixN n i=some j):seqIndex? i n=some j/\j<n /\ -(n:Int)<=i/\i<n:=by
 unfold ixN at h;by_cases h0:0<=i
 ·rw[ba h0]at h
  by_cases h1:i<n
  ·rw[ba h1]at h
   have e:i.toNat=j:=vc h;exact⟨by rw[seqIndex_of h0 h1,e],by omega,by omega,h1⟩
  ·rw[oa h1]at h;cases h
 ·rw[oa h0]at h
  by_cases h1:-(n:Int)<=i
  ·rw[ba h1]at h
   have e:(i+n).toNat=j:=vc h;exact⟨by rw[seqIndex_neg (by omega) h1,e],by omega,h1,by omega⟩
  ·rw[oa h1]at h;cases h
theorem zlk{α:Type}{xs:List α}{i:Int}{v:α}(h:atI xs i=some v):∃j,seqIndex? i xs.length=some j/\xs[j]?=some v/\j<xs.length /\ -(xs.length:Int)<=i/\i<xs.length:=by
 unfold atI at h
 cases e:ixN xs.length i with
 |none=>rw[e]at h;cases h
 |some j =>
  rw[e]at h;obtain⟨h1,h2,h3,h4⟩:=zqn e;exact⟨j,h1,h,h2,h3,h4⟩
theorem ze2{α:Type}{xs:List α}{j:Nat}{v:α}(h:xs[j]?=some v):atI xs (j:Int)=some v:=by
 have hj:j<xs.length:=(ya.mp h).1
 have e:ixN xs.length (j:Int)=some j:=by
  unfold ixN;rw[ba (by omega),ba (by omega)];simp
 unfold atI;rw[e];exact h
def zll(b:Expr):Prop:=∀o i,subscripted b false o i=operate [o,i] (getItem o i)
def IxR(X:Cx)(r:R2):Prop :=
 ∀(value slice:Expr) (pins:List (Addr×Obj)) (s:Shared) (σ:St) (H:Hp) (x y:V) (v u:Value) (Q:VK),Inv X pins σ H s->zbf x v->zbf y u->r x y H Q →
  subscripted slice false v u=operate [v,u] (getItem v u)->wpAny (model X.prog X.w) X.A (subscriptTail value slice v u) (EP X pins σ Q) X.xe s
def MtR(X:Cx)(id:String)(r:V->List V->Hp->VK->Prop):Prop :=
 ∀(pins:List (Addr×Obj)) (s:Shared) (σ:St) (H:Hp) (x:V) (xs:List V) (v:Value) (us:List Value) (Q:VK),Inv X pins σ H s->zbf x v->zbs xs us->r x xs H Q →
  wpAny (model X.prog X.w) X.A (call (.builtin id) (v::us)) (EP X pins σ Q) X.xe s
section
variable {X:Cx}{a b:Expr}{ta tb:TE}{pos:Pos}
theorem IxR.or{r r':R2}(h:IxR X r)(h':IxR X r'):IxR X (λx y H Q=>r x y H Q\/r' x y H Q):=by
 intro value slice pins s σ H x y v u Q I rx ry q hs;rcases q with q|q
 ·exact h value slice pins s σ H x y v u Q I rx ry q hs
 ·exact h' value slice pins s σ H x y v u Q I rx ry q hs
theorem z3m{r:R2}(hr:IxR X r)(ha:PE X a ta)(hb:PE X b tb)(hs:zll b):PE X (.Subscript a b pos) (tOp r ta tb):=by
 intro pins s σ H Q I h;exact Subscript_ (z7o ha hb I h λv u s2 x y H2 I2 rx ry q=>hr a b pins s2 σ H2 x y v u Q I2 rx ry q (hs _ _))
noncomputable def yb4(K:PySem.W.Frag):R2:=λx y H Q=>∃p xs i v,x=.ref p/\y=.int i/\SqL K H p xs/\atI xs i=some v/\Q v H
noncomputable def yb5(K:PySem.W.Frag):R2:=λx y H Q=>∃p xs i v,x=.ref p/\y=.int i/\SqT K H p xs/\atI xs i=some v/\Q v H
noncomputable def yb6:R2:=λx y H Q=>∃z i c,x=.str z/\y=.int i/\z.length<=sizeLine/\atI z.cps.toList i=some c/\Q (.str ⟨#[c]⟩) H
theorem zzm:IxR X (yb4 X.K):=by
 intro value slice pins s σ H x y v u Q I rx ry h hs;obtain⟨p,xs,i,z,rfl,rfl,hq,he,q⟩:=h;cases rx;obtain⟨t,rfl⟩:=ry;obtain⟨its,r,pl,hz⟩:=I.list hq;obtain⟨j,h1,h2,h3,h4,h5⟩:=zlk he;obtain⟨w,ew,rw'⟩:=r.get h2;have hl:=r.length;have hn:=zhk;have fin:EP X pins σ Q w s:=⟨z,H,I,rw',q⟩
 by_cases h0:0<=i
 ·have hj:i.toNat=j:=by
   rw[seqIndex_of h0 h5]at h1;exact vc h1
  exact item_listR pl.isList h0 (by omega) (by rw[hj];simpa using ew) fin hs
 ·have hj:(i+(its.toArray.size:Int)).toNat=j:=by
   rw[seqIndex_neg (by omega) h4]at h1;rw[xa,<-hl];exact vc h1
  exact subscriptTail_builtinR (x:=w) pl.isList.typeIs slot_list_getitem.lookup
   (wpAny_getItem_list_neg (Q:=λr s'=>r=w/\EP X pins σ Q r s') pl.isList (by omega) (by rw[xa] <;> omega) (by omega) (by rw[hj];simpa using ew) ⟨rfl,fin⟩) hs
theorem z3n:IxR X (yb5 X.K):=by
 intro value slice pins s σ H x y v u Q I rx ry h hs;obtain⟨p,xs,i,z,rfl,rfl,hq,he,q⟩:=h;cases rx;obtain⟨t,rfl⟩:=ry;obtain⟨its,r,pl,hz⟩:=I.tuple hq;obtain⟨j,h1,h2,h3,h4,h5⟩:=zlk he;obtain⟨w,ew,rw'⟩:=r.get h2;have hl:=r.length;have hn:=zhk;have fin:EP X pins σ Q w s:=⟨z,H,I,rw',q⟩
 exact subscriptTail_builtinR (x:=w) pl.typeIs slot_tuple_getitem.lookup
  (getItem_tuple (j:=j) (Q:=λr s'=>r=w/\EP X pins σ Q r s') pl (by omega) (by omega) (by rw[xa,<-hl];exact h1) (by simpa using ew) ⟨rfl,fin⟩) hs
theorem z3o:IxR X yb6:=by
 intro value slice pins s σ H x y v u Q I rx ry h hs;obtain⟨z,i,c,rfl,rfl,hz,he,q⟩:=h;obtain⟨t,rfl⟩:=rx;obtain⟨t',rfl⟩:=ry;obtain⟨j,h1,h2,h3,h4,h5⟩:=zlk he;have hl:z.cps.toList.length=z.length:=by simp[Str.length]
 rw[hl]at h1 h4 h5;have hn:=zhk
 exact tail_any (typeIs_str s z t) slot_str_getitem.lookup (getItem_str (c:=c) (by
  have e1:decide (i < -(2 ^ 63:Int))=false:=md (by omega);have e2:decide (i ≥ 2 ^ 63)=false:=md (by omega);rw[e1,e2,Bool.or_false]) (by rw[h1];simpa using h2) ⟨.str ⟨#[c]⟩,H,I.tok _,⟨_,rfl⟩,q⟩) hs
theorem zox(its:List Value)(n j:Nat)(u:Value):Obj.mapSeq (·.setIfInBounds j u) { cls:=.type "list",data:=.seq its.toArray n }={ cls:=.type "list",data:=.seq (its.set j u).toArray n }:=by
 simp[Obj.mapSeq]
theorem Inv.lst{pins:List (Addr×Obj)}{σ:St}{H:Hp}{s:Shared}{p:Addr}{xs:List V}(I:Inv X pins σ H s)(h:H p=some (.lst xs)) :
  ∃(its:List Value) (n:Nat),zbs xs its/\s.heap.get? p=some { cls:=.type "list",data:=.seq its.toArray n }/\xs.length<=sizeLine:=by
 obtain⟨z,its,n,r,e⟩:=I.hok p _ h;exact⟨its,n,r,e,z⟩
theorem Inv.lstUpd{pins:List (Addr×Obj)}{σ:St}{H:Hp}{s:Shared}{p:Addr}{xs ys:List V}{its its':List Value}{n n':Nat}{f:Obj->Obj}(I:Inv X pins σ H s)(h:H p=some (.lst xs))
  (ho:s.heap.get? p=some { cls:=.type "list",data:=.seq its.toArray n }) (hf:f { cls:=.type "list",data:=.seq its.toArray n }={ cls:=.type "list",data:=.seq its'.toArray n' }) (r:zbs ys its') (hz:ys.length<=sizeLine) (t:Nat) :
  Inv X pins σ (upd H p (.lst ys)) { s with heap:=s.heap.update p f,toks:=t }:=by
 have e:(s.heap.update p f).get? p=some { cls:=.type "list",data:=.seq its'.toArray n' }:=by
  rw[kj f ho (by rw[hf] <;> rfl),hf]
 refine I.write (x:=p) (e:=p) (by rw[h];trivial) (.inl rfl) (λb u hb q=>(af _ _ (gh hb)).trans q) ⟨_,e⟩ ?_;exact⟨hz,its',n',r,e⟩
def z8u:V->V->V->Hp->(Hp->Prop)->Prop:=λo i v H Q=>∃p xs k j,o=.ref p/\i=.int k/\H p=some (.lst xs)/\ixN xs.length k=some j/\Q (upd H p (.lst (xs.set j v)))
theorem zui:ya9 X z8u:=by
 intro pins s σ H o i v ov iv u Q I ro ri rv h;obtain⟨p,xs,k,j,rfl,rfl,hp,hj,q⟩:=h;cases ro;obtain⟨t,rfl⟩:=ri;obtain⟨its,n,r,ho,hz⟩:=I.lst hp;obtain⟨h1,h2,h3,h4⟩:=zqn hj;have hl:=r.length;have hn:=zhk
 have I':Inv X pins σ (upd H p (.lst (xs.set j v))) { s with heap:=s.heap.update p (Obj.mapSeq (·.setIfInBounds j u)) } :=
  I.lstUpd hp ho (zox its n j u) (r.set rv j) (by rw[pp];exact hz) s.toks
 by_cases h0:0<=k
 ·have hk:k.toNat=j:=by
   rw[seqIndex_of h0 h4]at h1;exact vc h1
  exact PySem.W.ki_setAt ho h0 (by omega) (by rw[xa,<-hl];exact h4) (by rw[hk];exact⟨_,I',q⟩)
 ·have hk:(k+(its.toArray.size:Int)).toNat=j:=by
   rw[seqIndex_neg (by omega) h3]at h1;rw[xa,<-hl];exact vc h1
  exact PySem.W.ki_setBack ho (by omega) (by rw[xa,<-hl];exact h3) (by omega) (by rw[hk];exact⟨_,I',q⟩)
theorem zjl(lo hi:Option Int)(n:Nat):(sliceBounds lo hi none n).1=((HT.sIx n 0 lo:Nat):Int)/\(sliceBounds lo hi none n).2.1=((HT.sIx n n hi:Nat):Int)/\(sliceBounds lo hi none n).2.2=1:=by
 refine⟨?_,?_,rfl⟩
 ·cases lo with
  |none=>simp[sliceBounds,HT.sIx]
  |some i =>
   simp only[sliceBounds,HT.sIx,Option.getD_none,show (1:Int) > 0 by decide,pj];by_cases h:i<0
   ·simp only[h,pj] <;> omega
   ·simp only[h,dh] <;> omega
 ·cases hi with
  |none=>simp[sliceBounds,HT.sIx]
  |some i =>
   simp only[sliceBounds,HT.sIx,Option.getD_none,show (1:Int) > 0 by decide,pj];by_cases h:i<0
   ·simp only[h,pj] <;> omega
   ·simp only[h,dh] <;> omega
theorem zh3(its:List Value)(lo hi:Option Int):slicePick its.toArray lo hi none=((its.drop (HT.sIx its.length 0 lo)).take (HT.sIx its.length its.length hi - HT.sIx its.length 0 lo)).toArray:=by
 obtain⟨h1,h2,h3⟩:=zjl lo hi its.toArray.size;unfold slicePick;rw[h1,h2,h3];simp only[sliceRange_one,pick_run,xa] <;> rfl
def yb7(K:PySem.W.Frag):V->Option Int->Option Int->Hp->VK->Prop:=λx lo hi H Q=>∃a xs,x=.ref a/\SqL K H a xs/\∀p,H p=none->Q (.ref p) (upd H p (.lst (zpq xs lo hi)))
theorem zzn:SlR X (yb7 X.K):=by
 intro pins s σ H x v vl vu lo hi sl Q I rx hs pl pu h;obtain⟨a,xs,rfl,hx,q⟩:=h;cases rx;obtain⟨its,r,ht,hz⟩:=I.list hx;have hlen:=r.length;refine⟨"list",_,slot_list_getitem.lookup,ht.isList.typeIs,?_⟩;refine wpAny_getItem_list_slice ht.isList hs pl pu .none (by simp) ?_ (by rw[xa] <;> omega);rw[zh3,<-hlen];refine⟨.ref s.heap.objs.size,_,I.laid (t':=s.toks) (o:=.lst (zpq xs lo hi)) (λb ob q=>bb _ q) (wa _) ?_,rfl,q _ (I.hok.fresh (wa _))⟩;exact⟨ie (zf8 xs lo hi) hz,_,0,(r.drop (HT.sIx xs.length 0 lo)).take (HT.sIx xs.length xs.length hi - HT.sIx xs.length 0 lo),cc _ rfl⟩
noncomputable def zcg:V->Bool
 |.non=>true
 |.bl _=>true
 |.int _=>true
 |.str _=>true
 |_=>false
noncomputable def eqV:V->V->Bool
 |.non,.non=>true
 |.bl a,.bl b=>a == b
 |.bl a,.int b=>(if a then 1 else 0) == b
 |.int a,.bl b=>a == (if b then 1 else 0)
 |.int a,.int b=>a == b
 |.str a,.str b=>a == b
 |_,_=>false
theorem zw4{A:Around}{s:Shared}{y x:V}{u v:Value}(ry:zbf y u)(rx:zbf x v)(fy:zcg y=true)(fx:zcg x=true):SeqAt.EqAt A s u v (eqV y x):=by
 cases y with
 |non =>
  cases ry
  cases x with
  |non=>cases rx;exact tp _
  |bl b=>cases rx;exact SeqAt.EqAt.none_bool b
  |int b=>obtain⟨t,rfl⟩:=rx;exact SeqAt.EqAt.none_int b t
  |str b=>obtain⟨t,rfl⟩:=rx;exact SeqAt.EqAt.none_str b t
  |_=>exact absurd (show false=true from fx) la
 |bl a =>
  cases ry
  cases x with
  |non=>cases rx;exact SeqAt.EqAt.bool_none a
  |bl b=>cases rx;exact SeqAt.EqAt.bool_bool a b
  |int b=>obtain⟨t,rfl⟩:=rx;exact SeqAt.EqAt.bool_int a b t
  |str b=>obtain⟨t,rfl⟩:=rx;exact SeqAt.EqAt.bool_str a b t
  |_=>exact absurd (show false=true from fx) la
 |int a =>
  obtain⟨t',rfl⟩:=ry
  cases x with
  |non=>cases rx;exact SeqAt.EqAt.int_none a t'
  |bl b=>cases rx;exact SeqAt.EqAt.int_bool a t' b
  |int b=>obtain⟨t,rfl⟩:=rx;exact SeqAt.EqAt.int_int a t' b t
  |str b=>obtain⟨t,rfl⟩:=rx;exact SeqAt.EqAt.int_str a t' b t
  |_=>exact absurd (show false=true from fx) la
 |str a =>
  obtain⟨t',rfl⟩:=ry
  cases x with
  |non=>cases rx;exact SeqAt.EqAt.str_none a t'
  |bl b=>cases rx;exact SeqAt.EqAt.str_bool a t' b
  |int b=>obtain⟨t,rfl⟩:=rx;exact SeqAt.EqAt.str_int a t' b t
  |str b=>obtain⟨t,rfl⟩:=rx;exact SeqAt.EqAt.str_str a t' b t
  |_=>exact absurd (show false=true from fx) la
 |_=>exact absurd (show false=true from fy) la
theorem zjm:zcf X (.builtin "len") (λxs H Q=>∃p ys,xs=[.ref p]/\(SqL X.K H p ys\/SqT X.K H p ys)/\Q (.int ys.length) H):=by
 intro pins s σ H xs us Q I r h;obtain⟨p,ys,rfl,hq,q⟩:=h;obtain⟨u,rfl,rx⟩:=zek r;cases rx;have hn:=zhk;rcases hq with hq|hq
 ·obtain⟨its,r',pl,hz⟩:=I.list hq
  have hlen:=r'.length;exact Calls.call_len_list pl.isList (by simp only[xa] <;> omega) ⟨.int ys.length,H,I.tok _,⟨s.toks+1,by rw[xa,hlen]⟩,q⟩
 ·obtain⟨its,r',pl,hz⟩:=I.tuple hq
  have hlen:=r'.length;exact len_tuple pl (by simp only[xa] <;> omega) ⟨.int ys.length,H,I.tok _,⟨s.toks+1,by rw[xa,hlen]⟩,q⟩
theorem zjn:zcf X (.builtin "len") (λxs H Q=>∃z,xs=[.str z]/\z.length<=sizeLine/\Q (.int z.length) H):=by
 intro pins s σ H xs us Q I r h;obtain⟨z,rfl,hz,q⟩:=h;obtain⟨u,rfl,t,rfl⟩:=zek r;have hn:=zhk;exact len_str (by omega) ⟨.int z.length,H,I.tok _,⟨_,rfl⟩,q⟩
theorem zcf.or{f:Value}{r r':List V->Hp->VK->Prop}(h:zcf X f r)(h':zcf X f r'):zcf X f (λxs H Q=>r xs H Q\/r' xs H Q):=by
 intro pins s σ H xs us Q I rs q;rcases q with q|q
 ·exact h pins s σ H xs us Q I rs q
 ·exact h' pins s σ H xs us Q I rs q
theorem zjo:zcf X (.type "list") (λxs H Q=>∃p ys,xs=[.ref p]/\(SqL X.K H p ys\/SqT X.K H p ys)/\∀l,H l=none->Q (.ref l) (upd H l (.lst ys))):=by
 intro pins s σ H xs us Q I r h;obtain⟨p,ys,rfl,hq,q⟩:=h;obtain⟨u,rfl,rx⟩:=zek r;cases rx
 have fin:∀(its:List Value),zbs ys its->ys.length<=sizeLine->∀(h':Heap) (c':Nat),(∀b o',s.heap.get? b=some o'->h'.get? b=some o') →
   h'.get? s.heap.objs.size=some { cls:=.type "list",dict:=none,data:=.seq its.toArray c',slots:=#[] }->EP X pins σ Q (.ref s.heap.objs.size) { s with heap:=h' }:=λits r' hz h' c' kp e =>
  ⟨.ref s.heap.objs.size,_,I.laid (t':=s.toks) kp (wa _) (show zbi X.prog X.w _ h' _ (.lst ys) from⟨hz,its,c',r',e⟩),rfl,q _ (I.hok.fresh (wa _))⟩
 rcases hq with hq|hq
 ·obtain⟨its,r',pl,hz⟩:=I.list hq
  have hlen:=r'.length;obtain⟨o,ho,hc,n,hd⟩:=pl.isList;exact call_list_seq p (.inl rfl) ho hc hd (λh' c' kp e=>fin its r' hz h' c' kp e) (by simp only[xa] <;> omega)
 ·obtain⟨its,r',pl,hz⟩:=I.tuple hq
  have hlen:=r'.length;obtain⟨o,ho,hc,n,hd⟩:=pl;exact call_list_seq p (.inr rfl) ho hc hd (λh' c' kp e=>fin its r' hz h' c' kp e) (by simp only[xa] <;> omega)
theorem zel:zcf X (.type "tuple") (λxs H Q=>∃p ys,xs=[.ref p]/\((SqL X.K H p ys/\∀l,H l=none->Q (.ref l) (upd H l (.tup ys)))\/(SqT X.K H p ys/\Q (.ref p) H))):=by
 intro pins s σ H xs us Q I r h;obtain⟨p,ys,rfl,h⟩:=h;obtain⟨u,rfl,rx⟩:=zek r;cases rx;rcases h with⟨hq,q⟩|⟨hq,q⟩
 ·obtain⟨its,r',pl,hz⟩:=I.list hq
  have hlen:=r'.length;refine call_tuple_list pl.isList (λh' kp=>?_) (by simp only[xa] <;> omega);have I1:Inv X pins σ H { s with heap:=h' }:=I.kept (t':=s.toks) kp
  have I2:Inv X pins σ (upd H h'.objs.size (.tup ys)) { s with heap:=h'.push { cls:=.type "tuple",data:=.seq its.toArray } } :=
   I1.laid (t':=s.toks) (λb o e=>bb _ e) (wa _) (show zbi X.prog X.w _ _ _ (.tup ys) from⟨hz,its,r',IsTup.new _ _⟩)
  exact⟨.ref h'.objs.size,_,I2,rfl,q _ (I1.hok.fresh (wa _))⟩
 ·obtain⟨its,r',pl,hz⟩:=I.tuple hq
  exact call_tuple_same pl ⟨.ref p,H,I,rfl,q⟩
def tyV(K:PySem.W.Frag)(T:String)(x:V)(H:Hp):Prop:=match x with
 |.str _=>T = "str"
 |.int _=>T = "int"
 |.ref p=>(T = "list" /\ ∃xs,SqL K H p xs)\/(T = "tuple" /\ ∃o,K.lookup p=some o/\o.cls=.type "tuple" /\ o.dict=none) ∨
   (T = "dict" /\ ((∃kvs,H p=some (.dK kvs))\/∃kvs,H p=some (.dT kvs)))\/(T = "set" /\ ∃S n,H p=some (.set S n))
 |_=>False
theorem zw5{pins:List (Addr×Obj)}{σ:St}{H:Hp}{s:Shared}{T:String}{x:V}{v:Value}(I:Inv X pins σ H s)(r:zbf x v)(ty:tyV X.K T x H) :
  s.TypeIs v T/\∀a,v=.ref a->∃ob,s.heap.get? a=some ob/\ob.dict=none:=by
 cases x with
 |str z =>
  obtain⟨t,rfl⟩:=r
  cases (show T = "str" from ty)
  exact⟨yr s z t,λ_ e=>nomatch e⟩
 |int i =>
  obtain⟨t,rfl⟩:=r
  cases (show T = "int" from ty)
  exact⟨typeIs_int s i t,λ_ e=>nomatch e⟩
 |ref p =>
  cases r;rcases ty with⟨rfl,xs,hq⟩|⟨rfl,o,hk,hc,hd⟩|⟨rfl,hk⟩|⟨rfl,S,n,hk⟩
  ·obtain⟨its,_,pl,_⟩:=I.list hq
   refine⟨pl.isList.typeIs,λa e=>?_⟩;cases e;obtain⟨o,n,e,c,hd,_⟩:=pl;exact⟨o,e,hd⟩
  ·refine⟨⟨o,I.kIn p o hk,hc⟩,λa e=>?_⟩
   cases e;exact⟨o,I.kIn _ o hk,hd⟩
  ·have z:∃o,s.heap.get? p=some o/\o.ExactDict:=by
    rcases hk with⟨kvs,hk⟩|⟨kvs,hk⟩
    ·obtain⟨_,_,_,_,o,_,_,e,ex,_⟩:=I.hok p _ hk
     exact⟨o,e,ex⟩
    ·obtain⟨_,_,_,_,o,_,_,e,ex,_⟩:=I.hok p _ hk
     exact⟨o,e,ex⟩
   obtain⟨o,e,ex⟩:=z;refine⟨⟨o,e,ex.1⟩,λa e2=>?_⟩;cases e2;exact⟨o,e,ex.2.1⟩
  ·obtain⟨o,_,_,_,e,ex,_⟩:=I.hok p _ hk
   refine⟨⟨o,e,ex.1⟩,λa e2=>?_⟩;cases e2;exact⟨o,e,ex.2.1⟩
 |_=>exact False.elim ty
noncomputable def yb8(K:PySem.W.Frag)(T:String)(r:V->List V->Hp->VK->Prop)(to:TE):TE:=λσ H Q=>to σ H λx H1=>tyV K T x H1/\r x [] H1 Q
noncomputable def tBM(K:PySem.W.Frag)(T:String)(r:V->List V->Hp->VK->Prop)(to:TE)(t:TA):TE:=λσ H Q=>to σ H λx H1=>tyV K T x H1/\t σ H1 λxs H2=>r x xs H2 Q
variable {o e:Expr}{es:List Expr}{to:TE}{t:TA}{name:Str}{apos cpos:Pos}{T id:String}{r:V->List V->Hp->VK->Prop}
theorem z3p (pa:PlainAttrs T) (slot:Slot T name id) (hty:typeOf (.builtin id)=pure (.type "method_descriptor")) (hm:MtR X id r) (ho:PE X o to)
  (hbase:attributeBase o name X.env (eval o X.env)=eval o X.env:=by rfl) (hline:(apos.endLine == cpos.line)=true:=by rfl):PE X (.Call (.Attribute o name apos) [] [] cpos) (yb8 X.K T r to):=by
 intro pins s σ H Q I h;refine wpAny_Call_method0_late hbase hline (thn (ho pins s σ H _ I h) λv s1 ⟨x,H1,I1,r1,ty,q1⟩=>?_);obtain⟨h1,h2⟩:=zw5 I1 r1 ty;exact⟨T,id,pa,slot,hty,h1,h2,aj rfl (PySem.evalArgs_none (hm pins s1 σ H1 x [] v [] Q I1 r1 .nil q1))⟩
theorem zuj (pa:PlainAttrs T) (slot:Slot T name id) (hty:typeOf (.builtin id)=pure (.type "method_descriptor")) (hm:MtR X id r) (ho:PE X o to) (ha:PA X (e::es) t)
  (hbase:attributeBase o name X.env (eval o X.env)=eval o X.env:=by rfl)
  (hfew:((backTo cpos (starEach (e::es) X.env)).all (λ x=>!x.1) && (backToKw cpos (keywordEach [] X.env)).all (λ x=>x.1.isSome)
   && decide ((e::es).length+([]:List Keyword).length+(if ([]:List Keyword).isEmpty then 0 else 1)<30))=true:=by rfl)
  (hline:(apos.endLine == cpos.line)=true:=by rfl) (hs:starEach (e::es) X.env=(false,eval e X.env)::starEach es X.env:=by rfl) (hplain:(backTo cpos (starEach es X.env)).any (·.1)=false:=by rfl) :
  PE X (.Call (.Attribute o name apos) (e::es) [] cpos) (tBM X.K T r to t):=by
 intro pins s σ H Q I h;refine wpAny_Call_method_late hbase hfew hline rfl (thn (ho pins s σ H _ I h) λv s1 ⟨x,H1,I1,r1,ty,q1⟩=>?_);obtain⟨h1,h2⟩:=zw5 I1 r1 ty;refine⟨T,id,pa,slot,hty,h1,h2,?_⟩;have hA:=ha cpos pins s1 σ H1 _ I1 q1;rw[hs]at hA ⊢;refine aj (by show (false || (backTo cpos (starEach es X.env)).any (·.1))=false;rw[hplain] <;> rfl) (xl ?_);exact thn hA λus s2 ⟨vs,H2,I2,r2,q2⟩=>hm pins s2 σ H2 x vs v us Q I2 r1 r2 q2
end
def MtM(X:Cx)(id:String)(r:V->List V->Hp->VK->Prop):Prop :=
 ∀(pins:List (Addr×Obj)) (s:Shared) (σ:St) (H:Hp) (x:V) (xs:List V) (v:Value) (us:List Value) (Q:VK),Inv X pins σ H s->zbf x v->zbs xs us->r x xs H Q →
  wpAny (model X.prog X.w) X.A (call (.builtin id) (v::us)) (EP X pins σ Q) X.xe s
theorem zbs.one:∀{x:V}{us:List Value},zbs [x] us->∃u,us=[u]/\zbf x u
 |_,_,.cons r .nil=>⟨_,rfl,r⟩
section
variable {X:Cx}{pins:List (Addr×Obj)}{σ:St}{H:Hp}{s:Shared}{l b:Addr}{xs ys zs:List V}
theorem Inv.lset{its its':List Value}{n:Nat}{f:Array Value->Array Value}{t':Nat}(I:Inv X pins σ H s)(hH:H l=some (.lst xs))
  (e:s.heap.get? l=some { cls:=.type "list",data:=.seq its.toArray n }) (hf:f its.toArray=its'.toArray) (hv:zbs ys its') (hz:ys.length<=sizeLine) :
  Inv X pins σ (upd H l (.lst ys)) { s with heap:=s.heap.update l (Obj.mapSeq f),toks:=t' }:=by
 have q:=PySem.IsL.update e f;rw[hf]at q;refine I.write (x:=l) (e:=l) (by rw[hH];exact trivial) (.inl rfl) (λb' u hb hu=>(af s.heap (Obj.mapSeq f) (gh hb)).trans hu) ⟨_,q⟩ ?_;exact⟨hz,its',_,hv,q⟩
theorem Inv.lnew{its:List Value}{t':Nat}(I:Inv X pins σ H s)(hv:zbs ys its)(hz:ys.length<=sizeLine) :
  Inv X pins σ (upd H s.heap.objs.size (.lst ys)) { s with heap:=s.heap.push { cls:=.type "list",data:=.seq its.toArray },toks:=t' } :=
 I.laid (λ_ _ q=>bb _ q) (wa _) ⟨hz,its,0,hv,cc _ rfl⟩
theorem Inv.fresh(I:Inv X pins σ H s):H s.heap.objs.size=none:=I.hok.fresh (wa _)
theorem Inv.lstM(I:Inv X pins σ H s)(hH:H l=some (.lst xs)):xs.length<=sizeLine/\∃(its:List Value) (n:Nat),zbs xs its/\xs.length=its.length/\s.heap.get? l=some { cls:=.type "list",data:=.seq its.toArray n }:=by
 obtain⟨z,its,n,r,e⟩:=I.hok l _ hH;exact⟨z,its,n,r,r.length,e⟩
end
section
variable {X:Cx}
def zqo:V->List V->Hp->VK->Prop:=λx vs H Q=>∃l xs y,x=.ref l/\vs=[y]/\H l=some (.lst xs)/\xs.length<sizeLine/\Q .non (upd H l (.lst (xs++[y])))
theorem zqp:MtM X "list.append" zqo:=by
 intro pins s σ H x vs v us Q I rx rv h;obtain⟨l,xs,y,rfl,rfl,hH,hz,q⟩:=h;cases rx;obtain⟨u,rfl,ru⟩:=rv.one;obtain⟨z,its,n,r,hl,e⟩:=I.lstM hH;refine zr F.slot_list_append ⟨_,e,rfl⟩ F.entry_list_append (F.args_list_append_2 _ _) (PySem.list_append l its.toArray n u (by rw[xa];omega)) ⟨e,?_⟩;refine⟨.non,_,I.lset (its':=its++[u]) hH e (by simp) (r.append (.cons ru .nil)) ?_,rfl,q⟩;rw[jc,pd];omega
end
end L2
namespace Att
open PySem PySem.W PySem.Calls PyProof.Rows
theorem zf9{P:Params}{h:Heap}:∀(ns:List Int) (vs:List Value),WellAll P h vs (ns.map WData.int)->IntsAre vs ns:=by
 intro ns
 induction ns with
 |nil =>
  intro vs w;rw[me]at w;cases w;exact .nil
 |cons n ns ih =>
  intro vs w;rw[ja]at w
  cases w with
  |cons a b =>
   cases a;exact .cons _ _ (ih _ b)
theorem zqq{l:OpenLaw}{n:Nat}(hn:l.most=some n){P:Params}{h:Heap}{args:List WData}{vals:List Value}
  (hpre:l.row.toRowW.claim.pre args=true) (hwl:WellAll P h vals args) :
  ∃a vs ns,vals=[Value.ref a]/\args=[WData.list (ns.map WData.int)]/\h.get? a=some { cls:=.type "list",data:=.seq vs.toArray }/\IntsAre vs ns/\ns.length<=n:=by
 have hsh:WShape.hasAll [] args [.list .int]=true:=(pre_splitW hpre).1;have hc:l.pre.holds [] { args:=args }=true:=(pre_splitW hpre).2;obtain⟨d,r,rfl,h1,h2⟩:=hasAllW_cons hsh;obtain rfl:=hasAllW_nil h2;obtain⟨xs,rfl,h3⟩:=hasW_list h1;obtain⟨ns,rfl⟩:=items_int h3
 have hlen:ns.length<=n:=by
  unfold OpenLaw.pre at hc
  have h4:(WTm.not (.lt (.lit (.int (n:Int))) (.len (.arg 0)))).holds [] { args:=[.list (ns.map .int)] }=true:=by
   have h4:=(holds_andW hc).1;rw[hn]at h4;exact h4
  have h5:=condW_of h4 (w_not (w_lt w_lit (w_len_list (w_arg rfl))));rw[ia]at h5;refine Nat.le_of_not_lt λq=>?_
  have q':(n:Int)<((ns.length:Nat):Int):=by omega
  first
   |(rw[ub q']at h5;exact absurd h5 (by decide))
   |(simp at h5;omega)
 cases hwl with
 |cons w1 w2 =>
  cases w2
  cases w1 with
  |list ho hall=>exact⟨_,_,ns,rfl,rfl,ho,zf9 ns _ hall,hlen⟩
theorem zqr(l:OpenLaw)(args:List WData):l.row.toRowW.claim.post args (.bool true) args=true :=
 postW_of (r:=l.row.toRowW) (X:=(true == true))
  (show WShape.has [] (.bool true) .bool=true by first|rfl|decide|simp[WShape.has,WShape.arms,WShape.armsAll])
  (show (WTm.eq .res (.lit (.bool true))).value [] { args:=args,res:=some (.bool true),after:=args }=some (.bool (true == true)) from w_eq_bool (w_res rfl) w_lit) rfl
theorem attach_call{l:OpenLaw}{n:Nat}{q:Program}{loose:List Str}{XP:(Str->Option Value)->Heap->Prop}{YP:World->Heap->Prop}{d:DefRec}
  (hn:l.most=some n) (hdf:d.params.defaults=[])
  (call:∀ (w:World) (s₀ s₁:Shared) (mg mb:Str->Option Value) (fa:Addr) (o:Obj) (pm cd doc:Value) (a:Addr) (vs:List Value) (ns:List Int),
   Ground q loose [] XP w s₀ mg mb s₁.heap->YP w s₁.heap →
   s₁.heap.get? fa=some o->o.data=.func (docDef d.name d.params d.body d.scope pm cd doc)->s₁.heap.CodeRec cd d.name->mg d.name=some (.ref fa) →
   s₁.heap.get? a=some { cls:=.type "list",data:=.seq vs.toArray }->IntsAre vs ns->ns.length<=n->s₁.gens=#[] →
   codeAny (model l.prog w) callerA (.call (.ref fa) ⟨[.ref a],[]⟩) (λr s'=>r=.ok (.ret (.bool true))/\OldK s₁.heap s'.heap/\s'.os=s₁.os/\AllBare s'.gens) s₁) :
  WalkO q loose XP YP l.row.toRowW d [] (λf vs=>PySem.call f vs):=by
 intro w s₀ s₁ mg mb G Y fa o pm cd doc dV kV ho hd hcd hD hmg hg args vals as hpre hlay hrd hwl hlo;obtain rfl:dV=.none:=Dflts.none hD hdf;obtain rfl:kV=.none:=Dflts.noKw hD;obtain⟨a,vs,ns,rfl,rfl,hobj,hints,hlen⟩:=zqq hn hpre hwl;refine enter_call (zo (call w s₀ s₁ mg mb fa o pm cd doc a vs ns G Y ho (fd_plain hd) hcd hmg hobj hints hlen hg) λr s' hq=>?_);obtain⟨rfl,h2,h3,h4⟩:=hq;exact⟨.inl ⟨.bool true,.bool true,[],rfl,λ_=>rfl,.bool true,zqr l _,λ_=>⟨lj,λ_ hm=>(nomatch hm)⟩⟩,h2,h3,h4⟩
end Att
namespace L2
open PySem PySem.Spec PyProof.Rows
theorem zga:∀{vs:List Value}{ns:List Int},IntsAre vs ns->zbs (ns.map V.int) vs
 |_,_,.nil=>.nil
 |_,_,.cons n t h=>.cons ⟨t,rfl⟩ (zga h)
def z8v(H:Hp):Prop:=∀b,H b=none\/∃o xs,H b=some (.frz o (.lst xs))
theorem zuk{P:Program}{w:World}{K:PySem.W.Frag}{mg mb:Str->Option Value}{CX:CXT}{k:Nat}{fa a:Addr}{fd:FuncData}{x:Str}{sp:Sp}{s₁:Shared}{vs:List Value}{ns:List Int}
  (KX:K.In s₁.heap) (hns:s₁.heap.Ns mainGlobals mg) (hb:s₁.heap.Ns builtinsNs mb) (hbb:∀x:Str,x ≠ "__name__" -> mb x=bootBuiltins x) (hlim:s₁.heap.NoLimit) (hg:s₁.gens=#[])
  (ha:s₁.heap.get? a=some { cls:=.type "list",data:=.seq vs.toArray }) (hi:IntsAre vs ns) (hl:ns.length<=sizeLine) (hr:Room k callerA)
  (F:∀base:Heap,K.In base->base.Ns mainGlobals mg->FnOk P w K mg base CX k fa fd [x] sp) (hbind:∀(s:Shared) (u:Value),BindsTo s fd ⟨[u],[]⟩ [(x,u)])
  (hsp:∀H:Hp,z8v H->SqL K H a (ns.map V.int)->sp [.ref a] H (λv _=>v=.bl true) λ_ _ _=>False)
  (hCX:∀H e s',CX [] H s₁ (λ_ _ _=>False) e s'->False) :
  codeAny (model P w) callerA (.call (.ref fa) ⟨[.ref a],[]⟩) (λr s'=>r=.ok (.ret (.bool true))/\OldK s₁.heap s'.heap/\s'.os=s₁.os/\AllBare s'.gens) s₁:=by
 have rv:=zga hi;have lenV:=hi.length
 have core:∀H:Hp,z8v H->SqL K H a (ns.map V.int)->HOk P w H s₁.heap->(∀b,H b≠none->b=a)->(H a≠none->K.lookup a=none) →
   codeAny (model P w) callerA (.call (.ref fa) ⟨[.ref a],[]⟩) (λr s'=>r=.ok (.ret (.bool true))/\OldK s₁.heap s'.heap/\s'.os=s₁.os/\AllBare s'.gens) s₁:=by
  intro H hO hS hok hA hK;have base_of:∀{b:Addr} {o:Obj},s₁.heap.get? b=some o->H b=none->(zuc s₁.heap H).get? b=some o:=λe n=>zud e n
  have noA:∀{b:Addr} {o:Obj} {es:Array DictEntry} {ep:Nat},s₁.heap.get? b=some o->o.data=.dict es ep->H b=none:=λ{b o es ep} e d=>by
   cases q:H b with
   |none=>rfl
   |some u =>
    have e':b=a:=hA b (by rw[q];simp);subst e';rw[ha]at e;cases e;have d':Data.seq vs.toArray _=Data.dict es ep:=d
    cases d'
  have nsK:∀{b:Addr} {m:Str->Option Value},s₁.heap.Ns b m->(zuc s₁.heap H).Ns b m:=λ{b m} ⟨o,es,ep,e,d,r⟩=>⟨o,es,ep,base_of e (noA e d),d,r⟩
  have hKb:K.In (zuc s₁.heap H):=λ b o e=>base_of (KX b o e) (by
   cases q:H b with
   |none=>rfl
   |some u =>
    have e':b=a:=hA b (by rw[q];simp);subst e';rw[hK (by rw[q];simp)]at e;cases e)
  have hM:Mod K mg (zuc s₁.heap H):=⟨hKb,nsK hns,⟨mb,nsK hb,hbb⟩,let ⟨mc,h1,h2⟩:=hlim;⟨mc,nsK h1,h2⟩⟩
  have e0:Env0 P w K mg (zuc s₁.heap H) callerA [] s₁ H:=⟨rfl,hM,λb o e=>zze e,Nat.le_of_eq (zp2 _ _),trivial,λb hb=>absurd (show b∈([]:List Addr) from hb) (by simp),hok,.of_eq hg⟩
  refine zo ((F _ hKb (nsK hns)).run callerA [] s₁ H ⟨[.ref a],[]⟩ [.ref a] [.ref a] _ _ hr e0 (hbind s₁ (.ref a)) (.cons rfl .nil) (hsp H hO hS)) λr s' h=>?_
  cases r with
  |error e=>exact(hCX H e s' h).elim
  |ok fl =>
   cases fl with
   |next=>exact False.elim h
   |brk=>exact False.elim h
   |cont=>exact False.elim h
   |ret u =>
    obtain⟨v,H',os,bare,un,hok',r',q⟩:=h;have q':v=.bl true:=q;subst q';obtain rfl:u=Value.bool true:=r';refine⟨rfl,OldK.of_keep λb o e=>?_,os,bare⟩
    cases q:H b with
    |none=>exact un.keep b o e q (by intro z;exact absurd (show b∈([]:List Addr) from z) (by simp)) (by simp)
    |some u =>
     rcases hO b with z|⟨ob,xs,z⟩
     ·rw[q]at z;cases z
     ·have z2:=un.frzs b ob _ z
      obtain⟨e1,_⟩:=hok b _ z;obtain⟨e2,_⟩:=hok' b _ z2;rw[e]at e1;cases e1;exact e2
 cases hk:K.lookup a with
 |some o =>
  have e:=KX a o hk;rw[ha]at e;cases e;refine core (λ_=>none) (λ_=>.inl rfl) (.inr ⟨_,vs.toArray,_,hk,rfl,rfl,rfl,by rw[xa,lenV];exact hl,by simpa using rv⟩) (λb u z=>by have z':(none:Option HO)=some u:=z;cases z') (λb z=>absurd rfl z) λz=>absurd rfl z
 |none =>
  refine core (λb=>if b=a then some (.frz { cls:=.type "list",data:=.seq vs.toArray } (.lst (ns.map V.int))) else none) (λb=>?_) (.inl (.inr ⟨{ cls:=.type "list",data:=.seq vs.toArray },ba rfl⟩)) (λb u z=>?_) (λb z=>?_) λ_=>hk
  ·by_cases hb:b=a
   ·exact .inr ⟨_,_,ba hb⟩
   ·exact .inl (oa hb)
  ·by_cases hb:b=a
   ·have z':=(ba hb).symm.trans z
    cases z'
    subst hb;exact⟨ha,by rw[ia];exact hl,vs,_,rv,ha⟩
   ·have z':=(oa hb).symm.trans z
    cases z'
  ·by_cases hb:b=a
   ·exact hb
   ·exact absurd (oa hb) z
theorem walk_of{l:PySem.W.OpenLaw}{n k:Nat}{q:Program}{loose:List Str}{XP:(Str->Option Value)->Heap->Prop}{YP:World->Heap->Prop}{d:DefRec}{K:Params->PySem.W.Frag}{CX:World->CXT}{sp:World->Sp}{x:Str}
  (hn:l.most=some n) (hn2:n<=sizeLine) (hdf:d.params.defaults=[]) (hr:Room k callerA)
  (hY:∀(w:World) (h:Heap),YP w h->(K w.params).In h)
  (F:∀ (w:World) (mg:Str->Option Value) (fa:Addr) (h:Heap),(K w.params).In h->h.Ns mainGlobals mg->mg d.name=some (.ref fa) →
   ∃fd:FuncData,(∀(s:Shared) (u:Value),BindsTo s fd ⟨[u],[]⟩ [(x,u)]) ∧
    ∀base:Heap,(K w.params).In base->base.Ns mainGlobals mg->FnOk l.prog w (K w.params) mg base (CX w) k fa fd [x] (sp w))
  (hsp:∀(w:World) (H:Hp) (a:Addr) (ns:List Int),ns.length<=n->z8v H->SqL (K w.params) H a (ns.map V.int)->sp w [.ref a] H (λv _=>v=.bl true) λ_ _ _=>False)
  (hCX:∀(w:World) (H:Hp) (s:Shared) (e:Value) (s':Shared),CX w [] H s (λ_ _ _=>False) e s'->False) :
  PySem.W.WalkO q loose XP YP l.row.toRowW d [] (λf vs=>PySem.call f vs):=by
 refine Att.attach_call hn hdf λw s₀ s₁ mg mb fa o pm cd doc a vs ns G Y ho hd hcd hmg hobj hints hlen hg=>?_
 have KX:=hY w _ Y;obtain⟨fd,hb,hF⟩:=F w mg fa _ KX G.T.g hmg;exact zuk KX G.T.g G.T.b G.T.builtins G.T.nolimit hg hobj hints (ie hlen hn2) hr hF hb (λH hO hS=>hsp w H a ns hlen hO hS) λH e s'=>hCX w H s₁ e s'
noncomputable abbrev CX0:CXT:=λ_ _ _ _ _ _=>False
noncomputable abbrev E0:XK:=λ_ _ _=>False
theorem zzo{X:Cx}:zqh CX0 X E0:=λ_ _ _ _ _ _ _ h=>h.elim
structure Fun(K:PySem.W.Frag)(x qual:Str)(st:Stmt)(f:Addr)(fd:FuncData):Prop where
 ex:∃(oc:Value) (od:Option Addr) (kV doc pm:Value) (an:Option Addr) (cdv ct:Value) (osl:Array (Option Value)),
  fd=PySem.W.fnOf x qual (ze1 st) (zca st) (zag st) .none kV doc pm an cdv ct/\K.lookup f=some ⟨oc,od,.func fd,osl⟩/\PySem.W.codeIn K cdv qual=true
 kp:PySem.W.keepIn K (.ref f)=true
section
variable {P:Program}{w:World}{K:PySem.W.Frag}{mg:Str->Option Value}{base:Heap}
theorem Fun.ok{x qual:Str}{st:Stmt}{f:Addr}{fd:FuncData}{N ps:List Str}{k:Nat}{sp:Sp}(F:Fun K x qual st f fd)(S:FnScope N ps (zag st))(len:∀vs H Q E,sp vs H Q E->vs.length=ps.length)
  (hbody:∀ (cdv:Value) (A:Around) (outer:List Env) (s:Shared) (H:Hp) (vs:List V) (Q:VK) (E:XK),Room k (A.deeper (envOfC qual (zag st) s.heap.objs.size f cdv))->sp vs H Q E →
   ∃t,PSs (zqj CX0 P w K mg base N qual (zag st) f cdv A outer s H E).nox (zca st) t/\t { nx:=λ_ H'=>Q .non H',rt:=Q } (zf7 N vs) H):FnOk P w K mg base CX0 (k+1) f fd ps sp:=by
 obtain⟨oc,od,kV,doc,pm,an,cdv,ct,osl,rfl,lk,hcd⟩:=F.ex;refine z8t lk hcd S len λA outer s H vs Q E hr hsp=>?_
 obtain⟨t,h,q⟩:=hbody cdv A outer s H vs Q E hr hsp;exact⟨t,h.nox,q⟩
theorem Fun.binds{x qual:Str}{st:Stmt}{f:Addr}{fd:FuncData}{ps:List Str}(F:Fun K x qual st f fd)
  (h:∀(kV doc pm:Value) (an:Option Addr) (cdv ct:Value) (us:List Value),us.length=ps.length->bindArgs (PySem.W.fnOf x qual (ze1 st) (zca st) (zag st) .none kV doc pm an cdv ct) ⟨us,[]⟩=pure (ps.zip us)):zdu K fd ps []:=by
 obtain⟨oc,od,kV,doc,pm,an,cdv,ct,osl,rfl,lk,hcd⟩:=F.ex;exact .all (h kV doc pm an cdv ct)
theorem za8{x qual:Str}{st:Stmt}{f:Addr}{oc:Value}{od an:Option Addr}{osl:Array (Option Value)}{kV doc pm cdv ct:Value}(l:K.lookup f=some ⟨oc,od,.func (PySem.W.fnOf x qual (ze1 st) (zca st) (zag st) .none kV doc pm an cdv ct),osl⟩)
  (c:PySem.W.codeIn K cdv qual=true) (k:PySem.W.keepIn K (.ref f)=true):Fun K x qual st f (PySem.W.fnOf x qual (ze1 st) (zca st) (zag st) .none kV doc pm an cdv ct):=⟨⟨oc,od,kV,doc,pm,an,cdv,ct,osl,rfl,l,c⟩,k⟩
end
def zav(H H':Hp):Prop:=∀b o,H b=some o->H' b=some o
theorem zav.refl(H:Hp):zav H H:=λ_ _ h=>h
theorem zav.trans{H H1 H2:Hp}(a:zav H H1)(b:zav H1 H2):zav H H2:=λc o h=>b c o (a c o h)
theorem zav.free{H H':Hp}(e:zav H H'){l:Addr}(h:H' l=Option.none):H l=Option.none:=by
 cases q:H l with
 |none=>rfl
 |some o =>
  rw[e l o q]at h;cases h
theorem zav.seq{K:PySem.W.Frag}{H H':Hp}{a:Addr}{xs:List V}(e:zav H H')(h:SqL K H a xs):SqL K H' a xs:=by
 rcases h with(h|⟨o,h⟩)|h
 ·exact .inl (.inl (e _ _ h))
 ·exact .inl (.inr ⟨o,e _ _ h⟩)
 ·exact .inr h
noncomputable def zqs(env:Env)(x:Str)(k:NameKind):NameKind:=if (k == NameKind.free && env.scope.kind == .function && env.kindOf x == some .cell)=true then NameKind.cell else k
theorem zhm{env:Env}:∀(names:List (Str×NameKind)) (x:Str),
  (names.map λ(n,k)=>if (k == NameKind.free && env.scope.kind == .function && env.kindOf n == some .cell) then (n,NameKind.cell) else (n,k)).lookup x=(names.lookup x).map (zqs env x)
 |[],_=>rfl
 |(n,k)::r,x=>by
  have ih:=zhm (env:=env) r x;show List.lookup x ((if (k == NameKind.free && env.scope.kind == .function && env.kindOf n == some .cell)=true then (n,NameKind.cell) else (n,k))::_)=_
  cases hx:x == n with
  |true =>
   have e:x=n:=by simpa using hx
   subst e;by_cases hc:(k == NameKind.free && env.scope.kind == .function && env.kindOf x == some .cell)=true
   ·rw[ba hc];simp only[vf,hx,ae,zqs,ba hc]
   ·rw[oa hc];simp only[vf,hx,ae,zqs,oa hc]
  |false =>
   by_cases hc:(k == NameKind.free && env.scope.kind == .function && env.kindOf n == some .cell)=true
   ·rw[ba hc];simp only[vf,hx];exact ih
   ·rw[oa hc];simp only[vf,hx];exact ih
theorem ze3(scope:Scope)(env:Env)(x:Str):(relabel scope env).names.lookup x=(scope.names.lookup x).map (zqs env x):=zhm _ _
noncomputable def zct(env:Env):List (Str×NameKind)->List (Str×Addr)->List (Str×Addr)
 |[],cs=>cs
 |(n,k)::r,cs=>zct env r (if (k == NameKind.free)=true then (n,(env.cells.lookup n).getD 0)::cs else cs)
theorem zoy{scope:Scope}{env:Env}(h:∀y∈scope.names,y.2=.free->∃c,env.cells.lookup y.1=some c):closureFor scope env=pure (zct env scope.names []):=by
 unfold closureFor;generalize scope.names=names at h
 have key:∀(names:List (Str×NameKind)) (cs:List (Str×Addr)),(∀y∈names,y.2=.free->∃c,env.cells.lookup y.1=some c) →
   (forIn names cs (λ(x:Str×NameKind) (r:List (Str×Addr))=>match x with|(name,kind)=>(if (kind == NameKind.free)=true then (do let a ← cellOf env name;pure (ForInStep.yield ((name,a)::r))) else pure (ForInStep.yield r):Sem (ForInStep (List (Str×Addr))))))=pure (zct env names cs):=by
  intro names
  induction names with
  |nil=>intro cs _;rfl
  |cons y r ih =>
   intro cs hy;obtain⟨n,k⟩:=y;rw[List.forIn_cons];by_cases hk:k=.free
   ·subst hk
    obtain⟨c,hc⟩:=hy (n,.free) za rfl;have e1:cellOf env n=pure c:=by unfold cellOf;rw[hc]
    have e2:=ih ((n,c)::cs) λz hz=>hy z (da _ hz)
    have e3:zct env ((n,NameKind.free)::r) cs=zct env r ((n,c)::cs):=by
     show zct env r (if (NameKind.free == NameKind.free)=true then (n,(env.cells.lookup n).getD 0)::cs else cs)=_;rw[ba (show (NameKind.free == NameKind.free)=true by decide),show env.cells.lookup n=some c from hc];rfl
    rw[e3,<-e2];simp only[xn,pj,e1];rfl
   ·have hb:(k == NameKind.free)=false:=by simpa using hk
    have e2:=ih cs λz hz=>hy z (da _ hz)
    have e3:zct env ((n,k)::r) cs=zct env r cs:=by
     show zct env r (if (k == NameKind.free)=true then (n,(env.cells.lookup n).getD 0)::cs else cs)=_;rw[oa (by rw[hb];exact la)]
    rw[e3,<-e2];simp only[hb,bc,dh];rfl
 have e:=key names [] h;refine Eq.trans ?_ (Eq.trans (zc (λt:Sem (List (Str×Addr))=>t >>= λr=>pure r) e) ?_)
 ·rfl
 ·rfl
theorem zh4{env:Env}:∀(names:List (Str×NameKind)) (cs:List (Str×Addr)),(∀y∈names,y.2=.free->∃c,env.cells.lookup y.1=some c)->(∀x c,cs.lookup x=some c->env.cells.lookup x=some c) →
  ∀x c,(zct env names cs).lookup x=some c->env.cells.lookup x=some c
 |[],cs,_,hc,x,c,h=>hc x c h
 |(n,k)::r,cs,hy,hc,x,c,h=>by
  refine zh4 r _ (λz hz=>hy z (da _ hz)) (λz d hd=>?_) x c h;by_cases hk:k=.free
  ·subst hk
   obtain⟨a,ha⟩:=hy (n,.free) za rfl;rw[ba (show (NameKind.free == NameKind.free)=true by decide),show env.cells.lookup n=some a from ha]at hd;rw[vf]at hd
   cases hz:z == n with
   |true =>
    have e:z=n:=by simpa using hz
    subst e;rw[hz]at hd;rw[ha];exact hd
   |false=>rw[hz]at hd;exact hc z d hd
  ·have hb:(k == NameKind.free)=false:=by simpa using hk
   rw[oa (by rw[hb];exact la)]at hd;exact hc z d hd
theorem zw6{env:Env}{x:Str}:∀(names:List (Str×NameKind)) (cs:List (Str×Addr)),(names.lookup x=some .free\/∃c,cs.lookup x=some c)->∃c,(zct env names cs).lookup x=some c
 |[],cs,h=>by
  rcases h with h|h
  ·cases h
  ·exact h
 |(n,k)::r,cs,h=>by
  refine zw6 r _ ?_
  cases hx:x == n with
  |true =>
   rcases h with h|⟨c,h⟩
   ·rw[vf,hx]at h
    cases h;refine .inr ⟨(env.cells.lookup n).getD 0,?_⟩
    rw[ba (show (NameKind.free == NameKind.free)=true by decide),vf,hx]
   ·by_cases hk:(k == NameKind.free)=true
    ·refine .inr ⟨(env.cells.lookup n).getD 0,?_⟩
     rw[ba hk,vf,hx]
    ·exact .inr ⟨c,by rw[oa hk];exact h⟩
  |false =>
   rcases h with h|⟨c,h⟩
   ·rw[vf,hx]at h
    exact .inl h
   ·refine .inr ⟨c,?_⟩
    by_cases hk:(k == NameKind.free)=true
    ·rw[ba hk,vf,hx];exact h
    ·rw[oa hk];exact h
noncomputable def zjp(X:Cx)(vars:List Str)(cap:List Nat):List Str:=vars++cap.map λi=>X.N.getD i ""
noncomputable def zdv(n:Nat)(cap:List Nat)(σ:St):St:=List.replicate n none++cap.map λi=>(σ[i]?).getD none
noncomputable def za3(X:Cx)(scope:Scope)(C:Addr)(vars:List Str)(cap:List Nat)(s:Shared)(H:Hp)(ex:List Addr):Cx :=
 { X with N:=zjp X vars cap,s₀:=s,H₀:=H,env:=compEnvC scope (zct X.env scope.names []) C X.env,outer:=X.stack,stack:=X.stack,ex:=ex,fn:=λ_=>false,xe:=λ_ _=>False }
structure CScope(X:Cx)(scope:Scope):Prop where
 kind:scope.kind=.function
 cell:∀y∈scope.names,y.2≠.cell
 names:∀y∈scope.names,y.2=.local->scope.names.lookup y.1=some .local
 free:∀y∈scope.names,y.2=.free->X.env.kindOf y.1=some .cell\/X.env.kindOf y.1=some .free
section
variable {X:Cx}{pins:List (Addr×Obj)}{σ:St}{H:Hp}{s:Shared}
theorem HOk.track{P:Program}{w:World}{h:Heap}{a:Addr}{o:HO}(x:HOk P w H h)(hn:H a=none)(new:zbi P w (upd H a o) h a o):HOk P w (upd H a o) h:=λb u e=>by
 by_cases hb:b=a
 ·subst hb;rw[zac]at e;cases e;exact new
 ·rw[zae hb]at e
  exact(x b u e).stay (λc v _ q=>q) (λc q=>by rw[zae (zai q hn)];exact q) λc xs q=>by rw[zae (zai q hn)];exact q
theorem Un.later{fs ex:List Addr}{H H1 H2:Hp}{h h1 h2:Heap}(u:Un fs ex H H1 h h1)(hH:∀b o,H b=some o->b<h.objs.size)(k:∀b o,b<h.objs.size->h1.get? b=some o->h2.get? b=some o)(e:∀b,b<h.objs.size->H2 b=H1 b):Un fs ex H H2 h h2 where
 keep:=λb o q n hb hx=>k b o (wb q) (u.keep b o q n hb hx)
 slot:=λb o q n hb hx=>by
  obtain⟨sl,z⟩:=u.slot b o q n hb hx;exact⟨sl,k b _ (wb q) z⟩
 free:=λb o q n hx=>by rw[e b (wb q)];exact u.free b o q n hx
 there:=λb o q hx=>by
  obtain⟨o',z⟩:=u.there b o q hx;exact⟨o',k b o' (wb q) z⟩
 tups:=λb xs q=>by rw[e b (hH b _ q)];exact u.tups b xs q
 frzs:=λb o v q=>by rw[e b (hH b _ q)];exact u.frzs b o v q
 tbls:=λb ps q=>by
  obtain⟨m,z⟩:=u.tbls b ps q;exact⟨m,by rw[e b (hH b _ q)];exact z⟩
theorem CScope.cells{scope:Scope}(S:CScope X scope)(I:Inv X pins σ H s):∀y∈scope.names,y.2=.free->∃c,X.env.cells.lookup y.1=some c:=λy hy hf=>I.ok.has y.1 (S.free y hy hf)
theorem zd7{α:Type}:∀{l:List (Str×α)}{x:Str}{v:α},l.lookup x=some v->(x,v)∈l:=λh=>PySem.mem_of_lookup h
theorem zoz {scope:Scope}{vars:List Str}{cap:List Nat}{fp:List Addr}{h1:Heap}{t':Nat}{m:Str->Option Value}{C:Addr} (S:CScope X scope) (I:Inv X pins σ H s) (hcap:∀i∈cap,i<X.N.length/\scope.names.lookup (X.N.getD i "")≠some .local)
  (hfp:∀b∈fp,zt3 X pins H b) (hob:∀b∈fp,b<s.heap.objs.size) (hC:s.heap.objs.size<=C) (hk:∀b o,s.heap.get? b=some o->h1.get? b=some o) (hn:h1.Ns C m) :
  Inv (za3 X scope C vars cap s H fp) pins (zdv vars.length cap σ) H { s with heap:=h1,toks:=t' }:=by
 have hcells:=S.cells I;have snd:=zh4 (env:=X.env) scope.names [] hcells (λx c h=>by cases h);have hlt:∀b o,H b=some o->b<s.heap.objs.size:=λb o e=>I.hok.lt e
 have stk:∀b,b∈frs X.stack->b<s.heap.objs.size:=λb hb=>by
  rcases yb.mp (I.stkSub b hb) with e|e
  ·rw[e];exact I.lt
  ·obtain⟨_,o,ho,_⟩:=I.ok.funs.mem e
   exact dc (wb ho) I.sz
 have kinds:∀x,((za3 X scope C vars cap s H fp).env.kindOf x=some .cell\/(za3 X scope C vars cap s H fp).env.kindOf x=some .free)->scope.names.lookup x=some .free:=λx h=>by
  have h':(scope.names.lookup x).map (zqs X.env x)=some .cell\/(scope.names.lookup x).map (zqs X.env x)=some .free:=by
   rw[<-ze3 scope X.env x];exact h
  cases e:scope.names.lookup x with
  |none=>rw[e]at h';rcases h' with z|z <;> cases z
  |some k =>
   have nc:k≠.cell:=S.cell (x,k) (zd7 e);rw[e]at h';unfold zqs at h'
   cases k <;> first|rfl|exact absurd rfl nc|(simp at h')
 have okc:(za3 X scope C vars cap s H fp).Ok:=by
  refine⟨I.ok.mod,S.kind,I.ok.glob,I.ok.blt,hC,λ x y c h1 h2=>I.ok.inj x y c (snd x c h1) (snd y c h2),λ x hx=>zw6 scope.names [] (.inl (kinds x hx)),λ x c h=>(Bool.false_ne_true h).elim,I.ok.hd,I.ok.frames,.inl rfl,
   λb hb=>⟨?_,λx c h=>(hfp b hb).2.2.2.2.1 x c (snd x c h)⟩,λb o e=>I.bs b o e,ie I.ok.bsz I.sz,λb o e hb=>?_,λb hb hfs=>?_,I.stack,I.stkFree⟩
  ·exact yd (dc (hob b hb) hC)
  ·rcases(hfp b hb).2.2.2.1 with z|z
   ·exact I.ok.noex b o e z
   ·exact absurd (dc (wb (I.ok.bs b o e).1) z) (zg _)
  ·rcases yb.mp (I.stkSub b hfs) with z|z
   ·exact(hfp b hb).2.1 z
   ·exact(hfp b hb).2.2.1 z
 refine⟨okc,rfl,I.bare,Un.kept hk,⟨m,hn,λi x v e1 e2 e3=>?_⟩,λx c e=>?_,I.hok.fresh hC,λx c e=>I.freeC x c (snd x c e),λp hp=>?_,I.hok.kept hk,?_⟩
 ·-- the names of around
  have e1:(zjp X vars cap)[i]?=some x:=e1;have e3':(relabel scope X.env).names.lookup x=some .local\/(relabel scope X.env).names.lookup x=some .cell\/(relabel scope X.env).names.lookup x=some .free:=e3;unfold zdv at e2;by_cases hi:i<vars.length
  ·rw[gf (by simpa using hi),ig]at e2
   split at e2 <;> cases e2
  ·rw[sf (by simpa using hi),jj,pc]at e2
   unfold zjp at e1;rw[sf (by omega),pc]at e1
   cases ej:cap[i - vars.length]? with
   |none=>rw[ej]at e1;cases e1
   |some j =>
    rw[ej]at e1 e2;have hj:j<X.N.length:=(hcap j (ge ej)).1
    have eN:X.N[j]?=some x:=by
     have z:X.N.getD j "" = x:=vc e1;rw[wc]at z
     cases q:X.N[j]? with
     |none=>rw[List.getElem?_eq_none_iff]at q;omega
     |some y=>rw[q]at z;exact zc some z
    have eσ:σ[j]?=some (some v):=by
     have z:(σ[j]?).getD none=some v:=vc e2
     cases q:σ[j]? with
     |none=>rw[q]at z;cases z
     |some y=>rw[q]at z;exact zc some z
    rw[ze3]at e3'
    cases e4:scope.names.lookup x with
    |none=>rw[e4]at e3';rcases e3' with z|z|z <;> cases z
    |some k =>
     rw[e4]at e3'
     have nl:k≠.local:=λz=>by
      have z0:X.N.getD j "" = x:=vc e1;exact(hcap j (ge ej)).2 (by rw[z0,e4,z])
     have nc:k≠.cell:=S.cell (x,k) (zd7 e4)
     have kf:k=.free:=by
      unfold zqs at e3'
      cases k <;> first|rfl|exact absurd rfl nc|exact absurd rfl nl|(simp at e3')
     subst kf
     have vis:Vis X.env.scope x:=by
      rcases S.free (x,.free) (zd7 e4) rfl with z|z
      ·exact .inr (.inl z)
      ·exact .inr (.inr z)
     obtain⟨m0,hn0,hl0⟩:=I.loc;obtain⟨u,r,l⟩:=hl0 j x v eN eσ vis;refine⟨u,r,.inr ?_⟩
     have kk:(za3 X scope C vars cap s H fp).env.kindOf x=some .cell\/(za3 X scope C vars cap s H fp).env.kindOf x=some .free:=by
      show (relabel scope X.env).names.lookup x=some .cell\/(relabel scope X.env).names.lookup x=some .free;rw[ze3,e4];show some (zqs X.env x .free)=some .cell\/some (zqs X.env x .free)=some .free;unfold zqs;split
      ·exact .inl rfl
      ·exact .inr rfl
     obtain⟨c,hc⟩:=okc.has x kk;refine⟨kk,c,hc,?_⟩;have hc':=snd x c hc;rcases l with⟨k1,_⟩|⟨_,c2,hc2,z⟩
     ·rcases S.free (x,.free) (zd7 e4) rfl with z|z
      ·have z:X.env.kindOf x=some .cell:=z
       rw[k1]at z;cases z
      ·have z:X.env.kindOf x=some .free:=z
       rw[k1]at z;cases z
     ·rw[hc']at hc2;cases hc2
      exact Heap.IsCell.keeps z hk
 ·obtain⟨v,z⟩:=I.cell x c (snd x c e)
  exact⟨v,Heap.IsCell.keeps z hk⟩
 ·obtain⟨e,n,ne,nf,d⟩:=I.pin p hp
  refine⟨hk _ _ e,n,yd (dc (wb e) hC),λz=>?_,d⟩;rcases yb.mp (I.stkSub p.1 z) with q|q
  ·exact ne q
  ·exact nf q
 ·unfold zdv
  show _=(zjp X vars cap).length;unfold zjp;simp
theorem Inv.repin{a:Addr}{o o':Obj}{h':Heap}{t':Nat}(I:Inv X (pins++[(a,o)]) σ H s)(hp:∀p∈X.pn++pins,p.1≠a)(h1:a∈X.ex\/X.s₀.heap.objs.size<=a)(k:∀b u,b≠a->s.heap.get? b=some u->h'.get? b=some u)(e:h'.get? a=some o')(hd:∀v,o'.data≠.cell v) :
  Inv X (pins++[(a,o')]) σ H { s with heap:=h',toks:=t' }:=by
 obtain⟨e0,n0,ne0,nf0,d0⟩:=I.pin (a,o) (by simp);have I1:Inv X pins σ H s:=I.unpinned
 have cne:∀x c,X.env.cells.lookup x=some c->c≠a:=λx c q z=>by
  subst z;obtain⟨v,ob,hob,hdv⟩:=I.cell x c q;have e0:s.heap.get? c=some o:=e0;rw[e0]at hob;cases hob;exact d0 v hdv
 have I2:Inv X pins σ H { s with heap:=h',toks:=t' }:=I1.turned (it:=a) k n0 ne0 h1 cne hp;refine I2.pins_of λp hpp=>?_
 rcases ac.mp hpp with z|z
 ·exact I2.pin p (uc _ z)
 ·have z:p=(a,o'):=by simpa using z
  subst z;exact⟨e,n0,ne0,nf0,hd⟩
theorem Inv.pinnew{a:Addr}{o:Obj}(I:Inv X pins σ H s)(e:s.heap.get? a=some o)(hn:H a=none)(hL:a≠X.env.locals)(hf:a ∉ X.fs)(hd:∀v,o.data≠.cell v):Inv X (pins++[(a,o)]) σ H s:=by
 refine I.pins_of λp hpp=>?_
 rcases ac.mp hpp with z|z
 ·exact I.pin p (uc _ z)
 ·have z:p=(a,o):=by simpa using z
  subst z;exact⟨e,hn,hL,hf,hd⟩
def zw7(X:Cx)(ifs:List Expr)(t:TT):Prop :=
 ∀(pins:List (Addr×Obj)) (s:Shared) (σ:St) (H:Hp) (Q:Bool->Hp->Prop),Inv X pins σ H s->t σ H Q →
  wpAny (model X.prog X.w) X.A (forIn ifs true λc r=>if r=true then do let ok ← isTrue c X.env (eval c X.env);pure (ForInStep.yield ok) else pure (ForInStep.yield r)) (TP X pins σ Q) X.xe s
noncomputable def yb9:TT:=λ_ H Q=>Q true H
theorem z3q:zw7 X [] yb9:=λpins s σ H Q I h=>wpAny_tests_nil ⟨H,I,h⟩
theorem z3r{c:Expr}{t:TT}(h:PT X c t):zw7 X [c] t:=λpins s σ H Q I hw=>wpAny_tests_one (h pins s σ H Q I hw)
theorem zjq{prog:Program}{w:World}{A:Around}{R:Result->Shared->Prop}{s:Shared}{elt target iter:Expr}{ifs:List Expr}{scope:Scope}{pos:Pos}{it acc:Value}{env:Env}(I:Nat->Shared->Prop)
  (turn:∀ n s,I n s->wpAny (model prog w) A (pyNext it) (λ r s₁=>match r with
   |none=>R (.ok .next) s₁
   | some v=>wpAny (model prog w) A (letOwnedTupleGo target it v) (λ _ s₁'=>wpAny (model prog w) A (assign target env v) (λ _ s₂ =>
     wpAny (model prog w) A (forIn ifs true λ c r=>if r=true then do let ok ← isTrue c env (eval c env);pure (ForInStep.yield ok) else pure (ForInStep.yield r)) (λ ok s₃ =>
      if ok=true then wpAny (model prog w) A (eval elt env) (λ x s₄ =>
       wpAny (model prog w) A (call (.builtin "list.append") [acc,x]) (λ_ s₅=>∃m,m<n/\I m s₅) (λ_ _=>False) s₄) (λ_ _=>False) s₃
      else ∃m,m<n/\I m s₃) (λ_ _=>False) s₂) (λ_ _=>False) s₁') (λ_ _=>False) s₁) (λ_ _=>False) s)
  (n:Nat) (h:I n s) :
  codeAny (model prog w) A (.compLoop (.ListComp elt [⟨target,iter,ifs,0⟩] scope pos) 0 it acc env) R s:=by
 refine codeAny_loop rfl I (λn s hI=>?_) n h;show wpAny _ A ((compTurn (.ListComp elt [⟨target,iter,ifs,0⟩] scope pos) 0 it acc env).onRaise (λx=>do noteFrame x env;theTreesLotGoes x)) _ _ s;refine wpAny_noted ?_;rw[compTurn_list];refine aa (wpAny_standAt (aa (ug (turn n s hI) (λr s₁ h₁=>?_) λ_ _ h'=>h'.elim)))
 cases r with
 |none=>exact va h₁
 |some v =>
  refine aa (ug h₁ (λ_ s₁' h₁'=>?_) λ_ _ h'=>h'.elim);refine aa (ug h₁' (λ_ s₂ h₂=>aa (ug h₂ (λok s₃ h₃=>?_) λ_ _ h'=>h'.elim)) λ_ _ h'=>h'.elim)
  cases ok with
  |false=>exact va ⟨rfl,h₃⟩
  |true =>
   exact aa (aa (ug h₃ (λx s₄ h₄=>aa (ug h₄ (λ_ s₅ h₅=>va (va ⟨rfl,h₅⟩)) λ_ _ h'=>h'.elim)) λ_ _ h'=>h'.elim))
end
def Sub(σ σ':St):Prop:=σ'.length=σ.length/\∀(i:Nat) v,σ[i]?=some (some v)->σ'[i]?=some (some v)
def zul(J:It)(g:TG)(tt:TT)(te:TE)(σc:St)(Q:List V->Hp->Prop)(H1:Hp):Prop :=
 ∃W:Nat->Nat->List V->Hp->Prop,(∃m,W 0 m [] H1)/\∀i m ys H,W i m ys H →
  (J.stop i H/\Q ys H)\/(J.go i H/\ys.length<sizeLine/\∃ N:List V->Hp->Prop,(∀ ys' H',N ys' H'->∃ m',m'<m/\W (i+1) m' ys' H') ∧
   ∀x H',J.yld i H x H'->g x σc H' λσ2 H2=>Sub σc σ2/\tt σ2 H2 λb H3=>if b=true then te σ2 H3 λy H4=>N (ys++[y]) H4 else N ys H3)
noncomputable def z3s(wi:TI)(g:TG)(tt:TT)(te:TE)(n:Nat)(cap:List Nat):TE:=λσ H Q=>wi σ H λJ H1 =>
 zul J g tt te (zdv n cap σ) (λys H'=>ys.length<=sizeLine/\∀D,H' D=none->Q (.ref D) (upd H' D (.lst ys))) H1
noncomputable abbrev zum(us:List Value)(n:Nat):Obj:={ cls:=.type "list",data:=.seq us.toArray n }
section
variable {X:Cx}{elt iter tg:Expr}{ifs:List Expr}{scope:Scope}{pos:Pos}{wi:TI}{g:TG}{tt:TT}{te:TE}{vars:List Str}{cap:List Nat}
theorem zo0{pins:List (Addr×Obj)}{σ:St}{H:Hp}{s:Shared}{it:Addr}{fp:List Addr}{tn:Nat->Heap->Prop}{J:It}{Q:List V->Hp->Prop}{RR:Value->Addr->Result->Shared->Prop}{E:Value->Shared->Prop}
  (hc:X.calm=true) (S:CScope X scope) (hcap:∀i∈cap,i<X.N.length/\scope.names.lookup (X.N.getD i "")≠some .local) (I:Inv X pins σ H s) (T:Turn X.prog X.w X.K tg J fp it tn) (st:tn 0 s.heap) (hf:∀b∈fp,zt3 X pins H b)
  (hg:∀s H C ex,PG (za3 X scope C vars cap s H ex) tg g) (ht:∀s H C ex,zw7 (za3 X scope C vars cap s H ex) ifs tt) (he:∀s H C ex,PE (za3 X scope C vars cap s H ex) elt te)
  (hL:zul J g tt te (zdv vars.length cap σ) (λys H'=>ys.length<=sizeLine/\Q ys H') H)
  (fin:∀ (D C:Addr) (ys:List V) (H':Hp) (s':Shared) (m:Str->Option Value),Q ys H'->H' D=none->Inv X pins σ (upd H' D (.lst ys)) s'->s'.heap.Ns C m->(upd H' D (.lst ys)) C=none->C≠X.env.locals->X.s₀.heap.objs.size<=C →
   (∀x c,X.env.cells.lookup x=some c->c≠C)->(∀p∈X.pn++pins,p.1≠C)->RR (.ref D) C (.ok .next) s') :
  wpAny (model X.prog X.w) X.A (newList []) (λ acc s₃=>wpAny (model X.prog X.w) X.A (newFunctionEnv scope X.env.globals (zct X.env scope.names []) [] X.env.qual none .none (some X.env)) (λ cenv s₄ =>
   codeAny (model X.prog X.w) X.A (.compStart (.ListComp elt [⟨tg,iter,ifs,0⟩] scope pos) 0 (.ref it) acc { cenv with scope:=relabel scope X.env }) (RR acc cenv.locals) s₄) E s₃) E s:=by
 refine og (wpAny_newFunctionEnv S.cell (by intro y hy;simp at hy) (λh₁ hns₁ hsb₁=>?_) S.kind);dsimp only at hns₁ hsb₁ ⊢;generalize hH2:s.heap.push { cls:=.type "list",dict:=none,data:=.seq ([]:List Value).toArray }=H2 at hns₁ hsb₁ ⊢;have hC:H2.objs.size=s.heap.objs.size+1:=by rw[<-hH2,Heap.size_push]
 generalize hCe:H2.objs.size=C at hns₁ hsb₁ hC ⊢;generalize hDe:s.heap.objs.size=D at hC ⊢;have hDC:D≠C:=by rw[hC];exact yd (yn _)
 have below:∀b,b<s.heap.objs.size->b≠C/\b≠D:=λb hb=>by
  rw[hDe]at hb;exact⟨by rw[hC];exact yd (Nat.lt_succ_of_lt hb),yd hb⟩
 have old:∀b o,s.heap.get? b=some o->h₁.get? b=some o:=λb o e=>hsb₁.extBut b o (below b (wb e)).1 (bb _ (hH2 ▸ bb _ e))
 have hacc:h₁.get? D=some (zum [] 0):=hsb₁.extBut _ _ hDC (bb _ (by rw[<-hH2,<-hDe];exact cc _ rfl));have hCle:s.heap.objs.size<=C:=by rw[hC,<-hDe];exact Nat.le_succ _
 have hob:∀b∈fp,b<s.heap.objs.size:=λb hb=>by
  obtain⟨o,e,_⟩:=T.obj 0 _ st b hb;exact wb e
 have I0:Inv (za3 X scope C vars cap s H fp) pins (zdv vars.length cap σ) H { s with heap:=h₁,toks:=s.toks+([]:List (Str×Value)).length }:=zoz S I hcap hf hob hCle old hns₁
 have stkb:∀b,b∈frs X.stack->b<s.heap.objs.size:=λb hb=>by
  rcases yb.mp (I.stkSub b hb) with e|e
  ·rw[e];exact I.lt
  ·obtain⟨_,o,ho,_⟩:=I.ok.funs.mem e
   exact dc (wb ho) I.sz
 have snd:=zh4 (env:=X.env) scope.names [] (S.cells I) (λx c h=>by cases h);have hDfs:D ∉ (za3 X scope C vars cap s H fp).fs:=λz=>absurd (stkb D z) (by rw[hDe];exact zg _)
 have hHD:H D=none:=I.hok.fresh (by rw[hDe];exact wa _);have I1:=I0.pinnew (a:=D) hacc hHD hDC hDfs (λv z=>by cases z);have pnD:∀p∈(za3 X scope C vars cap s H fp).pn++pins,p.1≠D:=λp hp=>yd (by rw[<-hDe];exact wb (I.pin p hp).1)
 have stat:∀{us:List Value} {n:Nat} {H':Hp},(∀b∈fp,H' b=none)->∀b∈fp,zt3 (za3 X scope C vars cap s H fp) (pins++[(D,zum us n)]) H' b:=λ{us n H'} hn b hb=>by
  obtain⟨f0,f1,f2,f3,f4,f5⟩:=hf b hb;refine⟨hn b hb,(below b (hob b hb)).1,λz=>?_,.inl hb,λx c e=>f4 x c (snd x c e),λp hp=>?_⟩
  ·rcases yb.mp (I.stkSub b z) with q|q
   ·exact f1 q
   ·exact f2 q
  ·have hp:p∈X.pn++(pins++[(D,zum us n)]):=hp
   rw[<-ji]at hp;rcases ac.mp hp with q|q
   ·exact f5 p q
   ·have q:p=(D,zum us n):=by simpa using q
    subst q;exact λz=>(below b (hob b hb)).2 z.symm
 have st1:tn 0 h₁:=T.keep 0 _ _ st λb _ o e=>old b o e
 obtain⟨W,⟨m0,w0⟩,turn⟩:=hL
 have loop:∀s₃:Shared,s₃={ s with heap:=h₁,toks:=s.toks+([]:List (Str×Value)).length } →
   codeAny (model X.prog X.w) X.A (.compLoop (.ListComp elt [⟨tg,iter,ifs,0⟩] scope pos) 0 (.ref it) (.ref D) (compEnvC scope (zct X.env scope.names []) C X.env)) (RR (.ref D) C) s₃:=by
  rintro s₃ rfl
  refine zjq (env:=(za3 X scope C vars cap s H fp).env) (λn s'=>∃i ys us k H',Inv (za3 X scope C vars cap s H fp) (pins++[(D,zum us k)]) (zdv vars.length cap σ) H' s'/\zbs ys us/\tn i s'.heap/\(∀b∈fp,H' b=none)/\W i n ys H') ?_ m0
   ⟨0,[],[],0,H,I1,.nil,st1,λb hb=>(hf b hb).1,w0⟩
  rintro n s3 ⟨i,ys,us,k,H3,I3,rv3,st3,fr3,w3⟩;rcases turn i n ys H3 w3 with⟨stop,hz,qn⟩|⟨go,hz,N,hN,step⟩
  ·refine thn (T.done (za3 X scope C vars cap s H fp) rfl rfl rfl hc i _ s3 _ H3 (λ_ _=>False) I3 (stat fr3) st3 stop) λr s4 ⟨hr,I4⟩=>?_
   subst hr;obtain⟨eD,nD,_,_,_⟩:=I4.pin (D,zum us k) (by simp);obtain⟨m4,ns4,_⟩:=id I4.loc;have hC3:H3 C=none:=I4.free;refine fin D C ys H3 s4 m4 qn nD ?_ ns4 (by rw[zae (gh hDC)];exact hC3) (gh (below _ I.lt).1) (ie I.sz hCle) (λx c e=>?_) (λp hp=>(below _ (wb (I.pin p hp).1)).1)
   ·refine I.call' (ch:=fp) I4.os (Un.later I4.base (λb o e=>I.hok.lt e) (λb o _ q=>q) λb hb=>by rw[zae (below b hb).2]) ?_ I4.bare λb hb=>?_
    ·exact I4.hok.track nD ⟨hz,us,k,rv3,eD⟩
    ·obtain⟨f0,f1,f2,f3,f4,f5⟩:=hf b hb
     exact⟨f3,f1,f4,f5⟩
   ·obtain⟨v,z⟩:=I.cell x c e
    exact(below _ z.lt).1
  ·refine thn (T.item (za3 X scope C vars cap s H fp) rfl rfl rfl hc i _ s3 _ H3 (λ_ _=>False) I3 (stat fr3) st3 go) λr s4 ⟨u,hr,h4⟩=>?_
   subst hr;refine thn h4 λ_ s5 ⟨x,H5,I5,r5,y5,st5,fr5⟩=>?_
   have I5':=I5.pinned (stat fr5) (T.obj _ _ st5);refine thn (hg s H C fp _ s5 _ H5 x u _ I5' r5 (step x H5 y5)) λ_ s6 ⟨σ6,H6,I6,sub6,q6⟩=>?_
   have again:∀{σ7:St} {H7:Hp} {s7:Shared},Inv (za3 X scope C vars cap s H fp) (pins++[(D,zum us k)]++zjf fp s5.heap) σ7 H7 s7->Sub (zdv vars.length cap σ) σ7 →
     Inv (za3 X scope C vars cap s H fp) (pins++[(D,zum us k)]) (zdv vars.length cap σ) H7 s7/\tn (i+1) s7.heap/\∀b∈fp,H7 b=none:=λ{σ7 H7 s7} I7 sub7=>by
    refine⟨I7.unpinned.weak sub7.1.symm sub7.2,T.keep _ _ _ st5 λb hb o e=>(I7.pin (b,o) (uc _ (uc _ (zd6 hb e)))).1,λb hb=>?_⟩;obtain⟨o,e,d⟩:=T.obj _ _ st5 b hb;exact(I7.pin (b,o) (uc _ (uc _ (zd6 hb e)))).2.1
   refine thn (ht s H C fp _ s6 σ6 H6 _ I6 q6) λok s7 ⟨H7,I7,q7⟩=>?_
   cases ok with
   |false =>
    obtain⟨J7,st7,fr7⟩:=again I7 sub6;obtain⟨m',hm,w7⟩:=hN _ _ q7;exact⟨m',hm,i+1,ys,us,k,H7,J7,rv3,st7,fr7,w7⟩
   |true =>
    refine thn (he s H C fp _ s7 σ6 H7 _ I7 q7) λv s8 ⟨y,H8,I8,r8,q8⟩=>?_
    obtain⟨J8,st8,fr8⟩:=again I8 sub6;obtain⟨m',hm,w8⟩:=hN _ _ q8;obtain⟨eD,nD,_,_,_⟩:=J8.pin (D,zum us k) (by simp);have hlen:=rv3.length;refine zr F.slot_list_append ⟨_,eD,rfl⟩ F.entry_list_append (F.args_list_append_2 _ _) (PySem.list_append D us.toArray k v (by rw[xa];omega)) ⟨eD,?_⟩;have q:=PySem.IsL.update eD (λxs=>xs.push v)
    have J9:Inv (za3 X scope C vars cap s H fp) (pins++[(D,_)]) (zdv vars.length cap σ) H8 { s8 with heap:=s8.heap.update D (Obj.mapSeq λxs=>xs.push v),toks:=s8.toks } :=
     J8.repin pnD (.inr (show s.heap.objs.size<=D by rw[hDe];exact wa _)) (λb u hb e=>(af _ _ (gh hb)).trans e) q (λv z=>by cases z)
    have e9:(us.toArray.push v)=(us++[v]).toArray:=by simp
    rw[e9]at J9;exact⟨m',hm,i+1,ys++[y],us++[v],_,H8,J9,rv3.append (.cons r8 .nil),T.keep _ _ _ st8 λb hb o e=>(af _ _ (gh (below b (hob b hb)).2)).trans e,fr8,w8⟩
 exact codeAny_compStart_list (loop _ rfl) (T.self X.A 0 _ _ _ st1 (loop _ rfl))
theorem zqt (hc:X.calm=true) (S:CScope X scope) (hcap:∀i∈cap,i<X.N.length/\scope.names.lookup (X.N.getD i "")≠some .local) (hi:PI X tg iter wi)
  (hg:∀s H C ex,PG (za3 X scope C vars cap s H ex) tg g) (ht:∀s H C ex,zw7 (za3 X scope C vars cap s H ex) ifs tt) (he:∀s H C ex,PE (za3 X scope C vars cap s H ex) elt te)
  (hs:∀x,foldedSetIterable iter X.env x=pure x:=by intro _;rfl):PE X (.ListComp elt [⟨tg,iter,ifs,0⟩] scope pos) (z3s wi g tt te vars.length cap):=by
 intro pins s σ H Q I h;rw[eval_ListComp];refine wpAny_comprehension_free (use:=none) rfl hs (zoy (S.cells I)) S.kind S.names ?_;refine thn (hi pins s σ H _ I h) λv s1 h1=>thn h1 λitv s2 h2=>?_
 obtain⟨it,fp,tn,J,H2,e,I2,T,st2,f2,q2⟩:=h2;subst e;refine zo0 (RR:=λacc C=>compPost (model X.prog X.w) X.A X.xe none (EP X pins σ Q) acc C) (Q:=λys H'=>∀D,H' D=none->Q (.ref D) (upd H' D (.lst ys))) hc S hcap I2 T st2 f2 hg ht he q2 ?_;intro D C ys H' s' m hq hD I' hn hC hCL hCs hCc hCp;refine⟨m,hn,λh'' hs''=>⟨.ref D,_,?_,rfl,hq D hD⟩⟩;exact I'.turned (it:=C) (t':=s'.toks) (λb o hb e=>hs''.extBut b o hb e) hC hCL (.inr hCs) hCc hCp
end
inductive D where
 |sc (v:V)|tup (ds:List D)|lst (ds:List D)|dk (ks:List Key) (ds:List D)|dt (ks:List (List Key)) (ds:List D)|er (n:Str) (ks:List Str) (ds:List D)
noncomputable def zg9{α β:Type}(f:α->β->Bool):List α->List β->Bool
 |[],[]=>true
 |a::as,b::bs=>f a b && zg9 f as bs
 |_,_=>false
noncomputable def lex{α β:Type}(eq lt:α->β->Bool):List α->List β->Bool
 |[],[]=>false
 |[],_::_=>true
 |_::_,[]=>false
 |a::as,b::bs=>if eq a b=true then lex eq lt as bs else lt a b
def HD(h:Heap):Nat->D->Value->Prop
 |0,d,u=>match d with|.sc v=>zcg v=true/\zbf v u|_=>False
 |k+1,d,u=>match d with
  |.sc v=>zcg v=true/\zbf v u
  |.tup ds=>∃a its,u=.ref a/\IsTup h a its.toArray/\Paired (HD h k) ds its
  |.lst ds=>∃a its,u=.ref a/\PlainL h a its.toArray/\Paired (HD h k) ds its
  |_=>False
def Den(K:PySem.W.Frag)(H:Hp):Nat->D->V->Prop
 |0,d,x=>match d with|.sc v=>zcg v=true/\x=v|_=>False
 |k+1,d,x=>match d with
  |.sc v=>zcg v=true/\x=v
  |.tup ds=>∃a xs,x=.ref a/\SqT K H a xs/\Paired (Den K H k) ds xs
  |.lst ds=>∃a xs,x=.ref a/\SqL K H a xs/\Paired (Den K H k) ds xs
  |_=>False
noncomputable def eqD:Nat->D->D->Bool
 |0,d,e=>match d,e with|.sc a,.sc b=>eqV a b|_,_=>false
 |k+1,d,e=>match d,e with
  |.sc a,.sc b=>eqV a b
  |.tup ds,.tup es=>zg9 (eqD k) ds es
  |.lst ds,.lst es=>zg9 (eqD k) ds es
  |_,_=>false
noncomputable def ltV:V->V->Bool
 |.int i,.int j=>decide (i<j)
 |.str x,.str y=>decide (x.cps.toList<y.cps.toList)
 |.bl a,.bl b=>decide (b2i a<b2i b)
 |_,_=>false
noncomputable def ltD:Nat->D->D->Bool
 |0,d,e=>match d,e with|.sc a,.sc b=>ltV a b|_,_=>false
 |k+1,d,e=>match d,e with
  |.sc a,.sc b=>ltV a b
  |.tup ds,.tup es=>lex (eqD k) (ltD k) ds es
  |.lst ds,.lst es=>lex (eqD k) (ltD k) ds es
  |_,_=>false
noncomputable def zun:V->V->Bool
 |.int _,.int _=>true
 |.str _,.str _=>true
 |.bl _,.bl _=>true
 |_,_=>false
def zm2:Nat->D->D->Prop
 |0,d,e=>match d,e with|.sc a,.sc b=>zun a b=true|_,_=>False
 |k+1,d,e=>match d,e with
  |.sc a,.sc b=>zun a b=true
  |.tup ds,.tup es=>∀p∈ds.zip es,zm2 k p.1 p.2
  |.lst ds,.lst es=>∀p∈ds.zip es,zm2 k p.1 p.2
  |_,_=>False
theorem Paired.imp2{α β γ:Type}{F:α->β->Prop}{G:γ->β->Prop}{R:γ->α->Prop}(f:∀a b c,F a b->R c a->G c b):∀{l₁:List α}{l₂:List β}{l₃:List γ},Paired F l₁ l₂->Paired R l₃ l₁->Paired G l₃ l₂
 |_,_,_,.nil,.nil=>.nil
 |_,_,_,.cons a b,.cons c d=>.cons (f _ _ _ a c) (Paired.imp2 f b d)
section
variable {X:Cx}{pins:List (Addr×Obj)}{σ:St}{H:Hp}{s:Shared}
theorem Inv.den(I:Inv X pins σ H s):∀{k:Nat}{x:V}{d:D}{u:Value},Den X.K H k d x->zbf x u->HD s.heap k d u:=by
 intro k
 induction k with
 |zero =>
  intro x d u h r
  cases d with
  |sc v=>obtain⟨f,e⟩:=h;subst e;exact⟨f,r⟩
  |_=>exact h.elim
 |succ k ih =>
  intro x d u h r
  cases d with
  |sc v=>obtain⟨f,e⟩:=h;subst e;exact⟨f,r⟩
  |tup ds =>
   obtain⟨a,xs,e,hq,p⟩:=h;subst e;cases r;obtain⟨its,rv,ht,_⟩:=I.tuple hq;exact⟨a,its,rfl,ht,Paired.imp2 (F:=zbf) (G:=HD s.heap k) (R:=Den X.K H k) (λx u d r q=>ih q r) rv p⟩
  |lst ds =>
   obtain⟨a,xs,e,hq,p⟩:=h;subst e;cases r;obtain⟨its,rv,ht,_⟩:=I.list hq;exact⟨a,its,rfl,ht,Paired.imp2 (F:=zbf) (G:=HD s.heap k) (R:=Den X.K H k) (λx u d r q=>ih q r) rv p⟩
  |_=>exact h.elim
end
theorem zm3:∀{v:V},zcg v=true->eqV v v=true
 |.non,_=>rfl
 |.bl b,_=>by simp[eqV]
 |.int i,_=>by simp[eqV]
 |.str x,_=>by simp[eqV]
theorem zdb{h:Heap}{a:Addr}{xs ys:Array Value}(h1:IsTup h a xs)(h2:PlainL h a ys):False:=by
 obtain⟨o,e,c,_⟩:=h1;obtain⟨o',e',c',_⟩:=h2.isList;rw[e]at e';cases e';rw[c]at c';injection c' with q;exact absurd q (by decide)
theorem zqu{h:Heap}{a:Addr}{xs ys:List Value}(h1:IsTup h a xs.toArray)(h2:IsTup h a ys.toArray):xs=ys:=by
 obtain⟨o,e,c,n,d⟩:=h1;obtain⟨o',e',c',n',d'⟩:=h2;rw[e]at e';cases e';rw[d]at d';injection d' with q _
 simpa using q
theorem zqv{h:Heap}{a:Addr}{xs ys:List Value}(h1:PlainL h a xs.toArray)(h2:PlainL h a ys.toArray):xs=ys:=by
 obtain⟨o,e,c,n,d⟩:=h1.isList;obtain⟨o',e',c',n',d'⟩:=h2.isList;rw[e]at e';cases e';rw[d]at d';injection d' with q _
 simpa using q
theorem zgb{h:Heap}{k:Nat}(ih:∀{d e:D}{u:Value},HD h k d u->HD h k e u->eqD k d e=true):∀{ds es:List D}{its:List Value},Paired (HD h k) ds its->Paired (HD h k) es its->zg9 (eqD k) ds es=true
 |_,_,_,.nil,.nil=>rfl
 |_,_,_,.cons a b,.cons c d=>by
  show (eqD k _ _ && zg9 (eqD k) _ _)=true;rw[ih a c,zgb ih b d];rfl
theorem zb2{v:V}{a:Addr}(f:zcg v=true)(r:zbf v (.ref a)):False:=by
 cases v with
 |non=>cases r
 |bl b=>cases r
 |int i=>obtain⟨t,q⟩:=r;cases q
 |str x=>obtain⟨t,q⟩:=r;cases q
 |_=>cases f
theorem zqw{h:Heap}:∀{k:Nat}{d e:D}{u:Value},HD h k d u->HD h k e u->eqD k d e=true:=by
 intro k
 induction k with
 |zero =>
  intro d e u h1 h2
  cases d with
  |sc v =>
   cases e with
   |sc w =>
    obtain⟨f,r⟩:=h1;obtain⟨f',r'⟩:=h2;have q:=r.inj r';subst q;exact zm3 f
   |_=>exact h2.elim
  |_=>exact h1.elim
 |succ k ih =>
  intro d e u h1 h2
  cases d with
  |sc v =>
   obtain⟨f,r⟩:=h1
   cases e with
   |sc w =>
    obtain⟨f',r'⟩:=h2;have q:=r.inj r';subst q;exact zm3 f
   |tup es=>obtain⟨a,its,q,_⟩:=h2;subst q;exact(zb2 f r).elim
   |lst es=>obtain⟨a,its,q,_⟩:=h2;subst q;exact(zb2 f r).elim
   |_=>exact h2.elim
  |tup ds =>
   obtain⟨a,its,q,t1,p1⟩:=h1;subst q
   cases e with
   |sc w=>obtain⟨f,r⟩:=h2;exact(zb2 f r).elim
   |tup es =>
    obtain⟨a',its',q,t2,p2⟩:=h2;cases q;have q:=zqu t1 t2;subst q;exact zgb ih p1 p2
   |lst es=>obtain⟨a',its',q,t2,p2⟩:=h2;cases q;exact(zdb t1 t2).elim
   |_=>exact h2.elim
  |lst ds =>
   obtain⟨a,its,q,t1,p1⟩:=h1;subst q
   cases e with
   |sc w=>obtain⟨f,r⟩:=h2;exact(zb2 f r).elim
   |lst es =>
    obtain⟨a',its',q,t2,p2⟩:=h2;cases q;have q:=zqv t1 t2;subst q;exact zgb ih p1 p2
   |tup es=>obtain⟨a',its',q,t2,p2⟩:=h2;cases q;exact(zdb t2 t1).elim
   |_=>exact h2.elim
  |_=>exact h1.elim
noncomputable def eAt{α β:Type}(f:α->β->Bool)(ds:List α)(es:List β)(j:Nat):Bool:=match ds[j]?,es[j]? with
 |some a,some b=>f a b
 |_,_=>false
theorem zh5{α β:Type}(f:α->β->Bool)(a:α)(b:β)(ds:List α)(es:List β)(j:Nat):eAt f (a::ds) (b::es) (j+1)=eAt f ds es j:=by
 unfold eAt;simp
theorem zci{α β:Type}(f:α->β->Bool):∀(ds:List α) (es:List β),ds.length=es.length->(List.range ds.length).all (eAt f ds es)=zg9 f ds es
 |[],[],_=>rfl
 |a::as,b::bs,h=>by
  have h':as.length=bs.length:=by simpa using h
  rw[pb,vo,ng,List.all_map]
  have e:(eAt f (a::as) (b::bs) ∘ Nat.succ)=eAt f as bs:=by
   funext j;exact zh5 f a b as bs j
  rw[e,zci f as bs h'];rfl
 |[],_::_,h=>by simp at h
 |_::_,[],h=>by simp at h
theorem zdc{α β:Type}(f:α->β->Bool):∀{ds:List α}{es:List β},ds.length≠es.length->zg9 f ds es=false
 |[],[],h=>absurd rfl h
 |a::as,b::bs,h=>by
  show (f a b && zg9 f as bs)=false;rw[zdc f (by simpa using h),Bool.and_false]
 |[],_::_,_=>rfl
 |_::_,[],_=>rfl
theorem zax{α β:Type}{F:α->β->Prop}:∀{l₁:List α}{l₂:List β}{j:Nat}{b:β},Paired F l₁ l₂->l₂[j]?=some b->∃a,l₁[j]?=some a/\F a b
 |_,_,_,_,.nil,e=>by simp at e
 |_,_,0,_,.cons r _,e=>by simp at e;subst e;exact⟨_,rfl,r⟩
 |_,_,j+1,_,.cons _ t,e=>by
  obtain⟨a,h1,h2⟩:=zax (j:=j) t (by simpa using e);exact⟨a,by simpa using h1,h2⟩
section
variable {A:Around}{s:Shared}
theorem zch{k:Nat}(ih:∀{A:Around}{d e:D}{u v:Value},HD s.heap k d u->HD s.heap k e v->A.units+k<cLine->SeqAt.EqAt A s u v (eqD k d e)){ds es:List D}{its its':List Value}(p:Paired (HD s.heap k) ds its)(p':Paired (HD s.heap k) es its')(hu:A.units+(k+1)<cLine)
  (j:Nat) (h1:j<its.toArray.size) (h2:j<its'.toArray.size):SeqAt.EqAt A.in1 s its.toArray[j] its'.toArray[j] (eAt (eqD k) ds es j):=by
 have e1:its[j]?=some its.toArray[j]:=by simp at h1;simp[h1]
 have e2:its'[j]?=some its'.toArray[j]:=by simp at h2;simp[h2]
 obtain⟨d,q1,r1⟩:=zax p e1;obtain⟨e,q2,r2⟩:=zax p' e2;have z:eAt (eqD k) ds es j=eqD k d e:=by unfold eAt;rw[q1,q2]
 rw[z];exact ih r1 r2 (by show A.units+1+k<cLine;omega)
theorem zh6{s:Shared}:∀{k:Nat}{A:Around}{d e:D}{u v:Value},HD s.heap k d u->HD s.heap k e v->A.units+k<cLine->SeqAt.EqAt A s u v (eqD k d e):=by
 intro k
 induction k with
 |zero =>
  intro A d e u v h1 h2 hu
  cases d with
  |sc a =>
   cases e with
   |sc b=>exact zw4 h1.2 h2.2 h1.1 h2.1
   |_=>exact h2.elim
  |_=>exact h1.elim
 |succ k ih =>
  intro A d e u v h1 h2 hu;have hu':A.units<cLine:=by omega
  cases d with
  |sc a =>
   cases e with
   |sc b=>exact zw4 h1.2 h2.2 h1.1 h2.1
   |tup es =>
    obtain⟨q,its,rfl,t,_⟩:=h2;obtain⟨f,r⟩:=h1;show SeqAt.EqAt A s u (.ref q) false
    cases a with
    |non=>cases r;exact SeqAt.EqAt.none_tuple t hu'
    |bl b=>cases r;exact SeqAt.EqAt.bool_tuple b t hu'
    |int i=>obtain⟨z,rfl⟩:=r;exact SeqAt.EqAt.int_tuple i z t hu'
    |str x=>obtain⟨z,rfl⟩:=r;exact SeqAt.EqAt.str_tuple x z t hu'
    |_=>cases f
   |lst es =>
    obtain⟨q,its,rfl,t,_⟩:=h2;obtain⟨f,r⟩:=h1;show SeqAt.EqAt A s u (.ref q) false
    cases a with
    |non=>cases r;exact SeqAt.EqAt.none_list t.isList hu'
    |bl b=>cases r;exact SeqAt.EqAt.bool_list b t.isList hu'
    |int i=>obtain⟨z,rfl⟩:=r;exact SeqAt.EqAt.int_list i z t.isList hu'
    |str x=>obtain⟨z,rfl⟩:=r;exact SeqAt.EqAt.str_list x z t.isList hu'
    |_=>cases f
   |_=>exact h2.elim
  |tup ds =>
   cases e with
   |sc b =>
    obtain⟨q,its,rfl,t,_⟩:=h1;obtain⟨f,r⟩:=h2;show SeqAt.EqAt A s (.ref q) v false
    cases b with
    |non=>cases r;exact SeqAt.EqAt.tuple_none t hu'
    |bl b=>cases r;exact SeqAt.EqAt.tuple_bool b t hu'
    |int i=>obtain⟨z,rfl⟩:=r;exact SeqAt.EqAt.tuple_int i z t hu'
    |str x=>obtain⟨z,rfl⟩:=r;exact SeqAt.EqAt.tuple_str x z t hu'
    |_=>cases f
   |lst es =>
    obtain⟨q,its,rfl,t,_⟩:=h1;obtain⟨q',its',rfl,t',_⟩:=h2;exact SeqAt.EqAt.tuple_list t t'.isList hu'
   |tup es =>
    obtain⟨q,its,rfl,t,p⟩:=id h1;obtain⟨q',its',rfl,t',p'⟩:=id h2;by_cases hq:q=q'
    ·subst hq
     rw[zqw h1 h2];exact tp _
    ·refine SeqAt.EqAt.of_refs hq ?_
     have z:=SeqAt.RcAt.tuples (e:=eAt (eqD k) ds es) t t' hu' λj h1 h2=>zch ih p p' hu j h1 h2
     have l1:=p.length;have l2:=p'.length
     have w:eqD (k+1) (.tup ds) (.tup es)=((List.range (min its.toArray.size its'.toArray.size)).all (eAt (eqD k) ds es) && its.toArray.size == its'.toArray.size):=by
      show zg9 (eqD k) ds es=_;simp only[xa];rw[<-l1,<-l2];by_cases hl:ds.length=es.length
      ·rw[<-zci _ _ _ hl,hl,gu]
       simp
      ·rw[zdc _ hl]
       simp[hl]
     rw[w];exact z
   |_=>exact h2.elim
  |lst ds =>
   cases e with
   |sc b =>
    obtain⟨q,its,rfl,t,_⟩:=h1;obtain⟨f,r⟩:=h2;show SeqAt.EqAt A s (.ref q) v false
    cases b with
    |non=>cases r;exact SeqAt.EqAt.list_none t.isList hu'
    |bl b=>cases r;exact SeqAt.EqAt.list_bool b t.isList hu'
    |int i=>obtain⟨z,rfl⟩:=r;exact SeqAt.EqAt.list_int i z t.isList hu'
    |str x=>obtain⟨z,rfl⟩:=r;exact SeqAt.EqAt.list_str x z t.isList hu'
    |_=>cases f
   |tup es =>
    obtain⟨q,its,rfl,t,_⟩:=h1;obtain⟨q',its',rfl,t',_⟩:=h2;exact SeqAt.EqAt.list_tuple t.isList t' hu'
   |lst es =>
    obtain⟨q,its,rfl,t,p⟩:=id h1;obtain⟨q',its',rfl,t',p'⟩:=id h2;by_cases hq:q=q'
    ·subst hq
     rw[zqw h1 h2];exact tp _
    ·refine SeqAt.EqAt.of_refs hq ?_
     have l1:=p.length;have l2:=p'.length;by_cases hl:ds.length=es.length
     ·have z:=SeqAt.RcAt.lists (e:=eAt (eqD k) ds es) t.isList t'.isList (by simp only[xa];omega) hu' λj h1 h2=>zch ih p p' hu j h1 h2
      have w:eqD (k+1) (.lst ds) (.lst es)=((List.range its.toArray.size).all (eAt (eqD k) ds es)):=by
       show zg9 (eqD k) ds es=_;simp only[xa];rw[<-l1,<-zci _ _ _ hl]
      rw[w];exact z
     ·have w:eqD (k+1) (.lst ds) (.lst es)=false:=zdc _ hl
      rw[w];exact SeqAt.RcAt.lists_lengths t.isList t'.isList (by simp only[xa];simp;omega) hu'
   |_=>exact h2.elim
  |_=>exact h1.elim
end
end L2
namespace L2
open PySem PyProof.Rows
def zzp(A:Around)(s:Shared)(y x:Value)(b:Bool):Prop :=
 ∀(prog:Program) (w:World) (E:Value->Shared->Prop) (Q:Value->Shared->Prop),Q (.bool b) s->wpAny (model prog w) A (richCompare .Lt y x) Q E s
noncomputable def zjr(e c:Nat->Bool)(n m:Nat):Nat->Nat->Bool
 |0,_=>decide (n<m)
 |k+1,i=>if i<m then (if e i=true then zjr e c n m k (i+1) else c i) else decide (n<m)
section
open PySem.SeqAt
open PySem.AutoSeq1 (wpAny_loadPart')
open PySem.MeetsSeq PySem.MeetsSeq2 PySem.MeetsSeq3
theorem zqx(l b:Addr)(items items2:Array Value)(n n2:Nat)(dd dd2:Option Addr)(sl sl2:Array (Option Value))(hsz:items.size=items2.size)(e:Nat->Bool)(k:Nat) :
  ∀i:Nat,items.size - i=k->Meets (Builtin.«list.__eq__.loop» ⟨[.ref l,.ref b,rawInt i,rawInt 3],[]⟩)
   (λ A R s=>s.heap.get? l=some { cls:=.type "list",dict:=dd,data:=.seq items n,slots:=sl }/\s.heap.get? b=some { cls:=.type "list",dict:=dd2,data:=.seq items2 n2,slots:=sl2 } ∧
    (∀j (h1:j<items.size) (h2:j<items2.size),EqAt A.in1 s items[j] items2[j] (e j)) ∧
    R (.ok (.ret (.bool (!((List.range items.size).drop i).all e)))) s):=by
 induction k with
 |zero =>
  intro i hk prog w A R s h;obtain⟨hp,g,d,tk,os⟩:=s;obtain⟨hl,hb,he,h⟩:=h
  wp_walk using ic hl,ic hb
  have hi1:items[((i:Nat):Int).toNat]?=none:=by simp;omega
  have hi2:items2[((i:Nat):Int).toNat]?=none:=by simp;omega
  have hd:(List.range items.size).drop i=[]:=by simp;omega
  rw[hd]at h;rw[hi1,hi2]
  wp_walk using ic hl,ic hb
  show R (.ok (.ret (.bool (items.size != items2.size)))) _;rw[hsz]
  simpa using h
 |succ k ih =>
  intro i hk prog w A R s h;obtain⟨hp,g,d,tk,os⟩:=s;obtain⟨hl,hb,he,h⟩:=h
  wp_walk using ic hl,ic hb
  have hlt:i<items.size:=by omega
  have hlt2:i<items2.size:=by omega
  have hi1:items[((i:Nat):Int).toNat]?=some items[i]:=by simp[hlt]
  have hi2:items2[((i:Nat):Int).toNat]?=some items2[i]:=by simp[hlt2]
  have hd:(List.range items.size).drop i=i::(List.range items.size).drop (i+1):=by simp[yc,hlt]
  have hc:((i:Int)+1)=((i+1:Nat):Int):=by push_cast;rfl
  rw[hd,ng]at h;rw[hi1,hi2];refine aa (he i hlt hlt2 prog w _ _ ?_)
  cases hb':e i with
  |true =>
   rw[hb']at h
   wp_walk
   rw[hc]
   exact⟨plainId_quiet plain_eq_loop _,codeAny_builtin entry_eq_loop (by
    rw[tj plain_eq_loop _];exact ih (i+1) (by omega) prog w A R _ ⟨hl,hb,he,by simpa using h⟩)⟩
  |false =>
   rw[hb']at h
   wp_walk using ic hl,ic hb
   rw[hi1,hi2]
   wp_walk
   simpa using h
theorem zqy(l b:Addr)(items items2:Array Value)(n n2:Nat)(dd dd2:Option Addr)(sl sl2:Array (Option Value))(hsz:items.size=items2.size)(e:Nat->Bool) :
  Meets (Builtin.«list.__ne__» ⟨[.ref l,.ref b],[]⟩)
   (λ A R s=>s.heap.get? l=some { cls:=.type "list",dict:=dd,data:=.seq items n,slots:=sl }/\s.heap.get? b=some { cls:=.type "list",dict:=dd2,data:=.seq items2 n2,slots:=sl2 } ∧
    (∀j (h1:j<items.size) (h2:j<items2.size),EqAt A.in1 s items[j] items2[j] (e j)) ∧
    R (.ok (.ret (.bool (!(List.range items.size).all e)))) s):=by
 intro prog w A R s h;obtain⟨hp,g,d,tk,os⟩:=s;obtain⟨hl,hb,he,h⟩:=h;have f3:=ik;have hne:¬(items.size != items2.size)=true:=by simp[hsz]
 wp_walk using ic hl,ic hb
 exact⟨plainId_quiet plain_eq_loop _,codeAny_builtin entry_eq_loop (by
  rw[tj plain_eq_loop _];exact zqx l b items items2 n n2 dd dd2 sl sl2 hsz e _ 0 rfl prog w A R _ ⟨hl,hb,he,by simpa using h⟩)⟩
theorem ze4(l b:Addr)(items items2:Array Value)(n n2:Nat)(dd dd2:Option Addr)(sl sl2:Array (Option Value))(hc0:(items.size != items2.size)=true) :
  Meets (Builtin.«list.__ne__» ⟨[.ref l,.ref b],[]⟩)
   (λ _ R s=>s.heap.get? l=some { cls:=.type "list",dict:=dd,data:=.seq items n,slots:=sl }/\s.heap.get? b=some { cls:=.type "list",dict:=dd2,data:=.seq items2 n2,slots:=sl2 } ∧
    R (.ok (.ret (.bool true))) s) :=
 .of_wp λprog w A R s h=>by
  obtain⟨hp,g,d,tk,os⟩:=s;obtain⟨hl,hb,h⟩:=h;have f3:=ik
  wp_walk using ic hl,ic hb
  exact⟨_,rfl,h⟩
theorem zqz(l b:Addr)(items items2:Array Value)(n n2:Nat)(dd dd2:Option Addr)(sl sl2:Array (Option Value))(e c:Nat->Bool)(k:Nat) :
  ∀i:Nat,items.size - i=k->Meets (Builtin.«list.__eq__.loop» ⟨[.ref l,.ref b,rawInt i,rawInt 0],[]⟩)
   (λ A R s=>s.heap.get? l=some { cls:=.type "list",dict:=dd,data:=.seq items n,slots:=sl }/\s.heap.get? b=some { cls:=.type "list",dict:=dd2,data:=.seq items2 n2,slots:=sl2 } ∧
    (∀j (h1:j<items.size) (h2:j<items2.size),EqAt A.in1 s items[j] items2[j] (e j)/\(e j=false->zzp A.in1 s items[j] items2[j] (c j))) ∧
    R (.ok (.ret (.bool (zjr e c items.size items2.size k i)))) s):=by
 induction k with
 |zero =>
  intro i hk prog w A R s h;obtain⟨hp,g,d,tk,os⟩:=s;obtain⟨hl,hb,he,h⟩:=h
  wp_walk using ic hl,ic hb
  have hi1:items[((i:Nat):Int).toNat]?=none:=by simp;omega
  rw[hi1]
  wp_walk using ic hl,ic hb
  show R (.ok (.ret (.bool (decide (items.size<items2.size))))) _
  simpa [zjr] using h
 |succ k ih =>
  intro i hk prog w A R s h;obtain⟨hp,g,d,tk,os⟩:=s;obtain⟨hl,hb,he,h⟩:=h
  wp_walk using ic hl,ic hb
  have hlt:i<items.size:=by omega
  have hi1:items[((i:Nat):Int).toNat]?=some items[i]:=by simp[hlt]
  have hc:((i:Int)+1)=((i+1:Nat):Int):=by push_cast;rfl
  rw[hi1];by_cases hlt2:i<items2.size
  ·have hi2:items2[((i:Nat):Int).toNat]?=some items2[i]:=by simp[hlt2]
   rw[hi2];have h:R (.ok (.ret (.bool (if i<items2.size then (if e i=true then zjr e c items.size items2.size k (i+1) else c i) else decide (items.size<items2.size))))) ⟨hp,g,d,tk,os⟩:=h;rw[ba hlt2]at h;obtain⟨h1,h2⟩:=he i hlt hlt2;refine aa (h1 prog w _ _ ?_)
   cases hb':e i with
   |true =>
    rw[hb',ba rfl]at h
    wp_walk
    rw[hc]
    exact⟨plainId_quiet plain_eq_loop _,codeAny_builtin entry_eq_loop (by
     rw[tj plain_eq_loop _];exact ih (i+1) (by omega) prog w A R _ ⟨hl,hb,he,h⟩)⟩
   |false =>
    rw[hb',oa la]at h;have hri:=h2 hb' prog w
    wp_walk using ic hl,ic hb
    rw[hi1,hi2]
    wp_walk using hri
    exact h
  ·have hi2:items2[((i:Nat):Int).toNat]?=none:=by simp;omega
   rw[hi2];have h:R (.ok (.ret (.bool (if i<items2.size then (if e i=true then zjr e c items.size items2.size k (i+1) else c i) else decide (items.size<items2.size))))) ⟨hp,g,d,tk,os⟩:=h;rw[oa hlt2]at h
   wp_walk using ic hl,ic hb
   exact h
theorem zjs(l b:Addr)(items items2:Array Value)(n n2:Nat)(dd dd2:Option Addr)(sl sl2:Array (Option Value))(e c:Nat->Bool) :
  Meets (Builtin.«list.__lt__» ⟨[.ref l,.ref b],[]⟩)
   (λ A R s=>s.heap.get? l=some { cls:=.type "list",dict:=dd,data:=.seq items n,slots:=sl }/\s.heap.get? b=some { cls:=.type "list",dict:=dd2,data:=.seq items2 n2,slots:=sl2 } ∧
    (∀j (h1:j<items.size) (h2:j<items2.size),EqAt A.in1 s items[j] items2[j] (e j)/\(e j=false->zzp A.in1 s items[j] items2[j] (c j))) ∧
    R (.ok (.ret (.bool (zjr e c items.size items2.size items.size 0)))) s):=by
 intro prog w A R s h;obtain⟨hp,g,d,tk,os⟩:=s;obtain⟨hl,hb,he,h⟩:=h;have f3:=ik
 wp_walk using ic hl,ic hb
 exact⟨plainId_quiet plain_eq_loop _,codeAny_builtin entry_eq_loop (by
  rw[tj plain_eq_loop _];exact zqz l b items items2 n n2 dd dd2 sl sl2 e c _ 0 rfl prog w A R _ ⟨hl,hb,he,h⟩)⟩
theorem zo1(l b:Addr)(items items2:Array Value)(n n2:Nat)(dd dd2:Option Addr)(sl sl2:Array (Option Value))(e:Nat->Bool) :
  Meets (Builtin.«tuple.__ne__» ⟨[.ref l,.ref b],[]⟩)
   (λ A R s=>s.heap.get? l=some { cls:=.type "tuple",dict:=dd,data:=.seq items n,slots:=sl }/\s.heap.get? b=some { cls:=.type "tuple",dict:=dd2,data:=.seq items2 n2,slots:=sl2 } ∧
    (∀j (h1:j<items.size) (h2:j<items2.size),EqAt A.in1 s items[j] items2[j] (e j)) ∧
    R (.ok (.ret (.bool (!((List.range (min items.size items2.size)).all e && items.size == items2.size))))) s) :=
 .of_wp λprog w A R s h=>by
  obtain⟨hp,g,d,tk,os⟩:=s;obtain⟨hl,hb,he,h⟩:=h;have f2:=AutoSeq1.sub_tuple_tuple;have hZ:(items.toList.zip items2.toList).length=min items.size items2.size:=by simp
  wp_walk using wpAny_loadPart' hl,wpAny_loadPart' hb,wpAny_forIn_list _ (λ rest b s'=>b.1=none/\s'=⟨hp,g,d,tk,os⟩/\∃ i,rest=(items.toList.zip items2.toList).drop i ∧
   R (.ok (.ret (.bool (!(((List.range (min items.size items2.size)).drop i).all e && items.size == items2.size))))) ⟨hp,g,d,tk,os⟩) _
  case turn =>
   rintro⟨y,x⟩ rest b s' ⟨hb',rfl,i,hz,hR⟩
   have hlt:i<(items.toList.zip items2.toList).length:=by
    rcases jm i (items.toList.zip items2.toList).length with h'|h'
    ·exact h'
    ·rw[lh h']at hz;cases hz
   have hm:i<min items.size items2.size:=hZ ▸ hlt;have h1:i<items.size:=dc hm (Nat.min_le_left _ _);have h2:i<items2.size:=dc hm (wn _ _);rw[yc hlt]at hz;injection hz with hyx hrest;have hy:y=items[i]:=by have:=zc Prod.fst hyx;simpa using this
   have hx:x=items2[i]:=by have:=zc Prod.snd hyx;simpa using this
   subst hy hx;have hd:(List.range (min items.size items2.size)).drop i=i::(List.range (min items.size items2.size)).drop (i+1):=by simp[yc,hm]
   rw[hd,ng]at hR;refine aa (he i h1 h2 prog w _ _ ?_)
   cases hy:e i with
   |true =>
    rw[hy]at hR
    wp_walk
    exact⟨rfl,rfl,i+1,hrest,by simpa using hR⟩
   |false =>
    rw[hy]at hR
    wp_walk
    exact⟨_,rfl,by simpa using hR⟩
  case fin =>
   rintro⟨b1,b2⟩ s' ⟨hb',rfl,i,hz,hR⟩;simp only at hb';subst hb'
   have hge:min items.size items2.size<=i:=by
    rcases jm i (items.toList.zip items2.toList).length with h'|h'
    ·rw[yc h']at hz;cases hz
    ·exact hZ ▸ h'
   rw[lh (by simpa using hge)]at hR
   wp_walk
   exact⟨_,rfl,by simpa [Builtin.Tuple.tupleCompareSizes,bne] using hR⟩
  case h =>
   exact⟨rfl,rfl,0,rfl,by simpa using h⟩
theorem zo2(l b:Addr)(items items2:Array Value)(n n2:Nat)(dd dd2:Option Addr)(sl sl2:Array (Option Value))(e c:Nat->Bool) :
  Meets (Builtin.«tuple.__lt__» ⟨[.ref l,.ref b],[]⟩)
   (λ A R s=>s.heap.get? l=some { cls:=.type "tuple",dict:=dd,data:=.seq items n,slots:=sl }/\s.heap.get? b=some { cls:=.type "tuple",dict:=dd2,data:=.seq items2 n2,slots:=sl2 } ∧
    (∀j (h1:j<items.size) (h2:j<items2.size),EqAt A.in1 s items[j] items2[j] (e j)/\(e j=false->zzp A.in1 s items[j] items2[j] (c j))) ∧
    R (.ok (.ret (.bool (zjr e c items.size items2.size items.size 0)))) s) :=
 .of_wp λprog w A R s h=>by
  obtain⟨hp,g,d,tk,os⟩:=s;obtain⟨hl,hb,he,h⟩:=h;have f2:=AutoSeq1.sub_tuple_tuple;have hZ:(items.toList.zip items2.toList).length=min items.size items2.size:=by simp
  wp_walk using wpAny_loadPart' hl,wpAny_loadPart' hb,wpAny_forIn_list _ (λ rest b s'=>b.1=none/\s'=⟨hp,g,d,tk,os⟩/\∃ i,i<=items.size/\rest=(items.toList.zip items2.toList).drop i ∧
   R (.ok (.ret (.bool (zjr e c items.size items2.size (items.size - i) i)))) ⟨hp,g,d,tk,os⟩) _
  case turn =>
   rintro⟨y,x⟩ rest b s' ⟨hb',rfl,i,hi,hz,hR⟩
   have hlt:i<(items.toList.zip items2.toList).length:=by
    rcases jm i (items.toList.zip items2.toList).length with h'|h'
    ·exact h'
    ·rw[lh h']at hz;cases hz
   have hm:i<min items.size items2.size:=hZ ▸ hlt;have h1:i<items.size:=dc hm (Nat.min_le_left _ _);have h2:i<items2.size:=dc hm (wn _ _);rw[yc hlt]at hz;injection hz with hyx hrest;have hy:y=items[i]:=by have:=zc Prod.fst hyx;simpa using this
   have hx:x=items2[i]:=by have:=zc Prod.snd hyx;simpa using this
   subst hy hx;have hk:items.size - i=(items.size - (i+1))+1:=by omega
   have hd:zjr e c items.size items2.size (items.size - i) i=(if e i=true then zjr e c items.size items2.size (items.size - (i+1)) (i+1) else c i):=by
    rw[hk];show (if i<items2.size then _ else _)=_;rw[ba h2]
   rw[hd]at hR;obtain⟨q1,q2⟩:=he i h1 h2;refine aa (q1 prog w _ _ ?_)
   cases hy:e i with
   |true =>
    rw[hy,ba rfl]at hR
    wp_walk
    exact⟨rfl,rfl,i+1,h1,hrest,hR⟩
   |false =>
    rw[hy,oa la]at hR;have hri:=q2 hy prog w
    wp_walk using hri
    exact⟨_,rfl,by simpa using hR⟩
  case fin =>
   rintro⟨b1,b2⟩ s' ⟨hb',rfl,i,hi,hz,hR⟩;simp only at hb';subst hb'
   have hge:min items.size items2.size<=i:=by
    rcases jm i (items.toList.zip items2.toList).length with h'|h'
    ·rw[yc h']at hz;cases hz
    ·exact hZ ▸ h'
   have hd:zjr e c items.size items2.size (items.size - i) i=decide (items.size<items2.size):=by
    cases hk:items.size - i with
    |zero=>rfl
    |succ k =>
     show (if i<items2.size then _ else _)=_;rw[oa (by omega)]
   rw[hd]at hR
   wp_walk
   exact⟨_,rfl,by simpa [Builtin.Tuple.tupleCompareSizes] using hR⟩
  case h =>
   exact⟨rfl,rfl,0,vd _,rfl,by simpa using h⟩
end
end L2
namespace L2
open PySem PySem.Spec PyProof.Rows
theorem zm4{α β:Type}(f g:α->β->Bool):∀(ds:List α) (es:List β) (e c:Nat->Bool) (n m i:Nat),n=i+ds.length->m=i+es.length->(∀j,e (i+j)=eAt f ds es j)->(∀j,c (i+j)=eAt g ds es j)->zjr e c n m ds.length i=lex f g ds es
 |[],[],e,c,n,m,i,hn,hm,_,_=>by
  show decide (n<m)=false;exact md (by simp at hn hm;omega)
 |[],b::bs,e,c,n,m,i,hn,hm,_,_=>by
  show decide (n<m)=true;exact ub (by simp at hn hm;omega)
 |a::as,[],e,c,n,m,i,hn,hm,_,_=>by
  show (if i<m then _ else decide (n<m))=false;rw[oa (by simp at hm;omega)];exact md (by simp at hn hm;omega)
 |a::as,b::bs,e,c,n,m,i,hn,hm,he,hc=>by
  show (if i<m then (if e i=true then zjr e c n m as.length (i+1) else c i) else decide (n<m))=_;rw[ba (by simp at hm;omega)];have e0:e i=f a b:=by have:=he 0;simpa [eAt] using this
  have c0:c i=g a b:=by have:=hc 0;simpa [eAt] using this
  show _=if f a b=true then lex f g as bs else g a b
  rw[e0,c0];by_cases h:f a b=true
  ·rw[ba h,ba h]
   refine zm4 f g as bs e c n m (i+1) (by simp at hn;omega) (by simp at hm;omega) (λj=>?_) (λj=>?_)
   ·have:=he (j+1);rw[zh5]at this;rw[<-this];congr 1;omega
   ·have:=hc (j+1);rw[zh5]at this;rw[<-this];congr 1;omega
  ·rw[oa h,oa h]
theorem zgc{α β:Type}(f g:α->β->Bool)(ds:List α)(es:List β):zjr (eAt f ds es) (eAt g ds es) ds.length es.length ds.length 0=lex f g ds es :=
 zm4 f g ds es _ _ _ _ 0 (by simp) (by simp) (λj=>by rw[de]) (λj=>by rw[de])
section
variable {A:Around}{s:Shared}
theorem zw8{a b:V}{u v:Value}(ra:zbf a u)(rb:zbf b v)(h:zun a b=true):zzp A s u v (ltV a b):=by
 cases a with
 |int i =>
  cases b with
  |int j =>
   obtain⟨t,rfl⟩:=ra;obtain⟨t',rfl⟩:=rb;exact λprog w E Q q=>(lt_int q:wpAny (model prog w) A (compareOp .Lt (.int i t) (.int j t')) Q E s)
  |_=>cases h
 |str x =>
  cases b with
  |str y =>
   obtain⟨t,rfl⟩:=ra;obtain⟨t',rfl⟩:=rb;exact λprog w E Q q=>(lt_str q:wpAny (model prog w) A (compareOp .Lt (.str x t) (.str y t')) Q E s)
  |_=>cases h
 |bl x =>
  cases b with
  |bl y =>
   cases ra;cases rb
   exact λprog w E Q q=>(lt_bool q:wpAny (model prog w) A (compareOp .Lt (.bool x) (.bool y)) Q E s)
  |_=>cases h
 |_=>cases b <;> cases h
noncomputable def zfu:D->D->Bool
 |.tup _,.tup _=>true
 |.lst _,.lst _=>true
 |_,_=>false
theorem zlm{α β:Type}:∀{ds:List α}{es:List β}{j:Nat}{a:α}{b:β},ds[j]?=some a->es[j]?=some b->(a,b)∈ds.zip es
 |[],_,_,_,_,h,_=>by simp at h
 |_::_,[],_,_,_,_,h=>by simp at h
 |d::ds,e::es,0,a,b,h1,h2=>by simp at h1 h2;subst h1 h2;simp
 |d::ds,e::es,j+1,a,b,h1,h2=>by
  have:=zlm (ds:=ds) (es:=es) (j:=j) (a:=a) (b:=b) (by simpa using h1) (by simpa using h2)
  simp[this]
theorem zzq{s:Shared}:∀{k:Nat}{A:Around}{d e:D}{u v:Value},HD s.heap k d u->HD s.heap k e v->zm2 k d e->A.units+k<cLine->zzp A s u v (ltD k d e):=by
 intro k
 induction k with
 |zero =>
  intro A d e u v h1 h2 h hu
  cases d with
  |sc a =>
   cases e with
   |sc b=>exact zw8 h1.2 h2.2 h
   |_=>exact h2.elim
  |_=>exact h1.elim
 |succ k ih =>
  intro A d e u v h1 h2 h hu;have hu':A.units<cLine:=by omega
  have items:∀{ds es:List D} {its its':List Value},Paired (HD s.heap k) ds its->Paired (HD s.heap k) es its'->(∀p∈ds.zip es,zm2 k p.1 p.2) →
    ∀j (h1:j<its.toArray.size) (h2:j<its'.toArray.size),SeqAt.EqAt A.in1 s its.toArray[j] its'.toArray[j] (eAt (eqD k) ds es j)/\(eAt (eqD k) ds es j=false->zzp A.in1 s its.toArray[j] its'.toArray[j] (eAt (ltD k) ds es j)):=by
   intro ds es its its' p p' ho j j1 j2;have e1:its[j]?=some its.toArray[j]:=by simp at j1;simp[j1]
   have e2:its'[j]?=some its'.toArray[j]:=by simp at j2;simp[j2]
   obtain⟨d,q1,r1⟩:=zax p e1;obtain⟨e,q2,r2⟩:=zax p' e2;have z:eAt (eqD k) ds es j=eqD k d e:=by unfold eAt;rw[q1,q2]
   have z':eAt (ltD k) ds es j=ltD k d e:=by unfold eAt;rw[q1,q2]
   rw[z,z'];exact⟨zh6 r1 r2 (by show A.units+1+k<cLine;omega),λ_=>ih r1 r2 (ho (d,e) (zlm q1 q2)) (by show A.units+1+k<cLine;omega)⟩
  cases d with
  |sc a =>
   cases e with
   |sc b=>exact zw8 h1.2 h2.2 h
   |_=>exact h.elim
  |tup ds =>
   cases e with
   |tup es =>
    obtain⟨q,its,rfl,t,p⟩:=id h1;obtain⟨q',its',rfl,t',p'⟩:=id h2;have l1:=p.length;have l2:=p'.length;have key:=items p p' h;obtain⟨⟨cls,dd,data,sl⟩,ho,hc,n,hd⟩:=id t;obtain⟨⟨cls2,dd2,data2,sl2⟩,ho2,hc2,n2,hd2⟩:=id t';simp only at hc hd hc2 hd2;subst hc hd hc2 hd2;intro prog w E Q hq
    have hq':Q (.bool (zjr (eAt (eqD k) ds es) (eAt (ltD k) ds es) its.toArray.size its'.toArray.size its.toArray.size 0)) s:=by
     simp only[xa];rw[<-l1,<-l2,zgc];exact hq
    exact mh (op:=.Lt) ⟨_,ho,rfl⟩ ⟨_,ho2,rfl⟩ PySem.F.slot_tuple_lt PySem.F.entry_tuple_lt (PySem.F.args_tuple_lt_2 _ _) (zo2 q q' its.toArray its'.toArray n n2 dd dd2 sl sl2 _ _)
     ⟨ho,ho2,key,⟨(λx=>nomatch x),hq'⟩⟩ hu'
   |_=>exact h.elim
  |lst ds =>
   cases e with
   |lst es =>
    obtain⟨q,its,rfl,t,p⟩:=id h1;obtain⟨q',its',rfl,t',p'⟩:=id h2;have l1:=p.length;have l2:=p'.length;have key:=items p p' h;obtain⟨⟨cls,dd,data,sl⟩,ho,hc,n,hd⟩:=t.isList;obtain⟨⟨cls2,dd2,data2,sl2⟩,ho2,hc2,n2,hd2⟩:=t'.isList;simp only at hc hd hc2 hd2;subst hc hd hc2 hd2;intro prog w E Q hq
    have hq':Q (.bool (zjr (eAt (eqD k) ds es) (eAt (ltD k) ds es) its.toArray.size its'.toArray.size its.toArray.size 0)) s:=by
     simp only[xa];rw[<-l1,<-l2,zgc];exact hq
    exact mh (op:=.Lt) ⟨_,ho,rfl⟩ ⟨_,ho2,rfl⟩ PySem.F.slot_list_lt PySem.F.entry_list_lt (PySem.F.args_list_lt_2 _ _) (zjs q q' its.toArray its'.toArray n n2 dd dd2 sl sl2 _ _)
     ⟨ho,ho2,key,⟨(λx=>nomatch x),hq'⟩⟩ hu'
   |_=>exact h.elim
  |_=>exact h1.elim
theorem zzr{k:Nat}{d e:D}{u v:Value}(h1:HD s.heap (k+1) d u)(h2:HD s.heap (k+1) e v)(hk:zfu d e=true)(hu:A.units+(k+1)<cLine):SeqAt.RcAt A s u v (eqD (k+1) d e):=by
 have hu':A.units<cLine:=by omega
 cases d with
 |sc a=>cases e <;> cases hk
 |tup ds =>
  cases e with
  |tup es =>
   obtain⟨q,its,rfl,t,p⟩:=id h1;obtain⟨q',its',rfl,t',p'⟩:=id h2;have z:=SeqAt.RcAt.tuples (e:=eAt (eqD k) ds es) t t' hu' λj h1 h2=>zch zh6 p p' hu j h1 h2
   have l1:=p.length;have l2:=p'.length
   have w:eqD (k+1) (.tup ds) (.tup es)=((List.range (min its.toArray.size its'.toArray.size)).all (eAt (eqD k) ds es) && its.toArray.size == its'.toArray.size):=by
    show zg9 (eqD k) ds es=_;simp only[xa];rw[<-l1,<-l2];by_cases hl:ds.length=es.length
    ·rw[<-zci _ _ _ hl,hl,gu]
     simp
    ·rw[zdc _ hl]
     simp[hl]
   rw[w];exact z
  |_=>cases hk
 |lst ds =>
  cases e with
  |lst es =>
   obtain⟨q,its,rfl,t,p⟩:=id h1;obtain⟨q',its',rfl,t',p'⟩:=id h2;have l1:=p.length;have l2:=p'.length;by_cases hl:ds.length=es.length
   ·have z:=SeqAt.RcAt.lists (e:=eAt (eqD k) ds es) t.isList t'.isList (by simp only[xa];omega) hu' λj h1 h2=>zch zh6 p p' hu j h1 h2
    have w:eqD (k+1) (.lst ds) (.lst es)=((List.range its.toArray.size).all (eAt (eqD k) ds es)):=by
     show zg9 (eqD k) ds es=_;simp only[xa];rw[<-l1,<-zci _ _ _ hl]
    rw[w];exact z
   ·have w:eqD (k+1) (.lst ds) (.lst es)=false:=zdc _ hl
    rw[w];exact SeqAt.RcAt.lists_lengths t.isList t'.isList (by simp only[xa];simp;omega) hu'
  |_=>cases hk
 |_=>exact h1.elim
theorem zzs{prog:Program}{w:World}{E:Value->Shared->Prop}{Q:Value->Shared->Prop}{k:Nat}{d e:D}{u v:Value}(h1:HD s.heap (k+1) d u)(h2:HD s.heap (k+1) e v)(hk:zfu d e=true)(hu:A.units+(k+1)<cLine)(hq:Q (.bool (!eqD (k+1) d e)) s) :
  wpAny (model prog w) A (compareOp .NotEq u v) Q E s:=by
 have hu':A.units<cLine:=by omega
 cases d with
 |sc a=>cases e <;> cases hk
 |tup ds =>
  cases e with
  |tup es =>
   obtain⟨q,its,rfl,t,p⟩:=id h1;obtain⟨q',its',rfl,t',p'⟩:=id h2;have key:∀j (h1:j<its.toArray.size) (h2:j<its'.toArray.size),SeqAt.EqAt A.in1 s its.toArray[j] its'.toArray[j] (eAt (eqD k) ds es j):=λj h1 h2=>zch zh6 p p' hu j h1 h2
   have l1:=p.length;have l2:=p'.length
   have w':eqD (k+1) (.tup ds) (.tup es)=((List.range (min its.toArray.size its'.toArray.size)).all (eAt (eqD k) ds es) && its.toArray.size == its'.toArray.size):=by
    show zg9 (eqD k) ds es=_;simp only[xa];rw[<-l1,<-l2];by_cases hl:ds.length=es.length
    ·rw[<-zci _ _ _ hl,hl,gu]
     simp
    ·rw[zdc _ hl]
     simp[hl]
   rw[w']at hq;obtain⟨⟨cls,dd,data,sl⟩,ho,hc,n,hd⟩:=id t;obtain⟨⟨cls2,dd2,data2,sl2⟩,ho2,hc2,n2,hd2⟩:=id t';simp only at hc hd hc2 hd2;subst hc hd hc2 hd2
   exact mh (op:=.NotEq) ⟨_,ho,rfl⟩ ⟨_,ho2,rfl⟩ PySem.F.slot_tuple_ne PySem.F.entry_tuple_ne (PySem.F.args_tuple_ne_2 _ _) (zo1 q q' its.toArray its'.toArray n n2 dd dd2 sl sl2 _)
    ⟨ho,ho2,key,⟨(λx=>nomatch x),hq⟩⟩ hu'
  |_=>cases hk
 |lst ds =>
  cases e with
  |lst es =>
   obtain⟨q,its,rfl,t,p⟩:=id h1;obtain⟨q',its',rfl,t',p'⟩:=id h2;have key:∀j (h1:j<its.toArray.size) (h2:j<its'.toArray.size),SeqAt.EqAt A.in1 s its.toArray[j] its'.toArray[j] (eAt (eqD k) ds es j):=λj h1 h2=>zch zh6 p p' hu j h1 h2
   have l1:=p.length;have l2:=p'.length;obtain⟨⟨cls,dd,data,sl⟩,ho,hc,n,hd⟩:=t.isList;obtain⟨⟨cls2,dd2,data2,sl2⟩,ho2,hc2,n2,hd2⟩:=t'.isList;simp only at hc hd hc2 hd2;subst hc hd hc2 hd2;by_cases hl:ds.length=es.length
   ·have w':eqD (k+1) (.lst ds) (.lst es)=((List.range its.toArray.size).all (eAt (eqD k) ds es)):=by
     show zg9 (eqD k) ds es=_;simp only[xa];rw[<-l1,<-zci _ _ _ hl]
    rw[w']at hq
    exact mh (op:=.NotEq) ⟨_,ho,rfl⟩ ⟨_,ho2,rfl⟩ PySem.F.slot_list_ne PySem.F.entry_list_ne (PySem.F.args_list_ne_2 _ _) (zqy q q' its.toArray its'.toArray n n2 dd dd2 sl sl2 (by simp only[xa];omega) _)
     ⟨ho,ho2,key,⟨(λx=>nomatch x),hq⟩⟩ hu'
   ·have w':eqD (k+1) (.lst ds) (.lst es)=false:=zdc _ hl
    rw[w']at hq
    exact mh (op:=.NotEq) ⟨_,ho,rfl⟩ ⟨_,ho2,rfl⟩ PySem.F.slot_list_ne PySem.F.entry_list_ne (PySem.F.args_list_ne_2 _ _) (ze4 q q' its.toArray its'.toArray n n2 dd dd2 sl sl2 (by simp only[xa];simp;omega))
     ⟨ho,ho2,⟨(λx=>nomatch x),hq⟩⟩ hu'
  |_=>cases hk
 |_=>exact h1.elim
end
section
variable {X:Cx}
noncomputable def z8w(K:PySem.W.Frag)(k:Nat):R2:=λx y H Q=>∃d e,Den K H (k+1) d x/\Den K H (k+1) e y/\zfu d e=true/\Q (.bl (eqD (k+1) d e)) H
noncomputable def z8x(K:PySem.W.Frag)(k:Nat):R2:=λx y H Q=>∃d e,Den K H (k+1) d x/\Den K H (k+1) e y/\zfu d e=true/\Q (.bl (!eqD (k+1) d e)) H
noncomputable def ybe(K:PySem.W.Frag)(k:Nat):R2:=λx y H Q=>∃d e,Den K H (k+1) d x/\Den K H (k+1) e y/\zm2 (k+1) d e/\Q (.bl (ltD (k+1) d e)) H
theorem z3t(k:Nat)(hu:X.A.units+(k+1)<cLine):OpR X (compareOp .Eq) (z8w X.K k):=by
 intro pins s σ H x y v u Q I rx ry h;obtain⟨d,e,h1,h2,hk,q⟩:=h;exact zzr (I.den h1 rx) (I.den h2 ry) hk hu X.prog X.w X.xe _ ⟨.bl _,H,I,rfl,q⟩
theorem z3u(k:Nat)(hu:X.A.units+(k+1)<cLine):OpR X (compareOp .NotEq) (z8x X.K k):=by
 intro pins s σ H x y v u Q I rx ry h;obtain⟨d,e,h1,h2,hk,q⟩:=h;exact zzs (I.den h1 rx) (I.den h2 ry) hk hu ⟨.bl _,H,I,rfl,q⟩
theorem z3v(k:Nat)(hu:X.A.units+(k+1)<cLine):OpR X (compareOp .Lt) (ybe X.K k):=by
 intro pins s σ H x y v u Q I rx ry h;obtain⟨d,e,h1,h2,hk,q⟩:=h;exact zzq (I.den h1 rx) (I.den h2 ry) hk hu X.prog X.w X.xe _ ⟨.bl _,H,I,rfl,q⟩
end
section
variable {X:Cx}
example (K:PySem.W.Frag):PySem.W.kitOne K (.type "int") (.type "int")=some true:=by rfl
example (K:PySem.W.Frag):PySem.W.kitOne K (.type "bool") (.type "int")=some true:=by rfl
example (K:PySem.W.Frag):PySem.W.kitOne K (.type "int") (.type "bool")=some false:=by rfl
example (K:PySem.W.Frag):PySem.W.kitOne K (.type "list") (.type "list")=some true:=by rfl
end
section
variable {X:Cx}{a b c e o:Expr}{ta tb tc te to:TE}{pos:Pos}
theorem PE.imp{t t':TE}(h:PE X e t)(f:∀σ H Q,t' σ H Q->t σ H Q):PE X e t':=λpins s σ H Q I q=>h pins s σ H Q I (f σ H Q q)
theorem PT.imp{t t':TT}(h:PT X e t)(f:∀σ H Q,t' σ H Q->t σ H Q):PT X e t':=λpins s σ H Q I q=>h pins s σ H Q I (f σ H Q q)
theorem OpR.imp{f:Value->Value->Sem Value}{r r':R2}(h:OpR X f r)(g:∀x y H Q,r' x y H Q->r x y H Q):OpR X f r':=λpins s σ H x y v u Q I rx ry q=>h pins s σ H x y v u Q I rx ry (g x y H Q q)
theorem zcf.imp{f:Value}{r r':List V->Hp->VK->Prop}(h:zcf X f r)(g:∀xs H Q,r' xs H Q->r xs H Q):zcf X f r':=λpins s σ H xs us Q I rv q=>h pins s σ H xs us Q I rv (g xs H Q q)
theorem IxR.imp{r r':R2}(h:IxR X r)(g:∀x y H Q,r' x y H Q->r x y H Q):IxR X r':=λvalue slice pins s σ H x y v u Q I rx ry q hs=>h value slice pins s σ H x y v u Q I rx ry (g x y H Q q) hs
theorem MtR.imp{id:String}{r r':V->List V->Hp->VK->Prop}(h:MtR X id r)(g:∀x xs H Q,r' x xs H Q->r x xs H Q):MtR X id r':=λpins s σ H x xs v us Q I rx rv q=>h pins s σ H x xs v us Q I rx rv (g x xs H Q q)
theorem SlR.imp{r r':V->Option Int->Option Int->Hp->VK->Prop}(h:SlR X r)(g:∀x lo hi H Q,r' x lo hi H Q->r x lo hi H Q):SlR X r':=λpins s σ H x v vl vu lo hi sl Q I rx hs pl pu q=>h pins s σ H x v vl vu lo hi sl Q I rx hs pl pu (g x lo hi H Q q)
theorem PI.imp{tg:Expr}{wi wi':TI}(h:PI X tg e wi)(g:∀σ H R,wi' σ H R->wi σ H R):PI X tg e wi':=λpins s σ H R I q=>h pins s σ H R I (g σ H R q)
theorem PG.imp{tg:Expr}{t t':TG}(h:PG X tg t)(g:∀v σ H Q,t' v σ H Q->t v σ H Q):PG X tg t':=λpins s σ H v u Q I r q=>h pins s σ H v u Q I r (g v σ H Q q)
noncomputable def k2(C:Int->Int->Prop)(g:Int->Int->V):R2:=λx y H Q=>match x,y with|.int i,.int j=>C i j/\Q (g i j) H|_,_=>False
noncomputable def k20(g:Int->Int->V):R2:=λx y H Q=>match x,y with|.int i,.int j=>Q (g i j) H|_,_=>False
theorem zuo{f:Value->Value->Sem Value}{C:Int->Int->Prop}{g:Int->Int->V}(h:OpR X f (rI C g)):OpR X f (k2 C g):=h.imp λx y H Q q=>by
 unfold k2 at q
 split at q
 ·exact⟨_,_,rfl,rfl,q⟩
 ·exact q.elim
theorem zhn{f:Value->Value->Sem Value}{g:Int->Int->V}(h:OpR X f (rI0 g)):OpR X f (k20 g):=h.imp λx y H Q q=>by
 unfold k20 at q
 split at q
 ·exact⟨_,_,rfl,rfl,q⟩
 ·exact q.elim
theorem z8y:OpR X (binaryOp .Add) (k20 λi j=>.int (i+j)):=zhn z3c
theorem zzt:OpR X (binaryOp .Sub) (k20 λi j=>.int (i - j)):=zhn z3d
theorem zcj:OpR X (binaryOp .FloorDiv) (k2 z8k λi j=>.int (i / j)):=zuo zzh
theorem zck:OpR X (binaryOp .Mod) (k2 (λ_ j=>0<j) λi j=>.int (i % j)):=zuo z3e
theorem z3w:OpR X (binaryOp .Pow) (k2 z8l λi j=>.int (i ^ j.toNat)):=zuo z3f
theorem ybf:OpR X (compareOp .Lt) (k20 λi j=>.bl (decide (i<j))):=zhn z8o
theorem ybg:OpR X (compareOp .LtE) (k20 λi j=>.bl (decide (i<=j))):=zhn z8p
theorem z8z:OpR X (compareOp .Gt) (k20 λi j=>.bl (decide (j<i))):=zhn z8q
theorem yca:OpR X (compareOp .GtE) (k20 λi j=>.bl (decide (j<=i))):=zhn z8r
noncomputable def kEq(neg:Bool):R2:=λx y H Q=>match x,y with
 |.int i,.int j=>Q (.bl (if neg then !decide (i=j) else decide (i=j))) H
 |.str i,.str j=>Q (.bl (if neg then !decide (i=j) else decide (i=j))) H
 |.bl i,.bl j=>Q (.bl (if neg then !decide (i=j) else decide (i=j))) H
 |_,_=>False
theorem zjt{p q:Prop}[Decidable p][Decidable q](h:p↔q):decide p=decide q:=by
 by_cases hp:p
 ·rw[ub hp,ub (h.mp hp)]
 ·rw[md hp,md λz=>hp (h.mpr z)]
theorem ycb:OpR X (compareOp .Eq) (kEq false):=z8m.imp λx y H Q q=>by
 unfold kEq at q
 split at q
 ·exact⟨rfl,by rw[zjt (q:=_=_) ⟨λz=>V.int.inj z,λz=>zc V.int z⟩];exact q⟩
 ·exact⟨rfl,by rw[zjt (q:=_=_) ⟨λz=>V.str.inj z,λz=>zc V.str z⟩];exact q⟩
 ·exact⟨rfl,by rw[zjt (q:=_=_) ⟨λz=>V.bl.inj z,λz=>zc V.bl z⟩];exact q⟩
 ·exact q.elim
theorem ycc:OpR X (compareOp .NotEq) (kEq true):=z8n.imp λx y H Q q=>by
 unfold kEq at q
 split at q
 ·exact⟨rfl,by rw[zjt (q:=_=_) ⟨λz=>V.int.inj z,λz=>zc V.int z⟩];exact q⟩
 ·exact⟨rfl,by rw[zjt (q:=_=_) ⟨λz=>V.str.inj z,λz=>zc V.str z⟩];exact q⟩
 ·exact⟨rfl,by rw[zjt (q:=_=_) ⟨λz=>V.bl.inj z,λz=>zc V.bl z⟩];exact q⟩
 ·exact q.elim
noncomputable def zzu(t:TE):TT:=λσ H Q=>t σ H λx H'=>match x with|.bl k=>Q k H'|_=>False
theorem zju{x:V}{P:Bool->Prop}(q:match x with|.bl k=>P k|_=>False):∃k,x=.bl k/\P k:=by
 split at q
 ·exact⟨_,rfl,q⟩
 ·exact q.elim
theorem z3x{op:CmpOp}{r:R2}(ho:OpR X (compareOp op) r)(ha:PE X a ta)(hb:PE X b tb)(hm:behindInMarks op b=false):PT X (.Compare a [op] [b] pos) (zzu (tOp r ta tb)):=by
 intro pins s σ H Q I h;refine wpAny_isTrue_Compare1 (z7o ha hb I h λv u s2 x y H2 I2 rx ry q=>thn (ho pins s2 σ H2 x y v u _ I2 rx ry q) λz s3 ⟨x3,H3,I3,r3,q3⟩=>?_) hm;obtain⟨k,rfl,q⟩:=zju q3;cases r3;exact qg ⟨H3,I3,q⟩
theorem z3y{t:TE}(h:PE X e t)(he:∀whole,isTrue e X.env whole=(do let v ← whole;standAt e.pos;holding [v] (truthy v)):=by intro _;rfl):PT X e (zzu t):=by
 intro pins s σ H Q I hw;refine isTrue_plain (thn (h pins s σ H _ I hw) λv s1 ⟨x,H1,I1,r1,q1⟩=>?_) (he _);obtain⟨k,rfl,q⟩:=zju q1;cases r1;exact qg ⟨H1,I1,q⟩
noncomputable def z80(ta tb:TE):TE:=λσ H Q=>ta σ H λx H1=>match x with|.bl c=>if c=true then tb σ H1 Q else Q (.bl false) H1|_=>False
noncomputable def ycd(ta tb:TE):TE:=λσ H Q=>ta σ H λx H1=>match x with|.bl c=>if c=true then Q (.bl true) H1 else tb σ H1 Q|_=>False
noncomputable def z81(ta:TE):TE:=λσ H Q=>ta σ H λx H1=>match x with|.bl c=>Q (.bl (!c)) H1|_=>False
variable {rest:List Expr}
theorem z3z(ha:PE X a ta)(hb:PE X (.BoolOp .And (b::rest) pos) tb):PE X (.BoolOp .And (a::b::rest) pos) (z80 ta tb):=by
 intro pins s σ H Q I h;refine BoolOp_and (thn (ha pins s σ H _ I h) λv s1 ⟨x,H1,I1,r1,q1⟩=>?_);obtain⟨c,rfl,q1⟩:=zju q1;cases r1;refine qg ?_
 cases c with
 |true=>exact hb pins s1 σ H1 Q I1 q1
 |false=>exact⟨.bl false,H1,I1,rfl,q1⟩
theorem z82(ha:PE X a ta)(hb:PE X (.BoolOp .Or (b::rest) pos) tb):PE X (.BoolOp .Or (a::b::rest) pos) (ycd ta tb):=by
 intro pins s σ H Q I h;refine BoolOp_or (thn (ha pins s σ H _ I h) λv s1 ⟨x,H1,I1,r1,q1⟩=>?_);obtain⟨c,rfl,q1⟩:=zju q1;cases r1;refine qg ?_
 cases c with
 |false=>exact hb pins s1 σ H1 Q I1 q1
 |true=>exact⟨.bl true,H1,I1,rfl,q1⟩
theorem z30(ha:PE X a ta):PE X (.UnaryOp .Not a pos) (z81 ta):=by
 intro pins s σ H Q I h;refine UnaryOp_ (thn (ha pins s σ H _ I h) λv s1 ⟨x,H1,I1,r1,q1⟩=>?_);obtain⟨c,rfl,q1⟩:=zju q1;cases r1;exact not_of (qg ⟨.bl (!c),H1,I1,rfl,q1⟩)
theorem z31{f:Int->V}(h:UnR X (unaryOp .USub) (rU f)):UnR X (unaryOp .USub) (λx H Q=>match x with|.int i=>Q (f i) H|_=>False):=λpins s σ H x v Q I rx q=>h pins s σ H x v Q I rx (by
 dsimp only at q
 split at q
 ·exact⟨_,rfl,q⟩
 ·exact q.elim)
theorem z83:UnR X (unaryOp .USub) (λx H Q=>match x with|.int i=>Q (.int (-i)) H|_=>False):=z31 z3g
noncomputable def z84(K:PySem.W.Frag):R2:=λx y H Q=>match x,y with|.ref p,.int i=>∃xs v,SqL K H p xs/\atI xs i=some v/\Q v H|_,_=>False
noncomputable def z85(K:PySem.W.Frag):R2:=λx y H Q=>match x,y with|.ref p,.int i=>∃xs v,SqT K H p xs/\atI xs i=some v/\Q v H|_,_=>False
noncomputable def z86:R2:=λx y H Q=>match x,y with|.str z,.int i=>z.length<=sizeLine/\∃c,atI z.cps.toList i=some c/\Q (.str ⟨#[c]⟩) H|_,_=>False
theorem zzv:IxR X (z84 X.K):=zzm.imp λx y H Q q=>by
 unfold z84 at q
 split at q
 ·obtain⟨xs,v,h1,h2,q⟩:=q;exact⟨_,xs,_,v,rfl,rfl,h1,h2,q⟩
 ·exact q.elim
theorem zw9:IxR X (z85 X.K):=z3n.imp λx y H Q q=>by
 unfold z85 at q
 split at q
 ·obtain⟨xs,v,h1,h2,q⟩:=q;exact⟨_,xs,_,v,rfl,rfl,h1,h2,q⟩
 ·exact q.elim
theorem z32:IxR X z86:=z3o.imp λx y H Q q=>by
 unfold z86 at q
 split at q
 ·obtain⟨h1,c,h2,q⟩:=q;exact⟨_,_,c,rfl,rfl,h1,h2,q⟩
 ·exact q.elim
noncomputable def z87(t:TE):TO:=λσ H Q=>t σ H λx H1=>match x with|.int i=>Q (some i) H1|_=>False
theorem zzw{x:V}{P:Int->Prop}(q:match x with|.int k=>P k|_=>False):∃k,x=.int k/\P k:=by
 split at q
 ·exact⟨_,rfl,q⟩
 ·exact q.elim
theorem zln{x:V}{P:Addr->Prop}(q:match x with|.ref k=>P k|_=>False):∃k,x=.ref k/\P k:=by
 split at q
 ·exact⟨_,rfl,q⟩
 ·exact q.elim
theorem zzx{x:V}{P:Str->Prop}(q:match x with|.str k=>P k|_=>False):∃k,x=.str k/\P k:=by
 split at q
 ·exact⟨_,rfl,q⟩
 ·exact q.elim
theorem zzy(h:PE X e te):PO X (some e) (z87 te):=by
 intro pins s σ H Q I hw;rw[evalPart_some];refine thn (h pins s σ H _ I hw) λu s1 ⟨x,H1,I1,r1,q1⟩=>?_
 obtain⟨i,rfl,q⟩:=zzw q1;obtain⟨t,rfl⟩:=r1;exact⟨some i,H1,I1,.int i t,q⟩
def z88(K:PySem.W.Frag):V->Option Int->Option Int->Hp->VK->Prop:=λx lo hi H Q=>match x with|.ref a=>∃xs,SqL K H a xs/\∀p,H p=none->Q (.ref p) (upd H p (.lst (zpq xs lo hi)))|_=>False
theorem zzz:SlR X (z88 X.K):=zzn.imp λx lo hi H Q q=>by
 unfold z88 at q;obtain⟨a,rfl,xs,h,q⟩:=zln q;exact⟨a,xs,rfl,h,q⟩
noncomputable def zz0:R2:=λx y H Q=>match x,y with|.str i,.str j=>i.length+j.length<=sizeLine/\Q (.str (i++j)) H|_,_=>False
theorem z33:OpR X (binaryOp .Add) zz0:=zou.imp λx y H Q q=>by
 unfold zz0 at q
 split at q
 ·exact⟨_,_,rfl,rfl,q⟩
 ·exact q.elim
noncomputable def zup(neg:Bool):R2:=λx y H Q=>match x,y with|.str i,.str j=>Q (.bl (if neg then !Txt.contains j i else Txt.contains j i)) H|_,_=>False
theorem z89:OpR X (compareOp .In) (zup false):=zqc.imp λx y H Q q=>by
 unfold zup at q
 split at q
 ·exact⟨_,_,rfl,rfl,q⟩
 ·exact q.elim
theorem zuq:OpR X (compareOp .NotIn) (zup true):=zjg.imp λx y H Q q=>by
 unfold zup at q
 split at q
 ·exact⟨_,_,rfl,rfl,q⟩
 ·exact q.elim
def zz1(K:PySem.W.Frag):List V->Hp->VK->Prop:=λxs H Q=>match xs with|[.ref p]=>∃ys,(SqL K H p ys\/SqT K H p ys)/\Q (.int ys.length) H|_=>False
theorem z34:zcf X (.builtin "len") (zz1 X.K):=zjm.imp λxs H Q q=>by
 unfold zz1 at q
 split at q
 ·obtain⟨ys,h,q⟩:=q;exact⟨_,ys,rfl,h,q⟩
 ·exact q.elim
def zz2:List V->Hp->VK->Prop:=λxs H Q=>match xs with|[.str z]=>z.length<=sizeLine/\Q (.int z.length) H|_=>False
theorem zz3:zcf X (.builtin "len") zz2:=zjn.imp λxs H Q q=>by
 unfold zz2 at q
 split at q
 ·exact⟨_,rfl,q⟩
 ·exact q.elim
def zz4(K:PySem.W.Frag):List V->Hp->VK->Prop:=λxs H Q=>match xs with|[.ref p]=>∃ys,(SqL K H p ys\/SqT K H p ys)/\∀l,H l=none->Q (.ref l) (upd H l (.lst ys))|_=>False
theorem zq0:zcf X (.type "list") (zz4 X.K):=zjo.imp λxs H Q q=>by
 unfold zz4 at q
 split at q
 ·obtain⟨ys,h,q⟩:=q;exact⟨_,ys,rfl,h,q⟩
 ·exact q.elim
def zz5:List V->Hp->VK->Prop:=λxs H Q=>match xs with|[.bl k]=>Q (.int (if k then 1 else 0)) H|[.int i]=>Q (.int i) H|_=>False
theorem zxa:zcf X (.type "int") zz5:=zqe.imp λxs H Q q=>by
 unfold zz5 at q
 split at q
 ·exact .inr ⟨_,rfl,q⟩
 ·exact .inl ⟨_,rfl,q⟩
 ·exact q.elim
def zq1:V->List V->Hp->VK->Prop:=λx vs H Q=>match x,vs with|.ref l,[y]=>∃xs,H l=some (.lst xs)/\xs.length<sizeLine/\Q .non (upd H l (.lst (xs++[y])))|_,_=>False
theorem zgd:MtR X "list.append" zq1:=MtR.imp (r:=zqo) zqp λx vs H Q q=>by
 unfold zq1 at q
 split at q
 ·obtain⟨xs,h1,h2,q⟩:=q;exact⟨_,xs,_,rfl,rfl,h1,h2,q⟩
 ·exact q.elim
variable {tg l:Expr}{tl:TE}
noncomputable def z35(K:PySem.W.Frag)(tl:TE):TI:=λσ H R=>tl σ H λx H1=>match x with|.ref a=>(∃xs,SqL K H1 a xs)/\R (Itl K a) H1|_=>False
theorem zz6(hl:PE X l tl):PI X tg l (z35 X.K tl):=by
 intro pins s σ H R I h;refine thn (hl pins s σ H _ I h) λv s1 ⟨x,H1,I1,r1,q1⟩=>?_
 obtain⟨a,rfl,⟨xs,hq⟩,q⟩:=zln q1;cases r1;obtain⟨its,rv,p,hz⟩:=I1.list hq;refine wpAny_pyIter_list p.isList ?_;refine⟨s1.heap.objs.size,[s1.heap.objs.size],_,_,H1,rfl,I1.kept (t':=s1.toks) λb o e=>bb _ e,zje a _,⟨_,cc _ rfl,rfl,rfl⟩,λb hb=>?_,q⟩;have e:b=s1.heap.objs.size:=by simpa using hb
 subst e;exact I1.fpOk (wa _) I1.fresh
noncomputable def z9a(ta:TA):TI:=λσ H R=>ta σ H λvs H1=>match vs with|[.int j] => -(2 ^ 62)<=j/\j<2 ^ 62/\R (Itr 0 j.toNat) H1|_=>False
noncomputable def z9b(ta:TA):TI:=λσ H R=>ta σ H λvs H1=>match vs with|[.int i,.int j]=>(-(2 ^ 62)<=i/\i<2 ^ 62 /\ -(2 ^ 62)<=j/\j<2 ^ 62)/\R (Itr i (j - i).toNat) H1|_=>False
theorem PA.imp{es:List Expr}{t t':TA}(h:PA X es t)(f:∀σ H Q,t' σ H Q->t σ H Q):PA X es t':=λp pins s σ H Q I q=>h p pins s σ H Q I (f σ H Q q)
theorem zq2 {ta:TA}{p:Pos} (hg:Gl X "range") (hm:X.mg "range" = none) (ha:PA X [a] ta) (hs:starEach [a] X.env=[(false,eval a X.env)]:=by rfl):PI X tg (.Call (.Name "range" p) [a] [] pos) (z9a ta):=by
 intro pins s σ H R I h;refine Call_ (zeb I hg hm boot_range (kg (thn (ha pos pins s σ H _ I h) λus s1 ⟨vs,H1,I1,r1,q1⟩=>?_) hs rfl));dsimp only at q1
 split at q1
 ·obtain⟨q1,q2,q⟩:=q1
  cases r1 with
  |cons r rr =>
   cases rr;obtain⟨t,rfl⟩:=r
   exact call_range_1 (zmy I1 (by omega) (by omega) q1 q2 (by simpa using q))
 ·exact q1.elim
theorem zq3 {ta:TA}{p:Pos} (hg:Gl X "range") (hm:X.mg "range" = none) (ha:PA X [a,b] ta) (hs:starEach [a,b] X.env=[(false,eval a X.env),(false,eval b X.env)]:=by rfl) (hs2:starEach [b] X.env=[(false,eval b X.env)]:=by rfl) :
  PI X tg (.Call (.Name "range" p) [a,b] [] pos) (z9b ta):=by
 intro pins s σ H R I h;refine Call_ (zeb I hg hm boot_range (kg (thn (ha pos pins s σ H _ I h) λus s1 ⟨vs,H1,I1,r1,q1⟩=>?_) (by rw[hs,hs2]) (by rw[hs2];rfl)));dsimp only at q1
 split at q1
 ·obtain⟨⟨q1,q2,q3,q4⟩,q⟩:=q1
  cases r1 with
  |cons r rr =>
   cases rr with
   |cons r' rr =>
    cases rr;obtain⟨t,rfl⟩:=r
    obtain⟨t',rfl⟩:=r';exact call_range_2 (zmy I1 q1 q2 q3 q4 q)
 ·exact q1.elim
noncomputable def z36:TGs:=λvs σ H Q=>match vs with|[]=>Q σ H|_=>False
noncomputable def zxb(t:TG)(u:TGs):TGs:=λvs σ H Q=>match vs with|v::r=>t v σ H λσ' H'=>u r σ' H' Q|[]=>False
theorem zz7:PGs X [] z36:=λpins s σ H vs us Q I r h=>zzg pins s σ H vs us Q I r (by
 unfold z36 at h
 split at h
 ·exact⟨rfl,h⟩
 ·exact h.elim)
theorem zur{es:List Expr}{t:TG}{u:TGs}(h1:PG X e t)(h2:PGs X es u)(hs:(assignEach (e::es) X.env).map (·.2)=assign e X.env::(assignEach es X.env).map (·.2):=by rfl):PGs X (e::es) (zxb t u) :=
 λ pins s σ H vs us Q I r h=>zuf h1 h2 hs pins s σ H vs us Q I r (by
  unfold zxb at h
  split at h
  ·exact⟨_,_,rfl,h⟩
  ·exact h.elim)
noncomputable def z37(K:PySem.W.Frag)(n:Nat)(t:TGs):TG:=λv σ H Q=>match v with|.ref a=>∃xs,SqT K H a xs/\xs.length=n/\t xs σ H Q|_=>False
theorem z38{es:List Expr}{k:Nat}{t:TGs}{n:Nat}(hc:X.calm=true)(h:PGs X es t)(hn:(assignEach es X.env).length=n:=by rfl)(hst:(assignEach es X.env).findIdx? (·.1)=none:=by rfl):PG X (.Tuple es k pos) (z37 X.K n t) :=
 (z3a hc h hn hst).imp λv σ H Q q=>by
  unfold z37 at q;obtain⟨a,rfl,xs,h1,h2,q⟩:=zln q;exact⟨a,xs,rfl,h1,h2,q⟩
inductive AllC {α:Type} (p:α->Prop):List α->Prop
 |nil:AllC p []
 |cons {x:α} {l:List α}:p x->AllC p l->AllC p (x::l)
theorem AllC.mem{α:Type}{p:α->Prop}:∀{l:List α},AllC p l->∀x∈l,p x
 |_,.nil,x,h=>by cases h
 |_,.cons a b,x,h=>by
  rcases yb.mp h with rfl|h
  ·exact a
  ·exact b.mem x h
theorem zjv{scope:Scope}(L:List Str)(h1:scope.kind=.function)(h2:∀y∈scope.names,y.2≠.cell)(h3:∀y∈scope.names,y.2=.local->scope.names.lookup y.1=some .local)(h4:∀y∈scope.names,y.2=.free->y.1∈L)(h5:AllC (λx=>X.env.kindOf x=some .cell\/X.env.kindOf x=some .free) L):CScope X scope :=
 ⟨h1,h2,h3,λy hy hf=>h5.mem y.1 (h4 y hy hf)⟩
theorem z39 {scope:Scope}{cap:List Nat} (h:AllC (λi=>i<X.N.length/\scope.names.lookup (X.N.getD i "")≠some .local) cap):∀i∈cap,i<X.N.length/\scope.names.lookup (X.N.getD i "")≠some .local:=h.mem
structure Df(K:PySem.W.Frag)(mg:Str->Option Value)(x:Str)(st:Stmt)(ps:List Str)(f:Addr)(fd:FuncData):Prop where
 F:Fun K x x st f fd
 m:mg x=some (.ref f)
 b:zdu K fd ps []
theorem zfg:bootBuiltins "len" = some (.builtin "len"):=by decide +kernel
theorem zh7:bootBuiltins "isinstance" = some (.builtin "isinstance"):=by decide +kernel
theorem zem:bootBuiltins "sorted" = some (.builtin "sorted"):=by decide +kernel
theorem z4a:bootBuiltins "min" = some (.builtin "min"):=by decide +kernel
theorem zlo:bootBuiltins "reversed" = some (.type "reversed"):=by decide +kernel
theorem zq4:bootBuiltins "int" = some (.type "int"):=by decide +kernel
theorem zq5:bootBuiltins "bool" = some (.type "bool"):=by decide +kernel
theorem zge:bootBuiltins "list" = some (.type "list"):=by decide +kernel
theorem zen:bootBuiltins "tuple" = some (.type "tuple"):=by decide +kernel
theorem zas{H:Hp}{p:Addr}{o:HO}(hp:H p=none):zav H (upd H p o):=λb u e=>by rw[zae (zai e hp)];exact e
theorem zav.seqT{K:PySem.W.Frag}{H H':Hp}{a:Addr}{xs:List V}(e:zav H H')(h:SqT K H a xs):SqT K H' a xs:=by
 rcases h with(h|⟨o,h⟩)|h
 ·exact .inl (.inl (e _ _ h))
 ·exact .inl (.inr ⟨o,e _ _ h⟩)
 ·exact .inr h
end
end L2
set_option maxHeartbeats 1000000
namespace L2
open PySem PySem.Spec PyProof.Rows
noncomputable def S(l:List Nat):Str:=⟨l.toArray⟩
theorem zba(l:List Nat):(S l).cps.toList=l:=rfl
theorem zfn(l:List Nat):(S l).length=l.length:=by simp[S,Str.length]
theorem zus{l m:List Nat}:S l=S m↔l=m:=⟨λh=>by have:=zc (λx:Str=>x.cps.toList) h;exact this,λh=>by rw[h]⟩
theorem z9c(x:Str):x=S x.cps.toList:=by cases x;simp[S]
theorem zz8(l m:List Nat):S l++S m=S (l++m):=by
 show Str.mk (l.toArray++m.toArray)=Str.mk (l++m).toArray;simp
theorem zjw(l:List Nat)(c:Nat):Txt.contains (S l) (S [c])=decide (c∈l):=StrLaws.found_one (S l) c
noncomputable def zcz(c:Nat):List Nat->Nat
 |[]=>0
 |a::r=>if a=c then 0 else zcz c r+1
theorem zeo(c:Nat):∀(l:List Nat),c∈l->l[zcz c l]?=some c/\∀k,k<zcz c l->l[k]?≠some c
 |[],h=>by cases h
 |a::r,h=>by
  unfold zcz;by_cases ha:a=c
  ·rw[ba ha];exact⟨by simp[ha],λk hk=>by omega⟩
  ·rw[oa ha]
   have hr:c∈r:=by
    rcases yb.mp h with z|z
    ·exact absurd z.symm ha
    ·exact z
   obtain⟨h1,h2⟩:=zeo c r hr;refine⟨by simpa using h1,λk hk=>?_⟩
   cases k with
   |zero=>simpa using ha
   |succ k=>simpa using h2 k (by omega)
theorem zlp(c:Nat)(l:List Nat)(h:c∈l):zcz c l<l.length:=by
 have:=(zeo c l h).1
 exact(ya.mp this).1
theorem zm5(l:List Nat)(c i:Nat):StrLaws.At (S l) (S [c]) (S l).length i↔l[i]?=some c:=StrLaws.subAt_one (S l) c i
theorem zq6(l:List Nat)(c limit:Nat)(hl:1<=limit)(h:c∈l):∃r,Builtin.Str.occurrences (S l) (S [c]) 0 (S l).length limit=zcz c l::r:=by
 obtain⟨h1,h2⟩:=zeo c l h;rcases StrLaws.occ_head (S l) (S [c]) limit hl with⟨_,hn⟩|⟨i,r,e,ha,hb⟩
 ·exact absurd ((zm5 l c _).mpr h1) (hn _)
 ·have hi:i=zcz c l:=by
   rcases Nat.lt_trichotomy i (zcz c l) with z|z|z
   ·exact absurd ((zm5 l c i).mp ha) (h2 i z)
   ·exact z
   ·exact absurd ((zm5 l c _).mpr h1) (hb _ z)
  exact⟨r,by rw[e,hi]⟩
theorem z4b(l:List Nat)(c limit:Nat)(hl:1<=limit)(h:¬c∈l):Builtin.Str.occurrences (S l) (S [c]) 0 (S l).length limit=[]:=by
 rcases StrLaws.occ_head (S l) (S [c]) limit hl with⟨e,_⟩|⟨i,r,e,ha,hb⟩
 ·exact e
 ·exact absurd (ge ((zm5 l c i).mp ha)) h
theorem zq7{l:List Nat}(h:∀c∈l,c<128):Txt.lower (S l)=S (l.map lo1):=by
 rw[lower_ascii (x:=S l) h];simp[S]
section
variable {X:Cx}{tg:Expr}
noncomputable def Its(x:Str):It:=⟨λi _=>i<x.length,λi H v H'=>H'=H/\∃c,x.cps.toList[i]?=some c/\v=.str (S [c]),λi _=>x.length<=i⟩
theorem zq8{P:Program}{w:World}{K:PySem.W.Frag}(x:Str)(t:Tok)(it:Addr):Turn P w K tg (Its x) [it] it (λi h=>h.IsStrIter it "str_ascii_iterator" x t i) where
 mem:=by simp
 obj:=λi h st b hb=>by
  have e:b=it:=by simpa using hb
  subst e;obtain⟨o,e,c,d⟩:=st;exact⟨o,e,λv z=>by rw[d]at z;cases z⟩
 keep:=λi h h' st k=>by
  obtain⟨o,e,r⟩:=st;exact⟨o,k it (by simp) o e,r⟩
 item:=by
  intro X hP hw hK hc i pins s σ H E I hf st hg;subst hP hw hK;have hg:i<x.length:=hg;obtain⟨ch,hx⟩:∃ch,x.cps[i]?=some ch:=⟨_,wf (show i<x.cps.size from hg)⟩
  obtain⟨f0,f1,f2,f3,f4,f5⟩:=hf it (by simp);refine wpAny_pyNext_ascii_item st hx λh' st' sb=>?_
  have I1:Inv X pins σ H { s with heap:=h',toks:=s.toks+1 }:=I.turned (λb o hb e=>(sb.2 b hb).trans e) f0 f1 f3 f4 f5;obtain⟨o,e,c,d⟩:=id st';exact⟨_,rfl,zp7 (s:={ s with heap:=h',toks:=s.toks+1 }) e c d (by decide) ⟨.str ⟨#[ch]⟩,H,I1,⟨_,rfl⟩,⟨rfl,ch,by simpa using hx,rfl⟩,st',λb hb=>(hf b hb).1⟩⟩
 done:=by
  intro X hP hw hK hc i pins s σ H E I hf st hg;subst hP hw hK;obtain⟨f0,f1,f2,f3,f4,f5⟩:=hf it (by simp);have hg:x.length<=i:=hg;exact wpAny_pyNext_ascii_end (I.ok.hd hc) st (by have:x.cps.size<=i:=hg;simp[this]) λh' eb=>⟨rfl,I.turned (t':=s.toks) (λb o hb e=>eb b o hb e) f0 f1 f3 f4 f5⟩
 self:=λ_ _ _ _ _ st h=>wpAny_pyIter_striter_ascii st h
theorem zq9{P:Program}{w:World}{K:PySem.W.Frag}(x:Str)(t:Tok)(it:Addr):Turn P w K tg (Its x) [it] it (λi h=>h.IsStrIter it "str_iterator" x t i) where
 mem:=by simp
 obj:=λi h st b hb=>by
  have e:b=it:=by simpa using hb
  subst e;obtain⟨o,e,c,d⟩:=st;exact⟨o,e,λv z=>by rw[d]at z;cases z⟩
 keep:=λi h h' st k=>by
  obtain⟨o,e,r⟩:=st;exact⟨o,k it (by simp) o e,r⟩
 item:=by
  intro X hP hw hK hc i pins s σ H E I hf st hg;subst hP hw hK;have hg:i<x.length:=hg;obtain⟨ch,hx⟩:∃ch,x.cps[i]?=some ch:=⟨_,wf (show i<x.cps.size from hg)⟩
  obtain⟨f0,f1,f2,f3,f4,f5⟩:=hf it (by simp);refine wpAny_pyNext_wide_item st hx λh' st' sb=>?_
  have I1:Inv X pins σ H { s with heap:=h',toks:=s.toks+1 }:=I.turned (λb o hb e=>(sb.2 b hb).trans e) f0 f1 f3 f4 f5;obtain⟨o,e,c,d⟩:=id st';exact⟨_,rfl,zp7 (s:={ s with heap:=h',toks:=s.toks+1 }) e c d (by decide) ⟨.str ⟨#[ch]⟩,H,I1,⟨_,rfl⟩,⟨rfl,ch,by simpa using hx,rfl⟩,st',λb hb=>(hf b hb).1⟩⟩
 done:=by
  intro X hP hw hK hc i pins s σ H E I hf st hg;subst hP hw hK;obtain⟨f0,f1,f2,f3,f4,f5⟩:=hf it (by simp);have hg:x.length<=i:=hg;exact wpAny_pyNext_wide_end (I.ok.hd hc) st (by have:x.cps.size<=i:=hg;simp[this]) λh' eb=>⟨rfl,I.turned (t':=s.toks) (λb o hb e=>eb b o hb e) f0 f1 f3 f4 f5⟩
 self:=λ_ _ _ _ _ st h=>wpAny_pyIter_striter_wide st h
variable {l:Expr}{tl:TE}
end
section
variable {X:Cx}
def zz9(C:Str->Prop)(f:Str->V):V->List V->Hp->VK->Prop:=λx vs H Q=>match x,vs with|.str z,[]=>C z/\Q (f z) H|_,_=>False
theorem z4c{id:String}{C:Str->Prop}{f:Str->V}(h:∀(pins:List (Addr×Obj)) (s:Shared) (σ:St) (H:Hp) (z:Str) (t:Tok) (Q:VK),Inv X pins σ H s->C z->Q (f z) H->wpAny (model X.prog X.w) X.A (call (.builtin id) [.str z t]) (EP X pins σ Q) X.xe s):MtR X id (zz9 C f):=by
 intro pins s σ H x vs v us Q I rx rv q;unfold zz9 at q
 split at q
 ·obtain⟨c,q⟩:=q
  obtain⟨t,rfl⟩:=rx;cases rv;exact h pins s σ H _ t Q I c q
 ·exact q.elim
theorem zm6:MtR X "str.lower" (zz9 (λz=>Builtin.Str.tooLong (Txt.lower z).length=false) λz=>.str (Txt.lower z)) :=
 z4c λpins s σ H z t Q I c q=>SC.lower c ⟨.str _,H,I.tok _,⟨_,rfl⟩,q⟩
theorem zo3:MtR X "str.isalnum" (zz9 (λ_=>True) λz=>.bl (Txt.isalnum z)) :=
 z4c λpins s σ H z t Q I c q=>SC.isalnum ⟨.bl _,H,I,rfl,q⟩
def zra:V->List V->Hp->VK->Prop:=λx vs H Q=>match x,vs with|.str z,[.str y]=>∃i r,Builtin.Str.occurrences z y 0 z.length 1=i::r/\Q (.int i) H|_,_=>False
theorem zut:MtR X "str.index" zra:=by
 intro pins s σ H x vs v us Q I rx rv q;unfold zra at q
 split at q
 ·obtain⟨i,r,e,q⟩:=q
  obtain⟨t,rfl⟩:=rx;obtain⟨u,rfl,ru⟩:=rv.one;obtain⟨t',rfl⟩:=ru;exact SC.index e ⟨.int i,H,I.tok _,⟨_,rfl⟩,q⟩
 ·exact q.elim
theorem zho:∀{ys:List Str}{us:List Value},zbs (ys.map V.str) us->StrsAre us ys
 |[],_,.nil=>.nil
 |y::r,_,.cons h t=>by
  obtain⟨tk,rfl⟩:=h;exact .cons y tk (zho t)
def z0a(K:PySem.W.Frag):V->List V->Hp->VK->Prop:=λx vs H Q=>match x,vs with
 |.str z,[.ref a]=>∃ys:List Str,SqL K H a (ys.map V.str)/\(ys.map (·.length)).sum+ys.length * z.length<=16777216/\Q (.str (Txt.join z ys)) H
 |_,_=>False
theorem z0b:MtR X "str.join" (z0a X.K):=by
 intro pins s σ H x vs v us Q I rx rv q;unfold z0a at q
 split at q
 ·obtain⟨ys,hq,hz,q⟩:=q
  obtain⟨t,rfl⟩:=rx;obtain⟨u,rfl,ru⟩:=rv.one;cases ru;obtain⟨its,r,pl,_⟩:=I.list hq;exact join_list pl.isList (zho r) hz λt' k=>⟨.str _,H,I.tok _,⟨_,rfl⟩,q⟩
 ·exact q.elim
noncomputable def zjx(c:Nat)(l:List Nat):List V:=if c∈l then [.str (S (l.take (zcz c l))),.str (S [c]),.str (S (l.drop (zcz c l+1)))] else [.str (S l),.str (S []),.str (S [])]
def zrb:V->List V->Hp->VK->Prop:=λx vs H Q=>match x,vs with
 |.str z,[.str y]=>∃c,y=S [c]/\z.length<=sizeLine/\∀p,H p=none->Q (.ref p) (upd H p (.tup (zjx c z.cps.toList)))
 |_,_=>False
theorem zm7(l:List Nat)(i j:Nat):Builtin.Str.strSub (S l) i j=S ((l.drop i).take (j - i)):=by
 rw[z9c (Builtin.Str.strSub (S l) i j),StrLaws.strSub_toList];rfl
theorem zjy:MtR X "str.partition" zrb:=by
 intro pins s σ H x vs v us Q I rx rv q;unfold zrb at q
 split at q
 ·rename_i z y
  obtain⟨c,e,hz,q⟩:=q;subst e;obtain⟨t,rfl⟩:=rx;obtain⟨u,rfl,ru⟩:=rv.one;obtain⟨t',rfl⟩:=ru;refine zr PySem.F.slot_str_partition (yr _ _ _) PySem.F.entry_str_partition (PySem.F.args_str_partition_2 _ _) (meets_str_partition z (S [c]) t t' rfl hz) ?_;have hp:=I.hok.fresh (wa s.heap.objs.size);obtain⟨l,rfl⟩:∃l,z=S l:=⟨_,z9c z⟩
  rw[zba]at q;by_cases hc:c∈l
  ·obtain⟨r,ho⟩:=zq6 l c 1 (wa _) hc
   dsimp only[wants];rw[ho];refine⟨.ref s.heap.objs.size,_,I.laid (t':=s.toks+1+1) (o:=.tup (zjx c l)) (λb ob q=>bb _ q) (wa _) ?_,rfl,q _ hp⟩;unfold zjx;rw[ba hc];refine⟨by show 3<=sizeLine;decide,_,?_,IsTup.new _ _⟩
   have e1:Builtin.Str.strSub (S l) 0 (zcz c l)=S (l.take (zcz c l)):=by
    rw[zm7];simp
   have e2:Builtin.Str.strSub (S l) (zcz c l+(S [c]).length) (S l).length=S (l.drop (zcz c l+1)):=by
    rw[zm7,zfn,zfn]
    congr 1
    exact je (by simp)
   exact .cons ⟨_,by rw[e1]⟩ (.cons ⟨_,rfl⟩ (.cons ⟨_,by rw[e2]⟩ .nil))
  ·have ho:=z4b l c 1 (wa _) hc
   dsimp only[wants];rw[ho];refine⟨.ref s.heap.objs.size,_,I.laid (t':=s.toks+1) (o:=.tup (zjx c l)) (λb ob q=>bb _ q) (wa _) ?_,rfl,q _ hp⟩;unfold zjx;rw[oa hc];exact⟨by show 3<=sizeLine;decide,_,.cons ⟨_,rfl⟩ (.cons ⟨_,rfl⟩ (.cons ⟨_,rfl⟩ .nil)),IsTup.new _ _⟩
 ·exact q.elim
def z9d:V->Option Int->Option Int->Hp->VK->Prop:=λx lo hi H Q=>match x with|.str z=>z.length<=sizeLine/\Q (.str (StrLaws.sliceText z lo hi)) H|_=>False
theorem z4d:SlR X z9d:=by
 intro pins s σ H x v vl vu lo hi sl Q I rx hs pl pu h;unfold z9d at h;obtain⟨z,rfl,hz,q⟩:=zzx h;obtain⟨t,rfl⟩:=rx;refine⟨"str",_,PySem.F.slot_str_getitem.lookup,yr _ _ _,?_⟩
 have part:∀{v:Value} {o:Option Int},IsPart v o->∃l:Option (Int×Tok),partValue l=v/\l.map (·.1)=o:=λp=>by
  cases p with
  |none=>exact⟨none,rfl,rfl⟩
  |int i t=>exact⟨some (i,t),rfl,rfl⟩
 obtain⟨l,e1,e2⟩:=part pl;obtain⟨u,e3,e4⟩:=part pu;subst e1 e2 e3 e4;refine wpAny_getItem_str_slice (l:=l) (u:=u) (st:=none) hs rfl ?_;refine post_val_or_str ⟨ie ?_ hz,λt' k=>⟨.str _,H,I.tok _,⟨_,rfl⟩,q⟩⟩;exact Txt.slice_le z _ _
end
theorem zuu(l:List Nat)(j:Nat):StrLaws.sliceText (S l) none (some (j:Int))=S (l.take j):=by
 by_cases h:j<=l.length
 ·rw[StrLaws.sliceText_to ⟨by omega,by rw[zba];omega⟩]
  simp[S]
 ·have e:StrLaws.sliceText (S l) none (some (j:Int))=StrLaws.sliceText (S l) none (some (l.length:Int)):=by
   unfold StrLaws.sliceText
   have e1:Builtin.Str.strSliceIndices none (some (j:Int)) 1 (S l).length=Builtin.Str.strSliceIndices none (some (l.length:Int)) 1 (S l).length:=by
    rw[zfn];have h1:min (j:Int) (l.length:Int)=(l.length:Int):=by omega
    have h2:¬(j:Int)<0:=by omega
    have h3:¬(l.length:Int)<0:=by omega
    simp[Builtin.Str.strSliceIndices,h1,h2,h3]
   rw[e1]
  rw[e,StrLaws.sliceText_to ⟨by omega,by rw[zba];omega⟩];have e2:l.take j=l:=je (by omega);rw[e2];simp[S]
theorem zo4(l:List Nat)(i:Nat)(h:i<=l.length):StrLaws.sliceText (S l) (some (i:Int)) none=S (l.drop i):=by
 rw[StrLaws.sliceText_from ⟨by omega,by rw[zba];omega⟩];rw[zba];have e:((l.length:Int) - (i:Int)).toNat=l.length - i:=by omega
 rw[e,uk];have e2:(l.drop i).take (l.length - i)=l.drop i:=je (by simp);rw[e2];rfl
noncomputable def zlq(sep:List Nat):List (List Nat)->List Nat
 |[]=>[]
 |[x]=>x
 |x::y::r=>x++sep++zlq sep (y::r)
theorem z4e(sep:List Nat)(ls:List (List Nat)):Txt.join (S sep) (ls.map S)=S (zlq sep ls):=by
 show Builtin.Str.glued (S sep) (ls.map S)=_;rw[StrLaws.glued_eq_join]
 induction ls with
 |nil=>rfl
 |cons x r ih =>
  cases r with
  |nil=>rfl
  |cons y r =>
   show S x++S sep++Str.join (S sep) ((y::r).map S)=S (x++sep++zlq sep (y::r));rw[ih,zz8,zz8]
theorem zjz:∀(ls:List (List Nat)),zlq [] ls=ls.flatten
 |[]=>rfl
 |[x]=>by simp[zlq]
 |x::y::r=>by
  show x++[]++zlq [] (y::r)=_;rw[zjz (y::r)];simp
end L2
namespace L2
open PySem
noncomputable abbrev bmV:List Value:=[.type "ValueError",.type "Exception",.type "BaseException",.type "object"]
end L2
namespace L2
open PySem PySem.Spec PyProof.Rows
section
variable {κ:Type}[DecidableEq κ]
noncomputable def zej(kvs:List (κ×V))(k:κ):Option V:=(kvs.find? λkv=>decide (kv.1=k)).map (·.2)
noncomputable def zh8(kvs:List (κ×V))(k:κ)(v:V):List (κ×V) :=
 if (kvs.any λkv=>decide (kv.1=k))=true then kvs.map (λkv=>if kv.1=k then (kv.1,v) else kv) else kvs++[(k,v)]
theorem zdd{p:κ×V}{r:List (κ×V)}{k:κ}(e:p.1=k):zej (p::r) k=some p.2:=by simp[zej,mf,e]
theorem zcu{p:κ×V}{r:List (κ×V)}{k:κ}(e:¬p.1=k):zej (p::r) k=zej r k:=by simp[zej,mf,e]
theorem zh9(k:κ):∀kvs:List (κ×V),(kvs.any λkv=>decide (kv.1=k))=(zej kvs k).isSome
 |[]=>rfl
 |p::r=>by
  rw[bg];by_cases e:p.1=k
  ·simp only[zdd e,ub e,Bool.true_or,Option.isSome_some]
  ·rw[zcu e,md e,Bool.false_or];exact zh9 k r
theorem zeg(kvs:List (κ×V))(k:κ)(v:V):(zh8 kvs k v).length<=kvs.length+1:=by
 unfold zh8;split
 ·rw[ia];omega
 ·rw[jc,pb,ud];omega
theorem zmv.isSome_eq{o:Option V}{u:Option Value}(r:zmv o u):o.isSome=u.isSome:=by
 cases o with
 |none=>cases u with
  |none=>rfl
  |some _=>exact(show False from r).elim
 |some _=>cases u with
  |none=>exact(show False from r).elim
  |some _=>rfl
theorem zmv.getD{o:Option V}{u:Option Value}{d:V}{d':Value}(r:zmv o u)(rd:zbf d d'):zbf (o.getD d) (u.getD d'):=by
 cases o with
 |none=>cases u with
  |none=>exact rd
  |some _=>exact(show False from r).elim
 |some _=>cases u with
  |none=>exact(show False from r).elim
  |some _=>exact r
theorem KV.val{kvs:List (κ×V)}{vs:List (κ×Value)}(r:KV kvs vs)(k:κ):zmv (zej kvs k) (valueAt vs k):=by
 unfold KV at r
 induction r with
 |nil=>exact gg
 |@cons p q ps qs h t ih =>
  obtain⟨h1,h2⟩:=h;by_cases e:p.1=k
  ·have e':q.1=k:=h1.symm.trans e
   have b:valueAt (q::qs) k=some q.2:=by simp[valueAt,mf,e']
   rw[zdd e,b];exact h2
  ·have e':¬q.1=k:=λz=>e (h1.trans z)
   have b:valueAt (q::qs) k=valueAt qs k:=by simp[valueAt,mf,e']
   rw[zcu e,b];exact ih
theorem KV.any{kvs:List (κ×V)}{vs:List (κ×Value)}(r:KV kvs vs)(k:κ):(kvs.any λkv=>decide (kv.1=k))=vs.any λkv=>decide (kv.1=k):=by
 unfold KV at r
 induction r with
 |nil=>rfl
 |cons h t ih=>rw[bg,bg,ih,h.1]
theorem KV.repl{kvs:List (κ×V)}{vs:List (κ×Value)}(r:KV kvs vs)(k:κ){y:V}{u:Value}(ry:zbf y u) :
  KV (kvs.map λkv=>if kv.1=k then (kv.1,y) else kv) (vs.map λkv=>if kv.1=k then (kv.1,u) else kv):=by
 unfold KV at r ⊢
 induction r with
 |nil=>exact .nil
 |@cons p q ps qs h t ih =>
  rw[ja,ja];refine .cons ?_ ih;obtain⟨h1,h2⟩:=h;by_cases e:p.1=k
  ·rw[ba e,ba (h1.symm.trans e)];exact⟨h1,ry⟩
  ·rw[oa e,oa (λz=>e (h1.trans z))];exact⟨h1,h2⟩
theorem KV.put{kvs:List (κ×V)}{vs:List (κ×Value)}(r:KV kvs vs)(k:κ){y:V}{u:Value}(ry:zbf y u):KV (zh8 kvs k y) (stored vs k u):=by
 unfold zh8 stored;rw[r.any k];by_cases e:(vs.any λkv=>decide (kv.1=k))=true
 ·rw[ba e,ba e];exact r.repl k ry
 ·rw[oa e,oa e];exact Paired.snoc r ⟨rfl,ry⟩
theorem KV.length{kvs:List (κ×V)}{vs:List (κ×Value)}(r:KV kvs vs):kvs.length=vs.length:=Paired.length r
end
theorem zo5{P:Program}{w:World}{k:Key}{u:Value}(r:zbf (kV k) u):(zbh P w).is k u=true:=by
 cases k with
 |inl i=>obtain⟨t,e⟩:=(show ∃t,u=Value.int i t from r);subst e;exact zlg P w i t
 |inr x=>obtain⟨t,e⟩:=(show ∃t,u=Value.str x t from r);subst e;exact zlh P w x t
theorem zj0{P:Program}{w:World}:∀{ks:List Key}{us:List Value},zbs (ks.map kV) us->ItemsAre (zbh P w) ks us
 |[],_,r=>by rw[me]at r;cases r;exact .nil
 |k::ks,_,r=>by
  rw[ja]at r
  cases r with
  |cons h t=>exact .cons (zo5 h) (zj0 t)
abbrev KT(H:Hp):List (List Key×V)->List (List Key×Addr×Value)->Prop:=Paired λp q=>p.1=q.1/\H q.2.1=some (.tup (p.1.map kV))/\zbf p.2 q.2.2
theorem KT.val{H:Hp}{kvs:List (List Key×V)}{xs:List (List Key×Addr×Value)}(r:KT H kvs xs)(k:List Key):zmv (zej kvs k) ((atKey xs k).map (·.2)):=by
 induction r with
 |nil=>exact gg
 |@cons p q ps qs h t ih =>
  obtain⟨h1,_,h2⟩:=h;by_cases e:p.1=k
  ·have e':q.1=k:=h1.symm.trans e
   have b:atKey (q::qs) k=some q.2:=by simp[atKey,mf,e']
   rw[zdd e,b];exact h2
  ·have e':¬q.1=k:=λz=>e (h1.trans z)
   have b:atKey (q::qs) k=atKey qs k:=by simp[atKey,mf,e']
   rw[zcu e,b];exact ih
theorem KT.repl{H:Hp}{kvs:List (List Key×V)}{xs:List (List Key×Addr×Value)}(r:KT H kvs xs)(k:List Key){y:V}{u:Value}(ry:zbf y u) :
  KT H (kvs.map λkv=>if kv.1=k then (kv.1,y) else kv) (xs.map (putAt k u)):=by
 induction r with
 |nil=>exact .nil
 |@cons p q ps qs h t ih =>
  rw[ja,ja];refine .cons ?_ ih;obtain⟨h1,h2,h3⟩:=h;unfold putAt;by_cases e:p.1=k
  ·rw[ba e,ba (h1.symm.trans e)];exact⟨h1,h2,ry⟩
  ·rw[oa e,oa (λz=>e (h1.trans z))];exact⟨h1,h2,h3⟩
theorem KT.put{H:Hp}{kvs:List (List Key×V)}{xs:List (List Key×Addr×Value)}(r:KT H kvs xs)(k:List Key){b:Addr}{y:V}{u:Value}(hb:H b=some (.tup (k.map kV)))(ry:zbf y u) :
  KT H (zh8 kvs k y) (storedH xs k b u):=by
 have e:(kvs.any λkv=>decide (kv.1=k))=(atKey xs k).isSome:=by
  rw[zh9,(r.val k).isSome_eq,ki]
 unfold zh8 storedH;rw[e];by_cases q:(atKey xs k).isSome=true
 ·rw[ba q,ba q];exact r.repl k ry
 ·rw[oa q,oa q];exact Paired.snoc r ⟨rfl,hb,ry⟩
theorem KT.keeps{H H':Hp}{kvs:List (List Key×V)}{xs:List (List Key×Addr×Value)}(r:KT H kvs xs)(ht:∀b ys,H b=some (.tup ys)->H' b=some (.tup ys)):KT H' kvs xs :=
 Paired.mapP r λ_ _ z=>⟨z.1,ht _ _ z.2.1,z.2.2⟩
section
variable {P:Program}{w:World}{H:Hp}{h:Heap}{a:Addr}
theorem z4f{u:HO}(ok:HOk P w H h)(e:Rd H a u):zbi P w H h a u:=e.ok ok
theorem zj1{kvs:List (Key×V)}(ok:HOk P w H h)(e:Rd H a (.dK kvs)):kvs.length<=sizeLine/\(a == sysModules)=false/\∃vs,KV kvs vs/\h.DictOf (zbh P w) a vs :=
 show zbi P w H h a (.dK kvs) from z4f ok e
theorem z9e{kvs:List (Key×V)}(ok:HOk P w H h)(e:H a=some (.dK kvs)):kvs.length<=sizeLine/\(a == sysModules)=false/\∃vs,KV kvs vs/\h.DictOf (zbh P w) a vs:=zj1 ok (.inl e)
theorem zgf{ks:List Key}(ok:HOk P w H h)(e:H a=some (.tup (ks.map kV))):(tupleKind (zbh P w)).is h ks a:=by
 obtain⟨_,its,r,o,h1,h2,n,h3⟩:=(show zbi P w H h a (.tup (ks.map kV)) from ok a _ e)
 exact⟨o,its.toArray,n,h1,h2,h3,by simpa using zj0 r⟩
theorem zlr{kvs:List (List Key×V)}(ok:HOk P w H h)(e:Rd H a (.dT kvs)):kvs.length<=sizeLine/\(a == sysModules)=false ∧
  ∃xs,KT H kvs xs/\h.DictOfH (tupleKind (zbh P w)) a xs:=by
 obtain⟨z,y,xs,r,o,es,ep,h1,h2,h3,h4,h5⟩:=(show zbi P w H h a (.dT kvs) from z4f ok e)
 refine⟨z,y,xs,r,o,es,ep,h1,h2,h3,h4,λx hx=>?_,h5⟩
 have all:∀{l:List (List Key×V)} {m:List (List Key×Addr×Value)},KT H l m->∀x∈m,(tupleKind (zbh P w)).is h x.1 x.2.1:=by
  intro l m q
  induction q with
  |nil=>intro x hx;exact nomatch hx
  |@cons p q ps qs hq t ih =>
   intro x hx;rcases yb.mp hx with e|hx
   ·subst e
    exact zgf ok (by rw[<-hq.1];exact hq.2.1)
   ·exact ih x hx
 exact all r x hx
theorem z4g{kvs:List (List Key×V)}(ok:HOk P w H h)(e:H a=some (.dT kvs)):kvs.length<=sizeLine/\(a == sysModules)=false ∧
  ∃xs,KT H kvs xs/\h.DictOfH (tupleKind (zbh P w)) a xs:=zlr ok (.inl e)
end
def zls(H:Hp)(a:Addr)(y:V)(r:Option V):Prop :=
 (∃kvs k,Rd H a (.dK kvs)/\y=kV k/\r=zej kvs k)\/∃kvs k b,Rd H a (.dT kvs)/\y=.ref b/\H b=some (.tup (k.map kV))/\r=zej kvs k
def zxc(H:Hp)(a:Addr)(y v:V)(H':Hp):Prop :=
 (∃kvs k,H a=some (.dK kvs)/\y=kV k/\kvs.length<sizeLine/\H'=upd H a (.dK (zh8 kvs k v))) ∨
 ∃kvs k b,H a=some (.dT kvs)/\y=.ref b/\H b=some (.tup (k.map kV))/\kvs.length<sizeLine/\H'=upd H a (.dT (zh8 kvs k v))
theorem zls.k{H:Hp}{a:Addr}{kvs:List (Key×V)}{k:Key}(e:H a=some (.dK kvs)):zls H a (kV k) (zej kvs k):=.inl ⟨kvs,k,.inl e,rfl,rfl⟩
theorem zls.t{H:Hp}{a b:Addr}{kvs:List (List Key×V)}{k:List Key}(e:H a=some (.dT kvs))(eb:H b=some (.tup (k.map kV))):zls H a (.ref b) (zej kvs k):=.inr ⟨kvs,k,b,.inl e,rfl,eb,rfl⟩
theorem zxc.k{H:Hp}{a:Addr}{kvs:List (Key×V)}{k:Key}{v:V}(e:H a=some (.dK kvs))(hl:kvs.length<sizeLine):zxc H a (kV k) v (upd H a (.dK (zh8 kvs k v))):=.inl ⟨kvs,k,e,rfl,hl,rfl⟩
theorem zxc.t{H:Hp}{a b:Addr}{kvs:List (List Key×V)}{k:List Key}{v:V}(e:H a=some (.dT kvs))(eb:H b=some (.tup (k.map kV)))(hl:kvs.length<sizeLine) :
  zxc H a (.ref b) v (upd H a (.dT (zh8 kvs k v))):=.inr ⟨kvs,k,b,e,rfl,eb,hl,rfl⟩
section
variable {X:Cx}{pins:List (Addr×Obj)}{σ:St}{H:Hp}{s:Shared}{a:Addr}{y v:V}{u r:Value}{o:Option V}{A:Around}{E:Value->Shared->Prop}
theorem Inv.big(I:Inv X pins σ H s):sysModules<s.heap.objs.size:=by
 have h:mainGlobals<s.heap.objs.size:=(I.mod.glob.keeps I.bk).lt;exact Nat.lt_trans (by decide) h
theorem zrc{Q:Value->Shared->Prop}(hu:A.units+1<cLine)(I:Inv X pins σ H s)(g:zls H a y (some v))(ry:zbf y u)(h:∀w' s',Inv X pins σ H s'->zbf v w'->Q w' s') :
  wpAny (model X.prog X.w) A (getItem (.ref a) u) Q E s:=by
 rcases g with⟨kvs,k,e,ey,l⟩|⟨kvs,k,b,e,ey,eb,l⟩
 ·subst ey
  obtain⟨z,hd,vs,rel,dd⟩:=zj1 I.hok e;obtain⟨w',hw,rw'⟩:=zmv.some_of (v:=v) (o:=valueAt vs k) (by rw[l];exact rel.val k);exact wpAny_getItem_of (zo5 ry) dd.mapOf hw (h w' _ (I.tok _) rw')
 ·subst ey
  cases (show u=Value.ref b from ry)
  obtain⟨z,hd,xs,rel,dd⟩:=zlr I.hok e;obtain⟨w',hw,rw'⟩:=zmv.some_of (v:=v) (o:=(atKey xs k).map (·.2)) (by rw[l];exact rel.val k);obtain⟨p,hp,hp2⟩:=db.mp hw;refine wpAny_getItem_heap (uh hu) (zgf I.hok eb) dd hp ?_;rw[hp2];exact h w' _ (I.tok _) rw'
theorem yce{Q:Value->Shared->Prop}(hu:A.units+1<cLine)(I:Inv X pins σ H s)(g:zls H a y o)(ry:zbf y u)(h:∀s',Inv X pins σ H s'->Q (.bool o.isSome) s') :
  wpAny (model X.prog X.w) A (compareOp .In u (.ref a)) Q E s:=by
 rcases g with⟨kvs,k,e,ey,l⟩|⟨kvs,k,b,e,ey,eb,l⟩
 ·subst ey
  obtain⟨z,hd,vs,rel,dd⟩:=zj1 I.hok e;refine wpAny_in_of (zo5 ry) hd dd.mapOf ?_;rw[<-(rel.val k).isSome_eq,<-l];exact h _ (I.tok _)
 ·subst ey
  cases (show u=Value.ref b from ry)
  obtain⟨z,hd,xs,rel,dd⟩:=zlr I.hok e;refine wpAny_in_heap (uh hu) (zgf I.hok eb) hd dd ?_;have q:=(rel.val k).isSome_eq;rw[ki]at q;rw[<-q,<-l];exact h _ (I.tok _)
theorem z0c{Q:Value->Shared->Prop}(hu:A.units+1<cLine)(I:Inv X pins σ H s)(g:zls H a y o)(ry:zbf y u)(h:∀s',Inv X pins σ H s'->Q (.bool (!o.isSome)) s') :
  wpAny (model X.prog X.w) A (compareOp .NotIn u (.ref a)) Q E s:=by
 rcases g with⟨kvs,k,e,ey,l⟩|⟨kvs,k,b,e,ey,eb,l⟩
 ·subst ey
  obtain⟨z,hd,vs,rel,dd⟩:=zj1 I.hok e;refine wpAny_notIn_of (zo5 ry) hd dd.mapOf ?_;rw[<-(rel.val k).isSome_eq,<-l];exact h _ (I.tok _)
 ·subst ey
  cases (show u=Value.ref b from ry)
  obtain⟨z,hd,xs,rel,dd⟩:=zlr I.hok e;refine wpAny_notIn_heap (uh hu) (zgf I.hok eb) hd dd ?_;have q:=(rel.val k).isSome_eq;rw[ki]at q;rw[<-q,<-l];exact h _ (I.tok _)
theorem zlt{h':Heap}{t':Nat}{ob:HO}(I:Inv X pins σ H s)(mu:Mut (H a))(hs:Heap.SameBut a s.heap h')(he:∃q,h'.get? a=some q)(new:zbi X.prog X.w (upd H a ob) h' a ob) :
  Inv X pins σ (upd H a ob) { s with heap:=h',toks:=t' } :=
 I.write (x:=a) (e:=a) mu (.inl rfl) (λb q hb z=>(hs.2 b hb).trans z) he new
theorem z4h{P:Program}{w:World}{H':Hp}{h':Heap}{kvs:List (Key×V)}{vs:List (Key×Value)}(z:kvs.length<=sizeLine)(hd:(a == sysModules)=false)(rel:KV kvs vs)(dd:h'.DictOf (zbh P w) a vs) :
  zbi P w H' h' a (.dK kvs):=⟨z,hd,vs,rel,dd⟩
theorem zrd{H':Hp}{Q:Unit->Shared->Prop}(hu:A.units+1<cLine)(I:Inv X pins σ H s)(g:zxc H a y v H')(ry:zbf y u)(rv:zbf v r)(h:∀s',Inv X pins σ H' s'->Q () s') :
  wpAny (model X.prog X.w) A (setItem (.ref a) u r) Q E s:=by
 rcases g with⟨kvs,k,e,ey,l,eH⟩|⟨kvs,k,b,e,ey,eb,l,eH⟩
 ·subst ey eH
  obtain⟨z,hd,vs,rel,dd⟩:=z9e I.hok e;have hz:vs.length<=sizeLine:=by rw[<-rel.length];exact z
  have hl:(zh8 kvs k v).length<=sizeLine:=by have:=zeg kvs k v;omega
  refine wpAny_setItem_pairs (hsz:=hz) (zo5 ry) dd λh' dd' hs=>h _ ?_
  have he:∃q,h'.get? a=some q:=let ⟨q,_,_,hq,_⟩:=dd';⟨q,hq⟩
  exact zlt I (by rw[e];exact gg) hs he (z4h hl hd (rel.put k rv) dd')
 ·subst ey eH
  cases (show u=Value.ref b from ry)
  obtain⟨z,hd,xs,rel,dd⟩:=z4g I.hok e;have hz:xs.length<=sizeLine:=by rw[<-Paired.length rel];exact z
  have hl:(zh8 kvs k v).length<=sizeLine:=by have:=zeg kvs k v;omega
  refine wpAny_setItem_heap (hsz:=hz) (uh hu) (zgf I.hok eb) dd λh' dd' hs=>h _ ?_
  obtain⟨q,es,ep,hq,h2,h3,h4,_,h5⟩:=dd';refine zlt I (by rw[e];exact gg) hs ⟨q,hq⟩ ⟨hl,hd,_,(rel.put k eb rv).keeps λc ys ec=>?_,q,es,ep,hq,h2,h3,h4,h5⟩;rw[zae (z21 ec e (λz=>nomatch z))];exact ec
end
def z9f(i:Expr):Prop:=∀ov iv,subscripted i false ov iv=operate [ov,iv] (getItem ov iv)
theorem z0d{prog:Program}{w:World}{A:Around}{E:Value->Shared->Prop}{s:Shared}{env:Env}{value slice:Expr}{pos:Pos}{T id:String}{Q:Value->Shared->Prop}
  (hl:typeLookup (.type T) "__getitem__" = pure (some (.builtin id))) (hs:z9f slice)
  (h:wpAny (model prog w) A (eval value env) (λo s₁=>wpAny (model prog w) A (eval slice env) (λi s₂=>s₂.TypeIs o T/\wpAny (model prog w) A (getItem o i) Q E s₂) E s₁) E s) :
  wpAny (model prog w) A (eval (.Subscript value slice pos) env) Q E s:=by
 refine Subscript_ (ug h (λo s₁ h₁=>ug h₁ (λi s₂ h₂=>?_) λ_ _ x=>x) λ_ _ x=>x);obtain⟨hT,h₂⟩:=h₂;unfold subscriptTail;refine aa ?_;rw[getitemInPython_of_ne hT.not_modules];refine aa (bm hT hl ?_)
 have fin:wpAny (model prog w) A (subscripted slice false o i) (λr s₃=>wpAny (model prog w) A (letTemporaryGo value o r >>= λ_=>pure r) Q E s₃) E s₂:=by
  rw[hs o i];exact wpAny_operating (ug h₂ (λr s₃ h₃=>aa (wpAny_letTemporaryGo (va h₃))) λ_ _ x=>x)
 first
  |exact va (aa fin)
  |exact aa (va (aa fin))
  |exact aa fin
theorem zlu{X:Cx}{pins:List (Addr×Obj)}{σ:St}{H:Hp}{s:Shared}{a:Addr}{y:V}{o:Option V}(I:Inv X pins σ H s)(g:zls H a y o):s.TypeIs (.ref a) "dict":=by
 rcases g with⟨kvs,k,e,_,_⟩|⟨kvs,k,b,e,_,_,_⟩
 ·obtain⟨_,_,vs,_,dd⟩:=zj1 I.hok e
  exact dd.typeIs
 ·obtain⟨_,_,xs,_,dd⟩:=zlr I.hok e
  exact dd.typeIs
noncomputable def z9g(td ty:TE):TE:=λσ H Q=>td σ H λx H1=>ty σ H1 λy H2=>∃a v,x=.ref a/\zls H2 a y (some v)/\Q v H2
noncomputable def z9h(td ty tv:TE):TS:=λD σ H=>tv σ H λv H1=>td σ H1 λx H2=>ty σ H2 λy H3=>∃a H4,x=.ref a/\zxc H3 a y v H4/\D.nx σ H4
section
variable {X:Cx}{o i e value:Expr}{pos pos' tpos:Pos}{td ty tv:TE}
theorem z0e(hu:X.A.units+1<cLine)(ho:PE X o td)(hi:PE X i ty)(hs:z9f i):PE X (.Subscript o i pos) (z9g td ty):=by
 intro pins s σ H Q I h;refine z0d PySem.F.slot_dict_getitem.lookup hs (thn (ho pins s σ H _ I h) λu s1 ⟨x,H1,I1,rx,q1⟩=>thn (hi pins s1 σ H1 _ I1 q1) λiv s2 ⟨y,H2,I2,ry,a,v,ex,g,q2⟩=>?_);subst ex;obtain rfl:u=Value.ref a:=rx;exact⟨zlu I2 g,zrc hu I2 g ry λw' s3 I3 rw'=>⟨v,H2,I3,rw',q2⟩⟩
theorem z0f(hu:X.A.units+1<cLine)(ho:PE X o td)(hi:PE X i ty)(hv:PE X value tv)(hs:swapsWith value (some (.Subscript o i pos')) pos.line X.env=pure false) :
  PS X (.Assign [.Subscript o i pos'] value pos) (z9h td ty tv):=by
 intro pins s σ H D I h;refine wpAny_Assign_Subscript (thn (hv pins s σ H _ I h) λr s1 ⟨v,H1,I1,rv,q1⟩=>thn (ho pins s1 σ H1 _ I1 q1) λu s2 ⟨x,H2,I2,rx,q2⟩=>thn (hi pins s2 σ H2 _ I2 q2) λiv s3 ⟨y,H3,I3,ry,a,H4,ex,g,q3⟩=>?_) hs;subst ex;obtain rfl:u=Value.ref a:=rx;exact zrd hu I3 g ry rv λs4 I4=>⟨σ,H4,I4,q3⟩
end
theorem zuv{P:Program}{w:World}{H:Hp}(h:Heap)(hb:sysModules<h.objs.size):zbi P w H (h.push { cls:=.type "dict",data:=.dict #[] }) h.objs.size (.dK []) :=
 ⟨vd _,pi.mpr (gh (yd hb)),[],.nil,Heap.DictOf.new h⟩
theorem zuw{P:Program}{w:World}{H:Hp}(h:Heap)(hb:sysModules<h.objs.size):zbi P w H (h.push { cls:=.type "dict",data:=.dict #[] }) h.objs.size (.dT []) :=
 ⟨vd _,pi.mpr (gh (yd hb)),[],.nil,_,#[],0,cc _ rfl,⟨rfl,rfl,rfl⟩,rfl,rfl,rg⟩
noncomputable def z4i:TE:=λ_ H Q=>∀p,H p=none->Q (.ref p) (upd H p (.dK []))
noncomputable def z4j:TE:=λ_ H Q=>∀p,H p=none->Q (.ref p) (upd H p (.dT []))
section
variable {X:Cx}{pos:Pos}
theorem zux:PE X (.Dict [] [] pos) z4i:=λpins s σ H Q I h =>
 ao ⟨.ref s.heap.objs.size,_,I.laid (a:=s.heap.objs.size) (o:=.dK []) (t':=s.toks) (λ_ _ q=>bb _ q) (wa _) (zuv s.heap I.big),rfl,h _ (I.hok.fresh (wa _))⟩
theorem zuy:PE X (.Dict [] [] pos) z4j:=λpins s σ H Q I h =>
 ao ⟨.ref s.heap.objs.size,_,I.laid (a:=s.heap.objs.size) (o:=.dT []) (t':=s.toks) (λ_ _ q=>bb _ q) (wa _) (zuw s.heap I.big),rfl,h _ (I.hok.fresh (wa _))⟩
end
structure M2(X:Cx)(o:Expr)(m:Str)(apos:Pos)(e f:Expr)(cpos:Pos):Prop where
 base:attributeBase o m X.env (eval o X.env)=eval o X.env
 few:((backTo cpos (starEach [e,f] X.env)).all (λ x=>!x.1) && (backToKw cpos (keywordEach [] X.env)).all (λ x=>x.1.isSome)
  && decide (([e,f]:List Expr).length+([]:List Keyword).length+(if ([]:List Keyword).isEmpty then 0 else 1)<30))=true
 line:(apos.endLine == cpos.line)=true
 trees:backTo cpos (starEach [e,f] X.env)=[(false,eval e X.env),(false,eval f X.env)]
def IsD(H:Hp)(a:Addr):Prop:=(∃kvs,Rd H a (.dK kvs))\/∃kvs,Rd H a (.dT kvs)
theorem zxd{X:Cx}{pins:List (Addr×Obj)}{σ:St}{H:Hp}{s:Shared}{a:Addr}(I:Inv X pins σ H s)(d:IsD H a) :
  s.TypeIs (.ref a) "dict" /\ (∀b,Value.ref a=.ref b->∃ob,s.heap.get? b=some ob/\ob.dict=none)/\(a == sysModules)=false:=by
 rcases d with⟨kvs,e⟩|⟨kvs,e⟩
 ·obtain⟨_,hd,vs,_,dd⟩:=zj1 I.hok e
  refine⟨dd.typeIs,λb q=>?_,hd⟩;cases q;obtain⟨ob,_,_,h1,h2,_⟩:=dd;exact⟨ob,h1,h2.2.1⟩
 ·obtain⟨_,hd,xs,_,dd⟩:=zlr I.hok e
  refine⟨dd.typeIs,λb q=>?_,hd⟩;cases q;obtain⟨ob,_,_,h1,h2,_⟩:=dd;exact⟨ob,h1,h2.2.1⟩
section
variable {X:Cx}{pins:List (Addr×Obj)}{σ:St}{H:Hp}{s:Shared}{a:Addr}{y d:V}{u r:Value}{o:Option V}{A:Around}{E:Value->Shared->Prop}
theorem z4k{Q:Value->Shared->Prop}(hu:A.units+1<cLine)(I:Inv X pins σ H s)(g:zls H a y o)(ry:zbf y u)(rd:zbf d r)(h:∀w' s',Inv X pins σ H s'->zbf (o.getD d) w'->Q w' s') :
  wpAny (model X.prog X.w) A (call (.builtin "dict.get") [.ref a,u,r]) Q E s:=by
 rcases g with⟨kvs,k,e,ey,l⟩|⟨kvs,k,b,e,ey,eb,l⟩
 ·subst ey
  obtain⟨z,hd,vs,rel,dd⟩:=zj1 I.hok e;refine call_meetsIn PySem.F.slot_dict_get dd.typeIs PySem.F.entry_dict_get (PySem.F.args_dict_get_3 _ _ _) (meets_dict_get_default (zbh X.prog X.w) a (zo5 ry) hd r) ⟨_,dd.mapOf,h _ _ (I.tok _) ?_⟩;rw[l];exact(rel.val k).getD rd
 ·subst ey
  cases (show u=Value.ref b from ry)
  obtain⟨z,hd,xs,rel,dd⟩:=zlr I.hok e;refine call_meetsIn PySem.F.slot_dict_get dd.typeIs PySem.F.entry_dict_get (PySem.F.args_dict_get_3 _ _ _) (meetsH_dict_get_default (tupleKind (zbh X.prog X.w)) a b hd r) ⟨uh hu,k,xs,zgf I.hok eb,dd,h _ _ (I.tok _) ?_⟩;rw[l];exact(rel.val k).getD rd
end
noncomputable def z4l(td ty tx:TE):TE:=λσ H Q=>td σ H λx H1=>∃a,x=.ref a/\IsD H1 a/\ty σ H1 λy H2=>tx σ H2 λz H3=>∃o,zls H3 a y o/\Q (o.getD z) H3
section
variable {X:Cx}{o e f:Expr}{apos cpos:Pos}{td ty tx:TE}
theorem zuz (hu:X.A.units+1<cLine) (ho:PE X o td) (he:PE X e ty) (hf:PE X f tx) (m:M2 X o "get" apos e f cpos):PE X (.Call (.Attribute o "get" apos) [e,f] [] cpos) (z4l td ty tx):=by
 intro pins s σ H Q I h;refine wpAny_Call_method m.base m.few m.line PySem.F.plainAttrs_dict PySem.F.slot_dict_get PySem.F.type_dict_get (thn (ho pins s σ H _ I h) λu s1 ⟨x,H1,I1,rx,a,ex,d,q1⟩=>?_);subst ex;obtain rfl:u=Value.ref a:=rx;obtain⟨t1,t2,_⟩:=zxd I1 d;refine⟨t1,t2,?_⟩;rw[m.trees]
 refine Calls.callWith_builtin rfl (Calls.evalArgs_plain (Calls.spliced_cons (thn (he pins s1 σ H1 _ I1 q1) λ iv s2 ⟨y,H2,I2,ry,q2⟩ =>
  rh (thn (hf pins s2 σ H2 _ I2 q2) λfv s3 ⟨z,H3,I3,rz,ov,g,q3⟩=>qk ?_))))
 exact z4k hu I3 g ry rz λw' s4 I4 rw'=>⟨_,H3,I4,rw',q3⟩
end
def ExO(e C dx:Addr):Heap->Prop:=λh=>∃vs sl,h.get? e=some ⟨.ref C,some dx,.fields vs,sl⟩
def XdO(dx:Addr)(fs:List (Str×V)):Heap->Prop:=λh=>∃mA,h.Ns1 dx mA/\(∀f,zmv (fs.lookup f) (mA f))/\PySem.Within mA (fs.map (·.1))
noncomputable def z4m:List Str:=["__setattr__","__getattribute__","__getattr__","__class__","path","first","last","goal","ring","at","row"]
def NsK(K:PySem.W.Frag)(N:Addr)(ini:Option Value):Prop:=∃c d es ep sl,K.lookup N=some ⟨c,d,.dict es ep,sl⟩/\(∀e∈es,∃n t,e.key=.str n t)/\(∀n∈z4m,nsFind es n=none)/\nsFind es "__init__" = ini
structure XK'(K:PySem.W.Frag)(nm:Str)(C P:Addr)(fI:Option Addr):Prop where
 cl:∃q N bs sn sub ab col dd k0 k1 k2 k3 k5,K.lookup C=some (excClassObj nm q C N bs (.ref P::bmV) true sn sub ab col dd k0 k1 k2 k3 k5 "ValueError.__new__")/\NsK K N (fI.map Value.ref)
 pa:∃pn q N bs hd sn sub ab col dd k0 k1 k2 k3 k5,K.lookup P=some (excClassObj pn q P N bs bmV hd sn sub ab col dd k0 k1 k2 k3 k5 "ValueError.__new__")/\NsK K N none
def ClP(K:PySem.W.Frag)(nm:Str)(C:Addr):Prop:=∃P fI,XK' K nm C P fI/\PySem.W.nsIn K mainGlobals "PageError" = some (some (.ref P))/\PySem.W.nsIn K mainGlobals nm=some (some (.ref C))
noncomputable abbrev D.int(i:Int):D:=.sc (.int i)
noncomputable abbrev D.bl(b:Bool):D:=.sc (.bl b)
noncomputable abbrev D.non:D:=.sc .non
noncomputable abbrev D.str(l:List Nat):D:=.sc (.str (S l))
theorem _root_.PySem.Paired.zmap{α β:Type}{F G:α->β->Prop}{l₁:List α}{l₂:List β}(h:Paired F l₁ l₂)(f:∀a b,F a b->G a b):Paired G l₁ l₂:=Paired.mapP h f
def SqU(K:PySem.W.Frag)(H:Hp)(a:Addr)(xs:List V):Prop:=H a=some (.tup xs)
theorem SqU.toT{K:PySem.W.Frag}{H:Hp}{a:Addr}{xs:List V}(h:SqU K H a xs):SqT K H a xs:=.inl (.inl h)
theorem SqU.of{K:PySem.W.Frag}{H:Hp}{a:Addr}{xs:List V}(h:H a=some (.tup xs)):SqU K H a xs:=h
theorem SqU.same{K:PySem.W.Frag}{H H':Hp}{a:Addr}{xs:List V}(h:SqU K H a xs)(s:zav H H'):SqU K H' a xs:=s _ _ h
def zo6(K:PySem.W.Frag)(H:Hp):Nat->D->V->Prop
 |0,d,x=>match d with|.sc v=>zcg v=true/\x=v|_=>False
 |k+1,d,x=>match d with
  |.sc v=>zcg v=true/\x=v
  |.tup ds=>∃a xs,x=.ref a/\SqU K H a xs/\Paired (zo6 K H k) ds xs
  |.lst ds=>∃a xs,x=.ref a/\SqL K H a xs/\Paired (zo6 K H k) ds xs
  |.dk ks ds=>∃a kvs,x=.ref a/\H a=some (.dK kvs)/\kvs.map Prod.fst=ks/\Paired (zo6 K H k) ds (kvs.map Prod.snd)
  |.dt ks ds=>∃a kvs,x=.ref a/\H a=some (.dT kvs)/\kvs.map Prod.fst=ks/\Paired (zo6 K H k) ds (kvs.map Prod.snd)
  |.er n ks ds=>∃e C dx fs,x=.ref e/\H e=some (.ext (ExO e C dx))/\ClP K n C/\dx≠e/\H dx=some (.ext (XdO dx fs))/\fs.map Prod.fst=ks/\Paired (zo6 K H k) ds (fs.map Prod.snd)
theorem z4n{K:PySem.W.Frag}{H:Hp}:∀{k:Nat}{d:D}{x:V},zo6 K H k d x->zo6 K H (k+1) d x:=by
 intro k
 induction k with
 |zero =>
  intro d x h
  cases d with
  |sc v=>exact h
  |_=>exact h.elim
 |succ k ih =>
  intro d x h
  cases d with
  |sc v=>exact h
  |tup ds=>obtain⟨a,xs,e,q,p⟩:=h;exact⟨a,xs,e,q,p.zmap λ_ _=>ih⟩
  |lst ds=>obtain⟨a,xs,e,q,p⟩:=h;exact⟨a,xs,e,q,p.zmap λ_ _=>ih⟩
  |dk ks ds=>obtain⟨a,xs,e,q,hk,p⟩:=h;exact⟨a,xs,e,q,hk,p.zmap λ_ _=>ih⟩
  |dt ks ds=>obtain⟨a,xs,e,q,hk,p⟩:=h;exact⟨a,xs,e,q,hk,p.zmap λ_ _=>ih⟩
  |er n ks ds=>obtain⟨e,C,dx,fs,h1,h2,h3,h4,h5,h6,p⟩:=h;exact⟨e,C,dx,fs,h1,h2,h3,h4,h5,h6,p.zmap λ_ _=>ih⟩
theorem zm8{K:PySem.W.Frag}{H:Hp}{j k:Nat}{d:D}{x:V}(h:zo6 K H j d x)(hk:j<=k):zo6 K H k d x:=by
 induction hk with
 |refl=>exact h
 |step _ ih=>exact z4n ih
theorem zu0{K:PySem.W.Frag}{H H':Hp}(s:zav H H'):∀{k:Nat}{d:D}{x:V},zo6 K H k d x->zo6 K H' k d x:=by
 intro k
 induction k with
 |zero =>
  intro d x h
  cases d with
  |sc v=>exact h
  |_=>exact h.elim
 |succ k ih =>
  intro d x h
  cases d with
  |sc v=>exact h
  |tup ds=>obtain⟨a,xs,e,q,p⟩:=h;exact⟨a,xs,e,q.same s,p.zmap λ_ _=>ih⟩
  |lst ds=>obtain⟨a,xs,e,q,p⟩:=h;exact⟨a,xs,e,s.seq q,p.zmap λ_ _=>ih⟩
  |dk ks ds=>obtain⟨a,xs,e,q,hk,p⟩:=h;exact⟨a,xs,e,s _ _ q,hk,p.zmap λ_ _=>ih⟩
  |dt ks ds=>obtain⟨a,xs,e,q,hk,p⟩:=h;exact⟨a,xs,e,s _ _ q,hk,p.zmap λ_ _=>ih⟩
  |er n ks ds=>obtain⟨e,C,dx,fs,h1,h2,h3,h4,h5,h6,p⟩:=h;exact⟨e,C,dx,fs,h1,s _ _ h2,h3,h4,s _ _ h5,h6,p.zmap λ_ _=>ih⟩
def Dn(K:PySem.W.Frag)(H:Hp)(d:D)(x:V):Prop:=∃k,zo6 K H k d x
abbrev Dns(K:PySem.W.Frag)(H:Hp):List D->List V->Prop:=Paired (Dn K H)
section
variable {K:PySem.W.Frag}{H H':Hp}
theorem Dn.same{d:D}{x:V}(h:Dn K H d x)(s:zav H H'):Dn K H' d x:=let ⟨k,h⟩:=h;⟨k,zu0 s h⟩
theorem Dns.same{ds:List D}{xs:List V}(h:Dns K H ds xs)(s:zav H H'):Dns K H' ds xs:=h.zmap λ_ _ z=>z.same s
theorem Dns.level:∀{ds:List D}{xs:List V},Dns K H ds xs->∃k,Paired (zo6 K H k) ds xs
 |_,_,.nil=>⟨0,.nil⟩
 |_,_,.cons ⟨k,h⟩ t=>by
  obtain⟨j,q⟩:=Dns.level t;exact⟨max k j,.cons (zm8 h (Nat.le_max_left _ _)) (q.zmap λ_ _ z=>zm8 z (Nat.le_max_right _ _))⟩
theorem zbb{v:V}(h:zcg v=true):Dn K H (.sc v) v:=⟨0,h,rfl⟩
theorem Dn.sc{v x:V}(h:Dn K H (.sc v) x):zcg v=true/\x=v:=by
 obtain⟨k,h⟩:=h
 cases k <;> exact h
theorem zgg{ds:List D}{a:Addr}{xs:List V}(h:SqU K H a xs)(p:Dns K H ds xs):Dn K H (.tup ds) (.ref a):=by
 obtain⟨k,q⟩:=p.level;exact⟨k+1,a,xs,rfl,h,q⟩
theorem zdl{ds:List D}{a:Addr}{xs:List V}(h:SqL K H a xs)(p:Dns K H ds xs):Dn K H (.lst ds) (.ref a):=by
 obtain⟨k,q⟩:=p.level;exact⟨k+1,a,xs,rfl,h,q⟩
theorem Dn.tupU{ds:List D}{x:V}(h:Dn K H (.tup ds) x):∃a xs,x=.ref a/\SqU K H a xs/\Dns K H ds xs:=by
 obtain⟨k,h⟩:=h
 cases k with
 |zero=>exact h.elim
 |succ k=>obtain⟨a,xs,e,q,p⟩:=h;exact⟨a,xs,e,q,p.zmap λ_ _ z=>⟨k,z⟩⟩
theorem Dn.tup{ds:List D}{x:V}(h:Dn K H (.tup ds) x):∃a xs,x=.ref a/\SqT K H a xs/\Dns K H ds xs:=let ⟨a,xs,e,q,p⟩:=h.tupU;⟨a,xs,e,q.toT,p⟩
theorem Dn.lst{ds:List D}{x:V}(h:Dn K H (.lst ds) x):∃a xs,x=.ref a/\SqL K H a xs/\Dns K H ds xs:=by
 obtain⟨k,h⟩:=h
 cases k with
 |zero=>exact h.elim
 |succ k=>obtain⟨a,xs,e,q,p⟩:=h;exact⟨a,xs,e,q,p.zmap λ_ _ z=>⟨k,z⟩⟩
theorem z4o{ks:List Key}{ds:List D}{a:Addr}{kvs:List (Key×V)}(h:H a=some (.dK kvs))(e:kvs.map Prod.fst=ks)(p:Dns K H ds (kvs.map Prod.snd)):Dn K H (.dk ks ds) (.ref a):=by
 obtain⟨k,q⟩:=p.level;exact⟨k+1,a,kvs,rfl,h,e,q⟩
theorem z0g{ks:List (List Key)}{ds:List D}{a:Addr}{kvs:List (List Key×V)}(h:H a=some (.dT kvs))(e:kvs.map Prod.fst=ks)(p:Dns K H ds (kvs.map Prod.snd)):Dn K H (.dt ks ds) (.ref a):=by
 obtain⟨k,q⟩:=p.level;exact⟨k+1,a,kvs,rfl,h,e,q⟩
theorem Dn.dk{ks:List Key}{ds:List D}{x:V}(h:Dn K H (.dk ks ds) x):∃a kvs,x=.ref a/\H a=some (.dK kvs)/\kvs.map Prod.fst=ks/\Dns K H ds (kvs.map Prod.snd):=by
 obtain⟨k,h⟩:=h
 cases k with
 |zero=>exact h.elim
 |succ k=>obtain⟨a,xs,e,q,hk,p⟩:=h;exact⟨a,xs,e,q,hk,p.zmap λ_ _ z=>⟨k,z⟩⟩
theorem Dn.dt{ks:List (List Key)}{ds:List D}{x:V}(h:Dn K H (.dt ks ds) x):∃a kvs,x=.ref a/\H a=some (.dT kvs)/\kvs.map Prod.fst=ks/\Dns K H ds (kvs.map Prod.snd):=by
 obtain⟨k,h⟩:=h
 cases k with
 |zero=>exact h.elim
 |succ k=>obtain⟨a,xs,e,q,hk,p⟩:=h;exact⟨a,xs,e,q,hk,p.zmap λ_ _ z=>⟨k,z⟩⟩
theorem Dn.int{i:Int}{x:V}(h:Dn K H (.int i) x):x=.int i:=h.sc.2
theorem Dn.bl{b:Bool}{x:V}(h:Dn K H (.bl b) x):x=.bl b:=h.sc.2
theorem Dn.str{z:Str}{x:V}(h:Dn K H (.sc (.str z)) x):x=.str z:=h.sc.2
end
theorem _root_.PySem.Paired.zget{α β:Type}{F:α->β->Prop}:∀{l₁:List α}{l₂:List β}{j:Nat}{a:α},Paired F l₁ l₂->l₁[j]?=some a->∃b,l₂[j]?=some b/\F a b
 |_,_,_,_,.nil,e=>by simp at e
 |_,_,0,_,.cons r _,e=>by simp at e;subst e;exact⟨_,rfl,r⟩
 |_,_,j+1,_,.cons _ t,e=>by
  obtain⟨a,h1,h2⟩:=PySem.Paired.zget (j:=j) t (by simpa using e);exact⟨a,by simpa using h1,h2⟩
theorem _root_.PySem.Paired.zsnoc{α β:Type}{F:α->β->Prop}:∀{l₁:List α}{l₂:List β}{a:α}{b:β},Paired F l₁ l₂->F a b->Paired F (l₁++[a]) (l₂++[b])
 |_,_,_,_,.nil,h=>.cons h .nil
 |_,_,_,_,.cons r t,h=>.cons r (PySem.Paired.zsnoc t h)
theorem _root_.PySem.Paired.zapp{α β:Type}{F:α->β->Prop}:∀{l₁ m₁:List α}{l₂ m₂:List β},Paired F l₁ l₂->Paired F m₁ m₂->Paired F (l₁++m₁) (l₂++m₂)
 |_,_,_,_,.nil,h=>h
 |_,_,_,_,.cons r t,h=>.cons r (PySem.Paired.zapp t h)
theorem _root_.PySem.Paired.ztake{α β:Type}{F:α->β->Prop}:∀{l₁:List α}{l₂:List β} (n:Nat),Paired F l₁ l₂->Paired F (l₁.take n) (l₂.take n)
 |_,_,0,_=>.nil
 |_,_,_+1,.nil=>.nil
 |_,_,n+1,.cons r t=>.cons r (PySem.Paired.ztake n t)
theorem _root_.PySem.Paired.zdrop{α β:Type}{F:α->β->Prop}:∀{l₁:List α}{l₂:List β} (n:Nat),Paired F l₁ l₂->Paired F (l₁.drop n) (l₂.drop n)
 |_,_,0,h=>h
 |_,_,_+1,.nil=>.nil
 |_,_,n+1,.cons r t=>PySem.Paired.zdrop n t
theorem _root_.PySem.Paired.zset{α β:Type}{F:α->β->Prop}{a:α}{b:β}(r:F a b):∀{l₁:List α}{l₂:List β} (i:Nat),Paired F l₁ l₂->Paired F (l₁.set i a) (l₂.set i b)
 |_,_,_,.nil=>.nil
 |_,_,0,.cons _ t=>.cons r t
 |_,_,i+1,.cons q t=>.cons q (PySem.Paired.zset r i t)
theorem _root_.PySem.Paired.zrev{α β:Type}{F:α->β->Prop}{l₁:List α}{l₂:List β}(h:Paired F l₁ l₂):Paired F l₁.reverse l₂.reverse:=by
 induction h with
 |nil=>exact .nil
 |cons r t ih=>simp only[List.reverse_cons];exact ih.zsnoc r
def zhc(H:Hp)(b:Addr):Prop:=H b=none\/∃xs,H b=some (.tup xs)
theorem zhc.no{H:Hp}{b:Addr}{o:HO}(h:zhc H b)(e:H b=some o)(ho:∀xs,o≠.tup xs):False:=by
 rcases h with h|⟨xs,h⟩
 ·rw[h]at e;cases e
 ·rw[h]at e;cases e;exact ho xs rfl
theorem zhc.back{H H':Hp}{b:Addr}(h:zhc H' b)(s:zav H H'):zhc H b:=by
 cases e:H b with
 |none=>exact .inl e
 |some o =>
  rcases h with h|⟨xs,h⟩
  ·rw[s b o e]at h;cases h
  ·rw[s b o e]at h;cases h;exact .inr ⟨xs,e⟩
structure Ex(Hf H Hf' H':Hp):Prop where
 ff:zav Hf Hf'
 hh:zav H H'
 fh:zav Hf' H'
 nw:∀b,Hf' b≠none->Hf b≠none\/zhc H b
 nf:∀b o u,Hf' b=some (.frz o u)->Hf b=some (.frz o u)
theorem Ex.refl{Hf H:Hp}(s:zav Hf H):Ex Hf H Hf H:=⟨zav.refl _,zav.refl _,s,λ_ h=>.inl h,λ_ _ _ h=>h⟩
theorem Ex.trans{Hf H Hf1 H1 Hf2 H2:Hp}(a:Ex Hf H Hf1 H1)(b:Ex Hf1 H1 Hf2 H2):Ex Hf H Hf2 H2 :=
 ⟨a.ff.trans b.ff,a.hh.trans b.hh,b.fh,λc h=>(b.nw c h).elim (a.nw c) λz=>.inr (z.back a.hh),λc o u h=>a.nf c o u (b.nf c o u h)⟩
theorem Ex.new{Hf H:Hp}{p:Addr}{o:HO}(s:zav Hf H)(hp:H p=none)(ho:∀x u,o≠.frz x u:=by intro x u z;cases z):Ex Hf H (upd Hf p o) (upd H p o):=by
 have hf:Hf p=none:=s.free hp;refine⟨zas hf,zas hp,λb u e=>?_,λb h=>?_,λb x u h=>?_⟩
 ·by_cases hb:b=p
  ·subst hb;rw[zac]at e ⊢;exact e
  ·rw[zae hb]at e ⊢;exact s b u e
 ·by_cases hb:b=p
  ·subst hb;exact .inr (.inl hp)
  ·rw[zae hb]at h;exact .inl h
 ·by_cases hb:b=p
  ·subst hb;rw[zac]at h;cases h;exact absurd rfl (ho x u)
  ·rw[zae hb]at h;exact h
theorem Ex.made{Hf H:Hp}{p:Addr}{o:HO}(s:zav Hf H)(hp:H p=none):Ex Hf H Hf (upd H p o) :=
 ⟨zav.refl _,zas hp,s.trans (zas hp),λ_ h=>.inl h,λ_ _ _ h=>h⟩
inductive Sl where
 |sh (d:D)|ow (ds:List D)|dk (ks:List Key) (ds:List D)|dt (ks:List (List Key)) (ds:List D)
noncomputable abbrev Rho:=List (Option Sl)
noncomputable def ze5:Sl->Bool
 |.sh _=>false
 |_=>true
def zpr(K:PySem.W.Frag)(Hf H:Hp):Sl->V->Prop
 |.sh d,v=>Dn K Hf d v
 |.ow ds,v=>∃p xs,v=.ref p/\Hf p=none/\H p=some (.lst xs)/\Dns K Hf ds xs
 |.dk ks ds,v=>∃p xs,v=.ref p/\Hf p=none/\H p=some (.dK xs)/\xs.map Prod.fst=ks/\Dns K Hf ds (xs.map Prod.snd)
 |.dt ks ds,v=>∃p xs,v=.ref p/\Hf p=none/\H p=some (.dT xs)/\xs.map Prod.fst=ks/\Dns K Hf ds (xs.map Prod.snd)
theorem zpr.ext{K:PySem.W.Frag}{Hf H Hf' H':Hp}{sl:Sl}{v:V}(h:zpr K Hf H sl v)(e:Ex Hf H Hf' H'):zpr K Hf' H' sl v:=by
 have nn:∀{p:Addr} {o:HO},Hf p=none->H p=some o->(∀xs,o≠.tup xs)->Hf' p=none:=λ{p o} h1 h2 ho=>by
  cases q:Hf' p with
  |none=>rfl
  |some u =>
   rcases e.nw p (by rw[q];exact λz=>nomatch z) with z|z
   ·exact absurd h1 z
   ·exact(z.no h2 ho).elim
 cases sl with
 |sh d=>exact Dn.same h e.ff
 |ow ds=>obtain⟨p,xs,r,h1,h2,h3⟩:=h;exact⟨p,xs,r,nn h1 h2 (λ_ z=>nomatch z),e.hh _ _ h2,Dns.same h3 e.ff⟩
 |dk ks ds=>obtain⟨p,xs,r,h1,h2,hk,h3⟩:=h;exact⟨p,xs,r,nn h1 h2 (λ_ z=>nomatch z),e.hh _ _ h2,hk,Dns.same h3 e.ff⟩
 |dt ks ds=>obtain⟨p,xs,r,h1,h2,hk,h3⟩:=h;exact⟨p,xs,r,nn h1 h2 (λ_ z=>nomatch z),e.hh _ _ h2,hk,Dns.same h3 e.ff⟩
structure Bs where
 f:Hp
 h:Hp
structure VI(K:PySem.W.Frag)(B:Bs)(Hf:Hp)(ρ:Rho)(σ:St)(H:Hp):Prop where
 ex:Ex B.f B.h Hf H
 len:ρ.length=σ.length
 ok:∀(i:Nat) sl,ρ[i]?=some (some sl)->∃v,σ[i]?=some (some v)/\zpr K Hf H sl v
 own:∀(i:Nat) sl p,ρ[i]?=some (some sl)->ze5 sl=true->σ[i]?=some (some (.ref p))->B.h p=none
 dis:∀(i j:Nat) si sj p,ρ[i]?=some (some si)->ρ[j]?=some (some sj)->ze5 si=true->ze5 sj=true->σ[i]?=some (some (.ref p))->σ[j]?=some (some (.ref p))->i=j
section
variable {K:PySem.W.Frag}{B:Bs}{Hf H Hf' H':Hp}{ρ:Rho}{σ:St}
theorem VI.ext(I:VI K B Hf ρ σ H)(e:Ex Hf H Hf' H'):VI K B Hf' ρ σ H' :=
 ⟨I.ex.trans e,I.len,λi sl h=>let ⟨v,h1,h2⟩:=I.ok i sl h;⟨v,h1,h2.ext e⟩,I.own,I.dis⟩
theorem VI.fh(I:VI K B Hf ρ σ H):zav Hf H:=I.ex.fh
theorem VI.sh{i:Nat}{d:D}(I:VI K B Hf ρ σ H)(h:ρ[i]?=some (some (.sh d))):∃v,σ[i]?=some (some v)/\Dn K Hf d v:=I.ok i _ h
theorem VI.set{i:Nat}{d:D}{v:V}(I:VI K B Hf ρ σ H)(h:Dn K Hf d v):VI K B Hf (ρ.set i (some (.sh d))) (σ.set i (some v)) H:=by
 have g:∀{j:Nat} {sl:Sl},(ρ.set i (some (.sh d)))[j]?=some (some sl)->(j=i/\sl=.sh d/\i<ρ.length)\/(j≠i/\ρ[j]?=some (some sl)):=λ{j sl} e=>by
  by_cases hj:i=j
  ·subst hj
   rw[ek]at e
   cases q:ρ[i]? with
   |none=>rw[q]at e;cases e
   |some z =>
    rw[q]at e;simp at e;exact .inl ⟨rfl,e.symm,(ya.mp q).1⟩
  ·rw[qa hj]at e
   exact .inr ⟨λz=>hj z.symm,e⟩
 refine⟨I.ex,by simp[I.len],λj sl e=>?_,λj sl p e o q=>?_,λj k sj sk p e1 e2 o1 o2 q1 q2=>?_⟩
 ·rcases g e with⟨rfl,rfl,hl⟩|⟨hj,e⟩
  ·refine⟨v,?_,h⟩
   rw[jb (by rw[<-I.len];exact hl)]
  ·obtain⟨u,h1,h2⟩:=I.ok j sl e
   exact⟨u,by rw[qa (λz=>hj z.symm)];exact h1,h2⟩
 ·rcases g e with⟨rfl,rfl,hl⟩|⟨hj,e⟩
  ·cases o
  ·rw[qa (λz=>hj z.symm)]at q
   exact I.own j sl p e o q
 ·rcases g e1 with⟨rfl,rfl,hl⟩|⟨hj,e1⟩
  ·cases o1
  ·rcases g e2 with⟨rfl,rfl,hl⟩|⟨hk,e2⟩
   ·cases o2
   ·rw[qa (λz=>hj z.symm)]at q1
    rw[qa (λz=>hk z.symm)]at q2;exact I.dis j k sj sk p e1 e2 o1 o2 q1 q2
end
def Raw(K:PySem.W.Frag)(Hf H:Hp)(d:D)(x:V):Prop:=match d with
 |.lst ds=>∃p xs,x=.ref p/\H p=some (.lst xs)/\Dns K Hf ds xs
 |.dk ks ds=>∃p xs,x=.ref p/\H p=some (.dK xs)/\xs.map Prod.fst=ks/\Dns K Hf ds (xs.map Prod.snd)
 |.dt ks ds=>∃p xs,x=.ref p/\H p=some (.dT xs)/\xs.map Prod.fst=ks/\Dns K Hf ds (xs.map Prod.snd)
 |_=>False
def DnB(K:PySem.W.Frag)(Hf H:Hp)(d:D)(x:V):Prop:=Dn K Hf d x\/Raw K Hf H d x
abbrev z4p(K:PySem.W.Frag)(Hf H:Hp):List D->List V->Prop:=Paired (DnB K Hf H)
section
variable {K:PySem.W.Frag}{Hf H Hf' H':Hp}
theorem DnB.ext{d:D}{x:V}(h:DnB K Hf H d x)(e:Ex Hf H Hf' H'):DnB K Hf' H' d x:=by
 rcases h with h|h
 ·exact .inl (h.same e.ff)
 ·refine .inr ?_
  cases d with
  |lst ds=>obtain⟨p,xs,h2,h3,h4⟩:=h;exact⟨p,xs,h2,e.hh _ _ h3,h4.same e.ff⟩
  |dk ks ds=>obtain⟨p,xs,h2,h3,hk,h4⟩:=h;exact⟨p,xs,h2,e.hh _ _ h3,hk,h4.same e.ff⟩
  |dt ks ds=>obtain⟨p,xs,h2,h3,hk,h4⟩:=h;exact⟨p,xs,h2,e.hh _ _ h3,hk,h4.same e.ff⟩
  |_=>exact h.elim
theorem DnB.whole{d:D}{x:V}(h:DnB K Hf H d x)(s:zav Hf H):Dn K H d x:=by
 rcases h with h|h
 ·exact h.same s
 ·cases d with
  |lst ds=>obtain⟨p,xs,rfl,h3,h4⟩:=h;exact zdl (SqL.of h3) (h4.same s)
  |dk ks ds=>obtain⟨p,xs,rfl,h3,hk,h4⟩:=h;exact z4o h3 hk (h4.same s)
  |dt ks ds=>obtain⟨p,xs,rfl,h3,hk,h4⟩:=h;exact z0g h3 hk (h4.same s)
  |_=>exact h.elim
theorem DnB.sc{v x:V}(h:DnB K Hf H (.sc v) x):zcg v=true/\x=v:=by
 rcases h with h|h
 ·exact h.sc
 ·exact h.elim
theorem DnB.tup{ds:List D}{x:V}(h:DnB K Hf H (.tup ds) x):∃a xs,x=.ref a/\SqT K Hf a xs/\Dns K Hf ds xs:=by
 rcases h with h|h
 ·exact h.tup
 ·exact h.elim
theorem DnB.tupU{ds:List D}{x:V}(h:DnB K Hf H (.tup ds) x):∃a xs,x=.ref a/\SqU K Hf a xs/\Dns K Hf ds xs:=by
 rcases h with h|h
 ·exact h.tupU
 ·exact h.elim
theorem DnB.lst{ds:List D}{x:V}(h:DnB K Hf H (.lst ds) x)(s:zav Hf H):∃a xs,x=.ref a/\SqL K H a xs/\Dns K Hf ds xs:=by
 rcases h with h|⟨p,xs,h2,h3,h4⟩
 ·obtain⟨a,xs,e,h1,h2⟩:=h.lst
  exact⟨a,xs,e,s.seq h1,h2⟩
 ·exact⟨p,xs,h2,SqL.of h3,h4⟩
theorem DnB.dk{ks:List Key}{ds:List D}{x:V}(h:DnB K Hf H (.dk ks ds) x)(s:zav Hf H):∃a kvs,x=.ref a/\H a=some (.dK kvs)/\kvs.map Prod.fst=ks/\Dns K Hf ds (kvs.map Prod.snd):=by
 rcases h with h|⟨p,xs,h2,h3,hk,h4⟩
 ·obtain⟨a,xs,e,h1,hk,h2⟩:=h.dk
  exact⟨a,xs,e,s _ _ h1,hk,h2⟩
 ·exact⟨p,xs,h2,h3,hk,h4⟩
theorem DnB.dt{ks:List (List Key)}{ds:List D}{x:V}(h:DnB K Hf H (.dt ks ds) x)(s:zav Hf H):∃a kvs,x=.ref a/\H a=some (.dT kvs)/\kvs.map Prod.fst=ks/\Dns K Hf ds (kvs.map Prod.snd):=by
 rcases h with h|⟨p,xs,h2,h3,hk,h4⟩
 ·obtain⟨a,xs,e,h1,hk,h2⟩:=h.dt
  exact⟨a,xs,e,s _ _ h1,hk,h2⟩
 ·exact⟨p,xs,h2,h3,hk,h4⟩
end
noncomputable def eV(K:PySem.W.Frag)(B:Bs)(f:Rho->Option D):TE:=λσ H Q=>∃Hf ρ d,VI K B Hf ρ σ H/\f ρ=some d/\∀Hf' H' v,Ex Hf H Hf' H'->Dn K Hf' d v->Q v H'
noncomputable def eB(K:PySem.W.Frag)(B:Bs)(f:Rho->Option D):TE:=λσ H Q=>∃Hf ρ d,VI K B Hf ρ σ H/\f ρ=some d/\∀Hf' H' v,Ex Hf H Hf' H'->DnB K Hf' H' d v->Q v H'
noncomputable def tV(K:PySem.W.Frag)(B:Bs)(f:Rho->Option Bool):TT:=λσ H Q=>∃Hf ρ b,VI K B Hf ρ σ H/\f ρ=some b/\∀Hf' H',Ex Hf H Hf' H'->Q b H'
noncomputable def aV(K:PySem.W.Frag)(B:Bs)(f:Rho->Option (List D)):TA:=λσ H Q=>∃Hf ρ ds,VI K B Hf ρ σ H/\f ρ=some ds/\∀Hf' H' vs,Ex Hf H Hf' H'->Dns K Hf' ds vs->Q vs H'
noncomputable def aB(K:PySem.W.Frag)(B:Bs)(f:Rho->Option (List D)):TA:=λσ H Q=>∃Hf ρ ds,VI K B Hf ρ σ H/\f ρ=some ds/\∀Hf' H' vs,Ex Hf H Hf' H'->z4p K Hf' H' ds vs->Q vs H'
noncomputable def oV(K:PySem.W.Frag)(B:Bs)(f:Rho->Option (Option Int)):TO:=λσ H Q=>∃Hf ρ o,VI K B Hf ρ σ H/\f ρ=some o/\∀Hf' H',Ex Hf H Hf' H'->Q o H'
noncomputable def eC(d:D):Rho->Option D:=λ_=>some d
noncomputable def zal(i:Nat):Rho->Option D:=λρ=>match ρ[i]? with|some (some (.sh d))=>some d|_=>none
noncomputable def zaa(i:Nat):Rho->Option D:=λρ=>match ρ[i]? with|some (some (.sh d))=>some d|some (some (.ow ds))=>some (.lst ds)|some (some (.dk ks ds))=>some (.dk ks ds)|some (some (.dt ks ds))=>some (.dt ks ds)|_=>none
noncomputable def e1(g:D->Option D)(fa:Rho->Option D):Rho->Option D:=λρ=>(fa ρ).bind g
noncomputable def e2(g:D->D->Option D)(fa fb:Rho->Option D):Rho->Option D:=λρ=>(fa ρ).bind λd=>(fb ρ).bind λe=>g d e
noncomputable def eN(g:List D->Option D)(fa:Rho->Option (List D)):Rho->Option D:=λρ=>(fa ρ).bind g
noncomputable def aN:Rho->Option (List D):=λ_=>some []
noncomputable def aC(fa:Rho->Option D)(fr:Rho->Option (List D)):Rho->Option (List D):=λρ=>(fa ρ).bind λd=>(fr ρ).bind λds=>some (d::ds)
noncomputable def toB:D->Option Bool|.sc (.bl b)=>some b|_=>none
noncomputable def tE(fa:Rho->Option D):Rho->Option Bool:=λρ=>(fa ρ).bind toB
noncomputable def zc9(fa fb:Rho->Option Bool):Rho->Option Bool:=λρ=>(fa ρ).bind λa=>if a=true then fb ρ else some false
noncomputable def bOr(fa fb:Rho->Option Bool):Rho->Option Bool:=λρ=>(fa ρ).bind λa=>if a=true then some true else fb ρ
noncomputable def zdq(fa:Rho->Option Bool):Rho->Option Bool:=λρ=>(fa ρ).bind λa=>some (!a)
noncomputable def eT(ft:Rho->Option Bool):Rho->Option D:=λρ=>(ft ρ).bind λb=>some (.bl b)
theorem bind_some{α β:Type}{o:Option α}{f:α->Option β}{z:β}(h:o.bind f=some z):∃a,o=some a/\f a=some z:=by
 cases o with
 |none=>cases h
 |some a=>exact⟨a,rfl,h⟩
section
variable {X:Cx}{B:Bs}{e a b c:Expr}{es:List Expr}{f fa fb fc:Rho->Option D}{ft fu:Rho->Option Bool}{fr:Rho->Option (List D)}{pos:Pos}
theorem v_b(h:PE X e (eV X.K B f)):PE X e (eB X.K B f):=h.imp λσ H Q ⟨Hf,ρ,d,I,hd,q⟩=>⟨Hf,ρ,d,I,hd,λHf' H' v ex dv=>q Hf' H' v ex (.inl dv)⟩
theorem ycf(h:PA X es (aV X.K B fr)):PA X es (aB X.K B fr):=h.imp λσ H Q ⟨Hf,ρ,d,I,hd,q⟩=>⟨Hf,ρ,d,I,hd,λHf' H' v ex dv=>q Hf' H' v ex (dv.zmap λ_ _ z=>.inl z)⟩
theorem z7r{v:V}(hv:zcg v=true)(h:PE X e (tC v)):PE X e (eV X.K B (eC (.sc v))):=h.imp λσ H Q ⟨Hf,ρ,d,I,hd,q⟩=>by
 cases hd;exact q Hf H v (.refl I.fh) (zbb hv)
theorem zaf{i:Int}{j:Nat}:PE X (.Constant (.int i) j pos) (eV X.K B (eC (.int i))):=z7r rfl zwz
theorem zt4{i:Bool}{j:Nat}:PE X (.Constant (.bool i) j pos) (eV X.K B (eC (.bl i))):=z7r rfl z22
theorem zde{x:Str}{l:List Nat}{j:Nat}(h:x=S l):PE X (.Constant (.str x) j pos) (eV X.K B (eC (.str l))):=by subst h;exact z7r rfl zw0
theorem zaj (i:Nat) {x:Str}{pos:Pos} (hN:X.N[i]?=some x:=by rfl) (hv:Vis X.env.scope x:=by first|exact lb rfl|exact we (lb rfl)|exact we (we rfl)) (hd:(x == ("__debug__" : Str))=false:=by decide)
  (hcd:(x == ("__classdict__" : Str))=false:=by decide):PE X (.Name x pos) (eV X.K B (zal i)):=(zcy hN hv hd hcd).imp λσ H Q ⟨Hf,ρ,d,I,hd,q⟩=>by
 unfold zal at hd
 split at hd
 ·rename_i d' e
  cases hd;obtain⟨v,h1,h2⟩:=I.sh e
  exact⟨v,h1,q Hf H v (.refl I.fh) h2⟩
 ·cases hd
theorem zab (i:Nat) {x:Str}{pos:Pos} (hN:X.N[i]?=some x:=by rfl) (hv:Vis X.env.scope x:=by first|exact lb rfl|exact we (lb rfl)|exact we (we rfl)) (hd:(x == ("__debug__" : Str))=false:=by decide)
  (hcd:(x == ("__classdict__" : Str))=false:=by decide):PE X (.Name x pos) (eB X.K B (zaa i)):=(zcy hN hv hd hcd).imp λσ H Q ⟨Hf,ρ,d,I,hd,q⟩=>by
 unfold zaa at hd
 split at hd
 ·rename_i d' e
  cases hd;obtain⟨v,h1,h2⟩:=I.sh e
  exact⟨v,h1,q Hf H v (.refl I.fh) (.inl h2)⟩
 ·rename_i ds e
  cases hd;obtain⟨v,h1,p,xs,rfl,h2,h3,h4⟩:=I.ok i _ e
  exact⟨_,h1,q Hf H _ (.refl I.fh) (.inr ⟨p,xs,rfl,h3,h4⟩)⟩
 ·rename_i ks ds e
  cases hd;obtain⟨v,h1,p,xs,rfl,h2,h3,h4⟩:=I.ok i _ e
  exact⟨_,h1,q Hf H _ (.refl I.fh) (.inr ⟨p,xs,rfl,h3,h4⟩)⟩
 ·rename_i ks ds e
  cases hd;obtain⟨v,h1,p,xs,rfl,h2,h3,h4⟩:=I.ok i _ e
  exact⟨_,h1,q Hf H _ (.refl I.fh) (.inr ⟨p,xs,rfl,h3,h4⟩)⟩
 ·cases hd
def P2(K:PySem.W.Frag)(r:R2)(g:D->D->Option D):Prop:=∀Hf H x y d e z (Q:VK),zav Hf H->DnB K Hf H d x->DnB K Hf H e y->g d e=some z->(∀Hf' H' v,Ex Hf H Hf' H'->Dn K Hf' z v->Q v H')->r x y H Q
theorem zm9{r:R2}{g:D->D->Option D}(hp:P2 X.K r g){σ:St}{H:Hp}{Q:VK}(h:eV X.K B (e2 g fa fb) σ H Q):tOp r (eB X.K B fa) (eB X.K B fb) σ H Q:=by
 obtain⟨Hf,ρ,z,I,hz,q⟩:=h;obtain⟨d,hd,hz⟩:=bind_some hz;obtain⟨e,he,hz⟩:=bind_some hz;exact⟨Hf,ρ,d,I,hd,λHf1 H1 x ex1 dx=>⟨Hf1,ρ,e,I.ext ex1,he,λHf2 H2 y ex2 dy=>hp Hf2 H2 x y d e z Q ex2.fh (dx.ext ex2) dy hz λHf' H' v ex3 dv=>q Hf' H' v ((ex1.trans ex2).trans ex3) dv⟩⟩
theorem za9{op:Operator}{r:R2}{g:D->D->Option D}(ho:OpR X (binaryOp op) r)(hp:P2 X.K r g)(ha:PE X a (eB X.K B fa))(hb:PE X b (eB X.K B fb)):PE X (.BinOp a op b pos) (eV X.K B (e2 g fa fb)) :=
 (z8i ho ha hb).imp λσ H Q h=>zm9 hp h
theorem zlv{op:CmpOp}{r:R2}{g:D->D->Option D}(ho:OpR X (compareOp op) r)(hp:P2 X.K r g)(ha:PE X a (eB X.K B fa))(hb:PE X b (eB X.K B fb))(hm:behindInMarks op b=false):PE X (.Compare a [op] [b] pos) (eV X.K B (e2 g fa fb)) :=
 (zzi ho ha hb hm).imp λσ H Q h=>zm9 hp h
theorem zxe{t:TE}{σ:St}{H:Hp}{Q:Bool->Hp->Prop}(ht:∀R,eV X.K B f σ H R->t σ H R)(h:tV X.K B (tE f) σ H Q):zzu t σ H Q:=by
 obtain⟨Hf,ρ,b,I,hb,q⟩:=h;obtain⟨d,hd,hb⟩:=bind_some hb;refine ht _ ⟨Hf,ρ,d,I,hd,λHf' H' v ex dv=>?_⟩;unfold toB at hb
 split at hb
 ·cases hb
  rw[dv.bl];exact q Hf' H' ex
 ·cases hb
theorem zbr{op:CmpOp}{r:R2}{g:D->D->Option D}(ho:OpR X (compareOp op) r)(hp:P2 X.K r g)(ha:PE X a (eB X.K B fa))(hb:PE X b (eB X.K B fb))(hm:behindInMarks op b=false):PT X (.Compare a [op] [b] pos) (tV X.K B (tE (e2 g fa fb))) :=
 (z3x ho ha hb hm).imp λσ H Q h=>zxe (λR z=>zm9 hp z) h
theorem zcl(ha:PE X a (eV X.K B fa))(he:∀whole,isTrue a X.env whole=(do let v ← whole;standAt a.pos;holding [v] (truthy v)):=by intro _;rfl):PT X a (tV X.K B (tE fa)) :=
 (z3y ha he).imp λσ H Q h=>zxe (λR z=>z) h
theorem zdw(ha:PT X a (tV X.K B ft)):PT X (.UnaryOp .Not a pos) (tV X.K B (zdq ft)):=(z25 ha).imp λσ H Q ⟨Hf,ρ,z,I,hz,q⟩=>by
 obtain⟨x,hx,hz⟩:=bind_some hz;cases hz;exact⟨Hf,ρ,x,I,hx,λHf' H' ex=>q Hf' H' ex⟩
variable {rest:List Expr}
theorem zu1{σ:St}{H:Hp}{Q:Bool->Hp->Prop}(h:tV X.K B (zc9 ft fu) σ H Q):ya8 (tV X.K B ft) (tV X.K B fu) σ H Q:=by
 obtain⟨Hf,ρ,z,I,hz,q⟩:=h;obtain⟨x,hx,hz⟩:=bind_some hz;refine⟨Hf,ρ,x,I,hx,λHf1 H1 ex1=>?_⟩
 cases x with
 |true=>rw[ba rfl]at hz ⊢;exact⟨Hf1,ρ,z,I.ext ex1,hz,λHf' H' ex=>q Hf' H' (ex1.trans ex)⟩
 |false=>rw[oa la]at hz ⊢;cases hz;exact q Hf1 H1 ex1
theorem z0h{σ:St}{H:Hp}{Q:Bool->Hp->Prop}(h:tV X.K B (bOr ft fu) σ H Q):tOr (tV X.K B ft) (tV X.K B fu) σ H Q:=by
 obtain⟨Hf,ρ,z,I,hz,q⟩:=h;obtain⟨x,hx,hz⟩:=bind_some hz;refine⟨Hf,ρ,x,I,hx,λHf1 H1 ex1=>?_⟩
 cases x with
 |true=>rw[ba rfl]at hz ⊢;cases hz;exact q Hf1 H1 ex1
 |false=>rw[oa la]at hz ⊢;exact⟨Hf1,ρ,z,I.ext ex1,hz,λHf' H' ex=>q Hf' H' (ex1.trans ex)⟩
theorem PW.imp{t t':TT}(h:PW X e t)(f:∀σ H Q,t' σ H Q->t σ H Q):PW X e t':=λwh pins s σ H Q I q=>h wh pins s σ H Q I (f σ H Q q)
theorem zgh(ha:PT X a (tV X.K B ft)):PW X (.BoolOp .And [a] pos) (tV X.K B ft):=zzf ha
theorem zhp(ha:PT X a (tV X.K B ft)):PW X (.BoolOp .Or [a] pos) (tV X.K B ft):=z23 ha
theorem zhq(ha:PT X a (tV X.K B ft))(hb:PW X (.BoolOp .And (b::rest) pos) (tV X.K B fu)):PW X (.BoolOp .And (a::b::rest) pos) (tV X.K B (zc9 ft fu)):=(z24 ha hb).imp λσ H Q h=>zu1 h
theorem zia(ha:PT X a (tV X.K B ft))(hb:PW X (.BoolOp .Or (b::rest) pos) (tV X.K B fu)):PW X (.BoolOp .Or (a::b::rest) pos) (tV X.K B (bOr ft fu)):=(z8d ha hb).imp λσ H Q h=>z0h h
theorem zna{op:BoolOp}(h:PE X a (eV X.K B fa)):PE X (.BoolOp op [a] pos) (eV X.K B fa):=z26 h
theorem zxf(ha:PE X a (eV X.K B fa))(hb:PE X (.BoolOp .And (b::rest) pos) (eV X.K B fb)):PE X (.BoolOp .And (a::b::rest) pos) (eV X.K B (eT (zc9 (tE fa) (tE fb)))):=(z3z ha hb).imp λσ H Q ⟨Hf,ρ,z,I,hz,q⟩=>by
 obtain⟨x,hx,hz⟩:=bind_some hz;cases hz;obtain⟨y,hy,hx⟩:=bind_some hx;obtain⟨d,hd,hy⟩:=bind_some hy;refine⟨Hf,ρ,d,I,hd,λHf1 H1 v ex1 dv=>?_⟩;unfold toB at hy
 split at hy
 ·cases hy
  rw[dv.bl]
  cases y with
  |true =>
   rw[ba rfl]at hx;obtain⟨d',hd',hx⟩:=bind_some hx;refine⟨Hf1,ρ,d',I.ext ex1,hd',λHf2 H2 v2 ex2 dv2=>?_⟩;unfold toB at hx
   split at hx
   ·cases hx;exact q Hf2 H2 v2 (ex1.trans ex2) dv2
   ·cases hx
  |false=>rw[oa la]at hx;cases hx;exact q Hf1 H1 _ ex1 (zbb rfl)
 ·cases hy
theorem z4q(ha:PE X a (eV X.K B fa))(hb:PE X (.BoolOp .Or (b::rest) pos) (eV X.K B fb)):PE X (.BoolOp .Or (a::b::rest) pos) (eV X.K B (eT (bOr (tE fa) (tE fb)))):=(z82 ha hb).imp λσ H Q ⟨Hf,ρ,z,I,hz,q⟩=>by
 obtain⟨x,hx,hz⟩:=bind_some hz;cases hz;obtain⟨y,hy,hx⟩:=bind_some hx;obtain⟨d,hd,hy⟩:=bind_some hy;refine⟨Hf,ρ,d,I,hd,λHf1 H1 v ex1 dv=>?_⟩;unfold toB at hy
 split at hy
 ·cases hy
  rw[dv.bl]
  cases y with
  |false =>
   rw[oa la]at hx;obtain⟨d',hd',hx⟩:=bind_some hx;refine⟨Hf1,ρ,d',I.ext ex1,hd',λHf2 H2 v2 ex2 dv2=>?_⟩;unfold toB at hx
   split at hx
   ·cases hx;exact q Hf2 H2 v2 (ex1.trans ex2) dv2
   ·cases hx
  |true=>rw[ba rfl]at hx;cases hx;exact q Hf1 H1 _ ex1 (zbb rfl)
 ·cases hy
theorem z4r(ha:PE X a (eV X.K B fa)):PE X (.UnaryOp .Not a pos) (eV X.K B (eT (zdq (tE fa)))):=(z30 ha).imp λσ H Q ⟨Hf,ρ,z,I,hz,q⟩=>by
 obtain⟨x,hx,hz⟩:=bind_some hz;cases hz;obtain⟨y,hy,hx⟩:=bind_some hx;cases hx;obtain⟨d,hd,hy⟩:=bind_some hy;refine⟨Hf,ρ,d,I,hd,λHf1 H1 v ex1 dv=>?_⟩;unfold toB at hy
 split at hy
 ·cases hy
  rw[dv.bl];exact q Hf1 H1 _ ex1 (zbb rfl)
 ·cases hy
theorem zbp:PA X [] (aV X.K B aN):=zdt.imp λσ H Q ⟨Hf,ρ,ds,I,hd,q⟩=>by cases hd;exact q Hf H [] (.refl I.fh) .nil
theorem zao(ha:PE X e (eV X.K B fa))(hr:PA X es (aV X.K B fr))(hs:starEach (e::es) X.env=(false,eval e X.env)::starEach es X.env:=by rfl):PA X (e::es) (aV X.K B (aC fa fr)):=(zcb ha hr hs).imp λσ H Q ⟨Hf,ρ,ds,I,hd,q⟩=>by
 obtain⟨d,h1,hd⟩:=bind_some hd;obtain⟨r,h2,hd⟩:=bind_some hd;cases hd;exact⟨Hf,ρ,d,I,h1,λHf1 H1 v ex1 dv=>⟨Hf1,ρ,r,I.ext ex1,h2,λHf2 H2 vs ex2 dvs=>q Hf2 H2 _ (ex1.trans ex2) (.cons (dv.same ex2.ff) dvs)⟩⟩
theorem zb6:PA X [] (aB X.K B aN):=ycf zbp
theorem zbw(ha:PE X e (eB X.K B fa))(hr:PA X es (aB X.K B fr))(hs:starEach (e::es) X.env=(false,eval e X.env)::starEach es X.env:=by rfl):PA X (e::es) (aB X.K B (aC fa fr)):=(zcb ha hr hs).imp λσ H Q ⟨Hf,ρ,ds,I,hd,q⟩=>by
 obtain⟨d,h1,hd⟩:=bind_some hd;obtain⟨r,h2,hd⟩:=bind_some hd;cases hd;exact⟨Hf,ρ,d,I,h1,λHf1 H1 v ex1 dv=>⟨Hf1,ρ,r,I.ext ex1,h2,λHf2 H2 vs ex2 dvs=>q Hf2 H2 _ (ex1.trans ex2) (.cons (dv.ext ex2) dvs)⟩⟩
noncomputable def zbd:List D->Option D:=λds=>if ds.length<=sizeLine then some (.tup ds) else none
noncomputable def za0:List D->Option D:=λds=>if ds.length<=sizeLine then some (.lst ds) else none
theorem zfo{x1}(h:PA X es (aV X.K B fr)):PE X (.Tuple es x1 pos) (eV X.K B (eN zbd fr)):=(zw3 h).imp λσ H Q ⟨Hf,ρ,z,I,hz,q⟩=>by
 obtain⟨ds,hd,hz⟩:=bind_some hz;unfold zbd at hz
 split at hz
 ·rename_i hl
  cases hz;refine⟨Hf,ρ,ds,I,hd,λHf1 H1 vs ex dvs=>⟨by rw[<-dvs.length];exact hl,λp hp=>?_⟩⟩
  have e2:=Ex.new (o:=.tup vs) ex.fh hp;exact q _ _ _ (ex.trans e2) (zgg (SqU.of zac) (dvs.same e2.ff))
 ·cases hz
theorem zfp(h:PA X es (aV X.K B fr)):PE X (.List es pos) (eV X.K B (eN za0 fr)):=(zm0 h).imp λσ H Q ⟨Hf,ρ,z,I,hz,q⟩=>by
 obtain⟨ds,hd,hz⟩:=bind_some hz;unfold za0 at hz
 split at hz
 ·rename_i hl
  cases hz;refine⟨Hf,ρ,ds,I,hd,λHf1 H1 vs ex dvs=>⟨by rw[<-dvs.length];exact hl,λp hp=>?_⟩⟩
  have e2:=Ex.new (o:=.lst vs) ex.fh hp;exact q _ _ _ (ex.trans e2) (zdl (SqL.of zac) (dvs.same e2.ff))
 ·cases hz
end
section
variable {κ α:Type}[DecidableEq κ]
noncomputable def zbx(m:List (κ×α))(k:κ):Option α:=(m.find? λkv=>decide (kv.1=k)).map (·.2)
noncomputable def zja(m:List (κ×α))(k:κ)(v:α):List (κ×α) :=
 if (m.any λkv=>decide (kv.1=k))=true then m.map (λkv=>if kv.1=k then (kv.1,v) else kv) else m++[(k,v)]
abbrev PKV(K:PySem.W.Frag)(H:Hp):List (κ×D)->List (κ×V)->Prop:=Paired λa b=>a.1=b.1/\Dn K H a.2 b.2
variable {K:PySem.W.Frag}{H:Hp}
theorem zre:∀{kvs:List (κ×V)}{ks:List κ}{ds:List D},kvs.map Prod.fst=ks->Dns K H ds (kvs.map Prod.snd)->PKV K H (ks.zip ds) kvs
 |[],_,_,e,p=>by subst e;cases p;exact .nil
 |kv::r,_,_,e,p=>by
  subst e;rw[ja]at p
  cases p with
  |cons a b=>exact .cons ⟨rfl,a⟩ (zre rfl b)
theorem PKV.fst:∀{m:List (κ×D)}{kvs:List (κ×V)},PKV K H m kvs->kvs.map Prod.fst=m.map Prod.fst
 |_,_,.nil=>rfl
 |_,_,.cons a b=>by rw[ja,ja,a.1,PKV.fst b]
theorem PKV.snd:∀{m:List (κ×D)}{kvs:List (κ×V)},PKV K H m kvs->Dns K H (m.map Prod.snd) (kvs.map Prod.snd)
 |_,_,.nil=>.nil
 |_,_,.cons a b=>.cons a.2 (PKV.snd b)
theorem PKV.any:∀{m:List (κ×D)}{kvs:List (κ×V)} (k:κ),PKV K H m kvs->(kvs.any λkv=>decide (kv.1=k))=m.any λkv=>decide (kv.1=k)
 |_,_,_,.nil=>rfl
 |_,_,k,.cons a b=>by rw[bg,bg,a.1,PKV.any k b]
theorem PKV.val:∀{m:List (κ×D)}{kvs:List (κ×V)} (k:κ),PKV K H m kvs->(zbx m k=none->zej kvs k=none)/\∀d,zbx m k=some d->∃v,zej kvs k=some v/\Dn K H d v
 |_,_,k,.nil=>⟨λ_=>rfl,λd h=>by cases h⟩
 |a::m,b::kvs,k,.cons h t=>by
  have ih:=PKV.val k t;by_cases e:b.1=k
  ·have e2:a.1=k:=h.1.trans e
   refine⟨λz=>?_,λd z=>?_⟩
   ·simp[zbx,mf,e2]at z
   ·simp[zbx,mf,e2]at z
    subst z;exact⟨b.2,zdd e,h.2⟩
  ·have e2:¬a.1=k:=λz=>e (h.1.symm.trans z)
   have e3:zbx (a::m) k=zbx m k:=by simp[zbx,mf,e2]
   rw[e3,zcu e];exact ih
theorem PKV.repl{d:D}{v:V}(k:κ)(hd:Dn K H d v):∀{m:List (κ×D)}{kvs:List (κ×V)},PKV K H m kvs->PKV K H (m.map λkv=>if kv.1=k then (kv.1,d) else kv) (kvs.map λkv=>if kv.1=k then (kv.1,v) else kv)
 |_,_,.nil=>.nil
 |a::m,b::kvs,.cons h t=>by
  refine .cons ?_ (PKV.repl k hd t);by_cases e:b.1=k
  ·dsimp only;rw[ba e,ba (h.1.trans e)];exact⟨h.1,hd⟩
  ·dsimp only;rw[oa e,oa (λz=>e (h.1.symm.trans z))];exact h
theorem PKV.put{d:D}{v:V}(k:κ){m:List (κ×D)}{kvs:List (κ×V)}(h:PKV K H m kvs)(hd:Dn K H d v):PKV K H (zja m k d) (zh8 kvs k v):=by
 unfold zja zh8;rw[PKV.any k h];split
 ·exact PKV.repl k hd h
 ·exact h.zsnoc ⟨rfl,hd⟩
end
noncomputable def zlw:D->Option Key
 |.sc (.int i)=>some (.inl i)
 |.sc (.str x)=>some (.inr x)
 |_=>none
noncomputable def zgi:List D->Option (List Key)
 |[]=>some []
 |d::r=>(zlw d).bind λk=>(zgi r).map (k::·)
noncomputable def zfh:D->Option (List Key)
 |.tup ds=>zgi ds
 |_=>none
section
variable {K:PySem.W.Frag}{Hf H:Hp}
theorem z4s{d:D}{x:V}{k:Key}(h:Dn K H d x)(e:zlw d=some k):x=kV k:=by
 unfold zlw at e
 split at e
 ·cases e;exact h.sc.2
 ·cases e;exact h.sc.2
 ·cases e
theorem znb{d:D}{x:V}{k:Key}(h:DnB K Hf H d x)(e:zlw d=some k):x=kV k:=by
 unfold zlw at e
 split at e
 ·cases e;exact h.sc.2
 ·cases e;exact h.sc.2
 ·cases e
theorem zrf:∀{ds:List D}{xs:List V}{ks:List Key},Dns K H ds xs->zgi ds=some ks->xs=ks.map kV
 |_,_,_,.nil,e=>by cases e;rfl
 |_,_,_,.cons a b,e=>by
  unfold zgi at e;obtain⟨k,h1,e⟩:=bind_some e;rename_i r _ _
  cases h2:zgi r with
  |none=>rw[h2]at e;cases e
  |some ks =>
   rw[h2]at e;cases e;rw[ja,z4s a h1,zrf b h2]
theorem zib{d:D}{x:V}{k:List Key}(h:DnB K Hf H d x)(e:zfh d=some k):∃b,x=.ref b/\Hf b=some (.tup (k.map kV)):=by
 unfold zfh at e
 split at e
 ·obtain⟨a,xs,rfl,h1,h2⟩:=h.tupU
  have h1:Hf a=some (.tup xs):=h1;rw[zrf h2 e]at h1;exact⟨a,rfl,h1⟩
 ·cases e
end
noncomputable def zeh(d k:D):Option (Option D):=match d with
 |.dk ks ds=>(zlw k).map λkey=>zbx (ks.zip ds) key
 |.dt ks ds=>(zfh k).map λkey=>zbx (ks.zip ds) key
 |_=>none
theorem zic{K:PySem.W.Frag}{Hf H:Hp}{d k:D}{x y:V}{o:Option D}(s:zav Hf H)(hd:DnB K Hf H d x)(hk:DnB K Hf H k y)(h:zeh d k=some o):∃a r,x=.ref a/\IsD H a/\zls H a y r/\(o=none->r=none)/\∀z,o=some z->∃v,r=some v/\Dn K Hf z v:=by
 unfold zeh at h
 split at h
 ·obtain⟨key,h1,h2⟩:=db.mp h
  obtain⟨a,kvs,rfl,h3,h4,h5⟩:=hd.dk s;have e:=znb hk h1;subst e;have p:=(zre h4 h5).val key;rw[h2]at p;exact⟨a,_,rfl,.inl ⟨kvs,.inl h3⟩,zls.k h3,p.1,p.2⟩
 ·obtain⟨key,h1,h2⟩:=db.mp h
  obtain⟨a,kvs,rfl,h3,h4,h5⟩:=hd.dt s;obtain⟨b,rfl,hb⟩:=zib hk h1;have p:=(zre h4 h5).val key;rw[h2]at p;exact⟨a,_,rfl,.inr ⟨kvs,.inl h3⟩,zls.t h3 (s _ _ hb),p.1,p.2⟩
 ·cases h
noncomputable def z0i(neg:Bool):R2:=λx y H Q=>∃a o,y=.ref a/\zls H a x o/\Q (.bl (if neg then !o.isSome else o.isSome)) H
section
variable {X:Cx}
theorem z4t(hu:X.A.units+1<cLine):OpR X (compareOp .In) (z0i false):=by
 intro pins s σ H x y v u Q I rx ry ⟨a,o,e,g,q⟩;subst e;obtain rfl:u=Value.ref a:=ry;exact yce hu I g rx λs' I'=>⟨.bl o.isSome,H,I',rfl,q⟩
theorem zrg(hu:X.A.units+1<cLine):OpR X (compareOp .NotIn) (z0i true):=by
 intro pins s σ H x y v u Q I rx ry ⟨a,o,e,g,q⟩;subst e;obtain rfl:u=Value.ref a:=ry;exact z0c hu I g rx λs' I'=>⟨.bl (!o.isSome),H,I',rfl,q⟩
end
section
variable {X:Cx}
noncomputable def z0j(K:PySem.W.Frag):R2:=λx y H Q=>match x,y with|.ref l,.ref b=>∃xs zs,SqL K H l xs/\SqL K H b zs/\xs.length+zs.length<=sizeLine/\∀p,H p=none->Q (.ref p) (upd H p (.lst (xs++zs)))|_,_=>False
theorem z0k:OpR X (binaryOp .Add) (z0j X.K):=by
 intro pins s σ H x y v u Q I rx ry h;unfold z0j at h
 split at h
 ·rename_i l b
  obtain⟨xs,zs,hl,hb,hz,q⟩:=h;cases rx;cases ry;obtain⟨its,r,pl,_⟩:=I.list hl;obtain⟨its2,r2,pl2,_⟩:=I.list hb;have l1:=r.length;have l2:=r2.length;obtain⟨⟨cls,dd,data,sl⟩,ho,hc,n,hd⟩:=pl.isList;obtain⟨⟨cls2,dd2,data2,sl2⟩,ho2,hc2,n2,hd2⟩:=pl2.isList;simp only at hc hd hc2 hd2;subst hc hd hc2 hd2;refine concat_meets ⟨_,ho,rfl⟩ ⟨_,ho2,rfl⟩ noFill_list_add seq_list_add PySem.F.slot_list_add PySem.F.entry_list_add (PySem.F.args_list_add_2 _ _) (list_addW l b its.toArray its2.toArray n n2 dd dd2 sl sl2 (by simp;omega)) ⟨ho,ho2,?_⟩;have ea:its.toArray++its2.toArray=(its++its2).toArray:=by simp
  rw[ea];exact⟨.ref _,_,I.lnew (t':=s.toks) (r.append r2) (by rw[jc];omega),rfl,q _ I.fresh⟩
 ·exact h.elim
mutual
noncomputable def deq:D->D->Bool
 |.sc a,.sc b=>eqV a b
 |.tup ds,.tup es=>zb7 ds es
 |.lst ds,.lst es=>zb7 ds es
 |_,_=>false
noncomputable def zb7:List D->List D->Bool
 |[],[]=>true
 |a::as,b::bs=>deq a b && zb7 as bs
 |_,_=>false
end
theorem zrh:∀{k:Nat}{h:Heap}{d e:D}{u v:Value},HD h k d u->HD h k e v->eqD k d e=deq d e:=by
 intro k
 induction k with
 |zero =>
  intro h d e u v h1 h2
  cases d with
  |sc a =>
   cases e with
   |sc b=>rw[deq];rfl
   |_=>exact h2.elim
  |_=>exact h1.elim
 |succ k ih =>
  intro h d e u v h1 h2
  have all:∀{ds es:List D} {us vs:List Value},Paired (HD h k) ds us->Paired (HD h k) es vs->zg9 (eqD k) ds es=zb7 ds es:=by
   intro ds es us vs p
   induction p generalizing es vs with
   |nil=>intro q;cases q <;> simp[zg9,zb7]
   |cons a b ih2 =>
    intro q
    cases q with
    |nil=>simp[zg9,zb7]
    |cons a' b' =>
     rw[zg9,zb7,ih a a',ih2 b']
  cases d with
  |sc a=>cases e <;> simp[eqD,deq]
  |tup ds =>
   cases e with
   |tup es =>
    obtain⟨_,_,_,_,p⟩:=h1;obtain⟨_,_,_,_,p'⟩:=h2;rw[deq];exact all p p'
   |_=>simp[eqD,deq]
  |lst ds =>
   cases e with
   |lst es =>
    obtain⟨_,_,_,_,p⟩:=h1;obtain⟨_,_,_,_,p'⟩:=h2;rw[deq];exact all p p'
   |_=>simp[eqD,deq]
  |_=>exact h1.elim
noncomputable def dOk:Nat->D->Bool
 |_,.sc _=>true
 |0,_=>false
 |n+1,.tup ds=>ds.all (dOk n)
 |n+1,.lst ds=>ds.all (dOk n)
 |_+1,_=>false
theorem Dn.at{K:PySem.W.Frag}{H:Hp}:∀{n:Nat}{d:D}{x:V},Dn K H d x->dOk n d=true->Den K H n d x:=by
 intro n
 induction n with
 |zero =>
  intro d x h hd
  cases d with
  |sc v=>exact h.sc
  |_=>cases hd
 |succ n ih =>
  intro d x h hd
  have go:∀{ds:List D} {xs:List V},Dns K H ds xs->ds.all (dOk n)=true->Paired (Den K H n) ds xs:=by
   intro ds xs p
   induction p with
   |nil=>intro _;exact .nil
   |cons a b ih2 =>
    intro hh;rw[ng,gc]at hh;exact .cons (ih a hh.1) (ih2 hh.2)
  cases d with
  |sc v=>exact h.sc
  |tup ds=>obtain⟨a,xs,e,q,p⟩:=h.tup;exact⟨a,xs,e,q,go p hd⟩
  |lst ds=>obtain⟨a,xs,e,q,p⟩:=h.lst;exact⟨a,xs,e,q,go p hd⟩
  |_=>cases hd
theorem zxg{h:Heap}:∀{k:Nat}{d e:D}{u:Value},HD h k d u->HD h k e u->d=e:=by
 intro k
 induction k with
 |zero =>
  intro d e u h1 h2
  cases d with
  |sc v =>
   cases e with
   |sc w=>obtain⟨f,r⟩:=h1;obtain⟨f',r'⟩:=h2;rw[r.inj r']
   |_=>exact h2.elim
  |_=>exact h1.elim
 |succ k ih =>
  intro d e u h1 h2
  have all:∀{ds es:List D} {us:List Value},Paired (HD h k) ds us->Paired (HD h k) es us->ds=es:=by
   intro ds es us p
   induction p generalizing es with
   |nil=>intro q;cases q;rfl
   |cons a b ih2=>intro q;cases q with|cons a' b'=>rw[ih a a',ih2 b']
  cases d with
  |sc v =>
   obtain⟨f,r⟩:=h1
   cases e with
   |sc w=>obtain⟨f',r'⟩:=h2;rw[r.inj r']
   |tup es=>obtain⟨a,its,q,_⟩:=h2;subst q;exact(zb2 f r).elim
   |lst es=>obtain⟨a,its,q,_⟩:=h2;subst q;exact(zb2 f r).elim
   |_=>exact h2.elim
  |tup ds =>
   obtain⟨a,its,q,t1,p1⟩:=h1;subst q
   cases e with
   |sc w=>obtain⟨f,r⟩:=h2;exact(zb2 f r).elim
   |tup es=>obtain⟨a',its',q,t2,p2⟩:=h2;cases q;have q:=zqu t1 t2;subst q;rw[all p1 p2]
   |lst es=>obtain⟨a',its',q,t2,p2⟩:=h2;cases q;exact(zdb t1 t2).elim
   |_=>exact h2.elim
  |lst ds =>
   obtain⟨a,its,q,t1,p1⟩:=h1;subst q
   cases e with
   |sc w=>obtain⟨f,r⟩:=h2;exact(zb2 f r).elim
   |lst es=>obtain⟨a',its',q,t2,p2⟩:=h2;cases q;have q:=zqv t1 t2;subst q;rw[all p1 p2]
   |tup es=>obtain⟨a',its',q,t2,p2⟩:=h2;cases q;exact(zdb t2 t1).elim
   |_=>exact h2.elim
  |_=>exact h1.elim
open Classical in
noncomputable def eqF(h:Heap)(k:Nat)(e:D)(w:Value):Bool:=if z:∃d,HD h k d w then eqD k z.choose e else false
theorem zxh{h:Heap}{k:Nat}{d e:D}{w:Value}(x:HD h k d w):eqF h k e w=eqD k d e:=by
 have z:∃d,HD h k d w:=⟨d,x⟩
 unfold eqF;rw[dif_pos z,zxg z.choose_spec x]
noncomputable def z0l(K:PySem.W.Frag)(k:Nat)(neg:Bool):R2:=λx y H Q=>∃p xs ds e,y=.ref p/\(SqL K H p xs\/SqT K H p xs)/\Den K H k e x/\Paired (Den K H k) ds xs/\Q (.bl (if neg then !(ds.any λd=>eqD k d e) else ds.any λd=>eqD k d e)) H
theorem zgj{h:Heap}{k:Nat}{e:D}:∀{ds:List D}{us:List Value},Paired (HD h k) ds us->us.any (eqF h k e)=ds.any λd=>eqD k d e
 |_,_,.nil=>rfl
 |_,_,.cons a b=>by rw[bg,bg,zxh a,zgj b]
theorem zj2{A:Around}{s:Shared}{k:Nat}{e:D}{v:Value}(hv:HD s.heap k e v)(hu:A.units+k<cLine):∀{ds:List D}{us:List Value},Paired (HD s.heap k) ds us->∀u∈us,SeqAt.EqAt A s u v (eqF s.heap k e u)
 |_,_,.nil=>λu hu=>by cases hu
 |_,_,.cons a b=>λu hm=>by
  rcases yb.mp hm with rfl|hm
  ·rw[zxh a];exact zh6 a hv hu
  ·exact zj2 hv hu b u hm
theorem Inv.dens{pins:List (Addr×Obj)}{σ:St}{H:Hp}{s:Shared}{k:Nat}(I:Inv X pins σ H s){ds:List D}{xs:List V}{us:List Value}(p:Paired (Den X.K H k) ds xs)(r:zbs xs us):Paired (HD s.heap k) ds us :=
 Paired.imp2 (F:=zbf) (G:=HD s.heap k) (R:=Den X.K H k) (λx u d r q=>I.den q r) r p
theorem z4u(k:Nat)(hu:X.A.units+(k+1)<cLine):OpR X (compareOp .In) (z0l X.K k false):=by
 intro pins s σ H x y v u Q I rx ry h;obtain⟨p,xs,ds,e,rfl,hq,hx,hd,q⟩:=h;cases ry;have hv:=I.den hx rx;rcases hq with hq|hq
 ·obtain⟨its,r,pl,hz⟩:=I.list hq
  have hp:=I.dens hd r;refine SeqAt.in_listAt (eqF s.heap k e) pl.isList (λw hw=>zj2 (A:=X.A.in1) hv (by show X.A.units+1+k<cLine;omega) hp w (by simpa using hw)) ⟨.bl _,H,I,rfl,?_⟩;rw[show its.toArray.any (eqF s.heap k e)=its.any (eqF s.heap k e) by simp,zgj hp];exact q
 ·obtain⟨its,r,pl,hz⟩:=I.tuple hq
  have hp:=I.dens hd r;refine SeqAt.in_tupleAt (eqF s.heap k e) pl (λw hw=>zj2 (A:=X.A.in1) hv (by show X.A.units+1+k<cLine;omega) hp w (by simpa using hw)) ⟨.bl _,H,I,rfl,?_⟩;rw[show its.toArray.any (eqF s.heap k e)=its.any (eqF s.heap k e) by simp,zgj hp];exact q
theorem zri(k:Nat)(hu:X.A.units+(k+1)<cLine):OpR X (compareOp .NotIn) (z0l X.K k true):=by
 intro pins s σ H x y v u Q I rx ry h;obtain⟨p,xs,ds,e,rfl,hq,hx,hd,q⟩:=h;cases ry;have hv:=I.den hx rx;rcases hq with hq|hq
 ·obtain⟨its,r,pl,hz⟩:=I.list hq
  have hp:=I.dens hd r;refine SeqAt.notIn_listAt (eqF s.heap k e) pl.isList (λw hw=>zj2 (A:=X.A.in1) hv (by show X.A.units+1+k<cLine;omega) hp w (by simpa using hw)) ⟨.bl _,H,I,rfl,?_⟩;rw[show its.toArray.any (eqF s.heap k e)=its.any (eqF s.heap k e) by simp,zgj hp];exact q
 ·obtain⟨its,r,pl,hz⟩:=I.tuple hq
  have hp:=I.dens hd r;refine SeqAt.notIn_tupleAt (eqF s.heap k e) pl (λw hw=>zj2 (A:=X.A.in1) hv (by show X.A.units+1+k<cLine;omega) hp w (by simpa using hw)) ⟨.bl _,H,I,rfl,?_⟩;rw[show its.toArray.any (eqF s.heap k e)=its.any (eqF s.heap k e) by simp,zgj hp];exact q
noncomputable abbrev LV:Nat:=9
theorem zhr{K:PySem.W.Frag}{H:Hp}:∀{k:Nat}{d e:D}{x y:V},Den K H k d x->Den K H k e y->eqD k d e=deq d e:=by
 intro k
 induction k with
 |zero =>
  intro d e u v h1 h2
  cases d with
  |sc a =>
   cases e with
   |sc b=>rw[deq];rfl
   |_=>exact h2.elim
  |_=>exact h1.elim
 |succ k ih =>
  intro d e u v h1 h2
  have all:∀{ds es:List D} {us vs:List V},Paired (Den K H k) ds us->Paired (Den K H k) es vs->zg9 (eqD k) ds es=zb7 ds es:=by
   intro ds es us vs p
   induction p generalizing es vs with
   |nil=>intro q;cases q <;> simp[zg9,zb7]
   |cons a b ih2 =>
    intro q
    cases q with
    |nil=>simp[zg9,zb7]
    |cons a' b'=>rw[zg9,zb7,ih a a',ih2 b']
  cases d with
  |sc a=>cases e <;> simp[eqD,deq]
  |tup ds =>
   cases e with
   |tup es=>obtain⟨_,_,_,_,p⟩:=h1;obtain⟨_,_,_,_,p'⟩:=h2;rw[deq];exact all p p'
   |_=>simp[eqD,deq]
  |lst ds =>
   cases e with
   |lst es=>obtain⟨_,_,_,_,p⟩:=h1;obtain⟨_,_,_,_,p'⟩:=h2;rw[deq];exact all p p'
   |_=>simp[eqD,deq]
  |_=>exact h1.elim
noncomputable def scK:V->Nat
 |.int _=>1
 |.str _=>2
 |.bl _=>3
 |_=>0
noncomputable def gEq(d e:D):Option Bool:=match d,e with
 |.sc a,.sc b=>if scK a=scK b/\scK a≠0 then some (eqV a b) else none
 |.tup ds,.tup es=>if dOk LV (.tup ds) && dOk LV (.tup es) then some (zb7 ds es) else none
 |.lst ds,.lst es=>if dOk LV (.lst ds) && dOk LV (.lst es) then some (zb7 ds es) else none
 |_,_=>none
noncomputable def zcc(d e:D):Option D:=(gEq d e).map D.bl
noncomputable def zdm(d e:D):Option D:=(gEq d e).map λb=>D.bl (!b)
theorem zb0{α:Type}[BEq α][LawfulBEq α](i j:α)[inst:Decidable (i=j)]:decide (i=j)=(i == j):=by
 by_cases h:i=j
 ·simp[h]
 ·rw[md h];exact(pi.mpr h).symm
theorem znc{n:Nat}(hr:Room n X.A):OpR X (compareOp .Eq) (λx y H Q=>kEq false x y H Q\/z8w X.K 8 x y H Q):=ycb.or (z3t 8 (by have:=hr.units;omega))
theorem z0m{n:Nat}(hr:Room n X.A):OpR X (compareOp .NotEq) (λx y H Q=>kEq true x y H Q\/z8x X.K 8 x y H Q):=ycc.or (z3u 8 (by have:=hr.units;omega))
theorem zxi{K:PySem.W.Frag}{Hf H:Hp}{a b x y:V}{neg z:Bool}{Q:VK}(hx:x=a)(hy:y=b)(h:(if scK a=scK b/\scK a≠0 then some (eqV a b) else none)=some z)(q:Q (.bl (if neg then !z else z)) H):kEq neg x y H Q:=by
 subst hx hy
 split at h
 ·rename_i hs
  cases h
  cases x with
  |bl i =>
   cases y with
   |bl j=>show Q (V.bl (if neg=true then !decide (i=j) else decide (i=j))) H;rw[zb0 i j];exact q
   |_=>exact absurd hs.1 (by simp[scK])
  |int i =>
   cases y with
   |int j=>show Q (V.bl (if neg=true then !decide (i=j) else decide (i=j))) H;rw[zb0 i j];exact q
   |_=>exact absurd hs.1 (by simp[scK])
  |str i =>
   cases y with
   |str j=>show Q (V.bl (if neg=true then !decide (i=j) else decide (i=j))) H;rw[zb0 i j];exact q
   |_=>exact absurd hs.1 (by simp[scK])
  |_=>exact absurd rfl hs.2
 ·cases h
theorem zep{K:PySem.W.Frag}:P2 K (λx y H Q=>kEq false x y H Q\/z8w K 8 x y H Q) zcc:=by
 intro Hf H x y d e z Q s hd he hz q;unfold zcc at hz
 cases hg:gEq d e with
 |none=>rw[hg]at hz;cases hz
 |some b =>
  rw[hg]at hz;have hz:D.bl b=z:=vc hz;subst hz;have q:=q Hf H (.bl b) (.refl s) (zbb rfl);unfold gEq at hg
  split at hg
  ·exact .inl (zxi (K:=K) (Hf:=Hf) hd.sc.2 he.sc.2 hg q)
  ·split at hg
   ·rename_i hk
    rw[gc]at hk;cases hg;have h1:=(hd.whole s).at hk.1;have h2:=(he.whole s).at hk.2;refine .inr ⟨_,_,h1,h2,rfl,?_⟩;rw[zhr h1 h2,deq];exact q
   ·cases hg
  ·split at hg
   ·rename_i hk
    rw[gc]at hk;cases hg;have h1:=(hd.whole s).at hk.1;have h2:=(he.whole s).at hk.2;refine .inr ⟨_,_,h1,h2,rfl,?_⟩;rw[zhr h1 h2,deq];exact q
   ·cases hg
  ·cases hg
theorem zlx{K:PySem.W.Frag}:P2 K (λx y H Q=>kEq true x y H Q\/z8x K 8 x y H Q) zdm:=by
 intro Hf H x y d e z Q s hd he hz q;unfold zdm at hz
 cases hg:gEq d e with
 |none=>rw[hg]at hz;cases hz
 |some b =>
  rw[hg]at hz;have hz:D.bl (!b)=z:=vc hz;subst hz;have q:=q Hf H (.bl (!b)) (.refl s) (zbb rfl);unfold gEq at hg
  split at hg
  ·exact .inl (zxi (K:=K) (Hf:=Hf) hd.sc.2 he.sc.2 hg q)
  ·split at hg
   ·rename_i hk
    rw[gc]at hk;cases hg;have h1:=(hd.whole s).at hk.1;have h2:=(he.whole s).at hk.2;refine .inr ⟨_,_,h1,h2,rfl,?_⟩;rw[zhr h1 h2,deq];exact q
   ·cases hg
  ·split at hg
   ·rename_i hk
    rw[gc]at hk;cases hg;have h1:=(hd.whole s).at hk.1;have h2:=(he.whole s).at hk.2;refine .inr ⟨_,_,h1,h2,rfl,?_⟩;rw[zhr h1 h2,deq];exact q
   ·cases hg
  ·cases hg
noncomputable def gIn(d e:D):Option Bool:=match e with
 |.sc (.str t)=>match d with|.sc (.str x)=>some (Txt.contains t x)|_=>none
 |.lst es=>if dOk LV d && es.all (dOk LV) then some (es.any λz=>deq z d) else none
 |.tup es=>if dOk LV d && es.all (dOk LV) then some (es.any λz=>deq z d) else none
 |.dk ks es=>(zeh (.dk ks es) d).map Option.isSome
 |.dt ks es=>(zeh (.dt ks es) d).map Option.isSome
 |_=>none
noncomputable def zj3(d e:D):Option D:=(gIn d e).map D.bl
noncomputable def za1(d e:D):Option D:=(gIn d e).map λb=>D.bl (!b)
theorem ycg{n:Nat}(hr:Room n X.A):OpR X (compareOp .In) (λx y H Q=>zup false x y H Q\/z0l X.K 9 false x y H Q\/z0i false x y H Q):=z89.or ((z4u 9 (by have:=hr.units;omega)).or (z4t (by have:=hr.units;omega)))
theorem zrj{n:Nat}(hr:Room n X.A):OpR X (compareOp .NotIn) (λx y H Q=>zup true x y H Q\/z0l X.K 9 true x y H Q\/z0i true x y H Q):=zuq.or ((zri 9 (by have:=hr.units;omega)).or (zrg (by have:=hr.units;omega)))
theorem Dns.at{K:PySem.W.Frag}{H:Hp}{n:Nat}:∀{ds:List D}{xs:List V},Dns K H ds xs->ds.all (dOk n)=true->Paired (Den K H n) ds xs
 |_,_,.nil,_=>.nil
 |_,_,.cons a b,h=>by
  rw[ng,gc]at h;exact .cons (a.at h.1) (Dns.at b h.2)
theorem zly{K:PySem.W.Frag}{H:Hp}{k:Nat}{e:D}{y:V}(he:Den K H k e y):∀{ds:List D}{xs:List V},Paired (Den K H k) ds xs->(ds.any λd=>eqD k d e)=ds.any λd=>deq d e
 |_,_,.nil=>rfl
 |_,_,.cons a b=>by rw[bg,bg,zhr a he,zly he b]
theorem zxj{K:PySem.W.Frag}{Hf H:Hp}{x y:V}{d e:D}{neg b:Bool}{Q:VK}(s:zav Hf H)(hd:DnB K Hf H d x)(he:DnB K Hf H e y)(hg:gIn d e=some b)(q:Q (.bl (if neg then !b else b)) H):zup neg x y H Q\/z0l K 9 neg x y H Q\/z0i neg x y H Q:=by
 unfold gIn at hg
 split at hg
 ·split at hg
  ·cases hg
   rw[hd.sc.2,he.sc.2];exact .inl q
  ·cases hg
 ·split at hg
  ·rename_i es hk
   rw[gc]at hk;cases hg;obtain⟨a,xs,rfl,hq,hs⟩:=he.lst s;have h1:=(hd.whole s).at hk.1;have h2:=Dns.at (hs.same s) hk.2;exact .inr (.inl ⟨a,xs,es,d,rfl,.inl hq,h1,h2,by rw[zly h1 h2];exact q⟩)
  ·cases hg
 ·split at hg
  ·rename_i es hk
   rw[gc]at hk;cases hg;obtain⟨a,xs,rfl,hq,hs⟩:=he.tup;have h1:=(hd.whole s).at hk.1;have h2:=Dns.at (hs.same s) hk.2;exact .inr (.inl ⟨a,xs,es,d,rfl,.inr (s.seqT hq),h1,h2,by rw[zly h1 h2];exact q⟩)
  ·cases hg
 ·obtain⟨o,h1,h2⟩:=db.mp hg
  obtain⟨a,r,rfl,_,g,n1,n2⟩:=zic s he hd h1;refine .inr (.inr ⟨a,r,rfl,g,?_⟩)
  have e:r.isSome=b:=by
   rw[<-h2]
   cases o with
   |none=>rw[n1 rfl];rfl
   |some z=>obtain⟨v,e,_⟩:=n2 z rfl;rw[e];rfl
  rw[e];exact q
 ·obtain⟨o,h1,h2⟩:=db.mp hg
  obtain⟨a,r,rfl,_,g,n1,n2⟩:=zic s he hd h1;refine .inr (.inr ⟨a,r,rfl,g,?_⟩)
  have e:r.isSome=b:=by
   rw[<-h2]
   cases o with
   |none=>rw[n1 rfl];rfl
   |some z=>obtain⟨v,e,_⟩:=n2 z rfl;rw[e];rfl
  rw[e];exact q
 ·cases hg
theorem z9i{K:PySem.W.Frag}:P2 K (λx y H Q=>zup false x y H Q\/z0l K 9 false x y H Q\/z0i false x y H Q) zj3:=by
 intro Hf H x y d e z Q s hd he hz q;unfold zj3 at hz
 cases hg:gIn d e with
 |none=>rw[hg]at hz;cases hz
 |some b =>
  rw[hg]at hz;have hz:D.bl b=z:=vc hz;subst hz;exact zxj s hd he hg (q Hf H (.bl b) (.refl s) (zbb rfl))
theorem znd{K:PySem.W.Frag}:P2 K (λx y H Q=>zup true x y H Q\/z0l K 9 true x y H Q\/z0i true x y H Q) za1:=by
 intro Hf H x y d e z Q s hd he hz q;unfold za1 at hz
 cases hg:gIn d e with
 |none=>rw[hg]at hz;cases hz
 |some b =>
  rw[hg]at hz;have hz:D.bl (!b)=z:=vc hz;subst hz;exact zxj s hd he hg (q Hf H (.bl (!b)) (.refl s) (zbb rfl))
end
section
variable {X:Cx}{B:Bs}{K:PySem.W.Frag}
noncomputable def gII(h:Int->Int->V)(d e:D):Option D:=match d,e with|.sc (.int i),.sc (.int j)=>some (.sc (h i j))|_,_=>none
noncomputable def zgk(c:Int->Int->Bool)(h:Int->Int->V)(d e:D):Option D:=match d,e with|.sc (.int i),.sc (.int j)=>if c i j=true then some (.sc (h i j)) else none|_,_=>none
theorem zo7{h:Int->Int->V}(hf:∀i j,zcg (h i j)=true):P2 K (k20 h) (gII h):=by
 intro Hf H x y d e z Q s hd he hz q;unfold gII at hz
 split at hz
 ·cases hz
  rw[hd.sc.2,he.sc.2];exact q Hf H _ (.refl s) (zbb (hf _ _))
 ·cases hz
theorem zne{C:Int->Int->Prop}{c:Int->Int->Bool}{h:Int->Int->V}(hc:∀i j,c i j=true->C i j)(hf:∀i j,zcg (h i j)=true):P2 K (k2 C h) (zgk c h):=by
 intro Hf H x y d e z Q s hd he hz q;unfold zgk at hz
 split at hz
 ·split at hz
  ·rename_i hk
   cases hz;rw[hd.sc.2,he.sc.2]
   exact⟨hc _ _ hk,q Hf H _ (.refl s) (zbb (hf _ _))⟩
  ·cases hz
 ·cases hz
noncomputable def zid:=gII λi j=>.int (i - j)
noncomputable def gLe:=gII λi j=>.bl (decide (i<=j))
noncomputable def gGt:=gII λi j=>.bl (decide (j<i))
noncomputable def gGe:=gII λi j=>.bl (decide (j<=i))
noncomputable def zhd(a b:Int):Bool:=!(decide (Builtin.Int.intBits a > shortFactorBits) && decide (Builtin.Int.intBits b > shortFactorBits) && Builtin.Int.intTooBig (Builtin.Int.intBits a+Builtin.Int.intBits b))
theorem z0n:OpR X (binaryOp .Mult) (rI (λi j=>zhd i j=true) λi j=>.int (i * j)):=opI λi j _ _ _ _ _ hc q=>mul_int q (by unfold IntMulOk;intro h;unfold zhd at hc;rw[h]at hc;cases hc)
noncomputable def zcm:=zgk zhd λi j=>.int (i * j)
noncomputable def zdf:=zgk (λi j=>decide (0<j/\j<1073741824)) λi j=>.int (i / j)
noncomputable def zb5:=zgk (λ_ j=>decide (0<j)) λi j=>.int (i % j)
noncomputable def zrk:=zgk (λi j=>decide (0<=j/\j<=1000000/\i.natAbs<2 ^ 64)) λi j=>.int (i ^ j.toNat)
theorem zrl:P2 K (k20 λi j=>.int (i - j)) zid:=zo7 λ_ _=>rfl
theorem z0o:P2 K (k20 λi j=>.bl (decide (j<i))) gGt:=zo7 λ_ _=>rfl
theorem z9j:P2 K (k20 λi j=>.bl (decide (j<=i))) gGe:=zo7 λ_ _=>rfl
theorem zdx:P2 K (k2 (λi j=>zhd i j=true) λi j=>.int (i * j)) zcm:=zne (λ_ _ h=>h) λ_ _=>rfl
theorem zcn:P2 K (k2 z8k λi j=>.int (i / j)) zdf:=zne (λ_ _ h=>lc (p:=_/\_) h) λ_ _=>rfl
theorem zbj:P2 K (k2 (λ_ j=>0<j) λi j=>.int (i % j)) zb5:=zne (λ_ _ h=>lc h) λ_ _=>rfl
theorem zxk:P2 K (k2 z8l λi j=>.int (i ^ j.toNat)) zrk:=zne (λ_ _ h=>lc (p:=_/\_/\_) h) λ_ _=>rfl
theorem zfi:OpR X (binaryOp .Mult) (k2 (λi j=>zhd i j=true) λi j=>.int (i * j)):=zuo z0n
noncomputable def zbg(d e:D):Option D:=match d,e with
 |.sc (.int i),.sc (.int j)=>some (.int (i+j))
 |.sc (.str i),.sc (.str j)=>if i.length+j.length<=sizeLine then some (.sc (.str (i++j))) else none
 |.lst ds,.lst es=>if ds.length+es.length<=sizeLine then some (.lst (ds++es)) else none
 |_,_=>none
noncomputable def ybh(K:PySem.W.Frag):R2:=λx y H Q=>k20 (λi j=>.int (i+j)) x y H Q\/zz0 x y H Q\/z0j K x y H Q
theorem zbk:OpR X (binaryOp .Add) (ybh X.K):=z8y.or (z33.or z0k)
theorem zau:P2 K (ybh K) zbg:=by
 intro Hf H x y d e z Q s hd he hz q;unfold zbg at hz
 split at hz
 ·cases hz
  rw[hd.sc.2,he.sc.2];exact .inl (q Hf H _ (.refl s) (zbb rfl))
 ·split at hz
  ·rename_i hk
   cases hz;rw[hd.sc.2,he.sc.2]
   exact .inr (.inl ⟨hk,q Hf H _ (.refl s) (zbb rfl)⟩)
  ·cases hz
 ·split at hz
  ·rename_i hk
   cases hz;obtain⟨a,xs,rfl,h1,h2⟩:=hd.lst s
   obtain⟨b,ys,rfl,h3,h4⟩:=he.lst s;refine .inr (.inr ⟨xs,ys,h1,h3,by rw[<-h2.length,<-h4.length];exact hk,λp hp=>?_⟩);have e2:=Ex.new (o:=.lst (xs++ys)) s hp;exact q _ _ _ e2 (zdl (SqL.of zac) ((h2.zapp h4).zmap λ_ _ z=>z.same e2.ff))
  ·cases hz
 ·cases hz
mutual
noncomputable def dlt:D->D->Bool
 |.sc a,.sc b=>ltV a b
 |.tup ds,.tup es=>zdr ds es
 |.lst ds,.lst es=>zdr ds es
 |_,_=>false
noncomputable def zdr:List D->List D->Bool
 |[],[]=>false
 |[],_::_=>true
 |_::_,[]=>false
 |a::as,b::bs=>if deq a b=true then zdr as bs else dlt a b
end
mutual
noncomputable def zb9:D->D->Bool
 |.sc a,.sc b=>zun a b
 |.tup ds,.tup es=>zdn ds es
 |.lst ds,.lst es=>zdn ds es
 |_,_=>false
noncomputable def zdn:List D->List D->Bool
 |a::as,b::bs=>zb9 a b && zdn as bs
 |_,_=>true
end
theorem z4v{H:Hp}:∀{k:Nat}{d e:D}{x y:V},Den K H k d x->Den K H k e y->ltD k d e=dlt d e/\(zb9 d e=true->zm2 k d e):=by
 intro k
 induction k with
 |zero =>
  intro d e u v h1 h2
  cases d with
  |sc a =>
   cases e with
   |sc b=>rw[dlt,zb9];exact⟨rfl,λh=>h⟩
   |_=>exact h2.elim
  |_=>exact h1.elim
 |succ k ih =>
  intro d e u v h1 h2
  have all:∀{ds es:List D} {us vs:List V},Paired (Den K H k) ds us->Paired (Den K H k) es vs->lex (eqD k) (ltD k) ds es=zdr ds es/\(zdn ds es=true->∀p∈ds.zip es,zm2 k p.1 p.2):=by
   intro ds es us vs p
   induction p generalizing es vs with
   |nil=>intro q;cases q <;> simp[lex,zdr]
   |cons a b ih2 =>
    intro q
    cases q with
    |nil=>simp[lex,zdr]
    |cons a' b' =>
     obtain⟨i1,i2⟩:=ih2 b';obtain⟨j1,j2⟩:=ih a a';refine⟨?_,λh=>?_⟩
     ·rw[lex,zdr,zhr a a',i1,j1]
     ·rw[zdn,gc]at h
      intro p hp;rw[vh]at hp;rcases yb.mp hp with rfl|hp
      ·exact j2 h.1
      ·exact i2 h.2 p hp
  cases d with
  |sc a =>
   cases e with
   |sc b=>rw[dlt,zb9];exact⟨rfl,λh=>h⟩
   |_=>simp[ltD,dlt,zb9]
  |tup ds =>
   cases e with
   |tup es=>obtain⟨_,_,_,_,p⟩:=h1;obtain⟨_,_,_,_,p'⟩:=h2;rw[dlt,zb9];exact all p p'
   |_=>simp[ltD,dlt,zb9]
  |lst ds =>
   cases e with
   |lst es=>obtain⟨_,_,_,_,p⟩:=h1;obtain⟨_,_,_,_,p'⟩:=h2;rw[dlt,zb9];exact all p p'
   |_=>simp[ltD,dlt,zb9]
  |_=>exact h1.elim
noncomputable def gLt(d e:D):Option D:=match d,e with
 |.sc (.int i),.sc (.int j)=>some (.bl (decide (i<j)))
 |d,e=>if (dOk LV d && dOk LV e && zb9 d e)=true then some (.bl (dlt d e)) else none
noncomputable def kLt(K:PySem.W.Frag):R2:=λx y H Q=>k20 (λi j=>.bl (decide (i<j))) x y H Q\/ybe K 8 x y H Q
theorem ych{n:Nat}(hr:Room n X.A):OpR X (compareOp .Lt) (kLt X.K):=ybf.or (z3v 8 (by have:=hr.units;omega))
theorem z9k:P2 K (kLt K) gLt:=by
 intro Hf H x y d e z Q s hd he hz q;unfold gLt at hz
 split at hz
 ·cases hz
  rw[hd.sc.2,he.sc.2];exact .inl (q Hf H _ (.refl s) (zbb rfl))
 ·split at hz
  ·rename_i hk
   rw[gc,gc]at hk;cases hz;have h1:=(hd.whole s).at hk.1.1;have h2:=(he.whole s).at hk.1.2;obtain⟨j1,j2⟩:=z4v h1 h2;refine .inr ⟨_,_,h1,h2,j2 hk.2,?_⟩;rw[j1];exact q Hf H _ (.refl s) (zbb rfl)
  ·cases hz
noncomputable def zgl(d:D):Option D:=match d with|.sc (.int i)=>some (.int (-i))|_=>none
variable {a:Expr}{fa fb:Rho->Option D}{pos:Pos}
theorem zj4(ha:PE X a (eV X.K B fa)):PE X (.UnaryOp .USub a pos) (eV X.K B (e1 zgl fa)):=(z8j z83 ha).imp λσ H Q ⟨Hf,ρ,z,I,hz,q⟩=>by
 obtain⟨d,hd,hz⟩:=bind_some hz;refine⟨Hf,ρ,d,I,hd,λHf1 H1 v ex1 dv=>?_⟩;unfold zgl at hz
 split at hz
 ·cases hz
  rw[dv.int];exact q Hf1 H1 _ ex1 (zbb rfl)
 ·cases hz
theorem zhs{α β:Type}{F:α->β->Prop}{l:List α}{m:List β}{i:Int}{a:α}(p:Paired F l m)(h:atI l i=some a):∃b,atI m i=some b/\F a b:=by
 have e:=p.length;unfold atI at h ⊢;rw[<-e]
 cases q:ixN l.length i with
 |none=>rw[q]at h;cases h
 |some j =>
  rw[q]at h;obtain⟨b,h1,h2⟩:=p.zget (show l[j]?=some a from h);exact⟨b,h1,h2⟩
noncomputable def gIx(d e:D):Option D:=match d,e with
 |.lst ds,.sc (.int i)=>atI ds i
 |.tup ds,.sc (.int i)=>atI ds i
 |.sc (.str z),.sc (.int i)=>if z.length<=sizeLine then (atI z.cps.toList i).map λc=>.str [c] else none
 |_,_=>none
noncomputable def kIx(K:PySem.W.Frag):R2:=λx y H Q=>z84 K x y H Q\/z85 K x y H Q\/z86 x y H Q
theorem yci:IxR X (kIx X.K):=zzv.or (zw9.or z32)
theorem z9l:P2 K (kIx K) gIx:=by
 intro Hf H x y d e z Q s hd he hz q;unfold gIx at hz
 split at hz
 ·obtain⟨a,xs,rfl,h1,h2⟩:=hd.lst s
  obtain⟨v,h3,h4⟩:=zhs h2 hz;rw[he.sc.2];exact .inl ⟨xs,v,h1,h3,q Hf H v (.refl s) h4⟩
 ·obtain⟨a,xs,rfl,h1,h2⟩:=hd.tup
  obtain⟨v,h3,h4⟩:=zhs h2 hz;rw[he.sc.2];exact .inr (.inl ⟨xs,v,s.seqT h1,h3,q Hf H v (.refl s) h4⟩)
 ·split at hz
  ·rename_i hk
   obtain⟨c,hc,hz⟩:=db.mp hz;subst hz;rw[hd.sc.2,he.sc.2];exact .inr (.inr ⟨hk,c,hc,q Hf H _ (.refl s) (zbb rfl)⟩)
  ·cases hz
 ·cases hz
theorem zcs{b:Expr}(ha:PE X a (eB X.K B fa))(hb:PE X b (eB X.K B fb))(hs:zll b):PE X (.Subscript a b pos) (eV X.K B (e2 gIx fa fb)):=(z3m yci ha hb hs).imp λσ H Q h=>zm9 z9l h
noncomputable def zht{α:Type}(xs:List α)(lo hi:Option Int):List α:=(xs.drop (HT.sIx xs.length 0 lo)).take (HT.sIx xs.length xs.length hi - HT.sIx xs.length 0 lo)
theorem zhu{α:Type}{F:α->V->Prop}{l:List α}{m:List V}(p:Paired F l m)(lo hi:Option Int):Paired F (zht l lo hi) (zpq m lo hi):=by
 have e:=p.length;unfold zht zpq;rw[<-e];exact(p.zdrop _).ztake _
noncomputable def gSl(d:D)(lo hi:Option Int):Option D:=match d with
 |.lst ds=>some (.lst (zht ds lo hi))
 |.tup ds=>some (.tup (zht ds lo hi))
 |.sc (.str z)=>if z.length<=sizeLine then some (.sc (.str (StrLaws.sliceText z lo hi))) else none
 |_=>none
noncomputable def eSl(fa:Rho->Option D)(fl fh:Rho->Option (Option Int)):Rho->Option D:=λρ=>(fa ρ).bind λd=>(fl ρ).bind λlo=>(fh ρ).bind λhi=>gSl d lo hi
noncomputable def oN:Rho->Option (Option Int):=λ_=>some none
noncomputable def toI:D->Option Int|.sc (.int i)=>some i|_=>none
noncomputable def oS(fa:Rho->Option D):Rho->Option (Option Int):=λρ=>(fa ρ).bind λd=>(toI d).map some
theorem PO.imp{e:Option Expr}{t t':TO}(h:PO X e t)(f:∀σ H Q,t' σ H Q->t σ H Q):PO X e t':=λpins s σ H Q I q=>h pins s σ H Q I (f σ H Q q)
theorem zu2:PO X none (oV X.K B oN):=zzl.imp λσ H Q ⟨Hf,ρ,z,I,hz,q⟩=>by cases hz;exact q Hf H (.refl I.fh)
theorem zlz(ha:PE X a (eB X.K B fa)):PO X (some a) (oV X.K B (oS fa)):=(zzy ha).imp λσ H Q ⟨Hf,ρ,z,I,hz,q⟩=>by
 obtain⟨d,hd,hz⟩:=bind_some hz;refine⟨Hf,ρ,d,I,hd,λHf1 H1 v ex1 dv=>?_⟩;unfold toI at hz
 split at hz
 ·cases hz
  rw[dv.sc.2];exact q Hf1 H1 ex1
 ·cases hz
def z4w(K:PySem.W.Frag):V->Option Int->Option Int->Hp->VK->Prop:=λx lo hi H Q=>∃a xs,x=.ref a/\SqT K H a xs ∧
 ((HT.sIx xs.length 0 lo=0/\HT.sIx xs.length xs.length hi=xs.length/\Q (.ref a) H)\/(¬(HT.sIx xs.length 0 lo=0/\HT.sIx xs.length xs.length hi=xs.length)/\∀p,H p=none->Q (.ref p) (upd H p (.tup (zpq xs lo hi)))))
end
end L2
namespace HT
open PySem PyProof.Rows
section
variable {prog:Program}{w:World}{A:Around}{E:Value->Shared->Prop}{s:Shared}
theorem getItem_tuple_all{t sl:Addr}{items:Array Value}{vl vu:Value}{lo hi:Option Int}{Q:Value->Shared->Prop}(ht:IsTup s.heap t items)(hs:s.heap.IsSliceOf sl vl vu .none)(pl:IsPart vl lo)(pu:IsPart vu hi)
  (hw:sIx items.size 0 lo=0/\sIx items.size items.size hi=items.size) (h:Q (.ref t) s):wpAny (model prog w) A (getItem (.ref t) (.ref sl)) Q E s:=by
 obtain⟨os,hos,hcs,hds⟩:=id hs;have hTs:s.TypeIs (.ref sl) "slice":=⟨os,hos,hcs⟩
 unfold getItem
 try with_reducible refine lg ?_
 first|refine aa (va ?_)|skip
 refine aa (wpAny_sequenceKey ht.typeIs (by decide) ?_)
 refine wpAny_bind (wpAny_callSpecial?_slot (name:=Str.ofString "__getitem__") ht.typeIs PyProof.Rows.slot_tuple_getitem
  (yi bf ht.typeIs entry_tuple_getitem ?_ (args_tuple_getitem _ _)))
 show wpAny _ _ (Builtin.Tuple.tupleItemsOf (.ref t) >>= _) _ _ s;refine aa (tupleItemsOf_ ht ?_);refine aa (bp hTs ?_);rw[ba (by decide)];refine aa (zdk hs pl pu ?_)
 have hno:(((sIx items.size 0 lo:Nat):Int) == 0 && (1:Int) == 1 && (sIx items.size items.size hi - sIx items.size 0 lo) == items.size)=true:=by
  rw[hw.1,hw.2];simp
 show wpAny _ _ (if (((sIx items.size 0 lo:Nat):Int) == 0 && (1:Int) == 1 && (sIx items.size items.size hi - sIx items.size 0 lo) == items.size)=true then _ else _) _ _ s;rw[ba hno];refine aa (m:=Builtin.Tuple.tupleIsExact _) (aa (bp ht.typeIs (va ?_)));rw[ba (by decide)]
 first
  |exact aa (vg (va ⟨_,rfl,va h⟩))
  |exact aa (vg (aa (va (va ⟨_,rfl,va h⟩))))
  |exact aa (aa (vg (va (va ⟨_,rfl,va h⟩))))
  |exact aa (vg (aa (va ⟨_,rfl,va h⟩)))
end
end HT
namespace L2
open PySem PySem.Spec PyProof.Rows
section
variable {X:Cx}{B:Bs}{K:PySem.W.Frag}
theorem z0p:SlR X (z4w X.K):=by
 intro pins s σ H x v vl vu lo hi sl Q I rx hs pl pu h;obtain⟨a,xs,rfl,hx,h⟩:=h;rcases h with⟨h1,h2,q⟩|⟨h1,q⟩
 ·cases rx
  obtain⟨its,r,ht,hz⟩:=I.tuple hx;have hlen:its.toArray.size=xs.length:=by rw[xa];exact r.length.symm
  refine⟨"tuple",_,bf.lookup,ht.typeIs,?_⟩;exact HT.getItem_tuple_all ht hs pl pu (by rw[hlen];exact⟨h1,h2⟩) ⟨.ref a,H,I,rfl,q⟩
 ·exact z3l pins s σ H _ v vl vu lo hi sl Q I rx hs pl pu ⟨a,xs,rfl,hx,h1,q⟩
def kSl(K:PySem.W.Frag):V->Option Int->Option Int->Hp->VK->Prop:=λx lo hi H Q=>z88 K x lo hi H Q\/z4w K x lo hi H Q\/z9d x lo hi H Q
theorem ycj:SlR X (kSl X.K):=zzz.or (z0p.or z4d)
theorem zu3{α:Type}{xs:List α}{lo hi:Option Int}(h1:HT.sIx xs.length 0 lo=0)(h2:HT.sIx xs.length xs.length hi=xs.length):zht xs lo hi=xs:=by
 unfold zht;rw[h1,h2];simp
theorem yck{Hf H:Hp}{x:V}{d z:D}{lo hi:Option Int}{Q:VK}(s:zav Hf H)(hd:DnB K Hf H d x)(hz:gSl d lo hi=some z)(q:∀Hf' H' v,Ex Hf H Hf' H'->Dn K Hf' z v->Q v H'):kSl K x lo hi H Q:=by
 unfold gSl at hz
 split at hz
 ·cases hz
  obtain⟨a,xs,rfl,h1,h2⟩:=hd.lst s;refine .inl ⟨xs,h1,λp hp=>?_⟩;have e2:=Ex.new (o:=.lst (zpq xs lo hi)) s hp;exact q _ _ _ e2 (zdl (SqL.of zac) ((zhu h2 lo hi).zmap λ_ _ z=>z.same e2.ff))
 ·cases hz
  obtain⟨a,xs,rfl,h1,h2⟩:=hd.tupU;refine .inr (.inl ⟨a,xs,rfl,s.seqT h1.toT,?_⟩);by_cases hw:HT.sIx xs.length 0 lo=0/\HT.sIx xs.length xs.length hi=xs.length
  ·refine .inl ⟨hw.1,hw.2,q Hf H _ (.refl s) ?_⟩
   have e:=h2.length;rw[zu3 (by rw[e];exact hw.1) (by rw[e];exact hw.2)];exact zgg h1 h2
  ·refine .inr ⟨hw,λp hp=>?_⟩
   have e2:=Ex.new (o:=.tup (zpq xs lo hi)) s hp;exact q _ _ _ e2 (zgg (SqU.of zac) ((zhu h2 lo hi).zmap λ_ _ z=>z.same e2.ff))
 ·split at hz
  ·rename_i hk
   cases hz;rw[hd.sc.2]
   exact .inr (.inr ⟨hk,q Hf H _ (.refl s) (zbb rfl)⟩)
  ·cases hz
 ·cases hz
variable {a e:Expr}{es:List Expr}{fa fb:Rho->Option D}{fr:Rho->Option (List D)}{pos p2:Pos}{lo hi:Option Expr}{fl fh:Rho->Option (Option Int)}
theorem zps(ha:PE X a (eB X.K B fa))(hl:PO X lo (oV X.K B fl))(hh:PO X hi (oV X.K B fh)):PE X (.Subscript a (.Slice lo hi none p2) pos) (eV X.K B (eSl fa fl fh)):=(zuh ycj ha hl hh).imp λσ H Q ⟨Hf,ρ,z,I,hz,q⟩=>by
 obtain⟨d,hd,hz⟩:=bind_some hz;obtain⟨l,hl,hz⟩:=bind_some hz;obtain⟨h,hh,hz⟩:=bind_some hz
 exact⟨Hf,ρ,d,I,hd,λ Hf1 H1 v ex1 dv=>⟨Hf1,ρ,l,I.ext ex1,hl,λ Hf2 H2 ex2=>⟨Hf2,ρ,h,(I.ext ex1).ext ex2,hh,λ Hf3 H3 ex3 =>
  yck ex3.fh ((dv.ext ex2).ext ex3) hz λHf' H' v' ex dv'=>q Hf' H' v' (((ex1.trans ex2).trans ex3).trans ex) dv'⟩⟩⟩
def PN(K:PySem.W.Frag)(r:List V->Hp->VK->Prop)(g:List D->Option D):Prop:=∀Hf H xs ds z (Q:VK),zav Hf H->z4p K Hf H ds xs->g ds=some z->(∀Hf' H' v,Ex Hf H Hf' H'->Dn K Hf' z v->Q v H')->r xs H Q
theorem zxl{r:List V->Hp->VK->Prop}{g:List D->Option D}(hp:PN X.K r g){σ:St}{H:Hp}{Q:VK}(h:eV X.K B (eN g fr) σ H Q):tCB r (aB X.K B fr) σ H Q:=by
 obtain⟨Hf,ρ,z,I,hz,q⟩:=h;obtain⟨ds,hd,hz⟩:=bind_some hz;exact⟨Hf,ρ,ds,I,hd,λHf1 H1 vs ex1 dvs=>hp Hf1 H1 vs ds z Q ex1.fh dvs hz λHf' H' v ex dv=>q Hf' H' v (ex1.trans ex) dv⟩
theorem zie {id:String}{r:List V->Hp->VK->Prop}{g:List D->Option D}{x:Str}{p:Pos} (hc:zcf X (.builtin id) r) (hp:PN X.K r g) (hg:Gl X x) (hm:X.mg x=none) (hv:bootBuiltins x=some (.builtin id)) (ha:PA X (e::es) (aB X.K B fr)) (hn:x ≠ "__name__":=by decide) (hdb:(x == ("__debug__" : Str))=false:=by decide)
  (he:starEach (e::es) X.env=(false,eval e X.env)::starEach es X.env:=by rfl) (hpl:(backTo pos (starEach es X.env)).any (·.1)=false:=by rfl):PE X (.Call (.Name x p) (e::es) [] pos) (eV X.K B (eN g fr)) :=
 (zh2 hc hg hm hv ha hn hdb he hpl).imp λσ H Q h=>zxl hp h
theorem zo8 {id:String}{r:List V->Hp->VK->Prop}{g:List D->Option D}{x:Str}{p:Pos} (hc:zcf X (.type id) r) (hp:PN X.K r g) (hg:Gl X x) (hm:X.mg x=none) (hv:bootBuiltins x=some (.type id)) (ha:PA X (e::es) (aB X.K B fr)) (hn:x ≠ "__name__":=by decide) (hdb:(x == ("__debug__" : Str))=false:=by decide)
  (he:starEach (e::es) X.env=(false,eval e X.env)::starEach es X.env:=by rfl) (hpl:(backTo pos (starEach es X.env)).any (·.1)=false:=by rfl):PE X (.Call (.Name x p) (e::es) [] pos) (eV X.K B (eN g fr)) :=
 (zql hc hg hm hv ha hn hdb he hpl).imp λσ H Q h=>zxl hp h
theorem zco{Hf H:Hp}{d:D}{xs:List V}(h:z4p K Hf H [d] xs):∃x,xs=[x]/\DnB K Hf H d x:=by
 cases h with|cons a b=>cases b;exact⟨_,rfl,a⟩
theorem zxm{Hf H:Hp}{d e:D}{xs:List V}(h:z4p K Hf H [d,e] xs):∃x y,xs=[x,y]/\DnB K Hf H d x/\DnB K Hf H e y:=by
 cases h with|cons a b=>cases b with|cons b c=>cases c;exact⟨_,_,rfl,a,b⟩
noncomputable def zd8:List D->Option D
 |[.lst ds]=>some (.int ds.length)
 |[.tup ds]=>some (.int ds.length)
 |[.sc (.str z)]=>if z.length<=sizeLine then some (.int z.length) else none
 |_=>none
def ybi(K:PySem.W.Frag):List V->Hp->VK->Prop:=λxs H Q=>zz1 K xs H Q\/zz2 xs H Q
theorem zj5:zcf X (.builtin "len") (ybi X.K):=z34.or zz3
theorem zfj:PN K (ybi K) zd8:=by
 intro Hf H xs ds z Q s hd hz q;unfold zd8 at hz
 split at hz
 ·cases hz
  obtain⟨x,rfl,hx⟩:=zco hd;obtain⟨a,ys,rfl,h1,h2⟩:=hx.lst s;exact .inl ⟨ys,.inl h1,by rw[<-h2.length];exact q Hf H _ (.refl s) (zbb rfl)⟩
 ·cases hz
  obtain⟨x,rfl,hx⟩:=zco hd;obtain⟨a,ys,rfl,h1,h2⟩:=hx.tup;exact .inl ⟨ys,.inr (s.seqT h1),by rw[<-h2.length];exact q Hf H _ (.refl s) (zbb rfl)⟩
 ·split at hz
  ·rename_i hk
   cases hz;obtain⟨x,rfl,hx⟩:=zco hd
   rw[hx.sc.2];exact .inr ⟨hk,q Hf H _ (.refl s) (zbb rfl)⟩
  ·cases hz
 ·cases hz
noncomputable def zu4:List D->Option D
 |[.lst ds]=>some (.lst ds)
 |[.tup ds]=>some (.lst ds)
 |_=>none
theorem zrm:PN K (zz4 K) zu4:=by
 intro Hf H xs ds z Q s hd hz q;unfold zu4 at hz
 split at hz
 ·cases hz
  obtain⟨x,rfl,hx⟩:=zco hd;obtain⟨a,ys,rfl,h1,h2⟩:=hx.lst s;refine⟨ys,.inl h1,λp hp=>?_⟩;have e2:=Ex.new (o:=.lst ys) s hp;exact q _ _ _ e2 (zdl (SqL.of zac) (h2.same e2.ff))
 ·cases hz
  obtain⟨x,rfl,hx⟩:=zco hd;obtain⟨a,ys,rfl,h1,h2⟩:=hx.tup;refine⟨ys,.inr (s.seqT h1),λp hp=>?_⟩;have e2:=Ex.new (o:=.lst ys) s hp;exact q _ _ _ e2 (zdl (SqL.of zac) (h2.same e2.ff))
 ·cases hz
noncomputable def znf:List D->Option D
 |[.lst ds]=>some (.tup ds)
 |[.tup ds]=>some (.tup ds)
 |_=>none
theorem zng:PN K (λxs H Q=>∃p ys,xs=[.ref p]/\((SqL K H p ys/\∀l,H l=none->Q (.ref l) (upd H l (.tup ys)))\/(SqT K H p ys/\Q (.ref p) H))) znf:=by
 intro Hf H xs ds z Q s hd hz q;unfold znf at hz
 split at hz
 ·cases hz
  obtain⟨x,rfl,hx⟩:=zco hd;obtain⟨a,ys,rfl,h1,h2⟩:=hx.lst s;refine⟨a,ys,rfl,.inl ⟨h1,λp hp=>?_⟩⟩;have e2:=Ex.new (o:=.tup ys) s hp;exact q _ _ _ e2 (zgg (SqU.of zac) (h2.same e2.ff))
 ·cases hz
  obtain⟨x,rfl,hx⟩:=zco hd;obtain⟨a,ys,rfl,h1,h2⟩:=hx.tupU;exact⟨a,ys,rfl,.inr ⟨s.seqT h1.toT,q Hf H _ (.refl s) (zgg h1 h2)⟩⟩
 ·cases hz
noncomputable def zxn:List D->Option D
 |[.sc (.bl b)]=>some (.int (if b then 1 else 0))
 |[.sc (.int i)]=>some (.int i)
 |_=>none
theorem zxo:PN K zz5 zxn:=by
 intro Hf H xs ds z Q s hd hz q;unfold zxn at hz
 split at hz
 ·cases hz
  obtain⟨x,rfl,hx⟩:=zco hd;rw[hx.sc.2];exact q Hf H _ (.refl s) (zbb rfl)
 ·cases hz
  obtain⟨x,rfl,hx⟩:=zco hd;rw[hx.sc.2];exact q Hf H _ (.refl s) (zbb rfl)
 ·cases hz
noncomputable def z4x:List D->Option D|[.sc (.int i),.sc (.int j)]=>some (.int (if j<i then j else i))|_=>none
theorem z4y:PN K (λxs H Q=>∃i j,xs=[.int i,.int j]/\Q (.int (if j<i then j else i)) H) z4x:=by
 intro Hf H xs ds z Q s hd hz q;unfold z4x at hz
 split at hz
 ·cases hz
  obtain⟨x,y,rfl,hx,hy⟩:=zxm hd;rw[hx.sc.2,hy.sc.2];exact⟨_,_,rfl,q Hf H _ (.refl s) (zbb rfl)⟩
 ·cases hz
noncomputable def tyN:D->String
 |.sc .non => "NoneType"
 |.sc (.bl _) => "bool"
 |.sc (.int _) => "int"
 |.sc (.str _) => "str"
 |.sc _ => "?"
 |.tup _ => "tuple"
 |.lst _ => "list"
 |_ => "?"
noncomputable def z9m(t n:String):Bool:=t == n || (t == "bool" && n == "int")
def zrn(n:String):Prop:=∀(K:PySem.W.Frag) (d:D),tyN d ≠ "?" -> PySem.W.kitOne K (.type (tyN d)) (.type n)=some (z9m (tyN d) n)
end
section
variable {X:Cx}{B:Bs}{K:PySem.W.Frag}
variable {a e o:Expr}{es:List Expr}{fa fb:Rho->Option D}{fr:Rho->Option (List D)}{pos p2 apos cpos:Pos}
def z9n(K:PySem.W.Frag):List V->Hp->VK->Prop:=λxs H Q=>∃x n t b,xs=[x,.ty n]/\(TyOf K H x t\/(t=.type "list" /\ ∃p ys,x=.ref p/\SqL K H p ys)\/(t=.type "tuple" /\ ∃p ys,x=.ref p/\SqT K H p ys))/\PySem.W.kitOne K t (.type n)=some b/\Q (.bl b) H
theorem zro:zcf X (.builtin "isinstance") (z9n X.K):=by
 intro pins s σ H vs us Q I rv h;obtain⟨x,n,t,b,rfl,ty,e,q⟩:=h;obtain⟨u,w',rfl,r1,r2⟩:=z3h rv;cases r2;rcases ty with ty|⟨rfl,p,ys,rfl,hq⟩|⟨rfl,p,ys,rfl,hq⟩
 ·exact zqg I r1 ty e λtk=>⟨.bl b,H,I.tok _,rfl,q⟩
 ·cases r1
  obtain⟨its,_,⟨ob,nn,h1,h2,_⟩,_⟩:=I.list hq;exact PySem.W.kia_one PySem.W.kitx_list I.kIn ⟨ob,h1,h2⟩ e (λz=>nomatch z) λtk=>⟨.bl b,H,I.tok _,rfl,q⟩
 ·cases r1
  obtain⟨its,_,⟨ob,h1,h2,_⟩,_⟩:=I.tuple hq;exact PySem.W.kia_one PySem.W.kitx_tuple I.kIn ⟨ob,h1,h2⟩ e (λz=>nomatch z) λtk=>⟨.bl b,H,I.tok _,rfl,q⟩
theorem z0q:zrn "int":=λK d h=>by
 cases d with
 |sc v=>cases v <;> first|rfl|exact absurd rfl h
 |_=>first|rfl|exact absurd rfl h
theorem znh:zrn "bool":=λK d h=>by
 cases d with
 |sc v=>cases v <;> first|rfl|exact absurd rfl h
 |_=>first|rfl|exact absurd rfl h
theorem zni:zrn "list":=λK d h=>by
 cases d with
 |sc v=>cases v <;> first|rfl|exact absurd rfl h
 |_=>first|rfl|exact absurd rfl h
theorem zgm:zrn "tuple":=λK d h=>by
 cases d with
 |sc v=>cases v <;> first|rfl|exact absurd rfl h
 |_=>first|rfl|exact absurd rfl h
noncomputable def zl0(n:String)(d:D):Option D:=if tyN d = "?" then none else some (.bl (z9m (tyN d) n))
theorem zj6 {n:String}{x:Str}{p p':Pos} (hi:zrn n) (hg:Gl X "isinstance") (hm:X.mg "isinstance" = none) (ht:PE X (.Name x p') (tC (.ty n))) (ha:PE X a (eB X.K B fa))
  (hs1:starEach [a,.Name x p'] X.env=(false,eval a X.env)::starEach [.Name x p'] X.env:=by rfl) (hs2:starEach [.Name x p'] X.env=[(false,eval (.Name x p') X.env)]:=by rfl) (hpl:(backTo pos (starEach [.Name x p'] X.env)).any (·.1)=false:=by rfl):PE X (.Call (.Name "isinstance" p) [a,.Name x p'] [] pos) (eV X.K B (e1 (zl0 n) fa)) :=
 (zh2 zro hg hm zh7 (zcb ha (zcb ht zdt hs2) hs1) (by decide) (by decide) hs1 hpl).imp λσ H Q ⟨Hf,ρ,z,I,hz,q⟩=>by
  obtain⟨d,hd,hz⟩:=bind_some hz;unfold zl0 at hz
  split at hz
  ·cases hz
  ·rename_i hq
   cases hz;refine⟨Hf,ρ,d,I,hd,λHf1 H1 v ex1 dv=>⟨v,n,.type (tyN d),z9m (tyN d) n,rfl,?_,hi _ d hq,q Hf1 H1 _ ex1 (zbb rfl)⟩⟩
   cases d with
   |sc w =>
    rw[dv.sc.2]
    cases w with
    |non=>exact .inl .non
    |bl b=>exact .inl (.bl b)
    |int b=>exact .inl (.int b)
    |str b=>exact .inl (.str b)
    |_=>exact absurd rfl hq
   |tup ds=>obtain⟨a,ys,rfl,h1,_⟩:=dv.tup;exact .inr (.inr ⟨rfl,a,ys,rfl,ex1.fh.seqT h1⟩)
   |lst ds=>obtain⟨a,ys,rfl,h1,_⟩:=dv.lst ex1.fh;exact .inr (.inl ⟨rfl,a,ys,rfl,h1⟩)
   |_=>exact absurd rfl hq
def PM(K:PySem.W.Frag)(T:String)(r:V->List V->Hp->VK->Prop)(g:D->List D->Option D):Prop:=∀Hf H x xs d ds z (Q:VK),zav Hf H->DnB K Hf H d x->z4p K Hf H ds xs->g d ds=some z->(∀Hf' H' v,Ex Hf H Hf' H'->Dn K Hf' z v->Q v H')->r x xs H Q
noncomputable def eM(T:String)(g:D->List D->Option D)(fo:Rho->Option D)(fr:Rho->Option (List D)):Rho->Option D:=λρ=>(fo ρ).bind λd=>(fr ρ).bind λds=>if tyN d=T then g d ds else none
theorem zxp {Hf H:Hp}{d:D}{x:V}{T:String} (s:zav Hf H) (h:DnB K Hf H d x) (hT:tyN d=T) (h2:T ≠ "tuple"):T = "str" \/ T = "int" \/ T = "list" -> tyV K T x H:=by
 intro hh;subst hT
 cases d with
 |sc v =>
  rw[h.sc.2]
  cases v with
  |str z=>rfl
  |int z=>rfl
  |_=>rcases hh with z|z|z <;> exact absurd z (by simp[tyN])
 |tup ds=>exact absurd rfl h2
 |lst ds=>obtain⟨a,ys,rfl,h1,_⟩:=h.lst s;exact .inl ⟨rfl,ys,h1⟩
 |_=>rcases hh with z|z|z <;> exact absurd z (by simp[tyN])
theorem z9o {T id:String}{name:Str}{r:V->List V->Hp->VK->Prop}{g:D->List D->Option D} (pa:PlainAttrs T) (slot:Slot T name id) (hty:typeOf (.builtin id)=pure (.type "method_descriptor")) (hm:MtR X id r) (hp:PM X.K T r g) (ho:PE X o (eB X.K B fa)) (hT:(T = "str" \/ T = "int" \/ T = "list")/\T ≠ "tuple":=by decide)
  (hbase:attributeBase o name X.env (eval o X.env)=eval o X.env:=by rfl) (hline:(apos.endLine == cpos.line)=true:=by rfl):PE X (.Call (.Attribute o name apos) [] [] cpos) (eV X.K B (eM T g fa aN)) :=
 (z3p pa slot hty hm ho hbase hline).imp λσ H Q ⟨Hf,ρ,z,I,hz,q⟩=>by
  obtain⟨d,hd,hz⟩:=bind_some hz;obtain⟨ds,hds,hz⟩:=bind_some hz;cases hds
  split at hz
  ·rename_i hq
   exact⟨Hf,ρ,d,I,hd,λHf1 H1 v ex1 dv=>⟨zxp ex1.fh dv hq hT.2 hT.1,hp Hf1 H1 v [] d [] z Q ex1.fh dv .nil hz λHf' H' v' ex dv'=>q Hf' H' v' (ex1.trans ex) dv'⟩⟩
  ·cases hz
theorem v_m {T id:String}{name:Str}{r:V->List V->Hp->VK->Prop}{g:D->List D->Option D} (pa:PlainAttrs T) (slot:Slot T name id) (hty:typeOf (.builtin id)=pure (.type "method_descriptor")) (hm:MtR X id r) (hp:PM X.K T r g) (ho:PE X o (eB X.K B fa)) (ha:PA X (e::es) (aB X.K B fr)) (hT:(T = "str" \/ T = "int" \/ T = "list")/\T ≠ "tuple":=by decide)
  (hbase:attributeBase o name X.env (eval o X.env)=eval o X.env:=by rfl)
  (hfew:((backTo cpos (starEach (e::es) X.env)).all (λ x=>!x.1) && (backToKw cpos (keywordEach [] X.env)).all (λ x=>x.1.isSome)
   && decide ((e::es).length+([]:List Keyword).length+(if ([]:List Keyword).isEmpty then 0 else 1)<30))=true:=by rfl)
  (hline:(apos.endLine == cpos.line)=true:=by rfl) (hs:starEach (e::es) X.env=(false,eval e X.env)::starEach es X.env:=by rfl) (hplain:(backTo cpos (starEach es X.env)).any (·.1)=false:=by rfl) :
  PE X (.Call (.Attribute o name apos) (e::es) [] cpos) (eV X.K B (eM T g fa fr)) :=
 (zuj pa slot hty hm ho ha hbase hfew hline hs hplain).imp λσ H Q ⟨Hf,ρ,z,I,hz,q⟩=>by
  obtain⟨d,hd,hz⟩:=bind_some hz;obtain⟨ds,hds,hz⟩:=bind_some hz
  split at hz
  ·rename_i hq
   exact⟨Hf,ρ,d,I,hd,λHf1 H1 v ex1 dv=>⟨zxp ex1.fh dv hq hT.2 hT.1,Hf1,ρ,ds,I.ext ex1,hds,λHf2 H2 vs ex2 dvs=>hp Hf2 H2 v vs d ds z Q ex2.fh (dv.ext ex2) dvs hz λHf' H' v' ex dv'=>q Hf' H' v' ((ex1.trans ex2).trans ex) dv'⟩⟩
  ·cases hz
noncomputable def gM0(c:Str->Bool)(f:Str->V):D->List D->Option D:=λd ds=>match d,ds with|.sc (.str z),[]=>if c z=true then some (.sc (f z)) else none|_,_=>none
theorem ybj{C:Str->Prop}{c:Str->Bool}{f:Str->V}(hc:∀z,c z=true->C z)(hf:∀z,zcg (f z)=true):PM K "str" (zz9 C f) (gM0 c f):=by
 intro Hf H x xs d ds z Q s hd hds hz q;unfold gM0 at hz
 split at hz
 ·split at hz
  ·rename_i hk
   cases hz;cases hds
   rw[hd.sc.2];exact⟨hc _ hk,q Hf H _ (.refl s) (zbb (hf _))⟩
  ·cases hz
 ·cases hz
noncomputable def zeq:=gM0 (λz=>!Builtin.Str.tooLong (Txt.lower z).length) λz=>.str (Txt.lower z)
noncomputable def zd9:=gM0 (λ_=>true) λz=>.bl (Txt.isalnum z)
theorem znj:PM K "str" (zz9 (λz=>Builtin.Str.tooLong (Txt.lower z).length=false) λz=>.str (Txt.lower z)) zeq:=ybj (λz h=>by simpa using h) λ_=>rfl
theorem zo9:PM K "str" (zz9 (λ_=>True) λz=>.bl (Txt.isalnum z)) zd9:=ybj (λ_ _=>gg) λ_=>rfl
noncomputable def zj7:D->List D->Option D:=λd ds=>match d,ds with|.sc (.str z),[.sc (.str y)]=>(Builtin.Str.occurrences z y 0 z.length 1).head?.map λi=>.int i|_,_=>none
theorem zu5:PM K "str" zra zj7:=by
 intro Hf H x xs d ds z Q s hd hds hz q;unfold zj7 at hz
 split at hz
 ·obtain⟨i,hi,hz⟩:=db.mp hz
  subst hz;obtain⟨x2,rfl,hx⟩:=zco hds;rw[hd.sc.2,hx.sc.2]
  cases ho:Builtin.Str.occurrences _ _ 0 _ 1 with
  |nil=>rw[ho]at hi;cases hi
  |cons j r =>
   rw[ho]at hi;have hi:j=i:=vc hi;subst hi;exact⟨j,r,ho,q Hf H _ (.refl s) (zbb rfl)⟩
 ·cases hz
noncomputable def zpa(c:Nat)(l:List Nat):List D:=if c∈l then [.str (l.take (zcz c l)),.str [c],.str (l.drop (zcz c l+1))] else [.str l,.str [],.str []]
noncomputable def zc0:D->List D->Option D:=λd ds=>match d,ds with
 |.sc (.str z),[.sc (.str y)]=>match y.cps.toList with
  |[c]=>if z.length<=sizeLine then some (.tup (zpa c z.cps.toList)) else none
  |_=>none
 |_,_=>none
theorem zu6{H:Hp}(c:Nat)(l:List Nat):Dns K H (zpa c l) (zjx c l):=by
 unfold zpa zjx;split
 ·exact .cons (zbb rfl) (.cons (zbb rfl) (.cons (zbb rfl) .nil))
 ·exact .cons (zbb rfl) (.cons (zbb rfl) (.cons (zbb rfl) .nil))
theorem zj8:PM K "str" zrb zc0:=by
 intro Hf H x xs d ds z Q s hd hds hz q;unfold zc0 at hz
 split at hz
 ·rename_i z0 y0
  split at hz
  ·rename_i y c hc
   split at hz
   ·rename_i hk
    cases hz;obtain⟨x2,rfl,hx⟩:=zco hds
    rw[hd.sc.2,hx.sc.2];refine⟨c,by rw[<-hc];exact z9c _,hk,λp hp=>?_⟩;have e2:=Ex.new (o:=.tup (zjx c z0.cps.toList)) s hp;exact q _ _ _ e2 (zgg (SqU.of zac) (zu6 c _))
   ·cases hz
  ·cases hz
 ·cases hz
noncomputable def zhv:List D->Option (List Str)
 |[]=>some []
 |.sc (.str z)::r=>(zhv r).map (z::·)
 |_=>none
theorem zj9{Hf:Hp}:∀{ds:List D}{xs:List V}{bs:List Str},Dns K Hf ds xs->zhv ds=some bs->xs=bs.map V.str
 |[],_,bs,.nil,h=>by cases h;rfl
 |.sc (.str b)::r,_,bs,.cons p t,h=>by
  unfold zhv at h;obtain⟨bs',h1,h2⟩:=db.mp h;subst h2;rw[p.str,zj9 t h1];rfl
 |.sc .non::r,_,bs,.cons p t,h=>by cases h
 |.sc (.int _)::r,_,bs,.cons p t,h=>by cases h
 |.sc (.bl _)::r,_,bs,.cons p t,h=>by cases h
 |.sc (.byt _)::r,_,bs,.cons p t,h=>by cases h
 |.sc (.flt _)::r,_,bs,.cons p t,h=>by cases h
 |.sc (.ref _)::r,_,bs,.cons p t,h=>by cases h
 |.sc (.ty _)::r,_,bs,.cons p t,h=>by cases h
 |.tup _::r,_,bs,.cons p t,h=>by cases h
 |.lst _::r,_,bs,.cons p t,h=>by cases h
noncomputable def zrp:D->List D->Option D:=λd ds=>match d,ds with
 |.sc (.str z),[.lst es]=>(zhv es).bind λys=>if (ys.map (·.length)).sum+ys.length * z.length<=16777216 then some (.sc (.str (Txt.join z ys))) else none
 |_,_=>none
theorem z0r:PM K "str" (z0a K) zrp:=by
 intro Hf H x xs d ds z Q s hd hds hz q;unfold zrp at hz
 split at hz
 ·obtain⟨ys,hy,hz⟩:=bind_some hz
  split at hz
  ·rename_i hk
   cases hz;obtain⟨x2,rfl,hx⟩:=zco hds
   obtain⟨a,zs,rfl,h1,h2⟩:=hx.lst s;rw[zj9 h2 hy]at h1;rw[hd.sc.2];exact⟨ys,h1,hk,q Hf H _ (.refl s) (zbb rfl)⟩
  ·cases hz
 ·cases hz
end
def zxq(K:PySem.W.Frag)(J:It)(HJ Hf:Hp)(ds:List D):Prop:=∀Hf' H',zav HJ H'->zav Hf Hf'->zav Hf' H'->∀i:Nat,
 (∀d,ds[i]?=some d->J.go i H'/\∀x H'',J.yld i H' x H''->∃Hf'',Ex Hf' H' Hf'' H''/\Dn K Hf'' d x)/\(ds.length<=i->J.stop i H')
noncomputable def iV(K:PySem.W.Frag)(B:Bs)(f:Rho->Option (List D)):TI:=λσ H R=>∃Hf ρ ds,VI K B Hf ρ σ H/\f ρ=some ds/\∀J Hf' H',Ex Hf H Hf' H'->zxq K J Hf' Hf' ds->R J H'
noncomputable def iB(K:PySem.W.Frag)(B:Bs)(f:Rho->Option (List D)):TI:=λσ H R=>∃Hf ρ ds,VI K B Hf ρ σ H/\f ρ=some ds/\∀J Hf' H',Ex Hf H Hf' H'->zxq K J H' Hf' ds->R J H'
section
variable {X:Cx}{B:Bs}{K:PySem.W.Frag}{tg l:Expr}{tl:TE}{fa:Rho->Option D}{fr:Rho->Option (List D)}{pos:Pos}
noncomputable def z4z(K:PySem.W.Frag)(tl:TE):TI:=λσ H R=>tl σ H λx H1=>(∃a xs,x=.ref a/\SqL K H1 a xs/\R (Itl K a) H1)\/(∃a xs,x=.ref a/\SqT K H1 a xs/\R (Itt K a) H1)\/∃z,x=.str z/\R (Its z) H1
theorem zxr(hl:PE X l tl):PI X tg l (z4z X.K tl):=by
 intro pins s σ H R I h;refine thn (hl pins s σ H _ I h) λv s1 ⟨x,H1,I1,r1,q1⟩=>?_
 rcases q1 with⟨a,xs,rfl,hq,q⟩|⟨a,xs,rfl,hq,q⟩|⟨z,rfl,q⟩
 ·cases r1
  obtain⟨its,rv,p,hz⟩:=I1.list hq;refine wpAny_pyIter_list p.isList ?_;refine⟨s1.heap.objs.size,[s1.heap.objs.size],_,_,H1,rfl,I1.kept (t':=s1.toks) λb o e=>bb _ e,zje a _,⟨_,cc _ rfl,rfl,rfl⟩,λb hb=>?_,q⟩;have e:b=s1.heap.objs.size:=by simpa using hb
  subst e;exact I1.fpOk (wa _) I1.fresh
 ·cases r1
  obtain⟨its,rv,p,hz⟩:=I1.tuple hq;refine wpAny_pyIter_tuple (show s1.heap.IsTuple a its.toArray from p) ?_;refine⟨s1.heap.objs.size,[s1.heap.objs.size],_,_,H1,rfl,I1.kept (t':=s1.toks) λb o e=>bb _ e,zos a _,⟨_,cc _ rfl,rfl,rfl⟩,λb hb=>?_,q⟩;have e:b=s1.heap.objs.size:=by simpa using hb
  subst e;exact I1.fpOk (wa _) I1.fresh
 ·obtain⟨t,rfl⟩:=r1
  have fp:∀{h':Heap} {o:Obj},∀b∈[s1.heap.objs.size],zt3 X pins H1 b:=λb hb=>by
   have e:b=s1.heap.objs.size:=by simpa using hb
   subst e;exact I1.fpOk (wa _) I1.fresh
  cases ha:z.cps.all (·<128) with
  |true =>
   exact wpAny_pyIter_ascii ha ⟨s1.heap.objs.size,[s1.heap.objs.size],_,_,H1,rfl,I1.kept (t':=s1.toks) λb o e=>bb _ e,zq8 z t _,⟨_,cc _ rfl,rfl,rfl⟩,fp (h':=s1.heap) (o:={ cls:=.none,data:=.fields #[] }),q⟩
  |false =>
   exact wpAny_pyIter_wide ha ⟨s1.heap.objs.size,[s1.heap.objs.size],_,_,H1,rfl,I1.kept (t':=s1.toks) λb o e=>bb _ e,zq9 z t _,⟨_,cc _ rfl,rfl,rfl⟩,fp (h':=s1.heap) (o:={ cls:=.none,data:=.fields #[] }),q⟩
noncomputable def itD:D->Option (List D)
 |.lst ds=>some ds
 |.tup ds=>some ds
 |.sc (.str z)=>some (z.cps.toList.map λc=>.str [c])
 |_=>none
noncomputable def iE(fa:Rho->Option D):Rho->Option (List D):=λρ=>(fa ρ).bind itD
theorem zrq{a:Addr}{xs:List V}{ds:List D}{HJ Hf:Hp}(h:SqL K HJ a xs)(p:Dns K Hf ds xs):zxq K (Itl K a) HJ Hf ds:=λHf' H' s1 s2 s3 i=>by
 have hq:=s1.seq h;refine⟨λd hd=>?_,λhi=>⟨xs,hq,by rw[<-p.length];exact hi⟩⟩;obtain⟨x,hx,hdx⟩:=p.zget hd;refine⟨⟨xs,x,hq,hx⟩,λy H'' ⟨e,hy⟩=>?_⟩;subst e
 have:=hy xs hq
 rw[hx]at this;cases this;exact⟨Hf',.refl s3,hdx.same s2⟩
theorem zxs{a:Addr}{xs:List V}{ds:List D}{HJ Hf:Hp}(h:SqT K HJ a xs)(p:Dns K Hf ds xs):zxq K (Itt K a) HJ Hf ds:=λHf' H' s1 s2 s3 i=>by
 have hq:=s1.seqT h;refine⟨λd hd=>?_,λhi=>⟨xs,hq,by rw[<-p.length];exact hi⟩⟩;obtain⟨x,hx,hdx⟩:=p.zget hd;refine⟨⟨xs,x,hq,hx⟩,λy H'' ⟨e,hy⟩=>?_⟩;subst e
 have:=hy xs hq
 rw[hx]at this;cases this;exact⟨Hf',.refl s3,hdx.same s2⟩
theorem zxt{z:Str}{HJ Hf:Hp}:zxq K (Its z) HJ Hf (z.cps.toList.map λc=>.str [c]):=λHf' H' s1 s2 s3 i=>by
 refine⟨λd hd=>?_,λhi=>?_⟩
 ·rw[pc]at hd
  obtain⟨c,hc,rfl⟩:=db.mp hd;have hlt:i<z.cps.toList.length:=(ya.mp hc).1;refine⟨by show i<z.length;simpa [Str.length] using hlt,λx H'' ⟨e,c',hc',hx⟩=>?_⟩;subst e;rw[hc]at hc'
  cases hc'
  rw[hx];exact⟨Hf',.refl s3,zbb rfl⟩
 ·show z.length<=i
  simpa [Str.length] using hi
theorem zjb(h:PE X l (eV X.K B fa)):PI X tg l (iV X.K B (iE fa)):=(zxr h).imp λσ H R ⟨Hf,ρ,ds,I,hz,q⟩=>by
 obtain⟨d,hd,hz⟩:=bind_some hz;refine⟨Hf,ρ,d,I,hd,λHf1 H1 v ex1 dv=>?_⟩;unfold itD at hz
 split at hz
 ·cases hz
  obtain⟨a,xs,rfl,h1,h2⟩:=dv.lst;exact .inl ⟨a,xs,rfl,ex1.fh.seq h1,q _ Hf1 H1 ex1 (zrq h1 h2)⟩
 ·cases hz
  obtain⟨a,xs,rfl,h1,h2⟩:=dv.tup;exact .inr (.inl ⟨a,xs,rfl,ex1.fh.seqT h1,q _ Hf1 H1 ex1 (zxs h1 h2)⟩)
 ·cases hz
  rw[dv.str];exact .inr (.inr ⟨_,rfl,q _ Hf1 H1 ex1 zxt⟩)
 ·cases hz
theorem zrr(h:PE X l (eB X.K B fa)):PI X tg l (iB X.K B (iE fa)):=(zxr h).imp λσ H R ⟨Hf,ρ,ds,I,hz,q⟩=>by
 obtain⟨d,hd,hz⟩:=bind_some hz;refine⟨Hf,ρ,d,I,hd,λHf1 H1 v ex1 dv=>?_⟩;unfold itD at hz
 split at hz
 ·cases hz
  obtain⟨a,xs,rfl,h1,h2⟩:=dv.lst ex1.fh;exact .inl ⟨a,xs,rfl,h1,q _ Hf1 H1 ex1 (zrq h1 h2)⟩
 ·cases hz
  obtain⟨a,xs,rfl,h1,h2⟩:=dv.tup;exact .inr (.inl ⟨a,xs,rfl,ex1.fh.seqT h1,q _ Hf1 H1 ex1 (zxs (ex1.fh.seqT h1) h2)⟩)
 ·cases hz
  rw[dv.sc.2];exact .inr (.inr ⟨_,rfl,q _ Hf1 H1 ex1 zxt⟩)
 ·cases hz
noncomputable def zif(lo:Int)(n:Nat):List D:=(List.range n).map λk=>.int (lo+(k:Nat))
theorem zxu{lo:Int}{n:Nat}{HJ Hf:Hp}:zxq K (Itr lo n) HJ Hf (zif lo n):=λHf' H' s1 s2 s3 i=>by
 refine⟨λd hd=>?_,λhi=>?_⟩
 ·unfold zif at hd
  rw[pc]at hd;obtain⟨c,hc,rfl⟩:=db.mp hd;have hlt:i<n:=by have:=(ya.mp hc).1;simpa using this
  rw[pq hlt]at hc;cases hc;refine⟨hlt,λx H'' ⟨e,hx⟩=>?_⟩;subst e;rw[hx];exact⟨Hf',.refl s3,zbb rfl⟩
 ·show n<=i
  simpa [zif] using hi
noncomputable def z0s:List D->Option (List D)|[.sc (.int j)]=>if -(2 ^ 62)<=j/\j<2 ^ 62 then some (zif 0 j.toNat) else none|_=>none
noncomputable def zpt:List D->Option (List D)|[.sc (.int i),.sc (.int j)]=>if -(2 ^ 62)<=i/\i<2 ^ 62 /\ -(2 ^ 62)<=j/\j<2 ^ 62 then some (zif i (j - i).toNat) else none|_=>none
noncomputable def iR(g:List D->Option (List D))(fr:Rho->Option (List D)):Rho->Option (List D):=λρ=>(fr ρ).bind g
theorem zig {a:Expr}{p:Pos} (hg:Gl X "range") (hm:X.mg "range" = none) (ha:PA X [a] (aB X.K B fr)) (hs:starEach [a] X.env=[(false,eval a X.env)]:=by rfl):PI X tg (.Call (.Name "range" p) [a] [] pos) (iV X.K B (iR z0s fr)):=(zq2 hg hm ha hs).imp λσ H R ⟨Hf,ρ,ds,I,hz,q⟩=>by
 obtain⟨es,he,hz⟩:=bind_some hz;refine⟨Hf,ρ,es,I,he,λHf1 H1 vs ex1 dvs=>?_⟩;unfold z0s at hz
 split at hz
 ·split at hz
  ·rename_i hk
   cases hz;obtain⟨x,rfl,hx⟩:=zco dvs
   rw[hx.sc.2];exact⟨hk.1,hk.2,q _ Hf1 H1 ex1 zxu⟩
  ·cases hz
 ·cases hz
theorem zih {a b:Expr}{p:Pos} (hg:Gl X "range") (hm:X.mg "range" = none) (ha:PA X [a,b] (aB X.K B fr)) (hs:starEach [a,b] X.env=[(false,eval a X.env),(false,eval b X.env)]:=by rfl) (hs2:starEach [b] X.env=[(false,eval b X.env)]:=by rfl):PI X tg (.Call (.Name "range" p) [a,b] [] pos) (iV X.K B (iR zpt fr)):=(zq3 hg hm ha hs hs2).imp λσ H R ⟨Hf,ρ,ds,I,hz,q⟩=>by
 obtain⟨es,he,hz⟩:=bind_some hz;refine⟨Hf,ρ,es,I,he,λHf1 H1 vs ex1 dvs=>?_⟩;unfold zpt at hz
 split at hz
 ·split at hz
  ·rename_i hk
   cases hz;obtain⟨x,y,rfl,hx,hy⟩:=zxm dvs
   rw[hx.sc.2,hy.sc.2];exact⟨⟨hk.1,hk.2.1,hk.2.2.1,hk.2.2.2⟩,q _ Hf1 H1 ex1 zxu⟩
  ·cases hz
 ·cases hz
noncomputable def gV(K:PySem.W.Frag)(B:Bs)(sl:List Nat)(g:D->Rho->Option Rho):TG:=λv σ H Q=>∃Hf ρ d ρ',VI K B Hf ρ σ H/\Dn K Hf d v/\g d ρ=some ρ'/\∀σ',VI K B Hf ρ' σ' H->σ'.length=σ.length->(∀j:Nat,j ∉ sl->σ'[j]?=σ[j]?)->Q σ' H
noncomputable def gsV(K:PySem.W.Frag)(B:Bs)(sl:List Nat)(g:List D->Rho->Option Rho):TGs:=λvs σ H Q=>∃Hf ρ ds ρ',VI K B Hf ρ σ H/\Dns K Hf ds vs/\g ds ρ=some ρ'/\∀σ',VI K B Hf ρ' σ' H->σ'.length=σ.length->(∀j:Nat,j ∉ sl->σ'[j]?=σ[j]?)->Q σ' H
noncomputable def gN(i:Nat):D->Rho->Option Rho:=λd ρ=>some (ρ.set i (some (.sh d)))
theorem zcv{i:Nat}{x:Str}(hN:X.N.Nodup)(hi:X.N[i]?=some x)(hx:Loc X.env.scope x)(hf:X.fn x=true\/X.env.scope.names.lookup x=some .local:=by first|exact .inl rfl|exact .inr rfl|assumption):PG X (.Name x pos) (gV X.K B [i] (gN i)):=(zp6 hN hi hx hf).imp λv σ H Q ⟨Hf,ρ,d,ρ',I,dv,hg,q⟩=>by
 cases hg;refine q _ (I.set dv) (by simp) λj hj=>?_
 rw[qa];intro e;exact hj (by simp[e])
noncomputable def gT0:List D->Rho->Option Rho:=λds ρ=>match ds with|[]=>some ρ|_=>none
noncomputable def gTC(g:D->Rho->Option Rho)(r:List D->Rho->Option Rho):List D->Rho->Option Rho:=λds ρ=>match ds with|d::ds=>(g d ρ).bind λρ1=>r ds ρ1|[]=>none
noncomputable def gT(n:Nat)(r:List D->Rho->Option Rho):D->Rho->Option Rho:=λd ρ=>match d with|.tup ds=>if ds.length=n then r ds ρ else none|_=>none
theorem PGs.imp{ts:List Expr}{t t':TGs}(h:PGs X ts t)(g:∀v σ H Q,t' v σ H Q->t v σ H Q):PGs X ts t':=λpins s σ H v u Q I r q=>h pins s σ H v u Q I r (g v σ H Q q)
theorem zrs:PGs X [] (gsV X.K B [] gT0):=zz7.imp λvs σ H Q ⟨Hf,ρ,ds,ρ',I,dv,hg,q⟩=>by
 unfold gT0 at hg
 split at hg
 ·cases hg
  cases dv;exact q σ I rfl λ_ _=>rfl
 ·cases hg
theorem zdy{e:Expr}{es:List Expr}{g:D->Rho->Option Rho}{r:List D->Rho->Option Rho}{sl sr:List Nat}(h1:PG X e (gV X.K B sl g))(h2:PGs X es (gsV X.K B sr r))(hs:(assignEach (e::es) X.env).map (·.2)=assign e X.env::(assignEach es X.env).map (·.2):=by rfl):PGs X (e::es) (gsV X.K B (sl++sr) (gTC g r)):=(zur h1 h2 hs).imp λvs σ H Q ⟨Hf,ρ,ds,ρ',I,dv,hg,q⟩=>by
 unfold gTC at hg
 split at hg
 ·obtain⟨ρ1,hg1,hg2⟩:=bind_some hg
  cases dv with
  |cons d1 dr =>
   refine⟨Hf,ρ,_,ρ1,I,d1,hg1,λσ1 I1 l1 k1=>⟨Hf,ρ1,_,ρ',I1,dr,hg2,λσ2 I2 l2 k2=>q σ2 I2 (l2.trans l1) λj hj=>?_⟩⟩;rw[k2 j λz=>hj (uc _ z),k1 j λz=>hj (tf _ z)]
 ·cases hg
theorem z40{es:List Expr}{k:Nat}{r:List D->Rho->Option Rho}{sl:List Nat}{n:Nat}(hc:X.calm=true)(h:PGs X es (gsV X.K B sl r))(hn:(assignEach es X.env).length=n:=by rfl)(hst:(assignEach es X.env).findIdx? (·.1)=none:=by rfl):PG X (.Tuple es k pos) (gV X.K B sl (gT n r)):=(z38 hc h hn hst).imp λv σ H Q ⟨Hf,ρ,d,ρ',I,dv,hg,q⟩=>by
 unfold gT at hg
 split at hg
 ·split at hg
  ·rename_i hl
   obtain⟨a,xs,rfl,h1,h2⟩:=dv.tup;exact⟨xs,I.fh.seqT h1,by rw[<-h2.length];exact hl,Hf,ρ,_,ρ',I,h2,hg,q⟩
  ·cases hg
 ·cases hg
end
noncomputable def zdg(n:Nat)(cap:List Nat)(ρ:Rho):Rho:=List.replicate n none++cap.map λi=>(ρ[i]?).getD none
noncomputable def zc1(g:D->Rho->Option Rho)(tt:Rho->Option Bool)(te:Rho->Option D)(ρ:Rho):List D->Option (List D)
 |[]=>some []
 |d::r=>(g d ρ).bind λρ1=>(tt ρ1).bind λb=>if b=true then (te ρ1).bind λy=>(zc1 g tt te ρ r).map (y::·) else zc1 g tt te ρ r
noncomputable def zcd(n:Nat)(cap:List Nat)(fi:Rho->Option (List D))(g:D->Rho->Option Rho)(tt:Rho->Option Bool)(te:Rho->Option D):Rho->Option (List D) :=
 λρ=>(fi ρ).bind λds=>if ds.length<=sizeLine then zc1 g tt te (zdg n cap ρ) ds else none
noncomputable def eW(K:PySem.W.Frag)(B:Bs)(f:Rho->Option (List D)):TE:=λσ H Q=>∃Hf ρ ds,VI K B Hf ρ σ H/\f ρ=some ds/\∀Hf' H' p xs,Ex Hf H Hf' H'->H p=none->Hf' p=none->H' p=some (.lst xs)->Dns K Hf' ds xs->Q (.ref p) H'
noncomputable def eL(f:Rho->Option (List D)):Rho->Option D:=λρ=>(f ρ).map .lst
theorem Ex.frz{Hf H Hf' H':Hp}{p:Addr}{o:HO}(e:Ex Hf H Hf' H')(hp:H p=none)(hp':H' p=some o)(hf:Hf' p=none)(ho:∀x u,o≠.frz x u:=by intro x u z;cases z):Ex Hf H (upd Hf' p o) H':=by
 refine⟨e.ff.trans (zas hf),e.hh,λb u h=>?_,λb h=>?_,λb x u h=>?_⟩
 ·by_cases hb:b=p
  ·subst hb;rw[zac]at h;rw[hp'];exact h
  ·rw[zae hb]at h;exact e.fh b u h
 ·by_cases hb:b=p
  ·subst hb;exact .inr (.inl hp)
  ·rw[zae hb]at h;exact e.nw b h
 ·by_cases hb:b=p
  ·subst hb;rw[zac]at h;cases h;exact absurd rfl (ho x u)
  ·rw[zae hb]at h;exact e.nf b x u h
section
variable {X:Cx}{B:Bs}{K:PySem.W.Frag}{tg e iter elt:Expr}{ifs:List Expr}{fa:Rho->Option D}{fr fi:Rho->Option (List D)}{pos:Pos}{g:D->Rho->Option Rho}{tt:Rho->Option Bool}{te:Rho->Option D}
theorem z41{t:TE}{σ:St}{H:Hp}{Q:VK}(ht:∀R,eW K B fr σ H R->t σ H R)(h:eV K B (eL fr) σ H Q):t σ H Q:=by
 obtain⟨Hf,ρ,z,I,hz,q⟩:=h;obtain⟨ds,hd,hz⟩:=db.mp hz;subst hz;refine ht Q ⟨Hf,ρ,ds,I,hd,λHf' H' p xs ex hp hf hp' dx=>?_⟩;have e2:=ex.frz hp hp' hf;exact q _ H' _ e2 (zdl (SqL.of zac) (dx.same (zas hf)))
theorem zrt(h:PE X e (eW X.K B fr)):PE X e (eV X.K B (eL fr)):=h.imp λσ H Q z=>z41 (λR z=>z) z
theorem zru{cap:List Nat}(h:cap.Nodup){i j x:Nat}(h1:cap[i]?=some x)(h2:cap[j]?=some x):i=j:=by
 obtain⟨a,ha⟩:=ya.mp h1;obtain⟨b,hb⟩:=ya.mp h2;rcases Nat.lt_trichotomy i j with z|z|z
 ·exact absurd (ha.trans hb.symm) (qe.mp h i j a b z)
 ·exact z
 ·exact absurd (hb.trans ha.symm) (qe.mp h j i b a z)
theorem znk{n:Nat}{cap:List Nat}{ρ:Rho}{i:Nat}{sl:Sl}(h:(zdg n cap ρ)[i]?=some (some sl)):∃c,n<=i/\cap[i - n]?=some c/\ρ[c]?=some (some sl):=by
 unfold zdg at h;by_cases hi:i<n
 ·rw[gf (by simpa using hi),ig]at h
  split at h <;> cases h
 ·rw[sf (by simpa using hi),jj,pc]at h
  obtain⟨c,hc,h⟩:=db.mp h;refine⟨c,by omega,hc,?_⟩
  cases q:ρ[c]? with
  |none=>rw[q]at h;cases h
  |some z=>rw[q]at h;exact zc some h
theorem zxv{n:Nat}{cap:List Nat}{σ:St}{i c:Nat}(hi:n<=i)(hc:cap[i - n]?=some c):(zdv n cap σ)[i]?=some ((σ[c]?).getD none):=by
 unfold zdv;rw[sf (by simpa using hi),jj,pc,hc];rfl
theorem VI.comp{Hf H:Hp}{ρ:Rho}{σ:St}{n:Nat}{cap:List Nat}(I:VI K B Hf ρ σ H)(hc:cap.Nodup):VI K B Hf (zdg n cap ρ) (zdv n cap σ) H:=by
 have back:∀{i c:Nat} {v:V},n<=i->cap[i - n]?=some c->(zdv n cap σ)[i]?=some (some v)->σ[c]?=some (some v):=λ{i c v} hi hc e=>by
  rw[zxv hi hc]at e
  cases q:σ[c]? with
  |none=>rw[q]at e;cases e
  |some z=>rw[q]at e;exact e
 refine⟨I.ex,by simp[zdg,zdv],λi sl h=>?_,λi sl p h o q=>?_,λi j si sj p h1 h2 o1 o2 q1 q2=>?_⟩
 ·obtain⟨c,hi,hc,h⟩:=znk h
  obtain⟨v,h1,h2⟩:=I.ok c sl h;exact⟨v,by rw[zxv hi hc,h1];rfl,h2⟩
 ·obtain⟨c,hi,hc,h⟩:=znk h
  exact I.own c sl p h o (back hi hc q)
 ·obtain⟨c,hi,hc1,h1⟩:=znk h1
  obtain⟨d,hj,hc2,h2⟩:=znk h2;have e:=I.dis c d si sj p h1 h2 o1 o2 (back hi hc1 q1) (back hj hc2 q2);subst e
  have:=zru hc hc1 hc2
  omega
theorem zer{ρ:Rho}:∀{ds rs:List D},zc1 g tt te ρ ds=some rs->rs.length<=ds.length
 |[],rs,h=>by cases h;exact wa _
 |d::r,rs,h=>by
  unfold zc1 at h;obtain⟨ρ1,_,h⟩:=bind_some h;obtain⟨b,_,h⟩:=bind_some h
  split at h
  ·obtain⟨y,_,h⟩:=bind_some h
   obtain⟨rs',h1,h2⟩:=db.mp h;subst h2
   have:=zer h1
   simp;omega
  ·have:=zer h
   simp;omega
theorem zrv{J:It}{Hf H:Hp}{ρ:Rho}{σc:St}{ds rs:List D}{sl:List Nat}{Q:List V->Hp->Prop}(I:VI K B Hf ρ σc H)(hJ:zxq K J H Hf ds)(hl:ds.length<=sizeLine)(hr:zc1 g tt te ρ ds=some rs)(hs:∀j∈sl,σc[j]?=some none)
  (q:∀Hf' H' ys,Ex Hf H Hf' H'->Dns K Hf' rs ys->Q ys H'):zul J (gV K B sl g) (tV K B tt) (eV K B te) σc Q H:=by
 refine⟨λi m ys H'=>m=ds.length - i/\i<=ds.length/\∃Hf' done todo,Ex Hf H Hf' H'/\Dns K Hf' done ys/\done.length<=i/\zc1 g tt te ρ (ds.drop i)=some todo/\rs=done++todo,⟨ds.length,by simp,vd _,Hf,[],rs,.refl I.fh,.nil,wa _,hr,rfl⟩,?_⟩;rintro i m ys H' ⟨rfl,hi,Hf',done,todo,ex,dn,hdl,hc,hrs⟩;have ok:=hJ Hf' H' ex.hh ex.ff ex.fh i;by_cases hlt:i<ds.length
 ·obtain⟨go,yld⟩:=ok.1 ds[i] (by simp[hlt])
  have hyl:=dn.length;refine .inr ⟨go,by omega,λys' H2=>∃Hf2 done' todo',Ex Hf H Hf2 H2/\Dns K Hf2 done' ys'/\done'.length<=i+1/\zc1 g tt te ρ (ds.drop (i+1))=some todo'/\rs=done'++todo',λys' H2 ⟨Hf2,done',todo',h1,h2,h3,h4,h5⟩=>⟨ds.length - (i+1),by omega,rfl,hlt,Hf2,done',todo',h1,h2,h3,h4,h5⟩,λx H2 y=>?_⟩;obtain⟨Hf2,ex2,dx⟩:=yld x H2 y;rw[yc hlt]at hc;unfold zc1 at hc;obtain⟨ρ1,hg,hc⟩:=bind_some hc;obtain⟨b,hb,hc⟩:=bind_some hc;have e2:=ex.trans ex2;refine⟨Hf2,ρ,_,ρ1,I.ext e2,dx,hg,λσ' I' hle hk=>⟨⟨hle,λj v hv=>?_⟩,Hf2,ρ1,b,I',hb,λHf3 H3 ex3=>?_⟩⟩
  ·rw[hk j λz=>?_]
   ·exact hv
   ·have:=hs j z
    rw[hv]at this;cases this
  ·have e3:=e2.trans ex3
   cases b with
   |true =>
    rw[ba rfl]at hc;show if true=true then _ else _
    rw[ba rfl];obtain⟨y,hy,hc⟩:=bind_some hc;obtain⟨t',h1,h2⟩:=db.mp hc;subst h2;refine⟨Hf3,ρ1,y,I'.ext ex3,hy,λHf4 H4 v ex4 dv=>⟨Hf4,done++[y],t',e3.trans ex4,?_,by simp;omega,h1,by rw[hrs];simp⟩⟩;exact(dn.same ((ex2.trans ex3).trans ex4).ff).zsnoc dv
   |false =>
    rw[oa la]at hc;show if false=true then _ else _
    rw[oa la];exact⟨Hf3,done,todo,e3,dn.same (ex2.trans ex3).ff,by omega,hc,hrs⟩
 ·have e:i=ds.length:=by omega
  subst e;refine .inl ⟨ok.2 (wa _),?_⟩;rw[qh]at hc;unfold zc1 at hc;cases hc;rw[kc]at hrs;subst hrs;exact q Hf' H' ys ex dn
theorem zrw:zw7 X [] (tV X.K B λ_=>some true):=λpins s σ H Q I h=>z3q pins s σ H Q I (by
 obtain⟨Hf,ρ,b,I2,hb,q⟩:=h;cases hb;exact q Hf H (.refl I2.fh))
theorem zxw{c:Expr}(h:PT X c (tV X.K B tt)):zw7 X [c] (tV X.K B tt):=z3r h
variable {scope:Scope}{vars:List Str}{cap:List Nat}{sl:List Nat}
theorem zu7{σ:St}{H:Hp}{Q:VK}(hn:cap.Nodup)(hsl:sl.all (·<vars.length)=true)(h:eW X.K B (zcd vars.length cap fi g tt te) σ H Q) :
  z3s (iB X.K B fi) (gV X.K B sl g) (tV X.K B tt) (eV X.K B te) vars.length cap σ H Q:=by
 obtain⟨Hf,ρ,rs,I,hz,q⟩:=h;obtain⟨ds,hd,hz⟩:=bind_some hz
 split at hz
 ·rename_i hl
  refine⟨Hf,ρ,ds,I,hd,λJ Hf1 H1 ex1 ok=>zrv ((I.ext ex1).comp hn) ok hl hz (λj hj=>?_) λHf2 H2 ys ex2 dn=>⟨?_,λp hp=>?_⟩⟩
  ·have hj:=jd.mp hsl j hj
   have hj:j<vars.length:=by simpa using hj
   unfold zdv;rw[gf (by simpa using hj),ig,ba hj]
  ·rw[<-dn.length];exact ie (zer hz) hl
  ·have e3:=(ex1.trans ex2).trans (Ex.made (o:=.lst ys) ex2.fh hp)
   exact q Hf2 _ p ys e3 ((ex1.trans ex2).hh.free hp) (ex2.fh.free hp) zac dn
 ·cases hz
theorem znl (hc:X.calm=true) (S:CScope X scope) (hcap:∀i∈cap,i<X.N.length/\scope.names.lookup (X.N.getD i "")≠some .local) (hn:cap.Nodup) (hsl:sl.all (·<vars.length)=true) (hi:PI X tg iter (iB X.K B fi))
  (hg:∀s H C ex,PG (za3 X scope C vars cap s H ex) tg (gV X.K B sl g)) (ht:∀s H C ex,zw7 (za3 X scope C vars cap s H ex) ifs (tV X.K B tt)) (he:∀s H C ex,PE (za3 X scope C vars cap s H ex) elt (eV X.K B te))
  (hs:∀x,foldedSetIterable iter X.env x=pure x:=by intro _;rfl):PE X (.ListComp elt [⟨tg,iter,ifs,0⟩] scope pos) (eW X.K B (zcd vars.length cap fi g tt te)) :=
 (zqt hc S hcap hi hg ht he hs).imp λσ H Q h=>zu7 hn hsl h
variable {es:List Expr}
noncomputable def lOk(f:Rho->Option (List D)):Rho->Option (List D):=λρ=>(f ρ).bind λds=>if ds.length<=sizeLine then some ds else none
theorem zes(h:PA X es (aV X.K B fr)):PE X (.List es pos) (eW X.K B (lOk fr)):=(zm0 h).imp λσ H Q ⟨Hf,ρ,z,I,hz,q⟩=>by
 obtain⟨ds,hd,hz⟩:=bind_some hz
 split at hz
 ·rename_i hl
  cases hz;refine⟨Hf,ρ,_,I,hd,λHf1 H1 vs ex dvs=>⟨by rw[<-dvs.length];exact hl,λp hp=>?_⟩⟩
  exact q Hf1 _ p vs (ex.trans (Ex.made (o:=.lst vs) ex.fh hp)) (ex.hh.free hp) (ex.fh.free hp) zac dvs
 ·cases hz
noncomputable def wN(g:List D->Option (List D))(fr:Rho->Option (List D)):Rho->Option (List D):=λρ=>(fr ρ).bind g
end
inductive Out where
 |nx (ρ:Rho)|bk (ρ:Rho)|ct (ρ:Rho)|rt (d:D)|rw (ds:List D)|bad
def zei(K:PySem.W.Frag)(B:Bs)(Hb:Hp)(o:Out)(D:Ends):Prop:=match o with
 |.nx ρ=>∀Hf σ H,zav Hb Hf->VI K B Hf ρ σ H->D.nx σ H
 |.bk ρ=>∀Hf σ H,zav Hb Hf->VI K B Hf ρ σ H->D.bk σ H
 |.ct ρ=>∀Hf σ H,zav Hb Hf->VI K B Hf ρ σ H->D.ct σ H
 |.rt d=>∀Hf H v,Ex B.f B.h Hf H->Dn K Hf d v->D.rt v H
 |.rw ds=>∀Hf H p xs,Ex B.f B.h Hf H->B.h p=none->Hf p=none->H p=some (.lst xs)->Dns K Hf ds xs->D.rt (.ref p) H
 |.bad=>False
noncomputable def sV(K:PySem.W.Frag)(B:Bs)(f:Rho->Out):TS:=λD σ H=>∃Hf ρ,VI K B Hf ρ σ H/\zei K B Hf (f ρ) D
theorem zei.mono{K:PySem.W.Frag}{B:Bs}{Hb Hc:Hp}{o:Out}{D:Ends}(h:zei K B Hb o D)(s:zav Hb Hc):zei K B Hc o D:=by
 cases o with
 |nx ρ=>exact λHf σ H z=>h Hf σ H (s.trans z)
 |bk ρ=>exact λHf σ H z=>h Hf σ H (s.trans z)
 |ct ρ=>exact λHf σ H z=>h Hf σ H (s.trans z)
 |rt d=>exact h
 |rw d=>exact h
 |bad=>exact h
noncomputable def za2:Rho->Out:=λρ=>.nx ρ
noncomputable def zat(f g:Rho->Out):Rho->Out:=λρ=>match f ρ with|.nx ρ'=>g ρ'|o=>o
noncomputable def sIf(ft:Rho->Option Bool)(f g:Rho->Out):Rho->Out:=λρ=>match ft ρ with|some true=>f ρ|some false=>g ρ|none=>.bad
noncomputable def zbq(i:Nat)(fe:Rho->Option D):Rho->Out:=λρ=>match fe ρ with|some d=>.nx (ρ.set i (some (.sh d)))|none=>.bad
noncomputable def ze6(i:Nat)(fe:Rho->Option (List D)):Rho->Out:=λρ=>match fe ρ with|some d=>.nx (ρ.set i (some (.ow d)))|none=>.bad
noncomputable def zii(g:D->Rho->Option Rho)(fe:Rho->Option D):Rho->Out:=λρ=>match (fe ρ).bind λd=>g d ρ with|some ρ'=>.nx ρ'|none=>.bad
noncomputable def zc2(fe:Rho->Option D):Rho->Out:=λρ=>match fe ρ with|some _=>.nx ρ|none=>.bad
noncomputable def zb4(fe:Rho->Option D):Rho->Out:=λρ=>match fe ρ with|some d=>.rt d|none=>.bad
noncomputable def ze7(fe:Rho->Option (List D)):Rho->Out:=λρ=>match fe ρ with|some d=>.rw d|none=>.bad
noncomputable def zdz(i:Nat):Rho->Out:=λρ=>match ρ[i]? with|some (some (.ow ds))=>.rw ds|_=>.bad
noncomputable def ze8:Rho->Out:=λ_=>.rt .non
noncomputable def zda(i:Nat)(fe:Rho->Option D):Rho->Out:=λρ=>match ρ[i]? with
 |some (some (.ow ds))=>match fe ρ with|some d=>if ds.length<sizeLine then .nx (ρ.set i (some (.ow (ds++[d])))) else .bad|none=>.bad
 |_=>.bad
noncomputable def zhe(i:Nat)(f:Rho->Out):Rho->Out:=λρ=>match ρ[i]? with|some (some (.ow ds))=>f (ρ.set i (some (.sh (.lst ds))))|_=>f ρ
noncomputable def zea(g:D->Rho->Option Rho)(f:Rho->Out):List D->Rho->Out
 |[],ρ=>.nx ρ
 |d::r,ρ=>match g d ρ with
  |none=>.bad
  |some ρ1=>match f ρ1 with
   |.nx ρ2=>zea g f r ρ2
   |.ct ρ2=>zea g f r ρ2
   |.bk ρ2=>.nx ρ2
   |o=>o
noncomputable def zcx(fi:Rho->Option (List D))(g:D->Rho->Option Rho)(f:Rho->Out):Rho->Out:=λρ=>match fi ρ with|some ds=>zea g f ds ρ|none=>.bad
section
variable {X:Cx}{B:Bs}{K:PySem.W.Frag}{st:Stmt}{rest sts:List Stmt}{tg e iter a:Expr}{f g h:Rho->Out}{fe fa:Rho->Option D}{fr fi:Rho->Option (List D)}{ft:Rho->Option Bool}{pos:Pos}{gt:D->Rho->Option Rho}{sl:List Nat}
theorem PS.imp{t t':TS}(h:PS X st t)(k:∀D σ H,t' D σ H->t D σ H):PS X st t':=λpins s σ H D I q=>h pins s σ H D I (k D σ H q)
theorem PSs.imp{t t':TS}(h:PSs X sts t)(k:∀D σ H,t' D σ H->t D σ H):PSs X sts t':=λpins s σ H D I q=>h pins s σ H D I (k D σ H q)
theorem zd0:PSs X [] (sV X.K B za2):=zp5.imp λD σ H ⟨Hf,ρ,I,q⟩=>q Hf σ H (zav.refl _) I
theorem zah(h1:PS X st (sV X.K B f))(h2:PSs X rest (sV X.K B g)):PSs X (st::rest) (sV X.K B (zat f g)):=(zb8 h1 h2).imp λD σ H ⟨Hf,ρ,I,q⟩=>by
 refine⟨Hf,ρ,I,?_⟩;unfold zat at q
 cases e:f ρ with
 |nx ρ'=>rw[e]at q;exact λHf' σ' H' z I'=>⟨Hf',ρ',I',zei.mono q z⟩
 |bk ρ'=>rw[e]at q;exact q
 |ct ρ'=>rw[e]at q;exact q
 |rt d=>rw[e]at q;exact q
 |rw d=>rw[e]at q;exact q
 |bad=>rw[e]at q;exact q
theorem zan(h1:PS X st (sV X.K B f)):PSs X [st] (sV X.K B f):=zef h1
theorem zdh{c:Expr}{as bs:List Stmt}(hc:PT X c (tV X.K B ft))(ha:PSs X as (sV X.K B f))(hb:PSs X bs (sV X.K B g)):PS X (.If c as bs pos) (sV X.K B (sIf ft f g)):=(z27 hc ha hb).imp λD σ H ⟨Hf,ρ,I,q⟩=>by
 unfold sIf at q
 cases e:ft ρ with
 |none=>rw[e]at q;exact q.elim
 |some b =>
  rw[e]at q;refine⟨Hf,ρ,b,I,e,λHf1 H1 ex1=>?_⟩
  cases b with
  |true=>rw[ba rfl];exact⟨Hf1,ρ,I.ext ex1,zei.mono q ex1.ff⟩
  |false=>rw[oa la];exact⟨Hf1,ρ,I.ext ex1,zei.mono q ex1.ff⟩
theorem zbl{i:Nat}{x:Str}{pos':Pos}(hN:X.N.Nodup)(hi:X.N[i]?=some x)(hx:Loc X.env.scope x)(he:PE X e (eV X.K B fe))(hs:swapsWith e (some (.Name x pos')) pos.line X.env=pure false:=by rfl)(hf:X.fn x=true\/X.env.scope.names.lookup x=some .local:=by first|exact .inl rfl|exact .inr rfl|assumption):PS X (.Assign [.Name x pos'] e pos) (sV X.K B (zbq i fe)):=(zf6 hN hi hx he hs hf).imp λD σ H ⟨Hf,ρ,I,q⟩=>by
 unfold zbq at q
 cases e:fe ρ with
 |none=>rw[e]at q;exact q.elim
 |some d=>rw[e]at q;exact⟨Hf,ρ,d,I,e,λHf1 H1 v ex1 dv=>q Hf1 _ H1 ex1.ff ((I.ext ex1).set dv)⟩
theorem VI.setO{Hf H Hf' H':Hp}{ρ:Rho}{σ:St}{i:Nat}{ds:List D}{p:Addr}{xs:List V}(I:VI K B Hf ρ σ H)(ex:Ex Hf H Hf' H')(hp:H p=none)(hf:Hf' p=none)(hp':H' p=some (.lst xs))(dn:Dns K Hf' ds xs):VI K B Hf' (ρ.set i (some (.ow ds))) (σ.set i (some (.ref p))) H':=by
 have g:∀{j:Nat} {sl:Sl},(ρ.set i (some (.ow ds)))[j]?=some (some sl)->(j=i/\sl=.ow ds/\i<ρ.length)\/(j≠i/\ρ[j]?=some (some sl)):=λ{j sl} e=>by
  by_cases hj:i=j
  ·subst hj
   rw[ek]at e
   cases q:ρ[i]? with
   |none=>rw[q]at e;cases e
   |some z =>
    rw[q]at e;simp at e;exact .inl ⟨rfl,e.symm,(ya.mp q).1⟩
  ·rw[qa hj]at e
   exact .inr ⟨λz=>hj z.symm,e⟩
 have I1:=I.ext ex;have hBp:B.h p=none:=I.ex.hh.free hp
 have nown:∀{j:Nat} {sl:Sl},ρ[j]?=some (some sl)->ze5 sl=true->σ[j]?≠some (some (.ref p)):=λ{j sl} e o z=>by
  obtain⟨v,h1,h2⟩:=I.ok j sl e;rw[z]at h1;cases h1
  cases sl with
  |sh d=>cases o
  |ow d=>obtain⟨p',xs',e1,_,e2,_⟩:=h2;cases e1;rw[hp]at e2;cases e2
  |dk ks d=>obtain⟨p',xs',e1,_,e2,_⟩:=h2;cases e1;rw[hp]at e2;cases e2
  |dt ks d=>obtain⟨p',xs',e1,_,e2,_⟩:=h2;cases e1;rw[hp]at e2;cases e2
 refine⟨I1.ex,by simp[I.len],λj sl e=>?_,λj sl p' e o q=>?_,λj k sj sk p' e1 e2 o1 o2 q1 q2=>?_⟩
 ·rcases g e with⟨rfl,rfl,hl⟩|⟨hj,e⟩
  ·exact⟨.ref p,by rw[jb (by rw[<-I.len];exact hl)],p,xs,rfl,hf,hp',dn⟩
  ·obtain⟨u,h1,h2⟩:=I1.ok j sl e
   exact⟨u,by rw[qa (λz=>hj z.symm)];exact h1,h2⟩
 ·rcases g e with⟨rfl,rfl,hl⟩|⟨hj,e⟩
  ·rw[jb (by rw[<-I.len];exact hl)]at q
   cases q;exact hBp
  ·rw[qa (λz=>hj z.symm)]at q
   exact I.own j sl p' e o q
 ·rcases g e1 with⟨rfl,rfl,hl⟩|⟨hj,e1⟩
  ·rcases g e2 with⟨rfl,rfl,hl2⟩|⟨hk,e2⟩
   ·rfl
   ·rw[jb (by rw[<-I.len];exact hl)]at q1
    cases q1;rw[qa (λz=>hk z.symm)]at q2
    exact absurd q2 (nown e2 o2)
  ·rw[qa (λz=>hj z.symm)]at q1
   rcases g e2 with⟨hki,hsk,hl2⟩|⟨hk,e2⟩
   ·rw[hki,jb (by rw[<-I.len];exact hl2)]at q2
    cases q2;exact absurd q1 (nown e1 o1)
   ·rw[qa (λz=>hk z.symm)]at q2
    exact I.dis j k sj sk p' e1 e2 o1 o2 q1 q2
theorem zhf{i:Nat}{x:Str}{pos':Pos}(hN:X.N.Nodup)(hi:X.N[i]?=some x)(hx:Loc X.env.scope x)(he:PE X e (eW X.K B fr))(hs:swapsWith e (some (.Name x pos')) pos.line X.env=pure false:=by rfl)(hf:X.fn x=true\/X.env.scope.names.lookup x=some .local:=by first|exact .inl rfl|exact .inr rfl|assumption):PS X (.Assign [.Name x pos'] e pos) (sV X.K B (ze6 i fr)):=(zf6 hN hi hx he hs hf).imp λD σ H ⟨Hf,ρ,I,q⟩=>by
 unfold ze6 at q
 cases e:fr ρ with
 |none=>rw[e]at q;exact q.elim
 |some d=>rw[e]at q;exact⟨Hf,ρ,d,I,e,λHf1 H1 p xs ex hp hf hp' dn=>q Hf1 _ H1 ex.ff (I.setO ex hp hf hp' dn)⟩
theorem z42(he:PE X e (eV X.K B fe))(hg:PG X tg (gV X.K B sl gt))(hs:swapsWithSole [tg] e pos.line X.env=pure false:=by rfl)(hw:swappedStores [tg] e X.env=pure none:=by rfl)(h1:(assignEach [tg] X.env).map (·.2)=[assign tg X.env]:=by rfl):PS X (.Assign [tg] e pos) (sV X.K B (zii gt fe)):=(zw1 he hg hs hw h1).imp λD σ H ⟨Hf,ρ,I,q⟩=>by
 unfold zii at q
 cases e:fe ρ with
 |none=>rw[e]at q;exact q.elim
 |some d =>
  rw[e]at q
  cases e2:gt d ρ with
  |none=>simp only[ib,e2]at q;exact q.elim
  |some ρ' =>
   simp only[ib,e2]at q;exact⟨Hf,ρ,d,I,e,λHf1 H1 v ex1 dv=>⟨Hf1,ρ,d,ρ',I.ext ex1,dv,e2,λσ' I' _ _=>q Hf1 σ' H1 ex1.ff I'⟩⟩
theorem z43(he:PE X e (eV X.K B fe))(hs:swapsWith e none pos.line X.env=pure false:=by rfl):PS X (.Expr e pos) (sV X.K B (zc2 fe)):=(zf5 he hs).imp λD σ H ⟨Hf,ρ,I,q⟩=>by
 unfold zc2 at q
 cases e:fe ρ with
 |none=>rw[e]at q;exact q.elim
 |some d=>rw[e]at q;exact⟨Hf,ρ,d,I,e,λHf1 H1 v ex1 dv=>q Hf1 _ H1 ex1.ff (I.ext ex1)⟩
theorem zbt(he:PE X e (eV X.K B fe)):PS X (.Return (some e) pos) (sV X.K B (zb4 fe)):=(zjd he).imp λD σ H ⟨Hf,ρ,I,q⟩=>by
 unfold zb4 at q
 cases e:fe ρ with
 |none=>rw[e]at q;exact q.elim
 |some d=>rw[e]at q;exact⟨Hf,ρ,d,I,e,λHf1 H1 v ex1 dv=>q Hf1 H1 v (I.ex.trans ex1) dv⟩
theorem zxx (i:Nat) {x:Str}{p:Pos} (hN:X.N[i]?=some x:=by rfl) (hv:Vis X.env.scope x:=by first|exact lb rfl|exact we (lb rfl)|exact we (we rfl)) (hd:(x == ("__debug__" : Str))=false:=by decide) (hcd:(x == ("__classdict__" : Str))=false:=by decide):PS X (.Return (some (.Name x p)) pos) (sV X.K B (zdz i)):=(zjd (zcy hN hv hd hcd)).imp λD σ H ⟨Hf,ρ,I,q⟩=>by
 unfold zdz at q
 split at q
 ·rename_i ds e
  obtain⟨v,h1,p,xs,rfl,h2,h3,h4⟩:=I.ok i _ e;exact⟨_,h1,q Hf H p xs I.ex (I.own i _ p e rfl h1) h2 h3 h4⟩
 ·exact q.elim
theorem VI.mut{Hf H:Hp}{ρ:Rho}{σ:St}{i:Nat}{ds ds':List D}{p:Addr}{xs':List V}(I:VI K B Hf ρ σ H)(hi:ρ[i]?=some (some (.ow ds)))(hp:σ[i]?=some (some (.ref p)))(dn:Dns K Hf ds' xs'):VI K B Hf (ρ.set i (some (.ow ds'))) σ (upd H p (.lst xs')):=by
 obtain⟨v,h1,p',xs,e1,hf,hH,_⟩:=I.ok i _ hi;rw[hp]at h1;cases h1;cases e1;have hB:=I.own i _ p hi rfl hp;have hlt:i<ρ.length:=(ya.mp hi).1
 have g:∀{j:Nat} {sl:Sl},(ρ.set i (some (.ow ds')))[j]?=some (some sl)->(j=i/\sl=.ow ds')\/(j≠i/\ρ[j]?=some (some sl)):=λ{j sl} e=>by
  by_cases hj:i=j
  ·subst hj
   rw[jb hlt]at e;cases e;exact .inl ⟨rfl,rfl⟩
  ·rw[qa hj]at e
   exact .inr ⟨λz=>hj z.symm,e⟩
 have fs:zav Hf (upd H p (.lst xs')):=λb o h=>by
  rw[zae (zai h hf)];exact I.fh b o h
 refine⟨⟨I.ex.ff,λb o h=>?_,fs,I.ex.nw,I.ex.nf⟩,by simp[I.len],λj sl e=>?_,λj sl p' e o q=>?_,λj k sj sk p' e1 e2 o1 o2 q1 q2=>?_⟩
 ·rw[zae (zai h hB)];exact I.ex.hh b o h
 ·rcases g e with⟨rfl,rfl⟩|⟨hj,e⟩
  ·exact⟨.ref p,hp,p,xs',rfl,hf,zac,dn⟩
  ·obtain⟨u,h1,h2⟩:=I.ok j sl e
   refine⟨u,h1,?_⟩
   have ne:∀{p':Addr},ze5 sl=true->u=.ref p'->p'≠p:=λ{p'} o z1 z2=>by
    subst z1 z2;exact hj (I.dis j i sl _ _ e hi o rfl h1 hp)
   cases sl with
   |sh d=>exact h2
   |ow d=>obtain⟨p',xs,e1,e2,e3,e4⟩:=h2;exact⟨p',xs,e1,e2,by rw[zae (ne rfl e1)];exact e3,e4⟩
   |dk ks d=>obtain⟨p',xs,e1,e2,e3,e4⟩:=h2;exact⟨p',xs,e1,e2,by rw[zae (ne rfl e1)];exact e3,e4⟩
   |dt ks d=>obtain⟨p',xs,e1,e2,e3,e4⟩:=h2;exact⟨p',xs,e1,e2,by rw[zae (ne rfl e1)];exact e3,e4⟩
 ·rcases g e with⟨rfl,rfl⟩|⟨hj,e⟩
  ·rw[hp]at q;cases q;exact hB
  ·exact I.own j sl p' e o q
 ·rcases g e1 with⟨rfl,rfl⟩|⟨hj,e1⟩
  ·rcases g e2 with⟨rfl,rfl⟩|⟨hk,e2⟩
   ·rfl
   ·exact I.dis _ k _ sk p' hi e2 rfl o2 q1 q2
  ·rcases g e2 with⟨hki,hsk⟩|⟨hk,e2⟩
   ·rw[hki]at q2 ⊢
    exact I.dis j _ sj _ p' e1 hi o1 rfl q1 q2
   ·exact I.dis j k sj sk p' e1 e2 o1 o2 q1 q2
theorem zgn {i:Nat}{x:Str}{p1 p2 p3:Pos} (hN:X.N[i]?=some x) (ha:PE X a (eV X.K B fa)) (hv:Vis X.env.scope x:=by first|exact lb rfl|exact we (lb rfl)|exact we (we rfl)) (hd:(x == ("__debug__" : Str))=false:=by decide) (hcd:(x == ("__classdict__" : Str))=false:=by decide)
  (hbase:attributeBase (.Name x p1) "append" X.env (eval (.Name x p1) X.env)=eval (.Name x p1) X.env:=by rfl)
  (hfew:((backTo p3 (starEach [a] X.env)).all (λx=>!x.1) && (backToKw p3 (keywordEach [] X.env)).all (λx=>x.1.isSome) && decide ([a].length+([]:List Keyword).length+(if ([]:List Keyword).isEmpty then 0 else 1)<30))=true:=by rfl)
  (hline:(p2.endLine == p3.line)=true:=by rfl) (hs:starEach [a] X.env=(false,eval a X.env)::starEach [] X.env:=by rfl) (hplain:(backTo p3 (starEach [] X.env)).any (·.1)=false:=by rfl) (hsw:swapsWith (.Call (.Attribute (.Name x p1) "append" p2) [a] [] p3) none pos.line X.env=pure false:=by rfl) :
  PS X (.Expr (.Call (.Attribute (.Name x p1) "append" p2) [a] [] p3) pos) (sV X.K B (zda i fa)) :=
 (zf5 (zuj PySem.F.plainAttrs_list PySem.F.slot_list_append PySem.F.type_list_append zgd (zcy hN hv hd hcd) (zcb ha zdt hs) hbase hfew hline hs hplain) hsw).imp λD σ H ⟨Hf,ρ,I,q⟩=>by
  unfold zda at q
  split at q
  ·rename_i ds e
   obtain⟨v,h1,p,xs,rfl,h2,h3,h4⟩:=I.ok i _ e;refine⟨_,h1,.inl ⟨rfl,xs,SqL.of h3⟩,?_⟩
   split at q
   ·rename_i d hd
    split at q
    ·rename_i hk
     refine⟨Hf,ρ,d,I,hd,λHf1 H1 v ex1 dv=>?_⟩;refine⟨xs,ex1.hh _ _ h3,by rw[<-h4.length];exact hk,q Hf1 σ _ ex1.ff ?_⟩;exact(I.ext ex1).mut e h1 ((h4.same ex1.ff).zsnoc dv)
    ·exact q.elim
   ·exact q.elim
  ·exact q.elim
theorem VI.frz{Hf H:Hp}{ρ:Rho}{σ:St}{i:Nat}{ds:List D}(I:VI K B Hf ρ σ H)(hi:ρ[i]?=some (some (.ow ds))):∃Hf',zav Hf Hf'/\VI K B Hf' (ρ.set i (some (.sh (.lst ds)))) σ H:=by
 obtain⟨v,h1,p,xs,rfl,hf,hH,dn⟩:=I.ok i _ hi;have hB:=I.own i _ p hi rfl h1;have ex:=I.ex.frz hB hH hf;refine⟨upd Hf p (.lst xs),zas hf,ex,by simp[I.len],λj sl e=>?_,λj sl p' e o q=>?_,λj k sj sk p' e1 e2 o1 o2 q1 q2=>?_⟩
 ·by_cases hj:i=j
  ·subst hj
   rw[jb (ya.mp hi).1]at e;cases e;exact⟨_,h1,zdl (SqL.of zac) (dn.same (zas hf))⟩
  ·rw[qa hj]at e
   obtain⟨u,g1,g2⟩:=I.ok j sl e;refine⟨u,g1,?_⟩
   have ne:∀{p':Addr},ze5 sl=true->u=.ref p'->p'≠p:=λ{p'} o z1 z2=>by
    subst z1 z2;exact hj (I.dis i j _ sl _ hi e rfl o h1 g1)
   cases sl with
   |sh d=>exact Dn.same g2 (zas hf)
   |ow d=>obtain⟨p',xs,e1,e2,e3,e4⟩:=g2;exact⟨p',xs,e1,by rw[zae (ne rfl e1)];exact e2,e3,Dns.same e4 (zas hf)⟩
   |dk ks d=>obtain⟨p',xs,e1,e2,e3,e4⟩:=g2;exact⟨p',xs,e1,by rw[zae (ne rfl e1)];exact e2,e3,e4.1,Dns.same e4.2 (zas hf)⟩
   |dt ks d=>obtain⟨p',xs,e1,e2,e3,e4⟩:=g2;exact⟨p',xs,e1,by rw[zae (ne rfl e1)];exact e2,e3,e4.1,Dns.same e4.2 (zas hf)⟩
 ·by_cases hj:i=j
  ·subst hj
   rw[jb (ya.mp hi).1]at e;cases e;cases o
  ·rw[qa hj]at e
   exact I.own j sl p' e o q
 ·by_cases hj:i=j
  ·subst hj
   rw[jb (ya.mp hi).1]at e1;cases e1;cases o1
  ·by_cases hk:i=k
   ·subst hk
    rw[jb (ya.mp hi).1]at e2;cases e2;cases o2
   ·rw[qa hj]at e1
    rw[qa hk]at e2;exact I.dis j k sj sk p' e1 e2 o1 o2 q1 q2
theorem zpb(i:Nat)(h:PSs X sts (sV X.K B f)):PSs X sts (sV X.K B (zhe i f)):=h.imp λD σ H ⟨Hf,ρ,I,q⟩=>by
 unfold zhe at q
 split at q
 ·rename_i ds e
  obtain⟨Hf',z,I'⟩:=I.frz e;exact⟨Hf',_,I',zei.mono q z⟩
 ·exact⟨Hf,ρ,I,q⟩
theorem zc3{body:List Stmt}(hp:PassesOwn (model X.prog X.w) X.A X.env X.xe)(hc:X.calm=true)(hi:PI X tg iter (iV X.K B fi))(hg:PG X tg (gV X.K B sl gt))(hb:PSs X body (sV X.K B f))(hs:∀x,foldedSetIterable iter X.env x=pure x:=by intro _;rfl):PS X (.For tg iter body [] pos) (sV X.K B (zcx fi gt f)):=(zmz hp hc hi hg hb hs).imp λD σ H ⟨Hf,ρ,I,q⟩=>by
 unfold zcx at q
 cases e:fi ρ with
 |none=>rw[e]at q;exact q.elim
 |some ds =>
  rw[e]at q;refine⟨Hf,ρ,ds,I,e,λJ Hf1 H1 ex1 ok=>?_⟩;refine⟨λi m σ H=>m=ds.length - i/\i<=ds.length/\∃Hf2 ρ2,VI X.K B Hf2 ρ2 σ H/\zav Hf1 Hf2/\zei X.K B Hf1 (zea gt f (ds.drop i) ρ2) D,⟨ds.length,by simp,vd _,Hf1,ρ,I.ext ex1,zav.refl _,zei.mono q ex1.ff⟩,?_⟩;rintro i m σ2 H2 ⟨rfl,hi,Hf2,ρ2,I2,s12,q⟩;have okk:=ok Hf2 H2 (s12.trans I2.fh) s12 I2.fh i;by_cases hlt:i<ds.length
  ·obtain⟨go,yld⟩:=okk.1 ds[i] (by simp[hlt])
   refine .inr ⟨go,λσ' H'=>∃Hf3 ρ3,VI X.K B Hf3 ρ3 σ' H'/\zav Hf1 Hf3/\zei X.K B Hf1 (zea gt f (ds.drop (i+1)) ρ3) D,λσ' H' z=>⟨ds.length - (i+1),by omega,rfl,hlt,z⟩,λx H3 y=>?_⟩;obtain⟨Hf3,ex3,dx⟩:=yld x H3 y;rw[yc hlt]at q;unfold zea at q
   cases hg:gt ds[i] ρ2 with
   |none=>rw[hg]at q;exact q.elim
   |some ρ1 =>
    simp only[hg]at q;refine⟨Hf3,ρ2,_,ρ1,I2.ext ex3,dx,hg,λσ' I' _ _=>⟨Hf3,ρ1,I',?_⟩⟩
    cases hf:f ρ1 with
    |nx ρ'=>simp only[hf]at q;exact λHf' σ'' H'' z I''=>⟨Hf',ρ',I'',(s12.trans ex3.ff).trans z,q⟩
    |ct ρ'=>simp only[hf]at q;exact λHf' σ'' H'' z I''=>⟨Hf',ρ',I'',(s12.trans ex3.ff).trans z,q⟩
    |bk ρ'=>simp only[hf]at q;exact λHf' σ'' H'' z I''=>q Hf' σ'' H'' ((s12.trans ex3.ff).trans z) I''
    |rt d=>simp only[hf]at q;exact q
    |rw d=>simp only[hf]at q;exact q
    |bad=>simp only[hf]at q;exact q.elim
  ·have e:i=ds.length:=by omega
   subst e;rw[qh]at q;exact .inl ⟨okk.2 (wa _),q Hf2 σ2 H2 s12 I2⟩
end
noncomputable def zec(n:Nat)(ds:List D):Rho:=ds.map (λd=>some (.sh d))++List.replicate (n - ds.length) none
noncomputable def fnR(np n:Nat)(f:Rho->Out)(ds:List D):Option D:=if ds.length=np then (match f (zec n ds) with|.rt d=>some d|.rw es=>some (.lst es)|.nx _=>some .non|_=>none) else none
noncomputable def fnW(np n:Nat)(f:Rho->Out)(ds:List D):Option (List D):=if ds.length=np then (match f (zec n ds) with|.rw es=>some es|_=>none) else none
noncomputable def spV(K:PySem.W.Frag)(np:Nat)(F:List D->Option D):Sp:=λvs H Q _=>∃Hf ds d,zav Hf H/\Dns K Hf ds vs/\ds.length=np/\F ds=some d/\∀Hf' H' v,Ex Hf H Hf' H'->Dn K Hf' d v->Q v H'
noncomputable def spW(K:PySem.W.Frag)(np:Nat)(F:List D->Option (List D)):Sp:=λvs H Q _=>∃Hf ds rs,zav Hf H/\Dns K Hf ds vs/\ds.length=np/\F ds=some rs/\∀Hf' H' p xs,Ex Hf H Hf' H'->H p=none->Hf' p=none->H' p=some (.lst xs)->Dns K Hf' rs xs->Q (.ref p) H'
theorem VI.init{K:PySem.W.Frag}{Hf H:Hp}{N:List Str}{vs:List V}{ds:List D}(s:zav Hf H)(h:Dns K Hf ds vs):VI K ⟨Hf,H⟩ Hf (zec N.length ds) (zf7 N vs) H:=by
 have hl:=h.length
 have key:∀{i:Nat} {sl:Sl},(zec N.length ds)[i]?=some (some sl)->∃d,ds[i]?=some d/\sl=.sh d:=λ{i sl} e=>by
  unfold zec at e;by_cases hi:i<ds.length
  ·rw[gf (by simpa using hi),pc]at e
   obtain⟨d,h1,h2⟩:=db.mp e;exact⟨d,h1,(vc h2).symm⟩
  ·rw[sf (by simpa using hi),ig]at e
   split at e <;> cases e
 refine⟨.refl s,by simp[zec,zf7,hl],λi sl e=>?_,λi sl p e o=>?_,λi j si sj p e1 e2 o1=>?_⟩
 ·obtain⟨d,h1,rfl⟩:=key e
  obtain⟨v,h2,h3⟩:=h.zget h1;refine⟨v,?_,h3⟩;have hi:i<vs.length:=(ya.mp h2).1;unfold zf7;rw[gf (by simpa using hi),pc,h2];rfl
 ·obtain⟨d,h1,rfl⟩:=key e
  cases o
 ·obtain⟨d,h1,rfl⟩:=key e1
  cases o1
section
variable {P:Program}{w:World}{K:PySem.W.Frag}{mg:Str->Option Value}{base:Heap}
theorem okV{x qual:Str}{st:Stmt}{f:Addr}{fd:FuncData}{N ps:List Str}{k:Nat}{fs:Rho->Out}(F:Fun K x qual st f fd)(S:FnScope N ps (zag st))
  (hbody:∀(cdv:Value) (A:Around) (outer:List Env) (s:Shared) (H:Hp) (E:XK) (B:Bs),Room k (A.deeper (envOfC qual (zag st) s.heap.objs.size f cdv))->PSs (zqj CX0 P w K mg base N qual (zag st) f cdv A outer s H E).nox (zca st) (sV K B fs)):FnOk P w K mg base CX0 (k+1) f fd ps (spV K ps.length (fnR ps.length N.length fs)):=by
 refine F.ok S (λvs H Q E h=>?_) (λcdv A outer s H vs Q E hr h=>?_)
 ·obtain⟨Hf,ds,d,_,h1,h2,_⟩:=h
  rw[<-h2,h1.length]
 ·obtain⟨Hf,ds,d,hs,h1,h2,h3,q⟩:=h
  refine⟨_,hbody cdv A outer s H E ⟨Hf,H⟩ hr,Hf,zec N.length ds,VI.init hs h1,?_⟩;unfold fnR at h3;rw[ba h2]at h3
  cases e:fs (zec N.length ds) with
  |rt d'=>rw[e]at h3;cases h3;exact λHf' H' v ex dv=>q Hf' H' v ex dv
  |rw es =>
   rw[e]at h3;cases h3;exact λHf' H' p xs ex hp hf hp' dn=>q _ H' _ (ex.frz hp hp' hf) (zdl (SqL.of zac) (dn.same (zas hf)))
  |nx ρ'=>rw[e]at h3;cases h3;exact λHf' σ' H' _ I'=>q Hf' H' .non I'.ex (zbb rfl)
  |bk ρ'=>rw[e]at h3;cases h3
  |ct ρ'=>rw[e]at h3;cases h3
  |bad=>rw[e]at h3;cases h3
theorem okW{x qual:Str}{st:Stmt}{f:Addr}{fd:FuncData}{N ps:List Str}{k:Nat}{fs:Rho->Out}(F:Fun K x qual st f fd)(S:FnScope N ps (zag st))
  (hbody:∀(cdv:Value) (A:Around) (outer:List Env) (s:Shared) (H:Hp) (E:XK) (B:Bs),Room k (A.deeper (envOfC qual (zag st) s.heap.objs.size f cdv))->PSs (zqj CX0 P w K mg base N qual (zag st) f cdv A outer s H E).nox (zca st) (sV K B fs)):FnOk P w K mg base CX0 (k+1) f fd ps (spW K ps.length (fnW ps.length N.length fs)):=by
 refine F.ok S (λvs H Q E h=>?_) (λcdv A outer s H vs Q E hr h=>?_)
 ·obtain⟨Hf,ds,d,_,h1,h2,_⟩:=h
  rw[<-h2,h1.length]
 ·obtain⟨Hf,ds,d,hs,h1,h2,h3,q⟩:=h
  refine⟨_,hbody cdv A outer s H E ⟨Hf,H⟩ hr,Hf,zec N.length ds,VI.init hs h1,?_⟩;unfold fnW at h3;rw[ba h2]at h3
  cases e:fs (zec N.length ds) with
  |rw es=>rw[e]at h3;cases h3;exact λHf' H' p xs ex hp hf hp' dn=>q Hf' H' p xs ex hp hf hp' dn
  |rt d'=>rw[e]at h3;cases h3
  |nx ρ'=>rw[e]at h3;cases h3
  |bk ρ'=>rw[e]at h3;cases h3
  |ct ρ'=>rw[e]at h3;cases h3
  |bad=>rw[e]at h3;cases h3
end
section
variable {X:Cx}{B:Bs}{k:Nat}{f:Addr}{fd:FuncData}{ps:List Str}{x:Str}{p pos:Pos}{e:Expr}{es:List Expr}{fr:Rho->Option (List D)}{np:Nat}
noncomputable def zap(np:Nat)(F:List D->Option D)(fr:Rho->Option (List D)):Rho->Option D:=λρ=>(fr ρ).bind λds=>if ds.length=np then F ds else none
noncomputable def zdi(np:Nat)(F:List D->Option (List D))(fr:Rho->Option (List D)):Rho->Option (List D):=λρ=>(fr ρ).bind λds=>if ds.length=np then F ds else none
theorem za4{F:List D->Option D}(G:FnOk X.prog X.w X.K X.mg X.base CX0 k f fd ps (spV X.K np F))(hr:Room k X.A)(hg:Gl X x)(hm:X.mg x=some (.ref f))(hk:PySem.W.keepIn X.K (.ref f)=true)(hb:zdu X.K fd ps [])
  (ha:PA X (e::es) (aV X.K B fr)) (hdb:(x == ("__debug__" : Str))=false:=by decide) (he:starEach (e::es) X.env=(false,eval e X.env)::starEach es X.env:=by rfl) (hpl:(backTo pos (starEach es X.env)).any (·.1)=false:=by rfl):PE X (.Call (.Name x p) (e::es) [] pos) (eV X.K B (zap np F fr)) :=
 (zli G hr hg hm hk hb .nil zzo ha hdb he hpl).imp λσ H Q ⟨Hf,ρ,z,I,hz,q⟩=>by
  obtain⟨ds,hd,hz⟩:=bind_some hz
  split at hz
  ·rename_i hn
   refine⟨Hf,ρ,ds,I,hd,λHf1 H1 vs ex1 dvs=>?_⟩;show spV X.K np F (vs++[]) H1 Q E0;rw[kc];exact⟨Hf1,ds,z,ex1.fh,dvs,hn,hz,λHf' H' v ex dv=>q Hf' H' v (ex1.trans ex) dv⟩
  ·cases hz
theorem zl1{F:List D->Option (List D)}(G:FnOk X.prog X.w X.K X.mg X.base CX0 k f fd ps (spW X.K np F))(hr:Room k X.A)(hg:Gl X x)(hm:X.mg x=some (.ref f))(hk:PySem.W.keepIn X.K (.ref f)=true)(hb:zdu X.K fd ps [])
  (ha:PA X (e::es) (aV X.K B fr)) (hdb:(x == ("__debug__" : Str))=false:=by decide) (he:starEach (e::es) X.env=(false,eval e X.env)::starEach es X.env:=by rfl) (hpl:(backTo pos (starEach es X.env)).any (·.1)=false:=by rfl):PE X (.Call (.Name x p) (e::es) [] pos) (eW X.K B (zdi np F fr)) :=
 (zli G hr hg hm hk hb .nil zzo ha hdb he hpl).imp λσ H Q ⟨Hf,ρ,z,I,hz,q⟩=>by
  obtain⟨ds,hd,hz⟩:=bind_some hz
  split at hz
  ·rename_i hn
   refine⟨Hf,ρ,ds,I,hd,λHf1 H1 vs ex1 dvs=>?_⟩;show spW X.K np F (vs++[]) H1 Q E0;rw[kc];exact⟨Hf1,ds,z,ex1.fh,dvs,hn,hz,λHf' H' p xs ex hp hf hp' dn=>q Hf' H' p xs (ex1.trans ex) (ex1.hh.free hp) hf hp' dn⟩
  ·cases hz
noncomputable def zc4(np:Nat)(F:List D->Option D)(fr:Rho->Option (List D)):Rho->Option D:=λρ=>(fr ρ).bind λds=>if ds.length=np then (F ds).bind λd=>match d with|.sc v=>some (.sc v)|_=>none else none
end
noncomputable def LF:List Nat:=[97,98,99,100,101,102,103,104,105,106,107,108,109,110,111,112,113,114,115,116,117,118,119,120,121,122,65,66,67,68,69,70,71,72,73,74,75,76,77,78,79,80,81,82,83,84,85,86,87,88,89,90,48,49,50,51,52,53,54,55,56,57]
noncomputable def SG:List Nat:=[97,98,99,100,101,102,103,104,105,106,107,108,109,110,111,112,113,114,115,116,117,118,119,120,121,122,65,66,67,68,69,70,71,72,73,74,75,76,77,78,79,80,81,82,83,84,85,86,87,88,89,90,48,49,50,51,52,53,54,55,56,57,45]
theorem zfv{P:Program}{w:World}{K:PySem.W.Frag}{mg:Str->Option Value}{base:Heap}{x qual:Str}{st:Stmt}{f:Addr}{fd:FuncData}{N ps:List Str}{k np nN:Nat}{fs:Rho->Out}{F':List D->Option D}(hF:F'=fnR np nN fs)(hp:ps.length=np)(hN:N.length=nN)(F:Fun K x qual st f fd)(S:FnScope N ps (zag st))
  (hbody:∀(cdv:Value) (A:Around) (outer:List Env) (s:Shared) (H:Hp) (E:XK) (B:Bs),Room k (A.deeper (envOfC qual (zag st) s.heap.objs.size f cdv))->PSs (zqj CX0 P w K mg base N qual (zag st) f cdv A outer s H E).nox (zca st) (sV K B fs)):FnOk P w K mg base CX0 (k+1) f fd ps (spV K np F'):=by
 subst hF hp hN;exact okV F S hbody
theorem z9p{P:Program}{w:World}{K:PySem.W.Frag}{mg:Str->Option Value}{base:Heap}{x qual:Str}{st:Stmt}{f:Addr}{fd:FuncData}{N ps:List Str}{k np nN:Nat}{fs:Rho->Out}{F':List D->Option (List D)}(hF:F'=fnW np nN fs)(hp:ps.length=np)(hN:N.length=nN)(F:Fun K x qual st f fd)(S:FnScope N ps (zag st))
  (hbody:∀(cdv:Value) (A:Around) (outer:List Env) (s:Shared) (H:Hp) (E:XK) (B:Bs),Room k (A.deeper (envOfC qual (zag st) s.heap.objs.size f cdv))->PSs (zqj CX0 P w K mg base N qual (zag st) f cdv A outer s H E).nox (zca st) (sV K B fs)):FnOk P w K mg base CX0 (k+1) f fd ps (spW K np F'):=by
 subst hF hp hN;exact okW F S hbody
section
variable {X:Cx}{B:Bs}{K:PySem.W.Frag}{a b c:Expr}{fa fb fc:Rho->Option D}{pos:Pos}
theorem z0t {x:Str}{l:List Nat}{n:Str}{tk:Tok}{pos:Pos} (h:x=S l) (hg:Gl X n) (hm:X.mg n=some (.str x tk)) (hd:(n == ("__debug__" : Str))=false:=by decide):PE X (.Name n pos) (eV X.K B (eC (.str l))):=by
 subst h;exact z7r rfl (zh1 (v:=.str (S l)) hg hm ⟨tk,rfl⟩ hd)
theorem zij{H:Hp}:∀ns:List Int,Dns K H (ns.map D.int) (ns.map V.int)
 |[]=>.nil
 |n::r=>.cons (zbb rfl) (zij r)
end
theorem z0u{f g:Rho->Out}{ρ ρ':Rho}(h:f ρ=.nx ρ'):zat f g ρ=g ρ':=by unfold zat;rw[h]
theorem st{f g:Rho->Out}{ρ ρ':Rho}{o:Out}(h:f ρ=.nx ρ')(k:g ρ'=o):zat f g ρ=o:=(z0u h).trans k
theorem zrx{f g:Rho->Out}{ρ:Rho}{d:D}(h:f ρ=.rt d):zat f g ρ=.rt d:=by unfold zat;rw[h]
theorem zka{ft:Rho->Option Bool}{f g:Rho->Out}{ρ:Rho}(h:ft ρ=some true):sIf ft f g ρ=f ρ:=by unfold sIf;rw[h]
theorem zd1{ft:Rho->Option Bool}{f g:Rho->Out}{ρ:Rho}(h:ft ρ=some false):sIf ft f g ρ=g ρ:=by unfold sIf;rw[h]
theorem zaq{i:Nat}{fe:Rho->Option D}{ρ:Rho}{d:D}(h:fe ρ=some d):zbq i fe ρ=.nx (ρ.set i (some (.sh d))):=by unfold zbq;rw[h]
theorem z0v{i:Nat}{fe:Rho->Option (List D)}{ρ:Rho}{d:List D}(h:fe ρ=some d):ze6 i fe ρ=.nx (ρ.set i (some (.ow d))):=by unfold ze6;rw[h]
theorem zbu{fe:Rho->Option D}{ρ:Rho}{d:D}(h:fe ρ=some d):zb4 fe ρ=.rt d:=by unfold zb4;rw[h]
theorem zbc{fi:Rho->Option (List D)}{g:D->Rho->Option Rho}{f:Rho->Out}{ρ:Rho}{ds:List D}{o:Out}(h:fi ρ=some ds)(h2:zea g f ds ρ=o):zcx fi g f ρ=o:=by unfold zcx;rw[h];exact h2
theorem zby{np n:Nat}{f:Rho->Out}{ds:List D}{d:D}(hl:ds.length=np)(h:f (zec n ds)=.rt d):fnR np n f ds=some d:=by unfold fnR;rw[ba hl,h]
theorem zry{np n:Nat}{f:Rho->Out}{ds:List D}{d:List D}(hl:ds.length=np)(h:f (zec n ds)=.rw d):fnW np n f ds=some d:=by unfold fnW;rw[ba hl,h]
theorem zad{g:D->D->Option D}{fa fb:Rho->Option D}{ρ:Rho}{d e z:D}(ha:fa ρ=some d)(hb:fb ρ=some e)(hg:g d e=some z):e2 g fa fb ρ=some z:=by unfold e2;rw[ha,hb];exact hg
theorem zbv{g:List D->Option D}{fr:Rho->Option (List D)}{ρ:Rho}{ds:List D}{z:D}(ha:fr ρ=some ds)(hg:g ds=some z):eN g fr ρ=some z:=by unfold eN;rw[ha];exact hg
theorem zam{np:Nat}{F:List D->Option D}{fr:Rho->Option (List D)}{ρ:Rho}{ds:List D}{z:D}(ha:fr ρ=some ds)(hn:ds.length=np)(hF:F ds=some z):zap np F fr ρ=some z:=by unfold zap;rw[ha];show (if ds.length=np then F ds else none)=_;rw[ba hn];exact hF
theorem zpc{g:List D->Option (List D)}{fr:Rho->Option (List D)}{ρ:Rho}{ds xs:List D}(ha:fr ρ=some ds)(hg:g ds=some xs):iR g fr ρ=some xs:=by unfold iR;rw[ha];exact hg
theorem zfq{fa:Rho->Option D}{ρ:Rho}{d:D}{xs:List D}(ha:fa ρ=some d)(hg:itD d=some xs):iE fa ρ=some xs:=by unfold iE;rw[ha];exact hg
theorem zgo{f:Rho->Option (List D)}{ρ:Rho}{xs:List D}(ha:f ρ=some xs):eL f ρ=some (.lst xs):=by unfold eL;rw[ha];rfl
theorem zfw{n:Nat}{cap:List Nat}{fi:Rho->Option (List D)}{g:D->Rho->Option Rho}{tt:Rho->Option Bool}{te:Rho->Option D}{ρ:Rho}{ds rs:List D}(hi:fi ρ=some ds)(hl:ds.length<=sizeLine)(hc:zc1 g tt te (zdg n cap ρ) ds=some rs):zcd n cap fi g tt te ρ=some rs:=by unfold zcd;rw[hi];show (if ds.length<=sizeLine then _ else _)=_;rw[ba hl];exact hc
theorem zd2{d e:D}{b:Bool}(h:gEq d e=some b):zcc d e=some (.bl b):=by unfold zcc;rw[h];rfl
theorem zrz{d e:D}{b:Bool}(h:gEq d e=some b):zdm d e=some (.bl (!b)):=by unfold zdm;rw[h];rfl
theorem z0w{d e:D}{b:Bool}(h:gIn d e=some b):za1 d e=some (.bl (!b)):=by unfold za1;rw[h];rfl
theorem zak{fa:Rho->Option D}{fr:Rho->Option (List D)}{ρ:Rho}{d:D}{ds:List D}(h1:fa ρ=some d)(h2:fr ρ=some ds):aC fa fr ρ=some (d::ds):=by unfold aC;rw[h1,h2];rfl
theorem z0x{fa fb:Rho->Option Bool}{ρ:Rho}(h:fa ρ=some true):bOr fa fb ρ=some true:=by unfold bOr;rw[h];rfl
theorem zhg{fa fb:Rho->Option Bool}{ρ:Rho}{b:Bool}(h:fa ρ=some false)(h2:fb ρ=some b):bOr fa fb ρ=some b:=by unfold bOr;rw[h];exact h2
theorem znm{fa fb:Rho->Option Bool}{ρ:Rho}(h:fa ρ=some false):zc9 fa fb ρ=some false:=by unfold zc9;rw[h];rfl
theorem zkb{fa fb:Rho->Option Bool}{ρ:Rho}{b:Bool}(h:fa ρ=some true)(h2:fb ρ=some b):zc9 fa fb ρ=some b:=by unfold zc9;rw[h];exact h2
theorem zcp{fa:Rho->Option Bool}{ρ:Rho}{b:Bool}(h:fa ρ=some b):zdq fa ρ=some (!b):=by unfold zdq;rw[h];rfl
theorem z0y{fa:Rho->Option Bool}{ρ:Rho}{b:Bool}(h:fa ρ=some b):eT fa ρ=some (.bl b):=by unfold eT;rw[h];rfl
theorem zbz{fa:Rho->Option D}{ρ:Rho}{b:Bool}(h:fa ρ=some (.bl b)):tE fa ρ=some b:=by unfold tE;rw[h];rfl
theorem zfx{α:Type}(enc:α->D){g:D->Rho->Option Rho}{f:Rho->Out}(R:List α->Rho->Prop)(xs:List α)(ρ:Rho)(h:∀pre x post ρ,xs=pre++x::post->R pre ρ->∃ρ1 ρ2,g (enc x) ρ=some ρ1/\(f ρ1=.nx ρ2\/f ρ1=.ct ρ2)/\R (pre++[x]) ρ2)(h0:R [] ρ):∃ρ',zea g f (xs.map enc) ρ=.nx ρ'/\R xs ρ':=by
 have key:∀(post pre:List α) (ρ:Rho),xs=pre++post->R pre ρ->∃ρ',zea g f (post.map enc) ρ=.nx ρ'/\R xs ρ':=by
  intro post
  induction post with
  |nil=>intro pre ρ e hr;rw[kc]at e;subst e;exact⟨ρ,rfl,hr⟩
  |cons x r ih =>
   intro pre ρ e hr;obtain⟨ρ1,ρ2,h1,h2,h3⟩:=h pre x r ρ e hr;obtain⟨ρ',e2,q⟩:=ih (pre++[x]) ρ2 (by rw[e];simp) h3;refine⟨ρ',?_,q⟩;rw[ja,zea,h1];rcases h2 with h2|h2
   ·simp only[h2];exact e2
   ·simp only[h2];exact e2
 exact key xs [] ρ rfl h0
theorem zet{α:Type}(enc:α->D){g:D->Rho->Option Rho}{tt:Rho->Option Bool}{te:Rho->Option D}{ρ:Rho}(p:α->Bool)(k:α->D):∀(xs:List α),(∀x∈xs,∃ρ1,g (enc x) ρ=some ρ1/\tt ρ1=some (p x)/\(p x=true->te ρ1=some (k x)))->zc1 g tt te ρ (xs.map enc)=some ((xs.filter p).map k)
 |[],_=>rfl
 |x::r,h=>by
  obtain⟨ρ1,h1,h2,h3⟩:=h x (by simp);have ih:=zet enc p k r λy hy=>h y (by simp[hy])
  rw[ja,zc1,h1,ib,h2,ib,ih]
  cases hp:p x with
  |true=>rw[ba rfl,h3 hp,kn hp];rfl
  |false=>rw[oa la,ln (by simp[hp])]
theorem zgp{α:Type}(enc:α->D){g:D->Rho->Option Rho}{tt:Rho->Option Bool}{te:Rho->Option D}{ρ:Rho}(k:α->D)(xs:List α)(h:∀x∈xs,∃ρ1,g (enc x) ρ=some ρ1/\tt ρ1=some true/\te ρ1=some (k x)):zc1 g tt te ρ (xs.map enc)=some (xs.map k):=by
 rw[zet enc (λ_=>true) k xs λx hx=>let ⟨ρ1,h1,h2,h3⟩:=h x hx;⟨ρ1,h1,h2,λ_=>h3⟩]
 congr 1
 congr 1
 exact List.filter_eq_self.mpr λ_ _=>rfl
theorem ycl(l:List Nat):itD (.sc (.str (S l)))=some (l.map λc=>.str [c]):=rfl
theorem ze9(l m:List Nat)(h:l.length+m.length<=sizeLine):zbg (.sc (.str (S l))) (.sc (.str (S m)))=some (.str (l++m)):=by
 unfold zbg;dsimp only;rw[ba (by rw[zfn,zfn];exact h),zz8]
theorem z9q(c:Nat)(l:List Nat):gIn (.sc (.str (S [c]))) (.sc (.str (S l)))=some (decide (c∈l)):=by
 unfold gIn;dsimp only;rw[zjw]
theorem z0z(c:Nat)(l:List Nat)(h:c∈l):zj7 (.sc (.str (S l))) [.sc (.str (S [c]))]=some (.int (zcz c l)):=by
 obtain⟨r,e⟩:=zq6 l c 1 (wa _) h;unfold zj7;dsimp only;rw[e];rfl
theorem zxy(c:Nat)(l:List Nat)(h:l.length<=sizeLine):zc0 (.sc (.str (S l))) [.sc (.str (S [c]))]=some (.tup (zpa c l)):=by
 unfold zc0;dsimp only[zba];rw[ba (by rw[zfn];exact h)]
theorem z44(l:List Nat)(j:Nat)(h:l.length<=sizeLine):gSl (.sc (.str (S l))) none (some (j:Int))=some (.str (l.take j)):=by
 unfold gSl;dsimp only;rw[ba (by rw[zfn];exact h),zuu]
theorem zu8(l:List Nat)(i:Nat)(h:l.length<=sizeLine)(hi:i<=l.length):gSl (.sc (.str (S l))) (some (i:Int)) none=some (.str (l.drop i)):=by
 unfold gSl;dsimp only;rw[ba (by rw[zfn];exact h),zo4 _ _ hi]
theorem znn:∀(ls:List (List Nat)),zhv (ls.map D.str)=some (ls.map S)
 |[]=>rfl
 |x::r=>by
  show (zhv (r.map D.str)).map (S x::·)=_;rw[znn r];rfl
theorem z00(sep:List Nat)(ls:List (List Nat))(h:(ls.map List.length).sum+ls.length * sep.length<=16777216):zrp (.sc (.str (S sep))) [.lst (ls.map D.str)]=some (.str (zlq sep ls)):=by
 unfold zrp;dsimp only;rw[znn,ib,ba,z4e];rw[zd];have e:(λx:Str=>x.length) ∘ S=List.length:=by funext l;exact zfn l
 show (ls.map ((λx:Str=>x.length) ∘ S)).sum+_<=_;rw[e,ia,zfn];exact h
theorem z45{c:Str->Bool}{f:Str->V}{z:Str}(h:c z=true):gM0 c f (.sc (.str z)) []=some (.sc (f z)):=ba h
theorem zno{l:List Nat}(h:∀c∈l,c<128)(hl:l.length<=sizeLine):zeq (.sc (.str (S l))) []=some (.str (l.map lo1)):=by
 have e:=z45 (c:=λ z=>!Builtin.Str.tooLong (Txt.lower z).length) (f:=λ z=>V.str (Txt.lower z)) (z:=S l) (by
  show (!Builtin.Str.tooLong (Txt.lower (S l)).length)=true;rw[zq7 h,zfn,ia];unfold Builtin.Str.tooLong;simp;exact hl)
 unfold zeq;rw[e];show some (D.sc (V.str (Txt.lower (S l))))=_;rw[zq7 h]
theorem znp(c:Nat):zd9 (.sc (.str (S [c]))) []=some (.bl (Txt.isalnum (S [c]))):=rfl
theorem zr0:∀c:_root_.Fin 128,Txt.isalnum (S [c.val])=decide (c.val∈LF):=by decide +kernel
theorem znq{c:Nat}(h:c<128):Txt.isalnum (S [c])=decide (c∈LF):=zr0 ⟨c,h⟩
theorem zdo{i j:Int}(h:0<j/\j<1073741824):zdf (.int i) (.int j)=some (.int (i / j)):=by
 unfold zdf zgk;exact ba (ub h)
theorem zb3{i j:Int}(h:0<j):zb5 (.int i) (.int j)=some (.int (i % j)):=by
 unfold zb5 zgk;exact ba (ub h)
theorem zfk{i j:Int}(h:zhd i j=true):zcm (.int i) (.int j)=some (.int (i * j)):=by
 unfold zcm zgk;exact ba h
theorem znr{i j:Int}(h:IntMulOk i j):zhd i j=true:=by
 unfold IntMulOk at h;unfold zhd;rw[eh];exact Bool.eq_false_iff.mpr h
theorem zik{i j:Int}(h:-(2 ^ 64)<i/\i<2 ^ 64):zhd i j=true:=znr (z7q.ok (.inl h))
theorem zil{i j:Int}(h:-(2 ^ 64)<j/\j<2 ^ 64):zhd i j=true:=znr (z7q.ok (.inr h))
theorem zed{i j:Int}:zbg (.int i) (.int j)=some (.int (i+j)):=rfl
theorem zr1{i j:Int}:zid (.int i) (.int j)=some (.int (i - j)):=rfl
theorem z9r{i j:Int}:gLt (.int i) (.int j)=some (.bl (decide (i<j))):=rfl
theorem z46{i j:Int}:gLe (.int i) (.int j)=some (.bl (decide (i<=j))):=rfl
theorem zu9{i j:Int}:gGt (.int i) (.int j)=some (.bl (decide (j<i))):=rfl
theorem z9s{i j:Int}:gGe (.int i) (.int j)=some (.bl (decide (j<=i))):=rfl
theorem zeu{i j:Int}:gEq (.int i) (.int j)=some (decide (i=j)):=by
 unfold gEq;dsimp only;rw[ba ⟨rfl,by simp[scK]⟩,zb0];rfl
theorem zxz{i j:List Nat}:gEq (.sc (.str (S i))) (.sc (.str (S j)))=some (decide (i=j)):=by
 unfold gEq;dsimp only;rw[ba ⟨rfl,by simp[scK]⟩];show some (S i == S j)=_;rw[<-zb0 (S i) (S j)]
 congr 1
 exact zjt zus
theorem zx0{i j:Bool}:gEq (.bl i) (.bl j)=some (i == j):=by
 unfold gEq;dsimp only;rw[ba ⟨rfl,by simp[scK]⟩];rfl
theorem ybk(b:Bool):zxn [.bl b]=some (.int (if b then 1 else 0)):=rfl
theorem zx1{α:Type}{xs:List α}{i:Int}(h0:0<=i)(h1:i<xs.length):∃c,c∈xs/\atI xs i=some c:=by
 have hi:i.toNat<xs.length:=by omega
 have e:((i.toNat:Nat):Int)=i:=by omega
 have h:=ze2 (xs:=xs) (j:=i.toNat) (v:=xs[i.toNat]) (by simp[hi]);rw[e]at h;exact⟨xs[i.toNat],ye hi,h⟩
theorem zx2{l:List Nat}{i:Int}{c:Nat}(hl:l.length<=sizeLine)(h:atI l i=some c):gIx (.sc (.str (S l))) (.int i)=some (.str [c]):=by
 unfold gIx;dsimp only;rw[ba (by rw[zfn];exact hl),zba,h];rfl
theorem zr2{l:List D}{i:Int}:gIx (.lst l) (.int i)=atI l i:=rfl
theorem zl2{n:Nat}{j:Int}(h:j=n)(hn:n<=1000000):z0s [.int j]=some ((List.range n).map λk=>.int ((k:Nat):Int)):=by
 subst h;unfold z0s;dsimp only;rw[ba ⟨by omega,by omega⟩];unfold zif;simp
theorem zl3{i j:Int}(h1:-1000000<=i)(h2:i<=1000000)(h3:-1000000<=j)(h4:j<=1000000):zpt [.int i,.int j]=some (zif i (j - i).toNat):=by
 unfold zpt;dsimp only;rw[ba ⟨by omega,by omega,by omega,by omega⟩]
theorem zr3{α:Type}(xs:List α)(k:Nat):zht xs none (some (k:Int))=xs.take k:=by
 unfold zht;rw[HT.sIx_none,HT.sIx_nat,List.drop_zero,Nat.sub_zero];by_cases h:k<=xs.length
 ·rw[kh h]
 ·rw[ll (by omega),ml,je (by omega)]
theorem zva{α:Type}(xs:List α)(k:Nat):zht xs (some (k:Int)) none=xs.drop k:=by
 unfold zht;rw[HT.sIx_none,HT.sIx_nat];by_cases h:k<=xs.length
 ·rw[kh h]
  exact je (by simp)
 ·rw[ll (by omega),qh,lh (by omega)]
  simp
theorem zr4{α:Type}(xs:List α)(a b:Nat)(h:a<=b):zht xs (some (a:Int)) (some (b:Int))=(xs.drop a).take (b - a):=by
 unfold zht;rw[HT.sIx_nat,HT.sIx_nat];by_cases h1:b<=xs.length
 ·rw[kh h1,kh (by omega)]
 ·rw[ll (by omega)]
  by_cases h2:a<=xs.length
  ·rw[kh h2,je (by simp),je (by simp;omega)]
  ·rw[ll (by omega),qh,lh (by omega)];simp
theorem zim{α β:Type}(f:α->β)(xs:List α)(lo hi:Option Int):zht (xs.map f) lo hi=(zht xs lo hi).map f:=by
 unfold zht;rw[ia,sq,List.map_drop]
theorem zr5{ds es:List D}(h:ds.length+es.length<=sizeLine):zbg (.lst ds) (.lst es)=some (.lst (ds++es)):=by
 unfold zbg;exact ba h
theorem z47{ds es:List D}(h:(dOk LV (.tup ds) && dOk LV (.tup es))=true):gEq (.tup ds) (.tup es)=some (zb7 ds es):=by
 unfold gEq;exact ba h
theorem zr6{ds es:List D}(h:(dOk LV (.lst ds) && dOk LV (.lst es))=true):gEq (.lst ds) (.lst es)=some (zb7 ds es):=by
 unfold gEq;exact ba h
theorem zl4(l m:List Nat):deq (.str l) (.str m)=decide (l=m):=by
 rw[deq];show (S l == S m)=_;rw[<-zb0 (S l) (S m)];exact zjt zus
theorem zl5(l m:Int):deq (.int l) (.int m)=decide (l=m):=by
 rw[deq];show (l == m)=_;rw[<-zb0 l m]
theorem zr7(l m:Bool):deq (.bl l) (.bl m)=(l == m):=by rw[deq];rfl
theorem sz{n:Nat}(h:n<=100000):n<=sizeLine:=ie h (by decide)
theorem szl{n:Nat}(h:n<=100000):n<sizeLine:=Nat.lt_of_le_of_lt h (by decide)
section
variable {K:PySem.W.Frag}{B:Bs}
theorem zpr.own{Hf H:Hp}{sl:Sl}{v:V}(h:zpr K Hf H sl v)(o:ze5 sl=true):∃p ob,v=.ref p/\Hf p=none/\H p=some ob:=by
 cases sl with
 |sh d=>cases o
 |ow ds=>obtain⟨p,xs,h1,h2,h3,_⟩:=h;exact⟨p,_,h1,h2,h3⟩
 |dk ks ds=>obtain⟨p,xs,h1,h2,h3,_⟩:=h;exact⟨p,_,h1,h2,h3⟩
 |dt ks ds=>obtain⟨p,xs,h1,h2,h3,_⟩:=h;exact⟨p,_,h1,h2,h3⟩
theorem zpr.away{Hf H:Hp}{sl:Sl}{v:V}{p:Addr}{ob:HO}(h:zpr K Hf H sl v)(ne:ze5 sl=true->v≠.ref p):zpr K Hf (upd H p ob) sl v:=by
 cases sl with
 |sh d=>exact h
 |ow ds=>obtain⟨q,xs,rfl,h2,h3,h4⟩:=h;exact⟨q,xs,rfl,h2,by rw[zae (λz=>ne rfl (by rw[z]))];exact h3,h4⟩
 |dk ks ds=>obtain⟨q,xs,rfl,h2,h3,h4⟩:=h;exact⟨q,xs,rfl,h2,by rw[zae (λz=>ne rfl (by rw[z]))];exact h3,h4⟩
 |dt ks ds=>obtain⟨q,xs,rfl,h2,h3,h4⟩:=h;exact⟨q,xs,rfl,h2,by rw[zae (λz=>ne rfl (by rw[z]))];exact h3,h4⟩
theorem VI.mutG{Hf H:Hp}{ρ:Rho}{σ:St}{i:Nat}{sl sl':Sl}{p:Addr}{ob:HO}(I:VI K B Hf ρ σ H)(hi:ρ[i]?=some (some sl))(ho:ze5 sl=true)(ho':ze5 sl'=true)(hp:σ[i]?=some (some (.ref p)))(ok:zpr K Hf (upd H p ob) sl' (.ref p)):VI K B Hf (ρ.set i (some sl')) σ (upd H p ob):=by
 have hB:=I.own i _ p hi ho hp;have hf:Hf p=none:=by obtain⟨q,_,e,h,_⟩:=ok.own ho';cases e;exact h
 have hlt:i<ρ.length:=(ya.mp hi).1
 have g:∀{j:Nat} {s:Sl},(ρ.set i (some sl'))[j]?=some (some s)->(j=i/\s=sl')\/(j≠i/\ρ[j]?=some (some s)):=λ{j s} e=>by
  by_cases hj:i=j
  ·subst hj
   rw[jb hlt]at e;cases e;exact .inl ⟨rfl,rfl⟩
  ·rw[qa hj]at e
   exact .inr ⟨λz=>hj z.symm,e⟩
 have fs:zav Hf (upd H p ob):=λb o h=>by
  rw[zae (zai h hf)];exact I.fh b o h
 refine⟨⟨I.ex.ff,λb o h=>?_,fs,I.ex.nw,I.ex.nf⟩,by simp[I.len],λj s e=>?_,λj s p' e o q=>?_,λj k sj sk p' e1 e2 o1 o2 q1 q2=>?_⟩
 ·rw[zae (zai h hB)];exact I.ex.hh b o h
 ·rcases g e with⟨rfl,rfl⟩|⟨hj,e⟩
  ·exact⟨.ref p,hp,ok⟩
  ·obtain⟨u,h1,h2⟩:=I.ok j s e
   exact⟨u,h1,h2.away λo z=>hj (by subst z;exact I.dis j i s _ _ e hi o ho h1 hp)⟩
 ·rcases g e with⟨rfl,rfl⟩|⟨hj,e⟩
  ·rw[hp]at q;cases q;exact hB
  ·exact I.own j s p' e o q
 ·rcases g e1 with⟨rfl,rfl⟩|⟨hj,e1⟩
  ·rcases g e2 with⟨rfl,rfl⟩|⟨hk,e2⟩
   ·rfl
   ·exact I.dis _ k _ sk p' hi e2 ho o2 q1 q2
  ·rcases g e2 with⟨hki,hsk⟩|⟨hk,e2⟩
   ·rw[hki]at q2 ⊢
    exact I.dis j _ sj _ p' e1 hi o1 ho q1 q2
   ·exact I.dis j k sj sk p' e1 e2 o1 o2 q1 q2
theorem VI.setG{Hf H Hf' H':Hp}{ρ:Rho}{σ:St}{i:Nat}{sl:Sl}{p:Addr}(I:VI K B Hf ρ σ H)(ex:Ex Hf H Hf' H')(hp:H p=none)(ho:ze5 sl=true)(ok:zpr K Hf' H' sl (.ref p)):VI K B Hf' (ρ.set i (some sl)) (σ.set i (some (.ref p))) H':=by
 have g:∀{j:Nat} {s:Sl},(ρ.set i (some sl))[j]?=some (some s)->(j=i/\s=sl/\i<ρ.length)\/(j≠i/\ρ[j]?=some (some s)):=λ{j s} e=>by
  by_cases hj:i=j
  ·subst hj
   rw[ek]at e
   cases q:ρ[i]? with
   |none=>rw[q]at e;cases e
   |some z =>
    rw[q]at e;simp at e;exact .inl ⟨rfl,e.symm,(ya.mp q).1⟩
  ·rw[qa hj]at e
   exact .inr ⟨λz=>hj z.symm,e⟩
 have I1:=I.ext ex;have hBp:B.h p=none:=I.ex.hh.free hp
 have nown:∀{j:Nat} {s:Sl},ρ[j]?=some (some s)->ze5 s=true->σ[j]?≠some (some (.ref p)):=λ{j s} e o z=>by
  obtain⟨v,h1,h2⟩:=I.ok j s e;rw[z]at h1;cases h1;obtain⟨q,ob,e1,_,e2⟩:=h2.own o;cases e1;rw[hp]at e2;cases e2
 refine⟨I1.ex,by simp[I.len],λj s e=>?_,λj s p' e o q=>?_,λj k sj sk p' e1 e2 o1 o2 q1 q2=>?_⟩
 ·rcases g e with⟨rfl,rfl,hl⟩|⟨hj,e⟩
  ·exact⟨.ref p,by rw[jb (by rw[<-I.len];exact hl)],ok⟩
  ·obtain⟨u,h1,h2⟩:=I1.ok j s e
   exact⟨u,by rw[qa (λz=>hj z.symm)];exact h1,h2⟩
 ·rcases g e with⟨rfl,rfl,hl⟩|⟨hj,e⟩
  ·rw[jb (by rw[<-I.len];exact hl)]at q
   cases q;exact hBp
  ·rw[qa (λz=>hj z.symm)]at q
   exact I.own j s p' e o q
 ·rcases g e1 with⟨rfl,rfl,hl⟩|⟨hj,f1⟩
  ·rcases g e2 with⟨rfl,rfl,hl2⟩|⟨hk,e2⟩
   ·rfl
   ·rw[jb (by rw[<-I.len];exact hl)]at q1
    cases q1;rw[qa (λz=>hk z.symm)]at q2
    exact absurd q2 (nown e2 o2)
  ·rw[qa (λz=>hj z.symm)]at q1
   rcases g e2 with⟨hki,hsk,hl2⟩|⟨hk,e2⟩
   ·subst hki
    rw[jb (by rw[<-I.len];exact hl2)]at q2;cases q2;exact absurd q1 (nown f1 o1)
   ·rw[qa (λz=>hk z.symm)]at q2
    exact I.dis j k sj sk p' f1 e2 o1 o2 q1 q2
end
noncomputable def z9t(i:Nat)(sl:Sl):Rho->Out:=λρ=>.nx (ρ.set i (some sl))
noncomputable def zpd(sl:Sl)(k d:D):Option Sl:=match sl with
 |.dk ks ds=>(zlw k).bind λkey=>if ks.length<sizeLine then some (.dk ((zja (ks.zip ds) key d).map Prod.fst) ((zja (ks.zip ds) key d).map Prod.snd)) else none
 |.dt ks ds=>(zfh k).bind λkey=>if ks.length<sizeLine then some (.dt ((zja (ks.zip ds) key d).map Prod.fst) ((zja (ks.zip ds) key d).map Prod.snd)) else none
 |_=>none
noncomputable def zkc(i:Nat)(fk fv:Rho->Option D):Rho->Out:=λρ=>match ρ[i]? with
 |some (some sl)=>match (fv ρ).bind λd=>(fk ρ).bind λk=>zpd sl k d with|some sl'=>.nx (ρ.set i (some sl'))|none=>.bad
 |_=>.bad
noncomputable def zfr(d k:D):Option D:=(zeh d k).bind id
noncomputable def zd3(fo fk fz:Rho->Option D):Rho->Option D:=λρ=>(fo ρ).bind λd=>(fk ρ).bind λk=>(fz ρ).bind λz=>(zeh d k).map λo=>o.getD z
section
variable {X:Cx}{B:Bs}{o e i f:Expr}{pos apos cpos:Pos}{fo fk fz fv:Rho->Option D}
theorem zx3{j:Nat}{x:Str}{pos' p2:Pos}(hN:X.N.Nodup)(hi:X.N[j]?=some x)(hx:Loc X.env.scope x)(hs:swapsWith (.Dict [] [] p2) (some (.Name x pos')) pos.line X.env=pure false:=by rfl)(hf:X.fn x=true\/X.env.scope.names.lookup x=some .local:=by first|exact .inl rfl|exact .inr rfl|assumption):PS X (.Assign [.Name x pos'] (.Dict [] [] p2) pos) (sV X.K B (z9t j (.dk [] []))) :=
 (zf6 hN hi hx zux hs hf).imp λD σ H ⟨Hf,ρ,I,q⟩=>λp hp=>q Hf _ _ (zav.refl _) (I.setG (Ex.made I.fh hp) hp rfl ⟨p,[],rfl,I.fh.free hp,zac,rfl,.nil⟩)
theorem zx4 {n j:Nat}{x:Str}{value:Expr}{p1 pos':Pos} (hr:Room n X.A) (hN:X.N[j]?=some x) (hi:PE X i (eB X.K B fk)) (hv:PE X value (eV X.K B fv)) (hvis:Vis X.env.scope x:=by first|exact lb rfl|exact we (lb rfl)|exact we (we rfl)) (hd:(x == ("__debug__" : Str))=false:=by decide) (hcd:(x == ("__classdict__" : Str))=false:=by decide)
  (hs:swapsWith value (some (.Subscript (.Name x p1) i pos')) pos.line X.env=pure false:=by rfl):PS X (.Assign [.Subscript (.Name x p1) i pos'] value pos) (sV X.K B (zkc j fk fv)) :=
 (z0f (by have:=hr.units;omega) (zcy hN hvis hd hcd) hi hv hs).imp λD σ H ⟨Hf,ρ,I,q⟩=>by
  unfold zkc at q
  split at q
  ·rename_i sl hsl
   split at q
   ·rename_i sl' hz
    obtain⟨d,hfv,hz⟩:=bind_some hz;obtain⟨k,hfk,hz⟩:=bind_some hz;obtain⟨v0,h1,h2⟩:=I.ok j _ hsl;refine⟨Hf,ρ,d,I,hfv,λHf1 H1 v ex1 dv=>⟨v0,h1,Hf1,ρ,k,I.ext ex1,hfk,λHf2 H2 y ex2 dk=>?_⟩⟩;have I2:=(I.ext ex1).ext ex2;have ok2:=(h2.ext ex1).ext ex2;unfold zpd at hz
    split at hz
    ·obtain⟨key,hk,hz⟩:=bind_some hz
     split at hz
     ·rename_i ks ds hl
      cases hz;obtain⟨p,kvs,rfl,hf,hH,e1,e2⟩:=ok2
      have ey:=znb dk hk;subst ey;have pk:=(zre e1 e2).put key (dv.same ex2.ff);exact⟨p,_,rfl,zxc.k hH (by rw[<-ia (f:=Prod.fst),e1];exact hl),q Hf2 σ _ (ex1.ff.trans ex2.ff) (I2.mutG hsl rfl rfl h1 ⟨p,_,rfl,hf,zac,pk.fst,pk.snd⟩)⟩
     ·cases hz
    ·obtain⟨key,hk,hz⟩:=bind_some hz
     split at hz
     ·rename_i ks ds hl
      cases hz;obtain⟨p,kvs,rfl,hf,hH,e1,e2⟩:=ok2
      obtain⟨b,rfl,hb⟩:=zib dk hk;have pk:=(zre e1 e2).put key (dv.same ex2.ff);exact⟨p,_,rfl,zxc.t hH (ex2.fh _ _ hb) (by rw[<-ia (f:=Prod.fst),e1];exact hl),q Hf2 σ _ (ex1.ff.trans ex2.ff) (I2.mutG hsl rfl rfl h1 ⟨p,_,rfl,hf,zac,pk.fst,pk.snd⟩)⟩
     ·cases hz
    ·cases hz
   ·exact q.elim
  ·exact q.elim
theorem zl6{n:Nat}(hr:Room n X.A)(ho:PE X o (eB X.K B fo))(hi:PE X i (eB X.K B fk))(hs:z9f i):PE X (.Subscript o i pos) (eV X.K B (e2 zfr fo fk)) :=
 (z0e (by have:=hr.units;omega) ho hi hs).imp λσ H Q ⟨Hf,ρ,z,I,hz,q⟩=>by
  obtain⟨d,hd,hz⟩:=bind_some hz;obtain⟨k,hk,hz⟩:=bind_some hz;refine⟨Hf,ρ,d,I,hd,λHf1 H1 x ex1 dx=>⟨Hf1,ρ,k,I.ext ex1,hk,λHf2 H2 y ex2 dy=>?_⟩⟩;unfold zfr at hz;obtain⟨ov,h1,h2⟩:=bind_some hz;have h2:ov=some z:=h2;subst h2;obtain⟨a,r,rfl,_,g,_,n2⟩:=zic ex2.fh (dx.ext ex2) dy h1;obtain⟨v,rfl,dv⟩:=n2 z rfl;exact⟨a,v,rfl,g,q Hf2 H2 v (ex1.trans ex2) dv⟩
theorem z48{K:PySem.W.Frag}{Hf H:Hp}{d k:D}{x:V}{r:Option D}(s:zav Hf H)(hd:DnB K Hf H d x)(h:zeh d k=some r):∃a,x=.ref a/\IsD H a:=by
 unfold zeh at h
 split at h
 ·obtain⟨a,kvs,rfl,h3,_⟩:=hd.dk s;exact⟨a,rfl,.inl ⟨kvs,.inl h3⟩⟩
 ·obtain⟨a,kvs,rfl,h3,_⟩:=hd.dt s;exact⟨a,rfl,.inr ⟨kvs,.inl h3⟩⟩
 ·cases h
theorem zr8 {n:Nat} (hr:Room n X.A) (ho:PE X o (eB X.K B fo)) (he:PE X e (eB X.K B fk)) (hf:PE X f (eV X.K B fz)) (m:M2 X o "get" apos e f cpos:=by exact⟨rfl,rfl,rfl,rfl⟩):PE X (.Call (.Attribute o "get" apos) [e,f] [] cpos) (eV X.K B (zd3 fo fk fz)) :=
 (zuz (by have:=hr.units;omega) ho he hf m).imp λσ H Q ⟨Hf,ρ,z,I,hz,q⟩=>by
  obtain⟨d,hd,hz⟩:=bind_some hz;obtain⟨k,hk,hz⟩:=bind_some hz;obtain⟨t,ht,hz⟩:=bind_some hz;obtain⟨ov,h1,h2⟩:=db.mp hz;refine⟨Hf,ρ,d,I,hd,λHf1 H1 x ex1 dx=>?_⟩;obtain⟨a,rfl,isd⟩:=z48 ex1.fh dx h1;refine⟨a,rfl,isd,Hf1,ρ,k,I.ext ex1,hk,λHf2 H2 y ex2 dy=>⟨Hf2,ρ,t,(I.ext ex1).ext ex2,ht,λHf3 H3 u ex3 du=>?_⟩⟩;obtain⟨a',r,e,_,g,n1,n2⟩:=zic ex3.fh ((dx.ext ex2).ext ex3) (dy.ext ex3) h1;cases e;refine⟨r,g,?_⟩
  cases ov with
  |none=>subst h2;rw[n1 rfl];exact q Hf3 H3 _ ((ex1.trans ex2).trans ex3) du
  |some w=>subst h2;obtain⟨v,rfl,dv⟩:=n2 w rfl;exact q Hf3 H3 v ((ex1.trans ex2).trans ex3) dv
end
end L2
namespace L2
open PySem PySem.W PyProof.Rows
structure WO(lt:Nat->Nat->Bool):Prop where
 irr:∀a,lt a a=false
 nt:∀a b c,lt a c=true->lt a b=true\/lt b c=true
 asy:∀a b,lt a b=true->lt b a=false
noncomputable abbrev gp(p:Array Nat)(i:Nat):Nat:=p.getD i 0
theorem z49(p:Array Nat)(i:Nat):gp p i=(p[i]?).getD 0:=by simp[gp,gm]
def Ix(n:Nat)(p:Array Nat):Prop:=p.toList.Perm (List.range n)
section
variable {lt:Nat->Nat->Bool}{n:Nat}{p q:Array Nat}
theorem Ix.size(h:Ix n p):p.size=n:=by have:=h.length_eq;simpa using this
def Up(lt:Nat->Nat->Bool)(p:Array Nat)(k:Nat):Prop:=∀i j,i<=j->j<k->lt (gp p j) (gp p i)=false
end
end L2
namespace L2
open PySem PySem.Spec PyProof.Rows
noncomputable def z2s(x:Int):List Int->List Int
 |[]=>[x]
 |y::r=>if x<=y then x::y::r else y::z2s x r
noncomputable def zr9:List Int->List Int
 |[]=>[]
 |x::r=>z2s x (zr9 r)
theorem zgq(x:Int):∀l,(z2s x l).Perm (x::l)
 |[]=>xh _
 |y::r=>by
  unfold z2s;split
  ·exact xh _
  ·exact((zgq x r).cons y).trans (kq x y r)
theorem zcq:∀l,(zr9 l).Perm l
 |[]=>xh _
 |x::r=>(zgq x _).trans ((zcq r).cons x)
theorem zsa(x:Int):∀{l:List Int},l.Pairwise (·<=·)->(z2s x l).Pairwise (·<=·)
 |[],_=>mn _ _
 |y::r,h=>by
  unfold z2s;split
  ·rename_i hxy
   refine jf.mpr ⟨λz hz=>?_,h⟩;rcases yb.mp hz with rfl|hz
   ·exact hxy
   ·exact Int.le_trans hxy ((jf.mp h).1 z hz)
  ·rename_i hxy
   refine jf.mpr ⟨λz hz=>?_,zsa x (jf.mp h).2⟩;rcases yb.mp ((zgq x r).mem_iff.mp hz) with rfl|hz
   ·omega
   ·exact(jf.mp h).1 z hz
theorem zin:∀l,(zr9 l).Pairwise (·<=·)
 |[]=>lj
 |x::r=>zsa x (zin r)
theorem zsb{a b:List Int}(hp:a.Perm b)(ha:a.Pairwise (·<=·))(hb:b.Pairwise (·<=·)):a=b :=
 hp.eq_of_pairwise (λx y _ _ h1 h2=>Int.le_antisymm h1 h2) ha hb
theorem zsc:∀(ns:List Int) (us:List Value),us.length=ns.length->(∀(j:Nat) (v:Value),us[j]?=some v->∃i,ns[j]?=some i/\∃t:Tok,v=Value.int i t)->IntsAre us ns
 |[],[],_,_=>.nil
 |[],_::_,h,_=>by simp at h
 |_::_,[],h,_=>by simp at h
 |n::ns,u::us,h,f=>by
  obtain⟨i,h1,t,rfl⟩:=f 0 u rfl;cases h1;exact .cons _ t (zsc ns us (by simpa using h) λj v e=>f (j+1) v (by simpa using e))
theorem KV.fst{κ:Type}:∀{kvs:List (κ×V)}{vs:List (κ×Value)},KV kvs vs->vs.map Prod.fst=kvs.map Prod.fst
 |_,_,.nil=>rfl
 |_,_,.cons a b=>by rw[ja,ja,a.1,KV.fst b]
theorem KV.len{κ:Type}{kvs:List (κ×V)}{vs:List (κ×Value)}(h:KV kvs vs):kvs.length=vs.length:=Paired.length h
def z5a:List V->Hp->VK->Prop:=λxs H Q=>∃a kvs ns,xs=[.ref a]/\Rd H a (.dK kvs)/\kvs.map Prod.fst=ns.map Sum.inl/\ns.length<64/\∀p,H p=none->Q (.ref p) (upd H p (.lst ((zr9 ns).map V.int)))
section
variable {X:Cx}
theorem zkd(hc:X.calm=true):zcf X (.builtin "sorted") z5a:=by
 intro pins s σ H xs us Q I rv h;obtain⟨a,kvs,ns,rfl,hr,hk,h64,q⟩:=h;obtain⟨u,rfl,ru⟩:=zek rv;cases ru;obtain⟨z,hd,vs,rel,dd⟩:=zj1 I.hok hr;obtain⟨ep,hat⟩:=dd.dictAt;have hlen:vs.length=ns.length:=by rw[<-KV.len rel,<-ia (f:=Prod.fst),hk,ia]
 refine PySem.Calls.call_function_entry kind_sorted plain_sorted entry_sorted (args_sorted1 _) ?_
 unfold Builtin.«sorted»;refine aa (m:=checkCount "sorted" 1 1 _) (va ?_);refine aa (PySem.W.kdu_collect (A:=X.A.in1) (PySem.W.kdl_dict (knd:=zbh X.prog X.w) (kvs:=vs) (ep:=ep) hd) (I.ok.hd hc) hat (by rw[hlen];exact sz (by omega)) λh' tk acc hkeep hacc=>?_);have hal:acc.toList.length=ns.length:=by rw[ve,<-hlen];exact hacc.1
 have hI:IntsAre acc.toList ns:=zsc ns _ hal λj v e=>by
  obtain⟨k,x,e1,e2⟩:=hacc.2 j v (by rw[<-rf];exact e);have e3:(vs.map Prod.fst)[j]?=some k:=by rw[pc,e1];rfl
  rw[KV.fst rel,hk,pc]at e3;obtain⟨i,h1,h2⟩:=db.mp e3;subst h2;rcases za6 (show zlf (Sum.inl i) v=true from e2) with⟨i',t,h3,h4⟩|⟨x',t,h3,h4⟩
  ·cases h3;exact⟨i,h1,t,h4⟩
  ·cases h3
 refine aa (wpAny_newList ?_ (by rw[hal];exact sz (by omega)));have hoL:(h'.push (seqObj "list" acc.toList.toArray 0)).get? h'.objs.size=some (seqObj "list" acc.toList.toArray 0):=cc _ rfl;refine aa (lg (yi slot_list_sort ⟨_,hoL,rfl⟩ entry_list_sort (list_sort_tree hoL hI (by rw[hal];exact h64) λout ns' a1 a2 a3=>⟨_,rfl,?_⟩) (args_list_sort _)));refine va ⟨_,rfl,?_⟩;obtain⟨e,he⟩:=sortedHeap_at (out:=out) hoL;have I1:Inv X pins σ H { s with heap:=h',toks:=tk }:=I.kept hkeep;have e2:=zsb (a2.trans (zcq ns).symm) a3 (zin ns);subst e2;refine⟨.ref h'.objs.size,upd H h'.objs.size (.lst ((zr9 ns).map V.int)),I1.laid (t':=tk) (λb ob qb=>?_) (wa _) ?_,rfl,q _ (I1.hok.fresh (wa _))⟩
 ·have qb:h'.get? b=some ob:=qb
  have hb:b<h'.objs.size:=wb qb;rw[sortedHeap_old (yd hb) (by rw[size_push'];exact Nat.lt_succ_of_lt hb),Heap.get?_push_ne _ _ _ (yd hb)];exact qb
 ·refine⟨by rw[ia,(zcq ns).length_eq];exact sz (by omega),out.toList,e,zga a1,?_⟩
  simpa using he
noncomputable def zpe:List Key->Option (List Int)
 |[]=>some []
 |.inl i::r=>(zpe r).map (i::·)
 |.inr _::_=>none
theorem zns:∀{ks:List Key}{ns:List Int},zpe ks=some ns->ks=ns.map Sum.inl
 |[],_,h=>by cases h;rfl
 |.inl i::r,ns,h=>by
  unfold zpe at h;obtain⟨m,h1,h2⟩:=db.mp h;subst h2;rw[zns h1];rfl
 |.inr _::_,_,h=>by cases h
theorem znt(ns:List Int):zpe (ns.map Sum.inl)=some ns:=by
 induction ns with
 |nil=>rfl
 |cons a r ih=>rw[ja,zpe,ih];rfl
noncomputable def zfl:List D->Option (List D)
 |[.dk ks _]=>(zpe ks).bind λns=>if ns.length<64 then some ((zr9 ns).map D.int) else none
 |_=>none
variable {B:Bs}{a:Expr}{fr:Rho->Option (List D)}{pos:Pos}
theorem znu {p:Pos} (hc:X.calm=true) (hg:Gl X "sorted") (hm:X.mg "sorted" = none) (ha:PA X [a] (aB X.K B fr)) (he:starEach [a] X.env=[(false,eval a X.env)]:=by rfl):PE X (.Call (.Name "sorted" p) [a] [] pos) (eW X.K B (wN zfl fr)) :=
 (zh2 (zkd hc) hg hm zem ha (by decide) (by decide) he rfl).imp λσ H Q ⟨Hf,ρ,z,I,hz,q⟩=>by
  obtain⟨ds,hd,hz⟩:=bind_some hz;refine⟨Hf,ρ,ds,I,hd,λHf1 H1 vs ex dvs=>?_⟩;unfold zfl at hz
  split at hz
  ·obtain⟨ns,h1,hz⟩:=bind_some hz
   split at hz
   ·rename_i h64
    cases hz;obtain⟨x,rfl,hx⟩:=zco dvs
    obtain⟨b,kvs,rfl,h3,h4,_⟩:=hx.dk ex.fh;exact⟨b,kvs,ns,rfl,.of h3,by rw[h4];exact zns h1,h64,λp hp=>q Hf1 _ p _ (ex.trans (Ex.made (o:=.lst ((zr9 ns).map V.int)) ex.fh hp)) (ex.hh.free hp) (ex.fh.free hp) zac (zij _)⟩
   ·cases hz
  ·cases hz
end
noncomputable def toD:Sl->D
 |.sh d=>d
 |.ow ds=>.lst ds
 |.dk ks ds=>.dk ks ds
 |.dt ks ds=>.dt ks ds
section
variable {X:Cx}{B:Bs}{K:PySem.W.Frag}{sts:List Stmt}{f:Rho->Out}
theorem VI.frzG{Hf H:Hp}{ρ:Rho}{σ:St}{i:Nat}{sl:Sl}(I:VI K B Hf ρ σ H)(hi:ρ[i]?=some (some sl))(ho:ze5 sl=true):∃Hf',zav Hf Hf'/\VI K B Hf' (ρ.set i (some (.sh (toD sl)))) σ H:=by
 obtain⟨v,h1,h2⟩:=I.ok i _ hi;obtain⟨p,ob,rfl,hf,hH⟩:=h2.own ho;have hB:=I.own i _ p hi ho h1;have hs:=zas (o:=ob) hf
 have dn:Dn K (upd Hf p ob) (toD sl) (.ref p):=by
  cases sl with
  |sh d=>cases ho
  |ow ds=>obtain⟨q,xs,e,_,h3,h4⟩:=h2;cases e;rw[h3]at hH;cases hH;exact zdl (SqL.of zac) (Dns.same h4 hs)
  |dk ks ds=>obtain⟨q,xs,e,_,h3,h4,h5⟩:=h2;cases e;rw[h3]at hH;cases hH;exact z4o zac h4 (Dns.same h5 hs)
  |dt ks ds=>obtain⟨q,xs,e,_,h3,h4,h5⟩:=h2;cases e;rw[h3]at hH;cases hH;exact z0g zac h4 (Dns.same h5 hs)
 have hlt:=(ya.mp hi).1
 have g:∀{j:Nat} {s:Sl},(ρ.set i (some (.sh (toD sl))))[j]?=some (some s)->(j=i/\s=.sh (toD sl))\/(j≠i/\ρ[j]?=some (some s)):=λ{j s} e=>by
  by_cases hj:i=j
  ·subst hj
   rw[jb hlt]at e;cases e;exact .inl ⟨rfl,rfl⟩
  ·rw[qa hj]at e
   exact .inr ⟨λz=>hj z.symm,e⟩
 have nfz:∀x u,ob≠.frz x u:=λx u z=>by
  subst z
  cases sl with
  |sh d=>cases ho
  |ow ds=>obtain⟨q,xs,e,_,h3,_⟩:=h2;cases e;rw[h3]at hH;cases hH
  |dk ks ds=>obtain⟨q,xs,e,_,h3,_⟩:=h2;cases e;rw[h3]at hH;cases hH
  |dt ks ds=>obtain⟨q,xs,e,_,h3,_⟩:=h2;cases e;rw[h3]at hH;cases hH
 refine⟨upd Hf p ob,hs,I.ex.frz hB hH hf nfz,by simp[I.len],λj s e=>?_,λj s p' e o q=>?_,λj k sj sk p' e1 e2 o1 o2 q1 q2=>?_⟩
 ·rcases g e with⟨rfl,rfl⟩|⟨hj,e⟩
  ·exact⟨_,h1,dn⟩
  ·obtain⟨u,g1,g2⟩:=I.ok j s e
   refine⟨u,g1,?_⟩
   have ne:∀{p':Addr},ze5 s=true->u=.ref p'->p'≠p:=λ{p'} o z1 z2=>by
    subst z1 z2;exact hj (I.dis j i s _ _ e hi o ho g1 h1)
   cases s with
   |sh d=>exact Dn.same g2 hs
   |ow d=>obtain⟨p',xs,e1,e2,e3,e4⟩:=g2;exact⟨p',xs,e1,by rw[zae (ne rfl e1)];exact e2,e3,Dns.same e4 hs⟩
   |dk ks d=>obtain⟨p',xs,e1,e2,e3,e4⟩:=g2;exact⟨p',xs,e1,by rw[zae (ne rfl e1)];exact e2,e3,e4.1,Dns.same e4.2 hs⟩
   |dt ks d=>obtain⟨p',xs,e1,e2,e3,e4⟩:=g2;exact⟨p',xs,e1,by rw[zae (ne rfl e1)];exact e2,e3,e4.1,Dns.same e4.2 hs⟩
 ·rcases g e with⟨rfl,rfl⟩|⟨hj,e⟩
  ·cases o
  ·exact I.own j s p' e o q
 ·rcases g e1 with⟨rfl,rfl⟩|⟨hj,e1⟩
  ·cases o1
  ·rcases g e2 with⟨rfl,rfl⟩|⟨hk,e2⟩
   ·cases o2
   ·exact I.dis j k sj sk p' e1 e2 o1 o2 q1 q2
noncomputable def z01(i:Nat)(f:Rho->Out):Rho->Out:=λρ=>match ρ[i]? with
 |some (some sl)=>if ze5 sl=true then f (ρ.set i (some (.sh (toD sl)))) else f ρ
 |_=>f ρ
theorem z5b(i:Nat)(h:PSs X sts (sV X.K B f)):PSs X sts (sV X.K B (z01 i f)):=h.imp λD σ H ⟨Hf,ρ,I,q⟩=>by
 unfold z01 at q
 split at q
 ·rename_i sl e
  split at q
  ·rename_i ho
   obtain⟨Hf',z,I'⟩:=I.frzG e ho;exact⟨Hf',_,I',zei.mono q z⟩
  ·exact⟨Hf,ρ,I,q⟩
 ·exact⟨Hf,ρ,I,q⟩
noncomputable def z5c(ds:List D)(k d:D):Option (List D):=(toI k).bind λn=>(ixN ds.length n).map λj=>ds.set j d
noncomputable def zke(i:Nat)(fk fv:Rho->Option D):Rho->Out:=λρ=>match ρ[i]? with
 |some (some (.ow ds))=>match (fv ρ).bind λd=>(fk ρ).bind λk=>z5c ds k d with|some ds'=>.nx (ρ.set i (some (.ow ds')))|none=>.bad
 |_=>.bad
variable {fk fv:Rho->Option D}{pos:Pos}{ix:Expr}
theorem zx5 {j:Nat}{x:Str}{value:Expr}{p1 pos':Pos} (hN:X.N[j]?=some x) (hi:PE X ix (eB X.K B fk)) (hv:PE X value (eV X.K B fv)) (hvis:Vis X.env.scope x:=by first|exact lb rfl|exact we (lb rfl)|exact we (we rfl)) (hd:(x == ("__debug__" : Str))=false:=by decide) (hcd:(x == ("__classdict__" : Str))=false:=by decide)
  (ha:∀ v,assign (.Subscript (.Name x p1) ix pos') X.env v=(do
   let ov ← holding [v] (eval (.Name x p1) X.env)
   let iv ← holding [v,ov] (eval ix X.env)
   standAt pos'
   holding [v,ov,iv] (setItem ov iv v)
   release [v,ov,iv] []):=by intro _;rfl)
  (hs:swapsWithSole [.Subscript (.Name x p1) ix pos'] value pos.line X.env=pure false:=by rfl) (hw:swappedStores [.Subscript (.Name x p1) ix pos'] value X.env=pure none:=by rfl) (h1:(assignEach [.Subscript (.Name x p1) ix pos'] X.env).map (·.2)=[assign (.Subscript (.Name x p1) ix pos') X.env]:=by rfl) :
  PS X (.Assign [.Subscript (.Name x p1) ix pos'] value pos) (sV X.K B (zke j fk fv)) :=
 (zw1 hv (z3b (zcy hN hvis hd hcd) hi zui ha) hs hw h1).imp λD σ H ⟨Hf,ρ,I,q⟩=>by
  unfold zke at q
  split at q
  ·rename_i ds hsl
   split at q
   ·rename_i ds' hz
    obtain⟨d,hfv,hz⟩:=bind_some hz;obtain⟨k,hfk,hz⟩:=bind_some hz;obtain⟨n,hn,hz⟩:=bind_some hz;obtain⟨m,hm,hz⟩:=db.mp hz;subst hz;obtain⟨v0,g1,g2⟩:=I.ok j _ hsl;refine⟨Hf,ρ,d,I,hfv,λHf1 H1 v ex1 dv=>⟨v0,g1,Hf1,ρ,k,I.ext ex1,hfk,λHf2 H2 y ex2 dk=>?_⟩⟩;obtain⟨p,xs,rfl,hf,hH,dn⟩:=(zpr.ext g2 ex1).ext ex2;unfold toI at hn
    split at hn
    ·cases hn
     refine⟨p,xs,_,m,rfl,dk.sc.2,hH,by rw[<-dn.length];exact hm,q Hf2 σ _ (ex1.ff.trans ex2.ff) ?_⟩;exact((I.ext ex1).ext ex2).mut hsl g1 (dn.zset (dv.same ex2.ff) m)
    ·cases hn
   ·exact q.elim
  ·exact q.elim
end
noncomputable def ycm:=gII λi j=>.bl (decide (i<j))
theorem zvb:typeLookup (.type "list_reverseiterator") "__len__" = pure none:=by rw[typeLookup_type,builtinLookup_eq_fast];kernel_rfl
theorem z02:typeLookup (.type "list_reverseiterator") "__length_hint__" = pure (some (.builtin "list_reverseiterator.__length_hint__")):=by rw[typeLookup_type,builtinLookup_eq_fast];kernel_rfl
section
variable {prog:Program}{w:World}{A:Around}{E:Value->Shared->Prop}{s:Shared}
theorem z5d{I l:Addr}{i:Int}{Q:Bool->Shared->Prop}(hit:s.heap.IsRevIter I l i)(h:Q false s):wpAny (model prog w) A (Builtin.List.listLengthHint (.ref I)) Q E s:=by
 unfold Builtin.List.listLengthHint;refine aa (bm hit.typeIs zvb ?_);show wpAny _ A (specialOf (Value.ref I) (Str.ofString "__length_hint__") >>= _) _ _ _;refine aa (bm hit.typeIs z02 ?_);generalize hid:("list_reverseiterator.__length_hint__" : String)=id0
 wp_delta
 rw[show splitId id0=some ("list_reverseiterator","__length_hint__") from by subst hid;decide +kernel];subst hid;refine aa (bo (T:="list_reverseiterator") (b:=true) hit.typeIs (by rw[isSubtype_type];kernel_rfl) ?_);exact va h
theorem z03{l I:Addr}{items:Array Value}{Q:Value->Shared->Prop}(hh:A.handled=none)(hit:s.heap.IsRevIter I l ((items.size:Int) - 1))(hl:s.heap.IsList l items)(hne:l≠I)(hn:items.size<=sizeLine)
  (hQ:∀h' tk acc c,(∀b o,b≠I->s.heap.get? b=some o->h'.get? b=some o)->h'.get? s.heap.objs.size=some { cls:=.type "list",dict:=none,data:=.seq acc c,slots:=#[] }->ItemsOf (λi v=>items[items.size - 1 - i]?=some v) acc items.size->Q (.ref s.heap.objs.size) { s with heap:=h',toks:=tk }) :
  wpAny (model prog w) A (call (.type "list") [.ref I]) Q E s:=by
 have hI:I<s.heap.objs.size:=by obtain⟨o,ho,_⟩:=hit;exact wb ho
 have hL:l<s.heap.objs.size:=by obtain⟨o,ho,_⟩:=hl;exact wb ho
 refine callType_codes (Q₁:=λobj s₁=>obj=.ref s.heap.objs.size/\s₁={ s with heap:=s.heap.push { cls:=.type "list",data:=.seq #[] } }) PySem.F.called_list (PySem.F.typeCall_list_1 _) PySem.F.entry_list_init (code_list_new _ ⟨rfl,rfl⟩) λobj s₁ h₁=>?_
 obtain⟨rfl,rfl⟩:=h₁;have hS:(s.heap.push { cls:=.type "list",data:=.seq #[] }).get? s.heap.objs.size=some { cls:=.type "list",data:=.seq #[] }:=cc _ rfl;refine⟨⟨_,hS,rfl⟩,PySem.F.args_list_init_2 _ _,?_⟩;show wpAny _ _ (do let old ← Builtin.List.listItems (.ref s.heap.objs.size);Builtin.List.listUpdate (.ref s.heap.objs.size) (λ_=>#[]);letGo old.toList.reverse;Builtin.List.listExtendWith (.ref s.heap.objs.size) (.ref I) .none) _ _ _;refine aa (listItems_at hS rfl ?_);refine aa (ul hS rfl ?_ (vd _) (vd _));refine aa (wpAny_letGo ?_);have hS₂:=kj (Obj.mapSeq (λ_=>(#[]:Array Value))) hS rfl;have oth:∀b o,b≠s.heap.objs.size->s.heap.get? b=some o->((s.heap.push { cls:=.type "list",data:=.seq #[] }).update s.heap.objs.size (Obj.mapSeq (λ_=>(#[]:Array Value)))).get? b=some o:=λb o hb e=>(af _ _ (gh hb)).trans (bb _ e)
 have hit2:=hit.at (h':=(s.heap.push { cls:=.type "list",data:=.seq #[] }).update s.heap.objs.size (Obj.mapSeq (λ_=>(#[]:Array Value)))) λo e=>oth I o (yd hI) e
 have hl2:=hl.at (h':=(s.heap.push { cls:=.type "list",data:=.seq #[] }).update s.heap.objs.size (Obj.mapSeq (λ_=>(#[]:Array Value)))) λo e=>oth l o (yd hL) e
 have W:=Walks.listRev (prog:=prog) (w:=w) (A:=A.in1.in1) hh I l hne items;have h1:Builtin.List.listSameRef (.ref s.heap.objs.size) (.ref I)=false:=by simp[Builtin.List.listSameRef,im hI]
 have hSf:s.heap.objs.size ∉ [I,l]:=by simp only[yb,List.not_mem_nil,or_false,not_or];exact⟨im hI,im hL⟩
 unfold Builtin.List.listExtendWith;refine aa (bp (T:="list_reverseiterator") hit2.typeIs ?_);rw[oa (by rw[h1];decide)];refine aa (wpAny_pyIter_revIter hit2 ?_);refine aa (lg (z5d hit2 ?_));rw[oa (by decide)];refine va ⟨ol PySem.F.plain_extend_loop _,codeAny_extend_loopS W.toS hn _ hSf _ items.size 0 _ #[] _ rfl (vd _) ⟨vd _,by simpa using hit2,hl2⟩ hS₂ (ItemsOf.nil _) λs' acc' c' hm hS' hacc=>?_⟩;rw[Moved.eq_with hm];refine⟨rfl,hQ s'.heap s'.toks acc' c' (λb o hb e=>hm.heap b o (λhmem=>?_) (oth b o (yd (wb e)) e)) hS' hacc⟩;rcases yb.mp hmem with e'|hmem
 ·exact absurd (wb e) (by rw[e'];exact zg _)
 ·exact hb (zb.mp hmem)
end
noncomputable def z04:List D->Option (List D)
 |[.lst ds]=>some ds.reverse
 |_=>none
section
variable {X:Cx}{B:Bs}{a:Expr}{fr:Rho->Option (List D)}{pos:Pos}
theorem zvc{ys:List V}{its:List Value}(r:zbs ys its){acc:Array Value}(h:ItemsOf (λi v=>its.toArray[its.toArray.size - 1 - i]?=some v) acc its.toArray.size):zbs ys.reverse acc.toList:=by
 have e:acc.toList=its.reverse:=by
  apply zf;intro i;obtain⟨h1,h2⟩:=h;have h1:acc.size=its.length:=h1.trans (by simp);by_cases hi:i<acc.size
  ·have e1:acc[i]?=some acc[i]:=wf hi
   have:=h2 i _ e1
   rw[rf,e1,<-this,List.getElem?_reverse (by omega)];simp
  ·rw[rf,jk (by omega),wg (by rw[dm];omega)]
 rw[e];exact Paired.zrev r
def z9u(K:PySem.W.Frag):List V->Hp->VK->Prop:=λxs H Q=>∃p ys,xs=[.ref p]/\SqL K H p ys/\∀l,H l=none->Q (.ref l) (upd H l (.lst ys.reverse))
theorem z05 {p p2 pos2:Pos}{t:TA} (hc:X.calm=true) (hg:Gl X "list") (hm:X.mg "list" = none) (hg2:Gl X "reversed") (hm2:X.mg "reversed" = none) (ha:PA X [a] t) (he:starEach [a] X.env=[(false,eval a X.env)]:=by rfl)
  (he2:starEach [.Call (.Name "reversed" p2) [a] [] pos2] X.env=[(false,eval (.Call (.Name "reversed" p2) [a] [] pos2) X.env)]:=by rfl):PE X (.Call (.Name "list" p) [.Call (.Name "reversed" p2) [a] [] pos2] [] pos) (tCB (z9u X.K) t):=by
 intro pins s σ H Q I h;refine fg (zeb I hg hm zge ?_ (by decide) (by decide));refine kg ?_ he2 rfl;rw[he2];show wpAny _ _ (spliced [(false,eval (.Call (.Name "reversed" p2) [a] [] pos2) X.env)]) _ _ s;refine rh (fg (zeb I hg2 hm2 zlo ?_ (by decide) (by decide)));refine kg (thn (ha pos2 pins s σ H _ I h) λus s1 ⟨vs,H1,I1,r1,q0,ys,e,hq,q⟩=>?_) he rfl;subst e;obtain⟨u,rfl,ru⟩:=zek r1;cases ru;obtain⟨its,r,pl,hz⟩:=I1.list hq;have e:its.toArray.size=ys.length:=by rw[xa];exact r.length.symm
 have hlt:q0<s1.heap.objs.size:=by obtain⟨_,h1,_⟩:=pl.isList;exact wb h1
 refine call_reversed_list pl.isList (qk ?_);have I2:Inv X pins σ H1 { s1 with heap:=s1.heap.push (revObj q0 ((its.toArray.size:Int) - 1)) }:=I1.kept (t':=s1.toks) λb o e=>bb _ e
 have l2:({ s1 with heap:=s1.heap.push (revObj q0 ((its.toArray.size:Int) - 1)) }:Shared).heap.IsList q0 its.toArray:=pl.isList.push _;refine z03 (l:=q0) (I:=s1.heap.objs.size) (items:=its.toArray) (I.ok.hd hc) ⟨_,cc _ rfl,rfl,rfl⟩ l2 (yd hlt) (by rw[e];exact hz) λh' tk acc c keep hl hacc=>?_
 have hacc':=zvc r hacc;have fp:=I1.fpOk (H':=H1) (wa s1.heap.objs.size) (I1.hok.fresh (wa _));obtain⟨f0,f1,f2,f3,f4,f5⟩:=fp;have hs2:(s1.heap.push (revObj q0 ((its.toArray.size:Int) - 1))).objs.size=s1.heap.objs.size+1:=size_push' _ _
 have I3:=I2.laid (a:=(s1.heap.push (revObj q0 ((its.toArray.size:Int) - 1))).objs.size) (o:=.lst ys.reverse) (t':=tk) (h':=(s1.heap.push (revObj q0 ((its.toArray.size:Int) - 1))).push { cls:=.type "list",dict:=none,data:=.seq acc c,slots:=#[] }) (λb ob eb=>bb _ eb) (wa _)
  ⟨by rw[dm];exact hz,acc.toList,c,hacc',cc _ rfl⟩
 have I4:=I3.turned (t':=tk) (it:=s1.heap.objs.size) (h':=h') (λ b ob hb eb=>by
  by_cases hbs:b=(s1.heap.push (revObj q0 ((its.toArray.size:Int) - 1))).objs.size
  ·subst hbs
   have eb:((s1.heap.push (revObj q0 ((its.toArray.size:Int) - 1))).push { cls:=.type "list",dict:=none,data:=.seq acc c,slots:=#[] }).get? (s1.heap.push (revObj q0 ((its.toArray.size:Int) - 1))).objs.size=some ob:=eb;rw[cc _ rfl]at eb;cases eb;exact hl
  ·have eb:((s1.heap.push (revObj q0 ((its.toArray.size:Int) - 1))).push { cls:=.type "list",dict:=none,data:=.seq acc c,slots:=#[] }).get? b=some ob:=eb
   rw[Heap.get?_push_ne _ _ _ hbs]at eb;exact keep b ob hb eb) (by rw[zae (by rw[hs2];exact yd (yn _))];exact f0) f1 f3 f4 f5
 exact⟨.ref _,_,I4,rfl,q _ (I2.hok.fresh (wa _))⟩
theorem zx6 {p p2 pos2:Pos} (hc:X.calm=true) (hg:Gl X "list") (hm:X.mg "list" = none) (hg2:Gl X "reversed") (hm2:X.mg "reversed" = none) (ha:PA X [a] (aB X.K B fr)) (he:starEach [a] X.env=[(false,eval a X.env)]:=by rfl)
  (he2:starEach [.Call (.Name "reversed" p2) [a] [] pos2] X.env=[(false,eval (.Call (.Name "reversed" p2) [a] [] pos2) X.env)]:=by rfl):PE X (.Call (.Name "list" p) [.Call (.Name "reversed" p2) [a] [] pos2] [] pos) (eW X.K B (wN z04 fr)) :=
 (z05 hc hg hm hg2 hm2 ha he he2).imp λσ H Q ⟨Hf,ρ,z,I,hz,q⟩=>by
  obtain⟨ds,hd,hz⟩:=bind_some hz;refine⟨Hf,ρ,ds,I,hd,λHf1 H1 vs ex dvs=>?_⟩;unfold z04 at hz
  split at hz
  ·cases hz
   obtain⟨x,rfl,hx⟩:=zco dvs;obtain⟨b,ys,rfl,h1,h2⟩:=hx.lst ex.fh;exact⟨b,ys,rfl,h1,λl hl=>q Hf1 _ l ys.reverse (ex.trans (Ex.made (o:=.lst ys.reverse) ex.fh hl)) (ex.hh.free hl) (ex.fh.free hl) zac h2.zrev⟩
  ·cases hz
end
end L2
namespace Tim
open PySem PyProof.Rows
structure WOr(lt:Nat->Nat->Bool):Prop where
 irr:∀a,lt a a=false
 nt:∀a b c,lt a c=true->lt a b=true\/lt b c=true
 asy:∀a b,lt a b=true->lt b a=false
theorem WOr.le{lt:Nat->Nat->Bool}(w:WOr lt){a b c:Nat}(h1:lt b a=false)(h2:lt c b=false):lt c a=false:=by
 cases h:lt c a with
 |false=>rfl
 |true =>
  rcases w.nt c b a h with z|z
  ·rw[h2]at z;cases z
  ·rw[h1]at z;cases z
noncomputable abbrev ga(p:Array Nat)(i:Nat):Nat:=p.getD i 0
theorem ga_eq(p:Array Nat)(i:Nat):ga p i=(p[i]?).getD 0:=by simp[ga,gm]
def Ixs(n:Nat)(p:Array Nat):Prop:=p.toList.Perm (List.range n)
section
variable {n:Nat}{p q:Array Nat}
theorem Ixs.size(h:Ixs n p):p.size=n:=by have:=h.length_eq;simpa using this
theorem Ixs.get(h:Ixs n p){i:Nat}(hi:i<n):p[i]?=some (ga p i):=by
 have hi':i<p.size:=by rw[h.size];exact hi
 rw[ga_eq];simp[hi']
theorem Ixs.bd(h:Ixs n p){i:Nat}(hi:i<n):ga p i<n:=by
 have e:=h.get hi
 have:ga p i∈p.toList:=zp.mpr (Array.mem_of_getElem? e)
 exact df.mp (h.mem_iff.mp this)
theorem Ixs.of(h:Ixs n p)(hq:q.Perm p):Ixs n q:=(Array.perm_iff_toList_perm.mp hq).trans h
end
theorem zvd{α β:Type}(f:α->β)(xs:Array α)(i j:Nat):(xs.swapIfInBounds i j).map f=(xs.map f).swapIfInBounds i j:=by
 rw[en,en];simp only[ag];split
 ·split
  ·apply Array.ext_getElem?;intro k;simp[Array.getElem?_swap,Array.getElem?_map];split <;> (try split) <;> simp_all
  ·rfl
 ·rfl
theorem zgr{α β:Type}(f:α->β)(u v:Nat->Nat):∀(l:List Nat) (xs:Array α),(l.foldl (λa k=>a.swapIfInBounds (u k) (v k)) xs).map f=l.foldl (λa k=>a.swapIfInBounds (u k) (v k)) (xs.map f)
 |[],_=>rfl
 |k::l,xs=>by rw[uf,zgr f u v l,zvd,uf]
section
variable {prog:Program}{w:World}{A:Around}{E:Value->Shared->Prop}{s:Shared}{κ:SortKind}{item:Nat->Keyed}{lt:Nat->Nat->Bool}{n:Nat}{p:Array Nat}{pend:Array (Nat×Nat×Nat)}{g:Nat}
noncomputable abbrev SS(κ:SortKind)(item:Nat->Keyed)(p:Array Nat)(pend:Array (Nat×Nat×Nat))(g:Nat):SortSt:=SortSt.mk' κ (p.map item) pend g none
def zhh(prog:Program)(w:World)(A:Around)(s:Shared)(κ:SortKind)(item:Nat->Keyed)(lt:Nat->Nat->Bool)(n:Nat):Prop :=
 ∀(i j:Nat),i<n->j<n->∀(Q:Bool->Shared->Prop),Q (lt i j) s->wpAny (model prog w) A (keyLt' κ (item i).1 (item j).1) Q (λ_ _=>False) s
theorem z5e{i j:Nat}{Q:Option Bool->SortSt->Prop}(hA:zhh prog w A s κ item lt n)(hi:i<n)(hj:j<n)(h:Q (some (lt i j)) (SS κ item p pend g)):wpS (model prog w) A E s (lt' (item i) (item j)) Q (SS κ item p pend g):=by
 rw[lt'_eq];refine ua (jh ?_);refine ua (zl (gn (ug (hA i j hi hj (λb s'=>s'=s/\b=lt i j) ⟨rfl,rfl⟩) (λb s' hb=>?_) λ_ _ hF=>hF.elim)));obtain⟨rfl,rfl⟩:=hb;exact⟨rfl,gb h⟩
theorem zbm{st:SortSt}{l:Array Nat}{i x:Nat}{Q:Keyed->SortSt->Prop}(hx:l[i]?=some x)(h:Q (item x) st):wpS (model prog w) A E s (elem' (l.map item) i) Q st:=by
 rw[elem'_eq,Array.getElem?_map,hx];exact gb h
theorem zgs{i j:Nat}{Q:Option Bool->SortSt->Prop}(hA:zhh prog w A s κ item lt n)(hp:Ixs n p)(hi:i<n)(hj:j<n)(h:Q (some (lt (ga p i) (ga p j))) (SS κ item p pend g)):wpS (model prog w) A E s (ltAt' i j) Q (SS κ item p pend g):=by
 rw[ltAt'_eq];refine ua (jh ?_);exact ua (zbm (hp.get hi) (ua (zbm (hp.get hj) (z5e hA (hp.bd hi) (hp.bd hj) h))))
theorem zve{i j:Nat}{Q:Unit->SortSt->Prop}(h:Q () (SS κ item (mirror p i j ((j - i) / 2)) pend g)):wpS (model prog w) A E s (reverseSlice' i j) Q (SS κ item p pend g):=by
 rw[reverseSlice'_eq];refine yf ?_;have e:mirror (p.map item) i j ((j - i) / 2)=(mirror p i j ((j - i) / 2)).map item:=(zgr item _ _ _ p).symm;show Q () (SortSt.mk' κ (mirror (p.map item) i j ((j - i) / 2)) pend g none);rw[e];exact h
theorem z5f{i j:Nat}{Q:Unit->SortSt->Prop}(h:Q () (SS κ item (bubble p i (i - j)) pend g)):wpS (model prog w) A E s (moveDown' i j) Q (SS κ item p pend g):=by
 rw[moveDown'_eq];refine yf ?_;have e:bubble (p.map item) i (i - j)=(bubble p i (i - j)).map item:=(zgr item _ _ _ p).symm;show Q () (SortSt.mk' κ (bubble (p.map item) i (i - j)) pend g none);rw[e];exact h
theorem znv(hp:Ixs n p){i j:Nat}(hj:j<=n)(k:Nat):ga (mirror p i j ((j - i) / 2)) k=if i<=k/\k<j then ga p (i+j - 1 - k) else ga p k:=by
 rw[ga_eq,getElem?_mirror_all (by rw[hp.size];exact hj)]
 split <;> rw[ga_eq]
theorem Ixs.rev(hp:Ixs n p)(i j d:Nat):Ixs n (mirror p i j d):=hp.of (mirror_perm p i j d)
def UpF(lt:Nat->Nat->Bool)(p:Array Nat)(a k:Nat):Prop:=∀i j,a<=i->i<=j->j<a+k->lt (ga p j) (ga p i)=false
def DwF(lt:Nat->Nat->Bool)(p:Array Nat)(a k:Nat):Prop:=∀i j,a<=i->i<=j->j<a+k->lt (ga p i) (ga p j)=false
theorem UpF.one(w:WOr lt){a:Nat}:UpF lt p a 1:=λi j h1 h2 h3=>by
 have:i=j:=by omega
 rw[this];exact w.irr _
theorem UpF.snoc(w:WOr lt){a k:Nat}(h:UpF lt p a k)(h0:0<k)(hk:lt (ga p (a+k)) (ga p (a+k - 1))=false):UpF lt p a (k+1):=λi j h1 hij hj=>by
 by_cases e:j=a+k
 ·subst e
  by_cases e2:i=a+k
  ·subst e2;exact w.irr _
  ·exact w.le (h i (a+k - 1) h1 (by omega) (by omega)) hk
 ·exact h i j h1 hij (by omega)
theorem DwF.snoc(w:WOr lt){a k:Nat}(h:DwF lt p a k)(h0:0<k)(hk:lt (ga p (a+k - 1)) (ga p (a+k))=false):DwF lt p a (k+1):=λi j h1 hij hj=>by
 by_cases e:j=a+k
 ·subst e
  by_cases e2:i=a+k
  ·subst e2;exact w.irr _
  ·exact w.le hk (h i (a+k - 1) h1 (by omega) (by omega))
 ·exact h i j h1 hij (by omega)
def Sme(lt:Nat->Nat->Bool)(p q:Array Nat):Prop:=∀k,lt (ga p k) (ga q k)=false/\lt (ga q k) (ga p k)=false
theorem DwF.sme(w:WOr lt){q:Array Nat}{a k:Nat}(h:DwF lt p a k)(e:Sme lt p q):DwF lt q a k:=λi j h1 hij hj=>w.le (w.le (e j).1 (h i j h1 hij hj)) (e i).2
theorem zl7(w:WOr lt)(hp:Ixs n p){i j:Nat}(hj:j<=n)(he:∀a b,i<=a->a<j->i<=b->b<j->lt (ga p a) (ga p b)=false):Sme lt p (mirror p i j ((j - i) / 2)):=λk=>by
 rw[znv hp hj];split
 ·rename_i h;exact⟨he _ _ (by omega) (by omega) (by omega) (by omega),he _ _ (by omega) (by omega) (by omega) (by omega)⟩
 ·exact⟨w.irr _,w.irr _⟩
theorem DwF.turn(hp:Ixs n p){a k:Nat}(hk:a+k<=n)(h:DwF lt p a k):UpF lt (mirror p a (a+k) ((a+k - a) / 2)) a k:=λi j h1 hij hj=>by
 rw[znv hp hk,znv hp hk,ba ⟨by omega,hj⟩,ba ⟨h1,by omega⟩];exact h _ _ (by omega) (by omega) (by omega)
def Kpt(p q:Array Nat)(a:Nat):Prop:=∀k,k<a->ga q k=ga p k
theorem Kpt.rfl{a:Nat}:Kpt p p a:=λ_ _=>by rfl
theorem Kpt.trans{q r:Array Nat}{a:Nat}(h1:Kpt p q a)(h2:Kpt q r a):Kpt p r a:=λk hk=>(h2 k hk).trans (h1 k hk)
theorem Kpt.rev(hp:Ixs n p){a i j:Nat}(hi:a<=i)(hj:j<=n):Kpt p (mirror p i j ((j - i) / 2)) a:=λk hk=>by
 rw[znv hp hj,oa (by omega)]
end
section
variable {prog:Program}{w:World}{A:Around}{E:Value->Shared->Prop}{s:Shared}{κ:SortKind}{item:Nat->Keyed}{lt:Nat->Nat->Bool}{n:Nat}{p:Array Nat}{pend:Array (Nat×Nat×Nat)}{g:Nat}
noncomputable def tl3(lo m nrem:Nat):StateT SortSt Sem (Option Nat):=do
 reverseSlice' lo (lo+m)
 let mut k:=m
 for _ in [k:nrem] do
  let some c ← ltAt' (lo+k) (lo+k - 1)|return none
  if c then break
  k:=k+1
 return some k
noncomputable def dsc(lo m nrem:Nat):StateT SortSt Sem (Option Nat):=do
 liftM (rule "list.sort.descending-run")
 let mut k:=m+1
 let mut z:=0
 for _ in [k:nrem] do
  let some c ← ltAt' (lo+k) (lo+k - 1)|return none
  if c then
   if z > 0 then reverseSlice' (lo+k - (z+1)) (lo+k)
   z:=0
  else
   let some d ← ltAt' (lo+k - 1) (lo+k)|return none
   if d then break
   z:=z+1
  k:=k+1
 if z > 0 then reverseSlice' (lo+k - (z+1)) (lo+k)
 tl3 lo k nrem
theorem z5g{lo m nrem:Nat}{q:Array Nat}{Q:Option Nat->SortSt->Prop}(hA:zhh prog w A s κ item lt n)(wo:WOr lt)(hq:Ixs n q)(k0:Kpt p q lo)(hlo:lo+nrem<=n)(m1:1<=m)(m2:m<=nrem)(d:DwF lt q lo m)
  (h:∀m p',1<=m->m<=nrem->Ixs n p'->Kpt p p' lo->UpF lt p' lo m->Q (some m) (SS κ item p' pend g)):wpS (model prog w) A E s (tl3 lo m nrem) Q (SS κ item q pend g):=by
 unfold tl3;refine ua (zve ?_);have hr:Ixs n (mirror q lo (lo+m) ((lo+m - lo) / 2)):=hq.rev _ _ _;have hk:Kpt p (mirror q lo (lo+m) ((lo+m - lo) / 2)) lo:=k0.trans (Kpt.rev hq (wa _) (by omega));have u0:=d.turn hq (show lo+m<=n by omega);generalize mirror q lo (lo+m) ((lo+m - lo) / 2)=r at hr hk u0 ⊢;refine ua (jg (oe (I:=λx c t=>c=(none,x)/\t=SS κ item r pend g/\UpF lt r lo x) (Q:=λc t=>∃k,c=(none,k)/\1<=k/\k<=nrem/\t=SS κ item r pend g/\UpF lt r lo k) ?go ?fi ⟨rfl,rfl,u0⟩) ?nx)
 case fi =>
  rintro c t ⟨rfl,rfl,u⟩;exact⟨_,rfl,by omega,by omega,rfl,u⟩
 case go =>
  rintro x c t hx1 hx2 ⟨rfl,rfl,u⟩;dsimp only;refine ua (zgs hA hr (by omega) (by omega) ?_);dsimp only
  cases hc:lt (ga r (lo+x)) (ga r (lo+x - 1)) with
  |true=>rw[ba rfl];exact gb ⟨x,rfl,by omega,by omega,rfl,u⟩
  |false=>rw[oa la];exact gb ⟨rfl,rfl,u.snoc wo (by omega) hc⟩
 case nx =>
  rintro c t ⟨k,rfl,k1,k2,rfl,u⟩;exact gb (h k r k1 k2 hr hk u)
theorem z5h{lo m nrem:Nat}{q:Array Nat}{Q:Option Nat->SortSt->Prop}(hA:zhh prog w A s κ item lt n)(wo:WOr lt)(hq:Ixs n q)(k0:Kpt p q lo)(hlo:lo+nrem<=n)(m1:1<=m)(m2:m+1<=nrem)(d:DwF lt q lo (m+1))
  (h:∀m p',1<=m->m<=nrem->Ixs n p'->Kpt p p' lo->UpF lt p' lo m->Q (some m) (SS κ item p' pend g)):wpS (model prog w) A E s (dsc lo m nrem) Q (SS κ item q pend g):=by
 unfold dsc;refine ua (zl (vg ⟨rfl,?_⟩))
 let Z:Array Nat->Nat->Nat->Prop:=λr x z=>Ixs n r/\Kpt p r lo/\DwF lt r lo x/\z+1<=x/\∀a b,lo+x - (z+1)<=a->a<lo+x->lo+x - (z+1)<=b->b<lo+x->lt (ga r a) (ga r b)=false
 have one:∀(r:Array Nat) (x:Nat),∀a b,lo+x - (0+1)<=a->a<lo+x->lo+x - (0+1)<=b->b<lo+x->lt (ga r a) (ga r b)=false:=λr x a b _ _ _ _=>by
  have:a=b:=by omega
  rw[this];exact wo.irr _
 refine ua (jg (oe (I:=λx c t=>∃r z,c=(none,x,z)/\t=SS κ item r pend g/\Z r x z) (Q:=λc t=>∃r x z,c=(none,x,z)/\t=SS κ item r pend g/\x<=nrem/\Z r x z) ?go ?fi ⟨q,0,rfl,rfl,hq,k0,d,by omega,one _ _⟩) ?nx)
 case fi =>
  rintro c t ⟨r,z,rfl,rfl,hZ⟩;exact⟨r,_,z,rfl,rfl,by omega,hZ⟩
 case go =>
  rintro x c t hx1 hx2 ⟨r,z,rfl,rfl,hr,hk,hd,hz,he⟩;dsimp only;refine ua (zgs hA hr (by omega) (by omega) ?_);dsimp only
  cases hc:lt (ga r (lo+x)) (ga r (lo+x - 1)) with
  |true =>
   rw[ba rfl];have hd':=hd.snoc wo (by omega) (wo.asy _ _ hc);by_cases z0:z > 0
   ·rw[ba z0]
    refine ua (zve (gb ⟨_,0,rfl,rfl,hr.rev _ _ _,hk.trans (Kpt.rev hr (by omega) (by omega)),hd'.sme wo (zl7 wo hr (by omega) he),by omega,one _ _⟩))
   ·rw[oa z0]
    exact gb ⟨_,0,rfl,rfl,hr,hk,hd',by omega,one _ _⟩
  |false =>
   rw[oa la];refine ua (zgs hA hr (by omega) (by omega) ?_);dsimp only
   cases hb:lt (ga r (lo+x - 1)) (ga r (lo+x)) with
   |true=>rw[ba rfl];exact gb ⟨r,x,z,rfl,rfl,by omega,hr,hk,hd,hz,he⟩
   |false =>
    rw[oa la];refine gb ⟨r,z+1,rfl,rfl,hr,hk,hd.snoc wo (by omega) hb,by omega,λa b a1 a2 b1 b2=>?_⟩;by_cases ea:a=lo+x
    ·by_cases eb:b=lo+x
     ·rw[ea,eb];exact wo.irr _
     ·rw[ea];exact wo.le (he (lo+x - 1) b (by omega) (by omega) (by omega) (by omega)) hc
    ·by_cases eb:b=lo+x
     ·rw[eb];exact wo.le hb (he a (lo+x - 1) (by omega) (by omega) (by omega) (by omega))
     ·exact he a b (by omega) (by omega) (by omega) (by omega)
 case nx =>
  rintro c t ⟨r,x,z,rfl,rfl,hx,hr,hk,hd,hz,he⟩;dsimp only;by_cases z0:z > 0
  ·rw[ba z0]
   exact ua (zve (z5g hA wo (hr.rev _ _ _) (hk.trans (Kpt.rev hr (by omega) (by omega))) hlo (by omega) hx (hd.sme wo (zl7 wo hr (by omega) he)) h))
  ·rw[oa z0]
   exact z5g hA wo hr hk hlo (by omega) hx hd h
theorem zl8{lo nrem:Nat}{Q:Option Nat->SortSt->Prop}(hA:zhh prog w A s κ item lt n)(wo:WOr lt)(hp:Ixs n p)(hlo:lo+nrem<=n)(h1:1<=nrem)
  (h:∀m p',1<=m->m<=nrem->Ixs n p'->Kpt p p' lo->UpF lt p' lo m->Q (some m) (SS κ item p' pend g)):wpS (model prog w) A E s (countRun' lo nrem) Q (SS κ item p pend g):=by
 rw[countRun'_eq];refine ua (jg (oe (I:=λx c t=>c=(none,x)/\t=SS κ item p pend g/\UpF lt p lo x) (Q:=λc t=>∃m,c=(none,m)/\1<=m/\m<=nrem/\t=SS κ item p pend g/\UpF lt p lo m/\(m<nrem->lt (ga p (lo+m)) (ga p (lo+m - 1))=true)) ?go ?fi ⟨rfl,rfl,UpF.one wo⟩) ?nx)
 case fi =>
  rintro c t ⟨rfl,rfl,u⟩;exact⟨_,rfl,by omega,by omega,rfl,u,λz=>absurd z (by omega)⟩
 case go =>
  rintro x c t hx1 hx2 ⟨rfl,rfl,u⟩;dsimp only;refine ua (zgs hA hp (by omega) (by omega) ?_);dsimp only
  cases hc:lt (ga p (lo+x)) (ga p (lo+x - 1)) with
  |true=>rw[ba rfl];exact gb ⟨x,rfl,hx1,by omega,rfl,u,λ_=>hc⟩
  |false=>rw[oa la];exact gb ⟨rfl,rfl,u.snoc wo (by omega) hc⟩
 case nx =>
  rintro c t ⟨m,rfl,m1,m2,rfl,u,hm⟩;dsimp only;by_cases e:m=nrem
  ·rw[ba (by simp[e])]
   exact gb (h m p m1 m2 hp Kpt.rfl u)
  rw[oa (by simp[e])];have hlt:=hm (by omega);have hk:=wo.asy _ _ hlt;by_cases m0:m > 1
  ·rw[ba m0]
   refine ua (zgs hA hp (by omega) (by omega) ?_);dsimp only
   cases hc:lt (ga p lo) (ga p (lo+m - 1)) with
   |true=>rw[ba rfl];exact gb (h m p m1 m2 hp Kpt.rfl u)
   |false =>
    rw[oa la];have eqs:∀a b,lo<=a->a<lo+m->lo<=b->b<lo+m->lt (ga p a) (ga p b)=false:=λa b a1 a2 b1 b2=>wo.le (wo.le (u b (lo+m - 1) b1 (by omega) (by omega)) hc) (u lo a (wa _) a1 a2)
    have d0:DwF lt p lo m:=λi j i1 hij hj=>eqs i j i1 (by omega) (by omega) hj
    exact ua (zve (z5h hA wo (hp.rev _ _ _) (Kpt.rev hp (wa _) (by omega)) hlo m1 (by omega) ((d0.snoc wo (by omega) hk).sme wo (zl7 wo hp (by omega) eqs)) h))
  ·rw[oa m0]
   have:m=1:=by omega
   subst this
   exact z5h hA wo hp Kpt.rfl hlo m1 (by omega) (DwF.snoc wo (λ i j i1 hij hj=>by
    have:i=j:=by omega
    rw[this];exact wo.irr _) (by omega) hk) h
theorem z06{lo m ok:Nat}{Q:Bool->SortSt->Prop}(hA:zhh prog w A s κ item lt n)(wo:WOr lt)(hp:Ixs n p)(hlo:lo+m<=n)(h1:1<=ok)(hok:ok<=m)(u:UpF lt p lo ok)
  (h:∀p',Ixs n p'->Kpt p p' lo->UpF lt p' lo m->Q true (SS κ item p' pend g)):wpS (model prog w) A E s (binarySort' lo m ok) Q (SS κ item p pend g):=by
 rw[binarySort'_eq];have e1:max ok 1=ok:=by omega
 refine ua (jg (oe (I:=λx c t=>c=(none,())/\∃r,t=SS κ item r pend g/\Ixs n r/\Kpt p r lo/\UpF lt r lo x) (Q:=λc t=>c=(none,())/\∃r,t=SS κ item r pend g/\Ixs n r/\Kpt p r lo/\UpF lt r lo m) ?go ?fi ⟨rfl,p,rfl,hp,Kpt.rfl,by rw[e1];exact u⟩) ?nx)
 case fi =>
  rintro c t ⟨rfl,r,rfl,hr,hk,hu⟩;exact⟨rfl,r,rfl,hr,hk,by rw[show max (max ok 1) m=m by omega]at hu;exact hu⟩
 case nx =>
  rintro c t ⟨rfl,r,rfl,hr,hk,hu⟩;exact gb (h r hr hk hu)
 case go =>
  rintro k c t hk1 hk2 ⟨rfl,r,rfl,hr,hk,hu⟩;dsimp only
  refine wpS_bind (wpS_mono (wpS_forRange (I:=λ x c t=>t=SS κ item r pend g/\∃ a b,c=(none,a,b)/\a<=b/\b<=k/\(b - a)+x<=k/\(∀ i,i<a->lt (ga r (lo+k)) (ga r (lo+i))=false)/\∀ i,b<=i->i<k->lt (ga r (lo+k)) (ga r (lo+i))=true)
   (Q:=λc t=>t=SS κ item r pend g/\∃a b,c=(none,a,b)/\a<=k/\(∀i,i<a->lt (ga r (lo+k)) (ga r (lo+i))=false)/\∀i,a<=i->i<k->lt (ga r (lo+k)) (ga r (lo+i))=true) ?go2 ?fi2 ⟨rfl,0,k,rfl,by omega,by omega,by omega,λi hi=>absurd hi (by omega),λi h1 h2=>absurd h1 (by omega)⟩) ?nx2)
  case fi2 =>
   rintro c t ⟨rfl,a,b,rfl,x1,x2,x3,x4,x5⟩;exact⟨rfl,a,b,rfl,by omega,x4,λi hi=>x5 i (by omega)⟩
  case go2 =>
   rintro x c t hx1 hx2 ⟨rfl,a,b,rfl,x1,x2,x3,x4,x5⟩;dsimp only;by_cases hab:a ≥ b
   ·rw[ba hab]
    exact gb ⟨rfl,a,b,rfl,by omega,x4,λi hi=>x5 i (by omega)⟩
   rw[oa hab];refine ua (zgs hA hr (by omega) (by omega) ?_);dsimp only
   cases hc:lt (ga r (lo+k)) (ga r (lo+(a+b) / 2)) with
   |true =>
    rw[ba rfl];refine gb ⟨rfl,a,(a+b) / 2,rfl,by omega,by omega,by omega,x4,λi i1 i2=>?_⟩;rcases wo.nt _ (ga r (lo+i)) _ hc with z|z
    ·exact z
    ·rw[hu (lo+(a+b) / 2) (lo+i) (by omega) (by omega) (by omega)]at z;cases z
   |false =>
    rw[oa la];exact gb ⟨rfl,(a+b) / 2+1,b,rfl,by omega,by omega,by omega,λi hi=>wo.le (hu (lo+i) (lo+(a+b) / 2) (by omega) (by omega) (by omega)) hc,x5⟩
  case nx2 =>
   rintro c t ⟨rfl,a,b,rfl,a1,x4,x5⟩;dsimp only
   have at_:∀i,ga (bubble r (lo+k) (lo+k - (lo+a))) i=if i=lo+a then ga r (lo+k) else if lo+a<i/\i<=lo+k then ga r (i - 1) else ga r i:=λi=>by
    rw[ga_eq,getElem?_bubble (by rw[hr.size];omega) _ (by omega),show lo+k - (lo+k - (lo+a))=lo+a by omega];split
    ·rw[ga_eq]
    ·split <;> rw[ga_eq]
   refine ua (z5f (gb ⟨rfl,_,rfl,hr.of (bubble_perm _ _ _),hk.trans λi hi=>?_,λi j i1 hij hj=>?_⟩))
   ·rw[at_,oa (by omega),oa (by omega)]
   rw[at_,at_];by_cases ej:j=lo+a
   ·rw[ba ej]
    by_cases ei:i=lo+a
    ·rw[ba ei];exact wo.irr _
    ·rw[oa ei,oa (by omega)]
     have:=x4 (i - lo) (by omega)
     rw[show lo+(i - lo)=i by omega]at this;exact this
   ·rw[oa ej]
    by_cases ei:i=lo+a
    ·rw[ba ei,ba ⟨by omega,by omega⟩]
     have:=x5 (j - 1 - lo) (by omega) (by omega)
     rw[show lo+(j - 1 - lo)=j - 1 by omega]at this;exact wo.asy _ _ this
    ·rw[oa ei]
     by_cases hj2:lo+a<j
     ·rw[ba ⟨hj2,by omega⟩]
      by_cases hi2:lo+a<i
      ·rw[ba ⟨hi2,by omega⟩];exact hu _ _ (by omega) (by omega) (by omega)
      ·rw[oa (by omega)];exact hu _ _ (by omega) (by omega) (by omega)
     ·rw[oa (by omega),oa (by omega)];exact hu _ _ (by omega) hij (by omega)
end
noncomputable def zce:Bool->Keyed->Array Keyed->Nat->Nat->Nat->StateT SortSt Sem (Option Nat):=sortPriv% PySem.Builtin.gallop
noncomputable def byd(lf:Bool)(y:Keyed)(arr:Array Keyed)(base i:Nat):StateT SortSt Sem (Option Bool):=do
 let x ← elem' arr (base+i)
 if lf then lt' x y else return (← lt' y x).map (!·)
theorem zpf(lf:Bool)(y:Keyed)(arr:Array Keyed)(base m hint:Nat):zce lf y arr base m hint=(do
  let mut u:=0
  let mut v:=1
  let mut a:=0
  let mut b:=0
  let some r ← byd lf y arr base hint|return none
  if r then
   let top:=m - hint
   for _ in [0:m] do
    if v ≥ top then break
    let some c ← byd lf y arr base (hint+v)|return none
    if !c then break
    u:=v
    v:=2 * v+1
   a:=hint+u+1
   b:=hint+min v top
  else
   let top:=hint+1
   for _ in [0:m] do
    if v ≥ top then break
    let some c ← byd lf y arr base (hint - v)|return none
    if c then break
    u:=v
    v:=2 * v+1
   a:=hint+1 - min v top
   b:=hint - u
  for _ in [0:m] do
   if a ≥ b then break
   let d:=a+(b - a) / 2
   let some c ← byd lf y arr base d|return none
   if c then a:=d+1 else b:=d
  return some b):=rfl
section
variable {prog:Program}{w:World}{A:Around}{E:Value->Shared->Prop}{s:Shared}{κ:SortKind}{item:Nat->Keyed}{lt:Nat->Nat->Bool}{n:Nat}{p l:Array Nat}{pend:Array (Nat×Nat×Nat)}{g:Nat}
noncomputable def ahd(lt:Nat->Nat->Bool)(lf:Bool)(y x:Nat):Bool:=if lf=true then lt x y else !(lt y x)
def Bds(n:Nat)(l:Array Nat):Prop:=∀i,i<l.size->l[i]?=some (ga l i)/\ga l i<n
theorem z9v{lf:Bool}{y base i:Nat}{Q:Option Bool->SortSt->Prop}(hA:zhh prog w A s κ item lt n)(hl:Bds n l)(hy:y<n)(hi:base+i<l.size)(h:Q (some (ahd lt lf y (ga l (base+i)))) (SS κ item p pend g)):wpS (model prog w) A E s (byd lf (item y) (l.map item) base i) Q (SS κ item p pend g):=by
 unfold byd;refine ua (zbm (hl _ hi).1 ?_);unfold ahd at h
 cases lf with
 |true=>rw[ba rfl]at h ⊢;exact z5e hA (hl _ hi).2 hy h
 |false=>rw[oa la]at h ⊢;exact ua (z5e hA hy (hl _ hi).2 (gb h))
theorem zpg{lf:Bool}{y base m hint:Nat}{Q:Option Nat->SortSt->Prop}(hA:zhh prog w A s κ item lt n)(hl:Bds n l)(hy:y<n)(hm:base+m<=l.size)(hh:hint<m)(mono:∀i j,i<=j->j<m->ahd lt lf y (ga l (base+j))=true->ahd lt lf y (ga l (base+i))=true)
  (h:∀k,k<=m->(∀i,i<k->ahd lt lf y (ga l (base+i))=true)->(∀i,k<=i->i<m->ahd lt lf y (ga l (base+i))=false)->Q (some k) (SS κ item p pend g)):wpS (model prog w) A E s (zce lf (item y) (l.map item) base m hint) Q (SS κ item p pend g):=by
 rw[zpf];generalize hB:(λi=>ahd lt lf y (ga l (base+i)))=B;have hB':∀i,ahd lt lf y (ga l (base+i))=B i:=λi=>by rw[<-hB]
 simp only[hB']at mono h;have ask:∀{i:Nat} {R:Option Bool->SortSt->Prop},i<m->R (some (B i)) (SS κ item p pend g)->wpS (model prog w) A E s (byd lf (item y) (l.map item) base i) R (SS κ item p pend g):=λhi hr=>z9v hA hl hy (by omega) (by rw[hB'];exact hr)
 have last:∀(a b:Nat),a<=b->b<=m->(∀i,i<a->B i=true)->(∀i,b<=i->i<m->B i=false)->∀{f:Nat->Option (Option Nat)×Nat×Nat->StateT SortSt Sem (ForInStep (Option (Option Nat)×Nat×Nat))},
   (∀ x a b,f x (none,a,b)=(if a ≥ b then pure (.done (none,a,b)) else do
    match ← byd lf (item y) (l.map item) base (a+(b - a) / 2) with
    |some c=>if c=true then pure (.yield (none,a+(b - a) / 2+1,b)) else pure (.yield (none,a,a+(b - a) / 2))
    |_=>pure (.done (some none,a,b)))) →
   ∀{k:Option (Option Nat)×Nat×Nat->StateT SortSt Sem (Option Nat)},(∀a b,k (none,a,b)=pure (some b))->wpS (model prog w) A E s (forIn [0:m] (none,a,b) f >>= k) Q (SS κ item p pend g):=by
  intro a b hab hbm h1 h2 f hf k hk
  refine wpS_bind (wpS_mono (wpS_forRange (I:=λ x c t=>t=SS κ item p pend g/\∃ a b,c=(none,a,b)/\a<=b/\b<=m/\(b - a)+x<=m/\(∀ i,i<a->B i=true)/\∀ i,b<=i->i<m->B i=false)
   (Q:=λc t=>t=SS κ item p pend g/\∃a b,c=(none,a,b)/\b<=m/\(∀i,i<b->B i=true)/\∀i,b<=i->i<m->B i=false) ?go ?fi ⟨rfl,a,b,rfl,hab,hbm,by omega,h1,h2⟩) ?nx)
  case fi =>
   rintro c t ⟨rfl,a,b,rfl,x1,x2,x3,x4,x5⟩;exact⟨rfl,a,b,rfl,x2,λi hi=>x4 i (by omega),x5⟩
  case nx =>
   rintro c t ⟨rfl,a,b,rfl,x2,x4,x5⟩;rw[hk];exact gb (h b x2 x4 x5)
  case go =>
   rintro x c t _ hx ⟨rfl,a,b,rfl,x1,x2,x3,x4,x5⟩;rw[hf];by_cases hab:a ≥ b
   ·rw[ba hab]
    exact gb ⟨rfl,a,b,rfl,x2,λi hi=>x4 i (by omega),x5⟩
   rw[oa hab];refine ua (ask (by omega) ?_);dsimp only
   cases hc:B (a+(b - a) / 2) with
   |true=>rw[ba rfl];exact gb ⟨rfl,_,_,rfl,by omega,by omega,by omega,λi hi=>mono i _ (by omega) (by omega) hc,x5⟩
   |false =>
    rw[oa la];refine gb ⟨rfl,_,_,rfl,by omega,by omega,by omega,x4,λi i1 i2=>?_⟩
    cases hi:B i with
    |false=>rfl
    |true=>rw[mono _ i i1 i2 hi]at hc;cases hc
 refine ua (ask hh ?_);dsimp only
 cases hc:B hint with
 |true =>
  rw[ba rfl]
  refine wpS_bind (wpS_mono (wpS_forRange (I:=λ x c t=>t=SS κ item p pend g/\∃ u v,c=(none,u,v)/\u<v/\x+1<=v/\hint+u<m/\B (hint+u)=true)
   (Q:=λc t=>t=SS κ item p pend g/\∃u v,c=(none,u,v)/\u<v/\hint+u<m/\B (hint+u)=true/\(v<m - hint->B (hint+v)=false)) ?go ?fi ⟨rfl,0,1,rfl,by omega,by omega,by omega,hc⟩) ?nx)
  case fi =>
   rintro c t ⟨rfl,u,v,rfl,x1,x2,x3,x4⟩;exact⟨rfl,u,v,rfl,x1,x3,x4,λz=>absurd z (by omega)⟩
  case go =>
   rintro x c t _ hx ⟨rfl,u,v,rfl,x1,x2,x3,x4⟩;dsimp only;by_cases hv:v ≥ m - hint
   ·rw[ba hv];exact gb ⟨rfl,u,v,rfl,x1,x3,x4,λz=>absurd z (by omega)⟩
   rw[oa hv];refine ua (ask (by omega) ?_);dsimp only
   cases hd:B (hint+v) with
   |true=>rw[oa (by simp)];exact gb ⟨rfl,v,2 * v+1,rfl,by omega,by omega,by omega,hd⟩
   |false=>rw[ba (show (!false)=true from rfl)];exact gb ⟨rfl,u,v,rfl,x1,x3,x4,λ_=>hd⟩
  case nx =>
   rintro c t ⟨rfl,u,v,rfl,x1,x3,x4,x5⟩;dsimp only;refine last _ _ (by omega) (by omega) (λi hi=>mono i (hint+u) (by omega) x3 x4) (λi i1 i2=>?_) (λ_ _ _=>rfl) (λ_ _=>rfl)
   cases hi:B i with
   |false=>rfl
   |true =>
    have:=x5 (by omega)
    rw[mono (hint+v) i (by omega) i2 hi]at this;cases this
 |false =>
  rw[oa la]
  refine wpS_bind (wpS_mono (wpS_forRange (I:=λ x c t=>t=SS κ item p pend g/\∃ u v,c=(none,u,v)/\u<v/\x+1<=v/\u<=hint/\B (hint - u)=false)
   (Q:=λc t=>t=SS κ item p pend g/\∃u v,c=(none,u,v)/\u<v/\u<=hint/\B (hint - u)=false/\(v<hint+1->B (hint - v)=true)) ?go ?fi ⟨rfl,0,1,rfl,by omega,by omega,by omega,hc⟩) ?nx)
  case fi =>
   rintro c t ⟨rfl,u,v,rfl,x1,x2,x3,x4⟩;exact⟨rfl,u,v,rfl,x1,x3,x4,λz=>absurd z (by omega)⟩
  case go =>
   rintro x c t _ hx ⟨rfl,u,v,rfl,x1,x2,x3,x4⟩;dsimp only;by_cases hv:v ≥ hint+1
   ·rw[ba hv];exact gb ⟨rfl,u,v,rfl,x1,x3,x4,λz=>absurd z (by omega)⟩
   rw[oa hv];refine ua (ask (by omega) ?_);dsimp only
   cases hd:B (hint - v) with
   |true=>rw[ba rfl];exact gb ⟨rfl,u,v,rfl,x1,x3,x4,λ_=>hd⟩
   |false=>rw[oa la];exact gb ⟨rfl,v,2 * v+1,rfl,by omega,by omega,by omega,hd⟩
  case nx =>
   rintro c t ⟨rfl,u,v,rfl,x1,x3,x4,x5⟩;dsimp only;refine last _ _ (by omega) (by omega) (λi hi=>mono i (hint - v) (by omega) (by omega) (x5 (by omega))) (λi i1 i2=>?_) (λ_ _ _=>rfl) (λ_ _=>rfl)
   cases hi:B i with
   |false=>rfl
   |true=>rw[mono (hint - u) i (by omega) i2 hi]at x4;cases x4
end
structure Mg(le:Nat->Nat->Prop)(T o R S:List Nat):Prop where
 so:o.Pairwise le
 sr:R.Pairwise le
 ss:S.Pairwise le
 cr:∀u∈o,∀v∈R,le u v
 cs:∀u∈o,∀v∈S,le u v
 pm:(o++(R++S)).Perm T
section
variable {le:Nat->Nat->Prop}{T o R S R1 R2:List Nat}
theorem Mg.swap(h:Mg le T o R S):Mg le T o S R:=⟨h.so,h.ss,h.sr,h.cs,h.cr,(List.Perm.append_left o List.perm_append_comm).trans h.pm⟩
theorem Mg.take(h:Mg le T o (R1++R2) S)(hx:∀u∈R1,∀v∈S,le u v):Mg le T (o++R1) R2 S:=by
 have p:=bh.mp h.sr;refine⟨bh.mpr ⟨h.so,p.1,λu hu v hv=>h.cr u hu v (tf _ hv)⟩,p.2.1,h.ss,λu hu v hv=>?_,λu hu v hv=>?_,?_⟩
 ·rcases ac.mp hu with hu|hu
  ·exact h.cr u hu v (uc _ hv)
  ·exact p.2.2 u hu v hv
 ·rcases ac.mp hu with hu|hu
  ·exact h.cs u hu v hv
  ·exact hx u hu v hv
 ·have e:o++R1++(R2++S)=o++(R1++R2++S):=by simp
  rw[e];exact h.pm
theorem Mg.fin(h:Mg le T o R S)(hx:∀u∈R,∀v∈S,le u v):(o++R++S).Pairwise le/\(o++R++S).Perm T:=by
 refine⟨bh.mpr ⟨bh.mpr ⟨h.so,h.sr,h.cr⟩,h.ss,λu hu v hv=>?_⟩,by rw[ji];exact h.pm⟩;rcases ac.mp hu with hu|hu
 ·exact h.cs u hu v hv
 ·exact hx u hu v hv
end
noncomputable def zev:Array Keyed->Array Keyed->StateT SortSt Sem (Array Keyed):=sortPriv% PySem.Builtin.mergeLo
noncomputable abbrev zkf(m:Nat):StateT SortSt Sem Unit:=modify λs=>SortSt.mk' (kindOf s) (arrOf s) (pendingOf s) m (failedOf s)
noncomputable abbrev zt5(a b o:Array Keyed)(i j:Nat):Array Keyed:=o++a.extract i a.size++b.extract j b.size
noncomputable abbrev z2t(a b o:Array Keyed)(i j:Nat):Array Keyed:=o++b.extract j b.size++a.extract i a.size
abbrev S5:Type:=Option (Array Keyed)×Array Keyed×Nat×Nat×Nat×Nat
abbrev S6:Type:=Option (Array Keyed)×Array Keyed×Nat×Nat×Nat×Nat×Nat
noncomputable def loS(a b:Array Keyed)(mg:Nat)(o:Array Keyed)(i j ca cb:Nat):StateT SortSt Sem (ForInStep S5):=do
 let u ← elem' b j
 let v ← elem' a i
 match ← lt' u v with
 |some r =>
  if r=true then do
   let u ← elem' b j
   if (j+1 == b.size)=true then pure (.done (some (zt5 a b (o.push u) i (j+1)),o.push u,i,j+1,0,cb+1))
   else if cb+1 ≥ mg then pure (.done (none,o.push u,i,j+1,0,cb+1)) else pure (.yield (none,o.push u,i,j+1,0,cb+1))
  else do
   let u ← elem' a i
   if (i+1+1 == a.size)=true then pure (.done (some (z2t a b (o.push u) (i+1) j),o.push u,i+1,j,ca+1,0))
   else if ca+1 ≥ mg then pure (.done (none,o.push u,i+1,j,ca+1,0)) else pure (.yield (none,o.push u,i+1,j,ca+1,0))
 |_=>pure (.done (some (zt5 a b o i j),o,i,j,ca,cb))
noncomputable def loC(a b:Array Keyed)(mg ca cb:Nat)(o:Array Keyed)(i j:Nat):StateT SortSt Sem (ForInStep S6):=do
 let u ← elem' a i
 if (i+1+1 == a.size)=true then pure (.done (some (z2t a b (o.push u) (i+1) j),o.push u,i+1,j,mg,ca,cb))
 else if (decide (ca<7) && decide (cb<7))=true then pure (.done (none,o.push u,i+1,j,mg,ca,cb)) else pure (.yield (none,o.push u,i+1,j,mg,ca,cb))
noncomputable def loB(a b:Array Keyed)(mg ca cb:Nat)(o:Array Keyed)(i j:Nat):StateT SortSt Sem (ForInStep S6):=do
 let u ← elem' b j
 if (j+1 == b.size)=true then pure (.done (some (zt5 a b (o.push u) i (j+1)),o.push u,i,j+1,mg,ca,cb))
 else do
  let v ← elem' a i
  match ← zce true v b (j+1) (b.size - (j+1)) 0 with
  |some k =>
   if k > 0 then
    if (j+1+k == b.size)=true then pure (.done (some (zt5 a b (o.push u++b.extract (j+1) (j+1+k)) i (j+1+k)),o.push u++b.extract (j+1) (j+1+k),i,j+1+k,mg,ca,k))
    else loC a b mg ca k (o.push u++b.extract (j+1) (j+1+k)) i (j+1+k)
   else loC a b mg ca k (o.push u) i (j+1)
  |_=>pure (.done (some (zt5 a b (o.push u) i (j+1)),o.push u,i,j+1,mg,ca,cb))
noncomputable def loA(a b:Array Keyed)(mg ca cb:Nat)(o:Array Keyed)(i j:Nat):StateT SortSt Sem (ForInStep S6):=do
 zkf mg
 let u ← elem' b j
 match ← zce false u a i (a.size - i) 0 with
 |some k =>
  if k > 0 then
   if (i+k+1 == a.size)=true then pure (.done (some (z2t a b (o++a.extract i (i+k)) (i+k) j),o++a.extract i (i+k),i+k,j,mg,k,cb))
   else if (i+k == a.size)=true then pure (.done (some (zt5 a b (o++a.extract i (i+k)) (i+k) j),o++a.extract i (i+k),i+k,j,mg,k,cb))
   else loB a b mg k cb (o++a.extract i (i+k)) (i+k) j
  else loB a b mg k cb o i j
 |_=>pure (.done (some (zt5 a b o i j),o,i,j,mg,ca,cb))
theorem zkg(a b:Array Keyed):zev a b=(do
 liftM (rule "list.sort.merge-lo")
 let all:=a.size+b.size
 let fin (o:Array Keyed) (i j:Nat):=o++a.extract i a.size++b.extract j b.size
 let fia (o:Array Keyed) (i j:Nat):=o++b.extract j b.size++a.extract i a.size
 let mut o:Array Keyed:=#[<-elem' b 0]
 let mut i:=0
 let mut j:=1
 if j == b.size then return fin o i j
 if i+1 == a.size then return fia o i j
 let mut mg:=gallopOf (← get)
 for _ in [0:all] do
  let mut ca:=0
  let mut cb:=0
  for _ in [0:all] do
   let some r ← lt' (← elem' b j) (← elem' a i)|return fin o i j
   if r then
    o:=o.push (← elem' b j);j:=j+1;cb:=cb+1;ca:=0
    if j == b.size then return fin o i j
    if cb ≥ mg then break
   else
    o:=o.push (← elem' a i);i:=i+1;ca:=ca+1;cb:=0
    if i+1 == a.size then return fia o i j
    if ca ≥ mg then break
  liftM (rule "list.sort.gallop")
  mg:=mg+1
  for _ in [0:all] do
   if mg > 1 then mg:=mg - 1
   zkf mg
   let some k ← zce false (← elem' b j) a i (a.size - i) 0|return fin o i j
   ca:=k
   if k > 0 then
    o:=o++a.extract i (i+k);i:=i+k
    if i+1 == a.size then return fia o i j
    if i == a.size then return fin o i j
   o:=o.push (← elem' b j);j:=j+1
   if j == b.size then return fin o i j
   let some k ← zce true (← elem' a i) b j (b.size - j) 0|return fin o i j
   cb:=k
   if k > 0 then
    o:=o++b.extract j (j+k);j:=j+k
    if j == b.size then return fin o i j
   o:=o.push (← elem' a i);i:=i+1
   if i+1 == a.size then return fia o i j
   if ca<7 && cb<7 then break
  mg:=mg+1
  zkf mg
 unsupported "internal:list.sort.merge-bound"):=rfl
theorem zl9(a b:Array Keyed):zev a b=(do
 liftM (rule "list.sort.merge-lo")
 let u ← elem' b 0
 if (1 == b.size)=true then pure (zt5 a b #[u] 0 1)
 else if (0+1 == a.size)=true then pure (z2t a b #[u] 0 1)
 else do
  let st ← get
  let c ← forIn [0:a.size+b.size] ((none,#[u],0,1,gallopOf st):Option (Array Keyed)×Array Keyed×Nat×Nat×Nat) λ_ c=>do
   let d ← forIn [0:a.size+b.size] ((none,c.2.1,c.2.2.1,c.2.2.2.1,0,0):S5) λ_ d=>loS a b c.2.2.2.2 d.2.1 d.2.2.1 d.2.2.2.1 d.2.2.2.2.1 d.2.2.2.2.2
   match d.1 with
   |some r=>pure (.done (some r,d.2.1,d.2.2.1,d.2.2.2.1,c.2.2.2.2))
   |none=>do
    liftM (rule "list.sort.gallop")
    let e ← forIn [0:a.size+b.size] ((none,d.2.1,d.2.2.1,d.2.2.2.1,c.2.2.2.2+1,d.2.2.2.2.1,d.2.2.2.2.2):S6) λ_ e =>
     if e.2.2.2.2.1 > 1 then loA a b (e.2.2.2.2.1 - 1) e.2.2.2.2.2.1 e.2.2.2.2.2.2 e.2.1 e.2.2.1 e.2.2.2.1 else loA a b e.2.2.2.2.1 e.2.2.2.2.2.1 e.2.2.2.2.2.2 e.2.1 e.2.2.1 e.2.2.2.1
    match e.1 with
    |some r=>pure (.done (some r,e.2.1,e.2.2.1,e.2.2.2.1,e.2.2.2.2.1))
    |none=>do
     zkf (e.2.2.2.2.1+1)
     pure (.yield (none,e.2.1,e.2.2.1,e.2.2.2.1,e.2.2.2.2.1+1))
  match c.1 with
  |some r=>pure r
  |none=>liftM (unsupported "internal:list.sort.merge-bound" : Sem (Array Keyed))):=by
 rw[zkg];refine zc (bind _) (funext λ_=>zc (bind (elem' b 0)) (funext λu=>?_));refine qo rfl (λ_=>rfl) λ_=>qo rfl (λ_=>rfl) λ_=>?_
 refine zc (bind _) (funext λst=>?_);refine congr (zc bind ?_) (funext λc=>?_)
 ·refine zc (forIn _ _) (funext λ_=>funext λc=>?_)
  refine congr (zc bind ?_) (funext λd=>?_)
  ·refine zc (forIn _ _) (funext λ_=>funext λd=>?_)
   rfl
  ·obtain⟨d1,d2⟩:=d
   cases d1 with
   |some r=>rfl
   |none =>
    refine zc (bind _) (funext λ_=>?_);refine congr (zc bind ?_) (funext λe=>?_)
    ·refine zc (forIn _ _) (funext λ_=>funext λe=>?_)
     refine qo rfl (λ_=>rfl) λ_=>rfl
    ·obtain⟨e1,e2⟩:=e
     cases e1 <;> rfl
 ·obtain⟨c1,c2⟩:=c
  cases c1 <;> rfl
theorem zcw(item:Nat->Keyed)(x:Array Nat)(i k:Nat):(x.map item).extract i k=(x.extract i k).map item:=by
 apply wj;simp
theorem znw(x:Array Nat)(i k:Nat):(x.extract i (i+k)).toList=(x.toList.drop i).take k:=by
 simp[zh]
theorem zd4(x:Array Nat)(i:Nat):(x.extract i x.size).toList=x.toList.drop i:=by
 simp only[dq,zh];exact je (by simp)
theorem zma{x:Array Nat}{i:Nat}(hi:i<x.size):x.toList.drop i=ga x i::x.toList.drop (i+1):=by
 rw[yc (by simpa using hi)]
 congr 1
 rw[ga_eq];simp[hi]
theorem za7{x:Array Nat}{i v:Nat}(h:v∈x.toList.drop i):∃k,i<=k/\k<x.size/\v=ga x k:=by
 obtain⟨k,hk⟩:=yl h;rw[List.getElem?_drop]at hk
 have hl:i+k<x.size:=by
  have:=(ya.mp hk).1
  simpa using this
 refine⟨i+k,by omega,hl,?_⟩;rw[ga_eq];rw[<-rf,hk];rfl
theorem zdj{x:Array Nat}{i k v:Nat}(h:v∈(x.toList.drop i).take k):∃m,i<=m/\m<i+k/\m<x.size/\v=ga x m:=by
 obtain⟨m,hm⟩:=yl h;rw[List.getElem?_take]at hm
 split at hm
 ·rw[List.getElem?_drop]at hm
  have hl:i+m<x.size:=by
   have:=(ya.mp hm).1
   simpa using this
  refine⟨i+m,by omega,by omega,hl,?_⟩;rw[ga_eq,<-rf,hm];rfl
 ·cases hm
theorem UpF.pw{lt:Nat->Nat->Bool}{x:Array Nat}{i:Nat}(h:UpF lt x 0 x.size):(x.toList.drop i).Pairwise (λa b=>lt b a=false):=by
 refine List.Pairwise.drop ?_;rw[qe];intro a b ha hb hab
 have e:∀k (hk:k<x.toList.length),x.toList[k]=ga x k:=λk hk=>by
  rw[ga_eq];have hk':k<x.size:=by simpa using hk
  simp[hk']
 rw[e,e];have hb':b<x.size:=by simpa using hb
 exact h a b (by omega) (by omega) (by omega)
section
variable {prog:Program}{w:World}{A:Around}{E:Value->Shared->Prop}{s:Shared}{κ:SortKind}{item:Nat->Keyed}{lt:Nat->Nat->Bool}{n:Nat}{p x y:Array Nat}{pend:Array (Nat×Nat×Nat)}{g:Nat}
abbrev leq(lt:Nat->Nat->Bool)(a b:Nat):Prop:=lt b a=false
def Rs(item:Nat->Keyed)(lt:Nat->Nat->Bool)(T:List Nat)(r:Array Keyed):Prop:=∃q:Array Nat,r=q.map item/\q.toList.Pairwise (leq lt)/\q.toList.Perm T
def Iv(item:Nat->Keyed)(lt:Nat->Nat->Bool)(x y:Array Nat)(N:Nat)(o:Array Keyed)(i j:Nat):Prop :=
 ∃q:Array Nat,o=q.map item/\N<=i+j/\i+1<x.size/\j<y.size/\Mg (leq lt) (x.toList++y.toList) q.toList (x.toList.drop i) (y.toList.drop j)
def P6(item:Nat->Keyed)(lt:Nat->Nat->Bool)(x y:Array Nat)(N:Nat):S6->Prop
 |(some r,_)=>Rs item lt (x.toList++y.toList) r
 |(none,o,i,j,_)=>Iv item lt x y N o i j
def P5(item:Nat->Keyed)(lt:Nat->Nat->Bool)(x y:Array Nat)(N:Nat):S5->Prop
 |(some r,_)=>Rs item lt (x.toList++y.toList) r
 |(none,o,i,j,_)=>Iv item lt x y N o i j
def Y6(item:Nat->Keyed)(lt:Nat->Nat->Bool)(x y:Array Nat)(N:Nat)(c:S6):Prop:=c.1=none/\Iv item lt x y N c.2.1 c.2.2.1 c.2.2.2.1
def Y5(item:Nat->Keyed)(lt:Nat->Nat->Bool)(x y:Array Nat)(N:Nat)(c:S5):Prop:=c.1=none/\Iv item lt x y N c.2.1 c.2.2.1 c.2.2.2.1
def zkh{α:Type}(P:α->Prop)(Y:α->Prop):ForInStep α->Prop
 |.done c=>P c
 |.yield c=>Y c
theorem zki{q:Array Nat}{i j:Nat}(m:Mg (leq lt) (x.toList++y.toList) q.toList (x.toList.drop i) (y.toList.drop j))(hx:∀u∈x.toList.drop i,∀v∈y.toList.drop j,leq lt u v):Rs item lt (x.toList++y.toList) (zt5 (x.map item) (y.map item) (q.map item) i j):=by
 have:=m.fin hx
 refine⟨q++x.extract i x.size++y.extract j y.size,?_,?_,?_⟩
 ·simp only[zt5,ag,zcw,yg]
 ·rw[re,re,zd4,zd4];exact this.1
 ·rw[re,re,zd4,zd4];exact this.2
theorem znx{q:Array Nat}{i j:Nat}(m:Mg (leq lt) (x.toList++y.toList) q.toList (x.toList.drop i) (y.toList.drop j))(hx:∀u∈y.toList.drop j,∀v∈x.toList.drop i,leq lt u v):Rs item lt (x.toList++y.toList) (z2t (x.map item) (y.map item) (q.map item) i j):=by
 have:=m.swap.fin hx
 refine⟨q++y.extract j y.size++x.extract i x.size,?_,?_,?_⟩
 ·simp only[z2t,ag,zcw,yg]
 ·rw[re,re,zd4,zd4];exact this.1
 ·rw[re,re,zd4,zd4];exact this.2
theorem zny{q:Array Nat}{i j:Nat}(hi:i<x.size)(m:Mg (leq lt) (x.toList++y.toList) q.toList (x.toList.drop i) (y.toList.drop j))(hx:∀v∈y.toList.drop j,leq lt (ga x i) v):Mg (leq lt) (x.toList++y.toList) (q.push (ga x i)).toList (x.toList.drop (i+1)) (y.toList.drop j):=by
 rw[zma hi]at m
 have:=Mg.take (R1:=[ga x i]) m (λu hu v hv=>by rw[zb.mp hu];exact hx v hv)
 rw[vk];exact this
theorem zio{q:Array Nat}{i j:Nat}(hj:j<y.size)(m:Mg (leq lt) (x.toList++y.toList) q.toList (x.toList.drop i) (y.toList.drop j))(hx:∀v∈x.toList.drop i,leq lt (ga y j) v):Mg (leq lt) (x.toList++y.toList) (q.push (ga y j)).toList (x.toList.drop i) (y.toList.drop (j+1)):=by
 have m:=m.swap;rw[zma hj]at m
 have:=Mg.take (R1:=[ga y j]) m (λu hu v hv=>by rw[zb.mp hu];exact hx v hv)
 rw[vk];exact this.swap
theorem zhw(x:Array Nat)(i k:Nat):x.toList.drop i=(x.toList.drop i).take k++x.toList.drop (i+k):=by
 rw[show x.toList.drop (i+k)=(x.toList.drop i).drop k by rw[List.drop_drop]];exact(xg k _).symm
theorem zvf{q:Array Nat}{i j k:Nat}(m:Mg (leq lt) (x.toList++y.toList) q.toList (x.toList.drop i) (y.toList.drop j))(hx:∀u∈(x.toList.drop i).take k,∀v∈y.toList.drop j,leq lt u v):Mg (leq lt) (x.toList++y.toList) (q++x.extract i (i+k)).toList (x.toList.drop (i+k)) (y.toList.drop j):=by
 rw[zhw x i k]at m;rw[re,znw];exact m.take hx
theorem zvg{q:Array Nat}{i j k:Nat}(m:Mg (leq lt) (x.toList++y.toList) q.toList (x.toList.drop i) (y.toList.drop j))(hx:∀u∈(y.toList.drop j).take k,∀v∈x.toList.drop i,leq lt u v):Mg (leq lt) (x.toList++y.toList) (q++y.extract j (j+k)).toList (x.toList.drop i) (y.toList.drop (j+k)):=by
 have m:=m.swap;rw[zhw y j k]at m;rw[re,znw];exact(m.take hx).swap
structure Two(item:Nat->Keyed)(lt:Nat->Nat->Bool)(n:Nat)(x y:Array Nat):Prop where
 wo:WOr lt
 bx:Bds n x
 by_:Bds n y
 ux:UpF lt x 0 x.size
 uy:UpF lt y 0 y.size
 fst:0<x.size->0<y.size->lt (ga y 0) (ga x 0)=true
 lst:∀j,j<y.size->lt (ga y j) (ga x (x.size - 1))=true
theorem Two.lastA(t:Two item lt n x y){i:Nat}(hi:i+1=x.size){j:Nat}:∀u∈y.toList.drop j,∀v∈x.toList.drop i,leq lt u v:=λu hu v hv=>by
 obtain⟨k,_,k2,rfl⟩:=za7 hu;obtain⟨m,m1,m2,rfl⟩:=za7 hv
 have:m=x.size - 1:=by omega
 subst this;exact t.wo.asy _ _ (t.lst k k2)
theorem z5i{mg ca cb N i j:Nat}{o:Array Keyed}{R:ForInStep S6->SortSt->Prop}(t:Two item lt n x y)(I:Iv item lt x y N o i j)(hc:∀v∈y.toList.drop j,leq lt (ga x i) v)
  (h:∀r,zkh (P6 item lt x y N) (Y6 item lt x y N) r->R r (SS κ item p pend g)):wpS (model prog w) A E s (loC (x.map item) (y.map item) mg ca cb o i j) R (SS κ item p pend g):=by
 obtain⟨q,rfl,hN,hi,hj,m⟩:=I;unfold loC;refine ua (zbm (t.bx i (by omega)).1 ?_);have m':=zny (by omega) m hc;rw[<-yh];simp only[ag];by_cases e:i+1+1=x.size
 ·rw[ba (by simp[e])]
  exact gb (h _ (znx m' (t.lastA e)))
 ·rw[oa (by simp[e])]
  have I':Iv item lt x y N ((q.push (ga x i)).map item) (i+1) j:=⟨_,rfl,by omega,by omega,hj,m'⟩
  split
  ·exact gb (h _ I')
  ·exact gb (h _ ⟨rfl,I'⟩)
theorem z5j{mg ca cb N i j:Nat}{o:Array Keyed}{R:ForInStep S6->SortSt->Prop}(hA:zhh prog w A s κ item lt n)(t:Two item lt n x y)(I:Iv item lt x y N o i j)(hc:∀v∈x.toList.drop i,leq lt (ga y j) v)
  (h:∀r,zkh (P6 item lt x y N) (Y6 item lt x y N) r->R r (SS κ item p pend g)):wpS (model prog w) A E s (loB (x.map item) (y.map item) mg ca cb o i j) R (SS κ item p pend g):=by
 obtain⟨q,rfl,hN,hi,hj,m⟩:=I;unfold loB;refine ua (zbm (t.by_ j hj).1 ?_);have m':=zio hj m hc;rw[<-yh];simp only[ag];by_cases e:j+1=y.size
 ·rw[ba (by simp[e])]
  refine gb (h _ (zki m' λu hu v hv=>?_));rw[show y.toList.drop (j+1)=[] from oh (by simp;omega)]at hv;cases hv
 rw[oa (by simp[e])];refine ua (zbm (t.bx i (by omega)).1 ?_);refine ua (zpg hA t.by_ (t.bx i (by omega)).2 (by omega) (by omega) (λa b hab hb hb2=>?_) λk hk k1 k2=>?_)
 ·simp only[ahd,pj]at hb2 ⊢
  cases hq:lt (ga y (j+1+a)) (ga x i) with
  |true=>rfl
  |false =>
   rw[t.wo.le hq (t.uy (j+1+a) (j+1+b) (by omega) (by omega) (by omega))]at hb2;cases hb2
 dsimp only;simp only[ahd,pj]at k1 k2
 have rest:∀v∈y.toList.drop (j+1+k),leq lt (ga x i) v:=λv hv=>by
  obtain⟨m,m1,m2,rfl⟩:=za7 hv
  have:=k2 (m - (j+1)) (by omega) (by omega)
  rw[show j+1+(m - (j+1))=m by omega]at this;exact this
 by_cases k0:k > 0
 ·rw[ba k0]
  have m3:=zvg (k:=k) m' λu hu v hv=>by
   obtain⟨a,a1,a2,a3,rfl⟩:=zdj hu;obtain⟨b,b1,b2,rfl⟩:=za7 hv
   have:=k1 (a - (j+1)) (by omega)
   rw[show j+1+(a - (j+1))=a by omega]at this;exact t.wo.le (t.wo.asy _ _ this) (t.ux i b (by omega) b1 (by omega))
  rw[zcw,<-yg];by_cases e2:j+1+k=y.size
  ·rw[ba (by simp[e2])]
   refine gb (h _ (zki m3 λu hu v hv=>?_));rw[show y.toList.drop (j+1+k)=[] from oh (by simp;omega)]at hv;cases hv
  rw[oa (by simp[e2])];exact z5i t ⟨_,rfl,by omega,hi,by omega,m3⟩ rest h
 ·rw[oa k0]
  have:k=0:=by omega
  subst this;exact z5i t ⟨_,rfl,by omega,hi,by omega,m'⟩ rest h
theorem z5k{mg ca cb N i j:Nat}{o:Array Keyed}{R:ForInStep S6->SortSt->Prop}(hA:zhh prog w A s κ item lt n)(t:Two item lt n x y)(I:Iv item lt x y N o i j)
  (h:∀r,zkh (P6 item lt x y N) (Y6 item lt x y N) r->R r (SS κ item p pend mg)):wpS (model prog w) A E s (loA (x.map item) (y.map item) mg ca cb o i j) R (SS κ item p pend g):=by
 obtain⟨q,rfl,hN,hi,hj,m⟩:=I;unfold loA;refine ua (yf ?_);show wpS _ _ _ _ _ R (SS κ item p pend mg);refine ua (zbm (t.by_ j hj).1 ?_);simp only[ag];refine ua (zpg hA t.bx (t.by_ j hj).2 (by omega) (by omega) (λa b hab hb hb2=>?_) λk hk k1 k2=>?_)
 ·simp only[ahd,bc,dh,eh]at hb2 ⊢
  exact t.wo.le (t.ux (i+a) (i+b) (by omega) (by omega) (by omega)) hb2
 dsimp only;simp only[ahd,bc,dh,eh,rm]at k1 k2
 have rest:∀v∈x.toList.drop (i+k),leq lt (ga y j) v:=λv hv=>by
  obtain⟨m,m1,m2,rfl⟩:=za7 hv
  have:=k2 (m - i) (by omega) (by omega)
  rw[show i+(m - i)=m by omega]at this;exact t.wo.asy _ _ this
 by_cases k0:k > 0
 ·rw[ba k0]
  have m3:=zvf (k:=k) m λu hu v hv=>by
   obtain⟨a,a1,a2,a3,rfl⟩:=zdj hu;obtain⟨b,b1,b2,rfl⟩:=za7 hv
   have:=k1 (a - i) (by omega)
   rw[show i+(a - i)=a by omega]at this;exact t.wo.le this (t.uy j b (by omega) b1 (by omega))
  rw[zcw,<-yg];by_cases e1:i+k+1=x.size
  ·rw[ba (by simp[e1])]
   exact gb (h _ (znx m3 (t.lastA e1)))
  rw[oa (by simp[e1])];by_cases e2:i+k=x.size
  ·rw[ba (by simp[e2])]
   refine gb (h _ (zki m3 λu hu v hv=>?_));rw[show x.toList.drop (i+k)=[] from oh (by simp;omega)]at hu;cases hu
  rw[oa (by simp[e2])];exact z5j hA t ⟨_,rfl,by omega,by omega,hj,m3⟩ rest h
 ·rw[oa k0]
  have:k=0:=by omega
  subst this;exact z5j hA t ⟨_,rfl,by omega,hi,hj,m⟩ rest h
theorem z9w{mg ca cb N i j:Nat}{o:Array Keyed}{R:ForInStep S5->SortSt->Prop}(hA:zhh prog w A s κ item lt n)(t:Two item lt n x y)(I:Iv item lt x y N o i j)
  (h:∀r,zkh (P5 item lt x y (N+1)) (Y5 item lt x y (N+1)) r->R r (SS κ item p pend g)):wpS (model prog w) A E s (loS (x.map item) (y.map item) mg o i j ca cb) R (SS κ item p pend g):=by
 obtain⟨q,rfl,hN,hi,hj,m⟩:=I;unfold loS;refine ua (zbm (t.by_ j hj).1 (ua (zbm (t.bx i (by omega)).1 (ua (z5e hA (t.by_ j hj).2 (t.bx i (by omega)).2 ?_)))));dsimp only;simp only[ag]
 cases hc:lt (ga y j) (ga x i) with
 |true =>
  rw[ba rfl];refine ua (zbm (t.by_ j hj).1 ?_);rw[<-yh]
  have m':=zio hj m λv hv=>by
   obtain⟨b,b1,b2,rfl⟩:=za7 hv;exact t.wo.le (t.wo.asy _ _ hc) (t.ux i b (by omega) b1 (by omega))
  by_cases e:j+1=y.size
  ·rw[ba (by simp[e])]
   refine gb (h _ (zki m' λu hu v hv=>?_));rw[show y.toList.drop (j+1)=[] from oh (by simp;omega)]at hv;cases hv
  rw[oa (by simp[e])];have I':Iv item lt x y (N+1) ((q.push (ga y j)).map item) i (j+1):=⟨_,rfl,by omega,hi,by omega,m'⟩
  by_cases hz:cb+1 ≥ mg
  ·rw[ba hz];exact gb (h _ I')
  ·rw[oa hz];exact gb (h _ ⟨rfl,I'⟩)
 |false =>
  rw[oa la];refine ua (zbm (t.bx i (by omega)).1 ?_);rw[<-yh]
  have m':=zny (by omega) m λv hv=>by
   obtain⟨b,b1,b2,rfl⟩:=za7 hv;exact t.wo.le hc (t.uy j b (by omega) b1 (by omega))
  by_cases e:i+1+1=x.size
  ·rw[ba (by simp[e])]
   exact gb (h _ (znx m' (t.lastA e)))
  rw[oa (by simp[e])];have I':Iv item lt x y (N+1) ((q.push (ga x i)).map item) (i+1) j:=⟨_,rfl,by omega,by omega,hj,m'⟩
  split
  ·exact gb (h _ I')
  ·exact gb (h _ ⟨rfl,I'⟩)
theorem ycn{Q:Array Keyed->SortSt->Prop}(hA:zhh prog w A s κ item lt n)(t:Two item lt n x y)(hx:0<x.size)(hy:0<y.size)
  (h:∀r g',Rs item lt (x.toList++y.toList) r->Q r (SS κ item p pend g')):wpS (model prog w) A E s (zev (x.map item) (y.map item)) Q (SS κ item p pend g):=by
 rw[zl9];refine ua (zl (vg ⟨rfl,?_⟩));refine ua (zbm (t.by_ 0 hy).1 ?_);have m0:Mg (leq lt) (x.toList++y.toList) (#[]:Array Nat).toList (x.toList.drop 0) (y.toList.drop 0):=⟨lj,t.ux.pw,t.uy.pw,λu hu=>absurd hu (by simp),λu hu=>absurd hu (by simp),by simp⟩
 have m1:=zio hy m0 λv hv=>by
  obtain⟨b,b1,b2,rfl⟩:=za7 hv;exact t.wo.le (t.wo.asy _ _ (t.fst hx hy)) (t.ux 0 b (by omega) b1 (by omega))
 have e0:(#[item (ga y 0)]:Array Keyed)=((#[]:Array Nat).push (ga y 0)).map item:=by simp
 rw[e0];generalize (#[]:Array Nat).push (ga y 0)=q at m1;simp only[ag];by_cases e:1=y.size
 ·rw[ba (by simp[e])]
  refine gb (h _ _ (zki m1 λu hu v hv=>?_));rw[show y.toList.drop (0+1)=[] from oh (by simp;omega)]at hv;cases hv
 rw[oa (by simp[e])];by_cases e2:0+1=x.size
 ·rw[ba (by simp;omega)]
  exact gb (h _ _ (znx m1 (t.lastA e2)))
 rw[oa (by simp;omega)];refine ua (jh ?_);refine ua (jg (oe (I:=λz c st=>(∃g',st=SS κ item p pend g')/\c.1=none/\Iv item lt x y z c.2.1 c.2.2.1 c.2.2.2.1) (Q:=λc st=>(∃g',st=SS κ item p pend g')/\∃r,c.1=some r/\Rs item lt (x.toList++y.toList) r) ?go ?fi ⟨⟨_,rfl⟩,rfl,q,rfl,vd _,(show 0+1<x.size by omega),(show 1<y.size by omega),m1⟩) ?nx)
 case fi =>
  rintro c st ⟨_,_,_,_,hN,hi,hj,_⟩;omega
 case nx =>
  rintro⟨c1,c2⟩ st ⟨⟨g',rfl⟩,r,rfl,hr⟩;exact gb (h r g' hr)
 case go =>
  rintro z ⟨c1,o,i,j,mg⟩ st hz1 hz2 ⟨⟨g',rfl⟩,rfl,I⟩;dsimp only at I ⊢;refine ua (jg (oe (I:=λk d st=>st=SS κ item p pend g'/\d.1=none/\Iv item lt x y (z+k) d.2.1 d.2.2.1 d.2.2.2.1) (Q:=λd st=>st=SS κ item p pend g'/\P5 item lt x y (z+1) d) ?go2 ?fi2 ⟨rfl,rfl,I⟩) ?nx2)
  case fi2 =>
   rintro⟨d1,o,i,j,d5⟩ st ⟨rfl,rfl,q,e1,e2,e3⟩;exact⟨rfl,q,e1,by omega,e3⟩
  case go2 =>
   rintro k ⟨d1,o,i,j,d5⟩ st _ hk ⟨rfl,rfl,I⟩;dsimp only at I ⊢;refine z9w hA t I λr hr=>?_
   cases r with
   |done d =>
    obtain⟨d1,o,i,j,d5⟩:=d
    cases d1 with
    |some r=>exact⟨rfl,hr⟩
    |none=>obtain⟨q,e1,e2,e3⟩:=hr;exact⟨rfl,q,e1,by omega,e3⟩
   |yield d=>exact⟨rfl,hr.1,hr.2⟩
  case nx2 =>
   rintro⟨d1,o,i,j,d5⟩ st ⟨rfl,hd⟩
   cases d1 with
   |some r=>exact gb ⟨⟨_,rfl⟩,r,rfl,hd⟩
   |none =>
    refine ua (zl (vg ⟨rfl,?_⟩));dsimp only;refine ua (jg (oe (I:=λk d st=>(∃g',st=SS κ item p pend g')/\Y6 item lt x y (z+1) d) (Q:=λd st=>(∃g',st=SS κ item p pend g')/\P6 item lt x y (z+1) d) ?go3 ?fi3 ⟨⟨_,rfl⟩,rfl,hd⟩) ?nx3)
    case fi3 =>
     rintro⟨d1,o,i,j,d5⟩ st ⟨e,rfl,I⟩;exact⟨e,I⟩
    case go3 =>
     rintro k ⟨d1,o,i,j,mg,ca,cb⟩ st _ hk ⟨⟨g',rfl⟩,rfl,I⟩;dsimp only at I ⊢;split
     ·refine z5k hA t I λr hr=>?_
      cases r with
      |done c=>exact⟨⟨_,rfl⟩,hr⟩
      |yield c=>exact⟨⟨_,rfl⟩,hr⟩
     ·refine z5k hA t I λr hr=>?_
      cases r with
      |done c=>exact⟨⟨_,rfl⟩,hr⟩
      |yield c=>exact⟨⟨_,rfl⟩,hr⟩
    case nx3 =>
     rintro⟨d1,o,i,j,mg,d5⟩ st ⟨⟨g',rfl⟩,hd⟩
     cases d1 with
     |some r=>exact gb ⟨⟨_,rfl⟩,r,rfl,hd⟩
     |none=>exact ua (yf (gb ⟨⟨_,rfl⟩,rfl,hd⟩))
end
noncomputable def zew:Array Keyed->Array Keyed->StateT SortSt Sem (Array Keyed):=sortPriv% PySem.Builtin.mergeHi
noncomputable abbrev zt6(a b o:Array Keyed)(i j:Nat):Array Keyed:=a.extract 0 i++b.extract 0 j++o.reverse
noncomputable abbrev z2u(a b o:Array Keyed)(i j:Nat):Array Keyed:=b.extract 0 j++a.extract 0 i++o.reverse
noncomputable def hiS(a b:Array Keyed)(mg:Nat)(i j:Nat)(o:Array Keyed)(ca cb:Nat):StateT SortSt Sem (ForInStep (Option (Array Keyed)×Nat×Nat×Array Keyed×Nat×Nat)):=do
 let u ← elem' b (j - 1)
 let v ← elem' a (i - 1)
 match ← lt' u v with
 |some r =>
  if r=true then do
   let u ← elem' a (i - 1)
   if (i - 1 == 0)=true then pure (.done (some (zt6 a b (o.push u) (i - 1) j),i - 1,j,o.push u,ca+1,0))
   else if ca+1 ≥ mg then pure (.done (none,i - 1,j,o.push u,ca+1,0)) else pure (.yield (none,i - 1,j,o.push u,ca+1,0))
  else do
   let u ← elem' b (j - 1)
   if (j - 1 == 1)=true then pure (.done (some (z2u a b (o.push u) i (j - 1)),i,j - 1,o.push u,0,cb+1))
   else if cb+1 ≥ mg then pure (.done (none,i,j - 1,o.push u,0,cb+1)) else pure (.yield (none,i,j - 1,o.push u,0,cb+1))
 |_=>pure (.done (some (zt6 a b o i j),i,j,o,ca,cb))
abbrev H6:Type:=Option (Array Keyed)×Nat×Nat×Array Keyed×Nat×Nat×Nat
noncomputable def hiC(a b:Array Keyed)(mg ca cb:Nat)(o:Array Keyed)(i j:Nat):StateT SortSt Sem (ForInStep H6):=do
 let u ← elem' a (i - 1)
 if (i - 1 == 0)=true then pure (.done (some (zt6 a b (o.push u) (i - 1) j),i - 1,j,o.push u,mg,ca,cb))
 else if (decide (ca<7) && decide (cb<7))=true then pure (.done (none,i - 1,j,o.push u,mg,ca,cb)) else pure (.yield (none,i - 1,j,o.push u,mg,ca,cb))
noncomputable def hiB(a b:Array Keyed)(mg ca cb:Nat)(o:Array Keyed)(i j:Nat):StateT SortSt Sem (ForInStep H6):=do
 let u ← elem' b (j - 1)
 if (j - 1 == 1)=true then pure (.done (some (z2u a b (o.push u) i (j - 1)),i,j - 1,o.push u,mg,ca,cb))
 else do
  let v ← elem' a (i - 1)
  match ← zce true v b 0 (j - 1) (j - 1 - 1) with
  |some k =>
   if j - 1 - k > 0 then
    if (k == 1)=true then pure (.done (some (z2u a b (o.push u++(b.extract k (j - 1)).reverse) i k),i,k,o.push u++(b.extract k (j - 1)).reverse,mg,ca,j - 1 - k))
    else if (k == 0)=true then pure (.done (some (zt6 a b (o.push u++(b.extract k (j - 1)).reverse) i k),i,k,o.push u++(b.extract k (j - 1)).reverse,mg,ca,j - 1 - k))
    else hiC a b mg ca (j - 1 - k) (o.push u++(b.extract k (j - 1)).reverse) i k
   else hiC a b mg ca (j - 1 - k) (o.push u) i (j - 1)
  |_=>pure (.done (some (zt6 a b (o.push u) i (j - 1)),i,j - 1,o.push u,mg,ca,cb))
noncomputable def hiA(a b:Array Keyed)(mg ca cb:Nat)(o:Array Keyed)(i j:Nat):StateT SortSt Sem (ForInStep H6):=do
 zkf mg
 let u ← elem' b (j - 1)
 match ← zce false u a 0 i (i - 1) with
 |some k =>
  if i - k > 0 then
   if (k == 0)=true then pure (.done (some (zt6 a b (o++(a.extract k i).reverse) k j),k,j,o++(a.extract k i).reverse,mg,i - k,cb))
   else hiB a b mg (i - k) cb (o++(a.extract k i).reverse) k j
  else hiB a b mg (i - k) cb o i j
 |_=>pure (.done (some (zt6 a b o i j),i,j,o,mg,ca,cb))
theorem zkj(a b:Array Keyed):zew a b=(do
 liftM (rule "list.sort.merge-hi")
 let all:=a.size+b.size
 let fin (o:Array Keyed) (i j:Nat):=a.extract 0 i++b.extract 0 j++o.reverse
 let fib (o:Array Keyed) (i j:Nat):=b.extract 0 j++a.extract 0 i++o.reverse
 let mut i:=a.size - 1
 let mut j:=b.size
 let mut o:Array Keyed:=#[<-elem' a i]
 if i == 0 then return fin o i j
 if j == 1 then return fib o i j
 let mut mg:=gallopOf (← get)
 for _ in [0:all] do
  let mut ca:=0
  let mut cb:=0
  for _ in [0:all] do
   let some r ← lt' (← elem' b (j - 1)) (← elem' a (i - 1))|return fin o i j
   if r then
    i:=i - 1;o:=o.push (← elem' a i);ca:=ca+1;cb:=0
    if i == 0 then return fin o i j
    if ca ≥ mg then break
   else
    j:=j - 1;o:=o.push (← elem' b j);cb:=cb+1;ca:=0
    if j == 1 then return fib o i j
    if cb ≥ mg then break
  liftM (rule "list.sort.gallop")
  mg:=mg+1
  for _ in [0:all] do
   if mg > 1 then mg:=mg - 1
   zkf mg
   let some t ← zce false (← elem' b (j - 1)) a 0 i (i - 1)|return fin o i j
   let k:=i - t
   ca:=k
   if k > 0 then
    o:=o++(a.extract t i).reverse;i:=t
    if i == 0 then return fin o i j
   j:=j - 1;o:=o.push (← elem' b j)
   if j == 1 then return fib o i j
   let some t ← zce true (← elem' a (i - 1)) b 0 j (j - 1)|return fin o i j
   let k:=j - t
   cb:=k
   if k > 0 then
    o:=o++(b.extract t j).reverse;j:=t
    if j == 1 then return fib o i j
    if j == 0 then return fin o i j
   i:=i - 1;o:=o.push (← elem' a i)
   if i == 0 then return fin o i j
   if ca<7 && cb<7 then break
  mg:=mg+1
  zkf mg
 unsupported "internal:list.sort.merge-bound"):=rfl
theorem zmb(a b:Array Keyed):zew a b=(do
 liftM (rule "list.sort.merge-hi")
 let u ← elem' a (a.size - 1)
 if (a.size - 1 == 0)=true then pure (zt6 a b #[u] (a.size - 1) b.size)
 else if (b.size == 1)=true then pure (z2u a b #[u] (a.size - 1) b.size)
 else do
  let st ← get
  let c ← forIn [0:a.size+b.size] ((none,a.size - 1,b.size,#[u],gallopOf st):Option (Array Keyed)×Nat×Nat×Array Keyed×Nat) λ_ c=>do
   let d ← forIn [0:a.size+b.size] ((none,c.2.1,c.2.2.1,c.2.2.2.1,0,0):Option (Array Keyed)×Nat×Nat×Array Keyed×Nat×Nat) λ_ d=>hiS a b c.2.2.2.2 d.2.1 d.2.2.1 d.2.2.2.1 d.2.2.2.2.1 d.2.2.2.2.2
   match d.1 with
   |some r=>pure (.done (some r,d.2.1,d.2.2.1,d.2.2.2.1,c.2.2.2.2))
   |none=>do
    liftM (rule "list.sort.gallop")
    let e ← forIn [0:a.size+b.size] ((none,d.2.1,d.2.2.1,d.2.2.2.1,c.2.2.2.2+1,d.2.2.2.2.1,d.2.2.2.2.2):H6) λ_ e =>
     if e.2.2.2.2.1 > 1 then hiA a b (e.2.2.2.2.1 - 1) e.2.2.2.2.2.1 e.2.2.2.2.2.2 e.2.2.2.1 e.2.1 e.2.2.1 else hiA a b e.2.2.2.2.1 e.2.2.2.2.2.1 e.2.2.2.2.2.2 e.2.2.2.1 e.2.1 e.2.2.1
    match e.1 with
    |some r=>pure (.done (some r,e.2.1,e.2.2.1,e.2.2.2.1,e.2.2.2.2.1))
    |none=>do
     zkf (e.2.2.2.2.1+1)
     pure (.yield (none,e.2.1,e.2.2.1,e.2.2.2.1,e.2.2.2.2.1+1))
  match c.1 with
  |some r=>pure r
  |none=>liftM (unsupported "internal:list.sort.merge-bound" : Sem (Array Keyed))):=by
 rw[zkj];refine zc (bind _) (funext λ_=>zc (bind (elem' a (a.size - 1))) (funext λu=>?_));refine qo rfl (λ_=>rfl) λ_=>qo rfl (λ_=>rfl) λ_=>?_
 refine zc (bind _) (funext λst=>?_);refine congr (zc bind ?_) (funext λc=>?_)
 ·refine zc (forIn _ _) (funext λ_=>funext λc=>?_)
  refine congr (zc bind ?_) (funext λd=>?_)
  ·refine zc (forIn _ _) (funext λ_=>funext λd=>?_)
   rfl
  ·obtain⟨d1,d2⟩:=d
   cases d1 with
   |some r=>rfl
   |none =>
    refine zc (bind _) (funext λ_=>?_);refine congr (zc bind ?_) (funext λe=>?_)
    ·refine zc (forIn _ _) (funext λ_=>funext λe=>?_)
     refine qo rfl (λ_=>rfl) λ_=>rfl
    ·obtain⟨e1,e2⟩:=e
     cases e1 <;> rfl
 ·obtain⟨c1,c2⟩:=c
  cases c1 <;> rfl
theorem znz(x:Array Nat)(k:Nat):(x.extract 0 k).toList=x.toList.take k:=by
 simp[zh]
theorem zfa(x:Array Nat)(i k:Nat):(x.extract i k).toList=(x.toList.take k).drop i:=by
 simp only[dq,zh,lq]
theorem zbn{x:Array Nat}{k v:Nat}(h:v∈x.toList.take k):∃m,m<k/\m<x.size/\v=ga x m:=by
 have h':v∈(x.toList.drop 0).take k:=by rw[List.drop_zero];exact h
 obtain⟨m,_,m2,m3,m4⟩:=zdj h';exact⟨m,by omega,m3,m4⟩
theorem ziq{x:Array Nat}{i k v:Nat}(h:v∈(x.toList.take k).drop i):∃m,i<=m/\m<k/\m<x.size/\v=ga x m:=by
 rw[lq]at h;obtain⟨m,m1,m2,m3,m4⟩:=zdj h;exact⟨m,m1,by omega,m3,m4⟩
theorem zgt(x:Array Nat){i k:Nat}(h:k<=i):(x.toList.take i).reverse=((x.toList.take i).drop k).reverse++(x.toList.take k).reverse:=by
 rw[<-List.reverse_append]
 congr 1
 have:x.toList.take k=(x.toList.take i).take k:=by rw[mq,kh h]
 rw[this];exact(xg k _).symm
theorem zsd{x:Array Nat}{i:Nat}(h1:1<=i)(hi:i<=x.size):(x.toList.take i).reverse=[ga x (i - 1)]++(x.toList.take (i - 1)).reverse:=by
 rw[zgt x (Nat.sub_le i 1)]
 congr 1
 obtain⟨k,rfl⟩:∃k,i=k+1:=⟨i - 1,by omega⟩
 rw[show k+1 - 1=k by omega,lq,show k+1 - k=1 by omega,zma (by omega)];rfl
section
variable {prog:Program}{w:World}{A:Around}{E:Value->Shared->Prop}{s:Shared}{κ:SortKind}{item:Nat->Keyed}{lt:Nat->Nat->Bool}{n:Nat}{p x y:Array Nat}{pend:Array (Nat×Nat×Nat)}{g:Nat}
abbrev geq(lt:Nat->Nat->Bool)(a b:Nat):Prop:=lt a b=false
abbrev MH(lt:Nat->Nat->Bool)(x y q:Array Nat)(i j:Nat):Prop:=Mg (geq lt) (x.toList++y.toList) q.toList (x.toList.take i).reverse (y.toList.take j).reverse
def Iw(item:Nat->Keyed)(lt:Nat->Nat->Bool)(x y:Array Nat)(N:Nat)(o:Array Keyed)(i j:Nat):Prop :=
 ∃q:Array Nat,o=q.map item/\N+i+j<=x.size+y.size/\1<=i/\i<=x.size/\2<=j/\j<=y.size/\MH lt x y q i j
theorem zx7{r:Array Keyed}{l T:List Nat}(h:l.Pairwise (geq lt)/\l.Perm T)(e:r=l.reverse.toArray.map item):Rs item lt T r :=
 ⟨l.reverse.toArray,e,by rw[yk];exact h.1,(wm l).trans h.2⟩
theorem zkk{q:Array Nat}{i j:Nat}(m:MH lt x y q i j)(hx:∀u∈y.toList.take j,∀v∈x.toList.take i,geq lt u v):Rs item lt (x.toList++y.toList) (zt6 (x.map item) (y.map item) (q.map item) i j):=by
 refine zx7 (m.swap.fin λu hu v hv=>hx u (qf.mp hu) v (qf.mp hv)) ?_;simp only[zt6,zcw,<-wk,<-yg]
 congr 1
 apply wj;simp[znz]
theorem zn0{q:Array Nat}{i j:Nat}(m:MH lt x y q i j)(hx:∀u∈x.toList.take i,∀v∈y.toList.take j,geq lt u v):Rs item lt (x.toList++y.toList) (z2u (x.map item) (y.map item) (q.map item) i j):=by
 refine zx7 (m.fin λu hu v hv=>hx u (qf.mp hu) v (qf.mp hv)) ?_;simp only[z2u,zcw,<-wk,<-yg]
 congr 1
 apply wj;simp[znz]
theorem zir{q:Array Nat}{i j:Nat}(h1:1<=i)(hi:i<=x.size)(m:MH lt x y q i j)(hx:∀v∈y.toList.take j,geq lt (ga x (i - 1)) v):MH lt x y (q.push (ga x (i - 1))) (i - 1) j:=by
 unfold MH at m ⊢;rw[zsd h1 hi]at m;rw[vk];exact m.take λu hu v hv=>by rw[zb.mp hu];exact hx v (qf.mp hv)
theorem zn1{q:Array Nat}{i j:Nat}(h1:1<=j)(hj:j<=y.size)(m:MH lt x y q i j)(hx:∀v∈x.toList.take i,geq lt (ga y (j - 1)) v):MH lt x y (q.push (ga y (j - 1))) i (j - 1):=by
 unfold MH at m ⊢;rw[zsd h1 hj]at m;rw[vk];exact(m.swap.take λu hu v hv=>by rw[zb.mp hu];exact hx v (qf.mp hv)).swap
theorem zvh{q:Array Nat}{i j k:Nat}(hk:k<=i)(m:MH lt x y q i j)(hx:∀u∈(x.toList.take i).drop k,∀v∈y.toList.take j,geq lt u v):MH lt x y (q++(x.extract k i).reverse) k j:=by
 unfold MH at m ⊢;rw[zgt x hk]at m;rw[re,gq,zfa];exact m.take λu hu v hv=>hx u (qf.mp hu) v (qf.mp hv)
theorem zvi{q:Array Nat}{i j k:Nat}(hk:k<=j)(m:MH lt x y q i j)(hx:∀u∈(y.toList.take j).drop k,∀v∈x.toList.take i,geq lt u v):MH lt x y (q++(y.extract k j).reverse) i k:=by
 unfold MH at m ⊢;rw[zgt y hk]at m;rw[re,gq,zfa];exact(m.swap.take λu hu v hv=>hx u (qf.mp hu) v (qf.mp hv)).swap
theorem Two.firstB(t:Two item lt n x y){i:Nat}:∀u∈x.toList.take i,∀v∈y.toList.take 1,geq lt u v:=λu hu v hv=>by
 obtain⟨k,k1,k2,rfl⟩:=zbn hu;obtain⟨m,m1,m2,rfl⟩:=zbn hv
 have:m=0:=by omega
 subst this;exact t.wo.le (t.wo.asy _ _ (t.fst (by omega) m2)) (t.ux 0 k (by omega) (by omega) (by omega))
def PH(item:Nat->Keyed)(lt:Nat->Nat->Bool)(x y:Array Nat)(N:Nat){β:Type}:Option (Array Keyed)×Nat×Nat×Array Keyed×β->Prop
 |(some r,_)=>Rs item lt (x.toList++y.toList) r
 |(none,i,j,o,_)=>Iw item lt x y N o i j
def YH(item:Nat->Keyed)(lt:Nat->Nat->Bool)(x y:Array Nat)(N:Nat){β:Type}(c:Option (Array Keyed)×Nat×Nat×Array Keyed×β):Prop:=c.1=none/\Iw item lt x y N c.2.2.2.1 c.2.1 c.2.2.1
theorem zgu{l:List Nat}{P:Nat->Prop}(h:l=[]):∀v∈l,P v:=λv hv=>by rw[h]at hv;cases hv
theorem z5l{mg ca cb N i j:Nat}{o:Array Keyed}{R:ForInStep H6->SortSt->Prop}(t:Two item lt n x y)(I:Iw item lt x y N o i j)(hc:∀v∈y.toList.take j,geq lt (ga x (i - 1)) v)
  (h:∀r,zkh (PH item lt x y N) (YH item lt x y N) r->R r (SS κ item p pend g)):wpS (model prog w) A E s (hiC (x.map item) (y.map item) mg ca cb o i j) R (SS κ item p pend g):=by
 obtain⟨q,rfl,hN,i1,i2,j1,j2,m⟩:=I;unfold hiC;refine ua (zbm (t.bx (i - 1) (by omega)).1 ?_);have m':=zir i1 i2 m hc;rw[<-yh];by_cases e:i - 1=0
 ·rw[ba (by simp[e])]
  exact gb (h _ (zkk m' λu hu=>zgu (by rw[e];simp)))
 ·rw[oa (by simp[e])]
  have I':Iw item lt x y N ((q.push (ga x (i - 1))).map item) (i - 1) j:=⟨_,rfl,by omega,by omega,by omega,j1,j2,m'⟩
  by_cases hz:(decide (ca<7) && decide (cb<7))=true
  ·rw[ba hz];exact gb (h _ I')
  ·rw[oa hz];exact gb (h _ ⟨rfl,I'⟩)
theorem z5m{mg ca cb N i j:Nat}{o:Array Keyed}{R:ForInStep H6->SortSt->Prop}(hA:zhh prog w A s κ item lt n)(t:Two item lt n x y)(I:Iw item lt x y N o i j)(hc:∀v∈x.toList.take i,geq lt (ga y (j - 1)) v)
  (h:∀r,zkh (PH item lt x y N) (YH item lt x y N) r->R r (SS κ item p pend g)):wpS (model prog w) A E s (hiB (x.map item) (y.map item) mg ca cb o i j) R (SS κ item p pend g):=by
 obtain⟨q,rfl,hN,i1,i2,j1,j2,m⟩:=I;unfold hiB;refine ua (zbm (t.by_ (j - 1) (by omega)).1 ?_);have m':=zn1 (by omega) j2 m hc;rw[<-yh];by_cases e:j - 1=1
 ·rw[ba (by simp[e])]
  refine gb (h _ (zn0 m' ?_));rw[e];exact t.firstB
 rw[oa (by simp[e])];refine ua (zbm (t.bx (i - 1) (by omega)).1 ?_);refine ua (zpg hA t.by_ (t.bx (i - 1) (by omega)).2 (by omega) (by omega) (λa b hab hb hb2=>?_) λk hk k1 k2=>?_)
 ·simp only[ahd,pj,de]at hb2 ⊢
  cases hq:lt (ga y a) (ga x (i - 1)) with
  |true=>rfl
  |false=>rw[t.wo.le hq (t.uy a b (by omega) (by omega) (by omega))]at hb2;cases hb2
 dsimp only;simp only[ahd,pj,de]at k1 k2
 have rest:∀v∈y.toList.take k,geq lt (ga x (i - 1)) v:=λv hv=>by
  obtain⟨m,m1,m2,rfl⟩:=zbn hv;exact t.wo.asy _ _ (k1 m m1)
 by_cases k0:j - 1 - k > 0
 ·rw[ba k0]
  have m3:=zvi hk m' λu hu v hv=>by
   obtain⟨a,a1,a2,a3,rfl⟩:=ziq hu;obtain⟨b,b1,b2,rfl⟩:=zbn hv;exact t.wo.le (t.ux b (i - 1) (by omega) (by omega) (by omega)) (k2 a a1 a2)
  rw[zcw,<-wk,<-yg];by_cases e1:k=1
  ·rw[ba (by simp[e1])]
   refine gb (h _ (zn0 m3 ?_));rw[e1];exact t.firstB
  rw[oa (by simp[e1])];by_cases e2:k=0
  ·rw[ba (by simp[e2])]
   exact gb (h _ (zkk m3 (zgu (by rw[e2];simp))))
  rw[oa (by simp[e2])];exact z5l t ⟨_,rfl,by omega,i1,i2,by omega,by omega,m3⟩ rest h
 ·rw[oa k0]
  have:k=j - 1:=by omega
  subst this;exact z5l t ⟨_,rfl,by omega,i1,i2,by omega,by omega,m'⟩ rest h
theorem z5n{mg ca cb N i j:Nat}{o:Array Keyed}{R:ForInStep H6->SortSt->Prop}(hA:zhh prog w A s κ item lt n)(t:Two item lt n x y)(I:Iw item lt x y N o i j)
  (h:∀r,zkh (PH item lt x y N) (YH item lt x y N) r->R r (SS κ item p pend mg)):wpS (model prog w) A E s (hiA (x.map item) (y.map item) mg ca cb o i j) R (SS κ item p pend g):=by
 obtain⟨q,rfl,hN,i1,i2,j1,j2,m⟩:=I;unfold hiA;refine ua (yf ?_);show wpS _ _ _ _ _ R (SS κ item p pend mg);refine ua (zbm (t.by_ (j - 1) (by omega)).1 ?_);refine ua (zpg hA t.bx (t.by_ (j - 1) (by omega)).2 (by omega) (by omega) (λa b hab hb hb2=>?_) λk hk k1 k2=>?_)
 ·simp only[ahd,bc,dh,eh,de]at hb2 ⊢
  exact t.wo.le (t.ux a b (by omega) (by omega) (by omega)) hb2
 dsimp only;simp only[ahd,bc,dh,eh,rm,de]at k1 k2
 have rest:∀v∈x.toList.take k,geq lt (ga y (j - 1)) v:=λv hv=>by
  obtain⟨m,m1,m2,rfl⟩:=zbn hv;exact k1 m m1
 by_cases k0:i - k > 0
 ·rw[ba k0]
  have m3:=zvh hk m λu hu v hv=>by
   obtain⟨a,a1,a2,a3,rfl⟩:=ziq hu;obtain⟨b,b1,b2,rfl⟩:=zbn hv;exact t.wo.le (t.uy b (j - 1) (by omega) (by omega) (by omega)) (t.wo.asy _ _ (k2 a a1 a2))
  rw[zcw,<-wk,<-yg];by_cases e2:k=0
  ·rw[ba (by simp[e2])]
   exact gb (h _ (zkk m3 λu hu=>zgu (by rw[e2];simp)))
  rw[oa (by simp[e2])];exact z5m hA t ⟨_,rfl,by omega,by omega,by omega,j1,j2,m3⟩ rest h
 ·rw[oa k0]
  have:k=i:=by omega
  subst this;exact z5m hA t ⟨_,rfl,by omega,i1,i2,j1,j2,m⟩ rest h
theorem z9x{mg ca cb N i j:Nat}{o:Array Keyed}{R:ForInStep (Option (Array Keyed)×Nat×Nat×Array Keyed×Nat×Nat)->SortSt->Prop}(hA:zhh prog w A s κ item lt n)(t:Two item lt n x y)(I:Iw item lt x y N o i j)
  (h:∀r,zkh (PH item lt x y (N+1)) (YH item lt x y (N+1)) r->R r (SS κ item p pend g)):wpS (model prog w) A E s (hiS (x.map item) (y.map item) mg i j o ca cb) R (SS κ item p pend g):=by
 obtain⟨q,rfl,hN,i1,i2,j1,j2,m⟩:=I;unfold hiS;refine ua (zbm (t.by_ (j - 1) (by omega)).1 (ua (zbm (t.bx (i - 1) (by omega)).1 (ua (z5e hA (t.by_ (j - 1) (by omega)).2 (t.bx (i - 1) (by omega)).2 ?_)))));dsimp only
 cases hc:lt (ga y (j - 1)) (ga x (i - 1)) with
 |true =>
  rw[ba rfl];refine ua (zbm (t.bx (i - 1) (by omega)).1 ?_);rw[<-yh]
  have m':=zir i1 i2 m λv hv=>by
   obtain⟨b,b1,b2,rfl⟩:=zbn hv;exact t.wo.le (t.uy b (j - 1) (by omega) (by omega) (by omega)) (t.wo.asy _ _ hc)
  by_cases e:i - 1=0
  ·rw[ba (by simp[e])]
   exact gb (h _ (zkk m' λu hu=>zgu (by rw[e];simp)))
  rw[oa (by simp[e])];have I':Iw item lt x y (N+1) ((q.push (ga x (i - 1))).map item) (i - 1) j:=⟨_,rfl,by omega,by omega,by omega,j1,j2,m'⟩
  by_cases hz:ca+1 ≥ mg
  ·rw[ba hz];exact gb (h _ I')
  ·rw[oa hz];exact gb (h _ ⟨rfl,I'⟩)
 |false =>
  rw[oa la];refine ua (zbm (t.by_ (j - 1) (by omega)).1 ?_);rw[<-yh]
  have m':=zn1 (by omega) j2 m λv hv=>by
   obtain⟨b,b1,b2,rfl⟩:=zbn hv;exact t.wo.le (t.ux b (i - 1) (by omega) (by omega) (by omega)) hc
  by_cases e:j - 1=1
  ·rw[ba (by simp[e])]
   refine gb (h _ (zn0 m' ?_));rw[e];exact t.firstB
  rw[oa (by simp[e])];have I':Iw item lt x y (N+1) ((q.push (ga y (j - 1))).map item) i (j - 1):=⟨_,rfl,by omega,i1,i2,by omega,by omega,m'⟩
  by_cases hz:cb+1 ≥ mg
  ·rw[ba hz];exact gb (h _ I')
  ·rw[oa hz];exact gb (h _ ⟨rfl,I'⟩)
theorem yco{Q:Array Keyed->SortSt->Prop}(hA:zhh prog w A s κ item lt n)(t:Two item lt n x y)(hx:0<x.size)(hy:0<y.size)
  (h:∀r g',Rs item lt (x.toList++y.toList) r->Q r (SS κ item p pend g')):wpS (model prog w) A E s (zew (x.map item) (y.map item)) Q (SS κ item p pend g):=by
 rw[zmb];refine ua (zl (vg ⟨rfl,?_⟩));simp only[ag];refine ua (zbm (t.bx (x.size - 1) (by omega)).1 ?_)
 have m0:MH lt x y #[] x.size y.size:=by
  refine⟨lj,?_,?_,λu hu=>absurd hu (by simp),λu hu=>absurd hu (by simp),?_⟩
  ·rw[yk];exact(t.ux.pw (i:=0)).take
  ·rw[yk];exact(t.uy.pw (i:=0)).take
  ·rw[je (by simp),je (by simp)]
   exact(wm x.toList).append (wm y.toList)
 have m1:=zir (by omega) (wa _) m0 λv hv=>by
  obtain⟨b,b1,b2,rfl⟩:=zbn hv;exact t.wo.asy _ _ (t.lst b b2)
 have e0:(#[item (ga x (x.size - 1))]:Array Keyed)=((#[]:Array Nat).push (ga x (x.size - 1))).map item:=by simp
 rw[e0];generalize (#[]:Array Nat).push (ga x (x.size - 1))=q at m1;by_cases e:x.size - 1=0
 ·rw[ba (by simp[e])]
  exact gb (h _ _ (zkk m1 λu hu=>zgu (by rw[e];simp)))
 rw[oa (by simp[e])];by_cases e2:y.size=1
 ·rw[ba (by simp[e2])]
  refine gb (h _ _ (zn0 m1 ?_));rw[e2];exact t.firstB
 rw[oa (by simp[e2])];refine ua (jh ?_);refine ua (jg (oe (I:=λz c st=>(∃g',st=SS κ item p pend g')/\c.1=none/\Iw item lt x y z c.2.2.2.1 c.2.1 c.2.2.1) (Q:=λc st=>(∃g',st=SS κ item p pend g')/\∃r,c.1=some r/\Rs item lt (x.toList++y.toList) r) ?go ?fi ⟨⟨_,rfl⟩,rfl,q,rfl,(show 0+(x.size - 1)+y.size<=_ by omega),(show 1<=x.size - 1 by omega),(show x.size - 1<=_ by omega),(show 2<=y.size by omega),wa _,m1⟩) ?nx)
 case fi =>
  rintro c st ⟨_,_,_,_,hN,hi,hj,_⟩;omega
 case nx =>
  rintro⟨c1,c2⟩ st ⟨⟨g',rfl⟩,r,rfl,hr⟩;exact gb (h r g' hr)
 case go =>
  rintro z ⟨c1,i,j,o,mg⟩ st hz1 hz2 ⟨⟨g',rfl⟩,rfl,I⟩;dsimp only at I ⊢;refine ua (jg (oe (I:=λk d st=>st=SS κ item p pend g'/\d.1=none/\Iw item lt x y (z+k) d.2.2.2.1 d.2.1 d.2.2.1) (Q:=λd st=>st=SS κ item p pend g'/\PH item lt x y (z+1) d) ?go2 ?fi2 ⟨rfl,rfl,I⟩) ?nx2)
  case fi2 =>
   rintro⟨d1,i,j,o,d5⟩ st ⟨rfl,rfl,q,e1,e2,e3⟩;exact⟨rfl,q,e1,by omega,e3⟩
  case go2 =>
   rintro k ⟨d1,i,j,o,d5⟩ st _ hk ⟨rfl,rfl,I⟩;dsimp only at I ⊢;refine z9x hA t I λr hr=>?_
   cases r with
   |done d =>
    obtain⟨d1,i,j,o,d5⟩:=d
    cases d1 with
    |some r=>exact⟨rfl,hr⟩
    |none=>obtain⟨q,e1,e2,e3⟩:=hr;exact⟨rfl,q,e1,by omega,e3⟩
   |yield d=>exact⟨rfl,hr.1,hr.2⟩
  case nx2 =>
   rintro⟨d1,i,j,o,d5⟩ st ⟨rfl,hd⟩
   cases d1 with
   |some r=>exact gb ⟨⟨_,rfl⟩,r,rfl,hd⟩
   |none =>
    refine ua (zl (vg ⟨rfl,?_⟩));dsimp only;refine ua (jg (oe (I:=λk d st=>(∃g',st=SS κ item p pend g')/\YH item lt x y (z+1) d) (Q:=λd st=>(∃g',st=SS κ item p pend g')/\PH item lt x y (z+1) d) ?go3 ?fi3 ⟨⟨_,rfl⟩,rfl,hd⟩) ?nx3)
    case fi3 =>
     rintro⟨d1,i,j,o,d5⟩ st ⟨e,rfl,I⟩;exact⟨e,I⟩
    case go3 =>
     rintro k ⟨d1,i,j,o,mg,ca,cb⟩ st _ hk ⟨⟨g',rfl⟩,rfl,I⟩;dsimp only at I ⊢;split
     ·refine z5n hA t I λr hr=>?_
      cases r with
      |done c=>exact⟨⟨_,rfl⟩,hr⟩
      |yield c=>exact⟨⟨_,rfl⟩,hr⟩
     ·refine z5n hA t I λr hr=>?_
      cases r with
      |done c=>exact⟨⟨_,rfl⟩,hr⟩
      |yield c=>exact⟨⟨_,rfl⟩,hr⟩
    case nx3 =>
     rintro⟨d1,i,j,o,mg,d5⟩ st ⟨⟨g',rfl⟩,hd⟩
     cases d1 with
     |some r=>exact gb ⟨⟨_,rfl⟩,r,rfl,hd⟩
     |none=>exact ua (yf (gb ⟨⟨_,rfl⟩,rfl,hd⟩))
end
theorem zmc(z:Nat):mergeAt' z=(do
  let st ← get
  let (some (sa,na,pw),some (sb,nb,_)):=((pendingOf st)[z]?,(pendingOf st)[z+1]?)|unsupported "internal:list.sort.pending"
  set (setPending st (((pendingOf st).setIfInBounds z (sa,na+nb,pw)).eraseIdxIfInBounds (z+1)))
  let some k ← zce false (← elem' (arrOf st) sb) (arrOf st) sa na 0|return false
  let (ta,ma):=(sa+k,na - k)
  if ma == 0 then return true
  let some mb ← zce true (← elem' (arrOf st) (ta+ma - 1)) (arrOf st) sb nb (nb - 1)|return false
  if mb == 0 then return true
  let u:=(arrOf st).extract ta sb
  let v:=(arrOf st).extract sb (sb+mb)
  let o ← if ma<=mb then zev u v else zew u v
  modify λs=>setArr s (o.toList.zipIdx.foldl (λa (q,j)=>a.setIfInBounds (ta+j) q) (arrOf s))
  return (failedOf (← get)).isNone):=rfl
theorem zvj{σ:Type}{M:Model}{A:Around}{E:Value->Shared->Prop}{s:Shared}{t st:σ}{Q:PUnit->σ->Prop}(h:Q ⟨⟩ t):wpS M A E s (set t:StateT σ Sem PUnit) Q st:=by
 unfold wpS;rw[StateT.run_set];exact va ⟨rfl,h⟩
theorem zn2{α:Type}(ta:Nat):∀(l X Y Z:List α) (k:Nat),X.length=ta+k->Y.length=l.length →
  (l.zipIdx k).foldl (λ(a:Array α) (x:α×Nat)=>match x with|(q,j)=>a.setIfInBounds (ta+j) q) (X++Y++Z).toArray=(X++l++Z).toArray
 |[],X,Y,Z,k,hX,hY=>by
  have:Y=[]:=List.eq_nil_of_length_eq_zero (by simpa using hY)
  subst this;simp
 |q::l,X,[],Z,k,hX,hY=>by simp at hY
 |q::l,X,y::Y,Z,k,hX,hY=>by
  rw[List.zipIdx_cons,uf]
  have e:((X++(y::Y)++Z).toArray.setIfInBounds (ta+k) q)=((X++[q])++Y++Z).toArray:=by
   apply wj;rw[<-hX];simp[List.set_append]
  show List.foldl _ ((X++(y::Y)++Z).toArray.setIfInBounds (ta+k) q) _=_;rw[e,zn2 ta l (X++[q]) Y Z (k+1) (by simp;omega) (by simpa using hY)];simp
theorem zgv{p:Array Nat}{i j k:Nat}(hj:j<=p.size)(hk:i+k<j):ga (p.extract i j) k=ga p (i+k):=by
 rw[ga_eq,ga_eq,yo];rw[ba (by omega)]
theorem zfy{p:Array Nat}{i j:Nat}(hj:j<=p.size):(p.extract i j).size=j - i:=by
 rw[Array.size_extract];omega
section
variable {prog:Program}{w:World}{A:Around}{E:Value->Shared->Prop}{s:Shared}{κ:SortKind}{item:Nat->Keyed}{lt:Nat->Nat->Bool}{n:Nat}{p x y:Array Nat}{pend:Array (Nat×Nat×Nat)}{g:Nat}
theorem Bds.ext(hp:Ixs n p){i j:Nat}(hj:j<=n):Bds n (p.extract i j):=λk hk=>by
 have hs:=hp.size;rw[zfy (by omega)]at hk;have e:ga (p.extract i j) k=ga p (i+k):=zgv (by omega) (by omega);rw[e];refine⟨?_,hp.bd (by omega)⟩;rw[yo,ba (by omega)];exact hp.get (by omega)
theorem Ixs.bds(hp:Ixs n p):Bds n p:=λk hk=>by
 have hs:=hp.size;exact⟨hp.get (by omega),hp.bd (by omega)⟩
theorem UpF.ext(hp:Ixs n p){i j:Nat}(hj:j<=n)(h:UpF lt p i (j - i)):UpF lt (p.extract i j) 0 (p.extract i j).size:=λa b _ hab hb=>by
 have hs:=hp.size;rw[zfy (by omega)]at hb;rw[zgv (by omega) (by omega),zgv (by omega) (by omega)];exact h _ _ (by omega) (by omega) (by omega)
theorem UpF.all{n:Nat}(hs:p.size=n)(h:p.toList.Pairwise (leq lt))(wo:WOr lt):UpF lt p 0 n:=λa b _ hab hb=>by
 rcases jm a b with c|c
 ·have:=qe.mp h a b (by simp;omega) (by simp;omega) c
  have e:∀k (hk:k<p.toList.length),p.toList[k]=ga p k:=λk hk=>by
   rw[ga_eq];have hk':k<p.size:=by simpa using hk
   simp[hk']
  rw[e,e]at this;exact this
 ·have:a=b:=by omega
  subst this;exact wo.irr _
theorem ycp{a b pw:Nat}{Q:Bool->SortSt->Prop}(hA:zhh prog w A s κ item lt n)(wo:WOr lt)(hp:Ixs n p)(ha:0<a)(hb:0<b)(hab:a+b=n)(u1:UpF lt p 0 a)(u2:UpF lt p a b)
  (h:∀q g',Ixs n q->UpF lt q 0 n->Q true (SS κ item q #[(0,n,pw)] g')):wpS (model prog w) A E s (mergeAt' 0) Q (SS κ item p #[(0,a,pw),(a,b,0)] g):=by
 have hs:=hp.size;rw[zmc];refine ua (jh ?_);refine ua (zvj ?_);have ee:(((#[(0,a,pw),(a,b,0)]:Array (Nat×Nat×Nat)).setIfInBounds 0 (0,a+b,pw)).eraseIdxIfInBounds (0+1))=#[(0,n,pw)]:=by simp[hab,Array.eraseIdxIfInBounds]
 show wpS _ _ _ _ _ Q (SS κ item p (((#[(0,a,pw),(a,b,0)]:Array (Nat×Nat×Nat)).setIfInBounds 0 (0,a+b,pw)).eraseIdxIfInBounds (0+1)) g);rw[ee];refine ua (zbm (hp.get (by omega)) ?_);refine ua (zpg hA hp.bds (hp.bd (by omega)) (by omega) (by omega) (λi j hij hj hj2=>?_) λk hk k1 k2=>?_)
 ·simp only[ahd,bc,dh,eh,de]at hj2 ⊢
  exact wo.le (u1 i j (by omega) (by omega) (by omega)) hj2
 dsimp only;simp only[ahd,bc,dh,eh,rm,de]at k1 k2;simp only[de];by_cases ea:a - k=0
 ·rw[ba (by simp[ea])]
  refine gb (h p g hp λi j _ hij hj=>?_);by_cases hja:j<a
  ·exact u1 i j (by omega) hij (by omega)
  by_cases hia:i<a
  ·exact wo.le (k1 i (by omega)) (u2 a j (wa _) (by omega) (by omega))
  ·exact u2 i j (by omega) hij (by omega)
 rw[oa (by simp[ea])];have el:k+(a - k) - 1=a - 1:=by omega
 rw[el];refine ua (zbm (hp.get (by omega)) ?_);refine ua (zpg hA hp.bds (hp.bd (by omega)) (by omega) (by omega) (λi j hij hj hj2=>?_) λmb hm m1 m2=>?_)
 ·simp only[ahd,pj]at hj2 ⊢
  cases hq:lt (ga p (a+i)) (ga p (a - 1)) with
  |true=>rfl
  |false=>rw[wo.le hq (u2 (a+i) (a+j) (by omega) (by omega) (by omega))]at hj2;cases hj2
 dsimp only;simp only[ahd,pj]at m1 m2;by_cases em:mb=0
 ·rw[ba (by simp[em])]
  subst em;refine gb (h p g hp λi j _ hij hj=>?_);by_cases hja:j<a
  ·exact u1 i j (by omega) hij (by omega)
  by_cases hia:i<a
  ·have:=m2 (j - a) (by omega) (by omega)
   rw[show a+(j - a)=j by omega]at this;exact wo.le (u1 i (a - 1) (by omega) (by omega) (by omega)) this
  ·exact u2 i j (by omega) hij (by omega)
 rw[oa (by simp[em])];have szU:(p.extract k a).size=a - k:=zfy (by omega);have szV:(p.extract a (a+mb)).size=mb:=by rw[zfy (by omega)];omega
 have t:Two item lt n (p.extract k a) (p.extract a (a+mb)):=by
  refine⟨wo,Bds.ext hp (by omega),Bds.ext hp (by omega),UpF.ext hp (by omega) λi j i1 hij hj=>u1 i j (by omega) hij (by omega),UpF.ext hp (by omega) λi j i1 hij hj=>u2 i j i1 hij (by omega),λ_ _=>?_,λj hj=>?_⟩
  ·rw[zgv (by omega) (by omega),zgv (by omega) (by omega)]
   exact k2 k (wa _) (by omega)
  ·rw[szV]at hj
   rw[szU,zgv (by omega) (by omega),zgv (by omega) (by omega),show k+(a - k - 1)=a - 1 by omega];exact m1 j hj
 have fin:∀(o:Array Keyed) (g':Nat),Rs item lt ((p.extract k a).toList++(p.extract a (a+mb)).toList) o →
   Q true (SortSt.mk' κ (o.toList.zipIdx.foldl (λ(a:Array Keyed) (x:Keyed×Nat)=>match x with|(q,j)=>a.setIfInBounds (k+j) q) (p.map item)) #[(0,n,pw)] g' none):=by
  rintro o g' ⟨q,rfl,qs,qp⟩;have ql:q.toList.length=(a - k)+mb:=by rw[qp.length_eq,jc,ve,ve,szU,szV]
  have eX:p.toList=p.toList.take k++((p.extract k a).toList++(p.extract a (a+mb)).toList)++p.toList.drop (a+mb):=by
   rw[zfa,zfa]
   have d1:p.toList.take (a+mb)=p.toList.take k++((p.toList.take a).drop k++(p.toList.take (a+mb)).drop a):=by
    have f1:(p.toList.take (a+mb)).take a=p.toList.take a:=by rw[mq,kh (by omega)]
    have f2:(p.toList.take a).take k=p.toList.take k:=by rw[mq,kh (by omega)]
    rw[<-ji,<-f2,xg,<-f1,xg]
   rw[<-d1,xg]
  have e1:p.map item=(((p.toList.take k).map item)++(((p.extract k a).toList++(p.extract a (a+mb)).toList).map item)++((p.toList.drop (a+mb)).map item)).toArray:=by
   apply wj;rw[io,<-xb,<-xb,<-eX]
  have e2:(q.map item).toList=q.toList.map item:=io;rw[e1,e2,zn2 k (q.toList.map item) _ _ _ 0 (by simp;omega) (by rw[ia,ia,qp.length_eq])]
  have e3:((p.toList.take k).map item++q.toList.map item++(p.toList.drop (a+mb)).map item).toArray=(p.toList.take k++q.toList++p.toList.drop (a+mb)).toArray.map item:=by
   apply wj;simp
  rw[e3]
  have pm:(p.toList.take k++q.toList++p.toList.drop (a+mb)).Perm p.toList:=by
   have:(p.toList.take k++q.toList++p.toList.drop (a+mb)).Perm (p.toList.take k++((p.extract k a).toList++(p.extract a (a+mb)).toList)++p.toList.drop (a+mb)):=(qp.append_left _).append_right _
   rw[<-eX]at this;exact this
  have hI:Ixs n (p.toList.take k++q.toList++p.toList.drop (a+mb)).toArray:=pm.trans hp;refine h _ g' hI (UpF.all hI.size ?_ wo)
  have inq:∀v∈q.toList,∃m,k<=m/\m<a+mb/\v=ga p m:=λv hv=>by
   rcases ac.mp (qp.mem_iff.mp hv) with hv|hv
   ·rw[zfa]at hv
    obtain⟨m,x1,x2,x3,x4⟩:=ziq hv;exact⟨m,x1,by omega,x4⟩
   ·rw[zfa]at hv
    obtain⟨m,x1,x2,x3,x4⟩:=ziq hv;exact⟨m,by omega,x2,x4⟩
  have below:∀i j,i<k->i<=j->j<n->leq lt (ga p i) (ga p j):=λi j hi hij hj=>by
   by_cases hja:j<a
   ·exact u1 i j (by omega) hij (by omega)
   ·exact wo.le (k1 i hi) (u2 a j (wa _) (by omega) (by omega))
  have above:∀i j,i<=j->a+mb<=j->j<n->leq lt (ga p i) (ga p j):=λi j hij hj hjn=>by
   by_cases hia:i<a
   ·have:=m2 (j - a) (by omega) (by omega)
    rw[show a+(j - a)=j by omega]at this;exact wo.le (u1 i (a - 1) (by omega) (by omega) (by omega)) this
   ·exact u2 i j (by omega) hij (by omega)
  have pt:∀i,(∀a b,a<i->a<=b->b<i->leq lt (ga p a) (ga p b))->i<=n->(p.toList.take i).Pairwise (leq lt):=λi hi hn=>by
   rw[qe];intro c d hc hd hcd;have hd':d<i:=by simp at hd;omega
   have e:∀m (hm:m<(p.toList.take i).length),(p.toList.take i)[m]=ga p m:=λm hm=>by
    have hm':m<p.size:=by simp at hm;omega
    rw[List.getElem_take,ga_eq];simp[hm']
   rw[e,e];exact hi c d (by omega) (by omega) hd'
  show (p.toList.take k++q.toList++p.toList.drop (a+mb)).Pairwise (leq lt);refine bh.mpr ⟨bh.mpr ⟨pt k (λc d hc hcd hd=>u1 c d (by omega) hcd (by omega)) (by omega),qs,λu hu v hv=>?_⟩,?_,λu hu v hv=>?_⟩
  ·obtain⟨c,c1,c2,rfl⟩:=zbn hu
   obtain⟨d,d1,d2,rfl⟩:=inq v hv;exact below c d c1 (by omega) (by omega)
  ·rw[qe]
   intro c d hc hd hcd;have hd':a+mb+d<p.size:=by simp at hd;omega
   have e:∀m (hm:m<(p.toList.drop (a+mb)).length),(p.toList.drop (a+mb))[m]=ga p (a+mb+m):=λm hm=>by
    have hm':a+mb+m<p.size:=by simp at hm;omega
    rw[List.getElem_drop,ga_eq];simp[hm']
   rw[e,e];exact above _ _ (by omega) (by omega) (by omega)
  ·obtain⟨d,d1,d2,rfl⟩:=za7 hv
   rcases ac.mp hu with hu|hu
   ·obtain⟨c,c1,c2,rfl⟩:=zbn hu
    exact above c d (by omega) d1 (by omega)
   ·obtain⟨c,c1,c2,rfl⟩:=inq u hu
    exact above c d (by omega) d1 (by omega)
 have eU:(p.map item).extract k a=(p.extract k a).map item:=zcw ..;have eV:(p.map item).extract a (a+mb)=(p.extract a (a+mb)).map item:=zcw ..;show wpS _ _ _ _ (if a - k<=mb then _ else _) Q (SS κ item p #[(0,n,pw)] g);by_cases hc:a - k<=mb
 ·rw[ba hc]
  show wpS _ _ _ _ (zev ((p.map item).extract k a) ((p.map item).extract a (a+mb)) >>= _) Q _;rw[eU,eV];refine ua (ycn hA t (by omega) (by omega) λo g' ho=>?_);exact ua (yf (ua (jh (gb (fin o g' ho)))))
 ·rw[oa hc]
  show wpS _ _ _ _ (zew ((p.map item).extract k a) ((p.map item).extract a (a+mb)) >>= _) Q _;rw[eU,eV];refine ua (yco hA t (by omega) (by omega) λo g' ho=>?_);exact ua (yf (ua (jh (gb (fin o g' ho)))))
end
theorem zph{n:Nat}(h2:2<=n)(h:n<128):minRun' n n 0<=n/\n<=2 * minRun' n n 0/\(n<64->minRun' n n 0=n):=by
 obtain⟨f,rfl⟩:∃f,n=f+2:=⟨n - 2,by omega⟩
 have e:minRun' (f+2) (f+2) 0=if f+2<64 then f+2+0 else minRun' (f+1) ((f+2) / 2) (max 0 ((f+2) % 2)):=ip (f+1) (f+2) 0
 rw[e];by_cases c:f+2<64
 ·rw[ba c];omega
 ·rw[oa c,ip,ba (by omega)];omega
section
variable {prog:Program}{w:World}{A:Around}{E:Value->Shared->Prop}{s:Shared}{κ:SortKind}{item:Nat->Keyed}{lt:Nat->Nat->Bool}{n:Nat}{p:Array Nat}
theorem z5o{Q:Unit->SortSt->Prop}(hA:zhh prog w A s κ item lt n)(wo:WOr lt)(hp:Ixs n p)(h2:2<=n)(h128:n<128)
  (h:∀q pend g',Ixs n q->UpF lt q 0 n->Q () (SS κ item q pend g')):wpS (model prog w) A E s sortRuns' Q (SS κ item p #[] 7):=by
 have hs:=hp.size;obtain⟨r1,r2,r3⟩:=zph h2 h128;rw[sortRuns'_eq];refine ua (jh ?_);have hz:(arrOf (SS κ item p #[] 7)).size=n:=by show (p.map item).size=n;rw[ag,hs]
 simp only[hz];generalize minRun' n n 0=mr at r1 r2 r3
 let I1:SortSt->Nat->Prop:=λt a=>∃q,t=SS κ item q #[(0,a,0)] 7/\Ixs n q/\UpF lt q 0 a
 let I2:SortSt->Prop:=λt=>∃q a b pw,t=SS κ item q #[(0,a,pw),(a,b,0)] 7/\Ixs n q/\0<a/\0<b/\a+b=n/\UpF lt q 0 a/\UpF lt q a b
 refine ua (jg (oe (I:=λx c t=>(x=0/\c=(none,0)/\t=SS κ item p #[] 7)\/(∃a,c=(none,a)/\mr<=a/\a<=n/\(x=1\/a=n)/\1<=x/\I1 t a)\/(1<=x/\c=(none,n)/\I2 t)) (Q:=λc t=>c=(none,n)/\(I1 t n\/I2 t)) ?go ?fi (.inl ⟨rfl,rfl,rfl⟩)) ?nx)
 case fi =>
  rintro c t (⟨z,_⟩|⟨a,rfl,a1,a2,a3,a4,hI⟩|⟨_,rfl,hI⟩)
  ·omega
  ·have:a=n:=by omega
   subst this;exact⟨rfl,.inl hI⟩
  ·exact⟨rfl,.inr hI⟩
 case go =>
  rintro x c t hx1 hx2 (⟨rfl,rfl,rfl⟩|⟨a,rfl,a1,a2,a3,a4,q,rfl,hq,hu⟩|⟨x1,rfl,hI⟩)
  ·dsimp only
   rw[oa (by omega)];refine ua (zl8 hA wo hp (by omega) (by omega) λm p' m1 m2 hp' hk' hu'=>?_);dsimp only;by_cases hm:m<mr
   ·rw[ba hm]
    refine ua (zl (vg ⟨rfl,?_⟩));refine ua (z06 hA wo hp' (by omega) m1 (by omega) hu' λp2 hp2 hk2 hu2=>?_);rw[oa (by simp)];refine ua (jh ?_);show wpS _ _ _ _ (modify _ >>= _) _ _;refine ua (yf (gb (.inr (.inl ⟨min (n - 0) mr,by simp,by omega,by omega,by omega,by omega,p2,rfl,hp2,hu2⟩))))
   ·rw[oa hm]
    refine ua (jh ?_);show wpS _ _ _ _ (modify _ >>= _) _ _;refine ua (yf (gb (.inr (.inl ⟨m,by simp,by omega,by omega,by omega,by omega,p',rfl,hp',hu'⟩))))
  ·dsimp only
   by_cases han:a ≥ n
   ·rw[ba han]
    have:a=n:=by omega
    subst this;exact gb ⟨rfl,.inl ⟨q,rfl,hq,hu⟩⟩
   rw[oa han];have hx:x=1:=by omega
   subst hx;refine ua (zl8 hA wo hq (by omega) (by omega) λm p' m1 m2 hp' hk' hu'=>?_);dsimp only;by_cases hm:m<mr
   ·rw[ba hm]
    refine ua (zl (vg ⟨rfl,?_⟩));refine ua (z06 hA wo hp' (by omega) m1 (by omega) hu' λp2 hp2 hk2 hu2=>?_);rw[oa (by simp)];refine ua (jh ?_);refine ua (jg (oe (I:=λ_ c u=>c=(none,())/\u=SS κ item p2 #[(0,a,0)] 7) (Q:=λc u=>c=(none,())/\u=SS κ item p2 #[(0,a,0)] 7) ?go2 (λ_ _ z=>z) ⟨rfl,rfl⟩) ?nx2)
    case go2 =>
     rintro _ c u _ _ ⟨rfl,rfl⟩;exact ua (jh (gb ⟨rfl,rfl⟩))
    case nx2 =>
     rintro c u ⟨rfl,rfl⟩;refine ua (yf (ua (yf (gb (.inr (.inr ⟨by omega,?_,p2,a,(min (n - a) mr),power' n (2 * 0+a) (2 * 0+a+a+min (n - a) mr) n,?_,hp2,by omega,by omega,by omega,?_,hu2⟩))))))
     ·rw[show a+(min (n - a) mr)=n by omega]
     ·show SortSt.mk' κ _ (((#[(0,a,0)]:Array (Nat×Nat×Nat)).modify (1 - 1) _).push _) 7 none=_
      congr 1
     ·intro i j i1 hij hj
      rw[(hk'.trans hk2) i (by omega),(hk'.trans hk2) j (by omega)];exact hu i j i1 hij hj
   ·rw[oa hm]
    refine ua (jh ?_);refine ua (jg (oe (I:=λ_ c u=>c=(none,())/\u=SS κ item p' #[(0,a,0)] 7) (Q:=λc u=>c=(none,())/\u=SS κ item p' #[(0,a,0)] 7) ?go2 (λ_ _ z=>z) ⟨rfl,rfl⟩) ?nx2)
    case go2 =>
     rintro _ c u _ _ ⟨rfl,rfl⟩;exact ua (jh (gb ⟨rfl,rfl⟩))
    case nx2 =>
     rintro c u ⟨rfl,rfl⟩;refine ua (yf (ua (yf (gb (.inr (.inr ⟨by omega,?_,p',a,m,power' n (2 * 0+a) (2 * 0+a+a+m) n,?_,hp',by omega,by omega,by omega,?_,hu'⟩))))))
     ·rw[show a+m=n by omega]
     ·show SortSt.mk' κ _ (((#[(0,a,0)]:Array (Nat×Nat×Nat)).modify (1 - 1) _).push _) 7 none=_
      congr 1
     ·intro i j i1 hij hj
      rw[hk' i (by omega),hk' j (by omega)];exact hu i j i1 hij hj
  ·dsimp only
   rw[ba (wa _)];exact gb ⟨rfl,.inr hI⟩
 case nx =>
  rintro c t ⟨rfl,hI⟩;dsimp only;refine ua (jg (oe (I:=λx c u=>c=(none,())/\((∃q pend g',pend.size<=1/\u=SS κ item q pend g'/\Ixs n q/\UpF lt q 0 n)\/(x=0/\I2 u))) (Q:=λc u=>c=(none,())/\∃q pend g',u=SS κ item q pend g'/\Ixs n q/\UpF lt q 0 n) ?go3 ?fi3 ⟨rfl,?_⟩) ?nx3)
  case go3 =>
   rintro x c u _ _ ⟨rfl,⟨q,pend,g',hq1,rfl,hq2,hq3⟩|⟨rfl,q,a,b,pw,rfl,hq,ha,hb,hab,u1,u2⟩⟩
   ·refine ua (jh ?_)
    rw[ba hq1];exact gb ⟨rfl,q,pend,g',rfl,hq2,hq3⟩
   ·refine ua (jh ?_)
    rw[oa (by show ¬2<=1;omega)];show wpS _ _ _ _ (mergeAt' 0 >>= _) _ _;refine ua (ycp hA wo hq ha hb hab u1 u2 λq2 g2 hq2 hu2=>?_);rw[oa (by simp)];exact gb ⟨rfl,.inl ⟨q2,#[(0,n,pw)],g2,wa 1,rfl,hq2,hu2⟩⟩
  case fi3 =>
   rintro c u ⟨rfl,⟨q,pend,g',hq1,rfl,hq2,hq3⟩|⟨z,_⟩⟩
   ·exact⟨rfl,q,pend,g',rfl,hq2,hq3⟩
   ·omega
  case nx3 =>
   rintro c u ⟨rfl,q,pend,g',rfl,hq2,hq3⟩;exact gb (h q pend g' hq2 hq3)
  rcases hI with⟨q,rfl,hq,hu⟩|hI
  ·exact .inl ⟨q,#[(0,n,0)],7,wa 1,rfl,hq,hu⟩
  ·exact .inr ⟨rfl,hI⟩
end
theorem zkl:∀f n r:Nat,r<=1->1<=n->r=0\/64<=2 * n+1->(64<=n->1<=f)->minRun' f n r<=(if r=0 then n else n+1)
 |0,n,r,h1,h2,h3,h4=>by
  show n+r<=_
  split <;> omega
 |f+1,n,r,h1,h2,h3,h4=>by
  rw[ip];by_cases h:n<64
  ·rw[ba h];split <;> omega
  ·rw[oa h]
   have hb:minRun' f (n / 2) (max r (n % 2))<=n:=by
    by_cases hf:64<=n / 2->1<=f
    ·have:=zkl f (n / 2) (max r (n % 2)) (by omega) (by omega) (by omega) hf
     split at this <;> omega
    ·have:f=0:=by omega
     subst this;show n / 2+max r (n % 2)<=n;omega
   split <;> omega
section
variable {prog:Program}{w:World}{A:Around}{E:Value->Shared->Prop}{s:Shared}{κ:SortKind}{item:Nat->Keyed}{lt:Nat->Nat->Bool}{n:Nat}{p:Array Nat}{pend:Array (Nat×Nat×Nat)}{g:Nat}
theorem z9y{Q:Option Nat->SortSt->Prop}(hA:zhh prog w A s κ item lt n)(hp:Ixs n p)(h1:1<=n)(u:UpF lt p 0 n)(h:Q (some n) (SS κ item p pend g)):wpS (model prog w) A E s (countRun' 0 n) Q (SS κ item p pend g):=by
 rw[countRun'_eq];refine ua (jg (oe (I:=λx c t=>c=(none,x)/\t=SS κ item p pend g) (Q:=λc t=>c=(none,n)/\t=SS κ item p pend g) ?go ?fi ⟨rfl,rfl⟩) ?nx)
 case fi =>
  rintro c t ⟨rfl,rfl⟩;exact⟨by rw[show max 1 n=n by omega],rfl⟩
 case go =>
  rintro x c t hx1 hx2 ⟨rfl,rfl⟩;dsimp only;refine ua (zgs hA hp (by omega) (by omega) ?_);dsimp only;rw[u (0+x - 1) (0+x) (by omega) (by omega) (by omega),oa la];exact gb ⟨rfl,rfl⟩
 case nx =>
  rintro c t ⟨rfl,rfl⟩;dsimp only;rw[ba (by simp)];exact gb h
theorem z07{Q:Unit->SortSt->Prop}(hA:zhh prog w A s κ item lt n)(wo:WOr lt)(hp:Ixs n p)(h2:2<=n)(hc:n<64\/UpF lt p 0 n)
  (h:∀q pend,Ixs n q->UpF lt q 0 n->Q () (SS κ item q pend 7)):wpS (model prog w) A E s sortRuns' Q (SS κ item p #[] 7):=by
 have hz:(arrOf (SS κ item p #[] 7)).size=n:=by show (p.map item).size=n;rw[ag,hp.size]
 have r1:minRun' n n 0<=n:=by
  have:=zkl n n 0 (by omega) (by omega) (.inl rfl) (by omega)
  rwa [ba rfl]at this
 have r2:n<64->minRun' n n 0=n:=λh=>by
  obtain⟨f,rfl⟩:∃f,n=f+1:=⟨n - 1,by omega⟩
  rw[ip,ba h]
 rw[sortRuns'_eq];refine ua (jh ?_);simp only[hz];generalize minRun' n n 0=mr at r1 r2
 let J:SortSt->Prop:=λt=>∃q,t=SS κ item q #[(0,n,0)] 7/\Ixs n q/\UpF lt q 0 n
 refine ua (jg (oe (I:=λx c t=>(x=0/\c=(none,0)/\t=SS κ item p #[] 7)\/(1<=x/\c=(none,n)/\J t)) (Q:=λc t=>c=(none,n)/\J t) ?go ?fi (.inl ⟨rfl,rfl,rfl⟩)) ?nx)
 case fi =>
  rintro c t (⟨z,_⟩|⟨_,q⟩)
  ·omega
  ·exact q
 case go =>
  rintro x c t hx1 hx2 (⟨rfl,rfl,rfl⟩|⟨x1,rfl,j⟩)
  ·dsimp only
   rw[oa (by omega)];rcases hc with hc|hc
   ·refine ua (zl8 hA wo hp (by omega) (by omega) λm p' m1 m2 hp' hk' hu'=>?_)
    dsimp only;rw[r2 hc];by_cases hm:m<n
    ·rw[ba hm]
     refine ua (zl (vg ⟨rfl,?_⟩));refine ua (z06 hA wo hp' (by omega) m1 (by omega) hu' λp2 hp2 hk2 hu2=>?_);rw[show min (n - 0) n=n by omega]at hu2 ⊢;rw[oa (by simp)];refine ua (jh ?_);show wpS _ _ _ _ (modify _ >>= _) _ _;exact ua (yf (gb (.inr ⟨by omega,by simp,p2,rfl,hp2,hu2⟩)))
    ·rw[oa hm]
     have:m=n:=by omega
     subst this;refine ua (jh ?_);show wpS _ _ _ _ (modify _ >>= _) _ _;exact ua (yf (gb (.inr ⟨by omega,by simp,p',rfl,hp',hu'⟩)))
   ·refine ua (z9y hA hp (by omega) hc ?_)
    dsimp only;rw[oa (by omega)];refine ua (jh ?_);show wpS _ _ _ _ (modify _ >>= _) _ _;exact ua (yf (gb (.inr ⟨by omega,by simp,p,rfl,hp,hc⟩)))
  ·dsimp only
   rw[ba (wa _)];exact gb ⟨rfl,j⟩
 case nx =>
  rintro c t ⟨rfl,q,rfl,hq,hu⟩;dsimp only;refine ua (jg (oe (I:=λ_ c u=>u=SS κ item q #[(0,n,0)] 7/\c=(none,())) (Q:=λc u=>u=SS κ item q #[(0,n,0)] 7/\c=(none,())) ?_ (λ_ _ z=>z) ⟨rfl,rfl⟩) ?_)
  ·rintro x c u _ _ ⟨rfl,rfl⟩
   refine ua (jh ?_);rw[ba (show (#[(0,n,0)]:Array (Nat×Nat×Nat)).size<=1 from wa 1)];exact gb ⟨rfl,rfl⟩
  ·rintro c u ⟨rfl,rfl⟩
   exact gb (h q _ hq hu)
end
section
variable {prog:Program}{w:World}{A:Around}{E:Value->Shared->Prop}{s:Shared}{κ:SortKind}{item:Nat->Keyed}{lt:Nat->Nat->Bool}{n:Nat}{p:Array Nat}
theorem s_sort2{Q:Unit->SortSt->Prop}(hA:zhh prog w A s κ item lt n)(wo:WOr lt)(hp:Ixs n p)(h2:2<=n)(hc:n<128\/UpF lt p 0 n)
  (h:∀q pend g',Ixs n q->UpF lt q 0 n->Q () (SS κ item q pend g')):wpS (model prog w) A E s sortRuns' Q (SS κ item p #[] 7):=by
 rcases hc with hc|hc
 ·exact z5o hA wo hp h2 hc h
 ·exact z07 hA wo hp h2 (.inr hc) λq pend=>h q pend 7
end
end Tim
namespace L2
open PySem PySem.Spec PyProof.Rows
section
variable {prog:Program}{w:World}{A:Around}{E:Value->Shared->Prop}{s:Shared}
theorem zvk{k:Nat}{ds es:List D}{its its':List Value}(p:Paired (HD s.heap k) ds its)(p':Paired (HD s.heap k) es its')(ho:∀q∈ds.zip es,zm2 k q.1 q.2)(hu:A.units+k<cLine)(j:Nat)(j1:j<its.toArray.size)(j2:j<its'.toArray.size) :
  SeqAt.EqAt A s its.toArray[j] its'.toArray[j] (eAt (eqD k) ds es j)/\(eAt (eqD k) ds es j=false->zzp A s its.toArray[j] its'.toArray[j] (eAt (ltD k) ds es j)):=by
 have x1:its[j]?=some its.toArray[j]:=by simp at j1;simp[j1]
 have x2:its'[j]?=some its'.toArray[j]:=by simp at j2;simp[j2]
 obtain⟨d,q1,r1⟩:=zax p x1;obtain⟨e,q2,r2⟩:=zax p' x2;have z:eAt (eqD k) ds es j=eqD k d e:=by unfold eAt;rw[q1,q2]
 have z':eAt (ltD k) ds es j=ltD k d e:=by unfold eAt;rw[q1,q2]
 rw[z,z'];exact⟨zh6 r1 r2 hu,λ_=>zzq r1 r2 (ho (d,e) (zlm q1 q2)) hu⟩
theorem zhx{k:Nat}{ds es:List D}{u v:Value}{Q:Bool->Shared->Prop}(h1:HD s.heap (k+1) (.lst ds) u)(h2:HD s.heap (k+1) (.lst es) v)(ho:zm2 (k+1) (.lst ds) (.lst es))(hu:A.units+(k+1)<cLine)(q:Q (ltD (k+1) (.lst ds) (.lst es)) s):wpAny (model prog w) A (oneLt' true u v) Q E s:=by
 obtain⟨a,its,rfl,t,p⟩:=h1;obtain⟨a',its',rfl,t',p'⟩:=h2;have l1:=p.length;have l2:=p'.length;obtain⟨⟨cls,dd,data,sl⟩,hx,hc,n,hd⟩:=t.isList;obtain⟨⟨cls2,dd2,data2,sl2⟩,hx2,hc2,n2,hd2⟩:=t'.isList;simp only at hc hd hc2 hd2;subst hc hd hc2 hd2
 have q':Q (zjr (eAt (eqD k) ds es) (eAt (ltD k) ds es) its.toArray.size its'.toArray.size its.toArray.size 0) s:=by
  simp only[xa];rw[<-l1,<-l2,zgc];exact q
 rw[oneLt'_eq];simp only[pj];refine aa (wpAny_cRoomFor_or (.inr (by omega)) ?_);refine aa (wpAny_callSpecialIfBound?_slot (name:=Str.ofString "__lt__") ⟨_,hx,rfl⟩ PySem.F.slot_list_lt (zr PySem.F.slot_list_lt ⟨_,hx,rfl⟩ PySem.F.entry_list_lt (PySem.F.args_list_lt_2 _ _) (zjs a a' its.toArray its'.toArray n n2 dd dd2 sl sl2 _ _) ⟨hx,hx2,zvk p p' ho (by show A.units+1+k<cLine;omega),?_⟩));exact qg q'
noncomputable def zn3:D->Bool|.lst _=>true|_=>false
theorem zkm{k:Nat}{Q:Bool->Shared->Prop}{fin:Bool}(hu:A.units+(k+1)<cLine):∀{ds es:List D}{its its':List Value} (i:Nat),Paired (HD s.heap (k+1)) ds its->Paired (HD s.heap (k+1)) es its'->(∀q∈ds.zip es,zm2 (k+1) q.1 q.2) →
  (i=0->(ds.head?.map zn3).getD true=true/\(es.head?.map zn3).getD true=true)->fin=decide (ds.length<es.length)->Q (lex (eqD (k+1)) (ltD (k+1)) ds es) s->PySem.W.KatLex prog w A true fin Q (its.zip its') i s
 |[],[],_,_,i,.nil,.nil,_,_,hf,q=>by subst hf;exact PySem.W.kat_nil (by simpa [lex] using q)
 |[],_::_,_,_,i,.nil,.cons _ _,_,_,hf,q=>by subst hf;exact PySem.W.kat_nil (by simpa [lex] using q)
 |_::_,[],_,_,i,.cons _ _,.nil,_,_,hf,q=>by subst hf;exact PySem.W.kat_nil (by simpa [lex] using q)
 |d::ds,e::es,_,_,i,.cons a b,.cons a' b',ho,hh,hf,q=>by
  rw[vh];have ho':∀q∈ds.zip es,zm2 (k+1) q.1 q.2:=λq hq=>ho q (by rw[vh];exact da _ hq)
  have hde:=ho (d,e) (by rw[vh];exact za);refine PySem.W.kat_cons (zh6 a a' hu prog w _ _ (PySem.W.kat_go (λhe=>PySem.W.kat_yes ?_) λhe=>PySem.W.kat_no ?_))
  ·refine zkm hu (i+1) b b' ho' (λz=>by omega) (by rw[hf];simp) ?_
   rw[lex,ba he]at q;exact q
  ·rw[lex,oa (by rw[he];exact la)]at q
   by_cases hi:i=0
   ·subst hi
    obtain⟨x1,x2⟩:=hh rfl
    cases d with
    |lst ds' =>
     cases e with
     |lst es'=>exact zhx a a' hde hu q
     |_=>cases x2
    |_=>cases x1
   ·have:(true && (i == 0))=false:=by simp[hi]
    rw[this];exact PySem.W.kat_one _ _ (zzq a a' hde hu prog w _ _ q)
noncomputable def z08:D->Bool
 |.lst _=>true
 |.tup (.lst _::_)=>true
 |_=>false
theorem z5p{k:Nat}{d e:D}{u v:Value}{κ:SortKind}{Q:Bool->Shared->Prop}(h1:HD s.heap (k+2) d u)(h2:HD s.heap (k+2) e v)(ho:zm2 (k+2) d e)(hu:A.units+(k+2)<cLine)
  (hk:(κ=oneType'/\zn3 d=true/\zn3 e=true)\/(κ=tuples' true/\zn3 d=false/\zn3 e=false/\z08 d=true/\z08 e=true)) (q:Q (ltD (k+2) d e) s):wpAny (model prog w) A (keyLt' κ u v) Q E s:=by
 rcases hk with⟨rfl,x1,x2⟩|⟨rfl,x1,x2,x3,x4⟩
 ·cases d with
  |lst ds =>
   cases e with
   |lst es=>rw[keyLt'_oneType];exact zhx h1 h2 ho hu q
   |_=>cases x2
  |_=>cases x1
 ·cases d with
  |tup ds =>
   cases e with
   |tup es =>
    obtain⟨a,its,rfl,t,p⟩:=h1;obtain⟨a',its',rfl,t',p'⟩:=h2;obtain⟨ox,hx,hc,n,hd⟩:=t;obtain⟨oy,hy,hc2,n2,hd2⟩:=t';refine PySem.W.kat_lt hx hd hy hd2 (zkm (k:=k) (by omega) 0 p p' ho (λ_=>?_) ?_ q)
    ·cases ds with
     |nil=>cases x3
     |cons d0 ds =>
      cases es with
      |nil=>cases x4
      |cons e0 es =>
       refine⟨?_,?_⟩
       ·cases d0 <;> first|rfl|cases x3
       ·cases e0 <;> first|rfl|cases x4
    ·rw[xa,xa,<-p.length,<-p'.length]
   |sc _=>cases x4
   |lst _=>cases x2
   |dk _ _=>cases x4
   |dt _ _=>cases x4
   |er _ _ _=>cases x4
  |sc _=>cases x3
  |lst _=>cases x1
  |dk _ _=>cases x3
  |dt _ _=>cases x3
  |er _ _ _=>cases x3
end
theorem z09{h:Heap}:∀{k:Nat}{d e:D}{u v:Value},HD h k d u->HD h k e v->ltD k d e=dlt d e/\(zb9 d e=true->zm2 k d e):=by
 intro k
 induction k with
 |zero =>
  intro d e u v h1 h2
  cases d with
  |sc a =>
   cases e with
   |sc b=>rw[dlt,zb9];exact⟨rfl,λh=>h⟩
   |_=>exact h2.elim
  |_=>exact h1.elim
 |succ k ih =>
  intro d e u v h1 h2
  have all:∀{ds es:List D} {us vs:List Value},Paired (HD h k) ds us->Paired (HD h k) es vs->lex (eqD k) (ltD k) ds es=zdr ds es/\(zdn ds es=true->∀p∈ds.zip es,zm2 k p.1 p.2):=by
   intro ds es us vs p
   induction p generalizing es vs with
   |nil=>intro q;cases q <;> simp[lex,zdr]
   |cons a b ih2 =>
    intro q
    cases q with
    |nil=>simp[lex,zdr]
    |cons a' b' =>
     obtain⟨i1,i2⟩:=ih2 b';obtain⟨j1,j2⟩:=ih a a';refine⟨?_,λh=>?_⟩
     ·rw[lex,zdr,zrh a a',i1,j1]
     ·rw[zdn,gc]at h
      intro p hp;rw[vh]at hp;rcases yb.mp hp with rfl|hp
      ·exact j2 h.1
      ·exact i2 h.2 p hp
  cases d with
  |sc a =>
   cases e with
   |sc b=>rw[dlt,zb9];exact⟨rfl,λh=>h⟩
   |_=>simp[ltD,dlt,zb9]
  |tup ds =>
   cases e with
   |tup es=>obtain⟨_,_,_,_,p⟩:=h1;obtain⟨_,_,_,_,p'⟩:=h2;rw[dlt,zb9];exact all p p'
   |_=>simp[ltD,dlt,zb9]
  |lst ds =>
   cases e with
   |lst es=>obtain⟨_,_,_,_,p⟩:=h1;obtain⟨_,_,_,_,p'⟩:=h2;rw[dlt,zb9];exact all p p'
   |_=>simp[ltD,dlt,zb9]
  |_=>exact h1.elim
noncomputable def atObj(a:Addr)(o:Obj):HO:=.ext λh=>h.get? a=some o
structure KOrd(rs:List D)(lt:Nat->Nat->Bool):Prop where
 wo:WO lt
 ok:∀r∈rs,dOk LV r=true
 kd:(∀r∈rs,zn3 r=true)\/∀r∈rs,zn3 r=false/\z08 r=true
 lo:∀(i j:Nat) (r t:D),rs[i]?=some r->rs[j]?=some t->zb9 r t=true/\lt i j=dlt r t
section
variable {X:Cx}{pins:List (Addr×Obj)}{σ:St}{H Hf:Hp}{s:Shared}{a kS f:Addr}{e1:Nat}{E:Value->Shared->Prop}{P:PySem.Fin->Shared->Prop}{A:Around}
theorem zvl{P:Program}{w:World}{H:Hp}{h:Heap}{a:Addr}{o:Obj}(e:h.get? a=some o):zbi P w H h a (atObj a o):=⟨e,⟨o,e⟩,λ_ _ p k=>k o p⟩
theorem Inv.atObj{o:Obj}(I:Inv X pins σ H s)(h:H a=some (atObj a o)):s.heap.get? a=some o:=(show zbi X.prog X.w H s.heap a (L2.atObj a o) from I.hok a _ h).1
theorem z9z {st':SortSt}{ks ys:List V}{out:List Value} (I:Inv X pins σ H s) (hk:H kS=some (.lst ks)) (ha:H a=some (atObj a (seqObj "list" #[] e1))) (hne:kS≠a) (ho:(arrOf st').map (·.2)=out.toArray) (hf:failedOf st'=none) (ry:zbs ys out) (hz:out.length<=1000)
  (q:∀s',Inv X pins σ (upd (upd H kS (.lst [])) a (.lst ys)) s'->P (.done (.ret .none)) s'):wpAny (model X.prog X.w) A (ksk_tail a false e1 (.ref kS) st') P E s:=by
 obtain⟨its,n,rk,hok,hkz⟩:=I.lst hk;have haO:=I.atObj ha;have I1:Inv X pins σ (upd H kS (.lst [])) { s with heap:=s.heap.update kS (Obj.mapSeq λ_=>(#[]:Array Value)),toks:=s.toks }:=I.lstUpd (its':=[]) (n':=if (#[]:Array Value).size == its.toArray.size then n else n+1) hk hok rfl .nil (vd _) s.toks;have haO1:(s.heap.update kS (Obj.mapSeq λ_=>(#[]:Array Value))).get? a=some (seqObj "list" #[] e1):=(af _ _ hne).trans haO;have hnew:=get?_update_seq haO1 (λ_=>out.toArray);have hH1:(upd H kS (.lst [])) a=some (atObj a (seqObj "list" #[] e1)):=by rw[zae hne.symm];exact ha
 have I2:=I1.write (x:=a) (e:=a) (o:=.lst ys) (t':=s.toks) (h':=(s.heap.update kS (Obj.mapSeq λ_=>(#[]:Array Value))).update a (Obj.mapSeq λ_=>out.toArray)) (by rw[hH1];trivial) (.inl rfl) (λb u hb e=>(af _ _ (gh hb)).trans e) ⟨_,hnew⟩
  ⟨by rw[ry.length];exact sz (by omega),out,_,ry,hnew⟩
 unfold ksk_tail;dsimp only;refine aa (ul hok rfl ?_ (by rw[xa,<-rk.length];exact hkz) (vd _));refine aa (wpAny_letGo ?_);refine aa (seqEpoch_at haO1 rfl ?_);rw[ho];refine aa (ul haO1 rfl ?_ (vd _) (by show out.toArray.size<=_;rw[xa];exact Nat.le_succ_of_le (sz (by omega))));rw[hf];simp only[bne_self_eq_false,bc,dh];exact va (q _ I2)
theorem z90{r:D}{k:V}{u:Value}(I:Inv X pins σ H s)(fh:zav Hf H)(dn:Dn X.K Hf r k)(o:dOk LV r=true)(rl:zbf k u):HD s.heap LV r u:=I.den ((dn.same fh).at o) rl
theorem zhy{h:Heap}:∀{rs:List D}{us:List Value},Paired (HD h LV) rs us->(∀r∈rs,zn3 r=false/\z08 r=true)->∃fs,PySem.W.KatTups h us fs/\fs.length=us.length/\∀v∈fs,∃b o,v=.ref b/\h.get? b=some o/\o.cls=.type "list"
 |_,_,.nil,_=>⟨[],.nil,rfl,λv hv=>by cases hv⟩
 |r::rs,u::us,.cons a b,hr=>by
  obtain⟨fs,t,l,g⟩:=zhy b λx hx=>hr x (da _ hx)
  obtain⟨x1,x2⟩:=hr r za
  cases r with
  |tup ds =>
   cases ds with
   |nil=>cases x2
   |cons d0 ds =>
    cases d0 with
    |lst es =>
     obtain⟨c,its,rfl,t1,p⟩:=a;obtain⟨o,ho,hc,n,hd⟩:=t1
     cases p with
     |cons p1 p2 =>
      obtain⟨c2,its2,rfl,pl,_⟩:=p1;obtain⟨o2,ho2,hc2,_⟩:=pl.isList;refine⟨.ref c2::fs,.cons (f:=.ref c2) ho hc hd (by simp) t,by simp[l],λv hv=>?_⟩;rcases yb.mp hv with rfl|hv
      ·exact⟨c2,o2,rfl,ho2,hc2⟩
      ·exact g v hv
    |sc _=>cases x2
    |tup _=>cases x2
    |dk _ _=>cases x2
    |dt _ _=>cases x2
    |er _ _ _=>cases x2
  |lst _=>cases x1
  |sc _=>cases x2
  |dk _ _=>cases x2
  |dt _ _=>cases x2
  |er _ _ _=>cases x2
theorem zkn{M:Model}{h:Heap}{b:Addr}{o:Obj}{T:Value}(ho:h.get? b=some o)(hc:o.cls=T):PySem.W.Looks M h (typeOf (.ref b)) T:=by
 subst hc;exact(PySem.W.Looks.ld ho).andThen .now
def SzK(lt:Nat->Nat->Bool)(n:Nat):Prop:=(n<128\/Tim.UpF lt (List.range n).toArray 0 n)/\n<=1000
theorem ycq{rs:List D}{us vs:List Value}{lt:Nat->Nat->Bool}{before:Nat}{keyStore:Value}(hp:Paired (HD s.heap LV) rs us)(ord:KOrd rs lt)(hl:us.length=vs.length)(h64:SzK lt vs.length)(hu:A.units+LV<cLine)
  (tail:∀(st':SortSt) (π:Array Nat),Ix vs.length π->Up lt π vs.length->(arrOf st').map (·.2)=(π.toList.map λi=>vs.getD i Value.none).toArray->failedOf st'=none->wpAny (model X.prog X.w) A (ksk_tail a false before keyStore st') P E s) :
  wpAny (model X.prog X.w) A (ksk_end a false vs.toArray before keyStore us.toArray) P E s:=by
 unfold ksk_end;dsimp only;simp only[bc,dh];have hrl:=hp.length;by_cases h2:vs.toArray.size<2
 ·rw[ba h2,ba h2]
  refine aa (va ?_);rw[StateT.run_pure];refine aa (va ?_);dsimp only;rw[xa]at h2;refine tail _ (List.range vs.length).toArray (xh _) (λi j hij hj=>?_) ?_ rfl
  ·have:i=j:=by omega
   rw[this];exact ord.wo.irr _
  ·show ((us.toArray.zip vs.toArray)).map (·.2)=_
   have e1:(us.toArray.zip vs.toArray).map (·.2)=vs.toArray:=by
    apply wj;simp[List.map_snd_zip,hl]
   rw[e1]
   congr 1
   apply zf;intro i;by_cases hi:i<vs.length
   ·simp[hi]
   ·simp[hi]
 ·rw[oa h2,oa h2]
  rw[xa]at h2
  have run:∀κ:SortKind,((κ=oneType'/\∀r∈rs,zn3 r=true)\/(κ=tuples' true/\∀r∈rs,zn3 r=false/\z08 r=true))->wpAny (model X.prog X.w) A (sortRuns'.run (SortSt.mk' κ (us.toArray.zip vs.toArray) #[] 7 none) >>= λx=>ksk_tail a false before keyStore x.2) P E s:=by
   intro κ hκ
   have hitem:us.toArray.zip vs.toArray=(List.range vs.length).toArray.map λi=>(us.getD i Value.none,vs.getD i Value.none):=by
    apply wj;rw[Array.toList_zip,io];show us.zip vs=(List.range vs.length).map _;apply zf;intro i;rw[pc];by_cases hi:i<vs.length
    ·rw[pq hi,ed (by rw[List.length_zip];omega),List.getElem_zip]
     have hi':i<us.length:=by omega
     simp[hi,hi']
    ·rw[wg (by rw[List.length_zip];omega),wg (by simp;omega)];rfl
   have hw:Tim.WOr lt:=⟨ord.wo.irr,ord.wo.nt,ord.wo.asy⟩
   rw[hitem];refine aa (ug (Tim.s_sort2 (κ:=κ) (n:=vs.length) (lt:=lt) (item:=λi=>(us.getD i Value.none,vs.getD i Value.none)) (Q:=λ_ t=>∃π:Array Nat,Ix vs.length π/\Up lt π vs.length/\(arrOf t).map (·.2)=(π.toList.map λi=>vs.getD i Value.none).toArray/\failedOf t=none) ?ask hw (xh _) (by omega) h64.1 λq pend _ hq hu=>⟨q,hq,λi j hij hj=>hu i j (vd _) hij (by omega),?_,rfl⟩) (λr s' hr=>?_) λ_ _ e=>e)
   case ask =>
    intro i j hi hj C hC;show wpAny (model X.prog X.w) A (keyLt' κ (us.getD i Value.none) (us.getD j Value.none)) C (λ_ _=>False) s;have hi':i<us.length:=by omega
    have hj':j<us.length:=by omega
    obtain⟨ri,qi,di⟩:=zax hp (show us[i]?=some us[i] by simp[hi']);obtain⟨rj,qj,dj⟩:=zax hp (show us[j]?=some us[j] by simp[hj']);have ei:us.getD i Value.none=us[i]:=by simp[hi']
    have ej:us.getD j Value.none=us[j]:=by simp[hj']
    rw[ei,ej];obtain⟨o1,o2⟩:=ord.lo i j ri rj qi qj;have mi:=ge qi;have mj:=ge qj;have lo:=z09 di dj;refine z5p (k:=7) di dj (lo.2 o1) (by omega) ?_ (by rw[lo.1,<-o2];exact hC);rcases hκ with⟨rfl,h⟩|⟨rfl,h⟩
    ·exact .inl ⟨rfl,h _ mi,h _ mj⟩
    ·exact .inr ⟨rfl,(h _ mi).1,(h _ mj).1,(h _ mi).2,(h _ mj).2⟩
   ·show ((q.map _).map _)=_
    apply wj;simp[zd,Function.comp_def]
   ·obtain⟨rfl,π,g1,g2,g3,g4⟩:=hr
    exact tail _ π g1 g2 g3 g4
  rcases ord.kd with hk|hk
  ·refine aa (PySem.W.kas_kind (T:=.type "list") (by omega) (λv hv=>?_) rfl rfl (run _ (.inl ⟨rfl,hk⟩)))
   obtain⟨i,hi⟩:=yl hv;obtain⟨r,qr,dr⟩:=zax hp hi
   have:=hk r (ge qr)
   cases r with
   |lst es =>
    obtain⟨c,its,rfl,pl,_⟩:=dr;obtain⟨o,ho,hc,_⟩:=pl.isList;exact zkn ho hc
   |_=>cases this
  ·obtain⟨fs,t,lf,g⟩:=zhy hp hk
   refine aa (PySem.W.kat_kind (T:=.type "list") t (by omega) (λv hv=>?_) rfl (run _ (.inr ⟨rfl,hk⟩)));obtain⟨b,o,rfl,ho,hc⟩:=g v hv;exact zkn ho hc
end
section
variable {X:Cx}{pins:List (Addr×Obj)}{σ:St}{H Hf:Hp}{s:Shared}{a kS f:Addr}{e1 k:Nat}{E:Value->Shared->Prop}{P:PySem.Fin->Shared->Prop}{fd:FuncData}{p:Str}{F:List D->Option D}
theorem z1a{sp:Sp}{u:Value}{v:V}{Q:VK}(G:FnOk X.prog X.w X.K X.mg X.base CX0 k f fd [p] sp)(hr:Room k X.A.in1.in1)(hb:zdu X.K fd [p] [])(I:Inv X pins σ H s)(r:zbf v u)(h:sp [v] H Q E0):wpAny (model X.prog X.w) X.A.in1.in1 (call (.ref f) [u]) (EP X pins σ Q) (λ_ _=>False) s:=by
 have hbb:BindsTo s fd ⟨[u],[]⟩ ([p].zip [u]):=by have:=hb s [u] I.kIn rfl;rwa [kc]at this
 refine wpAny_call (zo (G.run X.A.in1.in1 X.stack s H ⟨[u],[]⟩ [u] [v] Q E0 hr I.env0.in1.in1 hbb (.cons r .nil) h) λr s' hq=>?_)
 cases r with
 |error e=>exact hq.elim
 |ok fl =>
  cases fl with
  |ret u=>exact I.after hq
  |next=>exact False.elim hq
  |brk=>exact False.elim hq
  |cont=>exact False.elim hq
structure KI(X:Cx)(pins:List (Addr×Obj))(σ:St)(Hf H:Hp)(a kS:Addr)(o:Obj)(rs:List D)(s:Shared)(Hf' H':Hp)(ks:List V):Prop where
 inv:Inv X pins σ H' s
 st:H' kS=some (.lst ks)
 at_:H' a=some (atObj a o)
 fr:∀b ob,b≠kS->H b=some ob->H' b=some ob
 ff:zav Hf Hf'
 fh:zav Hf' H'
 nw:∀b,Hf' b≠none->Hf b≠none\/zhc H b
 nf:∀b o u,Hf' b=some (.frz o u)->Hf b=some (.frz o u)
 dn:Dns X.K Hf' rs ks
theorem z91{xs:List V}{vs:List Value}{ds rs:List D}{lt:Nat->Nat->Bool}(G:FnOk X.prog X.w X.K X.mg X.base CX0 k f fd [p] (spV X.K 1 F))(hr:Room k X.A.in1.in1)(hb:zdu X.K fd [p] [])
  (I:Inv X pins σ H s) (hkS:H kS=some (.lst [])) (ha:H a=some (atObj a (seqObj "list" #[] e1))) (hne:kS≠a) (hfk:Hf kS=none) (fh:zav Hf H) (hd:Dns X.K Hf ds xs) (rv:zbs xs vs)
  (hF:∀(i:Nat) d,ds[i]?=some d->∃r,rs[i]?=some r/\F [d]=some r) (hl:rs.length=ds.length) (h64:SzK lt ds.length) (ord:KOrd rs lt)
  (q:∀Hf' H' ks s' (π:Array Nat) s2 ys,KI X pins σ Hf H a kS (seqObj "list" #[] e1) rs s' Hf' H' ks->Ix ds.length π->Up lt π ds.length->ys=π.toList.map (λi=>xs.getD i V.non)->Inv X pins σ (upd (upd H' kS (.lst [])) a (.lst ys)) s2->P (.done (.ret .none)) s2) :
  wpAny (model X.prog X.w) X.A.in1.in1 (ksk_rest a (.ref f) false vs.toArray e1 (.ref kS)) P E s:=by
 have l1:ds.length=xs.length:=hd.length;have l2:xs.length=vs.length:=rv.length;have h6:=h64.2;unfold ksk_rest;refine aa (vg ?_);rw[List.forIn_toArray];refine aa (ksk_fold (λi s'=>∃Hf' H' ks,KI X pins σ Hf H a kS (seqObj "list" #[] e1) (rs.take i) s' Hf' H' ks) vs 0 s ⟨Hf,H,[],⟨I,hkS,ha,λ_ _ _ h=>h,zav.refl _,fh,λ_ h=>.inl h,λ_ _ _ h=>h,by rw[List.take_zero];exact .nil⟩⟩ ?step ?done)
 case step =>
  rintro j x s' hx ⟨Hf',H',ks,K⟩;simp only[de]at K ⊢;have hj:j<vs.length:=(ya.mp hx).1;obtain⟨v,qv,rx⟩:=zax rv hx;obtain⟨d,qd,dd⟩:=zax hd qv;obtain⟨r,qr,hr'⟩:=hF j d qd;have hkl:ks.length<=1000:=by rw[<-K.dn.length,ph];omega
  refine aa (gn (ug (z1a (Q:=λv H2=>∃Hf2,Ex Hf' H' Hf2 H2/\Dn X.K Hf2 r v) G hr hb K.inv rx ⟨Hf',[d],r,K.fh,.cons (dd.same K.ff) .nil,rfl,hr',λHf2 H2 v ex dv=>⟨Hf2,ex,dv⟩⟩) (λu s2 he=>?_) λ_ _ h=>h.elim));obtain⟨w,H2,I2,rw_,Hf2,ex,dw⟩:=he;dsimp only;have hk2:H2 kS=some (.lst ks):=ex.hh _ _ K.st;obtain⟨its,n,rk,hok,hkz⟩:=I2.lst hk2
  have hfk2:Hf2 kS=none:=by
   cases z:Hf2 kS with
   |none=>rfl
   |some o =>
    rcases ex.nw kS (by rw[z];exact λz=>nomatch z) with y|y
    ·rcases K.nw kS y with y|y
     ·exact absurd hfk y
     ·exact(y.no hkS (λ_ z=>nomatch z)).elim
    ·exact(y.no K.st (λ_ z=>nomatch z)).elim
  have I3:Inv X pins σ (upd H2 kS (.lst (ks++[w]))) { s2 with heap:=s2.heap.update kS (Obj.mapSeq (·.push u)),toks:=s2.toks }:=I2.lstUpd (its':=its++[u]) (n':=if (its.toArray.push u).size == its.toArray.size then n else n+1) hk2 hok (by show Obj.mk _ _ _ _=_;simp[Obj.mapSeq]) (rk.append (.cons rw_ .nil)) (by rw[jc,pd];exact sz (by omega)) s2.toks;have hla:=rk.length;refine aa (ul hok rfl ?_ (by rw[xa,<-hla];exact sz (by omega)) (by show (its.toArray.push u).size<=_;rw[Array.size_push,xa,<-hla];exact Nat.le_succ_of_le (sz (by omega))));refine va ⟨rfl,Hf2,upd H2 kS (.lst (ks++[w])),ks++[w],⟨I3,zac,by rw[zae hne.symm];exact ex.hh _ _ K.at_,λb ob hb e=>by rw[zae hb];exact ex.hh _ _ (K.fr b ob hb e),K.ff.trans ex.ff,λb ob e=>?_,λb h=>?_,λb o u h=>K.nf b o u (ex.nf b o u h),?_⟩⟩
  ·rw[zae (zai e hfk2)];exact ex.fh b ob e
  ·rcases ex.nw b h with y|y
   ·exact K.nw b y
   ·by_cases hb:b=kS
    ·subst hb;exact(y.no K.st (λ_ z=>nomatch z)).elim
    ·cases z:H b with
     |none=>exact .inr (.inl z)
     |some o =>
      rcases y with y|⟨xs,y⟩
      ·rw[K.fr b o hb z]at y;cases y
      ·rw[K.fr b o hb z]at y;cases y;exact .inr (.inr ⟨xs,z⟩)
  ·have:rs.take (j+1)=rs.take j++[r]:=by rw[List.take_add_one,qr];rfl
   rw[this];exact(K.dn.same ex.ff).zsnoc dw
 case done =>
  rintro s' ⟨Hf',H',ks,K⟩;rw[de,je (by omega)]at K;obtain⟨its,n,rk,hok,hkz⟩:=K.inv.lst K.st;refine aa (listItems_at hok rfl ?_)
  have hp:Paired (HD s'.heap LV) rs its:=by
   have all:∀{rs:List D} {ks:List V} {us:List Value},Dns X.K Hf' rs ks->zbs ks us->(∀r∈rs,dOk LV r=true)->Paired (HD s'.heap LV) rs us:=by
    intro rs ks us d
    induction d generalizing us with
    |nil=>intro v _;cases v;exact .nil
    |cons a b ih=>intro v o;cases v with|cons c e=>exact .cons (z90 K.inv K.fh a (o _ za) c) (ih e λr h=>o r (da _ h))
   exact all K.dn rk ord.ok
  have hil:its.length=vs.length:=by rw[<-hp.length];omega
  refine ycq (vs:=vs) hp ord hil (by rw[<-l2,<-l1];exact h64) (by have:=hr.units;show _+9<cLine;omega) λst' π h1 h2 h3 h4=>?_
  have hn:vs.length=ds.length:=by omega
  rw[hn]at h1 h2;refine z9z (ys:=π.toList.map λi=>xs.getD i V.non) K.inv K.st K.at_ hne h3 h4 ?_ (by rw[ia,ve,h1.size];exact h64.2) λs2 I2=>q Hf' H' ks s' π s2 _ K h1 h2 rfl I2
  have bd:∀i∈π.toList,i<ds.length:=λi hi=>df.mp (h1.mem_iff.mp hi)
  have each:∀l:List Nat,(∀i∈l,i<ds.length)->zbs (l.map λi=>xs.getD i V.non) (l.map λi=>vs.getD i Value.none):=by
   intro l
   induction l with
   |nil=>intro _;exact .nil
   |cons i r ih =>
    intro h;have hi:=h i za;refine .cons ?_ (ih λj hj=>h j (da _ hj));have hiv:i<vs.length:=by omega
    have ev:vs[i]?=some vs[i]:=ed hiv;obtain⟨v,qv,rx⟩:=zax rv ev;show zbf (xs.getD i V.non) (vs.getD i Value.none);rw[wc,qv,wc,ev];exact rx
  exact each _ bd
end
section
variable {X:Cx}{pins:List (Addr×Obj)}{σ:St}{H Hf:Hp}{s:Shared}{a f:Addr}{k:Nat}{E:Value->Shared->Prop}{P:PySem.Fin->Shared->Prop}{fd:FuncData}{p:Str}{F:List D->Option D}
structure KEnd(X:Cx)(pins:List (Addr×Obj))(σ:St)(Hf H:Hp)(a:Addr)(xs:List V)(n:Nat)(lt:Nat->Nat->Bool)(s:Shared)(Hf' H':Hp)(π:Array Nat):Prop where
 inv:Inv X pins σ H' s
 at_:H' a=some (.lst (π.toList.map λi=>xs.getD i V.non))
 fa:Hf' a=none
 ff:zav Hf Hf'
 fh:zav Hf' H'
 fr:∀b ob,b≠a->H b=some ob->H' b=some ob
 nw:∀b,Hf' b≠none->Hf b≠none\/zhc H b
 nf:∀b o u,Hf' b=some (.frz o u)->Hf b=some (.frz o u)
 ix:Ix n π
 up:Up lt π n
theorem z92{xs:List V}{ds rs:List D}{lt:Nat->Nat->Bool}(G:FnOk X.prog X.w X.K X.mg X.base CX0 k f fd [p] (spV X.K 1 F))(hr:Room k X.A.in1.in1)(hb:zdu X.K fd [p] [])
  (I:Inv X pins σ H s) (ha:H a=some (.lst xs)) (hfa:Hf a=none) (fh:zav Hf H) (hd:Dns X.K Hf ds xs)
  (hF:∀(i:Nat) d,ds[i]?=some d->∃r,rs[i]?=some r/\F [d]=some r) (hl:rs.length=ds.length) (h64:SzK lt ds.length) (ord:KOrd rs lt)
  (q:∀Hf' H' s' (π:Array Nat),KEnd X pins σ Hf H a xs ds.length lt s' Hf' H' π->P (.done (.ret .none)) s') :
  wpAny (model X.prog X.w) X.A.in1.in1 (ksk_tree a (.ref f) false) P E s:=by
 obtain⟨vs,n,rv,ho,hz⟩:=I.lst ha;have lv:=rv.length;have ld:=hd.length;have h6:=h64.2;have ho1:=get?_update_seq ho (λ_=>(#[]:Array Value));generalize he1:(if (#[]:Array Value).size == vs.toArray.size then n else n+1)=e1 at ho1;have I1:Inv X pins σ (upd H a (atObj a (seqObj "list" #[] e1))) { s with heap:=s.heap.update a (Obj.mapSeq λ_=>(#[]:Array Value)),toks:=s.toks }:=I.write (x:=a) (e:=a) (by rw[ha];trivial) (.inl rfl) (λb u hb e=>(af _ _ (gh hb)).trans e) ⟨_,ho1⟩ (zvl ho1);have I2:Inv X pins σ (upd H a (atObj a (seqObj "list" #[] e1))) { s with heap:=(s.heap.update a (Obj.mapSeq λ_=>(#[]:Array Value))).push (seqObj "tuple" vs.toArray 0),toks:=s.toks }:=I1.kept λb o e=>bb _ e
 have I3:=I2.laid (a:=((s.heap.update a (Obj.mapSeq λ_=>(#[]:Array Value))).push (seqObj "tuple" vs.toArray 0)).objs.size) (o:=.lst []) (t':=s.toks) (h':=((s.heap.update a (Obj.mapSeq λ_=>(#[]:Array Value))).push (seqObj "tuple" vs.toArray 0)).push (seqObj "list" #[] 0)) (λb o e=>bb _ e) (wa _) ⟨vd _,[],0,.nil,cc _ rfl⟩;have hfresh:(upd H a (atObj a (seqObj "list" #[] e1))) ((s.heap.update a (Obj.mapSeq λ_=>(#[]:Array Value))).push (seqObj "tuple" vs.toArray 0)).objs.size=none:=I2.hok.fresh (wa _);unfold ksk_tree;refine aa (listItems_at ho rfl ?_);refine aa (ul ho rfl ?_ (by rw[xa,<-lv];exact hz) (vd _));refine aa (seqEpoch_at ho1 rfl ?_);refine aa (wpAny_newTuple ?_ (by show vs.length<=_;rw[<-lv];exact hz));refine aa (wpAny_newList ?_ (vd _));refine lg ?_;generalize hkS:((s.heap.update a (Obj.mapSeq λ_=>(#[]:Array Value))).push (seqObj "tuple" vs.toArray 0)).objs.size=kS at I3 hfresh;have hne:kS≠a:=λz=>by subst z;rw[zac]at hfresh;cases hfresh
 have hHk:H kS=none:=by rw[zae hne]at hfresh;exact hfresh
 have hfk:Hf kS=none:=fh.free hHk
 have fh3:zav Hf (upd (upd H a (atObj a (seqObj "list" #[] e1))) kS (.lst [])):=λb o e=>by
  rw[zae (zai e hfk),zae (zai e hfa)];exact fh b o e
 have h3:∀{b:Addr},b≠a->b≠kS->(upd (upd H a (atObj a (seqObj "list" #[] e1))) kS (.lst [])) b=H b:=λ{b} h1 h2=>by rw[zae h2,zae h1]
 refine z91 (kS:=kS) G hr hb I3 zac (by rw[zae hne.symm,zac]) hne hfk fh3 hd rv hF hl h64 ord λHf' H' ks s' π s2 ys K hix hup hys I4=>q Hf' (upd (upd H' kS (.lst [])) a (.lst ys)) s2 π ?_
 have fa':Hf' a=none:=by
  cases z:Hf' a with
  |none=>rfl
  |some o =>
   rcases K.nw a (by rw[z];exact λz=>nomatch z) with y|y
   ·exact absurd hfa y
   ·exact(y.no (by rw[zae hne.symm,zac]) (λ_ z=>by unfold atObj at z;cases z)).elim
 have fk':Hf' kS=none:=by
  cases z:Hf' kS with
  |none=>rfl
  |some o =>
   rcases K.nw kS (by rw[z];exact λz=>nomatch z) with y|y
   ·exact absurd hfk y
   ·exact(y.no zac (λ_ z=>nomatch z)).elim
 subst hys;refine⟨I4,zac,fa',K.ff,λb o e=>?_,λb ob h1 e=>?_,λb h=>?_,K.nf,hix,hup⟩
 ·rw[zae (zai e fa'),zae (zai e fk')];exact K.fh b o e
 ·have h2:b≠kS:=λz=>by subst z;rw[hHk]at e;cases e
  rw[zae h1,zae h2];exact K.fr b ob h2 (by rw[h3 h1 h2];exact e)
 ·rcases K.nw b h with y|y
  ·exact .inl y
  ·have h1:b≠a:=λz=>by subst z;exact h fa'
   have h2:b≠kS:=λz=>by subst z;exact h fk'
   unfold zhc at y;rw[h3 h1 h2]at y;exact .inr y
theorem zfb{xs:List V}{ds rs:List D}{lt:Nat->Nat->Bool}{u:Value}{Q:VK}(G:FnOk X.prog X.w X.K X.mg X.base CX0 k f fd [p] (spV X.K 1 F))(hr:Room k X.A.in1.in1)(hb:zdu X.K fd [p] [])
  (I:Inv X pins σ H s) (fh:zav Hf H) (hd:Dns X.K Hf ds xs)
  (hcol:∀R:List Value->Shared->Prop,(∀h' tk vs,(∀b o,s.heap.get? b=some o->h'.get? b=some o)->zbs xs vs->R vs { s with heap:=h',toks:=tk })->wpAny (model X.prog X.w) X.A.in1 (collect u) R X.xe s)
  (hF:∀(i:Nat) d,ds[i]?=some d->∃r,rs[i]?=some r/\F [d]=some r) (hl:rs.length=ds.length) (h64:SzK lt ds.length) (ord:KOrd rs lt)
  (q:∀Hf' H' l (π:Array Nat),Ex Hf H Hf' H'->H l=none->Hf' l=none->H' l=some (.lst (π.toList.map λi=>xs.getD i V.non))->Ix ds.length π->Up lt π ds.length->Q (.ref l) H') :
  wpAny (model X.prog X.w) X.A (call (.builtin "sorted") [u] [(Str.ofString "key",.ref f)]) (EP X pins σ Q) X.xe s:=by
 have ld:=hd.length;have h6:=h64.2;refine call_function_entry_kw kind_sorted plain_sorted entry_sorted (ksk_s1 _ _) ?_
 unfold Builtin.«sorted»;refine aa (m:=checkCount "sorted" 1 1 _) (va ?_);refine aa (hcol _ λh' tk vs keep rv=>?_);have lv:=rv.length;refine aa (wpAny_newList ?_ (by rw[<-lv];exact sz (by omega)));have I1:Inv X pins σ H { s with heap:=h',toks:=tk }:=I.kept keep;have I2:=I1.laid (a:=h'.objs.size) (o:=.lst xs) (t':=tk) (h':=h'.push (seqObj "list" vs.toArray 0)) (λb o e=>bb _ e) (wa _) ⟨sz (by omega),vs,0,rv,cc _ rfl⟩;have hfl:H h'.objs.size=none:=I1.hok.fresh (wa _);have hoL:(h'.push (seqObj "list" vs.toArray 0)).get? h'.objs.size=some (seqObj "list" vs.toArray 0):=cc _ rfl;refine aa (lg (wpAny_call_entry_kw slot_list_sort ⟨_,hoL,rfl⟩ entry_list_sort ?body (ksk_l1 _ _)))
 case body =>
  have ht:=ksk_t1 f h'.objs.size;show wpAny (model X.prog X.w) X.A.in1.in1 (Builtin.«list.sort» ⟨[.ref h'.objs.size],[(Str.ofString "key",.ref f)]⟩) _ _ _;rw[ht];refine z92 G hr hb I2 zac (fh.free hfl) (fh.trans (zas hfl)) hd hF hl h64 ord λHf' H' s' π K=>?_
  refine⟨_,rfl,va ⟨_,rfl,.ref h'.objs.size,H',K.inv,rfl,q Hf' H' _ π ⟨K.ff,λb o e=>?_,K.fh,λb h=>?_,K.nf⟩ hfl K.fa K.at_ K.ix K.up⟩⟩
  ·have hn:b≠h'.objs.size:=zai e hfl
   exact K.fr b o hn (by rw[zae hn];exact e)
  ·rcases K.nw b h with y|y
   ·exact .inl y
   ·by_cases hn:b=h'.objs.size
    ·subst hn;exact .inr (.inl hfl)
    ·unfold zhc at y;rw[zae hn]at y;exact .inr y
end
def zpi(h:Heap)(d:Addr)(es:Array DictEntry)(ep:Nat):Prop:=∃o,h.get? d=some o/\o.ExactDict/\o.data=.dict es ep
section
variable {prog:Program}{w:World}{A:Around}{E:Value->Shared->Prop}{s:Shared}{d it:Addr}{es:Array DictEntry}{ep i:Nat}
theorem zpi.ty(x:zpi s.heap d es ep):s.TypeIs (.ref d) "dict":=let ⟨o,ho,hc,_⟩:=x;⟨o,ho,hc.1⟩
theorem zpi.at{h h':Heap}(x:zpi h d es ep)(e:∀o,h.get? d=some o->h'.get? d=some o):zpi h' d es ep:=let ⟨o,ho,r⟩:=x;⟨o,e _ ho,r⟩
theorem zpi.lt{h:Heap}(x:zpi h d es ep):d<h.objs.size:=let ⟨_,ho,_⟩:=x;wb ho
theorem zvm {Q:Value->Shared->Prop} (hd:(d == sysModules)=false) (hm:zpi s.heap d es ep) (hQ:Q (.ref s.heap.objs.size) { s with heap:=s.heap.push { cls:=.type "dict_keyiterator",data:=.fields #[.ref d,.int 0 0,.int es.size 0,.int ep 0] } }):wpAny (model prog w) A (pyIter (.ref d)) Q E s:=by
 obtain⟨o,ho,hc,hdat⟩:=id hm;refine wpAny_pyIter_slot hm.ty PySem.F.slot_dict_iter (yi PySem.F.slot_dict_iter hm.ty PySem.F.entry_dict_iter ?_ (PySem.F.args_dict_iter_1 _));unfold Builtin.«dict.__iter__»;refine aa ?_;unfold Builtin.Dict.dictSlotNone;refine aa (wpAny_notOrdered_dict hm.ty ?_);show wpAny _ _ (pure (Value.ref d)) _ _ s;refine va ?_;show wpAny _ _ (Builtin.Dict.showsAll d >>= _) _ _ s;unfold Builtin.Dict.showsAll;rw[oa (by rw[hd];exact la)];refine aa (va ?_);refine aa (xk ho hdat ?_);refine aa (vp ho hdat ?_);refine aa (og (va ⟨_,rfl,"dict_keyiterator",_,⟨_,cc _ rfl,rfl⟩,PySem.F.slot_dict_keyiterator_next.lookup,?_⟩));simpa [rawInt] using hQ
theorem zvn{Q:Option Value->Shared->Prop}(hit:s.heap.IsKeyIter it d i es.size ep)(hm:zpi s.heap d es ep)(hi:i<es.size)(hQ:∀h',h'.IsKeyIter it d (i+1) es.size ep->Heap.SameBut it s.heap h'->Q (some es[i].key) { s with heap:=h' }):wpAny (model prog w) A (pyNext (.ref it)) Q E s:=by
 obtain⟨o,ho,hc,hd⟩:=id hit;obtain⟨od,hod,hcd,hdd⟩:=id hm;unfold pyNext;refine aa (gn (xi (name:=Str.ofString "__next__") hit.typeIs PySem.F.slot_dict_keyiterator_next (yi PySem.F.slot_dict_keyiterator_next hit.typeIs PySem.F.entry_dict_keyiterator_next ?_ (PySem.F.args_dict_keyiterator_next_1 _))));refine aa (va ?_);refine aa ?_;refine aa ?_
 first|refine aa (ah hit.typeIs (va ?_));refine aa (tm ho hd ?_)|refine aa (oi hit.typeIs (va ?_));refine aa (tm ho hd ?_)
 have hown:Builtin.Dict_items.ownsTuple "dict_keyiterator" = false:=by decide +kernel
 simp only[hown,bc,dh];show wpAny _ _ (if (Value.ref d == Value.none)=true then _ else _) _ _ s;rw[oa (show ¬((Value.ref d == Value.none)=true) from la)];refine aa (va ?_);refine aa (xk hod hdd ?_);rw[oa (by simp)];refine aa (va ?_);refine aa (vp hod hdd ?_);rw[oa (by simp)];refine va ?_;simp only[show ¬((i:Int)<0) from by omega,dh,uk,wf hi];refine aa ?_
 first|refine aa (ah hit.typeIs (va ?_));refine aa (zk hit.typeIs ?_)|refine aa (oi hit.typeIs (va ?_));refine aa (zk hit.typeIs ?_)
 show wpAny _ _ (setField (.ref it) 1 (rawInt ((i:Int)+1)) >>= _) _ _ s;refine aa (wpAny_setField ho hd (by simp) ?_);have hit':(s.heap.update it (Obj.mapFields (·.setIfInBounds 1 (rawInt ((i:Int)+1))))).IsKeyIter it d (i+1) es.size ep:=⟨_,kj _ ho (Obj.isFreed_of_fields (Obj.data_mapFields hd _)),(Obj.cls_mapFields ..).trans hc,by rw[Obj.data_mapFields hd];simp[rawInt]⟩
 refine aa (lg ?_);refine aa (zk (s:={ s with heap:=s.heap.update it (Obj.mapFields (·.setIfInBounds 1 (rawInt ((i:Int)+1)))) }) hit'.typeIs ?_);show wpAny _ _ (pure es[i].key) _ _ _;exact va (va ⟨_,rfl,va (hQ _ hit' (ui ..))⟩)
theorem z1b{Q:Option Value->Shared->Prop}(hh:A.handled=none)(hit:s.heap.IsKeyIter it d i es.size ep)(hm:zpi s.heap d es ep)(hi:es.size<=i)(hQ:∀h',Heap.ExtBut it s.heap h'->Q none { s with heap:=h' }):wpAny (model prog w) A (pyNext (.ref it)) Q E s:=by
 obtain⟨o,ho,hc,hd⟩:=id hit;obtain⟨od,hod,hcd,hdd⟩:=id hm;unfold pyNext;refine aa (gn (xi (name:=Str.ofString "__next__") hit.typeIs PySem.F.slot_dict_keyiterator_next (yi PySem.F.slot_dict_keyiterator_next hit.typeIs PySem.F.entry_dict_keyiterator_next ?_ (PySem.F.args_dict_keyiterator_next_1 _))));refine aa (va ?_);refine aa ?_;refine aa ?_
 first|refine aa (ah hit.typeIs (va ?_));refine aa (tm ho hd ?_)|refine aa (oi hit.typeIs (va ?_));refine aa (tm ho hd ?_)
 have hown:Builtin.Dict_items.ownsTuple "dict_keyiterator" = false:=by decide +kernel
 simp only[hown,bc,dh];show wpAny _ _ (if (Value.ref d == Value.none)=true then _ else _) _ _ s;rw[oa (show ¬((Value.ref d == Value.none)=true) from la)];refine aa (va ?_);refine aa (xk hod hdd ?_);rw[oa (by simp)];refine aa (va ?_);refine aa (vp hod hdd ?_);rw[oa (by simp)];refine va ?_;simp only[show ¬((i:Int)<0) from by omega,dh,uk,jk hi];refine aa ?_
 first|refine aa (ah hit.typeIs (va ?_));show wpAny _ _ (setField (.ref it) 0 .none >>= _) _ _ s|refine aa (oi hit.typeIs (va ?_));show wpAny _ _ (setField (.ref it) 0 .none >>= _) _ _ s
 refine aa (wpAny_setField ho hd (by simp) ?_);show wpAny _ _ (newExc (.type "StopIteration") [] >>= _) _ _ _;refine aa ?_;simp only[newExc,newTuple];refine aa (og ?_ (by size_fits));refine aa (m:=firstArgMember _ _) (wpAny_of_eq (a:=Value.none) (by first|rfl|(simp only[firstArgMember];rfl)) ?_);refine og ?_ (by size_fits);simp only[raiseNew];refine aa (wpAny_handled ?_);rw[show A.in1.handled=none from hh];refine aa (va (wpAny_throw ?_));refine aa (bo (T:="StopIteration") (b:=true) ⟨_,cc _ rfl,rfl⟩ isSubtype_stop ?_);exact va (hQ _ (((ui ..).extBut.push _).push _))
theorem zse(hh:A.handled=none)(I d:Addr)(hne:d≠I)(es:Array DictEntry)(ep:Nat):Walks prog w A I [I,d] [I] es.size (λi v=>∃e,es[i]?=some e/\v=e.key) (λi h=>h.IsKeyIter I d i es.size ep/\zpi h d es ep) where
 sub:=λb hb=>by simp at hb;simp[hb]
 frame:=λ_ _ _ x hk=>⟨x.1.at λo e=>hk I (by simp) o e,x.2.at λo e=>hk d (by simp) o e⟩
 item:=λi s Q E hi x hQ=>zvn x.1 x.2 hi λh' hit' hs'=>hQ _ h' s.toks ⟨es[i],by simp[hi],rfl⟩ ⟨hit',x.2.at λo e=>(hs'.2 d hne).trans e⟩ λb o hb e=>hs'.extBut b o (λz=>hb (by simp[z])) e
 done:=λs Q E x hQ=>z1b hh x.1 x.2 (wa _) λh' he'=>hQ h' s.toks λb o hb e=>he' b o (λz=>hb (by simp[z])) e
 self:=λ_ _ _ _ x hQ=>wpAny_pyIter_keyiter x.1 hQ
theorem z1c(lo:(d == sysModules)=false):PySem.W.KdlSrc prog w "dict" d d es.size (λi v=>∃e,es[i]?=some e/\v=e.key) (λh=>zpi h d es ep) where
 type:=λ_ x=>x.ty
 there:=λ_ x=>⟨x.lt,x.lt⟩
 keep:=λ_ _ x hk=>x.at λo e=>hk d (.inl rfl) o e
 notList:=by decide
 notTuple:=by decide
 hint:=λ_ _ _ _ x hq=>PySem.W.kdl_hint_dict x.ty hq
 iter:=λ_ _ hh x=>⟨_,_,(λ_ _ hq=>zvm lo x hq),zse hh _ d (yd x.lt) es ep,⟨⟨_,cc _ rfl,rfl,rfl⟩,x.at λo e=>bb _ e⟩⟩
theorem zgw{R:List Value->Shared->Prop}(hh:A.handled=none)(lo:(d == sysModules)=false)(x:zpi s.heap d es ep)(hn:es.size<=sizeLine)(h:∀h' tk,(∀b o,s.heap.get? b=some o->h'.get? b=some o)->R (es.toList.map (·.key)) { s with heap:=h',toks:=tk }):wpAny (model prog w) A (collect (.ref d)) R E s:=by
 refine PySem.W.kdu_collect (z1c (es:=es) (ep:=ep) lo) hh x hn λh' tk acc keep hacc=>?_
 have e:acc.toList=es.toList.map (·.key):=by
  apply zf;intro i;obtain⟨h1,h2⟩:=hacc;by_cases hi:i<acc.size
  ·obtain⟨e,q1,q2⟩:=h2 i _ (wf hi)
   rw[rf,wf hi,q2,pc,rf,q1];rfl
  ·rw[rf,jk (by omega),wg (by rw[ia,ve];omega)]
 rw[e];exact h h' tk keep
end
noncomputable def z1d:D->Bool|.sc (.str _)=>true|_=>false
noncomputable def sgI:Nat->D->Bool
 |0,.sc (.int _)=>true
 |1,.sc (.bl _)=>true
 |2,.tup ds=>ds.all z1d
 |_,_=>false
noncomputable def sgs:List Nat->List D->Bool
 |[],[]=>true
 |n::ns,d::ds=>sgI n d && sgs ns ds
 |_,_=>false
noncomputable def isN(sg:List Nat):D->Bool
 |.tup ds=>sgs sg ds
 |_=>false
mutual
noncomputable def zha:D->Bool
 |.sc (.int _)=>true
 |.sc (.bl _)=>true
 |.sc (.str _)=>true
 |.tup ds=>zfs ds
 |_=>false
noncomputable def zfs:List D->Bool
 |[]=>true
 |d::ds=>zha d && zfs ds
end
mutual
noncomputable def hD(w:World):D->Int
 |.sc (.int i)=>hashInt i
 |.sc (.bl b)=>if b then 1 else 0
 |.sc (.str x)=>hashStr w x
 |.tup ds=>reduceHash (Builtin.Tuple.tupleHashOf (hDs w ds))
 |_=>0
noncomputable def hDs(w:World):List D->List Int
 |[]=>[]
 |d::ds=>hD w d::hDs w ds
end
mutual
noncomputable def dr:D->Nat
 |.tup ds=>drs ds+1
 |_=>1
noncomputable def drs:List D->Nat
 |[]=>0
 |d::ds=>dr d+drs ds
end
section
variable {prog:Program}{w:World}{E:Value->Shared->Prop}
theorem zko{A:Around}{k:Nat}(ih:∀{s:Shared}{d:D}{u:Value}{Q:Int->Shared->Prop},HD s.heap k d u->zha d=true->Q (hD w d) { s with toks:=s.toks+dr d }->wpAny (model prog w) A (pyHash u) Q E s) :
  ∀{ds:List D} {its:List Value} {s:Shared} {b:Array Int} {Q:Array Int->Shared->Prop},Paired (HD s.heap k) ds its->zfs ds=true->(∀b':Array Int,b'.toList=b.toList++hDs w ds->Q b' { s with toks:=s.toks+drs ds }) →
  wpAny (model prog w) A (forIn its b λx r=>do let h ← pyHash x;pure PUnit.unit;pure (ForInStep.yield (r.push h))) Q E s
 |_,_,s,b,Q,.nil,_,h=>by rw[List.forIn_nil];exact va (by have:=h b (by simp[hDs]);simpa [drs] using this)
 |d::ds,u::its,s,b,Q,.cons a r,hk,h=>by
  rw[zfs,gc]at hk;rw[List.forIn_cons];refine aa (aa (ih a hk.1 ?_));refine aa (va (va ?_));refine zko ih (s:={ s with toks:=s.toks+dr d }) r hk.2 λb' hb=>?_
  have:=h b' (by rw[hb,hDs];simp)
  rw[drs]at this
  simpa [Nat.add_assoc] using this
theorem z5q:∀{k:Nat}{A:Around}{s:Shared}{d:D}{u:Value}{Q:Int->Shared->Prop},HD s.heap k d u->zha d=true->A.units+k<cLine->Q (hD w d) { s with toks:=s.toks+dr d }->wpAny (model prog w) A (pyHash u) Q E s:=by
 intro k
 induction k with
 |zero =>
  intro A s d u Q h hk hu q
  cases d with
  |sc v =>
   obtain⟨_,r⟩:=h
   cases v with
   |int i=>obtain⟨t,rfl⟩:=r;exact rn q
   |str x=>obtain⟨t,rfl⟩:=r;exact vn q
   |bl b =>
    cases r;refine PySem.W.pyHash_slot (T:="bool") rfl PySem.F.slot_bool_hash entry_int_hash (args_int_hash _) (jo _) (.inr (by omega)) ?_
    cases b
    ·exact(show wpAny _ _ (do ret (← mkInt 0)) _ _ s from aa (zm (va ⟨_,_,rfl,q⟩)))
    ·exact(show wpAny _ _ (do ret (← mkInt 1)) _ _ s from aa (zm (va ⟨_,_,rfl,q⟩)))
   |_=>cases hk
  |_=>exact h.elim
 |succ k ih =>
  intro A s d u Q h hk hu q
  cases d with
  |sc v =>
   obtain⟨_,r⟩:=h
   cases v with
   |int i=>obtain⟨t,rfl⟩:=r;exact rn q
   |str x=>obtain⟨t,rfl⟩:=r;exact vn q
   |bl b =>
    cases r;refine PySem.W.pyHash_slot (T:="bool") rfl PySem.F.slot_bool_hash entry_int_hash (args_int_hash _) (jo _) (.inr (by omega)) ?_
    cases b
    ·exact(show wpAny _ _ (do ret (← mkInt 0)) _ _ s from aa (zm (va ⟨_,_,rfl,q⟩)))
    ·exact(show wpAny _ _ (do ret (← mkInt 1)) _ _ s from aa (zm (va ⟨_,_,rfl,q⟩)))
   |_=>cases hk
  |tup ds =>
   obtain⟨a,its,rfl,t,p⟩:=h;obtain⟨o,ho,hc,n,hd⟩:=t;rw[zha]at hk;refine PySem.W.pyHash_slot (T:="tuple") ⟨_,ho,hc⟩ PySem.F.slot_tuple_hash PySem.F.entry_tuple_hash (PySem.F.args_tuple_hash_1 _) (jo _) (.inr (by omega)) ?_;show wpAny _ _ (Builtin.Tuple.tupleItemsOf (.ref a) >>= _) _ _ s;refine aa (wpAny_tupleItemsOf ho hd ?_);refine aa ?_;rw[<-Array.forIn_toList];refine zko (A:=A.in1) (k:=k) (λ{s d u Q} h1 h2 q1=>ih h1 h2 (by show A.units+1+k<cLine;omega) q1) p hk λb' hb=>?_
   show wpAny _ _ (retInt (Builtin.Tuple.tupleHashOf b'.toList)) _ _ _;rw[hb];refine aa (zm (va ⟨_,_,rfl,?_⟩));rw[hD,dr]at q
   simpa [Nat.add_assoc] using q
  |_=>cases hk
theorem z1e:∀{k n:Nat}{A:Around}{s:Shared}{d:D}{u:Value}{Q:Bool->Shared->Prop},HD s.heap k d u->zha d=true->k<=n->Q true s->wpAny (model prog w) A (eqIsQuiet n u) Q E s:=by
 have flat:∀{n:Nat} {A:Around} {s:Shared} {v:V} {u:Value} {Q:Bool->Shared->Prop},zbf v u->zha (.sc v)=true->Q true s->wpAny (model prog w) A (eqIsQuiet n u) Q E s:=by
  intro n A s v u Q r hk q
  have hv:carriedByValue u=true:=by
   cases v with
   |int i=>obtain⟨t,rfl⟩:=r;rfl
   |str x=>obtain⟨t,rfl⟩:=r;rfl
   |bl b=>cases r;rfl
   |_=>cases hk
  rw[eqIsQuiet_byValue n hv];exact va q
 intro k
 induction k with
 |zero =>
  intro n A s d u Q h hk hn q
  cases d with
  |sc v=>exact flat h.2 hk q
  |_=>exact h.elim
 |succ k ih =>
  intro n A s d u Q h hk hn q
  cases d with
  |sc v=>exact flat h.2 hk q
  |tup ds =>
   obtain⟨a,its,rfl,t,p⟩:=h;obtain⟨o,ho,hc,m,hd⟩:=t;rw[zha]at hk;obtain⟨n',rfl⟩:∃n',n=n'+1:=⟨n - 1,by omega⟩
   unfold eqIsQuiet;refine aa (bm (T:="tuple") ⟨_,ho,hc⟩ PySem.F.slot_tuple_eq.lookup ?_);show wpAny _ _ (isInstance (.ref a) (.type "tuple") >>= _) _ _ s;refine aa (bo (T:="tuple") ⟨_,ho,hc⟩ isSubtype_tuple_tuple ?_);simp only[ef,bc,dh];refine aa (wpAny_seqItems ho hd ?_);refine aa ?_;show wpAny _ _ (forIn its.toArray _ _) _ _ s;rw[<-Array.forIn_toList];refine zn _ (λrest r s'=>r.1=none/\s'=s/\∃es,Paired (HD s.heap k) es rest/\zfs es=true) _ ?_ ?_ _ _ ⟨rfl,rfl,ds,p,hk⟩
   ·rintro v rest r s' ⟨hr,rfl,es,pe,he⟩
    cases pe with
    |cons a1 b1 =>
     rw[zfs,gc]at he;refine aa (ih a1 he.1 (by omega) ?_);simp only[ef,bc,dh];exact va ⟨rfl,rfl,_,b1,he.2⟩
   ·rintro⟨r1,r2⟩ s' ⟨hr,rfl,_⟩
    simp only at hr;subst hr;exact va q
  |_=>cases hk
theorem z1f{h h':Heap}{c:Addr}{o:Obj}{es:Array DictEntry}{ep:Nat}(ho:h.get? c=some o)(hd:o.data=.dict es ep)(hs:Heap.SameBut c h h'):∀{k:Nat}{d:D}{u:Value},HD h k d u->HD h' k d u:=by
 intro k
 induction k with
 |zero=>intro d u x;cases d <;> exact x
 |succ k ih =>
  intro d u x
  have ne:∀{b:Addr} {o':Obj} {xs:Array Value} {n:Nat},h.get? b=some o'->o'.data=.seq xs n->b≠c:=λ{b o' xs n} e1 e2 z=>by
   subst z;rw[ho]at e1;cases e1;rw[hd]at e2;cases e2
  cases d with
  |sc v=>exact x
  |tup ds =>
   obtain⟨a,its,e,⟨o',h1,h2,n,h3⟩,p⟩:=x;exact⟨a,its,e,⟨o',(hs.2 a (ne h1 h3)).trans h1,h2,n,h3⟩,p.zmap λ_ _=>ih⟩
  |lst ds =>
   obtain⟨a,its,e,⟨o',n,h1,h2,h3⟩,p⟩:=x;exact⟨a,its,e,⟨o',n,(hs.2 a (ne h1 (by first|exact h3.2.1|exact h3.2|exact h3.2.2))).trans h1,h2,h3⟩,p.zmap λ_ _=>ih⟩
  |_=>exact x.elim
end
theorem zn4:∀{ds es:List D},ds.all z1d=true->es.all z1d=true->(zb7 ds es=true↔ds=es)
 |[],[],_,_=>by simp[zb7]
 |[],_::_,_,_=>by simp[zb7]
 |_::_,[],_,_=>by simp[zb7]
 |d::ds,e::es,h1,h2=>by
  rw[ng,gc]at h1 h2;have ih:=zn4 h1.2 h2.2
  cases d with
  |sc a =>
   cases a with
   |str x =>
    cases e with
    |sc b =>
     cases b with
     |str y=>rw[zb7,gc,ih,deq];simp[eqV]
     |_=>cases h2.1
    |_=>cases h2.1
   |_=>cases h1.1
  |_=>cases h1.1
theorem z5r{n:Nat}{d e:D}(h1:sgI n d=true)(h2:sgI n e=true):deq d e=true↔d=e:=by
 match n,d,e,h1,h2 with
 |0,.sc (.int i),.sc (.int j),_,_=>rw[deq];simp[eqV]
 |1,.sc (.bl i),.sc (.bl j),_,_=>rw[deq];simp[eqV]
 |2,.tup ds,.tup es,h1,h2=>rw[deq,zn4 h1 h2];simp
theorem zsf:∀{sg:List Nat}{ds es:List D},sgs sg ds=true->sgs sg es=true->(zb7 ds es=true↔ds=es)
 |[],[],[],_,_=>by simp[zb7]
 |n::sg,d::ds,e::es,h1,h2=>by
  rw[sgs,gc]at h1 h2;rw[zb7,gc,z5r h1.1 h2.1,zsf h1.2 h2.2];simp
theorem z1g{n:Nat}{d:D}(h:sgI n d=true):zha d=true:=by
 match n,d,h with
 |0,.sc (.int i),_=>simp[zha]
 |1,.sc (.bl i),_=>simp[zha]
 |2,.tup ds,h =>
  rw[zha]
  have:∀l:List D,l.all z1d=true->zfs l=true:=by
   intro l
   induction l with
   |nil=>intro _;simp[zfs]
   |cons a r ih =>
    intro h;rw[ng,gc]at h;rw[zfs,ih h.2]
    cases a with
    |sc v=>cases v <;> first|(simp[zha];done)|cases h.1
    |_=>cases h.1
  exact this ds h
theorem zn5:∀{sg:List Nat}{ds:List D},sgs sg ds=true->zfs ds=true
 |[],[],_=>by simp[zfs]
 |n::sg,d::ds,h=>by
  rw[sgs,gc]at h;rw[zfs,z1g h.1,zn5 h.2];rfl
theorem zn6{sg:List Nat}{d:D}(h:isN sg d=true):zha d=true:=by
 cases d with
 |tup ds=>rw[zha];exact zn5 h
 |_=>cases h
theorem zsg{sg:List Nat}{d e:D}(h1:isN sg d=true)(h2:isN sg e=true):deq d e=true↔d=e:=by
 cases d with
 |tup ds =>
  cases e with
  |tup es=>rw[deq,zsf h1 h2];simp
  |_=>cases h2
 |_=>cases h1
open Classical in
noncomputable def zvo(prog:Program)(w:World)(sg:List Nat):HeapKind prog w D where
 is:=λh d a=>isN sg d=true/\HD h 3 d (.ref a)
 hash:=hD w
 draws:=dr
 room:=λA=>A.units+3<cLine
 inj:=λh1 h2=>zxg h1.2 h2.2
 keeps:=λh ho hd hs=>⟨h.1,z1f ho hd hs h.2⟩
 pyHash:=λhu hk h=>z5q hk.2 (zn6 hk.1) hu h
 eqBool:=λ{A E s x y a b Q} hu hx hy h=>by
  refine zh6 hx.2 hy.2 hu prog w E Q ?_;rw[zrh hx.2 hy.2]
  have:deq x y=decide (x=y):=by
   by_cases e:x=y
   ·rw[ub e];exact(zsg hx.1 hy.1).mpr e
   ·rw[md e];exact Bool.eq_false_iff.mpr λz=>e ((zsg hx.1 hy.1).mp z)
  rw[this];exact h
 quiet:=λhk h=>z1e hk.2 (zn6 hk.1) (by omega) h
noncomputable def z2v(lt:D->D->Bool)(x:D):List D->List D
 |[]=>[x]
 |y::r=>if lt x y=true then x::y::r else y::z2v lt x r
noncomputable def zpu(lt:D->D->Bool):List D->List D
 |[]=>[]
 |x::r=>z2v lt x (zpu lt r)
structure LtT(lt:D->D->Bool)(S:List D):Prop where
 tr:∀a∈S,∀b∈S,∀c∈S,lt a b=true->lt b c=true->lt a c=true
 tot:∀a∈S,∀b∈S,a=b\/lt a b=true\/lt b a=true
 as:∀a∈S,∀b∈S,lt a b=true->lt b a=false
theorem zgx(lt:D->D->Bool)(x:D):∀l,(z2v lt x l).Perm (x::l)
 |[]=>xh _
 |y::r=>by
  unfold z2v;split
  ·exact xh _
  ·exact((zgx lt x r).cons y).trans (kq x y r)
theorem zc5(lt:D->D->Bool):∀l,(zpu lt l).Perm l
 |[]=>xh _
 |x::r=>(zgx lt x _).trans ((zc5 lt r).cons x)
theorem zsh{lt:D->D->Bool}{S:List D}(T:LtT lt S){x:D}(hx:x∈S):∀{l:List D},(∀y∈l,y∈S)->x ∉ l->l.Pairwise (λa b=>lt a b=true)->(z2v lt x l).Pairwise (λa b=>lt a b=true)
 |[],_,_,_=>mn _ _
 |y::r,hS,hn,h=>by
  have hy:=hS y za;unfold z2v;split
  ·rename_i hxy
   refine jf.mpr ⟨λz hz=>?_,h⟩;rcases yb.mp hz with rfl|hz
   ·exact hxy
   ·exact T.tr x hx y hy z (hS z (da _ hz)) hxy ((jf.mp h).1 z hz)
  ·rename_i hxy
   refine jf.mpr ⟨λz hz=>?_,zsh T hx (λz hz=>hS z (da _ hz)) (λz=>hn (da _ z)) (jf.mp h).2⟩;rcases yb.mp ((zgx lt x r).mem_iff.mp hz) with rfl|hz
   ·rcases T.tot _ hx y hy with e|e|e
    ·exact absurd (e ▸ za) hn
    ·exact absurd e hxy
    ·exact e
   ·exact(jf.mp h).1 z hz
theorem zmd{lt:D->D->Bool}{S:List D}(T:LtT lt S):∀{l:List D},(∀y∈l,y∈S)->l.Nodup->(zpu lt l).Pairwise (λa b=>lt a b=true)
 |[],_,_=>lj
 |x::r,hS,hn=>by
  have hn:=cg.mp hn;exact zsh T (hS x za) (λy hy=>hS y (da _ ((zc5 lt r).mem_iff.mp hy))) (λz=>hn.1 ((zc5 lt r).mem_iff.mp z)) (zmd T (λy hy=>hS y (da _ hy)) hn.2)
theorem zvp{lt:D->D->Bool}{l out:List D}(T:LtT lt l)(hn:l.Nodup)(hp:out.Perm l)(ho:out.Pairwise λa b=>lt b a=false):out=zpu lt l:=by
 have h1:=zc5 lt l
 have h2:(zpu lt l).Pairwise λa b=>lt b a=false:=by
  have up:=zmd T (λy hy=>hy) hn;rw[qe]at up ⊢;intro i j hi hj hij;exact T.as _ (h1.mem_iff.mp (ye hi)) _ (h1.mem_iff.mp (ye hj)) (up i j hi hj hij)
 refine(hp.trans h1.symm).eq_of_pairwise (λa b ha hb e1 e2=>?_) ho h2;rcases T.tot a (hp.mem_iff.mp ha) b (h1.mem_iff.mp hb) with e|e|e
 ·exact e
 ·rw[e]at e2;cases e2
 ·rw[e]at e1;cases e1
noncomputable def rk(F:List D->Option D)(d:D):D:=(F [d]).getD .non
noncomputable def ltK(F:List D->Option D)(d e:D):Bool:=dlt (rk F d) (rk F e)
structure KOk(F:List D->Option D)(ks:List D):Prop where
 ex:∀d∈ks,∃r,F [d]=some r/\dOk LV r=true
 kd:(∀d∈ks,zn3 (rk F d)=true)\/∀d∈ks,zn3 (rk F d)=false/\z08 (rk F d)=true
 ok:∀d∈ks,∀e∈ks,zb9 (rk F d) (rk F e)=true
 lt:LtT (ltK F) ks
 nd:ks.Nodup
 sm:(ks.length<128\/ks.Pairwise λa b=>ltK F a b=true)/\ks.length<=1000
open Classical in
noncomputable def zft(F:List D->Option D)(ks:List D):Option (List D):=if KOk F ks then some (zpu (ltK F) ks) else none
theorem zfc{F:List D->Option D}{d r:D}(h:F [d]=some r):rk F d=r:=by unfold rk;rw[h];rfl
noncomputable def ltI(F:List D->Option D)(ks:List D)(i j:Nat):Bool:=ltK F (ks.getD (min i (ks.length - 1)) .non) (ks.getD (min j (ks.length - 1)) .non)
theorem KOk.irr{F:List D->Option D}{ks:List D}(h:KOk F ks){d:D}(hd:d∈ks):ltK F d d=false:=by
 cases e:ltK F d d with
 |false=>rfl
 |true=>have:=h.lt.as d hd d hd e;rw[e]at this;cases this
theorem KOk.wo{F:List D->Option D}{ks:List D}(h:KOk F ks)(hn:0<ks.length):WO (ltI F ks):=by
 have m:∀i,ks.getD (min i (ks.length - 1)) .non∈ks:=λi=>by
  have hi:min i (ks.length - 1)<ks.length:=by omega
  rw[wc,ed hi];exact ye hi
 refine⟨λa=>h.irr (m a),λa b c hac=>?_,λa b hab=>h.lt.as _ (m a) _ (m b) hab⟩;unfold ltI at hac ⊢;rcases h.lt.tot _ (m a) _ (m b) with e|e|e
 ·rw[<-e];exact .inr hac
 ·exact .inl e
 ·exact .inr (h.lt.tr _ (m b) _ (m a) _ (m c) e hac)
theorem KOk.sz{F:List D->Option D}{ks:List D}(h:KOk F ks):SzK (if 0<ks.length then ltI F ks else λ_ _=>false) ks.length:=by
 refine⟨h.sm.1.imp id λpw i j _ hij hj=>?_,h.sm.2⟩;have g:∀k,k<ks.length->Tim.ga (List.range ks.length).toArray k=k:=λk hk=>by rw[Tim.ga_eq];simp[hk]
 rw[g i (by omega),g j (by omega),ba (by omega)];have e:∀k (hk:k<ks.length),ks.getD (min k (ks.length - 1)) .non=ks[k]:=λk hk=>by rw[show min k (ks.length - 1)=k by omega,wc,ed hk];rfl
 unfold ltI;rw[e i (by omega),e j (by omega)];by_cases z:i=j
 ·subst z;exact h.irr (ye _)
 ·exact h.lt.as _ (ye _) _ (ye _) (qe.mp pw i j (by omega) (by omega) (by omega))
theorem KOk.ord{F:List D->Option D}{ks:List D}(h:KOk F ks):KOrd (ks.map (rk F)) (if 0<ks.length then ltI F ks else λ_ _=>false):=by
 refine⟨?_,λr hr=>?_,?_,λi j r t hi hj=>?_⟩
 ·split
  ·rename_i hn;exact h.wo hn
  ·exact⟨λ_=>rfl,(λ_ _ _ z=>nomatch z),(λ_ _ z=>nomatch z)⟩
 ·obtain⟨d,hd,rfl⟩:=vb.mp hr
  obtain⟨r,h1,h2⟩:=h.ex d hd;rw[zfc h1];exact h2
 ·rcases h.kd with k|k
  ·exact .inl λr hr=>by obtain⟨d,hd,rfl⟩:=vb.mp hr;exact k d hd
  ·exact .inr λr hr=>by obtain⟨d,hd,rfl⟩:=vb.mp hr;exact k d hd
 ·rw[pc]at hi hj
  obtain⟨d,hd,rfl⟩:=db.mp hi;obtain⟨e,he,rfl⟩:=db.mp hj;have i1:=(ya.mp hd).1;have j1:=(ya.mp he).1;refine⟨h.ok d (ge hd) e (ge he),?_⟩;rw[ba (by omega)];unfold ltI ltK;rw[show min i (ks.length - 1)=i by omega,show min j (ks.length - 1)=j by omega,wc,hd,wc,he];rfl
theorem KOk.out{F:List D->Option D}{ks:List D}(h:KOk F ks){π:Array Nat}(hix:Ix ks.length π)(hup:Up (if 0<ks.length then ltI F ks else λ_ _=>false) π ks.length):π.toList.map (λi=>ks.getD i .non)=zpu (ltK F) ks:=by
 have hsz:=hix.size;have bd:∀i∈π.toList,i<ks.length:=λi hi=>df.mp (hix.mem_iff.mp hi)
 refine zvp h.lt h.nd ?_ ?_
 ·have e:(List.range ks.length).map (λi=>ks.getD i D.non)=ks:=by
   apply zf;intro i;by_cases hi:i<ks.length
   ·simp[hi]
   ·simp[hi]
  have:=hix.map λi=>ks.getD i D.non
  rwa [e]at this
 ·rw[qe]
  intro i j hi hj hij;rw[ia,ve]at hi hj;have u:=hup i j (by omega) (by omega);rw[ba (by omega)]at u;have gi:gp π i=π[i]:=by rw[z49];simp[hi]
  have gj:gp π j=π[j]:=by rw[z49];simp[hj]
  have bi:=bd π[i] (by simp);have bj:=bd π[j] (by simp);unfold ltI at u;rw[gi,gj,show min π[i] (ks.length - 1)=π[i] by omega,show min π[j] (ks.length - 1)=π[j] by omega]at u
  simpa using u
noncomputable abbrev zpj:DecidableEq D:=λa b=>Classical.propDecidable (a=b)
noncomputable def zhi(prog:Program)(w:World)(sg:List Nat)(p:Addr)(xs:List (D×Addr×Value)):HO:=.ext λh=>(p == sysModules)=false/\∃o es ep,h.get? p=some o/\o.ExactDict/\o.data=.dict es ep/\es.toList=xs.map (@entryOfKey prog w D zpj (zvo prog w sg))/\(xs.map (·.1)).Nodup
def zsi(K:PySem.W.Frag)(Hf:Hp)(sg:List Nat)(xs:List (D×Addr×Value)):Prop:=∀x∈xs,isN sg x.1=true/\Dn K Hf x.1 (.ref x.2.1)/\x.2.2=.bool true
open Classical in
noncomputable def zis(ks:List D)(d:D):List D:=if d∈ks then ks else ks++[d]
section
variable {X:Cx}{pins:List (Addr×Obj)}{σ:St}{H Hf:Hp}{s:Shared}{sg:List Nat}{p:Addr}{xs:List (D×Addr×Value)}
theorem z1h{P:Program}{w:World}{H:Hp}{h:Heap}{a:Addr}{φ:Heap->Prop}(h1:φ h)(h2:∃o,h.get? a=some o)(h3:∀h1 h2:Heap,φ h1->(∀o,h1.get? a=some o->h2.get? a=some o)->φ h2):zbi P w H h a (.ext φ):=⟨h1,h2,h3⟩
theorem zn7{P:Program}{w:World}{H:Hp}{h:Heap}(h1:(p == sysModules)=false){o:Obj}{es:Array DictEntry}{ep:Nat}(ho:h.get? p=some o)(hx:o.ExactDict)(hd:o.data=.dict es ep)(he:es.toList=xs.map (@entryOfKey P w D zpj (zvo P w sg)))(hn:(xs.map (·.1)).Nodup):zbi P w H h p (zhi P w sg p xs) :=
 z1h ⟨h1,o,es,ep,ho,hx,hd,he,hn⟩ ⟨o,ho⟩ λ_ _ ⟨a1,o,es,ep,a2,r⟩ k=>⟨a1,o,es,ep,k o a2,r⟩
theorem Inv.ndict(I:Inv X pins σ H s)(h:H p=some (zhi X.prog X.w sg p xs)):(p == sysModules)=false/\∃o es ep,s.heap.get? p=some o/\o.ExactDict/\o.data=.dict es ep/\es.toList=xs.map (@entryOfKey X.prog X.w D zpj (zvo X.prog X.w sg))/\(xs.map (·.1)).Nodup :=
 (show zbi X.prog X.w H s.heap p (zhi X.prog X.w sg p xs) from I.hok p _ h).1
theorem z1i{x:D}(h:z1d x=true):dOk 1 x=true:=by
 cases x with
 |sc v=>rfl
 |_=>cases h
theorem z1j{d:D}(h:isN sg d=true):dOk 3 d=true:=by
 cases d with
 |tup ds =>
  have str:∀l:List D,l.all z1d=true->l.all (dOk 1)=true:=λl h=>jd.mpr λx hx=>(z1i (jd.mp h x hx))
  have one:∀(n:Nat) (d:D),sgI n d=true->dOk 2 d=true:=λn d h=>by
   match n,d,h with
   |0,.sc (.int i),_=>rfl
   |1,.sc (.bl i),_=>rfl
   |2,.tup ds,h=>exact str ds h
  have all:∀{sg:List Nat} {ds:List D},sgs sg ds=true->ds.all (dOk 2)=true:=by
   intro sg
   induction sg with
   |nil=>intro ds h;cases ds with|nil=>rfl|cons _ _=>cases h
   |cons n sg ih =>
    intro ds h
    cases ds with
    |nil=>cases h
    |cons d ds =>
     rw[sgs,gc]at h;rw[ng,one n d h.1,ih h.2];rfl
  exact all h
 |_=>cases h
theorem ybl(I:Inv X pins σ H s)(fh:zav Hf H){d:D}{a:Addr}(hN:isN sg d=true)(dn:Dn X.K Hf d (.ref a)):isN sg d=true/\HD s.heap 3 d (.ref a):=⟨hN,I.den ((dn.same fh).at (z1j hN)) rfl⟩
theorem zsj{xs:List (D×Addr×Value)}{K:PySem.W.Frag}(hx:zsi K Hf sg xs){d:D}{a:Addr}(hN:isN sg d=true)(dn:Dn K Hf d (.ref a)):zsi K Hf sg (@storedH D zpj xs d a (.bool true))/\(@storedH D zpj xs d a (.bool true)).map (·.1)=zis (xs.map (·.1)) d:=by
 unfold storedH zis;by_cases h:d∈xs.map (·.1)
 ·have h2:(@atKey D zpj xs d).isSome=true:=by
   unfold atKey;rw[ki,List.find?_isSome];obtain⟨x,hx1,hx2⟩:=vb.mp h;exact⟨x,hx1,@ub _ (zpj _ _) hx2⟩
  rw[ba h2,ba h]
  have e:xs.map (@putAt D zpj d (.bool true))=xs:=by
   refine(xf λx hx1=>?_).trans (List.map_id _);show @putAt D zpj d (.bool true) x=x;unfold putAt;split
   ·rw[<-(hx x hx1).2.2]
   ·rfl
  rw[e];exact⟨hx,rfl⟩
 ·have h2:¬(@atKey D zpj xs d).isSome=true:=λz=>by
   unfold atKey at z;rw[ki,List.find?_isSome]at z;obtain⟨x,hx1,hx2⟩:=z;exact h (vb.mpr ⟨x,hx1,@lc _ (zpj _ _) hx2⟩)
  rw[oa h2,oa h];refine⟨λx hx1=>?_,by rw[xb];rfl⟩;rcases ac.mp hx1 with hx1|hx1
  ·exact hx x hx1
  ·rw[zb.mp hx1];exact⟨hN,dn,rfl⟩
theorem ycr{a:Addr}{d:D}{Q:Unit->Shared->Prop}{E:Value->Shared->Prop}(hu:X.A.units+4<cLine)(I:Inv X pins σ H s)(fh:zav Hf H)(hp:H p=some (zhi X.prog X.w sg p xs))(hx:zsi X.K Hf sg xs)(hl:xs.length<=100000)(hN:isN sg d=true)(dn:Dn X.K Hf d (.ref a))
  (q:∀s',Inv X pins σ (upd H p (zhi X.prog X.w sg p (@storedH D zpj xs d a (.bool true)))) s'->Q () s'):wpAny (model X.prog X.w) X.A (setItem (.ref p) (.ref a) (.bool true)) Q E s:=by
 obtain⟨h0,o,es,ep,h1,h2,h3,h4,h5⟩:=I.ndict hp;refine@wpAny_setItem_heap X.prog X.w D zpj (zvo X.prog X.w sg) X.A E s p a d xs (.bool true) Q (show X.A.units+1+3<cLine by omega) (ybl I fh hN dn) ⟨o,es,ep,h1,h2,h3,h4,λx hx1=>ybl I fh (hx x hx1).1 (hx x hx1).2.1,h5⟩ (λh' hd' hs=>q _ ?_) (sz hl);obtain⟨o',es',ep',g1,g2,g3,g4,_,g5⟩:=hd';exact I.write (x:=p) (e:=p) (by rw[hp];trivial) (.inl rfl) (λb u hb e=>(hs.2 b hb).trans e) ⟨_,g1⟩ (zn7 h0 g1 g2 g3 g4 g5)
end
structure NS(X:Cx)(B:Bs)(sg:List Nat)(j:Nat)(Hf:Hp)(ρ:Rho)(σ:St)(H:Hp)(ks:List D):Prop where
 vi:VI X.K B Hf ρ σ H
 nj:ρ[j]?=some none
 ex:∃p xs,σ[j]?=some (some (.ref p))/\Hf p=none/\B.h p=none/\H p=some (zhi X.prog X.w sg p xs)/\xs.map (·.1)=ks/\zsi X.K Hf sg xs
noncomputable abbrev GN:=Rho->List D->Option (Rho×List D)
noncomputable def sNx(X:Cx)(B:Bs)(sg:List Nat)(j:Nat)(g:GN):TS:=λD σ H=>∃Hf ρ ks ρ' ks',NS X B sg j Hf ρ σ H ks/\g ρ ks=some (ρ',ks')/\∀Hf' σ' H',zav Hf Hf'->NS X B sg j Hf' ρ' σ' H' ks'->D.nx σ' H'
noncomputable def zsk(sg:List Nat)(fk:Rho->Option D):GN:=λρ ks=>(fk ρ).bind λd=>if isN sg d=true/\ks.length<=100000 then some (ρ,zis ks d) else none
noncomputable def zsl(gt:D->Rho->Option Rho)(f:GN):List D->GN
 |[],ρ,ks=>some (ρ,ks)
 |d::r,ρ,ks=>(gt d ρ).bind λρ1=>(f ρ1 ks).bind λz=>zsl gt f r z.1 z.2
noncomputable def zt7(fi:Rho->Option (List D))(gt:D->Rho->Option Rho)(f:GN):GN:=λρ ks=>(fi ρ).bind λds=>zsl gt f ds ρ ks
theorem zit{Hf H Hf' H':Hp}{p:Addr}{o:HO}(e:Ex Hf H Hf' H')(h1:Hf p=none)(h2:H p=some o)(ho:∀xs,o≠.tup xs:=by intro xs z;cases z):Hf' p=none:=by
 cases z:Hf' p with
 |none=>rfl
 |some u =>
  rcases e.nw p (by rw[z];exact λz=>nomatch z) with y|y
  ·exact absurd h1 y
  ·exact(y.no h2 ho).elim
section
variable {X:Cx}{B:Bs}{sg:List Nat}{j:Nat}{Hf Hf' H H':Hp}{ρ:Rho}{σ:St}{ks:List D}{K:PySem.W.Frag}
theorem NS.ext(I:NS X B sg j Hf ρ σ H ks)(e:Ex Hf H Hf' H'):NS X B sg j Hf' ρ σ H' ks :=
 ⟨I.vi.ext e,I.nj,let ⟨p,xs,h1,h2,h3,h4,h5,h6⟩:=I.ex;⟨p,xs,h1,zit e h2 h4 (λ_ z=>nomatch z),h3,e.hh _ _ h4,h5,λx hx=>⟨(h6 x hx).1,(h6 x hx).2.1.same e.ff,(h6 x hx).2.2⟩⟩⟩
theorem VI.setU{x:Option V}(I:VI K B Hf ρ σ H)(hj:ρ[j]?=some none):VI K B Hf ρ (σ.set j x) H:=by
 have ne:∀{i:Nat} {sl:Sl},ρ[i]?=some (some sl)->j≠i:=λ{i sl} h z=>by subst z;rw[hj]at h;cases h
 refine⟨I.ex,by simp[I.len],λi sl h=>?_,λi sl p h o q=>?_,λi k si sk p h1 h2 o1 o2 q1 q2=>?_⟩
 ·obtain⟨v,h1,h2⟩:=I.ok i sl h
  exact⟨v,by rw[qa (ne h)];exact h1,h2⟩
 ·rw[qa (ne h)]at q;exact I.own i sl p h o q
 ·rw[qa (ne h1)]at q1
  rw[qa (ne h2)]at q2;exact I.dis i k si sk p h1 h2 o1 o2 q1 q2
theorem VI.offE{p:Addr}{φ:Heap->Prop}{o:HO}(I:VI K B Hf ρ σ H)(hf:Hf p=none)(hB:B.h p=none)(hp:H p=some (.ext φ)):VI K B Hf ρ σ (upd H p o):=by
 refine⟨⟨I.ex.ff,λb u h=>?_,λb u h=>?_,I.ex.nw,I.ex.nf⟩,I.len,λi sl h=>?_,I.own,I.dis⟩
 ·rw[zae (zai h hB)];exact I.ex.hh b u h
 ·rw[zae (zai h hf)];exact I.fh b u h
 ·obtain⟨v,h1,h2⟩:=I.ok i sl h
  refine⟨v,h1,h2.away λo z=>?_⟩;subst z
  cases sl with
  |sh d=>cases o
  |ow ds=>obtain⟨q,xs,e,_,h3,_⟩:=h2;cases e;rw[hp]at h3;cases h3
  |dk ks ds=>obtain⟨q,xs,e,_,h3,_⟩:=h2;cases e;rw[hp]at h3;cases h3
  |dt ks ds=>obtain⟨q,xs,e,_,h3,_⟩:=h2;cases e;rw[hp]at h3;cases h3
variable {fk:Rho->Option D}{pos:Pos}{key:Expr}
theorem z93 {n:Nat}{x:Str}{p1 pos' cp:Pos}{kk:Nat} (hr:Room n X.A) (hN:X.N[j]?=some x) (hk:PE X key (eV X.K B fk)) (hvis:Vis X.env.scope x:=by first|exact lb rfl|exact we (lb rfl)|exact we (we rfl)) (hd:(x == ("__debug__" : Str))=false:=by decide) (hcd:(x == ("__classdict__" : Str))=false:=by decide)
  (hs:swapsWith (.Constant (.bool true) kk cp) (some (.Subscript (.Name x p1) key pos')) pos.line X.env=pure false:=by rfl):PS X (.Assign [.Subscript (.Name x p1) key pos'] (.Constant (.bool true) kk cp) pos) (sNx X B sg j (zsk sg fk)):=by
 intro pins s σ H D I h;obtain⟨Hf,ρ,ks,ρ',ks',N,hg,q⟩:=h;obtain⟨d,hd0,hg⟩:=bind_some hg
 split at hg
 ·rename_i hc
  cases hg;obtain⟨p,xs,hσ,hf,hB,hp,hks,hxs⟩:=N.ex
  refine wpAny_Assign_Subscript (thn (z22 pins s σ H (λv H1=>v=.bl true/\H1=H) I ⟨rfl,rfl⟩) λr s1 ⟨v,H1,I1,rv,e1,e2⟩=>?_) hs;subst e1 e2;cases rv;refine thn (zcy hN hvis hd hcd pins s1 σ H1 (λv H2=>v=.ref p/\H2=H1) I1 ⟨_,hσ,rfl,rfl⟩) λu s2 ⟨v,H2,I2,ru,e1,e2⟩=>?_
  subst e1 e2;cases ru;refine thn (hk pins s2 σ H2 (λv H3=>∃Hf3,Ex Hf H2 Hf3 H3/\Dn X.K Hf3 d v) I2 ⟨Hf,ρ,d,N.vi,hd0,λHf3 H3 v ex dv=>⟨Hf3,ex,dv⟩⟩) λiv s3 ⟨y,H3,I3,ry,Hf3,ex,dy⟩=>?_
  have N3:=N.ext ex
  obtain⟨a,rfl⟩:∃a,y=.ref a:=by
   cases d with
   |tup ds=>obtain⟨a,_,e,_⟩:=dy.tupU;exact⟨a,e⟩
   |_=>cases hc.1
  cases ry;have hp3:H3 p=some (zhi X.prog X.w sg p xs):=ex.hh _ _ hp
  have hf3:=zit ex hf hp (λ_ z=>nomatch z);have hxs3:zsi X.K Hf3 sg xs:=λx hx=>⟨(hxs x hx).1,(hxs x hx).2.1.same ex.ff,(hxs x hx).2.2⟩
  refine ycr (by have:=hr.units;omega) I3 ex.fh hp3 hxs3 (by rw[<-ia (f:=(·.1)),hks];exact hc.2) hc.1 dy λs4 I4=>⟨σ,_,I4,q Hf3 σ _ ex.ff ⟨N3.vi.offE hf3 hB hp3,N3.nj,p,_,hσ,hf3,hB,zac,?_,(zsj hxs3 hc.1 dy).1⟩⟩
  rw[(zsj hxs3 hc.1 dy).2,hks]
 ·cases hg
variable {tg iter:Expr}{fi:Rho->Option (List D)}{gt:D->Rho->Option Rho}{sl:List Nat}{g:GN}
theorem z5s{body:List Stmt}(hp:PassesOwn (model X.prog X.w) X.A X.env X.xe)(hc:X.calm=true)(hi:PI X tg iter (iV X.K B fi))(hg:PG X tg (gV X.K B sl gt))(hj:j ∉ sl)(hgt:∀d ρ ρ1,gt d ρ=some ρ1->ρ1[j]?=ρ[j]?)(hb:PSs X body (sNx X B sg j g))(hs:∀x,foldedSetIterable iter X.env x=pure x:=by intro _;rfl):PS X (.For tg iter body [] pos) (sNx X B sg j (zt7 fi gt g)):=(zmz hp hc hi hg hb hs).imp λD σ H ⟨Hf,ρ,ks,ρ',ks',N,hgg,q⟩=>by
 obtain⟨ds,e,hgg⟩:=bind_some hgg;refine⟨Hf,ρ,ds,N.vi,e,λJ Hf1 H1 ex1 ok=>?_⟩;refine⟨λi m σ H=>m=ds.length - i/\i<=ds.length/\∃Hf2 ρ2 ks2,NS X B sg j Hf2 ρ2 σ H ks2/\zav Hf1 Hf2/\zsl gt g (ds.drop i) ρ2 ks2=some (ρ',ks'),⟨ds.length,by simp,vd _,Hf1,ρ,ks,N.ext ex1,zav.refl _,hgg⟩,?_⟩;rintro i m σ2 H2 ⟨rfl,hi,Hf2,ρ2,ks2,N2,s12,q2⟩;have okk:=ok Hf2 H2 (s12.trans N2.vi.fh) s12 N2.vi.fh i;by_cases hlt:i<ds.length
 ·obtain⟨go,yld⟩:=okk.1 ds[i] (by simp[hlt])
  refine .inr ⟨go,λσ' H'=>∃Hf3 ρ3 ks3,NS X B sg j Hf3 ρ3 σ' H' ks3/\zav Hf1 Hf3/\zsl gt g (ds.drop (i+1)) ρ3 ks3=some (ρ',ks'),λσ' H' z=>⟨ds.length - (i+1),by omega,rfl,hlt,z⟩,λx H3 y=>?_⟩;obtain⟨Hf3,ex3,dx⟩:=yld x H3 y;rw[yc hlt]at q2;unfold zsl at q2;obtain⟨ρ1,hg1,q2⟩:=bind_some q2;obtain⟨z,hz,q2⟩:=bind_some q2;have N3:=N2.ext ex3;refine⟨Hf3,ρ2,_,ρ1,N3.vi,dx,hg1,λσ' I' _ hk=>⟨Hf3,ρ1,ks2,z.1,z.2,⟨I',(hgt _ _ _ hg1).trans N3.nj,?_⟩,hz,λHf' σ'' H'' sm N'=>⟨Hf',z.1,z.2,N',(s12.trans ex3.ff).trans sm,q2⟩⟩⟩;obtain⟨p,xs,h1,r⟩:=N3.ex;exact⟨p,xs,(hk j hj).trans h1,r⟩
 ·have e:i=ds.length:=by omega
  subst e;rw[qh]at q2;unfold zsl at q2;cases q2;exact .inl ⟨okk.2 (wa _),q Hf2 σ2 H2 (ex1.ff.trans s12) N2⟩
theorem z5t{st:Stmt}(h:PS X st (sNx X B sg j g)):PSs X [st] (sNx X B sg j g):=zef h
end
section
variable {X:Cx}{B:Bs}{sg:List Nat}{j k:Nat}{g:GN}{F:List D->Option D}{f:Addr}{fd:FuncData}{p:Str}{pos:Pos}
theorem zvq(sg:List Nat):PE X (.Dict [] [] pos) (λ_ H Q=>∀p,H p=none->Q (.ref p) (upd H p (zhi X.prog X.w sg p []))):=λpins s σ H Q I h =>
 ao ⟨.ref s.heap.objs.size,_,I.laid (a:=s.heap.objs.size) (o:=zhi X.prog X.w sg s.heap.objs.size []) (t':=s.toks) (λ_ _ q=>bb _ q) (wa _) (zn7 (pi.mpr (gh (yd I.big))) (es:=#[]) (ep:=0) (cc _ rfl) ⟨rfl,rfl,rfl⟩ rfl rfl rg),rfl,h _ (I.hok.fresh (wa _))⟩
noncomputable def z5u(X:Cx)(B:Bs)(sg:List Nat)(j:Nat)(F:List D->Option D):TE:=λσ H Q=>∃Hf ρ ks,NS X B sg j Hf ρ σ H ks/\KOk F ks/\∀Hf' H' l ys,Ex Hf H Hf' H'->H l=none->Hf' l=none->H' l=some (.lst ys)->Dns X.K Hf' (zpu (ltK F) ks) ys->Q (.ref l) H'
theorem zvr {x fn:Str}{p1 p2 p3 p4:Pos} (hc:X.calm=true) (G:FnOk X.prog X.w X.K X.mg X.base CX0 k f fd [p] (spV X.K 1 F)) (hr:Room k X.A.in1.in1) (hg:Gl X "sorted") (hm:X.mg "sorted" = none) (hgf:Gl X fn) (hmf:X.mg fn=some (.ref f)) (hb:zdu X.K fd [p] []) (hN:X.N[j]?=some x)
  (hvis:Vis X.env.scope x:=by first|exact lb rfl|exact we (lb rfl)|exact we (we rfl)) (hd:(x == ("__debug__" : Str))=false:=by decide) (hcd:(x == ("__classdict__" : Str))=false:=by decide) (hfd:(fn == ("__debug__" : Str))=false:=by decide) :
  PE X (.Call (.Name "sorted" p1) [.Name x p2] [⟨some "key",.Name fn p3,p4⟩] pos) (z5u X B sg j F):=by
 intro pins s σ H Q I h;obtain⟨Hf,ρ,ks,N,ok,q⟩:=h;obtain⟨a,xs,hσ,hf,hB,hp,hks,hxs⟩:=N.ex;refine fg (zeb I hg hm zem ?_ (by decide) (by decide));refine callWith_kw (thn ((zcb (zcy hN hvis hd hcd) zdt (by rfl)) pos pins s σ H (λvs H1=>vs=[.ref a]/\H1=H) I ⟨_,hσ,rfl,rfl⟩) λus s1 ⟨vs,H1,I1,rv,e1,e2⟩=>?_) (by rfl) (by rfl) (by rfl) (by rfl);subst e1 e2;obtain⟨u,rfl,ru⟩:=zek rv;cases ru;refine thn ((zlj (zh1 (v:=.ref f) hgf hmf rfl hfd) zqi) pos pins s1 σ H1 (λvs H2=>vs=[.ref f]/\H2=H1) I1 ⟨rfl,rfl⟩) λus s2 ⟨vs,H2,I2,rv,e1,e2⟩=>?_
 subst e1 e2;obtain⟨u,rfl,ru⟩:=zek rv;cases ru;show wpAny (model X.prog X.w) X.A (call (.builtin "sorted") [.ref a] [(Str.ofString "key",.ref f)]) _ _ _;obtain⟨h0,o,es,ep,h1,h2,h3,h4,h5⟩:=I2.ndict hp;have hl:xs.length=ks.length:=by rw[<-hks,ia]
 have hsm:=ok.sm.2
 have dn:Dns X.K Hf ks (xs.map λx=>V.ref x.2.1):=by
  rw[<-hks]
  have:∀l:List (D×Addr×Value),(∀x∈l,x∈xs)->Dns X.K Hf (l.map (·.1)) (l.map λx=>V.ref x.2.1):=by
   intro l
   induction l with
   |nil=>intro _;exact .nil
   |cons y r ih=>intro hh;exact .cons (hxs y (hh y za)).2.1 (ih λz hz=>hh z (da _ hz))
  exact this xs λx hx=>hx
 have hes:es.toList.map (·.key)=xs.map λx=>Value.ref x.2.1:=by rw[h4,zd];rfl
 have hsz:es.size=xs.length:=by rw[<-ve,h4,ia]
 refine zfb (rs:=ks.map (rk F)) G hr hb I2 N.vi.fh dn (λR hR=>zgw (A:=X.A.in1) (I.ok.hd hc) h0 ⟨o,h1,h2,h3⟩ (by rw[hsz];exact sz (by omega)) λh' tk keep=>?_) (λi d hd=>?_) (by rw[ia]) ok.sz ok.ord λHf' H' l π ex hl1 hl2 hl3 hix hup=>q Hf' H' l _ ex hl1 hl2 hl3 ?_
 ·rw[hes]
  refine hR h' tk _ keep ?_
  have:∀l:List (D×Addr×Value),zbs (l.map λx=>V.ref x.2.1) (l.map λx=>Value.ref x.2.1):=by
   intro l
   induction l with
   |nil=>exact .nil
   |cons y r ih=>exact .cons rfl ih
  exact this xs
 ·obtain⟨r,e1,_⟩:=ok.ex d (ge hd)
  exact⟨r,by rw[pc,hd];show some (rk F d)=_;rw[zfc e1],e1⟩
 ·rw[<-ok.out hix hup]
  have dn':=dn.same ex.ff
  have each:∀l:List Nat,(∀i∈l,i<ks.length)->Dns X.K Hf' (l.map λi=>ks.getD i D.non) (l.map λi=>(xs.map λx=>V.ref x.2.1).getD i V.non):=by
   intro l
   induction l with
   |nil=>intro _;exact .nil
   |cons i r ih =>
    intro hh;refine .cons ?_ (ih λz hz=>hh z (da _ hz));have hi:=hh i za;have e1:ks[i]?=some ks[i]:=ed hi;obtain⟨v,e2,dv⟩:=dn'.zget e1;show Dn X.K Hf' (ks.getD i D.non) ((xs.map λx=>V.ref x.2.1).getD i V.non);rw[wc,e1,wc,e2];exact dv
  exact each _ λi hi=>df.mp (hix.mem_iff.mp hi)
noncomputable def zsm(j:Nat)(g:GN)(F:List D->Option D):Rho->Out:=λρ=>match ρ[j]? with
 |some none=>(match g ρ [] with|some z=>(match zft F z.2 with|some out=>.rw out|none=>.bad)|none=>.bad)
 |_=>.bad
theorem z5v {x fn:Str}{s2:Stmt}{q1 q2 q3 p1 p2 p3 p4 pos':Pos} (sg:List Nat) (hNd:X.N.Nodup) (hN:X.N[j]?=some x) (hx:Loc X.env.scope x) (h2:PS X s2 (sNx X B sg j g)) (hc:X.calm=true) (G:FnOk X.prog X.w X.K X.mg X.base CX0 k f fd [p] (spV X.K 1 F)) (hr:Room k X.A.in1.in1) (hg:Gl X "sorted") (hm:X.mg "sorted" = none) (hgf:Gl X fn) (hmf:X.mg fn=some (.ref f)) (hb:zdu X.K fd [p] [])
  (hs:swapsWith (.Dict [] [] q1) (some (.Name x q2)) q3.line X.env=pure false:=by rfl) (hf:X.fn x=true\/X.env.scope.names.lookup x=some .local:=by first|exact .inl rfl|exact .inr rfl|assumption)
  (hvis:Vis X.env.scope x:=by first|exact lb rfl|exact we (lb rfl)|exact we (we rfl)) (hd:(x == ("__debug__" : Str))=false:=by decide) (hcd:(x == ("__classdict__" : Str))=false:=by decide) (hfd:(fn == ("__debug__" : Str))=false:=by decide) :
  PSs X [.Assign [.Name x q2] (.Dict [] [] q1) q3,s2,.Return (some (.Call (.Name "sorted" p1) [.Name x p2] [⟨some "key",.Name fn p3,p4⟩] pos)) pos'] (sV X.K B (zsm j g F)) :=
 (zb8 (zf6 hNd hN hx (zvq sg) hs hf) (zb8 h2 (zef (zjd (zvr (B:=B) (sg:=sg) hc G hr hg hm hgf hmf hb hN hvis hd hcd hfd))))).imp λD σ H ⟨Hf,ρ,I,q⟩=>by
  unfold zsm at q
  split at q
  ·rename_i hj
   split at q
   ·rename_i z hz
    split at q
    ·rename_i out ho
     intro a ha
     have ok:KOk F z.2:=by
      unfold zft at ho
      split at ho
      ·assumption
      ·cases ho
     have eo:out=zpu (ltK F) z.2:=by
      unfold zft at ho;rw[ba ok]at ho;exact(vc ho).symm
     have hjl:j<σ.length:=by rw[<-I.len];exact(ya.mp hj).1
     have I1:VI X.K B Hf ρ (σ.set j (some (.ref a))) (upd H a (zhi X.prog X.w sg a [])):=(I.setU hj).ext (Ex.made I.fh ha);refine⟨Hf,ρ,[],z.1,z.2,⟨I1,hj,a,[],by rw[jb hjl],I.fh.free ha,I.ex.hh.free ha,zac,rfl,λx hx=>by cases hx⟩,hz,λHf' σ' H' sm N'=>⟨Hf',z.1,z.2,N',ok,λHf2 H2 l ys ex hl1 hl2 hl3 dn=>?_⟩⟩;exact q Hf2 H2 l ys (N'.vi.ex.trans ex) (N'.vi.ex.hh.free hl1) hl2 hl3 (by rw[eo];exact dn)
    ·exact q.elim
   ·exact q.elim
  ·exact q.elim
end
theorem Room.in2{k:Nat}{A:Around}(h:Room (k+1) A):Room k A.in1.in1:=⟨h.hd,by have:=h.dp;show A.depth+3 * k+5<_;omega,by have:=h.un;show A.units+1+1+16 * k+200<_;omega⟩
def HG(j:Nat)(r:List D->Rho->Option Rho):Prop:=∀ds ρ ρ1,r ds ρ=some ρ1->ρ1[j]?=ρ[j]?
theorem zme{i j:Nat}(h:i≠j):∀d ρ ρ1,gN i d ρ=some ρ1->ρ1[j]?=ρ[j]?:=λd ρ ρ1 e=>by cases e;exact qa h
theorem z94{j:Nat}:HG j gT0:=λds ρ ρ1 e=>by
 unfold gT0 at e
 split at e
 ·cases e;rfl
 ·cases e
theorem zvs{j:Nat}{g:D->Rho->Option Rho}{r:List D->Rho->Option Rho}(h1:∀d ρ ρ1,g d ρ=some ρ1->ρ1[j]?=ρ[j]?)(h2:HG j r):HG j (gTC g r):=λds ρ ρ1 e=>by
 unfold gTC at e
 split at e
 ·obtain⟨ρ2,e1,e2⟩:=bind_some e
  exact(h2 _ _ _ e2).trans (h1 _ _ _ e1)
 ·cases e
theorem z95{j n:Nat}{r:List D->Rho->Option Rho}(h:HG j r):∀d ρ ρ1,gT n r d ρ=some ρ1->ρ1[j]?=ρ[j]?:=λd ρ ρ1 e=>by
 unfold gT at e
 split at e
 ·split at e
  ·exact h _ _ _ e
  ·cases e
 ·cases e
end L2
namespace L2
open PySem PyProof.Rows
variable {X:Cx}
variable {K:PySem.W.Frag}
end L2
namespace L2
open PySem PySem.Spec PyProof.Rows
section
variable {X:Cx}{B:Bs}{a b c d:Expr}{fa fb fc fd:Rho->Option D}{pos:Pos}
noncomputable def zsn(r r' r'':R2)(ta tb tc td:TE):TE:=λσ H Q=>ta σ H λx H1=>tb σ H1 λy H2=>r x y H2 λz H3=>∃k,z=.bl k ∧
 (if k=true then tc σ H3 λw' H4=>r' y w' H4 λz2 H5=>∃k2,z2=.bl k2/\(if k2=true then td σ H5 λu' H6=>r'' w' u' H6 Q else Q (.bl false) H5) else Q (.bl false) H3)
noncomputable def zgy(g g' g'':D->D->Option D)(fa fb fc fd:Rho->Option D):Rho->Option D:=λρ=>(fa ρ).bind λd=>(fb ρ).bind λe=>(g d e).bind λz=>(toB z).bind λk=>if k=true then (fc ρ).bind λw=>(g' e w).bind λz2=>(toB z2).bind λk2=>if k2=true then (fd ρ).bind λu=>g'' w u else some (.bl false) else some (.bl false)
theorem zpk{h h' h'':Int->Int->V}(hf:∀i j,zcg (h i j)=true)(hf':∀i j,zcg (h' i j)=true)(hf'':∀i j,zcg (h'' i j)=true){K:PySem.W.Frag}{σ:St}{H:Hp}{Q:VK}(hh:eV K B (zgy (gII h) (gII h') (gII h'') fa fb fc fd) σ H Q):zsn (k20 h) (k20 h') (k20 h'') (eB K B fa) (eB K B fb) (eB K B fc) (eB K B fd) σ H Q:=by
 obtain⟨Hf,ρ,z,I,hz,q⟩:=hh;obtain⟨d,hd,hz⟩:=bind_some hz;obtain⟨e,he,hz⟩:=bind_some hz;obtain⟨k,hk,hz⟩:=bind_some hz;obtain⟨m,hm,hy⟩:=bind_some hz;clear hz;refine⟨Hf,ρ,d,I,hd,λHf1 H1 x ex1 dx=>⟨Hf1,ρ,e,I.ext ex1,he,λHf2 H2 y ex2 dy=>?_⟩⟩;have dy0:=dy;refine(zo7 (K:=K) hf) Hf2 H2 x y d e k _ ex2.fh (dx.ext ex2) dy hk λHf3 H3 v ex3 dv=>?_
 unfold toB at hm
 split at hm
 ·cases hm
  refine⟨m,dv.bl,?_⟩;have e3:=(ex1.trans ex2).trans ex3
  cases m with
  |true =>
   rw[ba rfl]at hy ⊢;obtain⟨w,hw,hz⟩:=bind_some hy;obtain⟨k2,hk2,hz⟩:=bind_some hz;obtain⟨m2,hm2,hy2⟩:=bind_some hz;clear hz;refine⟨Hf3,ρ,w,I.ext e3,hw,λHf4 H4 u ex4 du=>?_⟩;have du0:=du;refine(zo7 (K:=K) hf') Hf4 H4 y u e w k2 _ ex4.fh ((dy0.ext ex3).ext ex4) du hk2 λHf5 H5 v5 ex5 dv5=>?_
   unfold toB at hm2
   split at hm2
   ·cases hm2
    refine⟨m2,dv5.bl,?_⟩;have e5:=(e3.trans ex4).trans ex5
    cases m2 with
    |true =>
     rw[ba rfl]at hy2 ⊢;obtain⟨w2,hw2,hz⟩:=bind_some hy2;exact⟨Hf5,ρ,w2,I.ext e5,hw2,λHf6 H6 u6 ex6 du6=>(zo7 (K:=K) hf'') Hf6 H6 u u6 w w2 z Q ex6.fh ((du0.ext ex5).ext ex6) du6 hz λHf' H' v' ex7 dv'=>q Hf' H' v' ((e5.trans ex6).trans ex7) dv'⟩
    |false=>rw[oa la]at hy2 ⊢;cases hy2;exact q Hf5 H5 _ e5 (zbb rfl)
   ·cases hm2
  |false=>rw[oa la]at hy ⊢;cases hy;exact q Hf3 H3 _ e3 (zbb rfl)
 ·cases hm
theorem zso{g g' g'':D->D->Option D}{ρ:Rho}{x y z w:D}{k1 k2 k3:Bool}(ha:fa ρ=some x)(hb:fb ρ=some y)(h1:g x y=some (.bl k1))(hc:k1=true->fc ρ=some z)(h2:k1=true->g' y z=some (.bl k2))(hd:k1=true->k2=true->fd ρ=some w)(h3:k1=true->k2=true->g'' z w=some (.bl k3)):zgy g g' g'' fa fb fc fd ρ=some (.bl (k1 && (k2 && k3))):=by
 unfold zgy;rw[ha,hb,ib,ib,h1,ib]
 cases k1 with
 |false=>rfl
 |true =>
  show ((fc ρ).bind _)=_;rw[hc rfl,ib,h2 rfl,ib]
  cases k2 with
  |false=>rfl
  |true=>show ((fd ρ).bind _)=_;rw[hd rfl rfl,ib,h3 rfl rfl];rfl
end
theorem z1k{i:Nat}:∀d ρ ρ1,gN i d ρ=some ρ1->(∀(k:Nat) s,ρ[k]?=some (some s)->ze5 s=false)->∀(k:Nat) s,ρ1[k]?=some (some s)->ze5 s=false:=λd ρ ρ1 e h k s q=>by
 cases e;by_cases hk:i=k
 ·subst hk
  rw[xm]at q
  split at q
  ·split at q
   ·cases q;rfl
   ·cases q
  ·exact h _ s q
 ·rw[qa hk]at q;exact h k s q
noncomputable def jn(A C:Hp):Hp:=λb=>match A b with|some o=>some o|none=>C b
section
variable {A C H:Hp}
theorem zsp:zav A (jn A C):=λb u h=>by unfold jn;rw[h]
theorem z1l(h1:zav A H)(h2:zav C H):zav (jn A C) H:=λb u h=>by
 unfold jn at h
 cases e:A b with
 |some o=>rw[e]at h;cases h;exact h1 b _ e
 |none=>rw[e]at h;exact h2 b u h
theorem z96(h1:zav A H)(h2:zav C H):zav C (jn A C):=λb u h=>by
 unfold jn
 cases e:A b with
 |some o =>
  have z:=h1 b o e;rw[h2 b u h]at z;exact z.symm
 |none=>exact h
noncomputable def noF(C:Hp):Hp:=λb=>match C b with|some (.frz _ _)=>none|x=>x
theorem zfz:zav (noF C) C:=λb u h=>by
 unfold noF at h
 split at h
 ·cases h
 ·exact h
theorem zx8{b:Addr}(h:noF C b≠none):C b≠none:=λz=>h (by unfold noF;rw[z])
theorem zvt{b:Addr}(h:C b=none):noF C b=none:=by unfold noF;rw[h]
theorem zsq{b:Addr}{xs:List V}(h:C b=some (.lst xs)):noF C b=some (.lst xs):=by unfold noF;rw[h]
theorem z5w{b:Addr}{xs:List (List Key×V)}(h:C b=some (.dT xs)):noF C b=some (.dT xs):=by unfold noF;rw[h]
theorem z5x{b:Addr}{o:Obj}{u:HO}(h:jn A (noF C) b=some (.frz o u)):A b=some (.frz o u):=by
 unfold jn at h
 cases e:A b with
 |some x=>rw[e]at h;exact h
 |none =>
  rw[e]at h;have h:noF C b=some (.frz o u):=h;unfold noF at h
  split at h
  ·cases h
  ·rename_i n;exact absurd h (n o u)
theorem zmf{b:Addr}(h:jn A C b≠none):A b≠none\/C b≠none:=by
 unfold jn at h
 cases e:A b with
 |some o=>exact .inl λz=>nomatch z
 |none=>rw[e]at h;exact .inr h
end
noncomputable def emp:Hp:=λ_=>none
theorem zvu{H:Hp}{p:Addr}{o:HO}(h:H p=some o):zav (upd emp p o) H:=λb u e=>by
 by_cases hb:b=p
 ·subst hb;rw[zac]at e;cases e;exact h
 ·rw[zae hb]at e;cases e
theorem zvv{p b:Addr}{o:HO}(h:upd emp p o b≠none):b=p:=by
 by_cases hb:b=p
 ·exact hb
 ·rw[zae hb]at h;exact absurd rfl h
section
variable {X:Cx}{B:Bs}{e:Expr}{es:List Expr}{f fa:Rho->Option D}{fr:Rho->Option (List D)}{pos:Pos}
noncomputable def fnF(np n:Nat)(f:Rho->Out)(ds:List D):Option D:=if ds.length=np then (match f (zec n ds) with|.rt d=>some d|_=>none) else none
theorem z5y{np n:Nat}{f:Rho->Out}{ds:List D}{d:D}(h:ds.length=np)(h2:f (zec n ds)=.rt d):fnF np n f ds=some d:=by unfold fnF;rw[ba h,h2]
def z97(f:Rho->Out):Prop:=∀ρ d,f ρ≠.rt d
theorem zsr{i:Nat}{fe:Rho->Option D}:z97 (zbq i fe):=λρ d h=>by unfold zbq at h;split at h <;> cases h
variable {st:Stmt}{sts rest:List Stmt}{g fo:Rho->Out}
end
noncomputable abbrev GP:=D->Rho->Out
noncomputable def zkp(i:Nat)(f:Rho->Option D)(g:GP):Rho->Out:=λρ=>match ρ[i]? with
 |some none=>(match f ρ with|some d=>g d ρ|none=>.bad)
 |_=>.bad
noncomputable def zkq(i:Nat)(ft:Rho->Option Bool)(fb:Rho->Out)(g:GP):GP:=λd ρ=>match ft (ρ.set i (some (.sh d))) with
 |some true=>(match fb (ρ.set i (some (.sh d))) with|.rt z=>.rt z|_=>.bad)
 |some false=>g d ρ
 |none=>.bad
theorem VI.offH{K:PySem.W.Frag}{B:Bs}{Hf H:Hp}{ρ:Rho}{σ:St}{p:Addr}{o:HO}(I:VI K B Hf ρ σ H)(no:∀(i:Nat) sl,ρ[i]?=some (some sl)->ze5 sl=true->σ[i]?≠some (some (.ref p)))(hf:Hf p=none)(hB:B.h p=none):VI K B Hf ρ σ (upd H p o):=by
 refine⟨⟨I.ex.ff,λb u h=>?_,λb u h=>?_,I.ex.nw,I.ex.nf⟩,I.len,λi sl h=>?_,I.own,I.dis⟩
 ·rw[zae (zai h hB)];exact I.ex.hh b u h
 ·rw[zae (zai h hf)];exact I.fh b u h
 ·obtain⟨v,h1,h2⟩:=I.ok i sl h
  exact⟨v,h1,h2.away λo z=>no i sl h o (by rw[h1,z])⟩
theorem VI.drop{K:PySem.W.Frag}{B:Bs}{Hf H:Hp}{ρ:Rho}{σ:St}(I:VI K B Hf ρ σ H)(j:Nat):VI K B Hf (ρ.set j none) σ H:=by
 have g:∀{l:Nat} {sl:Sl},(ρ.set j none)[l]?=some (some sl)->ρ[l]?=some (some sl):=λ{l sl} e=>by
  by_cases hl:j=l
  ·subst hl
   rw[xm]at e
   split at e
   ·split at e <;> cases e
   ·exact e
  ·rwa [qa hl]at e
 exact⟨I.ex,by simp[I.len],λl sl e=>I.ok l sl (g e),λl sl p e=>I.own l sl p (g e),λl k sj sk p e1 e2=>I.dis l k sj sk p (g e1) (g e2)⟩
noncomputable abbrev zt8(r:D×List D):D:=.tup [r.1,.lst r.2]
noncomputable abbrev zjc(rows:List (D×List D)):D:=.lst (rows.map zt8)
inductive Rws (K:PySem.W.Frag) (Hf H:Hp):List (D×List D)->List Addr->List Addr->Prop
 |nil:Rws K Hf H [] [] []
 |cons {p:D} {es:List D} {r q:Addr} {v:V} {ys:List V} {rows:List (D×List D)} {rs qs:List Addr}:Hf r=some (.tup [v,.ref q])->Dn K Hf p v->Hf q=none->H q=some (.lst ys)->Dns K Hf es ys->q ∉ qs->Rws K Hf H rows rs qs->Rws K Hf H ((p,es)::rows) (r::rs) (q::qs)
section
variable {K:PySem.W.Frag}{Hf H Hf' H':Hp}{rows:List (D×List D)}{rs qs:List Addr}
theorem Rws.ext(h:Rws K Hf H rows rs qs)(e:Ex Hf H Hf' H'):Rws K Hf' H' rows rs qs:=by
 induction h with
 |nil=>exact .nil
 |cons a b c d f g _ ih=>exact .cons (e.ff _ _ a) (b.same e.ff) (zit e c d) (e.hh _ _ d) (Dns.same f e.ff) g ih
theorem Rws.heap(h:Rws K Hf H rows rs qs)(s:zav H H'):Rws K Hf H' rows rs qs:=by
 induction h with
 |nil=>exact .nil
 |cons a b c d f g _ ih=>exact .cons a b c (s _ _ d) f g ih
theorem Rws.at_(h:Rws K Hf H rows rs qs):∀q∈qs,Hf q=none/\∃ys,H q=some (.lst ys):=by
 induction h with
 |nil=>intro q hq;cases hq
 |cons a b c d f g _ ih =>
  intro q hq;rcases yb.mp hq with rfl|hq
  ·exact⟨c,_,d⟩
  ·exact ih q hq
theorem Rws.len(h:Rws K Hf H rows rs qs):rs.length=rows.length/\qs.length=rows.length:=by
 induction h with
 |nil=>exact⟨rfl,rfl⟩
 |cons _ _ _ _ _ _ _ ih=>simp[ih]
theorem Rws.snoc{p:D}{es:List D}{r q:Addr}{v:V}{ys:List V}(h:Rws K Hf H rows rs qs)(a:Hf r=some (.tup [v,.ref q]))(b:Dn K Hf p v)(c:Hf q=none)(d:H q=some (.lst ys))(f:Dns K Hf es ys)(g:q ∉ qs):Rws K Hf H (rows++[(p,es)]) (rs++[r]) (qs++[q]):=by
 induction h with
 |nil=>exact .cons a b c d f (λz=>nomatch z) .nil
 |cons a' b' c' d' f' g' _ ih =>
  rw[yb,not_or]at g;refine .cons a' b' c' d' f' (λz=>?_) (ih g.2);rcases ac.mp z with z|z
  ·exact g' z
  ·exact g.1 (zb.mp z).symm
end
structure RwT(K:PySem.W.Frag)(Hf H:Hp)(t:Addr)(rows:List (D×List D))(rs qs:List Addr):Prop where
 ht:H t=some (.lst (rs.map V.ref))
 hf:Hf t=none
 nt:t ∉ qs
 rw:Rws K Hf H rows rs qs
noncomputable def eRw(K:PySem.W.Frag)(B:Bs)(f:Rho->Option D):TE:=λσ H Q=>∃Hf ρ d es,VI K B Hf ρ σ H/\f ρ=some (zt8 (d,es))/\∀Hf' H' r q v ys,Ex Hf H Hf' H'->Hf' r=some (.tup [v,.ref q])->Dn K Hf' d v->H q=none->Hf' q=none->H' q=some (.lst ys)->Dns K Hf' es ys->Q (.ref r) H'
noncomputable def eRs(K:PySem.W.Frag)(B:Bs)(f:Rho->Option D):TE:=λσ H Q=>∃Hf ρ rows,VI K B Hf ρ σ H/\f ρ=some (zjc rows)/\∀Hf' H' t rs qs,Ex Hf H Hf' H'->(∀b∈t::qs,H b=none)->RwT K Hf' H' t rows rs qs->Q (.ref t) H'
section
variable {X:Cx}{B:Bs}{a b elt iter tg:Expr}{f1:Rho->Option D}{f2:Rho->Option (List D)}{fi:Rho->Option (List D)}{g:D->Rho->Option Rho}{tt:Rho->Option Bool}{te:Rho->Option D}{ifs:List Expr}{pos:Pos}{K:PySem.W.Frag}
theorem z98{x1}(h1:PE X a (eV X.K B f1))(h2:PE X b (eW X.K B f2))(hs:starEach [a,b] X.env=(false,eval a X.env)::starEach [b] X.env:=by rfl)(hs2:starEach [b] X.env=(false,eval b X.env)::starEach [] X.env:=by rfl):PE X (.Tuple [a,b] x1 pos) (eRw X.K B (eN zbd (aC f1 (aC (eL f2) aN)))) :=
 (zw3 (zcb h1 (zcb h2 zdt hs2) hs)).imp λσ H Q ⟨Hf,ρ,d,es,I,hz,q⟩=>by
  obtain⟨ds,hd,hz⟩:=bind_some hz;obtain⟨d1,e1,hd⟩:=bind_some hd;obtain⟨r1,e2,hd⟩:=bind_some hd;obtain⟨d2,e3,e2⟩:=bind_some e2;obtain⟨es',e4,e3⟩:=db.mp e3;obtain⟨r2,e5,e2⟩:=bind_some e2;cases e5;cases e2;cases hd;subst e3;unfold zbd at hz
  split at hz
  ·rename_i hl
   have hz:=D.tup.inj (vc hz);simp only[zj,D.lst.injEq,and_true]at hz;obtain⟨rfl,rfl⟩:=hz;refine⟨Hf,ρ,d1,I,e1,λHf1 H1 v ex1 dv=>⟨Hf1,ρ,es',I.ext ex1,e4,λHf2 H2 p ys ex2 hp hfp hp2 dn=>⟨hl,λr hr=>?_⟩⟩⟩;have e2:=ex1.trans ex2;have e3:=Ex.new (o:=.tup [v,.ref p]) e2.fh hr;have hpr:p≠r:=λz=>by rw[z,hr]at hp2;cases hp2
   exact q _ _ r p v ys (e2.trans e3) zac ((dv.same ex2.ff).same e3.ff) (ex1.hh.free hp) (by rw[zae hpr];exact hfp) (by rw[zae hpr];exact hp2) (Dns.same dn e3.ff)
  ·cases hz
theorem zss{J:It}{Hf H:Hp}{ρ:Rho}{σc:St}{ds:List D}{rows:List (D×List D)}{sl:List Nat}{Q:List V->Hp->Prop}(I:VI K B Hf ρ σc H)(hJ:zxq K J H Hf ds)(hl:ds.length<=sizeLine)(hr:zc1 g tt te ρ ds=some (rows.map zt8))(hs:∀j∈sl,σc[j]?=some none)
  (q:∀Hf' H' rs qs,Ex Hf H Hf' H'->(∀b∈qs,H b=none)->Rws K Hf' H' rows rs qs->Q (rs.map V.ref) H'):zul J (gV K B sl g) (tV K B tt) (eRw K B te) σc Q H:=by
 refine⟨λi m ys H'=>m=ds.length - i/\i<=ds.length/\∃Hf' done todo rs qs,Ex Hf H Hf' H'/\(∀b∈qs,H b=none)/\Rws K Hf' H' done rs qs/\ys=rs.map V.ref/\done.length<=i/\zc1 g tt te ρ (ds.drop i)=some (todo.map zt8)/\rows=done++todo,⟨ds.length,by simp,vd _,Hf,[],rows,[],[],.refl I.fh,(λb hb=>nomatch hb),.nil,rfl,wa _,hr,rfl⟩,?_⟩;rintro i m ys H' ⟨rfl,hi,Hf',done,todo,rs,qs,ex,fq,rw_,rfl,hdl,hc,hrs⟩;have ok:=hJ Hf' H' ex.hh ex.ff ex.fh i;by_cases hlt:i<ds.length
 ·obtain⟨go,yld⟩:=ok.1 ds[i] (by simp[hlt])
  have hyl:=rw_.len;refine .inr ⟨go,by rw[ia];omega,λys' H2=>∃Hf2 done' todo' rs' qs',Ex Hf H Hf2 H2/\(∀b∈qs',H b=none)/\Rws K Hf2 H2 done' rs' qs'/\ys'=rs'.map V.ref/\done'.length<=i+1/\zc1 g tt te ρ (ds.drop (i+1))=some (todo'.map zt8)/\rows=done'++todo',λys' H2 ⟨Hf2,done',todo',rs',qs',h⟩=>⟨ds.length - (i+1),by omega,rfl,hlt,Hf2,done',todo',rs',qs',h⟩,λx H2 y=>?_⟩;obtain⟨Hf2,ex2,dx⟩:=yld x H2 y;rw[yc hlt]at hc;unfold zc1 at hc;obtain⟨ρ1,hg,hc⟩:=bind_some hc;obtain⟨b,hb,hc⟩:=bind_some hc;have e2:=ex.trans ex2;refine⟨Hf2,ρ,_,ρ1,I.ext e2,dx,hg,λσ' I' hle hk=>⟨⟨hle,λj v hv=>?_⟩,Hf2,ρ1,b,I',hb,λHf3 H3 ex3=>?_⟩⟩
  ·rw[hk j λz=>?_]
   ·exact hv
   ·have:=hs j z
    rw[hv]at this;cases this
  ·have e3:=e2.trans ex3
   cases b with
   |true =>
    rw[ba rfl]at hc;show if true=true then _ else _
    rw[ba rfl];obtain⟨y,hy,hc⟩:=bind_some hc;obtain⟨t',h1,h2⟩:=db.mp hc
    cases todo with
    |nil=>cases h2
    |cons r0 todo =>
     obtain⟨z1,z2⟩:=wl h2;obtain⟨d,es⟩:=r0;refine⟨Hf3,ρ1,d,es,I'.ext ex3,by rw[hy,z1],λHf4 H4 r q v ys ex4 a1 a2 a3 a4 a5 a6=>?_⟩;have r3:=rw_.ext (ex2.trans ex3)
     have hq:q ∉ qs:=λz=>by
      obtain⟨_,ys',z2⟩:=r3.at_ q z;rw[a3]at z2;cases z2
     refine⟨Hf4,done++[(d,es)],todo,rs++[r],qs++[q],e3.trans ex4,λb hb=>?_,(r3.ext ex4).snoc a1 a2 a4 a5 a6 hq,by rw[xb];rfl,by simp;omega,by rw[h1,z2],by rw[hrs];simp⟩;rcases ac.mp hb with hb|hb
     ·exact fq b hb
     ·rw[zb.mp hb];exact e3.hh.free a3
   |false =>
    rw[oa la]at hc;show if false=true then _ else _
    rw[oa la];exact⟨Hf3,done,todo,rs,qs,e3,fq,rw_.ext (ex2.trans ex3),rfl,by omega,hc,hrs⟩
 ·have e:i=ds.length:=by omega
  subst e;refine .inl ⟨ok.2 (wa _),?_⟩;rw[qh]at hc;unfold zc1 at hc
  have ht:todo=[]:=by
   have:=vc hc
   exact fm.mp this.symm
  subst ht;rw[kc]at hrs;subst hrs;exact q Hf' H' rs qs ex fq rw_
variable {scope:Scope}{vars:List Str}{cap:List Nat}{sl:List Nat}
theorem z5z (hc:X.calm=true) (S:CScope X scope) (hcap:∀i∈cap,i<X.N.length/\scope.names.lookup (X.N.getD i "")≠some .local) (hn:cap.Nodup) (hsl:sl.all (·<vars.length)=true) (hi:PI X tg iter (iB X.K B fi))
  (hg:∀s H C ex,PG (za3 X scope C vars cap s H ex) tg (gV X.K B sl g)) (ht:∀s H C ex,zw7 (za3 X scope C vars cap s H ex) ifs (tV X.K B tt)) (he:∀s H C ex,PE (za3 X scope C vars cap s H ex) elt (eRw X.K B te))
  (hs:∀x,foldedSetIterable iter X.env x=pure x:=by intro _;rfl):PE X (.ListComp elt [⟨tg,iter,ifs,0⟩] scope pos) (eRs X.K B (eL (zcd vars.length cap fi g tt te))) :=
 (zqt hc S hcap hi hg ht he hs).imp λσ H Q ⟨Hf,ρ,rows,I,hz,q⟩=>by
  obtain⟨rs0,hz,e0⟩:=db.mp hz;have e0:rs0=rows.map zt8:=D.lst.inj e0;subst e0;obtain⟨ds,hd,hz⟩:=bind_some hz
  split at hz
  ·rename_i hl
   refine⟨Hf,ρ,ds,I,hd,λJ Hf1 H1 ex1 ok=>zss ((I.ext ex1).comp hn) ok hl hz (λj hj=>?_) λHf2 H2 rs qs ex2 fq rw_=>⟨?_,λp hp=>?_⟩⟩
   ·have hj:=jd.mp hsl j hj
    have hj:j<vars.length:=by simpa using hj
    unfold zdv;rw[gf (by simpa using hj),ig,ba hj]
   ·have h1:=zer hz
    rw[ia]at h1;rw[ia,rw_.len.1];omega
   ·have e12:=ex1.trans ex2
    have e3:=Ex.made (o:=.lst (rs.map V.ref)) ex2.fh hp
    have hpq:p ∉ qs:=λz=>by
     obtain⟨_,ys,z2⟩:=rw_.at_ p z;rw[hp]at z2;cases z2
    refine q Hf2 _ p rs qs (e12.trans e3) (λb hb=>?_) ⟨zac,ex2.fh.free hp,hpq,rw_.heap e3.hh⟩;rcases yb.mp hb with rfl|hb
    ·exact e12.hh.free hp
    ·exact ex1.hh.free (fq b hb)
  ·cases hz
end
noncomputable def spR(K:PySem.W.Frag)(np:Nat)(F:List D->Option D):Sp:=λvs H Q _=>∃Hf ds rows,zav Hf H/\Dns K Hf ds vs/\ds.length=np/\F ds=some (zjc rows)/\∀Hf' H' t rs qs,Ex Hf H Hf' H'->(∀b∈t::qs,H b=none)->RwT K Hf' H' t rows rs qs->Q (.ref t) H'
noncomputable def sR(K:PySem.W.Frag)(B:Bs)(f:Rho->Out):TS:=λD σ H=>∃Hf ρ,VI K B Hf ρ σ H/\match f ρ with
 |.rt d=>∃rows,d=zjc rows/\∀Hf' H' t rs qs,Ex B.f B.h Hf' H'->(∀b∈t::qs,B.h b=none)->RwT K Hf' H' t rows rs qs->D.rt (.ref t) H'
 |_=>False
section
variable {X:Cx}{B:Bs}{st:Stmt}{sts rest:List Stmt}{g fo:Rho->Out}{e:Expr}{f:Rho->Option D}{pos:Pos}
theorem zn8(nr:z97 fo)(h1:PS X st (sV X.K B fo))(h2:PSs X rest (sR X.K B g)):PSs X (st::rest) (sR X.K B (zat fo g)):=(zb8 h1 h2).imp λD σ H ⟨Hf,ρ,I,q⟩=>by
 refine⟨Hf,ρ,I,?_⟩;unfold zat at q
 cases e:fo ρ with
 |nx ρ'=>rw[e]at q;exact λHf' σ' H' z I'=>⟨Hf',ρ',I',q⟩
 |rt d=>exact absurd e (nr ρ d)
 |_=>rw[e]at q;exact q.elim
theorem z99(h:PE X e (eRs X.K B f)):PSs X [.Return (some e) pos] (sR X.K B (zb4 f)):=(zef (zjd h)).imp λD σ H ⟨Hf,ρ,I,q⟩=>by
 unfold zb4 at q
 cases e:f ρ with
 |none=>rw[e]at q;exact q.elim
 |some d =>
  rw[e]at q;obtain⟨rows,rfl,q⟩:=q;exact⟨Hf,ρ,rows,I,e,λHf' H' t rs qs ex fr w=>q Hf' H' t rs qs (I.ex.trans ex) (λb hb=>I.ex.hh.free (fr b hb)) w⟩
end
section
variable {P:Program}{w:World}{K:PySem.W.Frag}{mg:Str->Option Value}{base:Heap}
theorem ycs{x qual:Str}{st:Stmt}{f:Addr}{fd:FuncData}{N ps:List Str}{k np nN:Nat}{fs:Rho->Out}{F':List D->Option D}(hF:F'=fnF np nN fs)(hp:ps.length=np)(hN:N.length=nN)(F:Fun K x qual st f fd)(S:FnScope N ps (zag st))
  (hbody:∀(cdv:Value) (A:Around) (outer:List Env) (s:Shared) (H:Hp) (E:XK) (B:Bs),Room k (A.deeper (envOfC qual (zag st) s.heap.objs.size f cdv))->PSs (zqj CX0 P w K mg base N qual (zag st) f cdv A outer s H E).nox (zca st) (sR K B fs)):FnOk P w K mg base CX0 (k+1) f fd ps (spR K np F'):=by
 subst hF hp hN;refine F.ok S (λvs H Q E h=>?_) (λcdv A outer s H vs Q E hr h=>?_)
 ·obtain⟨Hf,ds,d,_,h1,h2,_⟩:=h
  rw[<-h2,h1.length]
 ·obtain⟨Hf,ds,rows,hs,h1,h2,h3,q⟩:=h
  refine⟨_,hbody cdv A outer s H E ⟨Hf,H⟩ hr,Hf,zec N.length ds,VI.init hs h1,?_⟩;unfold fnF at h3;rw[ba h2]at h3
  cases e:fs (zec N.length ds) with
  |rt d'=>rw[e]at h3;cases h3;exact⟨rows,rfl,λHf' H' t rs qs ex fr w=>q Hf' H' t rs qs ex fr w⟩
  |_=>rw[e]at h3;cases h3
end
section
variable {X:Cx}{B:Bs}{k:Nat}{f:Addr}{fd:FuncData}{ps:List Str}{x:Str}{p pos:Pos}{e:Expr}{es:List Expr}{fr:Rho->Option (List D)}{np:Nat}
theorem zmg{F:List D->Option D}(G:FnOk X.prog X.w X.K X.mg X.base CX0 k f fd ps (spR X.K np F))(hr:Room k X.A)(hg:Gl X x)(hm:X.mg x=some (.ref f))(hk:PySem.W.keepIn X.K (.ref f)=true)(hb:zdu X.K fd ps [])
  (ha:PA X (e::es) (aV X.K B fr)) (hdb:(x == ("__debug__" : Str))=false:=by decide) (he:starEach (e::es) X.env=(false,eval e X.env)::starEach es X.env:=by rfl) (hpl:(backTo pos (starEach es X.env)).any (·.1)=false:=by rfl):PE X (.Call (.Name x p) (e::es) [] pos) (eRs X.K B (zap np F fr)) :=
 (zli G hr hg hm hk hb .nil zzo ha hdb he hpl).imp λσ H Q ⟨Hf,ρ,z,I,hz,q⟩=>by
  obtain⟨ds,hd,hz⟩:=bind_some hz
  split at hz
  ·rename_i hn
   refine⟨Hf,ρ,ds,I,hd,λHf1 H1 vs ex1 dvs=>?_⟩;show spR X.K np F (vs++[]) H1 Q E0;rw[kc];exact⟨Hf1,ds,z,ex1.fh,dvs,hn,hz,λHf' H' t rs qs ex fr w=>q Hf' H' t rs qs (ex1.trans ex) (λb hb=>ex1.hh.free (fr b hb)) w⟩
  ·cases hz
end
section
variable {X:Cx}{B:Bs}{a b c d:Expr}{fa fb fc fd:Rho->Option D}{pos:Pos}
theorem zst{op op' op'':CmpOp}{r r' r'':R2}{ta tb tc td:TE}(ho:OpR X (compareOp op) r)(ho':OpR X (compareOp op') r')(ho'':OpR X (compareOp op'') r'')(ha:PE X a ta)(hb:PE X b tb)(hc:PE X c tc)(hd:PE X d td)
  (hm:lastMarks [op,op',op''] [b,c,d]=false:=by with_unfolding_all rfl):PE X (.Compare a [op,op',op''] [b,c,d] pos) (zsn r r' r'' ta tb tc td):=by
 intro pins s σ H Q I h;refine Compare_chain (thn (ha pins s σ H _ I h) λv s1 ⟨x,H1,I1,r1,q1⟩=>chain_link (thn (hb pins s1 σ H1 _ I1 q1) λu s2 ⟨y,H2,I2,r2,q2⟩=>thn (ho pins s2 σ H2 x y v u _ I2 r1 r2 q2) λd s3 ⟨z,H3,I3,r3,k,e,q3⟩=>?_)) hm;subst e;cases r3;refine qg ?_
 cases k with
 |false=>exact ite_ff ⟨.bl false,H3,I3,rfl,q3⟩
 |true =>
  refine ite_tt (chain_link (thn (hc pins s3 σ H3 _ I3 q3) λw' s4 ⟨z',H4,I4,r4,q4⟩=>thn (ho' pins s4 σ H4 y z' u w' _ I4 r2 r4 q4) λd' s5 ⟨z2,H5,I5,r5,k2,e2,q5⟩=>?_));subst e2;cases r5;refine qg ?_
  cases k2 with
  |false=>exact ite_ff ⟨.bl false,H5,I5,rfl,q5⟩
  |true=>exact ite_tt (chain_last (thn (hd pins s5 σ H5 _ I5 q5) λw2 s6 ⟨z3,H6,I6,r6,q6⟩=>ho'' pins s6 σ H6 z' z3 w' w2 Q I6 r4 r6 q6))
theorem zvw{op op' op'':CmpOp}{h h' h'':Int->Int->V}(ho:OpR X (compareOp op) (k20 h))(ho':OpR X (compareOp op') (k20 h'))(ho'':OpR X (compareOp op'') (k20 h''))(ha:PE X a (eB X.K B fa))(hb:PE X b (eB X.K B fb))(hc:PE X c (eB X.K B fc))(hd:PE X d (eB X.K B fd))(hp:∀i j,zcg (h i j)=true:=by exact λ_ _=>rfl)(hp':∀i j,zcg (h' i j)=true:=by exact λ_ _=>rfl)(hp'':∀i j,zcg (h'' i j)=true:=by exact λ_ _=>rfl)
  (hm:lastMarks [op,op',op''] [b,c,d]=false:=by with_unfolding_all rfl):PE X (.Compare a [op,op',op''] [b,c,d] pos) (eV X.K B (zgy (gII h) (gII h') (gII h'') fa fb fc fd)):=(zst ho ho' ho'' ha hb hc hd hm).imp λσ H Q z=>zpk hp hp' hp'' z
end
noncomputable def yaa:Rho->Out:=λ_=>.bad
theorem yab{X:Cx}{B:Bs}{st:Stmt}:PS X st (sV X.K B yaa):=(zue (X:=X) (st:=st)).imp λD σ H ⟨Hf,ρ,I,q⟩=>q
end L2
namespace L2
open PySem PySem.Spec PyProof.Rows
open Sem (wp)
section
variable {prog:Program}{w:World}{K:Type}[DecidableEq K]{knd:HeapKind prog w K}{A:Around}{E:Value->Shared->Prop}{s:Shared}{d a:Addr}{k:K}{xs:List (K×Addr×Value)}
theorem zgz{dflt:Value}{Q:Value->Shared->Prop}(hu:knd.room A)(zha:knd.is s.heap k a)(hm:s.heap.DictOfH knd d xs)
  (hthere:∀p,atKey xs k=some p->Q p.2 { s with toks:=s.toks+knd.draws k })
  (hnew:atKey xs k=none->∀h',h'.DictOfH knd d (xs++[(k,a,dflt)])->Heap.SameBut d s.heap h'->Q dflt { s with heap:=h',toks:=s.toks+knd.draws k })
  (hsz:xs.length<=sizeLine) :
  wpAny (model prog w) A (dictSetDefault d (.ref a) dflt) Q E s:=by
 obtain⟨o,es,ep,ho,hc,hd,he,his,hn⟩:=hm;unfold dictSetDefault
 try with_reducible refine lg ?_
 refine aa (knd.pyHash hu zha ?_);refine aa (wpAny_dictFind_heap (s:={ s with toks:=s.toks+knd.draws k }) hu zha ho hd he his hn ?_ ?_)
 ·intro hno
  have hnot:k ∉ xs.map (·.1):=not_mem_keys_of_get hno
  refine wpAny_bind (wpAny_rule (wpAny_bind (wpAny_updateDictKeys (hz:=by have e:=size_of_entries he;omega) (s:={ s with toks:=s.toks+knd.draws k }) ho hd (wpAny_pure (hnew (atKey_none_of_get hno) _ ⟨_,_,ep+1,Heap.get?_update_self _ ho (Obj.isFreed_of_dict (Obj.data_mapDictKeys hd _)),
   hc.mapDictKeys _,Obj.data_mapDictKeys hd _,?_,?_,?_⟩ (ui ..))))))
  ·simp[he,entryOfKey]
  ·intro x hx
   rcases ac.mp hx with hx|hx
   ·exact knd.keeps (his x hx) ho hd (ui ..)
   ·simp only[zb]at hx
    subst hx;exact knd.keeps zha ho hd (ui ..)
  ·rw[xb,li]
   refine⟨hn,by simp,?_⟩;intro x hx y hy;simp only[ja,me,zb]at hy;subst hy;exact λe=>hnot (e ▸ hx)
 ·intro j p hj
  refine aa (xk (s:={ s with toks:=s.toks+knd.draws k }) ho hd ?_);rw[entry_at he j,hj];exact aa (vg (va (hthere _ (atKey_of_get hn hj))))
theorem zfd(hd:(d == sysModules)=false)(dflt:Value) :
  MeetsIn prog w (Builtin.«dict.setdefault» ⟨[.ref d,.ref a,dflt],[]⟩) (λ A R s=>knd.room A.in1/\∃ k xs,knd.is s.heap k a/\s.heap.DictOfH knd d xs/\xs.length<=sizeLine ∧
   (∀p,atKey xs k=some p->R (.ok (.ret p.2)) { s with toks:=s.toks+knd.draws k }) ∧
   (atKey xs k=none->∀h',h'.DictOfH knd d (xs++[(k,a,dflt)])->Heap.SameBut d s.heap h'->R (.ok (.ret dflt)) { s with heap:=h',toks:=s.toks+knd.draws k })) :=
 .of_wp λA R s ⟨hu,k,xs,zha,hm,hz,h1,h2⟩=>by
  unfold Builtin.«dict.setdefault»;refine aa ?_;unfold Builtin.Dict.keyAndDefault;refine aa (wpAny_notOrdered_dict hm.typeIs ?_);show wpAny _ _ (pure (d,Value.ref a,some dflt)) _ _ s;refine va ?_;show wpAny _ _ (if (d == sysModules)=true then _ else (dictSetDefault d (.ref a) dflt >>= _)) _ _ s;rw[oa (by rw[hd];exact la)];exact aa (zgz hu zha hm (λp hp=>va ⟨p.2,rfl,h1 p hp⟩) (λhn h' hm' hs'=>va ⟨dflt,rfl,h2 hn h' hm' hs'⟩) hz)
end
end L2
namespace L2
open PySem PySem.Spec PyProof.Rows
noncomputable def zee(H:Hp):Hp:=λb=>match H b with|some (.tup xs)=>some (.tup xs)|_=>none
theorem zkr{H:Hp}:zav (zee H) H:=λb u h=>by
 unfold zee at h
 split at h
 ·rename_i e;cases h;exact e
 ·cases h
theorem z1m{H:Hp}{b:Addr}{xs:List V}(h:H b=some (.tup xs)):zee H b=some (.tup xs):=by unfold zee;rw[h]
theorem Ex.tups{Hf H:Hp}(s:zav Hf H):Ex Hf H (jn Hf (zee H)) H:=by
 refine⟨zsp,zav.refl _,z1l s zkr,λb hb=>?_,λb o u h=>?_⟩;rcases zmf hb with z|z
 ·exact .inl z
 ·unfold zee at z
  split at z
  ·rename_i xs e;exact .inr (.inr ⟨xs,e⟩)
  ·exact absurd rfl z
 ·unfold jn at h
  cases e:Hf b with
  |some x=>rw[e]at h;exact h
  |none =>
   rw[e]at h;have h:zee H b=some (.frz o u):=h;unfold zee at h
   split at h <;> cases h
noncomputable def kyD:Key->D
 |.inl i=>.int i
 |.inr x=>.sc (.str x)
theorem zsu{K:PySem.W.Frag}{H:Hp}:∀ks:List Key,Dns K H (ks.map kyD) (ks.map kV)
 |[]=>.nil
 |.inl i::r=>.cons (zbb rfl) (zsu r)
 |.inr x::r=>.cons (zbb rfl) (zsu r)
noncomputable def ktD(ks:List Key):D:=.tup (ks.map kyD)
noncomputable def zx9(F:List D->Option D)(fa:Rho->Option D):Rho->Option (List D):=λρ=>(fa ρ).bind λd=>match d with
 |.dt ks _=>zft F (ks.map ktD)
 |_=>none
section
variable {X:Cx}{B:Bs}{k:Nat}{F:List D->Option D}{f:Addr}{fd:FuncData}{p:Str}{pos:Pos}{a:Expr}{fa:Rho->Option D}
theorem z1n {fn:Str}{p1 p3 p4:Pos} (hc:X.calm=true) (G:FnOk X.prog X.w X.K X.mg X.base CX0 k f fd [p] (spV X.K 1 F)) (hr:Room k X.A.in1.in1) (hg:Gl X "sorted") (hm:X.mg "sorted" = none) (hgf:Gl X fn) (hmf:X.mg fn=some (.ref f)) (hb:zdu X.K fd [p] []) (ha:PE X a (eB X.K B fa))
  (hfd:(fn == ("__debug__" : Str))=false:=by decide) (hs0:starEach [a] X.env=(false,eval a X.env)::starEach [] X.env:=by rfl)
  (hk1:backTo pos (starEach [a] X.env)=(false,eval a X.env)::backTo pos (starEach [] X.env):=by rfl) (hk2:((backTo pos (starEach [a] X.env)).any λx=>x.1)=false:=by rfl) :
  PE X (.Call (.Name "sorted" p1) [a] [⟨some "key",.Name fn p3,p4⟩] pos) (eW X.K B (zx9 F fa)):=by
 intro pins s σ H Q I h;obtain⟨Hf,ρ,out,N,hz,q⟩:=h;obtain⟨d,hd0,hz⟩:=bind_some hz
 split at hz
 ·rename_i ks dvs
  unfold zft at hz
  split at hz
  ·rename_i ok
   cases hz;refine fg (zeb I hg hm zem ?_ (by decide) (by decide))
   refine callWith_kw (thn ((zcb ha zdt hs0) pos pins s σ H (λvs H1=>∃Hf1 v,vs=[v]/\Ex Hf H Hf1 H1/\DnB X.K Hf1 H1 (.dt ks dvs) v) I ⟨Hf,ρ,_,N,hd0,λHf1 H1 v ex dv=>⟨Hf1,v,rfl,ex,dv⟩⟩) λus s1 ⟨vs,H1,I1,rv,Hf1,v,e1,ex1,dv⟩=>?_) (by first|exact hk1|exact hk2|rfl) (by first|exact hk1|exact hk2|rfl) (by first|exact hk1|exact hk2|rfl) (by first|exact hk1|exact hk2|rfl);subst e1;obtain⟨u,rfl,ru⟩:=zek rv;obtain⟨ad,kvs,rfl,h3,h4,h5⟩:=dv.dt ex1.fh;cases ru;refine thn ((zlj (zh1 (v:=.ref f) hgf hmf rfl hfd) zqi) pos pins s1 σ H1 (λvs H2=>vs=[.ref f]/\H2=H1) I1 ⟨rfl,rfl⟩) λus s2 ⟨vs,H2,I2,rv,e1,e2⟩=>?_
   subst e1 e2;obtain⟨u,rfl,ru⟩:=zek rv;cases ru;show wpAny (model X.prog X.w) X.A (call (.builtin "sorted") [.ref ad] [(Str.ofString "key",.ref f)]) _ _ _;obtain⟨z1,h0,xs,rel,o,es,ep,g1,g2,g3,g4,g5⟩:=(show zbi X.prog X.w H2 s2.heap ad (.dT kvs) from I2.hok ad _ h3)
   have ext:=Ex.tups ex1.fh
   have dn:Dns X.K (jn Hf1 (zee H2)) (ks.map ktD) (xs.map λx=>V.ref x.2.1):=by
    rw[<-h4]
    have:∀{l:List (List Key×V)} {m:List (List Key×Addr×Value)},Paired (λ(p:List Key×V) (q:List Key×Addr×Value)=>p.1=q.1/\H2 q.2.1=some (.tup (p.1.map kV))/\zbf p.2 q.2.2) l m->Dns X.K (jn Hf1 (zee H2)) ((l.map Prod.fst).map ktD) (m.map λx=>V.ref x.2.1):=by
     intro l m pr
     induction pr with
     |nil=>exact .nil
     |cons r t ih=>exact .cons (zgg (SqU.of (z96 ex1.fh zkr _ _ (z1m r.2.1))) (zsu _)) ih
    exact this rel
   have hl:xs.length=(ks.map ktD).length:=by rw[dn.length,ia]
   have hes:es.toList.map (·.key)=xs.map λx=>Value.ref x.2.1:=by rw[g4,zd];rfl
   have hsz:es.size=xs.length:=by rw[<-ve,g4,ia]
   have hsm:=ok.sm.2;refine zfb (rs:=(ks.map ktD).map (rk F)) G hr hb I2 ext.fh dn (λR hR=>zgw (A:=X.A.in1) (I.ok.hd hc) h0 ⟨o,g1,g2,g3⟩ (by rw[hsz];exact sz (by omega)) λh' tk keep=>?_) (λi d hd=>?_) (by rw[ia]) ok.sz ok.ord λHf' H' l π ex hl1 hl2 hl3 hix hup=>q Hf' H' l _ (ex1.trans (ext.trans ex)) (ex1.hh.free hl1) hl2 hl3 ?_
   ·rw[hes]
    refine hR h' tk _ keep ?_
    have:∀l:List (List Key×Addr×Value),zbs (l.map λx=>V.ref x.2.1) (l.map λx=>Value.ref x.2.1):=by
     intro l
     induction l with
     |nil=>exact .nil
     |cons y r ih=>exact .cons rfl ih
    exact this xs
   ·obtain⟨r,e1,_⟩:=ok.ex d (ge hd)
    exact⟨r,by rw[pc,hd];show some (rk F d)=_;rw[zfc e1],e1⟩
   ·rw[<-ok.out hix hup]
    have dn':=dn.same ex.ff
    have each:∀l:List Nat,(∀i∈l,i<(ks.map ktD).length)->Dns X.K Hf' (l.map λi=>(ks.map ktD).getD i D.non) (l.map λi=>(xs.map λx=>V.ref x.2.1).getD i V.non):=by
     intro l
     induction l with
     |nil=>intro _;exact .nil
     |cons i r ih =>
      intro hh;refine .cons ?_ (ih λz hz=>hh z (da _ hz));have hi:=hh i za;have e1:(ks.map ktD)[i]?=some (ks.map ktD)[i]:=ed hi;obtain⟨v,e2,dv⟩:=dn'.zget e1;show Dn X.K Hf' ((ks.map ktD).getD i D.non) ((xs.map λx=>V.ref x.2.1).getD i V.non);rw[wc,e1,wc,e2];exact dv
    exact each _ λi hi=>df.mp (hix.mem_iff.mp hi)
  ·cases hz
 ·cases hz
noncomputable def zya(F:List D->Option D)(fa:Rho->Option D):Rho->Option (List D):=λρ=>(fa ρ).bind λd=>match d with
 |.lst ks=>zft F ks
 |_=>none
theorem z1o {fn:Str}{p1 p3 p4:Pos} (hc:X.calm=true) (G:FnOk X.prog X.w X.K X.mg X.base CX0 k f fd [p] (spV X.K 1 F)) (hr:Room k X.A.in1.in1) (hg:Gl X "sorted") (hm:X.mg "sorted" = none) (hgf:Gl X fn) (hmf:X.mg fn=some (.ref f)) (hb:zdu X.K fd [p] []) (ha:PE X a (eB X.K B fa))
  (hfd:(fn == ("__debug__" : Str))=false:=by decide) (hs0:starEach [a] X.env=(false,eval a X.env)::starEach [] X.env:=by rfl)
  (hk1:backTo pos (starEach [a] X.env)=(false,eval a X.env)::backTo pos (starEach [] X.env):=by rfl) (hk2:((backTo pos (starEach [a] X.env)).any λx=>x.1)=false:=by rfl) :
  PE X (.Call (.Name "sorted" p1) [a] [⟨some "key",.Name fn p3,p4⟩] pos) (eW X.K B (zya F fa)):=by
 intro pins s σ H Q I h;obtain⟨Hf,ρ,out,N,hz,q⟩:=h;obtain⟨d,hd0,hz⟩:=bind_some hz
 split at hz
 ·rename_i ks
  unfold zft at hz
  split at hz
  ·rename_i ok
   cases hz;refine fg (zeb I hg hm zem ?_ (by decide) (by decide))
   refine callWith_kw (thn ((zcb ha zdt hs0) pos pins s σ H (λvs H1=>∃Hf1 v,vs=[v]/\Ex Hf H Hf1 H1/\DnB X.K Hf1 H1 (.lst ks) v) I ⟨Hf,ρ,_,N,hd0,λHf1 H1 v ex dv=>⟨Hf1,v,rfl,ex,dv⟩⟩) λus s1 ⟨vs,H1,I1,rv,Hf1,v,e1,ex1,dv⟩=>?_) (by first|exact hk1|exact hk2|rfl) (by first|exact hk1|exact hk2|rfl) (by first|exact hk1|exact hk2|rfl) (by first|exact hk1|exact hk2|rfl);subst e1;obtain⟨u,rfl,ru⟩:=zek rv;obtain⟨ad,ys,rfl,h3,dn⟩:=dv.lst ex1.fh;cases ru;refine thn ((zlj (zh1 (v:=.ref f) hgf hmf rfl hfd) zqi) pos pins s1 σ H1 (λvs H2=>vs=[.ref f]/\H2=H1) I1 ⟨rfl,rfl⟩) λus s2 ⟨vs,H2,I2,rv,e1,e2⟩=>?_
   subst e1 e2;obtain⟨u,rfl,ru⟩:=zek rv;cases ru;show wpAny (model X.prog X.w) X.A (call (.builtin "sorted") [.ref ad] [(Str.ofString "key",.ref f)]) _ _ _;have hl:=dn.length;have hsm:=ok.sm.2;obtain⟨its,r1,pl,hle⟩:=I2.list h3;have hla:=r1.length;refine zfb (rs:=ks.map (rk F)) G hr hb I2 ex1.fh dn (λR hR=>collect_list (A:=X.A.in1) pl.isList (hR _ s2.toks _ (λb o e=>by rw[af _ _ (im (wb e))];exact bb _ e) r1) (by rw[<-hla];exact hle)) (λi d hd=>?_) (by rw[ia]) ok.sz ok.ord λHf' H' l π ex hl1 hl2 hl3 hix hup=>q Hf' H' l _ (ex1.trans ex) (ex1.hh.free hl1) hl2 hl3 ?_
   ·obtain⟨r,e1,_⟩:=ok.ex d (ge hd)
    exact⟨r,by rw[pc,hd];show some (rk F d)=_;rw[zfc e1],e1⟩
   ·rw[<-ok.out hix hup]
    have dn':=dn.same ex.ff
    have each:∀l:List Nat,(∀i∈l,i<ks.length)->Dns X.K Hf' (l.map λi=>ks.getD i D.non) (l.map λi=>ys.getD i V.non):=by
     intro l
     induction l with
     |nil=>intro _;exact .nil
     |cons i r ih =>
      intro hh;refine .cons ?_ (ih λz hz=>hh z (da _ hz));have hi:=hh i za;have e1:ks[i]?=some ks[i]:=ed hi;obtain⟨v,e2,dv⟩:=dn'.zget e1;show Dn X.K Hf' (ks.getD i D.non) (ys.getD i V.non);rw[wc,e1,wc,e2];exact dv
    exact each _ λi hi=>df.mp (hix.mem_iff.mp hi)
  ·cases hz
 ·cases hz
end
section
variable {X:Cx}{pins:List (Addr×Obj)}{σ:St}{H:Hp}{s:Shared}{a b:Addr}{v:V}{r:Value}{A:Around}{E:Value->Shared->Prop}{kvs:List (List Key×V)}{k:List Key}
theorem zvx{Q:Value->Shared->Prop}(hu:A.units+1<cLine)(I:Inv X pins σ H s)(e:H a=some (.dT kvs))(eb:H b=some (.tup (k.map kV)))(hl:kvs.length<sizeLine)(rd:zbf v r)
  (q1:∀w' u' s',zej kvs k=some w'->zbf w' u'->Inv X pins σ H s'->Q u' s') (q2:zej kvs k=none->∀s',Inv X pins σ (upd H a (.dT (zh8 kvs k v))) s'->Q r s') :
  wpAny (model X.prog X.w) A (call (.builtin "dict.setdefault") [.ref a,.ref b,r]) Q E s:=by
 obtain⟨z,hd,xs,rel,dd⟩:=z4g I.hok e;have hz:xs.length<=sizeLine:=by rw[<-Paired.length rel];exact z
 have hv:=rel.val k;refine call_meetsIn PySem.F.slot_dict_setdefault dd.typeIs PySem.F.entry_dict_setdefault (PySem.F.args_dict_setdefault_3 _ _ _) (zfd (knd:=tupleKind (zbh X.prog X.w)) hd r) ⟨uh hu,k,xs,zgf I.hok eb,dd,hz,λp hp=>?_,λhn h' dd' hs=>?_⟩
 ·rw[hp]at hv
  cases l:zej kvs k with
  |none=>rw[l]at hv;exact hv.elim
  |some w'=>rw[l]at hv;exact q1 w' p.2 _ l hv (I.tok _)
 ·rw[hn]at hv
  cases l:zej kvs k with
  |some w'=>rw[l]at hv;exact hv.elim
  |none =>
   refine q2 l _ ?_;have rp:=rel.put k eb rd;rw[storedH_new hn]at rp;have hl2:(zh8 kvs k v).length<=sizeLine:=by have:=zeg kvs k v;omega
   obtain⟨q,es,ep,hq,h2,h3,h4,_,h5⟩:=dd';refine zlt I (by rw[e];exact gg) hs ⟨q,hq⟩ ⟨hl2,hd,_,rp.keeps λc ys ec=>?_,q,es,ep,hq,h2,h3,h4,h5⟩;rw[zae (z21 ec e (λz=>nomatch z))];exact ec
end
noncomputable def yct(td ty tx:TE):TE:=λσ H Q=>td σ H λx H1=>∃a,x=.ref a/\IsD H1 a/\ty σ H1 λy H2=>tx σ H2 λz H3=>∃b kvs k,y=.ref b/\H3 a=some (.dT kvs)/\H3 b=some (.tup (k.map kV))/\kvs.length<sizeLine ∧
 (∀w,zej kvs k=some w->Q w H3)/\(zej kvs k=none->Q z (upd H3 a (.dT (zh8 kvs k z))))
section
variable {X:Cx}{o e f:Expr}{apos cpos:Pos}{td ty tx:TE}
theorem zyb (hu:X.A.units+1<cLine) (ho:PE X o td) (he:PE X e ty) (hf:PE X f tx) (m:M2 X o "setdefault" apos e f cpos):PE X (.Call (.Attribute o "setdefault" apos) [e,f] [] cpos) (yct td ty tx):=by
 intro pins s σ H Q I h;refine wpAny_Call_method m.base m.few m.line PySem.F.plainAttrs_dict PySem.F.slot_dict_setdefault PySem.F.type_dict_setdefault (thn (ho pins s σ H _ I h) λu s1 ⟨x,H1,I1,rx,a,ex,d,q1⟩=>?_);subst ex;obtain rfl:u=Value.ref a:=rx;obtain⟨t1,t2,_⟩:=zxd I1 d;refine⟨t1,t2,?_⟩;rw[m.trees]
 refine Calls.callWith_builtin rfl (Calls.evalArgs_plain (Calls.spliced_cons (thn (he pins s1 σ H1 _ I1 q1) λ iv s2 ⟨y,H2,I2,ry,q2⟩ =>
  rh (thn (hf pins s2 σ H2 _ I2 q2) λfv s3 ⟨z,H3,I3,rz,b,kvs,k,ey,ea,eb,hl,q3,q4⟩=>qk ?_))))
 subst ey;obtain rfl:iv=Value.ref b:=ry;exact zvx hu I3 ea eb hl rz (λw' u' s4 l rw' I4=>⟨w',H3,I4,rw',q3 w' l⟩) λl s4 I4=>⟨z,_,I4,rz,q4 l⟩
end
noncomputable abbrev GD:=List (List Key×List D)
structure GS(X:Cx)(B:Bs)(j:Nat)(Hf:Hp)(ρ:Rho)(σ:St)(H:Hp)(gd:GD)(Hn:Hp):Prop where
 vi:VI X.K B Hf ρ σ H
 nj:ρ[j]?=some none
 nh:zav Hn H
 nt:∀b xs,Hn b≠some (.tup xs)
 fr:∀b,Hn b≠none->Hf b=none/\B.h b=none
 no:∀(i:Nat) sl,ρ[i]?=some (some sl)->ze5 sl=false
 ex:∃p kvs,σ[j]?=some (some (.ref p))/\Hn p=some (.dT kvs)/\kvs.map Prod.fst=gd.map Prod.fst/\(kvs.map Prod.snd).Nodup/\Paired (λds v=>∃l xs,v=.ref l/\Hn l=some (.lst xs)/\Dns X.K Hf ds xs) (gd.map Prod.snd) (kvs.map Prod.snd)
section
variable {X:Cx}{B:Bs}{j:Nat}{Hf Hf' H H' Hn:Hp}{ρ:Rho}{σ:St}{gd:GD}
theorem GS.ext(I:GS X B j Hf ρ σ H gd Hn)(e:Ex Hf H Hf' H'):GS X B j Hf' ρ σ H' gd Hn:=by
 refine⟨I.vi.ext e,I.nj,I.nh.trans e.hh,I.nt,λb hb=>⟨?_,(I.fr b hb).2⟩,I.no,?_⟩
 ·cases z:Hn b with
  |none=>exact absurd z hb
  |some o=>exact zit e (I.fr b hb).1 (I.nh b o z) (λxs hx=>I.nt b xs (by rw[z,hx]))
 ·obtain⟨p,kvs,h1,h2,h3,h4,h5⟩:=I.ex
  exact⟨p,kvs,h1,h2,h3,h4,h5.zmap λ_ _ ⟨l,xs,a1,a2,a3⟩=>⟨l,xs,a1,a2,a3.same e.ff⟩⟩
end
noncomputable abbrev GG:=Rho->GD->Option (Rho×GD)
noncomputable def sG(X:Cx)(B:Bs)(j:Nat)(g:GG):TS:=λD σ H=>∃Hf ρ gd Hn ρ' gd',GS X B j Hf ρ σ H gd Hn/\g ρ gd=some (ρ',gd')/\∀Hf' σ' H' Hn',zav Hf Hf'->GS X B j Hf' ρ' σ' H' gd' Hn'->D.nx σ' H'
noncomputable def zpv(gd:GD)(k:List Key):GD:=if (zbx gd k).isSome=true then gd else gd++[(k,[])]
noncomputable def ziu(k:List Key)(d:D):GD->GD
 |[]=>[]
 |x::r=>if x.1=k then (x.1,x.2++[d])::r else x::ziu k d r
theorem zks(k:List Key)(d:D):∀gd:GD,(ziu k d gd).map Prod.fst=gd.map Prod.fst
 |[]=>rfl
 |x::r=>by
  unfold ziu;split
  ·rfl
  ·rw[ja,zks k d r];rfl
theorem zn9{gd:GD}{k:List Key}:∀{kvs:List (List Key×V)},kvs.map Prod.fst=gd.map Prod.fst->(zej kvs k).isSome=(zbx gd k).isSome:=by
 induction gd with
 |nil=>intro kvs h;cases kvs with|nil=>rfl|cons _ _=>simp at h
 |cons x r ih =>
  intro kvs h
  cases kvs with
  |nil=>simp at h
  |cons y m =>
   simp only[ja,zj]at h;by_cases e:y.1=k
   ·have e':x.1=k:=by rw[<-h.1];exact e
    simp[zej,zbx,mf,e,e']
   ·have e':¬x.1=k:=by rw[<-h.1];exact e
    rw[zcu e,ih h.2];simp[zbx,mf,e']
theorem zkt{kvs:List (List Key×V)}{k:List Key}{v:V}(h:zej kvs k=none):zh8 kvs k v=kvs++[(k,v)]:=by
 unfold zh8;rw[zh9,h];rfl
section
variable {K:PySem.W.Frag}{Hf Hn:Hp}
theorem zvy{k:List Key}{d:D}{y:V}{l:Addr}{xs:List V}(hx:Hn l=some (.lst xs))(dy:Dn K Hf d y):∀{gd:GD}{kvs:List (List Key×V)},kvs.map Prod.fst=gd.map Prod.fst->(kvs.map Prod.snd).Nodup->zej kvs k=some (.ref l)->Paired (λds v=>∃l xs,v=.ref l/\Hn l=some (.lst xs)/\Dns K Hf ds xs) (gd.map Prod.snd) (kvs.map Prod.snd) →
  Paired (λds v=>∃l' xs',v=.ref l'/\upd Hn l (.lst (xs++[y])) l'=some (.lst xs')/\Dns K Hf ds xs') ((ziu k d gd).map Prod.snd) (kvs.map Prod.snd):=by
 intro gd
 induction gd with
 |nil=>intro kvs h _ hv _;cases kvs with|nil=>cases hv|cons _ _=>simp at h
 |cons x r ih =>
  intro kvs h nd hv pr
  cases kvs with
  |nil=>simp at h
  |cons z m =>
   simp only[ja,zj]at h;rw[ja,cg]at nd;rw[ja,ja]at pr
   cases pr with
   |cons p1 p2 =>
    have keep:∀{a:List (List D)} {b:List V},(.ref l) ∉ b->Paired (λds v=>∃l xs,v=.ref l/\Hn l=some (.lst xs)/\Dns K Hf ds xs) a b->Paired (λds v=>∃l' xs',v=.ref l'/\upd Hn l (.lst (xs++[y])) l'=some (.lst xs')/\Dns K Hf ds xs') a b:=by
     intro a b hb q
     induction q with
     |nil=>exact .nil
     |cons q1 q2 ih2 =>
      obtain⟨l',xs',e1,e2,e3⟩:=q1;refine .cons ⟨l',xs',e1,?_,e3⟩ (ih2 λw=>hb (da _ w));rw[zae (λw=>hb (by rw[e1,w];exact za))];exact e2
    unfold ziu;by_cases e:x.1=k
    ·have e':z.1=k:=by rw[h.1];exact e
     rw[zdd e']at hv;have hz:z.2=.ref l:=vc hv;rw[ba e,ja,ja];obtain⟨l',xs',e1,e2,e3⟩:=p1;rw[hz]at e1;cases e1;rw[hx]at e2;cases e2;refine .cons ⟨l,_,hz,zac,e3.zsnoc dy⟩ (keep (by rw[<-hz];exact nd.1) p2)
    ·have e':¬z.1=k:=by rw[h.1];exact e
     rw[zcu e']at hv;rw[oa e,ja,ja];obtain⟨l',xs',e1,e2,e3⟩:=p1
     have hm:(.ref l)∈m.map Prod.snd:=by
      unfold zej at hv;obtain⟨w,hw1,hw2⟩:=db.mp hv;rw[<-hw2];exact qq (um hw1)
     refine .cons ⟨l',xs',e1,?_,e3⟩ (ih h.2 nd.2 hv p2);rw[zae (λw=>nd.1 (by rw[e1,w];exact hm))];exact e2
end
section
variable {X:Cx}{B:Bs}{j:Nat}{Hf Hf' H H' Hn:Hp}{ρ:Rho}{σ:St}{gd:GD}
theorem GS.app{k:List Key}{d:D}{y:V}{l p:Addr}{xs:List V}{kvs:List (List Key×V)}(I:GS X B j Hf ρ σ H gd Hn)(hσ:σ[j]?=some (some (.ref p)))(hp:Hn p=some (.dT kvs))(hv:zej kvs k=some (.ref l))(hx:Hn l=some (.lst xs))(dy:Dn X.K Hf d y):GS X B j Hf ρ σ (upd H l (.lst (xs++[y]))) (ziu k d gd) (upd Hn l (.lst (xs++[y]))):=by
 have hn:Hn l≠none:=by rw[hx];exact λz=>nomatch z
 have hlp:p≠l:=λz=>by rw[z,hx]at hp;cases hp
 refine⟨I.vi.offH (λi sl h o z=>by have:=I.no i sl h;rw[o]at this;cases this) (I.fr l hn).1 (I.fr l hn).2,I.nj,λb u z=>?_,λb ys z=>?_,λb hb=>?_,I.no,?_⟩
 ·by_cases hb:b=l
  ·subst hb;rw[zac]at z ⊢;exact z
  ·rw[zae hb]at z ⊢;exact I.nh b u z
 ·by_cases hb:b=l
  ·subst hb;rw[zac]at z;cases z
  ·rw[zae hb]at z;exact I.nt b ys z
 ·by_cases hb':b=l
  ·rw[hb'];exact I.fr l hn
  ·rw[zae hb']at hb;exact I.fr b hb
 ·obtain⟨p',kvs',h1,h2,h3,h4,h5⟩:=I.ex
  rw[hσ]at h1;cases h1;rw[hp]at h2;cases h2;exact⟨p,kvs,hσ,by rw[zae hlp];exact hp,by rw[zks];exact h3,h4,zvy hx dy h3 h4 hv h5⟩
theorem GS.new{k:List Key}{l p:Addr}{kvs:List (List Key×V)}(I:GS X B j Hf ρ σ H gd Hn)(hσ:σ[j]?=some (some (.ref p)))(hp:Hn p=some (.dT kvs))(hl:H l=none):GS X B j Hf ρ σ (upd (upd H l (.lst [])) p (.dT (kvs++[(k,.ref l)]))) (gd++[(k,[])]) (upd (upd Hn l (.lst [])) p (.dT (kvs++[(k,.ref l)]))):=by
 have hn:Hn p≠none:=by rw[hp];exact λz=>nomatch z
 have hpl:p≠l:=λz=>by have:=I.nh p _ hp;rw[z,hl]at this;cases this
 have hnl:Hn l=none:=I.nh.free hl;have I1:=I.ext (Ex.made (o:=.lst []) I.vi.fh hl);refine⟨I1.vi.offH (λi sl h o z=>by have:=I.no i sl h;rw[o]at this;cases this) (I.fr p hn).1 (I.fr p hn).2,I.nj,λb u z=>?_,λb ys z=>?_,λb hb=>?_,I.no,?_⟩
 ·by_cases hb:b=p
  ·subst hb;rw[zac]at z ⊢;exact z
  ·rw[zae hb]at z ⊢
   by_cases hb2:b=l
   ·subst hb2;rw[zac]at z ⊢;exact z
   ·rw[zae hb2]at z ⊢;exact I.nh b u z
 ·by_cases hb:b=p
  ·subst hb;rw[zac]at z;cases z
  ·rw[zae hb]at z
   by_cases hb2:b=l
   ·subst hb2;rw[zac]at z;cases z
   ·rw[zae hb2]at z;exact I.nt b ys z
 ·by_cases hb':b=p
  ·rw[hb'];exact I.fr p hn
  ·rw[zae hb']at hb
   by_cases hb2:b=l
   ·rw[hb2];exact⟨I.vi.fh.free hl,I.vi.ex.hh.free hl⟩
   ·rw[zae hb2]at hb;exact I.fr b hb
 ·obtain⟨p',kvs',h1,h2,h3,h4,h5⟩:=I.ex
  rw[hσ]at h1;cases h1;rw[hp]at h2;cases h2
  have hm:∀v∈kvs.map Prod.snd,∃l' xs',v=.ref l'/\Hn l'=some (.lst xs'):=by
   have:∀{a:List (List D)} {b:List V},Paired (λds v=>∃l xs,v=.ref l/\Hn l=some (.lst xs)/\Dns X.K Hf ds xs) a b->∀v∈b,∃l' xs',v=.ref l'/\Hn l'=some (.lst xs'):=by
    intro a b q
    induction q with
    |nil=>intro v hv;cases hv
    |cons q1 q2 ih =>
     intro v hv;obtain⟨l',xs',e1,e2,_⟩:=q1;rcases yb.mp hv with rfl|hv
     ·exact⟨l',xs',e1,e2⟩
     ·exact ih v hv
   exact this h5
  refine⟨p,_,hσ,zac,by rw[xb,xb,h3];rfl,?_,?_⟩
  ·rw[xb,li]
   refine⟨h4,by simp,λv hv w hw e=>?_⟩;obtain⟨l',xs',e1,e2⟩:=hm v hv;simp at hw;rw[e,hw]at e1;cases e1;rw[hnl]at e2;cases e2
  ·rw[xb,xb]
   refine(h5.zmap λds v ⟨l',xs',a1,a2,a3⟩=>⟨l',xs',a1,?_,a3⟩).zsnoc ⟨l,[],rfl,by rw[zae hpl.symm,zac],.nil⟩;rw[zae (λw=>by rw[w,hp]at a2;cases a2),zae (λw=>by rw[w,hnl]at a2;cases a2)];exact a2
end
noncomputable def z7s(gd:GD)(k:List Key)(d:D):GD:=ziu k d (zpv gd k)
noncomputable def gSd(fk:Rho->Option D):GG:=λρ gd=>(fk ρ).bind λkd=>(zfh kd).bind λk=>if gd.length<100000 then some (ρ,zpv gd k) else none
noncomputable def gSa(fk fv:Rho->Option D):GG:=λρ gd=>(fk ρ).bind λkd=>(zfh kd).bind λk=>(fv ρ).bind λd=>if gd.length<100000/\(gd.all λx=>decide (x.2.length<100000))=true then some (ρ,z7s gd k d) else none
noncomputable def z7t(i:Nat)(fe:Rho->Option D):GG:=λρ gd=>(fe ρ).map λd=>(ρ.set i (some (.sh d)),gd)
noncomputable def zpl(g h:GG):GG:=λρ gd=>(g ρ gd).bind λz=>h z.1 z.2
noncomputable def zsv(gt:D->Rho->Option Rho)(f:GG):List D->GG
 |[],ρ,gd=>some (ρ,gd)
 |d::r,ρ,gd=>(gt d ρ).bind λρ1=>(f ρ1 gd).bind λz=>zsv gt f r z.1 z.2
noncomputable def zyc(fi:Rho->Option (List D))(gt:D->Rho->Option Rho)(f:GG):GG:=λρ gd=>(fi ρ).bind λds=>zsv gt f ds ρ gd
theorem zhz{α β:Type}{F:α->β->Prop}:∀{l:List α}{r:List β},Paired F l r->∀y∈r,∃x∈l,F x y
 |_,_,.nil,y,h=>by cases h
 |_,_,.cons p q,y,h=>by
  rcases yb.mp h with rfl|h
  ·exact⟨_,za,p⟩
  ·obtain⟨x,h1,h2⟩:=zhz q y h
   exact⟨x,da _ h1,h2⟩
theorem z1p{kvs:List (List Key×V)}{k:List Key}{v:V}(h:zej kvs k=some v):v∈kvs.map Prod.snd:=by
 unfold zej at h;obtain⟨w,hw1,hw2⟩:=db.mp h;rw[<-hw2];exact qq (um hw1)
theorem z1q{kvs:List (List Key×V)}{k:List Key}{v:V}(h:zej kvs k=none):zej (kvs++[(k,v)]) k=some v:=by
 induction kvs with
 |nil=>exact zdd rfl
 |cons x r ih =>
  by_cases e:x.1=k
  ·rw[zdd e]at h;cases h
  ·rw[zcu e]at h
   rw[ke,zcu e];exact ih h
section
variable {X:Cx}{B:Bs}{j:Nat}{pos:Pos}{key v:Expr}{fk fv:Rho->Option D}
theorem ycu {n:Nat}{x:Str}{p1 p2 p3 p4:Pos} (hr:Room n X.A) (hN:X.N[j]?=some x) (hk:PE X key (eB X.K B fk)) (m:M2 X (.Name x p1) "setdefault" p2 key (.List [] p3) p4) (hvis:Vis X.env.scope x:=by first|exact lb rfl|exact we (lb rfl)|exact we (we rfl)) (hd:(x == ("__debug__" : Str))=false:=by decide) (hcd:(x == ("__classdict__" : Str))=false:=by decide)
  (hs:swapsWith (.Call (.Attribute (.Name x p1) "setdefault" p2) [key,.List [] p3] [] p4) none pos.line X.env=pure false:=by rfl) :
  PS X (.Expr (.Call (.Attribute (.Name x p1) "setdefault" p2) [key,.List [] p3] [] p4) pos) (sG X B j (gSd fk)) :=
 (zf5 (zyb (by have:=hr.units;omega) (zcy hN hvis hd hcd) hk (zm0 zdt) m) hs).imp λD σ H ⟨Hf,ρ,gd,Hn,ρ',gd',N,hg,q⟩=>by
  obtain⟨kd,hk0,hg⟩:=bind_some hg;obtain⟨k,hk1,hg⟩:=bind_some hg
  split at hg
  ·rename_i hlen
   cases hg;obtain⟨p,kvs,hσ,hp,h3,h4,h5⟩:=N.ex
   refine⟨_,hσ,p,rfl,.inr ⟨kvs,.inl (N.nh _ _ hp)⟩,Hf,ρ,kd,N.vi,hk0,λHf1 H1 y ex1 dy=>⟨vd _,λl hl=>?_⟩⟩;have N1:=N.ext ex1;obtain⟨b,rfl,hb⟩:=zib dy hk1;have hp1:H1 p=some (.dT kvs):=N1.nh _ _ hp;have hb1:=ex1.fh _ _ hb;have hkl:kvs.length=gd.length:=by rw[<-ia (f:=Prod.fst),h3,ia]
   have hs1:=zn9 (k:=k) h3;refine⟨b,kvs,k,rfl,by rw[zae (zai hp1 hl)];exact hp1,by rw[zae (zai hb1 hl)];exact hb1,by rw[hkl];exact szl (by omega),λw hw=>?_,λhw=>?_⟩
   ·rw[hw]at hs1
    have e:zpv gd k=gd:=by unfold zpv;exact ba hs1.symm
    rw[e]at q;exact q Hf1 σ _ Hn ex1.ff (N1.ext (Ex.made N1.vi.fh hl))
   ·rw[hw]at hs1
    have e:zpv gd k=gd++[(k,[])]:=by unfold zpv;rw[oa (by rw[<-hs1];decide)]
    rw[e]at q;rw[zkt hw];exact q Hf1 σ _ _ ex1.ff (N1.new hσ hp hl)
  ·cases hg
theorem ycv {n:Nat}{x:Str}{p1 p2 p3 p4 p5 p6:Pos} (hr:Room n X.A) (hN:X.N[j]?=some x) (hk:PE X key (eB X.K B fk)) (hv:PE X v (eV X.K B fv)) (m:M2 X (.Name x p1) "setdefault" p2 key (.List [] p3) p4) (hvis:Vis X.env.scope x:=by first|exact lb rfl|exact we (lb rfl)|exact we (we rfl)) (hd:(x == ("__debug__" : Str))=false:=by decide) (hcd:(x == ("__classdict__" : Str))=false:=by decide)
  (hbase:attributeBase (.Call (.Attribute (.Name x p1) "setdefault" p2) [key,.List [] p3] [] p4) "append" X.env (eval (.Call (.Attribute (.Name x p1) "setdefault" p2) [key,.List [] p3] [] p4) X.env)=eval (.Call (.Attribute (.Name x p1) "setdefault" p2) [key,.List [] p3] [] p4) X.env:=by rfl)
  (hfew:((backTo p6 (starEach [v] X.env)).all (λx=>!x.1) && (backToKw p6 (keywordEach [] X.env)).all (λx=>x.1.isSome) && decide ([v].length+([]:List Keyword).length+(if ([]:List Keyword).isEmpty then 0 else 1)<30))=true:=by rfl)
  (hline:(p5.endLine == p6.line)=true:=by rfl) (hst:starEach [v] X.env=(false,eval v X.env)::starEach [] X.env:=by rfl) (hplain:(backTo p6 (starEach [] X.env)).any (·.1)=false:=by rfl)
  (hs:swapsWith (.Call (.Attribute (.Call (.Attribute (.Name x p1) "setdefault" p2) [key,.List [] p3] [] p4) "append" p5) [v] [] p6) none pos.line X.env=pure false:=by rfl) :
  PS X (.Expr (.Call (.Attribute (.Call (.Attribute (.Name x p1) "setdefault" p2) [key,.List [] p3] [] p4) "append" p5) [v] [] p6) pos) (sG X B j (gSa fk fv)) :=
 (zf5 (zuj PySem.F.plainAttrs_list PySem.F.slot_list_append PySem.F.type_list_append zgd (zyb (by have:=hr.units;omega) (zcy hN hvis hd hcd) hk (zm0 zdt) m) (zcb hv zdt hst) hbase hfew hline hst hplain) hs).imp λD σ H ⟨Hf,ρ,gd,Hn,ρ',gd',N,hg,q⟩=>by
  obtain⟨kd,hk0,hg⟩:=bind_some hg;obtain⟨k,hk1,hg⟩:=bind_some hg;obtain⟨d,hd0,hg⟩:=bind_some hg
  split at hg
  ·rename_i hc
   cases hg;obtain⟨p,kvs,hσ,hp,h3,h4,h5⟩:=N.ex
   refine⟨_,hσ,p,rfl,.inr ⟨kvs,.inl (N.nh _ _ hp)⟩,Hf,ρ,kd,N.vi,hk0,λHf1 H1 y ex1 dy=>⟨vd _,λl hl=>?_⟩⟩;have N1:=N.ext ex1;obtain⟨b,rfl,hb⟩:=zib dy hk1;have hp1:H1 p=some (.dT kvs):=N1.nh _ _ hp;have hb1:=ex1.fh _ _ hb;have hkl:kvs.length=gd.length:=by rw[<-ia (f:=Prod.fst),h3,ia]
   have hs1:=zn9 (k:=k) h3;refine⟨b,kvs,k,rfl,by rw[zae (zai hp1 hl)];exact hp1,by rw[zae (zai hb1 hl)];exact hb1,by rw[hkl];exact szl (by omega),λw hw=>?_,λhw=>?_⟩
   ·rw[hw]at hs1
    have e:zpv gd k=gd:=by unfold zpv;exact ba hs1.symm
    unfold z7s at q;rw[e]at q;have N2:=N1.ext (Ex.made (o:=.lst []) N1.vi.fh hl);obtain⟨ds,hds,l',xs,rfl,hx,dx⟩:=zhz h5 w (z1p hw);refine⟨.inl ⟨rfl,xs,SqL.of (N2.nh _ _ hx)⟩,Hf1,ρ,d,N2.vi,hd0,λHf2 H2 y ex2 dy2=>?_⟩;have N3:=N2.ext ex2;refine⟨xs,N3.nh _ _ hx,?_,q Hf2 σ _ _ (ex1.ff.trans ex2.ff) (N3.app hσ hp hw hx dy2)⟩;obtain⟨z,hz,rfl⟩:=vb.mp hds
    have:=lc (jd.mp hc.2 z hz)
    rw[<-dx.length];exact szl (by omega)
   ·rw[hw]at hs1
    have e:zpv gd k=gd++[(k,[])]:=by unfold zpv;rw[oa (by rw[<-hs1];decide)]
    unfold z7s at q;rw[e]at q;rw[zkt hw];have N2:=N1.new (k:=k) hσ hp hl;have hpl:p≠l:=zai hp1 hl;have hx:(upd (upd Hn l (.lst [])) p (.dT (kvs++[(k,.ref l)]))) l=some (.lst []):=by rw[zae hpl.symm,zac]
    refine⟨.inl ⟨rfl,[],SqL.of (N2.nh _ _ hx)⟩,Hf1,ρ,d,N2.vi,hd0,λHf2 H2 y ex2 dy2=>?_⟩;have N3:=N2.ext ex2;exact⟨[],N3.nh _ _ hx,szl (by decide),q Hf2 σ _ _ (ex1.ff.trans ex2.ff) (N3.app hσ zac (z1q hw) hx dy2)⟩
  ·cases hg
variable {g h:GG}{st:Stmt}{rest as bs:List Stmt}{ft:Rho->Option Bool}{fe:Rho->Option D}
theorem z50(h:PS X st (sG X B j g)):PSs X [st] (sG X B j g):=zef h
theorem zyd(h1:PS X st (sG X B j g))(h2:PSs X rest (sG X B j h)):PSs X (st::rest) (sG X B j (zpl g h)):=(zb8 h1 h2).imp λD σ H ⟨Hf,ρ,gd,Hn,ρ',gd',N,hg,q⟩=>by
 obtain⟨z,hz,hg⟩:=bind_some hg;exact⟨Hf,ρ,gd,Hn,z.1,z.2,N,hz,λHf1 σ1 H1 Hn1 s1 N1=>⟨Hf1,z.1,z.2,Hn1,ρ',gd',N1,hg,λHf2 σ2 H2 Hn2 s2 N2=>q Hf2 σ2 H2 Hn2 (s1.trans s2) N2⟩⟩
theorem GS.set{Hf H Hn:Hp}{ρ:Rho}{σ:St}{gd:GD}{i:Nat}{d:D}{w:V}(N:GS X B j Hf ρ σ H gd Hn)(hij:i≠j)(dv:Dn X.K Hf d w):GS X B j Hf (ρ.set i (some (.sh d))) (σ.set i (some w)) H gd Hn:=by
 refine⟨N.vi.set dv,by rw[qa hij];exact N.nj,N.nh,N.nt,N.fr,z1k (i:=i) d ρ _ rfl N.no,?_⟩
 ·obtain⟨p,kvs,h1,r⟩:=N.ex
  exact⟨p,kvs,by rw[qa hij];exact h1,r⟩
theorem yac{i:Nat}{y:Str}{pos':Pos}{e:Expr}(hij:i≠j)(hNd:X.N.Nodup)(hi:X.N[i]?=some y)(hx:Loc X.env.scope y)(he:PE X e (eV X.K B fe))(hs:swapsWith e (some (.Name y pos')) pos.line X.env=pure false:=by rfl)(hf:X.fn y=true\/X.env.scope.names.lookup y=some .local:=by first|exact .inl rfl|exact .inr rfl|assumption):PS X (.Assign [.Name y pos'] e pos) (sG X B j (z7t i fe)):=(zf6 hNd hi hx he hs hf).imp λD σ H ⟨Hf,ρ,gd,Hn,ρ',gd',N,hg,q⟩=>by
 obtain⟨d,hd0,hg⟩:=db.mp hg;cases hg;exact⟨Hf,ρ,d,N.vi,hd0,λHf1 H1 w ex1 dv=>q Hf1 _ H1 Hn ex1.ff ((N.ext ex1).set hij dv)⟩
variable {tg iter:Expr}{fi:Rho->Option (List D)}{gt:D->Rho->Option Rho}{sl:List Nat}
theorem z51{body:List Stmt}(hp:PassesOwn (model X.prog X.w) X.A X.env X.xe)(hc:X.calm=true)(hi:PI X tg iter (iV X.K B fi))(hg:PG X tg (gV X.K B sl gt))(hj:j ∉ sl)(hgt:∀d ρ ρ1,gt d ρ=some ρ1->ρ1[j]?=ρ[j]?)(hno:∀d ρ ρ1,gt d ρ=some ρ1->(∀(i:Nat) s,ρ[i]?=some (some s)->ze5 s=false)->∀(i:Nat) s,ρ1[i]?=some (some s)->ze5 s=false)(hb:PSs X body (sG X B j g))(hs:∀x,foldedSetIterable iter X.env x=pure x:=by intro _;rfl):PS X (.For tg iter body [] pos) (sG X B j (zyc fi gt g)):=(zmz hp hc hi hg hb hs).imp λD σ H ⟨Hf,ρ,gd,Hn,ρ',gd',N,hgg,q⟩=>by
 obtain⟨ds,e,hgg⟩:=bind_some hgg;refine⟨Hf,ρ,ds,N.vi,e,λJ Hf1 H1 ex1 ok=>?_⟩;refine⟨λi m σ H=>m=ds.length - i/\i<=ds.length/\∃Hf2 ρ2 gd2 Hn2,GS X B j Hf2 ρ2 σ H gd2 Hn2/\zav Hf1 Hf2/\zsv gt g (ds.drop i) ρ2 gd2=some (ρ',gd'),⟨ds.length,by simp,vd _,Hf1,ρ,gd,Hn,N.ext ex1,zav.refl _,hgg⟩,?_⟩;rintro i m σ2 H2 ⟨rfl,hi,Hf2,ρ2,gd2,Hn2,N2,s12,q2⟩;have okk:=ok Hf2 H2 (s12.trans N2.vi.fh) s12 N2.vi.fh i;by_cases hlt:i<ds.length
 ·obtain⟨go,yld⟩:=okk.1 ds[i] (by simp[hlt])
  refine .inr ⟨go,λσ' H'=>∃Hf3 ρ3 gd3 Hn3,GS X B j Hf3 ρ3 σ' H' gd3 Hn3/\zav Hf1 Hf3/\zsv gt g (ds.drop (i+1)) ρ3 gd3=some (ρ',gd'),λσ' H' z=>⟨ds.length - (i+1),by omega,rfl,hlt,z⟩,λx H3 y=>?_⟩;obtain⟨Hf3,ex3,dx⟩:=yld x H3 y;rw[yc hlt]at q2;unfold zsv at q2;obtain⟨ρ1,hg1,q2⟩:=bind_some q2;obtain⟨z,hz,q2⟩:=bind_some q2;have N3:=N2.ext ex3;refine⟨Hf3,ρ2,_,ρ1,N3.vi,dx,hg1,λσ' I' _ hk=>⟨Hf3,ρ1,gd2,Hn2,z.1,z.2,⟨I',(hgt _ _ _ hg1).trans N3.nj,N3.nh,N3.nt,N3.fr,hno _ _ _ hg1 N3.no,?_⟩,hz,λHf' σ'' H'' Hn' sm N'=>⟨Hf',z.1,z.2,Hn',N',(s12.trans ex3.ff).trans sm,q2⟩⟩⟩;obtain⟨p,xs,h1,r⟩:=N3.ex;exact⟨p,xs,(hk j hj).trans h1,r⟩
 ·have e:i=ds.length:=by omega
  subst e;rw[qh]at q2;unfold zsv at q2;cases q2;exact .inl ⟨okk.2 (wa _),q Hf2 σ2 H2 Hn2 (ex1.ff.trans s12) N2⟩
noncomputable def z52(j:Nat)(g:GG):Rho->Out:=λρ=>match ρ[j]? with
 |some none=>if (ρ.all λs=>match s with|some sl=>!ze5 sl|none=>true)=true then (match g ρ [] with|some z=>.rt (.dt (z.2.map Prod.fst) (z.2.map λx=>.lst x.2))|none=>.bad) else .bad
 |_=>.bad
theorem z53{x:Str}{s2:Stmt}{q1 q2 q3 p2 pos':Pos}(hNd:X.N.Nodup)(hN:X.N[j]?=some x)(hx:Loc X.env.scope x)(h2:PS X s2 (sG X B j g))
  (hs:swapsWith (.Dict [] [] q1) (some (.Name x q2)) q3.line X.env=pure false:=by rfl) (hf:X.fn x=true\/X.env.scope.names.lookup x=some .local:=by first|exact .inl rfl|exact .inr rfl|assumption)
  (hvis:Vis X.env.scope x:=by first|exact lb rfl|exact we (lb rfl)|exact we (we rfl)) (hd:(x == ("__debug__" : Str))=false:=by decide) (hcd:(x == ("__classdict__" : Str))=false:=by decide) :
  PSs X [.Assign [.Name x q2] (.Dict [] [] q1) q3,s2,.Return (some (.Name x p2)) pos'] (sV X.K B (z52 j g)) :=
 (zb8 (zf6 hNd hN hx zuy hs hf) (zb8 h2 (zef (zjd (zcy hN hvis hd hcd))))).imp λD σ H ⟨Hf,ρ,I,q⟩=>by
  unfold z52 at q
  split at q
  ·rename_i hj
   split at q
   ·rename_i hall
    split at q
    ·rename_i z hz
     intro a ha;have hjl:j<σ.length:=by rw[<-I.len];exact(ya.mp hj).1
     have I1:VI X.K B Hf ρ (σ.set j (some (.ref a))) (upd H a (.dT [])):=(I.setU hj).ext (Ex.made I.fh ha)
     have hno:∀(i:Nat) sl,ρ[i]?=some (some sl)->ze5 sl=false:=λi sl h=>by
      have:=jd.mp hall _ (ge h)
      simpa using this
     refine⟨Hf,ρ,[],upd emp a (.dT []),z.1,z.2,⟨I1,hj,zvu zac,λb xs h=>?_,λb hb=>?_,hno,a,[],by rw[jb hjl],zac,rfl,rg,.nil⟩,hz,λHf' σ' H' Hn' sm N'=>?_⟩
     ·by_cases hb:b=a
      ·subst hb;rw[zac]at h;cases h
      ·rw[zae hb]at h;cases h
     ·rw[zvv hb];exact⟨I.fh.free ha,I.ex.hh.free ha⟩
     ·obtain⟨p,kvs,h1,h2,h3,h4,h5⟩:=N'.ex
      have jr0:=z96 N'.vi.fh (zfz.trans N'.nh);have jl:∀b xs,Hn' b=some (.lst xs)->jn Hf' (noF Hn') b=some (.lst xs):=λb xs e=>jr0 _ _ (zsq e)
      refine⟨_,h1,q (jn Hf' (noF Hn')) H' _ ⟨N'.vi.ex.ff.trans zsp,N'.vi.ex.hh,z1l N'.vi.fh (zfz.trans N'.nh),λb hb=>?_,λb o u h=>N'.vi.ex.nf b o u (z5x h)⟩ ?_⟩
      ·rcases zmf hb with w|w
       ·exact N'.vi.ex.nw b w
       ·exact .inr (.inl (N'.fr b (zx8 w)).2)
      ·refine z0g (jr0 _ _ (z5w h2)) h3 ?_
       have:∀{a:List (List L2.D)} {b:List V},Paired (λds v=>∃l xs,v=.ref l/\Hn' l=some (.lst xs)/\Dns X.K Hf' ds xs) a b->Dns X.K (jn Hf' (noF Hn')) (a.map L2.D.lst) b:=by
        intro a b pr
        induction pr with
        |nil=>exact .nil
        |cons r t ih =>
         obtain⟨l,xs,rfl,e2,e3⟩:=r;exact .cons (zdl (SqL.of (jl _ _ e2)) (e3.same zsp)) ih
       have e:=this h5;rw[zd]at e;exact e
    ·exact q.elim
   ·exact q.elim
  ·exact q.elim
end
section
variable {K:PySem.W.Frag}{B:Bs}{Hf H Hf' H':Hp}{ρ:Rho}{σ:St}{i j:Nat}{p q:Addr}{ks ks':List (List Key)}{dvs dvs' ds:List D}{xs:List V}
theorem zg0{ρ:Rho}{x:Option Sl}{k:Nat}{sl:Sl}(e:(ρ.set j x)[k]?=some (some sl)):(k=j/\x=some sl/\j<ρ.length)\/(k≠j/\ρ[k]?=some (some sl)):=by
 by_cases hj:j=k
 ·subst hj
  rw[xm]at e
  split at e
  ·split at e
   ·rename_i hl;exact .inl ⟨rfl,vc e,hl⟩
   ·cases e
  ·rename_i hh;exact absurd rfl hh
 ·rw[qa hj]at e
  exact .inr ⟨λz=>hj z.symm,e⟩
theorem VI.setN(I:VI K B Hf ρ σ H)(bq:B.h q=none)(fq:Hf q=none)(hq:H q=some (.lst xs))(dn:Dns K Hf ds xs)(ap:∀(k:Nat) sl,ρ[k]?=some (some sl)->ze5 sl=true->σ[k]?≠some (some (.ref q))):VI K B Hf (ρ.set i (some (.ow ds))) (σ.set i (some (.ref q))) H:=by
 have hs:∀{k:Nat} {x:V},k≠i->(σ.set i (some (.ref q)))[k]?=some (some x)->σ[k]?=some (some x):=λ{k x} hk z=>by rw[qa (gh hk)]at z;exact z
 have hsi:i<ρ.length->(σ.set i (some (.ref q)))[i]?=some (some (.ref q)):=λhl=>by rw[jb (by rw[<-I.len];exact hl)]
 refine⟨I.ex,by rw[pp,pp];exact I.len,λk sl e=>?_,λk sl a e o z=>?_,λk l sk sl a e1 e2 o1 o2 z1 z2=>?_⟩
 ·rcases zg0 e with⟨rfl,h,hl⟩|⟨hk,e⟩
  ·cases h
   exact⟨.ref q,hsi hl,q,xs,rfl,fq,hq,dn⟩
  ·obtain⟨v,h1,h2⟩:=I.ok k sl e
   exact⟨v,by rw[qa (gh hk)];exact h1,h2⟩
 ·rcases zg0 e with⟨rfl,h,hl⟩|⟨hk,e⟩
  ·rw[hsi hl]at z;cases z;exact bq
  ·exact I.own k sl a e o (hs hk z)
 ·rcases zg0 e1 with⟨rfl,h1,hl1⟩|⟨hk,d1⟩
  ·rcases zg0 e2 with⟨rfl,h2,_⟩|⟨hl,d2⟩
   ·rfl
   ·rw[hsi hl1]at z1;cases z1
    exact absurd (hs hl z2) (ap l sl d2 o2)
  ·rcases zg0 e2 with⟨rfl,h2,hl2⟩|⟨hl,d2⟩
   ·rw[hsi hl2]at z2;cases z2
    exact absurd (hs hk z1) (ap k sk d1 o1)
   ·exact I.dis k l sk sl a d1 d2 o1 o2 (hs hk z1) (hs hl z2)
end
noncomputable def z2w(H:Hp)(l:List Addr):Hp:=λb=>if b∈l then H b else none
theorem zku{H:Hp}{l:List Addr}:zav (z2w H l) H:=λb u h=>by
 unfold z2w at h
 split at h
 ·exact h
 ·cases h
theorem z1r{H:Hp}{l:List Addr}{b:Addr}(h:z2w H l b≠none):b∈l:=by
 unfold z2w at h
 split at h
 ·assumption
 ·exact absurd rfl h
theorem z1s{H:Hp}{l:List Addr}{b:Addr}(h:b∈l):z2w H l b=H b:=ba h
section
variable {K:PySem.W.Frag}{B:Bs}{Hf H Hf' H' Hn:Hp}{ρ:Rho}{σ:St}{rows:List (D×List D)}{rs qs l:List Addr}{t:Addr}{i:Nat}
noncomputable abbrev frL(Hf H:Hp)(l:List Addr):Hp:=jn Hf (noF (z2w H l))
theorem z54(s:zav Hf H):zav (frL Hf H l) H:=z1l s (zfz.trans zku)
theorem zmh{b:Addr}{xs:List V}(s:zav Hf H)(hb:b∈l)(h:H b=some (.lst xs)):frL Hf H l b=some (.lst xs):=z96 s (zfz.trans zku) b _ (zsq (by rw[z1s hb];exact h))
theorem zf0{b:Addr}(h:Hf b=none)(hb:b ∉ l):frL Hf H l b=none:=by
 unfold frL jn;rw[h];exact zvt (oa hb)
theorem zye{Hf0 H0:Hp}(e:Ex Hf0 H0 Hf H)(fr:∀b∈l,H0 b=none):Ex Hf0 H0 (frL Hf H l) H :=
 ⟨e.ff.trans zsp,e.hh,z54 e.fh,λ b hb=>by
  rcases zmf hb with z|z
  ·exact e.nw b z
  ·exact .inr (.inl (fr b (z1r (zx8 z)))),λb o u h=>e.nf b o u (z5x h)⟩
theorem Rws.dns(h:Rws K Hf H rows rs qs)(s:zav Hf Hf')(f:∀q∈qs,∀ys,H q=some (.lst ys)->Hf' q=some (.lst ys)):Dns K Hf' (rows.map zt8) (rs.map V.ref):=by
 induction h with
 |nil=>exact .nil
 |cons a b c d e g _ ih =>
  obtain⟨k1,b1⟩:=b.same s;obtain⟨k2,e1⟩:=(Dns.same e s).level;have h2:=SqL.of (K:=K) (f _ (za ..) _ d);refine .cons ⟨max k1 (k2+1)+1,_,_,rfl,s _ _ a,.cons ?_ (.cons ?_ .nil)⟩ (ih λq hq=>f q (da _ hq))
  ·exact zm8 b1 (Nat.le_max_left _ _)
  ·exact zm8 (j:=k2+1) ⟨_,_,rfl,h2,e1⟩ (Nat.le_max_right _ _)
theorem RwT.dn(h:RwT K Hf H t rows rs qs)(s:zav Hf H):Dn K (frL Hf H (t::qs)) (zjc rows) (.ref t):=by
 have:=h.rw.dns (Hf':=frL Hf H (t::qs)) zsp λq hq ys z=>zmh s (da _ hq) z
 obtain⟨k,this⟩:=this.level;exact⟨k+1,t,_,rfl,SqL.of (zmh s (za ..) h.ht),this⟩
theorem RwT.heap(h:RwT K Hf H t rows rs qs)(s:zav H H'):RwT K Hf H' t rows rs qs:=⟨s _ _ h.ht,h.hf,h.nt,h.rw.heap s⟩
theorem VI.frL(I:VI K B Hf ρ σ H)(fr:∀b∈l,B.h b=none)(ow:∀(j:Nat) sl p,ρ[j]?=some (some sl)->ze5 sl=true->σ[j]?=some (some (.ref p))->p ∉ l):VI K B (frL Hf H l) ρ σ H:=by
 refine⟨zye I.ex fr,I.len,λj sl e=>?_,I.own,I.dis⟩;obtain⟨u,k1,k2⟩:=I.ok j sl e;refine⟨u,k1,?_⟩
 cases sl with
 |sh d'=>exact Dn.same k2 zsp
 |ow ds=>obtain⟨p,xs,rfl,n1,n2,n3⟩:=k2;exact⟨p,xs,rfl,zf0 n1 (ow j _ p e rfl k1),n2,Dns.same n3 zsp⟩
 |dk ks ds=>obtain⟨p,xs,rfl,n1,n2,nk,n3⟩:=k2;exact⟨p,xs,rfl,zf0 n1 (ow j _ p e rfl k1),n2,nk,Dns.same n3 zsp⟩
 |dt ks ds=>obtain⟨p,xs,rfl,n1,n2,nk,n3⟩:=k2;exact⟨p,xs,rfl,zf0 n1 (ow j _ p e rfl k1),n2,nk,Dns.same n3 zsp⟩
theorem zoa{α:Type _}{l:List α}{i:Nat}{x:α}(h:l[i]?=some x):l.set i x=l:=by
 apply zf;intro j;by_cases hj:i=j
 ·subst hj;rw[jb (ya.mp h).1,h]
 ·rw[qa hj]
structure PQ(K:PySem.W.Frag)(B:Bs)(i:Nat)(rows:List (D×List D))(Hf:Hp)(ρ:Rho)(σ:St)(H:Hp)(t:Addr)(rs qs:List Addr):Prop where
 vi:VI K B Hf ρ σ H
 ni:ρ[i]?=some none
 st:σ[i]?=some (some (.ref t))
 rw:RwT K Hf H t rows rs qs
 fr:∀b∈t::qs,B.h b=none
 ow:∀(j:Nat) sl p,ρ[j]?=some (some sl)->ze5 sl=true->σ[j]?=some (some (.ref p))->p ∉ t::qs
theorem PQ.heap(I:PQ K B i rows Hf ρ σ H t rs qs)(s:zav H H'):PQ K B i rows Hf ρ σ H' t rs qs:=⟨I.vi.ext ⟨zav.refl _,s,I.vi.fh.trans s,λ_ h=>.inl h,λ_ _ _ h=>h⟩,I.ni,I.st,I.rw.heap s,I.fr,I.ow⟩
theorem PQ.sh(I:PQ K B i rows Hf ρ σ H t rs qs):VI K B (L2.frL Hf H (t::qs)) (ρ.set i (some (.sh (zjc rows)))) σ H:=by
 have h:=(I.vi.frL I.fr I.ow).set (i:=i) (I.rw.dn I.vi.fh)
 rwa [zoa I.st]at h
end
noncomputable def z55:D->Bool
 |.tup [_,.lst _]=>true
 |_=>false
noncomputable def z7u:D->Bool
 |.lst ds=>ds.all z55
 |_=>false
theorem z1t{d:D}(h:z7u d=true):∃rows,d=zjc rows:=by
 unfold z7u at h
 split at h
 ·rename_i ds
  induction ds with
  |nil=>exact⟨[],rfl⟩
  |cons r ds ih =>
   rw[ng,gc]at h;obtain⟨rows,e⟩:=ih h.2;have h1:=h.1;unfold z55 at h1
   split at h1
   ·exact⟨(_,_)::rows,by rw[D.lst.inj e];rfl⟩
   ·cases h1
 ·cases h
theorem zvz{rows:List (D×List D)}:z7u (zjc rows)=true:=jd.mpr λd hd=>by
 obtain⟨r,_,rfl⟩:=vb.mp hd;rfl
noncomputable def fRs(f:Rho->Option D):Rho->Option D:=λρ=>(f ρ).bind λd=>if z7u d=true then some d else none
theorem zob{f:Rho->Option D}{ρ:Rho}{d:D}(h:fRs f ρ=some d):∃rows,d=zjc rows/\f ρ=some (zjc rows):=by
 obtain⟨d',h1,h2⟩:=bind_some h
 split at h2
 ·rename_i hz
  cases h2;obtain⟨rows,rfl⟩:=z1t hz
  exact⟨rows,rfl,h1⟩
 ·cases h2
theorem z56{f:Rho->Option D}{ρ:Rho}{rows:List (D×List D)}(h:f ρ=some (zjc rows)):fRs f ρ=some (zjc rows):=by
 unfold fRs;rw[h];exact ba zvz
noncomputable def sQ(K:PySem.W.Frag)(B:Bs)(i:Nat)(g:GP):TS:=λD σ H=>∃rows Hf ρ t rs qs,PQ K B i rows Hf ρ σ H t rs qs/\zei K B Hf (g (zjc rows) ρ) D
section
variable {X:Cx}{B:Bs}{i j:Nat}{pos:Pos}{e:Expr}{f:Rho->Option D}{ft:Rho->Option Bool}{fb g':Rho->Out}{g:GP}{rest as:List Stmt}
theorem r_v(h:PE X e (eRs X.K B f)):PE X e (eV X.K B (fRs f)):=h.imp λσ H Q ⟨Hf,ρ,d,I,hd,q⟩=>by
 obtain⟨rows,rfl,hd1⟩:=zob hd;exact⟨Hf,ρ,rows,I,hd1,λHf' H' t rs qs ex fr w=>q _ H' (.ref t) (zye ex fr) (w.dn ex.fh)⟩
theorem z1u{x:Str}{pos':Pos}(hN:X.N.Nodup)(hi:X.N[i]?=some x)(hx:Loc X.env.scope x)(he:PE X e (eRs X.K B f))(hr:PSs X rest (sQ X.K B i g))(hs:swapsWith e (some (.Name x pos')) pos.line X.env=pure false:=by rfl)(hf:X.fn x=true\/X.env.scope.names.lookup x=some .local:=by first|exact .inl rfl|exact .inr rfl|assumption) :
  PSs X (.Assign [.Name x pos'] e pos::rest) (sV X.K B (zkp i (fRs f) g)):=(zb8 (zf6 hN hi hx he hs hf) hr).imp λD σ H ⟨Hf,ρ,I,q⟩=>by
 unfold zkp at q
 split at q
 ·rename_i hni
  split at q
  ·rename_i d hd
   have hl:i<σ.length:=by rw[<-I.len];exact(ya.mp hni).1
   obtain⟨rows,rfl,hd1⟩:=zob hd
   ·refine⟨Hf,ρ,rows,I,hd1,λHf' H' t rs qs ex fr w=>⟨rows,Hf',ρ,t,rs,qs,⟨(I.ext ex).setU hni,hni,by rw[jb hl],w,λb hb=>I.ex.hh.free (fr b hb),λj sl p h1 h2 h3 h4=>?_⟩,zei.mono q ex.ff⟩⟩
    have hji:i≠j:=λz=>by subst z;rw[hni]at h1;cases h1
    rw[qa hji]at h3;obtain⟨u,k1,k2⟩:=I.ok j sl h1;rw[h3]at k1;cases k1;have hp:=fr p h4
    cases sl with
    |sh d'=>cases h2
    |ow ds=>obtain⟨p',xs,e1,_,n2,_⟩:=k2;cases e1;rw[n2]at hp;cases hp
    |dk ks ds=>obtain⟨p',xs,e1,_,n2,_⟩:=k2;cases e1;rw[n2]at hp;cases hp
    |dt ks ds=>obtain⟨p',xs,e1,_,n2,_⟩:=k2;cases e1;rw[n2]at hp;cases hp
  ·exact q.elim
 ·exact q.elim
theorem z1v{c:Expr}(hc:PT X c (tV X.K B ft))(ha:PSs X as (sV X.K B fb))(hr:PSs X rest (sQ X.K B i g)):PSs X (.If c as [] pos::rest) (sQ X.K B i (zkq i ft fb g)):=(zb8 (z27 hc ha zp5) hr).imp λD σ H ⟨rows,Hf,ρ,t,rs,qs,I,q⟩=>by
 unfold zkq at q
 cases e:ft (ρ.set i (some (.sh (zjc rows)))) with
 |none=>rw[e]at q;exact q.elim
 |some b =>
  rw[e]at q;refine⟨_,ρ.set i (some (.sh (zjc rows))),b,I.sh,e,λHf1 H1 ex1=>?_⟩
  cases b with
  |true =>
   rw[ba rfl];refine⟨Hf1,ρ.set i (some (.sh (zjc rows))),I.sh.ext ex1,?_⟩;dsimp only at q
   cases e2:fb (ρ.set i (some (.sh (zjc rows)))) with
   |rt z=>rw[e2]at q;exact q
   |_=>rw[e2]at q;exact q.elim
  |false =>
   rw[oa la];exact⟨rows,Hf,ρ,t,rs,qs,I.heap ex1.hh,q⟩
theorem z1w{fe:Rho->Option D}:z97 (zc2 fe):=λρ d h=>by unfold zc2 at h;split at h <;> cases h
noncomputable def ybm(c:D):D->D
 |.tup [a,.lst es]=>.tup [a,.lst (es++[c])]
 |d=>d
noncomputable def ycw(m:Nat):D->Bool
 |.tup [_,.lst es]=>decide (es.length<=m)
 |_=>false
noncomputable def zkv(i j m:Nat)(c:D)(g:Rho->Out):GP:=λd ρ=>match d with
 |.lst ds=>if ds.length<=9000/\ds.all (ycw m)=true/\j<ρ.length then g ((ρ.set j none).set i (some (.ow (ds.map (ybm c))))) else .bad
 |_=>.bad
noncomputable def z57(c:D)(r:D×List D):D×List D:=(r.1,r.2++[c])
theorem Rws.get{K:PySem.W.Frag}{Hf H:Hp}{rows:List (D×List D)}{rs qs:List Addr}(h:Rws K Hf H rows rs qs):∀(n:Nat) (hn:n<qs.length) (h1:n<rs.length) (h2:n<rows.length),∃v ys,Hf rs[n]=some (.tup [v,.ref qs[n]])/\Hf qs[n]=none/\H qs[n]=some (.lst ys)/\ys.length=rows[n].2.length:=by
 induction h with
 |nil=>intro n hn;cases hn
 |cons a b c d e g _ ih =>
  intro n hn h1 h2
  cases n with
  |zero=>exact⟨_,_,a,c,d,e.length.symm⟩
  |succ n=>exact ih n (cj hn) (cj h1) (cj h2)
theorem Rws.off{K:PySem.W.Frag}{Hf H:Hp}{rows:List (D×List D)}{rs qs:List Addr}{p:Addr}{o:HO}(h:Rws K Hf H rows rs qs)(hp:p ∉ qs):Rws K Hf (upd H p o) rows rs qs:=by
 induction h with
 |nil=>exact .nil
 |cons a b c d e g _ ih =>
  rw[yb,not_or]at hp;exact .cons a b c (by rw[zae (gh hp.1)];exact d) e g (ih hp.2)
theorem Rws.app{K:PySem.W.Frag}{Hf H:Hp}{rows:List (D×List D)}{rs qs:List Addr}{c:D}{v:V}(hc:Dn K Hf c v)(h:Rws K Hf H rows rs qs):∀(n:Nat) (hn:n<qs.length) {ys:List V},H qs[n]=some (.lst ys)->Rws K Hf (upd H qs[n] (.lst (ys++[v]))) (rows.modify n (z57 c)) rs qs:=by
 induction h with
 |nil=>intro n hn;cases hn
 |cons a b c' d e g h ih =>
  intro n hn ys hy
  cases n with
  |zero =>
   have hy:_=some (HO.lst ys):=hy;rw[List.getElem_cons_zero]at hy;rw[d]at hy;cases hy;exact .cons a b c' zac (e.zsnoc hc) g (h.off g)
  |succ n =>
   have hn:=cj hn;exact .cons a b c' (by rw[zae (λz=>g (by rw[z];exact ye hn))];exact d) e g (ih n hn hy)
noncomputable abbrev zex(c:D)(n:Nat)(rows:List (D×List D)):List (D×List D):=rows.mapIdx λk r=>if k<n then z57 c r else r
theorem z58{c:D}{rows:List (D×List D)}:zex c 0 rows=rows:=by
 apply zf;intro k;unfold zex;rw[uj]
 cases rows[k]? <;> rfl
theorem zsw{c:D}{rows:List (D×List D)}:zex c rows.length rows=rows.map (z57 c):=by
 apply zf;intro k;unfold zex;rw[uj,pc];by_cases hk:k<rows.length
 ·rw[ed hk,ae,ae,ba hk]
 ·rw[wg (by omega)];rfl
theorem zpm{c:D}{n:Nat}{rows:List (D×List D)}:(zex c n rows).modify n (z57 c)=zex c (n+1) rows:=by
 apply zf;intro k;unfold zex;rw[List.getElem?_modify,uj,uj]
 cases rows[k]? with
 |none=>rfl
 |some r =>
  simp only[ae,Option.map_eq_map];by_cases h:n=k
  ·subst h;rw[ba rfl,oa (zg _),ba (yn _)]
  ·rw[oa h]
   by_cases h2:k<n
   ·rw[ba h2,ba (by omega)]
   ·rw[oa h2,oa (by omega)]
theorem zv0{c:D}{n:Nat}{rows:List (D×List D)}(h:n<(zex c n rows).length)(h':n<rows.length):(zex c n rows)[n]=rows[n]:=by
 rw[List.getElem_mapIdx,oa (zg _)]
theorem zsx{c:D}{n:Nat}{rows:List (D×List D)}:(zex c n rows).length=rows.length:=List.length_mapIdx
theorem z59{x y:Str}{p1 p2 p3 p4 p5 p6 p7 p8:Pos}{j1:Nat}{a:Expr}{v:V}{m:Nat}(hij:i≠j)(hm:m<90000)(hfl:zcg v=true)(hc:X.calm=true)(hp:PassesOwn (model X.prog X.w) X.A X.env X.xe)(hNd:X.N.Nodup)(hN:X.N[i]?=some x)(hM:X.N[j]?=some y)(hy:Loc X.env.scope y)(ha:PE X a (tC v))(hpl:zll (.Constant (.int 1) j1 p7))(hr:PSs X rest (sV X.K B g'))
  (hv:Vis X.env.scope x:=by first|exact lb rfl|exact we (lb rfl)|exact we (we rfl)) (hd:(x == ("__debug__" : Str))=false:=by decide) (hcd:(x == ("__classdict__" : Str))=false:=by decide)
  (hv2:Vis X.env.scope y:=by first|exact lb rfl|exact we (lb rfl)|exact we (we rfl)) (hd2:(y == ("__debug__" : Str))=false:=by decide) (hcd2:(y == ("__classdict__" : Str))=false:=by decide)
  (hf:X.fn y=true\/X.env.scope.names.lookup y=some .local:=by first|exact .inl rfl|exact .inr rfl|assumption)
  (hbase:attributeBase (.Subscript (.Name y p3) (.Constant (.int 1) j1 p7) p8) "append" X.env (eval (.Subscript (.Name y p3) (.Constant (.int 1) j1 p7) p8) X.env)=eval (.Subscript (.Name y p3) (.Constant (.int 1) j1 p7) p8) X.env:=by rfl)
  (hfew:((backTo p5 (starEach [a] X.env)).all (λx=>!x.1) && (backToKw p5 (keywordEach [] X.env)).all (λx=>x.1.isSome) && decide ([a].length+([]:List Keyword).length+(if ([]:List Keyword).isEmpty then 0 else 1)<30))=true:=by rfl)
  (hline:(p4.endLine == p5.line)=true:=by rfl) (hs:starEach [a] X.env=(false,eval a X.env)::starEach [] X.env:=by rfl) (hplain:(backTo p5 (starEach [] X.env)).any (·.1)=false:=by rfl) (hsw:swapsWith (.Call (.Attribute (.Subscript (.Name y p3) (.Constant (.int 1) j1 p7) p8) "append" p4) [a] [] p5) none p6.line X.env=pure false:=by rfl) (hfs:∀z,foldedSetIterable (.Name x p2) X.env z=pure z:=by intro _;rfl) :
  PSs X (.For (.Name y p1) (.Name x p2) [.Expr (.Call (.Attribute (.Subscript (.Name y p3) (.Constant (.int 1) j1 p7) p8) "append" p4) [a] [] p5) p6] [] pos::rest) (sQ X.K B i (zkv i j m (.sc v) g')) :=
 (zb8 (zmz hp hc (zz6 (zcy hN hv hd hcd)) (zp6 hNd hM hy hf) (zef (zf5 (zuj PySem.F.plainAttrs_list PySem.F.slot_list_append PySem.F.type_list_append zgd (z3m zw9 (zcy hM hv2 hd2 hcd2) zwz hpl) (zcb ha zdt hs) hbase hfew hline hs hplain) hsw)) hfs) hr).imp λD σ H ⟨rows,Hf,ρ,t,rs,qs,I,q⟩=>by
  unfold zkv at q;dsimp only at q
  split at q
  ·rename_i hcond
   obtain⟨hdl,hcols,hjl⟩:=hcond;rw[ia]at hdl;obtain⟨hl1,hl2⟩:=I.rw.rw.len
   have P0:PQ X.K B i (zex (.sc v) 0 rows) Hf (ρ.set j none) σ H t rs qs:=⟨I.vi.drop j,by rw[List.getElem?_set_ne (Ne.symm hij)];exact I.ni,I.st,by rw[z58];exact I.rw,I.fr,λ l sl p e o z=>by
    by_cases hl:j=l
    ·subst hl;rw[jb hjl]at e;cases e
    ·rw[qa hl]at e;exact I.ow l sl p e o z⟩
   have hnj:(ρ.set j none)[j]?=some none:=by rw[jb hjl]
   refine⟨.ref t,I.st,⟨_,SqL.of I.rw.ht⟩,λn mm σ H=>mm=rs.length - n/\n<=rs.length/\PQ X.K B i (zex (.sc v) n rows) Hf (ρ.set j none) σ H t rs qs,⟨rs.length,by simp,vd _,P0⟩,?_⟩;rintro n mm σ2 H2 ⟨rfl,hn,P⟩;have hq2:SqL X.K H2 t (rs.map V.ref):=SqL.of P.rw.ht;by_cases hlt:n<rs.length
   ·refine .inr ⟨⟨_,.ref rs[n],hq2,by rw[pc,ed hlt];rfl⟩,λσ' H'=>PQ X.K B i (zex (.sc v) (n+1) rows) Hf (ρ.set j none) σ' H' t rs qs,λσ' H' P'=>⟨rs.length - (n+1),by omega,rfl,hlt,P'⟩,λz H3 ⟨e3,yz⟩=>?_⟩
    subst e3;have hz:=yz _ hq2;rw[pc,ed hlt]at hz;cases hz;have hnq:n<qs.length:=by omega
    have hnr:n<rows.length:=by omega
    have hnr':n<(zex (.sc v) n rows).length:=by rw[zsx];exact hnr
    obtain⟨u,ws,w0,w1,w2,w3⟩:=P.rw.rw.get n hnq hlt hnr';rw[zv0 hnr' hnr]at w3
    have hwl:ws.length<=m:=by
     have:=jd.mp hcols (zt8 rows[n]) (vb.mpr ⟨_,ye hnr,rfl⟩)
     have:=lc this
     omega
    have hs2:j<σ2.length:=by rw[<-P.vi.len];simpa using hjl
    have hqm:qs[n]∈t::qs:=da _ (ye hnq);have htq:t≠qs[n]:=λz=>P.rw.nt (by rw[z];exact ye hnq)
    refine⟨.ref rs[n],by rw[jb hs2],_,.ref qs[n],.inl (.inl (P.vi.fh _ _ w0)),ze2 (j:=1) rfl,.inl ⟨rfl,ws,SqL.of w2⟩,ws,w2,?_,?_⟩
    ·exact Nat.lt_of_le_of_lt hwl (dc (show m<100000 by omega) (sz (wa _)))
    ·have nown:∀(l:Nat) sl,(ρ.set j none)[l]?=some (some sl)->ze5 sl=true->σ2[l]?≠some (some (.ref qs[n])):=λl sl k1 k2 k3=>P.ow l sl _ k1 k2 k3 hqm
     refine⟨(P.vi.offH nown w1 (P.fr _ hqm)).setU hnj,P.ni,by rw[qa (gh hij)];exact P.st,⟨by rw[zae htq];exact P.rw.ht,P.rw.hf,P.rw.nt,?_⟩,P.fr,λl sl p k1 k2 k3=>?_⟩
     ·rw[<-zpm]
      exact P.rw.rw.app (c:=.sc v) (v:=v) ⟨0,hfl,rfl⟩ n hnq w2
     ·have hlj:j≠l:=λz=>by subst z;rw[hnj]at k1;cases k1
      rw[qa hlj]at k3;exact P.ow l sl p k1 k2 k3
   ·have e:n=rs.length:=by omega
    subst e;refine .inl ⟨⟨_,hq2,by simp⟩,?_⟩;have I2:=P.vi.frL (l:=qs) (λb hb=>P.fr b (da _ hb)) (λl sl p k1 k2 k3 z=>P.ow l sl p k1 k2 k3 (da _ z));have dn:=P.rw.rw.dns (Hf':=frL Hf H2 qs) zsp λq hq ys z=>zmh P.vi.fh hq z
    rw[hl1,zsw]at dn;have I3:=I2.setN (i:=i) (P.fr t (za ..)) (zf0 P.rw.hf P.rw.nt) P.rw.ht dn (λk sl k1 k2 k3=>P.ow k sl t k1 k2 k3 (za ..));rw[zoa P.st]at I3;have em:(rows.map zt8).map (ybm (.sc v))=(rows.map (z57 (.sc v))).map zt8:=by rw[zd,zd];rfl
    rw[em]at q;exact⟨_,_,I3,zei.mono q zsp⟩
  ·exact q.elim
end
end L2
namespace L2
open PySem
theorem ziv{fa fb:Rho->Option Bool}{ρ:Rho}{a b:Bool}(h:fa ρ=some a)(h2:a=true->fb ρ=some b):zc9 fa fb ρ=some (a && b):=by
 cases a with
 |false=>exact znm h
 |true=>exact zkb h (h2 rfl)
theorem zyf{fa fb:Rho->Option Bool}{ρ:Rho}{a b:Bool}(h:fa ρ=some a)(h2:a=false->fb ρ=some b):bOr fa fb ρ=some (a || b):=by
 cases a with
 |false=>exact zhg h (h2 rfl)
 |true=>exact z0x h
theorem zay{g:D->Rho->Option Rho}{f:Rho->Out}{x:D}{r:List D}{ρ ρ1 ρ2:Rho}(h1:g x ρ=some ρ1)(h2:f ρ1=.nx ρ2):zea g f (x::r) ρ=zea g f r ρ2:=by
 rw[zea,h1];dsimp only;rw[h2]
theorem zc6{i:Nat}{fe:Rho->Option D}{ρ:Rho}{ds:List D}{d:D}(h0:ρ[i]?=some (some (.ow ds)))(h1:fe ρ=some d)(h2:ds.length<=100000):zda i fe ρ=.nx (ρ.set i (some (.ow (ds++[d])))):=by
 unfold zda;rw[h0];dsimp only;rw[h1];dsimp only;rw[ba (szl h2)]
theorem zyg{i j:Int}(h:0<=j/\j<=1000000/\i.natAbs<2 ^ 64):zrk (.int i) (.int j)=some (.int (i ^ j.toNat)):=by unfold zrk zgk;exact ba (ub h)
theorem z1x{l:List Int}:zd8 [.lst (l.map D.int)]=some (.int l.length):=by unfold zd8;dsimp only;rw[ia]
noncomputable def dAt(l:List Int)(i:Nat):Int:=l.getD i 0
theorem z6a{l:List Int}{i:Nat}(h:i<l.length):gIx (.lst (l.map D.int)) (.int (i:Nat))=some (.int (dAt l i)):=by
 refine ze2 ?_;rw[pc];simp[dAt,h]
theorem z6b{i j:Int}:z4x [.int i,.int j]=some (.int (if j<i then j else i)):=rfl
theorem zyh{l:List Int}{a b:Nat}(h:a<=b):gSl (.lst (l.map D.int)) (some (a:Int)) (some (b:Int))=some (.lst (((l.drop a).take (b - a)).map D.int)):=by
 unfold gSl;dsimp only;rw[zim,zr4 _ _ _ h]
structure TotD(C:D->Prop):Prop where
 eq:∀a b,C a->C b->(deq a b=true↔a=b)
 ok:∀a b,C a->C b->zb9 a b=true
 tr:∀a b c,C a->C b->C c->dlt a b=true->dlt b c=true->dlt a c=true
 tot:∀a b,C a->C b->a=b\/dlt a b=true\/dlt b a=true
 as:∀a b,C a->C b->dlt a b=true->dlt b a=false
theorem TotD.irr{C:D->Prop}(T:TotD C){a:D}(h:C a):dlt a a=false:=by
 cases e:dlt a a with
 |false=>rfl
 |true=>rw[T.as a a h h e]at e;cases e
def z6c(d:D):Prop:=∃i:Int,d=.int i
def CBl(d:D):Prop:=∃b:Bool,d=.bl b
def z6d(d:D):Prop:=∃l:List Nat,d=.str l
theorem ziw(i j:Int):dlt (.int i) (.int j)=decide (i<j):=by rw[dlt];rfl
theorem zix:TotD z6c where
 eq:=λa b ⟨i,x⟩ ⟨j,y⟩=>by subst x y;rw[zl5];simp
 ok:=λa b ⟨i,x⟩ ⟨j,y⟩=>by subst x y;rw[zb9];rfl
 tr:=λa b c ⟨i,x⟩ ⟨j,y⟩ ⟨k,z⟩ h1 h2=>by
  subst x y z;rw[ziw]at *
  have:=lc h1
  have:=lc h2
  exact ub (by omega)
 tot:=λa b ⟨i,x⟩ ⟨j,y⟩=>by
  subst x y;rw[ziw,ziw];rcases Int.lt_trichotomy i j with h|h|h
  ·exact .inr (.inl (ub h))
  ·exact .inl (by rw[h])
  ·exact .inr (.inr (ub h))
 as:=λa b ⟨i,x⟩ ⟨j,y⟩ h=>by
  subst x y;rw[ziw]at *
  have:=lc h
  exact md (by omega)
theorem z7v(i j:Bool):dlt (.bl i) (.bl j)=(!i && j):=by rw[dlt];cases i <;> cases j <;> rfl
theorem zyi:TotD CBl where
 eq:=λa b ⟨i,x⟩ ⟨j,y⟩=>by subst x y;rw[zr7];cases i <;> cases j <;> simp
 ok:=λa b ⟨i,x⟩ ⟨j,y⟩=>by subst x y;rw[zb9];rfl
 tr:=λa b c ⟨i,x⟩ ⟨j,y⟩ ⟨k,z⟩ h1 h2=>by
  subst x y z;rw[z7v]at *
  cases i <;> cases j <;> cases k <;> simp_all
 tot:=λa b ⟨i,x⟩ ⟨j,y⟩=>by
  subst x y;rw[z7v,z7v]
  cases i <;> cases j <;> simp
 as:=λa b ⟨i,x⟩ ⟨j,y⟩ h=>by
  subst x y;rw[z7v]at *
  cases i <;> cases j <;> simp_all
theorem z7w(l m:List Nat):dlt (.str l) (.str m)=decide (l<m):=by rw[dlt];rfl
theorem zsy{i j:List Nat}(h:D.str i=D.str j):i=j:=by
 have h2:S i=S j:=V.str.inj (D.sc.inj h);have h3:i.toArray=j.toArray:=Str.mk.inj h2
 simpa using h3
theorem zmi:TotD z6d where
 eq:=λa b ⟨i,x⟩ ⟨j,y⟩=>by subst x y;rw[zl4];exact⟨λh=>by rw[lc h],λh=>ub (zsy h)⟩
 ok:=λa b ⟨i,x⟩ ⟨j,y⟩=>by subst x y;rw[zb9];rfl
 tr:=λa b c ⟨i,x⟩ ⟨j,y⟩ ⟨k,z⟩ h1 h2=>by
  subst x y z;rw[z7w]at *;exact ub (List.lt_trans (lc h1) (lc h2))
 tot:=λa b ⟨i,x⟩ ⟨j,y⟩=>by
  subst x y;rw[z7w,z7w];by_cases h:i<j
  ·exact .inr (.inl (ub h))
  ·by_cases h':j<i
   ·exact .inr (.inr (ub h'))
   ·exact .inl (by rw[List.le_antisymm (List.not_lt.mp h') (List.not_lt.mp h)])
 as:=λa b ⟨i,x⟩ ⟨j,y⟩ h=>by
  subst x y;rw[z7w]at *;exact md (List.lt_asymm (lc h))
def Fam(C:Nat->D->Prop):List D->Prop
 |[]=>True
 |d::r=>C 0 d/\Fam (λi=>C (i+1)) r
theorem zoc:∀{C:Nat->D->Prop},(∀i,TotD (C i))->∀as bs,Fam C as->Fam C bs->(zb7 as bs=true↔as=bs)
 |C,T,[],[],_,_=>by simp[zb7]
 |C,T,[],_::_,_,_=>by simp[zb7]
 |C,T,_::_,[],_,_=>by simp[zb7]
 |C,T,a::as,b::bs,ha,hb=>by
  rw[zb7,gc,(T 0).eq a b ha.1 hb.1,zoc (λi=>T (i+1)) as bs ha.2 hb.2];simp
theorem zsz:∀{C:Nat->D->Prop},(∀i,TotD (C i))->∀as bs,Fam C as->Fam C bs->zdn as bs=true
 |C,T,[],[],_,_=>by simp[zdn]
 |C,T,[],_::_,_,_=>by simp[zdn]
 |C,T,_::_,[],_,_=>by simp[zdn]
 |C,T,a::as,b::bs,ha,hb=>by rw[zdn,(T 0).ok a b ha.1 hb.1,zsz (λi=>T (i+1)) as bs ha.2 hb.2];rfl
theorem zmj:∀{C:Nat->D->Prop},(∀i,TotD (C i))->∀as bs,Fam C as->Fam C bs->as=bs\/zdr as bs=true\/zdr bs as=true
 |C,T,[],[],_,_=>.inl rfl
 |C,T,[],_::_,_,_=>.inr (.inl (by rw[zdr]))
 |C,T,_::_,[],_,_=>.inr (.inr (by rw[zdr]))
 |C,T,a::as,b::bs,ha,hb=>by
  by_cases e:a=b
  ·subst e
   have h:=((T 0).eq a a ha.1 ha.1).mpr rfl;rw[zdr,zdr,h,ba rfl,ba rfl];rcases zmj (λi=>T (i+1)) as bs ha.2 hb.2 with z|z|z
   ·exact .inl (by rw[z])
   ·exact .inr (.inl z)
   ·exact .inr (.inr z)
  ·have h1:¬deq a b=true:=λz=>e (((T 0).eq a b ha.1 hb.1).mp z)
   have h2:¬deq b a=true:=λz=>e (((T 0).eq b a hb.1 ha.1).mp z).symm
   rw[zdr,zdr,oa h1,oa h2];rcases(T 0).tot a b ha.1 hb.1 with z|z|z
   ·exact absurd z e
   ·exact .inr (.inl z)
   ·exact .inr (.inr z)
theorem zs0:∀{C:Nat->D->Prop},(∀i,TotD (C i))->∀as bs,Fam C as->Fam C bs->zdr as bs=true->zdr bs as=false
 |C,T,[],[],_,_,h=>by rw[zdr]at h;cases h
 |C,T,[],_::_,_,_,_=>by rw[zdr]
 |C,T,_::_,[],_,_,h=>by rw[zdr]at h;cases h
 |C,T,a::as,b::bs,ha,hb,h=>by
  by_cases e:a=b
  ·subst e
   have h0:=((T 0).eq a a ha.1 ha.1).mpr rfl;rw[zdr,h0,ba rfl]at h ⊢;exact zs0 (λi=>T (i+1)) as bs ha.2 hb.2 h
  ·have h1:¬deq a b=true:=λz=>e (((T 0).eq a b ha.1 hb.1).mp z)
   have h2:¬deq b a=true:=λz=>e (((T 0).eq b a hb.1 ha.1).mp z).symm
   rw[zdr,oa h1]at h;rw[zdr,oa h2];exact(T 0).as a b ha.1 hb.1 h
open Classical in
theorem zs1:∀{C:Nat->D->Prop},(∀i,TotD (C i))->∀as bs cs,Fam C as->Fam C bs->Fam C cs->zdr as bs=true->zdr bs cs=true->zdr as cs=true
 |C,T,as,[],cs,_,_,_,h,h'=>by cases as <;> (rw[zdr]at h;cases h)
 |C,T,as,b::bs,[],_,_,_,h,h'=>by rw[zdr]at h';cases h'
 |C,T,[],b::bs,c::cs,_,_,_,h,h'=>by rw[zdr]
 |C,T,a::as,b::bs,c::cs,ha,hb,hc,h,h'=>by
  have eqv:∀x y,C 0 x->C 0 y->∀p q:Bool,(if deq x y=true then p else q)=if x=y then p else q:=λx y hx hy p q=>by
   by_cases e:x=y
   ·rw[ba (((T 0).eq x y hx hy).mpr e),ba e]
   ·rw[oa (λz=>e (((T 0).eq x y hx hy).mp z)),oa e]
  rw[zdr,eqv a b ha.1 hb.1]at h;rw[zdr,eqv b c hb.1 hc.1]at h';rw[zdr,eqv a c ha.1 hc.1];by_cases e1:a=b
  ·subst e1
   rw[ba rfl]at h;by_cases e2:a=c
   ·subst e2
    rw[ba rfl]at h' ⊢;exact zs1 (λi=>T (i+1)) as bs cs ha.2 hb.2 hc.2 h h'
   ·rw[oa e2]at h' ⊢;exact h'
  ·rw[oa e1]at h
   by_cases e2:b=c
   ·subst e2
    rw[oa e1];exact h
   ·rw[oa e2]at h'
    have h3:=(T 0).tr a b c ha.1 hb.1 hc.1 h h';by_cases e3:a=c
    ·subst e3;rw[(T 0).irr ha.1]at h3;cases h3
    ·rw[oa e3];exact h3
def ybn(C:Nat->D->Prop)(d:D):Prop:=∃ds,d=.lst ds/\Fam C ds
def zyj(C:Nat->D->Prop)(d:D):Prop:=∃ds,d=.tup ds/\Fam C ds
theorem z1y{C:Nat->D->Prop}(T:∀i,TotD (C i)):TotD (ybn C) where
 eq:=λa b ⟨i,x,p⟩ ⟨j,y,q⟩=>by subst x y;rw[deq,zoc T i j p q];simp
 ok:=λa b ⟨i,x,p⟩ ⟨j,y,q⟩=>by subst x y;rw[zb9];exact zsz T i j p q
 tr:=λa b c ⟨i,x,p⟩ ⟨j,y,q⟩ ⟨k,z,r⟩ h1 h2=>by subst x y z;rw[dlt]at *;exact zs1 T i j k p q r h1 h2
 tot:=λa b ⟨i,x,p⟩ ⟨j,y,q⟩=>by
  subst x y;rw[dlt,dlt];rcases zmj T i j p q with z|z
  ·exact .inl (by rw[z])
  ·exact .inr z
 as:=λa b ⟨i,x,p⟩ ⟨j,y,q⟩ h=>by subst x y;rw[dlt]at *;exact zs0 T i j p q h
theorem zg1{C:Nat->D->Prop}(T:∀i,TotD (C i)):TotD (zyj C) where
 eq:=λa b ⟨i,x,p⟩ ⟨j,y,q⟩=>by subst x y;rw[deq,zoc T i j p q];simp
 ok:=λa b ⟨i,x,p⟩ ⟨j,y,q⟩=>by subst x y;rw[zb9];exact zsz T i j p q
 tr:=λa b c ⟨i,x,p⟩ ⟨j,y,q⟩ ⟨k,z,r⟩ h1 h2=>by subst x y z;rw[dlt]at *;exact zs1 T i j k p q r h1 h2
 tot:=λa b ⟨i,x,p⟩ ⟨j,y,q⟩=>by
  subst x y;rw[dlt,dlt];rcases zmj T i j p q with z|z
  ·exact .inl (by rw[z])
  ·exact .inr z
 as:=λa b ⟨i,x,p⟩ ⟨j,y,q⟩ h=>by subst x y;rw[dlt]at *;exact zs0 T i j p q h
theorem zmk{C:D->Prop}:∀{ds:List D},(∀d∈ds,C d)->Fam (λ_=>C) ds
 |[],_=>gg
 |d::r,h=>⟨h d za,zmk λe he=>h e (da _ he)⟩
end L2
namespace K15
open PySem L2
noncomputable def f_q17:Rho->Out :=
  (zat (ze6 3 (lOk aN))
  (zat (zbq 4 (zal 2))
  (zat (zbq 5 (eC (.int 0)))
  (zat (zcx (iE (zal 0)) (gN 6) (zat (sIf (zc9 (tE (e2 gGt (zaa 5) (eC (.int 0)))) (bOr (tE (zal 6)) (tE (e2 gGe (zaa 5) (zaa 1))))) (zat (zbq 4 (e2 zbg (zaa 4) (eC (.int 1))))
  (zbq 5 (eC (.int 0)))) za2)
  (zat (zbq 5 (e2 zbg (zaa 5) (eC (.int 1))))
  (zda 3 (zal 4)))))
  (zhe 3 (zb4 (zal 3)))))))
noncomputable def zml:List D->Option D:=fnR 3 7 f_q17
noncomputable def f_q18:Rho->Out :=
  (zat (sIf (tE (e2 za1 (eC (.str [124])) (zaa 0))) (zb4 (zal 0)) za2)
  (zat (zbq 1 (eM "str" zj7 (zaa 0) (aC (eC (.str [124])) aN)))
  (zb4 (e2 zbg (e2 zbg (eSl (zaa 0) (oS (e2 zbg (zaa 1) (eC (.int 1)))) oN) (eC (.str [44,32]))) (eSl (zaa 0) oN (oS (zaa 1)))))))
noncomputable def zhj:List D->Option D:=fnR 1 2 f_q18
noncomputable def f_q15:Rho->Out :=
  (zb4 (eM "str" zeq (eM "str" zrp (eC (.str [])) (aC (eL (zcd 1 [] (iE (zap 1 zhj (aC (zal 0) aN))) (gN 0) (tE (e2 zj3 (zaa 0) (eC (.str LF)))) (zal 0))) aN)) aN))
noncomputable def zkw:List D->Option D:=fnR 1 1 f_q15
noncomputable def f_q19:Rho->Out :=
  (zb4 (eL (zcd 1 [] (iE (zaa 0)) (gN 0) (λ_=>some true) (eN zbd (aC (zap 1 zkw (aC (zal 0) aN)) (aC (zap 1 zhj (aC (zal 0) aN)) aN))))))
noncomputable def zg2:List D->Option D:=fnR 1 1 f_q19
noncomputable def f_q1a:Rho->Out :=
  (zb4 (zgy gLe gLe ycm (eC (.int 0)) (e2 gIx (zaa 0) (eC (.int 1))) (e2 gIx (zaa 0) (eC (.int 2))) (zaa 1)))
noncomputable def zkx:List D->Option D:=fnR 2 2 f_q1a
noncomputable def f_q16:Rho->Out :=
  (zb4 (eN znf (aC (eN zu4 (aC (zaa 0) aN)) aN)))
noncomputable def zky:List D->Option D:=fnR 1 1 f_q16
noncomputable def f_q8:Rho->Out :=
  (zb4 (eN zbd (aC (zap 1 zg2 (aC (e2 gIx (zaa 0) (eC (.int 0))) aN)) (aC (e2 gIx (zaa 0) (eC (.int 1))) (aC (e2 gIx (zaa 0) (eC (.int 2))) (aC (e2 gIx (zaa 0) (eC (.int 3))) aN))))))
noncomputable def zpn:List D->Option D:=fnR 1 1 f_q8
noncomputable def f_q14:Rho->Out :=
  (zsm 1 (zt7 (iE (zal 0)) (gN 2) (zt7 (iE (zal 2)) (gT 4 (gTC (gN 3) (gTC (gN 4) (gTC (gN 5) (gTC (gN 6) gT0))))) (zsk [2,0,0,1] (eN zbd (aC (zap 1 zky (aC (zal 3) aN)) (aC (zal 4) (aC (zal 5) (aC (zal 6) aN)))))))) zpn)
noncomputable def zkz:List D->Option (List D):=fnW 1 7 f_q14
noncomputable def f_q13:Rho->Out :=
  (zb4 (eT (zc9 (tE (e2 zcc (e2 zbg (e2 gIx (zaa 0) (eC (.int 1))) (eC (.int 1))) (zaa 1))) (tE (e2 zcc (e2 gIx (zaa 0) (eC (.int 2))) (zaa 2))))))
noncomputable def ziy:List D->Option D:=fnR 3 3 f_q13
noncomputable def f_q0:Rho->Out :=
  (zat (z9t 2 (.dk [] []))
  (zat (zcx (iE (zal 1)) (gT 4 (gTC (gN 3) (gTC (gN 4) (gTC (gN 5) (gTC (gN 6) gT0))))) (zcx (iE (eSl (zaa 0) (oS (zaa 4)) (oS (e2 zbg (zaa 5) (eC (.int 1)))))) (gN 7) (zkc 2 (zaa 7) (eT (bOr (tE (zal 6)) (tE (zd3 (zaa 2) (zaa 7) (eC (.bl false)))))))))
  (z01 2 (zb4 (zal 2)))))
noncomputable def z1z:List D->Option D:=fnR 2 8 f_q0
noncomputable def f_qa:Rho->Out :=
  (zat (zbq 2 (zap 2 z1z (aC (zal 0) (aC (zal 1) aN))))
  (zat (ze6 3 (lOk aN))
  (zat (zcx (iE (eL (wN zfl (aC (zaa 2) aN)))) (gN 4) (sIf (zc9 (tE (e2 gGt (eN zd8 (aC (zaa 3) aN)) (eC (.int 0)))) (tE (zap 3 ziy (aC (e2 gIx (zaa 3) (e1 zgl (eC (.int 1)))) (aC (zal 4) (aC (e2 zfr (zaa 2) (zaa 4)) aN)))))) (zke 3 (e1 zgl (eC (.int 1))) (eN zbd (aC (e2 gIx (e2 gIx (zaa 3) (e1 zgl (eC (.int 1)))) (eC (.int 0))) (aC (zal 4) (aC (e2 zfr (zaa 2) (zaa 4)) aN))))) (zda 3 (eN zbd (aC (zal 4) (aC (zal 4) (aC (e2 zfr (zaa 2) (zaa 4)) aN)))))))
  (zdz 3))))
noncomputable def zyk:List D->Option (List D):=fnW 2 5 f_qa
noncomputable def f_q1:Rho->Out :=
  (z52 1 (zyc (iE (zal 0)) (gN 2) (zpl (z7t 3 (e2 gIx (zaa 2) (eC (.int 0))))
  (zpl (zyc (iR zpt (aC (eC (.int 1)) (aC (eN zd8 (aC (zaa 3) aN)) aN))) (gN 4) (gSd (eSl (zaa 3) oN (oS (zaa 4)))))
  (gSa (zaa 3) (zal 2))))))
noncomputable def z10:List D->Option D:=fnR 1 5 f_q1
noncomputable def f_q2:Rho->Out :=
  (zcx (iE (zal 0)) (gN 2) (sIf (zdq (tE (zap 2 zkx (aC (zal 2) (aC (zal 1) aN))))) yaa za2))
noncomputable def z11:List D->Option D:=fnR 2 3 f_q2
noncomputable def f_q12:Rho->Out :=
  (zat (zbq 4 (eL (zdi 1 zkz (aC (eN za0 (aC (zal 3) aN)) aN))))
  (zat (zc2 (zap 2 z11 (aC (zal 4) (aC (eN zd8 (aC (zaa 0) aN)) aN))))
  (zat (zbq 5 (zap 3 zml (aC (zal 0) (aC (zal 1) (aC (zal 2) aN)))))
  (zat (zbq 6 (zap 1 z10 (aC (zal 4) aN)))
  (zb4 (eL (zcd 1 [5,6] (iE (eL (zx9 zg2 (zaa 6)))) (gN 0) (λ_=>some true) (eN zbd (aC (zal 0) (aC (eL (zdi 2 zyk (aC (zal 1) (aC (e2 zfr (zaa 2) (zaa 0)) aN)))) aN))))))))))
noncomputable def ziz:List D->Option D:=fnF 4 7 f_q12
noncomputable def f_q5:Rho->Out :=
  (zat (sIf (tE (e2 gLt (zaa 1) (eN zd8 (aC (zaa 0) aN)))) (zb4 (e2 gIx (zaa 0) (zaa 1))) za2)
  (zb4 (eC (.int 0))))
noncomputable def zyl:List D->Option D:=fnR 2 2 f_q5
noncomputable def f_qc:Rho->Out :=
  (zb4 (eT (zc9 (tE (e1 (zl0 "int") (zaa 0))) (tE (eT (zdq (tE (e1 (zl0 "bool") (zaa 0)))))))))
noncomputable def zt9:List D->Option D:=fnR 1 1 f_qc
noncomputable def f_q7:Rho->Out :=
  (zat (zbq 2 (eC (.str SG)))
  (zat (zbq 3 (e2 zbg (eC (.int 1)) (e2 zb5 (e2 zbg (zaa 0) (e2 zdf (zaa 1) (eC (.int 2)))) (eC (.int 4)))))
  (zat (zbq 4 (e2 zb5 (e2 zdf (zaa 0) (eC (.int 4))) (zaa 3)))
  (zat (zbq 5 (e2 zb5 (e2 zbg (e2 zdf (zaa 0) (eC (.int 16))) (zaa 1)) (eC (.int 4))))
  (zat (zbq 6 (eC (.str [])))
  (zat (zbq 7 (eC (.str [])))
  (zat (zcx (iR z0s (aC (zaa 3) aN)) (gN 8) (zat (zbq 9 (e2 zbg (e2 zbg (e2 zdf (zaa 0) (e2 zbg (zaa 8) (eC (.int 3)))) (e2 zcm (zaa 8) (zaa 8))) (e2 zcm (e2 zcm (zaa 1) (eN zxn (aC (e2 zcc (zaa 8) (zaa 4)) aN))) (e2 gIx (eN za0 (aC (eC (.int 1)) (aC (eC (.int 26)) (aC (eC (.int 1)) (aC (eC (.int 5)) aN))))) (zaa 5)))))
  (zat (zbq 6 (e2 zbg (zaa 6) (e2 gIx (zaa 2) (e2 zb5 (zaa 9) (eC (.int 63))))))
  (zbq 7 (e2 zbg (zaa 7) (e2 gIx (zaa 2) (e2 zb5 (e2 zbg (e2 zdf (zaa 0) (e2 zbg (zaa 8) (eC (.int 5)))) (e2 zcm (zaa 8) (eC (.int 11)))) (eC (.int 63)))))))))
  (zat (sIf (tE (e2 zcc (zaa 5) (eC (.int 0)))) (zb4 (zal 6)) za2)
  (zb4 (e2 zbg (e2 zbg (zaa 6) (e2 gIx (eN za0 (aC (eC (.str [])) (aC (eC (.str [32])) (aC (eC (.str [124])) (aC (eC (.str [124])) aN))))) (zaa 5))) (e2 gIx (eN za0 (aC (eC (.str [])) (aC (zal 7) (aC (zal 7) (aC (eC (.str [100,32,86,111])) aN))))) (zaa 5))))))))))))
noncomputable def zua:List D->Option D:=fnR 2 10 f_q7
noncomputable def f_q6:Rho->Out :=
  (zat (ze6 2 (lOk aN))
  (zat (zcx (iR z0s (aC (e2 gIx (eN za0 (aC (eC (.int 1)) (aC (eC (.int 1)) (aC (eC (.int 2)) (aC (eC (.int 2)) (aC (eC (.int 3)) (aC (eC (.int 6)) aN))))))) (e2 zb5 (zaa 0) (eC (.int 6)))) aN)) (gN 3) (zda 2 (zap 2 zua (aC (zal 1) (aC (e2 zbg (e2 zb5 (e2 zdf (zaa 0) (e2 zbg (eC (.int 6)) (e2 zcm (zaa 3) (zaa 3)))) (eC (.int 4))) (e2 zcm (eC (.int 4)) (e2 zb5 (zaa 3) (eC (.int 3))))) aN)))))
  (zb4 (eN znf (aC (zaa 2) aN)))))
noncomputable def zym:List D->Option D:=fnR 2 4 f_q6
noncomputable def f_qb:Rho->Out :=
  (zat (zii (gT 3 (gTC (gN 1) (gTC (gN 2) (gTC (gN 3) gT0)))) (eM "str" zc0 (zaa 0) (aC (eC (.str [124])) aN)))
  (zat (sIf (tE (e2 zcc (zaa 2) (eC (.str [])))) (zb4 (zal 0)) za2)
  (zb4 (e2 zbg (e2 zbg (zaa 3) (eC (.str [44,32]))) (zaa 1)))))
noncomputable def zpw:List D->Option D:=fnR 1 4 f_qb
noncomputable def f_qf:Rho->Out :=
  (zat (ze6 1 (lOk aN))
  (zat (zcx (iE (zal 0)) (gN 2) (zat (zbq 3 (eC (.str [])))
  (zat (zcx (iE (zap 1 zpw (aC (zal 2) aN))) (gN 4) (sIf (tE (eM "str" zd9 (zaa 4) aN)) (zbq 3 (e2 zbg (zaa 3) (eM "str" zeq (zaa 4) aN))) za2))
  (zda 1 (eN zbd (aC (zal 3) (aC (zap 1 zpw (aC (zal 2) aN)) aN)))))))
  (zhe 1 (zb4 (zal 1)))))
noncomputable def zub:List D->Option D:=fnR 1 5 f_qf
noncomputable def f_q11:Rho->Out :=
  (zb4 (eL (zcd 1 [] (iE (zaa 0)) (gN 0) (λ_=>some true) (e2 zcc (e2 zb5 (zaa 0) (eC (.int 7))) (eC (.int 3))))))
noncomputable def zmm:List D->Option D:=fnR 1 1 f_q11
noncomputable def f_qd:Rho->Out :=
  (zat (ze6 3 (lOk aN))
  (zat (zbq 4 (zal 2))
  (zat (zbq 5 (eC (.int 0)))
  (zat (zcx (iE (zal 0)) (gN 6) (zat (sIf (zc9 (tE (e2 zdm (zaa 3) (eN za0 aN))) (bOr (tE (zal 6)) (tE (e2 zcc (zaa 5) (zaa 1))))) (zat (zbq 4 (e2 zbg (zaa 4) (eC (.int 1))))
  (zbq 5 (eC (.int 0)))) za2)
  (zat (zda 3 (zal 4))
  (zbq 5 (e2 zbg (zaa 5) (eC (.int 1)))))))
  (zhe 3 (zb4 (zal 3)))))))
noncomputable def zyn:List D->Option D:=fnR 3 7 f_qd
noncomputable def f_q3:Rho->Out :=
  (zat (zbq 1 (e2 gIx (eN za0 (aC (e2 zbg (eC (.int 1)) (e2 zb5 (zaa 0) (eC (.int 5)))) (aC (e2 zbg (eC (.int 1)) (e2 zb5 (e2 zcm (zaa 0) (eC (.int 48271))) (e2 zrk (eC (.int 10)) (eC (.int 59))))) aN))) (eN zxn (aC (e2 zcc (e2 zb5 (e2 zdf (zaa 0) (eC (.int 5))) (eC (.int 7))) (eC (.int 0))) aN))))
  (zb4 (eN zbd (aC (zal 1) (aC (e2 gIx (eN za0 (aC (e2 zb5 (e2 zdf (zaa 0) (eC (.int 35))) (eC (.int 9))) (aC (e2 zb5 (e2 zcm (zaa 0) (eC (.int 982451653))) (e2 zid (e2 zrk (eC (.int 10)) (eC (.int 60))) (eC (.int 2000)))) aN))) (e2 zb5 (e2 zdf (zaa 0) (eC (.int 7))) (eC (.int 2)))) aN)))))
noncomputable def z12:List D->Option D:=fnR 1 2 f_q3
noncomputable def f_q9:Rho->Out :=
  (zat (ze6 3 (lOk aN))
  (zat (zcx (iE (zal 0)) (gN 4) (sIf (tE (e2 gGt (zaa 2) (eC (.int 0)))) (zat (zbq 5 (e2 zb5 (e2 zdf (zaa 4) (eC (.int 7))) (zaa 2)))
  (zat (zbq 6 (eN z4x (aC (e2 zid (zaa 2) (eC (.int 1))) (aC (e2 zbg (zaa 5) (e2 gIx (eN za0 (aC (eC (.int 0)) (aC (eC (.int 0)) (aC (eC (.int 1)) (aC (eC (.int 3)) (aC (e2 zb5 (e2 zdf (zaa 4) (eC (.int 49))) (eC (.int 40))) aN)))))) (e2 zb5 (e2 zdf (zaa 4) (eC (.int 3))) (eC (.int 5))))) aN))))
  (zda 3 (eN zbd (aC (zap 2 zym (aC (e2 zdf (zaa 4) (eC (.int 2))) (aC (zal 1) aN))) (aC (zal 5) (aC (zal 6) (aC (e2 zcc (e2 zb5 (e2 zdf (zaa 4) (eC (.int 11))) (eC (.int 3))) (eC (.int 0))) aN)))))))) za2))
  (zdz 3)))
noncomputable def z13:List D->Option (List D):=fnW 3 7 f_q9
noncomputable def f_q10:Rho->Out :=
  (zat (z9t 2 (.dk [] []))
  (zat (zcx (iE (zal 1)) (gT 4 (gTC (gN 3) (gTC (gN 4) (gTC (gN 5) (gTC (gN 6) gT0))))) (zcx (iR zpt (aC (zaa 4) (aC (e2 zbg (zaa 5) (eC (.int 1))) aN))) (gN 7) (zkc 2 (e2 gIx (zaa 0) (zaa 7)) (eT (bOr (tE (zal 6)) (tE (zd3 (zaa 2) (e2 gIx (zaa 0) (zaa 7)) (eC (.bl false)))))))))
  (zat (ze6 8 (lOk aN))
  (zat (zcx (iE (eL (wN zfl (aC (zaa 2) aN)))) (gN 9) (sIf (zc9 (tE (e2 zdm (zaa 8) (eN za0 aN))) (zc9 (tE (e2 zcc (e2 zbg (e2 gIx (e2 gIx (zaa 8) (e1 zgl (eC (.int 1)))) (eC (.int 1))) (eC (.int 1))) (zaa 9))) (tE (e2 zcc (e2 gIx (e2 gIx (zaa 8) (e1 zgl (eC (.int 1)))) (eC (.int 2))) (e2 zfr (zaa 2) (zaa 9)))))) (zke 8 (e1 zgl (eC (.int 1))) (eN zbd (aC (e2 gIx (e2 gIx (zaa 8) (e1 zgl (eC (.int 1)))) (eC (.int 0))) (aC (zal 9) (aC (e2 zfr (zaa 2) (zaa 9)) aN))))) (zda 8 (eN zbd (aC (zal 9) (aC (zal 9) (aC (e2 zfr (zaa 2) (zaa 9)) aN)))))))
  (zhe 8 (zb4 (zal 8)))))))
noncomputable def zi0:List D->Option D:=fnR 2 10 f_q10
noncomputable def f_q4:Rho->Out :=
  (zat (ze6 2 (lOk aN))
  (zat (zcx (iE (zal 1)) (gN 3) (zcx (iR zpt (aC (eC (.int 1)) (aC (e2 zbg (eN zd8 (aC (e2 gIx (zaa 3) (eC (.int 0))) aN)) (eC (.int 1))) aN))) (gN 4) (sIf (tE (e2 za1 (eSl (e2 gIx (zaa 3) (eC (.int 0))) oN (oS (zaa 4))) (zaa 2))) (zda 2 (eSl (e2 gIx (zaa 3) (eC (.int 0))) oN (oS (zaa 4)))) za2)))
  (zat (ze6 5 (lOk aN))
  (zat (zcx (iE (eL (zya zub (zaa 2)))) (gN 6) (zda 5 (eN zbd (aC (zal 6) (aC (zap 2 zi0 (aC (zal 0) (aC (eL (zcd 1 [6] (iE (zaa 1)) (gN 0) (tE (e2 zcc (e2 gIx (zaa 0) (eC (.int 0))) (zaa 1))) (zal 0))) aN))) aN)))))
  (zhe 5 (zb4 (zal 5)))))))
noncomputable def zyo:List D->Option D:=fnR 2 7 f_q4
noncomputable def f_qe:Rho->Out :=
  (zat (sIf (bOr (zdq (tE (e1 (zl0 "list") (zaa 0)))) (tE (e2 zdm (zaa 0) (zaa 1)))) (zb4 (eC (.bl false))) za2)
  (zat (zcx (iE (zal 0)) (gN 2) (zat (sIf (bOr (zdq (tE (e1 (zl0 "tuple") (zaa 2)))) (bOr (zdq (tE (e1 (zl0 "tuple") (e2 gIx (zaa 2) (eC (.int 0)))))) (zdq (tE (e1 (zl0 "list") (e2 gIx (zaa 2) (eC (.int 1)))))))) (zb4 (eC (.bl false))) za2)
  (zcx (iE (e2 gIx (zaa 2) (eC (.int 1)))) (gN 3) (zat (sIf (bOr (zdq (tE (e1 (zl0 "tuple") (zaa 3)))) (bOr (zdq (tE (zap 1 zt9 (aC (e2 gIx (zaa 3) (eC (.int 0))) aN)))) (zdq (tE (zap 1 zt9 (aC (e2 gIx (zaa 3) (eC (.int 1))) aN)))))) (zb4 (eC (.bl false))) za2)
  (sIf (zdq (tE (e1 (zl0 "bool") (e2 gIx (zaa 3) (eC (.int 2)))))) (zb4 (eC (.bl false))) za2)))))
  (zb4 (eC (.bl true)))))
noncomputable def zv1:List D->Option D:=fnR 2 4 f_qe
noncomputable def f_q1b:Rho->Out :=
  (zat (zbq 1 (zap 2 zyl (aC (zal 0) (aC (eC (.int 0)) aN))))
  (zat (zii (gT 2 (gTC (gN 2) (gTC (gN 3) gT0))) (zap 1 z12 (aC (zal 1) aN)))
  (zat (zbq 4 (zap 1 zmm (aC (eSl (zaa 0) (oS (eC (.int 1))) (oS (eC (.int 301)))) aN)))
  (zat (ze6 5 (zdi 3 z13 (aC (eSl (zaa 0) (oS (eC (.int 1))) (oS (eC (.int 19)))) (aC (zap 2 zyl (aC (zal 0) (aC (eC (.int 1)) aN))) (aC (eN zd8 (aC (zaa 4) aN)) aN)))))
  (zat (sIf (zc9 (tE (e2 zcc (e2 zb5 (e2 zdf (zaa 1) (eC (.int 11))) (eC (.int 3))) (eC (.int 1)))) (tE (e2 zdm (zaa 5) (eN za0 aN)))) (zda 5 (eN zbd (aC (e2 gIx (e2 gIx (zaa 5) (e1 zgl (eC (.int 1)))) (eC (.int 0))) (aC (eC (.int 0)) (aC (e2 zid (eN zd8 (aC (zaa 4) aN)) (eC (.int 1))) (aC (e2 zcc (e2 zb5 (zaa 1) (eC (.int 2))) (eC (.int 0))) aN)))))) za2)
  (zhe 5 (zat (zbq 6 (zap 2 zyo (aC (zap 3 zyn (aC (zal 4) (aC (zal 2) (aC (zal 3) aN)))) (aC (zal 5) aN))))
  (zat (zbq 7 (e2 zbg (eL (wN z04 (aC (zaa 5) aN))) (eSl (zaa 5) oN (oS (e2 zb5 (zaa 1) (eC (.int 4)))))))
  (zat (zbq 8 (eN zu4 (aC (zaa 4) aN)))
  (zkp 9 (fRs (zap 4 ziz (aC (zal 8) (aC (zal 2) (aC (zal 3) (aC (zal 7) aN))))))
  (zkq 9 (bOr (zdq (tE (zap 2 zv1 (aC (zal 9) (aC (zal 6) aN))))) (bOr (tE (e2 zdm (zaa 8) (zaa 4))) (tE (e2 zdm (zaa 7) (e2 zbg (eL (wN z04 (aC (zaa 5) aN))) (eSl (zaa 5) oN (oS (e2 zb5 (zaa 1) (eC (.int 4)))))))))) (zb4 (eC (.bl false)))
  (zkv 9 10 2000 (D.str [109,111,114,101]) (zat (zcx (iR z0s (aC (eN zd8 (aC (zaa 6) aN)) aN)) (gN 11) (sIf (tE (e2 zdm (e2 gIx (e2 gIx (zaa 9) (zaa 11)) (eC (.int 1))) (e2 zbg (e2 gIx (e2 gIx (zaa 6) (zaa 11)) (eC (.int 1))) (eN za0 (aC (eC (.str [109,111,114,101])) aN))))) (zb4 (eC (.bl false))) za2))
  (zat (zda 9 (eC (.str [109,111,114,101])))
  (zat (zbq 12 (zap 2 zyo (aC (zap 3 zyn (aC (zal 4) (aC (zal 2) (aC (zal 3) aN)))) (aC (eSl (zaa 5) (oS (eC (.int 1))) oN) aN))))
  (zat (sIf (zdq (tE (zap 2 zv1 (aC (fRs (zap 4 ziz (aC (zal 8) (aC (zal 2) (aC (zal 3) (aC (eSl (zaa 5) (oS (eC (.int 1))) oN) aN)))))) (aC (zal 12) aN))))) (zb4 (eC (.bl false))) za2)
  (zb4 (zap 2 zv1 (aC (fRs (zap 4 ziz (aC (zal 8) (aC (zal 2) (aC (zal 3) (aC (zal 7) aN)))))) (aC (zal 6) aN))))))))))))))))))))
noncomputable def zi1:List D->Option D:=fnR 1 13 f_q1b
end K15
namespace K15
open PySem L2
open PyProof.Rows (lo1)
theorem zd5(p:Int)(n:Nat):zif p (n+1)=.int p::zif (p+1) n:=by
 unfold zif;rw[vo,ja,zd];refine congr (zc _ ?_) (xf λk _=>?_)
 ·show D.int (p+((0:Nat):Int))=_;rw[show p+((0:Nat):Int)=p by omega]
 ·show D.int (p+((k+1:Nat):Int))=_;rw[show p+((k+1:Nat):Int)=p+1+(k:Int) by omega]
noncomputable def zaz(l:List Nat):List Nat:=if 124∈l then l.drop (zcz 124 l+1)++[44,32]++l.take (zcz 124 l) else l
theorem zod(l:List Nat)(h:l.length<=1000):zhj [.str l]=some (.str (zaz l)):=by
 unfold zhj f_q18 zaz;have hz:l.length<=sizeLine:=sz (by omega);by_cases hc:124∈l
 ·have hi:=zlp 124 l hc
  have e1:zbg (D.int (zcz 124 l)) (D.int 1)=some (.int ((zcz 124 l+1:Nat):Int)):=rfl;simp only[fnR,fnW,zec,zat,sIf,zbq,ze6,zii,zc2,zb4,ze7,zdz,ze8,zda,zhe,zcx,za2,eC,zal,zaa,L2.e1,L2.e2,eN,aN,aC,tE,zc9,bOr,zdq,eT,eSl,oN,oS,toI,toB,eM,tyN,zap,zc4,zdi,eL,lOk,wN,zcd,zdg,iE,iR,gN,gT,gTC,gT0,zj3,za1,zcc,zdm,gII,zgk,zd8,za0,zbd,ja,me,pb,ud,ke,ue,List.replicate,dg,Nat.reduceAdd,Nat.reduceSub,Nat.reduceLeDiff,de,be,ce,qc,rc,ib,ze,ae,cf,se,ba,ij,ci,reduceIte,ef,pf,bc,reduceCtorEq,kc,zba,itD,z9q,hc,tu,z0z 124 l hc,e1,zu8 l _ hz hi,z44 l _ hz];rw[ze9 _ _ (sz (by simp;omega))];simp only[fnR,fnW,zec,zat,sIf,zbq,ze6,zii,zc2,zb4,ze7,zdz,ze8,zda,zhe,zcx,za2,eC,zal,zaa,L2.e1,L2.e2,eN,aN,aC,tE,zc9,bOr,zdq,eT,eSl,oN,oS,toI,toB,eM,tyN,zap,zc4,zdi,eL,lOk,wN,zcd,zdg,iE,iR,gN,gT,gTC,gT0,zj3,za1,zcc,zdm,gII,zgk,zd8,za0,zbd,ja,me,pb,ud,ke,ue,List.replicate,dg,Nat.reduceAdd,Nat.reduceSub,Nat.reduceLeDiff,de,be,ce,qc,rc,ib,ze,ae,cf,se,ba,ij,ci,reduceIte,ef,pf,bc,reduceCtorEq,kc,zba,itD];rw[ze9 _ _ (sz (by simp;omega))]
 ·simp only[fnR,fnW,zec,zat,sIf,zbq,ze6,zii,zc2,zb4,ze7,zdz,ze8,zda,zhe,zcx,za2,eC,zal,zaa,L2.e1,L2.e2,eN,aN,aC,tE,zc9,bOr,zdq,eT,eSl,oN,oS,toI,toB,eM,tyN,zap,zc4,zdi,eL,lOk,wN,zcd,zdg,iE,iR,gN,gT,gTC,gT0,zj3,za1,zcc,zdm,gII,zgk,zd8,za0,zbd,ja,me,pb,ud,ke,ue,List.replicate,dg,Nat.reduceAdd,Nat.reduceSub,Nat.reduceLeDiff,de,be,ce,qc,rc,ib,ze,ae,cf,se,ba,ij,ci,reduceIte,ef,pf,bc,reduceCtorEq,kc,zba,itD,z9q,hc,ku]
theorem zg3(l:List Nat)(h:l.length<=1000):zpw [.str l]=some (.str (zaz l)):=by
 unfold zpw f_qb zaz;have hz:l.length<=sizeLine:=sz (by omega);by_cases hc:124∈l
 ·have hi:=zlp 124 l hc
  have e1:zpa 124 l=[.str (l.take (zcz 124 l)),.str [124],.str (l.drop (zcz 124 l+1))]:=ba hc;simp only[fnR,fnW,zec,zat,sIf,zbq,ze6,zii,zc2,zb4,ze7,zdz,ze8,zda,zhe,zcx,za2,eC,zal,zaa,L2.e1,L2.e2,eN,aN,aC,tE,zc9,bOr,zdq,eT,eSl,oN,oS,toI,toB,eM,tyN,zap,zc4,zdi,eL,lOk,wN,zcd,zdg,iE,iR,gN,gT,gTC,gT0,zj3,za1,zcc,zdm,gII,zgk,zd8,za0,zbd,ja,me,pb,ud,ke,ue,List.replicate,dg,Nat.reduceAdd,Nat.reduceSub,Nat.reduceLeDiff,de,be,ce,qc,rc,ib,ze,ae,cf,se,ba,ij,ci,reduceIte,ef,pf,bc,reduceCtorEq,kc,zba,itD,zxy 124 l hz,e1,hc,zxz,ku];rw[ze9 _ _ (sz (by simp;omega))];simp only[fnR,fnW,zec,zat,sIf,zbq,ze6,zii,zc2,zb4,ze7,zdz,ze8,zda,zhe,zcx,za2,eC,zal,zaa,L2.e1,L2.e2,eN,aN,aC,tE,zc9,bOr,zdq,eT,eSl,oN,oS,toI,toB,eM,tyN,zap,zc4,zdi,eL,lOk,wN,zcd,zdg,iE,iR,gN,gT,gTC,gT0,zj3,za1,zcc,zdm,gII,zgk,zd8,za0,zbd,ja,me,pb,ud,ke,ue,List.replicate,dg,Nat.reduceAdd,Nat.reduceSub,Nat.reduceLeDiff,de,be,ce,qc,rc,ib,ze,ae,cf,se,ba,ij,ci,reduceIte,ef,pf,bc,reduceCtorEq,kc,zba,itD];rw[ze9 _ _ (sz (by simp;omega))]
 ·have e1:zpa 124 l=[.str l,.str [],.str []]:=oa hc
  simp only[fnR,fnW,zec,zat,sIf,zbq,ze6,zii,zc2,zb4,ze7,zdz,ze8,zda,zhe,zcx,za2,eC,zal,zaa,L2.e1,L2.e2,eN,aN,aC,tE,zc9,bOr,zdq,eT,eSl,oN,oS,toI,toB,eM,tyN,zap,zc4,zdi,eL,lOk,wN,zcd,zdg,iE,iR,gN,gT,gTC,gT0,zj3,za1,zcc,zdm,gII,zgk,zd8,za0,zbd,ja,me,pb,ud,ke,ue,List.replicate,dg,Nat.reduceAdd,Nat.reduceSub,Nat.reduceLeDiff,de,be,ce,qc,rc,ib,ze,ae,cf,se,ba,ij,ci,reduceIte,ef,pf,bc,reduceCtorEq,kc,zba,itD,zxy 124 l hz,e1,hc,zxz,tu]
def asc(l:List Nat):Prop:=∀c∈l,c<128
theorem zk0{l:List Nat}(h:asc l):asc (zaz l):=by
 unfold zaz;split
 ·intro c hc
  simp only[ac]at hc;rcases hc with(hc|hc)|hc
  ·exact h c (ii hc)
  ·simp at hc;omega
  ·exact h c (vj hc)
 ·exact h
theorem zk1{l:List Nat}:(zaz l).length<=l.length+2:=by
 unfold zaz;split
 ·simp;omega
 ·omega
noncomputable def zpx(l:List Nat):List Nat:=((zaz l).filter λc=>decide (c∈LF)).map lo1
theorem yad(l:List Nat):((l.map λc=>[c]).map List.length).sum=l.length:=by
 induction l with
 |nil=>rfl
 |cons a r ih=>simp only[ja,List.sum_cons,ih,pb,ud];omega
theorem yae(l:List Nat):(l.map λc=>[c]).flatten=l:=by
 induction l with
 |nil=>rfl
 |cons a r ih=>simp[ih]
theorem z6e(l:List Nat)(ha:asc l)(h:l.length<=1000):zkw [.str l]=some (.str (zpx l)):=by
 unfold zkw f_q15 zpx;have hs:=zk1 (l:=l)
 have hcomp:zc1 (gN 0) (tE (e2 zj3 (zaa 0) (eC (.str LF)))) (zal 0) [none] ((zaz l).map λc=>.str [c])=some (((zaz l).filter λc=>decide (c∈LF)).map λc=>D.str [c]) :=
  zet (λc=>D.str [c]) (λc=>decide (c∈LF)) (λc=>D.str [c]) (zaz l) λc hc=>⟨_,rfl,by simp only[fnR,fnW,zec,zat,sIf,zbq,ze6,zii,zc2,zb4,ze7,zdz,ze8,zda,zhe,zcx,za2,eC,zal,zaa,L2.e1,L2.e2,eN,aN,aC,tE,zc9,bOr,zdq,eT,eSl,oN,oS,toI,toB,eM,tyN,zap,zc4,zdi,eL,lOk,wN,zcd,zdg,iE,iR,gN,gT,gTC,gT0,zj3,za1,zcc,zdm,gII,zgk,zd8,za0,zbd,ja,me,pb,ud,ke,ue,List.replicate,dg,Nat.reduceAdd,Nat.reduceSub,Nat.reduceLeDiff,de,be,ce,qc,rc,ib,ze,ae,cf,se,ba,ij,ci,reduceIte,ef,pf,bc,reduceCtorEq,kc,zba,itD,z9q],λ_=>by simp only[fnR,fnW,zec,zat,sIf,zbq,ze6,zii,zc2,zb4,ze7,zdz,ze8,zda,zhe,zcx,za2,eC,zal,zaa,L2.e1,L2.e2,eN,aN,aC,tE,zc9,bOr,zdq,eT,eSl,oN,oS,toI,toB,eM,tyN,zap,zc4,zdi,eL,lOk,wN,zcd,zdg,iE,iR,gN,gT,gTC,gT0,zj3,za1,zcc,zdm,gII,zgk,zd8,za0,zbd,ja,me,pb,ud,ke,ue,List.replicate,dg,Nat.reduceAdd,Nat.reduceSub,Nat.reduceLeDiff,de,be,ce,qc,rc,ib,ze,ae,cf,se,ba,ij,ci,reduceIte,ef,pf,bc,reduceCtorEq,kc,zba,itD]⟩
 have hf:((zaz l).filter λc=>decide (c∈LF)).length<=l.length+2:=ie (il _ _) hs;simp only[fnR,fnW,zec,zat,sIf,zbq,ze6,zii,zc2,zb4,ze7,zdz,ze8,zda,zhe,zcx,za2,eC,zal,zaa,L2.e1,L2.e2,eN,aN,aC,tE,zc9,bOr,zdq,eT,eSl,oN,oS,toI,toB,eM,tyN,zap,zc4,zdi,eL,lOk,wN,zcd,zdg,iE,iR,gN,gT,gTC,gT0,zj3,za1,zcc,zdm,gII,zgk,zd8,za0,zbd,ja,me,pb,ud,ke,ue,List.replicate,dg,Nat.reduceAdd,Nat.reduceSub,Nat.reduceLeDiff,de,be,ce,qc,rc,ib,ze,ae,cf,se,ba,ij,ci,reduceIte,ef,pf,bc,reduceCtorEq,kc,zba,itD,zod l h,ycl,ia,sz (show (zaz l).length<=100000 by omega),hcomp];have e:(List.map (λc=>D.str [c]) (List.filter (λc=>decide (c∈LF)) (zaz l)))=((List.filter (λc=>decide (c∈LF)) (zaz l)).map λc=>[c]).map D.str:=by rw[zd];rfl
 rw[e,z00,zjz,yae]
 ·simp only[fnR,fnW,zec,zat,sIf,zbq,ze6,zii,zc2,zb4,ze7,zdz,ze8,zda,zhe,zcx,za2,eC,zal,zaa,L2.e1,L2.e2,eN,aN,aC,tE,zc9,bOr,zdq,eT,eSl,oN,oS,toI,toB,eM,tyN,zap,zc4,zdi,eL,lOk,wN,zcd,zdg,iE,iR,gN,gT,gTC,gT0,zj3,za1,zcc,zdm,gII,zgk,zd8,za0,zbd,ja,me,pb,ud,ke,ue,List.replicate,dg,Nat.reduceAdd,Nat.reduceSub,Nat.reduceLeDiff,de,be,ce,qc,rc,ib,ze,ae,cf,se,ba,ij,ci,reduceIte,ef,pf,bc,reduceCtorEq,kc,zba,itD]
  rw[zno]
  ·intro c hc
   exact zk0 ha c (ai.mp hc).1
  ·exact sz (by omega)
 ·rw[yad]
  simp;omega
theorem zs2{c:Nat}(h:c<128):zeq (.sc (.str (S [c]))) []=some (.str [lo1 c]):=zno (l:=[c]) (by simpa using h) (sz (by simp))
noncomputable def zyp(l:List Nat):List Nat:=(l.filter λc=>decide (c∈LF)).map lo1
theorem zv2(l:List Nat):(zyp l).length<=l.length:=by unfold zyp;rw[ia];exact il _ _
theorem zs3:∀c∈SG,c<128/\c≠44/\c≠124/\c≠32:=by decide
theorem zyq:SG.length=63:=rfl
def gd(c:Nat):Prop:=c∈SG\/c=32\/c=124
theorem z6f{c:Nat}(h:gd c):c<128:=by
 rcases h with h|h|h
 ·exact(zs3 c h).1
 ·omega
 ·omega
theorem yaf{c:Nat}(h:gd c):c≠44:=by
 rcases h with h|h|h
 ·exact(zs3 c h).2.1
 ·omega
 ·omega
structure GdH(l:List Nat):Prop where
 g:∀c∈l,gd c
 len:l.length<=9
 pos:1<=l.length
theorem z14(c k:Int)(h0:0<=k)(h1:k<1000):∃l,zua [.int c,.int k]=some (.str l)/\GdH l:=by
 obtain⟨n,hn⟩:∃n:Nat,1+(c+k / 2) % 4=n:=⟨(1+(c+k / 2) % 4).toNat,by omega⟩
 have hn1:1<=n:=by omega
 have hn2:n<=4:=by omega
 obtain⟨w,hw,hw4⟩:∃w:Nat,(c / 16+k) % 4=w/\w<4:=⟨((c / 16+k) % 4).toNat,by omega,by omega⟩
 have hm:∃m:Int,atI [D.int 1,D.int 26,D.int 1,D.int 5] (w:Int)=some (.int m)/\0<=m/\m<=26:=by
  have:w=0\/w=1\/w=2\/w=3:=by omega
  rcases this with rfl|rfl|rfl|rfl
  ·exact⟨1,rfl,by omega,by omega⟩
  ·exact⟨26,rfl,by omega,by omega⟩
  ·exact⟨1,rfl,by omega,by omega⟩
  ·exact⟨5,rfl,by omega,by omega⟩
 obtain⟨m,hm,m0,m1⟩:=hm;have sgz:SG.length<=sizeLine:=sz (by decide)
 have loop:∃ ρ',zea (gN 8) _ _ _=_/\_:=zfx (λ k:Nat=>D.int k) (g:=gN 8) (f:=(zat (zbq 9 (e2 zbg (e2 zbg (e2 zdf (zaa 0) (e2 zbg (zaa 8) (eC (.int 3)))) (e2 zcm (zaa 8) (zaa 8))) (e2 zcm (e2 zcm (zaa 1) (eN zxn (aC (e2 zcc (zaa 8) (zaa 4)) aN))) (e2 gIx (eN za0 (aC (eC (.int 1)) (aC (eC (.int 26)) (aC (eC (.int 1)) (aC (eC (.int 5)) aN))))) (zaa 5)))))
  (zat (zbq 6 (e2 zbg (zaa 6) (e2 gIx (zaa 2) (e2 zb5 (zaa 9) (eC (.int 63))))))
  (zbq 7 (e2 zbg (zaa 7) (e2 gIx (zaa 2) (e2 zb5 (e2 zbg (e2 zdf (zaa 0) (e2 zbg (zaa 8) (eC (.int 5)))) (e2 zcm (zaa 8) (eC (.int 11)))) (eC (.int 63)))))))))
  (λpre ρ=>∃wd ot x y,ρ=[some (.sh (.int c)),some (.sh (.int k)),some (.sh (.str SG)),some (.sh (.int n)),some (.sh (.int (c / 4 % n))),some (.sh (.int w)),some (.sh (.str wd)),some (.sh (.str ot)),x,y]/\(∀z∈wd,z∈SG)/\(∀z∈ot,z∈SG)/\wd.length=pre.length/\ot.length=pre.length)
  (List.range n) [some (.sh (.int c)),some (.sh (.int k)),some (.sh (.str SG)),some (.sh (.int n)),some (.sh (.int (c / 4 % n))),some (.sh (.int w)),some (.sh (.str [])),some (.sh (.str [])),none,none]
  (λ pre j post ρ e ⟨wd,ot,x,y,hx,a1,a2,l1,l2⟩=>by
   subst hx;have hlen:pre.length+1<=n:=by have:=zc List.length e;simp at this;omega
   have hj:j<n:=df.mp (by rw[e];simp);obtain⟨b,hb,hb01⟩:∃b:Int,(if decide ((j:Int)=c / 4 % n)=true then (1:Int) else 0)=b/\(b=0\/b=1):=⟨_,rfl,by split <;> simp⟩
   obtain⟨p,hp⟩:∃p:Int,c / ((j:Int)+3)+(j:Int) * j+k * b * m=p:=⟨_,rfl⟩
   obtain⟨c1,hc1,e1⟩:=zx1 (xs:=SG) (i:=p % 63) (by omega) (by rw[zyq];omega);obtain⟨c2,hc2,e2⟩:=zx1 (xs:=SG) (i:=(c / ((j:Int)+5)+(j:Int) * 11) % 63) (by omega) (by rw[zyq];omega);refine⟨_,[some (.sh (.int c)),some (.sh (.int k)),some (.sh (.str SG)),some (.sh (.int n)),some (.sh (.int (c / 4 % n))),some (.sh (.int w)),some (.sh (.str (wd++[c1]))),some (.sh (.str (ot++[c2]))),some (.sh (.int j)),some (.sh (.int p))],rfl,.inl ?_,_,_,_,_,rfl,?_,?_,by simp[l1],by simp[l2]⟩
   ·have s1:=ze9 wd [c1] (sz (by simp;omega))
    have s2:=ze9 ot [c2] (sz (by simp;omega));refine st (zaq (d:=.int p) ?_) (st (zaq (zad rfl (zad rfl (zad rfl rfl (zb3 (by decide))) (zx2 sgz e1)) s1)) (zaq (zad rfl (zad rfl (zad (zad (zad rfl rfl (zdo (by omega))) (zad rfl rfl (zfk (zil (by decide)))) rfl) rfl (zb3 (by decide))) (zx2 sgz e2)) s2)));rw[<-hp];exact zad (zad (zad rfl rfl (zdo (by omega))) (zad rfl rfl (zfk (zik (by omega)))) rfl) (zad (zad rfl (zbv (ds:=[.bl (decide ((j:Int)=c / 4 % n))]) (by simp only[fnR,fnW,zec,zat,sIf,zbq,ze6,zii,zc2,zb4,ze7,zdz,ze8,zda,zhe,zcx,za2,eC,zal,zaa,L2.e1,L2.e2,eN,aN,aC,tE,zc9,bOr,zdq,eT,eSl,oN,oS,toI,toB,eM,tyN,zap,zc4,zdi,eL,lOk,wN,zcd,zdg,iE,iR,gN,gT,gTC,gT0,zj3,za1,zcc,zdm,gII,zgk,zd8,za0,zbd,ja,me,pb,ud,ke,ue,List.replicate,dg,Nat.reduceAdd,Nat.reduceSub,Nat.reduceLeDiff,de,be,ce,qc,rc,ib,ze,ae,cf,se,ba,ij,ci,reduceIte,ef,pf,bc,reduceCtorEq,kc,zba,itD,zeu]) (by rw[ybk,hb])) (zfk (zik (by omega)))) (zad rfl rfl hm) (zfk (zil (by omega)))) rfl
   ·intro z hz
    rcases ac.mp hz with hz|hz
    ·exact a1 z hz
    ·rw[zb.mp hz];exact hc1
   ·intro z hz
    rcases ac.mp hz with hz|hz
    ·exact a2 z hz
    ·rw[zb.mp hz];exact hc2) ⟨[],[],none,none,rfl,(by intro z hz;cases hz),(by intro z hz;cases hz),rfl,rfl⟩
 obtain⟨ρ',loop,wd,ot,x,y,hx,a1,a2,l1,l2⟩:=loop;subst hx
 have go:∀l,zat (sIf (tE (e2 zcc (zaa 5) (eC (.int 0)))) (zb4 (zal 6)) za2)
   (zb4 (e2 zbg (e2 zbg (zaa 6) (e2 gIx (eN za0 (aC (eC (.str [])) (aC (eC (.str [32])) (aC (eC (.str [124])) (aC (eC (.str [124])) aN))))) (zaa 5))) (e2 gIx (eN za0 (aC (eC (.str [])) (aC (zal 7) (aC (zal 7) (aC (eC (.str [100,32,86,111])) aN))))) (zaa 5)))) [some (.sh (.int c)),some (.sh (.int k)),some (.sh (.str SG)),some (.sh (.int n)),some (.sh (.int (c / 4 % n))),some (.sh (.int w)),some (.sh (.str wd)),some (.sh (.str ot)),x,y]=.rt (.str l)->zua [.int c,.int k]=some (.str l):=by
  intro l hl;refine zby rfl ?_;refine st rfl (st (ρ':=[some (.sh (.int c)),some (.sh (.int k)),some (.sh (.str SG)),some (.sh (.int n)),none,none,none,none,none,none]) (by rw[<-hn];rfl) (st (zaq (d:=.int (c / 4 % n)) (zad rfl rfl (zb3 (by omega)))) (st (ρ':=[some (.sh (.int c)),some (.sh (.int k)),some (.sh (.str SG)),some (.sh (.int n)),some (.sh (.int (c / 4 % n))),some (.sh (.int w)),none,none,none,none]) (by rw[<-hw];rfl) (st rfl (st rfl (st (zbc (ds:=(List.range n).map λk=>.int ((k:Nat):Int)) ?_ loop) hl))))));exact zpc rfl (zl2 (n:=n) (j:=(n:Int)) rfl (by omega))
 simp only[ym]at l1 l2;have gs:∀{a:List Nat},(∀z∈a,z∈SG)->∀z∈a,gd z:=λh z hz=>.inl (h z hz)
 have hd:∀z∈[100,32,86,111],gd z:=by
  intro z hz;simp only[yb,List.not_mem_nil,or_false]at hz;rcases hz with rfl|rfl|rfl|rfl
  ·exact .inl (by decide)
  ·exact .inr (.inl rfl)
  ·exact .inl (by decide)
  ·exact .inl (by decide)
 have h32:∀z∈[32],gd z:=by intro z hz;rw[zb.mp hz];exact .inr (.inl rfl)
 have h124:∀z∈[124],gd z:=by intro z hz;rw[zb.mp hz];exact .inr (.inr rfl)
 have cases4:w=0\/w=1\/w=2\/w=3:=by omega
 have app:∀{a b:List Nat},(∀z∈a,gd z)->(∀z∈b,gd z)->∀z∈a++b,gd z:=λ{a b} ha hb z hz=>(ac.mp hz).elim (ha z) (hb z)
 rcases cases4 with rfl|rfl|rfl|rfl
 ·exact⟨wd,go wd (zrx rfl),gs a1,by omega,by omega⟩
 ·exact⟨wd++[32]++ot,go _ (st rfl (zbu (zad (zad rfl rfl (ze9 wd [32] (sz (by simp;omega)))) rfl (ze9 _ ot (sz (by simp;omega)))))),app (app (gs a1) h32) (gs a2),by simp;omega,by simp;omega⟩
 ·exact⟨wd++[124]++ot,go _ (st rfl (zbu (zad (zad rfl rfl (ze9 wd [124] (sz (by simp;omega)))) rfl (ze9 _ ot (sz (by simp;omega)))))),app (app (gs a1) h124) (gs a2),by simp;omega,by simp;omega⟩
 ·exact⟨wd++[124]++[100,32,86,111],go _ (st rfl (zbu (zad (zad rfl rfl (ze9 wd [124] (sz (by simp;omega)))) rfl (ze9 _ [100,32,86,111] (sz (by simp;omega)))))),app (app (gs a1) h124) hd,by simp;omega,by simp⟩
theorem z15{l:List Nat}(h:GdH l):asc l:=λc hc=>z6f (h.g c hc)
theorem z6g{l:List Nat}(h:GdH l):44 ∉ l:=λhc=>yaf (h.g 44 hc) rfl
theorem zi2{c:Nat}:∀{a r:List Nat},c ∉ a->zcz c (a++c::r)=a.length
 |[],r,_=>by simp[zcz]
 |x::a,r,h=>by
  have hx:¬x=c:=λe=>h (by simp[e])
  have ih:=zi2 (c:=c) (a:=a) (r:=r) (λz=>h (da _ z));show (if x=c then 0 else zcz c (a++c::r)+1)=a.length+1;rw[oa hx,ih]
theorem zk2{c:Nat}{l:List Nat}(h:c∈l):l=l.take (zcz c l)++c::l.drop (zcz c l+1):=by
 obtain⟨h1,_⟩:=zeo c l h;have hlt:=zlp c l h;have e:=yc hlt
 have e2:l[zcz c l]=c:=by
  rw[ed hlt]at h1;exact vc h1
 rw[e2]at e;rw[<-e,xg]
theorem zs4{l m:List Nat}(hl:44 ∉ l)(hm:44 ∉ m)(h:zaz l=zaz m):l=m:=by
 unfold zaz at h;have key:∀{x y:List Nat},44 ∉ x->124∈y->44 ∉ y->x=y.drop (zcz 124 y+1)++[44,32]++y.take (zcz 124 y)->False:=λ{x y} hx _ _ e=>hx (by rw[e];simp)
 by_cases h1:124∈l
 ·by_cases h2:124∈m
  ·rw[ba h1,ba h2]at h
   have n1:44 ∉ l.drop (zcz 124 l+1):=λz=>hl (ii z)
   have n2:44 ∉ m.drop (zcz 124 m+1):=λz=>hm (ii z)
   have e1:=zi2 (r:=32::l.take (zcz 124 l)) n1;have e2:=zi2 (r:=32::m.take (zcz 124 m)) n2;have h':l.drop (zcz 124 l+1)++44::32::l.take (zcz 124 l)=m.drop (zcz 124 m+1)++44::32::m.take (zcz 124 m):=by simpa using h
   rw[h',e2]at e1;obtain⟨q1,q2⟩:=List.append_inj h' e1.symm;have q3:l.take (zcz 124 l)=m.take (zcz 124 m):=by simpa using q2
   rw[zk2 h1,zk2 h2,q1,q3]
  ·rw[ba h1,oa h2]at h
   exact(key hm h1 hl h.symm).elim
 ·by_cases h2:124∈m
  ·rw[oa h1,ba h2]at h
   exact(key hl h2 hm h).elim
  ·rw[oa h1,oa h2]at h
   exact h
noncomputable def rkD(l:List Nat):D:=.tup [.str (zpx l),.str (zaz l)]
theorem zv3(a b c d:List Nat):zb7 [.str a,.str b] [.str c,.str d]=(decide (a=c) && decide (b=d)):=by
 simp only[zb7,zl4,uq]
theorem yag{l m:List Nat}(hl:44 ∉ l)(hm:44 ∉ m):deq (rkD l) (rkD m)=decide (l=m):=by
 unfold rkD;rw[deq,zv3];by_cases h:l=m
 ·subst h;simp
 ·have:¬zaz l=zaz m:=λz=>h (zs4 hl hm z)
  simp[h,this]
theorem zyr:∀{as bs:List (List Nat)},(∀a∈as,44 ∉ a)->(∀b∈bs,44 ∉ b)->zb7 (as.map rkD) (bs.map rkD)=decide (as=bs)
 |[],[],_,_=>by simp[zb7]
 |[],b::bs,_,_=>by simp[zb7]
 |a::as,[],_,_=>by simp[zb7]
 |a::as,b::bs,h1,h2=>by
  simp only[ja,zb7];rw[yag (h1 a (by simp)) (h2 b (by simp)),zyr (λx hx=>h1 x (by simp[hx])) (λx hx=>h2 x (by simp[hx]))];by_cases e:a=b <;> simp[e]
theorem zi3:∀(as bs:List (List Nat)),zb7 (as.map D.str) (bs.map D.str)=decide (as=bs)
 |[],[]=>by simp[zb7]
 |[],b::bs=>by simp[zb7]
 |a::as,[]=>by simp[zb7]
 |a::as,b::bs=>by
  simp only[ja,zb7];rw[zl4,zi3 as bs];by_cases e:a=b <;> simp[e]
theorem z16(as:List (List Nat)):dOk LV (.lst (as.map rkD))=true:=by
 show (as.map rkD).all (dOk 8)=true;rw[List.all_map,jd];intro x _;rfl
theorem zv4(hs:List (List Nat))(ha:∀h∈hs,asc h/\h.length<=1000)(hn:hs.length<=1000):zub [.tup (hs.map D.str)]=some (.lst (hs.map λh=>.tup [.str (zpx h),.str (zaz h)])):=by
 have key:∀l,asc l->l.length<=1000->∀p acc y,∃x,zea (gN 4) (sIf (tE (eM "str" zd9 (zaa 4) aN)) (zbq 3 (e2 zbg (zaa 3) (eM "str" zeq (zaa 4) aN))) za2) ((zaz l).map λc=>D.str [c]) [p,some (.ow acc),some (.sh (.str l)),some (.sh (.str [])),y]=.nx [p,some (.ow acc),some (.sh (.str l)),some (.sh (.str (zpx l))),x]:=by
  intro l ha h p acc y;have hs:=zk1 (l:=l);have sa:=zk0 ha
  obtain⟨ρ',loop,x,hx⟩:=zfx (λc=>D.str [c]) (g:=gN 4) (f:=sIf (tE (eM "str" zd9 (zaa 4) aN)) (zbq 3 (e2 zbg (zaa 3) (eM "str" zeq (zaa 4) aN))) za2)
   (λpre ρ=>∃x,ρ=[p,some (.ow acc),some (.sh (.str l)),some (.sh (.str (zyp pre))),x]) (zaz l) [p,some (.ow acc),some (.sh (.str l)),some (.sh (.str [])),y]
   (λ pre c post ρ e ⟨x,hx⟩=>by
    subst hx;have hc:c<128:=sa c (by rw[e];simp);have hl:=zv2 pre;have hpl:pre.length<=l.length+2:=by rw[e]at hs;simp at hs;omega
    have e2:zyp (pre++[c])=if c∈LF then zyp pre++[lo1 c] else zyp pre:=by
     unfold zyp;rw[List.filter_append,xb];by_cases hm:c∈LF <;> simp[hm]
    refine⟨_,[p,some (.ow acc),some (.sh (.str l)),some (.sh (.str (zyp (pre++[c])))),some (.sh (.str [c]))],rfl,.inl ?_,_,rfl⟩;rw[e2];by_cases hm:c∈LF
    ·simp only[fnR,fnW,zec,zat,sIf,zbq,ze6,zii,zc2,zb4,ze7,zdz,ze8,zda,zhe,zcx,za2,eC,zal,zaa,L2.e1,L2.e2,eN,aN,aC,tE,zc9,bOr,zdq,eT,eSl,oN,oS,toI,toB,eM,tyN,zap,zc4,zdi,eL,lOk,wN,zcd,zdg,iE,iR,gN,gT,gTC,gT0,zj3,za1,zcc,zdm,gII,zgk,zd8,za0,zbd,ja,me,pb,ud,ke,ue,List.replicate,dg,Nat.reduceAdd,Nat.reduceSub,Nat.reduceLeDiff,de,be,ce,qc,rc,ib,ze,ae,cf,se,ba,ij,ci,reduceIte,ef,pf,bc,reduceCtorEq,kc,zba,itD,znp,znq hc,hm,tu,zs2 hc]
     rw[ze9 _ _ (sz (by simp;omega))]
    ·simp only[fnR,fnW,zec,zat,sIf,zbq,ze6,zii,zc2,zb4,ze7,zdz,ze8,zda,zhe,zcx,za2,eC,zal,zaa,L2.e1,L2.e2,eN,aN,aC,tE,zc9,bOr,zdq,eT,eSl,oN,oS,toI,toB,eM,tyN,zap,zc4,zdi,eL,lOk,wN,zcd,zdg,iE,iR,gN,gT,gTC,gT0,zj3,za1,zcc,zdm,gII,zgk,zd8,za0,zbd,ja,me,pb,ud,ke,ue,List.replicate,dg,Nat.reduceAdd,Nat.reduceSub,Nat.reduceLeDiff,de,be,ce,qc,rc,ib,ze,ae,cf,se,ba,ij,ci,reduceIte,ef,pf,bc,reduceCtorEq,kc,zba,itD,znp,znq hc,hm,ku]) ⟨y,rfl⟩
  subst hx;exact⟨x,loop⟩
 obtain ⟨ρ',loop,x,y,z,hx⟩:=zfx (λ h=>D.str h) (g:=gN 2) (f:=(zat (zbq 3 (eC (.str [])))
  (zat (zcx (iE (zap 1 zpw (aC (zal 2) aN))) (gN 4) (sIf (tE (eM "str" zd9 (zaa 4) aN)) (zbq 3 (e2 zbg (zaa 3) (eM "str" zeq (zaa 4) aN))) za2))
  (zda 1 (eN zbd (aC (zal 3) (aC (zap 1 zpw (aC (zal 2) aN)) aN)))))))
  (λpre ρ=>∃x y z,ρ=[some (.sh (.tup (hs.map D.str))),some (.ow (pre.map λh=>.tup [.str (zpx h),.str (zaz h)])),x,y,z]) hs [some (.sh (.tup (hs.map D.str))),some (.ow []),none,none,none]
  (λ pre l post ρ e ⟨x,y,z,hx⟩=>by
   subst hx;obtain⟨a1,a2⟩:=ha l (by rw[e];simp);obtain⟨w,hw⟩:=key l a1 a2 (some (.sh (.tup (hs.map D.str)))) (pre.map λh=>.tup [.str (zpx h),.str (zaz h)]) z;have hpl:pre.length<sizeLine:=szl (by rw[e]at hn;simp at hn;omega);refine⟨_,[some (.sh (.tup (hs.map D.str))),some (.ow ((pre++[l]).map λh=>.tup [.str (zpx h),.str (zaz h)])),some (.sh (.str l)),some (.sh (.str (zpx l))),w],rfl,.inl ?_,_,_,_,rfl⟩;refine st rfl (st (zbc (zfq (zam rfl rfl (zg3 l a2)) rfl) hw) ?_);have e1:eN zbd (aC (zal 3) (aC (zap 1 zpw (aC (zal 2) aN)) aN)) [some (.sh (.tup (hs.map D.str))),some (.ow (pre.map λh=>.tup [.str (zpx h),.str (zaz h)])),some (.sh (.str l)),some (.sh (.str (zpx l))),w]=some (.tup [.str (zpx l),.str (zaz l)]):=zbv (zak rfl (zak (zam rfl rfl (zg3 l a2)) rfl)) rfl;unfold zda;simp only[rc,qc,e1,ia,hpl,pj,ce,be,xb,ja,me])
  ⟨none,none,none,rfl⟩
 subst hx;exact zby rfl (st rfl (st (zbc rfl loop) rfl))
theorem zs5(hs:List (List Nat))(ha:∀h∈hs,asc h/\h.length<=1000)(hn:hs.length<=1000):zg2 [.tup (hs.map D.str)]=some (.lst (hs.map rkD)):=by
 refine zby rfl (zbu (zgo (zfw (ds:=hs.map D.str) rfl (by rw[ia];exact sz (by omega)) ?_)));exact zgp D.str rkD hs λh hh=>⟨_,rfl,rfl,zbv (zak (zam rfl rfl (z6e h (ha h hh).1 (ha h hh).2)) (zak (zam rfl rfl (zod h (ha h hh).2)) rfl)) rfl⟩
theorem p10:zrk (.int 10) (.int 60)=some (.int (10 ^ 60)):=zyg ⟨by decide,by decide,by decide⟩
theorem p59:zrk (.int 10) (.int 59)=some (.int (10 ^ 59)):=zyg ⟨by decide,by decide,by decide⟩
theorem zk3(ns:List Int)(k:Nat):zyl [.lst (ns.map D.int),.int (k:Nat)]=some (.int (dAt ns k)):=by
 have q:tE (e2 gLt (zaa 1) (eN zd8 (aC (zaa 0) aN))) [some (.sh (.lst (ns.map D.int))),some (.sh (.int (k:Nat)))]=some (decide (((k:Nat):Int)<(ns.length:Nat))):=zbz (zad rfl (zbv rfl z1x) z9r)
 cases hq:decide (((k:Nat):Int)<(ns.length:Nat)) with
 |true =>
  rw[hq]at q;exact zby rfl (zrx ((zka q).trans (zbu (zad rfl rfl (z6a (by have:=lc hq;omega))))))
 |false =>
  rw[hq]at q;refine zby rfl (st ((zd1 q).trans rfl) (zbu ?_))
  have:dAt ns k=0:=by
   unfold dAt
   have:=of_decide_eq_false hq
   rw[wc,wg (by omega)];rfl
  rw[this];rfl
structure GdP(hs:List (List Nat)):Prop where
 g:∀h∈hs,GdH h
 len:hs.length<=6
 pos:1<=hs.length
noncomputable def MkD(hs:List (List Nat))(f l:Int)(m:Bool):D:=.tup [.tup (hs.map D.str),.int f,.int l,.bl m]
def GdM(d:D):Prop:=∃hs f l m,GdP hs/\d=MkD hs f l m
theorem GdP.asc{hs:List (List Nat)}(h:GdP hs):∀l∈hs,asc l/\l.length<=1000:=λl hl=>⟨z15 (h.g l hl),ie (h.g l hl).len (by decide)⟩
theorem GdP.nc{hs:List (List Nat)}(h:GdP hs):∀l∈hs,44 ∉ l:=λl hl=>z6g (h.g l hl)
theorem zb1{hs:List (List Nat)}(h:GdP hs)(f l:Int)(m:Bool):zpn [MkD hs f l m]=some (.tup [.lst (hs.map rkD),.int f,.int l,.bl m]) :=
 zby rfl (zbu (zbv (zak (zam (zak (zad rfl rfl rfl) rfl) rfl (zs5 hs h.asc (ie h.len (by decide)))) (zak (zad rfl rfl rfl) (zak (zad rfl rfl rfl) (zak (zad rfl rfl rfl) rfl)))) rfl))
abbrev CRk:D->Prop:=ybn λ_=>zyj λ_=>z6d
theorem zh0:TotD CRk:=z1y λ_=>zg1 λ_=>zmi
theorem crk(hs:List (List Nat)):CRk (.lst (hs.map rkD)):=⟨_,rfl,zmk λd hd=>by
 obtain⟨l,_,rfl⟩:=vb.mp hd;exact⟨_,rfl,⟨_,rfl⟩,⟨_,rfl⟩,gg⟩⟩
noncomputable def CMf:Nat->D->Prop|0=>CRk|1=>z6c|2=>z6c|_=>CBl
theorem yah:TotD (zyj CMf):=zg1 λi=>match i with|0=>zh0|1=>zix|2=>zix|_+3=>zyi
theorem zs6{hs gs:List (List Nat)}(h:GdP hs)(g:GdP gs)(e:hs.map rkD=gs.map rkD):hs=gs:=by
 have h1:=zyr h.nc g.nc;rw[<-e]at h1;obtain⟨ds,e1,e2⟩:=crk hs;have e1:hs.map rkD=ds:=D.lst.inj e1;have h2:=(zoc (C:=λ_=>zyj λ_=>z6d) (λ_=>zg1 λ_=>zmi) (hs.map rkD) (hs.map rkD) (by rw[e1];exact e2) (by rw[e1];exact e2)).mpr rfl;rw[h2]at h1;exact lc h1.symm
structure Rkd(F:List D->Option D)(C Gd:D->Prop):Prop where
 T:TotD C
 ex:∀d,Gd d->F [d]=some (rk F d)
 cl:∀d,Gd d->C (rk F d)
 dk:∀d,Gd d->dOk LV (rk F d)=true
 kb:∀d,Gd d->zn3 (rk F d)=false/\z08 (rk F d)=true
 inj:∀d e,Gd d->Gd e->rk F d=rk F e->d=e
theorem yai:Rkd zpn (zyj CMf) GdM where
 T:=yah
 ex:=λd ⟨hs,f,l,m,h,e⟩=>by subst e;rw[zfc (zb1 h f l m)];exact zb1 h f l m
 cl:=λd ⟨hs,f,l,m,h,e⟩=>by subst e;rw[zfc (zb1 h f l m)];exact⟨_,rfl,crk hs,⟨_,rfl⟩,⟨_,rfl⟩,⟨_,rfl⟩,gg⟩
 dk:=λd ⟨hs,f,l,m,h,e⟩=>by subst e;rw[zfc (zb1 h f l m)];simp[dOk,LV,rkD]
 kb:=λd ⟨hs,f,l,m,h,e⟩=>by subst e;rw[zfc (zb1 h f l m)];exact⟨rfl,rfl⟩
 inj:=λd e ⟨hs,f,l,m,h,e1⟩ ⟨gs,f',l',m',h',e2⟩ z=>by
  subst e1 e2;rw[zfc (zb1 h f l m),zfc (zb1 h' f' l' m')]at z;have z:=D.tup.inj z;simp only[zj,D.lst.injEq]at z;obtain⟨z1,z2,z3,z4,_⟩:=z
  have:=zs6 h h' z1
  subst this;unfold MkD;rw[z2,z3,z4]
section
variable {F:List D->Option D}{C Gd:D->Prop}(R:Rkd F C Gd)
include R
theorem Rkd.ltT{ks:List D}(hg:∀d∈ks,Gd d):LtT (ltK F) ks where
 tr:=λa ha b hb c hc h1 h2=>R.T.tr _ _ _ (R.cl a (hg a ha)) (R.cl b (hg b hb)) (R.cl c (hg c hc)) h1 h2
 tot:=λa ha b hb=>by
  rcases R.T.tot _ _ (R.cl a (hg a ha)) (R.cl b (hg b hb)) with z|z
  ·exact .inl (R.inj a b (hg a ha) (hg b hb) z)
  ·exact .inr z
 as:=λa ha b hb h=>R.T.as _ _ (R.cl a (hg a ha)) (R.cl b (hg b hb)) h
theorem Rkd.kok{ks:List D}(hg:∀d∈ks,Gd d)(nd:ks.Nodup)(sm:ks.length<64):KOk F ks where
 ex:=λd hd=>⟨_,R.ex d (hg d hd),R.dk d (hg d hd)⟩
 kd:=.inr λd hd=>R.kb d (hg d hd)
 ok:=λd hd e he=>R.T.ok _ _ (R.cl d (hg d hd)) (R.cl e (hg e he))
 lt:=R.ltT hg
 nd:=nd
 sm:=⟨.inl (by omega),by omega⟩
end
noncomputable def dd(l:List D):List D:=l.foldl zis []
theorem z17:∀(l acc:List D),acc.Nodup->(l.foldl zis acc).Nodup/\∀d,d∈l.foldl zis acc↔d∈acc\/d∈l
 |[],acc,h=>⟨h,λd=>by simp⟩
 |x::r,acc,h=>by
  rw[uf]
  have h2:(zis acc x).Nodup/\∀d,d∈zis acc x↔d∈acc\/d=x:=by
   unfold zis;split
   ·rename_i hx;exact⟨h,λd=>⟨.inl,λz=>z.elim id λe=>by rw[e];exact hx⟩⟩
   ·rename_i hx;exact⟨li.mpr ⟨h,by simp,λa ha b hb e=>hx (by rw[zb.mp hb]at e;rw[<-e];exact ha)⟩,λd=>by simp⟩
  obtain⟨i1,i2⟩:=z17 r (zis acc x) h2.1;refine⟨i1,λd=>?_⟩;rw[i2,h2.2,yb,or_assoc]
theorem z6h(l:List D):(dd l).Nodup:=(z17 l [] rg).1
theorem zs7{l:List D}{d:D}:d∈dd l↔d∈l:=by
 have:=(z17 l [] rg).2 d
 simpa [dd] using this
theorem zk4:∀{l m:List D},l.Nodup->(∀d∈l,d∈m)->l.length<=m.length
 |[],m,_,_=>vd _
 |x::r,m,h,hs=>by
  have h':=cg.mp h;obtain⟨m1,m2,e⟩:=List.append_of_mem (hs x za)
  have:=zk4 (m:=m1++m2) h'.2 λd hd=>by
   have h1:=hs d (da _ hd);rw[e]at h1;have hne:d≠x:=λz=>h'.1 (by rw[<-z];exact hd)
   simp only[ac,yb]at h1 ⊢;rcases h1 with h1|h1|h1
   ·exact .inl h1
   ·exact absurd h1 hne
   ·exact .inr h1
  rw[e];simp at this ⊢;omega
theorem zs8(hs:List (List Nat)):zky [.tup (hs.map D.str)]=some (.tup (hs.map D.str)):=zby rfl (zbu (zbv (zak (zbv rfl rfl) rfl) rfl))
theorem zoe(ks:List D)(d:D):(zis ks d).length<=ks.length+1:=by unfold zis;split <;> simp
theorem zv5(hs:List (List Nat)):(hs.map D.str).all z1d=true:=jd.mpr λd hd=>by obtain⟨l,_,rfl⟩:=vb.mp hd;rfl
theorem yaj(hs:List (List Nat))(f l:Int)(m:Bool):isN [2,0,0,1] (MkD hs f l m)=true:=by
 simp only[isN,MkD,sgs,gc,uq];exact⟨zv5 hs,rfl,rfl,rfl⟩
noncomputable abbrev tgM:D->Rho->Option Rho:=gT 4 (gTC (gN 3) (gTC (gN 4) (gTC (gN 5) (gTC (gN 6) gT0))))
noncomputable abbrev puM:GN:=zsk [2,0,0,1] (eN zbd (aC (zap 1 zky (aC (zal 3) aN)) (aC (zal 4) (aC (zal 5) (aC (zal 6) aN)))))
theorem zk5{gt:D->Rho->Option Rho}{f:GN}{d:D}{r:List D}{ρ ρ1 ρ2:Rho}{ks ks2:List D}(h1:gt d ρ=some ρ1)(h2:f ρ1 ks=some (ρ2,ks2)):zsl gt f (d::r) ρ ks=zsl gt f r ρ2 ks2:=by
 rw[zsl,h1,ib,h2,ib]
theorem z18{sg:List Nat}{fk:Rho->Option D}{ρ:Rho}{ks:List D}{d:D}(h:fk ρ=some d)(h1:isN sg d=true)(h2:ks.length<=100000):zsk sg fk ρ ks=some (ρ,zis ks d):=by
 unfold zsk;rw[h,ib,ba ⟨h1,h2⟩]
theorem zys(a b:Option Sl):∀(h ks:List D) (z3 z4 z5 z6:Option Sl),(∀d∈h,GdM d)->ks.length+h.length<=100000->∃y3 y4 y5 y6,zsl tgM puM h [a,none,b,z3,z4,z5,z6] ks=some ([a,none,b,y3,y4,y5,y6],h.foldl zis ks)
 |[],ks,z3,z4,z5,z6,_,_=>⟨z3,z4,z5,z6,rfl⟩
 |d::r,ks,z3,z4,z5,z6,hg,hl=>by
  obtain⟨hs,f,l,m,_,rfl⟩:=hg _ za;rw[pb]at hl;have al:=zoe ks (MkD hs f l m);obtain⟨y3,y4,y5,y6,ih⟩:=zys a b r (zis ks (MkD hs f l m)) (some (.sh (.tup (hs.map D.str)))) (some (.sh (.int f))) (some (.sh (.int l))) (some (.sh (.bl m))) (λe he=>hg e (da _ he)) (by omega);exact⟨y3,y4,y5,y6,(zk5 rfl (z18 (zbv (zak (zam rfl rfl (zs8 hs)) (zak rfl (zak rfl (zak rfl rfl)))) rfl) (yaj hs f l m) (by omega))).trans ih⟩
theorem zyt(a:Option Sl):∀(hs:List (List D)) (ks:List D) (b z3 z4 z5 z6:Option Sl),(∀d∈hs.flatten,GdM d)->ks.length+hs.flatten.length<=100000->∃y2 y3 y4 y5 y6,zsl (gN 2) (zt7 (iE (zal 2)) tgM puM) (hs.map D.lst) [a,none,b,z3,z4,z5,z6] ks=some ([a,none,y2,y3,y4,y5,y6],hs.flatten.foldl zis ks)
 |[],ks,b,z3,z4,z5,z6,_,_=>⟨b,z3,z4,z5,z6,rfl⟩
 |h::r,ks,b,z3,z4,z5,z6,hg,hl=>by
  rw[oj,jc]at hl
  have lk:∀(l acc:List D),(l.foldl zis acc).length<=acc.length+l.length:=λl=>by
   induction l with
   |nil=>intro acc;simp
   |cons x l ih=>intro acc;rw[uf,pb];have:=ih (zis acc x);have:=zoe acc x;omega
  have lk1:=lk h ks;obtain⟨y3,y4,y5,y6,e1⟩:=zys a (some (.sh (.lst h))) h ks z3 z4 z5 z6 (λd hd=>hg d (by rw[oj];exact tf _ hd)) (by omega);obtain⟨w2,w3,w4,w5,w6,e2⟩:=zyt a r (h.foldl zis ks) (some (.sh (.lst h))) y3 y4 y5 y6 (λd hd=>hg d (by rw[oj];exact uc _ hd)) (by omega);refine⟨w2,w3,w4,w5,w6,?_⟩;rw[ja,oj,List.foldl_append,<-e2];refine zk5 rfl ?_;show zt7 (iE (zal 2)) tgM puM [a,none,some (.sh (.lst h)),z3,z4,z5,z6] ks=_;unfold zt7;exact e1
theorem zs9{hs:List (List D)}(hg:∀d∈hs.flatten,GdM d)(hl:hs.flatten.length<=10000)(sm:(dd hs.flatten).length<64):zkz [.lst (hs.map D.lst)]=some (zpu (ltK zpn) (dd hs.flatten)):=by
 obtain⟨y2,y3,y4,y5,y6,e⟩:=zyt (some (.sh (.lst (hs.map D.lst)))) hs [] none none none none none hg (by rw[ud];omega);refine zry rfl ?_;have ok:=yai.kok (λd hd=>hg d (zs7.mp hd)) (z6h hs.flatten) sm;have e':zt7 (iE (zal 0)) (gN 2) (zt7 (iE (zal 2)) tgM puM) [some (.sh (.lst (hs.map D.lst))),none,none,none,none,none,none] []=some ([some (.sh (.lst (hs.map D.lst))),none,y2,y3,y4,y5,y6],dd hs.flatten):=e;show zsm 1 (zt7 (iE (zal 0)) (gN 2) (zt7 (iE (zal 2)) tgM puM)) zpn [some (.sh (.lst (hs.map D.lst))),none,none,none,none,none,none]=_;unfold zsm;simp only[rc,qc];rw[e'];dsimp only;unfold zft;rw[ba ok]
theorem z19(c by_:Int):∃hs,zym [.int c,.int by_]=some (.tup (hs.map D.str))/\GdP hs:=by
 have hn:∃n:Nat,atI [D.int 1,D.int 1,D.int 2,D.int 2,D.int 3,D.int 6] (c % 6)=some (.int n)/\1<=n/\n<=6:=by
  have:c % 6=0\/c % 6=1\/c % 6=2\/c % 6=3\/c % 6=4\/c % 6=5:=by omega
  rcases this with h|h|h|h|h|h <;> rw[h]
  ·exact⟨1,rfl,by omega,by omega⟩
  ·exact⟨1,rfl,by omega,by omega⟩
  ·exact⟨2,rfl,by omega,by omega⟩
  ·exact⟨2,rfl,by omega,by omega⟩
  ·exact⟨3,rfl,by omega,by omega⟩
  ·exact⟨6,rfl,by omega,by omega⟩
 obtain⟨n,hn,n1,n6⟩:=hn
 obtain⟨ρ',loop,hs,x,hx,hg,hl⟩:=zfx (λk:Nat=>D.int k) (g:=gN 3) (f:=(zda 2 (zap 2 zua (aC (zal 1) (aC (e2 zbg (e2 zb5 (e2 zdf (zaa 0) (e2 zbg (eC (.int 6)) (e2 zcm (zaa 3) (zaa 3)))) (eC (.int 4))) (e2 zcm (eC (.int 4)) (e2 zb5 (zaa 3) (eC (.int 3))))) aN)))))
  (λpre ρ=>∃hs x,ρ=[some (.sh (.int c)),some (.sh (.int by_)),some (.ow (hs.map D.str)),x]/\(∀h∈hs,GdH h)/\hs.length=pre.length) (List.range n) [some (.sh (.int c)),some (.sh (.int by_)),some (.ow []),none]
  (λ pre j post ρ e ⟨hs,x,hx,hg,hl⟩=>by
   subst hx;have hlen:pre.length+1<=n:=by have:=zc List.length e;simp at this;omega
   have hj:j<n:=df.mp (by rw[e];simp);have hjj:(j:Int) * j<=36:=Int.le_trans (Int.mul_le_mul (show (j:Int)<=6 by omega) (show (j:Int)<=6 by omega) (by omega) (by omega)) (by omega);have hjj0:0<=(j:Int) * j:=Int.mul_nonneg (by omega) (by omega);obtain⟨l,h1,h2⟩:=z14 by_ (c / (6+(j:Int) * j) % 4+4 * ((j:Int) % 3)) (by omega) (by omega);refine⟨_,[some (.sh (.int c)),some (.sh (.int by_)),some (.ow ((hs++[l]).map D.str)),some (.sh (.int j))],rfl,.inl ?_,hs++[l],_,rfl,?_,by simp[hl]⟩
   ·have e1:zap 2 zua (aC (zal 1) (aC (e2 zbg (e2 zb5 (e2 zdf (zaa 0) (e2 zbg (eC (.int 6)) (e2 zcm (zaa 3) (zaa 3)))) (eC (.int 4))) (e2 zcm (eC (.int 4)) (e2 zb5 (zaa 3) (eC (.int 3))))) aN)) [some (.sh (.int c)),some (.sh (.int by_)),some (.ow (hs.map D.str)),some (.sh (.int j))]=some (.str l) :=
     zam (zak rfl (zak (zad (zad (zad rfl (zad rfl (zad rfl rfl (zfk (zik (by omega)))) rfl) (zdo (by omega))) rfl (zb3 (by decide))) (zad rfl (zad rfl rfl (zb3 (by decide))) (zfk (zik (by decide)))) rfl) rfl)) rfl h1
    have hz:hs.length<sizeLine:=szl (by omega);unfold zda;simp only[rc,qc,e1,ia,hz,pj,ce,be,xb,ja,me]
   ·intro h hh
    rcases ac.mp hh with hh|hh
    ·exact hg h hh
    ·rw[zb.mp hh];exact h2) ⟨[],none,rfl,(by intro h hh;cases hh),rfl⟩
 subst hx;simp only[ym]at hl;refine⟨hs,zby rfl (st rfl (st (zbc (zpc (zak (zad rfl (zad rfl rfl (zb3 (by decide))) hn) rfl) (zl2 (n:=n) rfl (by omega))) loop) rfl)),hg,by omega,by omega⟩
structure Thg(Gd:D->Prop):Prop where
 tup:∀d,Gd d->∃ds,d=.tup ds
 dk:∀d,Gd d->∀k,dOk (k+3) d=true
 eq:∀a b,Gd a->Gd b->(deq a b=true↔a=b)
noncomputable def ycx:Nat->D->Prop|0=>zyj λ_=>z6d|1=>z6c|2=>z6c|_=>CBl
theorem z6i(hs:List (List Nat)):zyj (λ_=>z6d) (.tup (hs.map D.str)):=⟨_,rfl,zmk λd hd=>by obtain⟨l,_,rfl⟩:=vb.mp hd;exact⟨l,rfl⟩⟩
theorem z6j:Thg GdM where
 tup:=λd ⟨hs,f,l,m,_,e⟩=>⟨_,e⟩
 dk:=λd ⟨hs,f,l,m,_,e⟩ k=>by subst e;simp[dOk,MkD]
 eq:=λa b ⟨hs,f,l,m,_,e⟩ ⟨hs',f',l',m',_,e'⟩=>by
  subst e e';have T:TotD (zyj ycx):=zg1 λi=>match i with|0=>zg1 λ_=>zmi|1=>zix|2=>zix|_+3=>zyi
  exact T.eq _ _ ⟨_,rfl,z6i hs,⟨_,rfl⟩,⟨_,rfl⟩,⟨_,rfl⟩,gg⟩ ⟨_,rfl,z6i hs',⟨_,rfl⟩,⟨_,rfl⟩,⟨_,rfl⟩,gg⟩
theorem zey:∀{l:List D},(∀d∈l,deq d d=true)->zb7 l l=true
 |[],_=>by simp[zb7]
 |d::r,h=>by rw[zb7,h d za,zey λe he=>h e (da _ he)];rfl
section
variable {Gd:D->Prop}(G:Thg Gd)
include G
theorem Thg.dkl{l:List D}(h:∀d∈l,Gd d)(k:Nat):dOk (k+4) (.lst l)=true:=by
 rw[dOk];exact jd.mpr λd hd=>G.dk d (h d hd) k
theorem Thg.eql{l:List D}(h:∀d∈l,Gd d):gEq (.lst l) (.lst l)=some true:=by
 rw[zr6 (by rw[show LV=5+4 from rfl,G.dkl h];rfl),zey λd hd=>(G.eq d d (h d hd) (h d hd)).mpr rfl]
end
theorem zi4{np:Nat}{F:List D->Option (List D)}{fr:Rho->Option (List D)}{ρ:Rho}{ds:List D}{z:List D}(ha:fr ρ=some ds)(hn:ds.length=np)(hF:F ds=some z):zdi np F fr ρ=some z:=by unfold zdi;rw[ha];show (if ds.length=np then F ds else none)=_;rw[ba hn];exact hF
section
variable {κ α:Type}[DecidableEq κ]
theorem za5(a:κ×α)(m:List (κ×α))(k:κ):zbx (a::m) k=if a.1=k then some a.2 else zbx m k:=by
 unfold zbx;rw[mf];by_cases h:a.1=k
 ·rw[ba h,ub h];rfl
 ·rw[oa h,md h]
theorem zk6{m:List (κ×α)}{k:κ}(h:k ∉ m.map Prod.fst):zbx m k=none:=by
 induction m with
 |nil=>rfl
 |cons a r ih =>
  rw[ja,yb]at h;rw[za5,oa (λz=>h (.inl z.symm)),ih λz=>h (.inr z)]
theorem zez{m:List (κ×α)}{k:κ}(h:k∈m.map Prod.fst):∃v,zbx m k=some v:=by
 induction m with
 |nil=>simp at h
 |cons a r ih =>
  rw[za5];by_cases e:a.1=k
  ·exact⟨_,ba e⟩
  ·rw[oa e]
   rw[ja,yb]at h;exact ih (h.resolve_left λz=>e z.symm)
theorem zta(m:List (κ×α))(k:κ):(m.any λkv=>decide (kv.1=k))=decide (k∈m.map Prod.fst):=by
 induction m with
 |nil=>simp
 |cons a r ih =>
  rw[bg,ih,ja];by_cases e:a.1=k
  ·simp[e]
  ·have e2:¬k=a.1:=λz=>e z.symm
   simp[e,e2]
theorem zf1{m:List (κ×α)}{k:κ}(v:α)(h:k ∉ m.map Prod.fst):zja m k v=m++[(k,v)]:=by
 unfold zja;rw[zta,md h,oa la]
theorem zf2{m:List (κ×α)}{k:κ}(v:α)(h:k∈m.map Prod.fst):zja m k v=m.map λkv=>if kv.1=k then (kv.1,v) else kv:=by
 unfold zja;rw[zta,ub h,ba rfl]
theorem zk7(m:List (κ×α))(k:κ)(v:α):(zja m k v).map Prod.fst=if k∈m.map Prod.fst then m.map Prod.fst else m.map Prod.fst++[k]:=by
 by_cases h:k∈m.map Prod.fst
 ·rw[zf2 v h,ba h,zd]
  refine xf λkv _=>?_
  show (if kv.1=k then (kv.1,v) else kv).1=kv.1
  split <;> rfl
 ·rw[zf1 v h,oa h,xb];rfl
theorem zv6(m:List (κ×α))(k k':κ)(v:α):zbx (zja m k v) k'=if k'=k then some v else zbx m k':=by
 by_cases h:k∈m.map Prod.fst
 ·rw[zf2 v h]
  induction m with
  |nil=>simp at h
  |cons a r ih =>
   rw[ja,za5,za5];by_cases e:a.1=k
   ·rw[ba e]
    by_cases e2:a.1=k'
    ·rw[ba e2,ba (e2.symm.trans e)]
    ·rw[oa e2,oa e2,oa (λz=>e2 (e.trans z.symm))]
     have:∀l:List (κ×α),¬k'=k->zbx (l.map λkv=>if kv.1=k then (kv.1,v) else kv) k'=zbx l k':=by
      intro l hk
      induction l with
      |nil=>rfl
      |cons b l ih2 =>
       rw[ja,za5,za5,ih2];by_cases e3:b.1=k
       ·rw[ba e3,oa (λz=>hk (z.symm.trans e3)),oa (λz=>hk (z.symm.trans e3))]
       ·rw[oa e3]
     exact this r λz=>e2 (e.trans z.symm)
   ·rw[oa e]
    rw[ja,yb]at h;by_cases e2:a.1=k'
    ·rw[ba e2,oa (λz=>e (e2.trans z)),ba e2]
    ·rw[oa e2,oa e2,ih (h.resolve_left λz=>e z.symm)]
 ·rw[zf1 v h]
  induction m with
  |nil =>
   rw[ue,za5];by_cases e:k=k'
   ·rw[ba e,ba e.symm]
   ·rw[oa e,oa (λz=>e z.symm)]
  |cons a r ih =>
   rw[ja,yb]at h;rw[ke,za5,za5,ih λz=>h (.inr z)];by_cases e2:a.1=k'
   ·rw[ba e2,ba e2,oa (λz=>h (.inl (z.symm.trans e2.symm)))]
   ·rw[oa e2,oa e2]
end
noncomputable def kz(m:List (Int×Bool)):List Key:=m.map λp=>Sum.inl p.1
noncomputable def dz(m:List (Int×Bool)):List D:=m.map λp=>D.bl p.2
noncomputable def phi(p:Int×Bool):Key×D:=(Sum.inl p.1,D.bl p.2)
theorem zyu(m:List (Int×Bool)):(kz m).zip (dz m)=m.map phi:=by
 induction m with
 |nil=>rfl
 |cons a r ih=>show (_::_)=_;rw[ja];exact zc _ ih
theorem zyv(m:List (Int×Bool)):(m.map phi).map Prod.fst=kz m:=by rw[zd];rfl
theorem z6k(m:List (Int×Bool)):(m.map phi).map Prod.snd=dz m:=by rw[zd];rfl
theorem ztb(m:List (Int×Bool)):kz m=(m.map Prod.fst).map Sum.inl:=by rw[zd];rfl
theorem zyw{m:List (Int×Bool)}{k:Int}:(Sum.inl k:Key)∈(m.map phi).map Prod.fst↔k∈m.map Prod.fst:=by
 rw[zyv,ztb,vb];exact⟨λ⟨x,h1,h2⟩=>by cases h2;exact h1,λh=>⟨k,h,rfl⟩⟩
theorem zv7(m:List (Int×Bool))(k:Int):zbx (m.map phi) (Sum.inl k)=(zbx m k).map D.bl:=by
 induction m with
 |nil=>rfl
 |cons a r ih =>
  rw[ja,za5,za5,ih];by_cases e:a.1=k
  ·rw[ba e,ba (by show Sum.inl a.1=Sum.inl k;rw[e])];rfl
  ·rw[oa e,oa (by show ¬Sum.inl a.1=Sum.inl k;exact λz=>e (nu z))]
theorem zv8(m:List (Int×Bool))(k:Int)(b:Bool):zja (m.map phi) (Sum.inl k) (D.bl b)=(zja m k b).map phi:=by
 by_cases h:k∈m.map Prod.fst
 ·rw[zf2 _ (zyw.mpr h),zf2 _ h,zd,zd]
  refine xf λkv _=>?_
  show (if (Sum.inl kv.1:Key)=Sum.inl k then ((Sum.inl kv.1:Key),D.bl b) else phi kv)=phi (if kv.1=k then (kv.1,b) else kv);by_cases e:kv.1=k
  ·rw[ba e,ba (by rw[e])];rfl
  ·rw[oa e,oa (λz=>e (nu z))]
 ·rw[zf1 _ (λz=>h (zyw.mp z)),zf1 _ h,xb];rfl
theorem zmn(m:List (Int×Bool))(k:Int):zeh (.dk (kz m) (dz m)) (.int k)=some ((zbx m k).map D.bl):=by
 unfold zeh;show some (zbx ((kz m).zip (dz m)) (Sum.inl k))=_;rw[zyu,zv7]
theorem zv9{m:List (Int×Bool)}{k:Int}{b:Bool}(h:zbx m k=some b):zfr (.dk (kz m) (dz m)) (.int k)=some (.bl b):=by
 unfold zfr;rw[zmn,h];rfl
theorem zof{m:List (Int×Bool)}(k:Int)(b:Bool)(h:m.length<=100000):zpd (.dk (kz m) (dz m)) (.int k) (.bl b)=some (.dk (kz (zja m k b)) (dz (zja m k b))):=by
 unfold zpd;show (if (kz m).length<sizeLine then some (Sl.dk _ _) else none)=_;rw[ba (by unfold kz;rw[ia];exact szl h),zyu,zv8,zyv,z6k]
theorem zyx:∀{l m:List Int},l.Nodup->(∀x∈l,x∈m)->l.length<=m.length
 |[],_,_,_=>vd _
 |a::l,m,hn,hs=>by
  have ha:=hs a (by simp);have hn:=cg.mp hn
  have:=zyx (l:=l) (m:=m.erase a) hn.2 λx hx=>(List.mem_erase_of_ne (λz:x=a=>hn.1 (z ▸ hx))).mpr (hs x (da _ hx))
  rw[List.length_erase_of_mem ha]at this;have hp:=List.length_pos_of_mem ha;rw[pb];omega
structure Good(pg:List Int)(m:List (Int×Bool)):Prop where
 nd:(m.map Prod.fst).Nodup
 sub:∀x∈m.map Prod.fst,x∈pg
theorem Good.len{pg:List Int}{m:List (Int×Bool)}(h:Good pg m):m.length<=pg.length:=by
 have:=zyx h.nd h.sub
 rwa [ia]at this
theorem Good.put{pg:List Int}{m:List (Int×Bool)}(h:Good pg m){k:Int}(hk:k∈pg)(b:Bool):Good pg (zja m k b):=by
 constructor
 ·rw[zk7]
  split
  ·exact h.nd
  ·rename_i hn
   exact List.nodup_append.mpr ⟨h.nd,by simp,λ x hx y hy z=>by
    rw[zb]at hy;subst hy z;exact hn hx⟩
 ·rw[zk7]
  split
  ·exact h.sub
  ·intro x hx
   rcases ac.mp hx with hx|hx
   ·exact h.sub x hx
   ·rw[zb.mp hx];exact hk
theorem zog{fo fk fz:Rho->Option D}{ρ:Rho}{d k z:D}{o:Option D}(h1:fo ρ=some d)(h2:fk ρ=some k)(h3:fz ρ=some z)(h4:zeh d k=some o):zd3 fo fk fz ρ=some (o.getD z):=by
 unfold zd3;rw[h1,h2,h3];show (zeh d k).map _=_;rw[h4];rfl
theorem ztc{i:Nat}{fk fv:Rho->Option D}{ρ:Rho}{sl sl':Sl}{d k:D}(h0:ρ[i]?=some (some sl))(h1:fv ρ=some d)(h2:fk ρ=some k)(h3:zpd sl k d=some sl'):zkc i fk fv ρ=.nx (ρ.set i (some sl')):=by
 unfold zkc;rw[h0];dsimp only;rw[h1,h2];show (match zpd sl k d with|some sl'=>Out.nx (ρ.set i (some sl'))|none=>Out.bad)=_;rw[h3]
theorem ztd{i:Nat}{fk fv:Rho->Option D}{ρ:Rho}{ds ds':List D}{d k:D}(h0:ρ[i]?=some (some (.ow ds)))(h1:fv ρ=some d)(h2:fk ρ=some k)(h3:z5c ds k d=some ds'):zke i fk fv ρ=.nx (ρ.set i (some (.ow ds'))):=by
 unfold zke;rw[h0];dsimp only;rw[h1,h2];show (match z5c ds k d with|some ds'=>Out.nx (ρ.set i (some (.ow ds')))|none=>Out.bad)=_;rw[h3]
noncomputable abbrev Mk:=Nat×Nat×Bool
noncomputable def MkS(p:D)(m:Mk):D:=.tup [p,.int (m.1:Nat),.int (m.2.1:Nat),.bl m.2.2]
noncomputable def stp(most:Bool)(m:List (Int×Bool))(page:Int):List (Int×Bool):=zja m page (most || (zbx m page).getD false)
noncomputable def zk8(pg:List Int)(k:Mk):List Int:=(pg.drop k.1).take (k.2.1+1 - k.1)
noncomputable def zar(pg:List Int)(mks:List Mk):List (Int×Bool):=mks.foldl (λm k=>(zk8 pg k).foldl (stp k.2.2) m) []
theorem zf3{pg:List Int}{k:Mk}{x:Int}(h:x∈zk8 pg k):x∈pg:=ii (vj h)
theorem Good.stps{pg:List Int}{most:Bool}:∀{ps:List Int}{m:List (Int×Bool)},Good pg m->(∀x∈ps,x∈pg)->Good pg (ps.foldl (stp most) m)
 |[],_,h,_=>h
 |x::r,m,h,hs=>Good.stps (ps:=r) (h.put (hs x (by simp)) _) λy hy=>hs y (da _ hy)
theorem zdp(pg:List Int):∀(mks:List Mk) (m:List (Int×Bool)),Good pg m->Good pg (mks.foldl (λm k=>(zk8 pg k).foldl (stp k.2.2) m) m)
 |[],_,h=>h
 |k::r,m,h=>zdp pg r _ (h.stps λ_ hx=>zf3 hx)
theorem zcr(pg:List Int)(mks:List Mk):Good pg (zar pg mks):=zdp pg mks [] ⟨rg,λx hx=>by simp at hx⟩
noncomputable def z6l:Rho->Out:=zkc 2 (zaa 7) (eT (bOr (tE (zal 6)) (tE (zd3 (zaa 2) (zaa 7) (eC (.bl false))))))
theorem zoh{pg:List Int}(hpg:pg.length<=1000)(a b c d e:Option Sl)(most:Bool):∀(ps:List Int) (m:List (Int×Bool)) (z:Option Sl),Good pg m->(∀x∈ps,x∈pg) →
  ∃z',zea (gN 7) z6l (ps.map D.int) [a,b,some (.dk (kz m) (dz m)),c,d,e,some (.sh (.bl most)),z]=.nx [a,b,some (.dk (kz (ps.foldl (stp most) m)) (dz (ps.foldl (stp most) m))),c,d,e,some (.sh (.bl most)),z']
 |[],m,z,_,_=>⟨z,rfl⟩
 |x::r,m,z,hm,hs=>by
  obtain⟨z',ih⟩:=zoh hpg a b c d e most r (stp most m x) (some (.sh (.int x))) (hm.put (hs x (by simp)) _) λy hy=>hs y (da _ hy)
  refine⟨z',?_⟩;rw[ja,uf,<-ih];refine zay rfl ?_;have hl:m.length<=100000:=ie hm.len (by omega)
  have g:tE (zd3 (zaa 2) (zaa 7) (eC (.bl false))) [a,b,some (.dk (kz m) (dz m)),c,d,e,some (.sh (.bl most)),some (.sh (.int x))]=some ((zbx m x).getD false):=by
   refine zbz ((zog (z:=.bl false) rfl rfl rfl (zmn m x)).trans ?_)
   cases zbx m x <;> rfl
  have g2:eT (bOr (tE (zal 6)) (tE (zd3 (zaa 2) (zaa 7) (eC (.bl false))))) [a,b,some (.dk (kz m) (dz m)),c,d,e,some (.sh (.bl most)),some (.sh (.int x))]=some (.bl (most || (zbx m x).getD false)):=by
   refine z0y ?_
   cases most with
   |true=>exact z0x rfl
   |false=>exact zhg rfl g
  exact(ztc rfl g2 rfl (zof x _ hl)).trans rfl
noncomputable def yak:Rho->Out:=zcx (iE (eSl (zaa 0) (oS (zaa 4)) (oS (e2 zbg (zaa 5) (eC (.int 1)))))) (gN 7) z6l
theorem zoi{pg:List Int}(hpg:pg.length<=1000)(p:D)(b:Option Sl):∀(mks:List Mk) (m:List (Int×Bool)) (c d e f z:Option Sl),Good pg m->(∀k∈mks,k.1<=k.2.1) →
  ∃c' d' e' f' z',zea (gT 4 (gTC (gN 3) (gTC (gN 4) (gTC (gN 5) (gTC (gN 6) gT0))))) yak (mks.map (MkS p)) [some (.sh (.lst (pg.map D.int))),b,some (.dk (kz m) (dz m)),c,d,e,f,z] =
   .nx [some (.sh (.lst (pg.map D.int))),b,some (.dk (kz (mks.foldl (λm k=>(zk8 pg k).foldl (stp k.2.2) m) m)) (dz (mks.foldl (λm k=>(zk8 pg k).foldl (stp k.2.2) m) m))),c',d',e',f',z']
 |[],m,c,d,e,f,z,_,_=>⟨c,d,e,f,z,rfl⟩
 |k::r,m,c,d,e,f,z,hm,hk=>by
  obtain⟨z1,h1⟩:=zoh hpg (some (.sh (.lst (pg.map D.int)))) b (some (.sh p)) (some (.sh (.int (k.1:Nat)))) (some (.sh (.int (k.2.1:Nat)))) k.2.2 (zk8 pg k) m z hm λx hx=>zf3 hx
  obtain⟨c',d',e',f',z',ih⟩:=zoi hpg p b r _ (some (.sh p)) (some (.sh (.int (k.1:Nat)))) (some (.sh (.int (k.2.1:Nat)))) (some (.sh (.bl k.2.2))) z1 (hm.stps (most:=k.2.2) λx hx=>zf3 hx) λj hj=>hk j (da _ hj)
  refine⟨c',d',e',f',z',?_⟩;rw[ja,uf,<-ih];refine zay (ρ1:=[some (.sh (.lst (pg.map D.int))),b,some (.dk (kz m) (dz m)),some (.sh p),some (.sh (.int (k.1:Nat))),some (.sh (.int (k.2.1:Nat))),some (.sh (.bl k.2.2)),z]) rfl ?_;refine zbc (ds:=(zk8 pg k).map D.int) (zfq (d:=.lst ((zk8 pg k).map D.int)) ?_ rfl) h1
  have hc:zht (pg.map D.int) (some ((k.1:Nat):Int)) (some ((k.2.1:Nat)+1:Int))=(zk8 pg k).map D.int:=by
   have e0:((k.2.1:Nat)+1:Int)=((k.2.1+1:Nat):Int):=by omega
   rw[e0,zim,zr4 _ _ _ (by have:=hk k (by simp);omega)];rfl
  show (gSl (.lst (pg.map D.int)) (some ((k.1:Nat):Int)) (some ((k.2.1:Nat)+1:Int)))=_;unfold gSl;dsimp only;rw[hc]
theorem zte{pg:List Int}(hpg:pg.length<=1000)(p:D)(mks:List Mk)(hk:∀k∈mks,k.1<=k.2.1):z1z [.lst (pg.map D.int),.lst (mks.map (MkS p))]=some (.dk (kz (zar pg mks)) (dz (zar pg mks))):=by
 obtain⟨c,d,e,f,z,h⟩:=zoi hpg p (some (.sh (.lst (mks.map (MkS p))))) mks [] none none none none none ⟨rg,λx hx=>by simp at hx⟩ hk;exact zby rfl (st rfl (st (zbc (zfq rfl rfl) h) rfl))
noncomputable abbrev Td:=Int×Int×Bool
noncomputable def TdD(t:Td):D:=.tup [.int t.1,.int t.2.1,.bl t.2.2]
theorem z2a(t:Td)(page:Int)(s:Bool):ziy [TdD t,.int page,.bl s]=some (.bl (decide (t.2.1+1=page) && (t.2.2 == s))):=by
 refine zby rfl (zbu (z0y ?_));have q1:tE (e2 zcc (e2 zbg (e2 gIx (zaa 0) (eC (.int 1))) (eC (.int 1))) (zaa 1)) (zec 3 [TdD t,.int page,.bl s])=some (decide (t.2.1+1=page)):=zbz (zad (d:=.int (t.2.1+1)) rfl rfl (zd2 zeu));have q2:tE (e2 zcc (e2 gIx (zaa 0) (eC (.int 2))) (zaa 2)) (zec 3 [TdD t,.int page,.bl s])=some (t.2.2 == s):=zbz (zad (d:=.bl t.2.2) rfl rfl (zd2 zx0))
 cases h:decide (t.2.1+1=page) with
 |false=>rw[h]at q1;exact znm q1
 |true=>rw[h]at q1;exact zkb q1 q2
noncomputable def zhb(a b:Int)(t:Bool):List (Int×Bool)->List Td
 |[]=>[(a,b,t)]
 |(page,s)::r=>if b+1=page/\t=s then zhb a page s r else (a,b,t)::zhb page page s r
noncomputable def zwa:List (Int×Bool)->List Td
 |[]=>[]
 |(page,s)::r=>zhb page page s r
theorem zi5(a b:Int)(t:Bool):∀(r:List (Int×Bool)),(zhb a b t r).length<=r.length+1
 |[]=>by simp[zhb]
 |(page,s)::r=>by
  unfold zhb;split
  ·have:=zi5 a page s r;simp;omega
  ·have:=zi5 page page s r;simp;omega
theorem zwb(r:List (Int×Bool)):(zwa r).length<=r.length:=by
 cases r with
 |nil=>simp[zwa]
 |cons x r=>have:=zi5 x.1 x.1 x.2 r;unfold zwa;simp;omega
noncomputable def z6m:Rho->Out:=sIf (zc9 (tE (e2 gGt (eN zd8 (aC (zaa 3) aN)) (eC (.int 0)))) (tE (zap 3 ziy (aC (e2 gIx (zaa 3) (e1 zgl (eC (.int 1)))) (aC (zal 4) (aC (e2 zfr (zaa 2) (zaa 4)) aN)))))) (zke 3 (e1 zgl (eC (.int 1))) (eN zbd (aC (e2 gIx (e2 gIx (zaa 3) (e1 zgl (eC (.int 1)))) (eC (.int 0))) (aC (zal 4) (aC (e2 zfr (zaa 2) (zaa 4)) aN))))) (zda 3 (eN zbd (aC (zal 4) (aC (zal 4) (aC (e2 zfr (zaa 2) (zaa 4)) aN)))))
theorem zmo{α:Type}(l:List α)(x:α):atI (l++[x]) (-1)=some x:=by
 unfold atI
 have e:ixN (l++[x]).length (-1)=some l.length:=by
  unfold ixN;rw[oa (by omega),ba (by simp;omega)]
  congr 1
  simp;omega
 rw[e];show (l++[x])[l.length]?=_;simp
theorem zoj(l:List D)(x d:D):z5c (l++[x]) (.int (-1)) d=some (l++[d]):=by
 unfold z5c
 have e:ixN (l++[x]).length (-1)=some l.length:=by
  unfold ixN;rw[oa (by omega),ba (by simp;omega)]
  congr 1
  simp;omega
 show (ixN (l++[x]).length (-1)).map _=_;rw[e];show some ((l++[x]).set l.length d)=_
 congr 1
 simp
theorem zg4{m:List (Int×Bool)}(n k:Option Sl):∀(r:List (Int×Bool)) (init:List Td) (a b:Int) (t:Bool) (z:Option Sl),(∀x∈r,zbx m x.1=some x.2)->init.length+r.length<=50000 →
  ∃z',zea (gN 4) z6m (r.map λx=>D.int x.1) [n,k,some (.sh (.dk (kz m) (dz m))),some (.ow ((init++[(a,b,t)]).map TdD)),z]=.nx [n,k,some (.sh (.dk (kz m) (dz m))),some (.ow ((init++zhb a b t r).map TdD)),z']
 |[],init,a,b,t,z,_,_=>⟨z,rfl⟩
 |(page,s)::r,init,a,b,t,z,hv,hl=>by
  have hv1:zfr (.dk (kz m) (dz m)) (.int page)=some (.bl s):=zv9 (hv (page,s) (by simp));have hv2:∀x∈r,zbx m x.1=some x.2:=λx hx=>hv x (da _ hx)
  rw[pb]at hl;have em:∀(x:Td),(init++[x]).map TdD=init.map TdD++[TdD x]:=λx=>by rw[xb];rfl
  have hat:atI ((init++[(a,b,t)]).map TdD) (-1)=some (TdD (a,b,t)):=by rw[em];exact zmo _ _
  have q1:tE (e2 gGt (eN zd8 (aC (zaa 3) aN)) (eC (.int 0))) [n,k,some (.sh (.dk (kz m) (dz m))),some (.ow ((init++[(a,b,t)]).map TdD)),some (.sh (.int page))]=some true:=by
   refine zbz (zad (zbv (z:=.int ((init++[(a,b,t)]).map TdD).length) rfl rfl) rfl ?_);rw[zu9]
   congr 2
   exact ub (by rw[ia,jc,pd];omega)
  have q2:tE (zap 3 ziy (aC (e2 gIx (zaa 3) (e1 zgl (eC (.int 1)))) (aC (zal 4) (aC (e2 zfr (zaa 2) (zaa 4)) aN)))) [n,k,some (.sh (.dk (kz m) (dz m))),some (.ow ((init++[(a,b,t)]).map TdD)),some (.sh (.int page))]=some (decide (b+1=page) && (t == s)) :=
   zbz (zam (zak (zad rfl rfl hat) (zak rfl (zak (zad rfl rfl hv1) rfl))) rfl (z2a (a,b,t) page s))
  by_cases hc:b+1=page/\t=s
  ·have hq:(decide (b+1=page) && (t == s))=true:=by rw[ub hc.1,hc.2];simp
   rw[hq]at q2;obtain⟨z',ih⟩:=zg4 n k r init a page s (some (.sh (.int page))) hv2 (by omega);refine⟨z',?_⟩;have eg:zhb a b t ((page,s)::r)=zhb a page s r:=by rw[zhb,ba hc]
   rw[eg,<-ih];refine zay rfl ((zka (zkb q1 q2)).trans ?_);refine(ztd (ds':=(init++[(a,page,s)]).map TdD) rfl (zbv (ds:=[.int a,.int page,.bl s]) (zak (zad (zad rfl rfl hat) rfl rfl) (zak rfl (zak (zad rfl rfl hv1) rfl))) rfl) rfl ?_).trans rfl;rw[em,em];exact zoj _ _ _
  ·have hq:(decide (b+1=page) && (t == s))=false:=by
    cases h1:decide (b+1=page) with
    |false=>rfl
    |true =>
     cases h2:t == s with
     |false=>rfl
     |true=>exact absurd ⟨lc h1,by simpa using h2⟩ hc
   rw[hq]at q2;obtain⟨z',ih⟩:=zg4 n k r (init++[(a,b,t)]) page page s (some (.sh (.int page))) hv2 (by rw[jc,pd];omega);refine⟨z',?_⟩;have eg:init++zhb a b t ((page,s)::r)=init++[(a,b,t)]++zhb page page s r:=by rw[zhb,oa hc,ji];rfl
   rw[eg,<-ih];refine zay rfl ((zd1 (zkb q1 q2)).trans ?_);refine(zc6 (ds:=(init++[(a,b,t)]).map TdD) (d:=TdD (page,page,s)) rfl (zbv (ds:=[.int page,.int page,.bl s]) (zak rfl (zak rfl (zak (zad rfl rfl hv1) rfl))) rfl) (by simp;omega)).trans ?_;show Out.nx [n,k,some (.sh (.dk (kz m) (dz m))),some (.ow ((init++[(a,b,t)]).map TdD++[TdD (page,page,s)])),some (.sh (.int page))]=_;simp only[xb,ja,me]
noncomputable def zf4(m:List (Int×Bool)):List (Int×Bool):=(zr9 (m.map Prod.fst)).map λk=>(k,(zbx m k).getD false)
theorem zok(m:List (Int×Bool)):(zf4 m).map (λx=>D.int x.1)=(zr9 (m.map Prod.fst)).map D.int:=by unfold zf4;rw[zd];rfl
theorem zol{m:List (Int×Bool)}{x:Int×Bool}(h:x∈zf4 m):zbx m x.1=some x.2:=by
 obtain⟨k,h1,rfl⟩:=vb.mp h;obtain⟨v,h2⟩:=zez ((zcq _).mem_iff.mp h1);show zbx m k=some ((zbx m k).getD false);rw[h2];rfl
theorem zi6(m:List (Int×Bool)):(zf4 m).length=m.length:=by unfold zf4;rw[ia,(zcq _).length_eq,ia]
theorem ztf{m:List (Int×Bool)}(n k:Option Sl)(hl:m.length<=1000):∃z',zea (gN 4) z6m ((zf4 m).map λx=>D.int x.1) [n,k,some (.sh (.dk (kz m) (dz m))),some (.ow []),none]=.nx [n,k,some (.sh (.dk (kz m) (dz m))),some (.ow ((zwa (zf4 m)).map TdD)),z']:=by
 have hv:∀x∈zf4 m,zbx m x.1=some x.2:=λx hx=>zol hx
 have hsl:=zi6 m
 cases hr:zf4 m with
 |nil=>exact⟨none,rfl⟩
 |cons x r =>
  rw[hr]at hv hsl;obtain⟨page,s⟩:=x;rw[pb]at hsl;have hv1:zfr (.dk (kz m) (dz m)) (.int page)=some (.bl s):=zv9 (hv (page,s) (by simp));obtain⟨z',ih⟩:=zg4 n k r [] page page s (some (.sh (.int page))) (λx hx=>hv x (da _ hx)) (by simp;omega);refine⟨z',?_⟩;show _=Out.nx [n,k,_,some (.ow (([]++zhb page page s r).map TdD)),z'];rw[<-ih];refine zay rfl ((zd1 (znm (zbz (zad (zbv rfl rfl) rfl zu9)))).trans ?_);exact(zc6 (ds:=[]) (d:=TdD (page,page,s)) rfl (zbv (ds:=[.int page,.int page,.bl s]) (zak rfl (zak rfl (zak (zad rfl rfl hv1) rfl))) rfl) (by simp)).trans rfl
theorem zk9{pg:List Int}(hpg:pg.length<=62)(p:D)(mks:List Mk)(hk:∀k∈mks,k.1<=k.2.1):zyk [.lst (pg.map D.int),.lst (mks.map (MkS p))]=some ((zwa (zf4 (zar pg mks))).map TdD):=by
 have hg:=zcr pg mks;have hl:=hg.len;obtain⟨z,h⟩:=ztf (m:=zar pg mks) (some (.sh (.lst (pg.map D.int)))) (some (.sh (.lst (mks.map (MkS p))))) (by omega);refine zry rfl (st (zaq (zam rfl rfl (zte (by omega) p mks hk))) (st rfl (st (zbc (ds:=(zf4 (zar pg mks)).map λx:Int×Bool=>D.int x.1) (zfq (d:=.lst ((zf4 (zar pg mks)).map λx:Int×Bool=>D.int x.1)) (zgo ?_) rfl) h) rfl)));show zfl [.dk (kz (zar pg mks)) (dz (zar pg mks))]=_;unfold zfl;dsimp only;rw[ztb,znt,zok];show (if ((zar pg mks).map Prod.fst).length<64 then some _ else none)=_;rw[ba (by rw[ia];omega)]
noncomputable def z6n:Rho->Out:=(zat (sIf (zc9 (tE (e2 gGt (zaa 5) (eC (.int 0)))) (bOr (tE (zal 6)) (tE (e2 gGe (zaa 5) (zaa 1))))) (zat (zbq 4 (e2 zbg (zaa 4) (eC (.int 1))))
  (zbq 5 (eC (.int 0)))) za2)
  (zat (zbq 5 (e2 zbg (zaa 5) (eC (.int 1))))
  (zda 3 (zal 4))))
noncomputable def pgF(most:Int):Int->Int->List Bool->List Int
 |_,_,[]=>[]
 |page,there,b::r=>if (decide (0<there) && (b || decide (most<=there)))=true then (page+1)::pgF most (page+1) (0+1) r else page::pgF most page (there+1) r
theorem zi7(most:Int):∀(r:List Bool) (page there:Int),(pgF most page there r).length=r.length
 |[],_,_=>rfl
 |b::r,page,there=>by
  unfold pgF;split
  ·rw[pb,pb,zi7 most r]
  ·rw[pb,pb,zi7 most r]
theorem zg5(a c:Option Sl)(most:Int):∀(r:List Bool) (acc:List Int) (page filled:Int) (z:Option Sl),acc.length+r.length<=1000->∃p f y:Option Sl,zea (gN 6) z6n (r.map D.bl) [a,some (.sh (.int most)),c,some (.ow (acc.map D.int)),some (.sh (.int page)),some (.sh (.int filled)),z]=.nx [a,some (.sh (.int most)),c,some (.ow ((acc++pgF most page filled r).map D.int)),p,f,y]
 |[],acc,page,filled,z,_=>⟨_,_,_,by rw[pgF,kc];rfl⟩
 |b::r,acc,page,filled,z,hl=>by
  rw[pb]at hl;have q:zc9 (tE (e2 gGt (zaa 5) (eC (.int 0)))) (bOr (tE (zal 6)) (tE (e2 gGe (zaa 5) (zaa 1)))) [a,some (.sh (.int most)),c,some (.ow (acc.map D.int)),some (.sh (.int page)),some (.sh (.int filled)),some (.sh (.bl b))]=some (decide (0<filled) && (b || decide (most<=filled))):=ziv (zbz (zad rfl rfl zu9)) λ_=>zyf (zbz rfl) λ_=>zbz (zad rfl rfl z9s)
  have hz:(acc.map D.int).length<=100000:=by rw[ia];omega
  cases e:(decide (0<filled) && (b || decide (most<=filled))) with
  |true =>
   rw[e]at q;obtain⟨p,f,y,ih⟩:=zg5 a c most r (acc++[page+1]) (page+1) (0+1) (some (.sh (.bl b))) (by rw[jc,pd];omega);refine⟨p,f,y,?_⟩;rw[pgF,ba e,zi,<-ih,ja];refine zay rfl (st ((zka q).trans (st (zaq (zad rfl rfl zed)) (zaq rfl))) (st (zaq (zad rfl rfl zed)) ((zc6 (ds:=acc.map D.int) (d:=.int (page+1)) rfl rfl hz).trans ?_)));rw[xb];rfl
  |false =>
   rw[e]at q;obtain⟨p,f,y,ih⟩:=zg5 a c most r (acc++[page]) page (filled+1) (some (.sh (.bl b))) (by rw[jc,pd];omega);refine⟨p,f,y,?_⟩;rw[pgF,oa (by rw[e];exact la),zi,<-ih,ja];refine zay rfl (st ((zd1 q).trans rfl) (st (zaq (zad rfl rfl zed)) ((zc6 (ds:=acc.map D.int) (d:=.int page) rfl rfl hz).trans ?_)));rw[xb];rfl
theorem zwc(bs:List Bool)(hl:bs.length<=1000)(most first:Int):zml [.lst (bs.map D.bl),.int most,.int first]=some (.lst ((pgF most first 0 bs).map D.int)):=by
 obtain⟨p,f,y,h2⟩:=zg5 (some (.sh (.lst (bs.map D.bl)))) (some (.sh (.int first))) most bs [] first 0 none (by rw[ud];omega)
 exact zby rfl (st rfl (st (zaq rfl) (st (zaq rfl) (st (zbc rfl h2) rfl))))
noncomputable def z6o:Rho->Out:=(zat (sIf (zc9 (tE (e2 zdm (zaa 3) (eN za0 aN))) (bOr (tE (zal 6)) (tE (e2 zcc (zaa 5) (zaa 1))))) (zat (zbq 4 (e2 zbg (zaa 4) (eC (.int 1))))
  (zbq 5 (eC (.int 0)))) za2)
  (zat (zda 3 (zal 4))
  (zbq 5 (e2 zbg (zaa 5) (eC (.int 1))))))
theorem zwd{l:List D}(h:dOk LV (.lst l)=true):zdm (.lst l) (.lst [])=some (.bl (decide (l≠[]))):=by
 have e:gEq (.lst l) (.lst [])=some (zb7 l []):=zr6 (by rw[h];rfl);rw[zrz e]
 cases l with
 |nil=>simp[zb7]
 |cons a r=>simp[zb7]
theorem z2b(l:List Int):dOk LV (.lst (l.map D.int))=true:=by
 rw[show LV=8+1 from rfl,dOk];exact jd.mpr λd hd=>by obtain⟨i,_,rfl⟩:=vb.mp hd;rfl
theorem zmp(a c:Option Sl)(most:Int):∀(r:List Bool) (acc:List Int) (page:Int) (t:Nat) (z:Option Sl),(acc=[]↔t=0)->((t:Nat):Int)<=most->1<=most->acc.length+r.length<=1000->∃p f y:Option Sl,zea (gN 6) z6o (r.map D.bl) [a,some (.sh (.int most)),c,some (.ow (acc.map D.int)),some (.sh (.int page)),some (.sh (.int (t:Nat))),z]=.nx [a,some (.sh (.int most)),c,some (.ow ((acc++pgF most page (t:Nat) r).map D.int)),p,f,y]
 |[],acc,page,t,z,_,_,_,_=>⟨_,_,_,by rw[pgF,kc];rfl⟩
 |b::r,acc,page,t,z,h0,ht,h1,hl=>by
  rw[pb]at hl
  have q:zc9 (tE (e2 zdm (zaa 3) (eN za0 aN))) (bOr (tE (zal 6)) (tE (e2 zcc (zaa 5) (zaa 1)))) [a,some (.sh (.int most)),c,some (.ow (acc.map D.int)),some (.sh (.int page)),some (.sh (.int (t:Nat))),some (.sh (.bl b))]=some (decide ((0:Int)<(t:Nat)) && (b || decide (most<=((t:Nat):Int)))):=by
   have e1:decide ((0:Int)<(t:Nat))=decide (acc.map D.int≠[]):=by
    refine decide_eq_decide.mpr ⟨λh z=>?_,λh=>?_⟩
    ·have:=h0.mp (fm.mp z);omega
    ·have:t≠0:=λz=>h (fm.mpr (h0.mpr z))
     omega
   have e2':decide (most<=((t:Nat):Int))=decide (((t:Nat):Int)=most):=decide_eq_decide.mpr ⟨λh=>by omega,λh=>by omega⟩;rw[e1,e2'];exact ziv (zbz (zad rfl rfl (zwd (z2b acc)))) λ_=>zyf (zbz rfl) λ_=>zbz (zad rfl rfl (zd2 zeu))
  have hz:(acc.map D.int).length<=100000:=by rw[ia];omega
  cases e:(decide ((0:Int)<(t:Nat)) && (b || decide (most<=((t:Nat):Int)))) with
  |true =>
   rw[e]at q;obtain⟨p,f,y,ih⟩:=zmp a c most r (acc++[page+1]) (page+1) 1 (some (.sh (.bl b))) (by simp) (by omega) h1 (by rw[jc,pd];omega);refine⟨p,f,y,?_⟩;rw[pgF,ba e,zi,show ((0:Int)+1)=((1:Nat):Int) from rfl,<-ih,ja];refine zay rfl (st ((zka q).trans (st (zaq (zad rfl rfl zed)) (zaq rfl))) (st (zc6 (ds:=acc.map D.int) (d:=.int (page+1)) rfl rfl hz) ((zaq (zad rfl rfl zed)).trans ?_)));rw[xb];rfl
  |false =>
   rw[e]at q
   have hlt:((t:Nat):Int)<most\/t=0:=by
    rcases Nat.eq_zero_or_pos t with z|z
    ·exact .inr z
    ·rw[ub (by omega),Bool.true_and,Bool.or_eq_false_iff]at e
     have:=of_decide_eq_false e.2
     exact .inl (by omega)
   obtain⟨p,f,y,ih⟩:=zmp a c most r (acc++[page]) page (t+1) (some (.sh (.bl b))) (by simp) (by omega) h1 (by rw[jc,pd];omega);refine⟨p,f,y,?_⟩;rw[pgF,oa (by rw[e];exact la),zi,show ((t:Nat):Int)+1=((t+1:Nat):Int) from rfl,<-ih,ja];refine zay rfl (st ((zd1 q).trans rfl) (st (zc6 (ds:=acc.map D.int) (d:=.int page) rfl rfl hz) ((zaq (zad rfl rfl zed)).trans ?_)));rw[xb];rfl
theorem ztg(bs:List Bool)(hl:bs.length<=1000){most:Int}(h1:1<=most)(first:Int):zyn [.lst (bs.map D.bl),.int most,.int first]=some (.lst ((pgF most first 0 bs).map D.int)):=by
 obtain⟨p,f,y,h2⟩:=zmp (some (.sh (.lst (bs.map D.bl)))) (some (.sh (.int first))) most bs [] first 0 none (by simp) (by omega) h1 (by rw[ud];omega)
 exact zby rfl (st rfl (st (zaq rfl) (st (zaq rfl) (st (zbc rfl h2) rfl))))
noncomputable abbrev Pth:=List (List Nat)
noncomputable abbrev M4:=Pth×Nat×Nat×Bool
noncomputable def mkE(x:M4):D:=MkD x.1 ((x.2.1:Nat):Int) ((x.2.2.1:Nat):Int) x.2.2.2
structure GdK(n:Nat)(x:M4):Prop where
 p:GdP x.1
 lo:x.2.1<=x.2.2.1
 hi:x.2.2.1<n
theorem z2c{x:M4}{n:Nat}(h:GdK n x):zkx [mkE x,.int (n:Nat)]=some (.bl true):=by
 refine zby rfl (zbu ?_);have h1:=h.lo;have h2:=h.hi;refine(zso (x:=.int 0) (y:=.int ((x.2.1:Nat):Int)) (z:=.int ((x.2.2.1:Nat):Int)) (w:=.int (n:Nat)) rfl (zad rfl rfl rfl) z46 (λ_=>zad rfl rfl rfl) (λ_=>z46) (λ_ _=>rfl) (λ_ _=>rfl)).trans ?_;rw[ub (show (0:Int)<=((x.2.1:Nat):Int) by omega),ub (show ((x.2.1:Nat):Int)<=((x.2.2.1:Nat):Int) by omega),ub (show ((x.2.2.1:Nat):Int)<((n:Nat):Int) by omega)];rfl
theorem z6p{np n:Nat}{f:Rho->Out}{ds:List D}{ρ:Rho}(hl:ds.length=np)(h:f (zec n ds)=.nx ρ):fnR np n f ds=some .non:=by unfold fnR;rw[ba hl,h]
theorem zth{os:List M4}{n:Nat}(h:∀x∈os,GdK n x):z11 [.lst (os.map mkE),.int (n:Nat)]=some .non:=by
 have loop:∀(r:List M4) (a z:Option Sl),(∀x∈r,GdK n x)->∃y,zea (gN 2) (sIf (zdq (tE (zap 2 zkx (aC (zal 2) (aC (zal 1) aN))))) yaa za2) (r.map mkE) [a,some (.sh (.int (n:Nat))),z]=.nx [a,some (.sh (.int (n:Nat))),y]:=by
  intro r
  induction r with
  |nil=>intro a z _;exact⟨z,rfl⟩
  |cons x r ih =>
   intro a z hg;obtain⟨y,e⟩:=ih a (some (.sh (mkE x))) λw hw=>hg w (da _ hw)
   refine⟨y,?_⟩;rw[ja,<-e];exact zay rfl ((zd1 (zcp (b:=true) (zbz (zam rfl rfl (z2c (hg x za)))))).trans rfl)
 obtain⟨y,e⟩:=loop os (some (.sh (.lst (os.map mkE)))) none h;exact z6p rfl (zbc rfl e)
theorem zti{x:M4}(h:GdP x.1):GdM (mkE x):=⟨_,_,_,_,h,rfl⟩
theorem zyy{α β:Type}{f:α->β}{ms:List α}:∀(l:List β),(∀d∈l,d∈ms.map f)->∃os:List α,l=os.map f/\∀x∈os,x∈ms
 |[],_=>⟨[],rfl,λx hx=>by cases hx⟩
 |d::r,h=>by
  obtain⟨x,h1,h2⟩:=vb.mp (h d za);obtain⟨os,h3,h4⟩:=zyy r λe he=>h e (da _ he)
  refine⟨x::os,by rw[ja,h2,<-h3],λy hy=>?_⟩;rcases yb.mp hy with rfl|hy
  ·exact h1
  ·exact h4 y hy
end K15
namespace K15
open PySem L2
noncomputable abbrev pD(p:Pth):D:=.tup (p.map D.str)
noncomputable def pK(p:Pth):List Key:=p.map λl=>Sum.inr (S l)
theorem zus{i j:List Nat}(h:S i=S j):i=j:=zsy (show D.str i=D.str j by unfold D.str;rw[h])
theorem zom:∀{p q:Pth},pK p=pK q->p=q
 |[],[],_=>rfl
 |a::p,b::q,h=>by
  have h:(Sum.inr (S a):Key)::pK p=Sum.inr (S b)::pK q:=h;obtain⟨h1,h2⟩:=wl h;rw[zus (Sum.inr.inj h1),zom h2]
 |[],_::_,h=>by cases h
 |_::_,[],h=>by cases h
theorem zon:∀p:Pth,zgi (p.map D.str)=some (pK p)
 |[]=>rfl
 |a::p=>by
  rw[ja,zgi,zon p];rfl
theorem zla(p:Pth):zfh (pD p)=some (pK p):=zon p
theorem zyz{p q:Pth}(h:pD p=pD q):p=q:=by
 have h1:=zla p;rw[h,zla]at h1;exact zom (vc h1.symm)
theorem z6q(p:Pth):ktD (pK p)=pD p:=by
 unfold ktD pK;rw[zd];rfl
theorem zi8{β γ:Type}(enc:β->γ)(p:Pth):∀m:List (Pth×β),zbx (m.map λe=>(pK e.1,enc e.2)) (pK p)=(zbx m p).map enc
 |[]=>rfl
 |a::m=>by
  rw[ja,za5,za5,zi8 enc p m];by_cases e:a.1=p
  ·rw[ba e,ba (by rw[e])];rfl
  ·rw[oa e,oa (λz=>e (zom z))]
theorem ztj{β:Type}(enc:β->D):∀m:List (Pth×β),(m.map λe=>pK e.1).zip (m.map λe=>enc e.2)=m.map λe=>(pK e.1,enc e.2)
 |[]=>rfl
 |a::m=>by rw[ja,ja,vh,ztj enc m,ja]
theorem z6r{β:Type}(enc:β->D)(m:List (Pth×β))(p:Pth):zeh (.dt (m.map λe=>pK e.1) (m.map λe=>enc e.2)) (pD p)=some ((zbx m p).map enc):=by
 unfold zeh;show (zfh (pD p)).map _=_;rw[zla,ae,ztj,zi8]
theorem ndl{α:Type}:∀{l m:List α},l.Nodup->(∀d∈l,d∈m)->l.length<=m.length
 |[],m,_,_=>vd _
 |x::r,m,h,hs=>by
  have h':=cg.mp h;obtain⟨m1,m2,e⟩:=List.append_of_mem (hs x za)
  have:=ndl (m:=m1++m2) h'.2 λd hd=>by
   have h1:=hs d (da _ hd);rw[e]at h1;have hne:d≠x:=λz=>h'.1 (by rw[<-z];exact hd)
   simp only[ac,yb]at h1 ⊢;rcases h1 with h1|h1|h1
   ·exact .inl h1
   ·exact absurd h1 hne
   ·exact .inr h1
  rw[e];simp at this ⊢;omega
noncomputable def zfe(ms:List M4):List Pth:=ms.flatMap λx=>(List.range x.1.length).map λk=>x.1.take (k+1)
theorem zlb{ms:List M4}{x:M4}(hx:x∈ms){k:Nat}(h1:1<=k)(h2:k<=x.1.length):x.1.take k∈zfe ms :=
 mo.mpr ⟨x,hx,vb.mpr ⟨k - 1,df.mpr (by omega),by rw[show k - 1+1=k by omega]⟩⟩
theorem zwe{ms:List M4}(h:∀x∈ms,GdP x.1){p:Pth}(hp:p∈zfe ms):GdP p:=by
 obtain⟨x,hx,h2⟩:=mo.mp hp;obtain⟨k,hk,rfl⟩:=vb.mp h2;have g:=h x hx;have hk:=df.mp hk
 have:=g.len
 exact⟨λy hy=>g.g y (vj hy),by rw[ph];omega,by rw[ph];omega⟩
theorem zc7:∀{ms:List M4},(∀x∈ms,GdP x.1)->(zfe ms).length<=6 * ms.length
 |[],_=>vd _
 |x::ms,h=>by
  have ih:=zc7 (ms:=ms) λy hy=>h y (da _ hy)
  have:=(h x za).len
  unfold zfe at ih ⊢;rw[List.flatMap_cons,jc,ia,ym,pb];omega
noncomputable def gE(e:Pth×List M4):List Key×List D:=(pK e.1,e.2.map mkE)
noncomputable def sd(m:List (Pth×List M4))(p:Pth):List (Pth×List M4):=if (zbx m p).isSome=true then m else m++[(p,[])]
theorem z6s(m:List (Pth×List M4))(p:Pth):zpv (m.map gE) (pK p)=(sd m p).map gE:=by
 unfold zpv sd
 have:zbx (m.map gE) (pK p)=(zbx m p).map (List.map mkE):=zi8 (List.map mkE) p m
 rw[this,ki];split
 ·rfl
 ·rw[xb];rfl
theorem zoo{β:Type}{m:List (Pth×β)}{p:Pth}:(zbx m p).isSome=true↔p∈m.map Prod.fst:=by
 constructor
 ·intro h
  refine vm λz=>?_
  rw[zk6 z]at h;cases h
 ·intro h
  obtain⟨v,e⟩:=zez h;rw[e];rfl
noncomputable def ap(p:Pth)(x:M4):List (Pth×List M4)->List (Pth×List M4)
 |[]=>[]
 |e::r=>if e.1=p then (e.1,e.2++[x])::r else e::ap p x r
theorem z6t(p:Pth)(x:M4):∀m:List (Pth×List M4),ziu (pK p) (mkE x) (m.map gE)=(ap p x m).map gE
 |[]=>rfl
 |e::r=>by
  rw[ja,ziu,ap];by_cases h:e.1=p
  ·rw[ba h,ba (show (gE e).1=pK p by rw[<-h];rfl),ja]
   refine zc (·::_) ?_;show (pK e.1,e.2.map mkE++[mkE x])=(pK e.1,(e.2++[x]).map mkE);rw[xb];rfl
  ·rw[oa h,oa (show ¬(gE e).1=pK p from λz=>h (zom z)),ja,z6t p x r]
theorem ztk(p:Pth)(x:M4):∀m:List (Pth×List M4),(ap p x m).map Prod.fst=m.map Prod.fst
 |[]=>rfl
 |e::r=>by
  rw[ap];split
  ·rfl
  ·rw[ja,ja,ztk p x r]
theorem zy0{p:Pth}{x:M4}{e:Pth×List M4}:∀{m:List (Pth×List M4)},e∈ap p x m->e∈m\/∃f∈m,f.1=p/\e=(f.1,f.2++[x])
 |[],h=>by cases h
 |f::r,h=>by
  rw[ap]at h
  split at h
  ·rename_i hf
   rcases yb.mp h with rfl|h
   ·exact .inr ⟨f,za,hf,rfl⟩
   ·exact .inl (da _ h)
  ·rcases yb.mp h with rfl|h
   ·exact .inl za
   ·rcases zy0 h with h|⟨g,h1,h2⟩
    ·exact .inl (da _ h)
    ·exact .inr ⟨g,da _ h1,h2⟩
theorem zlc{gt:D->Rho->Option Rho}{f:GG}{d:D}{r:List D}{ρ ρ1:Rho}{gd:GD}{z:Rho×GD}(h1:gt d ρ=some ρ1)(h2:f ρ1 gd=some z):zsv gt f (d::r) ρ gd=zsv gt f r z.1 z.2:=by
 rw[zsv,h1,ib,h2,ib]
theorem z6u{fk:Rho->Option D}{ρ:Rho}{m:List (Pth×List M4)}{p:Pth}(h:fk ρ=some (pD p))(hl:m.length<100000):gSd fk ρ (m.map gE)=some (ρ,(sd m p).map gE):=by
 unfold gSd;rw[h,ib,zla,ib,ba (by rw[ia];exact hl),z6s]
theorem z6v{fk fv:Rho->Option D}{ρ:Rho}{m:List (Pth×List M4)}{p:Pth}{x:M4}(h:fk ρ=some (pD p))(hv:fv ρ=some (mkE x))(hl:m.length<100000)(hn:∀e∈m,e.2.length<100000):gSa fk fv ρ (m.map gE)=some (ρ,(ap p x (sd m p)).map gE):=by
 unfold gSa
 have hc:(m.map gE).length<100000/\((m.map gE).all λx=>decide (x.2.length<100000))=true:=by
  refine⟨by rw[ia];exact hl,jd.mpr λy hy=>?_⟩;obtain⟨e,he,rfl⟩:=vb.mp hy;refine ub ?_;show (e.2.map mkE).length<_;rw[ia];exact hn e he
 rw[h,ib,zla,ib,hv,ib,ba hc,z7s,z6s,z6t]
noncomputable abbrev slP:Rho->Option D:=eSl (zaa 3) oN (oS (zaa 4))
noncomputable def ztl:GG:=(zpl (z7t 3 (e2 gIx (zaa 2) (eC (.int 0))))
  (zpl (zyc (iR zpt (aC (eC (.int 1)) (aC (eN zd8 (aC (zaa 3) aN)) aN))) (gN 4) (gSd (eSl (zaa 3) oN (oS (zaa 4)))))
  (gSa (zaa 3) (zal 2))))
noncomputable def dtD(m:List (Pth×List M4)):D:=.dt (m.map λe=>pK e.1) (m.map λe=>.lst (e.2.map mkE))
theorem ztm{p:Pth}{x:M4}{e:Pth×List M4}:∀{m:List (Pth×List M4)},(m.map Prod.fst).Nodup->e∈ap p x m->(e∈m/\e.1≠p)\/∃f∈m,f.1=p/\e=(f.1,f.2++[x])
 |[],_,h=>by cases h
 |f::r,hn,h=>by
  rw[ja,cg]at hn;rw[ap]at h
  split at h
  ·rename_i hf
   rcases yb.mp h with rfl|h
   ·exact .inr ⟨f,za,hf,rfl⟩
   ·exact .inl ⟨da _ h,λz=>hn.1 (by rw[hf,<-z];exact vb.mpr ⟨e,h,rfl⟩)⟩
  ·rename_i hf
   rcases yb.mp h with rfl|h
   ·exact .inl ⟨za,hf⟩
   ·rcases ztm hn.2 h with h|⟨g,h1,h2⟩
    ·exact .inl ⟨da _ h.1,h.2⟩
    ·exact .inr ⟨g,da _ h1,h2⟩
noncomputable def ofP(p:Pth)(L:List M4):List M4:=L.filter λx=>decide (x.1=p)
structure MX(ms L:List M4)(m:List (Pth×List M4)):Prop where
 nd:(m.map Prod.fst).Nodup
 sub:∀e∈m,e.1∈zfe ms
 ex:∀e∈m,e.2=ofP e.1 L
 al:∀x∈L,∀k,1<=k->k<=x.1.length->x.1.take k∈m.map Prod.fst
theorem MX.len{ms L:List M4}{m:List (Pth×List M4)}(h:MX ms L m)(hg:∀x∈ms,GdP x.1):m.length<=6 * ms.length:=by
 have:=ndl h.nd (m:=zfe ms) λp hp=>by
  obtain⟨e,he,rfl⟩:=vb.mp hp;exact h.sub e he
 rw[ia]at this;exact ie this (zc7 hg)
theorem MX.sd{ms L:List M4}{m:List (Pth×List M4)}(h:MX ms L m)(hL:∀x∈L,GdP x.1){p:Pth}(hp:p∈zfe ms):MX ms L (K15.sd m p)/\(∀q,q∈m.map Prod.fst\/q=p->q∈(K15.sd m p).map Prod.fst):=by
 unfold K15.sd;split
 ·rename_i hs
  exact⟨h,λq hq=>hq.elim id λz=>by rw[z];exact zoo.mp hs⟩
 ·rename_i hs
  have hn:p ∉ m.map Prod.fst:=λz=>hs (zoo.mpr z)
  refine⟨⟨?_,λe he=>?_,λe he=>?_,λx hx k h1 h2=>?_⟩,λq hq=>?_⟩
  ·rw[xb]
   exact List.nodup_append.mpr ⟨h.nd,by simp,λ a ha b hb z=>hn (by
    have:b=p:=by simpa using hb
    rw[<-this,<-z];exact ha)⟩
  ·rcases ac.mp he with he|he
   ·exact h.sub e he
   ·rw[zb.mp he];exact hp
  ·rcases ac.mp he with he|he
   ·exact h.ex e he
   ·rw[zb.mp he]
    symm
    refine List.filter_eq_nil_iff.mpr λx hx z=>?_
    have z:x.1=p:=lc z
    have:=h.al x hx x.1.length (hL x hx).pos (wa _)
    rw[ml,z]at this;exact hn this
  ·rw[xb];exact tf _ (h.al x hx k h1 h2)
  ·rw[xb]
   rcases hq with hq|rfl
   ·exact tf _ hq
   ·exact uc _ (by simp)
theorem MX.ap{ms L:List M4}{m:List (Pth×List M4)}(h:MX ms L m){x:M4}(hx:∀k,1<=k->k<=x.1.length->x.1.take k∈m.map Prod.fst):MX ms (L++[x]) (K15.ap x.1 x m) where
 nd:=by rw[ztk];exact h.nd
 sub:=λe he=>by
  rcases zy0 he with he|⟨f,h1,_,rfl⟩
  ·exact h.sub e he
  ·exact h.sub f h1
 ex:=λe he=>by
  unfold ofP;rw[List.filter_append];rcases ztm h.nd he with⟨he,hne⟩|⟨f,h1,h2,rfl⟩
  ·rw[ln (by rw[ak];exact λz=>hne z.symm),List.filter_nil,kc]
   exact h.ex e he
  ·rw[kn (by rw[ak];exact h2.symm),List.filter_nil]
   show f.2++[x]=_;rw[h.ex f h1];rfl
 al:=λy hy k h1 h2=>by
  rw[ztk];rcases ac.mp hy with hy|hy
  ·exact h.al y hy k h1 h2
  ·rw[zb.mp hy]at h2 ⊢;exact hx k h1 h2
theorem ztn{ms L:List M4}(hg:∀x∈ms,GdP x.1)(hL:∀x∈L,x∈ms)(hm:ms.length<=60){x:M4}(hx:x∈ms)(a b:Option Sl):∀(n k:Nat) (m:List (Pth×List M4)) (z:Option Sl),1<=k->k+n<=x.1.length->MX ms L m->(∀j,1<=j->j<k->x.1.take j∈m.map Prod.fst) →
  ∃m' y,zsv (gN 4) (gSd slP) (zif ((k:Nat):Int) n) [a,none,b,some (.sh (pD x.1)),z] (m.map gE)=some ([a,none,b,some (.sh (pD x.1)),y],m'.map gE)/\MX ms L m'/\(∀j,1<=j->j<k+n->x.1.take j∈m'.map Prod.fst)
 |0,k,m,z,_,_,h,hp=>⟨m,z,rfl,h,hp⟩
 |n+1,k,m,z,h1,h2,h,hp=>by
  obtain⟨h3,h3'⟩:=h.sd (λy hy=>hg y (hL y hy)) (zlb hx h1 (by omega))
  obtain ⟨m',y,e,h4,h5⟩:=ztn hg hL hm hx a b n (k+1) (sd m (x.1.take k)) (some (.sh (.int (k:Nat)))) (by omega) (by omega) h3 (λ j j1 j2=>h3' _ (by
   by_cases z:j=k
   ·exact .inr (by rw[z])
   ·exact .inl (hp j j1 (by omega))))
  refine⟨m',y,?_,h4,λj j1 j2=>h5 j j1 (by omega)⟩;rw[zd5,<-e]
  have hs:slP [a,none,b,some (.sh (pD x.1)),some (.sh (.int (k:Nat)))]=some (pD (x.1.take k)):=by
   show some (D.tup (zht (x.1.map D.str) none (some ((k:Nat):Int))))=_;rw[zr3,<-sq]
  have:=h.len hg
  exact zlc rfl (z6u hs (by omega))
theorem z2d(p:Pth)(L:List M4):(ofP p L).length<=L.length:=il ..
theorem zto{ms:List M4}(hg:∀x∈ms,GdP x.1)(hm:ms.length<=60)(a:Option Sl):∀(os L:List M4) (m:List (Pth×List M4)) (z2 z3 z4:Option Sl),(∀x∈os,x∈ms)->(∀x∈L,x∈ms)->L.length+os.length<=1000->MX ms L m →
  ∃m' ρ',zsv (gN 2) ztl (os.map mkE) [a,none,z2,z3,z4] (m.map gE)=some (ρ',m'.map gE)/\MX ms (L++os) m'
 |[],L,m,z2,z3,z4,_,_,_,h=>⟨m,_,rfl,by rw[kc];exact h⟩
 |x::os,L,m,z2,z3,z4,hs,hL,hN,h=>by
  rw[pb]at hN;have hx:=hs x za;have gx:=hg x hx;have gl:=gx.len;have gp:=gx.pos;obtain⟨m1,y,e1,h1,q1⟩:=ztn hg hL hm hx a (some (.sh (mkE x))) (x.1.length - 1) 1 m z4 (wa _) (by omega) h (λj j1 j2=>by omega)
  have hp:x.1∈zfe ms:=by
   have:=zlb hx gp (wa _)
   rwa [ml]at this
  obtain⟨h2,hin⟩:=h1.sd (λy hy=>hg y (hL y hy)) hp
  have h3:=h2.ap (x:=x) λ k k1 k2=>hin _ (by
   by_cases z:k=x.1.length
   ·exact .inr (by rw[z,ml])
   ·exact .inl (q1 k k1 (by omega)))
  obtain ⟨m',ρ',e,h4⟩:=zto hg hm a os (L++[x]) (ap x.1 x (sd m1 x.1)) (some (.sh (mkE x))) (some (.sh (pD x.1))) y (λ y hy=>hs y (List.mem_cons_of_mem _ hy)) (λ y hy=>by
   rcases ac.mp hy with hy|hy
   ·exact hL y hy
   ·rw[zb.mp hy];exact hx) (by rw[jc,pd];omega) h3
  refine⟨m',ρ',?_,by rw[zi];exact h4⟩;rw[ja,<-e];refine zlc (ρ1:=[a,none,some (.sh (mkE x)),z3,z4]) (z:=([a,none,some (.sh (mkE x)),some (.sh (pD x.1)),y],(ap x.1 x (sd m1 x.1)).map gE)) rfl ?_;have l1:z7t 3 (e2 gIx (zaa 2) (eC (.int 0))) [a,none,some (.sh (mkE x)),z3,z4] (m.map gE)=some ([a,none,some (.sh (mkE x)),some (.sh (pD x.1)),z4],m.map gE):=rfl
  have r2:iR zpt (aC (eC (.int 1)) (aC (eN zd8 (aC (zaa 3) aN)) aN)) [a,none,some (.sh (mkE x)),some (.sh (pD x.1)),z4]=some (zif ((1:Nat):Int) (x.1.length - 1)):=by
   refine zpc (ds:=[.int 1,.int ((x.1.length:Nat):Int)]) (zak rfl (zak (zbv rfl ?_) rfl)) ?_
   ·show some (D.int (((x.1.map D.str).length:Nat):Int))=_
    rw[ia]
   ·refine(zl3 (by decide) (by decide) (by omega) (by omega)).trans ?_
    rw[show (((x.1.length:Nat):Int) - 1).toNat=x.1.length - 1 by omega];rfl
  have l2:zyc (iR zpt (aC (eC (.int 1)) (aC (eN zd8 (aC (zaa 3) aN)) aN))) (gN 4) (gSd (eSl (zaa 3) oN (oS (zaa 4)))) [a,none,some (.sh (mkE x)),some (.sh (pD x.1)),z4] (m.map gE)=some ([a,none,some (.sh (mkE x)),some (.sh (pD x.1)),y],m1.map gE):=by
   unfold zyc;rw[r2,ib];exact e1
  have l3:gSa (zaa 3) (zal 2) [a,none,some (.sh (mkE x)),some (.sh (pD x.1)),y] (m1.map gE)=some ([a,none,some (.sh (mkE x)),some (.sh (pD x.1)),y],(ap x.1 x (sd m1 x.1)).map gE):=by
   have:=h1.len hg
   exact z6v rfl rfl (by omega) λe he=>by
    have h8:=z2d e.1 L;rw[h1.ex e he];omega
  show ztl _ _=_;unfold ztl zpl;rw[l1,ib];dsimp only;rw[l2,ib];exact l3
theorem zwf{ms os:List M4}(hg:∀x∈ms,GdP x.1)(hm:ms.length<=60)(hs:∀x∈os,x∈ms)(hl:os.length<=60):∃m,z10 [.lst (os.map mkE)]=some (dtD m)/\MX ms os m:=by
 obtain⟨m,ρ',e,h⟩:=zto hg hm (some (.sh (.lst (os.map mkE)))) os [] [] none none none hs (λx hx=>nomatch hx) (by rw[ud];omega) ⟨rg,(λe he=>nomatch he),(λe he=>nomatch he),(λe he=>nomatch he)⟩;rw[ue]at h;refine⟨m,zby rfl ?_,h⟩;show z52 1 (zyc (iE (zal 0)) (gN 2) ztl) [some (.sh (.lst (os.map mkE))),none,none,none,none]=_;unfold z52;have e':zyc (iE (zal 0)) (gN 2) ztl [some (.sh (.lst (os.map mkE))),none,none,none,none] []=some (ρ',m.map gE):=e;simp only[rc,qc];refine(ba rfl).trans ?_;rw[e'];dsimp only;rw[zd,zd];rfl
theorem yal{p:Pth}(h:GdP p):zg2 [pD p]=some (.lst (p.map rkD)):=zs5 p h.asc (ie h.len (by decide))
theorem z6w{p:Pth}(h:GdP p):zub [pD p]=some (.lst (p.map rkD)):=zv4 p h.asc (ie h.len (by decide))
theorem yam{F:List D->Option D}(hF:∀p,GdP p->F [pD p]=some (.lst (p.map rkD))){ks:List Pth}(hg:∀p∈ks,GdP p)(nd:ks.Nodup)(sm:ks.length<128):KOk F (ks.map pD):=by
 have ga:∀d∈ks.map pD,∃p,GdP p/\d=pD p/\rk F d=.lst (p.map rkD):=λd hd=>by
  obtain⟨p,hp,rfl⟩:=vb.mp hd;exact⟨p,hg p hp,rfl,zfc (hF p (hg p hp))⟩
 refine⟨λd hd=>?_,.inl λd hd=>?_,λd hd e he=>?_,⟨λa ha b hb c hc h1 h2=>?_,λa ha b hb=>?_,λa ha b hb h=>?_⟩,?_,by rw[ia];exact⟨.inl sm,by omega⟩⟩
 ·obtain⟨p,g,rfl,_⟩:=ga d hd
  exact⟨_,hF p g,z16 p⟩
 ·obtain⟨p,g,rfl,e⟩:=ga d hd
  rw[e];rfl
 ·obtain⟨p,g,rfl,e1⟩:=ga d hd
  obtain⟨q,g2,rfl,e2⟩:=ga e he;rw[e1,e2];exact zh0.ok _ _ (crk p) (crk q)
 ·obtain⟨p,g,rfl,e1⟩:=ga a ha
  obtain⟨q,g2,rfl,e2⟩:=ga b hb;obtain⟨r,g3,rfl,e3⟩:=ga c hc;unfold ltK at h1 h2 ⊢;rw[e1,e2]at h1;rw[e2,e3]at h2;rw[e1,e3];exact zh0.tr _ _ _ (crk p) (crk q) (crk r) h1 h2
 ·obtain⟨p,g,rfl,e1⟩:=ga a ha
  obtain⟨q,g2,rfl,e2⟩:=ga b hb;unfold ltK;rw[e1,e2];rcases zh0.tot _ _ (crk p) (crk q) with z|z
  ·exact .inl (by rw[zs6 g g2 (D.lst.inj z)])
  ·exact .inr z
 ·obtain⟨p,g,rfl,e1⟩:=ga a ha
  obtain⟨q,g2,rfl,e2⟩:=ga b hb;unfold ltK at h ⊢;rw[e1,e2]at h;rw[e1,e2];exact zh0.as _ _ (crk p) (crk q) h
 ·exact List.pairwise_map.mpr (List.Pairwise.imp (λ{a b} h e=>h (zyz e)) nd)
theorem z2e{α β:Type}{f:α->β}{l m:List β}(h:l.Perm m):∀{ks:List α},m=ks.map f->∃ks':List α,l=ks'.map f/\ks'.Perm ks:=by
 induction h with
 |nil =>
  intro ks e
  cases ks with
  |nil=>exact⟨[],rfl,.refl _⟩
  |cons a r=>cases e
 |cons x _ ih =>
  intro ks e
  cases ks with
  |nil=>cases e
  |cons a r =>
   obtain⟨e1,e2⟩:=wl e;obtain⟨r',h1,h2⟩:=ih e2;exact⟨a::r',by rw[ja,e1,h1],h2.cons a⟩
 |swap x y l =>
  intro ks e
  match ks,e with
  |[],e=>cases e
  |[a],e=>cases e
  |a::b::r,e =>
   obtain⟨e1,e2⟩:=wl e;obtain⟨e2,e3⟩:=wl e2;exact⟨b::a::r,by rw[ja,ja,e1,e2,e3],kq a b r⟩
 |trans _ _ ih1 ih2 =>
  intro ks e;obtain⟨k2,h1,h2⟩:=ih2 e;obtain⟨k1,h3,h4⟩:=ih1 h1;exact⟨k1,h3,h4.trans h2⟩
noncomputable def ltP(a b:Pth):Bool:=dlt (.lst (a.map rkD)) (.lst (b.map rkD))
structure Srt(ms:List M4)(ks:List Pth):Prop where
 nd:ks.Nodup
 mem:∀p,p∈ks↔p∈zfe ms
 up:ks.Pairwise λa b=>ltP a b=true
theorem Srt.one{ms:List M4}{ks ls:List Pth}(h:Srt ms ks)(g:Srt ms ls):ks=ls :=
 ((List.perm_ext_iff_of_nodup h.nd g.nd).mpr λ p=>(h.mem p).trans (g.mem p).symm).eq_of_pairwise (λ a b _ _ e1 e2=>by
  have:=zh0.as _ _ (crk a) (crk b) e1
  rw[show dlt (.lst (b.map rkD)) (.lst (a.map rkD))=true from e2]at this
  cases this) h.up g.up
theorem zy1{F:List D->Option D}(hF:∀p,GdP p->F [pD p]=some (.lst (p.map rkD))){ms:List M4}{ks:List Pth}(hg:∀x∈ms,GdP x.1)(nd:ks.Nodup)(mem:∀p,p∈ks↔p∈zfe ms)(sm:ms.length<=21):∃ks':List Pth,zft F (ks.map pD)=some (ks'.map pD)/\Srt ms ks':=by
 obtain⟨ks',h1,h2⟩:=z2e (zc5 (ltK F) (ks.map pD)) rfl;have gk:∀p∈ks,GdP p:=λp hp=>zwe hg ((mem p).mp hp)
 have hl:ks.length<128:=by
  have h3:=ndl nd λp hp=>(mem p).mp hp
  have h4:=zc7 hg;omega
 have ko:=yam hF gk nd hl;refine⟨ks',?_,⟨h2.nodup_iff.mpr nd,λp=>(h2.mem_iff).trans (mem p),?_⟩⟩
 ·unfold zft
  rw[ba ko,h1]
 ·have up:=zmd ko.lt (λy hy=>hy) ko.nd
  rw[h1]at up;refine List.Pairwise.imp_of_mem (λ{a b} ha hb h=>?_) (List.pairwise_map.mp up);unfold ltK at h
  rwa [zfc (hF a (gk a (h2.mem_iff.mp ha))),zfc (hF b (gk b (h2.mem_iff.mp hb)))]at h
theorem ztp{β:Type}{p:Pth}{v:β}:∀{m:List (Pth×β)},zbx m p=some v->(p,v)∈m
 |[],h=>by cases h
 |a::m,h=>by
  rw[za5]at h
  split at h
  ·rename_i e
   cases h;rw[<-e];exact za
  ·exact da _ (ztp h)
theorem zop{most:Bool}(k:Int):∀(ps:List Int) (m:List (Int×Bool)),zbx (ps.foldl (stp most) m) k=if k∈ps then some (most || (zbx m k).getD false) else zbx m k
 |[],m=>by rw[oa (λz=>nomatch z)];rfl
 |x::r,m=>by
  rw[uf,zop k r];unfold stp;rw[zv6];by_cases h:k=x
  ·subst h
   rw[ba rfl,ba za];split
   ·cases most <;> rfl
   ·rfl
  ·rw[oa h]
   by_cases h2:k∈r
   ·rw[ba h2,ba (da _ h2)]
   ·rw[oa h2,oa (λz=>(yb.mp z).elim h h2)]
theorem zff(pg:List Int)(k:Int):∀(mks:List Mk) (m:List (Int×Bool)),(zbx (mks.foldl (λm k=>(zk8 pg k).foldl (stp k.2.2) m) m) k).isSome=((zbx m k).isSome || mks.any λx=>decide (k∈zk8 pg x))/\(zbx (mks.foldl (λm k=>(zk8 pg k).foldl (stp k.2.2) m) m) k).getD false=((zbx m k).getD false || mks.any λx=>decide (k∈zk8 pg x) && x.2.2)
 |[],m=>by simp
 |x::r,m=>by
  obtain⟨h1,h2⟩:=zff pg k r ((zk8 pg x).foldl (stp x.2.2) m);rw[uf,h1,h2,zop,bg,bg];by_cases h:k∈zk8 pg x
  ·rw[ba h,ub h]
   refine⟨by simp,?_⟩;rw[se,Bool.true_and,Bool.or_comm x.2.2,Bool.or_assoc]
  ·rw[oa h,md h];simp
theorem zmq{pg:List Int}{ls ms:List Mk}(h:∀x,x∈ls↔x∈ms):zf4 (zar pg ls)=zf4 (zar pg ms):=by
 have any_eq:∀f:Mk->Bool,ls.any f=ms.any f:=λf=>by
  rw[fj,oo,oo];exact⟨λ⟨x,a,b⟩=>⟨x,(h x).mp a,b⟩,λ⟨x,a,b⟩=>⟨x,(h x).mpr a,b⟩⟩
 have hv:∀k,(zbx (zar pg ls) k).isSome=(zbx (zar pg ms) k).isSome/\(zbx (zar pg ls) k).getD false=(zbx (zar pg ms) k).getD false:=λk=>by
  have a:=zff pg k ls [];have b:=zff pg k ms [];exact⟨a.1.trans (by rw[any_eq];exact b.1.symm),a.2.trans (by rw[any_eq];exact b.2.symm)⟩
 have hk:∀k,k∈(zar pg ls).map Prod.fst↔k∈(zar pg ms).map Prod.fst:=λk=>by
  have key:∀(m:List (Int×Bool)),(zbx m k).isSome=true↔k∈m.map Prod.fst:=λm=>by
   constructor
   ·intro h
    refine vm λz=>?_
    rw[zk6 z]at h;cases h
   ·intro h
    obtain⟨v,e⟩:=zez h;rw[e];rfl
  rw[<-key,<-key,(hv k).1]
 unfold zf4
 have e:zr9 ((zar pg ls).map Prod.fst)=zr9 ((zar pg ms).map Prod.fst):=by
  refine zsb ?_ (zin _) (zin _);refine((zcq _).trans ?_).trans (zcq _).symm;exact(qm (zcr pg ls).nd (zcr pg ms).nd).mpr hk
 rw[e];exact xf λk _=>by rw[(hv k).2]
noncomputable def zpy(pg:List Int)(ms:List M4)(p:Pth):List Td:=zwa (zf4 (zar pg ((ofP p ms).map (·.2))))
theorem zwg{pg:List Int}{ls ms:List M4}(h:∀x,x∈ls↔x∈ms)(p:Pth):zpy pg ls p=zpy pg ms p:=by
 unfold zpy;rw[zmq λx=>?_];unfold ofP;simp only[vb,ai];exact⟨λ⟨y,⟨a,b⟩,c⟩=>⟨y,⟨(h y).mp a,b⟩,c⟩,λ⟨y,⟨a,b⟩,c⟩=>⟨y,⟨(h y).mpr a,b⟩,c⟩⟩
theorem z6x(p:Pth)(L:List M4):((ofP p L).map (·.2)).map (MkS (pD p))=(ofP p L).map mkE:=by
 rw[zd];refine xf λx hx=>?_
 have:x.1=p:=lc (ai.mp hx).2
 show MkS (pD p) x.2=mkE x;unfold MkS mkE MkD;rw[this]
noncomputable def enD(e:Pth×List Td):D:=.tup [pD e.1,.lst (e.2.map TdD)]
theorem ztq{fe:Rho->Option D}{ρ:Rho}{d:D}(h:fe ρ=some d):zc2 fe ρ=.nx ρ:=by unfold zc2;rw[h]
noncomputable def enF(pg:List Int)(ms:List M4)(ks:List Pth):List (Pth×List Td):=ks.map λp=>(p,zpy pg ms p)
theorem z2f{x y:M4}(h:mkE x=mkE y):x=y:=by
 obtain⟨p,f,l,m⟩:=x;obtain⟨p',f',l',m'⟩:=y;have z:=D.tup.inj (show D.tup [pD p,.int (f:Nat),.int (l:Nat),.bl m]=D.tup [pD p',.int (f':Nat),.int (l':Nat),.bl m'] from h);simp only[zj,D.sc.injEq,V.int.injEq,V.bl.injEq,and_true]at z;obtain⟨z1,z2,z3,z4⟩:=z;rw[zyz z1,Int.ofNat.inj z2,Int.ofNat.inj z3,z4]
theorem z2g{ms:List M4}(h:∀x∈ms,GdP x.1)(hl:ms.length<=60):∃os:List M4,zkz [.lst [.lst (ms.map mkE)]]=some (os.map mkE)/\(∀x,x∈os↔x∈ms)/\os.length<=ms.length:=by
 have hf:[ms.map mkE].flatten=ms.map mkE:=by rw[oj,List.flatten_nil,kc]
 have hg:∀d∈[ms.map mkE].flatten,GdM d:=λd hd=>by
  rw[hf]at hd;obtain⟨x,hx,rfl⟩:=vb.mp hd;exact zti (h x hx)
 have hd:(dd [ms.map mkE].flatten).length<=ms.length:=by
  have:=zk4 (z6h [ms.map mkE].flatten) λd hd=>zs7.mp hd
  rw[hf,ia]at this;rw[hf];exact this
 have e:=zs9 (hs:=[ms.map mkE]) hg (by rw[hf,ia];omega) (by omega);have hp:=zc5 (ltK zpn) (dd [ms.map mkE].flatten);have mem:∀d,d∈zpu (ltK zpn) (dd [ms.map mkE].flatten)↔d∈ms.map mkE:=λd=>by rw[hp.mem_iff,zs7,hf]
 obtain⟨os,h1,h2⟩:=zyy (f:=mkE) (ms:=ms) (zpu (ltK zpn) (dd [ms.map mkE].flatten)) λd hd=>(mem d).mp hd
 refine⟨os,by rw[<-h1];exact e,λx=>⟨h2 x,λhx=>?_⟩,?_⟩
 ·have:=(mem (mkE x)).mpr (vb.mpr ⟨x,hx,rfl⟩)
  rw[h1]at this;obtain⟨y,hy,e⟩:=vb.mp this;rw[<-z2f e];exact hy
 ·have:=zc List.length h1
  rw[hp.length_eq,ia]at this;omega
theorem zld{ms ns:List M4}(bs:List Bool)(hb:bs.length<=62)(hmn:∀x,x∈ns↔x∈ms)(hg:∀x∈ms,GdK bs.length x)(hn:ns.length<=60)(hm:ms.length<=21)(most first:Int){ks:List Pth}(S:Srt ms ks):ziz [.lst (bs.map D.bl),.int most,.int first,.lst (ns.map mkE)]=some (.lst ((enF (pgF most first 0 bs) ms ks).map enD)):=by
 have hp:∀x∈ms,GdP x.1:=λx hx=>(hg x hx).p
 obtain⟨os,e1,o1,o2⟩:=z2g (ms:=ns) (λx hx=>hp x ((hmn x).mp hx)) hn;have om:∀x,x∈os↔x∈ms:=λx=>(o1 x).trans (hmn x)
 have e2:=zth (os:=os) λx hx=>hg x ((om x).mp hx)
 have e3:=zwc bs (by omega) most first
 have pl:=zi7 most bs first 0
 generalize pgF most first 0 bs=pg at e3 pl ⊢
 obtain⟨m,e4,M⟩:=zwf hp (by omega) (λx hx=>(om x).mp hx) (by omega)
 have mem:∀p,p∈m.map Prod.fst↔p∈zfe ms:=λp=>by
  constructor
  ·intro h
   obtain⟨e,he,rfl⟩:=vb.mp h;exact M.sub e he
  ·intro h
   obtain⟨x,hx,h2⟩:=mo.mp h;obtain⟨k,hk,rfl⟩:=vb.mp h2;exact M.al x ((om x).mpr hx) (k+1) (by omega) (by have:=df.mp hk;omega)
 obtain⟨ks',e5,S'⟩:=zy1 (λp=>yal) hp M.nd mem hm
 cases S.one S'
 have kl:ks.length<=200:=by
  have h3:=ndl S.nd λp hpp=>(S.mem p).mp hpp
  have h4:=zc7 hp;omega
 have hv:∀p∈ks,zbx m p=some (ofP p os):=λp hpp=>by
  obtain⟨xs,hx⟩:=zez ((mem p).mpr ((S.mem p).mp hpp));rw[hx];exact zc some (M.ex _ (ztp hx))
 refine z5y rfl (st (zaq (zgo (zi4 (zak (zbv rfl rfl) rfl) rfl e1))) (st (ztq (zam (ds:=[.lst (os.map mkE),.int ((bs.length:Nat):Int)]) (zak rfl (zak (zbv rfl ?_) rfl)) rfl e2)) (st (zaq (zam rfl rfl e3)) (st (zaq (zam rfl rfl e4)) (zbu ?_)))))
 ·show some (D.int (((bs.map D.bl).length:Nat):Int))=_
  rw[ia]
 ·refine(zgo (zfw (ds:=ks.map pD) (zfq (d:=.lst (ks.map pD)) (zgo ?_) rfl) (sz (by rw[ia];omega)) (zgp pD (λp=>enD (p,zpy pg ms p)) ks λp hpp=>⟨_,rfl,rfl,?_⟩))).trans ?_
  ·show zft zg2 ((m.map λe=>pK e.1).map ktD)=_
   rw[<-e5,zd,zd];exact zc _ (xf λe _=>z6q e.1)
  ·have hk:∀k∈(ofP p os).map (·.2),k.1<=k.2.1:=λk hk=>by
    obtain⟨x,hx2,rfl⟩:=vb.mp hk;exact(hg x ((om x).mp (ai.mp hx2).1)).lo
   have hs:=zk9 (pg:=pg) (by omega) (pD p) ((ofP p os).map (·.2)) hk;rw[z6x]at hs;have hs:zyk [.lst (pg.map D.int),.lst ((ofP p os).map mkE)]=some ((zpy pg ms p).map TdD):=by rw[hs,<-zwg om];rfl
   refine zbv (ds:=[pD p,.lst ((zpy pg ms p).map TdD)]) (zak rfl (zak (zgo (zi4 (ds:=[.lst (pg.map D.int),.lst ((ofP p os).map mkE)]) (zak rfl (zak (zad (d:=dtD m) (e:=pD p) rfl rfl ?_) rfl)) rfl hs)) rfl)) rfl;unfold zfr
   have:=z6r (λxs:List M4=>D.lst (xs.map mkE)) m p
   rw[hv p hpp]at this;show (zeh (.dt (m.map λe=>pK e.1) (m.map λe=>D.lst (e.2.map mkE))) (pD p)).bind id=_;rw[this];rfl
  ·unfold enF;rw[zd];rfl
noncomputable abbrev z6y:Rho->Option D:=e2 gIx (zaa 0) (zaa 7)
noncomputable def zy2:Rho->Out:=zkc 2 z6y (eT (bOr (tE (zal 6)) (tE (zd3 (zaa 2) z6y (eC (.bl false))))))
theorem zy3{pg:List Int}(hpg:pg.length<=1000)(b c d e f g:Option Sl)(most:Bool):∀(n lo:Nat) (m:List (Int×Bool)) (z:Option Sl),Good pg m->lo+n<=pg.length →
  ∃z',zea (gN 7) zy2 (zif ((lo:Nat):Int) n) [some (.sh (.lst (pg.map D.int))),b,some (.dk (kz m) (dz m)),c,d,e,some (.sh (.bl most)),z,f,g]=.nx [some (.sh (.lst (pg.map D.int))),b,some (.dk (kz (((pg.drop lo).take n).foldl (stp most) m)) (dz (((pg.drop lo).take n).foldl (stp most) m))),c,d,e,some (.sh (.bl most)),z',f,g]
 |0,lo,m,z,_,_=>⟨z,rfl⟩
 |n+1,lo,m,z,hm,hl=>by
  have hlt:lo<pg.length:=by omega
  obtain⟨z',ih⟩:=zy3 hpg b c d e f g most n (lo+1) (stp most m pg[lo]) (some (.sh (.int (lo:Nat)))) (hm.put (ye hlt) _) (by omega);refine⟨z',?_⟩;rw[zd5,yc hlt,List.take_succ_cons,uf,<-ih];refine zay rfl ?_;have hz:m.length<=100000:=ie hm.len (by omega);have hx:z6y [some (.sh (.lst (pg.map D.int))),b,some (.dk (kz m) (dz m)),c,d,e,some (.sh (.bl most)),some (.sh (.int (lo:Nat))),f,g]=some (.int pg[lo]):=zad rfl rfl (zr2.trans (ze2 (by rw[pc,ed hlt];rfl)))
  have g1:tE (zd3 (zaa 2) z6y (eC (.bl false))) [some (.sh (.lst (pg.map D.int))),b,some (.dk (kz m) (dz m)),c,d,e,some (.sh (.bl most)),some (.sh (.int (lo:Nat))),f,g]=some ((zbx m pg[lo]).getD false):=by
   refine zbz ((zog (z:=.bl false) rfl hx rfl (zmn m pg[lo])).trans ?_)
   cases zbx m pg[lo] <;> rfl
  have g2:eT (bOr (tE (zal 6)) (tE (zd3 (zaa 2) z6y (eC (.bl false))))) [some (.sh (.lst (pg.map D.int))),b,some (.dk (kz m) (dz m)),c,d,e,some (.sh (.bl most)),some (.sh (.int (lo:Nat))),f,g]=some (.bl (most || (zbx m pg[lo]).getD false)):=by
   refine z0y ?_
   cases most with
   |true=>exact z0x rfl
   |false=>exact zhg rfl g1
  exact(ztc rfl g2 hx (zof pg[lo] _ hz)).trans rfl
noncomputable def z6z:Rho->Out:=zcx (iR zpt (aC (zaa 4) (aC (e2 zbg (zaa 5) (eC (.int 1))) aN))) (gN 7) zy2
theorem zy4{pg:List Int}(hpg:pg.length<=1000)(p:D)(b h j:Option Sl):∀(mks:List Mk) (m:List (Int×Bool)) (c d e f z:Option Sl),Good pg m->(∀k∈mks,k.1<=k.2.1/\k.2.1<pg.length) →
  ∃c' d' e' f' z',zea (gT 4 (gTC (gN 3) (gTC (gN 4) (gTC (gN 5) (gTC (gN 6) gT0))))) z6z (mks.map (MkS p)) [some (.sh (.lst (pg.map D.int))),b,some (.dk (kz m) (dz m)),c,d,e,f,z,h,j] =
   .nx [some (.sh (.lst (pg.map D.int))),b,some (.dk (kz (mks.foldl (λm k=>(zk8 pg k).foldl (stp k.2.2) m) m)) (dz (mks.foldl (λm k=>(zk8 pg k).foldl (stp k.2.2) m) m))),c',d',e',f',z',h,j]
 |[],m,c,d,e,f,z,_,_=>⟨c,d,e,f,z,rfl⟩
 |k::r,m,c,d,e,f,z,hm,hk=>by
  have hk0:=hk k za;obtain⟨z1,h1⟩:=zy3 hpg b (some (.sh p)) (some (.sh (.int (k.1:Nat)))) (some (.sh (.int (k.2.1:Nat)))) h j k.2.2 (k.2.1+1 - k.1) k.1 m z hm (by omega);obtain⟨c',d',e',f',z',ih⟩:=zy4 hpg p b h j r _ (some (.sh p)) (some (.sh (.int (k.1:Nat)))) (some (.sh (.int (k.2.1:Nat)))) (some (.sh (.bl k.2.2))) z1 (hm.stps (most:=k.2.2) λx hx=>zf3 hx) λj hj=>hk j (da _ hj)
  refine⟨c',d',e',f',z',?_⟩;rw[ja,uf,<-ih];refine zay (ρ1:=[some (.sh (.lst (pg.map D.int))),b,some (.dk (kz m) (dz m)),some (.sh p),some (.sh (.int (k.1:Nat))),some (.sh (.int (k.2.1:Nat))),some (.sh (.bl k.2.2)),z,h,j]) rfl ?_;refine zbc (ds:=zif ((k.1:Nat):Int) (k.2.1+1 - k.1)) (zpc (ds:=[.int (k.1:Nat),.int ((k.2.1:Nat)+1:Int)]) rfl ?_) h1;refine(zl3 (by omega) (by omega) (by omega) (by omega)).trans ?_;rw[show (((k.2.1:Nat):Int)+1 - ((k.1:Nat):Int)).toNat=k.2.1+1 - k.1 by omega]
noncomputable def zy5:Rho->Out:=sIf (zc9 (tE (e2 zdm (zaa 8) (eN za0 aN))) (zc9 (tE (e2 zcc (e2 zbg (e2 gIx (e2 gIx (zaa 8) (e1 zgl (eC (.int 1)))) (eC (.int 1))) (eC (.int 1))) (zaa 9))) (tE (e2 zcc (e2 gIx (e2 gIx (zaa 8) (e1 zgl (eC (.int 1)))) (eC (.int 2))) (e2 zfr (zaa 2) (zaa 9)))))) (zke 8 (e1 zgl (eC (.int 1))) (eN zbd (aC (e2 gIx (e2 gIx (zaa 8) (e1 zgl (eC (.int 1)))) (eC (.int 0))) (aC (zal 9) (aC (e2 zfr (zaa 2) (zaa 9)) aN))))) (zda 8 (eN zbd (aC (zal 9) (aC (zal 9) (aC (e2 zfr (zaa 2) (zaa 9)) aN)))))
theorem z60(l:List Td):dOk LV (.lst (l.map TdD))=true:=by
 rw[show LV=8+1 from rfl,dOk];exact jd.mpr λd hd=>by obtain⟨t,_,rfl⟩:=vb.mp hd;rfl
theorem z2h{m:List (Int×Bool)}(a0 a1 a3 a4 a5 a6 a7:Option Sl):∀(r:List (Int×Bool)) (init:List Td) (a b:Int) (t:Bool) (z:Option Sl),(∀x∈r,zbx m x.1=some x.2)->init.length+r.length<=50000 →
  ∃z',zea (gN 9) zy5 (r.map λx=>D.int x.1) [a0,a1,some (.dk (kz m) (dz m)),a3,a4,a5,a6,a7,some (.ow ((init++[(a,b,t)]).map TdD)),z]=.nx [a0,a1,some (.dk (kz m) (dz m)),a3,a4,a5,a6,a7,some (.ow ((init++zhb a b t r).map TdD)),z']
 |[],init,a,b,t,z,_,_=>⟨z,rfl⟩
 |(page,s)::r,init,a,b,t,z,hv,hl=>by
  have hv1:zfr (.dk (kz m) (dz m)) (.int page)=some (.bl s):=zv9 (hv (page,s) (by simp));have hv2:∀x∈r,zbx m x.1=some x.2:=λx hx=>hv x (da _ hx)
  rw[pb]at hl;have em:∀(x:Td),(init++[x]).map TdD=init.map TdD++[TdD x]:=λx=>by rw[xb];rfl
  have hat:atI ((init++[(a,b,t)]).map TdD) (-1)=some (TdD (a,b,t)):=by rw[em];exact zmo _ _
  have q1:tE (e2 zdm (zaa 8) (eN za0 aN)) [a0,a1,some (.dk (kz m) (dz m)),a3,a4,a5,a6,a7,some (.ow ((init++[(a,b,t)]).map TdD)),some (.sh (.int page))]=some true:=by
   refine zbz (zad rfl rfl ((zwd (z60 _)).trans ?_));rw[ub (by rw[em];simp)]
  have q2:tE (e2 zcc (e2 zbg (e2 gIx (e2 gIx (zaa 8) (e1 zgl (eC (.int 1)))) (eC (.int 1))) (eC (.int 1))) (zaa 9)) [a0,a1,some (.dk (kz m) (dz m)),a3,a4,a5,a6,a7,some (.ow ((init++[(a,b,t)]).map TdD)),some (.sh (.int page))]=some (decide (b+1=page)):=zbz (zad (d:=.int (b+1)) (zad (d:=.int b) (zad (zad rfl rfl hat) rfl rfl) rfl rfl) rfl (zd2 zeu));have q3:tE (e2 zcc (e2 gIx (e2 gIx (zaa 8) (e1 zgl (eC (.int 1)))) (eC (.int 2))) (e2 zfr (zaa 2) (zaa 9))) [a0,a1,some (.dk (kz m) (dz m)),a3,a4,a5,a6,a7,some (.ow ((init++[(a,b,t)]).map TdD)),some (.sh (.int page))]=some (t == s):=zbz (zad (d:=.bl t) (zad (zad rfl rfl hat) rfl rfl) (zad rfl rfl hv1) (zd2 zx0));have q:zc9 (tE (e2 zdm (zaa 8) (eN za0 aN))) (zc9 (tE (e2 zcc (e2 zbg (e2 gIx (e2 gIx (zaa 8) (e1 zgl (eC (.int 1)))) (eC (.int 1))) (eC (.int 1))) (zaa 9))) (tE (e2 zcc (e2 gIx (e2 gIx (zaa 8) (e1 zgl (eC (.int 1)))) (eC (.int 2))) (e2 zfr (zaa 2) (zaa 9))))) [a0,a1,some (.dk (kz m) (dz m)),a3,a4,a5,a6,a7,some (.ow ((init++[(a,b,t)]).map TdD)),some (.sh (.int page))]=some (decide (b+1=page) && (t == s)):=zkb q1 (ziv q2 λ_=>q3);by_cases hc:b+1=page/\t=s
  ·have hq:(decide (b+1=page) && (t == s))=true:=by rw[ub hc.1,hc.2];simp
   rw[hq]at q;obtain⟨z',ih⟩:=z2h a0 a1 a3 a4 a5 a6 a7 r init a page s (some (.sh (.int page))) hv2 (by omega);refine⟨z',?_⟩;have eg:zhb a b t ((page,s)::r)=zhb a page s r:=by rw[zhb,ba hc]
   rw[eg,<-ih];refine zay rfl ((zka q).trans ?_);refine(ztd (ds':=(init++[(a,page,s)]).map TdD) rfl (zbv (ds:=[.int a,.int page,.bl s]) (zak (zad (zad rfl rfl hat) rfl rfl) (zak rfl (zak (zad rfl rfl hv1) rfl))) rfl) rfl ?_).trans rfl;rw[em,em];exact zoj _ _ _
  ·have hq:(decide (b+1=page) && (t == s))=false:=by
    cases h1:decide (b+1=page) with
    |false=>rfl
    |true =>
     cases h2:t == s with
     |false=>rfl
     |true=>exact absurd ⟨lc h1,by simpa using h2⟩ hc
   rw[hq]at q;obtain⟨z',ih⟩:=z2h a0 a1 a3 a4 a5 a6 a7 r (init++[(a,b,t)]) page page s (some (.sh (.int page))) hv2 (by rw[jc,pd];omega);refine⟨z',?_⟩;have eg:init++zhb a b t ((page,s)::r)=init++[(a,b,t)]++zhb page page s r:=by rw[zhb,oa hc,ji];rfl
   rw[eg,<-ih];refine zay rfl ((zd1 q).trans ?_);refine(zc6 (ds:=(init++[(a,b,t)]).map TdD) (d:=TdD (page,page,s)) rfl (zbv (ds:=[.int page,.int page,.bl s]) (zak rfl (zak rfl (zak (zad rfl rfl hv1) rfl))) rfl) (by simp;omega)).trans ?_;show Out.nx [a0,a1,some (.dk (kz m) (dz m)),a3,a4,a5,a6,a7,some (.ow ((init++[(a,b,t)]).map TdD++[TdD (page,page,s)])),some (.sh (.int page))]=_;simp only[xb,ja,me]
theorem yan{m:List (Int×Bool)}(a0 a1 a3 a4 a5 a6 a7:Option Sl)(hl:m.length<=1000):∃z',zea (gN 9) zy5 ((zf4 m).map λx=>D.int x.1) [a0,a1,some (.dk (kz m) (dz m)),a3,a4,a5,a6,a7,some (.ow []),none]=.nx [a0,a1,some (.dk (kz m) (dz m)),a3,a4,a5,a6,a7,some (.ow ((zwa (zf4 m)).map TdD)),z']:=by
 have hv:∀x∈zf4 m,zbx m x.1=some x.2:=λx hx=>zol hx
 have hsl:=zi6 m
 cases hr:zf4 m with
 |nil=>exact⟨none,rfl⟩
 |cons x r =>
  rw[hr]at hv hsl;obtain⟨page,s⟩:=x;rw[pb]at hsl;have hv1:zfr (.dk (kz m) (dz m)) (.int page)=some (.bl s):=zv9 (hv (page,s) (by simp));obtain⟨z',ih⟩:=z2h a0 a1 a3 a4 a5 a6 a7 r [] page page s (some (.sh (.int page))) (λx hx=>hv x (da _ hx)) (by simp;omega);refine⟨z',?_⟩;show _=Out.nx [a0,a1,_,a3,a4,a5,a6,a7,some (.ow (([]++zhb page page s r).map TdD)),z'];rw[<-ih];refine zay rfl ((zd1 (znm (zbz (zad rfl rfl (zwd (l:=[]) rfl))))).trans ?_);exact(zc6 (ds:=[]) (d:=TdD (page,page,s)) rfl (zbv (ds:=[.int page,.int page,.bl s]) (zak rfl (zak rfl (zak (zad rfl rfl hv1) rfl))) rfl) (by simp)).trans rfl
theorem zwh{pg:List Int}(hpg:pg.length<=62)(p:D)(mks:List Mk)(hk:∀k∈mks,k.1<=k.2.1/\k.2.1<pg.length):zi0 [.lst (pg.map D.int),.lst (mks.map (MkS p))]=some (.lst ((zwa (zf4 (zar pg mks))).map TdD)):=by
 have hg:=zcr pg mks;have hl:=hg.len;obtain⟨c,d,e,f,z,h1⟩:=zy4 (by omega:pg.length<=1000) p (some (.sh (.lst (mks.map (MkS p))))) none none mks [] none none none none none ⟨rg,λx hx=>by simp at hx⟩ hk;obtain⟨z',h⟩:=yan (m:=zar pg mks) (some (.sh (.lst (pg.map D.int)))) (some (.sh (.lst (mks.map (MkS p))))) c d e f z (by omega);refine zby rfl (st rfl (st (zbc (zfq rfl rfl) h1) (st rfl (st (zbc (ds:=(zf4 (zar pg mks)).map λx:Int×Bool=>D.int x.1) (zfq (d:=.lst ((zf4 (zar pg mks)).map λx:Int×Bool=>D.int x.1)) (zgo ?_) rfl) h) rfl))));show zfl [.dk (kz (zar pg mks)) (dz (zar pg mks))]=_;unfold zfl;dsimp only;rw[ztb,znt,zok];show (if ((zar pg mks).map Prod.fst).length<64 then some _ else none)=_;rw[ba (by rw[ia];omega)]
theorem ztr(a b:Pth):deq (pD a) (pD b)=decide (a=b):=by rw[deq,zi3]
theorem zts(p:Pth)(k:Nat):dOk (k+2) (pD p)=true:=by
 rw[dOk];exact jd.mpr λd hd=>by obtain⟨l,_,rfl⟩:=vb.mp hd;rfl
theorem z2i(ps:List Pth)(p:Pth):za1 (pD p) (.lst (ps.map pD))=some (.bl (!decide (p∈ps))):=by
 refine z0w ?_;unfold gIn;dsimp only
 rw[if_pos (by
  rw[gc];exact⟨zts p 7,jd.mpr λd hd=>by obtain⟨q,_,rfl⟩:=vb.mp hd;exact zts q 7⟩)]
 congr 1
 rw[fj,oo,ak];constructor
 ·rintro⟨d,hd,e⟩
  obtain⟨q,hq,rfl⟩:=vb.mp hd;rw[ztr,ak]at e;rw[<-e];exact hq
 ·exact λh=>⟨_,vb.mpr ⟨p,h,rfl⟩,by rw[ztr,ub rfl]⟩
noncomputable abbrev slL:Rho->Option D:=eSl (e2 gIx (zaa 3) (eC (.int 0))) oN (oS (zaa 4))
noncomputable def zy6:Rho->Out:=sIf (tE (e2 za1 slL (zaa 2))) (zda 2 slL) za2
theorem z2j(a b:Option Sl)(x:M4)(f g:Option Sl):∀(n k:Nat) (ps:List Pth) (z:Option Sl),ps.Nodup->ps.length+n<=1000->∃(ps':List Pth) (z':Option Sl),zea (gN 4) zy6 (zif ((k:Nat):Int) n) [a,b,some (.ow (ps.map pD)),some (.sh (mkE x)),z,f,g]=.nx [a,b,some (.ow (ps'.map pD)),some (.sh (mkE x)),z',f,g]/\ps'.Nodup/\ps'.length<=ps.length+n/\∀q,q∈ps'↔q∈ps\/∃j,k<=j/\j<k+n/\q=x.1.take j
 |0,k,ps,z,hn,_=>⟨ps,z,rfl,hn,wa _,λq=>⟨.inl,λh=>h.elim id λ⟨j,h1,h2,_⟩=>by omega⟩⟩
 |n+1,k,ps,z,hn,hl=>by
  have hs:slL [a,b,some (.ow (ps.map pD)),some (.sh (mkE x)),some (.sh (.int (k:Nat))),f,g]=some (pD (x.1.take k)):=by
   show some (D.tup (zht (x.1.map D.str) none (some ((k:Nat):Int))))=_;rw[zr3,<-sq]
  have q:tE (e2 za1 slL (zaa 2)) [a,b,some (.ow (ps.map pD)),some (.sh (mkE x)),some (.sh (.int (k:Nat))),f,g]=some (!decide (x.1.take k∈ps)):=zbz (zad hs rfl (z2i ps _));by_cases h:x.1.take k∈ps
  ·rw[ub h]at q
   obtain⟨ps',z',ih,h1,h2,h3⟩:=z2j a b x f g n (k+1) ps (some (.sh (.int (k:Nat)))) hn (by omega);refine⟨ps',z',?_,h1,by omega,λq=>(h3 q).trans ⟨λw=>w.imp id λ⟨j,j1,j2,j3⟩=>⟨j,by omega,by omega,j3⟩,λw=>w.elim .inl λ⟨j,j1,j2,j3⟩=>?_⟩⟩
   ·rw[zd5,<-ih]
    exact zay rfl ((zd1 q).trans rfl)
   ·by_cases e:j=k
    ·exact .inl (by rw[j3,e];exact h)
    ·exact .inr ⟨j,by omega,by omega,j3⟩
  ·rw[md h]at q
   obtain ⟨ps',z',ih,h1,h2,h3⟩:=z2j a b x f g n (k+1) (ps++[x.1.take k]) (some (.sh (.int (k:Nat)))) (List.nodup_append.mpr ⟨hn,by simp,λ u hu v hv z=>h (by
    have:v=x.1.take k:=by simpa using hv
    rw[<-this,<-z];exact hu)⟩) (by rw[jc,pd];omega)
   rw[jc,pd]at h2;refine⟨ps',z',?_,h1,by omega,λq=>(h3 q).trans ⟨λw=>?_,λw=>?_⟩⟩
   ·rw[zd5,<-ih]
    refine zay rfl ((zka q).trans ((zc6 (ds:=ps.map pD) (d:=pD (x.1.take k)) rfl hs (by rw[ia];omega)).trans ?_));rw[xb];rfl
   ·rcases w with w|⟨j,j1,j2,j3⟩
    ·rcases ac.mp w with w|w
     ·exact .inl w
     ·exact .inr ⟨k,wa _,by omega,by simpa using w⟩
    ·exact .inr ⟨j,by omega,by omega,j3⟩
   ·rcases w with w|⟨j,j1,j2,j3⟩
    ·exact .inl (tf _ w)
    ·by_cases e:j=k
     ·exact .inl (uc _ (by rw[j3,e];simp))
     ·exact .inr ⟨j,by omega,by omega,j3⟩
noncomputable def z61:Rho->Out:=zcx (iR zpt (aC (eC (.int 1)) (aC (e2 zbg (eN zd8 (aC (e2 gIx (zaa 3) (eC (.int 0))) aN)) (eC (.int 1))) aN))) (gN 4) zy6
theorem zy7(a b:Option Sl)(f g:Option Sl):∀(ms:List M4) (ps:List Pth) (z3 z4:Option Sl),(∀x∈ms,GdP x.1)->ps.Nodup->ps.length+6 * ms.length<=1000->∃(ps':List Pth) (y3 y4:Option Sl),zea (gN 3) z61 (ms.map mkE) [a,b,some (.ow (ps.map pD)),z3,z4,f,g]=.nx [a,b,some (.ow (ps'.map pD)),y3,y4,f,g]/\ps'.Nodup/\∀q,q∈ps'↔q∈ps\/q∈zfe ms
 |[],ps,z3,z4,_,hn,_=>⟨ps,z3,z4,rfl,hn,λq=>⟨.inl,λh=>h.elim id λh=>nomatch h⟩⟩
 |x::ms,ps,z3,z4,hg,hn,hl=>by
  rw[pb]at hl;have gx:=(hg x za).len;obtain⟨p1,z',e1,h1,h2,h3⟩:=z2j a b x f g x.1.length 1 ps z4 hn (by omega);obtain⟨ps',y3,y4,e2,h4,h5⟩:=zy7 a b f g ms p1 (some (.sh (mkE x))) z' (λy hy=>hg y (da _ hy)) h1 (by omega);refine⟨ps',y3,y4,?_,h4,λq=>(h5 q).trans ?_⟩
  ·rw[ja,<-e2]
   refine zay (ρ1:=[a,b,some (.ow (ps.map pD)),some (.sh (mkE x)),z4,f,g]) rfl (zbc (ds:=zif ((1:Nat):Int) x.1.length) (zpc (ds:=[.int 1,.int ((x.1.length:Nat)+1:Int)]) (zak rfl (zak (zad (zbv (ds:=[pD x.1]) rfl ?_) rfl zed) rfl)) ?_) e1)
   ·show some (D.int (((x.1.map D.str).length:Nat):Int))=_
    rw[ia]
   ·refine(zl3 (by decide) (by decide) (by omega) (by omega)).trans ?_
    rw[show (((x.1.length:Nat):Int)+1 - 1).toNat=x.1.length by omega];rfl
  ·rw[h3]
   unfold zfe;rw[List.flatMap_cons,ac,vb];constructor
   ·rintro((w|⟨j,j1,j2,j3⟩)|w)
    ·exact .inl w
    ·exact .inr (.inl ⟨j - 1,df.mpr (by omega),by rw[show j - 1+1=j by omega,j3]⟩)
    ·exact .inr (.inr w)
   ·rintro(w|⟨j,j1,j2⟩|w)
    ·exact .inl (.inl w)
    ·exact .inl (.inr ⟨j+1,by omega,by have:=df.mp j1;omega,j2.symm⟩)
    ·exact .inr w
noncomputable def z62:Rho->Out:=zda 5 (eN zbd (aC (zal 6) (aC (zap 2 zi0 (aC (zal 0) (aC (eL (zcd 1 [6] (iE (zaa 1)) (gN 0) (tE (e2 zcc (e2 gIx (zaa 0) (eC (.int 0))) (zaa 1))) (zal 0))) aN))) aN)))
theorem ztt{ms:List M4}{pg:List Int}(hg:∀x∈ms,GdK pg.length x)(hpg:pg.length<=62)(hm:ms.length<=1000)(c d e:Option Sl):∀(ks:List Pth) (acc:List (Pth×List Td)) (z:Option Sl),acc.length+ks.length<=1000->∃z',zea (gN 6) z62 (ks.map pD) [some (.sh (.lst (pg.map D.int))),some (.sh (.lst (ms.map mkE))),c,d,e,some (.ow (acc.map enD)),z]=.nx [some (.sh (.lst (pg.map D.int))),some (.sh (.lst (ms.map mkE))),c,d,e,some (.ow ((acc++enF pg ms ks).map enD)),z']
 |[],acc,z,_=>⟨z,by rw[show enF pg ms []=[] from rfl,kc];rfl⟩
 |p::ks,acc,z,hl=>by
  rw[pb]at hl;obtain⟨z',ih⟩:=ztt hg hpg hm c d e ks (acc++[(p,zpy pg ms p)]) (some (.sh (pD p))) (by rw[jc,pd];omega);refine⟨z',?_⟩;have ee:acc++enF pg ms (p::ks)=acc++[(p,zpy pg ms p)]++enF pg ms ks:=by unfold enF;rw[ja,zi]
  rw[ee,<-ih,ja]
  have hr:=zwh hpg (pD p) ((ofP p ms).map (·.2)) λk hk=>by
   obtain⟨x,hx,rfl⟩:=vb.mp hk
   have:=hg x (ai.mp hx).1
   exact⟨this.lo,this.hi⟩
  rw[z6x]at hr;have hr:zi0 [.lst (pg.map D.int),.lst ((ofP p ms).map mkE)]=some (.lst ((zpy pg ms p).map TdD)):=hr
  have hc:zcd 1 [6] (iE (zaa 1)) (gN 0) (tE (e2 zcc (e2 gIx (zaa 0) (eC (.int 0))) (zaa 1))) (zal 0) [some (.sh (.lst (pg.map D.int))),some (.sh (.lst (ms.map mkE))),c,d,e,some (.ow (acc.map enD)),some (.sh (pD p))]=some ((ofP p ms).map mkE) :=
   zfw (ds:=ms.map mkE) (zfq rfl rfl) (sz (by rw[List.length_map];omega)) (zet mkE (λ x:M4=>decide (x.1=p)) mkE ms λ x hx=>⟨_,rfl,zbz (zad (d:=pD x.1) (e:=pD p) rfl rfl (zd2 (by
    rw[z47 (by rw[gc];exact⟨zts _ 7,zts _ 7⟩),zi3]))),λ_=>rfl⟩)
  refine zay (ρ1:=[some (.sh (.lst (pg.map D.int))),some (.sh (.lst (ms.map mkE))),c,d,e,some (.ow (acc.map enD)),some (.sh (pD p))]) rfl ((zc6 (ds:=acc.map enD) (d:=enD (p,zpy pg ms p)) rfl (zbv (ds:=[pD p,.lst ((zpy pg ms p).map TdD)]) (zak rfl (zak (zam (zak rfl (zak (zgo hc) rfl)) rfl hr) rfl)) rfl) (by rw[ia];omega)).trans ?_);rw[xb];rfl
theorem zg6{ms:List M4}{pg:List Int}(hg:∀x∈ms,GdK pg.length x)(hpg:pg.length<=62)(hm:ms.length<=21):∃ks,Srt ms ks/\zyo [.lst (pg.map D.int),.lst (ms.map mkE)]=some (.lst ((enF pg ms ks).map enD)):=by
 have hp:∀x∈ms,GdP x.1:=λx hx=>(hg x hx).p
 obtain⟨ps,y3,y4,e1,n1,m1⟩:=zy7 (some (.sh (.lst (pg.map D.int)))) (some (.sh (.lst (ms.map mkE)))) none none ms [] none none hp rg (by rw[ud];omega);obtain⟨ks,e2,S⟩:=zy1 (F:=zub) (λp=>z6w) hp n1 (λp=>(m1 p).trans ⟨λw=>w.resolve_left (λz=>nomatch z),we⟩) hm
 have kl:ks.length<=200:=by
  have h3:=ndl S.nd λp hpp=>(S.mem p).mp hpp
  have h4:=zc7 hp;omega
 obtain⟨z',e3⟩:=ztt hg hpg (by omega) (some (.ow (ps.map pD))) y3 y4 ks [] none (by rw[ud];omega);refine⟨ks,S,zby rfl (st rfl (st (zbc (zfq rfl rfl) e1) (st rfl (st (zbc (ds:=ks.map pD) (zfq (d:=.lst (ks.map pD)) (zgo ?_) rfl) e3) rfl))))⟩;show zft zub (ps.map pD)=_;exact e2
noncomputable def zy8:Rho->Out:=(sIf (tE (e2 gGt (zaa 2) (eC (.int 0)))) (zat (zbq 5 (e2 zb5 (e2 zdf (zaa 4) (eC (.int 7))) (zaa 2)))
  (zat (zbq 6 (eN z4x (aC (e2 zid (zaa 2) (eC (.int 1))) (aC (e2 zbg (zaa 5) (e2 gIx (eN za0 (aC (eC (.int 0)) (aC (eC (.int 0)) (aC (eC (.int 1)) (aC (eC (.int 3)) (aC (e2 zb5 (e2 zdf (zaa 4) (eC (.int 49))) (eC (.int 40))) aN)))))) (e2 zb5 (e2 zdf (zaa 4) (eC (.int 3))) (eC (.int 5))))) aN))))
  (zda 3 (eN zbd (aC (zap 2 zym (aC (e2 zdf (zaa 4) (eC (.int 2))) (aC (zal 1) aN))) (aC (zal 5) (aC (zal 6) (aC (e2 zcc (e2 zb5 (e2 zdf (zaa 4) (eC (.int 11))) (eC (.int 3))) (eC (.int 0))) aN)))))))) za2)
theorem z2k(a:Option Sl)(c y:Int)(n:Nat)(hn:n<=1000)(acc:List M4)(hl:acc.length<=1000)(z5 z6:Option Sl):∃(ms:List M4) (y5 y6:Option Sl),zy8 [a,some (.sh (.int y)),some (.sh (.int (n:Nat))),some (.ow (acc.map mkE)),some (.sh (.int c)),z5,z6]=.nx [a,some (.sh (.int y)),some (.sh (.int (n:Nat))),some (.ow ((acc++ms).map mkE)),some (.sh (.int c)),y5,y6]/\(∀x∈ms,GdK n x)/\ms.length<=1:=by
 have q:tE (e2 gGt (zaa 2) (eC (.int 0))) [a,some (.sh (.int y)),some (.sh (.int (n:Nat))),some (.ow (acc.map mkE)),some (.sh (.int c)),z5,z6]=some (decide ((0:Int)<(n:Nat))):=zbz (zad rfl rfl zu9);by_cases h0:n=0
 ·refine⟨[],z5,z6,?_,(λx hx=>nomatch hx),vd _⟩
  rw[kc];exact(zd1 (q.trans (by rw[md (by omega)]))).trans rfl
 obtain⟨hs,hp,hg⟩:=z19 (c / 2) y
 have hg4:∃v:Int,e2 gIx (eN za0 (aC (eC (.int 0)) (aC (eC (.int 0)) (aC (eC (.int 1)) (aC (eC (.int 3)) (aC (e2 zb5 (e2 zdf (zaa 4) (eC (.int 49))) (eC (.int 40))) aN)))))) (e2 zb5 (e2 zdf (zaa 4) (eC (.int 3))) (eC (.int 5))) [a,some (.sh (.int y)),some (.sh (.int (n:Nat))),some (.ow (acc.map mkE)),some (.sh (.int c)),some (.sh (.int (c / 7 % (n:Nat)))),z6]=some (.int v)/\0<=v:=by
  have h5:c / 3 % 5=0\/c / 3 % 5=1\/c / 3 % 5=2\/c / 3 % 5=3\/c / 3 % 5=4:=by omega
  have e5:e2 zb5 (e2 zdf (zaa 4) (eC (.int 3))) (eC (.int 5)) [a,some (.sh (.int y)),some (.sh (.int (n:Nat))),some (.ow (acc.map mkE)),some (.sh (.int c)),some (.sh (.int (c / 7 % (n:Nat)))),z6]=some (.int (c / 3 % 5)):=zad (zad rfl rfl (zdo (by decide))) rfl (zb3 (by decide));have e6:eN za0 (aC (eC (.int 0)) (aC (eC (.int 0)) (aC (eC (.int 1)) (aC (eC (.int 3)) (aC (e2 zb5 (e2 zdf (zaa 4) (eC (.int 49))) (eC (.int 40))) aN))))) [a,some (.sh (.int y)),some (.sh (.int (n:Nat))),some (.ow (acc.map mkE)),some (.sh (.int c)),some (.sh (.int (c / 7 % (n:Nat)))),z6]=some (.lst [.int 0,.int 0,.int 1,.int 3,.int (c / 49 % 40)]):=zbv (zak rfl (zak rfl (zak rfl (zak rfl (zak (zad (zad rfl rfl (zdo (by decide))) rfl (zb3 (by decide))) rfl))))) rfl;rcases h5 with h|h|h|h|h
  ·exact⟨0,zad e6 e5 (by rw[h];rfl),by omega⟩
  ·exact⟨0,zad e6 e5 (by rw[h];rfl),by omega⟩
  ·exact⟨1,zad e6 e5 (by rw[h];rfl),by omega⟩
  ·exact⟨3,zad e6 e5 (by rw[h];rfl),by omega⟩
  ·exact⟨_,zad e6 e5 (by rw[h];rfl),by omega⟩
 obtain⟨v,hv,v0⟩:=hg4;have l0:=Int.emod_nonneg (c / 7) (show ((n:Nat):Int)≠0 by omega);have l1:=Int.emod_lt_of_pos (c / 7) (show (0:Int)<(n:Nat) by omega);obtain⟨lo,hlo⟩:∃lo:Nat,c / 7 % (n:Nat)=(lo:Nat):=⟨(c / 7 % (n:Nat)).toNat,by omega⟩
 obtain⟨hi,hhi⟩:∃hi:Nat,(if (lo:Int)+v<(n:Nat) - 1 then (lo:Int)+v else (n:Nat) - 1)=(hi:Nat):=⟨(if (lo:Int)+v<(n:Nat) - 1 then (lo:Int)+v else (n:Nat) - 1).toNat,by split <;> omega⟩
 rw[hlo]at hv;refine⟨[(hs,lo,hi,decide (c / 11 % 3=0))],some (.sh (.int (lo:Nat))),some (.sh (.int (hi:Nat))),?_,λx hx=>?_,wa _⟩
 ·refine(zka (q.trans (by rw[ub (by omega)]))).trans (st (ρ':=[a,some (.sh (.int y)),some (.sh (.int (n:Nat))),some (.ow (acc.map mkE)),some (.sh (.int c)),some (.sh (.int (lo:Nat))),z6]) (zaq (zad (zad rfl rfl (zdo (by decide))) rfl ((zb3 (by omega)).trans (by rw[hlo])))) (st (ρ':=[a,some (.sh (.int y)),some (.sh (.int (n:Nat))),some (.ow (acc.map mkE)),some (.sh (.int c)),some (.sh (.int (lo:Nat))),some (.sh (.int (hi:Nat)))]) (zaq (zbv (zak (zad rfl rfl zr1) (zak (zad rfl hv zed) rfl)) (z6b.trans (by rw[hhi])))) ((zc6 (ds:=acc.map mkE) (d:=mkE (hs,lo,hi,decide (c / 11 % 3=0))) rfl ?_ (by rw[ia];omega)).trans ?_)))
  ·exact zbv (zak (zam (zak (zad rfl rfl (zdo (by decide))) rfl) rfl hp) (zak rfl (zak rfl (zak (zad (zad (zad rfl rfl (zdo (by decide))) rfl (zb3 (by decide))) rfl (zd2 zeu)) rfl)))) rfl
  ·rw[xb];rfl
 ·rw[zb.mp hx]
  refine⟨hg,?_,?_⟩
  ·show lo<=hi
   split at hhi <;> omega
  ·show hi<n
   split at hhi <;> omega
theorem ztu(a:Option Sl)(y:Int)(n:Nat)(hn:n<=1000):∀(cs:List Int) (acc:List M4) (z4 z5 z6:Option Sl),acc.length+cs.length<=1000->∃(ms:List M4) (y4 y5 y6:Option Sl),zea (gN 4) zy8 (cs.map D.int) [a,some (.sh (.int y)),some (.sh (.int (n:Nat))),some (.ow (acc.map mkE)),z4,z5,z6]=.nx [a,some (.sh (.int y)),some (.sh (.int (n:Nat))),some (.ow ((acc++ms).map mkE)),y4,y5,y6]/\(∀x∈ms,GdK n x)/\ms.length<=cs.length
 |[],acc,z4,z5,z6,_=>⟨[],z4,z5,z6,by rw[kc];rfl,(λx hx=>nomatch hx),wa _⟩
 |c::cs,acc,z4,z5,z6,hl=>by
  rw[pb]at hl;obtain⟨m1,y5,y6,e1,g1,l1⟩:=z2k a c y n hn acc (by omega) z5 z6;obtain⟨m2,w4,w5,w6,e2,g2,l2⟩:=ztu a y n hn cs (acc++m1) (some (.sh (.int c))) y5 y6 (by rw[jc];omega);refine⟨m1++m2,w4,w5,w6,?_,λx hx=>(ac.mp hx).elim (g1 x) (g2 x),by rw[jc,pb];omega⟩;rw[ja,<-ji,<-e2];exact zay rfl e1
theorem zwi(cs:List Int)(hc:cs.length<=100)(y:Int)(n:Nat)(hn:n<=1000):∃ms:List M4,z13 [.lst (cs.map D.int),.int y,.int (n:Nat)]=some (ms.map mkE)/\(∀x∈ms,GdK n x)/\ms.length<=cs.length:=by
 obtain⟨ms,y4,y5,y6,e,g,l⟩:=ztu (some (.sh (.lst (cs.map D.int)))) y n hn cs [] none none none (by simp;omega);exact⟨ms,zry rfl (st rfl (st (zbc rfl e) rfl)),g,l⟩
theorem ybo{bs:List Bool}:zd8 [.lst (bs.map D.bl)]=some (.int ((bs.length:Nat):Int)):=by
 show some (D.int (((bs.map D.bl).length:Nat):Int))=_;rw[ia]
theorem z2l(cs:List Int)(hl:cs.length<=1000):zmm [.lst (cs.map D.int)]=some (.lst ((cs.map λc=>decide (c % 7=3)).map D.bl)):=by
 refine zby rfl (zbu ((zgo (zfw (ds:=cs.map D.int) rfl (sz (by rw[ia];omega)) (zgp D.int (λc=>D.bl (decide (c % 7=3))) cs λc _=>⟨_,rfl,rfl,zad (zad rfl rfl (zb3 (by decide))) rfl (zd2 zeu)⟩))).trans ?_));rw[zd];rfl
theorem zmr(y:Int):∃a b:Int,1<=a/\z12 [.int y]=some (.tup [.int a,.int b]):=by
 have i1:∃a:Int,e2 gIx (eN za0 (aC (e2 zbg (eC (.int 1)) (e2 zb5 (zaa 0) (eC (.int 5)))) (aC (e2 zbg (eC (.int 1)) (e2 zb5 (e2 zcm (zaa 0) (eC (.int 48271))) (e2 zrk (eC (.int 10)) (eC (.int 59))))) aN))) (eN zxn (aC (e2 zcc (e2 zb5 (e2 zdf (zaa 0) (eC (.int 5))) (eC (.int 7))) (eC (.int 0))) aN)) [some (.sh (.int y)),none]=some (.int a)/\1<=a:=by
  have l1:eN za0 (aC (e2 zbg (eC (.int 1)) (e2 zb5 (zaa 0) (eC (.int 5)))) (aC (e2 zbg (eC (.int 1)) (e2 zb5 (e2 zcm (zaa 0) (eC (.int 48271))) (e2 zrk (eC (.int 10)) (eC (.int 59))))) aN)) [some (.sh (.int y)),none]=some (.lst [.int (1+y % 5),.int (1+y * 48271 % 10 ^ 59)]):=zbv (zak (zad rfl (zad rfl rfl (zb3 (by decide))) zed) (zak (zad rfl (zad (zad rfl rfl (zfk (zil ⟨by decide,by decide⟩))) (zad rfl rfl p59) (zb3 (by decide))) zed) rfl)) rfl;have l2:eN zxn (aC (e2 zcc (e2 zb5 (e2 zdf (zaa 0) (eC (.int 5))) (eC (.int 7))) (eC (.int 0))) aN) [some (.sh (.int y)),none]=some (.int (if decide (y / 5 % 7=0) then 1 else 0)):=zbv (zak (zad (zad (zad rfl rfl (zdo (by decide))) rfl (zb3 (by decide))) rfl (zd2 zeu)) rfl) (ybk _);by_cases h:y / 5 % 7=0
  ·rw[ub h]at l2;exact⟨_,zad l1 l2 rfl,by have:=Int.emod_nonneg (y * 48271) (show (10 ^ 59:Int)≠0 by decide);omega⟩
  ·rw[md h]at l2;exact⟨_,zad l1 l2 rfl,by omega⟩
 obtain⟨a,ha,ha1⟩:=i1
 have i2:∃b:Int,e2 gIx (eN za0 (aC (e2 zb5 (e2 zdf (zaa 0) (eC (.int 35))) (eC (.int 9))) (aC (e2 zb5 (e2 zcm (zaa 0) (eC (.int 982451653))) (e2 zid (e2 zrk (eC (.int 10)) (eC (.int 60))) (eC (.int 2000)))) aN))) (e2 zb5 (e2 zdf (zaa 0) (eC (.int 7))) (eC (.int 2))) [some (.sh (.int y)),some (.sh (.int a))]=some (.int b):=by
  have l1:eN za0 (aC (e2 zb5 (e2 zdf (zaa 0) (eC (.int 35))) (eC (.int 9))) (aC (e2 zb5 (e2 zcm (zaa 0) (eC (.int 982451653))) (e2 zid (e2 zrk (eC (.int 10)) (eC (.int 60))) (eC (.int 2000)))) aN)) [some (.sh (.int y)),some (.sh (.int a))]=some (.lst [.int (y / 35 % 9),.int (y * 982451653 % (10 ^ 60 - 2000))]):=zbv (zak (zad (zad rfl rfl (zdo (by decide))) rfl (zb3 (by decide))) (zak (zad (zad rfl rfl (zfk (zil ⟨by decide,by decide⟩))) (zad (zad rfl rfl p10) rfl zr1) (zb3 (by decide))) rfl)) rfl;have l2:e2 zb5 (e2 zdf (zaa 0) (eC (.int 7))) (eC (.int 2)) [some (.sh (.int y)),some (.sh (.int a))]=some (.int (y / 7 % 2)):=zad (zad rfl rfl (zdo (by decide))) rfl (zb3 (by decide));have h:y / 7 % 2=0\/y / 7 % 2=1:=by omega
  rcases h with h|h <;> rw[h]at l2
  ·exact⟨_,zad l1 l2 rfl⟩
  ·exact⟨_,zad l1 l2 rfl⟩
 obtain⟨b,hb⟩:=i2;exact⟨a,b,ha1,zby rfl (st (zaq ha) (zbu (zbv (zak rfl (zak hb rfl)) rfl)))⟩
theorem yao(p:Pth):deq (pD p) (pD p)=true:=by rw[ztr,ub rfl]
theorem zy9(t:Td):deq (TdD t) (TdD t)=true:=by
 unfold TdD;rw[deq,zb7,zb7,zb7,zb7,zl5,zl5,zr7,ub rfl,ub rfl,xn];rfl
theorem zms{l:List D}(h:dOk LV (.lst l)=true)(hd:∀d∈l,deq d d=true):zdm (.lst l) (.lst l)=some (.bl false):=by
 have:gEq (.lst l) (.lst l)=some true:=by rw[zr6 (by rw[h];rfl),zey hd]
 exact zrz this
theorem z63(E:List (Pth×List Td)):zdm (.lst (E.map enD)) (.lst (E.map enD))=some (.bl false):=by
 refine zms ?_ λd hd=>?_
 ·rw[show LV=8+1 from rfl,dOk]
  refine jd.mpr λd hd=>?_
  obtain⟨e,_,rfl⟩:=vb.mp hd;unfold enD
  have h2:dOk 7 (.lst (e.2.map TdD))=true:=by
   rw[dOk];exact jd.mpr λd hd=>by obtain⟨t,_,rfl⟩:=vb.mp hd;simp[TdD,dOk]
  rw[dOk,ng,ng,zts,h2];rfl
 ·obtain⟨e,_,rfl⟩:=vb.mp hd
  unfold enD;rw[deq,zb7,zb7,zb7,yao,deq,zey λd hd=>by obtain⟨t,_,rfl⟩:=vb.mp hd;exact zy9 t];rfl
theorem zoq(i:Int):zt9 [.int i]=some (.bl true):=zby rfl (zbu rfl)
noncomputable def zza:Rho->Out:=(zat (sIf (bOr (zdq (tE (e1 (zl0 "tuple") (zaa 3)))) (bOr (zdq (tE (zap 1 zt9 (aC (e2 gIx (zaa 3) (eC (.int 0))) aN)))) (zdq (tE (zap 1 zt9 (aC (e2 gIx (zaa 3) (eC (.int 1))) aN)))))) (zb4 (eC (.bl false))) za2)
  (sIf (zdq (tE (e1 (zl0 "bool") (e2 gIx (zaa 3) (eC (.int 2)))))) (zb4 (eC (.bl false))) za2))
theorem ztv(a b c:Option Sl):∀(ts:List Td) (z:Option Sl),∃z',zea (gN 3) zza (ts.map TdD) [a,b,c,z]=.nx [a,b,c,z']
 |[],z=>⟨z,rfl⟩
 |t::ts,z=>by
  obtain⟨z',ih⟩:=ztv a b c ts (some (.sh (TdD t)));refine⟨z',?_⟩;rw[ja,<-ih];exact zay rfl (st ((zd1 (zhg (zcp (b:=true) rfl) (zhg (zcp (zbz (zam rfl rfl (zoq t.1)))) (zcp (zbz (zam rfl rfl (zoq t.2.1))))))).trans rfl) ((zd1 (zcp (b:=true) rfl)).trans rfl))
noncomputable def z64:Rho->Out:=(zat (sIf (bOr (zdq (tE (e1 (zl0 "tuple") (zaa 2)))) (bOr (zdq (tE (e1 (zl0 "tuple") (e2 gIx (zaa 2) (eC (.int 0)))))) (zdq (tE (e1 (zl0 "list") (e2 gIx (zaa 2) (eC (.int 1)))))))) (zb4 (eC (.bl false))) za2)
  (zcx (iE (e2 gIx (zaa 2) (eC (.int 1)))) (gN 3) zza))
theorem ztw(a b:Option Sl):∀(E:List (Pth×List Td)) (y z:Option Sl),∃y' z',zea (gN 2) z64 (E.map enD) [a,b,y,z]=.nx [a,b,y',z']
 |[],y,z=>⟨y,z,rfl⟩
 |e::E,y,z=>by
  obtain⟨z1,h1⟩:=ztv a b (some (.sh (enD e))) e.2 z;obtain⟨y',z',ih⟩:=ztw a b E (some (.sh (enD e))) z1;refine⟨y',z',?_⟩;rw[ja,<-ih];exact zay (ρ1:=[a,b,some (.sh (enD e)),z]) rfl (st ((zd1 (zhg (zcp (b:=true) rfl) (zhg (zcp (b:=true) rfl) (zcp (b:=true) rfl)))).trans rfl) (zbc (ds:=e.2.map TdD) (zfq (d:=.lst (e.2.map TdD)) rfl rfl) h1))
theorem zi9(E:List (Pth×List Td)):zv1 [.lst (E.map enD),.lst (E.map enD)]=some (.bl true):=by
 obtain⟨y,z,h⟩:=ztw (some (.sh (.lst (E.map enD)))) (some (.sh (.lst (E.map enD)))) E none none;exact zby rfl (st ((zd1 (zhg (zcp (b:=true) rfl) (zbz (zad rfl rfl (z63 E))))).trans rfl) (st (zbc (zfq rfl rfl) h) (zbu rfl)))
theorem zwj{g:D->Rho->Option Rho}{fe:Rho->Option D}{ρ ρ':Rho}{d:D}(h1:fe ρ=some d)(h2:g d ρ=some ρ'):zii g fe ρ=.nx ρ':=by
 unfold zii;simp only[h1,h2,ib]
theorem ztx{i:Nat}{f:Rho->Option D}{g:GP}{ρ:Rho}{d:D}(h1:ρ[i]?=some none)(h2:f ρ=some d):zkp i f g ρ=g d ρ:=by
 unfold zkp;rw[h1];dsimp only;rw[h2]
theorem zwk{i:Nat}{ft:Rho->Option Bool}{fb:Rho->Out}{g:GP}{ρ:Rho}{d:D}(h:ft (ρ.set i (some (.sh d)))=some false):zkq i ft fb g d ρ=g d ρ:=by
 unfold zkq;rw[h]
noncomputable abbrev zpz:D:=D.str [109,111,114,101]
noncomputable def enM(e:Pth×List Td):D:=.tup [pD e.1,.lst (e.2.map TdD++[zpz])]
theorem zty{i j:Nat}{g:Rho->Out}{ρ:Rho}{E:List (Pth×List Td)}(h1:E.length<=9000)(h2:∀e∈E,e.2.length<=2000)(h3:j<ρ.length):zkv i j 2000 zpz g (.lst (E.map enD)) ρ=g ((ρ.set j none).set i (some (.ow (E.map enM)))):=by
 unfold zkv;dsimp only
 rw[if_pos ⟨by rw[List.length_map];exact h1,List.all_eq_true.mpr λ d hd=>by
  obtain⟨e,he,rfl⟩:=vb.mp hd;exact ub (by rw[ia];exact h2 e he),h3⟩,zd];rfl
theorem z2m(E:List (Pth×List Td)):D.lst (E.map enD)=zjc (E.map λe=>(pD e.1,e.2.map TdD)):=by
 unfold zjc;rw[zd];rfl
theorem z2n{f:Rho->Option D}{ρ:Rho}{E:List (Pth×List Td)}(h:f ρ=some (.lst (E.map enD))):fRs f ρ=some (.lst (E.map enD)):=by
 rw[z2m]at h ⊢;exact z56 h
theorem z2o(ts:List Td):zdm (.lst (ts.map TdD++[zpz])) (.lst (ts.map TdD++[zpz]))=some (.bl false):=by
 refine zms ?_ λd hd=>?_
 ·rw[show LV=8+1 from rfl,dOk]
  refine jd.mpr λd hd=>?_
  rcases ac.mp hd with hd|hd
  ·obtain⟨t,_,rfl⟩:=vb.mp hd;rfl
  ·rw[zb.mp hd];rfl
 ·rcases ac.mp hd with hd|hd
  ·obtain⟨t,_,rfl⟩:=vb.mp hd;exact zy9 t
  ·rw[zb.mp hd]
   have:=zi3 [[109,111,114,101]] [[109,111,114,101]]
   rw[ub rfl,ja,me,zb7,zb7,uq]at this;exact this
noncomputable def z65:Rho->Out:=(sIf (tE (e2 zdm (e2 gIx (e2 gIx (zaa 9) (zaa 11)) (eC (.int 1))) (e2 zbg (e2 gIx (e2 gIx (zaa 6) (zaa 11)) (eC (.int 1))) (eN za0 (aC (eC (.str [109,111,114,101])) aN))))) (zb4 (eC (.bl false))) za2)
theorem ztz(E:List (Pth×List Td))(hE:∀e∈E,e.2.length<=2000)(a0 a1 a2 a3 a4 a5 a7 a8 a10 a12:Option Sl):∀(n k:Nat) (z:Option Sl),k+n<=E.length->∃z',zea (gN 11) z65 (zif ((k:Nat):Int) n) [a0,a1,a2,a3,a4,a5,some (.sh (.lst (E.map enD))),a7,a8,some (.ow (E.map enM)),a10,z,a12]=.nx [a0,a1,a2,a3,a4,a5,some (.sh (.lst (E.map enD))),a7,a8,some (.ow (E.map enM)),a10,z',a12]
 |0,k,z,_=>⟨z,rfl⟩
 |n+1,k,z,h=>by
  obtain⟨z',ih⟩:=ztz E hE a0 a1 a2 a3 a4 a5 a7 a8 a10 a12 n (k+1) (some (.sh (.int (k:Nat)))) (by omega);refine⟨z',?_⟩;rw[zd5,<-ih];have hk:k<E.length:=by omega
  have hl:=hE E[k] (ye hk);have h1:gIx (.lst (E.map enM)) (.int (k:Nat))=some (enM E[k]):=zr2.trans (ze2 (by rw[pc,ed hk];rfl));have h2:gIx (.lst (E.map enD)) (.int (k:Nat))=some (enD E[k]):=zr2.trans (ze2 (by rw[pc,ed hk];rfl));refine zay rfl ((zd1 (zbz (zad (d:=.lst (E[k].2.map TdD++[zpz])) (e:=.lst (E[k].2.map TdD++[zpz])) (zad (zad rfl rfl h1) rfl rfl) (zad (d:=.lst (E[k].2.map TdD)) (e:=.lst [zpz]) (zad (zad rfl rfl h2) rfl rfl) rfl (zr5 (sz (by rw[ia,pd];omega)))) (z2o _)))).trans rfl)
theorem z2p{pg:List Int}(hpg:pg.length<=62){ms:List M4}{ks:List Pth}:∀e∈enF pg ms ks,e.2.length<=62:=λe he=>by
 obtain⟨p,_,rfl⟩:=vb.mp he;have h1:=zwb (zf4 (zar pg ((ofP p ms).map (·.2))));rw[zi6]at h1;have h2:=(zcr pg ((ofP p ms).map (·.2))).len;show (zwa _).length<=62;omega
theorem zwl(ns:List Int)(hl:ns.length<=63):zi1 [.lst (ns.map D.int)]=some (.bl true):=by
 generalize hbs:((ns.drop 1).take 300).map (λc=>decide (c % 7=3))=bs;have hb:bs.length<=62:=by rw[<-hbs];simp;omega
 have hbook:=z2l ((ns.drop 1).take 300) (by simp;omega);rw[hbs]at hbook;obtain⟨ms,hms,gms,lms⟩:=zwi ((ns.drop 1).take 18) (by simp;omega) (dAt ns 1) bs.length (by omega)
 have lm:ms.length<=18:=by
  have:((ns.drop 1).take 18).length<=18:=by simp;omega
  omega
 obtain⟨a,b,ha,hset⟩:=zmr (dAt ns 0);have c0:=zk3 ns 0;have c1:=zk3 ns 1;have g1:gSl (.lst (ns.map D.int)) (some 1) (some 301)=some (.lst (((ns.drop 1).take 300).map D.int)):=zyh (a:=1) (b:=301) (by decide);have g2:gSl (.lst (ns.map D.int)) (some 1) (some 19)=some (.lst (((ns.drop 1).take 18).map D.int)):=zyh (a:=1) (b:=19) (by decide)
 have e0:∀ρ:Rho,zaa 0 ρ=some (.lst (ns.map D.int))->eSl (zaa 0) (oS (eC (.int 1))) (oS (eC (.int 301))) ρ=some (.lst (((ns.drop 1).take 300).map D.int)):=λρ h=>by
  unfold eSl;rw[h];exact g1
 have e9:∀ρ:Rho,zaa 0 ρ=some (.lst (ns.map D.int))->eSl (zaa 0) (oS (eC (.int 1))) (oS (eC (.int 19))) ρ=some (.lst (((ns.drop 1).take 18).map D.int)):=λρ h=>by
  unfold eSl;rw[h];exact g2
 have hif:∃M:List M4,sIf (zc9 (tE (e2 zcc (e2 zb5 (e2 zdf (zaa 1) (eC (.int 11))) (eC (.int 3))) (eC (.int 1)))) (tE (e2 zdm (zaa 5) (eN za0 aN)))) (zda 5 (eN zbd (aC (e2 gIx (e2 gIx (zaa 5) (e1 zgl (eC (.int 1)))) (eC (.int 0))) (aC (eC (.int 0)) (aC (e2 zid (eN zd8 (aC (zaa 4) aN)) (eC (.int 1))) (aC (e2 zcc (e2 zb5 (zaa 1) (eC (.int 2))) (eC (.int 0))) aN)))))) za2 [some (.sh (.lst (ns.map D.int))),some (.sh (.int (dAt ns 0))),some (.sh (.int a)),some (.sh (.int b)),some (.sh (.lst (bs.map D.bl))),some (.ow (ms.map mkE)),none,none,none,none,none,none,none]=.nx [some (.sh (.lst (ns.map D.int))),some (.sh (.int (dAt ns 0))),some (.sh (.int a)),some (.sh (.int b)),some (.sh (.lst (bs.map D.bl))),some (.ow (M.map mkE)),none,none,none,none,none,none,none]/\(∀x∈M,GdK bs.length x)/\M.length<=19:=by
  have dkm:dOk LV (.lst (ms.map mkE))=true:=by
   rw[show LV=5+4 from rfl];exact z6j.dkl (λd hd=>by obtain⟨x,hx,rfl⟩:=vb.mp hd;exact zti (gms x hx).p) 5
  have q:zc9 (tE (e2 zcc (e2 zb5 (e2 zdf (zaa 1) (eC (.int 11))) (eC (.int 3))) (eC (.int 1)))) (tE (e2 zdm (zaa 5) (eN za0 aN))) [some (.sh (.lst (ns.map D.int))),some (.sh (.int (dAt ns 0))),some (.sh (.int a)),some (.sh (.int b)),some (.sh (.lst (bs.map D.bl))),some (.ow (ms.map mkE)),none,none,none,none,none,none,none]=some (decide (dAt ns 0 / 11 % 3=1) && decide (ms.map mkE≠[])):=ziv (zbz (zad (zad (zad rfl rfl (zdo (by decide))) rfl (zb3 (by decide))) rfl (zd2 zeu))) λ_=>zbz (zad rfl rfl (zwd dkm))
  by_cases hc:dAt ns 0 / 11 % 3=1/\ms.map mkE≠[]
  ·rw[ub hc.1,ub hc.2]at q
   obtain⟨init,x,rfl⟩:∃init x,ms=init++[x]:=by
    have hne:ms≠[]:=λz=>hc.2 (by rw[z];rfl)
    exact⟨ms.dropLast,ms.getLast hne,(List.dropLast_concat_getLast hne).symm⟩
   have gx:=gms x (uc _ (zb.mpr rfl));have hn:1<=bs.length:=by have:=gx.hi;omega
   have hat:atI ((init++[x]).map mkE) (-1)=some (mkE x):=by rw[xb];exact zmo _ _
   refine⟨init++[x]++[(x.1,0,bs.length - 1,decide (dAt ns 0 % 2=0))],(zka q).trans ((zc6 (ds:=(init++[x]).map mkE) (d:=mkE (x.1,0,bs.length - 1,decide (dAt ns 0 % 2=0))) rfl (zbv (ds:=[pD x.1,.int 0,.int (((bs.length:Nat):Int) - 1),.bl (decide (dAt ns 0 % 2=0))]) (zak (zad (zad rfl rfl hat) rfl rfl) (zak rfl (zak (zad (zbv rfl ybo) rfl zr1) (zak (zad (zad rfl rfl (zb3 (by decide))) rfl (zd2 zeu)) rfl)))) ?_) (by rw[ia];omega)).trans ?_),λw hw=>?_,?_⟩
   ·show some (D.tup [pD x.1,.int 0,.int (((bs.length:Nat):Int) - 1),.bl (decide (dAt ns 0 % 2=0))])=some (D.tup [pD x.1,.int ((0:Nat):Int),.int ((bs.length - 1:Nat):Int),.bl (decide (dAt ns 0 % 2=0))])
    rw[show ((bs.length - 1:Nat):Int)=((bs.length:Nat):Int) - 1 by omega];rfl
   ·rw[xb (l₂:=[(x.1,0,bs.length - 1,decide (dAt ns 0 % 2=0))])];rfl
   ·rcases ac.mp hw with hw|hw
    ·exact gms w hw
    ·rw[zb.mp hw]
     exact⟨gx.p,vd _,by show bs.length - 1<bs.length;omega⟩
   ·rw[jc,pd];omega
  ·have:(decide (dAt ns 0 / 11 % 3=1) && decide (ms.map mkE≠[]))=false:=by
    rw[Bool.and_eq_false_iff,on,on];exact(Classical.not_and_iff_not_or_not.mp hc)
   rw[this]at q;exact⟨ms,(zd1 q).trans rfl,gms,by omega⟩
 obtain⟨M,hif,gM,lM⟩:=hif;have pl:=zi7 a bs b 0;have e3:=ztg bs (by omega) ha b;have gP:∀x∈M,GdK (pgF a b 0 bs).length x:=λx hx=>by rw[pl];exact gM x hx
 obtain⟨ks,S,e4⟩:=zg6 gP (by omega) (by omega);have sub1:∀x∈M.drop 1,x∈M:=λx hx=>ii hx
 obtain⟨ls,S1,e5⟩:=zg6 (ms:=M.drop 1) (λx hx=>gP x (sub1 x hx)) (by omega) (by rw[xj];omega);obtain⟨k,hk⟩:∃k:Nat,dAt ns 0 % 4=((k:Nat):Int):=⟨(dAt ns 0 % 4).toNat,by omega⟩
 have hN:∀x,x∈M.reverse++M.take k↔x∈M:=λx=>by
  rw[ac,qf];exact⟨λh=>h.elim id vj,.inl⟩
 have lN:(M.reverse++M.take k).length<=60:=by
  rw[jc,dm,ph];omega
 have f1:=zld bs hb hN gM lN (by omega) a b S;have f2:=zld (ns:=M.drop 1) bs hb (λx=>Iff.rfl) (λx hx=>gM x (sub1 x hx)) (by rw[xj];omega) (by rw[xj];omega) a b S1;have hE:∀e∈enF (pgF a b 0 bs) M ks,e.2.length<=62:=z2p (by omega)
 have kl:(enF (pgF a b 0 bs) M ks).length<=200:=by
  have h3:=ndl S.nd λp hpp=>(S.mem p).mp hpp
  have h4:=zc7 λx hx=>(gM x hx).p
  unfold enF;rw[ia];omega
 generalize pgF a b 0 bs=pg at *;generalize enF pg M ks=E at *;generalize enF pg (M.drop 1) ls=E1 at *
 have hand:∀ρ:Rho,zaa 5 ρ=some (.lst (M.map mkE))->zaa 1 ρ=some (.int (dAt ns 0))->e2 zbg (eL (wN z04 (aC (zaa 5) aN))) (eSl (zaa 5) oN (oS (e2 zb5 (zaa 1) (eC (.int 4))))) ρ=some (.lst ((M.reverse++M.take k).map mkE)):=λρ h5 h1=>by
  have r1:eL (wN z04 (aC (zaa 5) aN)) ρ=some (.lst (M.reverse.map mkE)):=by
   refine zgo ?_;unfold wN aC;rw[h5];show z04 [.lst (M.map mkE)]=_;rw[List.map_reverse];rfl
  have r2:eSl (zaa 5) oN (oS (e2 zb5 (zaa 1) (eC (.int 4)))) ρ=some (.lst ((M.take k).map mkE)):=by
   have r3:e2 zb5 (zaa 1) (eC (.int 4)) ρ=some (.int ((k:Nat):Int)):=(zad h1 rfl (zb3 (by decide))).trans (by rw[hk]);unfold eSl oS;rw[h5,r3];show some (D.lst (zht (M.map mkE) none (some ((k:Nat):Int))))=_;rw[zim,zr3]
  refine zad r1 r2 ((zr5 (sz (by rw[ia,ia];rw[jc]at lN;omega))).trans ?_);rw[xb]
 have drp:∀ρ:Rho,zaa 5 ρ=some (.lst (M.map mkE))->eSl (zaa 5) (oS (eC (.int 1))) oN ρ=some (.lst ((M.drop 1).map mkE)):=λρ h5=>by
  unfold eSl;rw[h5];show some (D.lst (zht (M.map mkE) (some ((1:Nat):Int)) none))=_;rw[zim,zva]
 have gN:∀ {l:List M4},(∀ x,x∈l->x∈M)->zdm (.lst (l.map mkE)) (.lst (l.map mkE))=some (.bl false):=λ {l} h=>zrz (z6j.eql λ d hd=>by
  obtain⟨x,hx,rfl⟩:=vb.mp hd;exact zti (gM x (h x hx)).p)
 have nb:zdm (.lst (bs.map D.bl)) (.lst (bs.map D.bl))=some (.bl false):=by
  refine zms ?_ λd hd=>?_
  ·rw[show LV=8+1 from rfl,dOk]
   exact jd.mpr λd hd=>by obtain⟨x,_,rfl⟩:=vb.mp hd;rfl
  ·obtain⟨x,_,rfl⟩:=vb.mp hd
   rw[zr7,xn]
 obtain⟨z',ck⟩:=ztz E (λe he=>ie (hE e he) (by decide)) (some (.sh (.lst (ns.map D.int)))) (some (.sh (.int (dAt ns 0)))) (some (.sh (.int a))) (some (.sh (.int b))) (some (.sh (.lst (bs.map D.bl)))) (some (.sh (.lst (M.map mkE)))) (some (.sh (.lst ((M.reverse++M.take k).map mkE)))) (some (.sh (.lst (bs.map D.bl)))) none none E.length 0 none (by omega);refine zby rfl (st (zaq (zam rfl rfl c0)) (st (zwj (zam rfl rfl hset) rfl) (st (zaq (zam (zak (e0 _ rfl) rfl) rfl hbook)) (st (z0v (zi4 (zak (e9 _ rfl) (zak (zam rfl rfl c1) (zak (zbv rfl ybo) rfl))) rfl hms)) (st hif ?_)))));show zat _ _ [some (.sh (.lst (ns.map D.int))),some (.sh (.int (dAt ns 0))),some (.sh (.int a)),some (.sh (.int b)),some (.sh (.lst (bs.map D.bl))),some (.sh (.lst (M.map mkE))),none,none,none,none,none,none,none]=_;refine st (zaq (zam (zak (zam rfl rfl e3) rfl) rfl e4)) (st (zaq (hand _ rfl rfl)) (st (zaq (d:=.lst (bs.map D.bl)) rfl) ?_));refine(ztx rfl (z2n (zam rfl rfl f1))).trans ((zwk (zhg (zcp (zbz (zam rfl rfl (zi9 E)))) (zhg (zbz (zad rfl rfl nb)) (zbz (zad rfl (hand _ rfl rfl) (gN λx hx=>(hN x).mp hx)))))).trans ((zty (by omega) (λe he=>ie (hE e he) (by decide)) (dc (show 10<13 by decide) (wa _))).trans ?_));refine st (zbc (ds:=zif ((0:Nat):Int) E.length) (zpc (ds:=[.int ((E.length:Nat):Int)]) (zak (zbv rfl ?_) rfl) ?_) ck) (st (zc6 (ds:=E.map enM) (d:=zpz) rfl rfl (by rw[ia];omega)) (st (zaq (zam (zak (zam rfl rfl e3) (zak (drp _ rfl) rfl)) rfl e5)) (st ((zd1 (zcp (zbz (zam (zak (z2n (zam (zak rfl (zak rfl (zak rfl (zak (drp _ rfl) rfl)))) rfl f2)) rfl) rfl (zi9 E1))))).trans rfl) (zbu (zam (zak (z2n (zam rfl rfl f1)) rfl) rfl (zi9 E))))))
 ·show some (D.int (((E.map enD).length:Nat):Int))=_
  rw[ia]
 ·rw[zl2 (n:=E.length) rfl (by omega)]
  unfold zif;exact zc some (xf λk _=>by rw[show ((0:Nat):Int)+(k:Int)=(k:Int) by omega])
end K15
set_option maxHeartbeats 4000000
namespace K15
open PySem L2
noncomputable abbrev zwm:Stmt:=top 1
noncomputable abbrev zwn:Stmt:=top 7
noncomputable abbrev zwo:Stmt:=top 8
noncomputable abbrev zwp:Stmt:=top 9
noncomputable abbrev zwq:Stmt:=top 11
noncomputable abbrev zwr:Stmt:=top 12
noncomputable abbrev zws:Stmt:=top 13
noncomputable abbrev z7x:Stmt:=top 14
noncomputable abbrev z7y:Stmt:=top 16
noncomputable abbrev z7z:Stmt:=top 17
noncomputable abbrev zwt:Stmt:=top 18
noncomputable abbrev zwu:Stmt:=top 20
noncomputable abbrev z70:Stmt:=top 21
noncomputable abbrev z71:Stmt:=top 22
noncomputable abbrev z72:Stmt:=top 24
noncomputable abbrev z73:Stmt:=top 25
noncomputable abbrev z74:Stmt:=top 26
noncomputable abbrev z75:Stmt:=top 27
noncomputable abbrev z76:Stmt:=top 28
noncomputable abbrev z77:Stmt:=top 29
noncomputable abbrev zwv:Stmt:=top 30
noncomputable abbrev z78:Stmt:=top 31
noncomputable abbrev z79:Stmt:=top 32
noncomputable abbrev z8a:Stmt:=top 33
noncomputable abbrev zww:Stmt:=top 34
noncomputable abbrev z8b:Stmt:=top 35
noncomputable abbrev z8c:Stmt:=top 36
noncomputable abbrev zmt:Stmt:=top 37
theorem zfm:FnScope ["book","most","first","told","page","filled","new"] ["book","most","first"] (zag zwm):=⟨rfl,rfl,rfl,by decide +kernel,rfl,by decide +kernel,by decide +kernel⟩
theorem zzb:FnScope ["head","bar"] ["head"] (zag zwn):=⟨rfl,rfl,rfl,by decide +kernel,rfl,by decide +kernel,by decide +kernel⟩
theorem z66:FnScope ["head"] ["head"] (zag zwo):=⟨rfl,rfl,rfl,by decide +kernel,rfl,by decide +kernel,by decide +kernel⟩
theorem z67:FnScope ["path"] ["path"] (zag zwp):=⟨rfl,rfl,rfl,by decide +kernel,rfl,by decide +kernel,by decide +kernel⟩
theorem z68:FnScope ["mark","many"] ["mark","many"] (zag zwq):=⟨rfl,rfl,rfl,by decide +kernel,rfl,by decide +kernel,by decide +kernel⟩
theorem zg7:FnScope ["hands","found","hand","path","first","last","most"] ["hands"] (zag zwr):=⟨rfl,rfl,rfl,by decide +kernel,rfl,by decide +kernel,by decide +kernel⟩
theorem z69:FnScope ["path"] ["path"] (zag zws):=⟨rfl,rfl,rfl,by decide +kernel,rfl,by decide +kernel,by decide +kernel⟩
theorem yap:FnScope ["mark"] ["mark"] (zag z7x):=⟨rfl,rfl,rfl,by decide +kernel,rfl,by decide +kernel,by decide +kernel⟩
theorem zwx:FnScope ["numbers","marks","strong","told","page"] ["numbers","marks"] (zag z7y):=⟨rfl,rfl,rfl,by decide +kernel,rfl,by decide +kernel,by decide +kernel⟩
theorem zmu:FnScope ["numbers","marks","strong","path","first","last","most","page"] ["numbers","marks"] (zag z7z):=⟨rfl,rfl,rfl,by decide +kernel,rfl,by decide +kernel,by decide +kernel⟩
theorem z7a:FnScope ["stretch","page","is_strong"] ["stretch","page","is_strong"] (zag zwt):=⟨rfl,rfl,rfl,by decide +kernel,rfl,by decide +kernel,by decide +kernel⟩
theorem zor:FnScope ["book","most","first","marks","ordered","numbers","found"] ["book","most","first","marks"] (zag zwu):=⟨rfl,rfl,rfl,by decide +kernel,rfl,by decide +kernel,by decide +kernel⟩
theorem z7b:FnScope ["ordered","many","mark"] ["ordered","many"] (zag z70):=⟨rfl,rfl,rfl,by decide +kernel,rfl,by decide +kernel,by decide +kernel⟩
theorem zt0:FnScope ["ordered","found","mark","path","many"] ["ordered"] (zag z71):=⟨rfl,rfl,rfl,by decide +kernel,rfl,by decide +kernel,by decide +kernel⟩
theorem yaq:FnScope ["_law_script","_law_k"] ["_law_script","_law_k"] (zag z72):=⟨rfl,rfl,rfl,by decide +kernel,rfl,by decide +kernel,by decide +kernel⟩
theorem yar:FnScope ["_law_found"] ["_law_found"] (zag z73):=⟨rfl,rfl,rfl,by decide +kernel,rfl,by decide +kernel,by decide +kernel⟩
theorem zg8:FnScope ["_law_cell","_law_k","_law_signs","_law_size","_law_at","_law_way","_law_word","_law_other","_law_j","_law_place"] ["_law_cell","_law_k"] (zag z74):=⟨rfl,rfl,rfl,by decide +kernel,rfl,by decide +kernel,by decide +kernel⟩
theorem z2q:FnScope ["_law_cell","_law_by","_law_heads","_law_j"] ["_law_cell","_law_by"] (zag z75):=⟨rfl,rfl,rfl,by decide +kernel,rfl,by decide +kernel,by decide +kernel⟩
theorem zwy:FnScope ["_law_head","_law_ahead","_law_turn","_law_behind"] ["_law_head"] (zag z76):=⟨rfl,rfl,rfl,by decide +kernel,rfl,by decide +kernel,by decide +kernel⟩
theorem zpo:FnScope ["_law_path","_law_found","_law_head","_law_letters","_law_sign"] ["_law_path"] (zag z77):=⟨rfl,rfl,rfl,by decide +kernel,rfl,by decide +kernel,by decide +kernel⟩
theorem z7c:FnScope ["_law_cells"] ["_law_cells"] (zag zwv):=⟨rfl,rfl,rfl,by decide +kernel,rfl,by decide +kernel,by decide +kernel⟩
theorem zle:FnScope ["_law_book_here","_law_most","_law_first","_law_numbers","_law_page","_law_there","_law_new"] ["_law_book_here","_law_most","_law_first"] (zag z78):=⟨rfl,rfl,rfl,by decide +kernel,rfl,by decide +kernel,by decide +kernel⟩
theorem z7d:FnScope ["_law_by","_law_most"] ["_law_by"] (zag z79):=⟨rfl,rfl,rfl,by decide +kernel,rfl,by decide +kernel,by decide +kernel⟩
theorem zt1:FnScope ["_law_cells","_law_by","_law_many","_law_marks_here","_law_cell","_law_low","_law_high"] ["_law_cells","_law_by","_law_many"] (zag z8a):=⟨rfl,rfl,rfl,by decide +kernel,rfl,by decide +kernel,by decide +kernel⟩
theorem ze0:FnScope ["_law_numbers","_law_marks_here","_law_strong","_law_path","_law_low","_law_high","_law_most","_law_row","_law_found","_law_page"] ["_law_numbers","_law_marks_here"] (zag zww):=⟨rfl,rfl,rfl,by decide +kernel,rfl,by decide +kernel,by decide +kernel⟩
theorem zpp:FnScope ["_law_numbers","_law_marks_here","_law_paths","_law_mark","_law_k","_law_found","_law_path"] ["_law_numbers","_law_marks_here"] (zag z8b):=⟨rfl,rfl,rfl,by decide +kernel,rfl,by decide +kernel,by decide +kernel⟩
theorem z2r:FnScope ["_law_found","_law_due","_law_row","_law_part"] ["_law_found","_law_due"] (zag z8c):=⟨rfl,rfl,rfl,by decide +kernel,rfl,by decide +kernel,by decide +kernel⟩
theorem zc8:FnScope ["_law_script","_law_by","_law_most","_law_first","_law_book_here","_law_marks_here","_law_due","_law_handed","_law_some","_law_found","_law_row","_law_k","_law_fewer"] ["_law_script"] (zag zmt):=⟨rfl,rfl,rfl,by decide +kernel,rfl,by decide +kernel,by decide +kernel⟩
noncomputable abbrev zbo:Str:="abcdefghijklmnopqrstuvwxyzABCDEFGHIJKLMNOPQRSTUVWXYZ0123456789"
structure Adr where
 f_q17:Addr
 fd_q17:FuncData
 f_q18:Addr
 fd_q18:FuncData
 f_q15:Addr
 fd_q15:FuncData
 f_q19:Addr
 fd_q19:FuncData
 f_q1a:Addr
 fd_q1a:FuncData
 f_q14:Addr
 fd_q14:FuncData
 f_q16:Addr
 fd_q16:FuncData
 f_q8:Addr
 fd_q8:FuncData
 f_qa:Addr
 fd_qa:FuncData
 f_q0:Addr
 fd_q0:FuncData
 f_q13:Addr
 fd_q13:FuncData
 f_q12:Addr
 fd_q12:FuncData
 f_q2:Addr
 fd_q2:FuncData
 f_q1:Addr
 fd_q1:FuncData
 f_q5:Addr
 fd_q5:FuncData
 f_qc:Addr
 fd_qc:FuncData
 f_q7:Addr
 fd_q7:FuncData
 f_q6:Addr
 fd_q6:FuncData
 f_qb:Addr
 fd_qb:FuncData
 f_qf:Addr
 fd_qf:FuncData
 f_q11:Addr
 fd_q11:FuncData
 f_qd:Addr
 fd_qd:FuncData
 f_q3:Addr
 fd_q3:FuncData
 f_q9:Addr
 fd_q9:FuncData
 f_q10:Addr
 fd_q10:FuncData
 f_q4:Addr
 fd_q4:FuncData
 f_qe:Addr
 fd_qe:FuncData
 f_q1b:Addr
 fd_q1b:FuncData
 tk_LETTERS_AND_FIGURES:Tok
structure Txt(K:PySem.W.Frag)(mg:Str->Option Value)(t:Adr):Prop where
 d_q17:Df K mg "pages" zwm ["book","most","first"] t.f_q17 t.fd_q17
 d_q18:Df K mg "shown" zwn ["head"] t.f_q18 t.fd_q18
 d_q15:Df K mg "key_of" zwo ["head"] t.f_q15 t.fd_q15
 d_q19:Df K mg "rank" zwp ["path"] t.f_q19 t.fd_q19
 d_q1a:Df K mg "fits" zwq ["mark","many"] t.f_q1a t.fd_q1a
 d_q14:Df K mg "poured" zwr ["hands"] t.f_q14 t.fd_q14
 d_q16:Df K mg "copied" zws ["path"] t.f_q16 t.fd_q16
 d_q8:Df K mg "mark_rank" z7x ["mark"] t.f_q8 t.fd_q8
 d_qa:Df K mg "stretches" z7y ["numbers","marks"] t.f_qa t.fd_qa
 d_q0:Df K mg "strong_by_page" z7z ["numbers","marks"] t.f_q0 t.fd_q0
 d_q13:Df K mg "goes_on" zwt ["stretch","page","is_strong"] t.f_q13 t.fd_q13
 d_q12:Df K mg "entries" zwu ["book","most","first","marks"] t.f_q12 t.fd_q12
 d_q2:Df K mg "refuse_unfit" z70 ["ordered","many"] t.f_q2 t.fd_q2
 d_q1:Df K mg "marks_by_path" z71 ["ordered"] t.f_q1 t.fd_q1
 d_q5:Df K mg "_law_cell_at" z72 ["_law_script","_law_k"] t.f_q5 t.fd_q5
 d_qc:Df K mg "_law_whole" z73 ["_law_found"] t.f_qc t.fd_qc
 d_q7:Df K mg "_law_head_by" z74 ["_law_cell","_law_k"] t.f_q7 t.fd_q7
 d_q6:Df K mg "_law_path_by" z75 ["_law_cell","_law_by"] t.f_q6 t.fd_q6
 d_qb:Df K mg "_law_shown" z76 ["_law_head"] t.f_qb t.fd_qb
 d_qf:Df K mg "_law_rank" z77 ["_law_path"] t.f_qf t.fd_qf
 d_q11:Df K mg "_law_book" zwv ["_law_cells"] t.f_q11 t.fd_q11
 d_qd:Df K mg "_law_pages" z78 ["_law_book_here","_law_most","_law_first"] t.f_qd t.fd_qd
 d_q3:Df K mg "_law_settings" z79 ["_law_by"] t.f_q3 t.fd_q3
 d_q9:Df K mg "_law_marks" z8a ["_law_cells","_law_by","_law_many"] t.f_q9 t.fd_q9
 d_q10:Df K mg "_law_runs" zww ["_law_numbers","_law_marks_here"] t.f_q10 t.fd_q10
 d_q4:Df K mg "_law_entries" z8b ["_law_numbers","_law_marks_here"] t.f_q4 t.fd_q4
 d_qe:Df K mg "_law_alike" z8c ["_law_found","_law_due"] t.f_qe t.fd_qe
 d_q1b:Df K mg "law" zmt ["_law_script"] t.f_q1b t.fd_q1b
 bool:mg "bool" = none
 int:mg "int" = none
 isinstance:mg "isinstance" = none
 len:mg "len" = none
 list:mg "list" = none
 min:mg "min" = none
 range:mg "range" = none
 reversed:mg "reversed" = none
 sorted:mg "sorted" = none
 tuple:mg "tuple" = none
 c_LETTERS_AND_FIGURES:mg "LETTERS_AND_FIGURES" = some (.str zbo t.tk_LETTERS_AND_FIGURES)
section
variable {P:Program}{w:World}{K:PySem.W.Frag}{mg:Str->Option Value}{base:Heap}{t:Adr}
theorem z7e(T:Txt K mg t):FnOk P w K mg base CX0 1 t.f_q17 t.fd_q17 ["book","most","first"] (spV K 3 zml):=by
 exact zfv (k:=0) (fs:=f_q17) rfl rfl rfl T.d_q17.F zfm λ cdv A outer s H E B hr=>(zah (zhf (i:=3) zfm.nd rfl (Or.inl rfl) (zes zbp))
   (zah (@zbl _ _ _ _ _ 4 _ _ zfm.nd rfl (Or.inl rfl) (zaj 2) rfl (.inl rfl))
   (zah (@zbl _ _ _ _ _ 5 _ _ zfm.nd rfl (Or.inl rfl) zaf rfl (.inl rfl))
   (zah (zc3 PassesOwn.never rfl (zjb (zaj 0)) (zcv (i:=6) zfm.nd rfl (Or.inl rfl)) (zah (zdh (PW.pt (zhq (zbr z8z z0o (zab 5) (v_b zaf) (zbe _)) (zgh (PW.pt (zia (zcl (zaj 6)) (zhp (zbr yca z9j (zab 5) (zab 1) (zbe _)))))))) (zah (@zbl _ _ _ _ _ 4 _ _ zfm.nd rfl (Or.inl rfl) (za9 zbk zau (zab 4) (v_b zaf)) rfl (.inl rfl))
   (zan (@zbl _ _ _ _ _ 5 _ _ zfm.nd rfl (lb rfl) zaf rfl (.inl rfl)))) zd0)
   (zah (@zbl _ _ _ _ _ 5 _ _ zfm.nd rfl (Or.inl rfl) (za9 zbk zau (zab 5) (v_b zaf)) rfl (.inl rfl))
   (zan (zgn (i:=3) rfl (zaj 4))))))
   (zpb 3 (zan (zbt (zaj 3))))))))
theorem zzc(T:Txt K mg t):FnOk P w K mg base CX0 1 t.f_q18 t.fd_q18 ["head"] (spV K 1 zhj):=by
 exact zfv (k:=0) (fs:=f_q18) rfl rfl rfl T.d_q18.F zzb λ cdv A outer s H E B hr=>(zah (zdh (zbr (zrj hr) znd (v_b (zde (l:=[124]) (by decide +kernel))) (zab 0) (by with_unfolding_all rfl)) (zan (zbt (zaj 0))) zd0)
   (zah (@zbl _ _ _ _ _ 1 _ _ zzb.nd rfl (Or.inl rfl) (v_m PySem.F.plainAttrs_str PySem.F.slot_str_index PySem.F.type_str_index zut zu5 (zab 0) (zbw (v_b (zde (l:=[124]) (by decide +kernel))) zb6)) rfl (.inl rfl))
   (zan (zbt (za9 zbk zau (v_b (za9 zbk zau (v_b (zps (zab 0) (zlz (v_b (za9 zbk zau (zab 1) (v_b zaf)))) zu2)) (v_b (zde (l:=[44,32]) (by decide +kernel))))) (v_b (zps (zab 0) zu2 (zlz (zab 1)))))))))
theorem z7f(T:Txt K mg t):FnOk P w K mg base CX0 2 t.f_q15 t.fd_q15 ["head"] (spV K 1 zkw):=by
 have G_q18:FnOk P w K mg base CX0 1 t.f_q18 t.fd_q18 ["head"] (spV K 1 zhj):=zzc T;exact zfv (k:=1) (fs:=f_q15) rfl rfl rfl T.d_q15.F z66 λcdv A outer s H E B hr=>(zan (zbt (z9o PySem.F.plainAttrs_str PySem.F.slot_str_lower PySem.F.type_str_lower zm6 znj (v_b (v_m PySem.F.plainAttrs_str PySem.F.slot_str_join PySem.F.type_str_join z0b z0r (v_b (zde (l:=[]) (by decide +kernel))) (zbw (v_b (zrt (znl rfl (vars:=["sign"]) (cap:=[]) (zjv [] rfl (by decide +kernel) (by decide +kernel) (by decide +kernel) .nil) (z39 .nil) (by decide) (by decide) (zrr (v_b (za4 G_q18 (hr.mono (by decide)) (by rfl) T.d_q18.m T.d_q18.F.kp T.d_q18.b (zao (zaj 0) zbp)))) (λ_ _ _ _=>(zcv (i:=0) (show List.Nodup (["sign"]:List Str) by decide +kernel) rfl (lb rfl))) (λ_ _ _ _=>(zxw (zbr (ycg hr) z9i (zab 0) (v_b (z0t (x:=zbo) (l:=LF) (by decide +kernel) (by rfl) T.c_LETTERS_AND_FIGURES)) (by with_unfolding_all rfl)))) (λ_ _ _ _=>(zaj 0))))) zb6))))))
theorem zzd(T:Txt K mg t):FnOk P w K mg base CX0 3 t.f_q19 t.fd_q19 ["path"] (spV K 1 zg2):=by
 have G_q15:FnOk P w K mg base CX0 2 t.f_q15 t.fd_q15 ["head"] (spV K 1 zkw):=z7f T;have G_q18:FnOk P w K mg base CX0 1 t.f_q18 t.fd_q18 ["head"] (spV K 1 zhj):=zzc T;exact zfv (k:=2) (fs:=f_q19) rfl rfl rfl T.d_q19.F z67 λcdv A outer s H E B hr=>(zan (zbt (zrt (znl rfl (vars:=["head"]) (cap:=[]) (zjv [] rfl (by decide +kernel) (by decide +kernel) (by decide +kernel) .nil) (z39 .nil) (by decide) (by decide) (zrr (zab 0)) (λ_ _ _ _=>(zcv (i:=0) (show List.Nodup (["head"]:List Str) by decide +kernel) rfl (lb rfl))) (λ_ _ _ _=>zrw) (λ_ _ _ _=>(zfo (zao (za4 G_q15 (hr.mono (by decide)) (by rfl) T.d_q15.m T.d_q15.F.kp T.d_q15.b (zao (zaj 0) zbp)) (zao (za4 G_q18 (hr.mono (by decide)) (by rfl) T.d_q18.m T.d_q18.F.kp T.d_q18.b (zao (zaj 0) zbp)) zbp))))))))
theorem z7g(T:Txt K mg t):FnOk P w K mg base CX0 1 t.f_q1a t.fd_q1a ["mark","many"] (spV K 2 zkx):=by
 exact zfv (k:=0) (fs:=f_q1a) rfl rfl rfl T.d_q1a.F z68 λcdv A outer s H E B hr=>(zan (zbt (zvw ybg ybg ybf (v_b zaf) (v_b (zcs (zab 0) (v_b zaf) (λ_ _=>rfl))) (v_b (zcs (zab 0) (v_b zaf) (λ_ _=>rfl))) (zab 1))))
theorem z7h(T:Txt K mg t):FnOk P w K mg base CX0 1 t.f_q16 t.fd_q16 ["path"] (spV K 1 zky):=by
 exact zfv (k:=0) (fs:=f_q16) rfl rfl rfl T.d_q16.F z69 λcdv A outer s H E B hr=>(zan (zbt (zo8 zel zng (by rfl) T.tuple zen (zbw (v_b (zo8 zq0 zrm (by rfl) T.list zge (zbw (zab 0) zb6))) zb6))))
theorem yas(T:Txt K mg t):FnOk P w K mg base CX0 4 t.f_q8 t.fd_q8 ["mark"] (spV K 1 zpn):=by
 have G_q19:FnOk P w K mg base CX0 3 t.f_q19 t.fd_q19 ["path"] (spV K 1 zg2):=zzd T;exact zfv (k:=3) (fs:=f_q8) rfl rfl rfl T.d_q8.F yap λcdv A outer s H E B hr=>(zan (zbt (zfo (zao (za4 G_q19 (hr.mono (by decide)) (by rfl) T.d_q19.m T.d_q19.F.kp T.d_q19.b (zao (zcs (zab 0) (v_b zaf) (λ_ _=>rfl)) zbp)) (zao (zcs (zab 0) (v_b zaf) (λ_ _=>rfl)) (zao (zcs (zab 0) (v_b zaf) (λ_ _=>rfl)) (zao (zcs (zab 0) (v_b zaf) (λ_ _=>rfl)) zbp)))))))
theorem z7i(T:Txt K mg t):FnOk P w K mg base CX0 6 t.f_q14 t.fd_q14 ["hands"] (spW K 1 zkz):=by
 have G_q16:FnOk P w K mg base CX0 1 t.f_q16 t.fd_q16 ["path"] (spV K 1 zky):=z7h T;have G_q8:FnOk P w K mg base CX0 4 t.f_q8 t.fd_q8 ["mark"] (spV K 1 zpn):=yas T;exact z9p (k:=5) (fs:=f_q14) rfl rfl rfl T.d_q14.F zg7 λcdv A outer s H E B hr=>(z5v (j:=1) [2,0,0,1] zg7.nd rfl (lb rfl) (z5s xc rfl (zjb (zaj 0)) (zcv (i:=2) zg7.nd rfl (lb rfl)) (by decide) (zme (by decide)) (z5t (z5s xc rfl (zjb (zaj 2)) (z40 rfl (zdy (zcv (i:=3) zg7.nd rfl (lb rfl)) (zdy (zcv (i:=4) zg7.nd rfl (lb rfl)) (zdy (zcv (i:=5) zg7.nd rfl (lb rfl)) (zdy (zcv (i:=6) zg7.nd rfl (lb rfl)) zrs))))) (by decide) (z95 (zvs (zme (by decide)) (zvs (zme (by decide)) (zvs (zme (by decide)) (zvs (zme (by decide)) z94))))) (z5t (z93 hr rfl (zfo (zao (za4 G_q16 (hr.mono (by decide)) (by rfl) T.d_q16.m T.d_q16.F.kp T.d_q16.b (zao (zaj 3) zbp)) (zao (zaj 4) (zao (zaj 5) (zao (zaj 6) zbp)))))))))) rfl G_q8 (hr.mono (by decide)).in2 (by rfl) T.sorted (by rfl) T.d_q8.m T.d_q8.b)
theorem z7j(T:Txt K mg t):FnOk P w K mg base CX0 1 t.f_q13 t.fd_q13 ["stretch","page","is_strong"] (spV K 3 ziy):=by
 exact zfv (k:=0) (fs:=f_q13) rfl rfl rfl T.d_q13.F z7a λcdv A outer s H E B hr=>(zan (zbt (zxf (zlv (znc hr) zep (v_b (za9 zbk zau (v_b (zcs (zab 0) (v_b zaf) (λ_ _=>rfl))) (v_b zaf))) (zab 1) (zbe _)) (zna (zlv (znc hr) zep (v_b (zcs (zab 0) (v_b zaf) (λ_ _=>rfl))) (zab 2) (zbe _))))))
theorem yat(T:Txt K mg t):FnOk P w K mg base CX0 1 t.f_q0 t.fd_q0 ["numbers","marks"] (spV K 2 z1z):=by
 exact zfv (k:=0) (fs:=f_q0) rfl rfl rfl T.d_q0.F zmu λ cdv A outer s H E B hr=>(zah (zx3 (j:=2) zmu.nd rfl (Or.inl rfl))
   (zah (zc3 PassesOwn.never rfl (zjb (zaj 1)) (z40 rfl (zdy (zcv (i:=3) zmu.nd rfl (Or.inl rfl)) (zdy (zcv (i:=4) zmu.nd rfl (Or.inl rfl)) (zdy (zcv (i:=5) zmu.nd rfl (Or.inl rfl)) (zdy (zcv (i:=6) zmu.nd rfl (Or.inl rfl)) zrs))))) (zan (zc3 PassesOwn.never rfl (zjb (zps (zab 0) (zlz (zab 4)) (zlz (v_b (za9 zbk zau (zab 5) (v_b zaf)))))) (zcv (i:=7) zmu.nd rfl (Or.inl rfl)) (zan (zx4 (j:=2) hr rfl (zab 7) (z4q (zaj 6) (zna (zr8 hr (zab 2) (zab 7) zt4))))))))
   (z5b 2 (zan (zbt (zaj 2))))))
theorem yau(T:Txt K mg t):FnOk P w K mg base CX0 2 t.f_qa t.fd_qa ["numbers","marks"] (spW K 2 zyk):=by
 have G_q13:FnOk P w K mg base CX0 1 t.f_q13 t.fd_q13 ["stretch","page","is_strong"] (spV K 3 ziy):=z7j T;have G_q0:FnOk P w K mg base CX0 1 t.f_q0 t.fd_q0 ["numbers","marks"] (spV K 2 z1z):=yat T
 exact z9p (k:=1) (fs:=f_qa) rfl rfl rfl T.d_qa.F zwx λ cdv A outer s H E B hr=>(zah (@zbl _ _ _ _ _ 2 _ _ zwx.nd rfl (Or.inl rfl) (za4 G_q0 (hr.mono (by decide)) (by rfl) T.d_q0.m T.d_q0.F.kp T.d_q0.b (zao (zaj 0) (zao (zaj 1) zbp))) rfl (.inl rfl))
   (zah (zhf (i:=3) zwx.nd rfl (Or.inl rfl) (zes zbp))
   (zah (zc3 PassesOwn.never rfl (zjb (zrt (znu rfl (by rfl) T.sorted (zbw (zab 2) zb6)))) (zcv (i:=4) zwx.nd rfl (Or.inl rfl)) (zan (zdh (PW.pt (zhq (zbr z8z z0o (v_b (zie zj5 zfj (by rfl) T.len zfg (zbw (zab 3) zb6))) (v_b zaf) (zbe _)) (zgh (zcl (za4 G_q13 (hr.mono (by decide)) (by rfl) T.d_q13.m T.d_q13.F.kp T.d_q13.b (zao (zcs (zab 3) (v_b (zj4 zaf)) (λ _ _=>rfl)) (zao (zaj 4) (zao (zl6 hr (zab 2) (zab 4) (λ _ _=>rfl)) zbp)))))))) (zan (zx5 (j:=3) rfl (v_b (zj4 zaf)) (zfo (zao (zcs (v_b (zcs (zab 3) (v_b (zj4 zaf)) (λ _ _=>rfl))) (v_b zaf) (λ _ _=>rfl)) (zao (zaj 4) (zao (zl6 hr (zab 2) (zab 4) (λ _ _=>rfl)) zbp)))))) (zan (zgn (i:=3) rfl (zfo (zao (zaj 4) (zao (zaj 4) (zao (zl6 hr (zab 2) (zab 4) (λ _ _=>rfl)) zbp)))))))))
   (zan (zxx 3)))))
theorem yav(T:Txt K mg t):FnOk P w K mg base CX0 1 t.f_q1 t.fd_q1 ["ordered"] (spV K 1 z10):=by
 exact zfv (k:=0) (fs:=f_q1) rfl rfl rfl T.d_q1.F zt0 λ cdv A outer s H E B hr=>(z53 (j:=1) zt0.nd rfl (Or.inl rfl) (z51 PassesOwn.never rfl (zjb (zaj 0)) (zcv (i:=2) zt0.nd rfl (Or.inl rfl)) (by decide) (zme (by decide)) z1k
   (zyd (yac (i:=3) (by decide) zt0.nd rfl (Or.inl rfl) (zcs (zab 2) (v_b zaf) (λ _ _=>rfl)))
   (zyd (z51 PassesOwn.never rfl (zih (by rfl) T.range (zbw (v_b zaf) (zbw (v_b (zie zj5 zfj (by rfl) T.len zfg (zbw (zab 3) zb6))) zb6))) (zcv (i:=4) zt0.nd rfl (Or.inl rfl)) (by decide) (zme (by decide)) z1k
   (z50 (ycu hr rfl (v_b (zps (zab 3) zu2 (zlz (zab 4)))) ⟨rfl,rfl,rfl,rfl⟩)))
   (z50 (ycv hr rfl (zab 3) (zaj 2) ⟨rfl,rfl,rfl,rfl⟩))))))
theorem yaw(T:Txt K mg t):FnOk P w K mg base CX0 2 t.f_q2 t.fd_q2 ["ordered","many"] (spV K 2 z11):=by
 have G_q1a:FnOk P w K mg base CX0 1 t.f_q1a t.fd_q1a ["mark","many"] (spV K 2 zkx):=z7g T;exact zfv (k:=1) (fs:=f_q2) rfl rfl rfl T.d_q2.F z7b λcdv A outer s H E B hr=>(zan (zc3 xc rfl (zjb (zaj 0)) (zcv (i:=2) z7b.nd rfl (lb rfl)) (zan (zdh (zdw (zcl (za4 G_q1a (hr.mono (by decide)) (by rfl) T.d_q1a.m T.d_q1a.F.kp T.d_q1a.b (zao (zaj 2) (zao (zaj 1) zbp))))) (zan yab) zd0))))
theorem z7k(T:Txt K mg t):FnOk P w K mg base CX0 8 t.f_q12 t.fd_q12 ["book","most","first","marks"] (spR K 4 ziz):=by
 have G_q1:FnOk P w K mg base CX0 1 t.f_q1 t.fd_q1 ["ordered"] (spV K 1 z10):=yav T;have G_q17:FnOk P w K mg base CX0 1 t.f_q17 t.fd_q17 ["book","most","first"] (spV K 3 zml):=z7e T;have G_q14:FnOk P w K mg base CX0 6 t.f_q14 t.fd_q14 ["hands"] (spW K 1 zkz):=z7i T;have G_q19:FnOk P w K mg base CX0 3 t.f_q19 t.fd_q19 ["path"] (spV K 1 zg2):=zzd T;have G_q2:FnOk P w K mg base CX0 2 t.f_q2 t.fd_q2 ["ordered","many"] (spV K 2 z11):=yaw T;have G_qa:FnOk P w K mg base CX0 2 t.f_qa t.fd_qa ["numbers","marks"] (spW K 2 zyk):=yau T
 exact ycs (k:=7) (fs:=f_q12) rfl rfl rfl T.d_q12.F zor λ cdv A outer s H E B hr=>(zn8 zsr (@zbl _ _ _ _ _ 4 _ _ zor.nd rfl (Or.inl rfl) (zrt (zl1 G_q14 (hr.mono (by decide)) (by rfl) T.d_q14.m T.d_q14.F.kp T.d_q14.b (zao (zfp (zao (zaj 3) zbp)) zbp))) rfl (.inl rfl))
   (zn8 z1w (z43 (za4 G_q2 (hr.mono (by decide)) (by rfl) T.d_q2.m T.d_q2.F.kp T.d_q2.b (zao (zaj 4) (zao (zie zj5 zfj (by rfl) T.len zfg (zbw (zab 0) zb6)) zbp))))
   (zn8 zsr (@zbl _ _ _ _ _ 5 _ _ zor.nd rfl (Or.inr rfl) (za4 G_q17 (hr.mono (by decide)) (by rfl) T.d_q17.m T.d_q17.F.kp T.d_q17.b (zao (zaj 0) (zao (zaj 1) (zao (zaj 2) zbp)))) rfl (.inl rfl))
   (zn8 zsr (@zbl _ _ _ _ _ 6 _ _ zor.nd rfl (Or.inr rfl) (za4 G_q1 (hr.mono (by decide)) (by rfl) T.d_q1.m T.d_q1.F.kp T.d_q1.b (zao (zaj 4) zbp)) rfl (.inl rfl))
   (z99 (z5z rfl (vars:=["path"]) (cap:=[5,6]) (zjv ["numbers","found"] rfl (by decide +kernel) (by decide +kernel) (by decide +kernel) (.cons (lb rfl) (.cons (lb rfl) .nil))) (z39 (.cons (⟨lc (by rfl),lc (by rfl)⟩) (.cons (⟨lc (by rfl),lc (by rfl)⟩) .nil))) (by decide) (by decide) (zrr (v_b (zrt (z1n rfl G_q19 (hr.mono (by decide)).in2 (by rfl) T.sorted (by rfl) T.d_q19.m T.d_q19.b (zab 6))))) (λ_ _ _ _=>(zcv (i:=0) (show List.Nodup (["path","numbers","found"]:List Str) by decide +kernel) rfl (lb rfl))) (λ_ _ _ _=>zrw) (λ_ _ _ _=>(z98 (zaj 0) (zl1 G_qa (hr.mono (by decide)) (by rfl) T.d_qa.m T.d_qa.F.kp T.d_qa.b (zao (zaj 1) (zao (zl6 hr (zab 2) (zab 0) (λ_ _=>rfl)) zbp)))))))))))
theorem yax(T:Txt K mg t):FnOk P w K mg base CX0 1 t.f_q5 t.fd_q5 ["_law_script","_law_k"] (spV K 2 zyl):=by
 exact zfv (k:=0) (fs:=f_q5) rfl rfl rfl T.d_q5.F yaq λ cdv A outer s H E B hr=>(zah (zdh (zbr (ych hr) z9k (zab 1) (v_b (zie zj5 zfj (by rfl) T.len zfg (zbw (zab 0) zb6))) (zbe _)) (zan (zbt (zcs (zab 0) (zab 1) (λ _ _=>rfl)))) zd0)
   (zan (zbt zaf)))
theorem yay(T:Txt K mg t):FnOk P w K mg base CX0 1 t.f_qc t.fd_qc ["_law_found"] (spV K 1 zt9):=by
 exact zfv (k:=0) (fs:=f_qc) rfl rfl rfl T.d_qc.F yar λcdv A outer s H E B hr=>(zan (zbt (zxf (zj6 z0q (by rfl) T.isinstance (zds (v:=.ty "int") (by rfl) T.int zq4 rfl) (zab 0)) (zna (z4r (zj6 znh (by rfl) T.isinstance (zds (v:=.ty "bool") (by rfl) T.bool zq5 rfl) (zab 0)))))))
theorem yaz(T:Txt K mg t):FnOk P w K mg base CX0 1 t.f_q7 t.fd_q7 ["_law_cell","_law_k"] (spV K 2 zua):=by
 exact zfv (k:=0) (fs:=f_q7) rfl rfl rfl T.d_q7.F zg8 λ cdv A outer s H E B hr=>(zah (@zbl _ _ _ _ _ 2 _ _ zg8.nd rfl (Or.inl rfl) (zde (l:=SG) (by decide +kernel)) rfl (.inl rfl))
   (zah (@zbl _ _ _ _ _ 3 _ _ zg8.nd rfl (Or.inl rfl) (za9 zbk zau (v_b zaf) (v_b (za9 zck zbj (v_b (za9 zbk zau (zab 0) (v_b (za9 zcj zcn (zab 1) (v_b zaf))))) (v_b zaf)))) rfl (.inl rfl))
   (zah (@zbl _ _ _ _ _ 4 _ _ zg8.nd rfl (Or.inl rfl) (za9 zck zbj (v_b (za9 zcj zcn (zab 0) (v_b zaf))) (zab 3)) rfl (.inl rfl))
   (zah (@zbl _ _ _ _ _ 5 _ _ zg8.nd rfl (Or.inl rfl) (za9 zck zbj (v_b (za9 zbk zau (v_b (za9 zcj zcn (zab 0) (v_b zaf))) (zab 1))) (v_b zaf)) rfl (.inl rfl))
   (zah (@zbl _ _ _ _ _ 6 _ _ zg8.nd rfl (Or.inl rfl) (zde (l:=[]) (by decide +kernel)) rfl (.inl rfl))
   (zah (@zbl _ _ _ _ _ 7 _ _ zg8.nd rfl (Or.inl rfl) (zde (l:=[]) (by decide +kernel)) rfl (.inl rfl))
   (zah (zc3 PassesOwn.never rfl (zig (by rfl) T.range (zbw (zab 3) zb6)) (zcv (i:=8) zg8.nd rfl (Or.inl rfl)) (zah (@zbl _ _ _ _ _ 9 _ _ zg8.nd rfl (Or.inl rfl) (za9 zbk zau (v_b (za9 zbk zau (v_b (za9 zcj zcn (zab 0) (v_b (za9 zbk zau (zab 8) (v_b zaf))))) (v_b (za9 zfi zdx (zab 8) (zab 8))))) (v_b (za9 zfi zdx (v_b (za9 zfi zdx (zab 1) (v_b (zo8 zxa zxo (by rfl) T.int zq4 (zbw (v_b (zlv (znc hr) zep (zab 8) (zab 4) (zbe _))) zb6))))) (v_b (zcs (v_b (zfp (zao zaf (zao zaf (zao zaf (zao zaf zbp)))))) (zab 5) (λ _ _=>rfl)))))) rfl (.inl rfl))
   (zah (@zbl _ _ _ _ _ 6 _ _ zg8.nd rfl (Or.inl rfl) (za9 zbk zau (zab 6) (v_b (zcs (zab 2) (v_b (za9 zck zbj (zab 9) (v_b zaf))) (λ _ _=>rfl)))) rfl (.inl rfl))
   (zan (@zbl _ _ _ _ _ 7 _ _ zg8.nd rfl (lb rfl) (za9 zbk zau (zab 7) (v_b (zcs (zab 2) (v_b (za9 zck zbj (v_b (za9 zbk zau (v_b (za9 zcj zcn (zab 0) (v_b (za9 zbk zau (zab 8) (v_b zaf))))) (v_b (za9 zfi zdx (zab 8) (v_b zaf))))) (v_b zaf))) (λ_ _=>rfl)))) rfl (.inl rfl))))))
   (zah (zdh (zbr (znc hr) zep (zab 5) (v_b zaf) (zbe _)) (zan (zbt (zaj 6))) zd0)
   (zan (zbt (za9 zbk zau (v_b (za9 zbk zau (zab 6) (v_b (zcs (v_b (zfp (zao (zde (l:=[]) (by decide +kernel)) (zao (zde (l:=[32]) (by decide +kernel)) (zao (zde (l:=[124]) (by decide +kernel)) (zao (zde (l:=[124]) (by decide +kernel)) zbp)))))) (zab 5) (λ_ _=>rfl))))) (v_b (zcs (v_b (zfp (zao (zde (l:=[]) (by decide +kernel)) (zao (zaj 7) (zao (zaj 7) (zao (zde (l:=[100,32,86,111]) (by decide +kernel)) zbp)))))) (zab 5) (λ_ _=>rfl))))))))))))))
theorem ya0(T:Txt K mg t):FnOk P w K mg base CX0 2 t.f_q6 t.fd_q6 ["_law_cell","_law_by"] (spV K 2 zym):=by
 have G_q7:FnOk P w K mg base CX0 1 t.f_q7 t.fd_q7 ["_law_cell","_law_k"] (spV K 2 zua):=yaz T
 exact zfv (k:=1) (fs:=f_q6) rfl rfl rfl T.d_q6.F z2q λ cdv A outer s H E B hr=>(zah (zhf (i:=2) z2q.nd rfl (Or.inl rfl) (zes zbp))
   (zah (zc3 PassesOwn.never rfl (zig (by rfl) T.range (zbw (v_b (zcs (v_b (zfp (zao zaf (zao zaf (zao zaf (zao zaf (zao zaf (zao zaf zbp)))))))) (v_b (za9 zck zbj (zab 0) (v_b zaf))) (λ _ _=>rfl))) zb6)) (zcv (i:=3) z2q.nd rfl (Or.inl rfl)) (zan (zgn (i:=2) rfl (za4 G_q7 (hr.mono (by decide)) (by rfl) T.d_q7.m T.d_q7.F.kp T.d_q7.b (zao (zaj 1) (zao (za9 zbk zau (v_b (za9 zck zbj (v_b (za9 zcj zcn (zab 0) (v_b (za9 zbk zau (v_b zaf) (v_b (za9 zfi zdx (zab 3) (zab 3))))))) (v_b zaf))) (v_b (za9 zfi zdx (v_b zaf) (v_b (za9 zck zbj (zab 3) (v_b zaf)))))) zbp))))))
   (zan (zbt (zo8 zel zng (by rfl) T.tuple zen (zbw (zab 2) zb6))))))
theorem ya1(T:Txt K mg t):FnOk P w K mg base CX0 1 t.f_qb t.fd_qb ["_law_head"] (spV K 1 zpw):=by
 exact zfv (k:=0) (fs:=f_qb) rfl rfl rfl T.d_qb.F zwy λ cdv A outer s H E B hr=>(zah (z42 (v_m PySem.F.plainAttrs_str PySem.F.slot_str_partition PySem.F.type_str_partition zjy zj8 (zab 0) (zbw (v_b (zde (l:=[124]) (by decide +kernel))) zb6)) (z40 rfl (zdy (zcv (i:=1) zwy.nd rfl (Or.inl rfl)) (zdy (zcv (i:=2) zwy.nd rfl (Or.inl rfl)) (zdy (zcv (i:=3) zwy.nd rfl (Or.inl rfl)) zrs)))))
   (zah (zdh (zbr (znc hr) zep (zab 2) (v_b (zde (l:=[]) (by decide +kernel))) (zbe _)) (zan (zbt (zaj 0))) zd0)
   (zan (zbt (za9 zbk zau (v_b (za9 zbk zau (zab 3) (v_b (zde (l:=[44,32]) (by decide +kernel))))) (zab 1))))))
theorem ya2(T:Txt K mg t):FnOk P w K mg base CX0 2 t.f_qf t.fd_qf ["_law_path"] (spV K 1 zub):=by
 have G_qb:FnOk P w K mg base CX0 1 t.f_qb t.fd_qb ["_law_head"] (spV K 1 zpw):=ya1 T
 exact zfv (k:=1) (fs:=f_qf) rfl rfl rfl T.d_qf.F zpo λ cdv A outer s H E B hr=>(zah (zhf (i:=1) zpo.nd rfl (Or.inl rfl) (zes zbp))
   (zah (zc3 PassesOwn.never rfl (zjb (zaj 0)) (zcv (i:=2) zpo.nd rfl (Or.inl rfl)) (zah (@zbl _ _ _ _ _ 3 _ _ zpo.nd rfl (Or.inl rfl) (zde (l:=[]) (by decide +kernel)) rfl (.inl rfl))
   (zah (zc3 PassesOwn.never rfl (zjb (za4 G_qb (hr.mono (by decide)) (by rfl) T.d_qb.m T.d_qb.F.kp T.d_qb.b (zao (zaj 2) zbp))) (zcv (i:=4) zpo.nd rfl (Or.inl rfl)) (zan (zdh (zcl (z9o PySem.F.plainAttrs_str PySem.F.slot_str_isalnum PySem.F.type_str_isalnum zo3 zo9 (zab 4))) (zan (@zbl _ _ _ _ _ 3 _ _ zpo.nd rfl (Or.inl rfl) (za9 zbk zau (zab 3) (v_b (z9o PySem.F.plainAttrs_str PySem.F.slot_str_lower PySem.F.type_str_lower zm6 znj (zab 4)))) rfl (.inl rfl))) zd0)))
   (zan (zgn (i:=1) rfl (zfo (zao (zaj 3) (zao (za4 G_qb (hr.mono (by decide)) (by rfl) T.d_qb.m T.d_qb.F.kp T.d_qb.b (zao (zaj 2) zbp)) zbp))))))))
   (zpb 1 (zan (zbt (zaj 1))))))
theorem z7l(T:Txt K mg t):FnOk P w K mg base CX0 1 t.f_q11 t.fd_q11 ["_law_cells"] (spV K 1 zmm):=by
 exact zfv (k:=0) (fs:=f_q11) rfl rfl rfl T.d_q11.F z7c λcdv A outer s H E B hr=>(zan (zbt (zrt (znl rfl (vars:=["_law_cell"]) (cap:=[]) (zjv [] rfl (by decide +kernel) (by decide +kernel) (by decide +kernel) .nil) (z39 .nil) (by decide) (by decide) (zrr (zab 0)) (λ_ _ _ _=>(zcv (i:=0) (show List.Nodup (["_law_cell"]:List Str) by decide +kernel) rfl (lb rfl))) (λ_ _ _ _=>zrw) (λ_ _ _ _=>(zlv (znc hr) zep (v_b (za9 zck zbj (zab 0) (v_b zaf))) (v_b zaf) (zbe _)))))))
theorem ya3(T:Txt K mg t):FnOk P w K mg base CX0 1 t.f_qd t.fd_qd ["_law_book_here","_law_most","_law_first"] (spV K 3 zyn):=by
 exact zfv (k:=0) (fs:=f_qd) rfl rfl rfl T.d_qd.F zle λ cdv A outer s H E B hr=>(zah (zhf (i:=3) zle.nd rfl (Or.inl rfl) (zes zbp))
   (zah (@zbl _ _ _ _ _ 4 _ _ zle.nd rfl (Or.inl rfl) (zaj 2) rfl (.inl rfl))
   (zah (@zbl _ _ _ _ _ 5 _ _ zle.nd rfl (Or.inl rfl) zaf rfl (.inl rfl))
   (zah (zc3 PassesOwn.never rfl (zjb (zaj 0)) (zcv (i:=6) zle.nd rfl (Or.inl rfl)) (zah (zdh (PW.pt (zhq (zbr (z0m hr) zlx (zab 3) (v_b (zfp zbp)) (zbe _)) (zgh (PW.pt (zia (zcl (zaj 6)) (zhp (zbr (znc hr) zep (zab 5) (zab 1) (zbe _)))))))) (zah (@zbl _ _ _ _ _ 4 _ _ zle.nd rfl (Or.inl rfl) (za9 zbk zau (zab 4) (v_b zaf)) rfl (.inl rfl))
   (zan (@zbl _ _ _ _ _ 5 _ _ zle.nd rfl (lb rfl) zaf rfl (.inl rfl)))) zd0)
   (zah (zgn (i:=3) rfl (zaj 4))
   (zan (@zbl _ _ _ _ _ 5 _ _ zle.nd rfl (lb rfl) (za9 zbk zau (zab 5) (v_b zaf)) rfl (.inl rfl))))))
   (zpb 3 (zan (zbt (zaj 3))))))))
theorem ya4(T:Txt K mg t):FnOk P w K mg base CX0 1 t.f_q3 t.fd_q3 ["_law_by"] (spV K 1 z12):=by
 exact zfv (k:=0) (fs:=f_q3) rfl rfl rfl T.d_q3.F z7d λ cdv A outer s H E B hr=>(zah (@zbl _ _ _ _ _ 1 _ _ z7d.nd rfl (Or.inl rfl) (zcs (v_b (zfp (zao (za9 zbk zau (v_b zaf) (v_b (za9 zck zbj (zab 0) (v_b zaf)))) (zao (za9 zbk zau (v_b zaf) (v_b (za9 zck zbj (v_b (za9 zfi zdx (zab 0) (v_b zaf))) (v_b (za9 z3w zxk (v_b zaf) (v_b zaf)))))) zbp)))) (v_b (zo8 zxa zxo (by rfl) T.int zq4 (zbw (v_b (zlv (znc hr) zep (v_b (za9 zck zbj (v_b (za9 zcj zcn (zab 0) (v_b zaf))) (v_b zaf))) (v_b zaf) (zbe _))) zb6))) (λ _ _=>rfl)) rfl (.inl rfl))
   (zan (zbt (zfo (zao (zaj 1) (zao (zcs (v_b (zfp (zao (za9 zck zbj (v_b (za9 zcj zcn (zab 0) (v_b zaf))) (v_b zaf)) (zao (za9 zck zbj (v_b (za9 zfi zdx (zab 0) (v_b zaf))) (v_b (za9 zzt zrl (v_b (za9 z3w zxk (v_b zaf) (v_b zaf))) (v_b zaf)))) zbp)))) (v_b (za9 zck zbj (v_b (za9 zcj zcn (zab 0) (v_b zaf))) (v_b zaf))) (λ_ _=>rfl)) zbp))))))
theorem ya5(T:Txt K mg t):FnOk P w K mg base CX0 3 t.f_q9 t.fd_q9 ["_law_cells","_law_by","_law_many"] (spW K 3 z13):=by
 have G_q6:FnOk P w K mg base CX0 2 t.f_q6 t.fd_q6 ["_law_cell","_law_by"] (spV K 2 zym):=ya0 T
 exact z9p (k:=2) (fs:=f_q9) rfl rfl rfl T.d_q9.F zt1 λ cdv A outer s H E B hr=>(zah (zhf (i:=3) zt1.nd rfl (Or.inl rfl) (zes zbp))
   (zah (zc3 PassesOwn.never rfl (zjb (zaj 0)) (zcv (i:=4) zt1.nd rfl (Or.inl rfl)) (zan (zdh (zbr z8z z0o (zab 2) (v_b zaf) (zbe _)) (zah (@zbl _ _ _ _ _ 5 _ _ zt1.nd rfl (Or.inl rfl) (za9 zck zbj (v_b (za9 zcj zcn (zab 4) (v_b zaf))) (zab 2)) rfl (.inl rfl))
   (zah (@zbl _ _ _ _ _ 6 _ _ zt1.nd rfl (Or.inl rfl) (zie (zqd rfl) z4y (by rfl) T.min z4a (zbw (v_b (za9 zzt zrl (zab 2) (v_b zaf))) (zbw (v_b (za9 zbk zau (zab 5) (v_b (zcs (v_b (zfp (zao zaf (zao zaf (zao zaf (zao zaf (zao (za9 zck zbj (v_b (za9 zcj zcn (zab 4) (v_b zaf))) (v_b zaf)) zbp))))))) (v_b (za9 zck zbj (v_b (za9 zcj zcn (zab 4) (v_b zaf))) (v_b zaf))) (λ _ _=>rfl))))) zb6))) rfl (.inl rfl))
   (zan (zgn (i:=3) rfl (zfo (zao (za4 G_q6 (hr.mono (by decide)) (by rfl) T.d_q6.m T.d_q6.F.kp T.d_q6.b (zao (za9 zcj zcn (zab 4) (v_b zaf)) (zao (zaj 1) zbp))) (zao (zaj 5) (zao (zaj 6) (zao (zlv (znc hr) zep (v_b (za9 zck zbj (v_b (za9 zcj zcn (zab 4) (v_b zaf))) (v_b zaf))) (v_b zaf) (zbe _)) zbp))))))))) zd0)))
   (zan (zxx 3))))
theorem z7m(T:Txt K mg t):FnOk P w K mg base CX0 1 t.f_q10 t.fd_q10 ["_law_numbers","_law_marks_here"] (spV K 2 zi0):=by
 exact zfv (k:=0) (fs:=f_q10) rfl rfl rfl T.d_q10.F ze0 λ cdv A outer s H E B hr=>(zah (zx3 (j:=2) ze0.nd rfl (Or.inl rfl))
   (zah (zc3 PassesOwn.never rfl (zjb (zaj 1)) (z40 rfl (zdy (zcv (i:=3) ze0.nd rfl (Or.inl rfl)) (zdy (zcv (i:=4) ze0.nd rfl (Or.inl rfl)) (zdy (zcv (i:=5) ze0.nd rfl (Or.inl rfl)) (zdy (zcv (i:=6) ze0.nd rfl (Or.inl rfl)) zrs))))) (zan (zc3 PassesOwn.never rfl (zih (by rfl) T.range (zbw (zab 4) (zbw (v_b (za9 zbk zau (zab 5) (v_b zaf))) zb6))) (zcv (i:=7) ze0.nd rfl (Or.inl rfl)) (zan (zx4 (j:=2) hr rfl (v_b (zcs (zab 0) (zab 7) (λ _ _=>rfl))) (z4q (zaj 6) (zna (zr8 hr (zab 2) (v_b (zcs (zab 0) (zab 7) (λ _ _=>rfl))) zt4))))))))
   (zah (zhf (i:=8) ze0.nd rfl (Or.inl rfl) (zes zbp))
   (zah (zc3 PassesOwn.never rfl (zjb (zrt (znu rfl (by rfl) T.sorted (zbw (zab 2) zb6)))) (zcv (i:=9) ze0.nd rfl (Or.inl rfl)) (zan (zdh (PW.pt (zhq (zbr (z0m hr) zlx (zab 8) (v_b (zfp zbp)) (zbe _)) (zhq (zbr (znc hr) zep (v_b (za9 zbk zau (v_b (zcs (v_b (zcs (zab 8) (v_b (zj4 zaf)) (λ _ _=>rfl))) (v_b zaf) (λ _ _=>rfl))) (v_b zaf))) (zab 9) (zbe _)) (zgh (zbr (znc hr) zep (v_b (zcs (v_b (zcs (zab 8) (v_b (zj4 zaf)) (λ _ _=>rfl))) (v_b zaf) (λ _ _=>rfl))) (v_b (zl6 hr (zab 2) (zab 9) (λ _ _=>rfl))) (zbe _)))))) (zan (zx5 (j:=8) rfl (v_b (zj4 zaf)) (zfo (zao (zcs (v_b (zcs (zab 8) (v_b (zj4 zaf)) (λ _ _=>rfl))) (v_b zaf) (λ _ _=>rfl)) (zao (zaj 9) (zao (zl6 hr (zab 2) (zab 9) (λ _ _=>rfl)) zbp)))))) (zan (zgn (i:=8) rfl (zfo (zao (zaj 9) (zao (zaj 9) (zao (zl6 hr (zab 2) (zab 9) (λ _ _=>rfl)) zbp)))))))))
   (zpb 8 (zan (zbt (zaj 8))))))))
theorem ya6(T:Txt K mg t):FnOk P w K mg base CX0 4 t.f_q4 t.fd_q4 ["_law_numbers","_law_marks_here"] (spV K 2 zyo):=by
 have G_qf:FnOk P w K mg base CX0 2 t.f_qf t.fd_qf ["_law_path"] (spV K 1 zub):=ya2 T;have G_q10:FnOk P w K mg base CX0 1 t.f_q10 t.fd_q10 ["_law_numbers","_law_marks_here"] (spV K 2 zi0):=z7m T
 exact zfv (k:=3) (fs:=f_q4) rfl rfl rfl T.d_q4.F zpp λ cdv A outer s H E B hr=>(zah (zhf (i:=2) zpp.nd rfl (Or.inl rfl) (zes zbp))
   (zah (zc3 PassesOwn.never rfl (zjb (zaj 1)) (zcv (i:=3) zpp.nd rfl (Or.inl rfl)) (zan (zc3 PassesOwn.never rfl (zih (by rfl) T.range (zbw (v_b zaf) (zbw (v_b (za9 zbk zau (v_b (zie zj5 zfj (by rfl) T.len zfg (zbw (v_b (zcs (zab 3) (v_b zaf) (λ _ _=>rfl))) zb6))) (v_b zaf))) zb6))) (zcv (i:=4) zpp.nd rfl (Or.inl rfl)) (zan (zdh (zbr (zrj hr) znd (v_b (zps (v_b (zcs (zab 3) (v_b zaf) (λ _ _=>rfl))) zu2 (zlz (zab 4)))) (zab 2) (by with_unfolding_all rfl)) (zan (zgn (i:=2) rfl (zps (v_b (zcs (zab 3) (v_b zaf) (λ _ _=>rfl))) zu2 (zlz (zab 4))))) zd0)))))
   (zah (zhf (i:=5) zpp.nd rfl (Or.inl rfl) (zes zbp))
   (zah (zc3 PassesOwn.never rfl (zjb (zrt (z1o rfl G_qf (hr.mono (by decide)).in2 (by rfl) T.sorted (by rfl) T.d_qf.m T.d_qf.b (zab 2)))) (zcv (i:=6) zpp.nd rfl (Or.inr rfl)) (zan (zgn (i:=5) rfl (zfo (zao (zaj 6) (zao (za4 G_q10 (hr.mono (by decide)) (by rfl) T.d_q10.m T.d_q10.F.kp T.d_q10.b (zao (zaj 0) (zao (zrt (znl rfl (vars:=["_law_mark"]) (cap:=[6]) (zjv ["_law_path"] rfl (by decide +kernel) (by decide +kernel) (by decide +kernel) (.cons (Or.inl rfl) .nil)) (z39 (.cons (⟨of_decide_eq_true (by rfl),of_decide_eq_true (by rfl)⟩) .nil)) (by decide) (by decide) (zrr (zab 1)) (λ _ _ _ _=>(zcv (i:=0) (show List.Nodup (["_law_mark","_law_path"]:List Str) by decide +kernel) rfl (Or.inl rfl))) (λ _ _ _ _=>(zxw (zbr (znc hr) zep (v_b (zcs (zab 0) (v_b zaf) (λ _ _=>rfl))) (zab 1) (zbe _)))) (λ _ _ _ _=>(zaj 0)))) zbp))) zbp))))))
   (zpb 5 (zan (zbt (zaj 5))))))))
theorem ya7(T:Txt K mg t):FnOk P w K mg base CX0 2 t.f_qe t.fd_qe ["_law_found","_law_due"] (spV K 2 zv1):=by
 have G_qc:FnOk P w K mg base CX0 1 t.f_qc t.fd_qc ["_law_found"] (spV K 1 zt9):=yay T
 exact zfv (k:=1) (fs:=f_qe) rfl rfl rfl T.d_qe.F z2r λ cdv A outer s H E B hr=>(zah (zdh (PW.pt (zia (zdw (zcl (zj6 zni (by rfl) T.isinstance (zds (v:=.ty "list") (by rfl) T.list zge rfl) (zab 0)))) (zhp (zbr (z0m hr) zlx (zab 0) (zab 1) (zbe _))))) (zan (zbt zt4)) zd0)
   (zah (zc3 PassesOwn.never rfl (zjb (zaj 0)) (zcv (i:=2) z2r.nd rfl (Or.inl rfl)) (zah (zdh (PW.pt (zia (zdw (zcl (zj6 zgm (by rfl) T.isinstance (zds (v:=.ty "tuple") (by rfl) T.tuple zen rfl) (zab 2)))) (zia (zdw (zcl (zj6 zgm (by rfl) T.isinstance (zds (v:=.ty "tuple") (by rfl) T.tuple zen rfl) (v_b (zcs (zab 2) (v_b zaf) (λ _ _=>rfl)))))) (zhp (zdw (zcl (zj6 zni (by rfl) T.isinstance (zds (v:=.ty "list") (by rfl) T.list zge rfl) (v_b (zcs (zab 2) (v_b zaf) (λ _ _=>rfl)))))))))) (zan (zbt zt4)) zd0)
   (zan (zc3 PassesOwn.never rfl (zjb (zcs (zab 2) (v_b zaf) (λ _ _=>rfl))) (zcv (i:=3) z2r.nd rfl (Or.inl rfl)) (zah (zdh (PW.pt (zia (zdw (zcl (zj6 zgm (by rfl) T.isinstance (zds (v:=.ty "tuple") (by rfl) T.tuple zen rfl) (zab 3)))) (zia (zdw (zcl (za4 G_qc (hr.mono (by decide)) (by rfl) T.d_qc.m T.d_qc.F.kp T.d_qc.b (zao (zcs (zab 3) (v_b zaf) (λ _ _=>rfl)) zbp)))) (zhp (zdw (zcl (za4 G_qc (hr.mono (by decide)) (by rfl) T.d_qc.m T.d_qc.F.kp T.d_qc.b (zao (zcs (zab 3) (v_b zaf) (λ _ _=>rfl)) zbp)))))))) (zan (zbt zt4)) zd0)
   (zan (zdh (zdw (zcl (zj6 znh (by rfl) T.isinstance (zds (v:=.ty "bool") (by rfl) T.bool zq5 rfl) (v_b (zcs (zab 3) (v_b zaf) (λ_ _=>rfl)))))) (zan (zbt zt4)) zd0)))))))
   (zan (zbt zt4))))
theorem z7n(T:Txt K mg t):FnOk P w K mg base CX0 9 t.f_q1b t.fd_q1b ["_law_script"] (spV K 1 zi1):=by
 have G_qe:FnOk P w K mg base CX0 2 t.f_qe t.fd_qe ["_law_found","_law_due"] (spV K 2 zv1):=ya7 T;have G_q11:FnOk P w K mg base CX0 1 t.f_q11 t.fd_q11 ["_law_cells"] (spV K 1 zmm):=z7l T;have G_q5:FnOk P w K mg base CX0 1 t.f_q5 t.fd_q5 ["_law_script","_law_k"] (spV K 2 zyl):=yax T;have G_q4:FnOk P w K mg base CX0 4 t.f_q4 t.fd_q4 ["_law_numbers","_law_marks_here"] (spV K 2 zyo):=ya6 T;have G_q9:FnOk P w K mg base CX0 3 t.f_q9 t.fd_q9 ["_law_cells","_law_by","_law_many"] (spW K 3 z13):=ya5 T;have G_qd:FnOk P w K mg base CX0 1 t.f_qd t.fd_qd ["_law_book_here","_law_most","_law_first"] (spV K 3 zyn):=ya3 T;have G_q3:FnOk P w K mg base CX0 1 t.f_q3 t.fd_q3 ["_law_by"] (spV K 1 z12):=ya4 T;have G_q12:FnOk P w K mg base CX0 8 t.f_q12 t.fd_q12 ["book","most","first","marks"] (spR K 4 ziz):=z7k T
 exact zfv (k:=8) (fs:=f_q1b) rfl rfl rfl T.d_q1b.F zc8 λ cdv A outer s H E B hr=>(zah (@zbl _ _ _ _ _ 1 _ _ zc8.nd rfl (Or.inl rfl) (za4 G_q5 (hr.mono (by decide)) (by rfl) T.d_q5.m T.d_q5.F.kp T.d_q5.b (zao (zaj 0) (zao zaf zbp))) rfl (.inl rfl))
   (zah (z42 (za4 G_q3 (hr.mono (by decide)) (by rfl) T.d_q3.m T.d_q3.F.kp T.d_q3.b (zao (zaj 1) zbp)) (z40 rfl (zdy (zcv (i:=2) zc8.nd rfl (Or.inl rfl)) (zdy (zcv (i:=3) zc8.nd rfl (Or.inl rfl)) zrs))))
   (zah (@zbl _ _ _ _ _ 4 _ _ zc8.nd rfl (Or.inl rfl) (za4 G_q11 (hr.mono (by decide)) (by rfl) T.d_q11.m T.d_q11.F.kp T.d_q11.b (zao (zps (zab 0) (zlz (v_b zaf)) (zlz (v_b zaf))) zbp)) rfl (.inl rfl))
   (zah (zhf (i:=5) zc8.nd rfl (Or.inl rfl) (zl1 G_q9 (hr.mono (by decide)) (by rfl) T.d_q9.m T.d_q9.F.kp T.d_q9.b (zao (zps (zab 0) (zlz (v_b zaf)) (zlz (v_b zaf))) (zao (za4 G_q5 (hr.mono (by decide)) (by rfl) T.d_q5.m T.d_q5.F.kp T.d_q5.b (zao (zaj 0) (zao zaf zbp))) (zao (zie zj5 zfj (by rfl) T.len zfg (zbw (zab 4) zb6)) zbp)))))
   (zah (zdh (PW.pt (zhq (zbr (znc hr) zep (v_b (za9 zck zbj (v_b (za9 zcj zcn (zab 1) (v_b zaf))) (v_b zaf))) (v_b zaf) (zbe _)) (zgh (zbr (z0m hr) zlx (zab 5) (v_b (zfp zbp)) (zbe _))))) (zan (zgn (i:=5) rfl (zfo (zao (zcs (v_b (zcs (zab 5) (v_b (zj4 zaf)) (λ _ _=>rfl))) (v_b zaf) (λ _ _=>rfl)) (zao zaf (zao (za9 zzt zrl (v_b (zie zj5 zfj (by rfl) T.len zfg (zbw (zab 4) zb6))) (v_b zaf)) (zao (zlv (znc hr) zep (v_b (za9 zck zbj (zab 1) (v_b zaf))) (v_b zaf) (zbe _)) zbp))))))) zd0)
   (zpb 5 (zah (@zbl _ _ _ _ _ 6 _ _ zc8.nd rfl (Or.inl rfl) (za4 G_q4 (hr.mono (by decide)) (by rfl) T.d_q4.m T.d_q4.F.kp T.d_q4.b (zao (za4 G_qd (hr.mono (by decide)) (by rfl) T.d_qd.m T.d_qd.F.kp T.d_qd.b (zao (zaj 4) (zao (zaj 2) (zao (zaj 3) zbp)))) (zao (zaj 5) zbp))) rfl (.inl rfl))
   (zah (@zbl _ _ _ _ _ 7 _ _ zc8.nd rfl (Or.inl rfl) (za9 zbk zau (v_b (zrt (zx6 rfl (by rfl) T.list (by rfl) T.reversed (zbw (zab 5) zb6)))) (v_b (zps (zab 5) zu2 (zlz (v_b (za9 zck zbj (zab 1) (v_b zaf))))))) rfl (.inl rfl))
   (zah (@zbl _ _ _ _ _ 8 _ _ zc8.nd rfl (Or.inl rfl) (zo8 zq0 zrm (by rfl) T.list zge (zbw (zab 4) zb6)) rfl (.inl rfl))
   (z1u (i:=9) zc8.nd rfl (Or.inl rfl) (zmg G_q12 (hr.mono (by decide)) (by rfl) T.d_q12.m T.d_q12.F.kp T.d_q12.b (zao (zaj 8) (zao (zaj 2) (zao (zaj 3) (zao (zaj 7) zbp)))))
   (z1v (PW.pt (zia (zdw (zcl (za4 G_qe (hr.mono (by decide)) (by rfl) T.d_qe.m T.d_qe.F.kp T.d_qe.b (zao (zaj 9) (zao (zaj 6) zbp))))) (zia (zbr (z0m hr) zlx (zab 8) (zab 4) (zbe _)) (zhp (zbr (z0m hr) zlx (zab 7) (v_b (za9 zbk zau (v_b (zrt (zx6 rfl (by rfl) T.list (by rfl) T.reversed (zbw (zab 5) zb6)))) (v_b (zps (zab 5) zu2 (zlz (v_b (za9 zck zbj (zab 1) (v_b zaf)))))))) (zbe _)))))) (zan (zbt zt4))
   (z59 (i:=9) (j:=10) (m:=2000) (by decide) (by decide) rfl rfl PassesOwn.never zc8.nd rfl rfl (Or.inl rfl) zw0 (λ _ _=>rfl) (zah (zc3 PassesOwn.never rfl (zig (by rfl) T.range (zbw (v_b (zie zj5 zfj (by rfl) T.len zfg (zbw (zab 6) zb6))) zb6)) (zcv (i:=11) zc8.nd rfl (Or.inl rfl)) (zan (zdh (zbr (z0m hr) zlx (v_b (zcs (v_b (zcs (zab 9) (zab 11) (λ _ _=>rfl))) (v_b zaf) (λ _ _=>rfl))) (v_b (za9 zbk zau (v_b (zcs (v_b (zcs (zab 6) (zab 11) (λ _ _=>rfl))) (v_b zaf) (λ _ _=>rfl))) (v_b (zfp (zao (zde (l:=[109,111,114,101]) (by decide +kernel)) zbp))))) (zbe _)) (zan (zbt zt4)) zd0)))
   (zah (zgn (i:=9) rfl (zde (l:=[109,111,114,101]) (by decide +kernel)))
   (zah (@zbl _ _ _ _ _ 12 _ _ zc8.nd rfl (Or.inl rfl) (za4 G_q4 (hr.mono (by decide)) (by rfl) T.d_q4.m T.d_q4.F.kp T.d_q4.b (zao (za4 G_qd (hr.mono (by decide)) (by rfl) T.d_qd.m T.d_qd.F.kp T.d_qd.b (zao (zaj 4) (zao (zaj 2) (zao (zaj 3) zbp)))) (zao (zps (zab 5) (zlz (v_b zaf)) zu2) zbp))) rfl (.inl rfl))
   (zah (zdh (zdw (zcl (za4 G_qe (hr.mono (by decide)) (by rfl) T.d_qe.m T.d_qe.F.kp T.d_qe.b (zao (r_v (zmg G_q12 (hr.mono (by decide)) (by rfl) T.d_q12.m T.d_q12.F.kp T.d_q12.b (zao (zaj 8) (zao (zaj 2) (zao (zaj 3) (zao (zps (zab 5) (zlz (v_b zaf)) zu2) zbp)))))) (zao (zaj 12) zbp))))) (zan (zbt zt4)) zd0)
   (zan (zbt (za4 G_qe (hr.mono (by decide)) (by rfl) T.d_qe.m T.d_qe.F.kp T.d_qe.b (zao (r_v (zmg G_q12 (hr.mono (by decide)) (by rfl) T.d_q12.m T.d_q12.F.kp T.d_q12.b (zao (zaj 8) (zao (zaj 2) (zao (zaj 3) (zao (zaj 7) zbp)))))) (zao (zaj 6) zbp)))))))))))))))))))))
end
theorem zt2{K:PySem.W.Frag}{H:Hp}{a:Addr}{ns:List Int}{E:XK}{Q:VK}(hl:ns.length<=63)(hS:SqL K H a (ns.map V.int))(q:∀H',Q (.bl true) H'):spV K 1 zi1 [.ref a] H Q E:=by
 refine⟨H,[.lst (ns.map D.int)],.bl true,zav.refl _,.cons (zdl hS (zij ns)) .nil,rfl,zwl ns hl,λHf' H' v _ dv=>?_⟩;rw[dv.bl];exact q H'
abbrev fT(K:PySem.W.Frag)(x:String)(s:Stmt)(f:Addr)(pm cd:Value):Prop:=PySem.W.nsIn K mainGlobals x=some (some (.ref f))/\K.lookup f=some (Zf x x s pm cd)/\PySem.W.codeIn K cd x=true/\PySem.W.keepIn K (.ref f)=true
theorem all_mk {l:PySem.W.OpenLaw}{w:World}{h:Heap}{mg:Str->Option Value}{fa:Addr} (X:(KK w.params).In h) (G:h.Ns mainGlobals mg) (hfa:mg "law" = some (.ref fa)) :
  ∃fd:FuncData,(∀(s:Shared) (v:Value),BindsTo s fd ⟨[v],[]⟩ [("_law_script",v)])/\∀base:Heap,(KK w.params).In base->base.Ns mainGlobals mg->FnOk l.prog w (KK w.params) mg base CX0 9 fa fd ["_law_script"] (spV (KK w.params) 1 zi1):=by
 have ⟨a_q17,l_q17,c_q17,k_q17⟩:fT (KK w.params) "pages" zwm 21 (Zs "pageback.book" 187) (.ref 20):=by and_intros <;> kernel_rfl
 have ⟨a_q18,l_q18,c_q18,k_q18⟩:fT (KK w.params) "shown" zwn 60 (Zs "pageback.heads" 251) (.ref 59):=by and_intros <;> kernel_rfl
 have ⟨a_q15,l_q15,c_q15,k_q15⟩:fT (KK w.params) "key_of" zwo 65 (Zs "pageback.heads" 251) (.ref 64):=by and_intros <;> kernel_rfl
 have ⟨a_q19,l_q19,c_q19,k_q19⟩:fT (KK w.params) "rank" zwp 70 (Zs "pageback.heads" 251) (.ref 69):=by and_intros <;> kernel_rfl
 have ⟨a_q1a,l_q1a,c_q1a,k_q1a⟩:fT (KK w.params) "fits" zwq 77 (Zs "pageback.marks" 275) (.ref 76):=by and_intros <;> kernel_rfl
 have ⟨a_q14,l_q14,c_q14,k_q14⟩:fT (KK w.params) "poured" zwr 84 (Zs "pageback.marks" 275) (.ref 83):=by and_intros <;> kernel_rfl
 have ⟨a_q16,l_q16,c_q16,k_q16⟩:fT (KK w.params) "copied" zws 91 (Zs "pageback.marks" 275) (.ref 90):=by and_intros <;> kernel_rfl
 have ⟨a_q8,l_q8,c_q8,k_q8⟩:fT (KK w.params) "mark_rank" z7x 98 (Zs "pageback.marks" 275) (.ref 97):=by and_intros <;> kernel_rfl
 have ⟨a_qa,l_qa,c_qa,k_qa⟩:fT (KK w.params) "stretches" z7y 105 (Zs "pageback.stretches" 312) (.ref 104):=by and_intros <;> kernel_rfl
 have ⟨a_q0,l_q0,c_q0,k_q0⟩:fT (KK w.params) "strong_by_page" z7z 112 (Zs "pageback.stretches" 312) (.ref 111):=by and_intros <;> kernel_rfl
 have ⟨a_q13,l_q13,c_q13,k_q13⟩:fT (KK w.params) "goes_on" zwt 119 (Zs "pageback.stretches" 312) (.ref 118):=by and_intros <;> kernel_rfl
 have ⟨a_q12,l_q12,c_q12,k_q12⟩:fT (KK w.params) "entries" zwu 124 (Zs "pageback.entries" 348) (.ref 123):=by and_intros <;> kernel_rfl
 have ⟨a_q2,l_q2,c_q2,k_q2⟩:fT (KK w.params) "refuse_unfit" z70 131 (Zs "pageback.entries" 348) (.ref 130):=by and_intros <;> kernel_rfl
 have ⟨a_q1,l_q1,c_q1,k_q1⟩:fT (KK w.params) "marks_by_path" z71 138 (Zs "pageback.entries" 348) (.ref 137):=by and_intros <;> kernel_rfl
 have ⟨a_q5,l_q5,c_q5,k_q5⟩:fT (KK w.params) "_law_cell_at" z72 145 Zm (.ref 144):=by and_intros <;> kernel_rfl
 have ⟨a_qc,l_qc,c_qc,k_qc⟩:fT (KK w.params) "_law_whole" z73 152 Zm (.ref 151):=by and_intros <;> kernel_rfl
 have ⟨a_q7,l_q7,c_q7,k_q7⟩:fT (KK w.params) "_law_head_by" z74 159 Zm (.ref 158):=by and_intros <;> kernel_rfl
 have ⟨a_q6,l_q6,c_q6,k_q6⟩:fT (KK w.params) "_law_path_by" z75 166 Zm (.ref 165):=by and_intros <;> kernel_rfl
 have ⟨a_qb,l_qb,c_qb,k_qb⟩:fT (KK w.params) "_law_shown" z76 173 Zm (.ref 172):=by and_intros <;> kernel_rfl
 have ⟨a_qf,l_qf,c_qf,k_qf⟩:fT (KK w.params) "_law_rank" z77 180 Zm (.ref 179):=by and_intros <;> kernel_rfl
 have ⟨a_q11,l_q11,c_q11,k_q11⟩:fT (KK w.params) "_law_book" zwv 185 Zm (.ref 184):=by and_intros <;> kernel_rfl
 have ⟨a_qd,l_qd,c_qd,k_qd⟩:fT (KK w.params) "_law_pages" z78 192 Zm (.ref 191):=by and_intros <;> kernel_rfl
 have ⟨a_q3,l_q3,c_q3,k_q3⟩:fT (KK w.params) "_law_settings" z79 199 Zm (.ref 198):=by and_intros <;> kernel_rfl
 have ⟨a_q9,l_q9,c_q9,k_q9⟩:fT (KK w.params) "_law_marks" z8a 206 Zm (.ref 205):=by and_intros <;> kernel_rfl
 have ⟨a_q10,l_q10,c_q10,k_q10⟩:fT (KK w.params) "_law_runs" zww 213 Zm (.ref 212):=by and_intros <;> kernel_rfl
 have ⟨a_q4,l_q4,c_q4,k_q4⟩:fT (KK w.params) "_law_entries" z8b 218 Zm (.ref 217):=by and_intros <;> kernel_rfl
 have ⟨a_qe,l_qe,c_qe,k_qe⟩:fT (KK w.params) "_law_alike" z8c 225 Zm (.ref 224):=by and_intros <;> kernel_rfl
 have ⟨a_q1b,l_q1b,c_q1b,k_q1b⟩:fT (KK w.params) "law" zmt 232 Zm (.ref 231):=by and_intros <;> kernel_rfl
 have z_bool:PySem.W.nsIn (KK w.params) mainGlobals "bool" = some none:=by kernel_rfl
 have z_int:PySem.W.nsIn (KK w.params) mainGlobals "int" = some none:=by kernel_rfl
 have z_isinstance:PySem.W.nsIn (KK w.params) mainGlobals "isinstance" = some none:=by kernel_rfl
 have z_len:PySem.W.nsIn (KK w.params) mainGlobals "len" = some none:=by kernel_rfl
 have z_list:PySem.W.nsIn (KK w.params) mainGlobals "list" = some none:=by kernel_rfl
 have z_min:PySem.W.nsIn (KK w.params) mainGlobals "min" = some none:=by kernel_rfl
 have z_range:PySem.W.nsIn (KK w.params) mainGlobals "range" = some none:=by kernel_rfl
 have z_reversed:PySem.W.nsIn (KK w.params) mainGlobals "reversed" = some none:=by kernel_rfl
 have z_sorted:PySem.W.nsIn (KK w.params) mainGlobals "sorted" = some none:=by kernel_rfl
 have z_tuple:PySem.W.nsIn (KK w.params) mainGlobals "tuple" = some none:=by kernel_rfl
 have y_LETTERS_AND_FIGURES:PySem.W.nsIn (KK w.params) mainGlobals "LETTERS_AND_FIGURES" = some (some (.str zbo 253)):=by kernel_rfl
 generalize KK w.params=K at *;have e:=hfa.symm.trans (PySem.W.mg_of X G a_q1b);cases e;have zml:=za8 (st:=zwm) l_q17 c_q17 k_q17;have b_pages:=zml.binds (ps:=["book","most","first"]) λ_ _ _ _ _ _ us hl=>match us,hl with|[_,_,_],_=>rfl
 have zhj:=za8 (st:=zwn) l_q18 c_q18 k_q18;have b_shown:=zhj.binds (ps:=["head"]) λ_ _ _ _ _ _ us hl=>match us,hl with|[_],_=>rfl
 have zkw:=za8 (st:=zwo) l_q15 c_q15 k_q15;have b_key_of:=zkw.binds (ps:=["head"]) λ_ _ _ _ _ _ us hl=>match us,hl with|[_],_=>rfl
 have zg2:=za8 (st:=zwp) l_q19 c_q19 k_q19;have b_rank:=zg2.binds (ps:=["path"]) λ_ _ _ _ _ _ us hl=>match us,hl with|[_],_=>rfl
 have zkx:=za8 (st:=zwq) l_q1a c_q1a k_q1a;have b_fits:=zkx.binds (ps:=["mark","many"]) λ_ _ _ _ _ _ us hl=>match us,hl with|[_,_],_=>rfl
 have zkz:=za8 (st:=zwr) l_q14 c_q14 k_q14;have b_poured:=zkz.binds (ps:=["hands"]) λ_ _ _ _ _ _ us hl=>match us,hl with|[_],_=>rfl
 have zky:=za8 (st:=zws) l_q16 c_q16 k_q16;have b_copied:=zky.binds (ps:=["path"]) λ_ _ _ _ _ _ us hl=>match us,hl with|[_],_=>rfl
 have zpn:=za8 (st:=z7x) l_q8 c_q8 k_q8;have b_mark_rank:=zpn.binds (ps:=["mark"]) λ_ _ _ _ _ _ us hl=>match us,hl with|[_],_=>rfl
 have zyk:=za8 (st:=z7y) l_qa c_qa k_qa;have b_stretches:=zyk.binds (ps:=["numbers","marks"]) λ_ _ _ _ _ _ us hl=>match us,hl with|[_,_],_=>rfl
 have z1z:=za8 (st:=z7z) l_q0 c_q0 k_q0;have b_strong_by_page:=z1z.binds (ps:=["numbers","marks"]) λ_ _ _ _ _ _ us hl=>match us,hl with|[_,_],_=>rfl
 have ziy:=za8 (st:=zwt) l_q13 c_q13 k_q13;have b_goes_on:=ziy.binds (ps:=["stretch","page","is_strong"]) λ_ _ _ _ _ _ us hl=>match us,hl with|[_,_,_],_=>rfl
 have ziz:=za8 (st:=zwu) l_q12 c_q12 k_q12;have b_entries:=ziz.binds (ps:=["book","most","first","marks"]) λ_ _ _ _ _ _ us hl=>match us,hl with|[_,_,_,_],_=>rfl
 have z11:=za8 (st:=z70) l_q2 c_q2 k_q2;have b_refuse_unfit:=z11.binds (ps:=["ordered","many"]) λ_ _ _ _ _ _ us hl=>match us,hl with|[_,_],_=>rfl
 have z10:=za8 (st:=z71) l_q1 c_q1 k_q1;have b_marks_by_path:=z10.binds (ps:=["ordered"]) λ_ _ _ _ _ _ us hl=>match us,hl with|[_],_=>rfl
 have zyl:=za8 (st:=z72) l_q5 c_q5 k_q5;have b_law_cell_at:=zyl.binds (ps:=["_law_script","_law_k"]) λ_ _ _ _ _ _ us hl=>match us,hl with|[_,_],_=>rfl
 have zt9:=za8 (st:=z73) l_qc c_qc k_qc;have b_law_whole:=zt9.binds (ps:=["_law_found"]) λ_ _ _ _ _ _ us hl=>match us,hl with|[_],_=>rfl
 have zua:=za8 (st:=z74) l_q7 c_q7 k_q7;have b_law_head_by:=zua.binds (ps:=["_law_cell","_law_k"]) λ_ _ _ _ _ _ us hl=>match us,hl with|[_,_],_=>rfl
 have zym:=za8 (st:=z75) l_q6 c_q6 k_q6;have b_law_path_by:=zym.binds (ps:=["_law_cell","_law_by"]) λ_ _ _ _ _ _ us hl=>match us,hl with|[_,_],_=>rfl
 have zpw:=za8 (st:=z76) l_qb c_qb k_qb;have b_law_shown:=zpw.binds (ps:=["_law_head"]) λ_ _ _ _ _ _ us hl=>match us,hl with|[_],_=>rfl
 have zub:=za8 (st:=z77) l_qf c_qf k_qf;have b_law_rank:=zub.binds (ps:=["_law_path"]) λ_ _ _ _ _ _ us hl=>match us,hl with|[_],_=>rfl
 have zmm:=za8 (st:=zwv) l_q11 c_q11 k_q11;have b_law_book:=zmm.binds (ps:=["_law_cells"]) λ_ _ _ _ _ _ us hl=>match us,hl with|[_],_=>rfl
 have zyn:=za8 (st:=z78) l_qd c_qd k_qd;have b_law_pages:=zyn.binds (ps:=["_law_book_here","_law_most","_law_first"]) λ_ _ _ _ _ _ us hl=>match us,hl with|[_,_,_],_=>rfl
 have z12:=za8 (st:=z79) l_q3 c_q3 k_q3;have b_law_settings:=z12.binds (ps:=["_law_by"]) λ_ _ _ _ _ _ us hl=>match us,hl with|[_],_=>rfl
 have z13:=za8 (st:=z8a) l_q9 c_q9 k_q9;have b_law_marks:=z13.binds (ps:=["_law_cells","_law_by","_law_many"]) λ_ _ _ _ _ _ us hl=>match us,hl with|[_,_,_],_=>rfl
 have zi0:=za8 (st:=zww) l_q10 c_q10 k_q10;have b_law_runs:=zi0.binds (ps:=["_law_numbers","_law_marks_here"]) λ_ _ _ _ _ _ us hl=>match us,hl with|[_,_],_=>rfl
 have zyo:=za8 (st:=z8b) l_q4 c_q4 k_q4;have b_law_entries:=zyo.binds (ps:=["_law_numbers","_law_marks_here"]) λ_ _ _ _ _ _ us hl=>match us,hl with|[_,_],_=>rfl
 have zv1:=za8 (st:=z8c) l_qe c_qe k_qe;have b_law_alike:=zv1.binds (ps:=["_law_found","_law_due"]) λ_ _ _ _ _ _ us hl=>match us,hl with|[_,_],_=>rfl
 have zi1:=za8 (st:=zmt) l_q1b c_q1b k_q1b;have b_law:=zi1.binds (ps:=["_law_script"]) λ_ _ _ _ _ _ us hl=>match us,hl with|[_],_=>rfl
 have T:Txt K mg ⟨21,_,60,_,65,_,70,_,77,_,84,_,91,_,98,_,105,_,112,_,119,_,124,_,131,_,138,_,145,_,152,_,159,_,166,_,173,_,180,_,185,_,192,_,199,_,206,_,213,_,218,_,225,_,232,_,253⟩:=⟨⟨zml,PySem.W.mg_of X G a_q17,b_pages⟩,⟨zhj,PySem.W.mg_of X G a_q18,b_shown⟩,⟨zkw,PySem.W.mg_of X G a_q15,b_key_of⟩,⟨zg2,PySem.W.mg_of X G a_q19,b_rank⟩,⟨zkx,PySem.W.mg_of X G a_q1a,b_fits⟩,⟨zkz,PySem.W.mg_of X G a_q14,b_poured⟩,⟨zky,PySem.W.mg_of X G a_q16,b_copied⟩,⟨zpn,PySem.W.mg_of X G a_q8,b_mark_rank⟩,⟨zyk,PySem.W.mg_of X G a_qa,b_stretches⟩,⟨z1z,PySem.W.mg_of X G a_q0,b_strong_by_page⟩,⟨ziy,PySem.W.mg_of X G a_q13,b_goes_on⟩,⟨ziz,PySem.W.mg_of X G a_q12,b_entries⟩,⟨z11,PySem.W.mg_of X G a_q2,b_refuse_unfit⟩,⟨z10,PySem.W.mg_of X G a_q1,b_marks_by_path⟩,⟨zyl,PySem.W.mg_of X G a_q5,b_law_cell_at⟩,⟨zt9,PySem.W.mg_of X G a_qc,b_law_whole⟩,⟨zua,PySem.W.mg_of X G a_q7,b_law_head_by⟩,⟨zym,PySem.W.mg_of X G a_q6,b_law_path_by⟩,⟨zpw,PySem.W.mg_of X G a_qb,b_law_shown⟩,⟨zub,PySem.W.mg_of X G a_qf,b_law_rank⟩,⟨zmm,PySem.W.mg_of X G a_q11,b_law_book⟩,⟨zyn,PySem.W.mg_of X G a_qd,b_law_pages⟩,⟨z12,PySem.W.mg_of X G a_q3,b_law_settings⟩,⟨z13,PySem.W.mg_of X G a_q9,b_law_marks⟩,⟨zi0,PySem.W.mg_of X G a_q10,b_law_runs⟩,⟨zyo,PySem.W.mg_of X G a_q4,b_law_entries⟩,⟨zv1,PySem.W.mg_of X G a_qe,b_law_alike⟩,⟨zi1,PySem.W.mg_of X G a_q1b,b_law⟩,PySem.W.mg_none_of X G z_bool,PySem.W.mg_none_of X G z_int,PySem.W.mg_none_of X G z_isinstance,PySem.W.mg_none_of X G z_len,PySem.W.mg_none_of X G z_list,PySem.W.mg_none_of X G z_min,PySem.W.mg_none_of X G z_range,PySem.W.mg_none_of X G z_reversed,PySem.W.mg_none_of X G z_sorted,PySem.W.mg_none_of X G z_tuple,PySem.W.mg_of X G y_LETTERS_AND_FIGURES⟩
 exact⟨PySem.W.fnOf "law" "law" (ze1 zmt) (zca zmt) (zag zmt) .none .none .none Zm none (.ref 231) .none,λs v=>.of_eq rfl,λbase _ _=>z7n T⟩
theorem walk{l:PySem.W.OpenLaw}{q:Program}{loose:List Str}{XP:(Str->Option Value)->Heap->Prop}{YP:World->Heap->Prop}{d:DefRec}{K:Params->PySem.W.Frag}(hn:l.most=some 63)(hdf:d.params.defaults=[])
  (hY:∀(w:World) (h:Heap),YP w h->(K w.params).In h)
  (F:∀ (w:World) (mg:Str->Option Value) (fa:Addr) (h:Heap),(K w.params).In h->h.Ns mainGlobals mg->mg d.name=some (.ref fa) →
   ∃fd:FuncData,(∀(s:Shared) (u:Value),BindsTo s fd ⟨[u],[]⟩ [("_law_script",u)])/\∀base:Heap,(K w.params).In base->base.Ns mainGlobals mg->FnOk l.prog w (K w.params) mg base CX0 9 fa fd ["_law_script"] (spV (K w.params) 1 zi1)) :
  PySem.W.WalkO q loose XP YP l.row.toRowW d [] (λf vs=>PySem.call f vs) :=
 L2.walk_of (n:=63) (k:=9) (x:="_law_script") (CX:=λ_=>CX0) (sp:=λw=>spV (K w.params) 1 zi1) hn (by decide) hdf ⟨rfl,by decide,by decide⟩ hY F (λ_ H a ns hl hO hS=>zt2 hl hS λ_=>rfl) λ_ _ _ _ _ z=>z
end K15
open PySem PySem.W PyProof.Rows
set_option maxRecDepth 100000 in
set_option maxHeartbeats 0 in
theorem PySem.Challenge.cw_pageback_k15_entries_made_holds : PySem.Challenge.rw_pageback_k15_entries_made.Holds := by
 w_on;o_law
 refine PySem.W.holds_open (q:=K15.VV) (loose:=[]) (XP:=PySem.W.XL K15.VV []) (kwd:=[]) K15.hl (PySem.W.kHook K15.KK K15.AA K15.ka).of (PySem.W.kHook K15.KK K15.AA K15.ka).keeps (λs e=>PySem.W.xl_of s (jq.mp e).left) PySem.W.XL.keeps (by rfl) (by rfl) (by rfl) (λs e=>PySem.W.recFacts_of (jq.mp e).right) (by rfl) ?said (by decide +kernel) ⟨rfl,rfl,rfl,rfl,rfl,by decide +kernel⟩ ?hw ?hc
 case said=>assumption
 case hw=>w_witness2
 refine K15.walk (l:=PySem.Challenge.rw_pageback_k15_entries_made) rfl rfl (λw h Y=>PySem.W.kIn_of Y) ?F
 case F =>
  intro w mg fa h KX G hmg;exact K15.all_mk KX G hmg
end
