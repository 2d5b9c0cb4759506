import PyProof.Rows.All
import KE.KDictOf
import KE.KDictSum
import KE.KEqDict
import KE.KFromBytes
import KE.KIntText
import KE.KIsAll
import KE.KRevIter
import KE.KSortTup
import KE.LcSums
import PySem.Challenge.RW_pageback_k16_out_of_book
noncomputable section
def aa:=@PySem.wpAny_bind
def ba:=@List.length_map
def da:=@List.map_cons
def ia:=@PySem.wpAny_pure
def ja:=@List.mem_cons_of_mem
def la:=@if_pos
def ma:=@PySem.Heap.get?_push_of_some
def na:=@List.getElem?_set_ne
def oa:=@List.size_toArray
def qa:=@List.getElem?_eq_some_iff
def ua:=@Bool.false_ne_true
def va:=@Nat.le_refl
def wa:=@if_neg
def xa:=@List.mem_cons_self
def ya:=@PySem.Heap.lt_size
def za:=@Option.bind_some
def bb:=@List.length_cons
def cb:=@Or.inl
def db:=@Option.map_eq_some_iff
def gb:=@PySem.Heap.get?_push_size
def ib:=@decide_eq_true
def jb:=@List.mem_singleton
def lb:=@List.getElem?_cons_succ
def nb:=@List.getElem?_set_self
def pb:=@List.mem_cons
def ub:=@Bool.and_eq_true
def wb:=@Nat.lt_of_lt_of_le
def xb:=@PySem.Heap.get?_update_other
def yb:=@Bool.false_eq_true
def zb:=@List.append_nil
def ac:=@List.getD_eq_getElem?_getD
def bc:=@List.getElem?_cons_zero
def cc:=@List.getElem?_eq_getElem
def dc:=@Nat.ne_of_lt
def gc:=@List.mem_append
def ic:=@List.mem_map
def jc:=@decide_eq_false
def kc:=@Option.some.inj
def lc:=@List.map_append
def pc:=@List.mem_append_right
def qc:=@List.getElem?_map
def vc:=@List.length_nil
def wc:=@PySem.wpAny_loadPart_at
def yc:=@of_decide_eq_true
def zc:=@List.length_append
def ed:=@Nat.le_trans
def jd:=@List.mem_of_getElem?
def md:=@PySem.Heap.get?_update_self
def ud:=@Nat.zero_le
def vd:=@List.set_cons_zero
def yd:=@List.set_cons_succ
def zd:=@List.map_map
def ae:=@List.lookup_cons
def be:=@PyProof.Rows.wpS_bind
def ce:=@PySem.PassesOwn.never
def de:=@Array.getElem?_eq_some_iff
def ge:=@List.cons_append
def ie:=@PySem.wpAny_loadPart'
def je:=@Option.map_some
def ke:=@List.nil_append
def qe:=@List.map_nil
def re:=@Nat.zero_add
def se:=@List.drop_eq_getElem_cons
def ue:=@Option.bind_none
def ve:=@Option.getD_some
def we:=@List.mem_append_left
def ye:=@PySem.wpAny_mono
def ze:=@PyProof.Rows.slot_tuple_getitem
def af:=@Or.inr
def bf:=@Option.map_none
def cf:=@List.length_take
def df:=@List.all_eq_true
def ef:=@congrArg
def gf:=@PySem.wpAny_newObj_type
def jf:=@Bool.not_true
def mf:=@List.pairwise_iff_getElem
def pf:=@List.take_of_length_le
def qf:=@List.pairwise_cons
def rf:=@Ne.symm
def sf:=@List.find?_cons
def tf:=@Bool.not_false
def uf:=@PyProof.Rows.wpS_pure
def vf:=@List.getElem_mem
def wf:=@PySem.wpAny_holding
def xf:=@Array.length_toList
def yf:=@List.getElem?_append_right
def zf:=@PySem.wpAny_Call_Name_kw
def ag:=@List.contains_cons
def bg:=@PySem.Obj.data_mapFields
def cg:=@Nat.sub_self
def dg:=@List.getElem?_append_left
def fg:=@Array.getElem?_eq_getElem
def gg:=@PySem.wpAny_truthy_bool
def ig:=@List.length_singleton
def jg:=@True.intro
def kg:=@PyProof.Rows.callWith_type1
def lg:=@List.mem_range
def ng:=@PySem.wpAny_isSubtype_exc
def og:=@List.map_congr_left
def qg:=@List.nodup_cons
def rg:=@PySem.Obj.isFreed_of_fields
def ug:=@Array.getElem?_toList
def vg:=@List.zip_cons_cons
def wg:=@Nat.lt_irrefl
def xg:=@List.any_cons
def yg:=@PySem.wpAny_typeNameOfWhole_keyiter
def zg:=@List.getElem?_replicate
def ah:=@List.flatten_cons
def bh:=@PySem.wpAny_field
def dh:=@PySem.Calls.spliced_cons
def gh:=@PySem.tupleKind_room_in1
def jh:=@PySem.wpAny_setField
def kh:=@List.nodup_nil
def lh:=@List.Perm.refl
def mh:=@PySem.builtinLookup_eq_fast
def oh:=@List.getElem?_eq_none
def ph:=@List.foldl_cons
def qh:=@ite_false
def rh:=@PySem.Around.under_plainId
def uh:=@Int.toNat_natCast
def vh:=@Option.isSome_map
def xh:=@if_false
def yh:=@PySem.wpAny_typeNameOf_keyiter
def zh:=@beq_eq_false_iff_ne
def ai:=@PySem.Heap.SameBut.update
def ci:=@PySem.wpAny_callSpecial?_slot
def ii:=@PySem.wpAny_call_entry
def ji:=@List.drop_length
def ki:=@PySem.Calls.callWith_builtin
def li:=@Array.getElem?_eq_none
def ni:=@PyProof.Rows.wpS_forRange
def oi:=@PySem.codeAny_builtin
def pi:=@Nat.min_eq_left
def ui:=@ite_true
def xi:=@List.all_cons
def yi:=@PySem.plainId_quiet
def zi:=@List.length_replicate
def aj:=@List.cons_prefix_cons
def cj:=@List.append_assoc
def fj:=@List.ext_getElem?
def ij:=@List.nodup_append
def jj:=@List.pairwise_map
def kj:=@PySem.codeAny_call_builtin
def lj:=@List.mem_of_mem_drop
def oj:=@PySem.wpAny_rule
def pj:=@List.length_drop
def tj:=@Nat.ne_of_gt
def uj:=@PySem.wpAny_standAt
def vj:=@PySem.wpAny_execs_nil
def wj:=@PySem.wpAny_passesOwn
def xj:=@PySem.typeLookup_type
def yj:=@List.getElem?_set_self'
def zj:=@List.pairwise_singleton
def ak:=@PySem.Calls.spliced_nil
def ck:=@Bool.eq_false_iff
def ek:=@PySem.wpAny_dictEntries
def gk:=@PySem.codeAny_mono
def ik:=@PySem.F.typeOf_object_class
def jk:=@PySem.wpAny_isOneOf_keyiter
def nk:=@List.not_mem_nil
def qk:=@PySem.call_meets
def uk:=@List.cons.inj
def vk:=@PyProof.Rows.listUpdate_at
def wk:=@if_true
def xk:=@PySem.Heap.get?_none_of_le
def yk:=@Array.mem_toList_iff
def zk:=@PySem.Calls.evalArgs_plain
def el:=@List.mem_of_mem_take
def il:=@List.pairwise_append
def ll:=@PySem.wpAny_letGo
def ol:=@Bool.eq_iff_iff
def ql:=@PySem.wpAny_specialOf
def ul:=@List.cons.injEq
def wl:=@Int.emod_nonneg
def xl:=@List.filterMap_cons
def yl:=@List.length_reverse
def zl:=@Array.getD_eq_getD_getElem?
def am:=@PySem.wpAny_typeOf
def cm:=@PySem.Calls.Name_function_global
def dm:=@List.exists_cons_of_ne_nil
def fm:=@PySem.Code.quiet_builtin
def gm:=@List.append_of_mem
def im:=@PySem.wpAny_fieldsOf
def jm:=@PySem.wpAny_seqItems
def km:=@PySem.wpAny_tryCatch
def om:=@beq_iff_eq
def qm:=@PyProof.Rows.wpS_mono
def rm:=@List.mem_of_find?_eq_some
def tm:=@List.Pairwise.nil
def um:=@Nat.lt_succ_of_lt
def vm:=@Nat.lt_trichotomy
def wm:=@Nat.le_succ_of_le
def xm:=@List.length_range
def ym:=@PySem.wpAny_mkInt
def cn:=@Array.swapIfInBounds_def
def gn:=@List.Pairwise.imp_of_mem
def kn:=@PySem.wpAny_attempt
def mn:=@PySem.wpAny_pyHash_int
def on:=@PySem.wpAny_pyHash_str
def rn:=@PySem.wpAny_execs_cons
def vn:=@beq_self_eq_true
def wn:=@Nat.lt_succ_self
def xn:=@PySem.wpAny_Dict_empty
def yn:=@Nat.min_eq_right
def zn:=@List.take_length
def ao:=@PySem.wpAny_isInstance
def bo:=@PySem.beq_builtin_none
def io:=@List.flatten_nil
def jo:=@List.take_prefix
def ko:=@List.mem_reverse
def oo:=@List.range_succ_eq_map
def qo:=@List.drop_of_length_le
def vo:=@Nat.le_of_lt
def xo:=@decide_false
def yo:=@PySem.wpAny_call
def zo:=@PyProof.Rows.wpS_modify
def bp:=@List.mem_filter
def ip:=@List.of_mem_zip
def jp:=@PySem.SeqAt.EqAt.same
def lp:=@Array.size_push
def pp:=@PySem.wpAny_dictEpoch
def qp:=@PySem.wpAny_updateSeq
def xp:=@List.length_filter_le
def yp:=@List.take_append_drop
def fq:=@List.getElem?_of_mem
def jq:=@List.mem_iff_getElem
def kq:=@Bool.and_eq_true_iff
def lq:=@List.Perm.swap
def mq:=@Nat.le_succ
def nq:=@PyProof.Rows.wpS_get
def rq:=@List.getElem?_range
def sq:=@List.length_pos_iff
def tq:=@List.mem_map_of_mem
def vq:=@List.map_take
def js:=@PySem.typeIs_str
def ss:=@Array.ext'
def ku:=@Sum.inl.inj
def nu:=@decide_true
def su:=@or_false
set_option Elab.async false
set_option linter.all false
set_option maxRecDepth 100000
set_option maxHeartbeats 4000000
namespace L2
open PySem
noncomputable def zex(s:Stmt):Arguments:=match s with
 |.FunctionDef _ a _ _ _ _ _ _ _ _=>a
 |_=>{ posonlyargs:=[],args:=[],vararg:=none,kwonlyargs:=[],kw_defaults:=[],kwarg:=none,defaults:=[] }
noncomputable def zby(s:Stmt):List Stmt:=match s with
 |.FunctionDef _ _ b _ _ _ _ _ _ _=>b
 |_=>[]
noncomputable def zae(s:Stmt):Scope:=match s with
 |.FunctionDef _ _ _ _ _ _ sc _ _ _=>sc
 |_=>{ kind:=.function,names:=[],isGenerator:=false,isCoroutine:=false }
noncomputable def zor(s:Stmt):List Stmt:=match s with
 |.ClassDef _ _ _ b _ _ _ _ _ _ _=>b
 |_=>[]
end L2
namespace K16
open PySem L2
noncomputable def top(i:Nat):Stmt:=PySem.Challenge.pw_pageback_k16_out_of_book.main.body.getD i (.Pass ⟨0,0,0,0⟩)
noncomputable abbrev Zs(x:String)(t:Tok):Value:=.str (Str.ofString x) t
noncomputable abbrev Ze(P:Params)(x:String)(t:Tok)(v:Value):DictEntry:=⟨PyData.keyHash P (Str.ofString x),Zs x t,v⟩
noncomputable abbrev Zt(a:Array Value):Obj:=⟨.type "tuple",none,.seq a,#[]⟩
noncomputable abbrev Zc(a:Array Value):Obj:=⟨.type "code",none,.fields a,#[]⟩
noncomputable abbrev Zd(a:Array DictEntry)(n:Nat):Obj:=⟨.type "dict",none,.dict a n,#[]⟩
noncomputable abbrev Zf(n q:String)(s:Stmt)(pm cd:Value):Obj:=⟨.type "function",none,.func (PySem.W.fnOf (Str.ofString n) (Str.ofString q) (zex s) (zby s) (zae s) .none .none .none pm none cd .none),#[]⟩
noncomputable abbrev Zk(n q:String)(a b c:Tok)(l k:Int)(r r1:Addr)(x y z:Value)(m:Addr)(d e:Nat):Obj:=Zc #[Zs n a,Zs q b,Zs "/claim/cut.py" c,.int l 0,.int k 0,.int 0 0,.int 0 0,.int 3 0,.ref r,.bool true,.int 181 0,.ref r1,x,y,z,.ref m,.int d 0,.int l 0,Zs "/claim/cut.py" e]
noncomputable abbrev Zm:Value:=Zs "law_pageback_k16_out_of_book" 569
noncomputable def KK(P:Params):PySem.W.Frag :=
 [(3,Zd #[Ze P "__name__" 165 Zm,Ze P "__doc__" 166 .none,Ze P "__package__" 167 .none,Ze P "__loader__" 168 (.builtin "__main__.__loader__#opaque"),Ze P "__spec__" 169 .none,Ze P "__annotations__" 170 (.ref 6),Ze P "__builtins__" 171 (.ref 4),Ze P "__file__" 173 (Zs "/claim/cut.py" 172),Ze P "__cached__" 174 .none,Ze P "pages" 201 (.ref 21),Ze P "PageError" 221 (.ref 31),Ze P "OutOfBook" 250 (.ref 51),Ze P "SentHere" 275 (.ref 70),Ze P "Both" 300 (.ref 89),Ze P "TwoWays" 325 (.ref 108),Ze P "Ring" 350 (.ref 127),Ze P "Nowhere" 377 (.ref 146),Ze P "NoRow" 402 (.ref 165),Ze P "NoMark" 418 (.ref 177),Ze P "NoText" 443 (.ref 196),Ze P "LETTERS_AND_FIGURES" 447 (Zs "abcdefghijklmnopqrstuvwxyzABCDEFGHIJKLMNOPQRSTUVWXYZ0123456789" 446),Ze P "shown" 455 (.ref 205),Ze P "key_of" 461 (.ref 210),Ze P "rank" 467 (.ref 215),Ze P "fits" 477 (.ref 222),Ze P "poured" 490 (.ref 229),Ze P "copied" 497 (.ref 236),Ze P "mark_rank" 504 (.ref 243),Ze P "stretches" 517 (.ref 250),Ze P "strong_by_page" 531 (.ref 257),Ze P "goes_on" 540 (.ref 264),Ze P "entries" 548 (.ref 269),Ze P "refuse_unfit" 557 (.ref 276),Ze P "marks_by_path" 568 (.ref 283),Ze P "_law_cell_at" 578 (.ref 290),Ze P "_law_whole" 585 (.ref 297),Ze P "_law_head_by" 601 (.ref 304),Ze P "_law_path_by" 611 (.ref 311),Ze P "_law_shown" 621 (.ref 318),Ze P "_law_rank" 632 (.ref 325),Ze P "_law_book" 638 (.ref 330),Ze P "_law_pages" 651 (.ref 337),Ze P "_law_settings" 659 (.ref 344),Ze P "_law_marks" 672 (.ref 351),Ze P "_law_alone" 680 (.ref 358),Ze P "_law_odd" 694 (.ref 365),Ze P "_law_told" 705 (.ref 372),Ze P "_law_refused" 711 (.ref 377),Ze P "law" 726 (.ref 384)] 49),
  (20,Zk "pages" "pages" 189 190 191 2 3 15 16 (.none) (.ref 17) (.ref 18) 19 199 200),
  (21,Zf "pages" "pages" (top 1) (Zs "pageback.book" 187) (.ref 20)),
  (30,Zd #[Ze P "__module__" 211 (Zs "pageback.errors" 202),Ze P "__firstlineno__" 215 (.int 14 214),Ze P "__static_attributes__" 216 (.ref 29),Ze P "__weakref__" 218 (.ref 32),Ze P "__doc__" 219 .none] 3),
  (31,Obj.mk (.type "type") none (Data.cls (ClassData.mk (Str.ofString "PageError") [.type "ValueError"] [.ref 31,.type "ValueError",.type "Exception",.type "BaseException",.type "object"] 30 (Str.ofString "PageError") true [] [.ref 51,.ref 70,.ref 89,.ref 108,.ref 127,.ref 146,.ref 165,.ref 177,.ref 196] false none false)) #[some (.ref 22),none,some (Zs "PageError" 204),some (Zs "PageError" 212),some (.builtin "ValueError.__new__"),some (.bool true)]),
  (47,Zk "__init__" "OutOfBook.__init__" 234 235 236 18 4 42 43 (.none) (.ref 44) (.ref 45) 46 241 242),
  (48,Zf "__init__" "OutOfBook.__init__" ((zor (top 4)).getD 0 (.Pass ⟨0,0,0,0⟩)) (Zs "pageback.errors" 202) (.ref 47)),
  (50,Zd #[Ze P "__module__" 229 (Zs "pageback.errors" 202),Ze P "__firstlineno__" 233 (.int 16 232),Ze P "__init__" 243 (.ref 48),Ze P "__static_attributes__" 247 (.ref 49),Ze P "__doc__" 248 .none] 2),
  (51,Obj.mk (.type "type") none (Data.cls (ClassData.mk (Str.ofString "OutOfBook") [.ref 31] [.ref 51,.ref 31,.type "ValueError",.type "Exception",.type "BaseException",.type "object"] 50 (Str.ofString "OutOfBook") true [] [] false none false)) #[some (.ref 35),none,some (Zs "OutOfBook" 222),some (Zs "OutOfBook" 230),some (.builtin "ValueError.__new__"),some (.bool true)]),
  (69,Zd #[Ze P "__module__" 258 (Zs "pageback.errors" 202),Ze P "__firstlineno__" 262 (.int 22 261),Ze P "__init__" 270 (.ref 67),Ze P "__static_attributes__" 272 (.ref 68),Ze P "__doc__" 273 .none] 2),
  (70,Obj.mk (.type "type") none (Data.cls (ClassData.mk (Str.ofString "SentHere") [.ref 31] [.ref 70,.ref 31,.type "ValueError",.type "Exception",.type "BaseException",.type "object"] 69 (Str.ofString "SentHere") true [] [] false none false)) #[some (.ref 54),none,some (Zs "SentHere" 251),some (Zs "SentHere" 259),some (.builtin "ValueError.__new__"),some (.bool true)]),
  (88,Zd #[Ze P "__module__" 283 (Zs "pageback.errors" 202),Ze P "__firstlineno__" 287 (.int 26 286),Ze P "__init__" 295 (.ref 86),Ze P "__static_attributes__" 297 (.ref 87),Ze P "__doc__" 298 .none] 2),
  (89,Obj.mk (.type "type") none (Data.cls (ClassData.mk (Str.ofString "Both") [.ref 31] [.ref 89,.ref 31,.type "ValueError",.type "Exception",.type "BaseException",.type "object"] 88 (Str.ofString "Both") true [] [] false none false)) #[some (.ref 73),none,some (Zs "Both" 276),some (Zs "Both" 284),some (.builtin "ValueError.__new__"),some (.bool true)]),
  (107,Zd #[Ze P "__module__" 308 (Zs "pageback.errors" 202),Ze P "__firstlineno__" 312 (.int 30 311),Ze P "__init__" 320 (.ref 105),Ze P "__static_attributes__" 322 (.ref 106),Ze P "__doc__" 323 .none] 2),
  (108,Obj.mk (.type "type") none (Data.cls (ClassData.mk (Str.ofString "TwoWays") [.ref 31] [.ref 108,.ref 31,.type "ValueError",.type "Exception",.type "BaseException",.type "object"] 107 (Str.ofString "TwoWays") true [] [] false none false)) #[some (.ref 92),none,some (Zs "TwoWays" 301),some (Zs "TwoWays" 309),some (.builtin "ValueError.__new__"),some (.bool true)]),
  (126,Zd #[Ze P "__module__" 333 (Zs "pageback.errors" 202),Ze P "__firstlineno__" 337 (.int 34 336),Ze P "__init__" 345 (.ref 124),Ze P "__static_attributes__" 347 (.ref 125),Ze P "__doc__" 348 .none] 2),
  (127,Obj.mk (.type "type") none (Data.cls (ClassData.mk (Str.ofString "Ring") [.ref 31] [.ref 127,.ref 31,.type "ValueError",.type "Exception",.type "BaseException",.type "object"] 126 (Str.ofString "Ring") true [] [] false none false)) #[some (.ref 111),none,some (Zs "Ring" 326),some (Zs "Ring" 334),some (.builtin "ValueError.__new__"),some (.bool true)]),
  (145,Zd #[Ze P "__module__" 358 (Zs "pageback.errors" 202),Ze P "__firstlineno__" 362 (.int 39 361),Ze P "__init__" 371 (.ref 143),Ze P "__static_attributes__" 374 (.ref 144),Ze P "__doc__" 375 .none] 2),
  (146,Obj.mk (.type "type") none (Data.cls (ClassData.mk (Str.ofString "Nowhere") [.ref 31] [.ref 146,.ref 31,.type "ValueError",.type "Exception",.type "BaseException",.type "object"] 145 (Str.ofString "Nowhere") true [] [] false none false)) #[some (.ref 130),none,some (Zs "Nowhere" 351),some (Zs "Nowhere" 359),some (.builtin "ValueError.__new__"),some (.bool true)]),
  (164,Zd #[Ze P "__module__" 385 (Zs "pageback.errors" 202),Ze P "__firstlineno__" 389 (.int 44 388),Ze P "__init__" 397 (.ref 162),Ze P "__static_attributes__" 399 (.ref 163),Ze P "__doc__" 400 .none] 2),
  (165,Obj.mk (.type "type") none (Data.cls (ClassData.mk (Str.ofString "NoRow") [.ref 31] [.ref 165,.ref 31,.type "ValueError",.type "Exception",.type "BaseException",.type "object"] 164 (Str.ofString "NoRow") true [] [] false none false)) #[some (.ref 149),none,some (Zs "NoRow" 378),some (Zs "NoRow" 386),some (.builtin "ValueError.__new__"),some (.bool true)]),
  (176,Zd #[Ze P "__module__" 410 (Zs "pageback.errors" 202),Ze P "__firstlineno__" 414 (.int 48 413),Ze P "__static_attributes__" 415 (.ref 175),Ze P "__doc__" 416 .none] 2),
  (177,Obj.mk (.type "type") none (Data.cls (ClassData.mk (Str.ofString "NoMark") [.ref 31] [.ref 177,.ref 31,.type "ValueError",.type "Exception",.type "BaseException",.type "object"] 176 (Str.ofString "NoMark") true [] [] false none false)) #[some (.ref 168),none,some (Zs "NoMark" 403),some (Zs "NoMark" 411),some (.builtin "ValueError.__new__"),some (.bool true)]),
  (195,Zd #[Ze P "__module__" 426 (Zs "pageback.errors" 202),Ze P "__firstlineno__" 430 (.int 50 429),Ze P "__init__" 438 (.ref 193),Ze P "__static_attributes__" 440 (.ref 194),Ze P "__doc__" 441 .none] 2),
  (196,Obj.mk (.type "type") none (Data.cls (ClassData.mk (Str.ofString "NoText") [.ref 31] [.ref 196,.ref 31,.type "ValueError",.type "Exception",.type "BaseException",.type "object"] 195 (Str.ofString "NoText") true [] [] false none false)) #[some (.ref 180),none,some (Zs "NoText" 419),some (Zs "NoText" 427),some (.builtin "ValueError.__new__"),some (.bool true)]),
  (204,Zk "shown" "shown" 448 449 450 56 1 199 200 (.none) (.ref 201) (.ref 202) 203 453 454),
  (205,Zf "shown" "shown" (top 15) (Zs "pageback.heads" 444) (.ref 204)),
  (209,Zk "key_of" "key_of" 456 457 458 61 1 206 207 .none .none .none 208 459 460),
  (210,Zf "key_of" "key_of" (top 16) (Zs "pageback.heads" 444) (.ref 209)),
  (214,Zk "rank" "rank" 462 463 464 63 1 211 212 .none .none .none 213 465 466),
  (215,Zf "rank" "rank" (top 17) (Zs "pageback.heads" 444) (.ref 214)),
  (221,Zk "fits" "fits" 470 471 472 66 2 216 217 (.none) (.ref 218) (.ref 219) 220 475 476),
  (222,Zf "fits" "fits" (top 19) (Zs "pageback.marks" 468) (.ref 221)),
  (228,Zk "poured" "poured" 478 479 480 68 1 223 224 (.none) (.ref 225) (.ref 226) 227 488 489),
  (229,Zf "poured" "poured" (top 20) (Zs "pageback.marks" 468) (.ref 228)),
  (235,Zk "copied" "copied" 491 492 493 74 1 230 231 (.none) (.ref 232) (.ref 233) 234 495 496),
  (236,Zf "copied" "copied" (top 21) (Zs "pageback.marks" 468) (.ref 235)),
  (242,Zk "mark_rank" "mark_rank" 498 499 500 76 1 237 238 (.none) (.ref 239) (.ref 240) 241 502 503),
  (243,Zf "mark_rank" "mark_rank" (top 22) (Zs "pageback.marks" 468) (.ref 242)),
  (249,Zk "stretches" "stretches" 507 508 509 79 2 244 245 (.none) (.ref 246) (.ref 247) 248 515 516),
  (250,Zf "stretches" "stretches" (top 24) (Zs "pageback.stretches" 505) (.ref 249)),
  (256,Zk "strong_by_page" "strong_by_page" 518 519 520 88 2 251 252 (.none) (.ref 253) (.ref 254) 255 529 530),
  (257,Zf "strong_by_page" "strong_by_page" (top 25) (Zs "pageback.stretches" 505) (.ref 256)),
  (263,Zk "goes_on" "goes_on" 532 533 534 94 3 258 259 (.none) (.ref 260) (.ref 261) 262 538 539),
  (264,Zf "goes_on" "goes_on" (top 26) (Zs "pageback.stretches" 505) (.ref 263)),
  (268,Zk "entries" "entries" 543 544 545 97 4 265 266 .none .none .none 267 546 547),
  (269,Zf "entries" "entries" (top 28) (Zs "pageback.entries" 541) (.ref 268)),
  (275,Zk "refuse_unfit" "refuse_unfit" 549 550 551 103 2 270 271 (.none) (.ref 272) (.ref 273) 274 555 556),
  (276,Zf "refuse_unfit" "refuse_unfit" (top 29) (Zs "pageback.entries" 541) (.ref 275)),
  (282,Zk "marks_by_path" "marks_by_path" 558 559 560 107 1 277 278 (.none) (.ref 279) (.ref 280) 281 566 567),
  (283,Zf "marks_by_path" "marks_by_path" (top 30) (Zs "pageback.entries" 541) (.ref 282)),
  (289,Zk "_law_cell_at" "_law_cell_at" 571 572 573 116 2 284 285 (.none) (.ref 286) (.ref 287) 288 576 577),
  (290,Zf "_law_cell_at" "_law_cell_at" (top 32) Zm (.ref 289)),
  (296,Zk "_law_whole" "_law_whole" 579 580 581 120 1 291 292 (.none) (.ref 293) (.ref 294) 295 583 584),
  (297,Zf "_law_whole" "_law_whole" (top 33) Zm (.ref 296)),
  (303,Zk "_law_head_by" "_law_head_by" 586 587 588 122 2 298 299 (.none) (.ref 300) (.ref 301) 302 599 600),
  (304,Zf "_law_head_by" "_law_head_by" (top 34) Zm (.ref 303)),
  (310,Zk "_law_path_by" "_law_path_by" 602 603 604 136 2 305 306 (.none) (.ref 307) (.ref 308) 309 609 610),
  (311,Zf "_law_path_by" "_law_path_by" (top 35) Zm (.ref 310)),
  (317,Zk "_law_shown" "_law_shown" 612 613 614 141 1 312 313 (.none) (.ref 314) (.ref 315) 316 619 620),
  (318,Zf "_law_shown" "_law_shown" (top 36) Zm (.ref 317)),
  (324,Zk "_law_rank" "_law_rank" 622 623 624 146 1 319 320 (.none) (.ref 321) (.ref 322) 323 630 631),
  (325,Zf "_law_rank" "_law_rank" (top 37) Zm (.ref 324)),
  (329,Zk "_law_book" "_law_book" 633 634 635 155 1 326 327 .none .none .none 328 636 637),
  (330,Zf "_law_book" "_law_book" (top 38) Zm (.ref 329)),
  (343,Zk "_law_settings" "_law_settings" 652 653 654 168 1 338 339 (.none) (.ref 340) (.ref 341) 342 657 658),
  (344,Zf "_law_settings" "_law_settings" (top 40) Zm (.ref 343)),
  (350,Zk "_law_marks" "_law_marks" 660 661 662 171 3 345 346 (.none) (.ref 347) (.ref 348) 349 670 671),
  (351,Zf "_law_marks" "_law_marks" (top 41) Zm (.ref 350)),
  (357,Zk "_law_alone" "_law_alone" 673 674 675 179 1 352 353 (.none) (.ref 354) (.ref 355) 356 678 679),
  (358,Zf "_law_alone" "_law_alone" (top 42) Zm (.ref 357)),
  (364,Zk "_law_odd" "_law_odd" 681 682 683 184 3 359 360 (.none) (.ref 361) (.ref 362) 363 692 693),
  (365,Zf "_law_odd" "_law_odd" (top 43) Zm (.ref 364)),
  (371,Zk "_law_told" "_law_told" 695 696 697 190 3 366 367 (.none) (.ref 368) (.ref 369) 370 703 704),
  (372,Zf "_law_told" "_law_told" (top 44) Zm (.ref 371)),
  (376,Zk "_law_refused" "_law_refused" 706 707 708 197 2 373 374 .none .none .none 375 709 710),
  (377,Zf "_law_refused" "_law_refused" (top 45) Zm (.ref 376)),
  (383,Zk "law" "law" 712 713 714 205 1 378 379 (.none) (.ref 380) (.ref 381) 382 724 725),
  (384,Zf "law" "law" (top 46) Zm (.ref 383))]
noncomputable def AA:List Addr:=[3,20,21,30,31,47,48,50,51,69,70,88,89,107,108,126,127,145,146,164,165,176,177,195,196,204,205,209,210,214,215,221,222,228,229,235,236,242,243,249,250,256,257,263,264,268,269,275,276,282,283,289,290,296,297,303,304,310,311,317,318,324,325,329,330,343,344,350,351,357,358,364,365,371,372,376,377,383,384]
noncomputable def VV:Program:={ PySem.Challenge.pw_pageback_k16_out_of_book with main:={ PySem.Challenge.pw_pageback_k16_out_of_book.main with body:=[1,3,4,5,6,7,8,9,10,11,12,14,15,16,17,19,20,21,22,24,25,26,28,29,30,32,33,34,35,36,37,38,39,40,41,42,43,44,45,46].map top } }
theorem ka(P:Params):AA=List.map (λx=>x.fst) (KK P):=by kernel_rfl
theorem hl:PySem.W.LeftO PySem.Challenge.pw_pageback_k16_out_of_book VV [] (λs=>PySem.W.xlAt VV [] s && PySem.W.recOk PySem.Challenge.rw_pageback_k16_out_of_book.row.records s) (PySem.W.kHook KK AA ka).obs (PySem.W.kHook KK AA ka).val 6824:=λw=>by kernel_rfl
end K16
namespace L2
open PySem PySem.Spec PyProof.Rows
noncomputable abbrev Key:=Sum Int Str
noncomputable def zkt:Key->Value->Bool
 |.inl k,v=>Value.isInt k v
 |.inr x,v=>Value.isStrOf x v
noncomputable def ycf(w:World):Key->Int
 |.inl k=>hashInt k
 |.inr x=>hashStr w x
theorem za3:∀{k:Key}{v:Value},zkt k v=true->(∃i t,k=Sum.inl i/\v=Value.int i t)\/(∃x t,k=Sum.inr x/\v=Value.str x t)
 |.inl i,v,h=>by
  obtain⟨t,e⟩:=Value.isInt_shape (k:=i) (v:=v) h;exact .inl ⟨i,t,rfl,e⟩
 |.inr x,v,h=>by
  obtain⟨t,e⟩:=Value.isStrOf_shape (x:=x) (v:=v) h;exact .inr ⟨x,t,rfl,e⟩
theorem zos(i:Int)(t:Tok):zkt (.inl i) (.int i t)=true:=by simp[zkt,Value.isInt]
theorem zot(x:Str)(t:Tok):zkt (.inr x) (.str x t)=true:=by simp[zkt,Value.isStrOf]
theorem z2l(a b:Int):decide ((Sum.inl a:Key)=Sum.inl b)=(a == b):=by
 by_cases e:a=b
 ·subst e;simp
 ·have h:¬(Sum.inl a:Key)=Sum.inl b:=λq=>e (ku q)
  rw[jc h];exact(zh.mpr e).symm
theorem z2m(a b:Str):decide ((Sum.inr a:Key)=Sum.inr b)=decide (a=b):=by
 by_cases e:a=b
 ·subst e;simp
 ·have h:¬(Sum.inr a:Key)=Sum.inr b:=λq=>e (Sum.inr.inj q)
  rw[jc h,jc e]
theorem z2n(a:Int)(b:Str):decide ((Sum.inl a:Key)=Sum.inr b)=false:=jc (λq=>nomatch q)
theorem z2o(a:Str)(b:Int):decide ((Sum.inr a:Key)=Sum.inl b)=false:=jc (λq=>nomatch q)
noncomputable def zbi(prog:Program)(w:World):PySem.KeyKind prog w Key where
 is:=zkt
 hash:=ycf w
 inj:=λv a b ha hb=>by
  rcases za3 ha with⟨i,t,rfl,rfl⟩|⟨x,t,rfl,rfl⟩
  ·rcases za3 hb with⟨j,u,rfl,e⟩|⟨y,u,rfl,e⟩
   ·injection e with e1 _;rw[e1]
   ·exact nomatch e
  ·rcases za3 hb with⟨j,u,rfl,e⟩|⟨y,u,rfl,e⟩
   ·exact nomatch e
   ·injection e with e1 _;rw[e1]
 byValue:=λk v h=>by
  rcases za3 h with⟨i,t,rfl,rfl⟩|⟨x,t,rfl,rfl⟩ <;> rfl
 pyHash:=λhv h=>by
  rcases za3 hv with⟨i,t,rfl,rfl⟩|⟨x,t,rfl,rfl⟩
  ·exact mn h
  ·exact on h
 eqBool:=λhu hv h=>by
  rcases za3 hu with⟨i,t,rfl,rfl⟩|⟨x,t,rfl,rfl⟩
  ·rcases za3 hv with⟨j,u,rfl,rfl⟩|⟨y,u,rfl,rfl⟩
   ·rw[z2l]at h;exact wpAny_eqBool_int h
   ·rw[z2n]at h;exact SeqAt.EqAt.int_str i t y u _ _ _ _ h
  ·rcases za3 hv with⟨j,u,rfl,rfl⟩|⟨y,u,rfl,rfl⟩
   ·rw[z2o]at h;exact SeqAt.EqAt.str_int x t j u _ _ _ _ h
   ·rw[z2m]at h;exact wpAny_eqBool_str h
 «strs»:=λk x t v h=>by
  rcases za3 h with⟨i,u,rfl,e⟩|⟨y,u,rfl,e⟩
  ·exact nomatch e
  ·injection e with e1 _
   subst e1
   cases v <;> rfl
theorem zku(prog:Program)(w:World)(i:Int)(t:Tok):(zbi prog w).is (.inl i) (.int i t)=true:=zos i t
theorem zkv(prog:Program)(w:World)(x:Str)(t:Tok):(zbi prog w).is (.inr x) (.str x t)=true:=zot x t
inductive V where
 |non|bl (b:Bool)|int (i:Int)|str (x:Str)|byt (b:Array UInt8)|flt (b:UInt64)|ref (a:Addr)|ty (n:String)
 deriving DecidableEq
def za7:V->Value->Prop
 |.non,u=>u=Value.none
 |.bl b,u=>u=Value.bool b
 |.int i,u=>∃t,u=Value.int i t
 |.str x,u=>∃t,u=Value.str x t
 |.byt b,u=>∃t,u=Value.bytes b t
 |.flt b,u=>∃t,u=Value.float b t
 |.ref a,u=>u=Value.ref a
 |.ty n,u=>u=Value.type n
abbrev zbj:List V->List Value->Prop:=Paired za7
theorem zbj.length{xs:List V}{us:List Value}(r:zbj xs us):xs.length=us.length:=Paired.length r
theorem zbj.get:∀{xs:List V}{us:List Value}{i:Nat}{x:V},zbj xs us->xs[i]?=some x->∃u,us[i]?=some u/\za7 x u
 |_,_,_,_,.nil,e=>by simp at e
 |_,_,0,_,.cons r _,e=>by simp at e;subst e;exact⟨_,rfl,r⟩
 |_,_,i+1,x,.cons _ t,e=>by
  obtain⟨u,h1,h2⟩:=zbj.get (i:=i) (x:=x) t (by simpa using e);exact⟨u,by simpa using h1,h2⟩
theorem zbj.set{x:V}{u:Value}(r:za7 x u):∀{xs:List V}{us:List Value} (i:Nat),zbj xs us->zbj (xs.set i x) (us.set i u)
 |_,_,_,.nil=>.nil
 |_,_,0,.cons _ t=>.cons r t
 |_,_,i+1,.cons q t=>.cons q (zbj.set r i t)
theorem zbj.append:∀{xs ys:List V}{us ws:List Value},zbj xs us->zbj ys ws->zbj (xs++ys) (us++ws)
 |_,_,_,_,.nil,s=>s
 |_,_,_,_,.cons r t,s=>.cons r (zbj.append t s)
theorem zbj.take:∀{xs:List V}{us:List Value} (n:Nat),zbj xs us->zbj (xs.take n) (us.take n)
 |_,_,0,_=>.nil
 |_,_,_+1,.nil=>.nil
 |_,_,n+1,.cons r t=>.cons r (zbj.take n t)
theorem zbj.drop:∀{xs:List V}{us:List Value} (n:Nat),zbj xs us->zbj (xs.drop n) (us.drop n)
 |_,_,0,r=>r
 |_,_,_+1,.nil=>.nil
 |_,_,n+1,.cons _ t=>zbj.drop n t
def zgx:Option V->Option Value->Prop
 |some v,some u=>za7 v u
 |none,none=>True
 |_,_=>False
def KV{κ:Type}:List (κ×V)->List (κ×Value)->Prop:=Paired λ(p:κ×V) (q:κ×Value)=>p.1=q.1/\za7 p.2 q.2
noncomputable def kV:Key->V
 |.inl i=>.int i
 |.inr x=>.str x
inductive HO where
 |lst (xs:List V)
 |tup (xs:List V)
 |dK (kvs:List (Key×V))|dT (kvs:List (List Key×V))
 |set (S:Int->Bool) (n:Nat)
 |ins (C dx:Addr) (fs:List (Str×V))
 |own (x:Addr)
 |xd (fs:List (Str×V))
 |met (f x:Addr)
 |rng (lo hi:Int)
 |frz (o:Obj) (u:HO)
 |tbl (ps:Array Value)
 |ext (φ:Heap->Prop)
noncomputable abbrev Hp:=Addr->Option HO
noncomputable def upd(H:Hp)(a:Addr)(o:HO):Hp:=λb=>if b=a then some o else H b
theorem zac{H:Hp}{a:Addr}{o:HO}:upd H a o a=some o:=by unfold upd;rw[la rfl]
theorem zad{H:Hp}{a b:Addr}{o:HO}(h:b≠a):upd H a o b=H b:=by unfold upd;rw[wa h]
theorem zou{H:Hp}{a:Addr}{o u:HO}:upd (upd H a o) a u=upd H a u:=by
 funext b;unfold upd;split <;> rfl
theorem zd3{H:Hp}{a b:Addr}{o u:HO}(h:H a=some o)(h':H b=some u)(d:o≠u):a≠b:=by
 intro e;subst e;rw[h]at h';exact d (kc h')
theorem zag{H:Hp}{a b:Addr}{o:HO}(h:H a=some o)(h':H b=none):a≠b:=by
 intro e;subst e;rw[h]at h';cases h'
section
variable (P:Program)(w:World)
def za8(H:Hp)(h:Heap)(a:Addr):HO->Prop
 |.lst xs=>xs.length<=sizeLine/\∃(its:List Value) (n:Nat),zbj xs its/\h.get? a=some { cls:=.type "list",data:=.seq its.toArray n }
 |.tup xs=>xs.length<=sizeLine/\∃its:List Value,zbj xs its/\IsTup h a its.toArray
 |.dK kvs=>kvs.length<=sizeLine/\(a == sysModules)=false/\∃vs,KV kvs vs/\h.DictOf (zbi P w) a vs
 |.dT kvs=>kvs.length<=sizeLine/\(a == sysModules)=false/\∃xs:List (List Key×Addr×Value),
   Paired (λ(p:List Key×V) (q:List Key×Addr×Value)=>p.1=q.1/\H q.2.1=some (.tup (p.1.map kV))/\za7 p.2 q.2.2) kvs xs ∧
   ∃o es ep,h.get? a=some o/\o.ExactDict/\o.data=.dict es ep/\es.toList=xs.map (entryOfKey (tupleKind (zbi P w)))/\(xs.map (·.1)).Nodup
 |.set S n=>h.SetOf (intKind P w) a S n
 |.ins C dx fs=>H dx=some (.own a)/\fs.length<=1000/\dx≠a/\h.get? a=some (PySem.W.instObj C dx) ∧
   ∃mA,h.Ns1 dx mA/\(∀f,zgx (fs.lookup f) (mA f))/\PySem.Within mA (fs.map (·.1))
 |.own _=>∃o,h.get? a=some o
 |.xd fs=>∃mA,h.Ns1 a mA/\∀f,zgx (fs.lookup f) (mA f)
 |.rng lo hi=>∃t u v,h.get? a=some { cls:=.type "range",data:=.fields #[.int lo t,.int hi u,.int 1 v] }
 |.frz o u=>h.get? a=some o/\za8 H h a u
 |.tbl ps=>h.get? a=some { cls:=.none,data:=.fields ps }
 |.met f x=>h.get? a=some (PySem.W.methodObj (.ref f) (.ref x))
 |.ext φ=>φ h/\(∃o,h.get? a=some o)/\∀h1 h2:Heap,φ h1->(∀o,h1.get? a=some o->h2.get? a=some o)->φ h2
def HOk(H:Hp)(h:Heap):Prop:=∀a o,H a=some o->za8 P w H h a o
end
section
variable {P:Program}{w:World}{H H':Hp}{h h':Heap}{a:Addr}{o:HO}
theorem za8.lt(x:za8 P w H h a o):a<h.objs.size:=by
 cases o with
 |lst xs=>obtain⟨_,_,_,_,e⟩:=x;exact ya e
 |tup xs=>obtain⟨_,_,_,p⟩:=x;exact p.lt
 |dK kvs=>obtain⟨_,_,_,_,o,_,_,e,_⟩:=x;exact ya e
 |dT kvs=>obtain⟨_,_,_,_,o,_,_,e,_⟩:=x;exact ya e
 |set S n=>obtain⟨o,_,_,_,e,_⟩:=x;exact ya e
 |ins C dx fs=>obtain⟨_,_,_,e,_⟩:=x;exact ya e
 |own y=>obtain⟨_,e⟩:=x;exact ya e
 |xd fs=>obtain⟨_,⟨_,_,_,e,_⟩,_⟩:=x;exact ya e
 |rng lo hi=>obtain⟨_,_,_,e⟩:=x;exact ya e
 |frz ob u=>obtain⟨e,_⟩:=x;exact ya e
 |tbl ps=>exact ya (show h.get? a=some _ from x)
 |met f y=>exact ya (show h.get? a=some _ from x)
 |ext φ=>obtain⟨_,⟨_,e⟩,_⟩:=x;exact ya e
theorem Paired.mapP{α β:Type}{F G:α->β->Prop}:∀{l₁:List α}{l₂:List β},Paired F l₁ l₂->(∀a b,F a b->G a b)->Paired G l₁ l₂
 |_,_,.nil,_=>.nil
 |_,_,.cons r t,f=>.cons (f _ _ r) (Paired.mapP t f)
theorem za8.stay(x:za8 P w H h a o)(k:∀b u,(b=a\/H b=some (.own a))->h.get? b=some u->h'.get? b=some u)
  (ho:∀b,H b=some (.own a)->H' b=some (.own a)) (ht:∀b xs,H b=some (.tup xs)->H' b=some (.tup xs)):za8 P w H' h' a o:=by
 induction o with
 |lst xs=>obtain⟨z,its,n,r,e⟩:=x;exact⟨z,its,n,r,k _ _ (.inl rfl) e⟩
 |tup xs=>obtain⟨z,its,r,ob,e,c⟩:=x;exact⟨z,its,r,ob,k _ _ (.inl rfl) e,c⟩
 |dK kvs=>obtain⟨z,y,vs,r,ob,es,ep,e,c⟩:=x;exact⟨z,y,vs,r,ob,es,ep,k _ _ (.inl rfl) e,c⟩
 |dT kvs =>
  obtain⟨z,y,xs,r,ob,es,ep,e,c⟩:=x;exact⟨z,y,xs,Paired.mapP r λp q z=>⟨z.1,ht _ _ z.2.1,z.2.2⟩,ob,es,ep,k _ _ (.inl rfl) e,c⟩
 |set S n=>obtain⟨ob,es,ep,t,e,c⟩:=x;exact⟨ob,es,ep,t,k _ _ (.inl rfl) e,c⟩
 |ins C dx fs =>
  obtain⟨d,z,ne,e,mA,⟨od,es,ep,e2,c⟩,r⟩:=x;exact⟨ho _ d,z,ne,k _ _ (.inl rfl) e,mA,⟨od,es,ep,k _ _ (.inr d) e2,c⟩,r⟩
 |own y=>obtain⟨ob,e⟩:=x;exact⟨ob,k _ _ (.inl rfl) e⟩
 |xd fs=>obtain⟨mA,⟨od,es,ep,e,c⟩,r⟩:=x;exact⟨mA,⟨od,es,ep,k _ _ (.inl rfl) e,c⟩,r⟩
 |rng lo hi=>obtain⟨t,u,v,e⟩:=x;exact⟨t,u,v,k _ _ (.inl rfl) e⟩
 |frz ob u ih=>obtain⟨e,q⟩:=x;exact⟨k _ _ (.inl rfl) e,ih q⟩
 |tbl ps =>
  have e:h.get? a=some { cls:=.none,data:=.fields ps }:=x;show h'.get? a=some { cls:=.none,data:=.fields ps };exact k a _ (.inl rfl) e
 |met f y =>
  have e:h.get? a=some (PySem.W.methodObj (.ref f) (.ref y)):=x;show h'.get? a=some (PySem.W.methodObj (.ref f) (.ref y));exact k a _ (.inl rfl) e
 |ext φ=>obtain⟨p,⟨o,e⟩,st⟩:=x;exact⟨st _ _ p λo q=>k _ _ (.inl rfl) q,⟨o,k _ _ (.inl rfl) e⟩,st⟩
theorem HOk.lt(x:HOk P w H h)(e:H a=some o):a<h.objs.size:=(x a o e).lt
theorem HOk.fresh(x:HOk P w H h)(e:h.objs.size<=a):H a=none:=by
 cases q:H a with
 |none=>rfl
 |some u=>exact absurd (wb (x.lt q) e) (wg _)
theorem HOk.kept(x:HOk P w H h)(k:∀b u,h.get? b=some u->h'.get? b=some u):HOk P w H h':=λa o e =>
 (x a o e).stay (λb u _ q=>k b u q) (λ_ q=>q) λ_ _ q=>q
theorem HOk.laid(x:HOk P w H h)(k:∀b u,h.get? b=some u->h'.get? b=some u)(hp:h.objs.size<=a)(new:za8 P w (upd H a o) h' a o):HOk P w (upd H a o) h':=λb u e=>by
 have hn:=x.fresh hp;by_cases hb:b=a
 ·subst hb;rw[zac]at e;cases e;exact new
 ·rw[zad hb]at e
  exact(x b u e).stay (λc v _ q=>k c v q) (λc q=>by rw[zad (zag q hn)];exact q) λc xs q=>by rw[zad (zag q hn)];exact q
end
def Rd(H:Hp)(a:Addr)(u:HO):Prop:=H a=some u\/∃o,H a=some (.frz o u)
theorem Rd.of{H:Hp}{a:Addr}{u:HO}(h:H a=some u):Rd H a u:=.inl h
theorem Rd.ok{P:Program}{w:World}{H:Hp}{h:Heap}{a:Addr}{u:HO}(r:Rd H a u)(x:HOk P w H h):za8 P w H h a u:=by
 rcases r with r|⟨o,r⟩
 ·exact x a u r
 ·obtain⟨_,q⟩:=x a _ r
  exact q
def Mut:Option HO->Prop
 |some (.lst _)=>True
 |some (.dK _)=>True
 |some (.dT _)=>True
 |some (.set _ _)=>True
 |some (.ins _ _ _)=>True
 |some (.ext _)=>True
 |_=>False
section
variable {P:Program}{w:World}{H:Hp}{h h':Heap}{x e:Addr}{o':HO}
theorem HOk.write(ok:HOk P w H h)(mu:Mut (H x))(he:e=x\/H e=some (.own x))(k:∀b u,b≠e->h.get? b=some u->h'.get? b=some u)(heo:∃u,h'.get? e=some u)
  (new:za8 P w (upd H x o') h' x o'):HOk P w (upd H x o') h':=λb u q=>by
 have nown:∀c y,H c=some (.own y)->c≠x:=λc y r z=>by subst z;rw[r]at mu;exact mu
 have ntup:∀c xs,H c=some (.tup xs)->c≠x:=λc xs r z=>by subst z;rw[r]at mu;exact mu
 by_cases hb:b=x
 ·subst hb;rw[zac]at q;cases q;exact new
 ·rw[zad hb]at q
  by_cases hbe:b=e
  ·have q':H b=some (.own x):=by
    rcases he with z|z
    ·exact absurd (hbe.trans z) hb
    ·rw[hbe];exact z
   rw[q]at q';cases q';obtain⟨v,hv⟩:=heo;exact⟨v,by rw[hbe];exact hv⟩
  ·refine(ok b u q).stay (λc v hc r=>k c v ?_ r) (λc r=>by rw[zad (nown c b r)];exact r) λc xs r=>by rw[zad (ntup c xs r)];exact r
   rcases hc with rfl|hc
   ·exact hbe
   ·rintro rfl
    rcases he with z|z
    ·exact nown c b hc z
    ·rw[hc]at z;cases z;exact hb rfl
end
structure Un(fs ex:List Addr)(H H':Hp)(h h':Heap):Prop where
 keep:∀b o,h.get? b=some o->H b=none->b ∉ fs->b ∉ ex->h'.get? b=some o
 slot:∀b o,h.get? b=some o->H b=none->b∈fs->b ∉ ex->∃sl,h'.get? b=some { o with slots:=sl }
 free:∀b o,h.get? b=some o->H b=none->b ∉ ex->H' b=none
 there:∀b o,h.get? b=some o->b ∉ ex->∃o',h'.get? b=some o'
 tups:∀b xs,H b=some (.tup xs)->H' b=some (.tup xs)
 frzs:∀b o u,H b=some (.frz o u)->H' b=some (.frz o u)
 tbls:∀b ps,H b=some (.tbl ps)->∃more,H' b=some (.tbl (ps++more))
section
variable {fs fs' ex ex':List Addr}{H H1 H2:Hp}{h h1 h2 h':Heap}{a x e:Addr}{o:HO}
theorem Un.any(u:Un fs ex H H1 h h1){b:Addr}{ob:Obj}(q:h.get? b=some ob)(n:H b=none)(hx:b ∉ ex):∃sl,h1.get? b=some { ob with slots:=sl }:=by
 by_cases hb:b∈fs
 ·exact u.slot b ob q n hb hx
 ·exact⟨ob.slots,u.keep b ob q n hb hx⟩
theorem Un.kept(k:∀b u,h.get? b=some u->h'.get? b=some u):Un fs ex H H h h' :=
 ⟨λb ob q _ _ _=>k b ob q,λb ob q _ _ _=>⟨ob.slots,k b ob q⟩,λ_ _ _ n _=>n,λb ob q _=>⟨ob,k b ob q⟩,λ_ _ q=>q,λ_ _ _ q=>q,λ_ ps q=>⟨#[],by rw[q];simp⟩⟩
theorem Un.refl:Un fs ex H H h h:=Un.kept λ_ _ q=>q
theorem Un.laid(k:∀b u,h.get? b=some u->h'.get? b=some u)(hp:h.objs.size<=a)(hn:H a=none):Un fs ex H (upd H a o) h h' where
 keep:=λb u q _ _ _=>k b u q
 slot:=λb u q _ _ _=>⟨u.slots,k b u q⟩
 free:=λb u q n _=>by rw[zad (dc (wb (ya q) hp))];exact n
 there:=λb u q _=>⟨u,k b u q⟩
 tups:=λb xs q=>by rw[zad (zag q hn)];exact q
 frzs:=λb u xs q=>by rw[zad (zag q hn)];exact q
 tbls:=λb ps q=>⟨#[],by rw[zad (zag q hn),q];simp⟩
theorem Un.write(mu:Mut (H x))(he:e=x\/H e=some (.own x))(k:∀b u,b≠e->h.get? b=some u->h'.get? b=some u)(heo:∃u,h'.get? e=some u):Un fs ex H (upd H x o) h h':=by
 have hx:∀b,H b=none->b≠x:=λb n z=>by subst z;rw[n]at mu;exact mu
 have hb:∀b,H b=none->b≠e:=λb n z=>by
  subst z;rcases he with r|r
  ·exact hx b n r
  ·rw[n]at r;cases r
 have hm:∀b u,H b=some u->¬Mut (some u)->b≠x:=λb u q nm z=>by subst z;rw[q]at mu;exact nm mu
 refine⟨λ b u q n _ _=>k b u (hb b n) q,λ b u q n _ _=>⟨u.slots,k b u (hb b n) q⟩,λ b u q n _=>by rw[zad (hx b n)];exact n,λ b u q _=>?_,
  λb xs q=>by rw[zad (hm b _ q λz=>z)];exact q,λb u xs q=>by rw[zad (hm b _ q λz=>z)];exact q,λb ps q=>⟨#[],by rw[zad (hm b _ q λz=>z),q];simp⟩⟩
 by_cases hbe:b=e
 ·subst hbe;exact heo
 ·exact⟨u,k b u hbe q⟩
end
noncomputable def trk(h:Heap)(H:Hp):List Addr:=(List.range h.objs.size).filter λa=>(H a).isSome
noncomputable def zs1(h:Heap)(H:Hp):Heap:=PySem.W.hideAll h (trk h H)
theorem zov(h:Heap)(H:Hp):(zs1 h H).objs.size=h.objs.size:=PySem.W.hideAll_size _ _
theorem zs2{h:Heap}{H:Hp}{b:Addr}{o:Obj}(e:h.get? b=some o)(n:H b=none):(zs1 h H).get? b=some o :=
 PySem.W.hideAll_get _ e λhm=>by
  have q:(H b).isSome=true:=(bp.mp hm).2;rw[n]at q;simp at q
theorem zx8{h:Heap}{H:Hp}{b:Addr}{o:Obj}(e:(zs1 h H).get? b=some o):h.get? b=some o/\H b=none:=by
 have e':h.get? b=some o:=PySem.W.of_hideAll (trk h H) e;refine⟨e',?_⟩
 cases q:H b with
 |none=>rfl
 |some x =>
  have hm:b∈trk h H:=bp.mpr ⟨lg.mpr (ya e'),by simp[q]⟩;have z:(zs1 h H).get? b=none:=PySem.W.hideAll_none (trk h H) hm;rw[z]at e;cases e
structure Mod(K:PySem.W.Frag)(mg:Str->Option Value)(base:Heap):Prop where
 kin:K.In base
 glob:base.Ns mainGlobals mg
 blt:∃mb,base.Ns builtinsNs mb/\∀x:Str,x ≠ "__name__" -> mb x=bootBuiltins x
 nolimit:base.NoLimit
structure Cx where
 prog:Program
 w:World
 K:PySem.W.Frag
 mg:Str->Option Value
 base:Heap
 A:Around
 N:List Str
 s₀:Shared
 H₀:Hp
 env:Env
 outer:List Env
 stack:List Env
 ex:List Addr
 fn:Str->Bool
 calm:Bool
 pn:List (Addr×Obj)
 xe:Value->Shared->Prop
noncomputable def frs(l:List Env):List Addr:=l.filterMap (·.frame)
noncomputable abbrev Cx.fs(X:Cx):List Addr:=frs X.outer
def Vis(sc:Scope)(x:Str):Prop:=sc.names.lookup x=some .local\/sc.names.lookup x=some .cell\/sc.names.lookup x=some .free
def Loc(sc:Scope)(x:Str):Prop:=sc.names.lookup x=some .local\/sc.names.lookup x=some .cell
def ycg(env:Env)(h:Heap)(m:Str->Option Value)(x:Str)(u:Value):Prop :=
 (env.kindOf x=some .local/\m x=some u)\/((env.kindOf x=some .cell\/env.kindOf x=some .free)/\∃c,env.cells.lookup x=some c/\h.IsCell c (some u))
structure Cx.Ok(X:Cx):Prop where
 mod:Mod X.K X.mg X.base
 kind:X.env.scope.kind=.function
 glob:X.env.globals=mainGlobals
 blt:X.env.builtins=builtinsNs
 above:X.s₀.heap.objs.size<=X.env.locals
 inj:∀x y c,X.env.cells.lookup x=some c->X.env.cells.lookup y=some c->x=y
 has:∀x,(X.env.kindOf x=some .cell\/X.env.kindOf x=some .free)->∃c,X.env.cells.lookup x=some c
 cab:∀x c,X.fn x=true->X.env.cells.lookup x=some c->X.s₀.heap.objs.size<=c
 hd:X.calm=true->X.A.handled=none
 frames:X.A.frames=some X.stack
 stk:X.stack=X.outer\/(X.stack=X.env::X.outer/\X.env.frame=some X.env.locals)
 exf:∀b∈X.ex,b≠X.env.locals/\∀x c,X.env.cells.lookup x=some c->c≠b
 bs:∀b o,X.base.get? b=some o->X.s₀.heap.get? b=some o/\X.H₀ b=none
 bsz:X.base.objs.size<=X.s₀.heap.objs.size
 noex:∀b o,X.base.get? b=some o->b ∉ X.ex
 exfs:∀b∈X.ex,b ∉ X.fs
 funs:X.s₀.heap.FunFrames X.base X.outer
 frf:∀b∈X.fs,X.H₀ b=none
structure Inv(X:Cx)(pins:List (Addr×Obj))(σ:List (Option V))(H:Hp)(s:Shared):Prop where
 ok:X.Ok
 os:s.os=X.s₀.os
 bare:AllBare s.gens
 base:Un X.fs X.ex X.H₀ H X.s₀.heap s.heap
 loc:∃m,s.heap.Ns X.env.locals m/\∀(i:Nat) (x:Str) (v:V),X.N[i]?=some x->σ[i]?=some (some v)->Vis X.env.scope x->∃u,za7 v u/\ycg X.env s.heap m x u
 cell:∀x c,X.env.cells.lookup x=some c->∃v,s.heap.IsCell c v
 free:H X.env.locals=none
 freeC:∀x c,X.env.cells.lookup x=some c->H c=none
 pin:∀p∈X.pn++pins,s.heap.get? p.1=some p.2/\H p.1=none/\p.1≠X.env.locals/\p.1 ∉ X.fs/\∀v,p.2.data≠.cell v
 hok:HOk X.prog X.w H s.heap
 len:σ.length=X.N.length
section
variable {X:Cx}{pins:List (Addr×Obj)}{σ:List (Option V)}{H H':Hp}{s:Shared}{h':Heap}
theorem Cx.Ok.nofr(ok:X.Ok){b:Addr}{o:Obj}(e:X.base.get? b=some o):b ∉ X.fs:=λhb=>by
 have:=(ok.funs.mem hb).1
 rw[e]at this;cases this
theorem Inv.bs(I:Inv X pins σ H s):∀b o,X.base.get? b=some o->s.heap.get? b=some o/\H b=none:=λb o e =>
 ⟨I.base.keep b o (I.ok.bs b o e).1 (I.ok.bs b o e).2 (I.ok.nofr e) (I.ok.noex b o e),I.base.free b o (I.ok.bs b o e).1 (I.ok.bs b o e).2 (I.ok.noex b o e)⟩
theorem Inv.bk(I:Inv X pins σ H s):∀b o,X.base.get? b=some o->s.heap.get? b=some o:=λb o e=>(I.bs b o e).1
theorem Inv.mod(I:Inv X pins σ H s):Mod X.K X.mg X.base:=I.ok.mod
theorem Inv.kIn(I:Inv X pins σ H s):X.K.In s.heap:=I.ok.mod.kin.keeps I.bk
theorem Inv.lt(I:Inv X pins σ H s):X.env.locals<s.heap.objs.size:=let ⟨_,hn,_⟩:=I.loc;hn.lt
theorem Inv.sz(I:Inv X pins σ H s):X.s₀.heap.objs.size<=s.heap.objs.size:=ed I.ok.above (vo I.lt)
theorem Inv.nofs(I:Inv X pins σ H s){a:Addr}(h:s.heap.objs.size<=a):a ∉ X.fs:=λhb=>by
 obtain⟨_,o,ho,_⟩:=I.ok.funs.mem hb
 exact absurd (wb (ya ho) (ed I.sz h)) (wg _)
theorem Inv.cne(I:Inv X pins σ H s):∀x c,X.env.cells.lookup x=some c->c≠X.env.locals:=λx c e z=>by
 obtain⟨v,o,ho,hd⟩:=I.cell x c e;obtain⟨m,⟨o',es,ep,ho',hd',_⟩,_⟩:=I.loc;rw[z,ho']at ho;cases ho;rw[hd']at hd;cases hd
theorem Inv.funs(I:Inv X pins σ H s):s.heap.FunFrames X.base X.outer:=by
 have all:∀(l:List Env),(∀b∈frs l,b∈X.fs)->X.s₀.heap.FunFrames X.base l->s.heap.FunFrames X.base l:=by
  intro l
  induction l with
  |nil=>intro _ _;trivial
  |cons env r ih =>
   intro hs hl;obtain⟨hk,⟨L,o,hf,hn,ho,hd⟩,hr⟩:=hl;have hL:L∈X.fs:=hs L (by unfold frs;rw[xl,hf];exact xa);obtain⟨sl,e⟩:=I.base.slot L o ho (I.ok.frf L hL) hL λz=>I.ok.exfs L z hL
   exact⟨hk,⟨L,_,hf,hn,e,hd⟩,ih (λb hb=>hs b (by unfold frs;rw[xl,hf];exact ja _ hb)) hr⟩
 exact all X.outer (λ_ hb=>hb) I.ok.funs
theorem Inv.stack(I:Inv X pins σ H s):s.heap.FunFrames X.base X.stack:=by
 rcases I.ok.stk with e|⟨e,hf⟩
 ·rw[e];exact I.funs
 ·rw[e]
  obtain⟨m,hn,_⟩:=I.loc;refine .cons (by rw[I.ok.kind];decide) hf hn ?_ I.funs
  exact xk (ed I.ok.bsz I.ok.above)
theorem Inv.stkSub(I:Inv X pins σ H s):∀b∈frs X.stack,b∈X.env.locals::X.fs:=λb hb=>by
 rcases I.ok.stk with e|⟨e,hf⟩
 ·rw[e]at hb;exact ja _ hb
 ·rw[e]at hb
  unfold frs at hb;rw[xl,hf]at hb;exact hb
theorem Inv.stkFree(I:Inv X pins σ H s):∀b∈frs X.stack,H b=none:=λb hb=>by
 rcases pb.mp (I.stkSub b hb) with e|hb
 ·rw[e];exact I.free
 ·obtain⟨_,o,ho,_⟩:=I.ok.funs.mem hb
  exact I.base.free b o ho (I.ok.frf b hb) λz=>I.ok.exfs b z hb
theorem Inv.step{g':Array GenState}{t':Nat}{d':Drawn}{ch:List Addr}(I:Inv X pins σ H s)
  (hch:∀b∈ch,(b∈X.ex\/X.s₀.heap.objs.size<=b)/\b≠X.env.locals/\(∀x c,X.env.cells.lookup x=some c->c≠b)/\∀p∈X.pn++pins,p.1≠b)
  (keep:∀b o,b≠X.env.locals->b ∉ X.fs->b ∉ ch->s.heap.get? b=some o->H b=none->h'.get? b=some o)
  (slot:∀b o,b≠X.env.locals->b∈X.fs->b ∉ ch->s.heap.get? b=some o->H b=none->∃sl,h'.get? b=some { o with slots:=sl }) (free:∀b o,b ∉ ch->s.heap.get? b=some o->H b=none->H' b=none)
  (there:∀b o,b ∉ ch->s.heap.get? b=some o->∃o',h'.get? b=some o')
  (tups:∀b xs,H b=some (.tup xs)->H' b=some (.tup xs)) (frzs:∀b o u,H b=some (.frz o u)->H' b=some (.frz o u)) (tbls:∀b ps,H b=some (.tbl ps)->∃more,H' b=some (.tbl (ps++more)))
  (ns:∀m,s.heap.Ns X.env.locals m->h'.Ns X.env.locals m) (hok:HOk X.prog X.w H' h') (hg:AllBare g') :
  Inv X pins σ H' { s with heap:=h',gens:=g',drawn:=d',toks:=t' }:=by
 have neL:∀b o,X.s₀.heap.get? b=some o->b≠X.env.locals:=λb o e=>dc (wb (ya e) I.ok.above)
 have neC:∀b o,X.s₀.heap.get? b=some o->b ∉ X.ex->b ∉ ch:=λb o e hx hb=>by
  rcases(hch b hb).1 with z|z
  ·exact hx z
  ·exact absurd (wb (ya e) z) (wg _)
 have cellK:∀x c,X.env.cells.lookup x=some c->∀v,s.heap.IsCell c v->h'.IsCell c v:=λx c e v ⟨o,ho,hd⟩=>by
  have nch:c ∉ ch:=λz=>(hch c z).2.2.1 x c e rfl
  by_cases hc:c∈X.fs
  ·obtain⟨sl,q⟩:=slot c o (I.cne x c e) hc nch ho (I.freeC x c e)
   exact⟨_,q,hd⟩
  ·exact⟨o,keep c o (I.cne x c e) hc nch ho (I.freeC x c e),hd⟩
 refine⟨I.ok,I.os,hg,⟨λb o e n hb hx=>?_,λb o e n hb hx=>?_,λb o e n hx=>?_,λb o e hx=>?_,λb xs e=>tups b xs (I.base.tups b xs e),λb o xs e=>frzs b o xs (I.base.frzs b o xs e),λb ps e=>?_⟩,?_,λx c e=>?_,?_,λx c e=>?_,λp hp=>?_,hok,I.len⟩
 ·exact keep b o (neL b o e) hb (neC b o e hx) (I.base.keep b o e n hb hx) (I.base.free b o e n hx)
 ·obtain⟨sl,e1⟩:=I.base.slot b o e n hb hx
  obtain⟨sl',e2⟩:=slot b _ (neL b o e) hb (neC b o e hx) e1 (I.base.free b o e n hx);exact⟨sl',e2⟩
 ·obtain⟨o',e1⟩:=I.base.there b o e hx
  exact free b o' (neC b o e hx) e1 (I.base.free b o e n hx)
 ·obtain⟨o',e1⟩:=I.base.there b o e hx
  exact there b o' (neC b o e hx) e1
 ·obtain⟨m1,e1⟩:=I.base.tbls b ps e
  obtain⟨m2,e2⟩:=tbls b _ e1;exact⟨m1++m2,by rw[e2,Array.append_assoc]⟩
 ·obtain⟨m,hn,hl⟩:=I.loc
  refine⟨m,ns m hn,λi x v e1 e2 e3=>?_⟩;obtain⟨u,r,l⟩:=hl i x v e1 e2 e3;refine⟨u,r,?_⟩;rcases l with l|⟨k,c,e,z⟩
  ·exact .inl l
  ·exact .inr ⟨k,c,e,cellK x c e _ z⟩
 ·obtain⟨v,z⟩:=I.cell x c e
  exact⟨v,cellK x c e v z⟩
 ·obtain⟨m,⟨o,_,_,ho,_⟩,_⟩:=I.loc
  exact free _ o (λz=>(hch _ z).2.1 rfl) ho I.free
 ·obtain⟨v,o,ho,hd⟩:=I.cell x c e
  exact free c o (λz=>(hch c z).2.2.1 x c e rfl) ho (I.freeC x c e)
 ·obtain⟨e,n,ne,nf,d⟩:=I.pin p hp
  have nch:p.1 ∉ ch:=λz=>(hch p.1 z).2.2.2 p hp rfl
  exact⟨keep p.1 p.2 ne nf nch e n,free p.1 p.2 nch e n,ne,nf,d⟩
theorem Inv.un{t':Nat}(I:Inv X pins σ H s)(u:Un X.fs [] H H' s.heap h')(hok:HOk X.prog X.w H' h'):Inv X pins σ H' { s with heap:=h',toks:=t' }:=by
 obtain⟨m,⟨o,es,ep,ho,r⟩,_⟩:=id I.loc;obtain⟨sl,hL⟩:=u.any ho I.free (by simp)
 exact I.step (g':=s.gens) (d':=s.drawn) (ch:=[]) (λ _ z=>nomatch z) (λ b o _ hb _ e n=>u.keep b o e n hb (by simp)) (λ b o _ hb _ e n=>u.slot b o e n hb (by simp)) (λ b o _ e n=>u.free b o e n (by simp)) (λ b o _ e=>u.there b o e (by simp)) u.tups u.frzs u.tbls (λ m' hm=>by
  obtain⟨o',es',ep',ho',r'⟩:=hm;rw[ho]at ho';cases ho';exact⟨_,es',ep',hL,r'⟩) hok I.bare
theorem Inv.call{g':Array GenState}{t':Nat}{d':Drawn}{ch:List Addr}(I:Inv X pins σ H s)(u:Un (frs X.stack) ch H H' s.heap h')(hok:HOk X.prog X.w H' h')(hg:AllBare g')
  (hch:∀b∈ch,(b∈X.ex\/X.s₀.heap.objs.size<=b)/\b≠X.env.locals/\(∀x c,X.env.cells.lookup x=some c->c≠b)/\∀p∈X.pn++pins,p.1≠b) :
  Inv X pins σ H' { s with heap:=h',gens:=g',drawn:=d',toks:=t' }:=by
 obtain⟨m,⟨o,es,ep,ho,r⟩,_⟩:=id I.loc;obtain⟨sl,hL⟩:=u.any ho I.free λz=>(hch _ z).2.1 rfl
 exact I.step (ch:=ch) hch (λ b o hL hb hc e n=>u.keep b o e n (λ z=>(List.mem_cons.mp (I.stkSub b z)).elim hL hb) hc) (λ b o _ _ hc e n=>u.any e n hc) (λ b o hc e n=>u.free b o e n hc) (λ b o hc e=>u.there b o e hc) u.tups u.frzs u.tbls (λ m' hm=>by
  obtain⟨o',es',ep',ho',r'⟩:=hm;rw[ho]at ho';cases ho';exact⟨_,es',ep',hL,r'⟩) hok hg
theorem Inv.turned{t':Nat}{it:Addr}(I:Inv X pins σ H s)(k:∀b o,b≠it->s.heap.get? b=some o->h'.get? b=some o)(hn:H it=none)(hL:it≠X.env.locals)
  (h1:it∈X.ex\/X.s₀.heap.objs.size<=it) (h2:∀x c,X.env.cells.lookup x=some c->c≠it) (h3:∀p∈X.pn++pins,p.1≠it):Inv X pins σ H { s with heap:=h',toks:=t' }:=by
 have nit:∀b u,H b=some u->b≠it:=λb u e z=>by rw[z,hn]at e;cases e
 refine I.step (g':=s.gens) (d':=s.drawn) (ch:=[it]) (λb hb=>?_) (λb o _ _ hc e _=>k b o (λz=>hc (by simp[z])) e) (λb o _ _ hc e _=>⟨o.slots,k b o (λz=>hc (by simp[z])) e⟩) (λ_ _ _ _ n=>n)
  (λb o hc e=>⟨o,k b o (λz=>hc (by simp[z])) e⟩) (λ_ _ e=>e) (λ_ _ _ e=>e) (λb ps e=>⟨#[],by rw[e];simp⟩) (λm hm=>?_) (λb u e=>?_) I.bare
 ·have e:b=it:=by simpa using hb
  subst e;exact⟨h1,hL,h2,h3⟩
 ·obtain⟨o,es,ep,ho,r⟩:=hm
  exact⟨o,es,ep,k _ o (rf hL) ho,r⟩
 ·refine(I.hok b u e).stay (λc v hc q=>k c v ?_ q) (λ_ q=>q) λ_ _ q=>q
  rcases hc with z|z
  ·rw[z];exact nit b u e
  ·exact nit c _ z
theorem Inv.tok(I:Inv X pins σ H s)(t:Nat):Inv X pins σ H { s with toks:=t }:=I.un (h':=s.heap) (t':=t) Un.refl I.hok
theorem Inv.kept{t':Nat}(I:Inv X pins σ H s)(k:∀b u,s.heap.get? b=some u->h'.get? b=some u):Inv X pins σ H { s with heap:=h',toks:=t' }:=I.un (Un.kept k) (I.hok.kept k)
theorem Inv.laid{a:Addr}{o:HO}{t':Nat}(I:Inv X pins σ H s)(k:∀b u,s.heap.get? b=some u->h'.get? b=some u)(hp:s.heap.objs.size<=a)(new:za8 X.prog X.w (upd H a o) h' a o) :
  Inv X pins σ (upd H a o) { s with heap:=h',toks:=t' }:=I.un (Un.laid k hp (I.hok.fresh hp)) (I.hok.laid k hp new)
theorem Inv.write{x e:Addr}{o:HO}{t':Nat}(I:Inv X pins σ H s)(mu:Mut (H x))(he:e=x\/H e=some (.own x))(k:∀b u,b≠e->s.heap.get? b=some u->h'.get? b=some u)(heo:∃u,h'.get? e=some u)
  (new:za8 X.prog X.w (upd H x o) h' x o):Inv X pins σ (upd H x o) { s with heap:=h',toks:=t' }:=I.un (Un.write mu he k heo) (I.hok.write mu he k heo new)
theorem Inv.weak{σ':List (Option V)}(I:Inv X pins σ H s)(hl:σ'.length=σ.length)(w:∀(i:Nat) v,σ'[i]?=some (some v)->σ[i]?=some (some v)):Inv X pins σ' H s :=
 ⟨I.ok,I.os,I.bare,I.base,let ⟨m,hn,hl'⟩:=I.loc;⟨m,hn,λi x v e1 e2 e3=>hl' i x v e1 (w i v e2) e3⟩,I.cell,I.free,I.freeC,I.pin,I.hok,hl.trans I.len⟩
theorem Inv.pins_of{pins':List (Addr×Obj)}(I:Inv X pins σ H s)(h:∀p∈pins',s.heap.get? p.1=some p.2/\H p.1=none/\p.1≠X.env.locals/\p.1 ∉ X.fs/\∀v,p.2.data≠.cell v):Inv X pins' σ H s :=
 ⟨I.ok,I.os,I.bare,I.base,I.loc,I.cell,I.free,I.freeC,λp hp=>(gc.mp hp).elim (λz=>I.pin p (we _ z)) (h p),I.hok,I.len⟩
theorem zhw{N:List Str}(hN:N.Nodup){i j:Nat}{x:Str}(a:N[i]?=some x)(b:N[j]?=some x):i=j:=by
 obtain⟨h1,e1⟩:=qa.mp a;obtain⟨h2,e2⟩:=qa.mp b;exact(List.getElem_inj hN).mp (e1.trans e2.symm)
theorem zi1{M:Model}{A:Around}{E:Value->Shared->Prop}{i:Nat}{x:Str}{v:V}{u:Value}{Q:Unit->Shared->Prop}(I:Inv X pins σ H s)(hN:X.N.Nodup)(hi:X.N[i]?=some x)(hx:Loc X.env.scope x)(r:za7 v u)
  (h:∀s',Inv X pins (σ.set i (some v)) H s'->(∃a,Heap.SameBut a s.heap s'.heap/\(a=X.env.locals\/X.env.cells.lookup x=some a))->Q () s') (hf:X.fn x=true\/X.env.scope.names.lookup x=some .local:=by first|exact .inl rfl|exact .inr rfl|assumption):wpAny M A (storeName X.env x u) Q E s:=by
 obtain⟨m,hn,hl⟩:=id I.loc;have hcls:(X.env.scope.kind == .class || (X.env.scope.kind == .module && X.env.locals != X.env.globals))=false:=by rw[I.ok.kind];rfl
 have hiσ:i<σ.length:=by rw[I.len];exact(qa.mp hi).1
 have cne:=I.cne
 have tracked:∀{a:Addr} {h':Heap},(∃o,s.heap.get? a=some o/\H a=none)->Heap.SameBut a s.heap h'->HOk X.prog X.w H h':=λ{a h'} ha hs b ob e=>by
  obtain⟨_,_,hfree⟩:=ha;refine(I.hok b ob e).stay (λc w' hc q=>(hs.2 c ?_).trans q) (λ_ q=>q) λ_ _ q=>q
  rintro rfl;rcases hc with rfl|hc
  ·rw[hfree]at e;cases e
  ·rw[hfree]at hc;cases hc
 rcases hx with hk|hk
 ·refine wpAny_storeName_local hk hn (λh' hn' hs=>?_) hcls
  obtain⟨oL,_,_,hoL,_⟩:=id hn;refine h _ ⟨I.ok,I.os,I.bare,⟨λb o e n hb hx=>?_,λb o e n hb hx=>?_,I.base.free,λb o e hx=>?_,I.base.tups,I.base.frzs,I.base.tbls⟩,⟨_,hn',λj y v' e1 e2 e3=>?_⟩,λy c e=>?_,I.free,I.freeC,λp hp=>?_,tracked ⟨oL,hoL,I.free⟩ hs,by simpa using I.len⟩ ⟨_,hs,.inl rfl⟩
  ·exact(hs.2 b (dc (wb (ya e) I.ok.above))).trans (I.base.keep b o e n hb hx)
  ·obtain⟨sl,e1⟩:=I.base.slot b o e n hb hx
   exact⟨sl,(hs.2 b (dc (wb (ya e) I.ok.above))).trans e1⟩
  ·obtain⟨o',e1⟩:=I.base.there b o e hx
   exact⟨o',(hs.2 b (dc (wb (ya e) I.ok.above))).trans e1⟩
  ·by_cases hj:j=i
   ·subst hj
    rw[hi]at e1;cases e1;rw[nb hiσ]at e2;cases e2;exact⟨u,r,.inl ⟨hk,by simp⟩⟩
   ·rw[na (rf hj)]at e2
    obtain⟨u',r',q⟩:=hl j y v' e1 e2 e3;refine⟨u',r',?_⟩;rcases q with⟨k,e⟩|⟨k,c,e,z⟩
    ·refine .inl ⟨k,?_⟩
     have:y≠x:=λe=>hj (zhw hN e1 (e ▸ hi))
     simp[this,e]
    ·exact .inr ⟨k,c,e,z.sameBut hs (cne y c e)⟩
  ·obtain⟨w',z⟩:=I.cell y c e
   exact⟨w',z.sameBut hs (cne y c e)⟩
  ·obtain⟨e,n,ne,nf,d⟩:=I.pin p hp
   exact⟨(hs.2 p.1 ne).trans e,n,ne,nf,d⟩
 ·have hfn:X.fn x=true:=by
   rcases hf with z|z
   ·exact z
   ·rw[z]at hk;cases hk
  obtain⟨c,hc⟩:=I.ok.has x (.inl hk);obtain⟨w',z⟩:=I.cell x c hc;refine wpAny_storeName_cell I.ok.kind hk hc z (λh' hc' hs=>?_);obtain⟨oc,hoc,hocd⟩:=id z;refine h { s with heap:=h' } ⟨I.ok,I.os,I.bare,⟨λb o e n hb hx=>?_,λb o e n hb hx=>?_,I.base.free,λb o e hx=>?_,I.base.tups,I.base.frzs,I.base.tbls⟩,⟨m,hn.sameBut hs (rf (cne x c hc)),λj y v' e1 e2 e3=>?_⟩,λy c' e=>?_,I.free,I.freeC,λp hp=>?_,tracked ⟨oc,hoc,I.freeC x c hc⟩ hs,by simpa using I.len⟩ ⟨c,hs,.inr hc⟩
  ·exact(hs.2 b (dc (wb (ya e) (I.ok.cab x c hfn hc)))).trans (I.base.keep b o e n hb hx)
  ·obtain⟨sl,e1⟩:=I.base.slot b o e n hb hx
   exact⟨sl,(hs.2 b (dc (wb (ya e) (I.ok.cab x c hfn hc)))).trans e1⟩
  ·obtain⟨o',e1⟩:=I.base.there b o e hx
   exact⟨o',(hs.2 b (dc (wb (ya e) (I.ok.cab x c hfn hc)))).trans e1⟩
  ·by_cases hj:j=i
   ·subst hj
    rw[hi]at e1;cases e1;rw[nb hiσ]at e2;cases e2;exact⟨u,r,.inr ⟨.inl hk,c,hc,hc'⟩⟩
   ·rw[na (rf hj)]at e2
    obtain⟨u',r',q⟩:=hl j y v' e1 e2 e3;refine⟨u',r',?_⟩;rcases q with q|⟨k,c',e,z'⟩
    ·exact .inl q
    ·refine .inr ⟨k,c',e,z'.sameBut hs ?_⟩
     rintro rfl;exact hj (zhw hN e1 (I.ok.inj _ _ _ e hc ▸ hi))
  ·by_cases hcc:c'=c
   ·subst hcc;exact⟨_,hc'⟩
   ·obtain⟨w2,z2⟩:=I.cell y c' e
    exact⟨w2,z2.sameBut hs hcc⟩
  ·obtain⟨e,n,ne,nf,d⟩:=I.pin p hp
   refine⟨(hs.2 p.1 ?_).trans e,n,ne,nf,d⟩;intro q;rw[q,hoc]at e;have q':oc=p.2:=kc e;exact d w' (by rw[<-q'];exact hocd)
theorem zhx{M:Model}{A:Around}{E:Value->Shared->Prop}{i:Nat}{x:Str}{v:V}{u:Value}{Q:Unit->Shared->Prop}(I:Inv X pins σ H s)(hN:X.N.Nodup)(hi:X.N[i]?=some x)(hx:Loc X.env.scope x)(r:za7 v u)
  (h:∀s',Inv X pins (σ.set i (some v)) H s'->Q () s') (hf:X.fn x=true\/X.env.scope.names.lookup x=some .local:=by first|exact .inl rfl|exact .inr rfl|assumption):wpAny M A (storeName X.env x u) Q E s :=
 zi1 I hN hi hx r (λs' I' _=>h s' I') hf
theorem Inv.call'{s':Shared}{ch:List Addr}(I:Inv X pins σ H s)(ho:s'.os=s.os)(u:Un (frs X.stack) ch H H' s.heap s'.heap)(hok:HOk X.prog X.w H' s'.heap)(hg:AllBare s'.gens)
  (hch:∀b∈ch,(b∈X.ex\/X.s₀.heap.objs.size<=b)/\b≠X.env.locals/\(∀x c,X.env.cells.lookup x=some c->c≠b)/\∀p∈X.pn++pins,p.1≠b):Inv X pins σ H' s':=by
 obtain⟨h',g',d',t',o'⟩:=s';have e:o'=s.os:=ho;subst e;exact I.call (g':=g') (t':=t') (d':=d') u hok hg hch
end
noncomputable abbrev XK:=Value->Option Addr->Hp->Prop
noncomputable abbrev St:=List (Option V)
noncomputable abbrev VK:=V->Hp->Prop
noncomputable abbrev TE:=St->Hp->VK->Prop
noncomputable abbrev TT:=St->Hp->(Bool->Hp->Prop)->Prop
noncomputable abbrev TA:=St->Hp->(List V->Hp->Prop)->Prop
structure Ends where
 nx:St->Hp->Prop
 rt:VK
 bk:St->Hp->Prop:=λ_ _=>False
 ct:St->Hp->Prop:=λ_ _=>False
noncomputable abbrev TS:=Ends->St->Hp->Prop
def EP(X:Cx)(pins:List (Addr×Obj))(σ:St)(Q:VK)(u:Value)(s':Shared):Prop:=∃v H',Inv X pins σ H' s'/\za7 v u/\Q v H'
def TP(X:Cx)(pins:List (Addr×Obj))(σ:St)(Q:Bool->Hp->Prop)(b:Bool)(s':Shared):Prop:=∃H',Inv X pins σ H' s'/\Q b H'
def AP(X:Cx)(pins:List (Addr×Obj))(σ:St)(Q:List V->Hp->Prop)(us:List Value)(s':Shared):Prop:=∃vs H',Inv X pins σ H' s'/\zbj vs us/\Q vs H'
def SP(X:Cx)(pins:List (Addr×Obj))(D:Ends)(f:Flow)(s':Shared):Prop :=
 match f with
 |.next=>∃σ' H',Inv X pins σ' H' s'/\D.nx σ' H'
 |.brk=>∃σ' H',Inv X pins σ' H' s'/\D.bk σ' H'
 |.cont=>∃σ' H',Inv X pins σ' H' s'/\D.ct σ' H'
 |.ret u=>∃v σ' H',Inv X pins σ' H' s'/\za7 v u/\D.rt v H'
def PE(X:Cx)(e:Expr)(t:TE):Prop :=
 ∀(pins:List (Addr×Obj)) (s:Shared) (σ:St) (H:Hp) (Q:VK),Inv X pins σ H s->t σ H Q->wpAny (model X.prog X.w) X.A (eval e X.env) (EP X pins σ Q) X.xe s
def PT(X:Cx)(e:Expr)(t:TT):Prop :=
 ∀(pins:List (Addr×Obj)) (s:Shared) (σ:St) (H:Hp) (Q:Bool->Hp->Prop),Inv X pins σ H s->t σ H Q->wpAny (model X.prog X.w) X.A (isTrue e X.env (eval e X.env)) (TP X pins σ Q) X.xe s
def PW(X:Cx)(e:Expr)(t:TT):Prop :=
 ∀(whole:Sem Value) (pins:List (Addr×Obj)) (s:Shared) (σ:St) (H:Hp) (Q:Bool->Hp->Prop),Inv X pins σ H s->t σ H Q->wpAny (model X.prog X.w) X.A (isTrue e X.env whole) (TP X pins σ Q) X.xe s
theorem PW.pt{X:Cx}{e:Expr}{t:TT}(h:PW X e t):PT X e t:=h _
def PA(X:Cx)(es:List Expr)(t:TA):Prop :=
 ∀(pos:Pos) (pins:List (Addr×Obj)) (s:Shared) (σ:St) (H:Hp) (Q:List V->Hp->Prop),Inv X pins σ H s->t σ H Q->wpAny (model X.prog X.w) X.A (spliced (backTo pos (starEach es X.env))) (AP X pins σ Q) X.xe s
def PS(X:Cx)(st:Stmt)(t:TS):Prop :=
 ∀(pins:List (Addr×Obj)) (s:Shared) (σ:St) (H:Hp) (D:Ends),Inv X pins σ H s->t D σ H->wpAny (model X.prog X.w) X.A (exec st X.env) (SP X pins D) X.xe s
def PSs(X:Cx)(st:List Stmt)(t:TS):Prop :=
 ∀(pins:List (Addr×Obj)) (s:Shared) (σ:St) (H:Hp) (D:Ends),Inv X pins σ H s->t D σ H->wpAny (model X.prog X.w) X.A (execs st X.env) (SP X pins D) X.xe s
theorem thn{α:Type}{t:Sem α}{Q Q':α->Shared->Prop}{M:Model}{A:Around}{E:Value->Shared->Prop}{s:Shared}(h:wpAny M A t Q E s)(hQ:∀a s,Q a s->Q' a s):wpAny M A t Q' E s:=ye h hQ λ_ _ x=>x
section
variable {X:Cx}
noncomputable def ych(i:Nat):TE:=λσ H Q=>∃v,σ[i]?=some (some v)/\Q v H
noncomputable def tC(v:V):TE:=λ_ H Q=>Q v H
theorem zcg {i:Nat}{x:Str}{pos:Pos} (hN:X.N[i]?=some x) (hv:Vis X.env.scope x) (hd:(x == ("__debug__" : Str))=false:=by decide) (hcd:(x == ("__classdict__" : Str))=false:=by decide):PE X (.Name x pos) (ych i):=by
 intro pins s σ H Q I h;obtain⟨v,e,h⟩:=h;obtain⟨m,hn,hl⟩:=I.loc;obtain⟨u,r,l⟩:=hl i x v hN e hv;have fin:EP X pins σ Q u s:=⟨v,H,I,r,h⟩
 rcases l with⟨hk,hm⟩|⟨hk,c,hc,hcell⟩
 ·exact wpAny_Name (wpAny_loadName_local I.ok.kind hk hn hm fin) hd
 ·rcases hk with hk|hk
  ·exact wpAny_Name (wpAny_loadName_cell I.ok.kind hk hc hcell fin) hd
  ·exact wpAny_Name (wpAny_loadName_free I.ok.kind hk hc hcell fin hcd) hd
theorem z2p{i j pos}:PE X (.Constant (.int i) j pos) (tC (.int i)):=λ_ _ _ H _ I h=>wpAny_Constant_int ⟨.int i,H,I.tok _,⟨_,rfl⟩,h⟩
theorem z2q{b j pos}:PE X (.Constant (.bool b) j pos) (tC (.bl b)):=λ_ _ _ H _ I h=>Constant_bool ⟨.bl b,H,I,rfl,h⟩
theorem z2r{j pos}:PE X (.Constant .none j pos) (tC .non):=λ_ _ _ H _ I h=>Constant_none ⟨.non,H,I,rfl,h⟩
theorem z2s{x j pos}:PE X (.Constant (.str x) j pos) (tC (.str x)):=λ_ _ _ H _ I h=>Calls.Constant_str ⟨.str x,H,I.tok _,⟨_,rfl⟩,h⟩
def Gl(X:Cx)(x:Str):Prop:=X.env.kindOf x=some .globalImplicit
theorem zey{E:Value->Shared->Prop}{pins:List (Addr×Obj)}{s:Shared}{σ:St}{H:Hp}{x:Str}{u:Value}{pos:Pos}{Q:Value->Shared->Prop}(I:Inv X pins σ H s)(hg:Gl X x)(hm:X.mg x=some u)(h:Q u s)
  (hd:(x == ("__debug__" : Str))=false:=by decide):wpAny (model X.prog X.w) X.A (eval (.Name x pos) X.env) Q E s :=
 cm I.ok.kind hg (Calls.loadGlobal_global (by rw[I.ok.glob];exact I.mod.glob.keeps I.bk) hm h) hd
theorem zef{E:Value->Shared->Prop}{pins:List (Addr×Obj)}{s:Shared}{σ:St}{H:Hp}{x:Str}{u:Value}{pos:Pos}{Q:Value->Shared->Prop}(I:Inv X pins σ H s)(hg:Gl X x)(hm:X.mg x=none)(hv:bootBuiltins x=some u)(h:Q u s)
  (hn:x ≠ "__name__":=by decide) (hd:(x == ("__debug__" : Str))=false:=by decide):wpAny (model X.prog X.w) X.A (eval (.Name x pos) X.env) Q E s:=by
 obtain⟨mb,h1,h2⟩:=I.mod.blt;exact cm I.ok.kind hg (Calls.loadGlobal_builtin (by rw[I.ok.glob];exact I.mod.glob.keeps I.bk) hm (by rw[I.ok.blt];exact h1.keeps I.bk) ((h2 x hn).trans hv) h) hd
theorem zkw {x:Str}{v:V}{u:Value}{pos:Pos} (hg:Gl X x) (hm:X.mg x=some u) (r:za7 v u) (hd:(x == ("__debug__" : Str))=false:=by decide):PE X (.Name x pos) (tC v) :=
 λ_ _ _ H _ I h=>zey I hg hm ⟨v,H,I,r,h⟩ hd
theorem zhy {x:Str}{v:V}{u:Value}{pos:Pos} (hg:Gl X x) (hm:X.mg x=none) (hv:bootBuiltins x=some u) (r:za7 v u) (hn:x ≠ "__name__":=by decide) (hd:(x == ("__debug__" : Str))=false:=by decide):PE X (.Name x pos) (tC v) :=
 λ_ _ _ H _ I h=>zef I hg hm hv ⟨v,H,I,r,h⟩ hn hd
variable {a b:Expr}{ta tb:TE}{pos:Pos}
variable {tA tB':TT}{rest:List Expr}
noncomputable def ybu(t u:TT):TT:=λσ H Q=>t σ H λc H1=>if c=true then u σ H1 Q else Q false H1
noncomputable def tOr(t u:TT):TT:=λσ H Q=>t σ H λc H1=>if c=true then Q true H1 else u σ H1 Q
noncomputable def yci(t:TT):TT:=λσ H Q=>t σ H λc H1=>Q (!c) H1
theorem zx9(ha:PT X a tA):PW X (.BoolOp .And [a] pos) tA:=by
 intro wh pins s σ H Q I h;refine isTrue_and (thn (ha pins s σ H Q I h) λc s1 e=>?_)
 cases c with
 |true=>exact isTrue_and_nil e
 |false=>exact e
theorem z2t(ha:PT X a tA):PW X (.BoolOp .Or [a] pos) tA:=by
 intro wh pins s σ H Q I h;refine isTrue_or (thn (ha pins s σ H Q I h) λc s1 e=>?_)
 cases c with
 |false=>exact isTrue_or_nil e
 |true=>exact e
theorem z2u(ha:PT X a tA)(hb:PW X (.BoolOp .And (b::rest) pos) tB'):PW X (.BoolOp .And (a::b::rest) pos) (ybu tA tB'):=by
 intro wh pins s σ H Q I h;refine isTrue_and (thn (ha pins s σ H _ I h) λc s1 ⟨H1,I1,q1⟩=>?_)
 cases c with
 |true=>exact hb wh pins s1 σ H1 Q I1 q1
 |false=>exact⟨H1,I1,q1⟩
theorem z8p(ha:PT X a tA)(hb:PW X (.BoolOp .Or (b::rest) pos) tB'):PW X (.BoolOp .Or (a::b::rest) pos) (tOr tA tB'):=by
 intro wh pins s σ H Q I h;refine isTrue_or (thn (ha pins s σ H _ I h) λc s1 ⟨H1,I1,q1⟩=>?_)
 cases c with
 |true=>exact⟨H1,I1,q1⟩
 |false=>exact hb wh pins s1 σ H1 Q I1 q1
theorem z2v(ha:PT X a tA):PT X (.UnaryOp .Not a pos) (yci tA):=by
 intro pins s σ H Q I h;exact isTrue_not (ha pins s σ H (λc H1=>Q (!c) H1) I h)
theorem z2w{op}{t:TE}(h:PE X a t):PE X (.BoolOp op [a] pos) t:=λpins s σ H Q I hw=>BoolOp_one (h pins s σ H Q I hw)
end
def SqL(K:PySem.W.Frag)(H:Hp)(a:Addr)(xs:List V):Prop :=
 Rd H a (.lst xs) ∨
  ∃(o:Obj) (its:Array Value) (n:Nat),K.lookup a=some o/\o.cls=.type "list" /\ o.dict=none/\o.data=.seq its n/\its.size<=sizeLine/\zbj xs its.toList
def SqT(K:PySem.W.Frag)(H:Hp)(a:Addr)(xs:List V):Prop :=
 Rd H a (.tup xs) ∨
  ∃(o:Obj) (its:Array Value) (n:Nat),K.lookup a=some o/\o.cls=.type "tuple" /\ o.data=.seq its n/\its.size<=sizeLine/\zbj xs its.toList
noncomputable def ycj:Value->Option V
 |.none=>some .non
 |.bool b=>some (.bl b)
 |.int i _=>some (.int i)
 |.str x _=>some (.str x)
 |.bytes b _=>some (.byt b)
 |.float b _=>some (.flt b)
 |.ref a=>some (.ref a)
 |.type n=>some (.ty n)
 |_=>none
theorem za7.abs{x:V}{u:Value}(r:za7 x u):ycj u=some x:=by
 cases x with
 |non=>cases r;rfl
 |bl _=>cases r;rfl
 |int _=>obtain⟨t,rfl⟩:=r;rfl
 |str _=>obtain⟨t,rfl⟩:=r;rfl
 |byt _=>obtain⟨t,rfl⟩:=r;rfl
 |flt _=>obtain⟨t,rfl⟩:=r;rfl
 |ref _=>cases r;rfl
 |ty _=>cases r;rfl
theorem za7.inj{x y:V}{u:Value}(r:za7 x u)(q:za7 y u):x=y:=kc (r.abs.symm.trans q.abs)
theorem zbj.inj:∀{xs ys:List V}{us:List Value},zbj xs us->zbj ys us->xs=ys
 |_,_,_,.nil,.nil=>rfl
 |_,_,_,.cons r t,.cons r' t'=>by rw[r.inj r',zbj.inj t t']
section
variable {X:Cx}{pins:List (Addr×Obj)}{σ:St}{H:Hp}{s:Shared}{a:Addr}{xs ys:List V}
theorem SqL.of{K:PySem.W.Frag}(h:H a=some (.lst xs)):SqL K H a xs:=.inl (.inl h)
theorem Inv.list(I:Inv X pins σ H s)(h:SqL X.K H a xs):∃its:List Value,zbj xs its/\PlainL s.heap a its.toArray/\xs.length<=sizeLine:=by
 rcases h with h|⟨o,its,n,hk,hc,hd,hs,hz,r⟩
 ·obtain⟨z,its,n,r,e⟩:=h.ok I.hok
  exact⟨its,r,⟨_,n,e,rfl,rfl,rfl⟩,z⟩
 ·refine⟨its.toList,r,⟨o,n,I.kIn a o hk,hc,hd,by simpa using hs⟩,?_⟩
  have e:=r.length;simp only[xf]at e;omega
theorem Inv.tuple(I:Inv X pins σ H s)(h:SqT X.K H a xs):∃its:List Value,zbj xs its/\IsTup s.heap a its.toArray/\xs.length<=sizeLine:=by
 rcases h with h|⟨o,its,n,hk,hc,hs,hz,r⟩
 ·obtain⟨z,its,r,p⟩:=h.ok I.hok
  exact⟨its,r,p,z⟩
 ·refine⟨its.toList,r,⟨o,I.kIn a o hk,hc,n,by simpa using hs⟩,?_⟩
  have e:=r.length;simp only[xf]at e;omega
theorem Inv.list_inj(I:Inv X pins σ H s)(h:SqL X.K H a xs)(h':SqL X.K H a ys):xs=ys:=by
 obtain⟨its,r,⟨o,n,e,_,_,d⟩,_⟩:=I.list h;obtain⟨its',r',⟨o',n',e',_,_,d'⟩,_⟩:=I.list h';rw[e]at e';cases e';rw[d]at d';injection d' with d1 _
 have:its=its':=by simpa using ef Array.toList d1
 subst this;exact r.inj r'
theorem Inv.tuple_inj(I:Inv X pins σ H s)(h:SqT X.K H a xs)(h':SqT X.K H a ys):xs=ys:=by
 obtain⟨its,r,⟨o,e,_,n,d⟩,_⟩:=I.tuple h;obtain⟨its',r',⟨o',e',_,n',d'⟩,_⟩:=I.tuple h';rw[e]at e';cases e';rw[d]at d';injection d' with d1 _
 have:its=its':=by simpa using ef Array.toList d1
 subst this;exact r.inj r'
end
noncomputable abbrev Cx.wish(X:Cx)(E:Value->Shared->Prop):Cx:={ X with xe:=E }
noncomputable abbrev Cx.nox(X:Cx):Cx:=X.wish λ_ _=>False
theorem Cx.Ok.wish{X:Cx}(ok:X.Ok)(E:Value->Shared->Prop):(X.wish E).Ok :=
 ⟨ok.mod,ok.kind,ok.glob,ok.blt,ok.above,ok.inj,ok.has,ok.cab,ok.hd,ok.frames,ok.stk,ok.exf,ok.bs,ok.bsz,ok.noex,ok.exfs,ok.funs,ok.frf⟩
theorem Cx.Ok.unwish{X:Cx}{E:Value->Shared->Prop}(ok:(X.wish E).Ok):X.Ok :=
 ⟨ok.mod,ok.kind,ok.glob,ok.blt,ok.above,ok.inj,ok.has,ok.cab,ok.hd,ok.frames,ok.stk,ok.exf,ok.bs,ok.bsz,ok.noex,ok.exfs,ok.funs,ok.frf⟩
section
variable {X:Cx}{pins:List (Addr×Obj)}{σ:St}{H:Hp}{s:Shared}{E:Value->Shared->Prop}
theorem Inv.wish(I:Inv X pins σ H s)(E:Value->Shared->Prop):Inv (X.wish E) pins σ H s:=⟨I.ok.wish E,I.os,I.bare,I.base,I.loc,I.cell,I.free,I.freeC,I.pin,I.hok,I.len⟩
theorem Inv.unwish(I:Inv (X.wish E) pins σ H s):Inv X pins σ H s:=⟨I.ok.unwish,I.os,I.bare,I.base,I.loc,I.cell,I.free,I.freeC,I.pin,I.hok,I.len⟩
theorem SP.unwish{D:Ends}{f:Flow}{s':Shared}(h:SP (X.wish E) pins D f s'):SP X pins D f s':=by
 cases f with
 |next=>obtain⟨σ',H',I,q⟩:=h;exact⟨σ',H',I.unwish,q⟩
 |brk=>obtain⟨σ',H',I,q⟩:=h;exact⟨σ',H',I.unwish,q⟩
 |cont=>obtain⟨σ',H',I,q⟩:=h;exact⟨σ',H',I.unwish,q⟩
 |ret u=>obtain⟨v,σ',H',I,r,q⟩:=h;exact⟨v,σ',H',I.unwish,r,q⟩
theorem PSs.nox{st:List Stmt}{t:TS}(h:PSs X.nox st t):PSs X st t:=λpins s σ H D I hw =>
 ye (h pins s σ H D (I.wish _) hw) (λ_ _ q=>q.unwish) λ_ _ z=>False.elim z
end
section
variable {X:Cx}{st:Stmt}{rest:List Stmt}{t u:TS}{e:Expr}{te:TE}{pos:Pos}
noncomputable def z8q:TS:=λD σ H=>D.nx σ H
noncomputable def yck(t u:TS):TS:=λD σ H=>t { D with nx:=u D } σ H
theorem zkx:PSs X [] z8q:=λ_ _ σ H _ I h=>vj ⟨σ,H,I,h⟩
theorem zbt(h1:PS X st t)(h2:PSs X rest u):PSs X (st::rest) (yck t u):=by
 intro pins s σ H D I h;refine rn (thn (h1 pins s σ H { D with nx:=u D } I h) λf s1 q=>?_)
 cases f with
 |next =>
  obtain⟨σ',H',I',q⟩:=q;exact h2 pins s1 σ' H' D I' q
 |ret v=>exact q
 |brk=>exact q
 |cont=>exact q
theorem zfq(h1:PS X st t):PSs X [st] t:=by
 intro pins s σ H D I h;refine rn (thn (h1 pins s σ H D I h) λf s1 q=>?_)
 cases f with
 |next=>exact vj q
 |ret v=>exact q
 |brk=>exact q
 |cont=>exact q
theorem Inv.quiet{pins:List (Addr×Obj)}{σ:St}{H:Hp}{s:Shared}(I:Inv X pins σ H s):interactive X.env=false:=by simp[interactive,I.ok.kind]
noncomputable def z8r(te:TE):TS:=λD σ H=>te σ H λ_ H1=>D.nx σ H1
theorem zez(he:PE X e te)(hs:swapsWith e none pos.line X.env=pure false:=by rfl):PS X (.Expr e pos) (z8r te):=by
 intro pins s σ H D I h;exact wpAny_Expr_any (thn (he pins s σ H _ I h) λv s1 ⟨x,H1,I1,r1,q1⟩=>⟨σ,H1,I1,q1⟩) I.quiet hs
noncomputable def ycl(te:TE):TS:=λD σ H=>te σ H D.rt
theorem zlx(he:PE X e te):PS X (.Return (some e) pos) (ycl te):=by
 intro pins s σ H D I h;exact wpAny_Return_some (thn (he pins s σ H _ I h) λv s1 ⟨x,H1,I1,r1,q1⟩=>⟨x,σ,H1,I1,r1,q1⟩)
noncomputable def ycm(c:TT)(t u:TS):TS:=λD σ H=>c σ H λb H1=>if b=true then t D σ H1 else u D σ H1
theorem z2x{c:Expr}{a b:List Stmt}{tc:TT}(hc:PT X c tc)(ha:PSs X a t)(hb:PSs X b u):PS X (.If c a b pos) (ycm tc t u):=by
 intro pins s σ H D I h;refine wpAny_If (thn (hc pins s σ H _ I h) λd s1 ⟨H1,I1,q1⟩=>?_)
 cases d with
 |true=>exact ha pins s1 σ H1 D I1 q1
 |false=>exact hb pins s1 σ H1 D I1 q1
noncomputable def z2y:TS:=λ_ _ _=>False
theorem zs3:PS X st z2y:=λ_ _ _ _ _ _ h=>h.elim
end
noncomputable abbrev TG:=V->St->Hp->(St->Hp->Prop)->Prop
noncomputable abbrev TGs:=List V->St->Hp->(St->Hp->Prop)->Prop
def PG(X:Cx)(target:Expr)(t:TG):Prop :=
 ∀(pins:List (Addr×Obj)) (s:Shared) (σ:St) (H:Hp) (v:V) (u:Value) (Q:St->Hp->Prop),Inv X pins σ H s->za7 v u->t v σ H Q →
  wpAny (model X.prog X.w) X.A (assign target X.env u) (λ_ s'=>∃σ' H',Inv X pins σ' H' s'/\Q σ' H') X.xe s
def PGs(X:Cx)(ts:List Expr)(t:TGs):Prop :=
 ∀(pins:List (Addr×Obj)) (s:Shared) (σ:St) (H:Hp) (vs:List V) (us:List Value) (Q:St->Hp->Prop),Inv X pins σ H s->zbj vs us->t vs σ H Q →
  wpAny (model X.prog X.w) X.A (assignInOrder ((assignEach ts X.env).map (·.2)) us) (λ_ s'=>∃σ' H',Inv X pins σ' H' s'/\Q σ' H') X.xe s
noncomputable abbrev z8s:=V->V->V->Hp->(Hp->Prop)->Prop
def ybv(X:Cx)(t:z8s):Prop :=
 ∀(pins:List (Addr×Obj)) (s:Shared) (σ:St) (H:Hp) (o i v:V) (ov iv u:Value) (Q:Hp->Prop),Inv X pins σ H s->za7 o ov->za7 i iv->za7 v u->t o i v H Q →
  wpAny (model X.prog X.w) X.A (setItem ov iv u) (λ_ s'=>∃H',Inv X pins σ H' s'/\Q H') X.xe s
section
variable {X:Cx}{pos:Pos}
noncomputable def zs4(i:Nat):TG:=λv σ H Q=>Q (σ.set i (some v)) H
theorem zya{i:Nat}{x:Str}(hN:X.N.Nodup)(hi:X.N[i]?=some x)(hx:Loc X.env.scope x)(hf:X.fn x=true\/X.env.scope.names.lookup x=some .local:=by first|exact .inl rfl|exact .inr rfl|assumption):PG X (.Name x pos) (zs4 i):=by
 intro pins s σ H v u Q I r h;exact wpAny_assign_Name (zhx I hN hi hx r (λs' I'=>⟨_,H,I',h⟩) hf)
noncomputable def ycn:TGs:=λvs σ H Q=>vs=[]/\Q σ H
noncomputable def z8t(t:TG)(u:TGs):TGs:=λvs σ H Q=>∃v r,vs=v::r/\t v σ H λσ' H'=>u r σ' H' Q
theorem zyb:PGs X [] ycn:=by
 intro pins s σ H vs us Q I r h;obtain⟨e,h⟩:=h;subst e;cases r;exact assignInOrder_nil ⟨σ,H,I,h⟩
theorem zs5{e:Expr}{es:List Expr}{t:TG}{u:TGs}(h1:PG X e t)(h2:PGs X es u)
  (hs:(assignEach (e::es) X.env).map (·.2)=assign e X.env::(assignEach es X.env).map (·.2):=by rfl):PGs X (e::es) (z8t t u):=by
 intro pins s σ H vs us Q I r h;obtain⟨v,vr,e1,h⟩:=h;subst e1
 cases r with
 |cons r rr =>
  rw[hs];refine assignInOrder_cons (thn (h1 pins s σ H _ _ _ I r h) λ_ s1 ⟨σ1,H1,I1,q1⟩=>?_);exact h2 pins s1 σ1 H1 _ _ Q I1 rr q1
noncomputable def yco(K:PySem.W.Frag)(n:Nat)(t:TGs):TG:=λv σ H Q=>∃a xs,v=.ref a/\SqT K H a xs/\xs.length=n/\t xs σ H Q
theorem z2z{es:List Expr}{k:Nat}{t:TGs}{n:Nat}(hc:X.calm=true)(h:PGs X es t)
  (hn:(assignEach es X.env).length=n:=by rfl) (hst:(assignEach es X.env).findIdx? (·.1)=none:=by rfl):PG X (.Tuple es k pos) (yco X.K n t):=by
 intro pins s σ H v u Q I r hw;obtain⟨a,xs,e1,hq,hl,hw⟩:=hw;subst e1;cases r;obtain⟨its,rv,ht,hz⟩:=I.tuple hq;refine assign_Tuple_tuple (I.ok.hd hc) ht (by simp[hn,<-hl,rv.length]) hst λh' hx=>?_
 have I1:Inv X pins σ H { s with heap:=h' }:=I.kept (t':=s.toks) λb o e=>hx b o (dc (ya e)) e
 exact h pins _ σ H xs _ Q I1 (by simpa using rv) hw
noncomputable def ycp(to ti:TE)(t:z8s):TG:=λv σ H Q=>to σ H λo H1=>ti σ H1 λi H2=>t o i v H2 λH3=>Q σ H3
theorem z20{o i:Expr}{to ti:TE}{t:z8s}(ho:PE X o to)(hi:PE X i ti)(hs:ybv X t)
  (ha:∀ v,assign (.Subscript o i pos) X.env v=(do
   let ov ← holding [v] (eval o X.env)
   let iv ← holding [v,ov] (eval i X.env)
   standAt pos
   holding [v,ov,iv] (setItem ov iv v)
   release [v,ov,iv] []):=by intro _;rfl):PG X (.Subscript o i pos) (ycp to ti t):=by
 intro pins s σ H v u Q I r h;rw[ha];refine aa (wf (thn (ho pins s σ H _ I h) λov s1 ⟨x,H1,I1,r1,q1⟩=>?_));refine aa (wf (thn (hi pins s1 σ H1 _ I1 q1) λiv s2 ⟨y,H2,I2,r2,q2⟩=>?_));refine aa (uj (aa (wf (thn (hs pins s2 σ H2 x y v ov iv u _ I2 r1 r2 r q2) λ_ s3 ⟨H3,I3,q3⟩=>?_))));exact wpAny_release ⟨σ,H3,I3,q3⟩
noncomputable def z8u(te:TE)(g:TG):TS:=λD σ H=>te σ H λx H1=>g x σ H1 D.nx
theorem zv7{tg e:Expr}{te:TE}{g:TG}(he:PE X e te)(hg:PG X tg g)(hs:swapsWithSole [tg] e pos.line X.env=pure false:=by rfl)(hw:swappedStores [tg] e X.env=pure none:=by rfl)
  (h1:(assignEach [tg] X.env).map (·.2)=[assign tg X.env]:=by rfl):PS X (.Assign [tg] e pos) (z8u te g):=by
 intro pins s σ H D I h;refine wpAny_Assign_stores (thn (he pins s σ H _ I h) λv s1 ⟨x,H1,I1,r1,q1⟩=>?_) hs hw;rw[h1];exact thn (hg pins s1 σ H1 x v _ I1 r1 q1) λ_ s2 q=>q
theorem zfr{i:Nat}{x:Str}{e:Expr}{te:TE}{pos':Pos}(hN:X.N.Nodup)(hi:X.N[i]?=some x)(hx:Loc X.env.scope x)(he:PE X e te)(hs:swapsWith e (some (.Name x pos')) pos.line X.env=pure false:=by rfl)(hf:X.fn x=true\/X.env.scope.names.lookup x=some .local:=by first|exact .inl rfl|exact .inr rfl|assumption) :
  PS X (.Assign [.Name x pos'] e pos) (z8u te (zs4 i)):=by
 intro pins s σ H D I h;refine wpAny_Assign_Name (thn (he pins s σ H _ I h) λv s1 ⟨y,H1,I1,r1,q1⟩=>?_) hs;exact zhx I1 hN hi hx r1 (λs2 I2=>⟨_,H1,I2,q1⟩) hf
end
structure It where
 go:Nat->Hp->Prop
 yld:Nat->Hp->V->Hp->Prop
 stop:Nat->Hp->Prop
def zss(X:Cx)(pins:List (Addr×Obj))(H:Hp)(b:Addr):Prop :=
 H b=none/\b≠X.env.locals/\b ∉ X.fs/\(b∈X.ex\/X.s₀.heap.objs.size<=b)/\(∀x c,X.env.cells.lookup x=some c->c≠b)/\∀p∈X.pn++pins,p.1≠b
theorem Inv.fpOk{X:Cx}{pins:List (Addr×Obj)}{σ:St}{H H':Hp}{s:Shared}{b:Addr}(I:Inv X pins σ H s)(hb:s.heap.objs.size<=b)(hn:H' b=none):zss X pins H' b:=by
 refine⟨hn,tj (wb I.lt hb),I.nofs hb,.inr (ed I.sz hb),λx c e z=>?_,λp hp z=>?_⟩
 ·obtain⟨v,q⟩:=I.cell x c e
  exact absurd (wb q.lt (by rw[z];exact hb)) (wg _)
 ·exact absurd (wb (ya (I.pin p hp).1) (by rw[z];exact hb)) (wg _)
structure Turn(P:Program)(w:World)(K:PySem.W.Frag)(tg:Expr)(J:It)(fp:List Addr)(it:Addr)(tn:Nat->Heap->Prop):Prop where
 mem:it∈fp
 obj:∀i h,tn i h->∀b∈fp,∃o,h.get? b=some o/\∀v,o.data≠.cell v
 keep:∀i h h',tn i h->(∀b∈fp,∀o,h.get? b=some o->h'.get? b=some o)->tn i h'
 item:∀(X:Cx),X.prog=P->X.w=w->X.K=K->X.calm=true->∀(i:Nat) (pins:List (Addr×Obj)) (s:Shared) (σ:St) (H:Hp) (E:Value->Shared->Prop),Inv X pins σ H s->(∀b∈fp,zss X pins H b)->tn i s.heap->J.go i H →
  wpAny (model P w) X.A (pyNext (.ref it)) (λ r s1=>∃ u,r=some u ∧
   wpAny (model P w) X.A (letOwnedTupleGo tg (.ref it) u) (λ_ s2=>∃x H',Inv X pins σ H' s2/\za7 x u/\J.yld i H x H'/\tn (i+1) s2.heap/\∀b∈fp,H' b=none) E s1) E s
 done:∀(X:Cx),X.prog=P->X.w=w->X.K=K->X.calm=true->∀(i:Nat) (pins:List (Addr×Obj)) (s:Shared) (σ:St) (H:Hp) (E:Value->Shared->Prop),Inv X pins σ H s->(∀b∈fp,zss X pins H b)->tn i s.heap->J.stop i H →
  wpAny (model P w) X.A (pyNext (.ref it)) (λr s1=>r=none/\Inv X pins σ H s1) E s
 self:∀(A:Around) (i:Nat) (s:Shared) (Q:Value->Shared->Prop) (E:Value->Shared->Prop),tn i s.heap->Q (.ref it) s->wpAny (model P w) A (pyIter (.ref it)) Q E s
noncomputable abbrev TI:=St->Hp->(It->Hp->Prop)->Prop
def PIE(X:Cx)(pins:List (Addr×Obj))(σ:St)(tg:Expr)(R:It->Hp->Prop)(itv:Value)(s2:Shared):Prop :=
 ∃(it:Addr) (fp:List Addr) (tn:Nat->Heap->Prop) (J:It) (H':Hp),itv=.ref it/\Inv X pins σ H' s2/\Turn X.prog X.w X.K tg J fp it tn/\tn 0 s2.heap/\(∀b∈fp,zss X pins H' b)/\R J H'
def PI(X:Cx)(tg iter:Expr)(wi:TI):Prop :=
 ∀(pins:List (Addr×Obj)) (s:Shared) (σ:St) (H:Hp) (R:It->Hp->Prop),Inv X pins σ H s->wi σ H R →
  wpAny (model X.prog X.w) X.A (eval iter X.env) (λv s1=>wpAny (model X.prog X.w) X.A (pyIter v) (PIE X pins σ tg R) X.xe s1) X.xe s
theorem zow{M:Model}{A:Around}{E:Value->Shared->Prop}{s:Shared}{tg:Expr}{it:Addr}{u:Value}{o:Obj}{n:String}{vs:Array Value}{Q:Unit->Shared->Prop}(ho:s.heap.get? it=some o)(hc:o.cls=.type n)(hd:o.data=.fields vs)
  (hn:["enumerate","zip","dict_itemiterator","dict_reverseitemiterator","odict_iterator","itertools.zip_longest","itertools.pairwise"].contains n=false) (hQ:Q () s):wpAny M A (letOwnedTupleGo tg (.ref it) u) Q E s:=by
 unfold letOwnedTupleGo
 cases tg <;> first
  |exact ia hQ
  | (cases u <;> first
    |exact ia hQ
    | (refine wpAny_bind (wpAny_load ho ?_)
       rw[hc,hd];show wpAny M A (if (["enumerate","zip","dict_itemiterator","dict_reverseitemiterator","odict_iterator","itertools.zip_longest","itertools.pairwise"].contains n && vs[0]? == some (rawInt _))=true then _ else _) Q E s;rw[wa (by intro h;rw[hn,Bool.false_and]at h;cases h)];exact ia hQ))
noncomputable def Itl(K:PySem.W.Frag)(a:Addr):It :=
 ⟨λi H=>∃xs x,SqL K H a xs/\xs[i]?=some x,λi H x H'=>H'=H/\∀xs,SqL K H a xs->xs[i]?=some x,λi H=>∃xs,SqL K H a xs/\xs.length<=i⟩
noncomputable def Itt(K:PySem.W.Frag)(a:Addr):It :=
 ⟨λi H=>∃xs x,SqT K H a xs/\xs[i]?=some x,λi H x H'=>H'=H/\∀xs,SqT K H a xs->xs[i]?=some x,λi H=>∃xs,SqT K H a xs/\xs.length<=i⟩
noncomputable def Itr(lo:Int)(n:Nat):It:=⟨λi _=>i<n,λi H x H'=>H'=H/\x=.int (lo+i),λi _=>n<=i⟩
theorem zox{P:Program}{w:World}{K:PySem.W.Frag}{tg:Expr}(a it:Addr):Turn P w K tg (Itl K a) [it] it (λi h=>h.IsListIter it a i) where
 mem:=by simp
 obj:=λi h st b hb=>by
  have e:b=it:=by simpa using hb
  subst e;obtain⟨o,e,c,d⟩:=st;exact⟨o,e,λv z=>by rw[d]at z;cases z⟩
 keep:=λi h h' st k=>st.at λo e=>k it (by simp) o e
 item:=by
  intro X hP hw hK hc i pins s σ H E I hf st hg;subst hP hw hK;obtain⟨xs,x,hq,hx⟩:=hg;obtain⟨its,rv,p,hz⟩:=I.list hq;obtain⟨u,hu,ru⟩:=rv.get hx;obtain⟨f0,f1,f2,f3,f4,f5⟩:=hf it (by simp);refine wpAny_pyNext_list_item st p.isList (x:=u) (by simpa using hu) λh' st' sb=>?_
  have I1:Inv X pins σ H { s with heap:=h' }:=I.turned (t':=s.toks) (λb o hb e=>(sb.2 b hb).trans e) f0 f1 f3 f4 f5;obtain⟨o,e,c,d⟩:=id st';exact⟨u,rfl,zow (s:={ s with heap:=h' }) e c d (by decide) ⟨x,H,I1,ru,⟨rfl,λys hy=>by rw[I.list_inj hy hq];exact hx⟩,st',λb hb=>(hf b hb).1⟩⟩
 done:=by
  intro X hP hw hK hc i pins s σ H E I hf st hg;subst hP hw hK;obtain⟨xs,hq,hx⟩:=hg;obtain⟨its,rv,p,hz⟩:=I.list hq;obtain⟨f0,f1,f2,f3,f4,f5⟩:=hf it (by simp);have hl:=rv.length;exact wpAny_pyNext_list_end (I.ok.hd hc) st p.isList (by simp;omega) λh' eb=>⟨rfl,I.turned (t':=s.toks) (λb o hb e=>eb b o hb e) f0 f1 f3 f4 f5⟩
 self:=λ_ _ _ _ _ st h=>wpAny_pyIter_listiter st h
theorem znq{P:Program}{w:World}{K:PySem.W.Frag}{tg:Expr}(a it:Addr):Turn P w K tg (Itt K a) [it] it (λi h=>h.IsTupleIter it a i) where
 mem:=by simp
 obj:=λi h st b hb=>by
  have e:b=it:=by simpa using hb
  subst e;obtain⟨o,e,c,d⟩:=st;exact⟨o,e,λv z=>by rw[d]at z;cases z⟩
 keep:=λi h h' st k=>st.at λo e=>k it (by simp) o e
 item:=by
  intro X hP hw hK hc i pins s σ H E I hf st hg;subst hP hw hK;obtain⟨xs,x,hq,hx⟩:=hg;obtain⟨its,rv,p,hz⟩:=I.tuple hq;obtain⟨u,hu,ru⟩:=rv.get hx;obtain⟨f0,f1,f2,f3,f4,f5⟩:=hf it (by simp);refine wpAny_pyNext_tuple_item st (show s.heap.IsTuple a its.toArray from p) (x:=u) (by simpa using hu) λh' st' sb=>?_
  have I1:Inv X pins σ H { s with heap:=h' }:=I.turned (t':=s.toks) (λb o hb e=>(sb.2 b hb).trans e) f0 f1 f3 f4 f5;obtain⟨o,e,c,d⟩:=id st';exact⟨u,rfl,zow (s:={ s with heap:=h' }) e c d (by decide) ⟨x,H,I1,ru,⟨rfl,λys hy=>by rw[I.tuple_inj hy hq];exact hx⟩,st',λb hb=>(hf b hb).1⟩⟩
 done:=by
  intro X hP hw hK hc i pins s σ H E I hf st hg;subst hP hw hK;obtain⟨xs,hq,hx⟩:=hg;obtain⟨its,rv,p,hz⟩:=I.tuple hq;obtain⟨f0,f1,f2,f3,f4,f5⟩:=hf it (by simp);have hl:=rv.length;exact wpAny_pyNext_tuple_end (I.ok.hd hc) st (show s.heap.IsTuple a its.toArray from p) (by simp;omega) λh' eb=>⟨rfl,I.turned (t':=s.toks) (λb o hb e=>eb b o hb e) f0 f1 f3 f4 f5⟩
 self:=λ_ _ _ _ _ st h=>wpAny_pyIter_tupleiter st h
theorem znr{P:Program}{w:World}{K:PySem.W.Frag}{tg:Expr}(it:Addr)(lo:Int)(n:Nat):Turn P w K tg (Itr lo n) [it] it (λi h=>IsRangeIter h it (lo+(i:Nat) * 1) ((n:Int) - (i:Nat)) 1) where
 mem:=by simp
 obj:=λi h st b hb=>by
  have e:b=it:=by simpa using hb
  subst e
  exact⟨_,st,λ v z=>by
   have z':Data.fields _=Data.cell v:=z
   cases z'⟩
 keep:=λi h h' st k=>k it (by simp) _ st
 item:=by
  intro X hP hw hK hc i pins s σ H E I hf st hg;subst hP hw hK;obtain⟨f0,f1,f2,f3,f4,f5⟩:=hf it (by simp);have W:=Walks.range (prog:=X.prog) (w:=X.w) (I.ok.hd hc) it lo 1 n;refine W.item i s _ _ hg st λv h' tk hv st' kk=>?_
  obtain⟨t,rfl⟩:=hv;have I1:Inv X pins σ H { s with heap:=h',toks:=tk }:=I.turned (λb o hb e=>kk b o (by simpa using hb) e) f0 f1 f3 f4 f5;refine⟨_,rfl,zow (s:={ s with heap:=h',toks:=tk }) (n:="range_iterator") st' rfl rfl (by decide) ⟨.int (lo+i),H,I1,⟨t,?_⟩,⟨rfl,rfl⟩,st',λb hb=>(hf b hb).1⟩⟩;rw[Int.mul_one]
 done:=by
  intro X hP hw hK hc i pins s σ H E I hf st hg;subst hP hw hK;obtain⟨f0,f1,f2,f3,f4,f5⟩:=hf it (by simp);exact wpAny_pyNext_range_end (I.ok.hd hc) st (by have:n<=i:=hg;omega) λh' eb=>⟨rfl,I.turned (t':=s.toks) (λb o hb e=>eb b o hb e) f0 f1 f3 f4 f5⟩
 self:=λ_ _ _ _ _ st h=>wpAny_pyIter_rangeiter st h
section
variable {X:Cx}{tg:Expr}
theorem zly{pins:List (Addr×Obj)}{σ:St}{H:Hp}{s:Shared}{R:It->Hp->Prop}{E:Value->Shared->Prop}{lo hi:Int}{t u v:Tok}{tk:Nat}(I:Inv X pins σ H s)(h1:-(2 ^ 62)<=lo)(h2:lo<2 ^ 62)(h3:-(2 ^ 62)<=hi)(h4:hi<2 ^ 62)
  (q:R (Itr lo (hi - lo).toNat) H):wpAny (model X.prog X.w) X.A (pyIter (.ref s.heap.objs.size)) (PIE X pins σ tg R) E { s with heap:=s.heap.push { cls:=.type "range",data:=.fields #[.int lo t,.int hi u,.int 1 v] },toks:=tk }:=by
 refine wpAny_pyIter_range (IsRange.new ..) (small_one h1 h2 h3 h4) ?_;have I1:Inv X pins σ H { s with heap:=s.heap.push { cls:=.type "range",data:=.fields #[.int lo t,.int hi u,.int 1 v] },toks:=tk }:=I.kept λb o e=>ma _ e
 refine⟨(s.heap.push { cls:=.type "range",data:=.fields #[.int lo t,.int hi u,.int 1 v] }).objs.size,[(s.heap.push { cls:=.type "range",data:=.fields #[.int lo t,.int hi u,.int 1 v] }).objs.size],_,_,H,rfl,
  I1.kept (t':=tk) λb o e=>ma _ e,znr _ lo (hi - lo).toNat,?_,λb hb=>?_,q⟩
 ·have e1:lo+((0:Nat):Int) * 1=lo:=by simp
  have e2:(((hi - lo).toNat:Nat):Int) - ((0:Nat):Int)=Builtin.Range.rangeSize lo hi 1:=by rw[rangeSize_one];split <;> omega
  show IsRangeIter _ _ (lo+((0:Nat):Int) * 1) ((((hi - lo).toNat:Nat):Int) - ((0:Nat):Int)) 1;rw[e1,e2];exact gb _ rfl
 ·have e:b=(s.heap.push { cls:=.type "range",data:=.fields #[.int lo t,.int hi u,.int 1 v] }).objs.size:=by simpa using hb
  subst e;exact I1.fpOk (va _) (I1.hok.fresh (va _))
noncomputable def ycq(wi:TI)(g:TG)(tb:TS):TS:=λD σ H=>wi σ H λJ H1=>∃W:Nat->Nat->St->Hp->Prop,(∃m,W 0 m σ H1)/\∀i m σ H,W i m σ H →
 (J.stop i H/\D.nx σ H)\/(J.go i H/\∃N:St->Hp->Prop,(∀σ' H',N σ' H'->∃m',m'<m/\W (i+1) m' σ' H')/\∀x H',J.yld i H x H'->g x σ H' λσ2 H2=>tb { D with nx:=N,ct:=N,bk:=D.nx } σ2 H2)
noncomputable def zi2(fp:List Addr)(h:Heap):List (Addr×Obj):=fp.filterMap λb=>(h.get? b).map λo=>(b,o)
theorem zdl{fp:List Addr}{h:Heap}{b:Addr}{o:Obj}(hb:b∈fp)(e:h.get? b=some o):(b,o)∈zi2 fp h:=List.mem_filterMap.mpr ⟨b,hb,by rw[e];rfl⟩
theorem zoy{fp:List Addr}{h:Heap}{p:Addr×Obj}(hp:p∈zi2 fp h):p.1∈fp/\h.get? p.1=some p.2:=by
 obtain⟨b,hb,e⟩:=List.mem_filterMap.mp hp
 cases q:h.get? b with
 |none=>rw[q]at e;cases e
 |some o =>
  rw[q]at e;have e':(b,o)=p:=kc e;subst e';exact⟨hb,q⟩
theorem Inv.pinned{pins:List (Addr×Obj)}{σ:St}{H:Hp}{s:Shared}{fp:List Addr}(I:Inv X pins σ H s)(hf:∀b∈fp,zss X pins H b)(ho:∀b∈fp,∃o,s.heap.get? b=some o/\∀v,o.data≠.cell v):Inv X (pins++zi2 fp s.heap) σ H s :=
 I.pins_of λp hp=>(gc.mp hp).elim (λz=>I.pin p (pc _ z)) λz=>by
  obtain⟨hb,e⟩:=zoy z;obtain⟨f0,f1,f2,_⟩:=hf p.1 hb;obtain⟨o,e',d⟩:=ho p.1 hb;rw[e]at e';cases e';exact⟨e,f0,f1,f2,d⟩
theorem Inv.unpinned{pins pl:List (Addr×Obj)}{σ:St}{H:Hp}{s:Shared}(I:Inv X (pins++pl) σ H s):Inv X pins σ H s:=I.pins_of λp hp=>I.pin p (pc _ (we _ hp))
theorem zlz{iter:Expr}{body:List Stmt}{wi:TI}{g:TG}{tb:TS}{pos:Pos}(hp:PassesOwn (model X.prog X.w) X.A X.env X.xe)(hc:X.calm=true)(hi:PI X tg iter wi)(hg:PG X tg g)(hb:PSs X body tb)
  (hs:∀x,foldedSetIterable iter X.env x=pure x:=by intro _;rfl):PS X (.For tg iter body [] pos) (ycq wi g tb):=by
 intro pins s σ H D I h;refine wpAny_For (thn (hi pins s σ H _ I h) λv s1 h1=>thn h1 λitv s2 h2=>?_) hs;obtain⟨it,fp,tn,J,H2,e,I2,T,st2,f2,W,⟨m0,w0⟩,turn⟩:=h2;subst e;have stat:∀{H':Hp},(∀b∈fp,H' b=none)->∀b∈fp,zss X pins H' b:=λhn b hb=>⟨hn b hb,(f2 b hb).2⟩
 refine codeAny_forLoop_any (λn s'=>∃i σ' H',Inv X pins σ' H' s'/\tn i s'.heap/\(∀b∈fp,H' b=none)/\W i n σ' H') ?_ m0 ⟨0,σ,H2,I2,st2,λb hb=>(f2 b hb).1,w0⟩;rintro n s3 ⟨i,σ3,H3,I3,st3,fr3,w3⟩;rcases turn i n σ3 H3 w3 with⟨stop,qn⟩|⟨go,N,hN,step⟩
 ·refine wj hp (thn (T.done X rfl rfl rfl hc i pins s3 σ3 H3 X.xe I3 (stat fr3) st3 stop) λr s4 ⟨hr,I4⟩=>?_)
  subst hr;exact vj ⟨σ3,H3,I4,qn⟩
 ·refine wj hp (thn (T.item X rfl rfl rfl hc i pins s3 σ3 H3 X.xe I3 (stat fr3) st3 go) λr s4 ⟨u,hr,h4⟩=>?_)
  subst hr;refine wj hp (thn h4 λ_ s5 ⟨x,H5,I5,r5,y5,st5,fr5⟩=>?_);have I5':=I5.pinned (stat fr5) (T.obj _ _ st5);refine wj hp (thn (hg _ s5 σ3 H5 x u _ I5' r5 (step x H5 y5)) λ_ s6 ⟨σ6,H6,I6,q6⟩=>?_);refine wj hp (thn (hb _ s6 σ6 H6 _ I6 q6) λf s7 q7=>?_)
  have again:∀{σ7:St} {H7:Hp},Inv X (pins++zi2 fp s5.heap) σ7 H7 s7->N σ7 H7->∃m,m<n/\∃i σ' H',Inv X pins σ' H' s7/\tn i s7.heap/\(∀b∈fp,H' b=none)/\W i m σ' H':=λ{σ7 H7} I7 n7=>by
   obtain⟨m',hm,w7⟩:=hN σ7 H7 n7;refine⟨m',hm,i+1,σ7,H7,I7.unpinned,T.keep _ _ _ st5 λb hb o e=>(I7.pin (b,o) (pc _ (pc _ (zdl hb e)))).1,λb hb=>?_,w7⟩;obtain⟨o,e,d⟩:=T.obj _ _ st5 b hb;exact(I7.pin (b,o) (pc _ (pc _ (zdl hb e)))).2.1
  cases f with
  |next=>obtain⟨σ7,H7,I7,n7⟩:=q7;exact again I7 n7
  |cont=>obtain⟨σ7,H7,I7,n7⟩:=q7;exact again I7 n7
  |brk=>obtain⟨σ7,H7,I7,q7⟩:=q7;exact⟨σ7,H7,I7.unpinned,q7⟩
  |ret v=>obtain⟨x7,σ7,H7,I7,r7,q7⟩:=q7;exact⟨x7,σ7,H7,I7.unpinned,r7,q7⟩
end
noncomputable abbrev R2:=V->V->Hp->VK->Prop
def OpR(X:Cx)(f:Value->Value->Sem Value)(r:R2):Prop :=
 ∀(pins:List (Addr×Obj)) (s:Shared) (σ:St) (H:Hp) (x y:V) (v u:Value) (Q:VK),Inv X pins σ H s->za7 x v->za7 y u->r x y H Q →
  wpAny (model X.prog X.w) X.A (f v u) (EP X pins σ Q) X.xe s
def UnR(X:Cx)(f:Value->Sem Value)(r:V->Hp->VK->Prop):Prop :=
 ∀(pins:List (Addr×Obj)) (s:Shared) (σ:St) (H:Hp) (x:V) (v:Value) (Q:VK),Inv X pins σ H s->za7 x v->r x H Q →
  wpAny (model X.prog X.w) X.A (f v) (EP X pins σ Q) X.xe s
def zb6(X:Cx)(f:Value)(r:List V->Hp->VK->Prop):Prop :=
 ∀(pins:List (Addr×Obj)) (s:Shared) (σ:St) (H:Hp) (xs:List V) (us:List Value) (Q:VK),Inv X pins σ H s->zbj xs us->r xs H Q →
  wpAny (model X.prog X.w) X.A (call f us) (EP X pins σ Q) X.xe s
noncomputable def tOp(r:R2)(ta tb:TE):TE:=λσ H Q=>ta σ H λx H1=>tb σ H1 λy H2=>r x y H2 Q
noncomputable def tUn(r:V->Hp->VK->Prop)(ta:TE):TE:=λσ H Q=>ta σ H λx H1=>r x H1 Q
noncomputable def rI(C:Int->Int->Prop)(g:Int->Int->V):R2:=λx y H Q=>∃i j,x=.int i/\y=.int j/\C i j/\Q (g i j) H
noncomputable def rI0(g:Int->Int->V):R2:=λx y H Q=>∃i j,x=.int i/\y=.int j/\Q (g i j) H
def rU(g:Int->V):V->Hp->VK->Prop:=λx H Q=>∃i,x=.int i/\Q (g i) H
section
variable {X:Cx}{a b c:Expr}{ta tb tc:TE}{pos:Pos}
theorem z7v(ha:PE X a ta)(hb:PE X b tb){pins:List (Addr×Obj)}{s:Shared}{σ:St}{H:Hp}{R:V->V->Hp->Prop}(I:Inv X pins σ H s)
  (h:ta σ H λx H1=>tb σ H1 λy H2=>R x y H2) {Q:Value->Shared->Prop} {f:Value->Value->Sem Value}
  (hf:∀v u s2 x y H2,Inv X pins σ H2 s2->za7 x v->za7 y u->R x y H2->wpAny (model X.prog X.w) X.A (f v u) Q X.xe s2) :
  wpAny (model X.prog X.w) X.A (eval a X.env) (λv s₁=>wpAny (model X.prog X.w) X.A (eval b X.env) (λu s₂=>wpAny (model X.prog X.w) X.A (f v u) Q X.xe s₂) X.xe s₁) X.xe s:=by
 refine thn (ha pins s σ H _ I h) λv s1 ⟨x,H1,I1,r1,q1⟩=>?_
 refine thn (hb pins s1 σ H1 _ I1 q1) λu s2 ⟨y,H2,I2,r2,q2⟩=>?_
 exact hf v u s2 x y H2 I2 r1 r2 q2
theorem z8v{op:Operator}{r:R2}(ho:OpR X (binaryOp op) r)(ha:PE X a ta)(hb:PE X b tb):PE X (.BinOp a op b pos) (tOp r ta tb):=by
 intro pins s σ H Q I h;exact wpAny_BinOp (z7v ha hb I h λv u s2 x y H2 I2 rx ry q=>ho pins s2 σ H2 x y v u Q I2 rx ry q)
theorem z8w{op:UnaryOp}{r:V->Hp->VK->Prop}(ho:UnR X (unaryOp op) r)(ha:PE X a ta):PE X (.UnaryOp op a pos) (tUn r ta):=by
 intro pins s σ H Q I h;exact UnaryOp_ (thn (ha pins s σ H _ I h) λv s1 ⟨x,H1,I1,r1,q1⟩=>ho pins s1 σ H1 x v Q I1 r1 q1)
theorem opI{f:Value->Value->Sem Value}{C:Int->Int->Prop}{g:Int->Int->Int}
  (rule:∀(i j:Int) (t u:Tok) (s:Shared) (Q:Value->Shared->Prop) (E:Value->Shared->Prop),C i j->Q (.int (g i j) s.toks) { s with toks:=s.toks+1 }->wpAny (model X.prog X.w) X.A (f (.int i t) (.int j u)) Q E s) :
  OpR X f (rI C λi j=>.int (g i j)):=by
 intro pins s σ H x y v u Q I rx ry h;obtain⟨i,j,rfl,rfl,hc,q⟩:=h;obtain⟨t,rfl⟩:=rx;obtain⟨t',rfl⟩:=ry;exact rule i j t t' s _ _ hc ⟨.int (g i j),H,I.tok _,⟨_,rfl⟩,q⟩
theorem ybw{f:Value->Value->Sem Value}{g:Int->Int->Int}
  (rule:∀(i j:Int) (t u:Tok) (s:Shared) (Q:Value->Shared->Prop) (E:Value->Shared->Prop),Q (.int (g i j) s.toks) { s with toks:=s.toks+1 }->wpAny (model X.prog X.w) X.A (f (.int i t) (.int j u)) Q E s) :
  OpR X f (rI0 λi j=>.int (g i j)):=by
 intro pins s σ H x y v u Q I rx ry h;obtain⟨i,j,rfl,rfl,q⟩:=h;obtain⟨t,rfl⟩:=rx;obtain⟨t',rfl⟩:=ry;exact rule i j t t' s _ _ ⟨.int (g i j),H,I.tok _,⟨_,rfl⟩,q⟩
theorem z7w{f:Value->Value->Sem Value}{g:Int->Int->Bool}
  (rule:∀(i j:Int) (t u:Tok) (s:Shared) (Q:Value->Shared->Prop) (E:Value->Shared->Prop),Q (.bool (g i j)) s->wpAny (model X.prog X.w) X.A (f (.int i t) (.int j u)) Q E s) :
  OpR X f (rI0 λi j=>.bl (g i j)):=by
 intro pins s σ H x y v u Q I rx ry h;obtain⟨i,j,rfl,rfl,q⟩:=h;obtain⟨t,rfl⟩:=rx;obtain⟨t',rfl⟩:=ry;exact rule i j t t' s _ _ ⟨.bl (g i j),H,I,rfl,q⟩
def z8x(i j:Int):Prop:=0<j/\j<1073741824
def z8y(i j:Int):Prop:=0<=j/\j<=1000000/\i.natAbs<2 ^ 64
def z7x(i j:Int):Prop:=(-(2 ^ 64)<i/\i<2 ^ 64)\/(-(2 ^ 64)<j/\j<2 ^ 64)
theorem z7x.ok{i j:Int}(h:z7x i j):IntMulOk i j:=by
 rcases h with⟨h1,h2⟩|⟨h1,h2⟩
 ·exact .of_left (intBits_le_64 h1 h2)
 ·exact .of_right (intBits_le_64 h1 h2)
theorem z21:OpR X (binaryOp .Add) (rI0 λi j=>.int (i+j)):=ybw λ_ _ _ _ _ _ _ q=>add_int q
theorem z22:OpR X (binaryOp .Sub) (rI0 λi j=>.int (i - j)):=ybw λ_ _ _ _ _ _ _ q=>sub_int q
theorem zyc:OpR X (binaryOp .FloorDiv) (rI z8x λi j=>.int (i / j)):=opI λi j _ _ _ _ _ hc q=>by
 have h1:(0:Int)<j:=hc.1;have h2:j<1073741824:=hc.2;exact floordiv_int (by omega) (by rw[Int.fdiv_eq_ediv_of_nonneg i (by omega)];exact q) (.inl (PyProof.noPylong_small (by omega)))
theorem z23:OpR X (binaryOp .Mod) (rI (λ_ j=>0<j) λi j=>.int (i % j)):=opI λi j _ _ _ _ _ hc q=>by
 have h1:(0:Int)<j:=hc;exact mod_int' (by omega) (by rw[Int.fmod_eq_emod_of_nonneg i (by omega)];exact q)
theorem z24:OpR X (binaryOp .Pow) (rI z8y λi j=>.int (i ^ j.toNat)):=opI λ_ _ _ _ _ _ _ hc q=>pow_int_small hc.1 hc.2.1 hc.2.2 q
theorem unI{f:Value->Sem Value}{g:Int->Int}
  (rule:∀(i:Int) (t:Tok) (s:Shared) (Q:Value->Shared->Prop) (E:Value->Shared->Prop),Q (.int (g i) s.toks) { s with toks:=s.toks+1 }->wpAny (model X.prog X.w) X.A (f (.int i t)) Q E s) :
  UnR X f (rU λi=>.int (g i)):=by
 intro pins s σ H x v Q I rx h;obtain⟨i,rfl,q⟩:=h;obtain⟨t,rfl⟩:=rx;exact rule i t s _ _ ⟨.int (g i),H,I.tok _,⟨_,rfl⟩,q⟩
theorem z25:UnR X (unaryOp .USub) (rU λi=>.int (-i)):=unI λ_ _ _ _ _ q=>neg_int q
end
noncomputable def ycr:V->V->Bool
 |.non,.non=>true|.non,.int _=>true|.int _,.non=>true|.non,.bl _=>true|.bl _,.non=>true|.non,.str _=>true|.str _,.non=>true
 |.int _,.int _=>true|.bl _,.bl _=>true|.str _,.str _=>true|.byt _,.byt _=>true
 |.int _,.str _=>true|.str _,.int _=>true|.bl _,.str _=>true|.str _,.bl _=>true
 |_,_=>false
noncomputable def rEq:R2:=λx y H Q=>ycr x y=true/\Q (.bl (decide (x=y))) H
theorem zyd{i j:Int}:decide (V.int i=V.int j)=(i == j):=by
 rw[ol];simp
theorem z26{i j:Bool}:decide (V.bl i=V.bl j)=(i == j):=by
 rw[ol];simp
theorem zye{i j:Str}:decide (V.str i=V.str j)=(i == j):=by
 rw[ol];simp
theorem zyf{i j:Array UInt8}:decide (V.byt i=V.byt j)=(i.toList == j.toList):=by
 rw[ol];cases i;cases j;simp
section
variable {X:Cx}{a b c:Expr}{ta tb tc:TE}{pos:Pos}
theorem zbz{pins:List (Addr×Obj)}{σ:St}{H:Hp}{s:Shared}{Q:VK}{k k':Bool}(I:Inv X pins σ H s)(q:Q (.bl k) H)(e:k=k'):EP X pins σ Q (.bool k') s:=by
 subst e;exact⟨.bl k,H,I,rfl,q⟩
theorem z8z:OpR X (compareOp .Eq) rEq:=by
 intro pins s σ H x y v u Q I rx ry h;obtain⟨hs,q⟩:=h
 cases x with
 |non =>
  cases rx
  cases y with
  |non=>cases ry;exact PySem.EqNone.eq_none_none (zbz I q (by simp))
  |bl j=>cases ry;exact PySem.EqNone.eq_none_bool (zbz I q (by simp))
  |int j=>obtain⟨t',rfl⟩:=ry;exact PySem.EqNone.eq_none_int (zbz I q (by simp))
  |str j=>obtain⟨t',rfl⟩:=ry;exact PySem.EqNone.eq_none_str (zbz I q (by simp))
  |_=>exact absurd (show false=true from hs) ua
 |bl i =>
  cases rx
  cases y with
  |non=>cases ry;exact PySem.EqNone.eq_bool_none (zbz I q (by simp))
  |bl j=>cases ry;exact eq_bool (zbz I q z26)
  |str j=>obtain⟨t',rfl⟩:=ry;exact PySem.EqMixed.eq_bool_str (zbz I q (by simp))
  |_=>exact absurd (show false=true from hs) ua
 |int i =>
  obtain⟨t,rfl⟩:=rx
  cases y with
  |non=>cases ry;exact PySem.EqNone.eq_int_none (zbz I q (by simp))
  |int j=>obtain⟨t',rfl⟩:=ry;exact eq_int (zbz I q zyd)
  |str j=>obtain⟨t',rfl⟩:=ry;exact PySem.EqMixed.eq_int_str (zbz I q (by simp))
  |_=>exact absurd (show false=true from hs) ua
 |str i =>
  obtain⟨t,rfl⟩:=rx
  cases y with
  |non=>cases ry;exact PySem.EqNone.eq_str_none (zbz I q (by simp))
  |bl j=>cases ry;exact PySem.EqMixed.eq_str_bool (zbz I q (by simp))
  |int j=>obtain⟨t',rfl⟩:=ry;exact PySem.EqMixed.eq_str_int (zbz I q (by simp))
  |str j=>obtain⟨t',rfl⟩:=ry;exact eq_str (zbz I q zye)
  |_=>exact absurd (show false=true from hs) ua
 |byt i =>
  obtain⟨t,rfl⟩:=rx
  cases y with
  |byt j=>obtain⟨t',rfl⟩:=ry;exact PySem.W.eq_bytes (zbz I q zyf)
  |_=>exact absurd (show false=true from hs) ua
 |_=>cases y <;> exact absurd (show false=true from hs) ua
theorem z80:OpR X (compareOp .Lt) (rI0 λi j=>.bl (decide (i<j))):=z7w λ_ _ _ _ _ _ _ q=>lt_int q
theorem z81:OpR X (compareOp .LtE) (rI0 λi j=>.bl (decide (i<=j))):=z7w λ_ _ _ _ _ _ _ q=>le_int q
theorem z82:OpR X (compareOp .Gt) (rI0 λi j=>.bl (decide (j<i))):=z7w λ_ _ _ _ _ _ _ q=>gt_int q
theorem z83:OpR X (compareOp .GtE) (rI0 λi j=>.bl (decide (j<=i))):=z7w λ_ _ _ _ _ _ _ q=>ge_int q
theorem zoz:OpR X (compareOp .In) (λx y H Q=>∃i j,x=.str i/\y=.str j/\Q (.bl (!(Builtin.Str.occurrences j i 0 j.length 1).isEmpty)) H):=by
 intro pins s σ H x y v u Q I rx ry h;obtain⟨i,j,rfl,rfl,q⟩:=h;obtain⟨t,rfl⟩:=rx;obtain⟨t',rfl⟩:=ry;exact in_str (zbz I q rfl)
theorem zyg:OpR X (compareOp .IsNot) (λx y H Q=>y=.non/\Q (.bl (!decide (x=.non))) H):=by
 intro pins s σ H x y v u Q I rx ry h;obtain⟨rfl,q⟩:=h;cases ry;refine isnot_none_gen (zbz I q ?_)
 cases x <;> first
  |(cases rx;rfl)
  |(obtain⟨t,rfl⟩:=rx;rfl)
theorem zi3:OpR X (compareOp .NotIn) (λx y H Q=>∃i j,x=.str i/\y=.str j/\Q (.bl (!(!(Builtin.Str.occurrences j i 0 j.length 1).isEmpty))) H):=by
 intro pins s σ H x y v u Q I rx ry h;obtain⟨i,j,rfl,rfl,q⟩:=h;obtain⟨t,rfl⟩:=rx;obtain⟨t',rfl⟩:=ry;exact notIn_str (zbz I q rfl)
theorem OpR.or{f:Value->Value->Sem Value}{r r':R2}(h:OpR X f r)(h':OpR X f r'):OpR X f (λx y H Q=>r x y H Q\/r' x y H Q):=by
 intro pins s σ H x y v u Q I rx ry q;rcases q with q|q
 ·exact h pins s σ H x y v u Q I rx ry q
 ·exact h' pins s σ H x y v u Q I rx ry q
theorem zb0(b:Expr){op:CmpOp}(h:op≠.In:=by decide)(h2:op≠.NotIn:=by decide):behindInMarks op b=false:=by
 have e1:(op == CmpOp.In)=false:=by cases op <;> first|rfl|exact absurd rfl h
 have e2:(op == CmpOp.NotIn)=false:=by cases op <;> first|rfl|exact absurd rfl h2
 cases b <;> simp[behindInMarks,e1,e2]
theorem zyh{op:CmpOp}{r:R2}(ho:OpR X (compareOp op) r)(ha:PE X a ta)(hb:PE X b tb)(hm:behindInMarks op b=false):PE X (.Compare a [op] [b] pos) (tOp r ta tb):=by
 intro pins s σ H Q I h;exact wpAny_Compare1 (z7v ha hb I h λv u s2 x y H2 I2 rx ry q=>ho pins s2 σ H2 x y v u Q I2 rx ry q) hm
theorem zfs:(sizeLine:Nat)<2 ^ 63:=by rw[sizeLine_eq];decide
theorem zns:OpR X (binaryOp .Add) (λx y H Q=>∃i j,x=.str i/\y=.str j/\i.length+j.length<=sizeLine/\Q (.str (i++j)) H):=by
 intro pins s σ H x y v u Q I rx ry h;obtain⟨i,j,rfl,rfl,hz,q⟩:=h;obtain⟨t,rfl⟩:=rx;obtain⟨t',rfl⟩:=ry;exact add_str (λt' tk=>⟨.str (i++j),H,I.tok _,⟨_,rfl⟩,q⟩) hz
theorem zeg{x:V}{us:List Value}(r:zbj [x] us):∃u,us=[u]/\za7 x u:=by
 cases r with
 |cons r1 r2=>cases r2;exact⟨_,rfl,r1⟩
theorem zs6{x y:V}{us:List Value}(r:zbj [x,y] us):∃u w',us=[u,w']/\za7 x u/\za7 y w':=by
 cases r with
 |cons r1 r2 =>
  cases r2 with
  |cons r3 r4=>cases r4;exact⟨_,_,rfl,r1,r3⟩
theorem zs7:zb6 X (.builtin "abs") (λxs H Q=>∃i,xs=[.int i]/\Q (.int (if i<0 then -i else i)) H):=by
 intro pins s σ H xs us Q I r h;obtain⟨i,rfl,q⟩:=h;obtain⟨u,rfl,t,rfl⟩:=zeg r;exact call_abs_int λu tk=>⟨.int (if i<0 then -i else i),H,I.tok _,⟨_,rfl⟩,q⟩
theorem zo0(hc:X.calm=true):zb6 X (.builtin "min") (λxs H Q=>∃i j,xs=[.int i,.int j]/\Q (.int (if j<i then j else i)) H):=by
 intro pins s σ H xs us Q I r h;obtain⟨i,j,rfl,q⟩:=h;obtain⟨u,w',rfl,⟨t,rfl⟩,⟨t',rfl⟩⟩:=zs6 r;refine min_two_ints (I.ok.hd hc) λh' tk k=>⟨_,H,I.kept k,?_,q⟩
 by_cases hj:j<i
 ·rw[la hj,la hj];exact⟨_,rfl⟩
 ·rw[wa hj,wa hj];exact⟨_,rfl⟩
theorem zo1:zb6 X (.type "int") (λxs H Q=>(∃i,xs=[.int i]/\Q (.int i) H)\/∃k,xs=[.bl k]/\Q (.int (if k then 1 else 0)) H):=by
 intro pins s σ H xs us Q I r h;rcases h with⟨i,rfl,q⟩|⟨k,rfl,q⟩
 ·obtain⟨u,rfl,t,rfl⟩:=zeg r
  exact call_int_int ⟨.int i,H,I,⟨_,rfl⟩,q⟩
 ·obtain⟨u,rfl,r1⟩:=zeg r
  cases r1;exact call_int_bool ⟨.int (if k then 1 else 0),H,I.tok _,⟨_,rfl⟩,q⟩
end
structure ObjM(h:Heap)(x dx C:Addr)(mA:Str->Option Value):Prop where
 obj:h.get? x=some (PySem.W.instObj C dx)
 ns:h.Ns1 dx mA
 ne:dx≠x
theorem zo2{h:Heap}{dx:Addr}{mA:Str->Option Value}(n:h.Ns1 dx mA):∃od,h.get? dx=some od/\∀name,PySem.W.lookIn name od=some (mA name):=by
 obtain⟨o,es,ep,ho,hd,hk,_,hm⟩:=n;refine⟨o,ho,λname=>?_⟩;have e:=hm name;unfold nsFind findBy at e;rw[<-Array.find?_toList]at e;unfold PySem.W.lookIn;rw[hd];dsimp only;split
 ·rename_i y q
  rw[q]at e;exact ef some e
 ·rename_i q
  rw[q]at e
  have a:es.toList.any (·.refKey)=false:=by
   rw[List.any_eq_false];intro y hy;obtain⟨z,t,zgv⟩:=hk y (yk.mp hy);simp[DictEntry.refKey,zgv]
  have a':¬es.toList.any (·.refKey)=true:=by rw[a];exact ua
  rw[wa a'];exact ef some e
theorem ObjM.look{h:Heap}{x dx C:Addr}{mA:Str->Option Value}(I:ObjM h x dx C mA):∃od,PySem.W.InstAt h x (PySem.W.instObj C dx) C (some od)/\∀name,PySem.W.lookIn name od=some (mA name) :=
 let ⟨od,ho,hl⟩:=zo2 I.ns
 ⟨od,⟨I.obj,rfl,rfl,ho⟩,hl⟩
theorem zgx.some_of{v:V}{o:Option Value}(r:zgx (some v) o):∃u,o=some u/\za7 v u:=by
 cases o with
 |none=>exact(show False from r).elim
 |some u=>exact⟨u,rfl,r⟩
theorem zo3{v:V}{u:Value}(r:za7 v u):PySem.W.handedIn u=true:=by
 cases v with
 |non=>cases (show u=Value.none from r);rfl
 |bl b=>cases (show u=Value.bool b from r);rfl
 |int i=>obtain⟨t,e⟩:=(show ∃t,u=Value.int i t from r);cases e;rfl
 |str x=>obtain⟨t,e⟩:=(show ∃t,u=Value.str x t from r);cases e;rfl
 |byt b=>obtain⟨t,e⟩:=(show ∃t,u=Value.bytes b t from r);cases e;rfl
 |flt b=>obtain⟨t,e⟩:=(show ∃t,u=Value.float b t from r);cases e;rfl
 |ref a=>cases (show u=Value.ref a from r);rfl
 |ty n=>cases (show u=Value.type n from r);rfl
section
variable {P:Program}{w:World}{H H':Hp}{h h':Heap}{a C dx:Addr}{fs fs':List (Str×V)}
theorem zyi(hok:HOk P w H h)(e:H a=some (.ins C dx fs)):∃mA,ObjM h a dx C mA/\(∀f,zgx (fs.lookup f) (mA f))/\PySem.Within mA (fs.map (·.1))/\fs.length<=1000/\H dx=some (.own a):=by
 obtain⟨d,z,ne,ob,mA,n,r,q⟩:=(show za8 P w H h a (.ins C dx fs) from hok a _ e)
 exact⟨mA,⟨ob,n,ne⟩,r,q,z,d⟩
end
structure Cls(K:PySem.W.Frag)(C:Addr):Prop where
 pg:PySem.W.plainGet K C Str.empty=true
 hd:PySem.W.hasDictIn K C=true
 po:PySem.W.plainOver K C=true
 sa:PySem.W.findIn K (.ref C) "__setattr__" = some (some (.builtin "object.__setattr__"))
theorem Cls.get{K:PySem.W.Frag}{C:Addr}(c:Cls K C)(f:Str):PySem.W.plainGet K C f=true:=c.pg
section
variable {X:Cx}{pins:List (Addr×Obj)}{σ:St}{H:Hp}{s:Shared}{a C dx:Addr}{fs:List (Str×V)}{f:Str}{v:V}{A:Around}{E:Value->Shared->Prop}
theorem zyj{prog:Program}{w:World}{env:Env}{e:Expr}{f:Str}{pos:Pos}{s:Shared}{Q:Value->Shared->Prop}(hb:attributeBase e f env (eval e env)=eval e env)
  (h:wpAny (model prog w) A (eval e env) (λo s₁=>wpAny (model prog w) A (getAttr o f true) Q E s₁) E s):wpAny (model prog w) A (eval (.Attribute e f pos) env) Q E s :=
 Attribute_any_ h (by rw[arm_eval_Attribute,hb])
end
section
variable {X:Cx}{pins:List (Addr×Obj)}{σ:St}{H:Hp}{s:Shared}{A:Around}{E:Value->Shared->Prop}{Q:Value->Shared->Prop}{c:Value}{b:Bool}
inductive TyOf (K:PySem.W.Frag) (H:Hp):V->Value->Prop where
 |non:TyOf K H .non (.type "NoneType")
 |bl (x:Bool):TyOf K H (.bl x) (.type "bool")
 |int (i:Int):TyOf K H (.int i) (.type "int")
 |str (x:Str):TyOf K H (.str x) (.type "str")
 |flt (x:UInt64):TyOf K H (.flt x) (.type "float")
 |lst {a:Addr} {xs:List V} (e:H a=some (.lst xs)):TyOf K H (.ref a) (.type "list")
 |frz {a:Addr} {o:Obj} {xs:List V} (e:H a=some (.frz o (.lst xs))):TyOf K H (.ref a) (.type "list")
 |tup {a:Addr} {xs:List V} (e:H a=some (.tup xs)):TyOf K H (.ref a) (.type "tuple")
 |dK {a:Addr} {kvs:List (Key×V)} (e:H a=some (.dK kvs)):TyOf K H (.ref a) (.type "dict")
 |dT {a:Addr} {kvs:List (List Key×V)} (e:H a=some (.dT kvs)):TyOf K H (.ref a) (.type "dict")
 |ins {a C dx:Addr} {fs:List (Str×V)} (e:H a=some (.ins C dx fs)) (cl:Cls K C) (ha:PySem.W.findIn K (.ref C) "__class__" = some (some (.builtin "object.__class__")))
   (hn:PySem.W.specialIn K (.builtin "object.__class__") "__get__" = some (some (.builtin "getset_descriptor.__get__"))) (htk:PySem.W.takesIn K (.builtin "object.__class__")=some true)
   (hm:PySem.W.mroIn K C (.type "object")=some true):TyOf K H (.ref a) (.ref C)
theorem zo4{x:V}{u t:Value}(I:Inv X pins σ H s)(rx:za7 x u)(ty:TyOf X.K H x t)(e:PySem.W.kitOne X.K t c=some b)(h:∀tk,Q (.bool b) { s with toks:=tk }) :
  wpAny (model X.prog X.w) A (call (.builtin "isinstance") [u,c]) Q E s:=by
 cases ty with
 |non=>cases (show u=Value.none from rx);exact PySem.W.kia_one PySem.W.kitx_none I.kIn jg e (λz=>nomatch z) h
 |bl y=>cases (show u=Value.bool y from rx);exact PySem.W.kia_one PySem.W.kitx_bool I.kIn jg e (λz=>nomatch z) h
 |int i=>obtain⟨t,q⟩:=(show ∃t,u=Value.int i t from rx);cases q;exact PySem.W.kia_one PySem.W.kitx_int I.kIn jg e (λz=>nomatch z) h
 |str y=>obtain⟨t,q⟩:=(show ∃t,u=Value.str y t from rx);cases q;exact PySem.W.kia_one PySem.W.kitx_str I.kIn jg e (λz=>nomatch z) h
 |flt y=>obtain⟨t,q⟩:=(show ∃t,u=Value.float y t from rx);cases q;exact PySem.W.kia_one PySem.W.kitx_float I.kIn jg e (λz=>nomatch z) h
 |@lst a xs ea =>
  cases (show u=Value.ref a from rx)
  obtain⟨_,_,n,_,h1⟩:=(show za8 X.prog X.w H s.heap a (.lst xs) from I.hok a _ ea)
  exact PySem.W.kia_one PySem.W.kitx_list I.kIn ⟨_,h1,rfl⟩ e (λz=>nomatch z) h
 |@frz a ob xs ea =>
  cases (show u=Value.ref a from rx)
  obtain⟨_,_,_,n,_,h1⟩:=(show za8 X.prog X.w H s.heap a (.frz ob (.lst xs)) from I.hok a _ ea)
  exact PySem.W.kia_one PySem.W.kitx_list I.kIn ⟨_,h1,rfl⟩ e (λz=>nomatch z) h
 |@tup a xs ea =>
  cases (show u=Value.ref a from rx)
  obtain⟨_,_,_,p⟩:=(show za8 X.prog X.w H s.heap a (.tup xs) from I.hok a _ ea)
  obtain⟨o,h1,h2,_⟩:=p;exact PySem.W.kia_one PySem.W.kitx_tuple I.kIn ⟨o,h1,h2⟩ e (λz=>nomatch z) h
 |@dK a kvs ea =>
  cases (show u=Value.ref a from rx)
  obtain⟨_,_,vs,_,p⟩:=(show za8 X.prog X.w H s.heap a (.dK kvs) from I.hok a _ ea)
  obtain⟨o,es,ep,h1,h2,_⟩:=p;exact PySem.W.kia_one PySem.W.kitx_dict I.kIn ⟨o,h1,h2.1⟩ e (λz=>nomatch z) h
 |@dT a kvs ea =>
  cases (show u=Value.ref a from rx)
  obtain⟨_,_,xs,_,o,es,ep,h1,h2,_⟩:=(show za8 X.prog X.w H s.heap a (.dT kvs) from I.hok a _ ea)
  exact PySem.W.kia_one PySem.W.kitx_dict I.kIn ⟨o,h1,h2.1⟩ e (λz=>nomatch z) h
 |@ins a C dx fs ea cl ha hn htk hm =>
  cases (show u=Value.ref a from rx)
  obtain⟨mA,O,_⟩:=zyi I.hok ea;obtain⟨od,J,_⟩:=O.look;exact PySem.W.kia_one (PySem.W.kitx_own (cl.get _) cl.hd ha hn htk hm) I.kIn J e (λz=>nomatch z) h
end
structure Room(k:Nat)(A:Around):Prop where
 hd:A.handled=none
 dp:A.depth+3 * k+5<recursionLimit
 un:A.units+16 * k+200<cLine
theorem Room.mono{j k:Nat}{A:Around}(r:Room k A)(h:j<=k):Room j A:=⟨r.hd,by have:=r.dp;omega,by have:=r.un;omega⟩
theorem Room.deeper{k:Nat}{A:Around}(r:Room (k+1) A)(env:Env):Room k (A.deeper env) :=
 ⟨r.hd,by have:=r.dp;show A.depth+1+3 * k+5<_;omega,by have:=r.un;show A.units+3+16 * k+200<_;omega⟩
theorem znt{A:Around}{C:Addr}{us:List Value}{kw:List (Str×Value)}:(A.under (.builtin "type.__call__" ⟨.ref C::us,kw⟩)).depth=A.depth+1:=by
 first|rfl|simp[Around.under,Code.weight,Code.isCreation,Code.isGuard,Code.isCaller,Code.frames,Code.isFrame,guardIds]
theorem znu{A:Around}{C:Addr}{us:List Value}{kw:List (Str×Value)}:(A.under (.builtin "type.__call__" ⟨.ref C::us,kw⟩)).units=A.units+1:=by
 first|rfl|simp[Around.under,Code.cUnits,Code.frames,Code.isFrame]
theorem Room.make{k:Nat}{A:Around}(r:Room (k+1) A)(C:Addr)(us:List Value)(kw:List (Str×Value)):Room k (A.under (.builtin "type.__call__" ⟨.ref C::us,kw⟩)) :=
 ⟨r.hd,by have:=r.dp;rw[znt];omega,by have:=r.un;rw[znu];omega⟩
theorem Room.depth{k:Nat}{A:Around}(r:Room k A):A.depth<recursionLimit:=by have:=r.dp;omega
theorem Room.units{k:Nat}{A:Around}(r:Room k A):A.units+64<cLine:=by have:=r.un;omega
noncomputable def ybx:TA:=λ_ H Q=>Q [] H
noncomputable def z27(ta:TE)(tr:TA):TA:=λσ H Q=>ta σ H λx H1=>tr σ H1 λxs H2=>Q (x::xs) H2
section
variable {X:Cx}{e:Expr}{es:List Expr}{te:TE}{t:TA}{pos:Pos}
theorem zc5:PA X [] ybx:=λ_ _ _ _ H Q I h=>ak ⟨[],H,I,.nil,h⟩
theorem zbp(ha:PE X e te)(hr:PA X es t)(hs:starEach (e::es) X.env=(false,eval e X.env)::starEach es X.env:=by rfl):PA X (e::es) (z27 te t):=by
 intro pos pins s σ H Q I h;rw[hs];show wpAny _ _ (spliced ((false,eval e X.env)::backTo pos (starEach es X.env))) _ _ s;refine dh (thn (ha pins s σ H _ I h) λu s1 ⟨x,H1,I1,r1,q1⟩=>?_);exact thn (hr pos pins s1 σ H1 _ I1 q1) λus s2 ⟨xs,H2,I2,r2,q2⟩=>⟨x::xs,H2,I2,.cons r1 r2,q2⟩
noncomputable def ycs(t:TA):TE:=λσ H Q=>t σ H λxs H1=>xs.length<=sizeLine/\∀p,H1 p=none->Q (.ref p) (upd H1 p (.tup xs))
noncomputable def yct(t:TA):TE:=λσ H Q=>t σ H λxs H1=>xs.length<=sizeLine/\∀p,H1 p=none->Q (.ref p) (upd H1 p (.lst xs))
theorem z28{x1}(h:PA X es t):PE X (.Tuple es x1 pos) (ycs t):=by
 intro pins s σ H Q I hq;refine wpAny_Tuple_spliced (thn (h pos pins s σ H _ I hq) λus s1 ⟨xs,H1,I1,r,z,q⟩=>⟨by rw[<-r.length];exact z,?_⟩);have hf:H1 s1.heap.objs.size=none:=I1.hok.fresh (va _);refine⟨.ref s1.heap.objs.size,upd H1 s1.heap.objs.size (.tup xs),I1.laid (t':=s1.toks) (λb u e=>ma _ e) (va _) ?_,rfl,q _ hf⟩;exact⟨z,us,r,⟨_,gb _ rfl,rfl,_,rfl⟩⟩
theorem zl0(h:PA X es t):PE X (.List es pos) (yct t):=by
 intro pins s σ H Q I hq;refine wpAny_List_spliced (thn (h pos pins s σ H _ I hq) λus s1 ⟨xs,H1,I1,r,z,q⟩=>⟨by rw[<-r.length];exact z,?_⟩);have hf:H1 s1.heap.objs.size=none:=I1.hok.fresh (va _);refine⟨.ref s1.heap.objs.size,upd H1 s1.heap.objs.size (.lst xs),I1.laid (t':=s1.toks) (λb u e=>ma _ e) (va _) ?_,rfl,q _ hf⟩;exact⟨z,us,0,r,gb _ rfl⟩
end
noncomputable abbrev Sp:=List V->Hp->VK->XK->Prop
noncomputable abbrev CXT:=List Env->Hp->Shared->XK->Value->Shared->Prop
structure Env0(P:Program)(w:World)(K:PySem.W.Frag)(mg:Str->Option Value)(base:Heap)(A:Around)(outer:List Env)(s:Shared)(H:Hp):Prop where
 frames:A.frames=some outer
 mod:Mod K mg base
 bs:∀b o,base.get? b=some o->s.heap.get? b=some o/\H b=none
 bsz:base.objs.size<=s.heap.objs.size
 funs:s.heap.FunFrames base outer
 frf:∀b∈frs outer,H b=none
 hok:HOk P w H s.heap
 bare:AllBare s.gens
def CE(outer:List Env)(P:Program)(w:World)(H:Hp)(s:Shared)(Q:VK)(u:Value)(s':Shared):Prop :=
 ∃v H',s'.os=s.os/\AllBare s'.gens/\Un (frs outer) [] H H' s.heap s'.heap/\HOk P w H' s'.heap/\za7 v u/\Q v H'
def CR(CX:CXT)(outer:List Env)(P:Program)(w:World)(H:Hp)(s:Shared)(Q:VK)(E:XK)(r:Result)(s':Shared):Prop :=
 match r with
 |.ok (.ret u)=>CE outer P w H s Q u s'
 |.ok _=>False
 |.error e=>CX outer H s E e s'
structure FnOk(P:Program)(w:World)(K:PySem.W.Frag)(mg:Str->Option Value)(base:Heap)(CX:CXT)(k:Nat)(f:Addr)(fd:FuncData)(ps:List Str)(sp:Sp):Prop where
 len:∀vs H Q E,sp vs H Q E->vs.length=ps.length
 run:∀(A:Around) (outer:List Env) (s:Shared) (H:Hp) (args:Args) (us:List Value) (vs:List V) (Q:VK) (E:XK),Room k A->Env0 P w K mg base A outer s H->BindsTo s fd args (ps.zip us)->zbj vs us->sp vs H Q E →
  codeAny (model P w) A (.call (.ref f) args) (CR CX outer P w H s Q E) s
theorem Env0.make{P:Program}{w:World}{K:PySem.W.Frag}{mg:Str->Option Value}{base:Heap}{A:Around}{outer:List Env}{s:Shared}{H:Hp}(e:Env0 P w K mg base A outer s H)(C:Addr)(us:List Value)(kw:List (Str×Value)) :
  Env0 P w K mg base (A.under (.builtin "type.__call__" ⟨.ref C::us,kw⟩)) outer s H:=⟨by first|exact e.frames|(simpa [Around.under,Code.envs,Code.isFrame,pushEnvs] using e.frames),e.mod,e.bs,e.bsz,e.funs,e.frf,e.hok,e.bare⟩
theorem Env0.in1{P:Program}{w:World}{K:PySem.W.Frag}{mg:Str->Option Value}{base:Heap}{A:Around}{outer:List Env}{s:Shared}{H:Hp}(e:Env0 P w K mg base A outer s H) :
  Env0 P w K mg base A.in1 outer s H:=⟨e.frames,e.mod,e.bs,e.bsz,e.funs,e.frf,e.hok,e.bare⟩
section
variable {X:Cx}{pins:List (Addr×Obj)}{σ:St}{H:Hp}{s s':Shared}
theorem Inv.env0(I:Inv X pins σ H s):Env0 X.prog X.w X.K X.mg X.base X.A X.stack s H :=
 ⟨I.ok.frames,I.ok.mod,I.bs,ed I.ok.bsz I.sz,I.stack,I.stkFree,I.hok,I.bare⟩
theorem Inv.after{Q:VK}{u:Value}(I:Inv X pins σ H s)(h:CE X.stack X.prog X.w H s Q u s'):EP X pins σ Q u s':=by
 obtain⟨v,H',os,bare,un,hok,r,q⟩:=h;obtain⟨hh,g,d,t,os'⟩:=s';obtain rfl:os'=s.os:=os;exact⟨v,H',I.call (h':=hh) (g':=g) (d':=d) (t':=t) (ch:=[]) un hok bare (λb z=>absurd z (by simp)),r,q⟩
end
noncomputable def z84(sp:Sp)(dvs:List V)(E:XK)(t:TA):TE:=λσ H Q=>t σ H λvs H1=>sp (vs++dvs) H1 Q E
def zch(K:PySem.W.Frag)(fd:FuncData)(ps:List Str)(ds:List Value):Prop :=
 ∀(s:Shared) (us:List Value),K.In s.heap->(us++ds).length=ps.length->BindsTo s fd ⟨us,[]⟩ (ps.zip (us++ds))
theorem zch.all{K:PySem.W.Frag}{fd:FuncData}{ps:List Str}(h:∀us:List Value,us.length=ps.length->bindArgs fd ⟨us,[]⟩=pure (ps.zip us)):zch K fd ps []:=λs us _ hl=>by
 rw[zb]at hl ⊢;exact .of_eq (h us hl)
def zi4(CX:CXT)(X:Cx)(E:XK):Prop:=∀(pins:List (Addr×Obj)) (σ:St) (H:Hp) (s:Shared) (e:Value) (s':Shared),Inv X pins σ H s->CX X.stack H s E e s'->X.xe e s'
section
variable {X:Cx}{CX:CXT}{k:Nat}{f C:Addr}{fd:FuncData}{ps:List Str}{sp:Sp}{dvs:List V}{ds:List Value}{E:XK}{x m:Str}{p pos apos:Pos}{e o:Expr}{es:List Expr}{ta:TE}{t:TA}
theorem z29{pins:List (Addr×Obj)}{σ:St}{H:Hp}{s:Shared}{Q:VK}{us:List Value}{vs:List V}(F:FnOk X.prog X.w X.K X.mg X.base CX k f fd ps sp)(hr:Room k X.A)(hb:zch X.K fd ps ds)(hd:zbj dvs ds)(hx:zi4 CX X E)
  (I:Inv X pins σ H s) (r:zbj vs us) (h:sp (vs++dvs) H Q E):wpAny (model X.prog X.w) X.A (call (.ref f) us) (EP X pins σ Q) X.xe s:=by
 have r2:zbj (vs++dvs) (us++ds):=r.append hd;have hl:(us++ds).length=ps.length:=by rw[<-r2.length];exact F.len _ _ _ _ h
 refine yo (gk (F.run X.A X.stack s H ⟨us,[]⟩ (us++ds) (vs++dvs) Q E hr I.env0 (hb s us I.kIn hl) r2 h) λr s' hq=>?_)
 cases r with
 |error e=>exact hx pins σ H s e s' I hq
 |ok fl =>
  cases fl with
  |ret u=>exact I.after hq
  |next=>exact False.elim hq
  |brk=>exact False.elim hq
  |cont=>exact False.elim hq
theorem zky(F:FnOk X.prog X.w X.K X.mg X.base CX k f fd ps sp)(hr:Room k X.A)(hg:Gl X x)(hm:X.mg x=some (.ref f))(hk:PySem.W.keepIn X.K (.ref f)=true)(hb:zch X.K fd ps ds)(hd:zbj dvs ds)(hx:zi4 CX X E)
  (ha:PA X (e::es) t) (hdb:(x == ("__debug__" : Str))=false:=by decide) (he:starEach (e::es) X.env=(false,eval e X.env)::starEach es X.env:=by rfl) (hpl:(backTo pos (starEach es X.env)).any (·.1)=false:=by rfl) :
  PE X (.Call (.Name x p) (e::es) [] pos) (z84 sp dvs E t):=by
 intro pins s σ H Q I h;refine zf (zey I hg hm ?_ hdb);refine PySem.W.callWith_K (h₀:=X.base) I.ok.mod.kin hk (thn (ha pos pins s σ H _ I h) λus s1 ⟨vs,H1,I1,r,q⟩=>⟨I1.kIn,?_⟩) he hpl;exact z29 F hr hb hd hx I1 r q
end
def PK(X:Cx)(kws:List Keyword)(t:TA):Prop :=
 ∀(pos:Pos) (pins:List (Addr×Obj)) (s:Shared) (σ:St) (H:Hp) (Q:List V->Hp->Prop),Inv X pins σ H s->t σ H Q->wpAny (model X.prog X.w) X.A (evalAll ((backToKw pos (keywordEach kws X.env)).map (·.2))) (AP X pins σ Q) X.xe s
section
variable {X:Cx}{CX:CXT}{k:Nat}{f C:Addr}{fd:FuncData}{ps ks:List Str}{sp:Sp}{E:XK}{x m:Str}{p pos apos kpos:Pos}{e o:Expr}{es:List Expr}{kws:List Keyword}{te ta:TE}{t tk:TA}{nm:Option Str}
theorem zv8:PK X [] ybx:=λ_ _ _ _ H Q I h=>wpAny_evalAll_nil ⟨[],H,I,.nil,h⟩
theorem zo5(ha:PE X e te)(hr:PK X kws t):PK X (⟨nm,e,kpos⟩::kws) (z27 te t):=by
 intro pos pins s σ H Q I h;show wpAny _ _ (evalAll ((do let v ← eval e X.env;standAt pos;pure v)::(backToKw pos (keywordEach kws X.env)).map (·.2))) _ _ s;refine wpAny_evalAll_cons (aa (thn (ha pins s σ H _ I h) λu s1 ⟨x,H1,I1,r1,q1⟩=>aa (uj (ia ?_))));exact thn (hr pos pins s1 σ H1 _ I1 q1) λus s2 ⟨xs,H2,I2,r2,q2⟩=>⟨x::xs,H2,I2,.cons r1 r2,q2⟩
variable {g:List Value->List Value->List Value}{gV:List V->List V->List V}
end
structure FnScope(N P:List Str)(sc:Scope):Prop where
 kind:sc.kind=.function
 co:sc.isCoroutine=false
 gen:sc.isGenerator=false
 nd:N.Nodup
 pre:N.take P.length=P
 par:∀x∈P,sc.names.lookup x=some .local\/sc.names.lookup x=some .cell
 nofree:∀y∈sc.names,y.2≠.free
theorem zi5{kindOf:Str->Option NameKind}{x:Str}:∀{binds:List (Str×Value)}{m:Str->Option Value},(∀v,(x,v) ∉ binds)->bindL kindOf binds m x=m x
 |[],_,_=>rfl
 |(n,v)::r,m,h=>by
  unfold bindL;rw[zi5 λw hw=>h w (ja _ hw)];split
  ·have:x≠n:=by rintro rfl;exact h v xa
   simp[this]
  ·rfl
theorem zi6{kindOf:Str->Option NameKind}{x:Str}:∀{binds:List (Str×Value)}{m:Str->Option Value},(∀v,(x,v) ∉ binds)->bindC kindOf binds m x=m x
 |[],_,_=>rfl
 |(n,v)::r,m,h=>by
  unfold bindC;rw[zi6 λw hw=>h w (ja _ hw)];split
  ·rfl
  ·have:x≠n:=by rintro rfl;exact h v xa
   simp[this]
theorem zi7{kindOf:Str->Option NameKind}{x:Str}{v:Value}:∀{P:List Str}{vs:List Value}{i:Nat}{m:Str->Option Value},P.Nodup->P[i]?=some x->vs[i]?=some v->kindOf x=some .local →
  bindL kindOf (P.zip vs) m x=some v
 |[],_,_,_,_,h,_,_=>by simp at h
 |_::_,[],_,_,_,_,h,_=>by simp at h
 |p::P,w::vs,0,m,nd,h1,h2,hk=>by
  simp at h1 h2;subst h1;subst h2;show bindL kindOf ((p,w)::P.zip vs) m p=_;unfold bindL;rw[zi5 λv hv=>(qg.mp nd).1 (ip hv).1,la hk];simp
 |p::P,w::vs,i+1,m,nd,h1,h2,hk=>by
  show bindL kindOf ((p,w)::P.zip vs) m x=_;unfold bindL;exact zi7 (i:=i) (qg.mp nd).2 (by simpa using h1) (by simpa using h2) hk
theorem zi8{kindOf:Str->Option NameKind}{x:Str}{v:Value}:∀{P:List Str}{vs:List Value}{i:Nat}{m:Str->Option Value},P.Nodup->P[i]?=some x->vs[i]?=some v->kindOf x≠some .local →
  bindC kindOf (P.zip vs) m x=some v
 |[],_,_,_,_,h,_,_=>by simp at h
 |_::_,[],_,_,_,_,h,_=>by simp at h
 |p::P,w::vs,0,m,nd,h1,h2,hk=>by
  simp at h1 h2;subst h1;subst h2;show bindC kindOf ((p,w)::P.zip vs) m p=_;unfold bindC;rw[zi6 λv hv=>(qg.mp nd).1 (ip hv).1,wa hk];simp
 |p::P,w::vs,i+1,m,nd,h1,h2,hk=>by
  show bindC kindOf ((p,w)::P.zip vs) m x=_;unfold bindC;exact zi8 (i:=i) (qg.mp nd).2 (by simpa using h1) (by simpa using h2) hk
noncomputable def start(N:List Str)(vs:List V):St:=vs.map some++List.replicate (N.length - vs.length) none
noncomputable def zcy(CX:CXT)(P:Program)(w:World)(K:PySem.W.Frag)(mg:Str->Option Value)(base:Heap)(N:List Str)(qual:Str)(scope:Scope)(f:Addr)(cd:Value)(A:Around)(outer:List Env)(s:Shared)(H:Hp)(E:XK):Cx where
 prog:=P
 w:=w
 K:=K
 mg:=mg
 base:=base
 A:=A.deeper (envOfC qual scope s.heap.objs.size f cd)
 N:=N
 s₀:=s
 H₀:=H
 env:=envOfC qual scope s.heap.objs.size f cd
 outer:=outer
 stack:=envOfC qual scope s.heap.objs.size f cd::outer
 ex:=[]
 calm:=true
 fn:=λ_=>true
 pn:=[]
 xe:=λe s'=>wpAny (model P w) (A.deeper (envOfC qual scope s.heap.objs.size f cd)) (leaving (envOfC qual scope s.heap.objs.size f cd) e) (λ_ s''=>CX outer H s E e s'') (λe' s''=>CX outer H s E e' s'') s'
theorem zl1{sc:Scope}{n:Nat}{x:Str}(h:sc.names.lookup x=some .cell):∃c,(cellsFrom n sc.names []).lookup x=some c:=by
 have q:=PySem.W.cellsFrom_some sc.names n [] (.inl h);exact Option.isSome_iff_exists.mp q
theorem zo6{CX:CXT}{P:Program}{w:World}{K:PySem.W.Frag}{mg:Str->Option Value}{base:Heap}{N ps:List Str}{qual:Str}{scope:Scope}{f:Addr}{cd:Value}{A:Around}{outer:List Env}{s s1:Shared}{H:Hp}{E:XK}{us:List Value}{vs:List V}
  (S:FnScope N ps scope) (hd:A.handled=none) (e0:Env0 P w K mg base A outer s H) (hl:vs.length=ps.length) (r:zbj vs us)
  (x:InCallC s s.heap.objs.size (bindL (envOfC qual scope s.heap.objs.size f cd).kindOf (ps.zip us) λ_=>none) (cellsFrom (s.heap.objs.size+1) scope.names []) (bindC (envOfC qual scope s.heap.objs.size f cd).kindOf (ps.zip us) λ_=>none) s1) :
  Inv (zcy CX P w K mg base N qual scope f cd A outer s H E) [] (start N vs) H s1:=by
 have hpl:ps.length<=N.length:=by have:=ef List.length S.pre;rw[cf]at this;omega
 obtain⟨h1,tk,rfl,hk⟩:=x.done;have noA:∀b:Addr,b ∉ (zcy CX P w K mg base N qual scope f cd A outer s H E).ex:=λb z=>absurd (show b∈([]:List Addr) from z) (by simp)
 refine⟨⟨e0.mod,S.kind,rfl,rfl,Nat.le_refl _,λ y z c h1 h2=>?_,λ y hy=>?_,λ y c _ h=>?_,λ _=>hd,Around.frames_deeper e0.frames,.inr ⟨rfl,rfl⟩,λ b z=>absurd z (noA b),e0.bs,e0.bsz,λ b _ _=>noA b,λ b z=>absurd z (noA b),e0.funs,e0.frf⟩,
  rfl,e0.bare,Un.kept hk,⟨_,x.toInCall.ns,λi y v h1 h2 h3=>?_⟩,λy c h=>⟨_,x.cell y c h⟩,e0.hok.fresh (va _),λy c h=>?_,λp hp=>absurd (show p∈([]:List (Addr×Obj)) from hp) (by simp),e0.hok.kept hk,?_⟩
 ·exact name_of_addr x.apart (PySem.mem_of_lookup h1) (PySem.mem_of_lookup h2)
 ·have hy:scope.names.lookup y=some .cell\/scope.names.lookup y=some .free:=hy
  rcases hy with hy|hy
  ·exact zl1 hy
  ·exact absurd rfl (S.nofree _ (PySem.mem_of_lookup hy))
 ·exact vo (x.above y c (PySem.mem_of_lookup h))
 ·have hi:i<vs.length:=by
   unfold start at h2;by_cases hi:i<vs.length
   ·exact hi
   ·rw[yf (by simpa using hi)]at h2
    rw[zg]at h2
    split at h2 <;> cases h2
  have ha:vs[i]?=some v:=by
   unfold start at h2;rw[dg (by simpa using hi),qc]at h2
   cases e:vs[i]? with
   |none=>rw[e]at h2;cases h2
   |some a=>rw[e]at h2;cases h2;rfl
  obtain⟨u,hu,rv⟩:=r.get ha
  have hp:ps[i]?=some y:=by
   rw[<-S.pre,List.getElem?_take_of_lt (by omega)];exact h1
  have ndP:ps.Nodup:=by rw[<-S.pre];exact S.nd.sublist (List.take_sublist _ _)
  refine⟨u,rv,?_⟩;rcases S.par y (jd hp) with k|k
  ·exact .inl ⟨k,zi7 ndP hp hu k⟩
  ·obtain⟨c,e⟩:=zl1 (n:=s.heap.objs.size+1) k
   refine .inr ⟨.inl k,c,e,?_⟩;have q:=x.cell y c e;rw[zi8 ndP hp hu (by show scope.names.lookup y≠_;rw[k];decide)]at q;exact q
 ·exact e0.hok.fresh (vo (x.above y c (PySem.mem_of_lookup h)))
 ·unfold start
  show _=N.length;rw[zc,ba,zi];omega
theorem z3a{CX:CXT}{P:Program}{w:World}{K:PySem.W.Frag}{mg:Str->Option Value}{base:Heap}{k:Nat}{f:Addr}{name qual:Str}{params:Arguments}{body:List Stmt}{scope:Scope}{dV kV doc pm cdv ct oc:Value}{an od:Option Addr}
  {osl:Array (Option Value)} {N ps:List Str} {sp:Sp} (lk:K.lookup f=some ⟨oc,od,.func (PySem.W.fnOf name qual params body scope dV kV doc pm an cdv ct),osl⟩) (hcd:PySem.W.codeIn K cdv qual=true) (S:FnScope N ps scope)
  (len:∀vs H Q E,sp vs H Q E->vs.length=ps.length)
  (hbody:∀ (A:Around) (outer:List Env) (s:Shared) (H:Hp) (vs:List V) (Q:VK) (E:XK),Room k (A.deeper (envOfC qual scope s.heap.objs.size f cdv))->sp vs H Q E →
   ∃t,PSs (zcy CX P w K mg base N qual scope f cdv A outer s H E) body t/\t { nx:=λ_ H'=>Q .non H',rt:=Q } (start N vs) H) :
  FnOk P w K mg base CX (k+1) f (PySem.W.fnOf name qual params body scope dV kV doc pm an cdv ct) ps sp:=by
 refine⟨len,λA outer s H args us vs Q E hr e0 hb r hsp=>?_⟩;have hl:=len _ _ _ _ hsp;have KX:K.In s.heap:=e0.mod.kin.keeps λb o e=>(e0.bs b o e).1
 have lim:s.heap.NoLimit:=e0.mod.nolimit.keeps λb o e=>(e0.bs b o e).1
 have hkind:∀y∈ps.zip us,scope.names.lookup y.1=some .local\/(scope.names.lookup y.1=some .cell/\((cellsFrom (s.heap.objs.size+1) scope.names []).lookup y.1).isSome=true):=λ⟨n,v⟩ hy=>by
  rcases S.par n (ip hy).1 with q|q
  ·exact .inl q
  ·exact .inr ⟨q,PySem.W.cellsFrom_some _ _ _ (.inl q)⟩
 refine codeAny_call_function hr.depth (KX _ _ lk) rfl S.co S.gen rfl (PySem.W.codeRec_of KX hcd) (hb _ _ _ _ ?_)
 refine wpAny_newFunctionEnv_cells S.kind hkind λenv he s1 x=>?_
 subst he;refine⟨lim.keeps x.toInCall.keep,codeAny_func ?_⟩;obtain⟨t,ht,hq⟩:=hbody A outer s H vs Q E (hr.deeper _) hsp;have I:Inv (zcy CX P w K mg base N qual scope f cdv A outer s H E) [] (start N vs) H s1:=zo6 S hr.hd e0 hl r x;refine ye (ht [] s1 (start N vs) H _ I hq) (λfl s' hs=>?_) λe s' hs=>hs
 have fin:∀{σ':St} {H':Hp} {v:V} {u:Value},Inv (zcy CX P w K mg base N qual scope f cdv A outer s H E) [] σ' H' s'->za7 v u->Q v H'->CE outer P w H s Q u s' :=
  λ{σ' H' v u} J rv q=>⟨v,H',J.os,J.bare,J.base,J.hok,rv,q⟩
 cases fl with
 |ret u =>
  obtain⟨v,σ',H',J,rv,q⟩:=hs;exact fin J rv q
 |next =>
  obtain⟨σ',H',J,q⟩:=hs;exact fin (v:=V.non) (u:=Value.none) J rfl q
 |brk =>
  obtain⟨_,_,_,q⟩:=hs;exact False.elim q
 |cont =>
  obtain⟨_,_,_,q⟩:=hs;exact False.elim q
section
variable {X:Cx}{x:Str}{p pos:Pos}{e:Expr}{es:List Expr}{t:TA}{id T:String}{r:List V->Hp->VK->Prop}
noncomputable def tCB(r:List V->Hp->VK->Prop)(t:TA):TE:=λσ H Q=>t σ H λvs H1=>r vs H1 Q
theorem zdm (hc:zb6 X (.builtin id) r) (hg:Gl X x) (hm:X.mg x=none) (hv:bootBuiltins x=some (.builtin id)) (ha:PA X (e::es) t) (hn:x ≠ "__name__":=by decide) (hdb:(x == ("__debug__" : Str))=false:=by decide)
  (he:starEach (e::es) X.env=(false,eval e X.env)::starEach es X.env:=by rfl) (hpl:(backTo pos (starEach es X.env)).any (·.1)=false:=by rfl):PE X (.Call (.Name x p) (e::es) [] pos) (tCB r t):=by
 intro pins s σ H Q I h;refine zf (zef I hg hm hv ?_ hn hdb);exact PyProof.Rows.callWith_builtin1 (thn (ha pos pins s σ H _ I h) λus s1 ⟨vs,H1,I1,r1,q1⟩=>hc pins s1 σ H1 vs us Q I1 r1 q1) he hpl
theorem zi9 (hc:zb6 X (.type T) r) (hg:Gl X x) (hm:X.mg x=none) (hv:bootBuiltins x=some (.type T)) (ha:PA X (e::es) t) (hn:x ≠ "__name__":=by decide) (hdb:(x == ("__debug__" : Str))=false:=by decide)
  (he:starEach (e::es) X.env=(false,eval e X.env)::starEach es X.env:=by rfl) (hpl:(backTo pos (starEach es X.env)).any (·.1)=false:=by rfl):PE X (.Call (.Name x p) (e::es) [] pos) (tCB r t):=by
 intro pins s σ H Q I h;refine zf (zef I hg hm hv ?_ hn hdb);exact kg (thn (ha pos pins s σ H _ I h) λus s1 ⟨vs,H1,I1,r1,q1⟩=>hc pins s1 σ H1 vs us Q I1 r1 q1) he hpl
end
end L2
namespace HT
open PySem PyProof.Rows
section
open PySem.SeqAt
open PySem.AutoSeq1 (wpAny_loadPart')
open PySem.MeetsSeq PySem.MeetsSeq2 PySem.MeetsSeq3
end
section
variable {prog:Program}{w:World}{A:Around}{E:Value->Shared->Prop}{s:Shared}
noncomputable def sIx(n d:Nat):Option Int->Nat
 |none=>d
 |some v=>if v<0 then (v+(n:Int)).toNat else min v.toNat n
theorem sIx_none(n d:Nat):sIx n d none=d:=rfl
theorem sIx_nat(n d k:Nat):sIx n d (some (k:Int))=min k n:=by
 show (if (k:Int)<0 then ((k:Int)+(n:Int)).toNat else min (k:Int).toNat n)=min k n;rw[wa (by omega),uh]
theorem z3b(n d:Nat)(hd:d<=n)(o:Option Int):sIx n d o<=n:=by
 cases o with
 |none=>exact hd
 |some v =>
  show (if v<0 then (v+(n:Int)).toNat else min v.toNat n)<=n;by_cases hv:v<0
  ·rw[la hv];omega
  ·rw[wa hv];exact Nat.min_le_right _ _
theorem zo7(v:Int)(n d:Nat):(if v<0 then max (v+(n:Int)) 0 else min v (n:Int))=((sIx n d (some v):Nat):Int):=by
 show (if v<0 then max (v+(n:Int)) 0 else min v (n:Int))=(((if v<0 then (v+(n:Int)).toNat else min v.toNat n):Nat):Int);by_cases hv:v<0
 ·simp only[la hv];omega
 ·simp only[wa hv];omega
theorem znv(lo hi:Option Int)(n:Nat):Builtin.Slice.sliceAdjust lo hi 1 (n:Int)=(((sIx n 0 lo:Nat):Int),((sIx n n hi:Nat):Int)):=by
 have h1:¬((1:Int)<0):=by omega
 unfold Builtin.Slice.sliceAdjust;simp only[h1,xh];refine Prod.ext ?_ ?_
 ·cases lo with
  |none=>rfl
  |some v=>exact zo7 v n 0
 ·cases hi with
  |none=>rfl
  |some v=>exact zo7 v n n
theorem znw(i j:Nat):Builtin.Slice.slicePlaces (i:Int) (j:Int) 1=j - i:=by
 unfold Builtin.Slice.slicePlaces;have h1:(1:Int) > 0:=by omega
 simp only[h1,wk,Int.ediv_one]
 split <;> omega
theorem zg8{v:Value}{o:Option Int}{Q:Option Int->Shared->Prop}(p:IsPart v o)(h:Q o s):wpAny (model prog w) A (Builtin.Slice.slicePartIndex v) Q E s:=by
 cases p with
 |none=>exact slicePart_none h
 |int i t=>exact slicePart_int h
theorem zc6{sl:Addr}{vl vu:Value}{lo hi:Option Int}{n:Nat}{Q:Int×Int×Nat->Shared->Prop}(hs:s.heap.IsSliceOf sl vl vu .none)(pl:IsPart vl lo)(pu:IsPart vu hi)
  (h:Q (((sIx n 0 lo:Nat):Int),1,sIx n n hi - sIx n 0 lo) s):wpAny (model prog w) A (Builtin.Slice.sliceApplied (.ref sl) (pure (n:Int))) Q E s:=by
 obtain⟨os,hos,hcs,hds⟩:=id hs;unfold Builtin.Slice.sliceApplied Builtin.Slice.sliceFields;refine aa (aa (bh hos hds (x:=vl) rfl (aa (bh hos hds (x:=vu) rfl (aa (bh hos hds (x:=.none) rfl (ia ?_)))))));refine aa (slicePart_none ?_);show wpAny _ _ (if ((1:Int) == 0)=true then _ else _) _ _ s;rw[wa (by decide)];refine aa (zg8 pl (aa (zg8 pu (aa (ia ?_)))));show wpAny _ _ (match Builtin.Slice.sliceAdjust lo hi 1 (n:Int) with|(lo,hi)=>pure (lo,(1:Int),Builtin.Slice.slicePlaces lo hi 1)) _ _ s;rw[znv lo hi n];show wpAny _ _ (pure (((sIx n 0 lo:Nat):Int),(1:Int),Builtin.Slice.slicePlaces ((sIx n 0 lo:Nat):Int) ((sIx n n hi:Nat):Int) 1)) _ _ s;rw[znw];exact ia h
theorem zs8(xs:Array Value)(i k:Nat):((List.range k).filterMap λ(m:Nat)=>xs[((i:Int)+(m:Int) * 1).toNat]?).toArray=((xs.toList.drop i).take k).toArray:=by
 have e:(λ(m:Nat)=>xs[((i:Int)+(m:Int) * 1).toNat]?)=λm=>xs[i+m]?:=by
  funext m
  have:((i:Int)+(m:Int) * 1).toNat=i+m:=by omega
  rw[this]
 rw[e]
 have:=pick_run xs i k
 rw[List.filterMap_map]at this;have e2:((λx=>xs[x]?) ∘ λx=>i+x)=λm=>xs[i+m]?:=rfl
 rw[e2]at this;rw[this]
theorem getItem_tuple_cut{t sl:Addr}{items:Array Value}{vl vu:Value}{lo hi:Option Int}{Q:Value->Shared->Prop}(ht:IsTup s.heap t items)(hs:s.heap.IsSliceOf sl vl vu .none)(pl:IsPart vl lo)(pu:IsPart vu hi)
  (hw:¬(sIx items.size 0 lo=0/\sIx items.size items.size hi=items.size))
  (h:Q (.ref s.heap.objs.size) { s with heap:=s.heap.push { cls:=.type "tuple",data:=.seq ((items.toList.drop (sIx items.size 0 lo)).take (sIx items.size items.size hi - sIx items.size 0 lo)).toArray } })
  (hsz:items.size<=sizeLine):wpAny (model prog w) A (getItem (.ref t) (.ref sl)) Q E s:=by
 have htake:sizeOk (.seq ((items.toList.drop (sIx items.size 0 lo)).take (sIx items.size items.size hi - sIx items.size 0 lo)).toArray):=by
  show ((items.toList.drop (sIx items.size 0 lo)).take (sIx items.size items.size hi - sIx items.size 0 lo)).toArray.size<=sizeLine;rw[oa,cf,pj,xf];omega
 have hj:sIx items.size items.size hi<=items.size:=z3b _ _ (va _) hi;obtain⟨os,hos,hcs,hds⟩:=id hs;have hTs:s.TypeIs (.ref sl) "slice":=⟨os,hos,hcs⟩
 unfold getItem
 try with_reducible refine wf ?_
 first|refine aa (ia ?_)|skip
 refine aa (wpAny_sequenceKey ht.typeIs (by decide) ?_)
 refine wpAny_bind (wpAny_callSpecial?_slot (name:=Str.ofString "__getitem__") ht.typeIs PyProof.Rows.slot_tuple_getitem
  (ii ze ht.typeIs entry_tuple_getitem ?_ (args_tuple_getitem _ _)))
 show wpAny _ _ (Builtin.Tuple.tupleItemsOf (.ref t) >>= _) _ _ s;refine aa (tupleItemsOf_ ht ?_);refine aa (am hTs ?_);rw[la (by decide)];refine aa (zc6 hs pl pu ?_)
 have hno:¬((((sIx items.size 0 lo:Nat):Int) == 0 && (1:Int) == 1 && (sIx items.size items.size hi - sIx items.size 0 lo) == items.size)=true):=by
  intro q;rw[ub,ub]at q;have q1:((sIx items.size 0 lo:Nat):Int)=0:=eq_of_beq q.1.1;have q2:sIx items.size items.size hi - sIx items.size 0 lo=items.size:=eq_of_beq q.2;exact hw ⟨by omega,by omega⟩
 show wpAny _ _ (if (((sIx items.size 0 lo:Nat):Int) == 0 && (1:Int) == 1 && (sIx items.size items.size hi - sIx items.size 0 lo) == items.size)=true then _ else _) _ _ s;rw[wa hno,zs8]
 first
  |exact aa (m:=Builtin.Tuple.tupleExact _) (gf (ia ⟨_,rfl,ia h⟩) htake)
  |exact aa (m:=Builtin.Tuple.tupleExact _) (gf (aa (ia (ia ⟨_,rfl,ia h⟩))) htake)
  |exact aa (aa (m:=Builtin.Tuple.tupleExact _) (gf (ia (ia ⟨_,rfl,ia h⟩)) htake))
  |exact aa (aa (m:=Builtin.Tuple.tupleExact _) (gf (ia ⟨_,rfl,ia h⟩) htake))
end
end HT
namespace L2
open PySem PySem.Spec PyProof.Rows
noncomputable abbrev TO:=St->Hp->(Option Int->Hp->Prop)->Prop
def PO(X:Cx)(e:Option Expr)(t:TO):Prop :=
 ∀(pins:List (Addr×Obj)) (s:Shared) (σ:St) (H:Hp) (Q:Option Int->Hp->Prop),Inv X pins σ H s->t σ H Q →
  wpAny (model X.prog X.w) X.A (evalPart e X.env) (λu s'=>∃o H',Inv X pins σ H' s'/\IsPart u o/\Q o H') X.xe s
noncomputable def zyk:TO:=λ_ H Q=>Q none H
section
variable {X:Cx}{e:Expr}{te:TE}{lo hi:Option Expr}{tl th:TO}{pos p2:Pos}
theorem zyl:PO X none zyk:=by
 intro pins s σ H Q I h;rw[evalPart_none];exact ia ⟨none,H,I,.none,h⟩
def SlR(X:Cx)(r:V->Option Int->Option Int->Hp->VK->Prop):Prop :=
 ∀(pins:List (Addr×Obj)) (s:Shared) (σ:St) (H:Hp) (x:V) (v vl vu:Value) (lo hi:Option Int) (sl:Addr) (Q:VK),Inv X pins σ H s->za7 x v->s.heap.IsSliceOf sl vl vu .none->IsPart vl lo->IsPart vu hi->r x lo hi H Q →
  ∃T id,typeLookup (.type T) "__getitem__" = pure (some (.builtin id))/\s.TypeIs v T/\wpAny (model X.prog X.w) X.A (getItem v (.ref sl)) (EP X pins σ Q) X.xe s
theorem SlR.or{r r':V->Option Int->Option Int->Hp->VK->Prop}(h:SlR X r)(h':SlR X r'):SlR X (λx lo hi H Q=>r x lo hi H Q\/r' x lo hi H Q):=by
 intro pins s σ H x v vl vu lo hi sl Q I rx hs pl pu q;rcases q with q|q
 ·exact h pins s σ H x v vl vu lo hi sl Q I rx hs pl pu q
 ·exact h' pins s σ H x v vl vu lo hi sl Q I rx hs pl pu q
noncomputable def tSl(r:V->Option Int->Option Int->Hp->VK->Prop)(te:TE)(tl th:TO):TE:=λσ H Q=>te σ H λx H1=>tl σ H1 λl H2=>th σ H2 λu H3=>r x l u H3 Q
theorem zs9{r:V->Option Int->Option Int->Hp->VK->Prop}(hr:SlR X r)(he:PE X e te)(hl:PO X lo tl)(hu:PO X hi th):PE X (.Subscript e (.Slice lo hi none p2) pos) (tSl r te tl th):=by
 intro pins s σ H Q I h;refine Subscript_ (thn (he pins s σ H _ I h) λv s1 ⟨x,H1,I1,r1,q1⟩=>?_);refine wpAny_Slice (thn (hl pins s1 σ H1 _ I1 q1) λvl s2 ⟨l,H2,I2,pl,q2⟩=>thn (hu pins s2 σ H2 _ I2 q2) λvu s3 ⟨u,H3,I3,pu,q3⟩=>?_);rw[evalPart_none];refine ia ?_;have I4:Inv X pins σ H3 { s3 with heap:=s3.heap.push { cls:=.type "slice",data:=.fields #[vl,vu,.none] } }:=I3.kept (t':=s3.toks) λb ob q=>ma _ q
 obtain⟨T,id,hT,ht,hg⟩:=hr pins { s3 with heap:=s3.heap.push { cls:=.type "slice",data:=.fields #[vl,vu,.none] } } σ H3 x v vl vu l u s3.heap.objs.size Q I4 r1 (Heap.IsSliceOf.new ..) pl pu q3;show wpAny (model X.prog X.w) X.A (subscriptTail e (.Slice lo hi none p2) v (.ref s3.heap.objs.size)) (EP X pins σ Q) X.xe { s3 with heap:=s3.heap.push { cls:=.type "slice",data:=.fields #[vl,vu,.none] } };exact tail_any (ops:=[.ref s3.heap.objs.size,v]) ht hT hg (by with_unfolding_all rfl)
noncomputable def zom(xs:List V)(lo hi:Option Int):List V:=(xs.drop (HT.sIx xs.length 0 lo)).take (HT.sIx xs.length xs.length hi - HT.sIx xs.length 0 lo)
theorem zft(xs:List V)(lo hi:Option Int):(zom xs lo hi).length<=xs.length:=by
 unfold zom;rw[cf,pj];omega
def ycu(K:PySem.W.Frag):V->Option Int->Option Int->Hp->VK->Prop:=λx lo hi H Q=>∃a xs,x=.ref a/\SqT K H a xs ∧
 ¬(HT.sIx xs.length 0 lo=0/\HT.sIx xs.length xs.length hi=xs.length)/\∀p,H p=none->Q (.ref p) (upd H p (.tup (zom xs lo hi)))
theorem z3c:SlR X (ycu X.K):=by
 intro pins s σ H x v vl vu lo hi sl Q I rx hs pl pu h;obtain⟨a,xs,rfl,hx,hw,q⟩:=h;cases rx;obtain⟨its,r,ht,hz⟩:=I.tuple hx;have hlen:its.toArray.size=xs.length:=by rw[oa];exact r.length.symm
 refine⟨"tuple",_,ze.lookup,ht.typeIs,?_⟩;refine HT.getItem_tuple_cut ht hs pl pu (by rw[hlen];exact hw) ?_ (by rw[hlen];exact hz);rw[hlen];refine⟨.ref s.heap.objs.size,_,I.laid (t':=s.toks) (o:=.tup (zom xs lo hi)) (λb ob q=>ma _ q) (va _) ?_,rfl,q _ (I.hok.fresh (va _))⟩;exact⟨ed (zft xs lo hi) hz,_,(r.drop (HT.sIx xs.length 0 lo)).take (HT.sIx xs.length xs.length hi - HT.sIx xs.length 0 lo),IsTup.new _ _⟩
end
noncomputable def ixN(n:Nat)(i:Int):Option Nat:=if 0<=i then (if i<n then some i.toNat else none) else if -(n:Int)<=i then some (i+n).toNat else none
noncomputable def atI{α:Type}(xs:List α)(i:Int):Option α:=(ixN xs.length i).bind λj=>xs[j]?
theorem zo8{n:Nat}{i:Int}{j:Nat}(h:ixN n i=some j):seqIndex? i n=some j/\j<n /\ -(n:Int)<=i/\i<n:=by
 unfold ixN at h;by_cases h0:0<=i
 ·rw[la h0]at h
  by_cases h1:i<n
  ·rw[la h1]at h
   have e:i.toNat=j:=kc h;exact⟨by rw[seqIndex_of h0 h1,e],by omega,by omega,h1⟩
  ·rw[wa h1]at h;cases h
 ·rw[wa h0]at h
  by_cases h1:-(n:Int)<=i
  ·rw[la h1]at h
   have e:(i+n).toNat=j:=kc h;exact⟨by rw[seqIndex_neg (by omega) h1,e],by omega,h1,by omega⟩
  ·rw[wa h1]at h;cases h
theorem zkz{α:Type}{xs:List α}{i:Int}{v:α}(h:atI xs i=some v):∃j,seqIndex? i xs.length=some j/\xs[j]?=some v/\j<xs.length /\ -(xs.length:Int)<=i/\i<xs.length:=by
 unfold atI at h
 cases e:ixN xs.length i with
 |none=>rw[e]at h;cases h
 |some j =>
  rw[e]at h;obtain⟨h1,h2,h3,h4⟩:=zo8 e;exact⟨j,h1,h,h2,h3,h4⟩
theorem zk0{α:Type}{xs:List α}{j:Nat}{v:α}(h:xs[j]?=some v):atI xs (j:Int)=some v:=by
 have hj:j<xs.length:=(qa.mp h).1
 have e:ixN xs.length (j:Int)=some j:=by
  unfold ixN;rw[la (by omega),la (by omega)];simp
 unfold atI;rw[e];exact h
def zo9(b:Expr):Prop:=∀o i,subscripted b false o i=operate [o,i] (getItem o i)
def IxR(X:Cx)(r:R2):Prop :=
 ∀(value slice:Expr) (pins:List (Addr×Obj)) (s:Shared) (σ:St) (H:Hp) (x y:V) (v u:Value) (Q:VK),Inv X pins σ H s->za7 x v->za7 y u->r x y H Q →
  subscripted slice false v u=operate [v,u] (getItem v u)->wpAny (model X.prog X.w) X.A (subscriptTail value slice v u) (EP X pins σ Q) X.xe s
def MtR(X:Cx)(id:String)(r:V->List V->Hp->VK->Prop):Prop :=
 ∀(pins:List (Addr×Obj)) (s:Shared) (σ:St) (H:Hp) (x:V) (xs:List V) (v:Value) (us:List Value) (Q:VK),Inv X pins σ H s->za7 x v->zbj xs us->r x xs H Q →
  wpAny (model X.prog X.w) X.A (call (.builtin id) (v::us)) (EP X pins σ Q) X.xe s
section
variable {X:Cx}{a b:Expr}{ta tb:TE}{pos:Pos}
theorem IxR.or{r r':R2}(h:IxR X r)(h':IxR X r'):IxR X (λx y H Q=>r x y H Q\/r' x y H Q):=by
 intro value slice pins s σ H x y v u Q I rx ry q hs;rcases q with q|q
 ·exact h value slice pins s σ H x y v u Q I rx ry q hs
 ·exact h' value slice pins s σ H x y v u Q I rx ry q hs
theorem z85{r:R2}(hr:IxR X r)(ha:PE X a ta)(hb:PE X b tb)(hs:zo9 b):PE X (.Subscript a b pos) (tOp r ta tb):=by
 intro pins s σ H Q I h;exact Subscript_ (z7v ha hb I h λv u s2 x y H2 I2 rx ry q=>hr a b pins s2 σ H2 x y v u Q I2 rx ry q (hs _ _))
noncomputable def ycv(K:PySem.W.Frag):R2:=λx y H Q=>∃p xs i v,x=.ref p/\y=.int i/\SqL K H p xs/\atI xs i=some v/\Q v H
noncomputable def ycw(K:PySem.W.Frag):R2:=λx y H Q=>∃p xs i v,x=.ref p/\y=.int i/\SqT K H p xs/\atI xs i=some v/\Q v H
noncomputable def ycx:R2:=λx y H Q=>∃z i c,x=.str z/\y=.int i/\z.length<=sizeLine/\atI z.cps.toList i=some c/\Q (.str ⟨#[c]⟩) H
theorem zym:IxR X (ycv X.K):=by
 intro value slice pins s σ H x y v u Q I rx ry h hs;obtain⟨p,xs,i,z,rfl,rfl,hq,he,q⟩:=h;cases rx;obtain⟨t,rfl⟩:=ry;obtain⟨its,r,pl,hz⟩:=I.list hq;obtain⟨j,h1,h2,h3,h4,h5⟩:=zkz he;obtain⟨w,ew,rw'⟩:=r.get h2;have hl:=r.length;have hn:=zfs;have fin:EP X pins σ Q w s:=⟨z,H,I,rw',q⟩
 by_cases h0:0<=i
 ·have hj:i.toNat=j:=by
   rw[seqIndex_of h0 h5]at h1;exact kc h1
  exact item_listR pl.isList h0 (by omega) (by rw[hj];simpa using ew) fin hs
 ·have hj:(i+(its.toArray.size:Int)).toNat=j:=by
   rw[seqIndex_neg (by omega) h4]at h1;rw[oa,<-hl];exact kc h1
  exact subscriptTail_builtinR (x:=w) pl.isList.typeIs slot_list_getitem.lookup
   (wpAny_getItem_list_neg (Q:=λr s'=>r=w/\EP X pins σ Q r s') pl.isList (by omega) (by rw[oa] <;> omega) (by omega) (by rw[hj];simpa using ew) ⟨rfl,fin⟩) hs
theorem z3d:IxR X (ycw X.K):=by
 intro value slice pins s σ H x y v u Q I rx ry h hs;obtain⟨p,xs,i,z,rfl,rfl,hq,he,q⟩:=h;cases rx;obtain⟨t,rfl⟩:=ry;obtain⟨its,r,pl,hz⟩:=I.tuple hq;obtain⟨j,h1,h2,h3,h4,h5⟩:=zkz he;obtain⟨w,ew,rw'⟩:=r.get h2;have hl:=r.length;have hn:=zfs;have fin:EP X pins σ Q w s:=⟨z,H,I,rw',q⟩
 exact subscriptTail_builtinR (x:=w) pl.typeIs slot_tuple_getitem.lookup
  (getItem_tuple (j:=j) (Q:=λr s'=>r=w/\EP X pins σ Q r s') pl (by omega) (by omega) (by rw[oa,<-hl];exact h1) (by simpa using ew) ⟨rfl,fin⟩) hs
theorem z3e:IxR X ycx:=by
 intro value slice pins s σ H x y v u Q I rx ry h hs;obtain⟨z,i,c,rfl,rfl,hz,he,q⟩:=h;obtain⟨t,rfl⟩:=rx;obtain⟨t',rfl⟩:=ry;obtain⟨j,h1,h2,h3,h4,h5⟩:=zkz he;have hl:z.cps.toList.length=z.length:=by simp[Str.length]
 rw[hl]at h1 h4 h5;have hn:=zfs
 exact tail_any (typeIs_str s z t) slot_str_getitem.lookup (getItem_str (c:=c) (by
  have e1:decide (i < -(2 ^ 63:Int))=false:=jc (by omega);have e2:decide (i ≥ 2 ^ 63)=false:=jc (by omega);rw[e1,e2,Bool.or_false]) (by rw[h1];simpa using h2) ⟨.str ⟨#[c]⟩,H,I.tok _,⟨_,rfl⟩,q⟩) hs
theorem znx(its:List Value)(n j:Nat)(u:Value):Obj.mapSeq (·.setIfInBounds j u) { cls:=.type "list",data:=.seq its.toArray n }={ cls:=.type "list",data:=.seq (its.set j u).toArray n }:=by
 simp[Obj.mapSeq]
theorem Inv.lst{pins:List (Addr×Obj)}{σ:St}{H:Hp}{s:Shared}{p:Addr}{xs:List V}(I:Inv X pins σ H s)(h:H p=some (.lst xs)) :
  ∃(its:List Value) (n:Nat),zbj xs its/\s.heap.get? p=some { cls:=.type "list",data:=.seq its.toArray n }/\xs.length<=sizeLine:=by
 obtain⟨z,its,n,r,e⟩:=I.hok p _ h;exact⟨its,n,r,e,z⟩
theorem Inv.lstUpd{pins:List (Addr×Obj)}{σ:St}{H:Hp}{s:Shared}{p:Addr}{xs ys:List V}{its its':List Value}{n n':Nat}{f:Obj->Obj}(I:Inv X pins σ H s)(h:H p=some (.lst xs))
  (ho:s.heap.get? p=some { cls:=.type "list",data:=.seq its.toArray n }) (hf:f { cls:=.type "list",data:=.seq its.toArray n }={ cls:=.type "list",data:=.seq its'.toArray n' }) (r:zbj ys its') (hz:ys.length<=sizeLine) (t:Nat) :
  Inv X pins σ (upd H p (.lst ys)) { s with heap:=s.heap.update p f,toks:=t }:=by
 have e:(s.heap.update p f).get? p=some { cls:=.type "list",data:=.seq its'.toArray n' }:=by
  rw[md f ho (by rw[hf] <;> rfl),hf]
 refine I.write (x:=p) (e:=p) (by rw[h];trivial) (.inl rfl) (λb u hb q=>(xb _ _ (rf hb)).trans q) ⟨_,e⟩ ?_;exact⟨hz,its',n',r,e⟩
def z86:V->V->V->Hp->(Hp->Prop)->Prop:=λo i v H Q=>∃p xs k j,o=.ref p/\i=.int k/\H p=some (.lst xs)/\ixN xs.length k=some j/\Q (upd H p (.lst (xs.set j v)))
theorem zta:ybv X z86:=by
 intro pins s σ H o i v ov iv u Q I ro ri rv h;obtain⟨p,xs,k,j,rfl,rfl,hp,hj,q⟩:=h;cases ro;obtain⟨t,rfl⟩:=ri;obtain⟨its,n,r,ho,hz⟩:=I.lst hp;obtain⟨h1,h2,h3,h4⟩:=zo8 hj;have hl:=r.length;have hn:=zfs
 have I':Inv X pins σ (upd H p (.lst (xs.set j v))) { s with heap:=s.heap.update p (Obj.mapSeq (·.setIfInBounds j u)) } :=
  I.lstUpd hp ho (znx its n j u) (r.set rv j) (by rw[List.length_set];exact hz) s.toks
 by_cases h0:0<=k
 ·have hk:k.toNat=j:=by
   rw[seqIndex_of h0 h4]at h1;exact kc h1
  exact PySem.W.ki_setAt ho h0 (by omega) (by rw[oa,<-hl];exact h4) (by rw[hk];exact⟨_,I',q⟩)
 ·have hk:(k+(its.toArray.size:Int)).toNat=j:=by
   rw[seqIndex_neg (by omega) h3]at h1;rw[oa,<-hl];exact kc h1
  exact PySem.W.ki_setBack ho (by omega) (by rw[oa,<-hl];exact h3) (by omega) (by rw[hk];exact⟨_,I',q⟩)
theorem zja(lo hi:Option Int)(n:Nat):(sliceBounds lo hi none n).1=((HT.sIx n 0 lo:Nat):Int)/\(sliceBounds lo hi none n).2.1=((HT.sIx n n hi:Nat):Int)/\(sliceBounds lo hi none n).2.2=1:=by
 refine⟨?_,?_,rfl⟩
 ·cases lo with
  |none=>simp[sliceBounds,HT.sIx]
  |some i =>
   simp only[sliceBounds,HT.sIx,Option.getD_none,show (1:Int) > 0 by decide,wk];by_cases h:i<0
   ·simp only[h,wk] <;> omega
   ·simp only[h,xh] <;> omega
 ·cases hi with
  |none=>simp[sliceBounds,HT.sIx]
  |some i =>
   simp only[sliceBounds,HT.sIx,Option.getD_none,show (1:Int) > 0 by decide,wk];by_cases h:i<0
   ·simp only[h,wk] <;> omega
   ·simp only[h,xh] <;> omega
theorem zhz(its:List Value)(lo hi:Option Int):slicePick its.toArray lo hi none=((its.drop (HT.sIx its.length 0 lo)).take (HT.sIx its.length its.length hi - HT.sIx its.length 0 lo)).toArray:=by
 obtain⟨h1,h2,h3⟩:=zja lo hi its.toArray.size;unfold slicePick;rw[h1,h2,h3];simp only[sliceRange_one,pick_run,oa] <;> rfl
def ycy(K:PySem.W.Frag):V->Option Int->Option Int->Hp->VK->Prop:=λx lo hi H Q=>∃a xs,x=.ref a/\SqL K H a xs/\∀p,H p=none->Q (.ref p) (upd H p (.lst (zom xs lo hi)))
theorem zyn:SlR X (ycy X.K):=by
 intro pins s σ H x v vl vu lo hi sl Q I rx hs pl pu h;obtain⟨a,xs,rfl,hx,q⟩:=h;cases rx;obtain⟨its,r,ht,hz⟩:=I.list hx;have hlen:=r.length;refine⟨"list",_,slot_list_getitem.lookup,ht.isList.typeIs,?_⟩;refine wpAny_getItem_list_slice ht.isList hs pl pu .none (by simp) ?_ (by rw[oa] <;> omega);rw[zhz,<-hlen];refine⟨.ref s.heap.objs.size,_,I.laid (t':=s.toks) (o:=.lst (zom xs lo hi)) (λb ob q=>ma _ q) (va _) ?_,rfl,q _ (I.hok.fresh (va _))⟩;exact⟨ed (zft xs lo hi) hz,_,0,(r.drop (HT.sIx xs.length 0 lo)).take (HT.sIx xs.length xs.length hi - HT.sIx xs.length 0 lo),gb _ rfl⟩
noncomputable def zci:V->Bool
 |.non=>true
 |.bl _=>true
 |.int _=>true
 |.str _=>true
 |_=>false
noncomputable def eqV:V->V->Bool
 |.non,.non=>true
 |.bl a,.bl b=>a == b
 |.bl a,.int b=>(if a then 1 else 0) == b
 |.int a,.bl b=>a == (if b then 1 else 0)
 |.int a,.int b=>a == b
 |.str a,.str b=>a == b
 |_,_=>false
theorem zv9{A:Around}{s:Shared}{y x:V}{u v:Value}(ry:za7 y u)(rx:za7 x v)(fy:zci y=true)(fx:zci x=true):SeqAt.EqAt A s u v (eqV y x):=by
 cases y with
 |non =>
  cases ry
  cases x with
  |non=>cases rx;exact jp _
  |bl b=>cases rx;exact SeqAt.EqAt.none_bool b
  |int b=>obtain⟨t,rfl⟩:=rx;exact SeqAt.EqAt.none_int b t
  |str b=>obtain⟨t,rfl⟩:=rx;exact SeqAt.EqAt.none_str b t
  |_=>exact absurd (show false=true from fx) ua
 |bl a =>
  cases ry
  cases x with
  |non=>cases rx;exact SeqAt.EqAt.bool_none a
  |bl b=>cases rx;exact SeqAt.EqAt.bool_bool a b
  |int b=>obtain⟨t,rfl⟩:=rx;exact SeqAt.EqAt.bool_int a b t
  |str b=>obtain⟨t,rfl⟩:=rx;exact SeqAt.EqAt.bool_str a b t
  |_=>exact absurd (show false=true from fx) ua
 |int a =>
  obtain⟨t',rfl⟩:=ry
  cases x with
  |non=>cases rx;exact SeqAt.EqAt.int_none a t'
  |bl b=>cases rx;exact SeqAt.EqAt.int_bool a t' b
  |int b=>obtain⟨t,rfl⟩:=rx;exact SeqAt.EqAt.int_int a t' b t
  |str b=>obtain⟨t,rfl⟩:=rx;exact SeqAt.EqAt.int_str a t' b t
  |_=>exact absurd (show false=true from fx) ua
 |str a =>
  obtain⟨t',rfl⟩:=ry
  cases x with
  |non=>cases rx;exact SeqAt.EqAt.str_none a t'
  |bl b=>cases rx;exact SeqAt.EqAt.str_bool a t' b
  |int b=>obtain⟨t,rfl⟩:=rx;exact SeqAt.EqAt.str_int a t' b t
  |str b=>obtain⟨t,rfl⟩:=rx;exact SeqAt.EqAt.str_str a t' b t
  |_=>exact absurd (show false=true from fx) ua
 |_=>exact absurd (show false=true from fy) ua
theorem zjb:zb6 X (.builtin "len") (λxs H Q=>∃p ys,xs=[.ref p]/\(SqL X.K H p ys\/SqT X.K H p ys)/\Q (.int ys.length) H):=by
 intro pins s σ H xs us Q I r h;obtain⟨p,ys,rfl,hq,q⟩:=h;obtain⟨u,rfl,rx⟩:=zeg r;cases rx;have hn:=zfs;rcases hq with hq|hq
 ·obtain⟨its,r',pl,hz⟩:=I.list hq
  have hlen:=r'.length;exact Calls.call_len_list pl.isList (by simp only[oa] <;> omega) ⟨.int ys.length,H,I.tok _,⟨s.toks+1,by rw[oa,hlen]⟩,q⟩
 ·obtain⟨its,r',pl,hz⟩:=I.tuple hq
  have hlen:=r'.length;exact len_tuple pl (by simp only[oa] <;> omega) ⟨.int ys.length,H,I.tok _,⟨s.toks+1,by rw[oa,hlen]⟩,q⟩
theorem zjc:zb6 X (.builtin "len") (λxs H Q=>∃z,xs=[.str z]/\z.length<=sizeLine/\Q (.int z.length) H):=by
 intro pins s σ H xs us Q I r h;obtain⟨z,rfl,hz,q⟩:=h;obtain⟨u,rfl,t,rfl⟩:=zeg r;have hn:=zfs;exact len_str (by omega) ⟨.int z.length,H,I.tok _,⟨_,rfl⟩,q⟩
theorem zb6.or{f:Value}{r r':List V->Hp->VK->Prop}(h:zb6 X f r)(h':zb6 X f r'):zb6 X f (λxs H Q=>r xs H Q\/r' xs H Q):=by
 intro pins s σ H xs us Q I rs q;rcases q with q|q
 ·exact h pins s σ H xs us Q I rs q
 ·exact h' pins s σ H xs us Q I rs q
theorem zjd:zb6 X (.type "list") (λxs H Q=>∃p ys,xs=[.ref p]/\(SqL X.K H p ys\/SqT X.K H p ys)/\∀l,H l=none->Q (.ref l) (upd H l (.lst ys))):=by
 intro pins s σ H xs us Q I r h;obtain⟨p,ys,rfl,hq,q⟩:=h;obtain⟨u,rfl,rx⟩:=zeg r;cases rx
 have fin:∀(its:List Value),zbj ys its->ys.length<=sizeLine->∀(h':Heap) (c':Nat),(∀b o',s.heap.get? b=some o'->h'.get? b=some o') →
   h'.get? s.heap.objs.size=some { cls:=.type "list",dict:=none,data:=.seq its.toArray c',slots:=#[] }->EP X pins σ Q (.ref s.heap.objs.size) { s with heap:=h' }:=λits r' hz h' c' kp e =>
  ⟨.ref s.heap.objs.size,_,I.laid (t':=s.toks) kp (va _) (show za8 X.prog X.w _ h' _ (.lst ys) from⟨hz,its,c',r',e⟩),rfl,q _ (I.hok.fresh (va _))⟩
 rcases hq with hq|hq
 ·obtain⟨its,r',pl,hz⟩:=I.list hq
  have hlen:=r'.length;obtain⟨o,ho,hc,n,hd⟩:=pl.isList;exact call_list_seq p (.inl rfl) ho hc hd (λh' c' kp e=>fin its r' hz h' c' kp e) (by simp only[oa] <;> omega)
 ·obtain⟨its,r',pl,hz⟩:=I.tuple hq
  have hlen:=r'.length;obtain⟨o,ho,hc,n,hd⟩:=pl;exact call_list_seq p (.inr rfl) ho hc hd (λh' c' kp e=>fin its r' hz h' c' kp e) (by simp only[oa] <;> omega)
theorem zeh:zb6 X (.type "tuple") (λxs H Q=>∃p ys,xs=[.ref p]/\((SqL X.K H p ys/\∀l,H l=none->Q (.ref l) (upd H l (.tup ys)))\/(SqT X.K H p ys/\Q (.ref p) H))):=by
 intro pins s σ H xs us Q I r h;obtain⟨p,ys,rfl,h⟩:=h;obtain⟨u,rfl,rx⟩:=zeg r;cases rx;rcases h with⟨hq,q⟩|⟨hq,q⟩
 ·obtain⟨its,r',pl,hz⟩:=I.list hq
  have hlen:=r'.length;refine call_tuple_list pl.isList (λh' kp=>?_) (by simp only[oa] <;> omega);have I1:Inv X pins σ H { s with heap:=h' }:=I.kept (t':=s.toks) kp
  have I2:Inv X pins σ (upd H h'.objs.size (.tup ys)) { s with heap:=h'.push { cls:=.type "tuple",data:=.seq its.toArray } } :=
   I1.laid (t':=s.toks) (λb o e=>ma _ e) (va _) (show za8 X.prog X.w _ _ _ (.tup ys) from⟨hz,its,r',IsTup.new _ _⟩)
  exact⟨.ref h'.objs.size,_,I2,rfl,q _ (I1.hok.fresh (va _))⟩
 ·obtain⟨its,r',pl,hz⟩:=I.tuple hq
  exact call_tuple_same pl ⟨.ref p,H,I,rfl,q⟩
def tyV(K:PySem.W.Frag)(T:String)(x:V)(H:Hp):Prop:=match x with
 |.str _=>T = "str"
 |.int _=>T = "int"
 |.ref p=>(T = "list" /\ ∃xs,SqL K H p xs)\/(T = "tuple" /\ ∃o,K.lookup p=some o/\o.cls=.type "tuple" /\ o.dict=none) ∨
   (T = "dict" /\ ((∃kvs,H p=some (.dK kvs))\/∃kvs,H p=some (.dT kvs)))\/(T = "set" /\ ∃S n,H p=some (.set S n))
 |_=>False
theorem zwa{pins:List (Addr×Obj)}{σ:St}{H:Hp}{s:Shared}{T:String}{x:V}{v:Value}(I:Inv X pins σ H s)(r:za7 x v)(ty:tyV X.K T x H) :
  s.TypeIs v T/\∀a,v=.ref a->∃ob,s.heap.get? a=some ob/\ob.dict=none:=by
 cases x with
 |str z =>
  obtain⟨t,rfl⟩:=r
  cases (show T = "str" from ty)
  exact⟨js s z t,λ_ e=>nomatch e⟩
 |int i =>
  obtain⟨t,rfl⟩:=r
  cases (show T = "int" from ty)
  exact⟨typeIs_int s i t,λ_ e=>nomatch e⟩
 |ref p =>
  cases r;rcases ty with⟨rfl,xs,hq⟩|⟨rfl,o,hk,hc,hd⟩|⟨rfl,hk⟩|⟨rfl,S,n,hk⟩
  ·obtain⟨its,_,pl,_⟩:=I.list hq
   refine⟨pl.isList.typeIs,λa e=>?_⟩;cases e;obtain⟨o,n,e,c,hd,_⟩:=pl;exact⟨o,e,hd⟩
  ·refine⟨⟨o,I.kIn p o hk,hc⟩,λa e=>?_⟩
   cases e;exact⟨o,I.kIn _ o hk,hd⟩
  ·have z:∃o,s.heap.get? p=some o/\o.ExactDict:=by
    rcases hk with⟨kvs,hk⟩|⟨kvs,hk⟩
    ·obtain⟨_,_,_,_,o,_,_,e,ex,_⟩:=I.hok p _ hk
     exact⟨o,e,ex⟩
    ·obtain⟨_,_,_,_,o,_,_,e,ex,_⟩:=I.hok p _ hk
     exact⟨o,e,ex⟩
   obtain⟨o,e,ex⟩:=z;refine⟨⟨o,e,ex.1⟩,λa e2=>?_⟩;cases e2;exact⟨o,e,ex.2.1⟩
  ·obtain⟨o,_,_,_,e,ex,_⟩:=I.hok p _ hk
   refine⟨⟨o,e,ex.1⟩,λa e2=>?_⟩;cases e2;exact⟨o,e,ex.2.1⟩
 |_=>exact False.elim ty
noncomputable def ycz(K:PySem.W.Frag)(T:String)(r:V->List V->Hp->VK->Prop)(to:TE):TE:=λσ H Q=>to σ H λx H1=>tyV K T x H1/\r x [] H1 Q
noncomputable def tBM(K:PySem.W.Frag)(T:String)(r:V->List V->Hp->VK->Prop)(to:TE)(t:TA):TE:=λσ H Q=>to σ H λx H1=>tyV K T x H1/\t σ H1 λxs H2=>r x xs H2 Q
variable {o e:Expr}{es:List Expr}{to:TE}{t:TA}{name:Str}{apos cpos:Pos}{T id:String}{r:V->List V->Hp->VK->Prop}
theorem z3f (pa:PlainAttrs T) (slot:Slot T name id) (hty:typeOf (.builtin id)=pure (.type "method_descriptor")) (hm:MtR X id r) (ho:PE X o to)
  (hbase:attributeBase o name X.env (eval o X.env)=eval o X.env:=by rfl) (hline:(apos.endLine == cpos.line)=true:=by rfl):PE X (.Call (.Attribute o name apos) [] [] cpos) (ycz X.K T r to):=by
 intro pins s σ H Q I h;refine wpAny_Call_method0_late hbase hline (thn (ho pins s σ H _ I h) λv s1 ⟨x,H1,I1,r1,ty,q1⟩=>?_);obtain⟨h1,h2⟩:=zwa I1 r1 ty;exact⟨T,id,pa,slot,hty,h1,h2,ki rfl (PySem.evalArgs_none (hm pins s1 σ H1 x [] v [] Q I1 r1 .nil q1))⟩
theorem ztb (pa:PlainAttrs T) (slot:Slot T name id) (hty:typeOf (.builtin id)=pure (.type "method_descriptor")) (hm:MtR X id r) (ho:PE X o to) (ha:PA X (e::es) t)
  (hbase:attributeBase o name X.env (eval o X.env)=eval o X.env:=by rfl)
  (hfew:((backTo cpos (starEach (e::es) X.env)).all (λ x=>!x.1) && (backToKw cpos (keywordEach [] X.env)).all (λ x=>x.1.isSome)
   && decide ((e::es).length+([]:List Keyword).length+(if ([]:List Keyword).isEmpty then 0 else 1)<30))=true:=by rfl)
  (hline:(apos.endLine == cpos.line)=true:=by rfl) (hs:starEach (e::es) X.env=(false,eval e X.env)::starEach es X.env:=by rfl) (hplain:(backTo cpos (starEach es X.env)).any (·.1)=false:=by rfl) :
  PE X (.Call (.Attribute o name apos) (e::es) [] cpos) (tBM X.K T r to t):=by
 intro pins s σ H Q I h;refine wpAny_Call_method_late hbase hfew hline rfl (thn (ho pins s σ H _ I h) λv s1 ⟨x,H1,I1,r1,ty,q1⟩=>?_);obtain⟨h1,h2⟩:=zwa I1 r1 ty;refine⟨T,id,pa,slot,hty,h1,h2,?_⟩;have hA:=ha cpos pins s1 σ H1 _ I1 q1;rw[hs]at hA ⊢;refine ki (by show (false || (backTo cpos (starEach es X.env)).any (·.1))=false;rw[hplain] <;> rfl) (zk ?_);exact thn hA λus s2 ⟨vs,H2,I2,r2,q2⟩=>hm pins s2 σ H2 x vs v us Q I2 r1 r2 q2
end
def MtM(X:Cx)(id:String)(r:V->List V->Hp->VK->Prop):Prop :=
 ∀(pins:List (Addr×Obj)) (s:Shared) (σ:St) (H:Hp) (x:V) (xs:List V) (v:Value) (us:List Value) (Q:VK),Inv X pins σ H s->za7 x v->zbj xs us->r x xs H Q →
  wpAny (model X.prog X.w) X.A (call (.builtin id) (v::us)) (EP X pins σ Q) X.xe s
theorem zbj.one:∀{x:V}{us:List Value},zbj [x] us->∃u,us=[u]/\za7 x u
 |_,_,.cons r .nil=>⟨_,rfl,r⟩
section
variable {X:Cx}{pins:List (Addr×Obj)}{σ:St}{H:Hp}{s:Shared}{l b:Addr}{xs ys zs:List V}
theorem Inv.lset{its its':List Value}{n:Nat}{f:Array Value->Array Value}{t':Nat}(I:Inv X pins σ H s)(hH:H l=some (.lst xs))
  (e:s.heap.get? l=some { cls:=.type "list",data:=.seq its.toArray n }) (hf:f its.toArray=its'.toArray) (hv:zbj ys its') (hz:ys.length<=sizeLine) :
  Inv X pins σ (upd H l (.lst ys)) { s with heap:=s.heap.update l (Obj.mapSeq f),toks:=t' }:=by
 have q:=PySem.IsL.update e f;rw[hf]at q;refine I.write (x:=l) (e:=l) (by rw[hH];exact trivial) (.inl rfl) (λb' u hb hu=>(xb s.heap (Obj.mapSeq f) (rf hb)).trans hu) ⟨_,q⟩ ?_;exact⟨hz,its',_,hv,q⟩
theorem Inv.lnew{its:List Value}{t':Nat}(I:Inv X pins σ H s)(hv:zbj ys its)(hz:ys.length<=sizeLine) :
  Inv X pins σ (upd H s.heap.objs.size (.lst ys)) { s with heap:=s.heap.push { cls:=.type "list",data:=.seq its.toArray },toks:=t' } :=
 I.laid (λ_ _ q=>ma _ q) (va _) ⟨hz,its,0,hv,gb _ rfl⟩
theorem Inv.fresh(I:Inv X pins σ H s):H s.heap.objs.size=none:=I.hok.fresh (va _)
theorem Inv.lstM(I:Inv X pins σ H s)(hH:H l=some (.lst xs)):xs.length<=sizeLine/\∃(its:List Value) (n:Nat),zbj xs its/\xs.length=its.length/\s.heap.get? l=some { cls:=.type "list",data:=.seq its.toArray n }:=by
 obtain⟨z,its,n,r,e⟩:=I.hok l _ hH;exact⟨z,its,n,r,r.length,e⟩
end
section
variable {X:Cx}
def zpa:V->List V->Hp->VK->Prop:=λx vs H Q=>∃l xs y,x=.ref l/\vs=[y]/\H l=some (.lst xs)/\xs.length<sizeLine/\Q .non (upd H l (.lst (xs++[y])))
theorem zpb:MtM X "list.append" zpa:=by
 intro pins s σ H x vs v us Q I rx rv h;obtain⟨l,xs,y,rfl,rfl,hH,hz,q⟩:=h;cases rx;obtain⟨u,rfl,ru⟩:=rv.one;obtain⟨z,its,n,r,hl,e⟩:=I.lstM hH;refine qk F.slot_list_append ⟨_,e,rfl⟩ F.entry_list_append (F.args_list_append_2 _ _) (PySem.list_append l its.toArray n u (by rw[oa];omega)) ⟨e,?_⟩;refine⟨.non,_,I.lset (its':=its++[u]) hH e (by simp) (r.append (.cons ru .nil)) ?_,rfl,q⟩;rw[zc,ig];omega
end
end L2
namespace Att
open PySem PySem.W PySem.Calls PyProof.Rows
theorem zfu{P:Params}{h:Heap}:∀(ns:List Int) (vs:List Value),WellAll P h vs (ns.map WData.int)->IntsAre vs ns:=by
 intro ns
 induction ns with
 |nil =>
  intro vs w;rw[qe]at w;cases w;exact .nil
 |cons n ns ih =>
  intro vs w;rw[da]at w
  cases w with
  |cons a b =>
   cases a;exact .cons _ _ (ih _ b)
theorem zpc{l:OpenLaw}{n:Nat}(hn:l.most=some n){P:Params}{h:Heap}{args:List WData}{vals:List Value}
  (hpre:l.row.toRowW.claim.pre args=true) (hwl:WellAll P h vals args) :
  ∃a vs ns,vals=[Value.ref a]/\args=[WData.list (ns.map WData.int)]/\h.get? a=some { cls:=.type "list",data:=.seq vs.toArray }/\IntsAre vs ns/\ns.length<=n:=by
 have hsh:WShape.hasAll [] args [.list .int]=true:=(pre_splitW hpre).1;have hc:l.pre.holds [] { args:=args }=true:=(pre_splitW hpre).2;obtain⟨d,r,rfl,h1,h2⟩:=hasAllW_cons hsh;obtain rfl:=hasAllW_nil h2;obtain⟨xs,rfl,h3⟩:=hasW_list h1;obtain⟨ns,rfl⟩:=items_int h3
 have hlen:ns.length<=n:=by
  unfold OpenLaw.pre at hc
  have h4:(WTm.not (.lt (.lit (.int (n:Int))) (.len (.arg 0)))).holds [] { args:=[.list (ns.map .int)] }=true:=by
   have h4:=(holds_andW hc).1;rw[hn]at h4;exact h4
  have h5:=condW_of h4 (w_not (w_lt w_lit (w_len_list (w_arg rfl))));rw[ba]at h5;refine Nat.le_of_not_lt λq=>?_
  have q':(n:Int)<((ns.length:Nat):Int):=by omega
  first
   |(rw[ib q']at h5;exact absurd h5 (by decide))
   |(simp at h5;omega)
 cases hwl with
 |cons w1 w2 =>
  cases w2
  cases w1 with
  |list ho hall=>exact⟨_,_,ns,rfl,rfl,ho,zfu ns _ hall,hlen⟩
theorem zpd(l:OpenLaw)(args:List WData):l.row.toRowW.claim.post args (.bool true) args=true :=
 postW_of (r:=l.row.toRowW) (X:=(true == true))
  (show WShape.has [] (.bool true) .bool=true by first|rfl|decide|simp[WShape.has,WShape.arms,WShape.armsAll])
  (show (WTm.eq .res (.lit (.bool true))).value [] { args:=args,res:=some (.bool true),after:=args }=some (.bool (true == true)) from w_eq_bool (w_res rfl) w_lit) rfl
theorem attach_call{l:OpenLaw}{n:Nat}{q:Program}{loose:List Str}{XP:(Str->Option Value)->Heap->Prop}{YP:World->Heap->Prop}{d:DefRec}
  (hn:l.most=some n) (hdf:d.params.defaults=[])
  (call:∀ (w:World) (s₀ s₁:Shared) (mg mb:Str->Option Value) (fa:Addr) (o:Obj) (pm cd doc:Value) (a:Addr) (vs:List Value) (ns:List Int),
   Ground q loose [] XP w s₀ mg mb s₁.heap->YP w s₁.heap →
   s₁.heap.get? fa=some o->o.data=.func (docDef d.name d.params d.body d.scope pm cd doc)->s₁.heap.CodeRec cd d.name->mg d.name=some (.ref fa) →
   s₁.heap.get? a=some { cls:=.type "list",data:=.seq vs.toArray }->IntsAre vs ns->ns.length<=n->s₁.gens=#[] →
   codeAny (model l.prog w) callerA (.call (.ref fa) ⟨[.ref a],[]⟩) (λr s'=>r=.ok (.ret (.bool true))/\OldK s₁.heap s'.heap/\s'.os=s₁.os/\AllBare s'.gens) s₁) :
  WalkO q loose XP YP l.row.toRowW d [] (λf vs=>PySem.call f vs):=by
 intro w s₀ s₁ mg mb G Y fa o pm cd doc dV kV ho hd hcd hD hmg hg args vals as hpre hlay hrd hwl hlo;obtain rfl:dV=.none:=Dflts.none hD hdf;obtain rfl:kV=.none:=Dflts.noKw hD;obtain⟨a,vs,ns,rfl,rfl,hobj,hints,hlen⟩:=zpc hn hpre hwl;refine enter_call (gk (call w s₀ s₁ mg mb fa o pm cd doc a vs ns G Y ho (fd_plain hd) hcd hmg hobj hints hlen hg) λr s' hq=>?_);obtain⟨rfl,h2,h3,h4⟩:=hq;exact⟨.inl ⟨.bool true,.bool true,[],rfl,λ_=>rfl,.bool true,zpd l _,λ_=>⟨tm,λ_ hm=>(nomatch hm)⟩⟩,h2,h3,h4⟩
end Att
namespace L2
open PySem PySem.Spec PyProof.Rows
theorem zfv:∀{vs:List Value}{ns:List Int},IntsAre vs ns->zbj (ns.map V.int) vs
 |_,_,.nil=>.nil
 |_,_,.cons n t h=>.cons ⟨t,rfl⟩ (zfv h)
def z87(H:Hp):Prop:=∀b,H b=none\/∃o xs,H b=some (.frz o (.lst xs))
theorem ztc{P:Program}{w:World}{K:PySem.W.Frag}{mg mb:Str->Option Value}{CX:CXT}{k:Nat}{fa a:Addr}{fd:FuncData}{x:Str}{sp:Sp}{s₁:Shared}{vs:List Value}{ns:List Int}
  (KX:K.In s₁.heap) (hns:s₁.heap.Ns mainGlobals mg) (hb:s₁.heap.Ns builtinsNs mb) (hbb:∀x:Str,x ≠ "__name__" -> mb x=bootBuiltins x) (hlim:s₁.heap.NoLimit) (hg:s₁.gens=#[])
  (ha:s₁.heap.get? a=some { cls:=.type "list",data:=.seq vs.toArray }) (hi:IntsAre vs ns) (hl:ns.length<=sizeLine) (hr:Room k callerA)
  (F:∀base:Heap,K.In base->base.Ns mainGlobals mg->FnOk P w K mg base CX k fa fd [x] sp) (hbind:∀(s:Shared) (u:Value),BindsTo s fd ⟨[u],[]⟩ [(x,u)])
  (hsp:∀H:Hp,z87 H->SqL K H a (ns.map V.int)->sp [.ref a] H (λv _=>v=.bl true) λ_ _ _=>False)
  (hCX:∀H e s',CX [] H s₁ (λ_ _ _=>False) e s'->False) :
  codeAny (model P w) callerA (.call (.ref fa) ⟨[.ref a],[]⟩) (λr s'=>r=.ok (.ret (.bool true))/\OldK s₁.heap s'.heap/\s'.os=s₁.os/\AllBare s'.gens) s₁:=by
 have rv:=zfv hi;have lenV:=hi.length
 have core:∀H:Hp,z87 H->SqL K H a (ns.map V.int)->HOk P w H s₁.heap->(∀b,H b≠none->b=a)->(H a≠none->K.lookup a=none) →
   codeAny (model P w) callerA (.call (.ref fa) ⟨[.ref a],[]⟩) (λr s'=>r=.ok (.ret (.bool true))/\OldK s₁.heap s'.heap/\s'.os=s₁.os/\AllBare s'.gens) s₁:=by
  intro H hO hS hok hA hK;have base_of:∀{b:Addr} {o:Obj},s₁.heap.get? b=some o->H b=none->(zs1 s₁.heap H).get? b=some o:=λe n=>zs2 e n
  have noA:∀{b:Addr} {o:Obj} {es:Array DictEntry} {ep:Nat},s₁.heap.get? b=some o->o.data=.dict es ep->H b=none:=λ{b o es ep} e d=>by
   cases q:H b with
   |none=>rfl
   |some u =>
    have e':b=a:=hA b (by rw[q];simp);subst e';rw[ha]at e;cases e;have d':Data.seq vs.toArray _=Data.dict es ep:=d
    cases d'
  have nsK:∀{b:Addr} {m:Str->Option Value},s₁.heap.Ns b m->(zs1 s₁.heap H).Ns b m:=λ{b m} ⟨o,es,ep,e,d,r⟩=>⟨o,es,ep,base_of e (noA e d),d,r⟩
  have hKb:K.In (zs1 s₁.heap H):=λ b o e=>base_of (KX b o e) (by
   cases q:H b with
   |none=>rfl
   |some u =>
    have e':b=a:=hA b (by rw[q];simp);subst e';rw[hK (by rw[q];simp)]at e;cases e)
  have hM:Mod K mg (zs1 s₁.heap H):=⟨hKb,nsK hns,⟨mb,nsK hb,hbb⟩,let ⟨mc,h1,h2⟩:=hlim;⟨mc,nsK h1,h2⟩⟩
  have e0:Env0 P w K mg (zs1 s₁.heap H) callerA [] s₁ H:=⟨rfl,hM,λb o e=>zx8 e,Nat.le_of_eq (zov _ _),trivial,λb hb=>absurd (show b∈([]:List Addr) from hb) (by simp),hok,.of_eq hg⟩
  refine gk ((F _ hKb (nsK hns)).run callerA [] s₁ H ⟨[.ref a],[]⟩ [.ref a] [.ref a] _ _ hr e0 (hbind s₁ (.ref a)) (.cons rfl .nil) (hsp H hO hS)) λr s' h=>?_
  cases r with
  |error e=>exact(hCX H e s' h).elim
  |ok fl =>
   cases fl with
   |next=>exact False.elim h
   |brk=>exact False.elim h
   |cont=>exact False.elim h
   |ret u =>
    obtain⟨v,H',os,bare,un,hok',r',q⟩:=h;have q':v=.bl true:=q;subst q';obtain rfl:u=Value.bool true:=r';refine⟨rfl,OldK.of_keep λb o e=>?_,os,bare⟩
    cases q:H b with
    |none=>exact un.keep b o e q (by intro z;exact absurd (show b∈([]:List Addr) from z) (by simp)) (by simp)
    |some u =>
     rcases hO b with z|⟨ob,xs,z⟩
     ·rw[q]at z;cases z
     ·have z2:=un.frzs b ob _ z
      obtain⟨e1,_⟩:=hok b _ z;obtain⟨e2,_⟩:=hok' b _ z2;rw[e]at e1;cases e1;exact e2
 cases hk:K.lookup a with
 |some o =>
  have e:=KX a o hk;rw[ha]at e;cases e;refine core (λ_=>none) (λ_=>.inl rfl) (.inr ⟨_,vs.toArray,_,hk,rfl,rfl,rfl,by rw[oa,lenV];exact hl,by simpa using rv⟩) (λb u z=>by have z':(none:Option HO)=some u:=z;cases z') (λb z=>absurd rfl z) λz=>absurd rfl z
 |none =>
  refine core (λb=>if b=a then some (.frz { cls:=.type "list",data:=.seq vs.toArray } (.lst (ns.map V.int))) else none) (λb=>?_) (.inl (.inr ⟨{ cls:=.type "list",data:=.seq vs.toArray },la rfl⟩)) (λb u z=>?_) (λb z=>?_) λ_=>hk
  ·by_cases hb:b=a
   ·exact .inr ⟨_,_,la hb⟩
   ·exact .inl (wa hb)
  ·by_cases hb:b=a
   ·have z':=(la hb).symm.trans z
    cases z'
    subst hb;exact⟨ha,by rw[ba];exact hl,vs,_,rv,ha⟩
   ·have z':=(wa hb).symm.trans z
    cases z'
  ·by_cases hb:b=a
   ·exact hb
   ·exact absurd (wa hb) z
theorem walk_of{l:PySem.W.OpenLaw}{n k:Nat}{q:Program}{loose:List Str}{XP:(Str->Option Value)->Heap->Prop}{YP:World->Heap->Prop}{d:DefRec}{K:Params->PySem.W.Frag}{CX:World->CXT}{sp:World->Sp}{x:Str}
  (hn:l.most=some n) (hn2:n<=sizeLine) (hdf:d.params.defaults=[]) (hr:Room k callerA)
  (hY:∀(w:World) (h:Heap),YP w h->(K w.params).In h)
  (F:∀ (w:World) (mg:Str->Option Value) (fa:Addr) (h:Heap),(K w.params).In h->h.Ns mainGlobals mg->mg d.name=some (.ref fa) →
   ∃fd:FuncData,(∀(s:Shared) (u:Value),BindsTo s fd ⟨[u],[]⟩ [(x,u)]) ∧
    ∀base:Heap,(K w.params).In base->base.Ns mainGlobals mg->FnOk l.prog w (K w.params) mg base (CX w) k fa fd [x] (sp w))
  (hsp:∀(w:World) (H:Hp) (a:Addr) (ns:List Int),ns.length<=n->z87 H->SqL (K w.params) H a (ns.map V.int)->sp w [.ref a] H (λv _=>v=.bl true) λ_ _ _=>False)
  (hCX:∀(w:World) (H:Hp) (s:Shared) (e:Value) (s':Shared),CX w [] H s (λ_ _ _=>False) e s'->False) :
  PySem.W.WalkO q loose XP YP l.row.toRowW d [] (λf vs=>PySem.call f vs):=by
 refine Att.attach_call hn hdf λw s₀ s₁ mg mb fa o pm cd doc a vs ns G Y ho hd hcd hmg hobj hints hlen hg=>?_
 have KX:=hY w _ Y;obtain⟨fd,hb,hF⟩:=F w mg fa _ KX G.T.g hmg;exact ztc KX G.T.g G.T.b G.T.builtins G.T.nolimit hg hobj hints (ed hlen hn2) hr hF hb (λH hO hS=>hsp w H a ns hlen hO hS) λH e s'=>hCX w H s₁ e s'
noncomputable abbrev CX0:CXT:=λ_ _ _ _ _ _=>False
noncomputable abbrev E0:XK:=λ_ _ _=>False
theorem z3g{X:Cx}:zi4 CX0 X E0:=λ_ _ _ _ _ _ _ h=>h.elim
structure Fun(K:PySem.W.Frag)(x qual:Str)(st:Stmt)(f:Addr)(fd:FuncData):Prop where
 ex:∃(oc:Value) (od:Option Addr) (kV doc pm:Value) (an:Option Addr) (cdv ct:Value) (osl:Array (Option Value)),
  fd=PySem.W.fnOf x qual (zex st) (zby st) (zae st) .none kV doc pm an cdv ct/\K.lookup f=some ⟨oc,od,.func fd,osl⟩/\PySem.W.codeIn K cdv qual=true
 kp:PySem.W.keepIn K (.ref f)=true
section
variable {P:Program}{w:World}{K:PySem.W.Frag}{mg:Str->Option Value}{base:Heap}
theorem Fun.ok{x qual:Str}{st:Stmt}{f:Addr}{fd:FuncData}{N ps:List Str}{k:Nat}{sp:Sp}(F:Fun K x qual st f fd)(S:FnScope N ps (zae st))(len:∀vs H Q E,sp vs H Q E->vs.length=ps.length)
  (hbody:∀ (cdv:Value) (A:Around) (outer:List Env) (s:Shared) (H:Hp) (vs:List V) (Q:VK) (E:XK),Room k (A.deeper (envOfC qual (zae st) s.heap.objs.size f cdv))->sp vs H Q E →
   ∃t,PSs (zcy CX0 P w K mg base N qual (zae st) f cdv A outer s H E).nox (zby st) t/\t { nx:=λ_ H'=>Q .non H',rt:=Q } (start N vs) H):FnOk P w K mg base CX0 (k+1) f fd ps sp:=by
 obtain⟨oc,od,kV,doc,pm,an,cdv,ct,osl,rfl,lk,hcd⟩:=F.ex;refine z3a lk hcd S len λA outer s H vs Q E hr hsp=>?_
 obtain⟨t,h,q⟩:=hbody cdv A outer s H vs Q E hr hsp;exact⟨t,h.nox,q⟩
theorem Fun.binds{x qual:Str}{st:Stmt}{f:Addr}{fd:FuncData}{ps:List Str}(F:Fun K x qual st f fd)
  (h:∀(kV doc pm:Value) (an:Option Addr) (cdv ct:Value) (us:List Value),us.length=ps.length->bindArgs (PySem.W.fnOf x qual (zex st) (zby st) (zae st) .none kV doc pm an cdv ct) ⟨us,[]⟩=pure (ps.zip us)):zch K fd ps []:=by
 obtain⟨oc,od,kV,doc,pm,an,cdv,ct,osl,rfl,lk,hcd⟩:=F.ex;exact .all (h kV doc pm an cdv ct)
theorem za2{x qual:Str}{st:Stmt}{f:Addr}{oc:Value}{od an:Option Addr}{osl:Array (Option Value)}{kV doc pm cdv ct:Value}(l:K.lookup f=some ⟨oc,od,.func (PySem.W.fnOf x qual (zex st) (zby st) (zae st) .none kV doc pm an cdv ct),osl⟩)
  (c:PySem.W.codeIn K cdv qual=true) (k:PySem.W.keepIn K (.ref f)=true):Fun K x qual st f (PySem.W.fnOf x qual (zex st) (zby st) (zae st) .none kV doc pm an cdv ct):=⟨⟨oc,od,kV,doc,pm,an,cdv,ct,osl,rfl,l,c⟩,k⟩
end
def zax(H H':Hp):Prop:=∀b o,H b=some o->H' b=some o
theorem zax.refl(H:Hp):zax H H:=λ_ _ h=>h
theorem zax.trans{H H1 H2:Hp}(a:zax H H1)(b:zax H1 H2):zax H H2:=λc o h=>b c o (a c o h)
theorem zax.free{H H':Hp}(e:zax H H'){l:Addr}(h:H' l=Option.none):H l=Option.none:=by
 cases q:H l with
 |none=>rfl
 |some o =>
  rw[e l o q]at h;cases h
theorem zax.seq{K:PySem.W.Frag}{H H':Hp}{a:Addr}{xs:List V}(e:zax H H')(h:SqL K H a xs):SqL K H' a xs:=by
 rcases h with(h|⟨o,h⟩)|h
 ·exact .inl (.inl (e _ _ h))
 ·exact .inl (.inr ⟨o,e _ _ h⟩)
 ·exact .inr h
noncomputable def zpe(env:Env)(x:Str)(k:NameKind):NameKind:=if (k == NameKind.free && env.scope.kind == .function && env.kindOf x == some .cell)=true then NameKind.cell else k
theorem zg9{env:Env}:∀(names:List (Str×NameKind)) (x:Str),
  (names.map λ(n,k)=>if (k == NameKind.free && env.scope.kind == .function && env.kindOf n == some .cell) then (n,NameKind.cell) else (n,k)).lookup x=(names.lookup x).map (zpe env x)
 |[],_=>rfl
 |(n,k)::r,x=>by
  have ih:=zg9 (env:=env) r x;show List.lookup x ((if (k == NameKind.free && env.scope.kind == .function && env.kindOf n == some .cell)=true then (n,NameKind.cell) else (n,k))::_)=_
  cases hx:x == n with
  |true =>
   have e:x=n:=by simpa using hx
   subst e;by_cases hc:(k == NameKind.free && env.scope.kind == .function && env.kindOf x == some .cell)=true
   ·rw[la hc];simp only[ae,hx,je,zpe,la hc]
   ·rw[wa hc];simp only[ae,hx,je,zpe,wa hc]
  |false =>
   by_cases hc:(k == NameKind.free && env.scope.kind == .function && env.kindOf n == some .cell)=true
   ·rw[la hc];simp only[ae,hx];exact ih
   ·rw[wa hc];simp only[ae,hx];exact ih
theorem ze0(scope:Scope)(env:Env)(x:Str):(relabel scope env).names.lookup x=(scope.names.lookup x).map (zpe env x):=zg9 _ _
noncomputable def zcm(env:Env):List (Str×NameKind)->List (Str×Addr)->List (Str×Addr)
 |[],cs=>cs
 |(n,k)::r,cs=>zcm env r (if (k == NameKind.free)=true then (n,(env.cells.lookup n).getD 0)::cs else cs)
theorem zha{scope:Scope}{env:Env}(h:∀y∈scope.names,y.2=.free->∃c,env.cells.lookup y.1=some c):closureFor scope env=pure (zcm env scope.names []):=by
 unfold closureFor;generalize scope.names=names at h
 have key:∀(names:List (Str×NameKind)) (cs:List (Str×Addr)),(∀y∈names,y.2=.free->∃c,env.cells.lookup y.1=some c) →
   (forIn names cs (λ(x:Str×NameKind) (r:List (Str×Addr))=>match x with|(name,kind)=>(if (kind == NameKind.free)=true then (do let a ← cellOf env name;pure (ForInStep.yield ((name,a)::r))) else pure (ForInStep.yield r):Sem (ForInStep (List (Str×Addr))))))=pure (zcm env names cs):=by
  intro names
  induction names with
  |nil=>intro cs _;rfl
  |cons y r ih =>
   intro cs hy;obtain⟨n,k⟩:=y;rw[List.forIn_cons];by_cases hk:k=.free
   ·subst hk
    obtain⟨c,hc⟩:=hy (n,.free) xa rfl;have e1:cellOf env n=pure c:=by unfold cellOf;rw[hc]
    have e2:=ih ((n,c)::cs) λz hz=>hy z (ja _ hz)
    have e3:zcm env ((n,NameKind.free)::r) cs=zcm env r ((n,c)::cs):=by
     show zcm env r (if (NameKind.free == NameKind.free)=true then (n,(env.cells.lookup n).getD 0)::cs else cs)=_;rw[la (show (NameKind.free == NameKind.free)=true by decide),show env.cells.lookup n=some c from hc];rfl
    rw[e3,<-e2];simp only[vn,wk,e1];rfl
   ·have hb:(k == NameKind.free)=false:=by simpa using hk
    have e2:=ih cs λz hz=>hy z (ja _ hz)
    have e3:zcm env ((n,k)::r) cs=zcm env r cs:=by
     show zcm env r (if (k == NameKind.free)=true then (n,(env.cells.lookup n).getD 0)::cs else cs)=_;rw[wa (by rw[hb];exact ua)]
    rw[e3,<-e2];simp only[hb,yb,xh];rfl
 have e:=key names [] h;refine Eq.trans ?_ (Eq.trans (ef (λt:Sem (List (Str×Addr))=>t >>= λr=>pure r) e) ?_)
 ·rfl
 ·rfl
theorem zh0{env:Env}:∀(names:List (Str×NameKind)) (cs:List (Str×Addr)),(∀y∈names,y.2=.free->∃c,env.cells.lookup y.1=some c)->(∀x c,cs.lookup x=some c->env.cells.lookup x=some c) →
  ∀x c,(zcm env names cs).lookup x=some c->env.cells.lookup x=some c
 |[],cs,_,hc,x,c,h=>hc x c h
 |(n,k)::r,cs,hy,hc,x,c,h=>by
  refine zh0 r _ (λz hz=>hy z (ja _ hz)) (λz d hd=>?_) x c h;by_cases hk:k=.free
  ·subst hk
   obtain⟨a,ha⟩:=hy (n,.free) xa rfl;rw[la (show (NameKind.free == NameKind.free)=true by decide),show env.cells.lookup n=some a from ha]at hd;rw[ae]at hd
   cases hz:z == n with
   |true =>
    have e:z=n:=by simpa using hz
    subst e;rw[hz]at hd;rw[ha];exact hd
   |false=>rw[hz]at hd;exact hc z d hd
  ·have hb:(k == NameKind.free)=false:=by simpa using hk
   rw[wa (by rw[hb];exact ua)]at hd;exact hc z d hd
theorem zwb{env:Env}{x:Str}:∀(names:List (Str×NameKind)) (cs:List (Str×Addr)),(names.lookup x=some .free\/∃c,cs.lookup x=some c)->∃c,(zcm env names cs).lookup x=some c
 |[],cs,h=>by
  rcases h with h|h
  ·cases h
  ·exact h
 |(n,k)::r,cs,h=>by
  refine zwb r _ ?_
  cases hx:x == n with
  |true =>
   rcases h with h|⟨c,h⟩
   ·rw[ae,hx]at h
    cases h;refine .inr ⟨(env.cells.lookup n).getD 0,?_⟩
    rw[la (show (NameKind.free == NameKind.free)=true by decide),ae,hx]
   ·by_cases hk:(k == NameKind.free)=true
    ·refine .inr ⟨(env.cells.lookup n).getD 0,?_⟩
     rw[la hk,ae,hx]
    ·exact .inr ⟨c,by rw[wa hk];exact h⟩
  |false =>
   rcases h with h|⟨c,h⟩
   ·rw[ae,hx]at h
    exact .inl h
   ·refine .inr ⟨c,?_⟩
    by_cases hk:(k == NameKind.free)=true
    ·rw[la hk,ae,hx];exact h
    ·rw[wa hk];exact h
noncomputable def zje(X:Cx)(vars:List Str)(cap:List Nat):List Str:=vars++cap.map λi=>X.N.getD i ""
noncomputable def zds(n:Nat)(cap:List Nat)(σ:St):St:=List.replicate n none++cap.map λi=>(σ[i]?).getD none
noncomputable def zay(X:Cx)(scope:Scope)(C:Addr)(vars:List Str)(cap:List Nat)(s:Shared)(H:Hp)(ex:List Addr):Cx :=
 { X with N:=zje X vars cap,s₀:=s,H₀:=H,env:=compEnvC scope (zcm X.env scope.names []) C X.env,outer:=X.stack,stack:=X.stack,ex:=ex,fn:=λ_=>false,xe:=λ_ _=>False }
structure CScope(X:Cx)(scope:Scope):Prop where
 kind:scope.kind=.function
 cell:∀y∈scope.names,y.2≠.cell
 names:∀y∈scope.names,y.2=.local->scope.names.lookup y.1=some .local
 free:∀y∈scope.names,y.2=.free->X.env.kindOf y.1=some .cell\/X.env.kindOf y.1=some .free
section
variable {X:Cx}{pins:List (Addr×Obj)}{σ:St}{H:Hp}{s:Shared}
theorem HOk.track{P:Program}{w:World}{h:Heap}{a:Addr}{o:HO}(x:HOk P w H h)(hn:H a=none)(new:za8 P w (upd H a o) h a o):HOk P w (upd H a o) h:=λb u e=>by
 by_cases hb:b=a
 ·subst hb;rw[zac]at e;cases e;exact new
 ·rw[zad hb]at e
  exact(x b u e).stay (λc v _ q=>q) (λc q=>by rw[zad (zag q hn)];exact q) λc xs q=>by rw[zad (zag q hn)];exact q
theorem Un.later{fs ex:List Addr}{H H1 H2:Hp}{h h1 h2:Heap}(u:Un fs ex H H1 h h1)(hH:∀b o,H b=some o->b<h.objs.size)(k:∀b o,b<h.objs.size->h1.get? b=some o->h2.get? b=some o)(e:∀b,b<h.objs.size->H2 b=H1 b):Un fs ex H H2 h h2 where
 keep:=λb o q n hb hx=>k b o (ya q) (u.keep b o q n hb hx)
 slot:=λb o q n hb hx=>by
  obtain⟨sl,z⟩:=u.slot b o q n hb hx;exact⟨sl,k b _ (ya q) z⟩
 free:=λb o q n hx=>by rw[e b (ya q)];exact u.free b o q n hx
 there:=λb o q hx=>by
  obtain⟨o',z⟩:=u.there b o q hx;exact⟨o',k b o' (ya q) z⟩
 tups:=λb xs q=>by rw[e b (hH b _ q)];exact u.tups b xs q
 frzs:=λb o v q=>by rw[e b (hH b _ q)];exact u.frzs b o v q
 tbls:=λb ps q=>by
  obtain⟨m,z⟩:=u.tbls b ps q;exact⟨m,by rw[e b (hH b _ q)];exact z⟩
theorem CScope.cells{scope:Scope}(S:CScope X scope)(I:Inv X pins σ H s):∀y∈scope.names,y.2=.free->∃c,X.env.cells.lookup y.1=some c:=λy hy hf=>I.ok.has y.1 (S.free y hy hf)
theorem zdn{α:Type}:∀{l:List (Str×α)}{x:Str}{v:α},l.lookup x=some v->(x,v)∈l:=λh=>PySem.mem_of_lookup h
theorem zny {scope:Scope}{vars:List Str}{cap:List Nat}{fp:List Addr}{h1:Heap}{t':Nat}{m:Str->Option Value}{C:Addr} (S:CScope X scope) (I:Inv X pins σ H s) (hcap:∀i∈cap,i<X.N.length/\scope.names.lookup (X.N.getD i "")≠some .local)
  (hfp:∀b∈fp,zss X pins H b) (hob:∀b∈fp,b<s.heap.objs.size) (hC:s.heap.objs.size<=C) (hk:∀b o,s.heap.get? b=some o->h1.get? b=some o) (hn:h1.Ns C m) :
  Inv (zay X scope C vars cap s H fp) pins (zds vars.length cap σ) H { s with heap:=h1,toks:=t' }:=by
 have hcells:=S.cells I;have snd:=zh0 (env:=X.env) scope.names [] hcells (λx c h=>by cases h);have hlt:∀b o,H b=some o->b<s.heap.objs.size:=λb o e=>I.hok.lt e
 have stk:∀b,b∈frs X.stack->b<s.heap.objs.size:=λb hb=>by
  rcases pb.mp (I.stkSub b hb) with e|e
  ·rw[e];exact I.lt
  ·obtain⟨_,o,ho,_⟩:=I.ok.funs.mem e
   exact wb (ya ho) I.sz
 have kinds:∀x,((zay X scope C vars cap s H fp).env.kindOf x=some .cell\/(zay X scope C vars cap s H fp).env.kindOf x=some .free)->scope.names.lookup x=some .free:=λx h=>by
  have h':(scope.names.lookup x).map (zpe X.env x)=some .cell\/(scope.names.lookup x).map (zpe X.env x)=some .free:=by
   rw[<-ze0 scope X.env x];exact h
  cases e:scope.names.lookup x with
  |none=>rw[e]at h';rcases h' with z|z <;> cases z
  |some k =>
   have nc:k≠.cell:=S.cell (x,k) (zdn e);rw[e]at h';unfold zpe at h'
   cases k <;> first|rfl|exact absurd rfl nc|(simp at h')
 have okc:(zay X scope C vars cap s H fp).Ok:=by
  refine⟨I.ok.mod,S.kind,I.ok.glob,I.ok.blt,hC,λ x y c h1 h2=>I.ok.inj x y c (snd x c h1) (snd y c h2),λ x hx=>zwb scope.names [] (.inl (kinds x hx)),λ x c h=>(Bool.false_ne_true h).elim,I.ok.hd,I.ok.frames,.inl rfl,
   λb hb=>⟨?_,λx c h=>(hfp b hb).2.2.2.2.1 x c (snd x c h)⟩,λb o e=>I.bs b o e,ed I.ok.bsz I.sz,λb o e hb=>?_,λb hb hfs=>?_,I.stack,I.stkFree⟩
  ·exact dc (wb (hob b hb) hC)
  ·rcases(hfp b hb).2.2.2.1 with z|z
   ·exact I.ok.noex b o e z
   ·exact absurd (wb (ya (I.ok.bs b o e).1) z) (wg _)
  ·rcases pb.mp (I.stkSub b hfs) with z|z
   ·exact(hfp b hb).2.1 z
   ·exact(hfp b hb).2.2.1 z
 refine⟨okc,rfl,I.bare,Un.kept hk,⟨m,hn,λi x v e1 e2 e3=>?_⟩,λx c e=>?_,I.hok.fresh hC,λx c e=>I.freeC x c (snd x c e),λp hp=>?_,I.hok.kept hk,?_⟩
 ·-- the names of around
  have e1:(zje X vars cap)[i]?=some x:=e1;have e3':(relabel scope X.env).names.lookup x=some .local\/(relabel scope X.env).names.lookup x=some .cell\/(relabel scope X.env).names.lookup x=some .free:=e3;unfold zds at e2;by_cases hi:i<vars.length
  ·rw[dg (by simpa using hi),zg]at e2
   split at e2 <;> cases e2
  ·rw[yf (by simpa using hi),zi,qc]at e2
   unfold zje at e1;rw[yf (by omega),qc]at e1
   cases ej:cap[i - vars.length]? with
   |none=>rw[ej]at e1;cases e1
   |some j =>
    rw[ej]at e1 e2;have hj:j<X.N.length:=(hcap j (jd ej)).1
    have eN:X.N[j]?=some x:=by
     have z:X.N.getD j "" = x:=kc e1;rw[ac]at z
     cases q:X.N[j]? with
     |none=>rw[List.getElem?_eq_none_iff]at q;omega
     |some y=>rw[q]at z;exact ef some z
    have eσ:σ[j]?=some (some v):=by
     have z:(σ[j]?).getD none=some v:=kc e2
     cases q:σ[j]? with
     |none=>rw[q]at z;cases z
     |some y=>rw[q]at z;exact ef some z
    rw[ze0]at e3'
    cases e4:scope.names.lookup x with
    |none=>rw[e4]at e3';rcases e3' with z|z|z <;> cases z
    |some k =>
     rw[e4]at e3'
     have nl:k≠.local:=λz=>by
      have z0:X.N.getD j "" = x:=kc e1;exact(hcap j (jd ej)).2 (by rw[z0,e4,z])
     have nc:k≠.cell:=S.cell (x,k) (zdn e4)
     have kf:k=.free:=by
      unfold zpe at e3'
      cases k <;> first|rfl|exact absurd rfl nc|exact absurd rfl nl|(simp at e3')
     subst kf
     have vis:Vis X.env.scope x:=by
      rcases S.free (x,.free) (zdn e4) rfl with z|z
      ·exact .inr (.inl z)
      ·exact .inr (.inr z)
     obtain⟨m0,hn0,hl0⟩:=I.loc;obtain⟨u,r,l⟩:=hl0 j x v eN eσ vis;refine⟨u,r,.inr ?_⟩
     have kk:(zay X scope C vars cap s H fp).env.kindOf x=some .cell\/(zay X scope C vars cap s H fp).env.kindOf x=some .free:=by
      show (relabel scope X.env).names.lookup x=some .cell\/(relabel scope X.env).names.lookup x=some .free;rw[ze0,e4];show some (zpe X.env x .free)=some .cell\/some (zpe X.env x .free)=some .free;unfold zpe;split
      ·exact .inl rfl
      ·exact .inr rfl
     obtain⟨c,hc⟩:=okc.has x kk;refine⟨kk,c,hc,?_⟩;have hc':=snd x c hc;rcases l with⟨k1,_⟩|⟨_,c2,hc2,z⟩
     ·rcases S.free (x,.free) (zdn e4) rfl with z|z
      ·have z:X.env.kindOf x=some .cell:=z
       rw[k1]at z;cases z
      ·have z:X.env.kindOf x=some .free:=z
       rw[k1]at z;cases z
     ·rw[hc']at hc2;cases hc2
      exact Heap.IsCell.keeps z hk
 ·obtain⟨v,z⟩:=I.cell x c (snd x c e)
  exact⟨v,Heap.IsCell.keeps z hk⟩
 ·obtain⟨e,n,ne,nf,d⟩:=I.pin p hp
  refine⟨hk _ _ e,n,dc (wb (ya e) hC),λz=>?_,d⟩;rcases pb.mp (I.stkSub p.1 z) with q|q
  ·exact ne q
  ·exact nf q
 ·unfold zds
  show _=(zje X vars cap).length;unfold zje;simp
theorem Inv.repin{a:Addr}{o o':Obj}{h':Heap}{t':Nat}(I:Inv X (pins++[(a,o)]) σ H s)(hp:∀p∈X.pn++pins,p.1≠a)(h1:a∈X.ex\/X.s₀.heap.objs.size<=a)(k:∀b u,b≠a->s.heap.get? b=some u->h'.get? b=some u)(e:h'.get? a=some o')(hd:∀v,o'.data≠.cell v) :
  Inv X (pins++[(a,o')]) σ H { s with heap:=h',toks:=t' }:=by
 obtain⟨e0,n0,ne0,nf0,d0⟩:=I.pin (a,o) (by simp);have I1:Inv X pins σ H s:=I.unpinned
 have cne:∀x c,X.env.cells.lookup x=some c->c≠a:=λx c q z=>by
  subst z;obtain⟨v,ob,hob,hdv⟩:=I.cell x c q;have e0:s.heap.get? c=some o:=e0;rw[e0]at hob;cases hob;exact d0 v hdv
 have I2:Inv X pins σ H { s with heap:=h',toks:=t' }:=I1.turned (it:=a) k n0 ne0 h1 cne hp;refine I2.pins_of λp hpp=>?_
 rcases gc.mp hpp with z|z
 ·exact I2.pin p (pc _ z)
 ·have z:p=(a,o'):=by simpa using z
  subst z;exact⟨e,n0,ne0,nf0,hd⟩
theorem Inv.pinnew{a:Addr}{o:Obj}(I:Inv X pins σ H s)(e:s.heap.get? a=some o)(hn:H a=none)(hL:a≠X.env.locals)(hf:a ∉ X.fs)(hd:∀v,o.data≠.cell v):Inv X (pins++[(a,o)]) σ H s:=by
 refine I.pins_of λp hpp=>?_
 rcases gc.mp hpp with z|z
 ·exact I.pin p (pc _ z)
 ·have z:p=(a,o):=by simpa using z
  subst z;exact⟨e,hn,hL,hf,hd⟩
def ztd(X:Cx)(ifs:List Expr)(t:TT):Prop :=
 ∀(pins:List (Addr×Obj)) (s:Shared) (σ:St) (H:Hp) (Q:Bool->Hp->Prop),Inv X pins σ H s->t σ H Q →
  wpAny (model X.prog X.w) X.A (forIn ifs true λc r=>if r=true then do let ok ← isTrue c X.env (eval c X.env);pure (ForInStep.yield ok) else pure (ForInStep.yield r)) (TP X pins σ Q) X.xe s
noncomputable def yc0:TT:=λ_ H Q=>Q true H
theorem z3h:ztd X [] yc0:=λpins s σ H Q I h=>wpAny_tests_nil ⟨H,I,h⟩
theorem z3i{c:Expr}{t:TT}(h:PT X c t):ztd X [c] t:=λpins s σ H Q I hw=>wpAny_tests_one (h pins s σ H Q I hw)
theorem zjf{prog:Program}{w:World}{A:Around}{R:Result->Shared->Prop}{s:Shared}{elt target iter:Expr}{ifs:List Expr}{scope:Scope}{pos:Pos}{it acc:Value}{env:Env}(I:Nat->Shared->Prop)
  (turn:∀ n s,I n s->wpAny (model prog w) A (pyNext it) (λ r s₁=>match r with
   |none=>R (.ok .next) s₁
   | some v=>wpAny (model prog w) A (letOwnedTupleGo target it v) (λ _ s₁'=>wpAny (model prog w) A (assign target env v) (λ _ s₂ =>
     wpAny (model prog w) A (forIn ifs true λ c r=>if r=true then do let ok ← isTrue c env (eval c env);pure (ForInStep.yield ok) else pure (ForInStep.yield r)) (λ ok s₃ =>
      if ok=true then wpAny (model prog w) A (eval elt env) (λ x s₄ =>
       wpAny (model prog w) A (call (.builtin "list.append") [acc,x]) (λ_ s₅=>∃m,m<n/\I m s₅) (λ_ _=>False) s₄) (λ_ _=>False) s₃
      else ∃m,m<n/\I m s₃) (λ_ _=>False) s₂) (λ_ _=>False) s₁') (λ_ _=>False) s₁) (λ_ _=>False) s)
  (n:Nat) (h:I n s) :
  codeAny (model prog w) A (.compLoop (.ListComp elt [⟨target,iter,ifs,0⟩] scope pos) 0 it acc env) R s:=by
 refine codeAny_loop rfl I (λn s hI=>?_) n h;show wpAny _ A ((compTurn (.ListComp elt [⟨target,iter,ifs,0⟩] scope pos) 0 it acc env).onRaise (λx=>do noteFrame x env;theTreesLotGoes x)) _ _ s;refine wpAny_noted ?_;rw[compTurn_list];refine aa (uj (aa (ye (turn n s hI) (λr s₁ h₁=>?_) λ_ _ h'=>h'.elim)))
 cases r with
 |none=>exact ia h₁
 |some v =>
  refine aa (ye h₁ (λ_ s₁' h₁'=>?_) λ_ _ h'=>h'.elim);refine aa (ye h₁' (λ_ s₂ h₂=>aa (ye h₂ (λok s₃ h₃=>?_) λ_ _ h'=>h'.elim)) λ_ _ h'=>h'.elim)
  cases ok with
  |false=>exact ia ⟨rfl,h₃⟩
  |true =>
   exact aa (aa (ye h₃ (λx s₄ h₄=>aa (ye h₄ (λ_ s₅ h₅=>ia (ia ⟨rfl,h₅⟩)) λ_ _ h'=>h'.elim)) λ_ _ h'=>h'.elim))
end
def Sub(σ σ':St):Prop:=σ'.length=σ.length/\∀(i:Nat) v,σ[i]?=some (some v)->σ'[i]?=some (some v)
def zyo(J:It)(g:TG)(tt:TT)(te:TE)(σc:St)(Q:List V->Hp->Prop)(H1:Hp):Prop :=
 ∃W:Nat->Nat->List V->Hp->Prop,(∃m,W 0 m [] H1)/\∀i m ys H,W i m ys H →
  (J.stop i H/\Q ys H)\/(J.go i H/\ys.length<sizeLine/\∃ N:List V->Hp->Prop,(∀ ys' H',N ys' H'->∃ m',m'<m/\W (i+1) m' ys' H') ∧
   ∀x H',J.yld i H x H'->g x σc H' λσ2 H2=>Sub σc σ2/\tt σ2 H2 λb H3=>if b=true then te σ2 H3 λy H4=>N (ys++[y]) H4 else N ys H3)
noncomputable def zyp(wi:TI)(g:TG)(tt:TT)(te:TE)(n:Nat)(cap:List Nat):TE:=λσ H Q=>wi σ H λJ H1 =>
 zyo J g tt te (zds n cap σ) (λys H'=>ys.length<=sizeLine/\∀D,H' D=none->Q (.ref D) (upd H' D (.lst ys))) H1
noncomputable abbrev zte(us:List Value)(n:Nat):Obj:={ cls:=.type "list",data:=.seq us.toArray n }
section
variable {X:Cx}{elt iter tg:Expr}{ifs:List Expr}{scope:Scope}{pos:Pos}{wi:TI}{g:TG}{tt:TT}{te:TE}{vars:List Str}{cap:List Nat}
theorem zhb{pins:List (Addr×Obj)}{σ:St}{H:Hp}{s:Shared}{it:Addr}{fp:List Addr}{tn:Nat->Heap->Prop}{J:It}{Q:List V->Hp->Prop}{RR:Value->Addr->Result->Shared->Prop}{E:Value->Shared->Prop}
  (hc:X.calm=true) (S:CScope X scope) (hcap:∀i∈cap,i<X.N.length/\scope.names.lookup (X.N.getD i "")≠some .local) (I:Inv X pins σ H s) (T:Turn X.prog X.w X.K tg J fp it tn) (st:tn 0 s.heap) (hf:∀b∈fp,zss X pins H b)
  (hg:∀s H C ex,PG (zay X scope C vars cap s H ex) tg g) (ht:∀s H C ex,ztd (zay X scope C vars cap s H ex) ifs tt) (he:∀s H C ex,PE (zay X scope C vars cap s H ex) elt te)
  (hL:zyo J g tt te (zds vars.length cap σ) (λys H'=>ys.length<=sizeLine/\Q ys H') H)
  (fin:∀ (D C:Addr) (ys:List V) (H':Hp) (s':Shared) (m:Str->Option Value),Q ys H'->H' D=none->Inv X pins σ (upd H' D (.lst ys)) s'->s'.heap.Ns C m->(upd H' D (.lst ys)) C=none->C≠X.env.locals->X.s₀.heap.objs.size<=C →
   (∀x c,X.env.cells.lookup x=some c->c≠C)->(∀p∈X.pn++pins,p.1≠C)->RR (.ref D) C (.ok .next) s') :
  wpAny (model X.prog X.w) X.A (newList []) (λ acc s₃=>wpAny (model X.prog X.w) X.A (newFunctionEnv scope X.env.globals (zcm X.env scope.names []) [] X.env.qual none .none (some X.env)) (λ cenv s₄ =>
   codeAny (model X.prog X.w) X.A (.compStart (.ListComp elt [⟨tg,iter,ifs,0⟩] scope pos) 0 (.ref it) acc { cenv with scope:=relabel scope X.env }) (RR acc cenv.locals) s₄) E s₃) E s:=by
 refine gf (wpAny_newFunctionEnv S.cell (by intro y hy;simp at hy) (λh₁ hns₁ hsb₁=>?_) S.kind);dsimp only at hns₁ hsb₁ ⊢;generalize hH2:s.heap.push { cls:=.type "list",dict:=none,data:=.seq ([]:List Value).toArray }=H2 at hns₁ hsb₁ ⊢;have hC:H2.objs.size=s.heap.objs.size+1:=by rw[<-hH2,Heap.size_push]
 generalize hCe:H2.objs.size=C at hns₁ hsb₁ hC ⊢;generalize hDe:s.heap.objs.size=D at hC ⊢;have hDC:D≠C:=by rw[hC];exact dc (wn _)
 have below:∀b,b<s.heap.objs.size->b≠C/\b≠D:=λb hb=>by
  rw[hDe]at hb;exact⟨by rw[hC];exact dc (um hb),dc hb⟩
 have old:∀b o,s.heap.get? b=some o->h₁.get? b=some o:=λb o e=>hsb₁.extBut b o (below b (ya e)).1 (ma _ (hH2 ▸ ma _ e))
 have hacc:h₁.get? D=some (zte [] 0):=hsb₁.extBut _ _ hDC (ma _ (by rw[<-hH2,<-hDe];exact gb _ rfl));have hCle:s.heap.objs.size<=C:=by rw[hC,<-hDe];exact mq _
 have hob:∀b∈fp,b<s.heap.objs.size:=λb hb=>by
  obtain⟨o,e,_⟩:=T.obj 0 _ st b hb;exact ya e
 have I0:Inv (zay X scope C vars cap s H fp) pins (zds vars.length cap σ) H { s with heap:=h₁,toks:=s.toks+([]:List (Str×Value)).length }:=zny S I hcap hf hob hCle old hns₁
 have stkb:∀b,b∈frs X.stack->b<s.heap.objs.size:=λb hb=>by
  rcases pb.mp (I.stkSub b hb) with e|e
  ·rw[e];exact I.lt
  ·obtain⟨_,o,ho,_⟩:=I.ok.funs.mem e
   exact wb (ya ho) I.sz
 have snd:=zh0 (env:=X.env) scope.names [] (S.cells I) (λx c h=>by cases h);have hDfs:D ∉ (zay X scope C vars cap s H fp).fs:=λz=>absurd (stkb D z) (by rw[hDe];exact wg _)
 have hHD:H D=none:=I.hok.fresh (by rw[hDe];exact va _);have I1:=I0.pinnew (a:=D) hacc hHD hDC hDfs (λv z=>by cases z);have pnD:∀p∈(zay X scope C vars cap s H fp).pn++pins,p.1≠D:=λp hp=>dc (by rw[<-hDe];exact ya (I.pin p hp).1)
 have stat:∀{us:List Value} {n:Nat} {H':Hp},(∀b∈fp,H' b=none)->∀b∈fp,zss (zay X scope C vars cap s H fp) (pins++[(D,zte us n)]) H' b:=λ{us n H'} hn b hb=>by
  obtain⟨f0,f1,f2,f3,f4,f5⟩:=hf b hb;refine⟨hn b hb,(below b (hob b hb)).1,λz=>?_,.inl hb,λx c e=>f4 x c (snd x c e),λp hp=>?_⟩
  ·rcases pb.mp (I.stkSub b z) with q|q
   ·exact f1 q
   ·exact f2 q
  ·have hp:p∈X.pn++(pins++[(D,zte us n)]):=hp
   rw[<-cj]at hp;rcases gc.mp hp with q|q
   ·exact f5 p q
   ·have q:p=(D,zte us n):=by simpa using q
    subst q;exact λz=>(below b (hob b hb)).2 z.symm
 have st1:tn 0 h₁:=T.keep 0 _ _ st λb _ o e=>old b o e
 obtain⟨W,⟨m0,w0⟩,turn⟩:=hL
 have loop:∀s₃:Shared,s₃={ s with heap:=h₁,toks:=s.toks+([]:List (Str×Value)).length } →
   codeAny (model X.prog X.w) X.A (.compLoop (.ListComp elt [⟨tg,iter,ifs,0⟩] scope pos) 0 (.ref it) (.ref D) (compEnvC scope (zcm X.env scope.names []) C X.env)) (RR (.ref D) C) s₃:=by
  rintro s₃ rfl
  refine zjf (env:=(zay X scope C vars cap s H fp).env) (λn s'=>∃i ys us k H',Inv (zay X scope C vars cap s H fp) (pins++[(D,zte us k)]) (zds vars.length cap σ) H' s'/\zbj ys us/\tn i s'.heap/\(∀b∈fp,H' b=none)/\W i n ys H') ?_ m0
   ⟨0,[],[],0,H,I1,.nil,st1,λb hb=>(hf b hb).1,w0⟩
  rintro n s3 ⟨i,ys,us,k,H3,I3,rv3,st3,fr3,w3⟩;rcases turn i n ys H3 w3 with⟨stop,hz,qn⟩|⟨go,hz,N,hN,step⟩
  ·refine thn (T.done (zay X scope C vars cap s H fp) rfl rfl rfl hc i _ s3 _ H3 (λ_ _=>False) I3 (stat fr3) st3 stop) λr s4 ⟨hr,I4⟩=>?_
   subst hr;obtain⟨eD,nD,_,_,_⟩:=I4.pin (D,zte us k) (by simp);obtain⟨m4,ns4,_⟩:=id I4.loc;have hC3:H3 C=none:=I4.free;refine fin D C ys H3 s4 m4 qn nD ?_ ns4 (by rw[zad (rf hDC)];exact hC3) (rf (below _ I.lt).1) (ed I.sz hCle) (λx c e=>?_) (λp hp=>(below _ (ya (I.pin p hp).1)).1)
   ·refine I.call' (ch:=fp) I4.os (Un.later I4.base (λb o e=>I.hok.lt e) (λb o _ q=>q) λb hb=>by rw[zad (below b hb).2]) ?_ I4.bare λb hb=>?_
    ·exact I4.hok.track nD ⟨hz,us,k,rv3,eD⟩
    ·obtain⟨f0,f1,f2,f3,f4,f5⟩:=hf b hb
     exact⟨f3,f1,f4,f5⟩
   ·obtain⟨v,z⟩:=I.cell x c e
    exact(below _ z.lt).1
  ·refine thn (T.item (zay X scope C vars cap s H fp) rfl rfl rfl hc i _ s3 _ H3 (λ_ _=>False) I3 (stat fr3) st3 go) λr s4 ⟨u,hr,h4⟩=>?_
   subst hr;refine thn h4 λ_ s5 ⟨x,H5,I5,r5,y5,st5,fr5⟩=>?_
   have I5':=I5.pinned (stat fr5) (T.obj _ _ st5);refine thn (hg s H C fp _ s5 _ H5 x u _ I5' r5 (step x H5 y5)) λ_ s6 ⟨σ6,H6,I6,sub6,q6⟩=>?_
   have again:∀{σ7:St} {H7:Hp} {s7:Shared},Inv (zay X scope C vars cap s H fp) (pins++[(D,zte us k)]++zi2 fp s5.heap) σ7 H7 s7->Sub (zds vars.length cap σ) σ7 →
     Inv (zay X scope C vars cap s H fp) (pins++[(D,zte us k)]) (zds vars.length cap σ) H7 s7/\tn (i+1) s7.heap/\∀b∈fp,H7 b=none:=λ{σ7 H7 s7} I7 sub7=>by
    refine⟨I7.unpinned.weak sub7.1.symm sub7.2,T.keep _ _ _ st5 λb hb o e=>(I7.pin (b,o) (pc _ (pc _ (zdl hb e)))).1,λb hb=>?_⟩;obtain⟨o,e,d⟩:=T.obj _ _ st5 b hb;exact(I7.pin (b,o) (pc _ (pc _ (zdl hb e)))).2.1
   refine thn (ht s H C fp _ s6 σ6 H6 _ I6 q6) λok s7 ⟨H7,I7,q7⟩=>?_
   cases ok with
   |false =>
    obtain⟨J7,st7,fr7⟩:=again I7 sub6;obtain⟨m',hm,w7⟩:=hN _ _ q7;exact⟨m',hm,i+1,ys,us,k,H7,J7,rv3,st7,fr7,w7⟩
   |true =>
    refine thn (he s H C fp _ s7 σ6 H7 _ I7 q7) λv s8 ⟨y,H8,I8,r8,q8⟩=>?_
    obtain⟨J8,st8,fr8⟩:=again I8 sub6;obtain⟨m',hm,w8⟩:=hN _ _ q8;obtain⟨eD,nD,_,_,_⟩:=J8.pin (D,zte us k) (by simp);have hlen:=rv3.length;refine qk F.slot_list_append ⟨_,eD,rfl⟩ F.entry_list_append (F.args_list_append_2 _ _) (PySem.list_append D us.toArray k v (by rw[oa];omega)) ⟨eD,?_⟩;have q:=PySem.IsL.update eD (λxs=>xs.push v)
    have J9:Inv (zay X scope C vars cap s H fp) (pins++[(D,_)]) (zds vars.length cap σ) H8 { s8 with heap:=s8.heap.update D (Obj.mapSeq λxs=>xs.push v),toks:=s8.toks } :=
     J8.repin pnD (.inr (show s.heap.objs.size<=D by rw[hDe];exact va _)) (λb u hb e=>(xb _ _ (rf hb)).trans e) q (λv z=>by cases z)
    have e9:(us.toArray.push v)=(us++[v]).toArray:=by simp
    rw[e9]at J9;exact⟨m',hm,i+1,ys++[y],us++[v],_,H8,J9,rv3.append (.cons r8 .nil),T.keep _ _ _ st8 λb hb o e=>(xb _ _ (rf (below b (hob b hb)).2)).trans e,fr8,w8⟩
 exact codeAny_compStart_list (loop _ rfl) (T.self X.A 0 _ _ _ st1 (loop _ rfl))
theorem zyq (hc:X.calm=true) (S:CScope X scope) (hcap:∀i∈cap,i<X.N.length/\scope.names.lookup (X.N.getD i "")≠some .local) (hi:PI X tg iter wi)
  (hg:∀s H C ex,PG (zay X scope C vars cap s H ex) tg g) (ht:∀s H C ex,ztd (zay X scope C vars cap s H ex) ifs tt) (he:∀s H C ex,PE (zay X scope C vars cap s H ex) elt te)
  (hs:∀x,foldedSetIterable iter X.env x=pure x:=by intro _;rfl):PE X (.ListComp elt [⟨tg,iter,ifs,0⟩] scope pos) (zyp wi g tt te vars.length cap):=by
 intro pins s σ H Q I h;rw[eval_ListComp];refine wpAny_comprehension_free (use:=none) rfl hs (zha (S.cells I)) S.kind S.names ?_;refine thn (hi pins s σ H _ I h) λv s1 h1=>thn h1 λitv s2 h2=>?_
 obtain⟨it,fp,tn,J,H2,e,I2,T,st2,f2,q2⟩:=h2;subst e;refine zhb (RR:=λacc C=>compPost (model X.prog X.w) X.A X.xe none (EP X pins σ Q) acc C) (Q:=λys H'=>∀D,H' D=none->Q (.ref D) (upd H' D (.lst ys))) hc S hcap I2 T st2 f2 hg ht he q2 ?_;intro D C ys H' s' m hq hD I' hn hC hCL hCs hCc hCp;refine⟨m,hn,λh'' hs''=>⟨.ref D,_,?_,rfl,hq D hD⟩⟩;exact I'.turned (it:=C) (t':=s'.toks) (λb o hb e=>hs''.extBut b o hb e) hC hCL (.inr hCs) hCc hCp
theorem znz {i:Nat}{x:Str}{pos' spos:Pos} (hN:X.N.Nodup) (hx0:X.N[i]?=some x) (hx:X.env.scope.names.lookup x=some .local) (hc:X.calm=true) (S:CScope X scope) (hcap:∀i∈cap,i<X.N.length/\scope.names.lookup (X.N.getD i "")≠some .local) (hi:PI X tg iter wi)
  (hg:∀s H C ex,PG (zay X scope C vars cap s H ex) tg g) (ht:∀s H C ex,ztd (zay X scope C vars cap s H ex) ifs tt) (he:∀s H C ex,PE (zay X scope C vars cap s H ex) elt te)
  (hsw:swapsWith (.ListComp elt [⟨tg,iter,ifs,0⟩] scope pos) (some (.Name x pos')) spos.line X.env=pure true:=by rfl)
  (hs:∀x,foldedSetIterable iter X.env x=pure x:=by intro _;rfl):PS X (.Assign [.Name x pos'] (.ListComp elt [⟨tg,iter,ifs,0⟩] scope pos) spos) (z8u (zyp wi g tt te vars.length cap) (zs4 i)):=by
 intro pins s σ H D I h;rw[exec_Assign_Name_used _ _ _ _ hsw];refine aa (uj (aa ?_));show wpAny _ X.A (do let _ ← comprehension (.ListComp elt [⟨tg,iter,ifs,0⟩] scope pos) scope X.env _ (newList []) false (eval iter X.env) (some (assign (.Name x pos') X.env))) _ _ s;refine aa (ye (wpAny_comprehension_free (use:=some (assign (.Name x pos') X.env)) (Q:=λ_ s'=>SP X pins D .next s') rfl hs (zha (S.cells I)) S.kind S.names ?_) (λ_ s' hq=>ia (ia hq)) λ_ _ e=>e);refine thn (hi pins s σ H _ I h) λv s1 h1=>thn h1 λitv s2 h2=>?_
 obtain⟨it,fp,tn,J,H2,e,I2,T,st2,f2,q2⟩:=h2;subst e;refine zhb (RR:=λacc C=>compPost (model X.prog X.w) X.A X.xe (some (assign (.Name x pos') X.env)) (λ_ s'=>SP X pins D .next s') acc C) (Q:=λys H'=>∀D',H' D'=none->zs4 i (.ref D') σ (upd H' D' (.lst ys)) D.nx) hc S hcap I2 T st2 f2 hg ht he q2 ?_;intro D' C ys H' s' m hq hD I' hn hC hCL hCs hCc hCp;show wpAny _ X.A (assign (.Name x pos') X.env (.ref D')) _ _ _;refine wpAny_assign_Name (zi1 I' hN hx0 (.inl hx) (v:=.ref D') rfl (λs'' I'' hb=>?_) (.inr hx));obtain⟨a,sb,ha⟩:=hb
 have hCa:C≠a:=by
  rcases ha with z|z
  ·rw[z];exact hCL
  ·exact rf (hCc x a z)
 refine⟨m,hn.sameBut sb hCa,λh'' hs''=>⟨_,_,?_,hq D' hD⟩⟩;exact I''.turned (it:=C) (t':=s''.toks) (λb o hb e=>hs''.extBut b o hb e) hC hCL (.inr hCs) hCc hCp
end
inductive D where
 |sc (v:V)|tup (ds:List D)|lst (ds:List D)|dk (ks:List Key) (ds:List D)|dt (ks:List (List Key)) (ds:List D)|er (n:Str) (ks:List Str) (ds:List D)
noncomputable def zhc{α β:Type}(f:α->β->Bool):List α->List β->Bool
 |[],[]=>true
 |a::as,b::bs=>f a b && zhc f as bs
 |_,_=>false
noncomputable def lex{α β:Type}(eq lt:α->β->Bool):List α->List β->Bool
 |[],[]=>false
 |[],_::_=>true
 |_::_,[]=>false
 |a::as,b::bs=>if eq a b=true then lex eq lt as bs else lt a b
def HD(h:Heap):Nat->D->Value->Prop
 |0,d,u=>match d with|.sc v=>zci v=true/\za7 v u|_=>False
 |k+1,d,u=>match d with
  |.sc v=>zci v=true/\za7 v u
  |.tup ds=>∃a its,u=.ref a/\IsTup h a its.toArray/\Paired (HD h k) ds its
  |.lst ds=>∃a its,u=.ref a/\PlainL h a its.toArray/\Paired (HD h k) ds its
  |_=>False
def Den(K:PySem.W.Frag)(H:Hp):Nat->D->V->Prop
 |0,d,x=>match d with|.sc v=>zci v=true/\x=v|_=>False
 |k+1,d,x=>match d with
  |.sc v=>zci v=true/\x=v
  |.tup ds=>∃a xs,x=.ref a/\SqT K H a xs/\Paired (Den K H k) ds xs
  |.lst ds=>∃a xs,x=.ref a/\SqL K H a xs/\Paired (Den K H k) ds xs
  |_=>False
noncomputable def eqD:Nat->D->D->Bool
 |0,d,e=>match d,e with|.sc a,.sc b=>eqV a b|_,_=>false
 |k+1,d,e=>match d,e with
  |.sc a,.sc b=>eqV a b
  |.tup ds,.tup es=>zhc (eqD k) ds es
  |.lst ds,.lst es=>zhc (eqD k) ds es
  |_,_=>false
noncomputable def ltV:V->V->Bool
 |.int i,.int j=>decide (i<j)
 |.str x,.str y=>decide (x.cps.toList<y.cps.toList)
 |.bl a,.bl b=>decide (b2i a<b2i b)
 |_,_=>false
noncomputable def ltD:Nat->D->D->Bool
 |0,d,e=>match d,e with|.sc a,.sc b=>ltV a b|_,_=>false
 |k+1,d,e=>match d,e with
  |.sc a,.sc b=>ltV a b
  |.tup ds,.tup es=>lex (eqD k) (ltD k) ds es
  |.lst ds,.lst es=>lex (eqD k) (ltD k) ds es
  |_,_=>false
noncomputable def ztf:V->V->Bool
 |.int _,.int _=>true
 |.str _,.str _=>true
 |.bl _,.bl _=>true
 |_,_=>false
def zl2:Nat->D->D->Prop
 |0,d,e=>match d,e with|.sc a,.sc b=>ztf a b=true|_,_=>False
 |k+1,d,e=>match d,e with
  |.sc a,.sc b=>ztf a b=true
  |.tup ds,.tup es=>∀p∈ds.zip es,zl2 k p.1 p.2
  |.lst ds,.lst es=>∀p∈ds.zip es,zl2 k p.1 p.2
  |_,_=>False
theorem Paired.imp2{α β γ:Type}{F:α->β->Prop}{G:γ->β->Prop}{R:γ->α->Prop}(f:∀a b c,F a b->R c a->G c b):∀{l₁:List α}{l₂:List β}{l₃:List γ},Paired F l₁ l₂->Paired R l₃ l₁->Paired G l₃ l₂
 |_,_,_,.nil,.nil=>.nil
 |_,_,_,.cons a b,.cons c d=>.cons (f _ _ _ a c) (Paired.imp2 f b d)
section
variable {X:Cx}{pins:List (Addr×Obj)}{σ:St}{H:Hp}{s:Shared}
theorem Inv.den(I:Inv X pins σ H s):∀{k:Nat}{x:V}{d:D}{u:Value},Den X.K H k d x->za7 x u->HD s.heap k d u:=by
 intro k
 induction k with
 |zero =>
  intro x d u h r
  cases d with
  |sc v=>obtain⟨f,e⟩:=h;subst e;exact⟨f,r⟩
  |_=>exact h.elim
 |succ k ih =>
  intro x d u h r
  cases d with
  |sc v=>obtain⟨f,e⟩:=h;subst e;exact⟨f,r⟩
  |tup ds =>
   obtain⟨a,xs,e,hq,p⟩:=h;subst e;cases r;obtain⟨its,rv,ht,_⟩:=I.tuple hq;exact⟨a,its,rfl,ht,Paired.imp2 (F:=za7) (G:=HD s.heap k) (R:=Den X.K H k) (λx u d r q=>ih q r) rv p⟩
  |lst ds =>
   obtain⟨a,xs,e,hq,p⟩:=h;subst e;cases r;obtain⟨its,rv,ht,_⟩:=I.list hq;exact⟨a,its,rfl,ht,Paired.imp2 (F:=za7) (G:=HD s.heap k) (R:=Den X.K H k) (λx u d r q=>ih q r) rv p⟩
  |_=>exact h.elim
end
theorem zl3:∀{v:V},zci v=true->eqV v v=true
 |.non,_=>rfl
 |.bl b,_=>by simp[eqV]
 |.int i,_=>by simp[eqV]
 |.str x,_=>by simp[eqV]
theorem zcz{h:Heap}{a:Addr}{xs ys:Array Value}(h1:IsTup h a xs)(h2:PlainL h a ys):False:=by
 obtain⟨o,e,c,_⟩:=h1;obtain⟨o',e',c',_⟩:=h2.isList;rw[e]at e';cases e';rw[c]at c';injection c' with q;exact absurd q (by decide)
theorem zpf{h:Heap}{a:Addr}{xs ys:List Value}(h1:IsTup h a xs.toArray)(h2:IsTup h a ys.toArray):xs=ys:=by
 obtain⟨o,e,c,n,d⟩:=h1;obtain⟨o',e',c',n',d'⟩:=h2;rw[e]at e';cases e';rw[d]at d';injection d' with q _
 simpa using q
theorem zpg{h:Heap}{a:Addr}{xs ys:List Value}(h1:PlainL h a xs.toArray)(h2:PlainL h a ys.toArray):xs=ys:=by
 obtain⟨o,e,c,n,d⟩:=h1.isList;obtain⟨o',e',c',n',d'⟩:=h2.isList;rw[e]at e';cases e';rw[d]at d';injection d' with q _
 simpa using q
theorem zfw{h:Heap}{k:Nat}(ih:∀{d e:D}{u:Value},HD h k d u->HD h k e u->eqD k d e=true):∀{ds es:List D}{its:List Value},Paired (HD h k) ds its->Paired (HD h k) es its->zhc (eqD k) ds es=true
 |_,_,_,.nil,.nil=>rfl
 |_,_,_,.cons a b,.cons c d=>by
  show (eqD k _ _ && zhc (eqD k) _ _)=true;rw[ih a c,zfw ih b d];rfl
theorem zbw{v:V}{a:Addr}(f:zci v=true)(r:za7 v (.ref a)):False:=by
 cases v with
 |non=>cases r
 |bl b=>cases r
 |int i=>obtain⟨t,q⟩:=r;cases q
 |str x=>obtain⟨t,q⟩:=r;cases q
 |_=>cases f
theorem zph{h:Heap}:∀{k:Nat}{d e:D}{u:Value},HD h k d u->HD h k e u->eqD k d e=true:=by
 intro k
 induction k with
 |zero =>
  intro d e u h1 h2
  cases d with
  |sc v =>
   cases e with
   |sc w =>
    obtain⟨f,r⟩:=h1;obtain⟨f',r'⟩:=h2;have q:=r.inj r';subst q;exact zl3 f
   |_=>exact h2.elim
  |_=>exact h1.elim
 |succ k ih =>
  intro d e u h1 h2
  cases d with
  |sc v =>
   obtain⟨f,r⟩:=h1
   cases e with
   |sc w =>
    obtain⟨f',r'⟩:=h2;have q:=r.inj r';subst q;exact zl3 f
   |tup es=>obtain⟨a,its,q,_⟩:=h2;subst q;exact(zbw f r).elim
   |lst es=>obtain⟨a,its,q,_⟩:=h2;subst q;exact(zbw f r).elim
   |_=>exact h2.elim
  |tup ds =>
   obtain⟨a,its,q,t1,p1⟩:=h1;subst q
   cases e with
   |sc w=>obtain⟨f,r⟩:=h2;exact(zbw f r).elim
   |tup es =>
    obtain⟨a',its',q,t2,p2⟩:=h2;cases q;have q:=zpf t1 t2;subst q;exact zfw ih p1 p2
   |lst es=>obtain⟨a',its',q,t2,p2⟩:=h2;cases q;exact(zcz t1 t2).elim
   |_=>exact h2.elim
  |lst ds =>
   obtain⟨a,its,q,t1,p1⟩:=h1;subst q
   cases e with
   |sc w=>obtain⟨f,r⟩:=h2;exact(zbw f r).elim
   |lst es =>
    obtain⟨a',its',q,t2,p2⟩:=h2;cases q;have q:=zpg t1 t2;subst q;exact zfw ih p1 p2
   |tup es=>obtain⟨a',its',q,t2,p2⟩:=h2;cases q;exact(zcz t2 t1).elim
   |_=>exact h2.elim
  |_=>exact h1.elim
noncomputable def eAt{α β:Type}(f:α->β->Bool)(ds:List α)(es:List β)(j:Nat):Bool:=match ds[j]?,es[j]? with
 |some a,some b=>f a b
 |_,_=>false
theorem zh1{α β:Type}(f:α->β->Bool)(a:α)(b:β)(ds:List α)(es:List β)(j:Nat):eAt f (a::ds) (b::es) (j+1)=eAt f ds es j:=by
 unfold eAt;simp
theorem zdf{α β:Type}(f:α->β->Bool):∀(ds:List α) (es:List β),ds.length=es.length->(List.range ds.length).all (eAt f ds es)=zhc f ds es
 |[],[],_=>rfl
 |a::as,b::bs,h=>by
  have h':as.length=bs.length:=by simpa using h
  rw[bb,oo,xi,List.all_map]
  have e:(eAt f (a::as) (b::bs) ∘ Nat.succ)=eAt f as bs:=by
   funext j;exact zh1 f a b as bs j
  rw[e,zdf f as bs h'];rfl
 |[],_::_,h=>by simp at h
 |_::_,[],h=>by simp at h
theorem zei{α β:Type}(f:α->β->Bool):∀{ds:List α}{es:List β},ds.length≠es.length->zhc f ds es=false
 |[],[],h=>absurd rfl h
 |a::as,b::bs,h=>by
  show (f a b && zhc f as bs)=false;rw[zei f (by simpa using h),Bool.and_false]
 |[],_::_,_=>rfl
 |_::_,[],_=>rfl
theorem za0{α β:Type}{F:α->β->Prop}:∀{l₁:List α}{l₂:List β}{j:Nat}{b:β},Paired F l₁ l₂->l₂[j]?=some b->∃a,l₁[j]?=some a/\F a b
 |_,_,_,_,.nil,e=>by simp at e
 |_,_,0,_,.cons r _,e=>by simp at e;subst e;exact⟨_,rfl,r⟩
 |_,_,j+1,_,.cons _ t,e=>by
  obtain⟨a,h1,h2⟩:=za0 (j:=j) t (by simpa using e);exact⟨a,by simpa using h1,h2⟩
section
variable {A:Around}{s:Shared}
theorem zdo{k:Nat}(ih:∀{A:Around}{d e:D}{u v:Value},HD s.heap k d u->HD s.heap k e v->A.units+k<cLine->SeqAt.EqAt A s u v (eqD k d e)){ds es:List D}{its its':List Value}(p:Paired (HD s.heap k) ds its)(p':Paired (HD s.heap k) es its')(hu:A.units+(k+1)<cLine)
  (j:Nat) (h1:j<its.toArray.size) (h2:j<its'.toArray.size):SeqAt.EqAt A.in1 s its.toArray[j] its'.toArray[j] (eAt (eqD k) ds es j):=by
 have e1:its[j]?=some its.toArray[j]:=by simp at h1;simp[h1]
 have e2:its'[j]?=some its'.toArray[j]:=by simp at h2;simp[h2]
 obtain⟨d,q1,r1⟩:=za0 p e1;obtain⟨e,q2,r2⟩:=za0 p' e2;have z:eAt (eqD k) ds es j=eqD k d e:=by unfold eAt;rw[q1,q2]
 rw[z];exact ih r1 r2 (by show A.units+1+k<cLine;omega)
theorem zk1{s:Shared}:∀{k:Nat}{A:Around}{d e:D}{u v:Value},HD s.heap k d u->HD s.heap k e v->A.units+k<cLine->SeqAt.EqAt A s u v (eqD k d e):=by
 intro k
 induction k with
 |zero =>
  intro A d e u v h1 h2 hu
  cases d with
  |sc a =>
   cases e with
   |sc b=>exact zv9 h1.2 h2.2 h1.1 h2.1
   |_=>exact h2.elim
  |_=>exact h1.elim
 |succ k ih =>
  intro A d e u v h1 h2 hu;have hu':A.units<cLine:=by omega
  cases d with
  |sc a =>
   cases e with
   |sc b=>exact zv9 h1.2 h2.2 h1.1 h2.1
   |tup es =>
    obtain⟨q,its,rfl,t,_⟩:=h2;obtain⟨f,r⟩:=h1;show SeqAt.EqAt A s u (.ref q) false
    cases a with
    |non=>cases r;exact SeqAt.EqAt.none_tuple t hu'
    |bl b=>cases r;exact SeqAt.EqAt.bool_tuple b t hu'
    |int i=>obtain⟨z,rfl⟩:=r;exact SeqAt.EqAt.int_tuple i z t hu'
    |str x=>obtain⟨z,rfl⟩:=r;exact SeqAt.EqAt.str_tuple x z t hu'
    |_=>cases f
   |lst es =>
    obtain⟨q,its,rfl,t,_⟩:=h2;obtain⟨f,r⟩:=h1;show SeqAt.EqAt A s u (.ref q) false
    cases a with
    |non=>cases r;exact SeqAt.EqAt.none_list t.isList hu'
    |bl b=>cases r;exact SeqAt.EqAt.bool_list b t.isList hu'
    |int i=>obtain⟨z,rfl⟩:=r;exact SeqAt.EqAt.int_list i z t.isList hu'
    |str x=>obtain⟨z,rfl⟩:=r;exact SeqAt.EqAt.str_list x z t.isList hu'
    |_=>cases f
   |_=>exact h2.elim
  |tup ds =>
   cases e with
   |sc b =>
    obtain⟨q,its,rfl,t,_⟩:=h1;obtain⟨f,r⟩:=h2;show SeqAt.EqAt A s (.ref q) v false
    cases b with
    |non=>cases r;exact SeqAt.EqAt.tuple_none t hu'
    |bl b=>cases r;exact SeqAt.EqAt.tuple_bool b t hu'
    |int i=>obtain⟨z,rfl⟩:=r;exact SeqAt.EqAt.tuple_int i z t hu'
    |str x=>obtain⟨z,rfl⟩:=r;exact SeqAt.EqAt.tuple_str x z t hu'
    |_=>cases f
   |lst es =>
    obtain⟨q,its,rfl,t,_⟩:=h1;obtain⟨q',its',rfl,t',_⟩:=h2;exact SeqAt.EqAt.tuple_list t t'.isList hu'
   |tup es =>
    obtain⟨q,its,rfl,t,p⟩:=id h1;obtain⟨q',its',rfl,t',p'⟩:=id h2;by_cases hq:q=q'
    ·subst hq
     rw[zph h1 h2];exact jp _
    ·refine SeqAt.EqAt.of_refs hq ?_
     have z:=SeqAt.RcAt.tuples (e:=eAt (eqD k) ds es) t t' hu' λj h1 h2=>zdo ih p p' hu j h1 h2
     have l1:=p.length;have l2:=p'.length
     have w:eqD (k+1) (.tup ds) (.tup es)=((List.range (min its.toArray.size its'.toArray.size)).all (eAt (eqD k) ds es) && its.toArray.size == its'.toArray.size):=by
      show zhc (eqD k) ds es=_;simp only[oa];rw[<-l1,<-l2];by_cases hl:ds.length=es.length
      ·rw[<-zdf _ _ _ hl,hl,Nat.min_self]
       simp
      ·rw[zei _ hl]
       simp[hl]
     rw[w];exact z
   |_=>exact h2.elim
  |lst ds =>
   cases e with
   |sc b =>
    obtain⟨q,its,rfl,t,_⟩:=h1;obtain⟨f,r⟩:=h2;show SeqAt.EqAt A s (.ref q) v false
    cases b with
    |non=>cases r;exact SeqAt.EqAt.list_none t.isList hu'
    |bl b=>cases r;exact SeqAt.EqAt.list_bool b t.isList hu'
    |int i=>obtain⟨z,rfl⟩:=r;exact SeqAt.EqAt.list_int i z t.isList hu'
    |str x=>obtain⟨z,rfl⟩:=r;exact SeqAt.EqAt.list_str x z t.isList hu'
    |_=>cases f
   |tup es =>
    obtain⟨q,its,rfl,t,_⟩:=h1;obtain⟨q',its',rfl,t',_⟩:=h2;exact SeqAt.EqAt.list_tuple t.isList t' hu'
   |lst es =>
    obtain⟨q,its,rfl,t,p⟩:=id h1;obtain⟨q',its',rfl,t',p'⟩:=id h2;by_cases hq:q=q'
    ·subst hq
     rw[zph h1 h2];exact jp _
    ·refine SeqAt.EqAt.of_refs hq ?_
     have l1:=p.length;have l2:=p'.length;by_cases hl:ds.length=es.length
     ·have z:=SeqAt.RcAt.lists (e:=eAt (eqD k) ds es) t.isList t'.isList (by simp only[oa];omega) hu' λj h1 h2=>zdo ih p p' hu j h1 h2
      have w:eqD (k+1) (.lst ds) (.lst es)=((List.range its.toArray.size).all (eAt (eqD k) ds es)):=by
       show zhc (eqD k) ds es=_;simp only[oa];rw[<-l1,<-zdf _ _ _ hl]
      rw[w];exact z
     ·have w:eqD (k+1) (.lst ds) (.lst es)=false:=zei _ hl
      rw[w];exact SeqAt.RcAt.lists_lengths t.isList t'.isList (by simp only[oa];simp;omega) hu'
   |_=>exact h2.elim
  |_=>exact h1.elim
end
end L2
namespace L2
open PySem PyProof.Rows
def zyr(A:Around)(s:Shared)(y x:Value)(b:Bool):Prop :=
 ∀(prog:Program) (w:World) (E:Value->Shared->Prop) (Q:Value->Shared->Prop),Q (.bool b) s->wpAny (model prog w) A (richCompare .Lt y x) Q E s
noncomputable def zjg(e c:Nat->Bool)(n m:Nat):Nat->Nat->Bool
 |0,_=>decide (n<m)
 |k+1,i=>if i<m then (if e i=true then zjg e c n m k (i+1) else c i) else decide (n<m)
section
open PySem.SeqAt
open PySem.AutoSeq1 (wpAny_loadPart')
open PySem.MeetsSeq PySem.MeetsSeq2 PySem.MeetsSeq3
theorem zpi(l b:Addr)(items items2:Array Value)(n n2:Nat)(dd dd2:Option Addr)(sl sl2:Array (Option Value))(e c:Nat->Bool)(k:Nat) :
  ∀i:Nat,items.size - i=k->Meets (Builtin.«list.__eq__.loop» ⟨[.ref l,.ref b,rawInt i,rawInt 0],[]⟩)
   (λ A R s=>s.heap.get? l=some { cls:=.type "list",dict:=dd,data:=.seq items n,slots:=sl }/\s.heap.get? b=some { cls:=.type "list",dict:=dd2,data:=.seq items2 n2,slots:=sl2 } ∧
    (∀j (h1:j<items.size) (h2:j<items2.size),EqAt A.in1 s items[j] items2[j] (e j)/\(e j=false->zyr A.in1 s items[j] items2[j] (c j))) ∧
    R (.ok (.ret (.bool (zjg e c items.size items2.size k i)))) s):=by
 induction k with
 |zero =>
  intro i hk prog w A R s h;obtain⟨hp,g,d,tk,os⟩:=s;obtain⟨hl,hb,he,h⟩:=h
  wp_walk using ie hl,ie hb
  have hi1:items[((i:Nat):Int).toNat]?=none:=by simp;omega
  rw[hi1]
  wp_walk using ie hl,ie hb
  show R (.ok (.ret (.bool (decide (items.size<items2.size))))) _
  simpa [zjg] using h
 |succ k ih =>
  intro i hk prog w A R s h;obtain⟨hp,g,d,tk,os⟩:=s;obtain⟨hl,hb,he,h⟩:=h
  wp_walk using ie hl,ie hb
  have hlt:i<items.size:=by omega
  have hi1:items[((i:Nat):Int).toNat]?=some items[i]:=by simp[hlt]
  have hc:((i:Int)+1)=((i+1:Nat):Int):=by push_cast;rfl
  rw[hi1];by_cases hlt2:i<items2.size
  ·have hi2:items2[((i:Nat):Int).toNat]?=some items2[i]:=by simp[hlt2]
   rw[hi2];have h:R (.ok (.ret (.bool (if i<items2.size then (if e i=true then zjg e c items.size items2.size k (i+1) else c i) else decide (items.size<items2.size))))) ⟨hp,g,d,tk,os⟩:=h;rw[la hlt2]at h;obtain⟨h1,h2⟩:=he i hlt hlt2;refine aa (h1 prog w _ _ ?_)
   cases hb':e i with
   |true =>
    rw[hb',la rfl]at h
    wp_walk
    rw[hc]
    exact⟨plainId_quiet plain_eq_loop _,codeAny_builtin entry_eq_loop (by
     rw[rh plain_eq_loop _];exact ih (i+1) (by omega) prog w A R _ ⟨hl,hb,he,h⟩)⟩
   |false =>
    rw[hb',wa ua]at h;have hri:=h2 hb' prog w
    wp_walk using ie hl,ie hb
    rw[hi1,hi2]
    wp_walk using hri
    exact h
  ·have hi2:items2[((i:Nat):Int).toNat]?=none:=by simp;omega
   rw[hi2];have h:R (.ok (.ret (.bool (if i<items2.size then (if e i=true then zjg e c items.size items2.size k (i+1) else c i) else decide (items.size<items2.size))))) ⟨hp,g,d,tk,os⟩:=h;rw[wa hlt2]at h
   wp_walk using ie hl,ie hb
   exact h
theorem zjh(l b:Addr)(items items2:Array Value)(n n2:Nat)(dd dd2:Option Addr)(sl sl2:Array (Option Value))(e c:Nat->Bool) :
  Meets (Builtin.«list.__lt__» ⟨[.ref l,.ref b],[]⟩)
   (λ A R s=>s.heap.get? l=some { cls:=.type "list",dict:=dd,data:=.seq items n,slots:=sl }/\s.heap.get? b=some { cls:=.type "list",dict:=dd2,data:=.seq items2 n2,slots:=sl2 } ∧
    (∀j (h1:j<items.size) (h2:j<items2.size),EqAt A.in1 s items[j] items2[j] (e j)/\(e j=false->zyr A.in1 s items[j] items2[j] (c j))) ∧
    R (.ok (.ret (.bool (zjg e c items.size items2.size items.size 0)))) s):=by
 intro prog w A R s h;obtain⟨hp,g,d,tk,os⟩:=s;obtain⟨hl,hb,he,h⟩:=h;have f3:=AutoSeq1.sub_list_list
 wp_walk using ie hl,ie hb
 exact⟨plainId_quiet plain_eq_loop _,codeAny_builtin entry_eq_loop (by
  rw[rh plain_eq_loop _];exact zpi l b items items2 n n2 dd dd2 sl sl2 e c _ 0 rfl prog w A R _ ⟨hl,hb,he,h⟩)⟩
theorem zn0(l b:Addr)(items items2:Array Value)(n n2:Nat)(dd dd2:Option Addr)(sl sl2:Array (Option Value))(e c:Nat->Bool) :
  Meets (Builtin.«tuple.__lt__» ⟨[.ref l,.ref b],[]⟩)
   (λ A R s=>s.heap.get? l=some { cls:=.type "tuple",dict:=dd,data:=.seq items n,slots:=sl }/\s.heap.get? b=some { cls:=.type "tuple",dict:=dd2,data:=.seq items2 n2,slots:=sl2 } ∧
    (∀j (h1:j<items.size) (h2:j<items2.size),EqAt A.in1 s items[j] items2[j] (e j)/\(e j=false->zyr A.in1 s items[j] items2[j] (c j))) ∧
    R (.ok (.ret (.bool (zjg e c items.size items2.size items.size 0)))) s) :=
 .of_wp λprog w A R s h=>by
  obtain⟨hp,g,d,tk,os⟩:=s;obtain⟨hl,hb,he,h⟩:=h;have f2:=AutoSeq1.sub_tuple_tuple;have hZ:(items.toList.zip items2.toList).length=min items.size items2.size:=by simp
  wp_walk using wpAny_loadPart' hl,wpAny_loadPart' hb,wpAny_forIn_list _ (λ rest b s'=>b.1=none/\s'=⟨hp,g,d,tk,os⟩/\∃ i,i<=items.size/\rest=(items.toList.zip items2.toList).drop i ∧
   R (.ok (.ret (.bool (zjg e c items.size items2.size (items.size - i) i)))) ⟨hp,g,d,tk,os⟩) _
  case turn =>
   rintro⟨y,x⟩ rest b s' ⟨hb',rfl,i,hi,hz,hR⟩
   have hlt:i<(items.toList.zip items2.toList).length:=by
    rcases Nat.lt_or_ge i (items.toList.zip items2.toList).length with h'|h'
    ·exact h'
    ·rw[qo h']at hz;cases hz
   have hm:i<min items.size items2.size:=hZ ▸ hlt;have h1:i<items.size:=wb hm (Nat.min_le_left _ _);have h2:i<items2.size:=wb hm (Nat.min_le_right _ _);rw[se hlt]at hz;injection hz with hyx hrest;have hy:y=items[i]:=by have:=ef Prod.fst hyx;simpa using this
   have hx:x=items2[i]:=by have:=ef Prod.snd hyx;simpa using this
   subst hy hx;have hk:items.size - i=(items.size - (i+1))+1:=by omega
   have hd:zjg e c items.size items2.size (items.size - i) i=(if e i=true then zjg e c items.size items2.size (items.size - (i+1)) (i+1) else c i):=by
    rw[hk];show (if i<items2.size then _ else _)=_;rw[la h2]
   rw[hd]at hR;obtain⟨q1,q2⟩:=he i h1 h2;refine aa (q1 prog w _ _ ?_)
   cases hy:e i with
   |true =>
    rw[hy,la rfl]at hR
    wp_walk
    exact⟨rfl,rfl,i+1,h1,hrest,hR⟩
   |false =>
    rw[hy,wa ua]at hR;have hri:=q2 hy prog w
    wp_walk using hri
    exact⟨_,rfl,by simpa using hR⟩
  case fin =>
   rintro⟨b1,b2⟩ s' ⟨hb',rfl,i,hi,hz,hR⟩;simp only at hb';subst hb'
   have hge:min items.size items2.size<=i:=by
    rcases Nat.lt_or_ge i (items.toList.zip items2.toList).length with h'|h'
    ·rw[se h']at hz;cases hz
    ·exact hZ ▸ h'
   have hd:zjg e c items.size items2.size (items.size - i) i=decide (items.size<items2.size):=by
    cases hk:items.size - i with
    |zero=>rfl
    |succ k =>
     show (if i<items2.size then _ else _)=_;rw[wa (by omega)]
   rw[hd]at hR
   wp_walk
   exact⟨_,rfl,by simpa [Builtin.Tuple.tupleCompareSizes] using hR⟩
  case h =>
   exact⟨rfl,rfl,0,ud _,rfl,by simpa using h⟩
end
end L2
namespace L2
open PySem PySem.Spec PyProof.Rows
theorem zl4{α β:Type}(f g:α->β->Bool):∀(ds:List α) (es:List β) (e c:Nat->Bool) (n m i:Nat),n=i+ds.length->m=i+es.length->(∀j,e (i+j)=eAt f ds es j)->(∀j,c (i+j)=eAt g ds es j)->zjg e c n m ds.length i=lex f g ds es
 |[],[],e,c,n,m,i,hn,hm,_,_=>by
  show decide (n<m)=false;exact jc (by simp at hn hm;omega)
 |[],b::bs,e,c,n,m,i,hn,hm,_,_=>by
  show decide (n<m)=true;exact ib (by simp at hn hm;omega)
 |a::as,[],e,c,n,m,i,hn,hm,_,_=>by
  show (if i<m then _ else decide (n<m))=false;rw[wa (by simp at hm;omega)];exact jc (by simp at hn hm;omega)
 |a::as,b::bs,e,c,n,m,i,hn,hm,he,hc=>by
  show (if i<m then (if e i=true then zjg e c n m as.length (i+1) else c i) else decide (n<m))=_;rw[la (by simp at hm;omega)];have e0:e i=f a b:=by have:=he 0;simpa [eAt] using this
  have c0:c i=g a b:=by have:=hc 0;simpa [eAt] using this
  show _=if f a b=true then lex f g as bs else g a b
  rw[e0,c0];by_cases h:f a b=true
  ·rw[la h,la h]
   refine zl4 f g as bs e c n m (i+1) (by simp at hn;omega) (by simp at hm;omega) (λj=>?_) (λj=>?_)
   ·have:=he (j+1);rw[zh1]at this;rw[<-this];congr 1;omega
   ·have:=hc (j+1);rw[zh1]at this;rw[<-this];congr 1;omega
  ·rw[wa h,wa h]
theorem zfx{α β:Type}(f g:α->β->Bool)(ds:List α)(es:List β):zjg (eAt f ds es) (eAt g ds es) ds.length es.length ds.length 0=lex f g ds es :=
 zl4 f g ds es _ _ _ _ 0 (by simp) (by simp) (λj=>by rw[re]) (λj=>by rw[re])
section
variable {A:Around}{s:Shared}
theorem zwc{a b:V}{u v:Value}(ra:za7 a u)(rb:za7 b v)(h:ztf a b=true):zyr A s u v (ltV a b):=by
 cases a with
 |int i =>
  cases b with
  |int j =>
   obtain⟨t,rfl⟩:=ra;obtain⟨t',rfl⟩:=rb;exact λprog w E Q q=>(lt_int q:wpAny (model prog w) A (compareOp .Lt (.int i t) (.int j t')) Q E s)
  |_=>cases h
 |str x =>
  cases b with
  |str y =>
   obtain⟨t,rfl⟩:=ra;obtain⟨t',rfl⟩:=rb;exact λprog w E Q q=>(lt_str q:wpAny (model prog w) A (compareOp .Lt (.str x t) (.str y t')) Q E s)
  |_=>cases h
 |bl x =>
  cases b with
  |bl y =>
   cases ra;cases rb
   exact λprog w E Q q=>(lt_bool q:wpAny (model prog w) A (compareOp .Lt (.bool x) (.bool y)) Q E s)
  |_=>cases h
 |_=>cases b <;> cases h
noncomputable def zl5:D->D->Bool
 |.tup _,.tup _=>true
 |.lst _,.lst _=>true
 |_,_=>false
theorem zk2{α β:Type}:∀{ds:List α}{es:List β}{j:Nat}{a:α}{b:β},ds[j]?=some a->es[j]?=some b->(a,b)∈ds.zip es
 |[],_,_,_,_,h,_=>by simp at h
 |_::_,[],_,_,_,_,h=>by simp at h
 |d::ds,e::es,0,a,b,h1,h2=>by simp at h1 h2;subst h1 h2;simp
 |d::ds,e::es,j+1,a,b,h1,h2=>by
  have:=zk2 (ds:=ds) (es:=es) (j:=j) (a:=a) (b:=b) (by simpa using h1) (by simpa using h2)
  simp[this]
theorem ztg{s:Shared}:∀{k:Nat}{A:Around}{d e:D}{u v:Value},HD s.heap k d u->HD s.heap k e v->zl2 k d e->A.units+k<cLine->zyr A s u v (ltD k d e):=by
 intro k
 induction k with
 |zero =>
  intro A d e u v h1 h2 h hu
  cases d with
  |sc a =>
   cases e with
   |sc b=>exact zwc h1.2 h2.2 h
   |_=>exact h2.elim
  |_=>exact h1.elim
 |succ k ih =>
  intro A d e u v h1 h2 h hu;have hu':A.units<cLine:=by omega
  have items:∀{ds es:List D} {its its':List Value},Paired (HD s.heap k) ds its->Paired (HD s.heap k) es its'->(∀p∈ds.zip es,zl2 k p.1 p.2) →
    ∀j (h1:j<its.toArray.size) (h2:j<its'.toArray.size),SeqAt.EqAt A.in1 s its.toArray[j] its'.toArray[j] (eAt (eqD k) ds es j)/\(eAt (eqD k) ds es j=false->zyr A.in1 s its.toArray[j] its'.toArray[j] (eAt (ltD k) ds es j)):=by
   intro ds es its its' p p' ho j j1 j2;have e1:its[j]?=some its.toArray[j]:=by simp at j1;simp[j1]
   have e2:its'[j]?=some its'.toArray[j]:=by simp at j2;simp[j2]
   obtain⟨d,q1,r1⟩:=za0 p e1;obtain⟨e,q2,r2⟩:=za0 p' e2;have z:eAt (eqD k) ds es j=eqD k d e:=by unfold eAt;rw[q1,q2]
   have z':eAt (ltD k) ds es j=ltD k d e:=by unfold eAt;rw[q1,q2]
   rw[z,z'];exact⟨zk1 r1 r2 (by show A.units+1+k<cLine;omega),λ_=>ih r1 r2 (ho (d,e) (zk2 q1 q2)) (by show A.units+1+k<cLine;omega)⟩
  cases d with
  |sc a =>
   cases e with
   |sc b=>exact zwc h1.2 h2.2 h
   |_=>exact h.elim
  |tup ds =>
   cases e with
   |tup es =>
    obtain⟨q,its,rfl,t,p⟩:=id h1;obtain⟨q',its',rfl,t',p'⟩:=id h2;have l1:=p.length;have l2:=p'.length;have key:=items p p' h;obtain⟨⟨cls,dd,data,sl⟩,ho,hc,n,hd⟩:=id t;obtain⟨⟨cls2,dd2,data2,sl2⟩,ho2,hc2,n2,hd2⟩:=id t';simp only at hc hd hc2 hd2;subst hc hd hc2 hd2;intro prog w E Q hq
    have hq':Q (.bool (zjg (eAt (eqD k) ds es) (eAt (ltD k) ds es) its.toArray.size its'.toArray.size its.toArray.size 0)) s:=by
     simp only[oa];rw[<-l1,<-l2,zfx];exact hq
    exact richCompare_meets_room (op:=.Lt) ⟨_,ho,rfl⟩ ⟨_,ho2,rfl⟩ PySem.F.slot_tuple_lt PySem.F.entry_tuple_lt (PySem.F.args_tuple_lt_2 _ _) (zn0 q q' its.toArray its'.toArray n n2 dd dd2 sl sl2 _ _)
     ⟨ho,ho2,key,⟨(λx=>nomatch x),hq'⟩⟩ hu'
   |_=>exact h.elim
  |lst ds =>
   cases e with
   |lst es =>
    obtain⟨q,its,rfl,t,p⟩:=id h1;obtain⟨q',its',rfl,t',p'⟩:=id h2;have l1:=p.length;have l2:=p'.length;have key:=items p p' h;obtain⟨⟨cls,dd,data,sl⟩,ho,hc,n,hd⟩:=t.isList;obtain⟨⟨cls2,dd2,data2,sl2⟩,ho2,hc2,n2,hd2⟩:=t'.isList;simp only at hc hd hc2 hd2;subst hc hd hc2 hd2;intro prog w E Q hq
    have hq':Q (.bool (zjg (eAt (eqD k) ds es) (eAt (ltD k) ds es) its.toArray.size its'.toArray.size its.toArray.size 0)) s:=by
     simp only[oa];rw[<-l1,<-l2,zfx];exact hq
    exact richCompare_meets_room (op:=.Lt) ⟨_,ho,rfl⟩ ⟨_,ho2,rfl⟩ PySem.F.slot_list_lt PySem.F.entry_list_lt (PySem.F.args_list_lt_2 _ _) (zjh q q' its.toArray its'.toArray n n2 dd dd2 sl sl2 _ _)
     ⟨ho,ho2,key,⟨(λx=>nomatch x),hq'⟩⟩ hu'
   |_=>exact h.elim
  |_=>exact h1.elim
theorem zys{k:Nat}{d e:D}{u v:Value}(h1:HD s.heap (k+1) d u)(h2:HD s.heap (k+1) e v)(hk:zl5 d e=true)(hu:A.units+(k+1)<cLine):SeqAt.RcAt A s u v (eqD (k+1) d e):=by
 have hu':A.units<cLine:=by omega
 cases d with
 |sc a=>cases e <;> cases hk
 |tup ds =>
  cases e with
  |tup es =>
   obtain⟨q,its,rfl,t,p⟩:=id h1;obtain⟨q',its',rfl,t',p'⟩:=id h2;have z:=SeqAt.RcAt.tuples (e:=eAt (eqD k) ds es) t t' hu' λj h1 h2=>zdo zk1 p p' hu j h1 h2
   have l1:=p.length;have l2:=p'.length
   have w:eqD (k+1) (.tup ds) (.tup es)=((List.range (min its.toArray.size its'.toArray.size)).all (eAt (eqD k) ds es) && its.toArray.size == its'.toArray.size):=by
    show zhc (eqD k) ds es=_;simp only[oa];rw[<-l1,<-l2];by_cases hl:ds.length=es.length
    ·rw[<-zdf _ _ _ hl,hl,Nat.min_self]
     simp
    ·rw[zei _ hl]
     simp[hl]
   rw[w];exact z
  |_=>cases hk
 |lst ds =>
  cases e with
  |lst es =>
   obtain⟨q,its,rfl,t,p⟩:=id h1;obtain⟨q',its',rfl,t',p'⟩:=id h2;have l1:=p.length;have l2:=p'.length;by_cases hl:ds.length=es.length
   ·have z:=SeqAt.RcAt.lists (e:=eAt (eqD k) ds es) t.isList t'.isList (by simp only[oa];omega) hu' λj h1 h2=>zdo zk1 p p' hu j h1 h2
    have w:eqD (k+1) (.lst ds) (.lst es)=((List.range its.toArray.size).all (eAt (eqD k) ds es)):=by
     show zhc (eqD k) ds es=_;simp only[oa];rw[<-l1,<-zdf _ _ _ hl]
    rw[w];exact z
   ·have w:eqD (k+1) (.lst ds) (.lst es)=false:=zei _ hl
    rw[w];exact SeqAt.RcAt.lists_lengths t.isList t'.isList (by simp only[oa];simp;omega) hu'
  |_=>cases hk
 |_=>exact h1.elim
end
section
variable {X:Cx}
noncomputable def z88(K:PySem.W.Frag)(k:Nat):R2:=λx y H Q=>∃d e,Den K H (k+1) d x/\Den K H (k+1) e y/\zl5 d e=true/\Q (.bl (eqD (k+1) d e)) H
noncomputable def yby(K:PySem.W.Frag)(k:Nat):R2:=λx y H Q=>∃d e,Den K H (k+1) d x/\Den K H (k+1) e y/\zl2 (k+1) d e/\Q (.bl (ltD (k+1) d e)) H
theorem z3j(k:Nat)(hu:X.A.units+(k+1)<cLine):OpR X (compareOp .Eq) (z88 X.K k):=by
 intro pins s σ H x y v u Q I rx ry h;obtain⟨d,e,h1,h2,hk,q⟩:=h;exact zys (I.den h1 rx) (I.den h2 ry) hk hu X.prog X.w X.xe _ ⟨.bl _,H,I,rfl,q⟩
theorem z3k(k:Nat)(hu:X.A.units+(k+1)<cLine):OpR X (compareOp .Lt) (yby X.K k):=by
 intro pins s σ H x y v u Q I rx ry h;obtain⟨d,e,h1,h2,hk,q⟩:=h;exact ztg (I.den h1 rx) (I.den h2 ry) hk hu X.prog X.w X.xe _ ⟨.bl _,H,I,rfl,q⟩
end
section
variable {X:Cx}
example (K:PySem.W.Frag):PySem.W.kitOne K (.type "int") (.type "int")=some true:=by rfl
example (K:PySem.W.Frag):PySem.W.kitOne K (.type "bool") (.type "int")=some true:=by rfl
example (K:PySem.W.Frag):PySem.W.kitOne K (.type "int") (.type "bool")=some false:=by rfl
example (K:PySem.W.Frag):PySem.W.kitOne K (.type "list") (.type "list")=some true:=by rfl
end
section
variable {X:Cx}{a b c e o:Expr}{ta tb tc te to:TE}{pos:Pos}
theorem PE.imp{t t':TE}(h:PE X e t)(f:∀σ H Q,t' σ H Q->t σ H Q):PE X e t':=λpins s σ H Q I q=>h pins s σ H Q I (f σ H Q q)
theorem PT.imp{t t':TT}(h:PT X e t)(f:∀σ H Q,t' σ H Q->t σ H Q):PT X e t':=λpins s σ H Q I q=>h pins s σ H Q I (f σ H Q q)
theorem OpR.imp{f:Value->Value->Sem Value}{r r':R2}(h:OpR X f r)(g:∀x y H Q,r' x y H Q->r x y H Q):OpR X f r':=λpins s σ H x y v u Q I rx ry q=>h pins s σ H x y v u Q I rx ry (g x y H Q q)
theorem zb6.imp{f:Value}{r r':List V->Hp->VK->Prop}(h:zb6 X f r)(g:∀xs H Q,r' xs H Q->r xs H Q):zb6 X f r':=λpins s σ H xs us Q I rv q=>h pins s σ H xs us Q I rv (g xs H Q q)
theorem IxR.imp{r r':R2}(h:IxR X r)(g:∀x y H Q,r' x y H Q->r x y H Q):IxR X r':=λvalue slice pins s σ H x y v u Q I rx ry q hs=>h value slice pins s σ H x y v u Q I rx ry (g x y H Q q) hs
theorem MtR.imp{id:String}{r r':V->List V->Hp->VK->Prop}(h:MtR X id r)(g:∀x xs H Q,r' x xs H Q->r x xs H Q):MtR X id r':=λpins s σ H x xs v us Q I rx rv q=>h pins s σ H x xs v us Q I rx rv (g x xs H Q q)
theorem SlR.imp{r r':V->Option Int->Option Int->Hp->VK->Prop}(h:SlR X r)(g:∀x lo hi H Q,r' x lo hi H Q->r x lo hi H Q):SlR X r':=λpins s σ H x v vl vu lo hi sl Q I rx hs pl pu q=>h pins s σ H x v vl vu lo hi sl Q I rx hs pl pu (g x lo hi H Q q)
theorem PI.imp{tg:Expr}{wi wi':TI}(h:PI X tg e wi)(g:∀σ H R,wi' σ H R->wi σ H R):PI X tg e wi':=λpins s σ H R I q=>h pins s σ H R I (g σ H R q)
theorem PG.imp{tg:Expr}{t t':TG}(h:PG X tg t)(g:∀v σ H Q,t' v σ H Q->t v σ H Q):PG X tg t':=λpins s σ H v u Q I r q=>h pins s σ H v u Q I r (g v σ H Q q)
noncomputable def k2(C:Int->Int->Prop)(g:Int->Int->V):R2:=λx y H Q=>match x,y with|.int i,.int j=>C i j/\Q (g i j) H|_,_=>False
noncomputable def k20(g:Int->Int->V):R2:=λx y H Q=>match x,y with|.int i,.int j=>Q (g i j) H|_,_=>False
theorem zth{f:Value->Value->Sem Value}{C:Int->Int->Prop}{g:Int->Int->V}(h:OpR X f (rI C g)):OpR X f (k2 C g):=h.imp λx y H Q q=>by
 unfold k2 at q
 split at q
 ·exact⟨_,_,rfl,rfl,q⟩
 ·exact q.elim
theorem zhd{f:Value->Value->Sem Value}{g:Int->Int->V}(h:OpR X f (rI0 g)):OpR X f (k20 g):=h.imp λx y H Q q=>by
 unfold k20 at q
 split at q
 ·exact⟨_,_,rfl,rfl,q⟩
 ·exact q.elim
theorem z89:OpR X (binaryOp .Add) (k20 λi j=>.int (i+j)):=zhd z21
theorem zn1:OpR X (binaryOp .Sub) (k20 λi j=>.int (i - j)):=zhd z22
theorem zb1:OpR X (binaryOp .FloorDiv) (k2 z8x λi j=>.int (i / j)):=zth zyc
theorem zb9:OpR X (binaryOp .Mod) (k2 (λ_ j=>0<j) λi j=>.int (i % j)):=zth z23
theorem zyt:OpR X (binaryOp .Pow) (k2 z8y λi j=>.int (i ^ j.toNat)):=zth z24
theorem ybz:OpR X (compareOp .Lt) (k20 λi j=>.bl (decide (i<j))):=zhd z80
theorem yb0:OpR X (compareOp .LtE) (k20 λi j=>.bl (decide (i<=j))):=zhd z81
theorem z9a:OpR X (compareOp .Gt) (k20 λi j=>.bl (decide (j<i))):=zhd z82
theorem yc1:OpR X (compareOp .GtE) (k20 λi j=>.bl (decide (j<=i))):=zhd z83
noncomputable def kEq(neg:Bool):R2:=λx y H Q=>match x,y with
 |.int i,.int j=>Q (.bl (if neg then !decide (i=j) else decide (i=j))) H
 |.str i,.str j=>Q (.bl (if neg then !decide (i=j) else decide (i=j))) H
 |.bl i,.bl j=>Q (.bl (if neg then !decide (i=j) else decide (i=j))) H
 |_,_=>False
theorem zpj{p q:Prop}[Decidable p][Decidable q](h:p↔q):decide p=decide q:=by
 by_cases hp:p
 ·rw[ib hp,ib (h.mp hp)]
 ·rw[jc hp,jc λz=>hp (h.mpr z)]
theorem yc2:OpR X (compareOp .Eq) (kEq false):=z8z.imp λx y H Q q=>by
 unfold kEq at q
 split at q
 ·exact⟨rfl,by rw[zpj (q:=_=_) ⟨λz=>V.int.inj z,λz=>ef V.int z⟩];exact q⟩
 ·exact⟨rfl,by rw[zpj (q:=_=_) ⟨λz=>V.str.inj z,λz=>ef V.str z⟩];exact q⟩
 ·exact⟨rfl,by rw[zpj (q:=_=_) ⟨λz=>V.bl.inj z,λz=>ef V.bl z⟩];exact q⟩
 ·exact q.elim
noncomputable def zyu(t:TE):TT:=λσ H Q=>t σ H λx H'=>match x with|.bl k=>Q k H'|_=>False
theorem zji{x:V}{P:Bool->Prop}(q:match x with|.bl k=>P k|_=>False):∃k,x=.bl k/\P k:=by
 split at q
 ·exact⟨_,rfl,q⟩
 ·exact q.elim
theorem z3l{op:CmpOp}{r:R2}(ho:OpR X (compareOp op) r)(ha:PE X a ta)(hb:PE X b tb)(hm:behindInMarks op b=false):PT X (.Compare a [op] [b] pos) (zyu (tOp r ta tb)):=by
 intro pins s σ H Q I h;refine wpAny_isTrue_Compare1 (z7v ha hb I h λv u s2 x y H2 I2 rx ry q=>thn (ho pins s2 σ H2 x y v u _ I2 rx ry q) λz s3 ⟨x3,H3,I3,r3,q3⟩=>?_) hm;obtain⟨k,rfl,q⟩:=zji q3;cases r3;exact gg ⟨H3,I3,q⟩
theorem z3m{t:TE}(h:PE X e t)(he:∀whole,isTrue e X.env whole=(do let v ← whole;standAt e.pos;holding [v] (truthy v)):=by intro _;rfl):PT X e (zyu t):=by
 intro pins s σ H Q I hw;refine isTrue_plain (thn (h pins s σ H _ I hw) λv s1 ⟨x,H1,I1,r1,q1⟩=>?_) (he _);obtain⟨k,rfl,q⟩:=zji q1;cases r1;exact gg ⟨H1,I1,q⟩
noncomputable def z9b(ta tb:TE):TE:=λσ H Q=>ta σ H λx H1=>match x with|.bl c=>if c=true then tb σ H1 Q else Q (.bl false) H1|_=>False
noncomputable def yc3(ta tb:TE):TE:=λσ H Q=>ta σ H λx H1=>match x with|.bl c=>if c=true then Q (.bl true) H1 else tb σ H1 Q|_=>False
noncomputable def z9c(ta:TE):TE:=λσ H Q=>ta σ H λx H1=>match x with|.bl c=>Q (.bl (!c)) H1|_=>False
variable {rest:List Expr}
theorem z3n(ha:PE X a ta)(hb:PE X (.BoolOp .And (b::rest) pos) tb):PE X (.BoolOp .And (a::b::rest) pos) (z9b ta tb):=by
 intro pins s σ H Q I h;refine BoolOp_and (thn (ha pins s σ H _ I h) λv s1 ⟨x,H1,I1,r1,q1⟩=>?_);obtain⟨c,rfl,q1⟩:=zji q1;cases r1;refine gg ?_
 cases c with
 |true=>exact hb pins s1 σ H1 Q I1 q1
 |false=>exact⟨.bl false,H1,I1,rfl,q1⟩
theorem z9d(ha:PE X a ta)(hb:PE X (.BoolOp .Or (b::rest) pos) tb):PE X (.BoolOp .Or (a::b::rest) pos) (yc3 ta tb):=by
 intro pins s σ H Q I h;refine BoolOp_or (thn (ha pins s σ H _ I h) λv s1 ⟨x,H1,I1,r1,q1⟩=>?_);obtain⟨c,rfl,q1⟩:=zji q1;cases r1;refine gg ?_
 cases c with
 |false=>exact hb pins s1 σ H1 Q I1 q1
 |true=>exact⟨.bl true,H1,I1,rfl,q1⟩
theorem z3o(ha:PE X a ta):PE X (.UnaryOp .Not a pos) (z9c ta):=by
 intro pins s σ H Q I h;refine UnaryOp_ (thn (ha pins s σ H _ I h) λv s1 ⟨x,H1,I1,r1,q1⟩=>?_);obtain⟨c,rfl,q1⟩:=zji q1;cases r1;exact not_of (gg ⟨.bl (!c),H1,I1,rfl,q1⟩)
theorem z3p{f:Int->V}(h:UnR X (unaryOp .USub) (rU f)):UnR X (unaryOp .USub) (λx H Q=>match x with|.int i=>Q (f i) H|_=>False):=λpins s σ H x v Q I rx q=>h pins s σ H x v Q I rx (by
 dsimp only at q
 split at q
 ·exact⟨_,rfl,q⟩
 ·exact q.elim)
theorem z9e:UnR X (unaryOp .USub) (λx H Q=>match x with|.int i=>Q (.int (-i)) H|_=>False):=z3p z25
noncomputable def z9f(K:PySem.W.Frag):R2:=λx y H Q=>match x,y with|.ref p,.int i=>∃xs v,SqL K H p xs/\atI xs i=some v/\Q v H|_,_=>False
noncomputable def z9g(K:PySem.W.Frag):R2:=λx y H Q=>match x,y with|.ref p,.int i=>∃xs v,SqT K H p xs/\atI xs i=some v/\Q v H|_,_=>False
noncomputable def z9h:R2:=λx y H Q=>match x,y with|.str z,.int i=>z.length<=sizeLine/\∃c,atI z.cps.toList i=some c/\Q (.str ⟨#[c]⟩) H|_,_=>False
theorem zyv:IxR X (z9f X.K):=zym.imp λx y H Q q=>by
 unfold z9f at q
 split at q
 ·obtain⟨xs,v,h1,h2,q⟩:=q;exact⟨_,xs,_,v,rfl,rfl,h1,h2,q⟩
 ·exact q.elim
theorem z3q:IxR X (z9g X.K):=z3d.imp λx y H Q q=>by
 unfold z9g at q
 split at q
 ·obtain⟨xs,v,h1,h2,q⟩:=q;exact⟨_,xs,_,v,rfl,rfl,h1,h2,q⟩
 ·exact q.elim
theorem z3r:IxR X z9h:=z3e.imp λx y H Q q=>by
 unfold z9h at q
 split at q
 ·obtain⟨h1,c,h2,q⟩:=q;exact⟨_,_,c,rfl,rfl,h1,h2,q⟩
 ·exact q.elim
noncomputable def z9i(t:TE):TO:=λσ H Q=>t σ H λx H1=>match x with|.int i=>Q (some i) H1|_=>False
theorem zyw{x:V}{P:Int->Prop}(q:match x with|.int k=>P k|_=>False):∃k,x=.int k/\P k:=by
 split at q
 ·exact⟨_,rfl,q⟩
 ·exact q.elim
theorem zpk{x:V}{P:Addr->Prop}(q:match x with|.ref k=>P k|_=>False):∃k,x=.ref k/\P k:=by
 split at q
 ·exact⟨_,rfl,q⟩
 ·exact q.elim
theorem zyx{x:V}{P:Str->Prop}(q:match x with|.str k=>P k|_=>False):∃k,x=.str k/\P k:=by
 split at q
 ·exact⟨_,rfl,q⟩
 ·exact q.elim
theorem zyy(h:PE X e te):PO X (some e) (z9i te):=by
 intro pins s σ H Q I hw;rw[evalPart_some];refine thn (h pins s σ H _ I hw) λu s1 ⟨x,H1,I1,r1,q1⟩=>?_
 obtain⟨i,rfl,q⟩:=zyw q1;obtain⟨t,rfl⟩:=r1;exact⟨some i,H1,I1,.int i t,q⟩
def z9j(K:PySem.W.Frag):V->Option Int->Option Int->Hp->VK->Prop:=λx lo hi H Q=>match x with|.ref a=>∃xs,SqL K H a xs/\∀p,H p=none->Q (.ref p) (upd H p (.lst (zom xs lo hi)))|_=>False
theorem zyz:SlR X (z9j X.K):=zyn.imp λx lo hi H Q q=>by
 unfold z9j at q;obtain⟨a,rfl,xs,h,q⟩:=zpk q;exact⟨a,xs,rfl,h,q⟩
noncomputable def zy0:R2:=λx y H Q=>match x,y with|.str i,.str j=>i.length+j.length<=sizeLine/\Q (.str (i++j)) H|_,_=>False
theorem z3s:OpR X (binaryOp .Add) zy0:=zns.imp λx y H Q q=>by
 unfold zy0 at q
 split at q
 ·exact⟨_,_,rfl,rfl,q⟩
 ·exact q.elim
noncomputable def zti(neg:Bool):R2:=λx y H Q=>match x,y with|.str i,.str j=>Q (.bl (if neg then !Txt.contains j i else Txt.contains j i)) H|_,_=>False
theorem z9k:OpR X (compareOp .In) (zti false):=zoz.imp λx y H Q q=>by
 unfold zti at q
 split at q
 ·exact⟨_,_,rfl,rfl,q⟩
 ·exact q.elim
theorem ztj:OpR X (compareOp .NotIn) (zti true):=zi3.imp λx y H Q q=>by
 unfold zti at q
 split at q
 ·exact⟨_,_,rfl,rfl,q⟩
 ·exact q.elim
def zy1(K:PySem.W.Frag):List V->Hp->VK->Prop:=λxs H Q=>match xs with|[.ref p]=>∃ys,(SqL K H p ys\/SqT K H p ys)/\Q (.int ys.length) H|_=>False
theorem z3t:zb6 X (.builtin "len") (zy1 X.K):=zjb.imp λxs H Q q=>by
 unfold zy1 at q
 split at q
 ·obtain⟨ys,h,q⟩:=q;exact⟨_,ys,rfl,h,q⟩
 ·exact q.elim
def zy2:List V->Hp->VK->Prop:=λxs H Q=>match xs with|[.str z]=>z.length<=sizeLine/\Q (.int z.length) H|_=>False
theorem zy3:zb6 X (.builtin "len") zy2:=zjc.imp λxs H Q q=>by
 unfold zy2 at q
 split at q
 ·exact⟨_,rfl,q⟩
 ·exact q.elim
def zy4(K:PySem.W.Frag):List V->Hp->VK->Prop:=λxs H Q=>match xs with|[.ref p]=>∃ys,(SqL K H p ys\/SqT K H p ys)/\∀l,H l=none->Q (.ref l) (upd H l (.lst ys))|_=>False
theorem zpl:zb6 X (.type "list") (zy4 X.K):=zjd.imp λxs H Q q=>by
 unfold zy4 at q
 split at q
 ·obtain⟨ys,h,q⟩:=q;exact⟨_,ys,rfl,h,q⟩
 ·exact q.elim
def zy5:List V->Hp->VK->Prop:=λxs H Q=>match xs with|[.bl k]=>Q (.int (if k then 1 else 0)) H|[.int i]=>Q (.int i) H|_=>False
theorem zwd:zb6 X (.type "int") zy5:=zo1.imp λxs H Q q=>by
 unfold zy5 at q
 split at q
 ·exact .inr ⟨_,rfl,q⟩
 ·exact .inl ⟨_,rfl,q⟩
 ·exact q.elim
def zpm:V->List V->Hp->VK->Prop:=λx vs H Q=>match x,vs with|.ref l,[y]=>∃xs,H l=some (.lst xs)/\xs.length<sizeLine/\Q .non (upd H l (.lst (xs++[y])))|_,_=>False
theorem zjj:MtR X "list.append" zpm:=MtR.imp (r:=zpa) zpb λx vs H Q q=>by
 unfold zpm at q
 split at q
 ·obtain⟨xs,h1,h2,q⟩:=q;exact⟨_,xs,_,rfl,rfl,h1,h2,q⟩
 ·exact q.elim
variable {tg l:Expr}{tl:TE}
noncomputable def z9l(ta:TA):TI:=λσ H R=>ta σ H λvs H1=>match vs with|[.int j] => -(2 ^ 62)<=j/\j<2 ^ 62/\R (Itr 0 j.toNat) H1|_=>False
noncomputable def z9m(ta:TA):TI:=λσ H R=>ta σ H λvs H1=>match vs with|[.int i,.int j]=>(-(2 ^ 62)<=i/\i<2 ^ 62 /\ -(2 ^ 62)<=j/\j<2 ^ 62)/\R (Itr i (j - i).toNat) H1|_=>False
theorem PA.imp{es:List Expr}{t t':TA}(h:PA X es t)(f:∀σ H Q,t' σ H Q->t σ H Q):PA X es t':=λp pins s σ H Q I q=>h p pins s σ H Q I (f σ H Q q)
theorem zpn {ta:TA}{p:Pos} (hg:Gl X "range") (hm:X.mg "range" = none) (ha:PA X [a] ta) (hs:starEach [a] X.env=[(false,eval a X.env)]:=by rfl):PI X tg (.Call (.Name "range" p) [a] [] pos) (z9l ta):=by
 intro pins s σ H R I h;refine Call_ (zef I hg hm boot_range (kg (thn (ha pos pins s σ H _ I h) λus s1 ⟨vs,H1,I1,r1,q1⟩=>?_) hs rfl));dsimp only at q1
 split at q1
 ·obtain⟨q1,q2,q⟩:=q1
  cases r1 with
  |cons r rr =>
   cases rr;obtain⟨t,rfl⟩:=r
   exact call_range_1 (zly I1 (by omega) (by omega) q1 q2 (by simpa using q))
 ·exact q1.elim
theorem zpo {ta:TA}{p:Pos} (hg:Gl X "range") (hm:X.mg "range" = none) (ha:PA X [a,b] ta) (hs:starEach [a,b] X.env=[(false,eval a X.env),(false,eval b X.env)]:=by rfl) (hs2:starEach [b] X.env=[(false,eval b X.env)]:=by rfl) :
  PI X tg (.Call (.Name "range" p) [a,b] [] pos) (z9m ta):=by
 intro pins s σ H R I h;refine Call_ (zef I hg hm boot_range (kg (thn (ha pos pins s σ H _ I h) λus s1 ⟨vs,H1,I1,r1,q1⟩=>?_) (by rw[hs,hs2]) (by rw[hs2];rfl)));dsimp only at q1
 split at q1
 ·obtain⟨⟨q1,q2,q3,q4⟩,q⟩:=q1
  cases r1 with
  |cons r rr =>
   cases rr with
   |cons r' rr =>
    cases rr;obtain⟨t,rfl⟩:=r
    obtain⟨t',rfl⟩:=r';exact call_range_2 (zly I1 q1 q2 q3 q4 q)
 ·exact q1.elim
noncomputable def z3u:TGs:=λvs σ H Q=>match vs with|[]=>Q σ H|_=>False
noncomputable def zwe(t:TG)(u:TGs):TGs:=λvs σ H Q=>match vs with|v::r=>t v σ H λσ' H'=>u r σ' H' Q|[]=>False
theorem zy6:PGs X [] z3u:=λpins s σ H vs us Q I r h=>zyb pins s σ H vs us Q I r (by
 unfold z3u at h
 split at h
 ·exact⟨rfl,h⟩
 ·exact h.elim)
theorem ztk{es:List Expr}{t:TG}{u:TGs}(h1:PG X e t)(h2:PGs X es u)(hs:(assignEach (e::es) X.env).map (·.2)=assign e X.env::(assignEach es X.env).map (·.2):=by rfl):PGs X (e::es) (zwe t u) :=
 λ pins s σ H vs us Q I r h=>zs5 h1 h2 hs pins s σ H vs us Q I r (by
  unfold zwe at h
  split at h
  ·exact⟨_,_,rfl,h⟩
  ·exact h.elim)
noncomputable def z3v(K:PySem.W.Frag)(n:Nat)(t:TGs):TG:=λv σ H Q=>match v with|.ref a=>∃xs,SqT K H a xs/\xs.length=n/\t xs σ H Q|_=>False
theorem z3w{es:List Expr}{k:Nat}{t:TGs}{n:Nat}(hc:X.calm=true)(h:PGs X es t)(hn:(assignEach es X.env).length=n:=by rfl)(hst:(assignEach es X.env).findIdx? (·.1)=none:=by rfl):PG X (.Tuple es k pos) (z3v X.K n t) :=
 (z2z hc h hn hst).imp λv σ H Q q=>by
  unfold z3v at q;obtain⟨a,rfl,xs,h1,h2,q⟩:=zpk q;exact⟨a,xs,rfl,h1,h2,q⟩
inductive AllC {α:Type} (p:α->Prop):List α->Prop
 |nil:AllC p []
 |cons {x:α} {l:List α}:p x->AllC p l->AllC p (x::l)
theorem AllC.mem{α:Type}{p:α->Prop}:∀{l:List α},AllC p l->∀x∈l,p x
 |_,.nil,x,h=>by cases h
 |_,.cons a b,x,h=>by
  rcases pb.mp h with rfl|h
  ·exact a
  ·exact b.mem x h
theorem zjk{scope:Scope}(L:List Str)(h1:scope.kind=.function)(h2:∀y∈scope.names,y.2≠.cell)(h3:∀y∈scope.names,y.2=.local->scope.names.lookup y.1=some .local)(h4:∀y∈scope.names,y.2=.free->y.1∈L)(h5:AllC (λx=>X.env.kindOf x=some .cell\/X.env.kindOf x=some .free) L):CScope X scope :=
 ⟨h1,h2,h3,λy hy hf=>h5.mem y.1 (h4 y hy hf)⟩
theorem z3x {scope:Scope}{cap:List Nat} (h:AllC (λi=>i<X.N.length/\scope.names.lookup (X.N.getD i "")≠some .local) cap):∀i∈cap,i<X.N.length/\scope.names.lookup (X.N.getD i "")≠some .local:=h.mem
structure Df(K:PySem.W.Frag)(mg:Str->Option Value)(x:Str)(st:Stmt)(ps:List Str)(f:Addr)(fd:FuncData):Prop where
 F:Fun K x x st f fd
 m:mg x=some (.ref f)
 b:zch K fd ps []
theorem zdx:bootBuiltins "len" = some (.builtin "len"):=by decide +kernel
theorem zcd:bootBuiltins "isinstance" = some (.builtin "isinstance"):=by decide +kernel
theorem zfy:bootBuiltins "sorted" = some (.builtin "sorted"):=by decide +kernel
theorem zwf:bootBuiltins "min" = some (.builtin "min"):=by decide +kernel
theorem z3y:bootBuiltins "abs" = some (.builtin "abs"):=by decide +kernel
theorem zk3:bootBuiltins "reversed" = some (.type "reversed"):=by decide +kernel
theorem zpp:bootBuiltins "int" = some (.type "int"):=by decide +kernel
theorem zy7:bootBuiltins "bool" = some (.type "bool"):=by decide +kernel
theorem zk4:bootBuiltins "list" = some (.type "list"):=by decide +kernel
theorem zh2:bootBuiltins "tuple" = some (.type "tuple"):=by decide +kernel
theorem zas{H:Hp}{p:Addr}{o:HO}(hp:H p=none):zax H (upd H p o):=λb u e=>by rw[zad (zag e hp)];exact e
theorem zax.seqT{K:PySem.W.Frag}{H H':Hp}{a:Addr}{xs:List V}(e:zax H H')(h:SqT K H a xs):SqT K H' a xs:=by
 rcases h with(h|⟨o,h⟩)|h
 ·exact .inl (.inl (e _ _ h))
 ·exact .inl (.inr ⟨o,e _ _ h⟩)
 ·exact .inr h
end
end L2
set_option maxHeartbeats 1000000
namespace L2
open PySem PySem.Spec PyProof.Rows
noncomputable def S(l:List Nat):Str:=⟨l.toArray⟩
theorem za9(l:List Nat):(S l).cps.toList=l:=rfl
theorem zfi(l:List Nat):(S l).length=l.length:=by simp[S,Str.length]
theorem ztl{l m:List Nat}:S l=S m↔l=m:=⟨λh=>by have:=ef (λx:Str=>x.cps.toList) h;exact this,λh=>by rw[h]⟩
theorem z9n(x:Str):x=S x.cps.toList:=by cases x;simp[S]
theorem zy8(l m:List Nat):S l++S m=S (l++m):=by
 show Str.mk (l.toArray++m.toArray)=Str.mk (l++m).toArray;simp
theorem zjl(l:List Nat)(c:Nat):Txt.contains (S l) (S [c])=decide (c∈l):=StrLaws.found_one (S l) c
noncomputable def zcs(c:Nat):List Nat->Nat
 |[]=>0
 |a::r=>if a=c then 0 else zcs c r+1
theorem zej(c:Nat):∀(l:List Nat),c∈l->l[zcs c l]?=some c/\∀k,k<zcs c l->l[k]?≠some c
 |[],h=>by cases h
 |a::r,h=>by
  unfold zcs;by_cases ha:a=c
  ·rw[la ha];exact⟨by simp[ha],λk hk=>by omega⟩
  ·rw[wa ha]
   have hr:c∈r:=by
    rcases pb.mp h with z|z
    ·exact absurd z.symm ha
    ·exact z
   obtain⟨h1,h2⟩:=zej c r hr;refine⟨by simpa using h1,λk hk=>?_⟩
   cases k with
   |zero=>simpa using ha
   |succ k=>simpa using h2 k (by omega)
theorem zk5(c:Nat)(l:List Nat)(h:c∈l):zcs c l<l.length:=by
 have:=(zej c l h).1
 exact(qa.mp this).1
theorem zl6(l:List Nat)(c i:Nat):StrLaws.At (S l) (S [c]) (S l).length i↔l[i]?=some c:=StrLaws.subAt_one (S l) c i
theorem zpq(l:List Nat)(c limit:Nat)(hl:1<=limit)(h:c∈l):∃r,Builtin.Str.occurrences (S l) (S [c]) 0 (S l).length limit=zcs c l::r:=by
 obtain⟨h1,h2⟩:=zej c l h;rcases StrLaws.occ_head (S l) (S [c]) limit hl with⟨_,hn⟩|⟨i,r,e,ha,hb⟩
 ·exact absurd ((zl6 l c _).mpr h1) (hn _)
 ·have hi:i=zcs c l:=by
   rcases vm i (zcs c l) with z|z|z
   ·exact absurd ((zl6 l c i).mp ha) (h2 i z)
   ·exact z
   ·exact absurd ((zl6 l c _).mpr h1) (hb _ z)
  exact⟨r,by rw[e,hi]⟩
theorem z3z(l:List Nat)(c limit:Nat)(hl:1<=limit)(h:¬c∈l):Builtin.Str.occurrences (S l) (S [c]) 0 (S l).length limit=[]:=by
 rcases StrLaws.occ_head (S l) (S [c]) limit hl with⟨e,_⟩|⟨i,r,e,ha,hb⟩
 ·exact e
 ·exact absurd (jd ((zl6 l c i).mp ha)) h
theorem zpr{l:List Nat}(h:∀c∈l,c<128):Txt.lower (S l)=S (l.map lo1):=by
 rw[lower_ascii (x:=S l) h];simp[S]
section
variable {X:Cx}{tg:Expr}
noncomputable def Its(x:Str):It:=⟨λi _=>i<x.length,λi H v H'=>H'=H/\∃c,x.cps.toList[i]?=some c/\v=.str (S [c]),λi _=>x.length<=i⟩
theorem zps{P:Program}{w:World}{K:PySem.W.Frag}(x:Str)(t:Tok)(it:Addr):Turn P w K tg (Its x) [it] it (λi h=>h.IsStrIter it "str_ascii_iterator" x t i) where
 mem:=by simp
 obj:=λi h st b hb=>by
  have e:b=it:=by simpa using hb
  subst e;obtain⟨o,e,c,d⟩:=st;exact⟨o,e,λv z=>by rw[d]at z;cases z⟩
 keep:=λi h h' st k=>by
  obtain⟨o,e,r⟩:=st;exact⟨o,k it (by simp) o e,r⟩
 item:=by
  intro X hP hw hK hc i pins s σ H E I hf st hg;subst hP hw hK;have hg:i<x.length:=hg;obtain⟨ch,hx⟩:∃ch,x.cps[i]?=some ch:=⟨_,fg (show i<x.cps.size from hg)⟩
  obtain⟨f0,f1,f2,f3,f4,f5⟩:=hf it (by simp);refine wpAny_pyNext_ascii_item st hx λh' st' sb=>?_
  have I1:Inv X pins σ H { s with heap:=h',toks:=s.toks+1 }:=I.turned (λb o hb e=>(sb.2 b hb).trans e) f0 f1 f3 f4 f5;obtain⟨o,e,c,d⟩:=id st';exact⟨_,rfl,zow (s:={ s with heap:=h',toks:=s.toks+1 }) e c d (by decide) ⟨.str ⟨#[ch]⟩,H,I1,⟨_,rfl⟩,⟨rfl,ch,by simpa using hx,rfl⟩,st',λb hb=>(hf b hb).1⟩⟩
 done:=by
  intro X hP hw hK hc i pins s σ H E I hf st hg;subst hP hw hK;obtain⟨f0,f1,f2,f3,f4,f5⟩:=hf it (by simp);have hg:x.length<=i:=hg;exact wpAny_pyNext_ascii_end (I.ok.hd hc) st (by have:x.cps.size<=i:=hg;simp[this]) λh' eb=>⟨rfl,I.turned (t':=s.toks) (λb o hb e=>eb b o hb e) f0 f1 f3 f4 f5⟩
 self:=λ_ _ _ _ _ st h=>wpAny_pyIter_striter_ascii st h
theorem zpt{P:Program}{w:World}{K:PySem.W.Frag}(x:Str)(t:Tok)(it:Addr):Turn P w K tg (Its x) [it] it (λi h=>h.IsStrIter it "str_iterator" x t i) where
 mem:=by simp
 obj:=λi h st b hb=>by
  have e:b=it:=by simpa using hb
  subst e;obtain⟨o,e,c,d⟩:=st;exact⟨o,e,λv z=>by rw[d]at z;cases z⟩
 keep:=λi h h' st k=>by
  obtain⟨o,e,r⟩:=st;exact⟨o,k it (by simp) o e,r⟩
 item:=by
  intro X hP hw hK hc i pins s σ H E I hf st hg;subst hP hw hK;have hg:i<x.length:=hg;obtain⟨ch,hx⟩:∃ch,x.cps[i]?=some ch:=⟨_,fg (show i<x.cps.size from hg)⟩
  obtain⟨f0,f1,f2,f3,f4,f5⟩:=hf it (by simp);refine wpAny_pyNext_wide_item st hx λh' st' sb=>?_
  have I1:Inv X pins σ H { s with heap:=h',toks:=s.toks+1 }:=I.turned (λb o hb e=>(sb.2 b hb).trans e) f0 f1 f3 f4 f5;obtain⟨o,e,c,d⟩:=id st';exact⟨_,rfl,zow (s:={ s with heap:=h',toks:=s.toks+1 }) e c d (by decide) ⟨.str ⟨#[ch]⟩,H,I1,⟨_,rfl⟩,⟨rfl,ch,by simpa using hx,rfl⟩,st',λb hb=>(hf b hb).1⟩⟩
 done:=by
  intro X hP hw hK hc i pins s σ H E I hf st hg;subst hP hw hK;obtain⟨f0,f1,f2,f3,f4,f5⟩:=hf it (by simp);have hg:x.length<=i:=hg;exact wpAny_pyNext_wide_end (I.ok.hd hc) st (by have:x.cps.size<=i:=hg;simp[this]) λh' eb=>⟨rfl,I.turned (t':=s.toks) (λb o hb e=>eb b o hb e) f0 f1 f3 f4 f5⟩
 self:=λ_ _ _ _ _ st h=>wpAny_pyIter_striter_wide st h
variable {l:Expr}{tl:TE}
end
section
variable {X:Cx}
def zy9(C:Str->Prop)(f:Str->V):V->List V->Hp->VK->Prop:=λx vs H Q=>match x,vs with|.str z,[]=>C z/\Q (f z) H|_,_=>False
theorem z30{id:String}{C:Str->Prop}{f:Str->V}(h:∀(pins:List (Addr×Obj)) (s:Shared) (σ:St) (H:Hp) (z:Str) (t:Tok) (Q:VK),Inv X pins σ H s->C z->Q (f z) H->wpAny (model X.prog X.w) X.A (call (.builtin id) [.str z t]) (EP X pins σ Q) X.xe s):MtR X id (zy9 C f):=by
 intro pins s σ H x vs v us Q I rx rv q;unfold zy9 at q
 split at q
 ·obtain⟨c,q⟩:=q
  obtain⟨t,rfl⟩:=rx;cases rv;exact h pins s σ H _ t Q I c q
 ·exact q.elim
theorem zl7:MtR X "str.lower" (zy9 (λz=>Builtin.Str.tooLong (Txt.lower z).length=false) λz=>.str (Txt.lower z)) :=
 z30 λpins s σ H z t Q I c q=>SC.lower c ⟨.str _,H,I.tok _,⟨_,rfl⟩,q⟩
theorem zn2:MtR X "str.isalnum" (zy9 (λ_=>True) λz=>.bl (Txt.isalnum z)) :=
 z30 λpins s σ H z t Q I c q=>SC.isalnum ⟨.bl _,H,I,rfl,q⟩
def zpu:V->List V->Hp->VK->Prop:=λx vs H Q=>match x,vs with|.str z,[.str y]=>∃i r,Builtin.Str.occurrences z y 0 z.length 1=i::r/\Q (.int i) H|_,_=>False
theorem ztm:MtR X "str.index" zpu:=by
 intro pins s σ H x vs v us Q I rx rv q;unfold zpu at q
 split at q
 ·obtain⟨i,r,e,q⟩:=q
  obtain⟨t,rfl⟩:=rx;obtain⟨u,rfl,ru⟩:=rv.one;obtain⟨t',rfl⟩:=ru;exact SC.index e ⟨.int i,H,I.tok _,⟨_,rfl⟩,q⟩
 ·exact q.elim
theorem zhe:∀{ys:List Str}{us:List Value},zbj (ys.map V.str) us->StrsAre us ys
 |[],_,.nil=>.nil
 |y::r,_,.cons h t=>by
  obtain⟨tk,rfl⟩:=h;exact .cons y tk (zhe t)
def zza(K:PySem.W.Frag):V->List V->Hp->VK->Prop:=λx vs H Q=>match x,vs with
 |.str z,[.ref a]=>∃ys:List Str,SqL K H a (ys.map V.str)/\(ys.map (·.length)).sum+ys.length * z.length<=16777216/\Q (.str (Txt.join z ys)) H
 |_,_=>False
theorem zzb:MtR X "str.join" (zza X.K):=by
 intro pins s σ H x vs v us Q I rx rv q;unfold zza at q
 split at q
 ·obtain⟨ys,hq,hz,q⟩:=q
  obtain⟨t,rfl⟩:=rx;obtain⟨u,rfl,ru⟩:=rv.one;cases ru;obtain⟨its,r,pl,_⟩:=I.list hq;exact join_list pl.isList (zhe r) hz λt' k=>⟨.str _,H,I.tok _,⟨_,rfl⟩,q⟩
 ·exact q.elim
noncomputable def zjm(c:Nat)(l:List Nat):List V:=if c∈l then [.str (S (l.take (zcs c l))),.str (S [c]),.str (S (l.drop (zcs c l+1)))] else [.str (S l),.str (S []),.str (S [])]
def zpv:V->List V->Hp->VK->Prop:=λx vs H Q=>match x,vs with
 |.str z,[.str y]=>∃c,y=S [c]/\z.length<=sizeLine/\∀p,H p=none->Q (.ref p) (upd H p (.tup (zjm c z.cps.toList)))
 |_,_=>False
theorem zl8(l:List Nat)(i j:Nat):Builtin.Str.strSub (S l) i j=S ((l.drop i).take (j - i)):=by
 rw[z9n (Builtin.Str.strSub (S l) i j),StrLaws.strSub_toList];rfl
theorem zjn:MtR X "str.partition" zpv:=by
 intro pins s σ H x vs v us Q I rx rv q;unfold zpv at q
 split at q
 ·rename_i z y
  obtain⟨c,e,hz,q⟩:=q;subst e;obtain⟨t,rfl⟩:=rx;obtain⟨u,rfl,ru⟩:=rv.one;obtain⟨t',rfl⟩:=ru;refine qk PySem.F.slot_str_partition (js _ _ _) PySem.F.entry_str_partition (PySem.F.args_str_partition_2 _ _) (meets_str_partition z (S [c]) t t' rfl hz) ?_;have hp:=I.hok.fresh (va s.heap.objs.size);obtain⟨l,rfl⟩:∃l,z=S l:=⟨_,z9n z⟩
  rw[za9]at q;by_cases hc:c∈l
  ·obtain⟨r,ho⟩:=zpq l c 1 (va _) hc
   dsimp only[wants];rw[ho];refine⟨.ref s.heap.objs.size,_,I.laid (t':=s.toks+1+1) (o:=.tup (zjm c l)) (λb ob q=>ma _ q) (va _) ?_,rfl,q _ hp⟩;unfold zjm;rw[la hc];refine⟨by show 3<=sizeLine;decide,_,?_,IsTup.new _ _⟩
   have e1:Builtin.Str.strSub (S l) 0 (zcs c l)=S (l.take (zcs c l)):=by
    rw[zl8];simp
   have e2:Builtin.Str.strSub (S l) (zcs c l+(S [c]).length) (S l).length=S (l.drop (zcs c l+1)):=by
    rw[zl8,zfi,zfi]
    congr 1
    exact pf (by simp)
   exact .cons ⟨_,by rw[e1]⟩ (.cons ⟨_,rfl⟩ (.cons ⟨_,by rw[e2]⟩ .nil))
  ·have ho:=z3z l c 1 (va _) hc
   dsimp only[wants];rw[ho];refine⟨.ref s.heap.objs.size,_,I.laid (t':=s.toks+1) (o:=.tup (zjm c l)) (λb ob q=>ma _ q) (va _) ?_,rfl,q _ hp⟩;unfold zjm;rw[wa hc];exact⟨by show 3<=sizeLine;decide,_,.cons ⟨_,rfl⟩ (.cons ⟨_,rfl⟩ (.cons ⟨_,rfl⟩ .nil)),IsTup.new _ _⟩
 ·exact q.elim
def z9o:V->Option Int->Option Int->Hp->VK->Prop:=λx lo hi H Q=>match x with|.str z=>z.length<=sizeLine/\Q (.str (StrLaws.sliceText z lo hi)) H|_=>False
theorem z31:SlR X z9o:=by
 intro pins s σ H x v vl vu lo hi sl Q I rx hs pl pu h;unfold z9o at h;obtain⟨z,rfl,hz,q⟩:=zyx h;obtain⟨t,rfl⟩:=rx;refine⟨"str",_,PySem.F.slot_str_getitem.lookup,js _ _ _,?_⟩
 have part:∀{v:Value} {o:Option Int},IsPart v o->∃l:Option (Int×Tok),partValue l=v/\l.map (·.1)=o:=λp=>by
  cases p with
  |none=>exact⟨none,rfl,rfl⟩
  |int i t=>exact⟨some (i,t),rfl,rfl⟩
 obtain⟨l,e1,e2⟩:=part pl;obtain⟨u,e3,e4⟩:=part pu;subst e1 e2 e3 e4;refine wpAny_getItem_str_slice (l:=l) (u:=u) (st:=none) hs rfl ?_;refine post_val_or_str ⟨ed ?_ hz,λt' k=>⟨.str _,H,I.tok _,⟨_,rfl⟩,q⟩⟩;exact Txt.slice_le z _ _
end
theorem ztn(l:List Nat)(j:Nat):StrLaws.sliceText (S l) none (some (j:Int))=S (l.take j):=by
 by_cases h:j<=l.length
 ·rw[StrLaws.sliceText_to ⟨by omega,by rw[za9];omega⟩]
  simp[S]
 ·have e:StrLaws.sliceText (S l) none (some (j:Int))=StrLaws.sliceText (S l) none (some (l.length:Int)):=by
   unfold StrLaws.sliceText
   have e1:Builtin.Str.strSliceIndices none (some (j:Int)) 1 (S l).length=Builtin.Str.strSliceIndices none (some (l.length:Int)) 1 (S l).length:=by
    rw[zfi];have h1:min (j:Int) (l.length:Int)=(l.length:Int):=by omega
    have h2:¬(j:Int)<0:=by omega
    have h3:¬(l.length:Int)<0:=by omega
    simp[Builtin.Str.strSliceIndices,h1,h2,h3]
   rw[e1]
  rw[e,StrLaws.sliceText_to ⟨by omega,by rw[za9];omega⟩];have e2:l.take j=l:=pf (by omega);rw[e2];simp[S]
theorem zn3(l:List Nat)(i:Nat)(h:i<=l.length):StrLaws.sliceText (S l) (some (i:Int)) none=S (l.drop i):=by
 rw[StrLaws.sliceText_from ⟨by omega,by rw[za9];omega⟩];rw[za9];have e:((l.length:Int) - (i:Int)).toNat=l.length - i:=by omega
 rw[e,uh];have e2:(l.drop i).take (l.length - i)=l.drop i:=pf (by simp);rw[e2];rfl
noncomputable def zk6(sep:List Nat):List (List Nat)->List Nat
 |[]=>[]
 |[x]=>x
 |x::y::r=>x++sep++zk6 sep (y::r)
theorem z32(sep:List Nat)(ls:List (List Nat)):Txt.join (S sep) (ls.map S)=S (zk6 sep ls):=by
 show Builtin.Str.glued (S sep) (ls.map S)=_;rw[StrLaws.glued_eq_join]
 induction ls with
 |nil=>rfl
 |cons x r ih =>
  cases r with
  |nil=>rfl
  |cons y r =>
   show S x++S sep++Str.join (S sep) ((y::r).map S)=S (x++sep++zk6 sep (y::r));rw[ih,zy8,zy8]
theorem zjo:∀(ls:List (List Nat)),zk6 [] ls=ls.flatten
 |[]=>rfl
 |[x]=>by simp[zk6]
 |x::y::r=>by
  show x++[]++zk6 [] (y::r)=_;rw[zjo (y::r)];simp
end L2
namespace L2
open PySem
noncomputable abbrev bmV:List Value:=[.type "ValueError",.type "Exception",.type "BaseException",.type "object"]
structure XC(h:Heap)(nm:Str)(C P:Addr)(mN mP:Str->Option Value):Prop where
 cls:∃q N bs sn sub ab col dd k0 k1 k2 k3 k5,h.get? C=some (excClassObj nm q C N bs (.ref P::bmV) true sn sub ab col dd k0 k1 k2 k3 k5 "ValueError.__new__")/\h.Ns N mN
 par:∃pn q N bs hd sn sub ab col dd k0 k1 k2 k3 k5,h.get? P=some (excClassObj pn q P N bs bmV hd sn sub ab col dd k0 k1 k2 k3 k5 "ValueError.__new__")/\h.Ns N mP
theorem XC.keeps{h h':Heap}{nm:Str}{C P:Addr}{mN mP:Str->Option Value}(x:XC h nm C P mN mP)(k:∀b o,h.get? b=some o->h'.get? b=some o):XC h' nm C P mN mP:=by
 obtain⟨⟨q,N,bs,sn,sub,ab,col,dd,k0,k1,k2,k3,k5,h1,h2⟩,a1,a2,a3,a4,a5,a6,a7,a8,a9,b0,b1,b2,b3,b4,b5,h3,h4⟩:=x;exact⟨⟨q,N,bs,sn,sub,ab,col,dd,k0,k1,k2,k3,k5,k _ _ h1,h2.keeps k⟩,a1,a2,a3,a4,a5,a6,a7,a8,a9,b0,b1,b2,b3,b4,b5,k _ _ h3,h4.keeps k⟩
section
variable {M:Model}{A:Around}{E:Value->Shared->Prop}{h:Heap}{g:Array GenState}{d:Drawn}{t:Nat}{os:OsState}
variable {nm:Str}{C P:Addr}{mN mP:Str->Option Value}
theorem zek {name:Str}{y:Option Value}{Q:Option Value->Shared->Prop} (x:XC h nm C P mN mP) (hp:mP name=none) (hB:typeLookup (.type "ValueError") name=pure y) (hq:Q (match mN name with|some v=>some v|none=>y) ⟨h,g,d,t,os⟩):wpAny M A (typeLookup (.ref C) name) Q E ⟨h,g,d,t,os⟩:=by
 obtain⟨⟨q,N,bs,sn,sub,ab,col,dd,k0,k1,k2,k3,k5,h1,h2⟩,a1,a2,a3,a4,a5,a6,a7,a8,a9,b0,b1,b2,b3,b4,b5,h3,h4⟩:=x;have hr:lookupAlong bmV name=pure y:=by rw[typeLookup_eq,F.excBase_ValueError.mroIs]at hB;exact hB
 rw[typeLookup_eq];refine aa (wpAny_mroOf_exc h1 ?_);rw[lookupAlong_cons];refine aa (wpAny_classOwn_exc h1 h2 ?_)
 cases hv:mN name with
 |some v=>rw[hv]at hq;exact ia hq
 |none =>
  rw[hv]at hq;show wpAny M A (lookupAlong (.ref P::bmV) name) Q E _;rw[lookupAlong_cons];refine aa (wpAny_classOwn_cls h3 h4 ?_);rw[hp,hr];exact ia hq
end
section
variable {prog:Program}{w:World}{A:Around}{E:Value->Shared->Prop}{h:Heap}{g:Array GenState}{d:Drawn}{t:Nat}{os:OsState}
variable {nm:Str}{C P:Addr}{mN mP:Str->Option Value}
theorem zzc {rest:List Value}{fI:Addr}{oI:Obj}{Q:Fin->Shared->Prop} (x:XC h nm C P mN mP) (hpi:mP "__init__" = none) (hi:mN "__init__" = some (.ref fI)) (hfI:h.get? fI=some oI) (hfc:oI.cls=.type "function")
  (hq:∀h' e,Heap.MadeExcOf h h' e (.ref C) rest->h.objs.size<=e->wpAny (model prog w) A (call (.ref fI) (.ref e::rest)) (λr s'=>r=.none/\Q (.done (.ret (.ref e))) s') E ⟨h',g,d,t,os⟩) (hrest:rest.length<=sizeLine) :
  wpAny (model prog w) A (Builtin.«type.__call__» ⟨.ref C::rest,[]⟩) Q E ⟨h,g,d,t,os⟩:=by
 have X0:=x;obtain⟨⟨q,N,bs,sn,sub,ab,col,dd,k0,k1,k2,k3,k5,hC,hn⟩,a1,a2,a3,a4,a5,a6,a7,a8,a9,b0,b1,b2,b3,b4,b5,h3,h4⟩:=x;have FV:=F.excBase_ValueError;have T:OwnTail h bmV (.ref P::bmV):=.own h3 h4 hpi .base
 repeat (first|with_reducible refine wc hC ?_|with_reducible refine wpAny_madeBy_exc hC ?_|wp_step)
 refine codeAny_call_builtin_code (fm _ FV.quiet) (wpAny_check_new_subT FV T hC (codeAny_exc_new_subT FV T hC ?_ hrest));show wpAny _ _ _ _ _ _;generalize hh':(h.push { cls:=.type "tuple",data:=.seq rest.toArray }).push { cls:=.ref C,data:=.fields #[.ref h.objs.size,.none,.none,.none,.bool false,.none] }=h';have kp:∀b o,h.get? b=some o->h'.get? b=some o:=λb o z=>by rw[<-hh'];exact ma _ (ma _ z)
 have X1:=X0.keeps kp;have hC1:=kp _ _ hC;have hf1:=kp _ _ hfI;have hget:h'.get? (h.objs.size+1)=some { cls:=.ref C,data:=.fields #[.ref h.objs.size,.none,.none,.none,.bool false,.none] }:=by rw[<-hh'];heap_get
 have ht:h'.get? h.objs.size=some { cls:=.type "tuple",data:=.seq rest.toArray }:=by rw[<-hh'];exact ma _ (Heap.get?_push_at rfl rfl)
 have hcC:(Value.ref C::(Value.ref P::bmV)).contains (.ref C)=true:=by simp
 unfold isInstance
 repeat (first|with_reducible refine wc hget ?_|(with_reducible refine ng hC1 ?_;rw[hcC])|wp_step)
 show wpAny _ _ (typeLookup (.ref C) _) _ _ _;refine zek X1 hpi FV.init.lookup ?_;rw[hi];refine wf (aa ?_);unfold bindSpecial;refine aa (am (T:="function") ⟨_,hf1,hfc⟩ ?_);rw[la (by decide)];refine ia (aa (ye (hq _ (h.objs.size+1) ⟨kp,xk (mq _),h.objs.size,hget,xk (va _),ht⟩ (mq _)) (λr s' hr=>?_) λ_ _ z=>z));obtain⟨rfl,hQ⟩:=hr
 wp_walk
 exact hQ
theorem z33 {rest:List Value}{fI:Addr}{oI:Obj}{Q:Value->Shared->Prop} (x:XC h nm C P mN mP) (hpi:mP "__init__" = none) (hi:mN "__init__" = some (.ref fI)) (hfI:h.get? fI=some oI) (hfc:oI.cls=.type "function")
  (hq:∀h' e,Heap.MadeExcOf h h' e (.ref C) rest->h.objs.size<=e->wpAny (model prog w) (A.under (.builtin "type.__call__" ⟨.ref C::rest,[]⟩)) (call (.ref fI) (.ref e::rest)) (λr s'=>r=.none/\Q (.ref e) s') E ⟨h',g,d,t,os⟩) (hrest:rest.length<=sizeLine) :
  wpAny (model prog w) A (call (.ref C) rest) Q E ⟨h,g,d,t,os⟩:=by
 have X0:=x;obtain⟨⟨q,N,bs,sn,sub,ab,col,dd,k0,k1,k2,k3,k5,hC,hn⟩,_⟩:=x;have f1:=tc_lookup;have f2:=tc_bind (.ref C);have hT:(⟨h,g,d,t,os⟩:Shared).TypeIs (.ref C) "type":=⟨_,hC,rfl⟩
 refine yo (codeAny_of_tree ?_);show wpAny _ _ (callAny (.ref C) _) _ _ _
 repeat (any_goals (first|assumption|with_reducible refine wc hC ?_|wp_step))
 refine⟨rfl,codeAny_call_builtin_at (fm _ (by decide +kernel)) entry_typeCall (wpAny_check_type_call_sub hC (zzc X0 hpi hi hfI hfc (λh' e hm hs=>?_) hrest))⟩;exact hq h' e hm hs
end
end L2
namespace L2
open PySem
open Builtin Builtin.ObjectAttr
section
variable {prog:Program}{w:World}{A:Around}{E:Value->Shared->Prop}{h:Heap}{g:Array GenState}{d:Drawn}{t:Nat}{os:OsState}
variable {nm:Str}{C P x:Addr}{mN mP mA:Str->Option Value}{name:Str}{v:Value}
theorem z9p {sa owner:String}{o:Obj}{M:Model}{nameV:Value}{Q:Unit->Shared->Prop} (SF:StoreFacts "ValueError" bmV sa owner) (X:XC h nm C P mN mP) (hx:h.get? x=some o) (hc:o.cls=.ref C) (hq:Q () ⟨h,g,d,t,os⟩) :
  wpAny M A (checkBuiltinCall sa ⟨[.ref x,nameV,v],[]⟩) Q E ⟨h,g,d,t,os⟩:=by
 obtain⟨⟨q,N,bs,sn,sub,ab,col,dd,k0,k1,k2,k3,k5,hC,hn⟩,_⟩:=X;have hcB:(Value.ref C::(Value.ref P::bmV)).contains (.type owner)=true:=by rw[ag,ag,SF.hasOwner,Bool.or_true,Bool.or_true]
 have ha:=SF.args (.ref x) nameV v;simp only[checkBuiltinCall,SF.kind,SF.split];refine aa ?_
 ·unfold isInstance
  repeat (first|(with_reducible refine wc hx ?_;rw[hc])|(with_reducible refine ng hC ?_;rw[hcB])|wp_step)
  cases hsig:Manifest.signature? sa with
  |none=>exact ia hq
  |some sig =>
   simp only[argsOk,hsig]at ha;have h2:Bind.checkArgs sa sig ⟨[.ref x,nameV,v],[]⟩=pure ():=ha;show wpAny M A (Bind.checkArgs sa sig ⟨[.ref x,nameV,v],[]⟩) Q E _;rw[h2];exact ia hq
theorem z9q {sa owner:String}{tk:Tok}{Q:Fin->Shared->Prop}{ns:List Str} (SF:StoreFacts "ValueError" bmV sa owner) (X:XC h nm C P mN mP) (hna:mN name=none) (hpa:mP name=none) (hB:typeLookup (.type "ValueError") name=pure none) (I:h.Inst x C mA)
  (hq:∀ h' tk',h'.Inst x C (λ y=>if y=name then some v else mA y)->(∀ b o,b≠x->(∀ o₀ dx,h.get? x=some o₀->o₀.dict=some dx->b≠dx)->h.get? b=some o->h'.get? b=some o) →
   (∀o₀,h.get? x=some o₀->∃o₁,h'.get? x=some o₁/\o₁.cls=o₀.cls/\o₁.data=o₀.data/\o₁.slots=o₀.slots/\∃dx,o₁.dict=some dx/\(o₀.dict=some dx\/(o₀.dict=none/\h.objs.size<=dx)))->Q (.done (.ret .none)) ⟨h',g,d,tk',os⟩) (hw:Within mA ns) (hsz:ns.length+1<=1000) :
  wpAny (model prog w) A (Builtin.«object.__setattr__» ⟨[.ref x,.str name tk,v],[]⟩) Q E ⟨h,g,d,t,os⟩:=by
 have X0:=X;obtain⟨⟨q,N,bs,sn,sub,ab,col,dd,k0,k1,k2,k3,k5,hC,hn⟩,_⟩:=X;obtain⟨o,hx,hc,hnc,hd⟩:=I;have hpass:=SF.passes (.ref x);have hz:ns.length+1<=sizeLine:=ed hsz (by decide);unfold Builtin.«object.__setattr__»
 repeat (first|rw[refuse_eq]|(rw[refuseLoop_ref,refuseLoop_ref,hpass])|(with_reducible refine wc hx ?_;rw[hc])|with_reducible refine wpAny_mroOf_exc hC ?_|(with_reducible refine zek X0 hpa hB ?_;rw[hna])|wp_step)
 rcases hd with⟨hdn,hmA⟩|⟨dx,hdx,hne,hns⟩
 ·rw[hdn,wa (by simp[typeHasDict])]
  split
  ·rename_i hcd
   cases hcd
  split
  ·rename_i c hcd
   exact absurd hcd (hnc c)
  ·have hx1:(h.push { cls:=.type "dict",data:=.dict #[] }).get? x=some o:=ma _ hx
   have hxs:x≠h.objs.size:=dc (ya hx);refine aa (wpAny_alloc' (aa (wpAny_update' hx1 (ia ?_))));generalize eh:((h.push { cls:=.type "dict",data:=.dict #[] }).update x λo=>{ cls:=o.cls,dict:=some h.objs.size,data:=o.data,slots:=o.slots })=h1;have hgd:h1.get? h.objs.size=some { cls:=.type "dict",data:=.dict #[] }:=by rw[<-eh];exact(Heap.get?_update_ne _ _ _ _ hxs.symm).trans (Heap.get?_push_at rfl rfl)
   have hnd:h1.Ns h.objs.size (λ_=>none):=⟨_,#[],_,hgd,rfl,λe he=>absurd he (by simp),λ_=>rfl⟩
   have hx2:h1.get? x=some { cls:=o.cls,dict:=some h.objs.size,data:=o.data,slots:=o.slots }:=by
    rw[<-eh];refine md _ hx1 ?_;have hfr:=(Heap.get?_some_iff.mp hx).2;obtain⟨oc,od,odt,osl⟩:=o
    cases odt <;> first|rfl|exact hfr
   show wpAny _ _ (storeInDict h.objs.size (.str name tk) name v) _ _ _;unfold storeInDict newKeyGuard;refine aa (ia (aa (wpAny_nsSet1 (Heap.Ns1.of_empty hnd) λh' hn' hs=>?_)));obtain⟨oD,esD,epD,hoD,hdD,hcD⟩:=hn'.count (Within.cons name v Within.nil);refine aa (wpAny_lookBehind hoD (by rw[hdD];exact pastItsLine_dict (ed hcD (by rw[bb,vc];omega))) ?_)
   wp_walk
   have hx':h'.get? x=some { cls:=o.cls,dict:=some h.objs.size,data:=o.data,slots:=o.slots }:=(hs.2 x hxs).trans hx2;refine hq h' _ ⟨_,hx',hc,hnc,.inr ⟨h.objs.size,rfl,hxs.symm,?_⟩⟩ (λb ob hbx _ hb=>?_) (λo₀ h₀=>by obtain rfl:o=o₀:=kc (hx.symm.trans h₀);exact⟨_,hx',rfl,rfl,rfl,h.objs.size,rfl,.inr ⟨hdn,va _⟩⟩)
   ·obtain⟨o',es,ep,e1,e2,e3,eu,e4⟩:=hn'
    exact⟨o',es,ep,e1,e2,e3,eu,λy=>by rw[e4 y];by_cases hy:y=name <;> simp[hy,hmA]⟩
   ·refine(hs.2 b (dc (ya hb))).trans ?_
    rw[<-eh];exact(Heap.get?_update_ne _ _ _ _ hbx).trans (ma _ hb)
 ·rw[hdx]
  refine ia ?_;show wpAny _ _ (storeInDict dx (.str name tk) name v) _ _ _;unfold storeInDict newKeyGuard;refine aa (ia (aa (wpAny_nsSet1 hns λh' hn' hs=>?_)));obtain⟨oD,esD,epD,hoD,hdD,hcD⟩:=hn'.count (Within.cons name v hw);refine aa (wpAny_lookBehind hoD (by rw[hdD];exact pastItsLine_dict (ed hcD (by rw[bb];omega))) ?_)
  wp_walk
  refine hq h' _ ⟨o,(hs.2 x hne.symm).trans hx,hc,hnc,.inr ⟨dx,hdx,hne,hn'⟩⟩ (λb ob _ hbd hb=>(hs.2 b (hbd o dx hx hdx)).trans hb) (λo₀ h₀=>by obtain rfl:o=o₀:=kc (hx.symm.trans h₀);exact⟨o,(hs.2 x hne.symm).trans h₀,rfl,rfl,rfl,dx,hdx,.inl hdx⟩)
theorem z9r {sa owner:String}{tk:Tok}{R:Result->Shared->Prop}{ns:List Str} (SF:StoreFacts "ValueError" bmV sa owner) (X:XC h nm C P mN mP) (hna:mN name=none) (hpa:mP name=none) (hB:typeLookup (.type "ValueError") name=pure none) (I:h.Inst x C mA)
  (hq:∀ h' tk',h'.Inst x C (λ y=>if y=name then some v else mA y)->(∀ b o,b≠x->(∀ o₀ dx,h.get? x=some o₀->o₀.dict=some dx->b≠dx)->h.get? b=some o->h'.get? b=some o) →
   (∀o₀,h.get? x=some o₀->∃o₁,h'.get? x=some o₁/\o₁.cls=o₀.cls/\o₁.data=o₀.data/\o₁.slots=o₀.slots/\∃dx,o₁.dict=some dx/\(o₀.dict=some dx\/(o₀.dict=none/\h.objs.size<=dx)))->R (.ok (.ret .none)) ⟨h',g,d,tk',os⟩) (hw:Within mA ns) (hsz:ns.length+1<=1000) :
  codeAny (model prog w) A (.call (.builtin sa) ⟨[.ref x,.str name tk,v],[]⟩) R ⟨h,g,d,t,os⟩:=by
 obtain⟨o,hx,hc,_⟩:=id I;exact kj SF.slot.plain SF.entry (z9p SF X hx hc (z9q SF X hna hpa hB I hq hw hsz))
def StQ(h:Heap)(x C:Addr)(mA:Str->Option Value)(name:Str)(v:Value)(h':Heap):Prop :=
 h'.Inst x C (λy=>if y=name then some v else mA y)/\(∀b o,b≠x->(∀o₀ dx,h.get? x=some o₀->o₀.dict=some dx->b≠dx)->h.get? b=some o->h'.get? b=some o) ∧
 (∀o₀,h.get? x=some o₀->∃o₁,h'.get? x=some o₁/\o₁.cls=o₀.cls/\o₁.data=o₀.data/\o₁.slots=o₀.slots/\∃dx,o₁.dict=some dx/\(o₀.dict=some dx\/(o₀.dict=none/\h.objs.size<=dx)))
theorem zto {sa owner:String}{Q:Unit->Shared->Prop}{ns:List Str} (SF:StoreFacts "ValueError" bmV sa owner) (X:XC h nm C P mN mP) (hns:mN "__setattr__" = none) (hps:mP "__setattr__" = none) (hna:mN name=none) (hpa:mP name=none) (hB:typeLookup (.type "ValueError") name=pure none) (I:h.Inst x C mA)
  (hq:∀h' tk',StQ h x C mA name v h'->Q () ⟨h',g,d,tk',os⟩) (hw:Within mA ns) (hsz:ns.length+1<=1000) :
  wpAny (model prog w) A (setAttr (.ref x) name v) Q E ⟨h,g,d,t,os⟩:=by
 obtain⟨o,hx,hc,_⟩:=id I;have f3:=SF.slot.bind (.ref x);unfold setAttr callSpecial? specialOf
 repeat (any_goals (first|assumption|(with_reducible refine wc hx ?_;rw[hc])|(with_reducible refine zek X hps SF.slot.lookup ?_;rw[hns])|wp_step))
 refine z9r SF X hna hpa hB I (λh' tk' I' hk hsame=>?_) hw hsz
 repeat (any_goals (first|assumption|wp_step))
 exact hq h' tk' ⟨I',hk,hsame⟩
theorem zpw {Q:Unit->Shared->Prop}{ns:List Str} (X:XC h nm C P mN mP) (hns:mN "__setattr__" = none) (hps:mP "__setattr__" = none) (hna:mN name=none) (hpa:mP name=none) (hB:typeLookup (.type "ValueError") name=pure none) (I:h.Inst x C mA)
  (hq:∀h' tk',StQ h x C mA name v h'->Q () ⟨h',g,d,tk',os⟩) (hw:Within mA ns) (hsz:ns.length+1<=1000):wpAny (model prog w) A (setAttr (.ref x) name v) Q E ⟨h,g,d,t,os⟩:=zto F.store_ValueError X hns hps hna hpa hB I hq hw hsz
theorem z9s {tk:Tok}{Q:Fin->Shared->Prop} (X:XC h nm C P mN mP) (hna:mN name=none) (hpa:mP name=none) (hB:typeLookup (.type "ValueError") name=pure none) (I:h.Inst x C mA) (hv:mA name=some v) (hq:Q (.done (.ret v)) ⟨h,g,d,t,os⟩) :
  wpAny (model prog w) A (Builtin.«object.__getattribute__» ⟨[.ref x,.str name tk],[]⟩) Q E ⟨h,g,d,t,os⟩:=by
 have X0:=X;obtain⟨⟨q,N,bs,sn,sub,ab,col,dd,k0,k1,k2,k3,k5,hC,hn⟩,_⟩:=X;obtain⟨o,hx,hc,hnc,hd⟩:=I;rcases hd with⟨_,hmA⟩|⟨dx,hdx,hne,hns⟩
 ·rw[hmA name]at hv;cases hv
 unfold Builtin.«object.__getattribute__»
 repeat (first|(with_reducible refine wc hx ?_;rw[hc])|(with_reducible refine zek X0 hpa hB ?_;rw[hna])|wp_step)
 split
 ·rename_i c hcd
  exact absurd hcd (hnc c)
 unfold instanceDict
 repeat (first|(with_reducible refine wc hx ?_;rw[hc])|with_reducible refine wc hC ?_|wp_step)
 rw[hdx]
 repeat (first|(with_reducible refine wpAny_nsGet hns.ns ?_;rw[hv])|wp_step)
 exact hq
theorem zfb:typeLookup (.type "ValueError") "__getattr__" = pure none:=by rw[xj,mh];kernel_rfl
theorem zwg{M:Model}{o:Obj}{nameV:Value}{Q:Unit->Shared->Prop}(X:XC h nm C P mN mP)(hx:h.get? x=some o)(hc:o.cls=.ref C)(hq:Q () ⟨h,g,d,t,os⟩):wpAny M A (checkBuiltinCall "BaseException.__getattribute__" ⟨[.ref x,nameV],[]⟩) Q E ⟨h,g,d,t,os⟩:=by
 obtain⟨⟨q,N,bs,sn,sub,ab,col,dd,k0,k1,k2,k3,k5,hC,hn⟩,_⟩:=X;have hk:builtinKind "BaseException.__getattribute__" = some .slot:=by decide +kernel
 have hs:splitId "BaseException.__getattribute__" = some ("BaseException","__getattribute__"):=by decide +kernel
 have hcB:(Value.ref C::(Value.ref P::bmV)).contains (.type "BaseException")=true:=by rw[ag,ag];simp
 have ha:=F.args_bexc_ga (.ref x) nameV;simp only[checkBuiltinCall,hk,hs];refine aa ?_
 ·unfold isInstance
  repeat (first|(with_reducible refine wc hx ?_;rw[hc])|(with_reducible refine ng hC ?_;rw[hcB])|wp_step)
  exact hq
theorem z34 {expr:Bool}{Q:Value->Shared->Prop} (X:XC h nm C P mN mP) (hg:mN "__getattribute__" = none) (hgp:mP "__getattribute__" = none) (hh:mN "__getattr__" = none) (hhp:mP "__getattr__" = none) (hna:mN name=none) (hpa:mP name=none) (hB:typeLookup (.type "ValueError") name=pure none) (I:h.Inst x C mA) (hv:mA name=some v) (ho:handedOut v=pure v) (hq:Q v ⟨h,g,d,t+1,os⟩) :
  wpAny (model prog w) A (getAttr (.ref x) name expr) Q E ⟨h,g,d,t,os⟩:=by
 have FB:=F.excAttr_ValueError;obtain⟨o,hx,hc,_⟩:=id I;have f3:=FB.ga.bind (.ref x);have hx0:(expr && onTheHeap (Value.builtin "BaseException.__getattribute__"))=false:=by cases expr <;> rfl
 have hx2:(Value.builtin "BaseException.__getattribute__" == Value.builtin "object.__getattribute__")=false:=by decide +kernel
 have hx1:(onTheHeap (Value.ref C) && Value.builtin "BaseException.__getattribute__" == Value.builtin "object.__getattribute__")=false:=by rw[hx2];rfl
 unfold getAttr getAttrBy
 repeat (any_goals (first|assumption|(with_reducible refine wc hx ?_;rw[hc])|(with_reducible refine zek X hgp FB.ga.lookup ?_;rw[hg])|(with_reducible refine zek X hhp zfb ?_;rw[hh])|wp_step))
 refine kj FB.ga.plain F.entry_bexc_ga (zwg X hx hc (z9s X hna hpa hB I hv ?_))
 repeat (any_goals (first|assumption|wp_step))
end
end L2
namespace L2
open PySem
section
variable {M:Model}{A:Around}{E:Value->Shared->Prop}{env:Env}{s:Shared}
variable {nm:Str}{C P:Addr}{mN mP:Str->Option Value}
theorem ztp{x:Sem Value}{Q:Flow->Shared->Prop}(hh:A.handled=none)(h:wpAny M A x (λv s1=>∃e od t0 sl,v=.ref e/\XC s1.heap nm C P mN mP/\s1.heap.get? e=some ⟨.ref C,od,.fields #[.ref t0,.none,.none,.none,.bool false,.none],sl⟩/\E (.ref e) s1) E s):wpAny M A (raiseStmt env (some x) none) Q E s:=by
 have hcB:(Value.ref C::(Value.ref P::bmV)).contains (.type "BaseException")=true:=by rw[ag,ag];simp
 unfold raiseStmt;refine aa (ye h (λv s1 h1=>?_) λ_ _ z=>z);obtain⟨e,od,t0,sl,rfl,X,he,hE⟩:=h1;obtain⟨⟨q,N,bs,sn,sub,ab,col,dd,k0,k1,k2,k3,k5,hC,hn⟩,_⟩:=X;obtain⟨hp,g,d,tk,os⟩:=s1
 repeat (first|with_reducible refine wc he ?_|with_reducible refine wc hC ?_|(with_reducible refine ng hC ?_;rw[hcB])|wp_step)
 exact wpAny_raiseNew_none hh hE
theorem zzd{x:Expr}{pos:Pos}{Q:Flow->Shared->Prop}(hh:A.handled=none)(h:wpAny M A (eval x env) (λv s1=>∃e od t0 sl,v=.ref e/\XC s1.heap nm C P mN mP/\s1.heap.get? e=some ⟨.ref C,od,.fields #[.ref t0,.none,.none,.none,.bool false,.none],sl⟩/\E (.ref e) s1) E s):wpAny M A (exec (.Raise (some x) none pos) env) Q E s:=by
 rw[arm_exec_Raise];exact aa (uj (ztp hh (aa (ye h (λv s1 h1=>aa (uj (ia h1))) λ_ _ z=>z))))
end
def Trc(h:Heap)(e:Addr):Prop:=∃oe vs T oT ts,h.get? e=some oe/\oe.data=.fields vs/\vs[1]?=some (.ref T)/\T≠e/\h.get? T=some oT/\oT.data=.fields ts/\ts[3]?=some .none
structure Ntd(fs:List Addr)(e:Addr)(h h':Heap):Prop where
 trc:Trc h' e
 exc:∀oe vs,h.get? e=some oe->oe.data=.fields vs->∃vs',h'.get? e=some { oe with data:=.fields vs' }
 keep:∀b o,b≠e->b ∉ fs->h.get? b=some o->h'.get? b=some o
 slot:∀b o,b∈fs->h.get? b=some o->∃sl,h'.get? b=some { o with slots:=sl }
theorem ze1{o:Obj}{vs:Array Value}(hd:o.data=.fields vs)(f:Array Value->Array Value):o.mapFields f={ o with data:=.fields (f vs) }:=by
 obtain⟨c,d,dt,sl⟩:=o;cases hd;rfl
section
variable {M:Model}{A:Around}{E:Value->Shared->Prop}{s:Shared}
theorem zze{base:Heap}{env:Env}{outer:List Env}{L e:Addr}{oe:Obj}{vs:Array Value}{head:Value}{had:Bool}{Q:Unit->Shared->Prop}(hfr:A.frames=some (env::outer))(hl:s.heap.FunFrames base (env::outer))(hf:env.frame=some L)
  (he:s.heap.get? e=some oe) (hd:oe.data=.fields vs) (hsz:1<vs.size) (q:∀h',Ntd ((env::outer).filterMap (·.frame)) e s.heap h'->Q () { s with heap:=h' }) :
  wpAny M A (do let a ← frameOf env;let pl ← entryPlaceOf L had;let b ← EntryCells.newEntry head a .none (rawInt L) .none pl;setField (.ref e) 1 b) (λ_ s'=>wpAny M A (setFlight (.ref e) none) Q E s') E s:=by
 have hee:e ∉ (env::outer).filterMap (·.frame):=λhm=>by
  obtain⟨_,o,ho,hnf⟩:=hl.mem hm;rw[he]at ho;cases ho;exact hnf vs hd
 refine aa (wpAny_frameOf_fun hfr hl hf λh1 s1=>?_);refine aa (wpAny_entryPlaceOf λpl hpl=>?_);unfold EntryCells.newEntry newFields;refine aa (gf ?_ (hpl.sizeOk5 _ _ _ _ _));have e1:h1.get? e=some oe:=(s1.2.1 e hee).trans he;generalize eob:({ cls:=.type "traceback",dict:=none,data:=.fields ([head,.ref L,.none,rawInt L,.none]++(if pl.isEmpty then List.replicate 6 Value.none else pl)).toArray }:Obj)=ob;have obf:ob.isFreed=false:=by rw[<-eob];rfl
 obtain⟨us,hus,hu3⟩:∃us,ob.data=.fields us/\3<us.size:=⟨_,by rw[<-eob],by simp only[oa,zc,bb,vc];omega⟩
 have e2:=ma (h:=h1) ob e1;refine jh e2 hd hsz ?_;have hTe:h1.objs.size≠e:=tj (ya e1);have d3:=bg hd (·.setIfInBounds 1 (Value.ref h1.objs.size));have e3:=md (Obj.mapFields (·.setIfInBounds 1 (Value.ref h1.objs.size))) e2 (rg d3);have t3:=(xb (h1.push ob) (Obj.mapFields (·.setIfInBounds 1 (Value.ref h1.objs.size))) (rf hTe)).trans (gb h1 obf);unfold setFlight;refine aa (bh e3 d3 (x:=.ref h1.objs.size) (by simp[hsz]) ?_);rw[la (show (Value.ref h1.objs.size != Value.none)=true from by simp)];refine jh t3 hus hu3 (q _ ?_)
 have keep:∀b o,b≠e->h1.get? b=some o->((((h1.push ob).update e (Obj.mapFields (·.setIfInBounds 1 (Value.ref h1.objs.size)))).update h1.objs.size (Obj.mapFields (·.setIfInBounds 3 ((none:Option Addr).elim Value.none λf=>rawInt f)))).get? b)=some o:=λb o hbe hb=>by
  rw[xb _ _ (tj (ya hb)),xb _ _ (rf hbe)];exact ma _ hb
 have ee:(((h1.push ob).update e (Obj.mapFields (·.setIfInBounds 1 (Value.ref h1.objs.size)))).update h1.objs.size (Obj.mapFields (·.setIfInBounds 3 ((none:Option Addr).elim Value.none λf=>rawInt f)))).get? e=some (oe.mapFields (·.setIfInBounds 1 (Value.ref h1.objs.size))):=by
  rw[xb _ _ hTe];exact e3
 refine⟨⟨_,_,h1.objs.size,_,_,ee,d3,by simp[hsz],hTe,md _ t3 (rg (bg hus _)),bg hus _,by simp[hu3]⟩,λo' vs' h1' h2'=>?_,λb o hbe hbf hb=>keep b o hbe ((s1.2.1 b hbf).trans hb),λb o hbf hb=>?_⟩
 ·rw[he]at h1';cases h1'
  rw[hd]at h2';cases h2';exact⟨_,by rw[ee,ze1 hd]⟩
 ·obtain⟨sl,hs⟩:=s1.2.2 b o hb
  exact⟨sl,keep b _ (λz=>hee (by rw[<-z];exact hbf)) hs⟩
theorem ztq{vs:Array Value}{i:Nat}{v:Value}(h:vs[i]?=some v):vs.setIfInBounds i v=vs:=by
 apply Array.ext_getElem?;intro j;rw[Array.getElem?_setIfInBounds];split
 ·rename_i e
  subst e;split
  ·exact h.symm
  ·rename_i hn
   rw[li (by omega)]
 ·rfl
theorem zel{h:Heap}{T:Addr}{oT:Obj}{ts:Array Value}{i:Nat}{v:Value}(hT:h.get? T=some oT)(hd:oT.data=.fields ts)(hv:ts[i]?=some v)(b:Addr):(h.update T (Obj.mapFields (·.setIfInBounds i v))).get? b=h.get? b:=by
 by_cases hb:b=T
 ·subst hb
  have e:oT.mapFields (·.setIfInBounds i v)=oT:=by rw[ze1 hd,ztq hv,<-hd]
  rw[md _ hT (by rw[e];exact(Heap.get?_some_iff.mp hT).2),e,hT]
 ·exact xb _ _ (rf hb)
theorem zzf{base:Heap}{env:Env}{outer:List Env}{L e:Addr}{Q:Unit->Shared->Prop}(hfr:A.frames=some (env::outer))(hl:s.heap.FunFrames base (env::outer))(hf:env.frame=some L)(ht:Trc s.heap e)
  (q:∀h',Ntd ((env::outer).filterMap (·.frame)) e s.heap h'->Q () { s with heap:=h' }):wpAny M A (noteFrame (.ref e) env) (λ_ s'=>wpAny M A (setFlight (.ref e) none) Q E s') E s:=by
 obtain⟨oe,vs,T,oT,ts,he,hd,h1,hTe,hT,hdT,h3⟩:=ht;unfold noteFrame;simp only[hf];refine aa (bh he hd h1 ?_);rw[la (show (Value.ref T != Value.none)=true from by simp)];refine aa (bh hT hdT h3 ?_);rw[wa (show ¬((Value.none == rawInt L)=true) from by simp[rawInt])];refine aa (jh hT hdT (de.mp h3).1 ?_);have same:=zel hT hdT h3;refine zze (base:=base) hfr (hl.of_keeps λb o hb _=>⟨o,(same b).trans hb,rfl⟩) hf ((same e).trans he) hd (de.mp h1).1 λh' n=>q h' ⟨n.trc,λoe vs a b=>n.exc oe vs ((same e).trans a) b,λb o c1 c2 c3=>n.keep b o c1 c2 ((same b).trans c3),λb o c1 c2=>n.slot b o c1 ((same b).trans c2)⟩
end
end L2
namespace L2
open PySem PySem.Spec PyProof.Rows
section
variable {κ:Type}[DecidableEq κ]
noncomputable def zec(kvs:List (κ×V))(k:κ):Option V:=(kvs.find? λkv=>decide (kv.1=k)).map (·.2)
noncomputable def zh3(kvs:List (κ×V))(k:κ)(v:V):List (κ×V) :=
 if (kvs.any λkv=>decide (kv.1=k))=true then kvs.map (λkv=>if kv.1=k then (kv.1,v) else kv) else kvs++[(k,v)]
theorem zc0{p:κ×V}{r:List (κ×V)}{k:κ}(e:p.1=k):zec (p::r) k=some p.2:=by simp[zec,sf,e]
theorem zcn{p:κ×V}{r:List (κ×V)}{k:κ}(e:¬p.1=k):zec (p::r) k=zec r k:=by simp[zec,sf,e]
theorem zh4(k:κ):∀kvs:List (κ×V),(kvs.any λkv=>decide (kv.1=k))=(zec kvs k).isSome
 |[]=>rfl
 |p::r=>by
  rw[xg];by_cases e:p.1=k
  ·simp only[zc0 e,ib e,Bool.true_or,Option.isSome_some]
  ·rw[zcn e,jc e,Bool.false_or];exact zh4 k r
theorem zd4(kvs:List (κ×V))(k:κ)(v:V):(zh3 kvs k v).length<=kvs.length+1:=by
 unfold zh3;split
 ·rw[ba];omega
 ·rw[zc,bb,vc];omega
theorem zgx.isSome_eq{o:Option V}{u:Option Value}(r:zgx o u):o.isSome=u.isSome:=by
 cases o with
 |none=>cases u with
  |none=>rfl
  |some _=>exact(show False from r).elim
 |some _=>cases u with
  |none=>exact(show False from r).elim
  |some _=>rfl
theorem zgx.getD{o:Option V}{u:Option Value}{d:V}{d':Value}(r:zgx o u)(rd:za7 d d'):za7 (o.getD d) (u.getD d'):=by
 cases o with
 |none=>cases u with
  |none=>exact rd
  |some _=>exact(show False from r).elim
 |some _=>cases u with
  |none=>exact(show False from r).elim
  |some _=>exact r
theorem KV.val{kvs:List (κ×V)}{vs:List (κ×Value)}(r:KV kvs vs)(k:κ):zgx (zec kvs k) (valueAt vs k):=by
 unfold KV at r
 induction r with
 |nil=>exact jg
 |@cons p q ps qs h t ih =>
  obtain⟨h1,h2⟩:=h;by_cases e:p.1=k
  ·have e':q.1=k:=h1.symm.trans e
   have b:valueAt (q::qs) k=some q.2:=by simp[valueAt,sf,e']
   rw[zc0 e,b];exact h2
  ·have e':¬q.1=k:=λz=>e (h1.trans z)
   have b:valueAt (q::qs) k=valueAt qs k:=by simp[valueAt,sf,e']
   rw[zcn e,b];exact ih
theorem KV.any{kvs:List (κ×V)}{vs:List (κ×Value)}(r:KV kvs vs)(k:κ):(kvs.any λkv=>decide (kv.1=k))=vs.any λkv=>decide (kv.1=k):=by
 unfold KV at r
 induction r with
 |nil=>rfl
 |cons h t ih=>rw[xg,xg,ih,h.1]
theorem KV.repl{kvs:List (κ×V)}{vs:List (κ×Value)}(r:KV kvs vs)(k:κ){y:V}{u:Value}(ry:za7 y u) :
  KV (kvs.map λkv=>if kv.1=k then (kv.1,y) else kv) (vs.map λkv=>if kv.1=k then (kv.1,u) else kv):=by
 unfold KV at r ⊢
 induction r with
 |nil=>exact .nil
 |@cons p q ps qs h t ih =>
  rw[da,da];refine .cons ?_ ih;obtain⟨h1,h2⟩:=h;by_cases e:p.1=k
  ·rw[la e,la (h1.symm.trans e)];exact⟨h1,ry⟩
  ·rw[wa e,wa (λz=>e (h1.trans z))];exact⟨h1,h2⟩
theorem KV.put{kvs:List (κ×V)}{vs:List (κ×Value)}(r:KV kvs vs)(k:κ){y:V}{u:Value}(ry:za7 y u):KV (zh3 kvs k y) (stored vs k u):=by
 unfold zh3 stored;rw[r.any k];by_cases e:(vs.any λkv=>decide (kv.1=k))=true
 ·rw[la e,la e];exact r.repl k ry
 ·rw[wa e,wa e];exact Paired.snoc r ⟨rfl,ry⟩
theorem KV.length{kvs:List (κ×V)}{vs:List (κ×Value)}(r:KV kvs vs):kvs.length=vs.length:=Paired.length r
end
theorem zn4{P:Program}{w:World}{k:Key}{u:Value}(r:za7 (kV k) u):(zbi P w).is k u=true:=by
 cases k with
 |inl i=>obtain⟨t,e⟩:=(show ∃t,u=Value.int i t from r);subst e;exact zku P w i t
 |inr x=>obtain⟨t,e⟩:=(show ∃t,u=Value.str x t from r);subst e;exact zkv P w x t
theorem zjp{P:Program}{w:World}:∀{ks:List Key}{us:List Value},zbj (ks.map kV) us->ItemsAre (zbi P w) ks us
 |[],_,r=>by rw[qe]at r;cases r;exact .nil
 |k::ks,_,r=>by
  rw[da]at r
  cases r with
  |cons h t=>exact .cons (zn4 h) (zjp t)
abbrev KT(H:Hp):List (List Key×V)->List (List Key×Addr×Value)->Prop:=Paired λp q=>p.1=q.1/\H q.2.1=some (.tup (p.1.map kV))/\za7 p.2 q.2.2
theorem KT.val{H:Hp}{kvs:List (List Key×V)}{xs:List (List Key×Addr×Value)}(r:KT H kvs xs)(k:List Key):zgx (zec kvs k) ((atKey xs k).map (·.2)):=by
 induction r with
 |nil=>exact jg
 |@cons p q ps qs h t ih =>
  obtain⟨h1,_,h2⟩:=h;by_cases e:p.1=k
  ·have e':q.1=k:=h1.symm.trans e
   have b:atKey (q::qs) k=some q.2:=by simp[atKey,sf,e']
   rw[zc0 e,b];exact h2
  ·have e':¬q.1=k:=λz=>e (h1.trans z)
   have b:atKey (q::qs) k=atKey qs k:=by simp[atKey,sf,e']
   rw[zcn e,b];exact ih
theorem KT.repl{H:Hp}{kvs:List (List Key×V)}{xs:List (List Key×Addr×Value)}(r:KT H kvs xs)(k:List Key){y:V}{u:Value}(ry:za7 y u) :
  KT H (kvs.map λkv=>if kv.1=k then (kv.1,y) else kv) (xs.map (putAt k u)):=by
 induction r with
 |nil=>exact .nil
 |@cons p q ps qs h t ih =>
  rw[da,da];refine .cons ?_ ih;obtain⟨h1,h2,h3⟩:=h;unfold putAt;by_cases e:p.1=k
  ·rw[la e,la (h1.symm.trans e)];exact⟨h1,h2,ry⟩
  ·rw[wa e,wa (λz=>e (h1.trans z))];exact⟨h1,h2,h3⟩
theorem KT.put{H:Hp}{kvs:List (List Key×V)}{xs:List (List Key×Addr×Value)}(r:KT H kvs xs)(k:List Key){b:Addr}{y:V}{u:Value}(hb:H b=some (.tup (k.map kV)))(ry:za7 y u) :
  KT H (zh3 kvs k y) (storedH xs k b u):=by
 have e:(kvs.any λkv=>decide (kv.1=k))=(atKey xs k).isSome:=by
  rw[zh4,(r.val k).isSome_eq,vh]
 unfold zh3 storedH;rw[e];by_cases q:(atKey xs k).isSome=true
 ·rw[la q,la q];exact r.repl k ry
 ·rw[wa q,wa q];exact Paired.snoc r ⟨rfl,hb,ry⟩
theorem KT.keeps{H H':Hp}{kvs:List (List Key×V)}{xs:List (List Key×Addr×Value)}(r:KT H kvs xs)(ht:∀b ys,H b=some (.tup ys)->H' b=some (.tup ys)):KT H' kvs xs :=
 Paired.mapP r λ_ _ z=>⟨z.1,ht _ _ z.2.1,z.2.2⟩
section
variable {P:Program}{w:World}{H:Hp}{h:Heap}{a:Addr}
theorem z35{u:HO}(ok:HOk P w H h)(e:Rd H a u):za8 P w H h a u:=e.ok ok
theorem zjq{kvs:List (Key×V)}(ok:HOk P w H h)(e:Rd H a (.dK kvs)):kvs.length<=sizeLine/\(a == sysModules)=false/\∃vs,KV kvs vs/\h.DictOf (zbi P w) a vs :=
 show za8 P w H h a (.dK kvs) from z35 ok e
theorem z9t{kvs:List (Key×V)}(ok:HOk P w H h)(e:H a=some (.dK kvs)):kvs.length<=sizeLine/\(a == sysModules)=false/\∃vs,KV kvs vs/\h.DictOf (zbi P w) a vs:=zjq ok (.inl e)
theorem zfz{ks:List Key}(ok:HOk P w H h)(e:H a=some (.tup (ks.map kV))):(tupleKind (zbi P w)).is h ks a:=by
 obtain⟨_,its,r,o,h1,h2,n,h3⟩:=(show za8 P w H h a (.tup (ks.map kV)) from ok a _ e)
 exact⟨o,its.toArray,n,h1,h2,h3,by simpa using zjp r⟩
theorem zk7{kvs:List (List Key×V)}(ok:HOk P w H h)(e:Rd H a (.dT kvs)):kvs.length<=sizeLine/\(a == sysModules)=false ∧
  ∃xs,KT H kvs xs/\h.DictOfH (tupleKind (zbi P w)) a xs:=by
 obtain⟨z,y,xs,r,o,es,ep,h1,h2,h3,h4,h5⟩:=(show za8 P w H h a (.dT kvs) from z35 ok e)
 refine⟨z,y,xs,r,o,es,ep,h1,h2,h3,h4,λx hx=>?_,h5⟩
 have all:∀{l:List (List Key×V)} {m:List (List Key×Addr×Value)},KT H l m->∀x∈m,(tupleKind (zbi P w)).is h x.1 x.2.1:=by
  intro l m q
  induction q with
  |nil=>intro x hx;exact nomatch hx
  |@cons p q ps qs hq t ih =>
   intro x hx;rcases pb.mp hx with e|hx
   ·subst e
    exact zfz ok (by rw[<-hq.1];exact hq.2.1)
   ·exact ih x hx
 exact all r x hx
theorem z36{kvs:List (List Key×V)}(ok:HOk P w H h)(e:H a=some (.dT kvs)):kvs.length<=sizeLine/\(a == sysModules)=false ∧
  ∃xs,KT H kvs xs/\h.DictOfH (tupleKind (zbi P w)) a xs:=zk7 ok (.inl e)
end
def zk8(H:Hp)(a:Addr)(y:V)(r:Option V):Prop :=
 (∃kvs k,Rd H a (.dK kvs)/\y=kV k/\r=zec kvs k)\/∃kvs k b,Rd H a (.dT kvs)/\y=.ref b/\H b=some (.tup (k.map kV))/\r=zec kvs k
def zwh(H:Hp)(a:Addr)(y v:V)(H':Hp):Prop :=
 (∃kvs k,H a=some (.dK kvs)/\y=kV k/\kvs.length<sizeLine/\H'=upd H a (.dK (zh3 kvs k v))) ∨
 ∃kvs k b,H a=some (.dT kvs)/\y=.ref b/\H b=some (.tup (k.map kV))/\kvs.length<sizeLine/\H'=upd H a (.dT (zh3 kvs k v))
theorem zk8.k{H:Hp}{a:Addr}{kvs:List (Key×V)}{k:Key}(e:H a=some (.dK kvs)):zk8 H a (kV k) (zec kvs k):=.inl ⟨kvs,k,.inl e,rfl,rfl⟩
theorem zk8.t{H:Hp}{a b:Addr}{kvs:List (List Key×V)}{k:List Key}(e:H a=some (.dT kvs))(eb:H b=some (.tup (k.map kV))):zk8 H a (.ref b) (zec kvs k):=.inr ⟨kvs,k,b,.inl e,rfl,eb,rfl⟩
theorem zwh.k{H:Hp}{a:Addr}{kvs:List (Key×V)}{k:Key}{v:V}(e:H a=some (.dK kvs))(hl:kvs.length<sizeLine):zwh H a (kV k) v (upd H a (.dK (zh3 kvs k v))):=.inl ⟨kvs,k,e,rfl,hl,rfl⟩
theorem zwh.t{H:Hp}{a b:Addr}{kvs:List (List Key×V)}{k:List Key}{v:V}(e:H a=some (.dT kvs))(eb:H b=some (.tup (k.map kV)))(hl:kvs.length<sizeLine) :
  zwh H a (.ref b) v (upd H a (.dT (zh3 kvs k v))):=.inr ⟨kvs,k,b,e,rfl,eb,hl,rfl⟩
section
variable {X:Cx}{pins:List (Addr×Obj)}{σ:St}{H:Hp}{s:Shared}{a:Addr}{y v:V}{u r:Value}{o:Option V}{A:Around}{E:Value->Shared->Prop}
theorem Inv.big(I:Inv X pins σ H s):sysModules<s.heap.objs.size:=by
 have h:mainGlobals<s.heap.objs.size:=(I.mod.glob.keeps I.bk).lt;exact Nat.lt_trans (by decide) h
theorem zpx{Q:Value->Shared->Prop}(hu:A.units+1<cLine)(I:Inv X pins σ H s)(g:zk8 H a y (some v))(ry:za7 y u)(h:∀w' s',Inv X pins σ H s'->za7 v w'->Q w' s') :
  wpAny (model X.prog X.w) A (getItem (.ref a) u) Q E s:=by
 rcases g with⟨kvs,k,e,ey,l⟩|⟨kvs,k,b,e,ey,eb,l⟩
 ·subst ey
  obtain⟨z,hd,vs,rel,dd⟩:=zjq I.hok e;obtain⟨w',hw,rw'⟩:=zgx.some_of (v:=v) (o:=valueAt vs k) (by rw[l];exact rel.val k);exact wpAny_getItem_of (zn4 ry) dd.mapOf hw (h w' _ (I.tok _) rw')
 ·subst ey
  cases (show u=Value.ref b from ry)
  obtain⟨z,hd,xs,rel,dd⟩:=zk7 I.hok e;obtain⟨w',hw,rw'⟩:=zgx.some_of (v:=v) (o:=(atKey xs k).map (·.2)) (by rw[l];exact rel.val k);obtain⟨p,hp,hp2⟩:=db.mp hw;refine wpAny_getItem_heap (gh hu) (zfz I.hok eb) dd hp ?_;rw[hp2];exact h w' _ (I.tok _) rw'
theorem yc4{Q:Value->Shared->Prop}(hu:A.units+1<cLine)(I:Inv X pins σ H s)(g:zk8 H a y o)(ry:za7 y u)(h:∀s',Inv X pins σ H s'->Q (.bool o.isSome) s') :
  wpAny (model X.prog X.w) A (compareOp .In u (.ref a)) Q E s:=by
 rcases g with⟨kvs,k,e,ey,l⟩|⟨kvs,k,b,e,ey,eb,l⟩
 ·subst ey
  obtain⟨z,hd,vs,rel,dd⟩:=zjq I.hok e;refine wpAny_in_of (zn4 ry) hd dd.mapOf ?_;rw[<-(rel.val k).isSome_eq,<-l];exact h _ (I.tok _)
 ·subst ey
  cases (show u=Value.ref b from ry)
  obtain⟨z,hd,xs,rel,dd⟩:=zk7 I.hok e;refine wpAny_in_heap (gh hu) (zfz I.hok eb) hd dd ?_;have q:=(rel.val k).isSome_eq;rw[vh]at q;rw[<-q,<-l];exact h _ (I.tok _)
theorem zzg{Q:Value->Shared->Prop}(hu:A.units+1<cLine)(I:Inv X pins σ H s)(g:zk8 H a y o)(ry:za7 y u)(h:∀s',Inv X pins σ H s'->Q (.bool (!o.isSome)) s') :
  wpAny (model X.prog X.w) A (compareOp .NotIn u (.ref a)) Q E s:=by
 rcases g with⟨kvs,k,e,ey,l⟩|⟨kvs,k,b,e,ey,eb,l⟩
 ·subst ey
  obtain⟨z,hd,vs,rel,dd⟩:=zjq I.hok e;refine wpAny_notIn_of (zn4 ry) hd dd.mapOf ?_;rw[<-(rel.val k).isSome_eq,<-l];exact h _ (I.tok _)
 ·subst ey
  cases (show u=Value.ref b from ry)
  obtain⟨z,hd,xs,rel,dd⟩:=zk7 I.hok e;refine wpAny_notIn_heap (gh hu) (zfz I.hok eb) hd dd ?_;have q:=(rel.val k).isSome_eq;rw[vh]at q;rw[<-q,<-l];exact h _ (I.tok _)
theorem zk9{h':Heap}{t':Nat}{ob:HO}(I:Inv X pins σ H s)(mu:Mut (H a))(hs:Heap.SameBut a s.heap h')(he:∃q,h'.get? a=some q)(new:za8 X.prog X.w (upd H a ob) h' a ob) :
  Inv X pins σ (upd H a ob) { s with heap:=h',toks:=t' } :=
 I.write (x:=a) (e:=a) mu (.inl rfl) (λb q hb z=>(hs.2 b hb).trans z) he new
theorem z37{P:Program}{w:World}{H':Hp}{h':Heap}{kvs:List (Key×V)}{vs:List (Key×Value)}(z:kvs.length<=sizeLine)(hd:(a == sysModules)=false)(rel:KV kvs vs)(dd:h'.DictOf (zbi P w) a vs) :
  za8 P w H' h' a (.dK kvs):=⟨z,hd,vs,rel,dd⟩
theorem zpy{H':Hp}{Q:Unit->Shared->Prop}(hu:A.units+1<cLine)(I:Inv X pins σ H s)(g:zwh H a y v H')(ry:za7 y u)(rv:za7 v r)(h:∀s',Inv X pins σ H' s'->Q () s') :
  wpAny (model X.prog X.w) A (setItem (.ref a) u r) Q E s:=by
 rcases g with⟨kvs,k,e,ey,l,eH⟩|⟨kvs,k,b,e,ey,eb,l,eH⟩
 ·subst ey eH
  obtain⟨z,hd,vs,rel,dd⟩:=z9t I.hok e;have hz:vs.length<=sizeLine:=by rw[<-rel.length];exact z
  have hl:(zh3 kvs k v).length<=sizeLine:=by have:=zd4 kvs k v;omega
  refine wpAny_setItem_pairs (hsz:=hz) (zn4 ry) dd λh' dd' hs=>h _ ?_
  have he:∃q,h'.get? a=some q:=let ⟨q,_,_,hq,_⟩:=dd';⟨q,hq⟩
  exact zk9 I (by rw[e];exact jg) hs he (z37 hl hd (rel.put k rv) dd')
 ·subst ey eH
  cases (show u=Value.ref b from ry)
  obtain⟨z,hd,xs,rel,dd⟩:=z36 I.hok e;have hz:xs.length<=sizeLine:=by rw[<-Paired.length rel];exact z
  have hl:(zh3 kvs k v).length<=sizeLine:=by have:=zd4 kvs k v;omega
  refine wpAny_setItem_heap (hsz:=hz) (gh hu) (zfz I.hok eb) dd λh' dd' hs=>h _ ?_
  obtain⟨q,es,ep,hq,h2,h3,h4,_,h5⟩:=dd';refine zk9 I (by rw[e];exact jg) hs ⟨q,hq⟩ ⟨hl,hd,_,(rel.put k eb rv).keeps λc ys ec=>?_,q,es,ep,hq,h2,h3,h4,h5⟩;rw[zad (zd3 ec e (λz=>nomatch z))];exact ec
end
def z9u(i:Expr):Prop:=∀ov iv,subscripted i false ov iv=operate [ov,iv] (getItem ov iv)
theorem zzh{prog:Program}{w:World}{A:Around}{E:Value->Shared->Prop}{s:Shared}{env:Env}{value slice:Expr}{pos:Pos}{T id:String}{Q:Value->Shared->Prop}
  (hl:typeLookup (.type T) "__getitem__" = pure (some (.builtin id))) (hs:z9u slice)
  (h:wpAny (model prog w) A (eval value env) (λo s₁=>wpAny (model prog w) A (eval slice env) (λi s₂=>s₂.TypeIs o T/\wpAny (model prog w) A (getItem o i) Q E s₂) E s₁) E s) :
  wpAny (model prog w) A (eval (.Subscript value slice pos) env) Q E s:=by
 refine Subscript_ (ye h (λo s₁ h₁=>ye h₁ (λi s₂ h₂=>?_) λ_ _ x=>x) λ_ _ x=>x);obtain⟨hT,h₂⟩:=h₂;unfold subscriptTail;refine aa ?_;rw[getitemInPython_of_ne hT.not_modules];refine aa (ql hT hl ?_)
 have fin:wpAny (model prog w) A (subscripted slice false o i) (λr s₃=>wpAny (model prog w) A (letTemporaryGo value o r >>= λ_=>pure r) Q E s₃) E s₂:=by
  rw[hs o i];exact wpAny_operating (ye h₂ (λr s₃ h₃=>aa (wpAny_letTemporaryGo (ia h₃))) λ_ _ x=>x)
 first
  |exact ia (aa fin)
  |exact aa (ia (aa fin))
  |exact aa fin
theorem zla{X:Cx}{pins:List (Addr×Obj)}{σ:St}{H:Hp}{s:Shared}{a:Addr}{y:V}{o:Option V}(I:Inv X pins σ H s)(g:zk8 H a y o):s.TypeIs (.ref a) "dict":=by
 rcases g with⟨kvs,k,e,_,_⟩|⟨kvs,k,b,e,_,_,_⟩
 ·obtain⟨_,_,vs,_,dd⟩:=zjq I.hok e
  exact dd.typeIs
 ·obtain⟨_,_,xs,_,dd⟩:=zk7 I.hok e
  exact dd.typeIs
noncomputable def z9v(td ty:TE):TE:=λσ H Q=>td σ H λx H1=>ty σ H1 λy H2=>∃a v,x=.ref a/\zk8 H2 a y (some v)/\Q v H2
noncomputable def z9w(td ty tv:TE):TS:=λD σ H=>tv σ H λv H1=>td σ H1 λx H2=>ty σ H2 λy H3=>∃a H4,x=.ref a/\zwh H3 a y v H4/\D.nx σ H4
section
variable {X:Cx}{o i e value:Expr}{pos pos' tpos:Pos}{td ty tv:TE}
theorem zzi(hu:X.A.units+1<cLine)(ho:PE X o td)(hi:PE X i ty)(hs:z9u i):PE X (.Subscript o i pos) (z9v td ty):=by
 intro pins s σ H Q I h;refine zzh PySem.F.slot_dict_getitem.lookup hs (thn (ho pins s σ H _ I h) λu s1 ⟨x,H1,I1,rx,q1⟩=>thn (hi pins s1 σ H1 _ I1 q1) λiv s2 ⟨y,H2,I2,ry,a,v,ex,g,q2⟩=>?_);subst ex;obtain rfl:u=Value.ref a:=rx;exact⟨zla I2 g,zpx hu I2 g ry λw' s3 I3 rw'=>⟨v,H2,I3,rw',q2⟩⟩
theorem zzj(hu:X.A.units+1<cLine)(ho:PE X o td)(hi:PE X i ty)(hv:PE X value tv)(hs:swapsWith value (some (.Subscript o i pos')) pos.line X.env=pure false) :
  PS X (.Assign [.Subscript o i pos'] value pos) (z9w td ty tv):=by
 intro pins s σ H D I h;refine wpAny_Assign_Subscript (thn (hv pins s σ H _ I h) λr s1 ⟨v,H1,I1,rv,q1⟩=>thn (ho pins s1 σ H1 _ I1 q1) λu s2 ⟨x,H2,I2,rx,q2⟩=>thn (hi pins s2 σ H2 _ I2 q2) λiv s3 ⟨y,H3,I3,ry,a,H4,ex,g,q3⟩=>?_) hs;subst ex;obtain rfl:u=Value.ref a:=rx;exact zpy hu I3 g ry rv λs4 I4=>⟨σ,H4,I4,q3⟩
end
theorem ztr{P:Program}{w:World}{H:Hp}(h:Heap)(hb:sysModules<h.objs.size):za8 P w H (h.push { cls:=.type "dict",data:=.dict #[] }) h.objs.size (.dK []) :=
 ⟨ud _,zh.mpr (rf (dc hb)),[],.nil,Heap.DictOf.new h⟩
theorem zts{P:Program}{w:World}{H:Hp}(h:Heap)(hb:sysModules<h.objs.size):za8 P w H (h.push { cls:=.type "dict",data:=.dict #[] }) h.objs.size (.dT []) :=
 ⟨ud _,zh.mpr (rf (dc hb)),[],.nil,_,#[],0,gb _ rfl,⟨rfl,rfl,rfl⟩,rfl,rfl,kh⟩
noncomputable def z38:TE:=λ_ H Q=>∀p,H p=none->Q (.ref p) (upd H p (.dK []))
noncomputable def z39:TE:=λ_ H Q=>∀p,H p=none->Q (.ref p) (upd H p (.dT []))
section
variable {X:Cx}{pos:Pos}
theorem ztt:PE X (.Dict [] [] pos) z38:=λpins s σ H Q I h =>
 xn ⟨.ref s.heap.objs.size,_,I.laid (a:=s.heap.objs.size) (o:=.dK []) (t':=s.toks) (λ_ _ q=>ma _ q) (va _) (ztr s.heap I.big),rfl,h _ (I.hok.fresh (va _))⟩
theorem ztu:PE X (.Dict [] [] pos) z39:=λpins s σ H Q I h =>
 xn ⟨.ref s.heap.objs.size,_,I.laid (a:=s.heap.objs.size) (o:=.dT []) (t':=s.toks) (λ_ _ q=>ma _ q) (va _) (zts s.heap I.big),rfl,h _ (I.hok.fresh (va _))⟩
end
structure M2(X:Cx)(o:Expr)(m:Str)(apos:Pos)(e f:Expr)(cpos:Pos):Prop where
 base:attributeBase o m X.env (eval o X.env)=eval o X.env
 few:((backTo cpos (starEach [e,f] X.env)).all (λ x=>!x.1) && (backToKw cpos (keywordEach [] X.env)).all (λ x=>x.1.isSome)
  && decide (([e,f]:List Expr).length+([]:List Keyword).length+(if ([]:List Keyword).isEmpty then 0 else 1)<30))=true
 line:(apos.endLine == cpos.line)=true
 trees:backTo cpos (starEach [e,f] X.env)=[(false,eval e X.env),(false,eval f X.env)]
def IsD(H:Hp)(a:Addr):Prop:=(∃kvs,Rd H a (.dK kvs))\/∃kvs,Rd H a (.dT kvs)
theorem zwi{X:Cx}{pins:List (Addr×Obj)}{σ:St}{H:Hp}{s:Shared}{a:Addr}(I:Inv X pins σ H s)(d:IsD H a) :
  s.TypeIs (.ref a) "dict" /\ (∀b,Value.ref a=.ref b->∃ob,s.heap.get? b=some ob/\ob.dict=none)/\(a == sysModules)=false:=by
 rcases d with⟨kvs,e⟩|⟨kvs,e⟩
 ·obtain⟨_,hd,vs,_,dd⟩:=zjq I.hok e
  refine⟨dd.typeIs,λb q=>?_,hd⟩;cases q;obtain⟨ob,_,_,h1,h2,_⟩:=dd;exact⟨ob,h1,h2.2.1⟩
 ·obtain⟨_,hd,xs,_,dd⟩:=zk7 I.hok e
  refine⟨dd.typeIs,λb q=>?_,hd⟩;cases q;obtain⟨ob,_,_,h1,h2,_⟩:=dd;exact⟨ob,h1,h2.2.1⟩
section
variable {X:Cx}{pins:List (Addr×Obj)}{σ:St}{H:Hp}{s:Shared}{a:Addr}{y d:V}{u r:Value}{o:Option V}{A:Around}{E:Value->Shared->Prop}
theorem z4a{Q:Value->Shared->Prop}(hu:A.units+1<cLine)(I:Inv X pins σ H s)(g:zk8 H a y o)(ry:za7 y u)(rd:za7 d r)(h:∀w' s',Inv X pins σ H s'->za7 (o.getD d) w'->Q w' s') :
  wpAny (model X.prog X.w) A (call (.builtin "dict.get") [.ref a,u,r]) Q E s:=by
 rcases g with⟨kvs,k,e,ey,l⟩|⟨kvs,k,b,e,ey,eb,l⟩
 ·subst ey
  obtain⟨z,hd,vs,rel,dd⟩:=zjq I.hok e;refine call_meetsIn PySem.F.slot_dict_get dd.typeIs PySem.F.entry_dict_get (PySem.F.args_dict_get_3 _ _ _) (meets_dict_get_default (zbi X.prog X.w) a (zn4 ry) hd r) ⟨_,dd.mapOf,h _ _ (I.tok _) ?_⟩;rw[l];exact(rel.val k).getD rd
 ·subst ey
  cases (show u=Value.ref b from ry)
  obtain⟨z,hd,xs,rel,dd⟩:=zk7 I.hok e;refine call_meetsIn PySem.F.slot_dict_get dd.typeIs PySem.F.entry_dict_get (PySem.F.args_dict_get_3 _ _ _) (meetsH_dict_get_default (tupleKind (zbi X.prog X.w)) a b hd r) ⟨gh hu,k,xs,zfz I.hok eb,dd,h _ _ (I.tok _) ?_⟩;rw[l];exact(rel.val k).getD rd
end
noncomputable def z4b(td ty tx:TE):TE:=λσ H Q=>td σ H λx H1=>∃a,x=.ref a/\IsD H1 a/\ty σ H1 λy H2=>tx σ H2 λz H3=>∃o,zk8 H3 a y o/\Q (o.getD z) H3
section
variable {X:Cx}{o e f:Expr}{apos cpos:Pos}{td ty tx:TE}
theorem ztv (hu:X.A.units+1<cLine) (ho:PE X o td) (he:PE X e ty) (hf:PE X f tx) (m:M2 X o "get" apos e f cpos):PE X (.Call (.Attribute o "get" apos) [e,f] [] cpos) (z4b td ty tx):=by
 intro pins s σ H Q I h;refine wpAny_Call_method m.base m.few m.line PySem.F.plainAttrs_dict PySem.F.slot_dict_get PySem.F.type_dict_get (thn (ho pins s σ H _ I h) λu s1 ⟨x,H1,I1,rx,a,ex,d,q1⟩=>?_);subst ex;obtain rfl:u=Value.ref a:=rx;obtain⟨t1,t2,_⟩:=zwi I1 d;refine⟨t1,t2,?_⟩;rw[m.trees]
 refine Calls.callWith_builtin rfl (Calls.evalArgs_plain (Calls.spliced_cons (thn (he pins s1 σ H1 _ I1 q1) λ iv s2 ⟨y,H2,I2,ry,q2⟩ =>
  dh (thn (hf pins s2 σ H2 _ I2 q2) λfv s3 ⟨z,H3,I3,rz,ov,g,q3⟩=>ak ?_))))
 exact z4a hu I3 g ry rz λw' s4 I4 rw'=>⟨_,H3,I4,rw',q3⟩
end
def ExN(e C t0:Addr):Heap->Prop:=λh=>h.get? e=some ⟨.ref C,none,.fields #[.ref t0,.none,.none,.none,.bool false,.none],#[]⟩
def ExF(e C dx t0:Addr):Heap->Prop:=λh=>h.get? e=some ⟨.ref C,some dx,.fields #[.ref t0,.none,.none,.none,.bool false,.none],#[]⟩
def ExO(e C dx:Addr):Heap->Prop:=λh=>∃vs sl,h.get? e=some ⟨.ref C,some dx,.fields vs,sl⟩
def XdO(dx:Addr)(fs:List (Str×V)):Heap->Prop:=λh=>∃mA,h.Ns1 dx mA/\(∀f,zgx (fs.lookup f) (mA f))/\PySem.Within mA (fs.map (·.1))
section
variable {P:Program}{w:World}{H:Hp}{h:Heap}{e C dx t0:Addr}{fs:List (Str×V)}
theorem z4c(x:ExN e C t0 h):za8 P w H h e (.ext (ExN e C t0)):=⟨x,⟨_,x⟩,λ_ _ p k=>k _ p⟩
theorem z4d(x:ExF e C dx t0 h):za8 P w H h e (.ext (ExF e C dx t0)):=⟨x,⟨_,x⟩,λ_ _ p k=>k _ p⟩
theorem zpz(x:ExO e C dx h):za8 P w H h e (.ext (ExO e C dx)):=⟨x,let ⟨_,_,z⟩:=x;⟨_,z⟩,λ_ _ ⟨vs,sl,p⟩ k=>⟨vs,sl,k _ p⟩⟩
theorem zwj(x:XdO dx fs h):za8 P w H h dx (.ext (XdO dx fs)):=⟨x,let ⟨_,⟨o,_,_,z,_⟩,_⟩:=x;⟨o,z⟩,λ_ _ ⟨mA,p,r⟩ k=>⟨mA,p.at k,r⟩⟩
theorem HOk.ext{a:Addr}{φ:Heap->Prop}(x:HOk P w H h)(e:H a=some (.ext φ)):φ h:=(x a _ e).1
end
noncomputable def zc7:List Str:=["__setattr__","__getattribute__","__getattr__","__class__","path","first","last","goal","ring","at","row"]
def NsK(K:PySem.W.Frag)(N:Addr)(ini:Option Value):Prop:=∃c d es ep sl,K.lookup N=some ⟨c,d,.dict es ep,sl⟩/\(∀e∈es,∃n t,e.key=.str n t)/\(∀n∈zc7,nsFind es n=none)/\nsFind es "__init__" = ini
structure XK'(K:PySem.W.Frag)(nm:Str)(C P:Addr)(fI:Option Addr):Prop where
 cl:∃q N bs sn sub ab col dd k0 k1 k2 k3 k5,K.lookup C=some (excClassObj nm q C N bs (.ref P::bmV) true sn sub ab col dd k0 k1 k2 k3 k5 "ValueError.__new__")/\NsK K N (fI.map Value.ref)
 pa:∃pn q N bs hd sn sub ab col dd k0 k1 k2 k3 k5,K.lookup P=some (excClassObj pn q P N bs bmV hd sn sub ab col dd k0 k1 k2 k3 k5 "ValueError.__new__")/\NsK K N none
theorem NsK.ns{K:PySem.W.Frag}{N:Addr}{ini:Option Value}(x:NsK K N ini){h:Heap}(X:K.In h):∃m,h.Ns N m/\(∀n∈zc7,m n=none)/\m "__init__" = ini:=by
 obtain⟨c,d,es,ep,sl,h1,h2,h3,h4⟩:=x;exact⟨λn=>nsFind es n,⟨_,es,ep,X _ _ h1,rfl,h2,λ_=>rfl⟩,h3,h4⟩
theorem XK'.at_{K:PySem.W.Frag}{nm:Str}{C P:Addr}{fI:Option Addr}(x:XK' K nm C P fI)(h:Heap)(X:K.In h):∃mN mP,XC h nm C P mN mP/\(∀n∈zc7,mN n=none/\mP n=none)/\mN "__init__" = fI.map Value.ref/\mP "__init__" = none:=by
 obtain⟨⟨q,N,bs,sn,sub,ab,col,dd,k0,k1,k2,k3,k5,h1,h2⟩,a1,a2,a3,a4,a5,a6,a7,a8,a9,b0,b1,b2,b3,b4,b5,h3,h4⟩:=x;obtain⟨m,n1,n2,n3⟩:=h2.ns X;obtain⟨m',n4,n5,n6⟩:=h4.ns X;exact⟨m,m',⟨⟨q,N,bs,sn,sub,ab,col,dd,k0,k1,k2,k3,k5,X _ _ h1,n1⟩,a1,a2,a3,a4,a5,a6,a7,a8,a9,b0,b1,b2,b3,b4,b5,X _ _ h3,n4⟩,λn hn=>⟨n2 n hn,n5 n hn⟩,n3,n6⟩
theorem zwk:∀n∈(["path","first","last","goal","ring","at","row"]:List Str),typeLookup (.type "ValueError") n=pure none:=by
 intro n hn;simp only[pb,nk,su]at hn;rcases hn with rfl|rfl|rfl|rfl|rfl|rfl|rfl <;> (rw[xj,mh];kernel_rfl)
noncomputable abbrev zco:List Str:=["path","first","last","goal","ring","at","row"]
theorem f_x{n:Str}(h:n∈zco):n∈zc7:=by
 unfold zc7;simp only[pb,nk,su]at h ⊢;rcases h with rfl|rfl|rfl|rfl|rfl|rfl|rfl <;> simp
section
variable {X:Cx}{pins:List (Addr×Obj)}{σ:St}{H:Hp}{s:Shared}{h':Heap}
theorem Inv.xnew{e dx:Addr}{φ φ' ψ:Heap->Prop}{t':Nat}(I:Inv X pins σ H s)(he:H e=some (.ext φ))(hdx:s.heap.objs.size<=dx)(k:∀b o,b≠e->s.heap.get? b=some o->h'.get? b=some o)(oe:∀H',za8 X.prog X.w H' h' e (.ext φ'))(od:∀H',za8 X.prog X.w H' h' dx (.ext ψ)) :
  Inv X pins σ (upd (upd H e (.ext φ')) dx (.ext ψ)) { s with heap:=h',toks:=t' }:=by
 have hf:=I.hok.fresh hdx;have hne:e≠dx:=zag he hf;have up:∀{b:Addr} {u:HO},H b=some u->b≠e->upd (upd H e (.ext φ')) dx (.ext ψ) b=some u:=λ{b u} q n=>by rw[zad (zag q hf),zad n];exact q
 refine I.un ⟨λb o q n hc hx=>k b o (zag he n).symm q,λb o q n hc hx=>⟨o.slots,k b o (zag he n).symm q⟩,λb o q n hx=>?_,λb o q hx=>?_,λb xs q=>up q (zd3 q he λz=>nomatch z),λb o u q=>up q (zd3 q he λz=>nomatch z),λb ps q=>⟨#[],by rw[up q (zd3 q he λz=>nomatch z)];simp⟩⟩ λb u q=>?_
 ·rw[zad (dc (wb (ya q) hdx)),zad (zag he n).symm];exact n
 ·by_cases hb:b=e
  ·subst hb;exact(oe H).2.1
  ·exact⟨o,k b o hb q⟩
 ·by_cases hb:b=dx
  ·subst hb;rw[zac]at q;cases q;exact od _
  ·rw[zad hb]at q
   by_cases hb':b=e
   ·subst hb';rw[zac]at q;cases q;exact oe _
   ·rw[zad hb']at q
    refine(I.hok b u q).stay (λc v hc z=>k c v ?_ z) (λc z=>up z (zd3 z he λz=>nomatch z)) λc ys z=>up z (zd3 z he λz=>nomatch z)
    rcases hc with rfl|hc
    ·exact hb'
    ·exact zd3 hc he λz=>nomatch z
theorem z9x{fs:List (Str×V)}{mA:Str->Option Value}{f:Str}{v:V}{u:Value}(r:∀g,zgx (fs.lookup g) (mA g))(hn:fs.lookup f=none)(rv:za7 v u):∀g,zgx ((fs++[(f,v)]).lookup g) ((λy=>if y=f then some u else mA y) g):=λg=>by
 rw[List.lookup_append];by_cases hg:g=f
 ·subst hg
  show zgx _ (if g=g then some u else mA g);rw[la rfl,hn]
  have:List.lookup g [(g,v)]=some v:=by simp[List.lookup]
  rw[this];exact rv
 ·show zgx _ (if g=f then some u else mA g)
  rw[wa hg];have hr:=r g
  cases e:fs.lookup g with
  |some z=>rw[e]at hr;exact hr
  |none =>
   rw[e]at hr
   have:List.lookup g [(f,v)]=none:=by simp[List.lookup,beq_false_of_ne hg]
   rw[this];exact hr
theorem zzk{nm:Str}{C P e:Addr}{fI:Option Addr}{f:Str}{v:V}{u:Value}{A:Around}{E:Value->Shared->Prop}{Q:Unit->Shared->Prop}(I:Inv X pins σ H s)(c:XK' X.K nm C P fI)(hf:f∈zco)(rv:za7 v u)
  (h:(∃ t0,H e=some (.ext (ExN e C t0))/\∀ s' dx,H dx=none->dx≠e->Inv X pins σ (upd (upd H e (.ext (ExF e C dx t0))) dx (.ext (XdO dx [(f,v)]))) s'->Q () s') ∨
   (∃dx t0 fs,H e=some (.ext (ExF e C dx t0))/\H dx=some (.ext (XdO dx fs))/\dx≠e/\fs.lookup f=none/\fs.length<=10/\∀s',Inv X pins σ (upd H dx (.ext (XdO dx (fs++[(f,v)])))) s'->Q () s')) :
  wpAny (model X.prog X.w) A (setAttr (.ref e) f u) Q E s:=by
 obtain⟨mN,mP,xc,hx,_,_⟩:=c.at_ s.heap I.kIn;have hfx:=hx f (f_x hf);have hs:=hx "__setattr__" (by simp[zc7]);have hv:=zwk f hf;obtain⟨hh,g,d,t,os⟩:=s;rcases h with⟨t0,he,q⟩|⟨dx,t0,fs,he,hd,hne,hn,hl,q⟩
 ·have ho:hh.get? e=some ⟨.ref C,none,.fields #[.ref t0,.none,.none,.none,.bool false,.none],#[]⟩:=I.hok.ext he
  refine zpw (mA:=λ_=>none) (ns:=[]) xc hs.1 hs.2 hfx.1 hfx.2 hv ⟨_,ho,rfl,λc z=>(by cases z),.inl ⟨rfl,λ_=>rfl⟩⟩ (λh' tk' ⟨i1,i2,i3⟩=>?_) PySem.Within.nil (by simp);obtain⟨⟨oc,od,odt,osl⟩,o1,o2,o3,o4,dx,o5,o6⟩:=i3 _ ho
  have hge:hh.objs.size<=dx:=by
   rcases o6 with z|z
   ·cases z
   ·exact z.2
  simp only at o2 o3 o4 o5;subst o2 o3 o4 o5;have hfr:=I.hok.fresh hge;refine q _ dx hfr (zag he hfr).symm (I.xnew (t':=tk') he hge (λb o hb z=>i2 b o hb (λo₀ dx' z1 z2=>by rw[ho]at z1;cases z1;cases z2) z) (λ_=>z4d o1) λ_=>zwj ?_);obtain⟨o',j1,_,_,j4⟩:=i1;rw[o1]at j1;cases j1;rcases j4 with⟨j,_⟩|⟨dx',j,_,j5⟩
  ·cases j
  ·cases j
   refine⟨_,j5,λg=>?_,?_⟩
   ·by_cases hg:g=f
    ·subst hg
     have:List.lookup g [(g,v)]=some v:=by simp[List.lookup]
     show zgx _ (if g=g then some u else none);rw[this,la rfl];exact rv
    ·have:List.lookup g [(f,v)]=none:=by simp[List.lookup,beq_false_of_ne hg]
     show zgx _ (if g=f then some u else none);rw[this,wa hg];trivial
   ·exact PySem.Within.cons f u PySem.Within.nil
 ·have ho:hh.get? e=some ⟨.ref C,some dx,.fields #[.ref t0,.none,.none,.none,.bool false,.none],#[]⟩:=I.hok.ext he
  obtain⟨mA,n1,n2,n3⟩:=I.hok.ext hd;refine zpw (mA:=mA) (ns:=fs.map (·.1)) xc hs.1 hs.2 hfx.1 hfx.2 hv ⟨_,ho,rfl,λc z=>(by cases z),.inr ⟨dx,rfl,hne,n1⟩⟩ (λh' tk' ⟨i1,i2,i3⟩=>?_) n3 (by rw[ba];omega);obtain⟨⟨oc,od,odt,osl⟩,o1,o2,o3,o4,dx',o5,o6⟩:=i3 _ ho;simp only at o2 o3 o4 o5;subst o2 o3 o4 o5
  have edx:dx=dx':=by
   rcases o6 with z|z
   ·cases z;rfl
   ·cases z.1
  subst edx;obtain⟨o',j1,_,_,j4⟩:=i1;rw[o1]at j1;cases j1;rcases j4 with⟨j,_⟩|⟨dx',j,_,j5⟩
  ·cases j
  ·cases j
   have hk:∀b o,b≠dx->hh.get? b=some o->h'.get? b=some o:=λb o hb z=>by
    by_cases hbe:b=e
    ·subst hbe;rw[ho]at z;cases z;exact o1
    ·exact i2 b o hbe (λo₀ dx' z1 z2=>by rw[ho]at z1;cases z1;cases z2;exact hb) z
   refine q _ (I.write (t':=tk') (x:=dx) (e:=dx) (by rw[hd];trivial) (.inl rfl) hk (let ⟨o,_,_,z,_⟩:=j5;⟨o,z⟩) (zwj ⟨_,j5,z9x n2 hn rv,?_⟩));rw[lc];intro y hy;by_cases hyf:y=f
   ·subst hyf;simp
   ·have:mA y≠none:=by simpa [hyf] using hy
    exact we _ (n3 y this)
theorem zzl{nm:Str}{C P e dx:Addr}{fI:Option Addr}{f:Str}{v:V}{b:Bool}{fs:List (Str×V)}{A:Around}{E:Value->Shared->Prop}{Q:Value->Shared->Prop}(I:Inv X pins σ H s)(c:XK' X.K nm C P fI)(hf:f∈zco)(he:H e=some (.ext (ExO e C dx)))(hd:H dx=some (.ext (XdO dx fs)))(hne:dx≠e)(hl:fs.lookup f=some v)
  (h:∀u s',Inv X pins σ H s'->za7 v u->Q u s'):wpAny (model X.prog X.w) A (getAttr (.ref e) f b) Q E s:=by
 obtain⟨mN,mP,xc,hx,_,_⟩:=c.at_ s.heap I.kIn;have hfx:=hx f (f_x hf);have h1:=hx "__getattribute__" (by simp[zc7]);have h2:=hx "__getattr__" (by simp[zc7]);obtain⟨vs,sl,ho⟩:=I.hok.ext he;obtain⟨mA,n1,n2,n3⟩:=I.hok.ext hd;obtain⟨u,hu,ru⟩:=zgx.some_of (v:=v) (o:=mA f) (by rw[<-hl];exact n2 f);obtain⟨hh,g,d,t,os⟩:=s;exact z34 xc h1.1 h1.2 h2.1 h2.2 hfx.1 hfx.2 (zwk f hf) ⟨_,ho,rfl,λc z=>(by cases z),.inr ⟨dx,rfl,hne,n1⟩⟩ hu (PySem.W.handedOut_of (zo3 ru)) (h u _ (I.tok _) ru)
end
noncomputable def CX1(P:Program)(w:World):CXT:=λouter H s E v s'=>∃(e C dx:Addr) (fs:List (Str×V)) (H':Hp),v=.ref e/\s'.os=s.os/\AllBare s'.gens/\Un (frs outer) [] H H' s.heap s'.heap/\HOk P w H' s'.heap/\Trc s'.heap e/\H' e=some (.ext (ExO e C dx))/\H' dx=some (.ext (XdO dx fs))/\dx≠e/\E v (some dx) H'
section
variable {X:Cx}{pins:List (Addr×Obj)}{σ:St}{H:Hp}{s:Shared}{h':Heap}
theorem Inv.noted{e C dx:Addr}{φ:Heap->Prop}(I:Inv X pins σ H s)(he:H e=some (.ext φ))(n:Ntd (frs X.stack) e s.heap h')(ho:ExO e C dx h'):Inv X pins σ (upd H e (.ext (ExO e C dx))) { s with heap:=h' }:=by
 have up:∀{b:Addr} {u:HO},H b=some u->b≠e->upd H e (.ext (ExO e C dx)) b=some u:=λ{b u} q m=>by rw[zad m];exact q
 refine I.call (g':=s.gens) (t':=s.toks) (d':=s.drawn) (ch:=[]) ⟨λb o q m hc hx=>n.keep b o (zag he m).symm hc q,λb o q m hc hx=>n.slot b o hc q,λb o q m hx=>?_,λb o q hx=>?_,λb xs q=>up q (zd3 q he λz=>nomatch z),λb o u q=>up q (zd3 q he λz=>nomatch z),λb ps q=>⟨#[],by rw[up q (zd3 q he λz=>nomatch z)];simp⟩⟩ (λb u q=>?_) I.bare (λ_ z=>nomatch z)
 ·rw[zad (zag he m).symm];exact m
 ·by_cases hb:b=e
  ·subst hb;obtain⟨vs,sl,z⟩:=ho;exact⟨_,z⟩
  ·by_cases hf:b∈frs X.stack
   ·obtain⟨sl,z⟩:=n.slot b o hf q;exact⟨_,z⟩
   ·exact⟨o,n.keep b o hb hf q⟩
 ·by_cases hb:b=e
  ·subst hb;rw[zac]at q;cases q;exact zpz ho
  ·rw[zad hb]at q
   refine(I.hok b u q).stay (λc v hc z=>n.keep c v ?_ ?_ z) (λc z=>up z (zd3 z he λz=>nomatch z)) λc ys z=>up z (zd3 z he λz=>nomatch z)
   ·rcases hc with rfl|hc
    ·exact hb
    ·exact zd3 hc he λz=>nomatch z
   ·intro hm
    have:=I.stkFree c hm
    rcases hc with rfl|hc
    ·rw[q]at this;cases this
    ·rw[hc]at this;cases this
theorem zzm{fs:List Addr}{e C dx:Addr}(n:Ntd fs e s.heap h')(ho:ExO e C dx s.heap):ExO e C dx h':=by
 obtain⟨vs,sl,z⟩:=ho;obtain⟨vs',z'⟩:=n.exc _ vs z rfl;exact⟨vs',sl,z'⟩
end
def Xes(X:Cx)(W:XK):Prop:=∀(pins:List (Addr×Obj)) (σ:St) (H:Hp) (s:Shared) (e C dx t0:Addr) (fs:List (Str×V)),Inv X pins σ H s->H e=some (.ext (ExF e C dx t0))->H dx=some (.ext (XdO dx fs))->dx≠e->W (.ref e) (some dx) (upd H e (.ext (ExO e C dx)))->X.xe (.ref e) s
section
variable {P:Program}{w:World}{K:PySem.W.Frag}{mg:Str->Option Value}{base:Heap}{N:List Str}{qual:Str}{scope:Scope}{f:Addr}{cd:Value}{A:Around}{outer:List Env}{s:Shared}{H:Hp}{E:XK}
theorem ztw{v:Value}{s':Shared}{Q:Unit->Shared->Prop}{E':Value->Shared->Prop}{M:Model}{A:Around}{env:Env}(h:wpAny M A (noteFrame v env) (λ_ s2=>wpAny M A (setFlight v none) Q E' s2) E' s'):wpAny M A (leaving env v) Q E' s':=by
 unfold leaving;exact aa h
end
noncomputable def yc5(K:PySem.W.Frag)(i j:Nat)(f:Str):TS:=λD σ H=>∃e u nm C P fI,σ[i]?=some (some (.ref e))/\σ[j]?=some (some u)/\XK' K nm C P fI/\f∈zco ∧
 ((∃ t0,H e=some (.ext (ExN e C t0))/\∀ dx,H dx=none->dx≠e->D.nx σ (upd (upd H e (.ext (ExF e C dx t0))) dx (.ext (XdO dx [(f,u)])))) ∨
  (∃dx t0 fs,H e=some (.ext (ExF e C dx t0))/\H dx=some (.ext (XdO dx fs))/\dx≠e/\fs.lookup f=none/\fs.length<=10/\D.nx σ (upd H dx (.ext (XdO dx (fs++[(f,u)]))))))
section
variable {X:Cx}
theorem zp0 {i j:Nat}{x y f:Str}{p p1 p2 pos:Pos} (hi:X.N[i]?=some x:=by rfl) (hj:X.N[j]?=some y:=by rfl) (hx:Vis X.env.scope x:=by first|exact cb rfl|exact af (cb rfl)) (hy:Vis X.env.scope y:=by first|exact cb rfl|exact af (cb rfl)) (hd:(x == ("__debug__" : Str))=false:=by decide)
  (hcd:(x == ("__classdict__" : Str))=false:=by decide) (hdy:(y == ("__debug__" : Str))=false:=by decide) (hcdy:(y == ("__classdict__" : Str))=false:=by decide) (hs:swapsWith (.Name y p2) (some (.Attribute (.Name x p) f p1)) pos.line X.env=pure false:=by rfl) :
  PS X (.Assign [.Attribute (.Name x p) f p1] (.Name y p2) pos) (yc5 X.K i j f):=by
 intro pins s σ H D I ⟨e,u,nm,C,P,fI,h1,h2,c,hf,q⟩;refine plainObj_wpAny_Assign_Attribute (thn ((zcg hj hy hdy hcdy) pins s σ H (λv H1=>v=u/\H1=H) I ⟨u,h2,rfl,rfl⟩) λuv s1 ⟨v,H1,I1,rv,e1,e2⟩=>thn ((zcg hi hx hd hcd) pins s1 σ H1 (λv H2=>v=.ref e/\H2=H1) I1 ⟨_,h1,rfl,rfl⟩) λov s2 ⟨v2,H2,I2,rx,e3,e4⟩=>?_) hs;subst e1 e2 e3 e4;obtain rfl:ov=Value.ref e:=rx;refine zzk I2 c hf rv ?_;rcases q with⟨t0,he,q⟩|⟨dx,t0,fs,he,hd',hne,hl,hn,q⟩
 ·exact .inl ⟨t0,he,λs' dx n1 n2 I3=>⟨σ,_,I3,q dx n1 n2⟩⟩
 ·exact .inr ⟨dx,t0,fs,he,hd',hne,hl,hn,λs' I3=>⟨σ,_,I3,q⟩⟩
end
noncomputable def spI(K:PySem.W.Frag)(nm:Str)(fl:List Str):Sp:=λvs H Q _=>∃e us C P fI t0,vs=.ref e::us/\us.length=fl.length/\XK' K nm C P fI/\H e=some (.ext (ExN e C t0))/\∀dx,H dx=none->dx≠e->Q .non (upd (upd H e (.ext (ExF e C dx t0))) dx (.ext (XdO dx (fl.zip us))))
def ClP(K:PySem.W.Frag)(nm:Str)(C:Addr):Prop:=∃P fI,XK' K nm C P fI/\PySem.W.nsIn K mainGlobals "PageError" = some (some (.ref P))/\PySem.W.nsIn K mainGlobals nm=some (some (.ref C))
noncomputable def z4e(K:PySem.W.Frag)(nm:Str)(fl:List Str)(W:XK)(t:TA):TS:=λ_ σ H=>t σ H λvs H1=>vs.length=fl.length/\∀e dx C,H1 e=none->H1 dx=none->dx≠e->ClP K nm C->W (.ref e) (some dx) (upd (upd H1 e (.ext (ExO e C dx))) dx (.ext (XdO dx (fl.zip vs))))
section
variable {X:Cx}{k:Nat}{fI C P:Addr}{fd:FuncData}{ps:List Str}{x nm:Str}{p cp pos:Pos}{a:Expr}{as:List Expr}{t:TA}{W:XK}{fl:List Str}
theorem ztx (hc:X.calm=true) (c:XK' X.K nm C P (some fI)) (hP:PySem.W.nsIn X.K mainGlobals "PageError" = some (some (.ref P))) (hCn:PySem.W.nsIn X.K mainGlobals nm=some (some (.ref C))) (hfn:∃o,X.K.lookup fI=some o/\o.cls=.type "function") (hkp:PySem.W.keepIn X.K (.ref C)=true) (F:FnOk X.prog X.w X.K X.mg X.base CX0 k fI fd ps (spI X.K nm fl)) (hr:Room (k+1) X.A) (hg:Gl X x) (hm:X.mg x=some (.ref C)) (hb:zch X.K fd ps []) (hxe:Xes X W)
  (hfl:fl.length<=10) (ha:PA X (a::as) t) (hdb:(x == ("__debug__" : Str))=false:=by decide) (he:starEach (a::as) X.env=(false,eval a X.env)::starEach as X.env:=by rfl) (hpl:(backTo cp (starEach as X.env)).any (·.1)=false:=by rfl) :
  PS X (.Raise (some (.Call (.Name x p) (a::as) [] cp)) none pos) (z4e X.K nm fl W t):=by
 intro pins s σ H D I h;obtain⟨mN0,mP0,xc0,hx0,hi0,hp0⟩:=c.at_ X.base I.ok.mod.kin;refine zzd (nm:=nm) (C:=C) (P:=P) (mN:=mN0) (mP:=mP0) (I.ok.hd hc) ?_;refine zf (zey I hg hm ?_ hdb);refine PySem.W.callWith_K (h₀:=X.base) I.ok.mod.kin hkp (thn (ha cp pins s σ H _ I h) λus s1 ⟨vs,H1,I1,r,hl,q⟩=>⟨I1.kIn,?_⟩) he hpl;have xc1:=xc0.keeps I1.bk;have hus:us.length=fl.length:=by rw[<-r.length];exact hl
 obtain⟨oI,hoI',hcI⟩:=hfn;have hoI:=I1.kIn _ _ hoI';rw[ke];obtain⟨hh,g,d,tk,os⟩:=s1;refine z33 xc1 hp0 hi0 hoI hcI (λh' e hm' hge=>?_) (by rw[hus];exact ed hfl (by decide));obtain⟨t0,ht,_,_⟩:=hm'.there;have hfr:H1 e=none:=I1.hok.fresh hge;have I2:Inv X pins σ (upd H1 e (.ext (ExN e C t0))) ⟨h',g,d,tk,os⟩:=I1.laid (t':=tk) hm'.keeps hge (z4c ht);have r2:zbj (V.ref e::vs) (Value.ref e::us):=.cons rfl r;have hq:spI X.K nm fl (.ref e::vs) (upd H1 e (.ext (ExN e C t0))) (λv H2=>v=.non/\∃dx,H1 dx=none/\dx≠e/\H2=upd (upd (upd H1 e (.ext (ExN e C t0))) e (.ext (ExF e C dx t0))) dx (.ext (XdO dx (fl.zip vs)))) E0:=⟨e,vs,C,P,some fI,t0,rfl,hl,c,zac,λdx n1 n2=>⟨rfl,dx,by rw[zad n2]at n1;exact n1,n2,rfl⟩⟩
 have hlen:(Value.ref e::us).length=ps.length:=by
  have e1:=r2.length;rw[F.len _ _ _ _ hq]at e1;exact e1.symm
 refine yo (gk (F.run _ X.stack _ _ ⟨Value.ref e::us,[]⟩ (Value.ref e::us) _ _ E0 (hr.make C us []) (I2.env0.make C us []) (by have:=hb _ (Value.ref e::us) I2.kIn (by simpa using hlen);simpa using this) r2 hq) λr s' hq'=>?_)
 cases r with
 |error z=>exact hq'.elim
 |ok fl' =>
  cases fl' with
  |ret u =>
   obtain⟨v,H',I3,rv,ev,dx,n1,n2,eH⟩:=I2.after hq';subst ev eH;obtain rfl:u=Value.none:=rv;have he3:upd (upd (upd H1 e (.ext (ExN e C t0))) e (.ext (ExF e C dx t0))) dx (.ext (XdO dx (fl.zip vs))) e=some (.ext (ExF e C dx t0)):=by rw[zad (rf n2),zac]
   have hoe:s'.heap.get? e=some ⟨.ref C,some dx,.fields #[.ref t0,.none,.none,.none,.bool false,.none],#[]⟩:=I3.hok.ext he3;refine⟨rfl,e,some dx,t0,#[],rfl,xc0.keeps I3.bk,hoe,hxe pins σ _ s' e C dx t0 (fl.zip vs) I3 he3 zac n2 ?_⟩
   have eq:upd (upd (upd (upd H1 e (.ext (ExN e C t0))) e (.ext (ExF e C dx t0))) dx (.ext (XdO dx (fl.zip vs)))) e (.ext (ExO e C dx))=upd (upd H1 e (.ext (ExO e C dx))) dx (.ext (XdO dx (fl.zip vs))):=by
    funext b
    by_cases hb1:b=e
    ·subst hb1;rw[zac,zad (rf n2),zac]
    ·by_cases hb2:b=dx
     ·subst hb2;rw[zad hb1,zac,zac]
     ·rw[zad hb1,zad hb2,zad hb1,zad hb1,zad hb2,zad hb1]
   rw[eq];exact q e dx C hfr n1 n2 ⟨P,some fI,c,hP,hCn⟩
  |next=>exact False.elim hq'
  |brk=>exact False.elim hq'
  |cont=>exact False.elim hq'
end
noncomputable abbrev D.int(i:Int):D:=.sc (.int i)
noncomputable abbrev D.bl(b:Bool):D:=.sc (.bl b)
noncomputable abbrev D.non:D:=.sc .non
noncomputable abbrev D.str(l:List Nat):D:=.sc (.str (S l))
theorem _root_.PySem.Paired.zmap{α β:Type}{F G:α->β->Prop}{l₁:List α}{l₂:List β}(h:Paired F l₁ l₂)(f:∀a b,F a b->G a b):Paired G l₁ l₂:=Paired.mapP h f
def SqU(K:PySem.W.Frag)(H:Hp)(a:Addr)(xs:List V):Prop:=H a=some (.tup xs)
theorem SqU.toT{K:PySem.W.Frag}{H:Hp}{a:Addr}{xs:List V}(h:SqU K H a xs):SqT K H a xs:=.inl (.inl h)
theorem SqU.of{K:PySem.W.Frag}{H:Hp}{a:Addr}{xs:List V}(h:H a=some (.tup xs)):SqU K H a xs:=h
theorem SqU.same{K:PySem.W.Frag}{H H':Hp}{a:Addr}{xs:List V}(h:SqU K H a xs)(s:zax H H'):SqU K H' a xs:=s _ _ h
def zlb(K:PySem.W.Frag)(H:Hp):Nat->D->V->Prop
 |0,d,x=>match d with|.sc v=>zci v=true/\x=v|_=>False
 |k+1,d,x=>match d with
  |.sc v=>zci v=true/\x=v
  |.tup ds=>∃a xs,x=.ref a/\SqU K H a xs/\Paired (zlb K H k) ds xs
  |.lst ds=>∃a xs,x=.ref a/\SqL K H a xs/\Paired (zlb K H k) ds xs
  |.dk ks ds=>∃a kvs,x=.ref a/\H a=some (.dK kvs)/\kvs.map Prod.fst=ks/\Paired (zlb K H k) ds (kvs.map Prod.snd)
  |.dt ks ds=>∃a kvs,x=.ref a/\H a=some (.dT kvs)/\kvs.map Prod.fst=ks/\Paired (zlb K H k) ds (kvs.map Prod.snd)
  |.er n ks ds=>∃e C dx fs,x=.ref e/\H e=some (.ext (ExO e C dx))/\ClP K n C/\dx≠e/\H dx=some (.ext (XdO dx fs))/\fs.map Prod.fst=ks/\Paired (zlb K H k) ds (fs.map Prod.snd)
theorem z4f{K:PySem.W.Frag}{H:Hp}:∀{k:Nat}{d:D}{x:V},zlb K H k d x->zlb K H (k+1) d x:=by
 intro k
 induction k with
 |zero =>
  intro d x h
  cases d with
  |sc v=>exact h
  |_=>exact h.elim
 |succ k ih =>
  intro d x h
  cases d with
  |sc v=>exact h
  |tup ds=>obtain⟨a,xs,e,q,p⟩:=h;exact⟨a,xs,e,q,p.zmap λ_ _=>ih⟩
  |lst ds=>obtain⟨a,xs,e,q,p⟩:=h;exact⟨a,xs,e,q,p.zmap λ_ _=>ih⟩
  |dk ks ds=>obtain⟨a,xs,e,q,hk,p⟩:=h;exact⟨a,xs,e,q,hk,p.zmap λ_ _=>ih⟩
  |dt ks ds=>obtain⟨a,xs,e,q,hk,p⟩:=h;exact⟨a,xs,e,q,hk,p.zmap λ_ _=>ih⟩
  |er n ks ds=>obtain⟨e,C,dx,fs,h1,h2,h3,h4,h5,h6,p⟩:=h;exact⟨e,C,dx,fs,h1,h2,h3,h4,h5,h6,p.zmap λ_ _=>ih⟩
theorem zwl{K:PySem.W.Frag}{H:Hp}{j k:Nat}{d:D}{x:V}(h:zlb K H j d x)(hk:j<=k):zlb K H k d x:=by
 induction hk with
 |refl=>exact h
 |step _ ih=>exact z4f ih
theorem zl9{K:PySem.W.Frag}{H H':Hp}(s:zax H H'):∀{k:Nat}{d:D}{x:V},zlb K H k d x->zlb K H' k d x:=by
 intro k
 induction k with
 |zero =>
  intro d x h
  cases d with
  |sc v=>exact h
  |_=>exact h.elim
 |succ k ih =>
  intro d x h
  cases d with
  |sc v=>exact h
  |tup ds=>obtain⟨a,xs,e,q,p⟩:=h;exact⟨a,xs,e,q.same s,p.zmap λ_ _=>ih⟩
  |lst ds=>obtain⟨a,xs,e,q,p⟩:=h;exact⟨a,xs,e,s.seq q,p.zmap λ_ _=>ih⟩
  |dk ks ds=>obtain⟨a,xs,e,q,hk,p⟩:=h;exact⟨a,xs,e,s _ _ q,hk,p.zmap λ_ _=>ih⟩
  |dt ks ds=>obtain⟨a,xs,e,q,hk,p⟩:=h;exact⟨a,xs,e,s _ _ q,hk,p.zmap λ_ _=>ih⟩
  |er n ks ds=>obtain⟨e,C,dx,fs,h1,h2,h3,h4,h5,h6,p⟩:=h;exact⟨e,C,dx,fs,h1,s _ _ h2,h3,h4,s _ _ h5,h6,p.zmap λ_ _=>ih⟩
def Dn(K:PySem.W.Frag)(H:Hp)(d:D)(x:V):Prop:=∃k,zlb K H k d x
abbrev Dns(K:PySem.W.Frag)(H:Hp):List D->List V->Prop:=Paired (Dn K H)
section
variable {K:PySem.W.Frag}{H H':Hp}
theorem Dn.same{d:D}{x:V}(h:Dn K H d x)(s:zax H H'):Dn K H' d x:=let ⟨k,h⟩:=h;⟨k,zl9 s h⟩
theorem Dns.same{ds:List D}{xs:List V}(h:Dns K H ds xs)(s:zax H H'):Dns K H' ds xs:=h.zmap λ_ _ z=>z.same s
theorem Dns.level:∀{ds:List D}{xs:List V},Dns K H ds xs->∃k,Paired (zlb K H k) ds xs
 |_,_,.nil=>⟨0,.nil⟩
 |_,_,.cons ⟨k,h⟩ t=>by
  obtain⟨j,q⟩:=Dns.level t;exact⟨max k j,.cons (zwl h (Nat.le_max_left _ _)) (q.zmap λ_ _ z=>zwl z (Nat.le_max_right _ _))⟩
theorem zav{v:V}(h:zci v=true):Dn K H (.sc v) v:=⟨0,h,rfl⟩
theorem Dn.sc{v x:V}(h:Dn K H (.sc v) x):zci v=true/\x=v:=by
 obtain⟨k,h⟩:=h
 cases k <;> exact h
theorem zf0{ds:List D}{a:Addr}{xs:List V}(h:SqU K H a xs)(p:Dns K H ds xs):Dn K H (.tup ds) (.ref a):=by
 obtain⟨k,q⟩:=p.level;exact⟨k+1,a,xs,rfl,h,q⟩
theorem zc8{ds:List D}{a:Addr}{xs:List V}(h:SqL K H a xs)(p:Dns K H ds xs):Dn K H (.lst ds) (.ref a):=by
 obtain⟨k,q⟩:=p.level;exact⟨k+1,a,xs,rfl,h,q⟩
theorem Dn.tupU{ds:List D}{x:V}(h:Dn K H (.tup ds) x):∃a xs,x=.ref a/\SqU K H a xs/\Dns K H ds xs:=by
 obtain⟨k,h⟩:=h
 cases k with
 |zero=>exact h.elim
 |succ k=>obtain⟨a,xs,e,q,p⟩:=h;exact⟨a,xs,e,q,p.zmap λ_ _ z=>⟨k,z⟩⟩
theorem Dn.tup{ds:List D}{x:V}(h:Dn K H (.tup ds) x):∃a xs,x=.ref a/\SqT K H a xs/\Dns K H ds xs:=let ⟨a,xs,e,q,p⟩:=h.tupU;⟨a,xs,e,q.toT,p⟩
theorem Dn.lst{ds:List D}{x:V}(h:Dn K H (.lst ds) x):∃a xs,x=.ref a/\SqL K H a xs/\Dns K H ds xs:=by
 obtain⟨k,h⟩:=h
 cases k with
 |zero=>exact h.elim
 |succ k=>obtain⟨a,xs,e,q,p⟩:=h;exact⟨a,xs,e,q,p.zmap λ_ _ z=>⟨k,z⟩⟩
theorem z4g{ks:List Key}{ds:List D}{a:Addr}{kvs:List (Key×V)}(h:H a=some (.dK kvs))(e:kvs.map Prod.fst=ks)(p:Dns K H ds (kvs.map Prod.snd)):Dn K H (.dk ks ds) (.ref a):=by
 obtain⟨k,q⟩:=p.level;exact⟨k+1,a,kvs,rfl,h,e,q⟩
theorem zzn{ks:List (List Key)}{ds:List D}{a:Addr}{kvs:List (List Key×V)}(h:H a=some (.dT kvs))(e:kvs.map Prod.fst=ks)(p:Dns K H ds (kvs.map Prod.snd)):Dn K H (.dt ks ds) (.ref a):=by
 obtain⟨k,q⟩:=p.level;exact⟨k+1,a,kvs,rfl,h,e,q⟩
theorem Dn.dk{ks:List Key}{ds:List D}{x:V}(h:Dn K H (.dk ks ds) x):∃a kvs,x=.ref a/\H a=some (.dK kvs)/\kvs.map Prod.fst=ks/\Dns K H ds (kvs.map Prod.snd):=by
 obtain⟨k,h⟩:=h
 cases k with
 |zero=>exact h.elim
 |succ k=>obtain⟨a,xs,e,q,hk,p⟩:=h;exact⟨a,xs,e,q,hk,p.zmap λ_ _ z=>⟨k,z⟩⟩
theorem Dn.dt{ks:List (List Key)}{ds:List D}{x:V}(h:Dn K H (.dt ks ds) x):∃a kvs,x=.ref a/\H a=some (.dT kvs)/\kvs.map Prod.fst=ks/\Dns K H ds (kvs.map Prod.snd):=by
 obtain⟨k,h⟩:=h
 cases k with
 |zero=>exact h.elim
 |succ k=>obtain⟨a,xs,e,q,hk,p⟩:=h;exact⟨a,xs,e,q,hk,p.zmap λ_ _ z=>⟨k,z⟩⟩
theorem Dn.int{i:Int}{x:V}(h:Dn K H (.int i) x):x=.int i:=h.sc.2
theorem Dn.bl{b:Bool}{x:V}(h:Dn K H (.bl b) x):x=.bl b:=h.sc.2
theorem Dn.str{z:Str}{x:V}(h:Dn K H (.sc (.str z)) x):x=.str z:=h.sc.2
end
theorem _root_.PySem.Paired.zget{α β:Type}{F:α->β->Prop}:∀{l₁:List α}{l₂:List β}{j:Nat}{a:α},Paired F l₁ l₂->l₁[j]?=some a->∃b,l₂[j]?=some b/\F a b
 |_,_,_,_,.nil,e=>by simp at e
 |_,_,0,_,.cons r _,e=>by simp at e;subst e;exact⟨_,rfl,r⟩
 |_,_,j+1,_,.cons _ t,e=>by
  obtain⟨a,h1,h2⟩:=PySem.Paired.zget (j:=j) t (by simpa using e);exact⟨a,by simpa using h1,h2⟩
theorem _root_.PySem.Paired.zsnoc{α β:Type}{F:α->β->Prop}:∀{l₁:List α}{l₂:List β}{a:α}{b:β},Paired F l₁ l₂->F a b->Paired F (l₁++[a]) (l₂++[b])
 |_,_,_,_,.nil,h=>.cons h .nil
 |_,_,_,_,.cons r t,h=>.cons r (PySem.Paired.zsnoc t h)
theorem _root_.PySem.Paired.zapp{α β:Type}{F:α->β->Prop}:∀{l₁ m₁:List α}{l₂ m₂:List β},Paired F l₁ l₂->Paired F m₁ m₂->Paired F (l₁++m₁) (l₂++m₂)
 |_,_,_,_,.nil,h=>h
 |_,_,_,_,.cons r t,h=>.cons r (PySem.Paired.zapp t h)
theorem _root_.PySem.Paired.ztake{α β:Type}{F:α->β->Prop}:∀{l₁:List α}{l₂:List β} (n:Nat),Paired F l₁ l₂->Paired F (l₁.take n) (l₂.take n)
 |_,_,0,_=>.nil
 |_,_,_+1,.nil=>.nil
 |_,_,n+1,.cons r t=>.cons r (PySem.Paired.ztake n t)
theorem _root_.PySem.Paired.zdrop{α β:Type}{F:α->β->Prop}:∀{l₁:List α}{l₂:List β} (n:Nat),Paired F l₁ l₂->Paired F (l₁.drop n) (l₂.drop n)
 |_,_,0,h=>h
 |_,_,_+1,.nil=>.nil
 |_,_,n+1,.cons r t=>PySem.Paired.zdrop n t
theorem _root_.PySem.Paired.zset{α β:Type}{F:α->β->Prop}{a:α}{b:β}(r:F a b):∀{l₁:List α}{l₂:List β} (i:Nat),Paired F l₁ l₂->Paired F (l₁.set i a) (l₂.set i b)
 |_,_,_,.nil=>.nil
 |_,_,0,.cons _ t=>.cons r t
 |_,_,i+1,.cons q t=>.cons q (PySem.Paired.zset r i t)
theorem _root_.PySem.Paired.zrev{α β:Type}{F:α->β->Prop}{l₁:List α}{l₂:List β}(h:Paired F l₁ l₂):Paired F l₁.reverse l₂.reverse:=by
 induction h with
 |nil=>exact .nil
 |cons r t ih=>simp only[List.reverse_cons];exact ih.zsnoc r
def zgy(H:Hp)(b:Addr):Prop:=H b=none\/∃xs,H b=some (.tup xs)
theorem zgy.no{H:Hp}{b:Addr}{o:HO}(h:zgy H b)(e:H b=some o)(ho:∀xs,o≠.tup xs):False:=by
 rcases h with h|⟨xs,h⟩
 ·rw[h]at e;cases e
 ·rw[h]at e;cases e;exact ho xs rfl
theorem zgy.back{H H':Hp}{b:Addr}(h:zgy H' b)(s:zax H H'):zgy H b:=by
 cases e:H b with
 |none=>exact .inl e
 |some o =>
  rcases h with h|⟨xs,h⟩
  ·rw[s b o e]at h;cases h
  ·rw[s b o e]at h;cases h;exact .inr ⟨xs,e⟩
structure Ex(Hf H Hf' H':Hp):Prop where
 ff:zax Hf Hf'
 hh:zax H H'
 fh:zax Hf' H'
 nw:∀b,Hf' b≠none->Hf b≠none\/zgy H b
 nf:∀b o u,Hf' b=some (.frz o u)->Hf b=some (.frz o u)
theorem Ex.refl{Hf H:Hp}(s:zax Hf H):Ex Hf H Hf H:=⟨zax.refl _,zax.refl _,s,λ_ h=>.inl h,λ_ _ _ h=>h⟩
theorem Ex.trans{Hf H Hf1 H1 Hf2 H2:Hp}(a:Ex Hf H Hf1 H1)(b:Ex Hf1 H1 Hf2 H2):Ex Hf H Hf2 H2 :=
 ⟨a.ff.trans b.ff,a.hh.trans b.hh,b.fh,λc h=>(b.nw c h).elim (a.nw c) λz=>.inr (z.back a.hh),λc o u h=>a.nf c o u (b.nf c o u h)⟩
theorem Ex.new{Hf H:Hp}{p:Addr}{o:HO}(s:zax Hf H)(hp:H p=none)(ho:∀x u,o≠.frz x u:=by intro x u z;cases z):Ex Hf H (upd Hf p o) (upd H p o):=by
 have hf:Hf p=none:=s.free hp;refine⟨zas hf,zas hp,λb u e=>?_,λb h=>?_,λb x u h=>?_⟩
 ·by_cases hb:b=p
  ·subst hb;rw[zac]at e ⊢;exact e
  ·rw[zad hb]at e ⊢;exact s b u e
 ·by_cases hb:b=p
  ·subst hb;exact .inr (.inl hp)
  ·rw[zad hb]at h;exact .inl h
 ·by_cases hb:b=p
  ·subst hb;rw[zac]at h;cases h;exact absurd rfl (ho x u)
  ·rw[zad hb]at h;exact h
theorem Ex.made{Hf H:Hp}{p:Addr}{o:HO}(s:zax Hf H)(hp:H p=none):Ex Hf H Hf (upd H p o) :=
 ⟨zax.refl _,zas hp,s.trans (zas hp),λ_ h=>.inl h,λ_ _ _ h=>h⟩
inductive Sl where
 |sh (d:D)|ow (ds:List D)|dk (ks:List Key) (ds:List D)|dt (ks:List (List Key)) (ds:List D)
noncomputable abbrev Rho:=List (Option Sl)
noncomputable def zf1:Sl->Bool
 |.sh _=>false
 |_=>true
def zon(K:PySem.W.Frag)(Hf H:Hp):Sl->V->Prop
 |.sh d,v=>Dn K Hf d v
 |.ow ds,v=>∃p xs,v=.ref p/\Hf p=none/\H p=some (.lst xs)/\Dns K Hf ds xs
 |.dk ks ds,v=>∃p xs,v=.ref p/\Hf p=none/\H p=some (.dK xs)/\xs.map Prod.fst=ks/\Dns K Hf ds (xs.map Prod.snd)
 |.dt ks ds,v=>∃p xs,v=.ref p/\Hf p=none/\H p=some (.dT xs)/\xs.map Prod.fst=ks/\Dns K Hf ds (xs.map Prod.snd)
theorem zon.ext{K:PySem.W.Frag}{Hf H Hf' H':Hp}{sl:Sl}{v:V}(h:zon K Hf H sl v)(e:Ex Hf H Hf' H'):zon K Hf' H' sl v:=by
 have nn:∀{p:Addr} {o:HO},Hf p=none->H p=some o->(∀xs,o≠.tup xs)->Hf' p=none:=λ{p o} h1 h2 ho=>by
  cases q:Hf' p with
  |none=>rfl
  |some u =>
   rcases e.nw p (by rw[q];exact λz=>nomatch z) with z|z
   ·exact absurd h1 z
   ·exact(z.no h2 ho).elim
 cases sl with
 |sh d=>exact Dn.same h e.ff
 |ow ds=>obtain⟨p,xs,r,h1,h2,h3⟩:=h;exact⟨p,xs,r,nn h1 h2 (λ_ z=>nomatch z),e.hh _ _ h2,Dns.same h3 e.ff⟩
 |dk ks ds=>obtain⟨p,xs,r,h1,h2,hk,h3⟩:=h;exact⟨p,xs,r,nn h1 h2 (λ_ z=>nomatch z),e.hh _ _ h2,hk,Dns.same h3 e.ff⟩
 |dt ks ds=>obtain⟨p,xs,r,h1,h2,hk,h3⟩:=h;exact⟨p,xs,r,nn h1 h2 (λ_ z=>nomatch z),e.hh _ _ h2,hk,Dns.same h3 e.ff⟩
structure Bs where
 f:Hp
 h:Hp
structure VI(K:PySem.W.Frag)(B:Bs)(Hf:Hp)(ρ:Rho)(σ:St)(H:Hp):Prop where
 ex:Ex B.f B.h Hf H
 len:ρ.length=σ.length
 ok:∀(i:Nat) sl,ρ[i]?=some (some sl)->∃v,σ[i]?=some (some v)/\zon K Hf H sl v
 own:∀(i:Nat) sl p,ρ[i]?=some (some sl)->zf1 sl=true->σ[i]?=some (some (.ref p))->B.h p=none
 dis:∀(i j:Nat) si sj p,ρ[i]?=some (some si)->ρ[j]?=some (some sj)->zf1 si=true->zf1 sj=true->σ[i]?=some (some (.ref p))->σ[j]?=some (some (.ref p))->i=j
section
variable {K:PySem.W.Frag}{B:Bs}{Hf H Hf' H':Hp}{ρ:Rho}{σ:St}
theorem VI.ext(I:VI K B Hf ρ σ H)(e:Ex Hf H Hf' H'):VI K B Hf' ρ σ H' :=
 ⟨I.ex.trans e,I.len,λi sl h=>let ⟨v,h1,h2⟩:=I.ok i sl h;⟨v,h1,h2.ext e⟩,I.own,I.dis⟩
theorem VI.fh(I:VI K B Hf ρ σ H):zax Hf H:=I.ex.fh
theorem VI.sh{i:Nat}{d:D}(I:VI K B Hf ρ σ H)(h:ρ[i]?=some (some (.sh d))):∃v,σ[i]?=some (some v)/\Dn K Hf d v:=I.ok i _ h
theorem VI.set{i:Nat}{d:D}{v:V}(I:VI K B Hf ρ σ H)(h:Dn K Hf d v):VI K B Hf (ρ.set i (some (.sh d))) (σ.set i (some v)) H:=by
 have g:∀{j:Nat} {sl:Sl},(ρ.set i (some (.sh d)))[j]?=some (some sl)->(j=i/\sl=.sh d/\i<ρ.length)\/(j≠i/\ρ[j]?=some (some sl)):=λ{j sl} e=>by
  by_cases hj:i=j
  ·subst hj
   rw[yj]at e
   cases q:ρ[i]? with
   |none=>rw[q]at e;cases e
   |some z =>
    rw[q]at e;simp at e;exact .inl ⟨rfl,e.symm,(qa.mp q).1⟩
  ·rw[na hj]at e
   exact .inr ⟨λz=>hj z.symm,e⟩
 refine⟨I.ex,by simp[I.len],λj sl e=>?_,λj sl p e o q=>?_,λj k sj sk p e1 e2 o1 o2 q1 q2=>?_⟩
 ·rcases g e with⟨rfl,rfl,hl⟩|⟨hj,e⟩
  ·refine⟨v,?_,h⟩
   rw[nb (by rw[<-I.len];exact hl)]
  ·obtain⟨u,h1,h2⟩:=I.ok j sl e
   exact⟨u,by rw[na (λz=>hj z.symm)];exact h1,h2⟩
 ·rcases g e with⟨rfl,rfl,hl⟩|⟨hj,e⟩
  ·cases o
  ·rw[na (λz=>hj z.symm)]at q
   exact I.own j sl p e o q
 ·rcases g e1 with⟨rfl,rfl,hl⟩|⟨hj,e1⟩
  ·cases o1
  ·rcases g e2 with⟨rfl,rfl,hl⟩|⟨hk,e2⟩
   ·cases o2
   ·rw[na (λz=>hj z.symm)]at q1
    rw[na (λz=>hk z.symm)]at q2;exact I.dis j k sj sk p e1 e2 o1 o2 q1 q2
end
def Raw(K:PySem.W.Frag)(Hf H:Hp)(d:D)(x:V):Prop:=match d with
 |.lst ds=>∃p xs,x=.ref p/\H p=some (.lst xs)/\Dns K Hf ds xs
 |.dk ks ds=>∃p xs,x=.ref p/\H p=some (.dK xs)/\xs.map Prod.fst=ks/\Dns K Hf ds (xs.map Prod.snd)
 |.dt ks ds=>∃p xs,x=.ref p/\H p=some (.dT xs)/\xs.map Prod.fst=ks/\Dns K Hf ds (xs.map Prod.snd)
 |_=>False
def DnB(K:PySem.W.Frag)(Hf H:Hp)(d:D)(x:V):Prop:=Dn K Hf d x\/Raw K Hf H d x
abbrev z4h(K:PySem.W.Frag)(Hf H:Hp):List D->List V->Prop:=Paired (DnB K Hf H)
section
variable {K:PySem.W.Frag}{Hf H Hf' H':Hp}
theorem DnB.ext{d:D}{x:V}(h:DnB K Hf H d x)(e:Ex Hf H Hf' H'):DnB K Hf' H' d x:=by
 rcases h with h|h
 ·exact .inl (h.same e.ff)
 ·refine .inr ?_
  cases d with
  |lst ds=>obtain⟨p,xs,h2,h3,h4⟩:=h;exact⟨p,xs,h2,e.hh _ _ h3,h4.same e.ff⟩
  |dk ks ds=>obtain⟨p,xs,h2,h3,hk,h4⟩:=h;exact⟨p,xs,h2,e.hh _ _ h3,hk,h4.same e.ff⟩
  |dt ks ds=>obtain⟨p,xs,h2,h3,hk,h4⟩:=h;exact⟨p,xs,h2,e.hh _ _ h3,hk,h4.same e.ff⟩
  |_=>exact h.elim
theorem DnB.whole{d:D}{x:V}(h:DnB K Hf H d x)(s:zax Hf H):Dn K H d x:=by
 rcases h with h|h
 ·exact h.same s
 ·cases d with
  |lst ds=>obtain⟨p,xs,rfl,h3,h4⟩:=h;exact zc8 (SqL.of h3) (h4.same s)
  |dk ks ds=>obtain⟨p,xs,rfl,h3,hk,h4⟩:=h;exact z4g h3 hk (h4.same s)
  |dt ks ds=>obtain⟨p,xs,rfl,h3,hk,h4⟩:=h;exact zzn h3 hk (h4.same s)
  |_=>exact h.elim
theorem DnB.sc{v x:V}(h:DnB K Hf H (.sc v) x):zci v=true/\x=v:=by
 rcases h with h|h
 ·exact h.sc
 ·exact h.elim
theorem DnB.tup{ds:List D}{x:V}(h:DnB K Hf H (.tup ds) x):∃a xs,x=.ref a/\SqT K Hf a xs/\Dns K Hf ds xs:=by
 rcases h with h|h
 ·exact h.tup
 ·exact h.elim
theorem DnB.tupU{ds:List D}{x:V}(h:DnB K Hf H (.tup ds) x):∃a xs,x=.ref a/\SqU K Hf a xs/\Dns K Hf ds xs:=by
 rcases h with h|h
 ·exact h.tupU
 ·exact h.elim
theorem DnB.lst{ds:List D}{x:V}(h:DnB K Hf H (.lst ds) x)(s:zax Hf H):∃a xs,x=.ref a/\SqL K H a xs/\Dns K Hf ds xs:=by
 rcases h with h|⟨p,xs,h2,h3,h4⟩
 ·obtain⟨a,xs,e,h1,h2⟩:=h.lst
  exact⟨a,xs,e,s.seq h1,h2⟩
 ·exact⟨p,xs,h2,SqL.of h3,h4⟩
theorem DnB.dk{ks:List Key}{ds:List D}{x:V}(h:DnB K Hf H (.dk ks ds) x)(s:zax Hf H):∃a kvs,x=.ref a/\H a=some (.dK kvs)/\kvs.map Prod.fst=ks/\Dns K Hf ds (kvs.map Prod.snd):=by
 rcases h with h|⟨p,xs,h2,h3,hk,h4⟩
 ·obtain⟨a,xs,e,h1,hk,h2⟩:=h.dk
  exact⟨a,xs,e,s _ _ h1,hk,h2⟩
 ·exact⟨p,xs,h2,h3,hk,h4⟩
theorem DnB.dt{ks:List (List Key)}{ds:List D}{x:V}(h:DnB K Hf H (.dt ks ds) x)(s:zax Hf H):∃a kvs,x=.ref a/\H a=some (.dT kvs)/\kvs.map Prod.fst=ks/\Dns K Hf ds (kvs.map Prod.snd):=by
 rcases h with h|⟨p,xs,h2,h3,hk,h4⟩
 ·obtain⟨a,xs,e,h1,hk,h2⟩:=h.dt
  exact⟨a,xs,e,s _ _ h1,hk,h2⟩
 ·exact⟨p,xs,h2,h3,hk,h4⟩
end
noncomputable def eV(K:PySem.W.Frag)(B:Bs)(f:Rho->Option D):TE:=λσ H Q=>∃Hf ρ d,VI K B Hf ρ σ H/\f ρ=some d/\∀Hf' H' v,Ex Hf H Hf' H'->Dn K Hf' d v->Q v H'
noncomputable def eB(K:PySem.W.Frag)(B:Bs)(f:Rho->Option D):TE:=λσ H Q=>∃Hf ρ d,VI K B Hf ρ σ H/\f ρ=some d/\∀Hf' H' v,Ex Hf H Hf' H'->DnB K Hf' H' d v->Q v H'
noncomputable def tV(K:PySem.W.Frag)(B:Bs)(f:Rho->Option Bool):TT:=λσ H Q=>∃Hf ρ b,VI K B Hf ρ σ H/\f ρ=some b/\∀Hf' H',Ex Hf H Hf' H'->Q b H'
noncomputable def aV(K:PySem.W.Frag)(B:Bs)(f:Rho->Option (List D)):TA:=λσ H Q=>∃Hf ρ ds,VI K B Hf ρ σ H/\f ρ=some ds/\∀Hf' H' vs,Ex Hf H Hf' H'->Dns K Hf' ds vs->Q vs H'
noncomputable def aB(K:PySem.W.Frag)(B:Bs)(f:Rho->Option (List D)):TA:=λσ H Q=>∃Hf ρ ds,VI K B Hf ρ σ H/\f ρ=some ds/\∀Hf' H' vs,Ex Hf H Hf' H'->z4h K Hf' H' ds vs->Q vs H'
noncomputable def oV(K:PySem.W.Frag)(B:Bs)(f:Rho->Option (Option Int)):TO:=λσ H Q=>∃Hf ρ o,VI K B Hf ρ σ H/\f ρ=some o/\∀Hf' H',Ex Hf H Hf' H'->Q o H'
noncomputable def eC(d:D):Rho->Option D:=λ_=>some d
noncomputable def zal(i:Nat):Rho->Option D:=λρ=>match ρ[i]? with|some (some (.sh d))=>some d|_=>none
noncomputable def zaa(i:Nat):Rho->Option D:=λρ=>match ρ[i]? with|some (some (.sh d))=>some d|some (some (.ow ds))=>some (.lst ds)|some (some (.dk ks ds))=>some (.dk ks ds)|some (some (.dt ks ds))=>some (.dt ks ds)|_=>none
noncomputable def e1(g:D->Option D)(fa:Rho->Option D):Rho->Option D:=λρ=>(fa ρ).bind g
noncomputable def e2(g:D->D->Option D)(fa fb:Rho->Option D):Rho->Option D:=λρ=>(fa ρ).bind λd=>(fb ρ).bind λe=>g d e
noncomputable def eN(g:List D->Option D)(fa:Rho->Option (List D)):Rho->Option D:=λρ=>(fa ρ).bind g
noncomputable def aN:Rho->Option (List D):=λ_=>some []
noncomputable def aC(fa:Rho->Option D)(fr:Rho->Option (List D)):Rho->Option (List D):=λρ=>(fa ρ).bind λd=>(fr ρ).bind λds=>some (d::ds)
noncomputable def toB:D->Option Bool|.sc (.bl b)=>some b|_=>none
noncomputable def tE(fa:Rho->Option D):Rho->Option Bool:=λρ=>(fa ρ).bind toB
noncomputable def zed(fa fb:Rho->Option Bool):Rho->Option Bool:=λρ=>(fa ρ).bind λa=>if a=true then fb ρ else some false
noncomputable def bOr(fa fb:Rho->Option Bool):Rho->Option Bool:=λρ=>(fa ρ).bind λa=>if a=true then some true else fb ρ
noncomputable def zc9(fa:Rho->Option Bool):Rho->Option Bool:=λρ=>(fa ρ).bind λa=>some (!a)
noncomputable def eT(ft:Rho->Option Bool):Rho->Option D:=λρ=>(ft ρ).bind λb=>some (.bl b)
theorem bind_some{α β:Type}{o:Option α}{f:α->Option β}{z:β}(h:o.bind f=some z):∃a,o=some a/\f a=some z:=by
 cases o with
 |none=>cases h
 |some a=>exact⟨a,rfl,h⟩
section
variable {X:Cx}{B:Bs}{e a b c:Expr}{es:List Expr}{f fa fb fc:Rho->Option D}{ft fu:Rho->Option Bool}{fr:Rho->Option (List D)}{pos:Pos}
theorem v_b(h:PE X e (eV X.K B f)):PE X e (eB X.K B f):=h.imp λσ H Q ⟨Hf,ρ,d,I,hd,q⟩=>⟨Hf,ρ,d,I,hd,λHf' H' v ex dv=>q Hf' H' v ex (.inl dv)⟩
theorem yc6(h:PA X es (aV X.K B fr)):PA X es (aB X.K B fr):=h.imp λσ H Q ⟨Hf,ρ,d,I,hd,q⟩=>⟨Hf,ρ,d,I,hd,λHf' H' v ex dv=>q Hf' H' v ex (dv.zmap λ_ _ z=>.inl z)⟩
theorem z4i{v:V}(hv:zci v=true)(h:PE X e (tC v)):PE X e (eV X.K B (eC (.sc v))):=h.imp λσ H Q ⟨Hf,ρ,d,I,hd,q⟩=>by
 cases hd;exact q Hf H v (.refl I.fh) (zav hv)
theorem zah{i:Int}{j:Nat}:PE X (.Constant (.int i) j pos) (eV X.K B (eC (.int i))):=z4i rfl z2p
theorem zst{i:Bool}{j:Nat}:PE X (.Constant (.bool i) j pos) (eV X.K B (eC (.bl i))):=z4i rfl z2q
theorem z4j{j:Nat}:PE X (.Constant .none j pos) (eV X.K B (eC .non)):=z4i rfl z2r
theorem zdg{x:Str}{l:List Nat}{j:Nat}(h:x=S l):PE X (.Constant (.str x) j pos) (eV X.K B (eC (.str l))):=by subst h;exact z4i rfl z2s
theorem zaj (i:Nat) {x:Str}{pos:Pos} (hN:X.N[i]?=some x:=by rfl) (hv:Vis X.env.scope x:=by first|exact cb rfl|exact af (cb rfl)|exact af (af rfl)) (hd:(x == ("__debug__" : Str))=false:=by decide)
  (hcd:(x == ("__classdict__" : Str))=false:=by decide):PE X (.Name x pos) (eV X.K B (zal i)):=(zcg hN hv hd hcd).imp λσ H Q ⟨Hf,ρ,d,I,hd,q⟩=>by
 unfold zal at hd
 split at hd
 ·rename_i d' e
  cases hd;obtain⟨v,h1,h2⟩:=I.sh e
  exact⟨v,h1,q Hf H v (.refl I.fh) h2⟩
 ·cases hd
theorem zab (i:Nat) {x:Str}{pos:Pos} (hN:X.N[i]?=some x:=by rfl) (hv:Vis X.env.scope x:=by first|exact cb rfl|exact af (cb rfl)|exact af (af rfl)) (hd:(x == ("__debug__" : Str))=false:=by decide)
  (hcd:(x == ("__classdict__" : Str))=false:=by decide):PE X (.Name x pos) (eB X.K B (zaa i)):=(zcg hN hv hd hcd).imp λσ H Q ⟨Hf,ρ,d,I,hd,q⟩=>by
 unfold zaa at hd
 split at hd
 ·rename_i d' e
  cases hd;obtain⟨v,h1,h2⟩:=I.sh e
  exact⟨v,h1,q Hf H v (.refl I.fh) (.inl h2)⟩
 ·rename_i ds e
  cases hd;obtain⟨v,h1,p,xs,rfl,h2,h3,h4⟩:=I.ok i _ e
  exact⟨_,h1,q Hf H _ (.refl I.fh) (.inr ⟨p,xs,rfl,h3,h4⟩)⟩
 ·rename_i ks ds e
  cases hd;obtain⟨v,h1,p,xs,rfl,h2,h3,h4⟩:=I.ok i _ e
  exact⟨_,h1,q Hf H _ (.refl I.fh) (.inr ⟨p,xs,rfl,h3,h4⟩)⟩
 ·rename_i ks ds e
  cases hd;obtain⟨v,h1,p,xs,rfl,h2,h3,h4⟩:=I.ok i _ e
  exact⟨_,h1,q Hf H _ (.refl I.fh) (.inr ⟨p,xs,rfl,h3,h4⟩)⟩
 ·cases hd
def P2(K:PySem.W.Frag)(r:R2)(g:D->D->Option D):Prop:=∀Hf H x y d e z (Q:VK),zax Hf H->DnB K Hf H d x->DnB K Hf H e y->g d e=some z->(∀Hf' H' v,Ex Hf H Hf' H'->Dn K Hf' z v->Q v H')->r x y H Q
theorem zma{r:R2}{g:D->D->Option D}(hp:P2 X.K r g){σ:St}{H:Hp}{Q:VK}(h:eV X.K B (e2 g fa fb) σ H Q):tOp r (eB X.K B fa) (eB X.K B fb) σ H Q:=by
 obtain⟨Hf,ρ,z,I,hz,q⟩:=h;obtain⟨d,hd,hz⟩:=bind_some hz;obtain⟨e,he,hz⟩:=bind_some hz;exact⟨Hf,ρ,d,I,hd,λHf1 H1 x ex1 dx=>⟨Hf1,ρ,e,I.ext ex1,he,λHf2 H2 y ex2 dy=>hp Hf2 H2 x y d e z Q ex2.fh (dx.ext ex2) dy hz λHf' H' v ex3 dv=>q Hf' H' v ((ex1.trans ex2).trans ex3) dv⟩⟩
theorem zaz{op:Operator}{r:R2}{g:D->D->Option D}(ho:OpR X (binaryOp op) r)(hp:P2 X.K r g)(ha:PE X a (eB X.K B fa))(hb:PE X b (eB X.K B fb)):PE X (.BinOp a op b pos) (eV X.K B (e2 g fa fb)) :=
 (z8v ho ha hb).imp λσ H Q h=>zma hp h
theorem zh5{op:CmpOp}{r:R2}{g:D->D->Option D}(ho:OpR X (compareOp op) r)(hp:P2 X.K r g)(ha:PE X a (eB X.K B fa))(hb:PE X b (eB X.K B fb))(hm:behindInMarks op b=false):PE X (.Compare a [op] [b] pos) (eV X.K B (e2 g fa fb)) :=
 (zyh ho ha hb hm).imp λσ H Q h=>zma hp h
theorem zwm{t:TE}{σ:St}{H:Hp}{Q:Bool->Hp->Prop}(ht:∀R,eV X.K B f σ H R->t σ H R)(h:tV X.K B (tE f) σ H Q):zyu t σ H Q:=by
 obtain⟨Hf,ρ,b,I,hb,q⟩:=h;obtain⟨d,hd,hb⟩:=bind_some hb;refine ht _ ⟨Hf,ρ,d,I,hd,λHf' H' v ex dv=>?_⟩;unfold toB at hb
 split at hb
 ·cases hb
  rw[dv.bl];exact q Hf' H' ex
 ·cases hb
theorem zda{op:CmpOp}{r:R2}{g:D->D->Option D}(ho:OpR X (compareOp op) r)(hp:P2 X.K r g)(ha:PE X a (eB X.K B fa))(hb:PE X b (eB X.K B fb))(hm:behindInMarks op b=false):PT X (.Compare a [op] [b] pos) (tV X.K B (tE (e2 g fa fb))) :=
 (z3l ho ha hb hm).imp λσ H Q h=>zwm (λR z=>zma hp z) h
theorem zdb(ha:PE X a (eV X.K B fa))(he:∀whole,isTrue a X.env whole=(do let v ← whole;standAt a.pos;holding [v] (truthy v)):=by intro _;rfl):PT X a (tV X.K B (tE fa)) :=
 (z3m ha he).imp λσ H Q h=>zwm (λR z=>z) h
theorem zem(ha:PT X a (tV X.K B ft)):PT X (.UnaryOp .Not a pos) (tV X.K B (zc9 ft)):=(z2v ha).imp λσ H Q ⟨Hf,ρ,z,I,hz,q⟩=>by
 obtain⟨x,hx,hz⟩:=bind_some hz;cases hz;exact⟨Hf,ρ,x,I,hx,λHf' H' ex=>q Hf' H' ex⟩
variable {rest:List Expr}
theorem zty{σ:St}{H:Hp}{Q:Bool->Hp->Prop}(h:tV X.K B (zed ft fu) σ H Q):ybu (tV X.K B ft) (tV X.K B fu) σ H Q:=by
 obtain⟨Hf,ρ,z,I,hz,q⟩:=h;obtain⟨x,hx,hz⟩:=bind_some hz;refine⟨Hf,ρ,x,I,hx,λHf1 H1 ex1=>?_⟩
 cases x with
 |true=>rw[la rfl]at hz ⊢;exact⟨Hf1,ρ,z,I.ext ex1,hz,λHf' H' ex=>q Hf' H' (ex1.trans ex)⟩
 |false=>rw[wa ua]at hz ⊢;cases hz;exact q Hf1 H1 ex1
theorem zzo{σ:St}{H:Hp}{Q:Bool->Hp->Prop}(h:tV X.K B (bOr ft fu) σ H Q):tOr (tV X.K B ft) (tV X.K B fu) σ H Q:=by
 obtain⟨Hf,ρ,z,I,hz,q⟩:=h;obtain⟨x,hx,hz⟩:=bind_some hz;refine⟨Hf,ρ,x,I,hx,λHf1 H1 ex1=>?_⟩
 cases x with
 |true=>rw[la rfl]at hz ⊢;cases hz;exact q Hf1 H1 ex1
 |false=>rw[wa ua]at hz ⊢;exact⟨Hf1,ρ,z,I.ext ex1,hz,λHf' H' ex=>q Hf' H' (ex1.trans ex)⟩
theorem PW.imp{t t':TT}(h:PW X e t)(f:∀σ H Q,t' σ H Q->t σ H Q):PW X e t':=λwh pins s σ H Q I q=>h wh pins s σ H Q I (f σ H Q q)
theorem zp1(ha:PT X a (tV X.K B ft)):PW X (.BoolOp .And [a] pos) (tV X.K B ft):=zx9 ha
theorem zp2(ha:PT X a (tV X.K B ft)):PW X (.BoolOp .Or [a] pos) (tV X.K B ft):=z2t ha
theorem zwn(ha:PT X a (tV X.K B ft))(hb:PW X (.BoolOp .And (b::rest) pos) (tV X.K B fu)):PW X (.BoolOp .And (a::b::rest) pos) (tV X.K B (zed ft fu)):=(z2u ha hb).imp λσ H Q h=>zty h
theorem ztz(ha:PT X a (tV X.K B ft))(hb:PW X (.BoolOp .Or (b::rest) pos) (tV X.K B fu)):PW X (.BoolOp .Or (a::b::rest) pos) (tV X.K B (bOr ft fu)):=(z8p ha hb).imp λσ H Q h=>zzo h
theorem zmb{op:BoolOp}(h:PE X a (eV X.K B fa)):PE X (.BoolOp op [a] pos) (eV X.K B fa):=z2w h
theorem zmc(ha:PE X a (eV X.K B fa))(hb:PE X (.BoolOp .And (b::rest) pos) (eV X.K B fb)):PE X (.BoolOp .And (a::b::rest) pos) (eV X.K B (eT (zed (tE fa) (tE fb)))):=(z3n ha hb).imp λσ H Q ⟨Hf,ρ,z,I,hz,q⟩=>by
 obtain⟨x,hx,hz⟩:=bind_some hz;cases hz;obtain⟨y,hy,hx⟩:=bind_some hx;obtain⟨d,hd,hy⟩:=bind_some hy;refine⟨Hf,ρ,d,I,hd,λHf1 H1 v ex1 dv=>?_⟩;unfold toB at hy
 split at hy
 ·cases hy
  rw[dv.bl]
  cases y with
  |true =>
   rw[la rfl]at hx;obtain⟨d',hd',hx⟩:=bind_some hx;refine⟨Hf1,ρ,d',I.ext ex1,hd',λHf2 H2 v2 ex2 dv2=>?_⟩;unfold toB at hx
   split at hx
   ·cases hx;exact q Hf2 H2 v2 (ex1.trans ex2) dv2
   ·cases hx
  |false=>rw[wa ua]at hx;cases hx;exact q Hf1 H1 _ ex1 (zav rfl)
 ·cases hy
theorem z9y(ha:PE X a (eV X.K B fa))(hb:PE X (.BoolOp .Or (b::rest) pos) (eV X.K B fb)):PE X (.BoolOp .Or (a::b::rest) pos) (eV X.K B (eT (bOr (tE fa) (tE fb)))):=(z9d ha hb).imp λσ H Q ⟨Hf,ρ,z,I,hz,q⟩=>by
 obtain⟨x,hx,hz⟩:=bind_some hz;cases hz;obtain⟨y,hy,hx⟩:=bind_some hx;obtain⟨d,hd,hy⟩:=bind_some hy;refine⟨Hf,ρ,d,I,hd,λHf1 H1 v ex1 dv=>?_⟩;unfold toB at hy
 split at hy
 ·cases hy
  rw[dv.bl]
  cases y with
  |false =>
   rw[wa ua]at hx;obtain⟨d',hd',hx⟩:=bind_some hx;refine⟨Hf1,ρ,d',I.ext ex1,hd',λHf2 H2 v2 ex2 dv2=>?_⟩;unfold toB at hx
   split at hx
   ·cases hx;exact q Hf2 H2 v2 (ex1.trans ex2) dv2
   ·cases hx
  |true=>rw[la rfl]at hx;cases hx;exact q Hf1 H1 _ ex1 (zav rfl)
 ·cases hy
theorem z4k(ha:PE X a (eV X.K B fa)):PE X (.UnaryOp .Not a pos) (eV X.K B (eT (zc9 (tE fa)))):=(z3o ha).imp λσ H Q ⟨Hf,ρ,z,I,hz,q⟩=>by
 obtain⟨x,hx,hz⟩:=bind_some hz;cases hz;obtain⟨y,hy,hx⟩:=bind_some hx;cases hx;obtain⟨d,hd,hy⟩:=bind_some hy;refine⟨Hf,ρ,d,I,hd,λHf1 H1 v ex1 dv=>?_⟩;unfold toB at hy
 split at hy
 ·cases hy
  rw[dv.bl];exact q Hf1 H1 _ ex1 (zav rfl)
 ·cases hy
theorem zba:PA X [] (aV X.K B aN):=zc5.imp λσ H Q ⟨Hf,ρ,ds,I,hd,q⟩=>by cases hd;exact q Hf H [] (.refl I.fh) .nil
theorem zan(ha:PE X e (eV X.K B fa))(hr:PA X es (aV X.K B fr))(hs:starEach (e::es) X.env=(false,eval e X.env)::starEach es X.env:=by rfl):PA X (e::es) (aV X.K B (aC fa fr)):=(zbp ha hr hs).imp λσ H Q ⟨Hf,ρ,ds,I,hd,q⟩=>by
 obtain⟨d,h1,hd⟩:=bind_some hd;obtain⟨r,h2,hd⟩:=bind_some hd;cases hd;exact⟨Hf,ρ,d,I,h1,λHf1 H1 v ex1 dv=>⟨Hf1,ρ,r,I.ext ex1,h2,λHf2 H2 vs ex2 dvs=>q Hf2 H2 _ (ex1.trans ex2) (.cons (dv.same ex2.ff) dvs)⟩⟩
theorem zbx:PA X [] (aB X.K B aN):=yc6 zba
theorem zbr(ha:PE X e (eB X.K B fa))(hr:PA X es (aB X.K B fr))(hs:starEach (e::es) X.env=(false,eval e X.env)::starEach es X.env:=by rfl):PA X (e::es) (aB X.K B (aC fa fr)):=(zbp ha hr hs).imp λσ H Q ⟨Hf,ρ,ds,I,hd,q⟩=>by
 obtain⟨d,h1,hd⟩:=bind_some hd;obtain⟨r,h2,hd⟩:=bind_some hd;cases hd;exact⟨Hf,ρ,d,I,h1,λHf1 H1 v ex1 dv=>⟨Hf1,ρ,r,I.ext ex1,h2,λHf2 H2 vs ex2 dvs=>q Hf2 H2 _ (ex1.trans ex2) (.cons (dv.ext ex2) dvs)⟩⟩
noncomputable def zbb:List D->Option D:=λds=>if ds.length<=sizeLine then some (.tup ds) else none
noncomputable def zbc:List D->Option D:=λds=>if ds.length<=sizeLine then some (.lst ds) else none
theorem zde{x1}(h:PA X es (aV X.K B fr)):PE X (.Tuple es x1 pos) (eV X.K B (eN zbb fr)):=(z28 h).imp λσ H Q ⟨Hf,ρ,z,I,hz,q⟩=>by
 obtain⟨ds,hd,hz⟩:=bind_some hz;unfold zbb at hz
 split at hz
 ·rename_i hl
  cases hz;refine⟨Hf,ρ,ds,I,hd,λHf1 H1 vs ex dvs=>⟨by rw[<-dvs.length];exact hl,λp hp=>?_⟩⟩
  have e2:=Ex.new (o:=.tup vs) ex.fh hp;exact q _ _ _ (ex.trans e2) (zf0 (SqU.of zac) (dvs.same e2.ff))
 ·cases hz
theorem ze2(h:PA X es (aV X.K B fr)):PE X (.List es pos) (eV X.K B (eN zbc fr)):=(zl0 h).imp λσ H Q ⟨Hf,ρ,z,I,hz,q⟩=>by
 obtain⟨ds,hd,hz⟩:=bind_some hz;unfold zbc at hz
 split at hz
 ·rename_i hl
  cases hz;refine⟨Hf,ρ,ds,I,hd,λHf1 H1 vs ex dvs=>⟨by rw[<-dvs.length];exact hl,λp hp=>?_⟩⟩
  have e2:=Ex.new (o:=.lst vs) ex.fh hp;exact q _ _ _ (ex.trans e2) (zc8 (SqL.of zac) (dvs.same e2.ff))
 ·cases hz
end
section
variable {κ α:Type}[DecidableEq κ]
noncomputable def zcb(m:List (κ×α))(k:κ):Option α:=(m.find? λkv=>decide (kv.1=k)).map (·.2)
noncomputable def ziz(m:List (κ×α))(k:κ)(v:α):List (κ×α) :=
 if (m.any λkv=>decide (kv.1=k))=true then m.map (λkv=>if kv.1=k then (kv.1,v) else kv) else m++[(k,v)]
abbrev PKV(K:PySem.W.Frag)(H:Hp):List (κ×D)->List (κ×V)->Prop:=Paired λa b=>a.1=b.1/\Dn K H a.2 b.2
variable {K:PySem.W.Frag}{H:Hp}
theorem zp3:∀{kvs:List (κ×V)}{ks:List κ}{ds:List D},kvs.map Prod.fst=ks->Dns K H ds (kvs.map Prod.snd)->PKV K H (ks.zip ds) kvs
 |[],_,_,e,p=>by subst e;cases p;exact .nil
 |kv::r,_,_,e,p=>by
  subst e;rw[da]at p
  cases p with
  |cons a b=>exact .cons ⟨rfl,a⟩ (zp3 rfl b)
theorem PKV.fst:∀{m:List (κ×D)}{kvs:List (κ×V)},PKV K H m kvs->kvs.map Prod.fst=m.map Prod.fst
 |_,_,.nil=>rfl
 |_,_,.cons a b=>by rw[da,da,a.1,PKV.fst b]
theorem PKV.snd:∀{m:List (κ×D)}{kvs:List (κ×V)},PKV K H m kvs->Dns K H (m.map Prod.snd) (kvs.map Prod.snd)
 |_,_,.nil=>.nil
 |_,_,.cons a b=>.cons a.2 (PKV.snd b)
theorem PKV.any:∀{m:List (κ×D)}{kvs:List (κ×V)} (k:κ),PKV K H m kvs->(kvs.any λkv=>decide (kv.1=k))=m.any λkv=>decide (kv.1=k)
 |_,_,_,.nil=>rfl
 |_,_,k,.cons a b=>by rw[xg,xg,a.1,PKV.any k b]
theorem PKV.val:∀{m:List (κ×D)}{kvs:List (κ×V)} (k:κ),PKV K H m kvs->(zcb m k=none->zec kvs k=none)/\∀d,zcb m k=some d->∃v,zec kvs k=some v/\Dn K H d v
 |_,_,k,.nil=>⟨λ_=>rfl,λd h=>by cases h⟩
 |a::m,b::kvs,k,.cons h t=>by
  have ih:=PKV.val k t;by_cases e:b.1=k
  ·have e2:a.1=k:=h.1.trans e
   refine⟨λz=>?_,λd z=>?_⟩
   ·simp[zcb,sf,e2]at z
   ·simp[zcb,sf,e2]at z
    subst z;exact⟨b.2,zc0 e,h.2⟩
  ·have e2:¬a.1=k:=λz=>e (h.1.symm.trans z)
   have e3:zcb (a::m) k=zcb m k:=by simp[zcb,sf,e2]
   rw[e3,zcn e];exact ih
theorem PKV.repl{d:D}{v:V}(k:κ)(hd:Dn K H d v):∀{m:List (κ×D)}{kvs:List (κ×V)},PKV K H m kvs->PKV K H (m.map λkv=>if kv.1=k then (kv.1,d) else kv) (kvs.map λkv=>if kv.1=k then (kv.1,v) else kv)
 |_,_,.nil=>.nil
 |a::m,b::kvs,.cons h t=>by
  refine .cons ?_ (PKV.repl k hd t);by_cases e:b.1=k
  ·dsimp only;rw[la e,la (h.1.trans e)];exact⟨h.1,hd⟩
  ·dsimp only;rw[wa e,wa (λz=>e (h.1.symm.trans z))];exact h
theorem PKV.put{d:D}{v:V}(k:κ){m:List (κ×D)}{kvs:List (κ×V)}(h:PKV K H m kvs)(hd:Dn K H d v):PKV K H (ziz m k d) (zh3 kvs k v):=by
 unfold ziz zh3;rw[PKV.any k h];split
 ·exact PKV.repl k hd h
 ·exact h.zsnoc ⟨rfl,hd⟩
end
noncomputable def zlc:D->Option Key
 |.sc (.int i)=>some (.inl i)
 |.sc (.str x)=>some (.inr x)
 |_=>none
noncomputable def zf2:List D->Option (List Key)
 |[]=>some []
 |d::r=>(zlc d).bind λk=>(zf2 r).map (k::·)
noncomputable def zfc:D->Option (List Key)
 |.tup ds=>zf2 ds
 |_=>none
section
variable {K:PySem.W.Frag}{Hf H:Hp}
theorem z4l{d:D}{x:V}{k:Key}(h:Dn K H d x)(e:zlc d=some k):x=kV k:=by
 unfold zlc at e
 split at e
 ·cases e;exact h.sc.2
 ·cases e;exact h.sc.2
 ·cases e
theorem zmd{d:D}{x:V}{k:Key}(h:DnB K Hf H d x)(e:zlc d=some k):x=kV k:=by
 unfold zlc at e
 split at e
 ·cases e;exact h.sc.2
 ·cases e;exact h.sc.2
 ·cases e
theorem zp4:∀{ds:List D}{xs:List V}{ks:List Key},Dns K H ds xs->zf2 ds=some ks->xs=ks.map kV
 |_,_,_,.nil,e=>by cases e;rfl
 |_,_,_,.cons a b,e=>by
  unfold zf2 at e;obtain⟨k,h1,e⟩:=bind_some e;rename_i r _ _
  cases h2:zf2 r with
  |none=>rw[h2]at e;cases e
  |some ks =>
   rw[h2]at e;cases e;rw[da,z4l a h1,zp4 b h2]
theorem zh6{d:D}{x:V}{k:List Key}(h:DnB K Hf H d x)(e:zfc d=some k):∃b,x=.ref b/\Hf b=some (.tup (k.map kV)):=by
 unfold zfc at e
 split at e
 ·obtain⟨a,xs,rfl,h1,h2⟩:=h.tupU
  have h1:Hf a=some (.tup xs):=h1;rw[zp4 h2 e]at h1;exact⟨a,rfl,h1⟩
 ·cases e
end
noncomputable def zd5(d k:D):Option (Option D):=match d with
 |.dk ks ds=>(zlc k).map λkey=>zcb (ks.zip ds) key
 |.dt ks ds=>(zfc k).map λkey=>zcb (ks.zip ds) key
 |_=>none
theorem zh7{K:PySem.W.Frag}{Hf H:Hp}{d k:D}{x y:V}{o:Option D}(s:zax Hf H)(hd:DnB K Hf H d x)(hk:DnB K Hf H k y)(h:zd5 d k=some o):∃a r,x=.ref a/\IsD H a/\zk8 H a y r/\(o=none->r=none)/\∀z,o=some z->∃v,r=some v/\Dn K Hf z v:=by
 unfold zd5 at h
 split at h
 ·obtain⟨key,h1,h2⟩:=db.mp h
  obtain⟨a,kvs,rfl,h3,h4,h5⟩:=hd.dk s;have e:=zmd hk h1;subst e;have p:=(zp3 h4 h5).val key;rw[h2]at p;exact⟨a,_,rfl,.inl ⟨kvs,.inl h3⟩,zk8.k h3,p.1,p.2⟩
 ·obtain⟨key,h1,h2⟩:=db.mp h
  obtain⟨a,kvs,rfl,h3,h4,h5⟩:=hd.dt s;obtain⟨b,rfl,hb⟩:=zh6 hk h1;have p:=(zp3 h4 h5).val key;rw[h2]at p;exact⟨a,_,rfl,.inr ⟨kvs,.inl h3⟩,zk8.t h3 (s _ _ hb),p.1,p.2⟩
 ·cases h
noncomputable def zzp(neg:Bool):R2:=λx y H Q=>∃a o,y=.ref a/\zk8 H a x o/\Q (.bl (if neg then !o.isSome else o.isSome)) H
section
variable {X:Cx}
theorem z4m(hu:X.A.units+1<cLine):OpR X (compareOp .In) (zzp false):=by
 intro pins s σ H x y v u Q I rx ry ⟨a,o,e,g,q⟩;subst e;obtain rfl:u=Value.ref a:=ry;exact yc4 hu I g rx λs' I'=>⟨.bl o.isSome,H,I',rfl,q⟩
theorem zp5(hu:X.A.units+1<cLine):OpR X (compareOp .NotIn) (zzp true):=by
 intro pins s σ H x y v u Q I rx ry ⟨a,o,e,g,q⟩;subst e;obtain rfl:u=Value.ref a:=ry;exact zzg hu I g rx λs' I'=>⟨.bl (!o.isSome),H,I',rfl,q⟩
end
section
variable {X:Cx}
noncomputable def zzq(K:PySem.W.Frag):R2:=λx y H Q=>match x,y with|.ref l,.ref b=>∃xs zs,SqL K H l xs/\SqL K H b zs/\xs.length+zs.length<=sizeLine/\∀p,H p=none->Q (.ref p) (upd H p (.lst (xs++zs)))|_,_=>False
theorem zzr:OpR X (binaryOp .Add) (zzq X.K):=by
 intro pins s σ H x y v u Q I rx ry h;unfold zzq at h
 split at h
 ·rename_i l b
  obtain⟨xs,zs,hl,hb,hz,q⟩:=h;cases rx;cases ry;obtain⟨its,r,pl,_⟩:=I.list hl;obtain⟨its2,r2,pl2,_⟩:=I.list hb;have l1:=r.length;have l2:=r2.length;obtain⟨⟨cls,dd,data,sl⟩,ho,hc,n,hd⟩:=pl.isList;obtain⟨⟨cls2,dd2,data2,sl2⟩,ho2,hc2,n2,hd2⟩:=pl2.isList;simp only at hc hd hc2 hd2;subst hc hd hc2 hd2;refine concat_meets ⟨_,ho,rfl⟩ ⟨_,ho2,rfl⟩ noFill_list_add seq_list_add PySem.F.slot_list_add PySem.F.entry_list_add (PySem.F.args_list_add_2 _ _) (list_addW l b its.toArray its2.toArray n n2 dd dd2 sl sl2 (by simp;omega)) ⟨ho,ho2,?_⟩;have ea:its.toArray++its2.toArray=(its++its2).toArray:=by simp
  rw[ea];exact⟨.ref _,_,I.lnew (t':=s.toks) (r.append r2) (by rw[zc];omega),rfl,q _ I.fresh⟩
 ·exact h.elim
mutual
noncomputable def deq:D->D->Bool
 |.sc a,.sc b=>eqV a b
 |.tup ds,.tup es=>zcp ds es
 |.lst ds,.lst es=>zcp ds es
 |_,_=>false
noncomputable def zcp:List D->List D->Bool
 |[],[]=>true
 |a::as,b::bs=>deq a b && zcp as bs
 |_,_=>false
end
theorem zp6:∀{k:Nat}{h:Heap}{d e:D}{u v:Value},HD h k d u->HD h k e v->eqD k d e=deq d e:=by
 intro k
 induction k with
 |zero =>
  intro h d e u v h1 h2
  cases d with
  |sc a =>
   cases e with
   |sc b=>rw[deq];rfl
   |_=>exact h2.elim
  |_=>exact h1.elim
 |succ k ih =>
  intro h d e u v h1 h2
  have all:∀{ds es:List D} {us vs:List Value},Paired (HD h k) ds us->Paired (HD h k) es vs->zhc (eqD k) ds es=zcp ds es:=by
   intro ds es us vs p
   induction p generalizing es vs with
   |nil=>intro q;cases q <;> simp[zhc,zcp]
   |cons a b ih2 =>
    intro q
    cases q with
    |nil=>simp[zhc,zcp]
    |cons a' b' =>
     rw[zhc,zcp,ih a a',ih2 b']
  cases d with
  |sc a=>cases e <;> simp[eqD,deq]
  |tup ds =>
   cases e with
   |tup es =>
    obtain⟨_,_,_,_,p⟩:=h1;obtain⟨_,_,_,_,p'⟩:=h2;rw[deq];exact all p p'
   |_=>simp[eqD,deq]
  |lst ds =>
   cases e with
   |lst es =>
    obtain⟨_,_,_,_,p⟩:=h1;obtain⟨_,_,_,_,p'⟩:=h2;rw[deq];exact all p p'
   |_=>simp[eqD,deq]
  |_=>exact h1.elim
noncomputable def dOk:Nat->D->Bool
 |_,.sc _=>true
 |0,_=>false
 |n+1,.tup ds=>ds.all (dOk n)
 |n+1,.lst ds=>ds.all (dOk n)
 |_+1,_=>false
theorem Dn.at{K:PySem.W.Frag}{H:Hp}:∀{n:Nat}{d:D}{x:V},Dn K H d x->dOk n d=true->Den K H n d x:=by
 intro n
 induction n with
 |zero =>
  intro d x h hd
  cases d with
  |sc v=>exact h.sc
  |_=>cases hd
 |succ n ih =>
  intro d x h hd
  have go:∀{ds:List D} {xs:List V},Dns K H ds xs->ds.all (dOk n)=true->Paired (Den K H n) ds xs:=by
   intro ds xs p
   induction p with
   |nil=>intro _;exact .nil
   |cons a b ih2 =>
    intro hh;rw[xi,ub]at hh;exact .cons (ih a hh.1) (ih2 hh.2)
  cases d with
  |sc v=>exact h.sc
  |tup ds=>obtain⟨a,xs,e,q,p⟩:=h.tup;exact⟨a,xs,e,q,go p hd⟩
  |lst ds=>obtain⟨a,xs,e,q,p⟩:=h.lst;exact⟨a,xs,e,q,go p hd⟩
  |_=>cases hd
theorem zwo{h:Heap}:∀{k:Nat}{d e:D}{u:Value},HD h k d u->HD h k e u->d=e:=by
 intro k
 induction k with
 |zero =>
  intro d e u h1 h2
  cases d with
  |sc v =>
   cases e with
   |sc w=>obtain⟨f,r⟩:=h1;obtain⟨f',r'⟩:=h2;rw[r.inj r']
   |_=>exact h2.elim
  |_=>exact h1.elim
 |succ k ih =>
  intro d e u h1 h2
  have all:∀{ds es:List D} {us:List Value},Paired (HD h k) ds us->Paired (HD h k) es us->ds=es:=by
   intro ds es us p
   induction p generalizing es with
   |nil=>intro q;cases q;rfl
   |cons a b ih2=>intro q;cases q with|cons a' b'=>rw[ih a a',ih2 b']
  cases d with
  |sc v =>
   obtain⟨f,r⟩:=h1
   cases e with
   |sc w=>obtain⟨f',r'⟩:=h2;rw[r.inj r']
   |tup es=>obtain⟨a,its,q,_⟩:=h2;subst q;exact(zbw f r).elim
   |lst es=>obtain⟨a,its,q,_⟩:=h2;subst q;exact(zbw f r).elim
   |_=>exact h2.elim
  |tup ds =>
   obtain⟨a,its,q,t1,p1⟩:=h1;subst q
   cases e with
   |sc w=>obtain⟨f,r⟩:=h2;exact(zbw f r).elim
   |tup es=>obtain⟨a',its',q,t2,p2⟩:=h2;cases q;have q:=zpf t1 t2;subst q;rw[all p1 p2]
   |lst es=>obtain⟨a',its',q,t2,p2⟩:=h2;cases q;exact(zcz t1 t2).elim
   |_=>exact h2.elim
  |lst ds =>
   obtain⟨a,its,q,t1,p1⟩:=h1;subst q
   cases e with
   |sc w=>obtain⟨f,r⟩:=h2;exact(zbw f r).elim
   |lst es=>obtain⟨a',its',q,t2,p2⟩:=h2;cases q;have q:=zpg t1 t2;subst q;rw[all p1 p2]
   |tup es=>obtain⟨a',its',q,t2,p2⟩:=h2;cases q;exact(zcz t2 t1).elim
   |_=>exact h2.elim
  |_=>exact h1.elim
open Classical in
noncomputable def eqF(h:Heap)(k:Nat)(e:D)(w:Value):Bool:=if z:∃d,HD h k d w then eqD k z.choose e else false
theorem zjr{h:Heap}{k:Nat}{d e:D}{w:Value}(x:HD h k d w):eqF h k e w=eqD k d e:=by
 have z:∃d,HD h k d w:=⟨d,x⟩
 unfold eqF;rw[dif_pos z,zwo z.choose_spec x]
noncomputable def zzs(K:PySem.W.Frag)(k:Nat)(neg:Bool):R2:=λx y H Q=>∃p xs ds e,y=.ref p/\(SqL K H p xs\/SqT K H p xs)/\Den K H k e x/\Paired (Den K H k) ds xs/\Q (.bl (if neg then !(ds.any λd=>eqD k d e) else ds.any λd=>eqD k d e)) H
theorem zf3{h:Heap}{k:Nat}{e:D}:∀{ds:List D}{us:List Value},Paired (HD h k) ds us->us.any (eqF h k e)=ds.any λd=>eqD k d e
 |_,_,.nil=>rfl
 |_,_,.cons a b=>by rw[xg,xg,zjr a,zf3 b]
theorem zf4{A:Around}{s:Shared}{k:Nat}{e:D}{v:Value}(hv:HD s.heap k e v)(hu:A.units+k<cLine):∀{ds:List D}{us:List Value},Paired (HD s.heap k) ds us->∀u∈us,SeqAt.EqAt A s u v (eqF s.heap k e u)
 |_,_,.nil=>λu hu=>by cases hu
 |_,_,.cons a b=>λu hm=>by
  rcases pb.mp hm with rfl|hm
  ·rw[zjr a];exact zk1 a hv hu
  ·exact zf4 hv hu b u hm
theorem Inv.dens{pins:List (Addr×Obj)}{σ:St}{H:Hp}{s:Shared}{k:Nat}(I:Inv X pins σ H s){ds:List D}{xs:List V}{us:List Value}(p:Paired (Den X.K H k) ds xs)(r:zbj xs us):Paired (HD s.heap k) ds us :=
 Paired.imp2 (F:=za7) (G:=HD s.heap k) (R:=Den X.K H k) (λx u d r q=>I.den q r) r p
theorem z4n(k:Nat)(hu:X.A.units+(k+1)<cLine):OpR X (compareOp .In) (zzs X.K k false):=by
 intro pins s σ H x y v u Q I rx ry h;obtain⟨p,xs,ds,e,rfl,hq,hx,hd,q⟩:=h;cases ry;have hv:=I.den hx rx;rcases hq with hq|hq
 ·obtain⟨its,r,pl,hz⟩:=I.list hq
  have hp:=I.dens hd r;refine SeqAt.in_listAt (eqF s.heap k e) pl.isList (λw hw=>zf4 (A:=X.A.in1) hv (by show X.A.units+1+k<cLine;omega) hp w (by simpa using hw)) ⟨.bl _,H,I,rfl,?_⟩;rw[show its.toArray.any (eqF s.heap k e)=its.any (eqF s.heap k e) by simp,zf3 hp];exact q
 ·obtain⟨its,r,pl,hz⟩:=I.tuple hq
  have hp:=I.dens hd r;refine SeqAt.in_tupleAt (eqF s.heap k e) pl (λw hw=>zf4 (A:=X.A.in1) hv (by show X.A.units+1+k<cLine;omega) hp w (by simpa using hw)) ⟨.bl _,H,I,rfl,?_⟩;rw[show its.toArray.any (eqF s.heap k e)=its.any (eqF s.heap k e) by simp,zf3 hp];exact q
theorem zp7(k:Nat)(hu:X.A.units+(k+1)<cLine):OpR X (compareOp .NotIn) (zzs X.K k true):=by
 intro pins s σ H x y v u Q I rx ry h;obtain⟨p,xs,ds,e,rfl,hq,hx,hd,q⟩:=h;cases ry;have hv:=I.den hx rx;rcases hq with hq|hq
 ·obtain⟨its,r,pl,hz⟩:=I.list hq
  have hp:=I.dens hd r;refine SeqAt.notIn_listAt (eqF s.heap k e) pl.isList (λw hw=>zf4 (A:=X.A.in1) hv (by show X.A.units+1+k<cLine;omega) hp w (by simpa using hw)) ⟨.bl _,H,I,rfl,?_⟩;rw[show its.toArray.any (eqF s.heap k e)=its.any (eqF s.heap k e) by simp,zf3 hp];exact q
 ·obtain⟨its,r,pl,hz⟩:=I.tuple hq
  have hp:=I.dens hd r;refine SeqAt.notIn_tupleAt (eqF s.heap k e) pl (λw hw=>zf4 (A:=X.A.in1) hv (by show X.A.units+1+k<cLine;omega) hp w (by simpa using hw)) ⟨.bl _,H,I,rfl,?_⟩;rw[show its.toArray.any (eqF s.heap k e)=its.any (eqF s.heap k e) by simp,zf3 hp];exact q
noncomputable abbrev LV:Nat:=9
theorem zf5{K:PySem.W.Frag}{H:Hp}:∀{k:Nat}{d e:D}{x y:V},Den K H k d x->Den K H k e y->eqD k d e=deq d e:=by
 intro k
 induction k with
 |zero =>
  intro d e u v h1 h2
  cases d with
  |sc a =>
   cases e with
   |sc b=>rw[deq];rfl
   |_=>exact h2.elim
  |_=>exact h1.elim
 |succ k ih =>
  intro d e u v h1 h2
  have all:∀{ds es:List D} {us vs:List V},Paired (Den K H k) ds us->Paired (Den K H k) es vs->zhc (eqD k) ds es=zcp ds es:=by
   intro ds es us vs p
   induction p generalizing es vs with
   |nil=>intro q;cases q <;> simp[zhc,zcp]
   |cons a b ih2 =>
    intro q
    cases q with
    |nil=>simp[zhc,zcp]
    |cons a' b'=>rw[zhc,zcp,ih a a',ih2 b']
  cases d with
  |sc a=>cases e <;> simp[eqD,deq]
  |tup ds =>
   cases e with
   |tup es=>obtain⟨_,_,_,_,p⟩:=h1;obtain⟨_,_,_,_,p'⟩:=h2;rw[deq];exact all p p'
   |_=>simp[eqD,deq]
  |lst ds =>
   cases e with
   |lst es=>obtain⟨_,_,_,_,p⟩:=h1;obtain⟨_,_,_,_,p'⟩:=h2;rw[deq];exact all p p'
   |_=>simp[eqD,deq]
  |_=>exact h1.elim
noncomputable def scK:V->Nat
 |.int _=>1
 |.str _=>2
 |.bl _=>3
 |_=>0
noncomputable def gEq(d e:D):Option Bool:=match d,e with
 |.sc a,.sc b=>if scK a=scK b/\scK a≠0 then some (eqV a b) else none
 |.tup ds,.tup es=>if dOk LV (.tup ds) && dOk LV (.tup es) then some (zcp ds es) else none
 |.lst ds,.lst es=>if dOk LV (.lst ds) && dOk LV (.lst es) then some (zcp ds es) else none
 |_,_=>none
noncomputable def zdh(d e:D):Option D:=(gEq d e).map D.bl
theorem zbv{α:Type}[BEq α][LawfulBEq α](i j:α)[inst:Decidable (i=j)]:decide (i=j)=(i == j):=by
 by_cases h:i=j
 ·simp[h]
 ·rw[jc h];exact(zh.mpr h).symm
theorem zp8{n:Nat}(hr:Room n X.A):OpR X (compareOp .Eq) (λx y H Q=>kEq false x y H Q\/z88 X.K 8 x y H Q):=yc2.or (z3j 8 (by have:=hr.units;omega))
theorem z4o{K:PySem.W.Frag}{Hf H:Hp}{a b x y:V}{neg z:Bool}{Q:VK}(hx:x=a)(hy:y=b)(h:(if scK a=scK b/\scK a≠0 then some (eqV a b) else none)=some z)(q:Q (.bl (if neg then !z else z)) H):kEq neg x y H Q:=by
 subst hx hy
 split at h
 ·rename_i hs
  cases h
  cases x with
  |bl i =>
   cases y with
   |bl j=>show Q (V.bl (if neg=true then !decide (i=j) else decide (i=j))) H;rw[zbv i j];exact q
   |_=>exact absurd hs.1 (by simp[scK])
  |int i =>
   cases y with
   |int j=>show Q (V.bl (if neg=true then !decide (i=j) else decide (i=j))) H;rw[zbv i j];exact q
   |_=>exact absurd hs.1 (by simp[scK])
  |str i =>
   cases y with
   |str j=>show Q (V.bl (if neg=true then !decide (i=j) else decide (i=j))) H;rw[zbv i j];exact q
   |_=>exact absurd hs.1 (by simp[scK])
  |_=>exact absurd rfl hs.2
 ·cases h
theorem zf6{K:PySem.W.Frag}:P2 K (λx y H Q=>kEq false x y H Q\/z88 K 8 x y H Q) zdh:=by
 intro Hf H x y d e z Q s hd he hz q;unfold zdh at hz
 cases hg:gEq d e with
 |none=>rw[hg]at hz;cases hz
 |some b =>
  rw[hg]at hz;have hz:D.bl b=z:=kc hz;subst hz;have q:=q Hf H (.bl b) (.refl s) (zav rfl);unfold gEq at hg
  split at hg
  ·exact .inl (z4o (K:=K) (Hf:=Hf) hd.sc.2 he.sc.2 hg q)
  ·split at hg
   ·rename_i hk
    rw[ub]at hk;cases hg;have h1:=(hd.whole s).at hk.1;have h2:=(he.whole s).at hk.2;refine .inr ⟨_,_,h1,h2,rfl,?_⟩;rw[zf5 h1 h2,deq];exact q
   ·cases hg
  ·split at hg
   ·rename_i hk
    rw[ub]at hk;cases hg;have h1:=(hd.whole s).at hk.1;have h2:=(he.whole s).at hk.2;refine .inr ⟨_,_,h1,h2,rfl,?_⟩;rw[zf5 h1 h2,deq];exact q
   ·cases hg
  ·cases hg
noncomputable def gIn(d e:D):Option Bool:=match e with
 |.sc (.str t)=>match d with|.sc (.str x)=>some (Txt.contains t x)|_=>none
 |.lst es=>if dOk LV d && es.all (dOk LV) then some (es.any λz=>deq z d) else none
 |.tup es=>if dOk LV d && es.all (dOk LV) then some (es.any λz=>deq z d) else none
 |.dk ks es=>(zd5 (.dk ks es) d).map Option.isSome
 |.dt ks es=>(zd5 (.dt ks es) d).map Option.isSome
 |_=>none
noncomputable def zjs(d e:D):Option D:=(gIn d e).map D.bl
noncomputable def zbq(d e:D):Option D:=(gIn d e).map λb=>D.bl (!b)
theorem yc7{n:Nat}(hr:Room n X.A):OpR X (compareOp .In) (λx y H Q=>zti false x y H Q\/zzs X.K 9 false x y H Q\/zzp false x y H Q):=z9k.or ((z4n 9 (by have:=hr.units;omega)).or (z4m (by have:=hr.units;omega)))
theorem zzt{n:Nat}(hr:Room n X.A):OpR X (compareOp .NotIn) (λx y H Q=>zti true x y H Q\/zzs X.K 9 true x y H Q\/zzp true x y H Q):=ztj.or ((zp7 9 (by have:=hr.units;omega)).or (zp5 (by have:=hr.units;omega)))
theorem Dns.at{K:PySem.W.Frag}{H:Hp}{n:Nat}:∀{ds:List D}{xs:List V},Dns K H ds xs->ds.all (dOk n)=true->Paired (Den K H n) ds xs
 |_,_,.nil,_=>.nil
 |_,_,.cons a b,h=>by
  rw[xi,ub]at h;exact .cons (a.at h.1) (Dns.at b h.2)
theorem zld{K:PySem.W.Frag}{H:Hp}{k:Nat}{e:D}{y:V}(he:Den K H k e y):∀{ds:List D}{xs:List V},Paired (Den K H k) ds xs->(ds.any λd=>eqD k d e)=ds.any λd=>deq d e
 |_,_,.nil=>rfl
 |_,_,.cons a b=>by rw[xg,xg,zf5 a he,zld he b]
theorem zwp{K:PySem.W.Frag}{Hf H:Hp}{x y:V}{d e:D}{neg b:Bool}{Q:VK}(s:zax Hf H)(hd:DnB K Hf H d x)(he:DnB K Hf H e y)(hg:gIn d e=some b)(q:Q (.bl (if neg then !b else b)) H):zti neg x y H Q\/zzs K 9 neg x y H Q\/zzp neg x y H Q:=by
 unfold gIn at hg
 split at hg
 ·split at hg
  ·cases hg
   rw[hd.sc.2,he.sc.2];exact .inl q
  ·cases hg
 ·split at hg
  ·rename_i es hk
   rw[ub]at hk;cases hg;obtain⟨a,xs,rfl,hq,hs⟩:=he.lst s;have h1:=(hd.whole s).at hk.1;have h2:=Dns.at (hs.same s) hk.2;exact .inr (.inl ⟨a,xs,es,d,rfl,.inl hq,h1,h2,by rw[zld h1 h2];exact q⟩)
  ·cases hg
 ·split at hg
  ·rename_i es hk
   rw[ub]at hk;cases hg;obtain⟨a,xs,rfl,hq,hs⟩:=he.tup;have h1:=(hd.whole s).at hk.1;have h2:=Dns.at (hs.same s) hk.2;exact .inr (.inl ⟨a,xs,es,d,rfl,.inr (s.seqT hq),h1,h2,by rw[zld h1 h2];exact q⟩)
  ·cases hg
 ·obtain⟨o,h1,h2⟩:=db.mp hg
  obtain⟨a,r,rfl,_,g,n1,n2⟩:=zh7 s he hd h1;refine .inr (.inr ⟨a,r,rfl,g,?_⟩)
  have e:r.isSome=b:=by
   rw[<-h2]
   cases o with
   |none=>rw[n1 rfl];rfl
   |some z=>obtain⟨v,e,_⟩:=n2 z rfl;rw[e];rfl
  rw[e];exact q
 ·obtain⟨o,h1,h2⟩:=db.mp hg
  obtain⟨a,r,rfl,_,g,n1,n2⟩:=zh7 s he hd h1;refine .inr (.inr ⟨a,r,rfl,g,?_⟩)
  have e:r.isSome=b:=by
   rw[<-h2]
   cases o with
   |none=>rw[n1 rfl];rfl
   |some z=>obtain⟨v,e,_⟩:=n2 z rfl;rw[e];rfl
  rw[e];exact q
 ·cases hg
theorem z9z{K:PySem.W.Frag}:P2 K (λx y H Q=>zti false x y H Q\/zzs K 9 false x y H Q\/zzp false x y H Q) zjs:=by
 intro Hf H x y d e z Q s hd he hz q;unfold zjs at hz
 cases hg:gIn d e with
 |none=>rw[hg]at hz;cases hz
 |some b =>
  rw[hg]at hz;have hz:D.bl b=z:=kc hz;subst hz;exact zwp s hd he hg (q Hf H (.bl b) (.refl s) (zav rfl))
theorem zt0{K:PySem.W.Frag}:P2 K (λx y H Q=>zti true x y H Q\/zzs K 9 true x y H Q\/zzp true x y H Q) zbq:=by
 intro Hf H x y d e z Q s hd he hz q;unfold zbq at hz
 cases hg:gIn d e with
 |none=>rw[hg]at hz;cases hz
 |some b =>
  rw[hg]at hz;have hz:D.bl (!b)=z:=kc hz;subst hz;exact zwp s hd he hg (q Hf H (.bl (!b)) (.refl s) (zav rfl))
end
section
variable {X:Cx}{B:Bs}{K:PySem.W.Frag}
noncomputable def gII(h:Int->Int->V)(d e:D):Option D:=match d,e with|.sc (.int i),.sc (.int j)=>some (.sc (h i j))|_,_=>none
noncomputable def zf7(c:Int->Int->Bool)(h:Int->Int->V)(d e:D):Option D:=match d,e with|.sc (.int i),.sc (.int j)=>if c i j=true then some (.sc (h i j)) else none|_,_=>none
theorem zn5{h:Int->Int->V}(hf:∀i j,zci (h i j)=true):P2 K (k20 h) (gII h):=by
 intro Hf H x y d e z Q s hd he hz q;unfold gII at hz
 split at hz
 ·cases hz
  rw[hd.sc.2,he.sc.2];exact q Hf H _ (.refl s) (zav (hf _ _))
 ·cases hz
theorem zme{C:Int->Int->Prop}{c:Int->Int->Bool}{h:Int->Int->V}(hc:∀i j,c i j=true->C i j)(hf:∀i j,zci (h i j)=true):P2 K (k2 C h) (zf7 c h):=by
 intro Hf H x y d e z Q s hd he hz q;unfold zf7 at hz
 split at hz
 ·split at hz
  ·rename_i hk
   cases hz;rw[hd.sc.2,he.sc.2]
   exact⟨hc _ _ hk,q Hf H _ (.refl s) (zav (hf _ _))⟩
  ·cases hz
 ·cases hz
noncomputable def zf8:=gII λi j=>.int (i - j)
noncomputable def gLe:=gII λi j=>.bl (decide (i<=j))
noncomputable def gGt:=gII λi j=>.bl (decide (j<i))
noncomputable def gGe:=gII λi j=>.bl (decide (j<=i))
noncomputable def zgz(a b:Int):Bool:=!(decide (Builtin.Int.intBits a > shortFactorBits) && decide (Builtin.Int.intBits b > shortFactorBits) && Builtin.Int.intTooBig (Builtin.Int.intBits a+Builtin.Int.intBits b))
theorem zzu:OpR X (binaryOp .Mult) (rI (λi j=>zgz i j=true) λi j=>.int (i * j)):=opI λi j _ _ _ _ _ hc q=>mul_int q (by unfold IntMulOk;intro h;unfold zgz at hc;rw[h]at hc;cases hc)
noncomputable def zce:=zf7 zgz λi j=>.int (i * j)
noncomputable def zcq:=zf7 (λi j=>decide (0<j/\j<1073741824)) λi j=>.int (i / j)
noncomputable def zb5:=zf7 (λ_ j=>decide (0<j)) λi j=>.int (i % j)
noncomputable def zoo:=zf7 (λi j=>decide (0<=j/\j<=1000000/\i.natAbs<2 ^ 64)) λi j=>.int (i ^ j.toNat)
theorem zhf:P2 K (k20 λi j=>.int (i - j)) zf8:=zn5 λ_ _=>rfl
theorem zzv:P2 K (k20 λi j=>.bl (decide (j<i))) gGt:=zn5 λ_ _=>rfl
theorem z90:P2 K (k20 λi j=>.bl (decide (j<=i))) gGe:=zn5 λ_ _=>rfl
theorem zc1:P2 K (k2 (λi j=>zgz i j=true) λi j=>.int (i * j)) zce:=zme (λ_ _ h=>h) λ_ _=>rfl
theorem zb2:P2 K (k2 z8x λi j=>.int (i / j)) zcq:=zme (λ_ _ h=>yc (p:=_/\_) h) λ_ _=>rfl
theorem zbe:P2 K (k2 (λ_ j=>0<j) λi j=>.int (i % j)) zb5:=zme (λ_ _ h=>yc h) λ_ _=>rfl
theorem zp9:P2 K (k2 z8y λi j=>.int (i ^ j.toNat)) zoo:=zme (λ_ _ h=>yc (p:=_/\_/\_) h) λ_ _=>rfl
theorem zen:OpR X (binaryOp .Mult) (k2 (λi j=>zgz i j=true) λi j=>.int (i * j)):=zth zzu
noncomputable def zbm(d e:D):Option D:=match d,e with
 |.sc (.int i),.sc (.int j)=>some (.int (i+j))
 |.sc (.str i),.sc (.str j)=>if i.length+j.length<=sizeLine then some (.sc (.str (i++j))) else none
 |.lst ds,.lst es=>if ds.length+es.length<=sizeLine then some (.lst (ds++es)) else none
 |_,_=>none
noncomputable def yb1(K:PySem.W.Frag):R2:=λx y H Q=>k20 (λi j=>.int (i+j)) x y H Q\/zy0 x y H Q\/zzq K x y H Q
theorem zbh:OpR X (binaryOp .Add) (yb1 X.K):=z89.or (z3s.or zzr)
theorem zat:P2 K (yb1 K) zbm:=by
 intro Hf H x y d e z Q s hd he hz q;unfold zbm at hz
 split at hz
 ·cases hz
  rw[hd.sc.2,he.sc.2];exact .inl (q Hf H _ (.refl s) (zav rfl))
 ·split at hz
  ·rename_i hk
   cases hz;rw[hd.sc.2,he.sc.2]
   exact .inr (.inl ⟨hk,q Hf H _ (.refl s) (zav rfl)⟩)
  ·cases hz
 ·split at hz
  ·rename_i hk
   cases hz;obtain⟨a,xs,rfl,h1,h2⟩:=hd.lst s
   obtain⟨b,ys,rfl,h3,h4⟩:=he.lst s;refine .inr (.inr ⟨xs,ys,h1,h3,by rw[<-h2.length,<-h4.length];exact hk,λp hp=>?_⟩);have e2:=Ex.new (o:=.lst (xs++ys)) s hp;exact q _ _ _ e2 (zc8 (SqL.of zac) ((h2.zapp h4).zmap λ_ _ z=>z.same e2.ff))
  ·cases hz
 ·cases hz
mutual
noncomputable def dlt:D->D->Bool
 |.sc a,.sc b=>ltV a b
 |.tup ds,.tup es=>zcr ds es
 |.lst ds,.lst es=>zcr ds es
 |_,_=>false
noncomputable def zcr:List D->List D->Bool
 |[],[]=>false
 |[],_::_=>true
 |_::_,[]=>false
 |a::as,b::bs=>if deq a b=true then zcr as bs else dlt a b
end
mutual
noncomputable def zb4:D->D->Bool
 |.sc a,.sc b=>ztf a b
 |.tup ds,.tup es=>zdc ds es
 |.lst ds,.lst es=>zdc ds es
 |_,_=>false
noncomputable def zdc:List D->List D->Bool
 |a::as,b::bs=>zb4 a b && zdc as bs
 |_,_=>true
end
theorem z4p{H:Hp}:∀{k:Nat}{d e:D}{x y:V},Den K H k d x->Den K H k e y->ltD k d e=dlt d e/\(zb4 d e=true->zl2 k d e):=by
 intro k
 induction k with
 |zero =>
  intro d e u v h1 h2
  cases d with
  |sc a =>
   cases e with
   |sc b=>rw[dlt,zb4];exact⟨rfl,λh=>h⟩
   |_=>exact h2.elim
  |_=>exact h1.elim
 |succ k ih =>
  intro d e u v h1 h2
  have all:∀{ds es:List D} {us vs:List V},Paired (Den K H k) ds us->Paired (Den K H k) es vs->lex (eqD k) (ltD k) ds es=zcr ds es/\(zdc ds es=true->∀p∈ds.zip es,zl2 k p.1 p.2):=by
   intro ds es us vs p
   induction p generalizing es vs with
   |nil=>intro q;cases q <;> simp[lex,zcr]
   |cons a b ih2 =>
    intro q
    cases q with
    |nil=>simp[lex,zcr]
    |cons a' b' =>
     obtain⟨i1,i2⟩:=ih2 b';obtain⟨j1,j2⟩:=ih a a';refine⟨?_,λh=>?_⟩
     ·rw[lex,zcr,zf5 a a',i1,j1]
     ·rw[zdc,ub]at h
      intro p hp;rw[vg]at hp;rcases pb.mp hp with rfl|hp
      ·exact j2 h.1
      ·exact i2 h.2 p hp
  cases d with
  |sc a =>
   cases e with
   |sc b=>rw[dlt,zb4];exact⟨rfl,λh=>h⟩
   |_=>simp[ltD,dlt,zb4]
  |tup ds =>
   cases e with
   |tup es=>obtain⟨_,_,_,_,p⟩:=h1;obtain⟨_,_,_,_,p'⟩:=h2;rw[dlt,zb4];exact all p p'
   |_=>simp[ltD,dlt,zb4]
  |lst ds =>
   cases e with
   |lst es=>obtain⟨_,_,_,_,p⟩:=h1;obtain⟨_,_,_,_,p'⟩:=h2;rw[dlt,zb4];exact all p p'
   |_=>simp[ltD,dlt,zb4]
  |_=>exact h1.elim
noncomputable def gLt(d e:D):Option D:=match d,e with
 |.sc (.int i),.sc (.int j)=>some (.bl (decide (i<j)))
 |d,e=>if (dOk LV d && dOk LV e && zb4 d e)=true then some (.bl (dlt d e)) else none
noncomputable def kLt(K:PySem.W.Frag):R2:=λx y H Q=>k20 (λi j=>.bl (decide (i<j))) x y H Q\/yby K 8 x y H Q
theorem yc8{n:Nat}(hr:Room n X.A):OpR X (compareOp .Lt) (kLt X.K):=ybz.or (z3k 8 (by have:=hr.units;omega))
theorem z91:P2 K (kLt K) gLt:=by
 intro Hf H x y d e z Q s hd he hz q;unfold gLt at hz
 split at hz
 ·cases hz
  rw[hd.sc.2,he.sc.2];exact .inl (q Hf H _ (.refl s) (zav rfl))
 ·split at hz
  ·rename_i hk
   rw[ub,ub]at hk;cases hz;have h1:=(hd.whole s).at hk.1.1;have h2:=(he.whole s).at hk.1.2;obtain⟨j1,j2⟩:=z4p h1 h2;refine .inr ⟨_,_,h1,h2,j2 hk.2,?_⟩;rw[j1];exact q Hf H _ (.refl s) (zav rfl)
  ·cases hz
noncomputable def zt1(d:D):Option D:=match d with|.sc (.int i)=>some (.int (-i))|_=>none
variable {a:Expr}{fa fb:Rho->Option D}{pos:Pos}
theorem zzw(ha:PE X a (eV X.K B fa)):PE X (.UnaryOp .USub a pos) (eV X.K B (e1 zt1 fa)):=(z8w z9e ha).imp λσ H Q ⟨Hf,ρ,z,I,hz,q⟩=>by
 obtain⟨d,hd,hz⟩:=bind_some hz;refine⟨Hf,ρ,d,I,hd,λHf1 H1 v ex1 dv=>?_⟩;unfold zt1 at hz
 split at hz
 ·cases hz
  rw[dv.int];exact q Hf1 H1 _ ex1 (zav rfl)
 ·cases hz
theorem zhg{α β:Type}{F:α->β->Prop}{l:List α}{m:List β}{i:Int}{a:α}(p:Paired F l m)(h:atI l i=some a):∃b,atI m i=some b/\F a b:=by
 have e:=p.length;unfold atI at h ⊢;rw[<-e]
 cases q:ixN l.length i with
 |none=>rw[q]at h;cases h
 |some j =>
  rw[q]at h;obtain⟨b,h1,h2⟩:=p.zget (show l[j]?=some a from h);exact⟨b,h1,h2⟩
noncomputable def gIx(d e:D):Option D:=match d,e with
 |.lst ds,.sc (.int i)=>atI ds i
 |.tup ds,.sc (.int i)=>atI ds i
 |.sc (.str z),.sc (.int i)=>if z.length<=sizeLine then (atI z.cps.toList i).map λc=>.str [c] else none
 |_,_=>none
noncomputable def kIx(K:PySem.W.Frag):R2:=λx y H Q=>z9f K x y H Q\/z9g K x y H Q\/z9h x y H Q
theorem yc9:IxR X (kIx X.K):=zyv.or (z3q.or z3r)
theorem z92:P2 K (kIx K) gIx:=by
 intro Hf H x y d e z Q s hd he hz q;unfold gIx at hz
 split at hz
 ·obtain⟨a,xs,rfl,h1,h2⟩:=hd.lst s
  obtain⟨v,h3,h4⟩:=zhg h2 hz;rw[he.sc.2];exact .inl ⟨xs,v,h1,h3,q Hf H v (.refl s) h4⟩
 ·obtain⟨a,xs,rfl,h1,h2⟩:=hd.tup
  obtain⟨v,h3,h4⟩:=zhg h2 hz;rw[he.sc.2];exact .inr (.inl ⟨xs,v,s.seqT h1,h3,q Hf H v (.refl s) h4⟩)
 ·split at hz
  ·rename_i hk
   obtain⟨c,hc,hz⟩:=db.mp hz;subst hz;rw[hd.sc.2,he.sc.2];exact .inr (.inr ⟨hk,c,hc,q Hf H _ (.refl s) (zav rfl)⟩)
  ·cases hz
 ·cases hz
theorem zdt{b:Expr}(ha:PE X a (eB X.K B fa))(hb:PE X b (eB X.K B fb))(hs:zo9 b):PE X (.Subscript a b pos) (eV X.K B (e2 gIx fa fb)):=(z85 yc9 ha hb hs).imp λσ H Q h=>zma z92 h
noncomputable def zle{α:Type}(xs:List α)(lo hi:Option Int):List α:=(xs.drop (HT.sIx xs.length 0 lo)).take (HT.sIx xs.length xs.length hi - HT.sIx xs.length 0 lo)
theorem zhh{α:Type}{F:α->V->Prop}{l:List α}{m:List V}(p:Paired F l m)(lo hi:Option Int):Paired F (zle l lo hi) (zom m lo hi):=by
 have e:=p.length;unfold zle zom;rw[<-e];exact(p.zdrop _).ztake _
noncomputable def gSl(d:D)(lo hi:Option Int):Option D:=match d with
 |.lst ds=>some (.lst (zle ds lo hi))
 |.tup ds=>some (.tup (zle ds lo hi))
 |.sc (.str z)=>if z.length<=sizeLine then some (.sc (.str (StrLaws.sliceText z lo hi))) else none
 |_=>none
noncomputable def eSl(fa:Rho->Option D)(fl fh:Rho->Option (Option Int)):Rho->Option D:=λρ=>(fa ρ).bind λd=>(fl ρ).bind λlo=>(fh ρ).bind λhi=>gSl d lo hi
noncomputable def oN:Rho->Option (Option Int):=λ_=>some none
noncomputable def toI:D->Option Int|.sc (.int i)=>some i|_=>none
noncomputable def oS(fa:Rho->Option D):Rho->Option (Option Int):=λρ=>(fa ρ).bind λd=>(toI d).map some
theorem PO.imp{e:Option Expr}{t t':TO}(h:PO X e t)(f:∀σ H Q,t' σ H Q->t σ H Q):PO X e t':=λpins s σ H Q I q=>h pins s σ H Q I (f σ H Q q)
theorem z7y:PO X none (oV X.K B oN):=zyl.imp λσ H Q ⟨Hf,ρ,z,I,hz,q⟩=>by cases hz;exact q Hf H (.refl I.fh)
theorem zsu(ha:PE X a (eB X.K B fa)):PO X (some a) (oV X.K B (oS fa)):=(zyy ha).imp λσ H Q ⟨Hf,ρ,z,I,hz,q⟩=>by
 obtain⟨d,hd,hz⟩:=bind_some hz;refine⟨Hf,ρ,d,I,hd,λHf1 H1 v ex1 dv=>?_⟩;unfold toI at hz
 split at hz
 ·cases hz
  rw[dv.sc.2];exact q Hf1 H1 ex1
 ·cases hz
def z4q(K:PySem.W.Frag):V->Option Int->Option Int->Hp->VK->Prop:=λx lo hi H Q=>∃a xs,x=.ref a/\SqT K H a xs ∧
 ((HT.sIx xs.length 0 lo=0/\HT.sIx xs.length xs.length hi=xs.length/\Q (.ref a) H)\/(¬(HT.sIx xs.length 0 lo=0/\HT.sIx xs.length xs.length hi=xs.length)/\∀p,H p=none->Q (.ref p) (upd H p (.tup (zom xs lo hi)))))
end
end L2
namespace HT
open PySem PyProof.Rows
section
variable {prog:Program}{w:World}{A:Around}{E:Value->Shared->Prop}{s:Shared}
theorem getItem_tuple_all{t sl:Addr}{items:Array Value}{vl vu:Value}{lo hi:Option Int}{Q:Value->Shared->Prop}(ht:IsTup s.heap t items)(hs:s.heap.IsSliceOf sl vl vu .none)(pl:IsPart vl lo)(pu:IsPart vu hi)
  (hw:sIx items.size 0 lo=0/\sIx items.size items.size hi=items.size) (h:Q (.ref t) s):wpAny (model prog w) A (getItem (.ref t) (.ref sl)) Q E s:=by
 obtain⟨os,hos,hcs,hds⟩:=id hs;have hTs:s.TypeIs (.ref sl) "slice":=⟨os,hos,hcs⟩
 unfold getItem
 try with_reducible refine wf ?_
 first|refine aa (ia ?_)|skip
 refine aa (wpAny_sequenceKey ht.typeIs (by decide) ?_)
 refine wpAny_bind (wpAny_callSpecial?_slot (name:=Str.ofString "__getitem__") ht.typeIs PyProof.Rows.slot_tuple_getitem
  (ii ze ht.typeIs entry_tuple_getitem ?_ (args_tuple_getitem _ _)))
 show wpAny _ _ (Builtin.Tuple.tupleItemsOf (.ref t) >>= _) _ _ s;refine aa (tupleItemsOf_ ht ?_);refine aa (am hTs ?_);rw[la (by decide)];refine aa (zc6 hs pl pu ?_)
 have hno:(((sIx items.size 0 lo:Nat):Int) == 0 && (1:Int) == 1 && (sIx items.size items.size hi - sIx items.size 0 lo) == items.size)=true:=by
  rw[hw.1,hw.2];simp
 show wpAny _ _ (if (((sIx items.size 0 lo:Nat):Int) == 0 && (1:Int) == 1 && (sIx items.size items.size hi - sIx items.size 0 lo) == items.size)=true then _ else _) _ _ s;rw[la hno];refine aa (m:=Builtin.Tuple.tupleIsExact _) (aa (am ht.typeIs (ia ?_)));rw[la (by decide)]
 first
  |exact aa (oj (ia ⟨_,rfl,ia h⟩))
  |exact aa (oj (aa (ia (ia ⟨_,rfl,ia h⟩))))
  |exact aa (aa (oj (ia (ia ⟨_,rfl,ia h⟩))))
  |exact aa (oj (aa (ia ⟨_,rfl,ia h⟩)))
end
end HT
namespace L2
open PySem PySem.Spec PyProof.Rows
section
variable {X:Cx}{B:Bs}{K:PySem.W.Frag}
theorem zzx:SlR X (z4q X.K):=by
 intro pins s σ H x v vl vu lo hi sl Q I rx hs pl pu h;obtain⟨a,xs,rfl,hx,h⟩:=h;rcases h with⟨h1,h2,q⟩|⟨h1,q⟩
 ·cases rx
  obtain⟨its,r,ht,hz⟩:=I.tuple hx;have hlen:its.toArray.size=xs.length:=by rw[oa];exact r.length.symm
  refine⟨"tuple",_,ze.lookup,ht.typeIs,?_⟩;exact HT.getItem_tuple_all ht hs pl pu (by rw[hlen];exact⟨h1,h2⟩) ⟨.ref a,H,I,rfl,q⟩
 ·exact z3c pins s σ H _ v vl vu lo hi sl Q I rx hs pl pu ⟨a,xs,rfl,hx,h1,q⟩
def kSl(K:PySem.W.Frag):V->Option Int->Option Int->Hp->VK->Prop:=λx lo hi H Q=>z9j K x lo hi H Q\/z4q K x lo hi H Q\/z9o x lo hi H Q
theorem yda:SlR X (kSl X.K):=zyz.or (zzx.or z31)
theorem zt2{α:Type}{xs:List α}{lo hi:Option Int}(h1:HT.sIx xs.length 0 lo=0)(h2:HT.sIx xs.length xs.length hi=xs.length):zle xs lo hi=xs:=by
 unfold zle;rw[h1,h2];simp
theorem ydb{Hf H:Hp}{x:V}{d z:D}{lo hi:Option Int}{Q:VK}(s:zax Hf H)(hd:DnB K Hf H d x)(hz:gSl d lo hi=some z)(q:∀Hf' H' v,Ex Hf H Hf' H'->Dn K Hf' z v->Q v H'):kSl K x lo hi H Q:=by
 unfold gSl at hz
 split at hz
 ·cases hz
  obtain⟨a,xs,rfl,h1,h2⟩:=hd.lst s;refine .inl ⟨xs,h1,λp hp=>?_⟩;have e2:=Ex.new (o:=.lst (zom xs lo hi)) s hp;exact q _ _ _ e2 (zc8 (SqL.of zac) ((zhh h2 lo hi).zmap λ_ _ z=>z.same e2.ff))
 ·cases hz
  obtain⟨a,xs,rfl,h1,h2⟩:=hd.tupU;refine .inr (.inl ⟨a,xs,rfl,s.seqT h1.toT,?_⟩);by_cases hw:HT.sIx xs.length 0 lo=0/\HT.sIx xs.length xs.length hi=xs.length
  ·refine .inl ⟨hw.1,hw.2,q Hf H _ (.refl s) ?_⟩
   have e:=h2.length;rw[zt2 (by rw[e];exact hw.1) (by rw[e];exact hw.2)];exact zf0 h1 h2
  ·refine .inr ⟨hw,λp hp=>?_⟩
   have e2:=Ex.new (o:=.tup (zom xs lo hi)) s hp;exact q _ _ _ e2 (zf0 (SqU.of zac) ((zhh h2 lo hi).zmap λ_ _ z=>z.same e2.ff))
 ·split at hz
  ·rename_i hk
   cases hz;rw[hd.sc.2]
   exact .inr (.inr ⟨hk,q Hf H _ (.refl s) (zav rfl)⟩)
  ·cases hz
 ·cases hz
variable {a e:Expr}{es:List Expr}{fa fb:Rho->Option D}{fr:Rho->Option (List D)}{pos p2:Pos}{lo hi:Option Expr}{fl fh:Rho->Option (Option Int)}
theorem zzy(ha:PE X a (eB X.K B fa))(hl:PO X lo (oV X.K B fl))(hh:PO X hi (oV X.K B fh)):PE X (.Subscript a (.Slice lo hi none p2) pos) (eV X.K B (eSl fa fl fh)):=(zs9 yda ha hl hh).imp λσ H Q ⟨Hf,ρ,z,I,hz,q⟩=>by
 obtain⟨d,hd,hz⟩:=bind_some hz;obtain⟨l,hl,hz⟩:=bind_some hz;obtain⟨h,hh,hz⟩:=bind_some hz
 exact⟨Hf,ρ,d,I,hd,λ Hf1 H1 v ex1 dv=>⟨Hf1,ρ,l,I.ext ex1,hl,λ Hf2 H2 ex2=>⟨Hf2,ρ,h,(I.ext ex1).ext ex2,hh,λ Hf3 H3 ex3 =>
  ydb ex3.fh ((dv.ext ex2).ext ex3) hz λHf' H' v' ex dv'=>q Hf' H' v' (((ex1.trans ex2).trans ex3).trans ex) dv'⟩⟩⟩
def PN(K:PySem.W.Frag)(r:List V->Hp->VK->Prop)(g:List D->Option D):Prop:=∀Hf H xs ds z (Q:VK),zax Hf H->z4h K Hf H ds xs->g ds=some z->(∀Hf' H' v,Ex Hf H Hf' H'->Dn K Hf' z v->Q v H')->r xs H Q
theorem zwq{r:List V->Hp->VK->Prop}{g:List D->Option D}(hp:PN X.K r g){σ:St}{H:Hp}{Q:VK}(h:eV X.K B (eN g fr) σ H Q):tCB r (aB X.K B fr) σ H Q:=by
 obtain⟨Hf,ρ,z,I,hz,q⟩:=h;obtain⟨ds,hd,hz⟩:=bind_some hz;exact⟨Hf,ρ,ds,I,hd,λHf1 H1 vs ex1 dvs=>hp Hf1 H1 vs ds z Q ex1.fh dvs hz λHf' H' v ex dv=>q Hf' H' v (ex1.trans ex) dv⟩
theorem ze3 {id:String}{r:List V->Hp->VK->Prop}{g:List D->Option D}{x:Str}{p:Pos} (hc:zb6 X (.builtin id) r) (hp:PN X.K r g) (hg:Gl X x) (hm:X.mg x=none) (hv:bootBuiltins x=some (.builtin id)) (ha:PA X (e::es) (aB X.K B fr)) (hn:x ≠ "__name__":=by decide) (hdb:(x == ("__debug__" : Str))=false:=by decide)
  (he:starEach (e::es) X.env=(false,eval e X.env)::starEach es X.env:=by rfl) (hpl:(backTo pos (starEach es X.env)).any (·.1)=false:=by rfl):PE X (.Call (.Name x p) (e::es) [] pos) (eV X.K B (eN g fr)) :=
 (zdm hc hg hm hv ha hn hdb he hpl).imp λσ H Q h=>zwq hp h
theorem zqa {id:String}{r:List V->Hp->VK->Prop}{g:List D->Option D}{x:Str}{p:Pos} (hc:zb6 X (.type id) r) (hp:PN X.K r g) (hg:Gl X x) (hm:X.mg x=none) (hv:bootBuiltins x=some (.type id)) (ha:PA X (e::es) (aB X.K B fr)) (hn:x ≠ "__name__":=by decide) (hdb:(x == ("__debug__" : Str))=false:=by decide)
  (he:starEach (e::es) X.env=(false,eval e X.env)::starEach es X.env:=by rfl) (hpl:(backTo pos (starEach es X.env)).any (·.1)=false:=by rfl):PE X (.Call (.Name x p) (e::es) [] pos) (eV X.K B (eN g fr)) :=
 (zi9 hc hg hm hv ha hn hdb he hpl).imp λσ H Q h=>zwq hp h
theorem zbs{Hf H:Hp}{d:D}{xs:List V}(h:z4h K Hf H [d] xs):∃x,xs=[x]/\DnB K Hf H d x:=by
 cases h with|cons a b=>cases b;exact⟨_,rfl,a⟩
theorem zwr{Hf H:Hp}{d e:D}{xs:List V}(h:z4h K Hf H [d,e] xs):∃x y,xs=[x,y]/\DnB K Hf H d x/\DnB K Hf H e y:=by
 cases h with|cons a b=>cases b with|cons b c=>cases c;exact⟨_,_,rfl,a,b⟩
noncomputable def zct:List D->Option D
 |[.lst ds]=>some (.int ds.length)
 |[.tup ds]=>some (.int ds.length)
 |[.sc (.str z)]=>if z.length<=sizeLine then some (.int z.length) else none
 |_=>none
def yb2(K:PySem.W.Frag):List V->Hp->VK->Prop:=λxs H Q=>zy1 K xs H Q\/zy2 xs H Q
theorem zg0:zb6 X (.builtin "len") (yb2 X.K):=z3t.or zy3
theorem zdy:PN K (yb2 K) zct:=by
 intro Hf H xs ds z Q s hd hz q;unfold zct at hz
 split at hz
 ·cases hz
  obtain⟨x,rfl,hx⟩:=zbs hd;obtain⟨a,ys,rfl,h1,h2⟩:=hx.lst s;exact .inl ⟨ys,.inl h1,by rw[<-h2.length];exact q Hf H _ (.refl s) (zav rfl)⟩
 ·cases hz
  obtain⟨x,rfl,hx⟩:=zbs hd;obtain⟨a,ys,rfl,h1,h2⟩:=hx.tup;exact .inl ⟨ys,.inr (s.seqT h1),by rw[<-h2.length];exact q Hf H _ (.refl s) (zav rfl)⟩
 ·split at hz
  ·rename_i hk
   cases hz;obtain⟨x,rfl,hx⟩:=zbs hd
   rw[hx.sc.2];exact .inr ⟨hk,q Hf H _ (.refl s) (zav rfl)⟩
  ·cases hz
 ·cases hz
noncomputable def zzz:List D->Option D
 |[.lst ds]=>some (.lst ds)
 |[.tup ds]=>some (.lst ds)
 |_=>none
theorem zz0:PN K (zy4 K) zzz:=by
 intro Hf H xs ds z Q s hd hz q;unfold zzz at hz
 split at hz
 ·cases hz
  obtain⟨x,rfl,hx⟩:=zbs hd;obtain⟨a,ys,rfl,h1,h2⟩:=hx.lst s;refine⟨ys,.inl h1,λp hp=>?_⟩;have e2:=Ex.new (o:=.lst ys) s hp;exact q _ _ _ e2 (zc8 (SqL.of zac) (h2.same e2.ff))
 ·cases hz
  obtain⟨x,rfl,hx⟩:=zbs hd;obtain⟨a,ys,rfl,h1,h2⟩:=hx.tup;refine⟨ys,.inr (s.seqT h1),λp hp=>?_⟩;have e2:=Ex.new (o:=.lst ys) s hp;exact q _ _ _ e2 (zc8 (SqL.of zac) (h2.same e2.ff))
 ·cases hz
noncomputable def zmf:List D->Option D
 |[.lst ds]=>some (.tup ds)
 |[.tup ds]=>some (.tup ds)
 |_=>none
theorem zmg:PN K (λxs H Q=>∃p ys,xs=[.ref p]/\((SqL K H p ys/\∀l,H l=none->Q (.ref l) (upd H l (.tup ys)))\/(SqT K H p ys/\Q (.ref p) H))) zmf:=by
 intro Hf H xs ds z Q s hd hz q;unfold zmf at hz
 split at hz
 ·cases hz
  obtain⟨x,rfl,hx⟩:=zbs hd;obtain⟨a,ys,rfl,h1,h2⟩:=hx.lst s;refine⟨a,ys,rfl,.inl ⟨h1,λp hp=>?_⟩⟩;have e2:=Ex.new (o:=.tup ys) s hp;exact q _ _ _ e2 (zf0 (SqU.of zac) (h2.same e2.ff))
 ·cases hz
  obtain⟨x,rfl,hx⟩:=zbs hd;obtain⟨a,ys,rfl,h1,h2⟩:=hx.tupU;exact⟨a,ys,rfl,.inr ⟨s.seqT h1.toT,q Hf H _ (.refl s) (zf0 h1 h2)⟩⟩
 ·cases hz
noncomputable def zws:List D->Option D
 |[.sc (.bl b)]=>some (.int (if b then 1 else 0))
 |[.sc (.int i)]=>some (.int i)
 |_=>none
theorem zwt:PN K zy5 zws:=by
 intro Hf H xs ds z Q s hd hz q;unfold zws at hz
 split at hz
 ·cases hz
  obtain⟨x,rfl,hx⟩:=zbs hd;rw[hx.sc.2];exact q Hf H _ (.refl s) (zav rfl)
 ·cases hz
  obtain⟨x,rfl,hx⟩:=zbs hd;rw[hx.sc.2];exact q Hf H _ (.refl s) (zav rfl)
 ·cases hz
noncomputable def z7z:List D->Option D|[.sc (.int i)]=>some (.int (if i<0 then -i else i))|_=>none
noncomputable def z4r:List D->Option D|[.sc (.int i),.sc (.int j)]=>some (.int (if j<i then j else i))|_=>none
theorem z4s:PN K (λxs H Q=>∃i,xs=[.int i]/\Q (.int (if i<0 then -i else i)) H) z7z:=by
 intro Hf H xs ds z Q s hd hz q;unfold z7z at hz
 split at hz
 ·cases hz
  obtain⟨x,rfl,hx⟩:=zbs hd;rw[hx.sc.2];exact⟨_,rfl,q Hf H _ (.refl s) (zav rfl)⟩
 ·cases hz
theorem z4t:PN K (λxs H Q=>∃i j,xs=[.int i,.int j]/\Q (.int (if j<i then j else i)) H) z4r:=by
 intro Hf H xs ds z Q s hd hz q;unfold z4r at hz
 split at hz
 ·cases hz
  obtain⟨x,y,rfl,hx,hy⟩:=zwr hd;rw[hx.sc.2,hy.sc.2];exact⟨_,_,rfl,q Hf H _ (.refl s) (zav rfl)⟩
 ·cases hz
noncomputable def tyN:D->String
 |.sc .non => "NoneType"
 |.sc (.bl _) => "bool"
 |.sc (.int _) => "int"
 |.sc (.str _) => "str"
 |.sc _ => "?"
 |.tup _ => "tuple"
 |.lst _ => "list"
 |_ => "?"
noncomputable def z93(t n:String):Bool:=t == n || (t == "bool" && n == "int")
def zt3(n:String):Prop:=∀(K:PySem.W.Frag) (d:D),tyN d ≠ "?" -> PySem.W.kitOne K (.type (tyN d)) (.type n)=some (z93 (tyN d) n)
end
section
variable {X:Cx}{B:Bs}{K:PySem.W.Frag}
variable {a e o:Expr}{es:List Expr}{fa fb:Rho->Option D}{fr:Rho->Option (List D)}{pos p2 apos cpos:Pos}
def z94(K:PySem.W.Frag):List V->Hp->VK->Prop:=λxs H Q=>∃x n t b,xs=[x,.ty n]/\(TyOf K H x t\/(t=.type "list" /\ ∃p ys,x=.ref p/\SqL K H p ys)\/(t=.type "tuple" /\ ∃p ys,x=.ref p/\SqT K H p ys))/\PySem.W.kitOne K t (.type n)=some b/\Q (.bl b) H
theorem zqb:zb6 X (.builtin "isinstance") (z94 X.K):=by
 intro pins s σ H vs us Q I rv h;obtain⟨x,n,t,b,rfl,ty,e,q⟩:=h;obtain⟨u,w',rfl,r1,r2⟩:=zs6 rv;cases r2;rcases ty with ty|⟨rfl,p,ys,rfl,hq⟩|⟨rfl,p,ys,rfl,hq⟩
 ·exact zo4 I r1 ty e λtk=>⟨.bl b,H,I.tok _,rfl,q⟩
 ·cases r1
  obtain⟨its,_,⟨ob,nn,h1,h2,_⟩,_⟩:=I.list hq;exact PySem.W.kia_one PySem.W.kitx_list I.kIn ⟨ob,h1,h2⟩ e (λz=>nomatch z) λtk=>⟨.bl b,H,I.tok _,rfl,q⟩
 ·cases r1
  obtain⟨its,_,⟨ob,h1,h2,_⟩,_⟩:=I.tuple hq;exact PySem.W.kia_one PySem.W.kitx_tuple I.kIn ⟨ob,h1,h2⟩ e (λz=>nomatch z) λtk=>⟨.bl b,H,I.tok _,rfl,q⟩
theorem zz1:zt3 "int":=λK d h=>by
 cases d with
 |sc v=>cases v <;> first|rfl|exact absurd rfl h
 |_=>first|rfl|exact absurd rfl h
theorem zt4:zt3 "bool":=λK d h=>by
 cases d with
 |sc v=>cases v <;> first|rfl|exact absurd rfl h
 |_=>first|rfl|exact absurd rfl h
theorem zqc:zt3 "tuple":=λK d h=>by
 cases d with
 |sc v=>cases v <;> first|rfl|exact absurd rfl h
 |_=>first|rfl|exact absurd rfl h
noncomputable def z2h(n:String)(d:D):Option D:=if tyN d = "?" then none else some (.bl (z93 (tyN d) n))
theorem zz2 {n:String}{x:Str}{p p':Pos} (hi:zt3 n) (hg:Gl X "isinstance") (hm:X.mg "isinstance" = none) (ht:PE X (.Name x p') (tC (.ty n))) (ha:PE X a (eB X.K B fa))
  (hs1:starEach [a,.Name x p'] X.env=(false,eval a X.env)::starEach [.Name x p'] X.env:=by rfl) (hs2:starEach [.Name x p'] X.env=[(false,eval (.Name x p') X.env)]:=by rfl) (hpl:(backTo pos (starEach [.Name x p'] X.env)).any (·.1)=false:=by rfl):PE X (.Call (.Name "isinstance" p) [a,.Name x p'] [] pos) (eV X.K B (e1 (z2h n) fa)) :=
 (zdm zqb hg hm zcd (zbp ha (zbp ht zc5 hs2) hs1) (by decide) (by decide) hs1 hpl).imp λσ H Q ⟨Hf,ρ,z,I,hz,q⟩=>by
  obtain⟨d,hd,hz⟩:=bind_some hz;unfold z2h at hz
  split at hz
  ·cases hz
  ·rename_i hq
   cases hz;refine⟨Hf,ρ,d,I,hd,λHf1 H1 v ex1 dv=>⟨v,n,.type (tyN d),z93 (tyN d) n,rfl,?_,hi _ d hq,q Hf1 H1 _ ex1 (zav rfl)⟩⟩
   cases d with
   |sc w =>
    rw[dv.sc.2]
    cases w with
    |non=>exact .inl .non
    |bl b=>exact .inl (.bl b)
    |int b=>exact .inl (.int b)
    |str b=>exact .inl (.str b)
    |_=>exact absurd rfl hq
   |tup ds=>obtain⟨a,ys,rfl,h1,_⟩:=dv.tup;exact .inr (.inr ⟨rfl,a,ys,rfl,ex1.fh.seqT h1⟩)
   |lst ds=>obtain⟨a,ys,rfl,h1,_⟩:=dv.lst ex1.fh;exact .inr (.inl ⟨rfl,a,ys,rfl,h1⟩)
   |_=>exact absurd rfl hq
def PM(K:PySem.W.Frag)(T:String)(r:V->List V->Hp->VK->Prop)(g:D->List D->Option D):Prop:=∀Hf H x xs d ds z (Q:VK),zax Hf H->DnB K Hf H d x->z4h K Hf H ds xs->g d ds=some z->(∀Hf' H' v,Ex Hf H Hf' H'->Dn K Hf' z v->Q v H')->r x xs H Q
noncomputable def eM(T:String)(g:D->List D->Option D)(fo:Rho->Option D)(fr:Rho->Option (List D)):Rho->Option D:=λρ=>(fo ρ).bind λd=>(fr ρ).bind λds=>if tyN d=T then g d ds else none
theorem zwu {Hf H:Hp}{d:D}{x:V}{T:String} (s:zax Hf H) (h:DnB K Hf H d x) (hT:tyN d=T) (h2:T ≠ "tuple"):T = "str" \/ T = "int" \/ T = "list" -> tyV K T x H:=by
 intro hh;subst hT
 cases d with
 |sc v =>
  rw[h.sc.2]
  cases v with
  |str z=>rfl
  |int z=>rfl
  |_=>rcases hh with z|z|z <;> exact absurd z (by simp[tyN])
 |tup ds=>exact absurd rfl h2
 |lst ds=>obtain⟨a,ys,rfl,h1,_⟩:=h.lst s;exact .inl ⟨rfl,ys,h1⟩
 |_=>rcases hh with z|z|z <;> exact absurd z (by simp[tyN])
theorem z95 {T id:String}{name:Str}{r:V->List V->Hp->VK->Prop}{g:D->List D->Option D} (pa:PlainAttrs T) (slot:Slot T name id) (hty:typeOf (.builtin id)=pure (.type "method_descriptor")) (hm:MtR X id r) (hp:PM X.K T r g) (ho:PE X o (eB X.K B fa)) (hT:(T = "str" \/ T = "int" \/ T = "list")/\T ≠ "tuple":=by decide)
  (hbase:attributeBase o name X.env (eval o X.env)=eval o X.env:=by rfl) (hline:(apos.endLine == cpos.line)=true:=by rfl):PE X (.Call (.Attribute o name apos) [] [] cpos) (eV X.K B (eM T g fa aN)) :=
 (z3f pa slot hty hm ho hbase hline).imp λσ H Q ⟨Hf,ρ,z,I,hz,q⟩=>by
  obtain⟨d,hd,hz⟩:=bind_some hz;obtain⟨ds,hds,hz⟩:=bind_some hz;cases hds
  split at hz
  ·rename_i hq
   exact⟨Hf,ρ,d,I,hd,λHf1 H1 v ex1 dv=>⟨zwu ex1.fh dv hq hT.2 hT.1,hp Hf1 H1 v [] d [] z Q ex1.fh dv .nil hz λHf' H' v' ex dv'=>q Hf' H' v' (ex1.trans ex) dv'⟩⟩
  ·cases hz
theorem v_m {T id:String}{name:Str}{r:V->List V->Hp->VK->Prop}{g:D->List D->Option D} (pa:PlainAttrs T) (slot:Slot T name id) (hty:typeOf (.builtin id)=pure (.type "method_descriptor")) (hm:MtR X id r) (hp:PM X.K T r g) (ho:PE X o (eB X.K B fa)) (ha:PA X (e::es) (aB X.K B fr)) (hT:(T = "str" \/ T = "int" \/ T = "list")/\T ≠ "tuple":=by decide)
  (hbase:attributeBase o name X.env (eval o X.env)=eval o X.env:=by rfl)
  (hfew:((backTo cpos (starEach (e::es) X.env)).all (λ x=>!x.1) && (backToKw cpos (keywordEach [] X.env)).all (λ x=>x.1.isSome)
   && decide ((e::es).length+([]:List Keyword).length+(if ([]:List Keyword).isEmpty then 0 else 1)<30))=true:=by rfl)
  (hline:(apos.endLine == cpos.line)=true:=by rfl) (hs:starEach (e::es) X.env=(false,eval e X.env)::starEach es X.env:=by rfl) (hplain:(backTo cpos (starEach es X.env)).any (·.1)=false:=by rfl) :
  PE X (.Call (.Attribute o name apos) (e::es) [] cpos) (eV X.K B (eM T g fa fr)) :=
 (ztb pa slot hty hm ho ha hbase hfew hline hs hplain).imp λσ H Q ⟨Hf,ρ,z,I,hz,q⟩=>by
  obtain⟨d,hd,hz⟩:=bind_some hz;obtain⟨ds,hds,hz⟩:=bind_some hz
  split at hz
  ·rename_i hq
   exact⟨Hf,ρ,d,I,hd,λHf1 H1 v ex1 dv=>⟨zwu ex1.fh dv hq hT.2 hT.1,Hf1,ρ,ds,I.ext ex1,hds,λHf2 H2 vs ex2 dvs=>hp Hf2 H2 v vs d ds z Q ex2.fh (dv.ext ex2) dvs hz λHf' H' v' ex dv'=>q Hf' H' v' ((ex1.trans ex2).trans ex) dv'⟩⟩
  ·cases hz
noncomputable def gM0(c:Str->Bool)(f:Str->V):D->List D->Option D:=λd ds=>match d,ds with|.sc (.str z),[]=>if c z=true then some (.sc (f z)) else none|_,_=>none
theorem yb3{C:Str->Prop}{c:Str->Bool}{f:Str->V}(hc:∀z,c z=true->C z)(hf:∀z,zci (f z)=true):PM K "str" (zy9 C f) (gM0 c f):=by
 intro Hf H x xs d ds z Q s hd hds hz q;unfold gM0 at hz
 split at hz
 ·split at hz
  ·rename_i hk
   cases hz;cases hds
   rw[hd.sc.2];exact⟨hc _ hk,q Hf H _ (.refl s) (zav (hf _))⟩
  ·cases hz
 ·cases hz
noncomputable def zeo:=gM0 (λz=>!Builtin.Str.tooLong (Txt.lower z).length) λz=>.str (Txt.lower z)
noncomputable def zdp:=gM0 (λ_=>true) λz=>.bl (Txt.isalnum z)
theorem zmh:PM K "str" (zy9 (λz=>Builtin.Str.tooLong (Txt.lower z).length=false) λz=>.str (Txt.lower z)) zeo:=yb3 (λz h=>by simpa using h) λ_=>rfl
theorem zn6:PM K "str" (zy9 (λ_=>True) λz=>.bl (Txt.isalnum z)) zdp:=yb3 (λ_ _=>jg) λ_=>rfl
noncomputable def zjt:D->List D->Option D:=λd ds=>match d,ds with|.sc (.str z),[.sc (.str y)]=>(Builtin.Str.occurrences z y 0 z.length 1).head?.map λi=>.int i|_,_=>none
theorem zt5:PM K "str" zpu zjt:=by
 intro Hf H x xs d ds z Q s hd hds hz q;unfold zjt at hz
 split at hz
 ·obtain⟨i,hi,hz⟩:=db.mp hz
  subst hz;obtain⟨x2,rfl,hx⟩:=zbs hds;rw[hd.sc.2,hx.sc.2]
  cases ho:Builtin.Str.occurrences _ _ 0 _ 1 with
  |nil=>rw[ho]at hi;cases hi
  |cons j r =>
   rw[ho]at hi;have hi:j=i:=kc hi;subst hi;exact⟨j,r,ho,q Hf H _ (.refl s) (zav rfl)⟩
 ·cases hz
noncomputable def zn7(c:Nat)(l:List Nat):List D:=if c∈l then [.str (l.take (zcs c l)),.str [c],.str (l.drop (zcs c l+1))] else [.str l,.str [],.str []]
noncomputable def zcu:D->List D->Option D:=λd ds=>match d,ds with
 |.sc (.str z),[.sc (.str y)]=>match y.cps.toList with
  |[c]=>if z.length<=sizeLine then some (.tup (zn7 c z.cps.toList)) else none
  |_=>none
 |_,_=>none
theorem zt6{H:Hp}(c:Nat)(l:List Nat):Dns K H (zn7 c l) (zjm c l):=by
 unfold zn7 zjm;split
 ·exact .cons (zav rfl) (.cons (zav rfl) (.cons (zav rfl) .nil))
 ·exact .cons (zav rfl) (.cons (zav rfl) (.cons (zav rfl) .nil))
theorem zju:PM K "str" zpv zcu:=by
 intro Hf H x xs d ds z Q s hd hds hz q;unfold zcu at hz
 split at hz
 ·rename_i z0 y0
  split at hz
  ·rename_i y c hc
   split at hz
   ·rename_i hk
    cases hz;obtain⟨x2,rfl,hx⟩:=zbs hds
    rw[hd.sc.2,hx.sc.2];refine⟨c,by rw[<-hc];exact z9n _,hk,λp hp=>?_⟩;have e2:=Ex.new (o:=.tup (zjm c z0.cps.toList)) s hp;exact q _ _ _ e2 (zf0 (SqU.of zac) (zt6 c _))
   ·cases hz
  ·cases hz
 ·cases hz
noncomputable def zhi:List D->Option (List Str)
 |[]=>some []
 |.sc (.str z)::r=>(zhi r).map (z::·)
 |_=>none
theorem zjv{Hf:Hp}:∀{ds:List D}{xs:List V}{bs:List Str},Dns K Hf ds xs->zhi ds=some bs->xs=bs.map V.str
 |[],_,bs,.nil,h=>by cases h;rfl
 |.sc (.str b)::r,_,bs,.cons p t,h=>by
  unfold zhi at h;obtain⟨bs',h1,h2⟩:=db.mp h;subst h2;rw[p.str,zjv t h1];rfl
 |.sc .non::r,_,bs,.cons p t,h=>by cases h
 |.sc (.int _)::r,_,bs,.cons p t,h=>by cases h
 |.sc (.bl _)::r,_,bs,.cons p t,h=>by cases h
 |.sc (.byt _)::r,_,bs,.cons p t,h=>by cases h
 |.sc (.flt _)::r,_,bs,.cons p t,h=>by cases h
 |.sc (.ref _)::r,_,bs,.cons p t,h=>by cases h
 |.sc (.ty _)::r,_,bs,.cons p t,h=>by cases h
 |.tup _::r,_,bs,.cons p t,h=>by cases h
 |.lst _::r,_,bs,.cons p t,h=>by cases h
noncomputable def zqd:D->List D->Option D:=λd ds=>match d,ds with
 |.sc (.str z),[.lst es]=>(zhi es).bind λys=>if (ys.map (·.length)).sum+ys.length * z.length<=16777216 then some (.sc (.str (Txt.join z ys))) else none
 |_,_=>none
theorem zz3:PM K "str" (zza K) zqd:=by
 intro Hf H x xs d ds z Q s hd hds hz q;unfold zqd at hz
 split at hz
 ·obtain⟨ys,hy,hz⟩:=bind_some hz
  split at hz
  ·rename_i hk
   cases hz;obtain⟨x2,rfl,hx⟩:=zbs hds
   obtain⟨a,zs,rfl,h1,h2⟩:=hx.lst s;rw[zjv h2 hy]at h1;rw[hd.sc.2];exact⟨ys,h1,hk,q Hf H _ (.refl s) (zav rfl)⟩
  ·cases hz
 ·cases hz
end
def zz4(K:PySem.W.Frag)(J:It)(HJ Hf:Hp)(ds:List D):Prop:=∀Hf' H',zax HJ H'->zax Hf Hf'->zax Hf' H'->∀i:Nat,
 (∀d,ds[i]?=some d->J.go i H'/\∀x H'',J.yld i H' x H''->∃Hf'',Ex Hf' H' Hf'' H''/\Dn K Hf'' d x)/\(ds.length<=i->J.stop i H')
noncomputable def iV(K:PySem.W.Frag)(B:Bs)(f:Rho->Option (List D)):TI:=λσ H R=>∃Hf ρ ds,VI K B Hf ρ σ H/\f ρ=some ds/\∀J Hf' H',Ex Hf H Hf' H'->zz4 K J Hf' Hf' ds->R J H'
noncomputable def iB(K:PySem.W.Frag)(B:Bs)(f:Rho->Option (List D)):TI:=λσ H R=>∃Hf ρ ds,VI K B Hf ρ σ H/\f ρ=some ds/\∀J Hf' H',Ex Hf H Hf' H'->zz4 K J H' Hf' ds->R J H'
section
variable {X:Cx}{B:Bs}{K:PySem.W.Frag}{tg l:Expr}{tl:TE}{fa:Rho->Option D}{fr:Rho->Option (List D)}{pos:Pos}
noncomputable def z4u(K:PySem.W.Frag)(tl:TE):TI:=λσ H R=>tl σ H λx H1=>(∃a xs,x=.ref a/\SqL K H1 a xs/\R (Itl K a) H1)\/(∃a xs,x=.ref a/\SqT K H1 a xs/\R (Itt K a) H1)\/∃z,x=.str z/\R (Its z) H1
theorem zwv(hl:PE X l tl):PI X tg l (z4u X.K tl):=by
 intro pins s σ H R I h;refine thn (hl pins s σ H _ I h) λv s1 ⟨x,H1,I1,r1,q1⟩=>?_
 rcases q1 with⟨a,xs,rfl,hq,q⟩|⟨a,xs,rfl,hq,q⟩|⟨z,rfl,q⟩
 ·cases r1
  obtain⟨its,rv,p,hz⟩:=I1.list hq;refine wpAny_pyIter_list p.isList ?_;refine⟨s1.heap.objs.size,[s1.heap.objs.size],_,_,H1,rfl,I1.kept (t':=s1.toks) λb o e=>ma _ e,zox a _,⟨_,gb _ rfl,rfl,rfl⟩,λb hb=>?_,q⟩;have e:b=s1.heap.objs.size:=by simpa using hb
  subst e;exact I1.fpOk (va _) I1.fresh
 ·cases r1
  obtain⟨its,rv,p,hz⟩:=I1.tuple hq;refine wpAny_pyIter_tuple (show s1.heap.IsTuple a its.toArray from p) ?_;refine⟨s1.heap.objs.size,[s1.heap.objs.size],_,_,H1,rfl,I1.kept (t':=s1.toks) λb o e=>ma _ e,znq a _,⟨_,gb _ rfl,rfl,rfl⟩,λb hb=>?_,q⟩;have e:b=s1.heap.objs.size:=by simpa using hb
  subst e;exact I1.fpOk (va _) I1.fresh
 ·obtain⟨t,rfl⟩:=r1
  have fp:∀{h':Heap} {o:Obj},∀b∈[s1.heap.objs.size],zss X pins H1 b:=λb hb=>by
   have e:b=s1.heap.objs.size:=by simpa using hb
   subst e;exact I1.fpOk (va _) I1.fresh
  cases ha:z.cps.all (·<128) with
  |true =>
   exact wpAny_pyIter_ascii ha ⟨s1.heap.objs.size,[s1.heap.objs.size],_,_,H1,rfl,I1.kept (t':=s1.toks) λb o e=>ma _ e,zps z t _,⟨_,gb _ rfl,rfl,rfl⟩,fp (h':=s1.heap) (o:={ cls:=.none,data:=.fields #[] }),q⟩
  |false =>
   exact wpAny_pyIter_wide ha ⟨s1.heap.objs.size,[s1.heap.objs.size],_,_,H1,rfl,I1.kept (t':=s1.toks) λb o e=>ma _ e,zpt z t _,⟨_,gb _ rfl,rfl,rfl⟩,fp (h':=s1.heap) (o:={ cls:=.none,data:=.fields #[] }),q⟩
noncomputable def itD:D->Option (List D)
 |.lst ds=>some ds
 |.tup ds=>some ds
 |.sc (.str z)=>some (z.cps.toList.map λc=>.str [c])
 |_=>none
noncomputable def iE(fa:Rho->Option D):Rho->Option (List D):=λρ=>(fa ρ).bind itD
theorem zqe{a:Addr}{xs:List V}{ds:List D}{HJ Hf:Hp}(h:SqL K HJ a xs)(p:Dns K Hf ds xs):zz4 K (Itl K a) HJ Hf ds:=λHf' H' s1 s2 s3 i=>by
 have hq:=s1.seq h;refine⟨λd hd=>?_,λhi=>⟨xs,hq,by rw[<-p.length];exact hi⟩⟩;obtain⟨x,hx,hdx⟩:=p.zget hd;refine⟨⟨xs,x,hq,hx⟩,λy H'' ⟨e,hy⟩=>?_⟩;subst e
 have:=hy xs hq
 rw[hx]at this;cases this;exact⟨Hf',.refl s3,hdx.same s2⟩
theorem zww{a:Addr}{xs:List V}{ds:List D}{HJ Hf:Hp}(h:SqT K HJ a xs)(p:Dns K Hf ds xs):zz4 K (Itt K a) HJ Hf ds:=λHf' H' s1 s2 s3 i=>by
 have hq:=s1.seqT h;refine⟨λd hd=>?_,λhi=>⟨xs,hq,by rw[<-p.length];exact hi⟩⟩;obtain⟨x,hx,hdx⟩:=p.zget hd;refine⟨⟨xs,x,hq,hx⟩,λy H'' ⟨e,hy⟩=>?_⟩;subst e
 have:=hy xs hq
 rw[hx]at this;cases this;exact⟨Hf',.refl s3,hdx.same s2⟩
theorem zwx{z:Str}{HJ Hf:Hp}:zz4 K (Its z) HJ Hf (z.cps.toList.map λc=>.str [c]):=λHf' H' s1 s2 s3 i=>by
 refine⟨λd hd=>?_,λhi=>?_⟩
 ·rw[qc]at hd
  obtain⟨c,hc,rfl⟩:=db.mp hd;have hlt:i<z.cps.toList.length:=(qa.mp hc).1;refine⟨by show i<z.length;simpa [Str.length] using hlt,λx H'' ⟨e,c',hc',hx⟩=>?_⟩;subst e;rw[hc]at hc'
  cases hc'
  rw[hx];exact⟨Hf',.refl s3,zav rfl⟩
 ·show z.length<=i
  simpa [Str.length] using hi
theorem zmi(h:PE X l (eV X.K B fa)):PI X tg l (iV X.K B (iE fa)):=(zwv h).imp λσ H R ⟨Hf,ρ,ds,I,hz,q⟩=>by
 obtain⟨d,hd,hz⟩:=bind_some hz;refine⟨Hf,ρ,d,I,hd,λHf1 H1 v ex1 dv=>?_⟩;unfold itD at hz
 split at hz
 ·cases hz
  obtain⟨a,xs,rfl,h1,h2⟩:=dv.lst;exact .inl ⟨a,xs,rfl,ex1.fh.seq h1,q _ Hf1 H1 ex1 (zqe h1 h2)⟩
 ·cases hz
  obtain⟨a,xs,rfl,h1,h2⟩:=dv.tup;exact .inr (.inl ⟨a,xs,rfl,ex1.fh.seqT h1,q _ Hf1 H1 ex1 (zww h1 h2)⟩)
 ·cases hz
  rw[dv.str];exact .inr (.inr ⟨_,rfl,q _ Hf1 H1 ex1 zwx⟩)
 ·cases hz
theorem zqf(h:PE X l (eB X.K B fa)):PI X tg l (iB X.K B (iE fa)):=(zwv h).imp λσ H R ⟨Hf,ρ,ds,I,hz,q⟩=>by
 obtain⟨d,hd,hz⟩:=bind_some hz;refine⟨Hf,ρ,d,I,hd,λHf1 H1 v ex1 dv=>?_⟩;unfold itD at hz
 split at hz
 ·cases hz
  obtain⟨a,xs,rfl,h1,h2⟩:=dv.lst ex1.fh;exact .inl ⟨a,xs,rfl,h1,q _ Hf1 H1 ex1 (zqe h1 h2)⟩
 ·cases hz
  obtain⟨a,xs,rfl,h1,h2⟩:=dv.tup;exact .inr (.inl ⟨a,xs,rfl,ex1.fh.seqT h1,q _ Hf1 H1 ex1 (zww (ex1.fh.seqT h1) h2)⟩)
 ·cases hz
  rw[dv.sc.2];exact .inr (.inr ⟨_,rfl,q _ Hf1 H1 ex1 zwx⟩)
 ·cases hz
noncomputable def zmj(lo:Int)(n:Nat):List D:=(List.range n).map λk=>.int (lo+(k:Nat))
theorem zwy{lo:Int}{n:Nat}{HJ Hf:Hp}:zz4 K (Itr lo n) HJ Hf (zmj lo n):=λHf' H' s1 s2 s3 i=>by
 refine⟨λd hd=>?_,λhi=>?_⟩
 ·unfold zmj at hd
  rw[qc]at hd;obtain⟨c,hc,rfl⟩:=db.mp hd;have hlt:i<n:=by have:=(qa.mp hc).1;simpa using this
  rw[rq hlt]at hc;cases hc;refine⟨hlt,λx H'' ⟨e,hx⟩=>?_⟩;subst e;rw[hx];exact⟨Hf',.refl s3,zav rfl⟩
 ·show n<=i
  simpa [zmj] using hi
noncomputable def zz5:List D->Option (List D)|[.sc (.int j)]=>if -(2 ^ 62)<=j/\j<2 ^ 62 then some (zmj 0 j.toNat) else none|_=>none
noncomputable def zwz:List D->Option (List D)|[.sc (.int i),.sc (.int j)]=>if -(2 ^ 62)<=i/\i<2 ^ 62 /\ -(2 ^ 62)<=j/\j<2 ^ 62 then some (zmj i (j - i).toNat) else none|_=>none
noncomputable def iR(g:List D->Option (List D))(fr:Rho->Option (List D)):Rho->Option (List D):=λρ=>(fr ρ).bind g
theorem zh8 {a:Expr}{p:Pos} (hg:Gl X "range") (hm:X.mg "range" = none) (ha:PA X [a] (aB X.K B fr)) (hs:starEach [a] X.env=[(false,eval a X.env)]:=by rfl):PI X tg (.Call (.Name "range" p) [a] [] pos) (iV X.K B (iR zz5 fr)):=(zpn hg hm ha hs).imp λσ H R ⟨Hf,ρ,ds,I,hz,q⟩=>by
 obtain⟨es,he,hz⟩:=bind_some hz;refine⟨Hf,ρ,es,I,he,λHf1 H1 vs ex1 dvs=>?_⟩;unfold zz5 at hz
 split at hz
 ·split at hz
  ·rename_i hk
   cases hz;obtain⟨x,rfl,hx⟩:=zbs dvs
   rw[hx.sc.2];exact⟨hk.1,hk.2,q _ Hf1 H1 ex1 zwy⟩
  ·cases hz
 ·cases hz
theorem zt7 {a b:Expr}{p:Pos} (hg:Gl X "range") (hm:X.mg "range" = none) (ha:PA X [a,b] (aB X.K B fr)) (hs:starEach [a,b] X.env=[(false,eval a X.env),(false,eval b X.env)]:=by rfl) (hs2:starEach [b] X.env=[(false,eval b X.env)]:=by rfl):PI X tg (.Call (.Name "range" p) [a,b] [] pos) (iV X.K B (iR zwz fr)):=(zpo hg hm ha hs hs2).imp λσ H R ⟨Hf,ρ,ds,I,hz,q⟩=>by
 obtain⟨es,he,hz⟩:=bind_some hz;refine⟨Hf,ρ,es,I,he,λHf1 H1 vs ex1 dvs=>?_⟩;unfold zwz at hz
 split at hz
 ·split at hz
  ·rename_i hk
   cases hz;obtain⟨x,y,rfl,hx,hy⟩:=zwr dvs
   rw[hx.sc.2,hy.sc.2];exact⟨⟨hk.1,hk.2.1,hk.2.2.1,hk.2.2.2⟩,q _ Hf1 H1 ex1 zwy⟩
  ·cases hz
 ·cases hz
noncomputable def gV(K:PySem.W.Frag)(B:Bs)(sl:List Nat)(g:D->Rho->Option Rho):TG:=λv σ H Q=>∃Hf ρ d ρ',VI K B Hf ρ σ H/\Dn K Hf d v/\g d ρ=some ρ'/\∀σ',VI K B Hf ρ' σ' H->σ'.length=σ.length->(∀j:Nat,j ∉ sl->σ'[j]?=σ[j]?)->Q σ' H
noncomputable def gsV(K:PySem.W.Frag)(B:Bs)(sl:List Nat)(g:List D->Rho->Option Rho):TGs:=λvs σ H Q=>∃Hf ρ ds ρ',VI K B Hf ρ σ H/\Dns K Hf ds vs/\g ds ρ=some ρ'/\∀σ',VI K B Hf ρ' σ' H->σ'.length=σ.length->(∀j:Nat,j ∉ sl->σ'[j]?=σ[j]?)->Q σ' H
noncomputable def gN(i:Nat):D->Rho->Option Rho:=λd ρ=>some (ρ.set i (some (.sh d)))
theorem zdq{i:Nat}{x:Str}(hN:X.N.Nodup)(hi:X.N[i]?=some x)(hx:Loc X.env.scope x)(hf:X.fn x=true\/X.env.scope.names.lookup x=some .local:=by first|exact .inl rfl|exact .inr rfl|assumption):PG X (.Name x pos) (gV X.K B [i] (gN i)):=(zya hN hi hx hf).imp λv σ H Q ⟨Hf,ρ,d,ρ',I,dv,hg,q⟩=>by
 cases hg;refine q _ (I.set dv) (by simp) λj hj=>?_
 rw[na];intro e;exact hj (by simp[e])
noncomputable def gT0:List D->Rho->Option Rho:=λds ρ=>match ds with|[]=>some ρ|_=>none
noncomputable def gTC(g:D->Rho->Option Rho)(r:List D->Rho->Option Rho):List D->Rho->Option Rho:=λds ρ=>match ds with|d::ds=>(g d ρ).bind λρ1=>r ds ρ1|[]=>none
noncomputable def gT(n:Nat)(r:List D->Rho->Option Rho):D->Rho->Option Rho:=λd ρ=>match d with|.tup ds=>if ds.length=n then r ds ρ else none|_=>none
theorem PGs.imp{ts:List Expr}{t t':TGs}(h:PGs X ts t)(g:∀v σ H Q,t' v σ H Q->t v σ H Q):PGs X ts t':=λpins s σ H v u Q I r q=>h pins s σ H v u Q I r (g v σ H Q q)
theorem zt8:PGs X [] (gsV X.K B [] gT0):=zy6.imp λvs σ H Q ⟨Hf,ρ,ds,ρ',I,dv,hg,q⟩=>by
 unfold gT0 at hg
 split at hg
 ·cases hg
  cases dv;exact q σ I rfl λ_ _=>rfl
 ·cases hg
theorem ze4{e:Expr}{es:List Expr}{g:D->Rho->Option Rho}{r:List D->Rho->Option Rho}{sl sr:List Nat}(h1:PG X e (gV X.K B sl g))(h2:PGs X es (gsV X.K B sr r))(hs:(assignEach (e::es) X.env).map (·.2)=assign e X.env::(assignEach es X.env).map (·.2):=by rfl):PGs X (e::es) (gsV X.K B (sl++sr) (gTC g r)):=(ztk h1 h2 hs).imp λvs σ H Q ⟨Hf,ρ,ds,ρ',I,dv,hg,q⟩=>by
 unfold gTC at hg
 split at hg
 ·obtain⟨ρ1,hg1,hg2⟩:=bind_some hg
  cases dv with
  |cons d1 dr =>
   refine⟨Hf,ρ,_,ρ1,I,d1,hg1,λσ1 I1 l1 k1=>⟨Hf,ρ1,_,ρ',I1,dr,hg2,λσ2 I2 l2 k2=>q σ2 I2 (l2.trans l1) λj hj=>?_⟩⟩;rw[k2 j λz=>hj (pc _ z),k1 j λz=>hj (we _ z)]
 ·cases hg
theorem z70{es:List Expr}{k:Nat}{r:List D->Rho->Option Rho}{sl:List Nat}{n:Nat}(hc:X.calm=true)(h:PGs X es (gsV X.K B sl r))(hn:(assignEach es X.env).length=n:=by rfl)(hst:(assignEach es X.env).findIdx? (·.1)=none:=by rfl):PG X (.Tuple es k pos) (gV X.K B sl (gT n r)):=(z3w hc h hn hst).imp λv σ H Q ⟨Hf,ρ,d,ρ',I,dv,hg,q⟩=>by
 unfold gT at hg
 split at hg
 ·split at hg
  ·rename_i hl
   obtain⟨a,xs,rfl,h1,h2⟩:=dv.tup;exact⟨xs,I.fh.seqT h1,by rw[<-h2.length];exact hl,Hf,ρ,_,ρ',I,h2,hg,q⟩
  ·cases hg
 ·cases hg
end
noncomputable def zc2(n:Nat)(cap:List Nat)(ρ:Rho):Rho:=List.replicate n none++cap.map λi=>(ρ[i]?).getD none
noncomputable def zd6(g:D->Rho->Option Rho)(tt:Rho->Option Bool)(te:Rho->Option D)(ρ:Rho):List D->Option (List D)
 |[]=>some []
 |d::r=>(g d ρ).bind λρ1=>(tt ρ1).bind λb=>if b=true then (te ρ1).bind λy=>(zd6 g tt te ρ r).map (y::·) else zd6 g tt te ρ r
noncomputable def zcf(n:Nat)(cap:List Nat)(fi:Rho->Option (List D))(g:D->Rho->Option Rho)(tt:Rho->Option Bool)(te:Rho->Option D):Rho->Option (List D) :=
 λρ=>(fi ρ).bind λds=>if ds.length<=sizeLine then zd6 g tt te (zc2 n cap ρ) ds else none
noncomputable def eW(K:PySem.W.Frag)(B:Bs)(f:Rho->Option (List D)):TE:=λσ H Q=>∃Hf ρ ds,VI K B Hf ρ σ H/\f ρ=some ds/\∀Hf' H' p xs,Ex Hf H Hf' H'->H p=none->Hf' p=none->H' p=some (.lst xs)->Dns K Hf' ds xs->Q (.ref p) H'
noncomputable def eL(f:Rho->Option (List D)):Rho->Option D:=λρ=>(f ρ).map .lst
theorem Ex.frz{Hf H Hf' H':Hp}{p:Addr}{o:HO}(e:Ex Hf H Hf' H')(hp:H p=none)(hp':H' p=some o)(hf:Hf' p=none)(ho:∀x u,o≠.frz x u:=by intro x u z;cases z):Ex Hf H (upd Hf' p o) H':=by
 refine⟨e.ff.trans (zas hf),e.hh,λb u h=>?_,λb h=>?_,λb x u h=>?_⟩
 ·by_cases hb:b=p
  ·subst hb;rw[zac]at h;rw[hp'];exact h
  ·rw[zad hb]at h;exact e.fh b u h
 ·by_cases hb:b=p
  ·subst hb;exact .inr (.inl hp)
  ·rw[zad hb]at h;exact e.nw b h
 ·by_cases hb:b=p
  ·subst hb;rw[zac]at h;cases h;exact absurd rfl (ho x u)
  ·rw[zad hb]at h;exact e.nf b x u h
section
variable {X:Cx}{B:Bs}{K:PySem.W.Frag}{tg e iter elt:Expr}{ifs:List Expr}{fa:Rho->Option D}{fr fi:Rho->Option (List D)}{pos:Pos}{g:D->Rho->Option Rho}{tt:Rho->Option Bool}{te:Rho->Option D}
theorem zw0{t:TE}{σ:St}{H:Hp}{Q:VK}(ht:∀R,eW K B fr σ H R->t σ H R)(h:eV K B (eL fr) σ H Q):t σ H Q:=by
 obtain⟨Hf,ρ,z,I,hz,q⟩:=h;obtain⟨ds,hd,hz⟩:=db.mp hz;subst hz;refine ht Q ⟨Hf,ρ,ds,I,hd,λHf' H' p xs ex hp hf hp' dx=>?_⟩;have e2:=ex.frz hp hp' hf;exact q _ H' _ e2 (zc8 (SqL.of zac) (dx.same (zas hf)))
theorem zsv(h:PE X e (eW X.K B fr)):PE X e (eV X.K B (eL fr)):=h.imp λσ H Q z=>zw0 (λR z=>z) z
theorem zqg{cap:List Nat}(h:cap.Nodup){i j x:Nat}(h1:cap[i]?=some x)(h2:cap[j]?=some x):i=j:=by
 obtain⟨a,ha⟩:=qa.mp h1;obtain⟨b,hb⟩:=qa.mp h2;rcases vm i j with z|z|z
 ·exact absurd (ha.trans hb.symm) (mf.mp h i j a b z)
 ·exact z
 ·exact absurd (hb.trans ha.symm) (mf.mp h j i b a z)
theorem zmk{n:Nat}{cap:List Nat}{ρ:Rho}{i:Nat}{sl:Sl}(h:(zc2 n cap ρ)[i]?=some (some sl)):∃c,n<=i/\cap[i - n]?=some c/\ρ[c]?=some (some sl):=by
 unfold zc2 at h;by_cases hi:i<n
 ·rw[dg (by simpa using hi),zg]at h
  split at h <;> cases h
 ·rw[yf (by simpa using hi),zi,qc]at h
  obtain⟨c,hc,h⟩:=db.mp h;refine⟨c,by omega,hc,?_⟩
  cases q:ρ[c]? with
  |none=>rw[q]at h;cases h
  |some z=>rw[q]at h;exact ef some h
theorem zw1{n:Nat}{cap:List Nat}{σ:St}{i c:Nat}(hi:n<=i)(hc:cap[i - n]?=some c):(zds n cap σ)[i]?=some ((σ[c]?).getD none):=by
 unfold zds;rw[yf (by simpa using hi),zi,qc,hc];rfl
theorem VI.comp{Hf H:Hp}{ρ:Rho}{σ:St}{n:Nat}{cap:List Nat}(I:VI K B Hf ρ σ H)(hc:cap.Nodup):VI K B Hf (zc2 n cap ρ) (zds n cap σ) H:=by
 have back:∀{i c:Nat} {v:V},n<=i->cap[i - n]?=some c->(zds n cap σ)[i]?=some (some v)->σ[c]?=some (some v):=λ{i c v} hi hc e=>by
  rw[zw1 hi hc]at e
  cases q:σ[c]? with
  |none=>rw[q]at e;cases e
  |some z=>rw[q]at e;exact e
 refine⟨I.ex,by simp[zc2,zds],λi sl h=>?_,λi sl p h o q=>?_,λi j si sj p h1 h2 o1 o2 q1 q2=>?_⟩
 ·obtain⟨c,hi,hc,h⟩:=zmk h
  obtain⟨v,h1,h2⟩:=I.ok c sl h;exact⟨v,by rw[zw1 hi hc,h1];rfl,h2⟩
 ·obtain⟨c,hi,hc,h⟩:=zmk h
  exact I.own c sl p h o (back hi hc q)
 ·obtain⟨c,hi,hc1,h1⟩:=zmk h1
  obtain⟨d,hj,hc2,h2⟩:=zmk h2;have e:=I.dis c d si sj p h1 h2 o1 o2 (back hi hc1 q1) (back hj hc2 q2);subst e
  have:=zqg hc hc1 hc2
  omega
theorem zf9{ρ:Rho}:∀{ds rs:List D},zd6 g tt te ρ ds=some rs->rs.length<=ds.length
 |[],rs,h=>by cases h;exact va _
 |d::r,rs,h=>by
  unfold zd6 at h;obtain⟨ρ1,_,h⟩:=bind_some h;obtain⟨b,_,h⟩:=bind_some h
  split at h
  ·obtain⟨y,_,h⟩:=bind_some h
   obtain⟨rs',h1,h2⟩:=db.mp h;subst h2
   have:=zf9 h1
   simp;omega
  ·have:=zf9 h
   simp;omega
theorem zqh{J:It}{Hf H:Hp}{ρ:Rho}{σc:St}{ds rs:List D}{sl:List Nat}{Q:List V->Hp->Prop}(I:VI K B Hf ρ σc H)(hJ:zz4 K J H Hf ds)(hl:ds.length<=sizeLine)(hr:zd6 g tt te ρ ds=some rs)(hs:∀j∈sl,σc[j]?=some none)
  (q:∀Hf' H' ys,Ex Hf H Hf' H'->Dns K Hf' rs ys->Q ys H'):zyo J (gV K B sl g) (tV K B tt) (eV K B te) σc Q H:=by
 refine⟨λi m ys H'=>m=ds.length - i/\i<=ds.length/\∃Hf' done todo,Ex Hf H Hf' H'/\Dns K Hf' done ys/\done.length<=i/\zd6 g tt te ρ (ds.drop i)=some todo/\rs=done++todo,⟨ds.length,by simp,ud _,Hf,[],rs,.refl I.fh,.nil,va _,hr,rfl⟩,?_⟩;rintro i m ys H' ⟨rfl,hi,Hf',done,todo,ex,dn,hdl,hc,hrs⟩;have ok:=hJ Hf' H' ex.hh ex.ff ex.fh i;by_cases hlt:i<ds.length
 ·obtain⟨go,yld⟩:=ok.1 ds[i] (by simp[hlt])
  have hyl:=dn.length;refine .inr ⟨go,by omega,λys' H2=>∃Hf2 done' todo',Ex Hf H Hf2 H2/\Dns K Hf2 done' ys'/\done'.length<=i+1/\zd6 g tt te ρ (ds.drop (i+1))=some todo'/\rs=done'++todo',λys' H2 ⟨Hf2,done',todo',h1,h2,h3,h4,h5⟩=>⟨ds.length - (i+1),by omega,rfl,hlt,Hf2,done',todo',h1,h2,h3,h4,h5⟩,λx H2 y=>?_⟩;obtain⟨Hf2,ex2,dx⟩:=yld x H2 y;rw[se hlt]at hc;unfold zd6 at hc;obtain⟨ρ1,hg,hc⟩:=bind_some hc;obtain⟨b,hb,hc⟩:=bind_some hc;have e2:=ex.trans ex2;refine⟨Hf2,ρ,_,ρ1,I.ext e2,dx,hg,λσ' I' hle hk=>⟨⟨hle,λj v hv=>?_⟩,Hf2,ρ1,b,I',hb,λHf3 H3 ex3=>?_⟩⟩
  ·rw[hk j λz=>?_]
   ·exact hv
   ·have:=hs j z
    rw[hv]at this;cases this
  ·have e3:=e2.trans ex3
   cases b with
   |true =>
    rw[la rfl]at hc;show if true=true then _ else _
    rw[la rfl];obtain⟨y,hy,hc⟩:=bind_some hc;obtain⟨t',h1,h2⟩:=db.mp hc;subst h2;refine⟨Hf3,ρ1,y,I'.ext ex3,hy,λHf4 H4 v ex4 dv=>⟨Hf4,done++[y],t',e3.trans ex4,?_,by simp;omega,h1,by rw[hrs];simp⟩⟩;exact(dn.same ((ex2.trans ex3).trans ex4).ff).zsnoc dv
   |false =>
    rw[wa ua]at hc;show if false=true then _ else _
    rw[wa ua];exact⟨Hf3,done,todo,e3,dn.same (ex2.trans ex3).ff,by omega,hc,hrs⟩
 ·have e:i=ds.length:=by omega
  subst e;refine .inl ⟨ok.2 (va _),?_⟩;rw[ji]at hc;unfold zd6 at hc;cases hc;rw[zb]at hrs;subst hrs;exact q Hf' H' ys ex dn
theorem zml:ztd X [] (tV X.K B λ_=>some true):=λpins s σ H Q I h=>z3h pins s σ H Q I (by
 obtain⟨Hf,ρ,b,I2,hb,q⟩:=h;cases hb;exact q Hf H (.refl I2.fh))
theorem z4v{c:Expr}(h:PT X c (tV X.K B tt)):ztd X [c] (tV X.K B tt):=z3i h
variable {scope:Scope}{vars:List Str}{cap:List Nat}{sl:List Nat}
theorem zmm{σ:St}{H:Hp}{Q:VK}(hn:cap.Nodup)(hsl:sl.all (·<vars.length)=true)(h:eW X.K B (zcf vars.length cap fi g tt te) σ H Q) :
  zyp (iB X.K B fi) (gV X.K B sl g) (tV X.K B tt) (eV X.K B te) vars.length cap σ H Q:=by
 obtain⟨Hf,ρ,rs,I,hz,q⟩:=h;obtain⟨ds,hd,hz⟩:=bind_some hz
 split at hz
 ·rename_i hl
  refine⟨Hf,ρ,ds,I,hd,λJ Hf1 H1 ex1 ok=>zqh ((I.ext ex1).comp hn) ok hl hz (λj hj=>?_) λHf2 H2 ys ex2 dn=>⟨?_,λp hp=>?_⟩⟩
  ·have hj:=df.mp hsl j hj
   have hj:j<vars.length:=by simpa using hj
   unfold zds;rw[dg (by simpa using hj),zg,la hj]
  ·rw[<-dn.length];exact ed (zf9 hz) hl
  ·have e3:=(ex1.trans ex2).trans (Ex.made (o:=.lst ys) ex2.fh hp)
   exact q Hf2 _ p ys e3 ((ex1.trans ex2).hh.free hp) (ex2.fh.free hp) zac dn
 ·cases hz
theorem zmn (hc:X.calm=true) (S:CScope X scope) (hcap:∀i∈cap,i<X.N.length/\scope.names.lookup (X.N.getD i "")≠some .local) (hn:cap.Nodup) (hsl:sl.all (·<vars.length)=true) (hi:PI X tg iter (iB X.K B fi))
  (hg:∀s H C ex,PG (zay X scope C vars cap s H ex) tg (gV X.K B sl g)) (ht:∀s H C ex,ztd (zay X scope C vars cap s H ex) ifs (tV X.K B tt)) (he:∀s H C ex,PE (zay X scope C vars cap s H ex) elt (eV X.K B te))
  (hs:∀x,foldedSetIterable iter X.env x=pure x:=by intro _;rfl):PE X (.ListComp elt [⟨tg,iter,ifs,0⟩] scope pos) (eW X.K B (zcf vars.length cap fi g tt te)) :=
 (zyq hc S hcap hi hg ht he hs).imp λσ H Q h=>zmm hn hsl h
variable {es:List Expr}
noncomputable def lOk(f:Rho->Option (List D)):Rho->Option (List D):=λρ=>(f ρ).bind λds=>if ds.length<=sizeLine then some ds else none
theorem zhj(h:PA X es (aV X.K B fr)):PE X (.List es pos) (eW X.K B (lOk fr)):=(zl0 h).imp λσ H Q ⟨Hf,ρ,z,I,hz,q⟩=>by
 obtain⟨ds,hd,hz⟩:=bind_some hz
 split at hz
 ·rename_i hl
  cases hz;refine⟨Hf,ρ,_,I,hd,λHf1 H1 vs ex dvs=>⟨by rw[<-dvs.length];exact hl,λp hp=>?_⟩⟩
  exact q Hf1 _ p vs (ex.trans (Ex.made (o:=.lst vs) ex.fh hp)) (ex.hh.free hp) (ex.fh.free hp) zac dvs
 ·cases hz
noncomputable def zkq:List D->Option (List D)
 |[.lst ds]=>some ds
 |[.tup ds]=>some ds
 |_=>none
noncomputable def wN(g:List D->Option (List D))(fr:Rho->Option (List D)):Rho->Option (List D):=λρ=>(fr ρ).bind g
theorem zz6 {x:Str}{p:Pos}{a:Expr} (hg:Gl X "list") (hm:X.mg "list" = none) (ha:PA X [a] (aB X.K B fr)) (he:starEach [a] X.env=[(false,eval a X.env)]:=by rfl):PE X (.Call (.Name "list" p) [a] [] pos) (eW X.K B (wN zkq fr)) :=
 (zi9 zpl hg hm zk4 ha (by decide) (by decide) he rfl).imp λσ H Q ⟨Hf,ρ,z,I,hz,q⟩=>by
  obtain⟨ds,hd,hz⟩:=bind_some hz;refine⟨Hf,ρ,ds,I,hd,λHf1 H1 vs ex dvs=>?_⟩;unfold zkq at hz
  split at hz
  ·cases hz
   obtain⟨x,rfl,hx⟩:=zbs dvs;obtain⟨a,ys,rfl,h1,h2⟩:=hx.lst ex.fh;exact⟨ys,.inl h1,λp hp=>q Hf1 _ p ys (ex.trans (Ex.made (o:=.lst ys) ex.fh hp)) (ex.hh.free hp) (ex.fh.free hp) zac h2⟩
  ·cases hz
   obtain⟨x,rfl,hx⟩:=zbs dvs;obtain⟨a,ys,rfl,h1,h2⟩:=hx.tup;exact⟨ys,.inr (ex.fh.seqT h1),λp hp=>q Hf1 _ p ys (ex.trans (Ex.made (o:=.lst ys) ex.fh hp)) (ex.hh.free hp) (ex.fh.free hp) zac h2⟩
  ·cases hz
end
inductive Out where
 |nx (ρ:Rho)|bk (ρ:Rho)|ct (ρ:Rho)|rt (d:D)|rw (ds:List D)|bad
def zep(K:PySem.W.Frag)(B:Bs)(Hb:Hp)(o:Out)(D:Ends):Prop:=match o with
 |.nx ρ=>∀Hf σ H,zax Hb Hf->VI K B Hf ρ σ H->D.nx σ H
 |.bk ρ=>∀Hf σ H,zax Hb Hf->VI K B Hf ρ σ H->D.bk σ H
 |.ct ρ=>∀Hf σ H,zax Hb Hf->VI K B Hf ρ σ H->D.ct σ H
 |.rt d=>∀Hf H v,Ex B.f B.h Hf H->Dn K Hf d v->D.rt v H
 |.rw ds=>∀Hf H p xs,Ex B.f B.h Hf H->B.h p=none->Hf p=none->H p=some (.lst xs)->Dns K Hf ds xs->D.rt (.ref p) H
 |.bad=>False
noncomputable def sV(K:PySem.W.Frag)(B:Bs)(f:Rho->Out):TS:=λD σ H=>∃Hf ρ,VI K B Hf ρ σ H/\zep K B Hf (f ρ) D
theorem zep.mono{K:PySem.W.Frag}{B:Bs}{Hb Hc:Hp}{o:Out}{D:Ends}(h:zep K B Hb o D)(s:zax Hb Hc):zep K B Hc o D:=by
 cases o with
 |nx ρ=>exact λHf σ H z=>h Hf σ H (s.trans z)
 |bk ρ=>exact λHf σ H z=>h Hf σ H (s.trans z)
 |ct ρ=>exact λHf σ H z=>h Hf σ H (s.trans z)
 |rt d=>exact h
 |rw d=>exact h
 |bad=>exact h
noncomputable def zbd:Rho->Out:=λρ=>.nx ρ
noncomputable def zaw(f g:Rho->Out):Rho->Out:=λρ=>match f ρ with|.nx ρ'=>g ρ'|o=>o
noncomputable def sIf(ft:Rho->Option Bool)(f g:Rho->Out):Rho->Out:=λρ=>match ft ρ with|some true=>f ρ|some false=>g ρ|none=>.bad
noncomputable def zbn(i:Nat)(fe:Rho->Option D):Rho->Out:=λρ=>match fe ρ with|some d=>.nx (ρ.set i (some (.sh d)))|none=>.bad
noncomputable def zfm(i:Nat)(fe:Rho->Option (List D)):Rho->Out:=λρ=>match fe ρ with|some d=>.nx (ρ.set i (some (.ow d)))|none=>.bad
noncomputable def zh9(g:D->Rho->Option Rho)(fe:Rho->Option D):Rho->Out:=λρ=>match (fe ρ).bind λd=>g d ρ with|some ρ'=>.nx ρ'|none=>.bad
noncomputable def zc3(fe:Rho->Option D):Rho->Out:=λρ=>match fe ρ with|some _=>.nx ρ|none=>.bad
noncomputable def zb7(fe:Rho->Option D):Rho->Out:=λρ=>match fe ρ with|some d=>.rt d|none=>.bad
noncomputable def ze5(fe:Rho->Option (List D)):Rho->Out:=λρ=>match fe ρ with|some d=>.rw d|none=>.bad
noncomputable def zdu(i:Nat):Rho->Out:=λρ=>match ρ[i]? with|some (some (.ow ds))=>.rw ds|_=>.bad
noncomputable def ze6:Rho->Out:=λ_=>.rt .non
noncomputable def zd7(i:Nat)(fe:Rho->Option D):Rho->Out:=λρ=>match ρ[i]? with
 |some (some (.ow ds))=>match fe ρ with|some d=>if ds.length<sizeLine then .nx (ρ.set i (some (.ow (ds++[d])))) else .bad|none=>.bad
 |_=>.bad
noncomputable def zgu(i:Nat)(f:Rho->Out):Rho->Out:=λρ=>match ρ[i]? with|some (some (.ow ds))=>f (ρ.set i (some (.sh (.lst ds))))|_=>f ρ
noncomputable def zew(g:D->Rho->Option Rho)(f:Rho->Out):List D->Rho->Out
 |[],ρ=>.nx ρ
 |d::r,ρ=>match g d ρ with
  |none=>.bad
  |some ρ1=>match f ρ1 with
   |.nx ρ2=>zew g f r ρ2
   |.ct ρ2=>zew g f r ρ2
   |.bk ρ2=>.nx ρ2
   |o=>o
noncomputable def zdz(fi:Rho->Option (List D))(g:D->Rho->Option Rho)(f:Rho->Out):Rho->Out:=λρ=>match fi ρ with|some ds=>zew g f ds ρ|none=>.bad
section
variable {X:Cx}{B:Bs}{K:PySem.W.Frag}{st:Stmt}{rest sts:List Stmt}{tg e iter a:Expr}{f g h:Rho->Out}{fe fa:Rho->Option D}{fr fi:Rho->Option (List D)}{ft:Rho->Option Bool}{pos:Pos}{gt:D->Rho->Option Rho}{sl:List Nat}
theorem PS.imp{t t':TS}(h:PS X st t)(k:∀D σ H,t' D σ H->t D σ H):PS X st t':=λpins s σ H D I q=>h pins s σ H D I (k D σ H q)
theorem PSs.imp{t t':TS}(h:PSs X sts t)(k:∀D σ H,t' D σ H->t D σ H):PSs X sts t':=λpins s σ H D I q=>h pins s σ H D I (k D σ H q)
theorem zd8:PSs X [] (sV X.K B zbd):=zkx.imp λD σ H ⟨Hf,ρ,I,q⟩=>q Hf σ H (zax.refl _) I
theorem zak(h1:PS X st (sV X.K B f))(h2:PSs X rest (sV X.K B g)):PSs X (st::rest) (sV X.K B (zaw f g)):=(zbt h1 h2).imp λD σ H ⟨Hf,ρ,I,q⟩=>by
 refine⟨Hf,ρ,I,?_⟩;unfold zaw at q
 cases e:f ρ with
 |nx ρ'=>rw[e]at q;exact λHf' σ' H' z I'=>⟨Hf',ρ',I',zep.mono q z⟩
 |bk ρ'=>rw[e]at q;exact q
 |ct ρ'=>rw[e]at q;exact q
 |rt d=>rw[e]at q;exact q
 |rw d=>rw[e]at q;exact q
 |bad=>rw[e]at q;exact q
theorem zaq(h1:PS X st (sV X.K B f)):PSs X [st] (sV X.K B f):=zfq h1
theorem zdv{c:Expr}{as bs:List Stmt}(hc:PT X c (tV X.K B ft))(ha:PSs X as (sV X.K B f))(hb:PSs X bs (sV X.K B g)):PS X (.If c as bs pos) (sV X.K B (sIf ft f g)):=(z2x hc ha hb).imp λD σ H ⟨Hf,ρ,I,q⟩=>by
 unfold sIf at q
 cases e:ft ρ with
 |none=>rw[e]at q;exact q.elim
 |some b =>
  rw[e]at q;refine⟨Hf,ρ,b,I,e,λHf1 H1 ex1=>?_⟩
  cases b with
  |true=>rw[la rfl];exact⟨Hf1,ρ,I.ext ex1,zep.mono q ex1.ff⟩
  |false=>rw[wa ua];exact⟨Hf1,ρ,I.ext ex1,zep.mono q ex1.ff⟩
theorem zbg{i:Nat}{x:Str}{pos':Pos}(hN:X.N.Nodup)(hi:X.N[i]?=some x)(hx:Loc X.env.scope x)(he:PE X e (eV X.K B fe))(hs:swapsWith e (some (.Name x pos')) pos.line X.env=pure false:=by rfl)(hf:X.fn x=true\/X.env.scope.names.lookup x=some .local:=by first|exact .inl rfl|exact .inr rfl|assumption):PS X (.Assign [.Name x pos'] e pos) (sV X.K B (zbn i fe)):=(zfr hN hi hx he hs hf).imp λD σ H ⟨Hf,ρ,I,q⟩=>by
 unfold zbn at q
 cases e:fe ρ with
 |none=>rw[e]at q;exact q.elim
 |some d=>rw[e]at q;exact⟨Hf,ρ,d,I,e,λHf1 H1 v ex1 dv=>q Hf1 _ H1 ex1.ff ((I.ext ex1).set dv)⟩
theorem VI.setO{Hf H Hf' H':Hp}{ρ:Rho}{σ:St}{i:Nat}{ds:List D}{p:Addr}{xs:List V}(I:VI K B Hf ρ σ H)(ex:Ex Hf H Hf' H')(hp:H p=none)(hf:Hf' p=none)(hp':H' p=some (.lst xs))(dn:Dns K Hf' ds xs):VI K B Hf' (ρ.set i (some (.ow ds))) (σ.set i (some (.ref p))) H':=by
 have g:∀{j:Nat} {sl:Sl},(ρ.set i (some (.ow ds)))[j]?=some (some sl)->(j=i/\sl=.ow ds/\i<ρ.length)\/(j≠i/\ρ[j]?=some (some sl)):=λ{j sl} e=>by
  by_cases hj:i=j
  ·subst hj
   rw[yj]at e
   cases q:ρ[i]? with
   |none=>rw[q]at e;cases e
   |some z =>
    rw[q]at e;simp at e;exact .inl ⟨rfl,e.symm,(qa.mp q).1⟩
  ·rw[na hj]at e
   exact .inr ⟨λz=>hj z.symm,e⟩
 have I1:=I.ext ex;have hBp:B.h p=none:=I.ex.hh.free hp
 have nown:∀{j:Nat} {sl:Sl},ρ[j]?=some (some sl)->zf1 sl=true->σ[j]?≠some (some (.ref p)):=λ{j sl} e o z=>by
  obtain⟨v,h1,h2⟩:=I.ok j sl e;rw[z]at h1;cases h1
  cases sl with
  |sh d=>cases o
  |ow d=>obtain⟨p',xs',e1,_,e2,_⟩:=h2;cases e1;rw[hp]at e2;cases e2
  |dk ks d=>obtain⟨p',xs',e1,_,e2,_⟩:=h2;cases e1;rw[hp]at e2;cases e2
  |dt ks d=>obtain⟨p',xs',e1,_,e2,_⟩:=h2;cases e1;rw[hp]at e2;cases e2
 refine⟨I1.ex,by simp[I.len],λj sl e=>?_,λj sl p' e o q=>?_,λj k sj sk p' e1 e2 o1 o2 q1 q2=>?_⟩
 ·rcases g e with⟨rfl,rfl,hl⟩|⟨hj,e⟩
  ·exact⟨.ref p,by rw[nb (by rw[<-I.len];exact hl)],p,xs,rfl,hf,hp',dn⟩
  ·obtain⟨u,h1,h2⟩:=I1.ok j sl e
   exact⟨u,by rw[na (λz=>hj z.symm)];exact h1,h2⟩
 ·rcases g e with⟨rfl,rfl,hl⟩|⟨hj,e⟩
  ·rw[nb (by rw[<-I.len];exact hl)]at q
   cases q;exact hBp
  ·rw[na (λz=>hj z.symm)]at q
   exact I.own j sl p' e o q
 ·rcases g e1 with⟨rfl,rfl,hl⟩|⟨hj,e1⟩
  ·rcases g e2 with⟨rfl,rfl,hl2⟩|⟨hk,e2⟩
   ·rfl
   ·rw[nb (by rw[<-I.len];exact hl)]at q1
    cases q1;rw[na (λz=>hk z.symm)]at q2
    exact absurd q2 (nown e2 o2)
  ·rw[na (λz=>hj z.symm)]at q1
   rcases g e2 with⟨hki,hsk,hl2⟩|⟨hk,e2⟩
   ·rw[hki,nb (by rw[<-I.len];exact hl2)]at q2
    cases q2;exact absurd q1 (nown e1 o1)
   ·rw[na (λz=>hk z.symm)]at q2
    exact I.dis j k sj sk p' e1 e2 o1 o2 q1 q2
theorem zlf{i:Nat}{x:Str}{pos':Pos}(hN:X.N.Nodup)(hi:X.N[i]?=some x)(hx:Loc X.env.scope x)(he:PE X e (eW X.K B fr))(hs:swapsWith e (some (.Name x pos')) pos.line X.env=pure false:=by rfl)(hf:X.fn x=true\/X.env.scope.names.lookup x=some .local:=by first|exact .inl rfl|exact .inr rfl|assumption):PS X (.Assign [.Name x pos'] e pos) (sV X.K B (zfm i fr)):=(zfr hN hi hx he hs hf).imp λD σ H ⟨Hf,ρ,I,q⟩=>by
 unfold zfm at q
 cases e:fr ρ with
 |none=>rw[e]at q;exact q.elim
 |some d=>rw[e]at q;exact⟨Hf,ρ,d,I,e,λHf1 H1 p xs ex hp hf hp' dn=>q Hf1 _ H1 ex.ff (I.setO ex hp hf hp' dn)⟩
theorem z4w{elt:Expr}{ifs:List Expr}{scope:Scope}{vars:List Str}{cap:List Nat}{g:D->Rho->Option Rho}{tt:Rho->Option Bool}{te:Rho->Option D}{i:Nat}{x:Str}{pos' spos:Pos}(hN:X.N.Nodup)(hx0:X.N[i]?=some x)(hx:X.env.scope.names.lookup x=some .local)
  (hc:X.calm=true) (S:CScope X scope) (hcap:∀i∈cap,i<X.N.length/\scope.names.lookup (X.N.getD i "")≠some .local) (hn:cap.Nodup) (hsl:sl.all (·<vars.length)=true) (hi:PI X tg iter (iB X.K B fi))
  (hg:∀s H C ex,PG (zay X scope C vars cap s H ex) tg (gV X.K B sl g)) (ht:∀s H C ex,ztd (zay X scope C vars cap s H ex) ifs (tV X.K B tt)) (he:∀s H C ex,PE (zay X scope C vars cap s H ex) elt (eV X.K B te))
  (hsw:swapsWith (.ListComp elt [⟨tg,iter,ifs,0⟩] scope pos) (some (.Name x pos')) spos.line X.env=pure true:=by rfl)
  (hs:∀x,foldedSetIterable iter X.env x=pure x:=by intro _;rfl):PS X (.Assign [.Name x pos'] (.ListComp elt [⟨tg,iter,ifs,0⟩] scope pos) spos) (sV X.K B (zbn i (eL (zcf vars.length cap fi g tt te)))) :=
 (znz hN hx0 hx hc S hcap hi hg ht he hsw hs).imp λD σ H ⟨Hf,ρ,I,q⟩=>by
  unfold zbn at q
  cases e:eL (zcf vars.length cap fi g tt te) ρ with
  |none=>rw[e]at q;exact q.elim
  |some d =>
   rw[e]at q;exact zw0 (λR z=>zmm hn hsl z) (show eV X.K B _ σ H _ from⟨Hf,ρ,d,I,e,λHf1 H1 v ex1 dv=>q Hf1 _ H1 ex1.ff ((I.ext ex1).set dv)⟩)
theorem z4x(he:PE X e (eV X.K B fe))(hg:PG X tg (gV X.K B sl gt))(hs:swapsWithSole [tg] e pos.line X.env=pure false:=by rfl)(hw:swappedStores [tg] e X.env=pure none:=by rfl)(h1:(assignEach [tg] X.env).map (·.2)=[assign tg X.env]:=by rfl):PS X (.Assign [tg] e pos) (sV X.K B (zh9 gt fe)):=(zv7 he hg hs hw h1).imp λD σ H ⟨Hf,ρ,I,q⟩=>by
 unfold zh9 at q
 cases e:fe ρ with
 |none=>rw[e]at q;exact q.elim
 |some d =>
  rw[e]at q
  cases e2:gt d ρ with
  |none=>simp only[za,e2]at q;exact q.elim
  |some ρ' =>
   simp only[za,e2]at q;exact⟨Hf,ρ,d,I,e,λHf1 H1 v ex1 dv=>⟨Hf1,ρ,d,ρ',I.ext ex1,dv,e2,λσ' I' _ _=>q Hf1 σ' H1 ex1.ff I'⟩⟩
theorem z4y(he:PE X e (eV X.K B fe))(hs:swapsWith e none pos.line X.env=pure false:=by rfl):PS X (.Expr e pos) (sV X.K B (zc3 fe)):=(zez he hs).imp λD σ H ⟨Hf,ρ,I,q⟩=>by
 unfold zc3 at q
 cases e:fe ρ with
 |none=>rw[e]at q;exact q.elim
 |some d=>rw[e]at q;exact⟨Hf,ρ,d,I,e,λHf1 H1 v ex1 dv=>q Hf1 _ H1 ex1.ff (I.ext ex1)⟩
theorem zbo(he:PE X e (eV X.K B fe)):PS X (.Return (some e) pos) (sV X.K B (zb7 fe)):=(zlx he).imp λD σ H ⟨Hf,ρ,I,q⟩=>by
 unfold zb7 at q
 cases e:fe ρ with
 |none=>rw[e]at q;exact q.elim
 |some d=>rw[e]at q;exact⟨Hf,ρ,d,I,e,λHf1 H1 v ex1 dv=>q Hf1 H1 v (I.ex.trans ex1) dv⟩
theorem z4z (i:Nat) {x:Str}{p:Pos} (hN:X.N[i]?=some x:=by rfl) (hv:Vis X.env.scope x:=by first|exact cb rfl|exact af (cb rfl)|exact af (af rfl)) (hd:(x == ("__debug__" : Str))=false:=by decide) (hcd:(x == ("__classdict__" : Str))=false:=by decide):PS X (.Return (some (.Name x p)) pos) (sV X.K B (zdu i)):=(zlx (zcg hN hv hd hcd)).imp λD σ H ⟨Hf,ρ,I,q⟩=>by
 unfold zdu at q
 split at q
 ·rename_i ds e
  obtain⟨v,h1,p,xs,rfl,h2,h3,h4⟩:=I.ok i _ e;exact⟨_,h1,q Hf H p xs I.ex (I.own i _ p e rfl h1) h2 h3 h4⟩
 ·exact q.elim
theorem VI.mut{Hf H:Hp}{ρ:Rho}{σ:St}{i:Nat}{ds ds':List D}{p:Addr}{xs':List V}(I:VI K B Hf ρ σ H)(hi:ρ[i]?=some (some (.ow ds)))(hp:σ[i]?=some (some (.ref p)))(dn:Dns K Hf ds' xs'):VI K B Hf (ρ.set i (some (.ow ds'))) σ (upd H p (.lst xs')):=by
 obtain⟨v,h1,p',xs,e1,hf,hH,_⟩:=I.ok i _ hi;rw[hp]at h1;cases h1;cases e1;have hB:=I.own i _ p hi rfl hp;have hlt:i<ρ.length:=(qa.mp hi).1
 have g:∀{j:Nat} {sl:Sl},(ρ.set i (some (.ow ds')))[j]?=some (some sl)->(j=i/\sl=.ow ds')\/(j≠i/\ρ[j]?=some (some sl)):=λ{j sl} e=>by
  by_cases hj:i=j
  ·subst hj
   rw[nb hlt]at e;cases e;exact .inl ⟨rfl,rfl⟩
  ·rw[na hj]at e
   exact .inr ⟨λz=>hj z.symm,e⟩
 have fs:zax Hf (upd H p (.lst xs')):=λb o h=>by
  rw[zad (zag h hf)];exact I.fh b o h
 refine⟨⟨I.ex.ff,λb o h=>?_,fs,I.ex.nw,I.ex.nf⟩,by simp[I.len],λj sl e=>?_,λj sl p' e o q=>?_,λj k sj sk p' e1 e2 o1 o2 q1 q2=>?_⟩
 ·rw[zad (zag h hB)];exact I.ex.hh b o h
 ·rcases g e with⟨rfl,rfl⟩|⟨hj,e⟩
  ·exact⟨.ref p,hp,p,xs',rfl,hf,zac,dn⟩
  ·obtain⟨u,h1,h2⟩:=I.ok j sl e
   refine⟨u,h1,?_⟩
   have ne:∀{p':Addr},zf1 sl=true->u=.ref p'->p'≠p:=λ{p'} o z1 z2=>by
    subst z1 z2;exact hj (I.dis j i sl _ _ e hi o rfl h1 hp)
   cases sl with
   |sh d=>exact h2
   |ow d=>obtain⟨p',xs,e1,e2,e3,e4⟩:=h2;exact⟨p',xs,e1,e2,by rw[zad (ne rfl e1)];exact e3,e4⟩
   |dk ks d=>obtain⟨p',xs,e1,e2,e3,e4⟩:=h2;exact⟨p',xs,e1,e2,by rw[zad (ne rfl e1)];exact e3,e4⟩
   |dt ks d=>obtain⟨p',xs,e1,e2,e3,e4⟩:=h2;exact⟨p',xs,e1,e2,by rw[zad (ne rfl e1)];exact e3,e4⟩
 ·rcases g e with⟨rfl,rfl⟩|⟨hj,e⟩
  ·rw[hp]at q;cases q;exact hB
  ·exact I.own j sl p' e o q
 ·rcases g e1 with⟨rfl,rfl⟩|⟨hj,e1⟩
  ·rcases g e2 with⟨rfl,rfl⟩|⟨hk,e2⟩
   ·rfl
   ·exact I.dis _ k _ sk p' hi e2 rfl o2 q1 q2
  ·rcases g e2 with⟨hki,hsk⟩|⟨hk,e2⟩
   ·rw[hki]at q2 ⊢
    exact I.dis j _ sj _ p' e1 hi o1 rfl q1 q2
   ·exact I.dis j k sj sk p' e1 e2 o1 o2 q1 q2
theorem zn8 {i:Nat}{x:Str}{p1 p2 p3:Pos} (hN:X.N[i]?=some x) (ha:PE X a (eV X.K B fa)) (hv:Vis X.env.scope x:=by first|exact cb rfl|exact af (cb rfl)|exact af (af rfl)) (hd:(x == ("__debug__" : Str))=false:=by decide) (hcd:(x == ("__classdict__" : Str))=false:=by decide)
  (hbase:attributeBase (.Name x p1) "append" X.env (eval (.Name x p1) X.env)=eval (.Name x p1) X.env:=by rfl)
  (hfew:((backTo p3 (starEach [a] X.env)).all (λx=>!x.1) && (backToKw p3 (keywordEach [] X.env)).all (λx=>x.1.isSome) && decide ([a].length+([]:List Keyword).length+(if ([]:List Keyword).isEmpty then 0 else 1)<30))=true:=by rfl)
  (hline:(p2.endLine == p3.line)=true:=by rfl) (hs:starEach [a] X.env=(false,eval a X.env)::starEach [] X.env:=by rfl) (hplain:(backTo p3 (starEach [] X.env)).any (·.1)=false:=by rfl) (hsw:swapsWith (.Call (.Attribute (.Name x p1) "append" p2) [a] [] p3) none pos.line X.env=pure false:=by rfl) :
  PS X (.Expr (.Call (.Attribute (.Name x p1) "append" p2) [a] [] p3) pos) (sV X.K B (zd7 i fa)) :=
 (zez (ztb PySem.F.plainAttrs_list PySem.F.slot_list_append PySem.F.type_list_append zjj (zcg hN hv hd hcd) (zbp ha zc5 hs) hbase hfew hline hs hplain) hsw).imp λD σ H ⟨Hf,ρ,I,q⟩=>by
  unfold zd7 at q
  split at q
  ·rename_i ds e
   obtain⟨v,h1,p,xs,rfl,h2,h3,h4⟩:=I.ok i _ e;refine⟨_,h1,.inl ⟨rfl,xs,SqL.of h3⟩,?_⟩
   split at q
   ·rename_i d hd
    split at q
    ·rename_i hk
     refine⟨Hf,ρ,d,I,hd,λHf1 H1 v ex1 dv=>?_⟩;refine⟨xs,ex1.hh _ _ h3,by rw[<-h4.length];exact hk,q Hf1 σ _ ex1.ff ?_⟩;exact(I.ext ex1).mut e h1 ((h4.same ex1.ff).zsnoc dv)
    ·exact q.elim
   ·exact q.elim
  ·exact q.elim
theorem VI.frz{Hf H:Hp}{ρ:Rho}{σ:St}{i:Nat}{ds:List D}(I:VI K B Hf ρ σ H)(hi:ρ[i]?=some (some (.ow ds))):∃Hf',zax Hf Hf'/\VI K B Hf' (ρ.set i (some (.sh (.lst ds)))) σ H:=by
 obtain⟨v,h1,p,xs,rfl,hf,hH,dn⟩:=I.ok i _ hi;have hB:=I.own i _ p hi rfl h1;have ex:=I.ex.frz hB hH hf;refine⟨upd Hf p (.lst xs),zas hf,ex,by simp[I.len],λj sl e=>?_,λj sl p' e o q=>?_,λj k sj sk p' e1 e2 o1 o2 q1 q2=>?_⟩
 ·by_cases hj:i=j
  ·subst hj
   rw[nb (qa.mp hi).1]at e;cases e;exact⟨_,h1,zc8 (SqL.of zac) (dn.same (zas hf))⟩
  ·rw[na hj]at e
   obtain⟨u,g1,g2⟩:=I.ok j sl e;refine⟨u,g1,?_⟩
   have ne:∀{p':Addr},zf1 sl=true->u=.ref p'->p'≠p:=λ{p'} o z1 z2=>by
    subst z1 z2;exact hj (I.dis i j _ sl _ hi e rfl o h1 g1)
   cases sl with
   |sh d=>exact Dn.same g2 (zas hf)
   |ow d=>obtain⟨p',xs,e1,e2,e3,e4⟩:=g2;exact⟨p',xs,e1,by rw[zad (ne rfl e1)];exact e2,e3,Dns.same e4 (zas hf)⟩
   |dk ks d=>obtain⟨p',xs,e1,e2,e3,e4⟩:=g2;exact⟨p',xs,e1,by rw[zad (ne rfl e1)];exact e2,e3,e4.1,Dns.same e4.2 (zas hf)⟩
   |dt ks d=>obtain⟨p',xs,e1,e2,e3,e4⟩:=g2;exact⟨p',xs,e1,by rw[zad (ne rfl e1)];exact e2,e3,e4.1,Dns.same e4.2 (zas hf)⟩
 ·by_cases hj:i=j
  ·subst hj
   rw[nb (qa.mp hi).1]at e;cases e;cases o
  ·rw[na hj]at e
   exact I.own j sl p' e o q
 ·by_cases hj:i=j
  ·subst hj
   rw[nb (qa.mp hi).1]at e1;cases e1;cases o1
  ·by_cases hk:i=k
   ·subst hk
    rw[nb (qa.mp hi).1]at e2;cases e2;cases o2
   ·rw[na hj]at e1
    rw[na hk]at e2;exact I.dis j k sj sk p' e1 e2 o1 o2 q1 q2
theorem zqi(i:Nat)(h:PSs X sts (sV X.K B f)):PSs X sts (sV X.K B (zgu i f)):=h.imp λD σ H ⟨Hf,ρ,I,q⟩=>by
 unfold zgu at q
 split at q
 ·rename_i ds e
  obtain⟨Hf',z,I'⟩:=I.frz e;exact⟨Hf',_,I',zep.mono q z⟩
 ·exact⟨Hf,ρ,I,q⟩
theorem ze7{body:List Stmt}(hp:PassesOwn (model X.prog X.w) X.A X.env X.xe)(hc:X.calm=true)(hi:PI X tg iter (iV X.K B fi))(hg:PG X tg (gV X.K B sl gt))(hb:PSs X body (sV X.K B f))(hs:∀x,foldedSetIterable iter X.env x=pure x:=by intro _;rfl):PS X (.For tg iter body [] pos) (sV X.K B (zdz fi gt f)):=(zlz hp hc hi hg hb hs).imp λD σ H ⟨Hf,ρ,I,q⟩=>by
 unfold zdz at q
 cases e:fi ρ with
 |none=>rw[e]at q;exact q.elim
 |some ds =>
  rw[e]at q;refine⟨Hf,ρ,ds,I,e,λJ Hf1 H1 ex1 ok=>?_⟩;refine⟨λi m σ H=>m=ds.length - i/\i<=ds.length/\∃Hf2 ρ2,VI X.K B Hf2 ρ2 σ H/\zax Hf1 Hf2/\zep X.K B Hf1 (zew gt f (ds.drop i) ρ2) D,⟨ds.length,by simp,ud _,Hf1,ρ,I.ext ex1,zax.refl _,zep.mono q ex1.ff⟩,?_⟩;rintro i m σ2 H2 ⟨rfl,hi,Hf2,ρ2,I2,s12,q⟩;have okk:=ok Hf2 H2 (s12.trans I2.fh) s12 I2.fh i;by_cases hlt:i<ds.length
  ·obtain⟨go,yld⟩:=okk.1 ds[i] (by simp[hlt])
   refine .inr ⟨go,λσ' H'=>∃Hf3 ρ3,VI X.K B Hf3 ρ3 σ' H'/\zax Hf1 Hf3/\zep X.K B Hf1 (zew gt f (ds.drop (i+1)) ρ3) D,λσ' H' z=>⟨ds.length - (i+1),by omega,rfl,hlt,z⟩,λx H3 y=>?_⟩;obtain⟨Hf3,ex3,dx⟩:=yld x H3 y;rw[se hlt]at q;unfold zew at q
   cases hg:gt ds[i] ρ2 with
   |none=>rw[hg]at q;exact q.elim
   |some ρ1 =>
    simp only[hg]at q;refine⟨Hf3,ρ2,_,ρ1,I2.ext ex3,dx,hg,λσ' I' _ _=>⟨Hf3,ρ1,I',?_⟩⟩
    cases hf:f ρ1 with
    |nx ρ'=>simp only[hf]at q;exact λHf' σ'' H'' z I''=>⟨Hf',ρ',I'',(s12.trans ex3.ff).trans z,q⟩
    |ct ρ'=>simp only[hf]at q;exact λHf' σ'' H'' z I''=>⟨Hf',ρ',I'',(s12.trans ex3.ff).trans z,q⟩
    |bk ρ'=>simp only[hf]at q;exact λHf' σ'' H'' z I''=>q Hf' σ'' H'' ((s12.trans ex3.ff).trans z) I''
    |rt d=>simp only[hf]at q;exact q
    |rw d=>simp only[hf]at q;exact q
    |bad=>simp only[hf]at q;exact q.elim
  ·have e:i=ds.length:=by omega
   subst e;rw[ji]at q;exact .inl ⟨okk.2 (va _),q Hf2 σ2 H2 s12 I2⟩
end
noncomputable def zdr(n:Nat)(ds:List D):Rho:=ds.map (λd=>some (.sh d))++List.replicate (n - ds.length) none
noncomputable def fnR(np n:Nat)(f:Rho->Out)(ds:List D):Option D:=if ds.length=np then (match f (zdr n ds) with|.rt d=>some d|.rw es=>some (.lst es)|.nx _=>some .non|_=>none) else none
noncomputable def fnW(np n:Nat)(f:Rho->Out)(ds:List D):Option (List D):=if ds.length=np then (match f (zdr n ds) with|.rw es=>some es|_=>none) else none
noncomputable def spV(K:PySem.W.Frag)(np:Nat)(F:List D->Option D):Sp:=λvs H Q _=>∃Hf ds d,zax Hf H/\Dns K Hf ds vs/\ds.length=np/\F ds=some d/\∀Hf' H' v,Ex Hf H Hf' H'->Dn K Hf' d v->Q v H'
noncomputable def spW(K:PySem.W.Frag)(np:Nat)(F:List D->Option (List D)):Sp:=λvs H Q _=>∃Hf ds rs,zax Hf H/\Dns K Hf ds vs/\ds.length=np/\F ds=some rs/\∀Hf' H' p xs,Ex Hf H Hf' H'->H p=none->Hf' p=none->H' p=some (.lst xs)->Dns K Hf' rs xs->Q (.ref p) H'
theorem VI.init{K:PySem.W.Frag}{Hf H:Hp}{N:List Str}{vs:List V}{ds:List D}(s:zax Hf H)(h:Dns K Hf ds vs):VI K ⟨Hf,H⟩ Hf (zdr N.length ds) (start N vs) H:=by
 have hl:=h.length
 have key:∀{i:Nat} {sl:Sl},(zdr N.length ds)[i]?=some (some sl)->∃d,ds[i]?=some d/\sl=.sh d:=λ{i sl} e=>by
  unfold zdr at e;by_cases hi:i<ds.length
  ·rw[dg (by simpa using hi),qc]at e
   obtain⟨d,h1,h2⟩:=db.mp e;exact⟨d,h1,(kc h2).symm⟩
  ·rw[yf (by simpa using hi),zg]at e
   split at e <;> cases e
 refine⟨.refl s,by simp[zdr,start,hl],λi sl e=>?_,λi sl p e o=>?_,λi j si sj p e1 e2 o1=>?_⟩
 ·obtain⟨d,h1,rfl⟩:=key e
  obtain⟨v,h2,h3⟩:=h.zget h1;refine⟨v,?_,h3⟩;have hi:i<vs.length:=(qa.mp h2).1;unfold start;rw[dg (by simpa using hi),qc,h2];rfl
 ·obtain⟨d,h1,rfl⟩:=key e
  cases o
 ·obtain⟨d,h1,rfl⟩:=key e1
  cases o1
section
variable {P:Program}{w:World}{K:PySem.W.Frag}{mg:Str->Option Value}{base:Heap}
theorem okV{x qual:Str}{st:Stmt}{f:Addr}{fd:FuncData}{N ps:List Str}{k:Nat}{fs:Rho->Out}(F:Fun K x qual st f fd)(S:FnScope N ps (zae st))
  (hbody:∀(cdv:Value) (A:Around) (outer:List Env) (s:Shared) (H:Hp) (E:XK) (B:Bs),Room k (A.deeper (envOfC qual (zae st) s.heap.objs.size f cdv))->PSs (zcy CX0 P w K mg base N qual (zae st) f cdv A outer s H E).nox (zby st) (sV K B fs)):FnOk P w K mg base CX0 (k+1) f fd ps (spV K ps.length (fnR ps.length N.length fs)):=by
 refine F.ok S (λvs H Q E h=>?_) (λcdv A outer s H vs Q E hr h=>?_)
 ·obtain⟨Hf,ds,d,_,h1,h2,_⟩:=h
  rw[<-h2,h1.length]
 ·obtain⟨Hf,ds,d,hs,h1,h2,h3,q⟩:=h
  refine⟨_,hbody cdv A outer s H E ⟨Hf,H⟩ hr,Hf,zdr N.length ds,VI.init hs h1,?_⟩;unfold fnR at h3;rw[la h2]at h3
  cases e:fs (zdr N.length ds) with
  |rt d'=>rw[e]at h3;cases h3;exact λHf' H' v ex dv=>q Hf' H' v ex dv
  |rw es =>
   rw[e]at h3;cases h3;exact λHf' H' p xs ex hp hf hp' dn=>q _ H' _ (ex.frz hp hp' hf) (zc8 (SqL.of zac) (dn.same (zas hf)))
  |nx ρ'=>rw[e]at h3;cases h3;exact λHf' σ' H' _ I'=>q Hf' H' .non I'.ex (zav rfl)
  |bk ρ'=>rw[e]at h3;cases h3
  |ct ρ'=>rw[e]at h3;cases h3
  |bad=>rw[e]at h3;cases h3
theorem okW{x qual:Str}{st:Stmt}{f:Addr}{fd:FuncData}{N ps:List Str}{k:Nat}{fs:Rho->Out}(F:Fun K x qual st f fd)(S:FnScope N ps (zae st))
  (hbody:∀(cdv:Value) (A:Around) (outer:List Env) (s:Shared) (H:Hp) (E:XK) (B:Bs),Room k (A.deeper (envOfC qual (zae st) s.heap.objs.size f cdv))->PSs (zcy CX0 P w K mg base N qual (zae st) f cdv A outer s H E).nox (zby st) (sV K B fs)):FnOk P w K mg base CX0 (k+1) f fd ps (spW K ps.length (fnW ps.length N.length fs)):=by
 refine F.ok S (λvs H Q E h=>?_) (λcdv A outer s H vs Q E hr h=>?_)
 ·obtain⟨Hf,ds,d,_,h1,h2,_⟩:=h
  rw[<-h2,h1.length]
 ·obtain⟨Hf,ds,d,hs,h1,h2,h3,q⟩:=h
  refine⟨_,hbody cdv A outer s H E ⟨Hf,H⟩ hr,Hf,zdr N.length ds,VI.init hs h1,?_⟩;unfold fnW at h3;rw[la h2]at h3
  cases e:fs (zdr N.length ds) with
  |rw es=>rw[e]at h3;cases h3;exact λHf' H' p xs ex hp hf hp' dn=>q Hf' H' p xs ex hp hf hp' dn
  |rt d'=>rw[e]at h3;cases h3
  |nx ρ'=>rw[e]at h3;cases h3
  |bk ρ'=>rw[e]at h3;cases h3
  |ct ρ'=>rw[e]at h3;cases h3
  |bad=>rw[e]at h3;cases h3
end
section
variable {X:Cx}{B:Bs}{k:Nat}{f:Addr}{fd:FuncData}{ps:List Str}{x:Str}{p pos:Pos}{e:Expr}{es:List Expr}{fr:Rho->Option (List D)}{np:Nat}
noncomputable def zao(np:Nat)(F:List D->Option D)(fr:Rho->Option (List D)):Rho->Option D:=λρ=>(fr ρ).bind λds=>if ds.length=np then F ds else none
noncomputable def zcv(np:Nat)(F:List D->Option (List D))(fr:Rho->Option (List D)):Rho->Option (List D):=λρ=>(fr ρ).bind λds=>if ds.length=np then F ds else none
theorem zar{F:List D->Option D}(G:FnOk X.prog X.w X.K X.mg X.base CX0 k f fd ps (spV X.K np F))(hr:Room k X.A)(hg:Gl X x)(hm:X.mg x=some (.ref f))(hk:PySem.W.keepIn X.K (.ref f)=true)(hb:zch X.K fd ps [])
  (ha:PA X (e::es) (aV X.K B fr)) (hdb:(x == ("__debug__" : Str))=false:=by decide) (he:starEach (e::es) X.env=(false,eval e X.env)::starEach es X.env:=by rfl) (hpl:(backTo pos (starEach es X.env)).any (·.1)=false:=by rfl):PE X (.Call (.Name x p) (e::es) [] pos) (eV X.K B (zao np F fr)) :=
 (zky G hr hg hm hk hb .nil z3g ha hdb he hpl).imp λσ H Q ⟨Hf,ρ,z,I,hz,q⟩=>by
  obtain⟨ds,hd,hz⟩:=bind_some hz
  split at hz
  ·rename_i hn
   refine⟨Hf,ρ,ds,I,hd,λHf1 H1 vs ex1 dvs=>?_⟩;show spV X.K np F (vs++[]) H1 Q E0;rw[zb];exact⟨Hf1,ds,z,ex1.fh,dvs,hn,hz,λHf' H' v ex dv=>q Hf' H' v (ex1.trans ex) dv⟩
  ·cases hz
theorem zlg{F:List D->Option (List D)}(G:FnOk X.prog X.w X.K X.mg X.base CX0 k f fd ps (spW X.K np F))(hr:Room k X.A)(hg:Gl X x)(hm:X.mg x=some (.ref f))(hk:PySem.W.keepIn X.K (.ref f)=true)(hb:zch X.K fd ps [])
  (ha:PA X (e::es) (aV X.K B fr)) (hdb:(x == ("__debug__" : Str))=false:=by decide) (he:starEach (e::es) X.env=(false,eval e X.env)::starEach es X.env:=by rfl) (hpl:(backTo pos (starEach es X.env)).any (·.1)=false:=by rfl):PE X (.Call (.Name x p) (e::es) [] pos) (eW X.K B (zcv np F fr)) :=
 (zky G hr hg hm hk hb .nil z3g ha hdb he hpl).imp λσ H Q ⟨Hf,ρ,z,I,hz,q⟩=>by
  obtain⟨ds,hd,hz⟩:=bind_some hz
  split at hz
  ·rename_i hn
   refine⟨Hf,ρ,ds,I,hd,λHf1 H1 vs ex1 dvs=>?_⟩;show spW X.K np F (vs++[]) H1 Q E0;rw[zb];exact⟨Hf1,ds,z,ex1.fh,dvs,hn,hz,λHf' H' p xs ex hp hf hp' dn=>q Hf' H' p xs (ex1.trans ex) (ex1.hh.free hp) hf hp' dn⟩
  ·cases hz
noncomputable def zcw(np:Nat)(F:List D->Option D)(fr:Rho->Option (List D)):Rho->Option D:=λρ=>(fr ρ).bind λds=>if ds.length=np then (F ds).bind λd=>match d with|.sc v=>some (.sc v)|_=>none else none
end
noncomputable def LF:List Nat:=[97,98,99,100,101,102,103,104,105,106,107,108,109,110,111,112,113,114,115,116,117,118,119,120,121,122,65,66,67,68,69,70,71,72,73,74,75,76,77,78,79,80,81,82,83,84,85,86,87,88,89,90,48,49,50,51,52,53,54,55,56,57]
noncomputable def SG:List Nat:=[97,98,99,100,101,102,103,104,105,106,107,108,109,110,111,112,113,114,115,116,117,118,119,120,121,122,65,66,67,68,69,70,71,72,73,74,75,76,77,78,79,80,81,82,83,84,85,86,87,88,89,90,48,49,50,51,52,53,54,55,56,57,45]
theorem zfd{P:Program}{w:World}{K:PySem.W.Frag}{mg:Str->Option Value}{base:Heap}{x qual:Str}{st:Stmt}{f:Addr}{fd:FuncData}{N ps:List Str}{k np nN:Nat}{fs:Rho->Out}{F':List D->Option D}(hF:F'=fnR np nN fs)(hp:ps.length=np)(hN:N.length=nN)(F:Fun K x qual st f fd)(S:FnScope N ps (zae st))
  (hbody:∀(cdv:Value) (A:Around) (outer:List Env) (s:Shared) (H:Hp) (E:XK) (B:Bs),Room k (A.deeper (envOfC qual (zae st) s.heap.objs.size f cdv))->PSs (zcy CX0 P w K mg base N qual (zae st) f cdv A outer s H E).nox (zby st) (sV K B fs)):FnOk P w K mg base CX0 (k+1) f fd ps (spV K np F'):=by
 subst hF hp hN;exact okV F S hbody
theorem yb4{P:Program}{w:World}{K:PySem.W.Frag}{mg:Str->Option Value}{base:Heap}{x qual:Str}{st:Stmt}{f:Addr}{fd:FuncData}{N ps:List Str}{k np nN:Nat}{fs:Rho->Out}{F':List D->Option (List D)}(hF:F'=fnW np nN fs)(hp:ps.length=np)(hN:N.length=nN)(F:Fun K x qual st f fd)(S:FnScope N ps (zae st))
  (hbody:∀(cdv:Value) (A:Around) (outer:List Env) (s:Shared) (H:Hp) (E:XK) (B:Bs),Room k (A.deeper (envOfC qual (zae st) s.heap.objs.size f cdv))->PSs (zcy CX0 P w K mg base N qual (zae st) f cdv A outer s H E).nox (zby st) (sV K B fs)):FnOk P w K mg base CX0 (k+1) f fd ps (spW K np F'):=by
 subst hF hp hN;exact okW F S hbody
section
variable {X:Cx}{B:Bs}{K:PySem.W.Frag}{a b c:Expr}{fa fb fc:Rho->Option D}{pos:Pos}
theorem zz7 {x:Str}{l:List Nat}{n:Str}{tk:Tok}{pos:Pos} (h:x=S l) (hg:Gl X n) (hm:X.mg n=some (.str x tk)) (hd:(n == ("__debug__" : Str))=false:=by decide):PE X (.Name n pos) (eV X.K B (eC (.str l))):=by
 subst h;exact z4i rfl (zkw (v:=.str (S l)) hg hm ⟨tk,rfl⟩ hd)
theorem zia{H:Hp}:∀ns:List Int,Dns K H (ns.map D.int) (ns.map V.int)
 |[]=>.nil
 |n::r=>.cons (zav rfl) (zia r)
noncomputable def zfe:D->Bool|.sc .non=>true|_=>false
noncomputable def zqj(d e:D):Option D:=match e with|.sc .non=>some (.bl (!zfe d))|_=>none
theorem zz8:OpR X (compareOp .IsNot) (λx y H Q=>y=.non/\Q (.bl (!decide (x=.non))) H):=zyg
theorem zz9{Hf H:Hp}{d:D}{x:V}(s:zax Hf H)(h:DnB K Hf H d x):decide (x=V.non)=zfe d:=by
 cases d with
 |sc v=>rw[h.sc.2];cases v <;> simp[zfe]
 |tup ds=>obtain⟨a,xs,rfl,_⟩:=h.tup;simp[zfe]
 |lst ds=>obtain⟨a,xs,rfl,_⟩:=h.lst s;simp[zfe]
 |dk ks ds=>obtain⟨a,xs,rfl,_⟩:=h.dk s;simp[zfe]
 |dt ks ds=>obtain⟨a,xs,rfl,_⟩:=h.dt s;simp[zfe]
 |er n ks ds =>
  rcases h with⟨k,h⟩|h
  ·cases k with
   |zero=>exact h.elim
   |succ k=>obtain⟨e,C,dx,fs,rfl,_⟩:=h;simp[zfe]
  ·exact h.elim
theorem zt9:P2 K (λx y H Q=>y=.non/\Q (.bl (!decide (x=.non))) H) zqj:=by
 intro Hf H x y d e z Q s hd he hz q;unfold zqj at hz
 split at hz
 ·cases hz
  exact⟨he.sc.2,by rw[zz9 s hd];exact q Hf H _ (.refl s) (zav rfl)⟩
 ·cases hz
end
section
variable {M:Model}{A:Around}{E:Value->Shared->Prop}{h:Heap}{g:Array GenState}{d:Drawn}{t:Nat}{os:OsState}
variable {nm:Str}{C P:Addr}{mN mP:Str->Option Value}
theorem z0a{e:Addr}{oe:Obj}{Q:Bool->Shared->Prop}(x:XC h nm C P mN mP)(he:h.get? e=some oe)(hc:oe.cls=.ref C)(hq:Q true ⟨h,g,d,t,os⟩):wpAny M A (excMatches (.ref e) (.ref P)) Q E ⟨h,g,d,t,os⟩:=by
 obtain⟨⟨q,N,bs,sn,sub,ab,col,dd,k0,k1,k2,k3,k5,hC,hn⟩,a1,a2,a3,a4,a5,a6,a7,a8,a9,b0,b1,b2,b3,b4,b5,hP,h4⟩:=x;have hcB:(Value.ref P::bmV).contains (.type "BaseException")=true:=by rw[ag];simp
 have hcP:(Value.ref C::(Value.ref P::bmV)).contains (.ref P)=true:=by simp
 have f:=tc_notTuple;unfold excMatches
 repeat (first|(with_reducible refine wc he ?_;rw[hc])|with_reducible refine wc hP ?_|(with_reducible refine ng hP ?_;rw[hcB])|(with_reducible refine ng hC ?_;rw[hcP])|wp_step)
 exact hq
end
noncomputable def Cx.hdl(X:Cx)(v:Value):Cx:={ X with A:=X.A.mark (some v),calm:=false }
section
variable {X:Cx}{pins:List (Addr×Obj)}{σ:St}{H:Hp}{s:Shared}{v:Value}{h':Heap}
theorem Inv.hdl(I:Inv X pins σ H s):Inv (X.hdl v) pins σ H s :=
 ⟨⟨I.ok.mod,I.ok.kind,I.ok.glob,I.ok.blt,I.ok.above,I.ok.inj,I.ok.has,I.ok.cab,(λz=>nomatch z),I.ok.frames,I.ok.stk,I.ok.exf,I.ok.bs,I.ok.bsz,I.ok.noex,I.ok.exfs,I.ok.funs,I.ok.frf⟩,I.os,I.bare,I.base,I.loc,I.cell,I.free,I.freeC,I.pin,I.hok,I.len⟩
theorem Inv.unhdl(ok:X.Ok)(I:Inv (X.hdl v) pins σ H s):Inv X pins σ H s:=⟨ok,I.os,I.bare,I.base,I.loc,I.cell,I.free,I.freeC,I.pin,I.hok,I.len⟩
theorem Inv.gone{n:Str}{j:Nat}{m:Str->Option Value}{t':Nat}{w:Option Value}(I:Inv X pins σ H s)(hN:X.N.Nodup)(hj:X.N[j]?=some n)(hm:s.heap.Ns X.env.locals m)(hn':h'.Ns X.env.locals (λx=>if x=n then w else m x))(hs:Heap.SameBut X.env.locals s.heap h') :
  Inv X pins (σ.set j none) H { s with heap:=h',toks:=t' }:=by
 obtain⟨m0,hn0,hl⟩:=id I.loc;have em:m0=m:=hn0.eq_nsMap.trans hm.eq_nsMap.symm;subst em;have cne:=I.cne;have hjσ:j<σ.length:=by rw[I.len];exact(qa.mp hj).1
 refine⟨I.ok,I.os,I.bare,⟨λb o e n hb hx=>?_,λb o e n hb hx=>?_,I.base.free,λb o e hx=>?_,I.base.tups,I.base.frzs,I.base.tbls⟩,⟨_,hn',λk y v' e1 e2 e3=>?_⟩,λy c e=>?_,I.free,I.freeC,λp hp=>?_,λb ob e=>?_,by simpa using I.len⟩
 ·exact(hs.2 b (dc (wb (ya e) I.ok.above))).trans (I.base.keep b o e n hb hx)
 ·obtain⟨sl,z⟩:=I.base.slot b o e n hb hx
  exact⟨sl,(hs.2 b (dc (wb (ya e) I.ok.above))).trans z⟩
 ·obtain⟨o',z⟩:=I.base.there b o e hx
  exact⟨o',(hs.2 b (dc (wb (ya e) I.ok.above))).trans z⟩
 ·by_cases hk:k=j
  ·subst hk
   rw[nb hjσ]at e2;cases e2
  ·rw[na (rf hk)]at e2
   obtain⟨u',r',q⟩:=hl k y v' e1 e2 e3;refine⟨u',r',?_⟩;rcases q with⟨kk,e⟩|⟨kk,c,e,z⟩
   ·refine .inl ⟨kk,?_⟩
    have:y≠n:=λe=>hk (zhw hN e1 (e ▸ hj))
    simp[this,e]
   ·exact .inr ⟨kk,c,e,z.sameBut hs (cne y c e)⟩
 ·obtain⟨w',z⟩:=I.cell y c e
  exact⟨w',z.sameBut hs (cne y c e)⟩
 ·obtain⟨e,n,ne,nf,d⟩:=I.pin p hp
  exact⟨(hs.2 p.1 ne).trans e,n,ne,nf,d⟩
 ·refine(I.hok b ob e).stay (λc w' hc q=>(hs.2 c ?_).trans q) (λ_ q=>q) λ_ _ q=>q
  rintro rfl;rcases hc with rfl|hc
  ·rw[I.free]at e;cases e
  ·rw[I.free]at hc;cases hc
end
section
variable {X:Cx}
theorem ydc{pins:List (Addr×Obj)}{σ:St}{H:Hp}{s:Shared}{D:Ends}{e C dx:Addr}{nm n told:Str}{i j:Nat}{np pt pn pa hp:Pos}(I:Inv X pins σ H s)(hst:X.stack=X.env::X.outer/\X.env.frame=some X.env.locals)(hN:X.N.Nodup)(hi:X.N[i]?=some told)(hj:X.N[j]?=some n)
  (hl:X.env.scope.names.lookup told=some .local) (hln:X.env.scope.names.lookup n=some .local) (hg:Gl X "PageError") (tr:Trc s.heap e) (he:H e=some (.ext (ExO e C dx))) (cl:ClP X.K nm C) (q:D.nx (((σ.set j (some (.ref e))).set i (some (.ref e))).set j none) H)
  (hd:(n == ("__debug__" : Str))=false:=by decide) (hcd:(n == ("__classdict__" : Str))=false:=by decide) (hsw:swapsWith (.Name n pn) (some (.Name told pt)) pa.line X.env=pure false:=by rfl) :
  wpAny (model X.prog X.w) X.A (noteFrame (.ref e) X.env) (λ_ s2=>wpAny (model X.prog X.w) X.A (setFlight (.ref e) none) (λ_ s3=>wpAny (model X.prog X.w) X.A (handleBy (.ref e) X.env [.ExceptHandler (some (.Name "PageError" np)) (some n) [.Assign [.Name told pt] (.Name n pn) pa] hp]) (SP X pins D) X.xe s3) X.xe s2) X.xe s:=by
 obtain⟨P,fI,c,hP,_⟩:=cl;have hm:X.mg "PageError" = some (.ref P):=PySem.W.mg_of I.ok.mod.kin I.ok.mod.glob hP;obtain⟨mN,mP,xc,_⟩:=c.at_ X.base I.ok.mod.kin;refine zzf (base:=X.base) (hst.1 ▸ I.ok.frames) (hst.1 ▸ I.stack) hst.2 tr λh1 n1=>?_
 have n1':Ntd (frs X.stack) e s.heap h1:=by rw[hst.1];exact n1
 have eq:upd H e (.ext (ExO e C dx))=H:=by
  funext b
  by_cases hb:b=e
  ·subst hb;rw[zac,he]
  ·rw[zad hb]
 have I1:Inv X pins σ H { s with heap:=h1 }:=by
  have:=I.noted he n1' (zzm n1' (I.hok.ext he))
  rw[eq]at this;exact this
 refine wpAny_handleBy_cons (codeAny_handlers_test (zey (X:=X.hdl (.ref e)) I1.hdl hg hm ?_)) (by intro z;cases z);obtain⟨vs,sl,hoe⟩:=I1.hok.ext he;refine z0a (xc.keeps I1.bk) hoe rfl ?_;refine codeAny_handlers_suite_as ?_;obtain⟨oe,us,T,oT,ts,t1,t2,t3,t4,t5,t6,t7⟩:=n1.trc;refine wpAny_setFlight_none t1 t2 t3 t5 t6 (de.mp t7).1 ?_;have I2:Inv X pins σ H { s with heap:=h1.update T (Obj.mapFields (·.setIfInBounds 3 .none)) }:=I1.kept (t':=s.toks) λb u z=>(zel t5 t6 t7 b).trans z
 refine zhx (v:=.ref e) I2 hN hj (cb hln) rfl (λs3 I3=>?_) (.inr hln);refine ye ((zbt (X:=(X.hdl (.ref e)).nox) (zfr (i:=i) hN hi (cb hl) (zcg (i:=j) hj (cb hln) hd hcd) hsw (.inr hl)) zkx) pins s3 _ H ⟨λσ' H'=>σ'=(σ.set j (some (.ref e))).set i (some (.ref e))/\H'=H,λ_ _=>False,λ_ _=>False,λ_ _=>False⟩ (I3.hdl.wish _) ⟨.ref e,?_,rfl,rfl⟩) (λf s4 hf=>?_) λ_ _ z=>z.elim
 ·rw[nb];rw[I.len];exact(qa.mp hj).1
 ·cases f with
  |next =>
   obtain⟨σ',H',I4,e1,e2⟩:=hf;subst e1 e2;have I5:Inv X pins ((σ.set j (some (.ref e))).set i (some (.ref e))) H' s4:=I4.unwish.unhdl I.ok;obtain⟨m,hm4,_⟩:=id I5.loc;refine wpAny_nameGoes_keeps hln hm4 (by rw[I.ok.kind];rfl) λh5 w hn5 hs5=>⟨_,_,I5.gone hN hj hm4 hn5 hs5,q⟩
  |brk=>obtain⟨_,_,_,z⟩:=hf;exact z.elim
  |cont=>obtain⟨_,_,_,z⟩:=hf;exact z.elim
  |ret u=>obtain⟨_,_,_,_,_,z⟩:=hf;exact z.elim
end
section
variable {X:Cx}{CX:CXT}{k:Nat}{f:Addr}{fd:FuncData}{ps:List Str}{sp sp0 sp1:Sp}{E:XK}
theorem zqk{pins:List (Addr×Obj)}{σ:St}{H:Hp}{s:Shared}{Q:VK}{us:List Value}{vs:List V}{Ec:Value->Shared->Prop}(F:FnOk X.prog X.w X.K X.mg X.base CX k f fd ps sp)(hr:Room k X.A)(hb:zch X.K fd ps [])(hx:∀e s',CX X.stack H s E e s'->Ec e s')
  (I:Inv X pins σ H s) (r:zbj vs us) (h:sp vs H Q E):wpAny (model X.prog X.w) X.A (call (.ref f) us) (EP X pins σ Q) Ec s:=by
 have hl:(us++[]).length=ps.length:=by rw[zb,<-r.length];exact F.len _ _ _ _ h
 have hbb:=hb s us I.kIn hl;rw[zb]at hbb;refine yo (gk (F.run X.A X.stack s H ⟨us,[]⟩ us vs Q E hr I.env0 hbb r h) λr s' hq=>?_)
 cases r with
 |error e=>exact hx e s' hq
 |ok fl =>
  cases fl with
  |ret u=>exact I.after hq
  |next=>exact False.elim hq
  |brk=>exact False.elim hq
  |cont=>exact False.elim hq
noncomputable def ErW(K:PySem.W.Frag)(W:Addr->Hp->Prop):XK:=λv _ H=>∃e nm C dx',v=.ref e/\H e=some (.ext (ExO e C dx'))/\ClP K nm C/\W e H
noncomputable def z96(K:PySem.W.Frag)(sp0 sp1:Sp)(i j:Nat)(g:V->St->St)(t:TA):TS:=λD σ H=>t σ H λvs H1=>sp0 vs H1 (λv H2=>D.nx (g v σ) H2) E0\/sp1 vs H1 (λ_ _=>False) (ErW K λe H2=>D.nx (((σ.set j (some (.ref e))).set i (some (.ref e))).set j none) H2)
variable {fx n told:Str}{i j:Nat}{p cp ep pos np pt pn pa hp:Pos}{a:Expr}{as:List Expr}{t:TA}
theorem zua{pins:List (Addr×Obj)}{σ:St}{H:Hp}{s:Shared}{D:Ends}{g:V->St->St}{R:Value->Shared->Prop}(F0:FnOk X.prog X.w X.K X.mg X.base CX0 k f fd ps sp0)(F1:FnOk X.prog X.w X.K X.mg X.base (CX1 X.prog X.w) k f fd ps sp1)(hr:Room k X.A)(hg:Gl X fx)(hm:X.mg fx=some (.ref f))(hk:PySem.W.keepIn X.K (.ref f)=true)(hb:zch X.K fd ps [])
  (ha:∀Ec,PA (X.wish Ec) (a::as) t) (I:Inv X pins σ H s) (h:z96 X.K sp0 sp1 i j g t D σ H) {Ec:Value->Shared->Prop} (hR:∀u v H2 s2,Inv X pins σ H2 s2->za7 v u->D.nx (g v σ) H2->R u s2)
  (hE:∀e nm C dx H2 s2,Inv X pins σ H2 s2->Trc s2.heap e->H2 e=some (.ext (ExO e C dx))->ClP X.K nm C->D.nx (((σ.set j (some (.ref e))).set i (some (.ref e))).set j none) H2->Ec (.ref e) s2) (hdb:(fx == ("__debug__" : Str))=false:=by decide) (he:starEach (a::as) X.env=(false,eval a X.env)::starEach as X.env:=by rfl) (hpl:(backTo cp (starEach as X.env)).any (·.1)=false:=by rfl) :
  wpAny (model X.prog X.w) X.A (eval (.Call (.Name fx p) (a::as) [] cp) X.env) R Ec s:=by
 refine zf (zey I hg hm ?_ hdb);refine PySem.W.callWith_K (h₀:=X.base) I.ok.mod.kin hk (thn (ha Ec cp pins s σ H _ (I.wish Ec) h) λus s1 ⟨vs,H1,I1,r,q⟩=>⟨I1.kIn,?_⟩) he hpl;rw[ke];have I1':Inv X pins σ H1 s1:=I1.unwish;rcases q with q|q
 ·exact thn (zqk F0 hr hb (λe s' z=>z.elim) I1' r q) λu s2 ⟨v,H2,I2,rv,q2⟩=>hR u v H2 s2 I2 rv q2
 ·refine thn (zqk (Ec:=Ec) F1 hr hb (λv s' z=>?_) I1' r q) λu s2 ⟨v,H2,I2,rv,q2⟩=>q2.elim
  obtain⟨e,C,dx,fs,H',ev,os,bare,un,hok,tr,he',hd',hne,e2,nm,C2,dx2,w1,w3,w4,w5⟩:=z;subst ev;cases w1;have I2:Inv X pins σ H' s':=I1'.call' (ch:=[]) os un hok bare (λ_ z=>nomatch z);exact hE e nm C2 dx2 H' s' I2 tr w3 w4 w5
theorem z0b (F0:FnOk X.prog X.w X.K X.mg X.base CX0 k f fd ps sp0) (F1:FnOk X.prog X.w X.K X.mg X.base (CX1 X.prog X.w) k f fd ps sp1) (hr:Room k X.A) (hg:Gl X fx) (hm:X.mg fx=some (.ref f)) (hk:PySem.W.keepIn X.K (.ref f)=true) (hb:zch X.K fd ps []) (hgP:Gl X "PageError")
  (hst:X.stack=X.env::X.outer/\X.env.frame=some X.env.locals) (hN:X.N.Nodup) (hi:X.N[i]?=some told) (hj:X.N[j]?=some n) (hl:X.env.scope.names.lookup told=some .local) (hln:X.env.scope.names.lookup n=some .local) (ha:∀Ec,PA (X.wish Ec) (a::as) t)
  (hdb:(fx == ("__debug__" : Str))=false:=by decide) (he:starEach (a::as) X.env=(false,eval a X.env)::starEach as X.env:=by rfl) (hpl:(backTo cp (starEach as X.env)).any (·.1)=false:=by rfl) (hd:(n == ("__debug__" : Str))=false:=by decide) (hcd:(n == ("__classdict__" : Str))=false:=by decide)
  (hsw:swapsWith (.Name n pn) (some (.Name told pt)) pa.line X.env=pure false:=by rfl) (hse:swapsWith (.Call (.Name fx p) (a::as) [] cp) none ep.line X.env=pure false:=by rfl) :
  PS X (.Try [.Expr (.Call (.Name fx p) (a::as) [] cp) ep] [.ExceptHandler (some (.Name "PageError" np)) (some n) [.Assign [.Name told pt] (.Name n pn) pa] hp] [] [] pos) (z96 X.K sp0 sp1 i j (λ_ σ=>σ) t):=by
 intro pins s σ H D I h;refine wpAny_Try_except (rn (wpAny_Expr_any (zua F0 F1 hr hg hm hk hb ha I h (λu v H2 s2 I2 rv q=>vj (vj ⟨σ,H2,I2,q⟩)) (λe nm C dx H2 s2 I2 tr he' cl q=>?_) hdb he hpl) I.quiet hse));exact ydc I2 hst hN hi hj hl hln hgP tr he' cl q hd hcd hsw
end
def ydd(h:Heap)(e L:Addr)(lo:Nat):Prop:=∃oe vs T oT ts,h.get? e=some oe/\oe.data=.fields vs/\vs[1]?=some (.ref T)/\T≠e/\h.get? T=some oT/\oT.data=.fields ts/\ts[3]?=some (rawInt L)/\lo<=T
def z71(h:Heap)(e:Addr):Prop:=∃oe vs,h.get? e=some oe/\oe.data=.fields vs/\vs[1]?=some .none
structure NtF(fs:List Addr)(e L:Addr)(h h':Heap):Prop where
 fl:ydd h' e L h.objs.size
 exc:∀oe vs,h.get? e=some oe->oe.data=.fields vs->∃vs',h'.get? e=some { oe with data:=.fields vs' }
 keep:∀b o,b≠e->b ∉ fs->h.get? b=some o->h'.get? b=some o
 slot:∀b o,b∈fs->h.get? b=some o->∃sl,h'.get? b=some { o with slots:=sl }
section
variable {M:Model}{A:Around}{E:Value->Shared->Prop}{s:Shared}
theorem zmo{base:Heap}{env:Env}{outer:List Env}{L e:Addr}{oe:Obj}{vs:Array Value}{head:Value}{had:Bool}{Q:Unit->Shared->Prop}(hfr:A.frames=some (env::outer))(hl:s.heap.FunFrames base (env::outer))(hf:env.frame=some L)
  (he:s.heap.get? e=some oe) (hd:oe.data=.fields vs) (hsz:1<vs.size) (q:∀h',NtF ((env::outer).filterMap (·.frame)) e L s.heap h'->Q () { s with heap:=h' }) :
  wpAny M A (do let a ← frameOf env;let pl ← entryPlaceOf L had;let b ← EntryCells.newEntry head a .none (rawInt L) .none pl;setField (.ref e) 1 b) Q E s:=by
 have hee:e ∉ (env::outer).filterMap (·.frame):=λhm=>by
  obtain⟨_,o,ho,hnf⟩:=hl.mem hm;rw[he]at ho;cases ho;exact hnf vs hd
 refine aa (wpAny_frameOf_fun hfr hl hf λh1 s1=>?_);refine aa (wpAny_entryPlaceOf λpl hpl=>?_);unfold EntryCells.newEntry newFields;refine aa (gf ?_ (hpl.sizeOk5 _ _ _ _ _));have e1:h1.get? e=some oe:=(s1.2.1 e hee).trans he;generalize eob:({ cls:=.type "traceback",dict:=none,data:=.fields ([head,.ref L,.none,rawInt L,.none]++(if pl.isEmpty then List.replicate 6 Value.none else pl)).toArray }:Obj)=ob;have obf:ob.isFreed=false:=by rw[<-eob];rfl
 obtain⟨us,hus,hu3⟩:∃us,ob.data=.fields us/\us[3]?=some (rawInt L):=⟨_,by rw[<-eob],by simp⟩
 have e2:=ma (h:=h1) ob e1;refine jh e2 hd hsz (q _ ?_);have hTe:h1.objs.size≠e:=tj (ya e1);have d3:=bg hd (·.setIfInBounds 1 (Value.ref h1.objs.size));have e3:=md (Obj.mapFields (·.setIfInBounds 1 (Value.ref h1.objs.size))) e2 (rg d3);have t3:=(xb (h1.push ob) (Obj.mapFields (·.setIfInBounds 1 (Value.ref h1.objs.size))) (rf hTe)).trans (gb h1 obf)
 have keep:∀b o,b≠e->h1.get? b=some o->((h1.push ob).update e (Obj.mapFields (·.setIfInBounds 1 (Value.ref h1.objs.size)))).get? b=some o:=λb o hbe hb=>by
  rw[xb _ _ (rf hbe)];exact ma _ hb
 refine⟨⟨_,_,h1.objs.size,_,_,e3,d3,by simp[hsz],hTe,t3,hus,hu3,by rw[s1.1];exact va _⟩,λo' vs' a1 a2=>?_,λb o hbe hbf hb=>keep b o hbe ((s1.2.1 b hbf).trans hb),λb o hbf hb=>?_⟩
 ·rw[he]at a1;cases a1
  rw[hd]at a2;cases a2;exact⟨_,by rw[e3,ze1 hd]⟩
 ·obtain⟨sl,hs⟩:=s1.2.2 b o hb
  exact⟨sl,keep b _ (λz=>hee (by rw[<-z];exact hbf)) hs⟩
theorem z0c{base:Heap}{env:Env}{outer:List Env}{L e:Addr}{Q:Unit->Shared->Prop}(hfr:A.frames=some (env::outer))(hl:s.heap.FunFrames base (env::outer))(hf:env.frame=some L)(ht:z71 s.heap e\/Trc s.heap e)
  (q:∀h',NtF ((env::outer).filterMap (·.frame)) e L s.heap h'->Q () { s with heap:=h' }):wpAny M A (noteFrame (.ref e) env) Q E s:=by
 unfold noteFrame;simp only[hf];rcases ht with⟨oe,vs,he,hd,h1⟩|⟨oe,vs,T,oT,ts,he,hd,h1,hTe,hT,hdT,h3⟩
 ·refine aa (bh he hd h1 ?_)
  rw[wa (by decide)];exact zmo hfr hl hf he hd (de.mp h1).1 q
 ·refine aa (bh he hd h1 ?_)
  rw[la (show (Value.ref T != Value.none)=true from by simp)];refine aa (bh hT hdT h3 ?_);rw[wa (show ¬((Value.none == rawInt L)=true) from by simp[rawInt])];refine aa (jh hT hdT (de.mp h3).1 ?_);have same:=zel hT hdT h3;refine zmo (base:=base) hfr (hl.of_keeps λb o hb _=>⟨o,(same b).trans hb,rfl⟩) hf ((same e).trans he) hd (de.mp h1).1 λh' n=>q h' ⟨?_,λoe vs a b=>n.exc oe vs ((same e).trans a) b,λb o c1 c2 c3=>n.keep b o c1 c2 ((same b).trans c3),λb o c1 c2=>n.slot b o c1 ((same b).trans c2)⟩
  obtain⟨a1,a2,a3,a4,a5,b1,b2,b3,b4,b5,b6,b7,b8⟩:=n.fl;exact⟨a1,a2,a3,a4,a5,b1,b2,b3,b4,b5,b6,b7,by rw[<-Heap.size_after_update];exact b8⟩
end
section
variable {X:Cx}{pins:List (Addr×Obj)}{σ:St}{H:Hp}{s:Shared}{h':Heap}
theorem Inv.notedF{e C dx L:Addr}(I:Inv X pins σ H s)(he:H e=some (.ext (ExO e C dx)))(n:NtF (frs X.stack) e L s.heap h'):Inv X pins σ H { s with heap:=h' }:=by
 have eq:upd H e (.ext (ExO e C dx))=H:=by
  funext b
  by_cases hb:b=e
  ·subst hb;rw[zac,he]
  ·rw[zad hb]
 have ho:ExO e C dx h':=by
  obtain⟨vs,sl,z⟩:=I.hok.ext he;obtain⟨vs',z'⟩:=n.exc _ vs z rfl;exact⟨vs',sl,z'⟩
 refine I.call (g':=s.gens) (t':=s.toks) (d':=s.drawn) (ch:=[]) ⟨λb o q m hc hx=>n.keep b o (zag he m).symm hc q,λb o q m hc hx=>n.slot b o hc q,λb o q m hx=>m,λb o q hx=>?_,λb xs q=>q,λb o u q=>q,λb ps q=>⟨#[],by rw[q];simp⟩⟩ (λb u q=>?_) I.bare (λ_ z=>nomatch z)
 ·by_cases hb:b=e
  ·subst hb;obtain⟨vs,sl,z⟩:=ho;exact⟨_,z⟩
  ·by_cases hf:b∈frs X.stack
   ·obtain⟨sl,z⟩:=n.slot b o hf q;exact⟨_,z⟩
   ·exact⟨o,n.keep b o hb hf q⟩
 ·by_cases hb:b=e
  ·subst hb;rw[he]at q;cases q;exact zpz ho
  ·refine(I.hok b u q).stay (λc v hc z=>n.keep c v ?_ ?_ z) (λc z=>z) λc ys z=>z
   ·rcases hc with rfl|hc
    ·exact hb
    ·exact zd3 hc he λz=>nomatch z
   ·intro hm
    have:=I.stkFree c hm
    rcases hc with rfl|hc
    ·rw[q]at this;cases this
    ·rw[hc]at this;cases this
theorem Inv.entry{e C dx T:Addr}{oT:Obj}{ts:Array Value}{v:Value}(I:Inv X pins σ H s)(hpn:X.pn++pins=[])(hT:s.heap.get? T=some oT)(hd:oT.data=.fields ts)(hlo:X.s₀.heap.objs.size<=T)(hTf:T ∉ frs X.stack)(hH:H T=none):Inv X pins σ H { s with heap:=s.heap.update T (Obj.mapFields (·.setIfInBounds 3 v)) }:=by
 have oth:∀b o,b≠T->s.heap.get? b=some o->(s.heap.update T (Obj.mapFields (·.setIfInBounds 3 v))).get? b=some o:=λb o hb z=>(xb _ _ (rf hb)).trans z
 have self:=md (Obj.mapFields (·.setIfInBounds 3 v)) hT (rg (bg hd _));refine I.step (g':=s.gens) (t':=s.toks) (d':=s.drawn) (ch:=[T]) (λb hb=>?_) (λb o _ _ hc z _=>oth b o (λw=>hc (by simp[w])) z) (λb o _ _ hc z _=>⟨o.slots,oth b o (λw=>hc (by simp[w])) z⟩) (λb o _ _ m=>m) (λb o hc z=>⟨o,oth b o (λw=>hc (by simp[w])) z⟩) (λb xs q=>q) (λb o u q=>q) (λb ps q=>⟨#[],by rw[q];simp⟩) (λm hm=>?_) (λb u q=>?_) I.bare
 ·rw[jb.mp hb]
  refine⟨.inr hlo,λz=>?_,λx c hc z=>?_,λp hp=>by rw[hpn]at hp;cases hp⟩
  ·obtain⟨m,⟨o,es,ep,ho,hdd,_⟩,_⟩:=I.loc
   rw[<-z,hT]at ho;cases ho;rw[hd]at hdd;cases hdd
  ·obtain⟨w,o,ho,hdd⟩:=I.cell x c hc
   rw[z,hT]at ho;cases ho;rw[hd]at hdd;cases hdd
 ·obtain⟨o,es,ep,ho,r⟩:=hm
  refine⟨o,es,ep,oth _ _ (λz=>?_) ho,r⟩;rw[z,hT]at ho;cases ho;rw[hd]at r;cases r.1
 ·refine(I.hok b u q).stay (λc w hc z=>oth c w (λzz=>?_) z) (λc z=>z) λc ys z=>z
  subst zz;rcases hc with rfl|hc
  ·rw[hH]at q;cases q
  ·rw[hH]at hc;cases hc
end
def z40(h:Heap)(e L T:Addr):Prop:=∃oe vs oT ts,h.get? e=some oe/\oe.data=.fields vs/\vs[1]?=some (.ref T)/\T≠e/\h.get? T=some oT/\oT.data=.fields ts/\ts[3]?=some (rawInt L)
def XeI(X:Cx)(W:XK):Value->Shared->Prop:=λv s'=>∃e C dx fs H1 σ1,v=.ref e/\Inv X [] σ1 H1 s'/\H1 e=some (.ext (ExO e C dx))/\H1 dx=some (.ext (XdO dx fs))/\dx≠e/\(z71 s'.heap e\/Trc s'.heap e\/∃T,z40 s'.heap e X.env.locals T/\X.s₀.heap.objs.size<=T/\H1 T=none)/\W v (some dx) H1
section
variable {P:Program}{w:World}{K:PySem.W.Frag}{mg:Str->Option Value}{base:Heap}{N:List Str}{qual:Str}{scope:Scope}{f:Addr}{cd:Value}{A:Around}{outer:List Env}{s:Shared}{H:Hp}{E:XK}
theorem zmp{X:Cx}{pins:List (Addr×Obj)}{σ:St}{H:Hp}{s:Shared}(I:Inv X pins σ H s):Inv X [] σ H s:=I.pins_of λp hp=>nomatch hp
theorem zql{h h':Heap}{e L T:Addr}(x:z40 h e L T)(k:∀b o,h.get? b=some o->h'.get? b=some o):z40 h' e L T:=by
 obtain⟨oe,vs,oT,ts,a1,a2,a3,a4,a5,a6,a7⟩:=x;exact⟨oe,vs,oT,ts,k _ _ a1,a2,a3,a4,k _ _ a5,a6,a7⟩
theorem zjw{s1:Shared}{e C dx:Addr}{fs:List (Str×V)}{H1:Hp}{σ1:St}{Q:Unit->Shared->Prop}{E':Value->Shared->Prop}(I:Inv (zcy (CX1 P w) P w K mg base N qual scope f cd A outer s H E) [] σ1 H1 s1)(he:H1 e=some (.ext (ExO e C dx)))(c:z71 s1.heap e\/Trc s1.heap e\/∃T,z40 s1.heap e ((zcy (CX1 P w) P w K mg base N qual scope f cd A outer s H E)).env.locals T/\((zcy (CX1 P w) P w K mg base N qual scope f cd A outer s H E)).s₀.heap.objs.size<=T/\H1 T=none)
  (q:∀s2 T,Inv (zcy (CX1 P w) P w K mg base N qual scope f cd A outer s H E) [] σ1 H1 s2->z40 s2.heap e ((zcy (CX1 P w) P w K mg base N qual scope f cd A outer s H E)).env.locals T->((zcy (CX1 P w) P w K mg base N qual scope f cd A outer s H E)).s₀.heap.objs.size<=T->H1 T=none->Q () s2):wpAny (model P w) ((zcy (CX1 P w) P w K mg base N qual scope f cd A outer s H E)).A (noteFrame (.ref e) ((zcy (CX1 P w) P w K mg base N qual scope f cd A outer s H E)).env) Q E' s1:=by
 have key:z71 s1.heap e\/Trc s1.heap e->wpAny (model P w) ((zcy (CX1 P w) P w K mg base N qual scope f cd A outer s H E)).A (noteFrame (.ref e) ((zcy (CX1 P w) P w K mg base N qual scope f cd A outer s H E)).env) Q E' s1:=λz=>by
  refine z0c (base:=base) I.ok.frames I.stack rfl z λh' n=>?_
  have I2:=I.notedF he n;obtain⟨oe,vs,T,oT,ts,a1,a2,a3,a4,a5,a6,a7,a8⟩:=n.fl;exact q _ T I2 ⟨oe,vs,oT,ts,a1,a2,a3,a4,a5,a6,a7⟩ (ed I.sz a8) (I.hok.fresh a8)
 rcases c with z|z|⟨T,z,z2,z3⟩
 ·exact key (.inl z)
 ·exact key (.inr z)
 ·obtain⟨oe,vs,oT,ts,a1,a2,a3,a4,a5,a6,a7⟩:=id z
  exact wpAny_noteFrame_inFlight rfl a1 a2 a3 a5 a6 a7 (q _ T I z z2 z3)
theorem z0d:PassesOwn (model P w) ((zcy (CX1 P w) P w K mg base N qual scope f cd A outer s H E)).A ((zcy (CX1 P w) P w K mg base N qual scope f cd A outer s H E)).env (XeI (zcy (CX1 P w) P w K mg base N qual scope f cd A outer s H E) E):=by
 intro v s1 ⟨e,C,dx,fs,H1,σ1,ev,I,he,hd,hne,c,q⟩;subst ev;refine zjw (fs:=fs) I he c λs2 T I2 z z2 z3=>?_
 obtain⟨oe,vs,oT,ts,a1,a2,a3,a4,a5,a6,a7⟩:=id z;unfold cameBackBy;refine aa (bh a1 a2 a3 ?_);rw[wa (by simp)];unfold setFlight;refine aa (bh a1 a2 a3 ?_);rw[la (show (Value.ref T != Value.none)=true from by simp)];refine jh a5 a6 (de.mp a7).1 ?_;have same:∀b,(s2.heap.update T (Obj.mapFields (·.setIfInBounds 3 (rawInt ((zcy (CX1 P w) P w K mg base N qual scope f cd A outer s H E)).env.locals)))).get? b=s2.heap.get? b:=zel a5 a6 a7;have I3:Inv (zcy (CX1 P w) P w K mg base N qual scope f cd A outer s H E) [] σ1 H1 { s2 with heap:=s2.heap.update T (Obj.mapFields (·.setIfInBounds 3 (rawInt ((zcy (CX1 P w) P w K mg base N qual scope f cd A outer s H E)).env.locals))) }:=I2.kept (t':=s2.toks) λb u zz=>(same b).trans zz
 exact⟨e,C,dx,fs,H1,σ1,rfl,I3,he,hd,hne,.inr (.inr ⟨T,zql z λb o zz=>(same b).trans zz,z2,z3⟩),q⟩
theorem z41{v:Value}{s1:Shared}(h:XeI (zcy (CX1 P w) P w K mg base N qual scope f cd A outer s H E) E v s1):((zcy (CX1 P w) P w K mg base N qual scope f cd A outer s H E)).xe v s1:=by
 obtain⟨e,C,dx,fs,H1,σ1,ev,I,he,hd,hne,c,q⟩:=h;subst ev;refine ztw (zjw (fs:=fs) I he c λs2 T I2 z z2 z3=>?_);obtain⟨oe,vs,oT,ts,a1,a2,a3,a4,a5,a6,a7⟩:=id z;refine wpAny_setFlight_none a1 a2 a3 a5 a6 (de.mp a7).1 ?_
 have hTf:T ∉ frs ((zcy (CX1 P w) P w K mg base N qual scope f cd A outer s H E)).stack:=λhm=>by
  obtain⟨_,o,ho,hnf⟩:=I2.stack.mem hm;rw[a5]at ho;cases ho;exact hnf ts a6
 have I3:Inv (zcy (CX1 P w) P w K mg base N qual scope f cd A outer s H E) [] σ1 H1 { s2 with heap:=s2.heap.update T (Obj.mapFields (·.setIfInBounds 3 .none)) }:=I2.entry (e:=e) (C:=C) (dx:=dx) rfl a5 a6 z2 hTf z3;have self:=md (Obj.mapFields (·.setIfInBounds 3 Value.none)) a5 (rg (bg a6 _));refine⟨e,C,dx,fs,H1,rfl,I3.os,I3.bare,I3.base,I3.hok,⟨oe,vs,T,_,_,(xb _ _ a4).trans a1,a2,a3,a4,self,bg a6 _,?_⟩,he,hd,hne,q⟩
 have:=(de.mp a7).1
 simp[this]
theorem z97:Xes (((zcy (CX1 P w) P w K mg base N qual scope f cd A outer s H E)).wish (XeI (zcy (CX1 P w) P w K mg base N qual scope f cd A outer s H E) E)) E:=by
 intro pins σ H1 s1 e C dx t0 fs I he hd hne q;have ho:s1.heap.get? e=some ⟨.ref C,some dx,.fields #[.ref t0,.none,.none,.none,.bool false,.none],#[]⟩:=I.hok.ext he;have I2:Inv (zcy (CX1 P w) P w K mg base N qual scope f cd A outer s H E) pins σ (upd H1 e (.ext (ExO e C dx))) s1:=I.unwish.write (t':=s1.toks) (h':=s1.heap) (x:=e) (e:=e) (by rw[he];trivial) (.inl rfl) (λb u _ z=>z) ⟨_,ho⟩ (zpz ⟨_,_,ho⟩);exact⟨e,C,dx,fs,_,σ,rfl,zmp I2,zac,by rw[zad hne];exact hd,hne,.inl ⟨_,_,ho,rfl,rfl⟩,q⟩
theorem z42:zi4 (CX1 P w) (((zcy (CX1 P w) P w K mg base N qual scope f cd A outer s H E)).wish (XeI (zcy (CX1 P w) P w K mg base N qual scope f cd A outer s H E) E)) E:=by
 intro pins σ H1 s1 v s2 I ⟨e,C,dx,fs,H',ev,os,bare,un,hok,tr,he,hd,hne,q⟩;subst ev;have I1:Inv (zcy (CX1 P w) P w K mg base N qual scope f cd A outer s H E) pins σ H' s2:=I.unwish.call' (ch:=[]) os un hok bare (λ_ z=>nomatch z);exact⟨e,C,dx,fs,H',σ,rfl,zmp I1,he,hd,hne,.inr (.inl tr),q⟩
end
section
variable {P:Program}{w:World}{K:PySem.W.Frag}{mg:Str->Option Value}{base:Heap}
theorem Fun.okX{x qual:Str}{st:Stmt}{f:Addr}{fd:FuncData}{N ps:List Str}{k:Nat}{sp:Sp}(F:Fun K x qual st f fd)(S:FnScope N ps (zae st))(len:∀vs H Q E,sp vs H Q E->vs.length=ps.length)
  (hbody:∀ (cdv:Value) (A:Around) (outer:List Env) (s:Shared) (H:Hp) (vs:List V) (Q:VK) (E:XK),Room k (A.deeper (envOfC qual (zae st) s.heap.objs.size f cdv))->sp vs H Q E →
   ∃t,PSs ((zcy (CX1 P w) P w K mg base N qual (zae st) f cdv A outer s H E).wish (XeI (zcy (CX1 P w) P w K mg base N qual (zae st) f cdv A outer s H E) E)) (zby st) t/\t { nx:=λ_ H'=>Q .non H',rt:=Q } (start N vs) H):FnOk P w K mg base (CX1 P w) (k+1) f fd ps sp:=by
 obtain⟨oc,od,kV,doc,pm,an,cdv,ct,osl,rfl,lk,hcd⟩:=F.ex;refine z3a lk hcd S len λA outer s H vs Q E hr hsp=>?_
 obtain⟨t,h,q⟩:=hbody cdv A outer s H vs Q E hr hsp;refine⟨t,λpins s1 σ H1 D I hw=>?_,q⟩;exact ye (h pins s1 σ H1 D (I.wish _) hw) (λ_ _ z=>z.unwish) λe s' z=>z41 z
end
end L2
namespace L2
open PySem
section
variable {prog:Program}{w:World}{A:Around}{E:Value->Shared->Prop}{h:Heap}{g:Array GenState}{d:Drawn}{t:Nat}{os:OsState}
variable {nm:Str}{C P a:Addr}{o:Obj}{mN mP:Str->Option Value}
theorem zub:typeLookup (.type "ValueError") "__class__" = pure (some (.builtin "object.__class__")):=by rw[xj,mh];kernel_rfl
theorem z43{R:Result->Shared->Prop}(X:XC h nm C P mN mP)(hx:h.get? a=some o)(hc:o.cls=.ref C)(hq:R (.ok (.ret (.ref C))) ⟨h,g,d,t,os⟩) :
  codeAny (model prog w) A (.call (.builtin "getset_descriptor.__get__") ⟨[.builtin "object.__class__",.ref a,.ref C],[]⟩) R ⟨h,g,d,t,os⟩:=by
 obtain⟨⟨q,N,bs,sn,sub,ab,col,dd,k0,k1,k2,k3,k5,hC,hn⟩,_⟩:=X;have hT5:(⟨h,g,d,t,os⟩:Shared).TypeIs (.builtin "object.__class__") "getset_descriptor":=ik;have hcB:(Value.ref C::(Value.ref P::bmV)).contains (.type (".".intercalate ("object.__class__".cutAt '.').dropLast))=true:=by rw[F.owner_object_class,ag,ag];simp
 refine kj F.slot_gs_get.plain F.entry_gs_get (F.slot_gs_get.check _ _ _ _ _ _ _ _ hT5 (F.args_gs_get _ _ _) ?_)
 repeat (any_goals (first|assumption|(with_reducible refine wc hx ?_;rw[hc])|(with_reducible refine ng hC ?_;rw[hcB])|wp_step))
 refine⟨fm _ (by decide +kernel),oi F.entry_object_class ?_⟩
 repeat (any_goals (first|assumption|(with_reducible refine wc hx ?_;rw[hc])|wp_step))
theorem z44 {tk:Tok}{Q:Fin->Shared->Prop} (X:XC h nm C P mN mP) (hna:mN "__class__" = none) (hpa:mP "__class__" = none) (hx:h.get? a=some o) (hc:o.cls=.ref C) (hq:Q (.done (.ret (.ref C))) ⟨h,g,d,t,os⟩) :
  wpAny (model prog w) A (Builtin.«object.__getattribute__» ⟨[.ref a,.str "__class__" tk],[]⟩) Q E ⟨h,g,d,t,os⟩:=by
 have hT5:(⟨h,g,d,t,os⟩:Shared).TypeIs (.builtin "object.__class__") "getset_descriptor":=ik;have f5:=ik;have f6:=F.slot_gs_get.lookup;have f7:=F.slot_gs_set.lookup
 repeat (any_goals (first|assumption|(with_reducible refine wc hx ?_;rw[hc])|(with_reducible refine zek X hpa zub ?_;rw[hna])|wp_step))
 refine z43 X hx hc ?_
 repeat (any_goals (first|assumption|wp_step))
theorem z98 {Q:Option Value->Shared->Prop} (X:XC h nm C P mN mP) (hg:mN "__getattribute__" = none) (hgp:mP "__getattribute__" = none) (hh:mN "__getattr__" = none) (hhp:mP "__getattr__" = none) (hna:mN "__class__" = none) (hpa:mP "__class__" = none) (hx:h.get? a=some o) (hc:o.cls=.ref C) (hq:Q (some (.ref C)) ⟨h,g,d,t+1,os⟩) :
  wpAny (model prog w) A (getAttr? (.ref a) "__class__") Q E ⟨h,g,d,t,os⟩:=by
 have FB:=F.excAttr_ValueError;have f3:=FB.ga.bind (.ref a);have hx2:(Value.builtin "BaseException.__getattribute__" == Value.builtin "object.__getattribute__")=false:=by decide +kernel
 have hx1:(onTheHeap (Value.ref C) && Value.builtin "BaseException.__getattribute__" == Value.builtin "object.__getattribute__")=false:=by rw[hx2];rfl
 unfold getAttr? getAttrBy?
 repeat (any_goals (first|assumption|(with_reducible refine wc hx ?_;rw[hc])|(with_reducible refine zek X hgp FB.ga.lookup ?_;rw[hg])|(with_reducible refine zek X hhp zfb ?_;rw[hh])|wp_step))
 refine kj FB.ga.plain F.entry_bexc_ga (zwg X hx hc (z44 X hna hpa hx hc ?_))
 repeat (any_goals (first|assumption|wp_step))
end
end L2
namespace L2
open PySem PySem.Spec PyProof.Rows
section
variable {K:PySem.W.Frag}{nm nm':Str}{C C' P e dx:Addr}{fI:Option Addr}
theorem zuc(c:XK' K nm C P fI):PySem.W.KitX K (.ref e) (.ref C) (ExO e C dx) where
 ty:=λM h X p=>by
  obtain⟨vs,sl,h1⟩:=p;exact(PySem.W.Looks.ld h1).andThen .now
 it:=λM h X p=>by
  obtain⟨q,N,bs,sn,sub,ab,col,dd,k0,k1,k2,k3,k5,h1,h2⟩:=c.cl;intro A' Q' E' s' k q;unfold isType loadHead;exact aa (wpAny_loadPart (k _ _ (X _ _ h1)) (ia q))
 ne:=λh tp dd its n sl X htp=>by
  obtain⟨q,N,bs,sn,sub,ab,col,dd,k0,k1,k2,k3,k5,h1,h2⟩:=c.cl;refine ck.mpr λq=>?_
  have e:C=tp:=Value.ref.inj (om.mp q);subst e;rw[X _ _ h1]at htp
  have:=ef (λo=>o.map (·.data)) htp
  simp at this
 ca:=λ{prog w A E Q s} X p k=>by
  obtain⟨mN,mP,xc,hx,_,_⟩:=c.at_ s.heap X;obtain⟨vs,sl,h1⟩:=p;have g1:=hx "__getattribute__" (by simp[zc7]);have g2:=hx "__getattr__" (by simp[zc7]);have g3:=hx "__class__" (by simp[zc7]);obtain⟨hh,g,d,t,os⟩:=s;exact z98 xc g1.1 g1.2 g2.1 g2.2 g3.1 g3.2 h1 rfl k
theorem XK'.clsIn(c:XK' K nm C P fI):∃cd,PySem.W.clsIn K C=some cd/\cd.name=nm/\cd.mro=.ref C::.ref P::bmV:=by
 obtain⟨q,N,bs,sn,sub,ab,col,dd,k0,k1,k2,k3,k5,h1,h2⟩:=c.cl;exact⟨_,by unfold PySem.W.clsIn;rw[h1],rfl,rfl⟩
theorem XK'.parIn(c:XK' K nm C P fI):∃cd,PySem.W.clsIn K P=some cd/\cd.mro=.ref P::bmV:=by
 obtain⟨a1,a2,a3,a4,a5,a6,a7,a8,a9,b0,b1,b2,b3,b4,b5,h3,h4⟩:=c.pa;exact⟨_,by unfold PySem.W.clsIn;rw[h3],rfl⟩
theorem XK'.typ(c:XK' K nm C P fI):PySem.W.typeIn K (.ref C)=some (.type "type"):=by
 obtain⟨q,N,bs,sn,sub,ab,col,dd,k0,k1,k2,k3,k5,h1,h2⟩:=c.cl;show (K.lookup C).map (·.cls)=_;rw[h1];rfl
theorem zlh(c:XK' K nm C P fI)(v:Value):PySem.W.subIn K (.ref C) v=some ((Value.ref C::.ref P::bmV).contains v):=by
 obtain⟨cd,h1,_,h2⟩:=c.clsIn;show ((PySem.W.clsIn K C).bind λcd=>if cd.mro.isEmpty=true then none else some (cd.mro.contains v))=_;rw[h1];show (if cd.mro.isEmpty then none else some (cd.mro.contains v))=_;rw[h2];rfl
theorem z0e(h:ClP K nm C)(h':ClP K nm' C'):PySem.W.kitOne K (.ref C) (.ref C')=some (decide (nm=nm')):=by
 obtain⟨P,fI,c,p1,n1⟩:=h;obtain⟨P',fI',c',p2,n2⟩:=h';rw[p1]at p2;cases p2;unfold PySem.W.kitOne;by_cases en:nm=nm'
 ·subst en
  rw[n1]at n2;cases n2;rw[la (vn _),ib rfl]
 ·have hne:C≠C':=λz=>by
   subst z;obtain⟨cd,h1,h2,_⟩:=c.clsIn;obtain⟨cd',h3,h4,_⟩:=c'.clsIn;rw[h1]at h3;cases h3;exact en (h2.symm.trans h4)
  have hnp:C'≠P:=λz=>by
   subst z;obtain⟨cd,h1,h2⟩:=c.parIn;obtain⟨cd',h3,_,h4⟩:=c'.clsIn;rw[h1]at h3;cases h3;rw[h2]at h4
   have:=ef List.length h4
   simp at this
  rw[wa (by simp[hne]),jc en];unfold PySem.W.kitCls;obtain⟨cd',h3,_⟩:=c'.clsIn;dsimp only;rw[la (by rw[h3,c'.typ];rfl),zlh c]
  have:(Value.ref C::.ref P::bmV).contains (.ref C')=false:=by simp[hne.symm,hnp]
  rw[this]
theorem z0f(h:ClP K nm C):PySem.W.kitOne K (.ref C) (.type "ValueError")=some true:=by
 obtain⟨P,fI,c,p1,n1⟩:=h;unfold PySem.W.kitOne;rw[wa (by simp)];unfold PySem.W.kitCls;dsimp only;rw[la (by decide +kernel),zlh c];simp
theorem zud {P:Addr} (h:ClP K nm C) (hP:PySem.W.nsIn K mainGlobals "PageError" = some (some (.ref P))):PySem.W.kitOne K (.ref C) (.ref P)=some true:=by
 obtain⟨P',fI,c,p1,n1⟩:=h;rw[p1]at hP;cases hP;unfold PySem.W.kitOne;by_cases hne:C=P
 ·subst hne;rw[la (vn _)]
 ·rw[wa (by simp[hne])]
  unfold PySem.W.kitCls;obtain⟨cd',h3,_⟩:=c.parIn;obtain⟨a1,a2,a3,a4,a5,a6,a7,a8,a9,b0,b1,b2,b3,b4,b5,h5,h4⟩:=c.pa
  have ht:PySem.W.typeIn K (.ref P)=some (.type "type"):=by
   show (K.lookup P).map (·.cls)=_;rw[h5];rfl
  dsimp only;rw[la (by rw[h3,ht];rfl),zlh c];simp
theorem z0g(h:ClP K nm C):PySem.W.kitOne K (.type "NoneType") (.ref C)=some false:=by
 obtain⟨P,fI,c,p1,n1⟩:=h;unfold PySem.W.kitOne;rw[wa (by simp)];unfold PySem.W.kitCls;obtain⟨cd',h3,_⟩:=c.clsIn;dsimp only;rw[la (by rw[h3,c.typ];rfl)];unfold PySem.W.subIn
 have:PySem.fastBuiltinMro "NoneType" = some [.type "NoneType",.type "object"]:=by decide +kernel
 dsimp only;rw[this];simp
end
noncomputable def spE(K:PySem.W.Frag)(np:Nat)(G:List D->Option D):Sp:=λvs H _ E=>∃Hf ds n ks es,zax Hf H/\Dns K Hf ds vs/\ds.length=np/\G ds=some (.er n ks es)/\∀Hf' H' e dx,Ex Hf H Hf' H'->Dn K Hf' (.er n ks es) (.ref e)->E (.ref e) (some dx) H'
noncomputable def xV(K:PySem.W.Frag)(B:Bs)(W:XK)(g:Rho->Option D):TS:=λ_ σ H=>∃Hf ρ n ks es,VI K B Hf ρ σ H/\g ρ=some (.er n ks es)/\∀Hf' H' e dx,Ex B.f B.h Hf' H'->Dn K Hf' (.er n ks es) (.ref e)->W (.ref e) (some dx) H'
noncomputable def eX(K:PySem.W.Frag)(B:Bs)(W:XK)(g:Rho->Option D):TE:=λσ H _=>∃Hf ρ n ks es,VI K B Hf ρ σ H/\g ρ=some (.er n ks es)/\∀Hf' H' e dx,Ex B.f B.h Hf' H'->Dn K Hf' (.er n ks es) (.ref e)->W (.ref e) (some dx) H'
noncomputable def xNo:Rho->Option D:=λ_=>none
noncomputable def xRs(n:Str)(fl:List Str)(fr:Rho->Option (List D)):Rho->Option D:=λρ=>(fr ρ).bind λds=>if ds.length=fl.length then some (.er n fl ds) else none
noncomputable def xSq(f:Rho->Out)(gs gr:Rho->Option D):Rho->Option D:=λρ=>match gs ρ with
 |some d=>some d
 |none=>match f ρ with|.nx ρ'=>gr ρ'|_=>none
noncomputable def xIf(ft:Rho->Option Bool)(g1 g2:Rho->Option D):Rho->Option D:=λρ=>match ft ρ with|some true=>g1 ρ|some false=>g2 ρ|none=>none
noncomputable def zfj(g:D->Rho->Option Rho)(f:Rho->Out)(gx:Rho->Option D):List D->Rho->Option D
 |[],_=>none
 |d::r,ρ=>match g d ρ with
  |none=>none
  |some ρ1=>match gx ρ1 with
   |some z=>some z
   |none=>match f ρ1 with
    |.nx ρ2=>zfj g f gx r ρ2
    |.ct ρ2=>zfj g f gx r ρ2
    |_=>none
noncomputable def z45(fi:Rho->Option (List D))(g:D->Rho->Option Rho)(f:Rho->Out)(gx:Rho->Option D):Rho->Option D:=λρ=>match fi ρ with|some ds=>zfj g f gx ds ρ|none=>none
noncomputable def z0h(np:Nat)(G:List D->Option D)(fr:Rho->Option (List D)):Rho->Option D:=λρ=>(fr ρ).bind λds=>if ds.length=np then G ds else none
noncomputable def fnE(np n:Nat)(g:Rho->Option D)(ds:List D):Option D:=if ds.length=np then g (zdr n ds) else none
section
variable {X:Cx}{B:Bs}{W:XK}{st:Stmt}{rest sts:List Stmt}{tg e iter a:Expr}{as:List Expr}{f:Rho->Out}{g g1 g2 gs gr gx:Rho->Option D}{fr fi:Rho->Option (List D)}{ft:Rho->Option Bool}{pos p cp:Pos}{gt:D->Rho->Option Rho}{sl:List Nat}{x nm:Str}{fl:List Str}{k:Nat}{fI C P:Addr}{fd:FuncData}{ps:List Str}
theorem PS.or{t t':TS}(h:PS X st t)(h':PS X st t'):PS X st (λD σ H=>t D σ H\/t' D σ H):=λpins s σ H D I q=>q.elim (h pins s σ H D I) (h' pins s σ H D I)
theorem PSs.or{t t':TS}(h:PSs X sts t)(h':PSs X sts t'):PSs X sts (λD σ H=>t D σ H\/t' D σ H):=λpins s σ H D I q=>q.elim (h pins s σ H D I) (h' pins s σ H D I)
theorem yde:PS X st (xV X.K B W xNo):=λ_ _ _ _ _ _ ⟨_,_,_,_,_,_,h,_⟩=>nomatch h
theorem z46:PSs X sts (xV X.K B W xNo):=λ_ _ _ _ _ _ ⟨_,_,_,_,_,_,h,_⟩=>nomatch h
theorem ydf (hc:X.calm=true) (c:XK' X.K nm C P (some fI)) (hP:PySem.W.nsIn X.K mainGlobals "PageError" = some (some (.ref P))) (hCn:PySem.W.nsIn X.K mainGlobals nm=some (some (.ref C))) (hfn:∃o,X.K.lookup fI=some o/\o.cls=.type "function") (hkp:PySem.W.keepIn X.K (.ref C)=true)
  (F:FnOk X.prog X.w X.K X.mg X.base CX0 k fI fd ps (spI X.K nm fl)) (hr:Room (k+1) X.A) (hg:Gl X x) (hm:X.mg x=some (.ref C)) (hb:zch X.K fd ps []) (hxe:Xes X W) (hfl:fl.length<=10) (ha:PA X (a::as) (aV X.K B fr)) (hdb:(x == ("__debug__" : Str))=false:=by decide)
  (he:starEach (a::as) X.env=(false,eval a X.env)::starEach as X.env:=by rfl) (hpl:(backTo cp (starEach as X.env)).any (·.1)=false:=by rfl):PS X (.Raise (some (.Call (.Name x p) (a::as) [] cp)) none pos) (xV X.K B W (xRs nm fl fr)) :=
 (ztx hc c hP hCn hfn hkp F hr hg hm hb hxe hfl ha hdb he hpl).imp λD σ H ⟨Hf,ρ,n,ks,es,I,hg,q⟩=>by
  obtain⟨ds,hd,hz⟩:=bind_some hg
  split at hz
  ·rename_i hl
   cases hz;refine⟨Hf,ρ,es,I,hd,λHf1 H1 vs ex1 dvs=>?_⟩
   have hvl:vs.length=fl.length:=by rw[<-dvs.length];exact hl
   refine⟨hvl,λe dx C he hdx hne cl=>?_⟩;have e1:=Ex.new (o:=.ext (ExO e C dx)) ex1.fh he;have e2:=Ex.new (o:=.ext (XdO dx (fl.zip vs))) e1.fh (by rw[zad hne];exact hdx);obtain⟨k,dk⟩:=dvs.level;have m1:(fl.zip vs).map Prod.fst=fl:=List.map_fst_zip (by omega);have m2:(fl.zip vs).map Prod.snd=vs:=List.map_snd_zip (by omega);exact q _ _ e dx (I.ex.trans (ex1.trans (e1.trans e2))) ⟨k+1,e,C,dx,fl.zip vs,rfl,by rw[zad hne.symm,zac],cl,hne,zac,m1,by rw[m2];exact dk.zmap λ_ _ z=>zl9 (e1.trans e2).ff z⟩
  ·cases hz
theorem z47(h1:PS X st (sV X.K B f))(h1x:PS X st (xV X.K B W gs))(h2:PSs X rest (xV X.K B W gr)):PSs X (st::rest) (xV X.K B W (xSq f gs gr)):=(zbt (h1.or h1x) h2).imp λD σ H ⟨Hf,ρ,n,ks,es,I,hg,q⟩=>by
 unfold xSq at hg
 cases e:gs ρ with
 |some d=>rw[e]at hg;cases hg;exact .inr ⟨Hf,ρ,n,ks,es,I,e,q⟩
 |none =>
  rw[e]at hg;dsimp only at hg
  cases e2:f ρ with
  |nx ρ' =>
   rw[e2]at hg;exact .inl ⟨Hf,ρ,I,by rw[e2];exact λHf' σ' H' z I'=>⟨Hf',ρ',n,ks,es,I',hg,q⟩⟩
  |_=>rw[e2]at hg;cases hg
theorem zmq(h1x:PS X st (xV X.K B W gs)):PSs X (st::rest) (xV X.K B W gs):=(zbt h1x (z46 (B:=B) (W:=W))).imp λD σ H h=>h
theorem ydg{c:Expr}{as bs:List Stmt}(hc:PT X c (tV X.K B ft))(ha:PSs X as (xV X.K B W g1))(hb:PSs X bs (xV X.K B W g2)):PS X (.If c as bs pos) (xV X.K B W (xIf ft g1 g2)):=(z2x hc ha hb).imp λD σ H ⟨Hf,ρ,n,ks,es,I,hg,q⟩=>by
 unfold xIf at hg
 cases e:ft ρ with
 |none=>rw[e]at hg;cases hg
 |some b =>
  rw[e]at hg;refine⟨Hf,ρ,b,I,e,λHf1 H1 ex1=>?_⟩
  cases b with
  |true=>rw[la rfl];exact⟨Hf1,ρ,n,ks,es,I.ext ex1,hg,q⟩
  |false=>rw[wa ua];exact⟨Hf1,ρ,n,ks,es,I.ext ex1,hg,q⟩
theorem z99{body:List Stmt}(hp:PassesOwn (model X.prog X.w) X.A X.env X.xe)(hc:X.calm=true)(hi:PI X tg iter (iV X.K B fi))(hg:PG X tg (gV X.K B sl gt))(hb:PSs X body (sV X.K B f))(hbx:PSs X body (xV X.K B W gx))(hs:∀x,foldedSetIterable iter X.env x=pure x:=by intro _;rfl):PS X (.For tg iter body [] pos) (xV X.K B W (z45 fi gt f gx)):=(zlz hp hc hi hg (hb.or hbx) hs).imp λD σ H ⟨Hf,ρ,n,ks,es,I,q,w⟩=>by
 unfold z45 at q
 cases e:fi ρ with
 |none=>rw[e]at q;cases q
 |some ds =>
  rw[e]at q;refine⟨Hf,ρ,ds,I,e,λJ Hf1 H1 ex1 ok=>?_⟩;refine⟨λi m σ H=>m=ds.length - i/\i<=ds.length/\∃Hf2 ρ2,VI X.K B Hf2 ρ2 σ H/\zax Hf1 Hf2/\zfj gt f gx (ds.drop i) ρ2=some (.er n ks es),⟨ds.length,by simp,ud _,Hf1,ρ,I.ext ex1,zax.refl _,q⟩,?_⟩;rintro i m σ2 H2 ⟨rfl,hi,Hf2,ρ2,I2,s12,q⟩;have okk:=ok Hf2 H2 (s12.trans I2.fh) s12 I2.fh i;by_cases hlt:i<ds.length
  ·obtain⟨go,yld⟩:=okk.1 ds[i] (by simp[hlt])
   refine .inr ⟨go,λσ' H'=>∃Hf3 ρ3,VI X.K B Hf3 ρ3 σ' H'/\zax Hf1 Hf3/\zfj gt f gx (ds.drop (i+1)) ρ3=some (.er n ks es),λσ' H' z=>⟨ds.length - (i+1),by omega,rfl,hlt,z⟩,λx H3 y=>?_⟩;obtain⟨Hf3,ex3,dx⟩:=yld x H3 y;rw[se hlt]at q;unfold zfj at q
   cases hg:gt ds[i] ρ2 with
   |none=>rw[hg]at q;cases q
   |some ρ1 =>
    simp only[hg]at q;refine⟨Hf3,ρ2,_,ρ1,I2.ext ex3,dx,hg,λσ' I' _ _=>?_⟩
    cases hx:gx ρ1 with
    |some z=>simp only[hx]at q;cases q;exact .inr ⟨Hf3,ρ1,n,ks,es,I',hx,w⟩
    |none =>
     simp only[hx]at q;refine .inl ⟨Hf3,ρ1,I',?_⟩
     cases hf:f ρ1 with
     |nx ρ'=>simp only[hf]at q;exact λHf' σ'' H'' z I''=>⟨Hf',ρ',I'',(s12.trans ex3.ff).trans z,q⟩
     |ct ρ'=>simp only[hf]at q;exact λHf' σ'' H'' z I''=>⟨Hf',ρ',I'',(s12.trans ex3.ff).trans z,q⟩
     |bk ρ'=>simp only[hf]at q;cases q
     |rt d=>simp only[hf]at q;cases q
     |rw d=>simp only[hf]at q;cases q
     |bad=>simp only[hf]at q;cases q
  ·have e:i=ds.length:=by omega
   subst e;rw[ji]at q;cases q
theorem z0i{np:Nat}{G:List D->Option D}{f:Addr}(F:FnOk X.prog X.w X.K X.mg X.base (CX1 X.prog X.w) k f fd ps (spE X.K np G))(hr:Room k X.A)(hg:Gl X x)(hm:X.mg x=some (.ref f))(hk:PySem.W.keepIn X.K (.ref f)=true)(hb:zch X.K fd ps [])(hx:zi4 (CX1 X.prog X.w) X W)
  (ha:PA X (a::as) (aV X.K B fr)) (hdb:(x == ("__debug__" : Str))=false:=by decide) (he:starEach (a::as) X.env=(false,eval a X.env)::starEach as X.env:=by rfl) (hpl:(backTo pos (starEach as X.env)).any (·.1)=false:=by rfl):PE X (.Call (.Name x p) (a::as) [] pos) (eX X.K B W (z0h np G fr)) :=
 (zky F hr hg hm hk hb .nil hx ha hdb he hpl).imp λσ H Q ⟨Hf,ρ,n,ks,es,I,hz,q⟩=>by
  obtain⟨ds,hd,hz⟩:=bind_some hz
  split at hz
  ·rename_i hn
   refine⟨Hf,ρ,ds,I,hd,λHf1 H1 vs ex1 dvs=>?_⟩;show spE X.K np G (vs++[]) H1 Q W;rw[zb];exact⟨Hf1,ds,n,ks,es,ex1.fh,dvs,hn,hz,λHf' H' e dx ex dv=>q Hf' H' e dx (I.ex.trans (ex1.trans ex)) dv⟩
  ·cases hz
theorem z48(he:PE X e (eX X.K B W g))(hs:swapsWith e none pos.line X.env=pure false:=by rfl):PS X (.Expr e pos) (xV X.K B W g):=(zez he hs).imp λD σ H h=>h
end
section
variable {P:Program}{w:World}{K:PySem.W.Frag}{mg:Str->Option Value}{base:Heap}
theorem okE{x qual:Str}{st:Stmt}{f:Addr}{fd:FuncData}{N ps:List Str}{k:Nat}{gs:Rho->Option D}(F:Fun K x qual st f fd)(S:FnScope N ps (zae st))
  (hbody:∀(cdv:Value) (A:Around) (outer:List Env) (s:Shared) (H:Hp) (E:XK) (B:Bs),Room k (A.deeper (envOfC qual (zae st) s.heap.objs.size f cdv))->PSs ((zcy (CX1 P w) P w K mg base N qual (zae st) f cdv A outer s H E).wish (XeI (zcy (CX1 P w) P w K mg base N qual (zae st) f cdv A outer s H E) E)) (zby st) (xV K B E gs)):FnOk P w K mg base (CX1 P w) (k+1) f fd ps (spE K ps.length (fnE ps.length N.length gs)):=by
 refine F.okX S (λvs H Q E ⟨Hf,ds,n,ks,es,_,h1,h2,_⟩=>by rw[<-h2,h1.length]) λcdv A outer s H vs Q E hr ⟨Hf,ds,n,ks,es,hs,h1,h2,h3,q⟩=>?_
 refine⟨_,hbody cdv A outer s H E ⟨Hf,H⟩ hr,Hf,zdr N.length ds,n,ks,es,VI.init hs h1,?_,λHf' H' e dx ex dn=>q Hf' H' e dx ex dn⟩;unfold fnE at h3;rw[la h2]at h3;exact h3
end
noncomputable def z0j(ρ:Rho)(j:Nat):Bool:=match ρ[j]? with|some none=>true|_=>false
theorem zue{ρ:Rho}{j:Nat}(h:z0j ρ j=true):ρ[j]?=some none:=by
 unfold z0j at h
 split at h
 ·assumption
 ·cases h
noncomputable def zqm(i j np:Nat)(F G:List D->Option D)(fr:Rho->Option (List D)):Rho->Out:=λρ=>match fr ρ with
 | some ds=>if ds.length=np/\z0j ρ j=true/\i≠j then (match F ds with
  |some _=>.nx ρ
  |none=>match G ds with|some (.er n ks es)=>.nx (ρ.set i (some (.sh (.er n ks es))))|_=>.bad) else .bad
 |none=>.bad
theorem VI.gone{K:PySem.W.Frag}{B:Bs}{Hf H:Hp}{ρ:Rho}{σ:St}{i j:Nat}{d:D}{v:V}(I:VI K B Hf ρ σ H)(hj:ρ[j]?=some none)(hij:i≠j)(h:Dn K Hf d v):VI K B Hf (ρ.set i (some (.sh d))) (((σ.set j (some v)).set i (some v)).set j none) H:=by
 have I2:=I.set (i:=i) h
 have hne:∀{l:Nat} {sl:Sl},(ρ.set i (some (.sh d)))[l]?=some (some sl)->l≠j:=λ{l sl} e z=>by
  subst z;rw[na hij,hj]at e;cases e
 have eq:∀{l:Nat},l≠j->(((σ.set j (some v)).set i (some v)).set j none)[l]?=(σ.set i (some v))[l]?:=λ{l} hl=>by
  rw[na (rf hl)];by_cases hli:i=l
  ·subst hli
   simp[List.getElem?_set]
  ·rw[na hli,na hli,na (rf hl)]
 refine⟨I2.ex,by simpa using I2.len,λl sl e=>?_,λl sl p e o q=>?_,λl m sl sm p e1 e2 o1 o2 q1 q2=>?_⟩
 ·obtain⟨u,h1,h2⟩:=I2.ok l sl e
  exact⟨u,by rw[eq (hne e)];exact h1,h2⟩
 ·rw[eq (hne e)]at q;exact I2.own l sl p e o q
 ·rw[eq (hne e1)]at q1
  rw[eq (hne e2)]at q2;exact I2.dis l m sl sm p e1 e2 o1 o2 q1 q2
theorem yaa{K:PySem.W.Frag}{Hf H:Hp}{n:Str}{ks:List Str}{es:List D}{e:Addr}(s:zax Hf H)(h:Dn K Hf (.er n ks es) (.ref e)):∃C dx,H e=some (.ext (ExO e C dx))/\ClP K n C:=by
 obtain⟨k,h⟩:=h
 cases k with
 |zero=>exact h.elim
 |succ k =>
  obtain⟨e',C,dx,fs,e1,h2,h3,_⟩:=h;cases e1;exact⟨C,dx,s _ _ h2,h3⟩
section
variable {X:Cx}{B:Bs}{k:Nat}{f:Addr}{fd:FuncData}{ps:List Str}{F G:List D->Option D}{np:Nat}{fr:Rho->Option (List D)}
variable {fx n told:Str}{i j:Nat}{p cp ep pos np' pt pn pa hp:Pos}{a:Expr}{as:List Expr}
theorem yab{D:Ends}{σ:St}{H:Hp}{g:V->St->St}{gρ:L2.D->Rho->Rho}{Hf:Hp}{ρ:Rho}{ds:List L2.D}(I:VI X.K B Hf ρ σ H)(e:fr ρ=some ds)(hn:ds.length=np)(hj:ρ[j]?=some none)(hij:i≠j)(hg:∀Hf' H' d v,VI X.K B Hf' ρ σ H'->Dn X.K Hf' d v->VI X.K B Hf' (gρ d ρ) (g v σ) H')
  (q:(∃d,F ds=some d/\zep X.K B Hf (.nx (gρ d ρ)) D)\/(F ds=none/\∃n ks es,G ds=some (.er n ks es)/\zep X.K B Hf (.nx (ρ.set i (some (.sh (.er n ks es))))) D)):z96 X.K (spV X.K np F) (spE X.K np G) i j g (aV X.K B fr) D σ H:=by
 refine⟨Hf,ρ,ds,I,e,λHf1 H1 vs ex1 dvs=>?_⟩;rcases q with⟨d,hd,q⟩|⟨_,n,ks,es,hG,q⟩
 ·exact .inl ⟨Hf1,ds,d,ex1.fh,dvs,hn,hd,λHf' H' v ex dv=>q Hf' _ H' (ex1.ff.trans ex.ff) (hg Hf' H' d v ((I.ext ex1).ext ex) dv)⟩
 ·refine .inr ⟨Hf1,ds,n,ks,es,ex1.fh,dvs,hn,hG,λHf' H' e dx ex dv=>?_⟩
  obtain⟨C,dx',h1,h2⟩:=yaa ex.fh dv;exact⟨e,n,C,dx',rfl,h1,h2,q Hf' _ H' (ex1.ff.trans ex.ff) (((I.ext ex1).ext ex).gone hj hij dv)⟩
theorem z49 (F0:FnOk X.prog X.w X.K X.mg X.base CX0 k f fd ps (spV X.K np F)) (F1:FnOk X.prog X.w X.K X.mg X.base (CX1 X.prog X.w) k f fd ps (spE X.K np G)) (hr:Room k X.A) (hg:Gl X fx) (hm:X.mg fx=some (.ref f)) (hk:PySem.W.keepIn X.K (.ref f)=true) (hb:zch X.K fd ps []) (hgP:Gl X "PageError")
  (hst:X.stack=X.env::X.outer/\X.env.frame=some X.env.locals) (hN:X.N.Nodup) (hi:X.N[i]?=some told) (hj:X.N[j]?=some n) (hl:X.env.scope.names.lookup told=some .local) (hln:X.env.scope.names.lookup n=some .local) (ha:∀Ec,PA (X.wish Ec) (a::as) (aV X.K B fr))
  (hdb:(fx == ("__debug__" : Str))=false:=by decide) (he:starEach (a::as) X.env=(false,eval a X.env)::starEach as X.env:=by rfl) (hpl:(backTo cp (starEach as X.env)).any (·.1)=false:=by rfl) (hd:(n == ("__debug__" : Str))=false:=by decide) (hcd:(n == ("__classdict__" : Str))=false:=by decide)
  (hsw:swapsWith (.Name n pn) (some (.Name told pt)) pa.line X.env=pure false:=by rfl) (hse:swapsWith (.Call (.Name fx p) (a::as) [] cp) none ep.line X.env=pure false:=by rfl) :
  PS X (.Try [.Expr (.Call (.Name fx p) (a::as) [] cp) ep] [.ExceptHandler (some (.Name "PageError" np')) (some n) [.Assign [.Name told pt] (.Name n pn) pa] hp] [] [] pos) (sV X.K B (zqm i j np F G fr)) :=
 (z0b F0 F1 hr hg hm hk hb hgP hst hN hi hj hl hln ha hdb he hpl hd hcd hsw hse).imp λD σ H ⟨Hf,ρ,I,q⟩=>by
  unfold zqm at q
  cases e:fr ρ with
  |none=>rw[e]at q;exact q.elim
  |some ds =>
   rw[e]at q;dsimp only at q
   split at q
   ·rename_i hc
    refine yab (gρ:=λ_ ρ=>ρ) I e hc.1 (zue hc.2.1) hc.2.2 (λ_ _ _ _ z _=>z) ?_
    cases e2:F ds with
    |some d=>rw[e2]at q;exact .inl ⟨d,rfl,q⟩
    |none =>
     rw[e2]at q;refine .inr ⟨rfl,?_⟩;dsimp only at q
     split at q
     ·rename_i n ks es e3;exact⟨n,ks,es,e3,q⟩
     ·exact q.elim
   ·exact q.elim
end
noncomputable def gAt(f:Str)(d:D):Option D:=match d with
 |.er _ ks ds=>(ks.zip ds).lookup f
 |_=>none
noncomputable def zkr(n:Str)(d:D):Option D:=match d with
 |.er m _ _=>some (.bl (decide (m=n)))
 |.sc .non=>some (.bl false)
 |_=>none
noncomputable def yac(d:D):Option D:=match d with
 |.er _ _ _=>some (.bl true)
 |.sc .non=>some (.bl false)
 |_=>none
theorem zeq{K:PySem.W.Frag}{H:Hp}{k:Nat}{f:Str}{d:D}:∀{ks:List Str}{ds:List D}{fs:List (Str×V)},fs.map Prod.fst=ks->Paired (zlb K H k) ds (fs.map Prod.snd)->(ks.zip ds).lookup f=some d->∃v,fs.lookup f=some v/\zlb K H k d v
 |[],ds,fs,h1,h2,h3=>by simp at h3
 |kk::ks,ds,[],h1,h2,h3=>by cases h1
 |kk::ks,ds,(a,v)::fs,h1,h2,h3=>by
  rw[da]at h1 h2
  cases h2 with
  |cons p1 p2 =>
   rename_i d0 r;obtain⟨e1,e2⟩:=uk h1;have e1:a=kk:=e1;subst e1;rw[vg,ae]at h3;rw[ae]
   cases e:(f == a) with
   |true=>rw[e]at h3;cases h3;exact⟨v,rfl,p1⟩
   |false=>rw[e]at h3;exact zeq e2 p2 h3
section
variable {X:Cx}{B:Bs}{a e:Expr}{fa:Rho->Option D}{pos p p':Pos}
theorem z2i{f:Str}(hf:f∈zco)(he:PE X e (eV X.K B fa))(hb:attributeBase e f X.env (eval e X.env)=eval e X.env:=by rfl):PE X (.Attribute e f pos) (eV X.K B (e1 (gAt f) fa)):=by
 intro pins s σ H Q I ⟨Hf,ρ,z,vi,hz,q⟩;obtain⟨d,hd,hz⟩:=bind_some hz;unfold gAt at hz
 split at hz
 ·rename_i n ks ds
  refine zyj hb (thn (he pins s σ H (λv H1=>∃Hf1,Ex Hf H Hf1 H1/\Dn X.K Hf1 (.er n ks ds) v) I ⟨Hf,ρ,_,vi,hd,λHf1 H1 v ex dv=>⟨Hf1,ex,dv⟩⟩) λu s1 ⟨v,H1,I1,rv,Hf1,ex,k,dv⟩=>?_)
  cases k with
  |zero=>exact dv.elim
  |succ k =>
   obtain⟨e',C,dx,fs,e1,h2,⟨P,fI,c,_⟩,h4,h5,h6,h7⟩:=dv;subst e1;obtain rfl:u=Value.ref e':=rv;obtain⟨w,hw,dw⟩:=zeq h6 h7 hz;exact zzl I1 c hf (ex.fh _ _ h2) (ex.fh _ _ h5) h4 hw λu' s2 I2 ru=>⟨w,H1,I2,ru,q Hf1 H1 w ex ⟨k,dw⟩⟩
 ·cases hz
def ydh(K:PySem.W.Frag):List V->Hp->VK->Prop:=λxs H Q=>∃x c u b,xs=[x,c]/\za7 c u/\((∃e C dx nm P fI,x=.ref e/\H e=some (.ext (ExO e C dx))/\XK' K nm C P fI/\PySem.W.kitOne K (.ref C) u=some b)\/(x=.non/\PySem.W.kitOne K (.type "NoneType") u=some b))/\(c=.ty "ValueError" \/ ∃a,c=.ref a)/\Q (.bl b) H
theorem zib:zb6 X (.builtin "isinstance") (ydh X.K):=by
 intro pins s σ H vs us Q I rv h;obtain⟨x,c,uc,b,rfl,rc,ty,hc,q⟩:=h;obtain⟨u,w',rfl,r1,r2⟩:=zs6 rv
 have ew:w'=uc:=by
  rcases hc with rfl|⟨a,rfl⟩
  ·cases rc;cases r2;rfl
  ·cases rc;cases r2;rfl
 subst ew;rcases ty with⟨e,C,dx,nm,P,fI,rfl,h1,h2,h3⟩|⟨rfl,h3⟩
 ·cases r1
  exact PySem.W.kia_one (zuc h2) I.kIn (I.hok.ext h1) h3 (λz=>nomatch z) λtk=>⟨.bl b,H,I.tok _,rfl,q⟩
 ·cases r1
  exact PySem.W.kia_one PySem.W.kitx_none I.kIn jg h3 (λz=>nomatch z) λtk=>⟨.bl b,H,I.tok _,rfl,q⟩
theorem zw2 {C:Addr}{x:Str} (hg:Gl X x) (hm:X.mg x=some (.ref C)) (hdb:(x == ("__debug__" : Str))=false:=by decide):PE X (.Name x p) (λ_ H Q=>Q (.ref C) H):=λpins s σ H Q I h=>zey I hg hm ⟨.ref C,H,I,rfl,h⟩ hdb
theorem zg1 {C:Addr}{n:Str} (cl:ClP X.K n C) (hg:Gl X "isinstance") (hm:X.mg "isinstance" = none) (hgn:Gl X n) (hmn:X.mg n=some (.ref C)) (ha:PE X a (eV X.K B fa)) (hdb:(n == ("__debug__" : Str))=false:=by decide)
  (hs1:starEach [a,.Name n p'] X.env=(false,eval a X.env)::starEach [.Name n p'] X.env:=by rfl) (hs2:starEach [.Name n p'] X.env=[(false,eval (.Name n p') X.env)]:=by rfl) (hpl:(backTo pos (starEach [.Name n p'] X.env)).any (·.1)=false:=by rfl):PE X (.Call (.Name "isinstance" p) [a,.Name n p'] [] pos) (eV X.K B (e1 (zkr n) fa)) :=
 (zdm zib hg hm zcd (zbp ha (zbp (zw2 hgn hmn hdb) zc5 hs2) hs1) (by decide) (by decide) hs1 hpl).imp λσ H Q ⟨Hf,ρ,z,I,hz,q⟩=>by
  obtain⟨d,hd,hz⟩:=bind_some hz;unfold zkr at hz
  split at hz
  ·rename_i m ks ds
   cases hz;refine⟨Hf,ρ,_,I,hd,λHf1 H1 v ex1 ⟨k,dv⟩=>?_⟩
   cases k with
   |zero=>exact dv.elim
   |succ k =>
    obtain⟨e',C',dx,fs,rfl,h2,h3,_⟩:=dv;obtain⟨P,fI,c,_⟩:=id h3;exact⟨_,.ref C,.ref C,_,rfl,rfl,.inl ⟨e',C',dx,m,P,fI,rfl,ex1.fh _ _ h2,c,z0e h3 cl⟩,.inr ⟨C,rfl⟩,q Hf1 H1 _ ex1 (zav rfl)⟩
  ·cases hz
   refine⟨Hf,ρ,_,I,hd,λHf1 H1 v ex1 dv=>?_⟩;rw[dv.sc.2];exact⟨_,.ref C,.ref C,_,rfl,rfl,.inr ⟨rfl,z0g cl⟩,.inr ⟨C,rfl⟩,q Hf1 H1 _ ex1 (zav rfl)⟩
  ·cases hz
theorem yad {C:Addr} (hg:Gl X "isinstance") (hm:X.mg "isinstance" = none) (ht:PE X (.Name "ValueError" p') (tC (.ty "ValueError"))) (ha:PE X a (eV X.K B fa))
  (hs1:starEach [a,.Name "ValueError" p'] X.env=(false,eval a X.env)::starEach [.Name "ValueError" p'] X.env:=by rfl) (hs2:starEach [.Name "ValueError" p'] X.env=[(false,eval (.Name "ValueError" p') X.env)]:=by rfl) (hpl:(backTo pos (starEach [.Name "ValueError" p'] X.env)).any (·.1)=false:=by rfl):PE X (.Call (.Name "isinstance" p) [a,.Name "ValueError" p'] [] pos) (eV X.K B (e1 yac fa)) :=
 (zdm zib hg hm zcd (zbp ha (zbp ht zc5 hs2) hs1) (by decide) (by decide) hs1 hpl).imp λσ H Q ⟨Hf,ρ,z,I,hz,q⟩=>by
  obtain⟨d,hd,hz⟩:=bind_some hz;unfold yac at hz
  split at hz
  ·rename_i m ks ds
   cases hz;refine⟨Hf,ρ,_,I,hd,λHf1 H1 v ex1 ⟨k,dv⟩=>?_⟩
   cases k with
   |zero=>exact dv.elim
   |succ k =>
    obtain⟨e',C',dx,fs,rfl,h2,h3,_⟩:=dv;obtain⟨P,fI,c,_⟩:=id h3;exact⟨_,.ty "ValueError",.type "ValueError",_,rfl,rfl,.inl ⟨e',C',dx,m,P,fI,rfl,ex1.fh _ _ h2,c,z0f h3⟩,.inl rfl,q Hf1 H1 _ ex1 (zav rfl)⟩
  ·cases hz
   refine⟨Hf,ρ,_,I,hd,λHf1 H1 v ex1 dv=>?_⟩;rw[dv.sc.2];exact⟨_,.ty "ValueError",.type "ValueError",_,rfl,rfl,.inr ⟨rfl,by rfl⟩,.inl rfl,q Hf1 H1 _ ex1 (zav rfl)⟩
  ·cases hz
end
noncomputable def nsL(l:List DictEntry)(n:Str):Option Value:=(l.find? λe=>e.key.isStr n).map (·.val)
theorem zw3(es:Array DictEntry)(n:Str):nsFind es n=nsL es.toList n:=by unfold nsFind findBy nsL;rw[<-Array.find?_toList]
noncomputable def nsB(K:PySem.W.Frag)(N:Addr)(ini:Option Value):Bool:=match K.lookup N with
 |some ⟨_,_,.dict es _,_⟩=>es.toList.all (λe=>match e.key with|.str _ _=>true|_=>false) && (zc7.all λn=>(nsL es.toList n).isNone) && (nsL es.toList "__init__" == ini)
 |_=>false
theorem zw4{K:PySem.W.Frag}{N:Addr}{ini:Option Value}(h:nsB K N ini=true):NsK K N ini:=by
 unfold nsB at h
 split at h
 ·rename_i c d es ep sl hl
  simp only[ub]at h;obtain⟨⟨h1,h2⟩,h3⟩:=h;refine⟨c,d,es,ep,sl,hl,λe he=>?_,λn hn=>?_,by rw[zw3];exact om.mp h3⟩
  ·have hx:=df.mp h1 e (yk.mpr he)
   cases hk:e.key <;> rw[hk]at hx <;> first|exact⟨_,_,rfl⟩|cases hx
  ·rw[zw3];exact Option.isNone_iff_eq_none.mp (df.mp h2 n hn)
 ·cases h
noncomputable def cdB(o:Obj)(mro:List Value):Option ClassData:=match o.data with
 |.cls cd=>if (o.cls == .type "type")=true/\(cd.mro == mro)=true/\cd.hasDel=false/\o.slots.size=6/\(o.slots[4]? == some (some (.builtin "ValueError.__new__")))=true then some cd else none
 |_=>none
theorem zw5{o:Obj}{C:Addr}{bm:List Value}{cd:ClassData}(h:cdB o (.ref C::bm)=some cd):∃q bs sn sub ab col dd k0 k1 k2 k3 k5,o=excClassObj cd.name q C cd.ns bs bm cd.hasDict sn sub ab col dd k0 k1 k2 k3 k5 "ValueError.__new__":=by
 unfold cdB at h;obtain⟨oc,od,odt,⟨l⟩⟩:=o;dsimp only at h
 split at h
 ·split at h
  ·rename_i hc
   cases h;obtain⟨c1,c2,c3,c4,c5⟩:=hc
   obtain⟨k0,k1,k2,k3,k5,rfl⟩:=six_places (l:=l) (by simpa using c4) (by simpa using om.mp c5);obtain rfl:oc=.type "type":=om.mp c1;obtain⟨nm,bs,mro,N,q,hdct,sn,sub,ab,col,hdel⟩:=cd;obtain rfl:mro=.ref C::bm:=om.mp c2;obtain rfl:hdel=false:=c3;exact⟨q,bs,sn,sub,ab,col,od,k0,k1,k2,k3,k5,rfl⟩
  ·cases h
 ·cases h
noncomputable def xcB(K:PySem.W.Frag)(nm:Str)(C P:Addr)(fI:Option Addr):Bool :=
 (match (K.lookup C).bind λo=>cdB o (.ref C::.ref P::bmV) with|some cd=>(cd.name == nm) && cd.hasDict && nsB K cd.ns (fI.map Value.ref)|none=>false) &&
 (match (K.lookup P).bind λo=>cdB o (.ref P::bmV) with|some cd=>nsB K cd.ns none|none=>false)
theorem zer{K:PySem.W.Frag}{nm:Str}{C P:Addr}{fI:Option Addr}(h:xcB K nm C P fI=true):XK' K nm C P fI:=by
 unfold xcB at h;rw[ub]at h;obtain⟨h1,h2⟩:=h;refine⟨?_,?_⟩
 ·split at h1
  ·rename_i cd e
   obtain⟨o,ho,e⟩:=bind_some e;simp only[ub]at h1;obtain⟨⟨n1,n2⟩,n3⟩:=h1;obtain⟨q,bs,sn,sub,ab,col,dd,k0,k1,k2,k3,k5,rfl⟩:=zw5 e;refine⟨q,cd.ns,bs,sn,sub,ab,col,dd,k0,k1,k2,k3,k5,?_,zw4 n3⟩;rw[ho,n2,om.mp n1]
  ·cases h1
 ·split at h2
  ·rename_i cd e
   obtain⟨o,ho,e⟩:=bind_some e;obtain⟨q,bs,sn,sub,ab,col,dd,k0,k1,k2,k3,k5,rfl⟩:=zw5 e;exact⟨cd.name,q,cd.ns,bs,cd.hasDict,sn,sub,ab,col,dd,k0,k1,k2,k3,k5,ho,zw4 h2⟩
  ·cases h2
theorem z0k{f g:Rho->Out}{ρ ρ':Rho}(h:f ρ=.nx ρ'):zaw f g ρ=g ρ':=by unfold zaw;rw[h]
theorem st{f g:Rho->Out}{ρ ρ':Rho}{o:Out}(h:f ρ=.nx ρ')(k:g ρ'=o):zaw f g ρ=o:=(z0k h).trans k
theorem zqn{f g:Rho->Out}{ρ:Rho}{d:D}(h:f ρ=.rt d):zaw f g ρ=.rt d:=by unfold zaw;rw[h]
theorem zqo{ft:Rho->Option Bool}{f g:Rho->Out}{ρ:Rho}(h:ft ρ=some true):sIf ft f g ρ=f ρ:=by unfold sIf;rw[h]
theorem zes{ft:Rho->Option Bool}{f g:Rho->Out}{ρ:Rho}(h:ft ρ=some false):sIf ft f g ρ=g ρ:=by unfold sIf;rw[h]
theorem zap{i:Nat}{fe:Rho->Option D}{ρ:Rho}{d:D}(h:fe ρ=some d):zbn i fe ρ=.nx (ρ.set i (some (.sh d))):=by unfold zbn;rw[h]
theorem z0l{i:Nat}{fe:Rho->Option (List D)}{ρ:Rho}{d:List D}(h:fe ρ=some d):zfm i fe ρ=.nx (ρ.set i (some (.ow d))):=by unfold zfm;rw[h]
theorem za4{fe:Rho->Option D}{ρ:Rho}{d:D}(h:fe ρ=some d):zb7 fe ρ=.rt d:=by unfold zb7;rw[h]
theorem zb3{fi:Rho->Option (List D)}{g:D->Rho->Option Rho}{f:Rho->Out}{ρ:Rho}{ds:List D}{o:Out}(h:fi ρ=some ds)(h2:zew g f ds ρ=o):zdz fi g f ρ=o:=by unfold zdz;rw[h];exact h2
theorem zbf{np n:Nat}{f:Rho->Out}{ds:List D}{d:D}(hl:ds.length=np)(h:f (zdr n ds)=.rt d):fnR np n f ds=some d:=by unfold fnR;rw[la hl,h]
theorem zw6{np n:Nat}{f:Rho->Out}{ds:List D}{d:List D}(hl:ds.length=np)(h:f (zdr n ds)=.rw d):fnW np n f ds=some d:=by unfold fnW;rw[la hl,h]
theorem zaf{g:D->D->Option D}{fa fb:Rho->Option D}{ρ:Rho}{d e z:D}(ha:fa ρ=some d)(hb:fb ρ=some e)(hg:g d e=some z):e2 g fa fb ρ=some z:=by unfold e2;rw[ha,hb];exact hg
theorem za1{g:List D->Option D}{fr:Rho->Option (List D)}{ρ:Rho}{ds:List D}{z:D}(ha:fr ρ=some ds)(hg:g ds=some z):eN g fr ρ=some z:=by unfold eN;rw[ha];exact hg
theorem zam{np:Nat}{F:List D->Option D}{fr:Rho->Option (List D)}{ρ:Rho}{ds:List D}{z:D}(ha:fr ρ=some ds)(hn:ds.length=np)(hF:F ds=some z):zao np F fr ρ=some z:=by unfold zao;rw[ha];show (if ds.length=np then F ds else none)=_;rw[la hn];exact hF
theorem zuf{g:List D->Option (List D)}{fr:Rho->Option (List D)}{ρ:Rho}{ds xs:List D}(ha:fr ρ=some ds)(hg:g ds=some xs):iR g fr ρ=some xs:=by unfold iR;rw[ha];exact hg
theorem zqp{fa:Rho->Option D}{ρ:Rho}{d:D}{xs:List D}(ha:fa ρ=some d)(hg:itD d=some xs):iE fa ρ=some xs:=by unfold iE;rw[ha];exact hg
theorem zg2{f:Rho->Option (List D)}{ρ:Rho}{xs:List D}(ha:f ρ=some xs):eL f ρ=some (.lst xs):=by unfold eL;rw[ha];rfl
theorem zfn{n:Nat}{cap:List Nat}{fi:Rho->Option (List D)}{g:D->Rho->Option Rho}{tt:Rho->Option Bool}{te:Rho->Option D}{ρ:Rho}{ds rs:List D}(hi:fi ρ=some ds)(hl:ds.length<=sizeLine)(hc:zd6 g tt te (zc2 n cap ρ) ds=some rs):zcf n cap fi g tt te ρ=some rs:=by unfold zcf;rw[hi];show (if ds.length<=sizeLine then _ else _)=_;rw[la hl];exact hc
theorem z5a{T:String}{g:D->List D->Option D}{fo:Rho->Option D}{fr:Rho->Option (List D)}{ρ:Rho}{d z:D}{ds:List D}(h1:fo ρ=some d)(h2:fr ρ=some ds)(h3:tyN d=T)(h4:g d ds=some z):eM T g fo fr ρ=some z:=by unfold eM;rw[h1,h2];show (if tyN d=T then g d ds else none)=_;rw[la h3];exact h4
theorem zff{d e:D}{b:Bool}(h:gEq d e=some b):zdh d e=some (.bl b):=by unfold zdh;rw[h];rfl
theorem zai{fa:Rho->Option D}{fr:Rho->Option (List D)}{ρ:Rho}{d:D}{ds:List D}(h1:fa ρ=some d)(h2:fr ρ=some ds):aC fa fr ρ=some (d::ds):=by unfold aC;rw[h1,h2];rfl
theorem z5b{fa fb:Rho->Option Bool}{ρ:Rho}(h:fa ρ=some true):bOr fa fb ρ=some true:=by unfold bOr;rw[h];rfl
theorem zqq{fa fb:Rho->Option Bool}{ρ:Rho}{b:Bool}(h:fa ρ=some false)(h2:fb ρ=some b):bOr fa fb ρ=some b:=by unfold bOr;rw[h];exact h2
theorem zqr{fa fb:Rho->Option Bool}{ρ:Rho}(h:fa ρ=some false):zed fa fb ρ=some false:=by unfold zed;rw[h];rfl
theorem zhk{fa fb:Rho->Option Bool}{ρ:Rho}{b:Bool}(h:fa ρ=some true)(h2:fb ρ=some b):zed fa fb ρ=some b:=by unfold zed;rw[h];exact h2
theorem zdi{fa:Rho->Option Bool}{ρ:Rho}{b:Bool}(h:fa ρ=some b):zc9 fa ρ=some (!b):=by unfold zc9;rw[h];rfl
theorem zug{fa:Rho->Option Bool}{ρ:Rho}{b:Bool}(h:fa ρ=some b):eT fa ρ=some (.bl b):=by unfold eT;rw[h];rfl
theorem zb8{fa:Rho->Option D}{ρ:Rho}{b:Bool}(h:fa ρ=some (.bl b)):tE fa ρ=some b:=by unfold tE;rw[h];rfl
theorem zfo{α:Type}(enc:α->D){g:D->Rho->Option Rho}{f:Rho->Out}(R:List α->Rho->Prop)(xs:List α)(ρ:Rho)(h:∀pre x post ρ,xs=pre++x::post->R pre ρ->∃ρ1 ρ2,g (enc x) ρ=some ρ1/\(f ρ1=.nx ρ2\/f ρ1=.ct ρ2)/\R (pre++[x]) ρ2)(h0:R [] ρ):∃ρ',zew g f (xs.map enc) ρ=.nx ρ'/\R xs ρ':=by
 have key:∀(post pre:List α) (ρ:Rho),xs=pre++post->R pre ρ->∃ρ',zew g f (post.map enc) ρ=.nx ρ'/\R xs ρ':=by
  intro post
  induction post with
  |nil=>intro pre ρ e hr;rw[zb]at e;subst e;exact⟨ρ,rfl,hr⟩
  |cons x r ih =>
   intro pre ρ e hr;obtain⟨ρ1,ρ2,h1,h2,h3⟩:=h pre x r ρ e hr;obtain⟨ρ',e2,q⟩:=ih (pre++[x]) ρ2 (by rw[e];simp) h3;refine⟨ρ',?_,q⟩;rw[da,zew,h1];rcases h2 with h2|h2
   ·simp only[h2];exact e2
   ·simp only[h2];exact e2
 exact key xs [] ρ rfl h0
theorem zga{α:Type}(enc:α->D){g:D->Rho->Option Rho}{tt:Rho->Option Bool}{te:Rho->Option D}{ρ:Rho}(p:α->Bool)(k:α->D):∀(xs:List α),(∀x∈xs,∃ρ1,g (enc x) ρ=some ρ1/\tt ρ1=some (p x)/\(p x=true->te ρ1=some (k x)))->zd6 g tt te ρ (xs.map enc)=some ((xs.filter p).map k)
 |[],_=>rfl
 |x::r,h=>by
  obtain⟨ρ1,h1,h2,h3⟩:=h x (by simp);have ih:=zga enc p k r λy hy=>h y (by simp[hy])
  rw[da,zd6,h1,za,h2,za,ih]
  cases hp:p x with
  |true=>rw[la rfl,h3 hp,List.filter_cons_of_pos hp];rfl
  |false=>rw[wa ua,List.filter_cons_of_neg (by simp[hp])]
theorem zet{α:Type}(enc:α->D){g:D->Rho->Option Rho}{tt:Rho->Option Bool}{te:Rho->Option D}{ρ:Rho}(k:α->D)(xs:List α)(h:∀x∈xs,∃ρ1,g (enc x) ρ=some ρ1/\tt ρ1=some true/\te ρ1=some (k x)):zd6 g tt te ρ (xs.map enc)=some (xs.map k):=by
 rw[zga enc (λ_=>true) k xs λx hx=>let ⟨ρ1,h1,h2,h3⟩:=h x hx;⟨ρ1,h1,h2,λ_=>h3⟩]
 congr 1
 congr 1
 exact List.filter_eq_self.mpr λ_ _=>rfl
theorem ydi(l:List Nat):itD (.sc (.str (S l)))=some (l.map λc=>.str [c]):=rfl
theorem ze8(l m:List Nat)(h:l.length+m.length<=sizeLine):zbm (.sc (.str (S l))) (.sc (.str (S m)))=some (.str (l++m)):=by
 unfold zbm;dsimp only;rw[la (by rw[zfi,zfi];exact h),zy8]
theorem yae(c:Nat)(l:List Nat):gIn (.sc (.str (S [c]))) (.sc (.str (S l)))=some (decide (c∈l)):=by
 unfold gIn;dsimp only;rw[zjl]
theorem z0m(c:Nat)(l:List Nat)(h:c∈l):zjt (.sc (.str (S l))) [.sc (.str (S [c]))]=some (.int (zcs c l)):=by
 obtain⟨r,e⟩:=zpq l c 1 (va _) h;unfold zjt;dsimp only;rw[e];rfl
theorem zw7(c:Nat)(l:List Nat)(h:l.length<=sizeLine):zcu (.sc (.str (S l))) [.sc (.str (S [c]))]=some (.tup (zn7 c l)):=by
 unfold zcu;dsimp only[za9];rw[la (by rw[zfi];exact h)]
theorem z5c(l:List Nat)(j:Nat)(h:l.length<=sizeLine):gSl (.sc (.str (S l))) none (some (j:Int))=some (.str (l.take j)):=by
 unfold gSl;dsimp only;rw[la (by rw[zfi];exact h),ztn]
theorem zuh(l:List Nat)(i:Nat)(h:l.length<=sizeLine)(hi:i<=l.length):gSl (.sc (.str (S l))) (some (i:Int)) none=some (.str (l.drop i)):=by
 unfold gSl;dsimp only;rw[la (by rw[zfi];exact h),zn3 _ _ hi]
theorem zmr:∀(ls:List (List Nat)),zhi (ls.map D.str)=some (ls.map S)
 |[]=>rfl
 |x::r=>by
  show (zhi (r.map D.str)).map (S x::·)=_;rw[zmr r];rfl
theorem z0n(sep:List Nat)(ls:List (List Nat))(h:(ls.map List.length).sum+ls.length * sep.length<=16777216):zqd (.sc (.str (S sep))) [.lst (ls.map D.str)]=some (.str (zk6 sep ls)):=by
 unfold zqd;dsimp only;rw[zmr,za,la,z32];rw[zd];have e:(λx:Str=>x.length) ∘ S=List.length:=by funext l;exact zfi l
 show (ls.map ((λx:Str=>x.length) ∘ S)).sum+_<=_;rw[e,ba,zfi];exact h
theorem z5d{c:Str->Bool}{f:Str->V}{z:Str}(h:c z=true):gM0 c f (.sc (.str z)) []=some (.sc (f z)):=la h
theorem zms{l:List Nat}(h:∀c∈l,c<128)(hl:l.length<=sizeLine):zeo (.sc (.str (S l))) []=some (.str (l.map lo1)):=by
 have e:=z5d (c:=λ z=>!Builtin.Str.tooLong (Txt.lower z).length) (f:=λ z=>V.str (Txt.lower z)) (z:=S l) (by
  show (!Builtin.Str.tooLong (Txt.lower (S l)).length)=true;rw[zpr h,zfi,ba];unfold Builtin.Str.tooLong;simp;exact hl)
 unfold zeo;rw[e];show some (D.sc (V.str (Txt.lower (S l))))=_;rw[zpr h]
theorem zmt(c:Nat):zdp (.sc (.str (S [c]))) []=some (.bl (Txt.isalnum (S [c]))):=rfl
theorem zqs:∀c:_root_.Fin 128,Txt.isalnum (S [c.val])=decide (c.val∈LF):=by decide +kernel
theorem zmu{c:Nat}(h:c<128):Txt.isalnum (S [c])=decide (c∈LF):=zqs ⟨c,h⟩
theorem zcc{i j:Int}(h:0<j/\j<1073741824):zcq (.int i) (.int j)=some (.int (i / j)):=by
 unfold zcq zf7;exact la (ib h)
theorem zbk{i j:Int}(h:0<j):zb5 (.int i) (.int j)=some (.int (i % j)):=by
 unfold zb5 zf7;exact la (ib h)
theorem zeu{i j:Int}(h:zgz i j=true):zce (.int i) (.int j)=some (.int (i * j)):=by
 unfold zce zf7;exact la h
theorem zmv{i j:Int}(h:IntMulOk i j):zgz i j=true:=by
 unfold IntMulOk at h;unfold zgz;rw[Bool.not_eq_true'];exact ck.mpr h
theorem zic{i j:Int}(h:-(2 ^ 64)<i/\i<2 ^ 64):zgz i j=true:=zmv (z7x.ok (.inl h))
theorem zgb{i j:Int}(h:-(2 ^ 64)<j/\j<2 ^ 64):zgz i j=true:=zmv (z7x.ok (.inr h))
theorem zdj{i j:Int}:zbm (.int i) (.int j)=some (.int (i+j)):=rfl
theorem zw8{i j:Int}:zf8 (.int i) (.int j)=some (.int (i - j)):=rfl
theorem yaf{i j:Int}:gLt (.int i) (.int j)=some (.bl (decide (i<j))):=rfl
theorem zui{i j:Int}:gLe (.int i) (.int j)=some (.bl (decide (i<=j))):=rfl
theorem zuj{i j:Int}:gGt (.int i) (.int j)=some (.bl (decide (j<i))):=rfl
theorem yag{i j:Int}:gGe (.int i) (.int j)=some (.bl (decide (j<=i))):=rfl
theorem zgc{i j:Int}:gEq (.int i) (.int j)=some (decide (i=j)):=by
 unfold gEq;dsimp only;rw[la ⟨rfl,by simp[scK]⟩,zbv];rfl
theorem zw9{i j:List Nat}:gEq (.sc (.str (S i))) (.sc (.str (S j)))=some (decide (i=j)):=by
 unfold gEq;dsimp only;rw[la ⟨rfl,by simp[scK]⟩];show some (S i == S j)=_;rw[<-zbv (S i) (S j)]
 congr 1
 exact zpj ztl
theorem z5e{i j:Bool}:gEq (.bl i) (.bl j)=some (i == j):=by
 unfold gEq;dsimp only;rw[la ⟨rfl,by simp[scK]⟩];rfl
theorem yb5(b:Bool):zws [.bl b]=some (.int (if b then 1 else 0)):=rfl
theorem zxa{α:Type}{xs:List α}{i:Int}(h0:0<=i)(h1:i<xs.length):∃c,c∈xs/\atI xs i=some c:=by
 have hi:i.toNat<xs.length:=by omega
 have e:((i.toNat:Nat):Int)=i:=by omega
 have h:=zk0 (xs:=xs) (j:=i.toNat) (v:=xs[i.toNat]) (by simp[hi]);rw[e]at h;exact⟨xs[i.toNat],vf hi,h⟩
theorem zxb{l:List Nat}{i:Int}{c:Nat}(hl:l.length<=sizeLine)(h:atI l i=some c):gIx (.sc (.str (S l))) (.int i)=some (.str [c]):=by
 unfold gIx;dsimp only;rw[la (by rw[zfi];exact hl),za9,h];rfl
theorem zli{n:Nat}{j:Int}(h:j=n)(hn:n<=1000000):zz5 [.int j]=some ((List.range n).map λk=>.int ((k:Nat):Int)):=by
 subst h;unfold zz5;dsimp only;rw[la ⟨by omega,by omega⟩];unfold zmj;simp
theorem z0o{i j:Int}(h1:-1000000<=i)(h2:i<=1000000)(h3:-1000000<=j)(h4:j<=1000000):zwz [.int i,.int j]=some (zmj i (j - i).toNat):=by
 unfold zwz;dsimp only;rw[la ⟨by omega,by omega,by omega,by omega⟩]
theorem z5f{α:Type}(xs:List α)(k:Nat):zle xs none (some (k:Int))=xs.take k:=by
 unfold zle;rw[HT.sIx_none,HT.sIx_nat,List.drop_zero,Nat.sub_zero];by_cases h:k<=xs.length
 ·rw[pi h]
 ·rw[yn (by omega),zn,pf (by omega)]
theorem zqt{α:Type}(xs:List α)(a b:Nat)(h:a<=b):zle xs (some (a:Int)) (some (b:Int))=(xs.drop a).take (b - a):=by
 unfold zle;rw[HT.sIx_nat,HT.sIx_nat];by_cases h1:b<=xs.length
 ·rw[pi h1,pi (by omega)]
 ·rw[yn (by omega)]
  by_cases h2:a<=xs.length
  ·rw[pi h2,pf (by simp),pf (by simp;omega)]
  ·rw[yn (by omega),ji,qo (by omega)];simp
theorem zqu{α β:Type}(f:α->β)(xs:List α)(lo hi:Option Int):zle (xs.map f) lo hi=(zle xs lo hi).map f:=by
 unfold zle;rw[ba,vq,List.map_drop]
theorem z5g{ds es:List D}(h:(dOk LV (.tup ds) && dOk LV (.tup es))=true):gEq (.tup ds) (.tup es)=some (zcp ds es):=by
 unfold gEq;exact la h
theorem zid(l m:List Nat):deq (.str l) (.str m)=decide (l=m):=by
 rw[deq];show (S l == S m)=_;rw[<-zbv (S l) (S m)];exact zpj ztl
theorem zlj(l m:Int):deq (.int l) (.int m)=decide (l=m):=by
 rw[deq];show (l == m)=_;rw[<-zbv l m]
theorem z5h(l m:Bool):deq (.bl l) (.bl m)=(l == m):=by rw[deq];rfl
theorem sz{n:Nat}(h:n<=100000):n<=sizeLine:=ed h (by decide)
theorem szl{n:Nat}(h:n<=100000):n<sizeLine:=Nat.lt_of_le_of_lt h (by decide)
section
variable {K:PySem.W.Frag}{B:Bs}
theorem zon.own{Hf H:Hp}{sl:Sl}{v:V}(h:zon K Hf H sl v)(o:zf1 sl=true):∃p ob,v=.ref p/\Hf p=none/\H p=some ob:=by
 cases sl with
 |sh d=>cases o
 |ow ds=>obtain⟨p,xs,h1,h2,h3,_⟩:=h;exact⟨p,_,h1,h2,h3⟩
 |dk ks ds=>obtain⟨p,xs,h1,h2,h3,_⟩:=h;exact⟨p,_,h1,h2,h3⟩
 |dt ks ds=>obtain⟨p,xs,h1,h2,h3,_⟩:=h;exact⟨p,_,h1,h2,h3⟩
theorem zon.away{Hf H:Hp}{sl:Sl}{v:V}{p:Addr}{ob:HO}(h:zon K Hf H sl v)(ne:zf1 sl=true->v≠.ref p):zon K Hf (upd H p ob) sl v:=by
 cases sl with
 |sh d=>exact h
 |ow ds=>obtain⟨q,xs,rfl,h2,h3,h4⟩:=h;exact⟨q,xs,rfl,h2,by rw[zad (λz=>ne rfl (by rw[z]))];exact h3,h4⟩
 |dk ks ds=>obtain⟨q,xs,rfl,h2,h3,h4⟩:=h;exact⟨q,xs,rfl,h2,by rw[zad (λz=>ne rfl (by rw[z]))];exact h3,h4⟩
 |dt ks ds=>obtain⟨q,xs,rfl,h2,h3,h4⟩:=h;exact⟨q,xs,rfl,h2,by rw[zad (λz=>ne rfl (by rw[z]))];exact h3,h4⟩
theorem VI.mutG{Hf H:Hp}{ρ:Rho}{σ:St}{i:Nat}{sl sl':Sl}{p:Addr}{ob:HO}(I:VI K B Hf ρ σ H)(hi:ρ[i]?=some (some sl))(ho:zf1 sl=true)(ho':zf1 sl'=true)(hp:σ[i]?=some (some (.ref p)))(ok:zon K Hf (upd H p ob) sl' (.ref p)):VI K B Hf (ρ.set i (some sl')) σ (upd H p ob):=by
 have hB:=I.own i _ p hi ho hp;have hf:Hf p=none:=by obtain⟨q,_,e,h,_⟩:=ok.own ho';cases e;exact h
 have hlt:i<ρ.length:=(qa.mp hi).1
 have g:∀{j:Nat} {s:Sl},(ρ.set i (some sl'))[j]?=some (some s)->(j=i/\s=sl')\/(j≠i/\ρ[j]?=some (some s)):=λ{j s} e=>by
  by_cases hj:i=j
  ·subst hj
   rw[nb hlt]at e;cases e;exact .inl ⟨rfl,rfl⟩
  ·rw[na hj]at e
   exact .inr ⟨λz=>hj z.symm,e⟩
 have fs:zax Hf (upd H p ob):=λb o h=>by
  rw[zad (zag h hf)];exact I.fh b o h
 refine⟨⟨I.ex.ff,λb o h=>?_,fs,I.ex.nw,I.ex.nf⟩,by simp[I.len],λj s e=>?_,λj s p' e o q=>?_,λj k sj sk p' e1 e2 o1 o2 q1 q2=>?_⟩
 ·rw[zad (zag h hB)];exact I.ex.hh b o h
 ·rcases g e with⟨rfl,rfl⟩|⟨hj,e⟩
  ·exact⟨.ref p,hp,ok⟩
  ·obtain⟨u,h1,h2⟩:=I.ok j s e
   exact⟨u,h1,h2.away λo z=>hj (by subst z;exact I.dis j i s _ _ e hi o ho h1 hp)⟩
 ·rcases g e with⟨rfl,rfl⟩|⟨hj,e⟩
  ·rw[hp]at q;cases q;exact hB
  ·exact I.own j s p' e o q
 ·rcases g e1 with⟨rfl,rfl⟩|⟨hj,e1⟩
  ·rcases g e2 with⟨rfl,rfl⟩|⟨hk,e2⟩
   ·rfl
   ·exact I.dis _ k _ sk p' hi e2 ho o2 q1 q2
  ·rcases g e2 with⟨hki,hsk⟩|⟨hk,e2⟩
   ·rw[hki]at q2 ⊢
    exact I.dis j _ sj _ p' e1 hi o1 ho q1 q2
   ·exact I.dis j k sj sk p' e1 e2 o1 o2 q1 q2
theorem VI.setG{Hf H Hf' H':Hp}{ρ:Rho}{σ:St}{i:Nat}{sl:Sl}{p:Addr}(I:VI K B Hf ρ σ H)(ex:Ex Hf H Hf' H')(hp:H p=none)(ho:zf1 sl=true)(ok:zon K Hf' H' sl (.ref p)):VI K B Hf' (ρ.set i (some sl)) (σ.set i (some (.ref p))) H':=by
 have g:∀{j:Nat} {s:Sl},(ρ.set i (some sl))[j]?=some (some s)->(j=i/\s=sl/\i<ρ.length)\/(j≠i/\ρ[j]?=some (some s)):=λ{j s} e=>by
  by_cases hj:i=j
  ·subst hj
   rw[yj]at e
   cases q:ρ[i]? with
   |none=>rw[q]at e;cases e
   |some z =>
    rw[q]at e;simp at e;exact .inl ⟨rfl,e.symm,(qa.mp q).1⟩
  ·rw[na hj]at e
   exact .inr ⟨λz=>hj z.symm,e⟩
 have I1:=I.ext ex;have hBp:B.h p=none:=I.ex.hh.free hp
 have nown:∀{j:Nat} {s:Sl},ρ[j]?=some (some s)->zf1 s=true->σ[j]?≠some (some (.ref p)):=λ{j s} e o z=>by
  obtain⟨v,h1,h2⟩:=I.ok j s e;rw[z]at h1;cases h1;obtain⟨q,ob,e1,_,e2⟩:=h2.own o;cases e1;rw[hp]at e2;cases e2
 refine⟨I1.ex,by simp[I.len],λj s e=>?_,λj s p' e o q=>?_,λj k sj sk p' e1 e2 o1 o2 q1 q2=>?_⟩
 ·rcases g e with⟨rfl,rfl,hl⟩|⟨hj,e⟩
  ·exact⟨.ref p,by rw[nb (by rw[<-I.len];exact hl)],ok⟩
  ·obtain⟨u,h1,h2⟩:=I1.ok j s e
   exact⟨u,by rw[na (λz=>hj z.symm)];exact h1,h2⟩
 ·rcases g e with⟨rfl,rfl,hl⟩|⟨hj,e⟩
  ·rw[nb (by rw[<-I.len];exact hl)]at q
   cases q;exact hBp
  ·rw[na (λz=>hj z.symm)]at q
   exact I.own j s p' e o q
 ·rcases g e1 with⟨rfl,rfl,hl⟩|⟨hj,f1⟩
  ·rcases g e2 with⟨rfl,rfl,hl2⟩|⟨hk,e2⟩
   ·rfl
   ·rw[nb (by rw[<-I.len];exact hl)]at q1
    cases q1;rw[na (λz=>hk z.symm)]at q2
    exact absurd q2 (nown e2 o2)
  ·rw[na (λz=>hj z.symm)]at q1
   rcases g e2 with⟨hki,hsk,hl2⟩|⟨hk,e2⟩
   ·subst hki
    rw[nb (by rw[<-I.len];exact hl2)]at q2;cases q2;exact absurd q1 (nown f1 o1)
   ·rw[na (λz=>hk z.symm)]at q2
    exact I.dis j k sj sk p' f1 e2 o1 o2 q1 q2
end
noncomputable def yb6(i:Nat)(sl:Sl):Rho->Out:=λρ=>.nx (ρ.set i (some sl))
noncomputable def zn9(sl:Sl)(k d:D):Option Sl:=match sl with
 |.dk ks ds=>(zlc k).bind λkey=>if ks.length<sizeLine then some (.dk ((ziz (ks.zip ds) key d).map Prod.fst) ((ziz (ks.zip ds) key d).map Prod.snd)) else none
 |.dt ks ds=>(zfc k).bind λkey=>if ks.length<sizeLine then some (.dt ((ziz (ks.zip ds) key d).map Prod.fst) ((ziz (ks.zip ds) key d).map Prod.snd)) else none
 |_=>none
noncomputable def zoa(i:Nat)(fk fv:Rho->Option D):Rho->Out:=λρ=>match ρ[i]? with
 |some (some sl)=>match (fv ρ).bind λd=>(fk ρ).bind λk=>zn9 sl k d with|some sl'=>.nx (ρ.set i (some sl'))|none=>.bad
 |_=>.bad
noncomputable def zlk(d k:D):Option D:=(zd5 d k).bind id
noncomputable def zgd(fo fk fz:Rho->Option D):Rho->Option D:=λρ=>(fo ρ).bind λd=>(fk ρ).bind λk=>(fz ρ).bind λz=>(zd5 d k).map λo=>o.getD z
section
variable {X:Cx}{B:Bs}{o e i f:Expr}{pos apos cpos:Pos}{fo fk fz fv:Rho->Option D}
theorem z5i{j:Nat}{x:Str}{pos' p2:Pos}(hN:X.N.Nodup)(hi:X.N[j]?=some x)(hx:Loc X.env.scope x)(hs:swapsWith (.Dict [] [] p2) (some (.Name x pos')) pos.line X.env=pure false:=by rfl)(hf:X.fn x=true\/X.env.scope.names.lookup x=some .local:=by first|exact .inl rfl|exact .inr rfl|assumption):PS X (.Assign [.Name x pos'] (.Dict [] [] p2) pos) (sV X.K B (yb6 j (.dk [] []))) :=
 (zfr hN hi hx ztt hs hf).imp λD σ H ⟨Hf,ρ,I,q⟩=>λp hp=>q Hf _ _ (zax.refl _) (I.setG (Ex.made I.fh hp) hp rfl ⟨p,[],rfl,I.fh.free hp,zac,rfl,.nil⟩)
theorem z5j {n j:Nat}{x:Str}{value:Expr}{p1 pos':Pos} (hr:Room n X.A) (hN:X.N[j]?=some x) (hi:PE X i (eB X.K B fk)) (hv:PE X value (eV X.K B fv)) (hvis:Vis X.env.scope x:=by first|exact cb rfl|exact af (cb rfl)|exact af (af rfl)) (hd:(x == ("__debug__" : Str))=false:=by decide) (hcd:(x == ("__classdict__" : Str))=false:=by decide)
  (hs:swapsWith value (some (.Subscript (.Name x p1) i pos')) pos.line X.env=pure false:=by rfl):PS X (.Assign [.Subscript (.Name x p1) i pos'] value pos) (sV X.K B (zoa j fk fv)) :=
 (zzj (by have:=hr.units;omega) (zcg hN hvis hd hcd) hi hv hs).imp λD σ H ⟨Hf,ρ,I,q⟩=>by
  unfold zoa at q
  split at q
  ·rename_i sl hsl
   split at q
   ·rename_i sl' hz
    obtain⟨d,hfv,hz⟩:=bind_some hz;obtain⟨k,hfk,hz⟩:=bind_some hz;obtain⟨v0,h1,h2⟩:=I.ok j _ hsl;refine⟨Hf,ρ,d,I,hfv,λHf1 H1 v ex1 dv=>⟨v0,h1,Hf1,ρ,k,I.ext ex1,hfk,λHf2 H2 y ex2 dk=>?_⟩⟩;have I2:=(I.ext ex1).ext ex2;have ok2:=(h2.ext ex1).ext ex2;unfold zn9 at hz
    split at hz
    ·obtain⟨key,hk,hz⟩:=bind_some hz
     split at hz
     ·rename_i ks ds hl
      cases hz;obtain⟨p,kvs,rfl,hf,hH,e1,e2⟩:=ok2
      have ey:=zmd dk hk;subst ey;have pk:=(zp3 e1 e2).put key (dv.same ex2.ff);exact⟨p,_,rfl,zwh.k hH (by rw[<-ba (f:=Prod.fst),e1];exact hl),q Hf2 σ _ (ex1.ff.trans ex2.ff) (I2.mutG hsl rfl rfl h1 ⟨p,_,rfl,hf,zac,pk.fst,pk.snd⟩)⟩
     ·cases hz
    ·obtain⟨key,hk,hz⟩:=bind_some hz
     split at hz
     ·rename_i ks ds hl
      cases hz;obtain⟨p,kvs,rfl,hf,hH,e1,e2⟩:=ok2
      obtain⟨b,rfl,hb⟩:=zh6 dk hk;have pk:=(zp3 e1 e2).put key (dv.same ex2.ff);exact⟨p,_,rfl,zwh.t hH (ex2.fh _ _ hb) (by rw[<-ba (f:=Prod.fst),e1];exact hl),q Hf2 σ _ (ex1.ff.trans ex2.ff) (I2.mutG hsl rfl rfl h1 ⟨p,_,rfl,hf,zac,pk.fst,pk.snd⟩)⟩
     ·cases hz
    ·cases hz
   ·exact q.elim
  ·exact q.elim
theorem zuk{n:Nat}(hr:Room n X.A)(ho:PE X o (eB X.K B fo))(hi:PE X i (eB X.K B fk))(hs:z9u i):PE X (.Subscript o i pos) (eV X.K B (e2 zlk fo fk)) :=
 (zzi (by have:=hr.units;omega) ho hi hs).imp λσ H Q ⟨Hf,ρ,z,I,hz,q⟩=>by
  obtain⟨d,hd,hz⟩:=bind_some hz;obtain⟨k,hk,hz⟩:=bind_some hz;refine⟨Hf,ρ,d,I,hd,λHf1 H1 x ex1 dx=>⟨Hf1,ρ,k,I.ext ex1,hk,λHf2 H2 y ex2 dy=>?_⟩⟩;unfold zlk at hz;obtain⟨ov,h1,h2⟩:=bind_some hz;have h2:ov=some z:=h2;subst h2;obtain⟨a,r,rfl,_,g,_,n2⟩:=zh7 ex2.fh (dx.ext ex2) dy h1;obtain⟨v,rfl,dv⟩:=n2 z rfl;exact⟨a,v,rfl,g,q Hf2 H2 v (ex1.trans ex2) dv⟩
theorem z5k{K:PySem.W.Frag}{Hf H:Hp}{d k:D}{x:V}{r:Option D}(s:zax Hf H)(hd:DnB K Hf H d x)(h:zd5 d k=some r):∃a,x=.ref a/\IsD H a:=by
 unfold zd5 at h
 split at h
 ·obtain⟨a,kvs,rfl,h3,_⟩:=hd.dk s;exact⟨a,rfl,.inl ⟨kvs,.inl h3⟩⟩
 ·obtain⟨a,kvs,rfl,h3,_⟩:=hd.dt s;exact⟨a,rfl,.inr ⟨kvs,.inl h3⟩⟩
 ·cases h
theorem z0p {n:Nat} (hr:Room n X.A) (ho:PE X o (eB X.K B fo)) (he:PE X e (eB X.K B fk)) (hf:PE X f (eV X.K B fz)) (m:M2 X o "get" apos e f cpos:=by exact⟨rfl,rfl,rfl,rfl⟩):PE X (.Call (.Attribute o "get" apos) [e,f] [] cpos) (eV X.K B (zgd fo fk fz)) :=
 (ztv (by have:=hr.units;omega) ho he hf m).imp λσ H Q ⟨Hf,ρ,z,I,hz,q⟩=>by
  obtain⟨d,hd,hz⟩:=bind_some hz;obtain⟨k,hk,hz⟩:=bind_some hz;obtain⟨t,ht,hz⟩:=bind_some hz;obtain⟨ov,h1,h2⟩:=db.mp hz;refine⟨Hf,ρ,d,I,hd,λHf1 H1 x ex1 dx=>?_⟩;obtain⟨a,rfl,isd⟩:=z5k ex1.fh dx h1;refine⟨a,rfl,isd,Hf1,ρ,k,I.ext ex1,hk,λHf2 H2 y ex2 dy=>⟨Hf2,ρ,t,(I.ext ex1).ext ex2,ht,λHf3 H3 u ex3 du=>?_⟩⟩;obtain⟨a',r,e,_,g,n1,n2⟩:=zh7 ex3.fh ((dx.ext ex2).ext ex3) (dy.ext ex3) h1;cases e;refine⟨r,g,?_⟩
  cases ov with
  |none=>subst h2;rw[n1 rfl];exact q Hf3 H3 _ ((ex1.trans ex2).trans ex3) du
  |some w=>subst h2;obtain⟨v,rfl,dv⟩:=n2 w rfl;exact q Hf3 H3 v ((ex1.trans ex2).trans ex3) dv
end
end L2
namespace L2
open PySem PySem.W PyProof.Rows
structure WO(lt:Nat->Nat->Bool):Prop where
 irr:∀a,lt a a=false
 nt:∀a b c,lt a c=true->lt a b=true\/lt b c=true
 asy:∀a b,lt a b=true->lt b a=false
noncomputable abbrev gp(p:Array Nat)(i:Nat):Nat:=p.getD i 0
theorem z5l(p:Array Nat)(i:Nat):gp p i=(p[i]?).getD 0:=by simp[gp,zl]
def Ix(n:Nat)(p:Array Nat):Prop:=p.toList.Perm (List.range n)
section
variable {lt:Nat->Nat->Bool}{n:Nat}{p q:Array Nat}
theorem Ix.size(h:Ix n p):p.size=n:=by have:=h.length_eq;simpa using this
def Up(lt:Nat->Nat->Bool)(p:Array Nat)(k:Nat):Prop:=∀i j,i<=j->j<k->lt (gp p j) (gp p i)=false
end
end L2
namespace L2
open PySem PySem.Spec PyProof.Rows
noncomputable def z2j(x:Int):List Int->List Int
 |[]=>[x]
 |y::r=>if x<=y then x::y::r else y::z2j x r
noncomputable def zul:List Int->List Int
 |[]=>[]
 |x::r=>z2j x (zul r)
theorem zge(x:Int):∀l,(z2j x l).Perm (x::l)
 |[]=>lh _
 |y::r=>by
  unfold z2j;split
  ·exact lh _
  ·exact((zge x r).cons y).trans (lq x y r)
theorem zdk:∀l,(zul l).Perm l
 |[]=>lh _
 |x::r=>(zge x _).trans ((zdk r).cons x)
theorem zqv(x:Int):∀{l:List Int},l.Pairwise (·<=·)->(z2j x l).Pairwise (·<=·)
 |[],_=>zj _ _
 |y::r,h=>by
  unfold z2j;split
  ·rename_i hxy
   refine qf.mpr ⟨λz hz=>?_,h⟩;rcases pb.mp hz with rfl|hz
   ·exact hxy
   ·exact Int.le_trans hxy ((qf.mp h).1 z hz)
  ·rename_i hxy
   refine qf.mpr ⟨λz hz=>?_,zqv x (qf.mp h).2⟩;rcases pb.mp ((zge x r).mem_iff.mp hz) with rfl|hz
   ·omega
   ·exact(qf.mp h).1 z hz
theorem zqw:∀l,(zul l).Pairwise (·<=·)
 |[]=>tm
 |x::r=>zqv x (zqw r)
theorem z0q{a b:List Int}(hp:a.Perm b)(ha:a.Pairwise (·<=·))(hb:b.Pairwise (·<=·)):a=b :=
 hp.eq_of_pairwise (λx y _ _ h1 h2=>Int.le_antisymm h1 h2) ha hb
theorem zqx:∀(ns:List Int) (us:List Value),us.length=ns.length->(∀(j:Nat) (v:Value),us[j]?=some v->∃i,ns[j]?=some i/\∃t:Tok,v=Value.int i t)->IntsAre us ns
 |[],[],_,_=>.nil
 |[],_::_,h,_=>by simp at h
 |_::_,[],h,_=>by simp at h
 |n::ns,u::us,h,f=>by
  obtain⟨i,h1,t,rfl⟩:=f 0 u rfl;cases h1;exact .cons _ t (zqx ns us (by simpa using h) λj v e=>f (j+1) v (by simpa using e))
theorem KV.fst{κ:Type}:∀{kvs:List (κ×V)}{vs:List (κ×Value)},KV kvs vs->vs.map Prod.fst=kvs.map Prod.fst
 |_,_,.nil=>rfl
 |_,_,.cons a b=>by rw[da,da,a.1,KV.fst b]
theorem KV.len{κ:Type}{kvs:List (κ×V)}{vs:List (κ×Value)}(h:KV kvs vs):kvs.length=vs.length:=Paired.length h
def z5m:List V->Hp->VK->Prop:=λxs H Q=>∃a kvs ns,xs=[.ref a]/\Rd H a (.dK kvs)/\kvs.map Prod.fst=ns.map Sum.inl/\ns.length<64/\∀p,H p=none->Q (.ref p) (upd H p (.lst ((zul ns).map V.int)))
section
variable {X:Cx}
theorem zjx(hc:X.calm=true):zb6 X (.builtin "sorted") z5m:=by
 intro pins s σ H xs us Q I rv h;obtain⟨a,kvs,ns,rfl,hr,hk,h64,q⟩:=h;obtain⟨u,rfl,ru⟩:=zeg rv;cases ru;obtain⟨z,hd,vs,rel,dd⟩:=zjq I.hok hr;obtain⟨ep,hat⟩:=dd.dictAt;have hlen:vs.length=ns.length:=by rw[<-KV.len rel,<-ba (f:=Prod.fst),hk,ba]
 refine PySem.Calls.call_function_entry kind_sorted plain_sorted entry_sorted (args_sorted1 _) ?_
 unfold Builtin.«sorted»;refine aa (m:=checkCount "sorted" 1 1 _) (ia ?_);refine aa (PySem.W.kdu_collect (A:=X.A.in1) (PySem.W.kdl_dict (knd:=zbi X.prog X.w) (kvs:=vs) (ep:=ep) hd) (I.ok.hd hc) hat (by rw[hlen];exact sz (by omega)) λh' tk acc hkeep hacc=>?_);have hal:acc.toList.length=ns.length:=by rw[xf,<-hlen];exact hacc.1
 have hI:IntsAre acc.toList ns:=zqx ns _ hal λj v e=>by
  obtain⟨k,x,e1,e2⟩:=hacc.2 j v (by rw[<-ug];exact e);have e3:(vs.map Prod.fst)[j]?=some k:=by rw[qc,e1];rfl
  rw[KV.fst rel,hk,qc]at e3;obtain⟨i,h1,h2⟩:=db.mp e3;subst h2;rcases za3 (show zkt (Sum.inl i) v=true from e2) with⟨i',t,h3,h4⟩|⟨x',t,h3,h4⟩
  ·cases h3;exact⟨i,h1,t,h4⟩
  ·cases h3
 refine aa (wpAny_newList ?_ (by rw[hal];exact sz (by omega)));have hoL:(h'.push (seqObj "list" acc.toList.toArray 0)).get? h'.objs.size=some (seqObj "list" acc.toList.toArray 0):=gb _ rfl;refine aa (wf (ii slot_list_sort ⟨_,hoL,rfl⟩ entry_list_sort (list_sort_tree hoL hI (by rw[hal];exact h64) λout ns' a1 a2 a3=>⟨_,rfl,?_⟩) (args_list_sort _)));refine ia ⟨_,rfl,?_⟩;obtain⟨e,he⟩:=sortedHeap_at (out:=out) hoL;have I1:Inv X pins σ H { s with heap:=h',toks:=tk }:=I.kept hkeep;have e2:=z0q (a2.trans (zdk ns).symm) a3 (zqw ns);subst e2;refine⟨.ref h'.objs.size,upd H h'.objs.size (.lst ((zul ns).map V.int)),I1.laid (t':=tk) (λb ob qb=>?_) (va _) ?_,rfl,q _ (I1.hok.fresh (va _))⟩
 ·have qb:h'.get? b=some ob:=qb
  have hb:b<h'.objs.size:=ya qb;rw[sortedHeap_old (dc hb) (by rw[size_push'];exact um hb),Heap.get?_push_ne _ _ _ (dc hb)];exact qb
 ·refine⟨by rw[ba,(zdk ns).length_eq];exact sz (by omega),out.toList,e,zfv a1,?_⟩
  simpa using he
noncomputable def zob:List Key->Option (List Int)
 |[]=>some []
 |.inl i::r=>(zob r).map (i::·)
 |.inr _::_=>none
theorem zmw:∀{ks:List Key}{ns:List Int},zob ks=some ns->ks=ns.map Sum.inl
 |[],_,h=>by cases h;rfl
 |.inl i::r,ns,h=>by
  unfold zob at h;obtain⟨m,h1,h2⟩:=db.mp h;subst h2;rw[zmw h1];rfl
 |.inr _::_,_,h=>by cases h
theorem zum(ns:List Int):zob (ns.map Sum.inl)=some ns:=by
 induction ns with
 |nil=>rfl
 |cons a r ih=>rw[da,zob,ih];rfl
noncomputable def zjy:List D->Option (List D)
 |[.dk ks _]=>(zob ks).bind λns=>if ns.length<64 then some ((zul ns).map D.int) else none
 |_=>none
variable {B:Bs}{a:Expr}{fr:Rho->Option (List D)}{pos:Pos}
theorem zun {p:Pos} (hc:X.calm=true) (hg:Gl X "sorted") (hm:X.mg "sorted" = none) (ha:PA X [a] (aB X.K B fr)) (he:starEach [a] X.env=[(false,eval a X.env)]:=by rfl):PE X (.Call (.Name "sorted" p) [a] [] pos) (eW X.K B (wN zjy fr)) :=
 (zdm (zjx hc) hg hm zfy ha (by decide) (by decide) he rfl).imp λσ H Q ⟨Hf,ρ,z,I,hz,q⟩=>by
  obtain⟨ds,hd,hz⟩:=bind_some hz;refine⟨Hf,ρ,ds,I,hd,λHf1 H1 vs ex dvs=>?_⟩;unfold zjy at hz
  split at hz
  ·obtain⟨ns,h1,hz⟩:=bind_some hz
   split at hz
   ·rename_i h64
    cases hz;obtain⟨x,rfl,hx⟩:=zbs dvs
    obtain⟨b,kvs,rfl,h3,h4,_⟩:=hx.dk ex.fh;exact⟨b,kvs,ns,rfl,.of h3,by rw[h4];exact zmw h1,h64,λp hp=>q Hf1 _ p _ (ex.trans (Ex.made (o:=.lst ((zul ns).map V.int)) ex.fh hp)) (ex.hh.free hp) (ex.fh.free hp) zac (zia _)⟩
   ·cases hz
  ·cases hz
end
noncomputable def toD:Sl->D
 |.sh d=>d
 |.ow ds=>.lst ds
 |.dk ks ds=>.dk ks ds
 |.dt ks ds=>.dt ks ds
section
variable {X:Cx}{B:Bs}{K:PySem.W.Frag}{sts:List Stmt}{f:Rho->Out}
theorem VI.frzG{Hf H:Hp}{ρ:Rho}{σ:St}{i:Nat}{sl:Sl}(I:VI K B Hf ρ σ H)(hi:ρ[i]?=some (some sl))(ho:zf1 sl=true):∃Hf',zax Hf Hf'/\VI K B Hf' (ρ.set i (some (.sh (toD sl)))) σ H:=by
 obtain⟨v,h1,h2⟩:=I.ok i _ hi;obtain⟨p,ob,rfl,hf,hH⟩:=h2.own ho;have hB:=I.own i _ p hi ho h1;have hs:=zas (o:=ob) hf
 have dn:Dn K (upd Hf p ob) (toD sl) (.ref p):=by
  cases sl with
  |sh d=>cases ho
  |ow ds=>obtain⟨q,xs,e,_,h3,h4⟩:=h2;cases e;rw[h3]at hH;cases hH;exact zc8 (SqL.of zac) (Dns.same h4 hs)
  |dk ks ds=>obtain⟨q,xs,e,_,h3,h4,h5⟩:=h2;cases e;rw[h3]at hH;cases hH;exact z4g zac h4 (Dns.same h5 hs)
  |dt ks ds=>obtain⟨q,xs,e,_,h3,h4,h5⟩:=h2;cases e;rw[h3]at hH;cases hH;exact zzn zac h4 (Dns.same h5 hs)
 have hlt:=(qa.mp hi).1
 have g:∀{j:Nat} {s:Sl},(ρ.set i (some (.sh (toD sl))))[j]?=some (some s)->(j=i/\s=.sh (toD sl))\/(j≠i/\ρ[j]?=some (some s)):=λ{j s} e=>by
  by_cases hj:i=j
  ·subst hj
   rw[nb hlt]at e;cases e;exact .inl ⟨rfl,rfl⟩
  ·rw[na hj]at e
   exact .inr ⟨λz=>hj z.symm,e⟩
 have nfz:∀x u,ob≠.frz x u:=λx u z=>by
  subst z
  cases sl with
  |sh d=>cases ho
  |ow ds=>obtain⟨q,xs,e,_,h3,_⟩:=h2;cases e;rw[h3]at hH;cases hH
  |dk ks ds=>obtain⟨q,xs,e,_,h3,_⟩:=h2;cases e;rw[h3]at hH;cases hH
  |dt ks ds=>obtain⟨q,xs,e,_,h3,_⟩:=h2;cases e;rw[h3]at hH;cases hH
 refine⟨upd Hf p ob,hs,I.ex.frz hB hH hf nfz,by simp[I.len],λj s e=>?_,λj s p' e o q=>?_,λj k sj sk p' e1 e2 o1 o2 q1 q2=>?_⟩
 ·rcases g e with⟨rfl,rfl⟩|⟨hj,e⟩
  ·exact⟨_,h1,dn⟩
  ·obtain⟨u,g1,g2⟩:=I.ok j s e
   refine⟨u,g1,?_⟩
   have ne:∀{p':Addr},zf1 s=true->u=.ref p'->p'≠p:=λ{p'} o z1 z2=>by
    subst z1 z2;exact hj (I.dis j i s _ _ e hi o ho g1 h1)
   cases s with
   |sh d=>exact Dn.same g2 hs
   |ow d=>obtain⟨p',xs,e1,e2,e3,e4⟩:=g2;exact⟨p',xs,e1,by rw[zad (ne rfl e1)];exact e2,e3,Dns.same e4 hs⟩
   |dk ks d=>obtain⟨p',xs,e1,e2,e3,e4⟩:=g2;exact⟨p',xs,e1,by rw[zad (ne rfl e1)];exact e2,e3,e4.1,Dns.same e4.2 hs⟩
   |dt ks d=>obtain⟨p',xs,e1,e2,e3,e4⟩:=g2;exact⟨p',xs,e1,by rw[zad (ne rfl e1)];exact e2,e3,e4.1,Dns.same e4.2 hs⟩
 ·rcases g e with⟨rfl,rfl⟩|⟨hj,e⟩
  ·cases o
  ·exact I.own j s p' e o q
 ·rcases g e1 with⟨rfl,rfl⟩|⟨hj,e1⟩
  ·cases o1
  ·rcases g e2 with⟨rfl,rfl⟩|⟨hk,e2⟩
   ·cases o2
   ·exact I.dis j k sj sk p' e1 e2 o1 o2 q1 q2
noncomputable def z0r(i:Nat)(f:Rho->Out):Rho->Out:=λρ=>match ρ[i]? with
 |some (some sl)=>if zf1 sl=true then f (ρ.set i (some (.sh (toD sl)))) else f ρ
 |_=>f ρ
theorem z5n(i:Nat)(h:PSs X sts (sV X.K B f)):PSs X sts (sV X.K B (z0r i f)):=h.imp λD σ H ⟨Hf,ρ,I,q⟩=>by
 unfold z0r at q
 split at q
 ·rename_i sl e
  split at q
  ·rename_i ho
   obtain⟨Hf',z,I'⟩:=I.frzG e ho;exact⟨Hf',_,I',zep.mono q z⟩
  ·exact⟨Hf,ρ,I,q⟩
 ·exact⟨Hf,ρ,I,q⟩
noncomputable def z5o(ds:List D)(k d:D):Option (List D):=(toI k).bind λn=>(ixN ds.length n).map λj=>ds.set j d
noncomputable def zoc(i:Nat)(fk fv:Rho->Option D):Rho->Out:=λρ=>match ρ[i]? with
 |some (some (.ow ds))=>match (fv ρ).bind λd=>(fk ρ).bind λk=>z5o ds k d with|some ds'=>.nx (ρ.set i (some (.ow ds')))|none=>.bad
 |_=>.bad
variable {fk fv:Rho->Option D}{pos:Pos}{ix:Expr}
theorem z5p {j:Nat}{x:Str}{value:Expr}{p1 pos':Pos} (hN:X.N[j]?=some x) (hi:PE X ix (eB X.K B fk)) (hv:PE X value (eV X.K B fv)) (hvis:Vis X.env.scope x:=by first|exact cb rfl|exact af (cb rfl)|exact af (af rfl)) (hd:(x == ("__debug__" : Str))=false:=by decide) (hcd:(x == ("__classdict__" : Str))=false:=by decide)
  (ha:∀ v,assign (.Subscript (.Name x p1) ix pos') X.env v=(do
   let ov ← holding [v] (eval (.Name x p1) X.env)
   let iv ← holding [v,ov] (eval ix X.env)
   standAt pos'
   holding [v,ov,iv] (setItem ov iv v)
   release [v,ov,iv] []):=by intro _;rfl)
  (hs:swapsWithSole [.Subscript (.Name x p1) ix pos'] value pos.line X.env=pure false:=by rfl) (hw:swappedStores [.Subscript (.Name x p1) ix pos'] value X.env=pure none:=by rfl) (h1:(assignEach [.Subscript (.Name x p1) ix pos'] X.env).map (·.2)=[assign (.Subscript (.Name x p1) ix pos') X.env]:=by rfl) :
  PS X (.Assign [.Subscript (.Name x p1) ix pos'] value pos) (sV X.K B (zoc j fk fv)) :=
 (zv7 hv (z20 (zcg hN hvis hd hcd) hi zta ha) hs hw h1).imp λD σ H ⟨Hf,ρ,I,q⟩=>by
  unfold zoc at q
  split at q
  ·rename_i ds hsl
   split at q
   ·rename_i ds' hz
    obtain⟨d,hfv,hz⟩:=bind_some hz;obtain⟨k,hfk,hz⟩:=bind_some hz;obtain⟨n,hn,hz⟩:=bind_some hz;obtain⟨m,hm,hz⟩:=db.mp hz;subst hz;obtain⟨v0,g1,g2⟩:=I.ok j _ hsl;refine⟨Hf,ρ,d,I,hfv,λHf1 H1 v ex1 dv=>⟨v0,g1,Hf1,ρ,k,I.ext ex1,hfk,λHf2 H2 y ex2 dk=>?_⟩⟩;obtain⟨p,xs,rfl,hf,hH,dn⟩:=(zon.ext g2 ex1).ext ex2;unfold toI at hn
    split at hn
    ·cases hn
     refine⟨p,xs,_,m,rfl,dk.sc.2,hH,by rw[<-dn.length];exact hm,q Hf2 σ _ (ex1.ff.trans ex2.ff) ?_⟩;exact((I.ext ex1).ext ex2).mut hsl g1 (dn.zset (dv.same ex2.ff) m)
    ·cases hn
   ·exact q.elim
  ·exact q.elim
end
noncomputable def ydj:=gII λi j=>.bl (decide (i<j))
theorem zuo:typeLookup (.type "list_reverseiterator") "__len__" = pure none:=by rw[xj,mh];kernel_rfl
theorem z0s:typeLookup (.type "list_reverseiterator") "__length_hint__" = pure (some (.builtin "list_reverseiterator.__length_hint__")):=by rw[xj,mh];kernel_rfl
section
variable {prog:Program}{w:World}{A:Around}{E:Value->Shared->Prop}{s:Shared}
theorem z5q{I l:Addr}{i:Int}{Q:Bool->Shared->Prop}(hit:s.heap.IsRevIter I l i)(h:Q false s):wpAny (model prog w) A (Builtin.List.listLengthHint (.ref I)) Q E s:=by
 unfold Builtin.List.listLengthHint;refine aa (ql hit.typeIs zuo ?_);show wpAny _ A (specialOf (Value.ref I) (Str.ofString "__length_hint__") >>= _) _ _ _;refine aa (ql hit.typeIs z0s ?_);generalize hid:("list_reverseiterator.__length_hint__" : String)=id0
 wp_delta
 rw[show splitId id0=some ("list_reverseiterator","__length_hint__") from by subst hid;decide +kernel];subst hid;refine aa (ao (T:="list_reverseiterator") (b:=true) hit.typeIs (by rw[isSubtype_type];kernel_rfl) ?_);exact ia h
theorem z0t{l I:Addr}{items:Array Value}{Q:Value->Shared->Prop}(hh:A.handled=none)(hit:s.heap.IsRevIter I l ((items.size:Int) - 1))(hl:s.heap.IsList l items)(hne:l≠I)(hn:items.size<=sizeLine)
  (hQ:∀h' tk acc c,(∀b o,b≠I->s.heap.get? b=some o->h'.get? b=some o)->h'.get? s.heap.objs.size=some { cls:=.type "list",dict:=none,data:=.seq acc c,slots:=#[] }->ItemsOf (λi v=>items[items.size - 1 - i]?=some v) acc items.size->Q (.ref s.heap.objs.size) { s with heap:=h',toks:=tk }) :
  wpAny (model prog w) A (call (.type "list") [.ref I]) Q E s:=by
 have hI:I<s.heap.objs.size:=by obtain⟨o,ho,_⟩:=hit;exact ya ho
 have hL:l<s.heap.objs.size:=by obtain⟨o,ho,_⟩:=hl;exact ya ho
 refine callType_codes (Q₁:=λobj s₁=>obj=.ref s.heap.objs.size/\s₁={ s with heap:=s.heap.push { cls:=.type "list",data:=.seq #[] } }) PySem.F.called_list (PySem.F.typeCall_list_1 _) PySem.F.entry_list_init (code_list_new _ ⟨rfl,rfl⟩) λobj s₁ h₁=>?_
 obtain⟨rfl,rfl⟩:=h₁;have hS:(s.heap.push { cls:=.type "list",data:=.seq #[] }).get? s.heap.objs.size=some { cls:=.type "list",data:=.seq #[] }:=gb _ rfl;refine⟨⟨_,hS,rfl⟩,PySem.F.args_list_init_2 _ _,?_⟩;show wpAny _ _ (do let old ← Builtin.List.listItems (.ref s.heap.objs.size);Builtin.List.listUpdate (.ref s.heap.objs.size) (λ_=>#[]);letGo old.toList.reverse;Builtin.List.listExtendWith (.ref s.heap.objs.size) (.ref I) .none) _ _ _;refine aa (listItems_at hS rfl ?_);refine aa (vk hS rfl ?_ (ud _) (ud _));refine aa (ll ?_);have hS₂:=md (Obj.mapSeq (λ_=>(#[]:Array Value))) hS rfl;have oth:∀b o,b≠s.heap.objs.size->s.heap.get? b=some o->((s.heap.push { cls:=.type "list",data:=.seq #[] }).update s.heap.objs.size (Obj.mapSeq (λ_=>(#[]:Array Value)))).get? b=some o:=λb o hb e=>(xb _ _ (rf hb)).trans (ma _ e)
 have hit2:=hit.at (h':=(s.heap.push { cls:=.type "list",data:=.seq #[] }).update s.heap.objs.size (Obj.mapSeq (λ_=>(#[]:Array Value)))) λo e=>oth I o (dc hI) e
 have hl2:=hl.at (h':=(s.heap.push { cls:=.type "list",data:=.seq #[] }).update s.heap.objs.size (Obj.mapSeq (λ_=>(#[]:Array Value)))) λo e=>oth l o (dc hL) e
 have W:=Walks.listRev (prog:=prog) (w:=w) (A:=A.in1.in1) hh I l hne items;have h1:Builtin.List.listSameRef (.ref s.heap.objs.size) (.ref I)=false:=by simp[Builtin.List.listSameRef,tj hI]
 have hSf:s.heap.objs.size ∉ [I,l]:=by simp only[pb,nk,su,not_or];exact⟨tj hI,tj hL⟩
 unfold Builtin.List.listExtendWith;refine aa (am (T:="list_reverseiterator") hit2.typeIs ?_);rw[wa (by rw[h1];decide)];refine aa (wpAny_pyIter_revIter hit2 ?_);refine aa (wf (z5q hit2 ?_));rw[wa (by decide)];refine ia ⟨yi PySem.F.plain_extend_loop _,codeAny_extend_loopS W.toS hn _ hSf _ items.size 0 _ #[] _ rfl (ud _) ⟨ud _,by simpa using hit2,hl2⟩ hS₂ (ItemsOf.nil _) λs' acc' c' hm hS' hacc=>?_⟩;rw[Moved.eq_with hm];refine⟨rfl,hQ s'.heap s'.toks acc' c' (λb o hb e=>hm.heap b o (λhmem=>?_) (oth b o (dc (ya e)) e)) hS' hacc⟩;rcases pb.mp hmem with e'|hmem
 ·exact absurd (ya e) (by rw[e'];exact wg _)
 ·exact hb (jb.mp hmem)
end
noncomputable def z72:List D->Option (List D)
 |[.lst ds]=>some ds.reverse
 |_=>none
section
variable {X:Cx}{B:Bs}{a:Expr}{fr:Rho->Option (List D)}{pos:Pos}
theorem zup{ys:List V}{its:List Value}(r:zbj ys its){acc:Array Value}(h:ItemsOf (λi v=>its.toArray[its.toArray.size - 1 - i]?=some v) acc its.toArray.size):zbj ys.reverse acc.toList:=by
 have e:acc.toList=its.reverse:=by
  apply fj;intro i;obtain⟨h1,h2⟩:=h;have h1:acc.size=its.length:=h1.trans (by simp);by_cases hi:i<acc.size
  ·have e1:acc[i]?=some acc[i]:=fg hi
   have:=h2 i _ e1
   rw[ug,e1,<-this,List.getElem?_reverse (by omega)];simp
  ·rw[ug,li (by omega),oh (by rw[yl];omega)]
 rw[e];exact Paired.zrev r
def yah(K:PySem.W.Frag):List V->Hp->VK->Prop:=λxs H Q=>∃p ys,xs=[.ref p]/\SqL K H p ys/\∀l,H l=none->Q (.ref l) (upd H l (.lst ys.reverse))
theorem z0u {p p2 pos2:Pos}{t:TA} (hc:X.calm=true) (hg:Gl X "list") (hm:X.mg "list" = none) (hg2:Gl X "reversed") (hm2:X.mg "reversed" = none) (ha:PA X [a] t) (he:starEach [a] X.env=[(false,eval a X.env)]:=by rfl)
  (he2:starEach [.Call (.Name "reversed" p2) [a] [] pos2] X.env=[(false,eval (.Call (.Name "reversed" p2) [a] [] pos2) X.env)]:=by rfl):PE X (.Call (.Name "list" p) [.Call (.Name "reversed" p2) [a] [] pos2] [] pos) (tCB (yah X.K) t):=by
 intro pins s σ H Q I h;refine zf (zef I hg hm zk4 ?_ (by decide) (by decide));refine kg ?_ he2 rfl;rw[he2];show wpAny _ _ (spliced [(false,eval (.Call (.Name "reversed" p2) [a] [] pos2) X.env)]) _ _ s;refine dh (zf (zef I hg2 hm2 zk3 ?_ (by decide) (by decide)));refine kg (thn (ha pos2 pins s σ H _ I h) λus s1 ⟨vs,H1,I1,r1,q0,ys,e,hq,q⟩=>?_) he rfl;subst e;obtain⟨u,rfl,ru⟩:=zeg r1;cases ru;obtain⟨its,r,pl,hz⟩:=I1.list hq;have e:its.toArray.size=ys.length:=by rw[oa];exact r.length.symm
 have hlt:q0<s1.heap.objs.size:=by obtain⟨_,h1,_⟩:=pl.isList;exact ya h1
 refine call_reversed_list pl.isList (ak ?_);have I2:Inv X pins σ H1 { s1 with heap:=s1.heap.push (revObj q0 ((its.toArray.size:Int) - 1)) }:=I1.kept (t':=s1.toks) λb o e=>ma _ e
 have l2:({ s1 with heap:=s1.heap.push (revObj q0 ((its.toArray.size:Int) - 1)) }:Shared).heap.IsList q0 its.toArray:=pl.isList.push _;refine z0t (l:=q0) (I:=s1.heap.objs.size) (items:=its.toArray) (I.ok.hd hc) ⟨_,gb _ rfl,rfl,rfl⟩ l2 (dc hlt) (by rw[e];exact hz) λh' tk acc c keep hl hacc=>?_
 have hacc':=zup r hacc;have fp:=I1.fpOk (H':=H1) (va s1.heap.objs.size) (I1.hok.fresh (va _));obtain⟨f0,f1,f2,f3,f4,f5⟩:=fp;have hs2:(s1.heap.push (revObj q0 ((its.toArray.size:Int) - 1))).objs.size=s1.heap.objs.size+1:=size_push' _ _
 have I3:=I2.laid (a:=(s1.heap.push (revObj q0 ((its.toArray.size:Int) - 1))).objs.size) (o:=.lst ys.reverse) (t':=tk) (h':=(s1.heap.push (revObj q0 ((its.toArray.size:Int) - 1))).push { cls:=.type "list",dict:=none,data:=.seq acc c,slots:=#[] }) (λb ob eb=>ma _ eb) (va _)
  ⟨by rw[yl];exact hz,acc.toList,c,hacc',gb _ rfl⟩
 have I4:=I3.turned (t':=tk) (it:=s1.heap.objs.size) (h':=h') (λ b ob hb eb=>by
  by_cases hbs:b=(s1.heap.push (revObj q0 ((its.toArray.size:Int) - 1))).objs.size
  ·subst hbs
   have eb:((s1.heap.push (revObj q0 ((its.toArray.size:Int) - 1))).push { cls:=.type "list",dict:=none,data:=.seq acc c,slots:=#[] }).get? (s1.heap.push (revObj q0 ((its.toArray.size:Int) - 1))).objs.size=some ob:=eb;rw[gb _ rfl]at eb;cases eb;exact hl
  ·have eb:((s1.heap.push (revObj q0 ((its.toArray.size:Int) - 1))).push { cls:=.type "list",dict:=none,data:=.seq acc c,slots:=#[] }).get? b=some ob:=eb
   rw[Heap.get?_push_ne _ _ _ hbs]at eb;exact keep b ob hb eb) (by rw[zad (by rw[hs2];exact dc (wn _))];exact f0) f1 f3 f4 f5
 exact⟨.ref _,_,I4,rfl,q _ (I2.hok.fresh (va _))⟩
theorem z5r {p p2 pos2:Pos} (hc:X.calm=true) (hg:Gl X "list") (hm:X.mg "list" = none) (hg2:Gl X "reversed") (hm2:X.mg "reversed" = none) (ha:PA X [a] (aB X.K B fr)) (he:starEach [a] X.env=[(false,eval a X.env)]:=by rfl)
  (he2:starEach [.Call (.Name "reversed" p2) [a] [] pos2] X.env=[(false,eval (.Call (.Name "reversed" p2) [a] [] pos2) X.env)]:=by rfl):PE X (.Call (.Name "list" p) [.Call (.Name "reversed" p2) [a] [] pos2] [] pos) (eW X.K B (wN z72 fr)) :=
 (z0u hc hg hm hg2 hm2 ha he he2).imp λσ H Q ⟨Hf,ρ,z,I,hz,q⟩=>by
  obtain⟨ds,hd,hz⟩:=bind_some hz;refine⟨Hf,ρ,ds,I,hd,λHf1 H1 vs ex dvs=>?_⟩;unfold z72 at hz
  split at hz
  ·cases hz
   obtain⟨x,rfl,hx⟩:=zbs dvs;obtain⟨b,ys,rfl,h1,h2⟩:=hx.lst ex.fh;exact⟨b,ys,rfl,h1,λl hl=>q Hf1 _ l ys.reverse (ex.trans (Ex.made (o:=.lst ys.reverse) ex.fh hl)) (ex.hh.free hl) (ex.fh.free hl) zac h2.zrev⟩
  ·cases hz
end
end L2
namespace Tim
open PySem PyProof.Rows
structure WOr(lt:Nat->Nat->Bool):Prop where
 irr:∀a,lt a a=false
 nt:∀a b c,lt a c=true->lt a b=true\/lt b c=true
 asy:∀a b,lt a b=true->lt b a=false
theorem WOr.le{lt:Nat->Nat->Bool}(w:WOr lt){a b c:Nat}(h1:lt b a=false)(h2:lt c b=false):lt c a=false:=by
 cases h:lt c a with
 |false=>rfl
 |true =>
  rcases w.nt c b a h with z|z
  ·rw[h2]at z;cases z
  ·rw[h1]at z;cases z
noncomputable abbrev ga(p:Array Nat)(i:Nat):Nat:=p.getD i 0
theorem ga_eq(p:Array Nat)(i:Nat):ga p i=(p[i]?).getD 0:=by simp[ga,zl]
def Ixs(n:Nat)(p:Array Nat):Prop:=p.toList.Perm (List.range n)
section
variable {n:Nat}{p q:Array Nat}
theorem Ixs.size(h:Ixs n p):p.size=n:=by have:=h.length_eq;simpa using this
theorem Ixs.get(h:Ixs n p){i:Nat}(hi:i<n):p[i]?=some (ga p i):=by
 have hi':i<p.size:=by rw[h.size];exact hi
 rw[ga_eq];simp[hi']
theorem Ixs.bd(h:Ixs n p){i:Nat}(hi:i<n):ga p i<n:=by
 have e:=h.get hi
 have:ga p i∈p.toList:=yk.mpr (Array.mem_of_getElem? e)
 exact lg.mp (h.mem_iff.mp this)
theorem Ixs.of(h:Ixs n p)(hq:q.Perm p):Ixs n q:=(Array.perm_iff_toList_perm.mp hq).trans h
end
theorem zuq{α β:Type}(f:α->β)(xs:Array α)(i j:Nat):(xs.swapIfInBounds i j).map f=(xs.map f).swapIfInBounds i j:=by
 rw[cn,cn];simp only[Array.size_map];split
 ·split
  ·apply Array.ext_getElem?;intro k;simp[Array.getElem?_swap,Array.getElem?_map];split <;> (try split) <;> simp_all
  ·rfl
 ·rfl
theorem zgf{α β:Type}(f:α->β)(u v:Nat->Nat):∀(l:List Nat) (xs:Array α),(l.foldl (λa k=>a.swapIfInBounds (u k) (v k)) xs).map f=l.foldl (λa k=>a.swapIfInBounds (u k) (v k)) (xs.map f)
 |[],_=>rfl
 |k::l,xs=>by rw[ph,zgf f u v l,zuq,ph]
section
variable {prog:Program}{w:World}{A:Around}{E:Value->Shared->Prop}{s:Shared}{κ:SortKind}{item:Nat->Keyed}{lt:Nat->Nat->Bool}{n:Nat}{p:Array Nat}{pend:Array (Nat×Nat×Nat)}{g:Nat}
noncomputable abbrev SS(κ:SortKind)(item:Nat->Keyed)(p:Array Nat)(pend:Array (Nat×Nat×Nat))(g:Nat):SortSt:=SortSt.mk' κ (p.map item) pend g none
def zxc(prog:Program)(w:World)(A:Around)(s:Shared)(κ:SortKind)(item:Nat->Keyed)(lt:Nat->Nat->Bool)(n:Nat):Prop :=
 ∀(i j:Nat),i<n->j<n->∀(Q:Bool->Shared->Prop),Q (lt i j) s->wpAny (model prog w) A (keyLt' κ (item i).1 (item j).1) Q (λ_ _=>False) s
theorem ydk{i j:Nat}{Q:Option Bool->SortSt->Prop}(hA:zxc prog w A s κ item lt n)(hi:i<n)(hj:j<n)(h:Q (some (lt i j)) (SS κ item p pend g)):wpS (model prog w) A E s (lt' (item i) (item j)) Q (SS κ item p pend g):=by
 rw[lt'_eq];refine be (nq ?_);refine be (wpS_lift (kn (ye (hA i j hi hj (λb s'=>s'=s/\b=lt i j) ⟨rfl,rfl⟩) (λb s' hb=>?_) λ_ _ hF=>hF.elim)));obtain⟨rfl,rfl⟩:=hb;exact⟨rfl,uf h⟩
theorem zxd{st:SortSt}{l:Array Nat}{i x:Nat}{Q:Keyed->SortSt->Prop}(hx:l[i]?=some x)(h:Q (item x) st):wpS (model prog w) A E s (elem' (l.map item) i) Q st:=by
 rw[elem'_eq,Array.getElem?_map,hx];exact uf h
theorem zgg{i j:Nat}{Q:Option Bool->SortSt->Prop}(hA:zxc prog w A s κ item lt n)(hp:Ixs n p)(hi:i<n)(hj:j<n)(h:Q (some (lt (ga p i) (ga p j))) (SS κ item p pend g)):wpS (model prog w) A E s (ltAt' i j) Q (SS κ item p pend g):=by
 rw[ltAt'_eq];refine be (nq ?_);exact be (zxd (hp.get hi) (be (zxd (hp.get hj) (ydk hA (hp.bd hi) (hp.bd hj) h))))
theorem zur{i j:Nat}{Q:Unit->SortSt->Prop}(h:Q () (SS κ item (mirror p i j ((j - i) / 2)) pend g)):wpS (model prog w) A E s (reverseSlice' i j) Q (SS κ item p pend g):=by
 rw[reverseSlice'_eq];refine zo ?_;have e:mirror (p.map item) i j ((j - i) / 2)=(mirror p i j ((j - i) / 2)).map item:=(zgf item _ _ _ p).symm;show Q () (SortSt.mk' κ (mirror (p.map item) i j ((j - i) / 2)) pend g none);rw[e];exact h
theorem z5s{i j:Nat}{Q:Unit->SortSt->Prop}(h:Q () (SS κ item (bubble p i (i - j)) pend g)):wpS (model prog w) A E s (moveDown' i j) Q (SS κ item p pend g):=by
 rw[moveDown'_eq];refine zo ?_;have e:bubble (p.map item) i (i - j)=(bubble p i (i - j)).map item:=(zgf item _ _ _ p).symm;show Q () (SortSt.mk' κ (bubble (p.map item) i (i - j)) pend g none);rw[e];exact h
theorem zmx(hp:Ixs n p){i j:Nat}(hj:j<=n)(k:Nat):ga (mirror p i j ((j - i) / 2)) k=if i<=k/\k<j then ga p (i+j - 1 - k) else ga p k:=by
 rw[ga_eq,getElem?_mirror_all (by rw[hp.size];exact hj)]
 split <;> rw[ga_eq]
theorem Ixs.rev(hp:Ixs n p)(i j d:Nat):Ixs n (mirror p i j d):=hp.of (mirror_perm p i j d)
def UpF(lt:Nat->Nat->Bool)(p:Array Nat)(a k:Nat):Prop:=∀i j,a<=i->i<=j->j<a+k->lt (ga p j) (ga p i)=false
def DwF(lt:Nat->Nat->Bool)(p:Array Nat)(a k:Nat):Prop:=∀i j,a<=i->i<=j->j<a+k->lt (ga p i) (ga p j)=false
theorem UpF.one(w:WOr lt){a:Nat}:UpF lt p a 1:=λi j h1 h2 h3=>by
 have:i=j:=by omega
 rw[this];exact w.irr _
theorem UpF.snoc(w:WOr lt){a k:Nat}(h:UpF lt p a k)(h0:0<k)(hk:lt (ga p (a+k)) (ga p (a+k - 1))=false):UpF lt p a (k+1):=λi j h1 hij hj=>by
 by_cases e:j=a+k
 ·subst e
  by_cases e2:i=a+k
  ·subst e2;exact w.irr _
  ·exact w.le (h i (a+k - 1) h1 (by omega) (by omega)) hk
 ·exact h i j h1 hij (by omega)
theorem DwF.snoc(w:WOr lt){a k:Nat}(h:DwF lt p a k)(h0:0<k)(hk:lt (ga p (a+k - 1)) (ga p (a+k))=false):DwF lt p a (k+1):=λi j h1 hij hj=>by
 by_cases e:j=a+k
 ·subst e
  by_cases e2:i=a+k
  ·subst e2;exact w.irr _
  ·exact w.le hk (h i (a+k - 1) h1 (by omega) (by omega))
 ·exact h i j h1 hij (by omega)
def Sme(lt:Nat->Nat->Bool)(p q:Array Nat):Prop:=∀k,lt (ga p k) (ga q k)=false/\lt (ga q k) (ga p k)=false
theorem DwF.sme(w:WOr lt){q:Array Nat}{a k:Nat}(h:DwF lt p a k)(e:Sme lt p q):DwF lt q a k:=λi j h1 hij hj=>w.le (w.le (e j).1 (h i j h1 hij hj)) (e i).2
theorem zll(w:WOr lt)(hp:Ixs n p){i j:Nat}(hj:j<=n)(he:∀a b,i<=a->a<j->i<=b->b<j->lt (ga p a) (ga p b)=false):Sme lt p (mirror p i j ((j - i) / 2)):=λk=>by
 rw[zmx hp hj];split
 ·rename_i h;exact⟨he _ _ (by omega) (by omega) (by omega) (by omega),he _ _ (by omega) (by omega) (by omega) (by omega)⟩
 ·exact⟨w.irr _,w.irr _⟩
theorem DwF.turn(hp:Ixs n p){a k:Nat}(hk:a+k<=n)(h:DwF lt p a k):UpF lt (mirror p a (a+k) ((a+k - a) / 2)) a k:=λi j h1 hij hj=>by
 rw[zmx hp hk,zmx hp hk,la ⟨by omega,hj⟩,la ⟨h1,by omega⟩];exact h _ _ (by omega) (by omega) (by omega)
def Kpt(p q:Array Nat)(a:Nat):Prop:=∀k,k<a->ga q k=ga p k
theorem Kpt.rfl{a:Nat}:Kpt p p a:=λ_ _=>by rfl
theorem Kpt.trans{q r:Array Nat}{a:Nat}(h1:Kpt p q a)(h2:Kpt q r a):Kpt p r a:=λk hk=>(h2 k hk).trans (h1 k hk)
theorem Kpt.rev(hp:Ixs n p){a i j:Nat}(hi:a<=i)(hj:j<=n):Kpt p (mirror p i j ((j - i) / 2)) a:=λk hk=>by
 rw[zmx hp hj,wa (by omega)]
end
section
variable {prog:Program}{w:World}{A:Around}{E:Value->Shared->Prop}{s:Shared}{κ:SortKind}{item:Nat->Keyed}{lt:Nat->Nat->Bool}{n:Nat}{p:Array Nat}{pend:Array (Nat×Nat×Nat)}{g:Nat}
noncomputable def tl3(lo m nrem:Nat):StateT SortSt Sem (Option Nat):=do
 reverseSlice' lo (lo+m)
 let mut k:=m
 for _ in [k:nrem] do
  let some c ← ltAt' (lo+k) (lo+k - 1)|return none
  if c then break
  k:=k+1
 return some k
noncomputable def dsc(lo m nrem:Nat):StateT SortSt Sem (Option Nat):=do
 liftM (rule "list.sort.descending-run")
 let mut k:=m+1
 let mut z:=0
 for _ in [k:nrem] do
  let some c ← ltAt' (lo+k) (lo+k - 1)|return none
  if c then
   if z > 0 then reverseSlice' (lo+k - (z+1)) (lo+k)
   z:=0
  else
   let some d ← ltAt' (lo+k - 1) (lo+k)|return none
   if d then break
   z:=z+1
  k:=k+1
 if z > 0 then reverseSlice' (lo+k - (z+1)) (lo+k)
 tl3 lo k nrem
theorem z5t{lo m nrem:Nat}{q:Array Nat}{Q:Option Nat->SortSt->Prop}(hA:zxc prog w A s κ item lt n)(wo:WOr lt)(hq:Ixs n q)(k0:Kpt p q lo)(hlo:lo+nrem<=n)(m1:1<=m)(m2:m<=nrem)(d:DwF lt q lo m)
  (h:∀m p',1<=m->m<=nrem->Ixs n p'->Kpt p p' lo->UpF lt p' lo m->Q (some m) (SS κ item p' pend g)):wpS (model prog w) A E s (tl3 lo m nrem) Q (SS κ item q pend g):=by
 unfold tl3;refine be (zur ?_);have hr:Ixs n (mirror q lo (lo+m) ((lo+m - lo) / 2)):=hq.rev _ _ _;have hk:Kpt p (mirror q lo (lo+m) ((lo+m - lo) / 2)) lo:=k0.trans (Kpt.rev hq (va _) (by omega));have u0:=d.turn hq (show lo+m<=n by omega);generalize mirror q lo (lo+m) ((lo+m - lo) / 2)=r at hr hk u0 ⊢;refine be (qm (ni (I:=λx c t=>c=(none,x)/\t=SS κ item r pend g/\UpF lt r lo x) (Q:=λc t=>∃k,c=(none,k)/\1<=k/\k<=nrem/\t=SS κ item r pend g/\UpF lt r lo k) ?go ?fi ⟨rfl,rfl,u0⟩) ?nx)
 case fi =>
  rintro c t ⟨rfl,rfl,u⟩;exact⟨_,rfl,by omega,by omega,rfl,u⟩
 case go =>
  rintro x c t hx1 hx2 ⟨rfl,rfl,u⟩;dsimp only;refine be (zgg hA hr (by omega) (by omega) ?_);dsimp only
  cases hc:lt (ga r (lo+x)) (ga r (lo+x - 1)) with
  |true=>rw[la rfl];exact uf ⟨x,rfl,by omega,by omega,rfl,u⟩
  |false=>rw[wa ua];exact uf ⟨rfl,rfl,u.snoc wo (by omega) hc⟩
 case nx =>
  rintro c t ⟨k,rfl,k1,k2,rfl,u⟩;exact uf (h k r k1 k2 hr hk u)
theorem z5u{lo m nrem:Nat}{q:Array Nat}{Q:Option Nat->SortSt->Prop}(hA:zxc prog w A s κ item lt n)(wo:WOr lt)(hq:Ixs n q)(k0:Kpt p q lo)(hlo:lo+nrem<=n)(m1:1<=m)(m2:m+1<=nrem)(d:DwF lt q lo (m+1))
  (h:∀m p',1<=m->m<=nrem->Ixs n p'->Kpt p p' lo->UpF lt p' lo m->Q (some m) (SS κ item p' pend g)):wpS (model prog w) A E s (dsc lo m nrem) Q (SS κ item q pend g):=by
 unfold dsc;refine be (wpS_lift (oj ⟨rfl,?_⟩))
 let Z:Array Nat->Nat->Nat->Prop:=λr x z=>Ixs n r/\Kpt p r lo/\DwF lt r lo x/\z+1<=x/\∀a b,lo+x - (z+1)<=a->a<lo+x->lo+x - (z+1)<=b->b<lo+x->lt (ga r a) (ga r b)=false
 have one:∀(r:Array Nat) (x:Nat),∀a b,lo+x - (0+1)<=a->a<lo+x->lo+x - (0+1)<=b->b<lo+x->lt (ga r a) (ga r b)=false:=λr x a b _ _ _ _=>by
  have:a=b:=by omega
  rw[this];exact wo.irr _
 refine be (qm (ni (I:=λx c t=>∃r z,c=(none,x,z)/\t=SS κ item r pend g/\Z r x z) (Q:=λc t=>∃r x z,c=(none,x,z)/\t=SS κ item r pend g/\x<=nrem/\Z r x z) ?go ?fi ⟨q,0,rfl,rfl,hq,k0,d,by omega,one _ _⟩) ?nx)
 case fi =>
  rintro c t ⟨r,z,rfl,rfl,hZ⟩;exact⟨r,_,z,rfl,rfl,by omega,hZ⟩
 case go =>
  rintro x c t hx1 hx2 ⟨r,z,rfl,rfl,hr,hk,hd,hz,he⟩;dsimp only;refine be (zgg hA hr (by omega) (by omega) ?_);dsimp only
  cases hc:lt (ga r (lo+x)) (ga r (lo+x - 1)) with
  |true =>
   rw[la rfl];have hd':=hd.snoc wo (by omega) (wo.asy _ _ hc);by_cases z0:z > 0
   ·rw[la z0]
    refine be (zur (uf ⟨_,0,rfl,rfl,hr.rev _ _ _,hk.trans (Kpt.rev hr (by omega) (by omega)),hd'.sme wo (zll wo hr (by omega) he),by omega,one _ _⟩))
   ·rw[wa z0]
    exact uf ⟨_,0,rfl,rfl,hr,hk,hd',by omega,one _ _⟩
  |false =>
   rw[wa ua];refine be (zgg hA hr (by omega) (by omega) ?_);dsimp only
   cases hb:lt (ga r (lo+x - 1)) (ga r (lo+x)) with
   |true=>rw[la rfl];exact uf ⟨r,x,z,rfl,rfl,by omega,hr,hk,hd,hz,he⟩
   |false =>
    rw[wa ua];refine uf ⟨r,z+1,rfl,rfl,hr,hk,hd.snoc wo (by omega) hb,by omega,λa b a1 a2 b1 b2=>?_⟩;by_cases ea:a=lo+x
    ·by_cases eb:b=lo+x
     ·rw[ea,eb];exact wo.irr _
     ·rw[ea];exact wo.le (he (lo+x - 1) b (by omega) (by omega) (by omega) (by omega)) hc
    ·by_cases eb:b=lo+x
     ·rw[eb];exact wo.le hb (he a (lo+x - 1) (by omega) (by omega) (by omega) (by omega))
     ·exact he a b (by omega) (by omega) (by omega) (by omega)
 case nx =>
  rintro c t ⟨r,x,z,rfl,rfl,hx,hr,hk,hd,hz,he⟩;dsimp only;by_cases z0:z > 0
  ·rw[la z0]
   exact be (zur (z5t hA wo (hr.rev _ _ _) (hk.trans (Kpt.rev hr (by omega) (by omega))) hlo (by omega) hx (hd.sme wo (zll wo hr (by omega) he)) h))
  ·rw[wa z0]
   exact z5t hA wo hr hk hlo (by omega) hx hd h
theorem z0v{lo nrem:Nat}{Q:Option Nat->SortSt->Prop}(hA:zxc prog w A s κ item lt n)(wo:WOr lt)(hp:Ixs n p)(hlo:lo+nrem<=n)(h1:1<=nrem)
  (h:∀m p',1<=m->m<=nrem->Ixs n p'->Kpt p p' lo->UpF lt p' lo m->Q (some m) (SS κ item p' pend g)):wpS (model prog w) A E s (countRun' lo nrem) Q (SS κ item p pend g):=by
 rw[countRun'_eq];refine be (qm (ni (I:=λx c t=>c=(none,x)/\t=SS κ item p pend g/\UpF lt p lo x) (Q:=λc t=>∃m,c=(none,m)/\1<=m/\m<=nrem/\t=SS κ item p pend g/\UpF lt p lo m/\(m<nrem->lt (ga p (lo+m)) (ga p (lo+m - 1))=true)) ?go ?fi ⟨rfl,rfl,UpF.one wo⟩) ?nx)
 case fi =>
  rintro c t ⟨rfl,rfl,u⟩;exact⟨_,rfl,by omega,by omega,rfl,u,λz=>absurd z (by omega)⟩
 case go =>
  rintro x c t hx1 hx2 ⟨rfl,rfl,u⟩;dsimp only;refine be (zgg hA hp (by omega) (by omega) ?_);dsimp only
  cases hc:lt (ga p (lo+x)) (ga p (lo+x - 1)) with
  |true=>rw[la rfl];exact uf ⟨x,rfl,hx1,by omega,rfl,u,λ_=>hc⟩
  |false=>rw[wa ua];exact uf ⟨rfl,rfl,u.snoc wo (by omega) hc⟩
 case nx =>
  rintro c t ⟨m,rfl,m1,m2,rfl,u,hm⟩;dsimp only;by_cases e:m=nrem
  ·rw[la (by simp[e])]
   exact uf (h m p m1 m2 hp Kpt.rfl u)
  rw[wa (by simp[e])];have hlt:=hm (by omega);have hk:=wo.asy _ _ hlt;by_cases m0:m > 1
  ·rw[la m0]
   refine be (zgg hA hp (by omega) (by omega) ?_);dsimp only
   cases hc:lt (ga p lo) (ga p (lo+m - 1)) with
   |true=>rw[la rfl];exact uf (h m p m1 m2 hp Kpt.rfl u)
   |false =>
    rw[wa ua];have eqs:∀a b,lo<=a->a<lo+m->lo<=b->b<lo+m->lt (ga p a) (ga p b)=false:=λa b a1 a2 b1 b2=>wo.le (wo.le (u b (lo+m - 1) b1 (by omega) (by omega)) hc) (u lo a (va _) a1 a2)
    have d0:DwF lt p lo m:=λi j i1 hij hj=>eqs i j i1 (by omega) (by omega) hj
    exact be (zur (z5u hA wo (hp.rev _ _ _) (Kpt.rev hp (va _) (by omega)) hlo m1 (by omega) ((d0.snoc wo (by omega) hk).sme wo (zll wo hp (by omega) eqs)) h))
  ·rw[wa m0]
   have:m=1:=by omega
   subst this
   exact z5u hA wo hp Kpt.rfl hlo m1 (by omega) (DwF.snoc wo (λ i j i1 hij hj=>by
    have:i=j:=by omega
    rw[this];exact wo.irr _) (by omega) hk) h
theorem yai{lo m ok:Nat}{Q:Bool->SortSt->Prop}(hA:zxc prog w A s κ item lt n)(wo:WOr lt)(hp:Ixs n p)(hlo:lo+m<=n)(h1:1<=ok)(hok:ok<=m)(u:UpF lt p lo ok)
  (h:∀p',Ixs n p'->Kpt p p' lo->UpF lt p' lo m->Q true (SS κ item p' pend g)):wpS (model prog w) A E s (binarySort' lo m ok) Q (SS κ item p pend g):=by
 rw[binarySort'_eq];have e1:max ok 1=ok:=by omega
 refine be (qm (ni (I:=λx c t=>c=(none,())/\∃r,t=SS κ item r pend g/\Ixs n r/\Kpt p r lo/\UpF lt r lo x) (Q:=λc t=>c=(none,())/\∃r,t=SS κ item r pend g/\Ixs n r/\Kpt p r lo/\UpF lt r lo m) ?go ?fi ⟨rfl,p,rfl,hp,Kpt.rfl,by rw[e1];exact u⟩) ?nx)
 case fi =>
  rintro c t ⟨rfl,r,rfl,hr,hk,hu⟩;exact⟨rfl,r,rfl,hr,hk,by rw[show max (max ok 1) m=m by omega]at hu;exact hu⟩
 case nx =>
  rintro c t ⟨rfl,r,rfl,hr,hk,hu⟩;exact uf (h r hr hk hu)
 case go =>
  rintro k c t hk1 hk2 ⟨rfl,r,rfl,hr,hk,hu⟩;dsimp only
  refine wpS_bind (wpS_mono (wpS_forRange (I:=λ x c t=>t=SS κ item r pend g/\∃ a b,c=(none,a,b)/\a<=b/\b<=k/\(b - a)+x<=k/\(∀ i,i<a->lt (ga r (lo+k)) (ga r (lo+i))=false)/\∀ i,b<=i->i<k->lt (ga r (lo+k)) (ga r (lo+i))=true)
   (Q:=λc t=>t=SS κ item r pend g/\∃a b,c=(none,a,b)/\a<=k/\(∀i,i<a->lt (ga r (lo+k)) (ga r (lo+i))=false)/\∀i,a<=i->i<k->lt (ga r (lo+k)) (ga r (lo+i))=true) ?go2 ?fi2 ⟨rfl,0,k,rfl,by omega,by omega,by omega,λi hi=>absurd hi (by omega),λi h1 h2=>absurd h1 (by omega)⟩) ?nx2)
  case fi2 =>
   rintro c t ⟨rfl,a,b,rfl,x1,x2,x3,x4,x5⟩;exact⟨rfl,a,b,rfl,by omega,x4,λi hi=>x5 i (by omega)⟩
  case go2 =>
   rintro x c t hx1 hx2 ⟨rfl,a,b,rfl,x1,x2,x3,x4,x5⟩;dsimp only;by_cases hab:a ≥ b
   ·rw[la hab]
    exact uf ⟨rfl,a,b,rfl,by omega,x4,λi hi=>x5 i (by omega)⟩
   rw[wa hab];refine be (zgg hA hr (by omega) (by omega) ?_);dsimp only
   cases hc:lt (ga r (lo+k)) (ga r (lo+(a+b) / 2)) with
   |true =>
    rw[la rfl];refine uf ⟨rfl,a,(a+b) / 2,rfl,by omega,by omega,by omega,x4,λi i1 i2=>?_⟩;rcases wo.nt _ (ga r (lo+i)) _ hc with z|z
    ·exact z
    ·rw[hu (lo+(a+b) / 2) (lo+i) (by omega) (by omega) (by omega)]at z;cases z
   |false =>
    rw[wa ua];exact uf ⟨rfl,(a+b) / 2+1,b,rfl,by omega,by omega,by omega,λi hi=>wo.le (hu (lo+i) (lo+(a+b) / 2) (by omega) (by omega) (by omega)) hc,x5⟩
  case nx2 =>
   rintro c t ⟨rfl,a,b,rfl,a1,x4,x5⟩;dsimp only
   have at_:∀i,ga (bubble r (lo+k) (lo+k - (lo+a))) i=if i=lo+a then ga r (lo+k) else if lo+a<i/\i<=lo+k then ga r (i - 1) else ga r i:=λi=>by
    rw[ga_eq,getElem?_bubble (by rw[hr.size];omega) _ (by omega),show lo+k - (lo+k - (lo+a))=lo+a by omega];split
    ·rw[ga_eq]
    ·split <;> rw[ga_eq]
   refine be (z5s (uf ⟨rfl,_,rfl,hr.of (bubble_perm _ _ _),hk.trans λi hi=>?_,λi j i1 hij hj=>?_⟩))
   ·rw[at_,wa (by omega),wa (by omega)]
   rw[at_,at_];by_cases ej:j=lo+a
   ·rw[la ej]
    by_cases ei:i=lo+a
    ·rw[la ei];exact wo.irr _
    ·rw[wa ei,wa (by omega)]
     have:=x4 (i - lo) (by omega)
     rw[show lo+(i - lo)=i by omega]at this;exact this
   ·rw[wa ej]
    by_cases ei:i=lo+a
    ·rw[la ei,la ⟨by omega,by omega⟩]
     have:=x5 (j - 1 - lo) (by omega) (by omega)
     rw[show lo+(j - 1 - lo)=j - 1 by omega]at this;exact wo.asy _ _ this
    ·rw[wa ei]
     by_cases hj2:lo+a<j
     ·rw[la ⟨hj2,by omega⟩]
      by_cases hi2:lo+a<i
      ·rw[la ⟨hi2,by omega⟩];exact hu _ _ (by omega) (by omega) (by omega)
      ·rw[wa (by omega)];exact hu _ _ (by omega) (by omega) (by omega)
     ·rw[wa (by omega),wa (by omega)];exact hu _ _ (by omega) hij (by omega)
end
theorem zjz:∀f n r:Nat,r<=1->1<=n->r=0\/64<=2 * n+1->(64<=n->1<=f)->minRun' f n r<=(if r=0 then n else n+1)
 |0,n,r,h1,h2,h3,h4=>by
  show n+r<=_
  split <;> omega
 |f+1,n,r,h1,h2,h3,h4=>by
  rw[minRun'_succ];by_cases h:n<64
  ·rw[la h];split <;> omega
  ·rw[wa h]
   have hb:minRun' f (n / 2) (max r (n % 2))<=n:=by
    by_cases hf:64<=n / 2->1<=f
    ·have:=zjz f (n / 2) (max r (n % 2)) (by omega) (by omega) (by omega) hf
     split at this <;> omega
    ·have:f=0:=by omega
     subst this;show n / 2+max r (n % 2)<=n;omega
   split <;> omega
section
variable {prog:Program}{w:World}{A:Around}{E:Value->Shared->Prop}{s:Shared}{κ:SortKind}{item:Nat->Keyed}{lt:Nat->Nat->Bool}{n:Nat}{p:Array Nat}{pend:Array (Nat×Nat×Nat)}{g:Nat}
theorem yaj{Q:Option Nat->SortSt->Prop}(hA:zxc prog w A s κ item lt n)(hp:Ixs n p)(h1:1<=n)(u:UpF lt p 0 n)(h:Q (some n) (SS κ item p pend g)):wpS (model prog w) A E s (countRun' 0 n) Q (SS κ item p pend g):=by
 rw[countRun'_eq];refine be (qm (ni (I:=λx c t=>c=(none,x)/\t=SS κ item p pend g) (Q:=λc t=>c=(none,n)/\t=SS κ item p pend g) ?go ?fi ⟨rfl,rfl⟩) ?nx)
 case fi =>
  rintro c t ⟨rfl,rfl⟩;exact⟨by rw[show max 1 n=n by omega],rfl⟩
 case go =>
  rintro x c t hx1 hx2 ⟨rfl,rfl⟩;dsimp only;refine be (zgg hA hp (by omega) (by omega) ?_);dsimp only;rw[u (0+x - 1) (0+x) (by omega) (by omega) (by omega),wa ua];exact uf ⟨rfl,rfl⟩
 case nx =>
  rintro c t ⟨rfl,rfl⟩;dsimp only;rw[la (by simp)];exact uf h
theorem s_sort1{Q:Unit->SortSt->Prop}(hA:zxc prog w A s κ item lt n)(wo:WOr lt)(hp:Ixs n p)(h2:2<=n)(hc:n<64\/UpF lt p 0 n)
  (h:∀q pend,Ixs n q->UpF lt q 0 n->Q () (SS κ item q pend 7)):wpS (model prog w) A E s sortRuns' Q (SS κ item p #[] 7):=by
 have hz:(arrOf (SS κ item p #[] 7)).size=n:=by show (p.map item).size=n;rw[Array.size_map,hp.size]
 have r1:minRun' n n 0<=n:=by
  have:=zjz n n 0 (by omega) (by omega) (.inl rfl) (by omega)
  rwa [la rfl]at this
 have r2:n<64->minRun' n n 0=n:=λh=>by
  obtain⟨f,rfl⟩:∃f,n=f+1:=⟨n - 1,by omega⟩
  rw[minRun'_succ,la h]
 rw[sortRuns'_eq];refine be (nq ?_);simp only[hz];generalize minRun' n n 0=mr at r1 r2
 let J:SortSt->Prop:=λt=>∃q,t=SS κ item q #[(0,n,0)] 7/\Ixs n q/\UpF lt q 0 n
 refine be (qm (ni (I:=λx c t=>(x=0/\c=(none,0)/\t=SS κ item p #[] 7)\/(1<=x/\c=(none,n)/\J t)) (Q:=λc t=>c=(none,n)/\J t) ?go ?fi (.inl ⟨rfl,rfl,rfl⟩)) ?nx)
 case fi =>
  rintro c t (⟨z,_⟩|⟨_,q⟩)
  ·omega
  ·exact q
 case go =>
  rintro x c t hx1 hx2 (⟨rfl,rfl,rfl⟩|⟨x1,rfl,j⟩)
  ·dsimp only
   rw[wa (by omega)];rcases hc with hc|hc
   ·refine be (z0v hA wo hp (by omega) (by omega) λm p' m1 m2 hp' hk' hu'=>?_)
    dsimp only;rw[r2 hc];by_cases hm:m<n
    ·rw[la hm]
     refine be (wpS_lift (oj ⟨rfl,?_⟩));refine be (yai hA wo hp' (by omega) m1 (by omega) hu' λp2 hp2 hk2 hu2=>?_);rw[show min (n - 0) n=n by omega]at hu2 ⊢;rw[wa (by simp)];refine be (nq ?_);show wpS _ _ _ _ (modify _ >>= _) _ _;exact be (zo (uf (.inr ⟨by omega,by simp,p2,rfl,hp2,hu2⟩)))
    ·rw[wa hm]
     have:m=n:=by omega
     subst this;refine be (nq ?_);show wpS _ _ _ _ (modify _ >>= _) _ _;exact be (zo (uf (.inr ⟨by omega,by simp,p',rfl,hp',hu'⟩)))
   ·refine be (yaj hA hp (by omega) hc ?_)
    dsimp only;rw[wa (by omega)];refine be (nq ?_);show wpS _ _ _ _ (modify _ >>= _) _ _;exact be (zo (uf (.inr ⟨by omega,by simp,p,rfl,hp,hc⟩)))
  ·dsimp only
   rw[la (va _)];exact uf ⟨rfl,j⟩
 case nx =>
  rintro c t ⟨rfl,q,rfl,hq,hu⟩;dsimp only;refine be (qm (ni (I:=λ_ c u=>u=SS κ item q #[(0,n,0)] 7/\c=(none,())) (Q:=λc u=>u=SS κ item q #[(0,n,0)] 7/\c=(none,())) ?_ (λ_ _ z=>z) ⟨rfl,rfl⟩) ?_)
  ·rintro x c u _ _ ⟨rfl,rfl⟩
   refine be (nq ?_);rw[la (show (#[(0,n,0)]:Array (Nat×Nat×Nat)).size<=1 from va 1)];exact uf ⟨rfl,rfl⟩
  ·rintro c u ⟨rfl,rfl⟩
   exact uf (h q _ hq hu)
end
end Tim
namespace L2
open PySem PySem.Spec PyProof.Rows
section
variable {prog:Program}{w:World}{A:Around}{E:Value->Shared->Prop}{s:Shared}
theorem zus{k:Nat}{ds es:List D}{its its':List Value}(p:Paired (HD s.heap k) ds its)(p':Paired (HD s.heap k) es its')(ho:∀q∈ds.zip es,zl2 k q.1 q.2)(hu:A.units+k<cLine)(j:Nat)(j1:j<its.toArray.size)(j2:j<its'.toArray.size) :
  SeqAt.EqAt A s its.toArray[j] its'.toArray[j] (eAt (eqD k) ds es j)/\(eAt (eqD k) ds es j=false->zyr A s its.toArray[j] its'.toArray[j] (eAt (ltD k) ds es j)):=by
 have x1:its[j]?=some its.toArray[j]:=by simp at j1;simp[j1]
 have x2:its'[j]?=some its'.toArray[j]:=by simp at j2;simp[j2]
 obtain⟨d,q1,r1⟩:=za0 p x1;obtain⟨e,q2,r2⟩:=za0 p' x2;have z:eAt (eqD k) ds es j=eqD k d e:=by unfold eAt;rw[q1,q2]
 have z':eAt (ltD k) ds es j=ltD k d e:=by unfold eAt;rw[q1,q2]
 rw[z,z'];exact⟨zk1 r1 r2 hu,λ_=>ztg r1 r2 (ho (d,e) (zk2 q1 q2)) hu⟩
theorem zhl{k:Nat}{ds es:List D}{u v:Value}{Q:Bool->Shared->Prop}(h1:HD s.heap (k+1) (.lst ds) u)(h2:HD s.heap (k+1) (.lst es) v)(ho:zl2 (k+1) (.lst ds) (.lst es))(hu:A.units+(k+1)<cLine)(q:Q (ltD (k+1) (.lst ds) (.lst es)) s):wpAny (model prog w) A (oneLt' true u v) Q E s:=by
 obtain⟨a,its,rfl,t,p⟩:=h1;obtain⟨a',its',rfl,t',p'⟩:=h2;have l1:=p.length;have l2:=p'.length;obtain⟨⟨cls,dd,data,sl⟩,hx,hc,n,hd⟩:=t.isList;obtain⟨⟨cls2,dd2,data2,sl2⟩,hx2,hc2,n2,hd2⟩:=t'.isList;simp only at hc hd hc2 hd2;subst hc hd hc2 hd2
 have q':Q (zjg (eAt (eqD k) ds es) (eAt (ltD k) ds es) its.toArray.size its'.toArray.size its.toArray.size 0) s:=by
  simp only[oa];rw[<-l1,<-l2,zfx];exact q
 rw[oneLt'_eq];simp only[wk];refine aa (wpAny_cRoomFor_or (.inr (by omega)) ?_);refine aa (wpAny_callSpecialIfBound?_slot (name:=Str.ofString "__lt__") ⟨_,hx,rfl⟩ PySem.F.slot_list_lt (qk PySem.F.slot_list_lt ⟨_,hx,rfl⟩ PySem.F.entry_list_lt (PySem.F.args_list_lt_2 _ _) (zjh a a' its.toArray its'.toArray n n2 dd dd2 sl sl2 _ _) ⟨hx,hx2,zus p p' ho (by show A.units+1+k<cLine;omega),?_⟩));exact gg q'
noncomputable def zmy:D->Bool|.lst _=>true|_=>false
theorem zj0{k:Nat}{Q:Bool->Shared->Prop}{fin:Bool}(hu:A.units+(k+1)<cLine):∀{ds es:List D}{its its':List Value} (i:Nat),Paired (HD s.heap (k+1)) ds its->Paired (HD s.heap (k+1)) es its'->(∀q∈ds.zip es,zl2 (k+1) q.1 q.2) →
  (i=0->(ds.head?.map zmy).getD true=true/\(es.head?.map zmy).getD true=true)->fin=decide (ds.length<es.length)->Q (lex (eqD (k+1)) (ltD (k+1)) ds es) s->PySem.W.KatLex prog w A true fin Q (its.zip its') i s
 |[],[],_,_,i,.nil,.nil,_,_,hf,q=>by subst hf;exact PySem.W.kat_nil (by simpa [lex] using q)
 |[],_::_,_,_,i,.nil,.cons _ _,_,_,hf,q=>by subst hf;exact PySem.W.kat_nil (by simpa [lex] using q)
 |_::_,[],_,_,i,.cons _ _,.nil,_,_,hf,q=>by subst hf;exact PySem.W.kat_nil (by simpa [lex] using q)
 |d::ds,e::es,_,_,i,.cons a b,.cons a' b',ho,hh,hf,q=>by
  rw[vg];have ho':∀q∈ds.zip es,zl2 (k+1) q.1 q.2:=λq hq=>ho q (by rw[vg];exact ja _ hq)
  have hde:=ho (d,e) (by rw[vg];exact xa);refine PySem.W.kat_cons (zk1 a a' hu prog w _ _ (PySem.W.kat_go (λhe=>PySem.W.kat_yes ?_) λhe=>PySem.W.kat_no ?_))
  ·refine zj0 hu (i+1) b b' ho' (λz=>by omega) (by rw[hf];simp) ?_
   rw[lex,la he]at q;exact q
  ·rw[lex,wa (by rw[he];exact ua)]at q
   by_cases hi:i=0
   ·subst hi
    obtain⟨x1,x2⟩:=hh rfl
    cases d with
    |lst ds' =>
     cases e with
     |lst es'=>exact zhl a a' hde hu q
     |_=>cases x2
    |_=>cases x1
   ·have:(true && (i == 0))=false:=by simp[hi]
    rw[this];exact PySem.W.kat_one _ _ (ztg a a' hde hu prog w _ _ q)
noncomputable def z0w:D->Bool
 |.lst _=>true
 |.tup (.lst _::_)=>true
 |_=>false
theorem z5v{k:Nat}{d e:D}{u v:Value}{κ:SortKind}{Q:Bool->Shared->Prop}(h1:HD s.heap (k+2) d u)(h2:HD s.heap (k+2) e v)(ho:zl2 (k+2) d e)(hu:A.units+(k+2)<cLine)
  (hk:(κ=oneType'/\zmy d=true/\zmy e=true)\/(κ=tuples' true/\zmy d=false/\zmy e=false/\z0w d=true/\z0w e=true)) (q:Q (ltD (k+2) d e) s):wpAny (model prog w) A (keyLt' κ u v) Q E s:=by
 rcases hk with⟨rfl,x1,x2⟩|⟨rfl,x1,x2,x3,x4⟩
 ·cases d with
  |lst ds =>
   cases e with
   |lst es=>rw[keyLt'_oneType];exact zhl h1 h2 ho hu q
   |_=>cases x2
  |_=>cases x1
 ·cases d with
  |tup ds =>
   cases e with
   |tup es =>
    obtain⟨a,its,rfl,t,p⟩:=h1;obtain⟨a',its',rfl,t',p'⟩:=h2;obtain⟨ox,hx,hc,n,hd⟩:=t;obtain⟨oy,hy,hc2,n2,hd2⟩:=t';refine PySem.W.kat_lt hx hd hy hd2 (zj0 (k:=k) (by omega) 0 p p' ho (λ_=>?_) ?_ q)
    ·cases ds with
     |nil=>cases x3
     |cons d0 ds =>
      cases es with
      |nil=>cases x4
      |cons e0 es =>
       refine⟨?_,?_⟩
       ·cases d0 <;> first|rfl|cases x3
       ·cases e0 <;> first|rfl|cases x4
    ·rw[oa,oa,<-p.length,<-p'.length]
   |sc _=>cases x4
   |lst _=>cases x2
   |dk _ _=>cases x4
   |dt _ _=>cases x4
   |er _ _ _=>cases x4
  |sc _=>cases x3
  |lst _=>cases x1
  |dk _ _=>cases x3
  |dt _ _=>cases x3
  |er _ _ _=>cases x3
end
theorem zqy{h:Heap}:∀{k:Nat}{d e:D}{u v:Value},HD h k d u->HD h k e v->ltD k d e=dlt d e/\(zb4 d e=true->zl2 k d e):=by
 intro k
 induction k with
 |zero =>
  intro d e u v h1 h2
  cases d with
  |sc a =>
   cases e with
   |sc b=>rw[dlt,zb4];exact⟨rfl,λh=>h⟩
   |_=>exact h2.elim
  |_=>exact h1.elim
 |succ k ih =>
  intro d e u v h1 h2
  have all:∀{ds es:List D} {us vs:List Value},Paired (HD h k) ds us->Paired (HD h k) es vs->lex (eqD k) (ltD k) ds es=zcr ds es/\(zdc ds es=true->∀p∈ds.zip es,zl2 k p.1 p.2):=by
   intro ds es us vs p
   induction p generalizing es vs with
   |nil=>intro q;cases q <;> simp[lex,zcr]
   |cons a b ih2 =>
    intro q
    cases q with
    |nil=>simp[lex,zcr]
    |cons a' b' =>
     obtain⟨i1,i2⟩:=ih2 b';obtain⟨j1,j2⟩:=ih a a';refine⟨?_,λh=>?_⟩
     ·rw[lex,zcr,zp6 a a',i1,j1]
     ·rw[zdc,ub]at h
      intro p hp;rw[vg]at hp;rcases pb.mp hp with rfl|hp
      ·exact j2 h.1
      ·exact i2 h.2 p hp
  cases d with
  |sc a =>
   cases e with
   |sc b=>rw[dlt,zb4];exact⟨rfl,λh=>h⟩
   |_=>simp[ltD,dlt,zb4]
  |tup ds =>
   cases e with
   |tup es=>obtain⟨_,_,_,_,p⟩:=h1;obtain⟨_,_,_,_,p'⟩:=h2;rw[dlt,zb4];exact all p p'
   |_=>simp[ltD,dlt,zb4]
  |lst ds =>
   cases e with
   |lst es=>obtain⟨_,_,_,_,p⟩:=h1;obtain⟨_,_,_,_,p'⟩:=h2;rw[dlt,zb4];exact all p p'
   |_=>simp[ltD,dlt,zb4]
  |_=>exact h1.elim
noncomputable def atObj(a:Addr)(o:Obj):HO:=.ext λh=>h.get? a=some o
structure KOrd(rs:List D)(lt:Nat->Nat->Bool):Prop where
 wo:WO lt
 ok:∀r∈rs,dOk LV r=true
 kd:(∀r∈rs,zmy r=true)\/∀r∈rs,zmy r=false/\z0w r=true
 lo:∀(i j:Nat) (r t:D),rs[i]?=some r->rs[j]?=some t->zb4 r t=true/\lt i j=dlt r t
section
variable {X:Cx}{pins:List (Addr×Obj)}{σ:St}{H Hf:Hp}{s:Shared}{a kS f:Addr}{e1:Nat}{E:Value->Shared->Prop}{P:PySem.Fin->Shared->Prop}{A:Around}
theorem zut{P:Program}{w:World}{H:Hp}{h:Heap}{a:Addr}{o:Obj}(e:h.get? a=some o):za8 P w H h a (atObj a o):=⟨e,⟨o,e⟩,λ_ _ p k=>k o p⟩
theorem Inv.atObj{o:Obj}(I:Inv X pins σ H s)(h:H a=some (atObj a o)):s.heap.get? a=some o:=(show za8 X.prog X.w H s.heap a (L2.atObj a o) from I.hok a _ h).1
theorem yak {st':SortSt}{ks ys:List V}{out:List Value} (I:Inv X pins σ H s) (hk:H kS=some (.lst ks)) (ha:H a=some (atObj a (seqObj "list" #[] e1))) (hne:kS≠a) (ho:(arrOf st').map (·.2)=out.toArray) (hf:failedOf st'=none) (ry:zbj ys out) (hz:out.length<=1000)
  (q:∀s',Inv X pins σ (upd (upd H kS (.lst [])) a (.lst ys)) s'->P (.done (.ret .none)) s'):wpAny (model X.prog X.w) A (ksk_tail a false e1 (.ref kS) st') P E s:=by
 obtain⟨its,n,rk,hok,hkz⟩:=I.lst hk;have haO:=I.atObj ha;have I1:Inv X pins σ (upd H kS (.lst [])) { s with heap:=s.heap.update kS (Obj.mapSeq λ_=>(#[]:Array Value)),toks:=s.toks }:=I.lstUpd (its':=[]) (n':=if (#[]:Array Value).size == its.toArray.size then n else n+1) hk hok rfl .nil (ud _) s.toks;have haO1:(s.heap.update kS (Obj.mapSeq λ_=>(#[]:Array Value))).get? a=some (seqObj "list" #[] e1):=(xb _ _ hne).trans haO;have hnew:=get?_update_seq haO1 (λ_=>out.toArray);have hH1:(upd H kS (.lst [])) a=some (atObj a (seqObj "list" #[] e1)):=by rw[zad hne.symm];exact ha
 have I2:=I1.write (x:=a) (e:=a) (o:=.lst ys) (t':=s.toks) (h':=(s.heap.update kS (Obj.mapSeq λ_=>(#[]:Array Value))).update a (Obj.mapSeq λ_=>out.toArray)) (by rw[hH1];trivial) (.inl rfl) (λb u hb e=>(xb _ _ (rf hb)).trans e) ⟨_,hnew⟩
  ⟨by rw[ry.length];exact sz (by omega),out,_,ry,hnew⟩
 unfold ksk_tail;dsimp only;refine aa (vk hok rfl ?_ (by rw[oa,<-rk.length];exact hkz) (ud _));refine aa (ll ?_);refine aa (seqEpoch_at haO1 rfl ?_);rw[ho];refine aa (vk haO1 rfl ?_ (ud _) (by show out.toArray.size<=_;rw[oa];exact wm (sz (by omega))));rw[hf];simp only[bne_self_eq_false,yb,xh];exact ia (q _ I2)
theorem yal{r:D}{k:V}{u:Value}(I:Inv X pins σ H s)(fh:zax Hf H)(dn:Dn X.K Hf r k)(o:dOk LV r=true)(rl:za7 k u):HD s.heap LV r u:=I.den ((dn.same fh).at o) rl
theorem zhm{h:Heap}:∀{rs:List D}{us:List Value},Paired (HD h LV) rs us->(∀r∈rs,zmy r=false/\z0w r=true)->∃fs,PySem.W.KatTups h us fs/\fs.length=us.length/\∀v∈fs,∃b o,v=.ref b/\h.get? b=some o/\o.cls=.type "list"
 |_,_,.nil,_=>⟨[],.nil,rfl,λv hv=>by cases hv⟩
 |r::rs,u::us,.cons a b,hr=>by
  obtain⟨fs,t,l,g⟩:=zhm b λx hx=>hr x (ja _ hx)
  obtain⟨x1,x2⟩:=hr r xa
  cases r with
  |tup ds =>
   cases ds with
   |nil=>cases x2
   |cons d0 ds =>
    cases d0 with
    |lst es =>
     obtain⟨c,its,rfl,t1,p⟩:=a;obtain⟨o,ho,hc,n,hd⟩:=t1
     cases p with
     |cons p1 p2 =>
      obtain⟨c2,its2,rfl,pl,_⟩:=p1;obtain⟨o2,ho2,hc2,_⟩:=pl.isList;refine⟨.ref c2::fs,.cons (f:=.ref c2) ho hc hd (by simp) t,by simp[l],λv hv=>?_⟩;rcases pb.mp hv with rfl|hv
      ·exact⟨c2,o2,rfl,ho2,hc2⟩
      ·exact g v hv
    |sc _=>cases x2
    |tup _=>cases x2
    |dk _ _=>cases x2
    |dt _ _=>cases x2
    |er _ _ _=>cases x2
  |lst _=>cases x1
  |sc _=>cases x2
  |dk _ _=>cases x2
  |dt _ _=>cases x2
  |er _ _ _=>cases x2
theorem zj1{M:Model}{h:Heap}{b:Addr}{o:Obj}{T:Value}(ho:h.get? b=some o)(hc:o.cls=T):PySem.W.Looks M h (typeOf (.ref b)) T:=by
 subst hc;exact(PySem.W.Looks.ld ho).andThen .now
def SzK(lt:Nat->Nat->Bool)(n:Nat):Prop:=(n<64\/Tim.UpF lt (List.range n).toArray 0 n)/\n<=1000
theorem ydl{rs:List D}{us vs:List Value}{lt:Nat->Nat->Bool}{before:Nat}{keyStore:Value}(hp:Paired (HD s.heap LV) rs us)(ord:KOrd rs lt)(hl:us.length=vs.length)(h64:SzK lt vs.length)(hu:A.units+LV<cLine)
  (tail:∀(st':SortSt) (π:Array Nat),Ix vs.length π->Up lt π vs.length->(arrOf st').map (·.2)=(π.toList.map λi=>vs.getD i Value.none).toArray->failedOf st'=none->wpAny (model X.prog X.w) A (ksk_tail a false before keyStore st') P E s) :
  wpAny (model X.prog X.w) A (ksk_end a false vs.toArray before keyStore us.toArray) P E s:=by
 unfold ksk_end;dsimp only;simp only[yb,xh];have hrl:=hp.length;by_cases h2:vs.toArray.size<2
 ·rw[la h2,la h2]
  refine aa (ia ?_);rw[StateT.run_pure];refine aa (ia ?_);dsimp only;rw[oa]at h2;refine tail _ (List.range vs.length).toArray (lh _) (λi j hij hj=>?_) ?_ rfl
  ·have:i=j:=by omega
   rw[this];exact ord.wo.irr _
  ·show ((us.toArray.zip vs.toArray)).map (·.2)=_
   have e1:(us.toArray.zip vs.toArray).map (·.2)=vs.toArray:=by
    apply ss;simp[List.map_snd_zip,hl]
   rw[e1]
   congr 1
   apply fj;intro i;by_cases hi:i<vs.length
   ·simp[hi]
   ·simp[hi]
 ·rw[wa h2,wa h2]
  rw[oa]at h2
  have run:∀κ:SortKind,((κ=oneType'/\∀r∈rs,zmy r=true)\/(κ=tuples' true/\∀r∈rs,zmy r=false/\z0w r=true))->wpAny (model X.prog X.w) A (sortRuns'.run (SortSt.mk' κ (us.toArray.zip vs.toArray) #[] 7 none) >>= λx=>ksk_tail a false before keyStore x.2) P E s:=by
   intro κ hκ
   have hitem:us.toArray.zip vs.toArray=(List.range vs.length).toArray.map λi=>(us.getD i Value.none,vs.getD i Value.none):=by
    apply ss;rw[Array.toList_zip,Array.toList_map];show us.zip vs=(List.range vs.length).map _;apply fj;intro i;rw[qc];by_cases hi:i<vs.length
    ·rw[rq hi,cc (by rw[List.length_zip];omega),List.getElem_zip]
     have hi':i<us.length:=by omega
     simp[hi,hi']
    ·rw[oh (by rw[List.length_zip];omega),oh (by simp;omega)];rfl
   have hw:Tim.WOr lt:=⟨ord.wo.irr,ord.wo.nt,ord.wo.asy⟩
   rw[hitem];refine aa (ye (Tim.s_sort1 (κ:=κ) (n:=vs.length) (lt:=lt) (item:=λi=>(us.getD i Value.none,vs.getD i Value.none)) (Q:=λ_ t=>∃π:Array Nat,Ix vs.length π/\Up lt π vs.length/\(arrOf t).map (·.2)=(π.toList.map λi=>vs.getD i Value.none).toArray/\failedOf t=none) ?ask hw (lh _) (by omega) h64.1 λq pend hq hu=>⟨q,hq,λi j hij hj=>hu i j (ud _) hij (by omega),?_,rfl⟩) (λr s' hr=>?_) λ_ _ e=>e)
   case ask =>
    intro i j hi hj C hC;show wpAny (model X.prog X.w) A (keyLt' κ (us.getD i Value.none) (us.getD j Value.none)) C (λ_ _=>False) s;have hi':i<us.length:=by omega
    have hj':j<us.length:=by omega
    obtain⟨ri,qi,di⟩:=za0 hp (show us[i]?=some us[i] by simp[hi']);obtain⟨rj,qj,dj⟩:=za0 hp (show us[j]?=some us[j] by simp[hj']);have ei:us.getD i Value.none=us[i]:=by simp[hi']
    have ej:us.getD j Value.none=us[j]:=by simp[hj']
    rw[ei,ej];obtain⟨o1,o2⟩:=ord.lo i j ri rj qi qj;have mi:=jd qi;have mj:=jd qj;have lo:=zqy di dj;refine z5v (k:=7) di dj (lo.2 o1) (by omega) ?_ (by rw[lo.1,<-o2];exact hC);rcases hκ with⟨rfl,h⟩|⟨rfl,h⟩
    ·exact .inl ⟨rfl,h _ mi,h _ mj⟩
    ·exact .inr ⟨rfl,(h _ mi).1,(h _ mj).1,(h _ mi).2,(h _ mj).2⟩
   ·show ((q.map _).map _)=_
    apply ss;simp[zd,Function.comp_def]
   ·obtain⟨rfl,π,g1,g2,g3,g4⟩:=hr
    exact tail _ π g1 g2 g3 g4
  rcases ord.kd with hk|hk
  ·refine aa (PySem.W.kas_kind (T:=.type "list") (by omega) (λv hv=>?_) rfl rfl (run _ (.inl ⟨rfl,hk⟩)))
   obtain⟨i,hi⟩:=fq hv;obtain⟨r,qr,dr⟩:=za0 hp hi
   have:=hk r (jd qr)
   cases r with
   |lst es =>
    obtain⟨c,its,rfl,pl,_⟩:=dr;obtain⟨o,ho,hc,_⟩:=pl.isList;exact zj1 ho hc
   |_=>cases this
  ·obtain⟨fs,t,lf,g⟩:=zhm hp hk
   refine aa (PySem.W.kat_kind (T:=.type "list") t (by omega) (λv hv=>?_) rfl (run _ (.inr ⟨rfl,hk⟩)));obtain⟨b,o,rfl,ho,hc⟩:=g v hv;exact zj1 ho hc
end
section
variable {X:Cx}{pins:List (Addr×Obj)}{σ:St}{H Hf:Hp}{s:Shared}{a kS f:Addr}{e1 k:Nat}{E:Value->Shared->Prop}{P:PySem.Fin->Shared->Prop}{fd:FuncData}{p:Str}{F:List D->Option D}
theorem z0x{sp:Sp}{u:Value}{v:V}{Q:VK}(G:FnOk X.prog X.w X.K X.mg X.base CX0 k f fd [p] sp)(hr:Room k X.A.in1.in1)(hb:zch X.K fd [p] [])(I:Inv X pins σ H s)(r:za7 v u)(h:sp [v] H Q E0):wpAny (model X.prog X.w) X.A.in1.in1 (call (.ref f) [u]) (EP X pins σ Q) (λ_ _=>False) s:=by
 have hbb:BindsTo s fd ⟨[u],[]⟩ ([p].zip [u]):=by have:=hb s [u] I.kIn rfl;rwa [zb]at this
 refine yo (gk (G.run X.A.in1.in1 X.stack s H ⟨[u],[]⟩ [u] [v] Q E0 hr I.env0.in1.in1 hbb (.cons r .nil) h) λr s' hq=>?_)
 cases r with
 |error e=>exact hq.elim
 |ok fl =>
  cases fl with
  |ret u=>exact I.after hq
  |next=>exact False.elim hq
  |brk=>exact False.elim hq
  |cont=>exact False.elim hq
structure KI(X:Cx)(pins:List (Addr×Obj))(σ:St)(Hf H:Hp)(a kS:Addr)(o:Obj)(rs:List D)(s:Shared)(Hf' H':Hp)(ks:List V):Prop where
 inv:Inv X pins σ H' s
 st:H' kS=some (.lst ks)
 at_:H' a=some (atObj a o)
 fr:∀b ob,b≠kS->H b=some ob->H' b=some ob
 ff:zax Hf Hf'
 fh:zax Hf' H'
 nw:∀b,Hf' b≠none->Hf b≠none\/zgy H b
 nf:∀b o u,Hf' b=some (.frz o u)->Hf b=some (.frz o u)
 dn:Dns X.K Hf' rs ks
theorem yam{xs:List V}{vs:List Value}{ds rs:List D}{lt:Nat->Nat->Bool}(G:FnOk X.prog X.w X.K X.mg X.base CX0 k f fd [p] (spV X.K 1 F))(hr:Room k X.A.in1.in1)(hb:zch X.K fd [p] [])
  (I:Inv X pins σ H s) (hkS:H kS=some (.lst [])) (ha:H a=some (atObj a (seqObj "list" #[] e1))) (hne:kS≠a) (hfk:Hf kS=none) (fh:zax Hf H) (hd:Dns X.K Hf ds xs) (rv:zbj xs vs)
  (hF:∀(i:Nat) d,ds[i]?=some d->∃r,rs[i]?=some r/\F [d]=some r) (hl:rs.length=ds.length) (h64:SzK lt ds.length) (ord:KOrd rs lt)
  (q:∀Hf' H' ks s' (π:Array Nat) s2 ys,KI X pins σ Hf H a kS (seqObj "list" #[] e1) rs s' Hf' H' ks->Ix ds.length π->Up lt π ds.length->ys=π.toList.map (λi=>xs.getD i V.non)->Inv X pins σ (upd (upd H' kS (.lst [])) a (.lst ys)) s2->P (.done (.ret .none)) s2) :
  wpAny (model X.prog X.w) X.A.in1.in1 (ksk_rest a (.ref f) false vs.toArray e1 (.ref kS)) P E s:=by
 have l1:ds.length=xs.length:=hd.length;have l2:xs.length=vs.length:=rv.length;have h6:=h64.2;unfold ksk_rest;refine aa (oj ?_);rw[List.forIn_toArray];refine aa (ksk_fold (λi s'=>∃Hf' H' ks,KI X pins σ Hf H a kS (seqObj "list" #[] e1) (rs.take i) s' Hf' H' ks) vs 0 s ⟨Hf,H,[],⟨I,hkS,ha,λ_ _ _ h=>h,zax.refl _,fh,λ_ h=>.inl h,λ_ _ _ h=>h,by rw[List.take_zero];exact .nil⟩⟩ ?step ?done)
 case step =>
  rintro j x s' hx ⟨Hf',H',ks,K⟩;simp only[re]at K ⊢;have hj:j<vs.length:=(qa.mp hx).1;obtain⟨v,qv,rx⟩:=za0 rv hx;obtain⟨d,qd,dd⟩:=za0 hd qv;obtain⟨r,qr,hr'⟩:=hF j d qd;have hkl:ks.length<=1000:=by rw[<-K.dn.length,cf];omega
  refine aa (kn (ye (z0x (Q:=λv H2=>∃Hf2,Ex Hf' H' Hf2 H2/\Dn X.K Hf2 r v) G hr hb K.inv rx ⟨Hf',[d],r,K.fh,.cons (dd.same K.ff) .nil,rfl,hr',λHf2 H2 v ex dv=>⟨Hf2,ex,dv⟩⟩) (λu s2 he=>?_) λ_ _ h=>h.elim));obtain⟨w,H2,I2,rw_,Hf2,ex,dw⟩:=he;dsimp only;have hk2:H2 kS=some (.lst ks):=ex.hh _ _ K.st;obtain⟨its,n,rk,hok,hkz⟩:=I2.lst hk2
  have hfk2:Hf2 kS=none:=by
   cases z:Hf2 kS with
   |none=>rfl
   |some o =>
    rcases ex.nw kS (by rw[z];exact λz=>nomatch z) with y|y
    ·rcases K.nw kS y with y|y
     ·exact absurd hfk y
     ·exact(y.no hkS (λ_ z=>nomatch z)).elim
    ·exact(y.no K.st (λ_ z=>nomatch z)).elim
  have I3:Inv X pins σ (upd H2 kS (.lst (ks++[w]))) { s2 with heap:=s2.heap.update kS (Obj.mapSeq (·.push u)),toks:=s2.toks }:=I2.lstUpd (its':=its++[u]) (n':=if (its.toArray.push u).size == its.toArray.size then n else n+1) hk2 hok (by show Obj.mk _ _ _ _=_;simp[Obj.mapSeq]) (rk.append (.cons rw_ .nil)) (by rw[zc,ig];exact sz (by omega)) s2.toks;have hla:=rk.length;refine aa (vk hok rfl ?_ (by rw[oa,<-hla];exact sz (by omega)) (by show (its.toArray.push u).size<=_;rw[lp,oa,<-hla];exact wm (sz (by omega))));refine ia ⟨rfl,Hf2,upd H2 kS (.lst (ks++[w])),ks++[w],⟨I3,zac,by rw[zad hne.symm];exact ex.hh _ _ K.at_,λb ob hb e=>by rw[zad hb];exact ex.hh _ _ (K.fr b ob hb e),K.ff.trans ex.ff,λb ob e=>?_,λb h=>?_,λb o u h=>K.nf b o u (ex.nf b o u h),?_⟩⟩
  ·rw[zad (zag e hfk2)];exact ex.fh b ob e
  ·rcases ex.nw b h with y|y
   ·exact K.nw b y
   ·by_cases hb:b=kS
    ·subst hb;exact(y.no K.st (λ_ z=>nomatch z)).elim
    ·cases z:H b with
     |none=>exact .inr (.inl z)
     |some o =>
      rcases y with y|⟨xs,y⟩
      ·rw[K.fr b o hb z]at y;cases y
      ·rw[K.fr b o hb z]at y;cases y;exact .inr (.inr ⟨xs,z⟩)
  ·have:rs.take (j+1)=rs.take j++[r]:=by rw[List.take_add_one,qr];rfl
   rw[this];exact(K.dn.same ex.ff).zsnoc dw
 case done =>
  rintro s' ⟨Hf',H',ks,K⟩;rw[re,pf (by omega)]at K;obtain⟨its,n,rk,hok,hkz⟩:=K.inv.lst K.st;refine aa (listItems_at hok rfl ?_)
  have hp:Paired (HD s'.heap LV) rs its:=by
   have all:∀{rs:List D} {ks:List V} {us:List Value},Dns X.K Hf' rs ks->zbj ks us->(∀r∈rs,dOk LV r=true)->Paired (HD s'.heap LV) rs us:=by
    intro rs ks us d
    induction d generalizing us with
    |nil=>intro v _;cases v;exact .nil
    |cons a b ih=>intro v o;cases v with|cons c e=>exact .cons (yal K.inv K.fh a (o _ xa) c) (ih e λr h=>o r (ja _ h))
   exact all K.dn rk ord.ok
  have hil:its.length=vs.length:=by rw[<-hp.length];omega
  refine ydl (vs:=vs) hp ord hil (by rw[<-l2,<-l1];exact h64) (by have:=hr.units;show _+9<cLine;omega) λst' π h1 h2 h3 h4=>?_
  have hn:vs.length=ds.length:=by omega
  rw[hn]at h1 h2;refine yak (ys:=π.toList.map λi=>xs.getD i V.non) K.inv K.st K.at_ hne h3 h4 ?_ (by rw[ba,xf,h1.size];exact h64.2) λs2 I2=>q Hf' H' ks s' π s2 _ K h1 h2 rfl I2
  have bd:∀i∈π.toList,i<ds.length:=λi hi=>lg.mp (h1.mem_iff.mp hi)
  have each:∀l:List Nat,(∀i∈l,i<ds.length)->zbj (l.map λi=>xs.getD i V.non) (l.map λi=>vs.getD i Value.none):=by
   intro l
   induction l with
   |nil=>intro _;exact .nil
   |cons i r ih =>
    intro h;have hi:=h i xa;refine .cons ?_ (ih λj hj=>h j (ja _ hj));have hiv:i<vs.length:=by omega
    have ev:vs[i]?=some vs[i]:=cc hiv;obtain⟨v,qv,rx⟩:=za0 rv ev;show za7 (xs.getD i V.non) (vs.getD i Value.none);rw[ac,qv,ac,ev];exact rx
  exact each _ bd
end
section
variable {X:Cx}{pins:List (Addr×Obj)}{σ:St}{H Hf:Hp}{s:Shared}{a f:Addr}{k:Nat}{E:Value->Shared->Prop}{P:PySem.Fin->Shared->Prop}{fd:FuncData}{p:Str}{F:List D->Option D}
structure KEnd(X:Cx)(pins:List (Addr×Obj))(σ:St)(Hf H:Hp)(a:Addr)(xs:List V)(n:Nat)(lt:Nat->Nat->Bool)(s:Shared)(Hf' H':Hp)(π:Array Nat):Prop where
 inv:Inv X pins σ H' s
 at_:H' a=some (.lst (π.toList.map λi=>xs.getD i V.non))
 fa:Hf' a=none
 ff:zax Hf Hf'
 fh:zax Hf' H'
 fr:∀b ob,b≠a->H b=some ob->H' b=some ob
 nw:∀b,Hf' b≠none->Hf b≠none\/zgy H b
 nf:∀b o u,Hf' b=some (.frz o u)->Hf b=some (.frz o u)
 ix:Ix n π
 up:Up lt π n
theorem yan{xs:List V}{ds rs:List D}{lt:Nat->Nat->Bool}(G:FnOk X.prog X.w X.K X.mg X.base CX0 k f fd [p] (spV X.K 1 F))(hr:Room k X.A.in1.in1)(hb:zch X.K fd [p] [])
  (I:Inv X pins σ H s) (ha:H a=some (.lst xs)) (hfa:Hf a=none) (fh:zax Hf H) (hd:Dns X.K Hf ds xs)
  (hF:∀(i:Nat) d,ds[i]?=some d->∃r,rs[i]?=some r/\F [d]=some r) (hl:rs.length=ds.length) (h64:SzK lt ds.length) (ord:KOrd rs lt)
  (q:∀Hf' H' s' (π:Array Nat),KEnd X pins σ Hf H a xs ds.length lt s' Hf' H' π->P (.done (.ret .none)) s') :
  wpAny (model X.prog X.w) X.A.in1.in1 (ksk_tree a (.ref f) false) P E s:=by
 obtain⟨vs,n,rv,ho,hz⟩:=I.lst ha;have lv:=rv.length;have ld:=hd.length;have h6:=h64.2;have ho1:=get?_update_seq ho (λ_=>(#[]:Array Value));generalize he1:(if (#[]:Array Value).size == vs.toArray.size then n else n+1)=e1 at ho1;have I1:Inv X pins σ (upd H a (atObj a (seqObj "list" #[] e1))) { s with heap:=s.heap.update a (Obj.mapSeq λ_=>(#[]:Array Value)),toks:=s.toks }:=I.write (x:=a) (e:=a) (by rw[ha];trivial) (.inl rfl) (λb u hb e=>(xb _ _ (rf hb)).trans e) ⟨_,ho1⟩ (zut ho1);have I2:Inv X pins σ (upd H a (atObj a (seqObj "list" #[] e1))) { s with heap:=(s.heap.update a (Obj.mapSeq λ_=>(#[]:Array Value))).push (seqObj "tuple" vs.toArray 0),toks:=s.toks }:=I1.kept λb o e=>ma _ e
 have I3:=I2.laid (a:=((s.heap.update a (Obj.mapSeq λ_=>(#[]:Array Value))).push (seqObj "tuple" vs.toArray 0)).objs.size) (o:=.lst []) (t':=s.toks) (h':=((s.heap.update a (Obj.mapSeq λ_=>(#[]:Array Value))).push (seqObj "tuple" vs.toArray 0)).push (seqObj "list" #[] 0)) (λb o e=>ma _ e) (va _) ⟨ud _,[],0,.nil,gb _ rfl⟩;have hfresh:(upd H a (atObj a (seqObj "list" #[] e1))) ((s.heap.update a (Obj.mapSeq λ_=>(#[]:Array Value))).push (seqObj "tuple" vs.toArray 0)).objs.size=none:=I2.hok.fresh (va _);unfold ksk_tree;refine aa (listItems_at ho rfl ?_);refine aa (vk ho rfl ?_ (by rw[oa,<-lv];exact hz) (ud _));refine aa (seqEpoch_at ho1 rfl ?_);refine aa (wpAny_newTuple ?_ (by show vs.length<=_;rw[<-lv];exact hz));refine aa (wpAny_newList ?_ (ud _));refine wf ?_;generalize hkS:((s.heap.update a (Obj.mapSeq λ_=>(#[]:Array Value))).push (seqObj "tuple" vs.toArray 0)).objs.size=kS at I3 hfresh;have hne:kS≠a:=λz=>by subst z;rw[zac]at hfresh;cases hfresh
 have hHk:H kS=none:=by rw[zad hne]at hfresh;exact hfresh
 have hfk:Hf kS=none:=fh.free hHk
 have fh3:zax Hf (upd (upd H a (atObj a (seqObj "list" #[] e1))) kS (.lst [])):=λb o e=>by
  rw[zad (zag e hfk),zad (zag e hfa)];exact fh b o e
 have h3:∀{b:Addr},b≠a->b≠kS->(upd (upd H a (atObj a (seqObj "list" #[] e1))) kS (.lst [])) b=H b:=λ{b} h1 h2=>by rw[zad h2,zad h1]
 refine yam (kS:=kS) G hr hb I3 zac (by rw[zad hne.symm,zac]) hne hfk fh3 hd rv hF hl h64 ord λHf' H' ks s' π s2 ys K hix hup hys I4=>q Hf' (upd (upd H' kS (.lst [])) a (.lst ys)) s2 π ?_
 have fa':Hf' a=none:=by
  cases z:Hf' a with
  |none=>rfl
  |some o =>
   rcases K.nw a (by rw[z];exact λz=>nomatch z) with y|y
   ·exact absurd hfa y
   ·exact(y.no (by rw[zad hne.symm,zac]) (λ_ z=>by unfold atObj at z;cases z)).elim
 have fk':Hf' kS=none:=by
  cases z:Hf' kS with
  |none=>rfl
  |some o =>
   rcases K.nw kS (by rw[z];exact λz=>nomatch z) with y|y
   ·exact absurd hfk y
   ·exact(y.no zac (λ_ z=>nomatch z)).elim
 subst hys;refine⟨I4,zac,fa',K.ff,λb o e=>?_,λb ob h1 e=>?_,λb h=>?_,K.nf,hix,hup⟩
 ·rw[zad (zag e fa'),zad (zag e fk')];exact K.fh b o e
 ·have h2:b≠kS:=λz=>by subst z;rw[hHk]at e;cases e
  rw[zad h1,zad h2];exact K.fr b ob h2 (by rw[h3 h1 h2];exact e)
 ·rcases K.nw b h with y|y
  ·exact .inl y
  ·have h1:b≠a:=λz=>by subst z;exact h fa'
   have h2:b≠kS:=λz=>by subst z;exact h fk'
   unfold zgy at y;rw[h3 h1 h2]at y;exact .inr y
theorem zhn{xs:List V}{ds rs:List D}{lt:Nat->Nat->Bool}{u:Value}{Q:VK}(G:FnOk X.prog X.w X.K X.mg X.base CX0 k f fd [p] (spV X.K 1 F))(hr:Room k X.A.in1.in1)(hb:zch X.K fd [p] [])
  (I:Inv X pins σ H s) (fh:zax Hf H) (hd:Dns X.K Hf ds xs)
  (hcol:∀R:List Value->Shared->Prop,(∀h' tk vs,(∀b o,s.heap.get? b=some o->h'.get? b=some o)->zbj xs vs->R vs { s with heap:=h',toks:=tk })->wpAny (model X.prog X.w) X.A.in1 (collect u) R X.xe s)
  (hF:∀(i:Nat) d,ds[i]?=some d->∃r,rs[i]?=some r/\F [d]=some r) (hl:rs.length=ds.length) (h64:SzK lt ds.length) (ord:KOrd rs lt)
  (q:∀Hf' H' l (π:Array Nat),Ex Hf H Hf' H'->H l=none->Hf' l=none->H' l=some (.lst (π.toList.map λi=>xs.getD i V.non))->Ix ds.length π->Up lt π ds.length->Q (.ref l) H') :
  wpAny (model X.prog X.w) X.A (call (.builtin "sorted") [u] [(Str.ofString "key",.ref f)]) (EP X pins σ Q) X.xe s:=by
 have ld:=hd.length;have h6:=h64.2;refine call_function_entry_kw kind_sorted plain_sorted entry_sorted (ksk_s1 _ _) ?_
 unfold Builtin.«sorted»;refine aa (m:=checkCount "sorted" 1 1 _) (ia ?_);refine aa (hcol _ λh' tk vs keep rv=>?_);have lv:=rv.length;refine aa (wpAny_newList ?_ (by rw[<-lv];exact sz (by omega)));have I1:Inv X pins σ H { s with heap:=h',toks:=tk }:=I.kept keep;have I2:=I1.laid (a:=h'.objs.size) (o:=.lst xs) (t':=tk) (h':=h'.push (seqObj "list" vs.toArray 0)) (λb o e=>ma _ e) (va _) ⟨sz (by omega),vs,0,rv,gb _ rfl⟩;have hfl:H h'.objs.size=none:=I1.hok.fresh (va _);have hoL:(h'.push (seqObj "list" vs.toArray 0)).get? h'.objs.size=some (seqObj "list" vs.toArray 0):=gb _ rfl;refine aa (wf (wpAny_call_entry_kw slot_list_sort ⟨_,hoL,rfl⟩ entry_list_sort ?body (ksk_l1 _ _)))
 case body =>
  have ht:=ksk_t1 f h'.objs.size;show wpAny (model X.prog X.w) X.A.in1.in1 (Builtin.«list.sort» ⟨[.ref h'.objs.size],[(Str.ofString "key",.ref f)]⟩) _ _ _;rw[ht];refine yan G hr hb I2 zac (fh.free hfl) (fh.trans (zas hfl)) hd hF hl h64 ord λHf' H' s' π K=>?_
  refine⟨_,rfl,ia ⟨_,rfl,.ref h'.objs.size,H',K.inv,rfl,q Hf' H' _ π ⟨K.ff,λb o e=>?_,K.fh,λb h=>?_,K.nf⟩ hfl K.fa K.at_ K.ix K.up⟩⟩
  ·have hn:b≠h'.objs.size:=zag e hfl
   exact K.fr b o hn (by rw[zad hn];exact e)
  ·rcases K.nw b h with y|y
   ·exact .inl y
   ·by_cases hn:b=h'.objs.size
    ·subst hn;exact .inr (.inl hfl)
    ·unfold zgy at y;rw[zad hn]at y;exact .inr y
end
def zod(h:Heap)(d:Addr)(es:Array DictEntry)(ep:Nat):Prop:=∃o,h.get? d=some o/\o.ExactDict/\o.data=.dict es ep
section
variable {prog:Program}{w:World}{A:Around}{E:Value->Shared->Prop}{s:Shared}{d it:Addr}{es:Array DictEntry}{ep i:Nat}
theorem zod.ty(x:zod s.heap d es ep):s.TypeIs (.ref d) "dict":=let ⟨o,ho,hc,_⟩:=x;⟨o,ho,hc.1⟩
theorem zod.at{h h':Heap}(x:zod h d es ep)(e:∀o,h.get? d=some o->h'.get? d=some o):zod h' d es ep:=let ⟨o,ho,r⟩:=x;⟨o,e _ ho,r⟩
theorem zod.lt{h:Heap}(x:zod h d es ep):d<h.objs.size:=let ⟨_,ho,_⟩:=x;ya ho
theorem zuu {Q:Value->Shared->Prop} (hd:(d == sysModules)=false) (hm:zod s.heap d es ep) (hQ:Q (.ref s.heap.objs.size) { s with heap:=s.heap.push { cls:=.type "dict_keyiterator",data:=.fields #[.ref d,.int 0 0,.int es.size 0,.int ep 0] } }):wpAny (model prog w) A (pyIter (.ref d)) Q E s:=by
 obtain⟨o,ho,hc,hdat⟩:=id hm;refine wpAny_pyIter_slot hm.ty PySem.F.slot_dict_iter (ii PySem.F.slot_dict_iter hm.ty PySem.F.entry_dict_iter ?_ (PySem.F.args_dict_iter_1 _));unfold Builtin.«dict.__iter__»;refine aa ?_;unfold Builtin.Dict.dictSlotNone;refine aa (wpAny_notOrdered_dict hm.ty ?_);show wpAny _ _ (pure (Value.ref d)) _ _ s;refine ia ?_;show wpAny _ _ (Builtin.Dict.showsAll d >>= _) _ _ s;unfold Builtin.Dict.showsAll;rw[wa (by rw[hd];exact ua)];refine aa (ia ?_);refine aa (ek ho hdat ?_);refine aa (pp ho hdat ?_);refine aa (gf (ia ⟨_,rfl,"dict_keyiterator",_,⟨_,gb _ rfl,rfl⟩,PySem.F.slot_dict_keyiterator_next.lookup,?_⟩));simpa [rawInt] using hQ
theorem zuv{Q:Option Value->Shared->Prop}(hit:s.heap.IsKeyIter it d i es.size ep)(hm:zod s.heap d es ep)(hi:i<es.size)(hQ:∀h',h'.IsKeyIter it d (i+1) es.size ep->Heap.SameBut it s.heap h'->Q (some es[i].key) { s with heap:=h' }):wpAny (model prog w) A (pyNext (.ref it)) Q E s:=by
 obtain⟨o,ho,hc,hd⟩:=id hit;obtain⟨od,hod,hcd,hdd⟩:=id hm;unfold pyNext;refine aa (kn (ci (name:=Str.ofString "__next__") hit.typeIs PySem.F.slot_dict_keyiterator_next (ii PySem.F.slot_dict_keyiterator_next hit.typeIs PySem.F.entry_dict_keyiterator_next ?_ (PySem.F.args_dict_keyiterator_next_1 _))));refine aa (ia ?_);refine aa ?_;refine aa ?_
 first|refine aa (yg hit.typeIs (ia ?_));refine aa (im ho hd ?_)|refine aa (yh hit.typeIs (ia ?_));refine aa (im ho hd ?_)
 have hown:Builtin.Dict_items.ownsTuple "dict_keyiterator" = false:=by decide +kernel
 simp only[hown,yb,xh];show wpAny _ _ (if (Value.ref d == Value.none)=true then _ else _) _ _ s;rw[wa (show ¬((Value.ref d == Value.none)=true) from ua)];refine aa (ia ?_);refine aa (ek hod hdd ?_);rw[wa (by simp)];refine aa (ia ?_);refine aa (pp hod hdd ?_);rw[wa (by simp)];refine ia ?_;simp only[show ¬((i:Int)<0) from by omega,xh,uh,fg hi];refine aa ?_
 first|refine aa (yg hit.typeIs (ia ?_));refine aa (jk hit.typeIs ?_)|refine aa (yh hit.typeIs (ia ?_));refine aa (jk hit.typeIs ?_)
 show wpAny _ _ (setField (.ref it) 1 (rawInt ((i:Int)+1)) >>= _) _ _ s;refine aa (jh ho hd (by simp) ?_);have hit':(s.heap.update it (Obj.mapFields (·.setIfInBounds 1 (rawInt ((i:Int)+1))))).IsKeyIter it d (i+1) es.size ep:=⟨_,md _ ho (rg (bg hd _)),(Obj.cls_mapFields ..).trans hc,by rw[bg hd];simp[rawInt]⟩
 refine aa (wf ?_);refine aa (jk (s:={ s with heap:=s.heap.update it (Obj.mapFields (·.setIfInBounds 1 (rawInt ((i:Int)+1)))) }) hit'.typeIs ?_);show wpAny _ _ (pure es[i].key) _ _ _;exact ia (ia ⟨_,rfl,ia (hQ _ hit' (ai ..))⟩)
theorem z0y{Q:Option Value->Shared->Prop}(hh:A.handled=none)(hit:s.heap.IsKeyIter it d i es.size ep)(hm:zod s.heap d es ep)(hi:es.size<=i)(hQ:∀h',Heap.ExtBut it s.heap h'->Q none { s with heap:=h' }):wpAny (model prog w) A (pyNext (.ref it)) Q E s:=by
 obtain⟨o,ho,hc,hd⟩:=id hit;obtain⟨od,hod,hcd,hdd⟩:=id hm;unfold pyNext;refine aa (kn (ci (name:=Str.ofString "__next__") hit.typeIs PySem.F.slot_dict_keyiterator_next (ii PySem.F.slot_dict_keyiterator_next hit.typeIs PySem.F.entry_dict_keyiterator_next ?_ (PySem.F.args_dict_keyiterator_next_1 _))));refine aa (ia ?_);refine aa ?_;refine aa ?_
 first|refine aa (yg hit.typeIs (ia ?_));refine aa (im ho hd ?_)|refine aa (yh hit.typeIs (ia ?_));refine aa (im ho hd ?_)
 have hown:Builtin.Dict_items.ownsTuple "dict_keyiterator" = false:=by decide +kernel
 simp only[hown,yb,xh];show wpAny _ _ (if (Value.ref d == Value.none)=true then _ else _) _ _ s;rw[wa (show ¬((Value.ref d == Value.none)=true) from ua)];refine aa (ia ?_);refine aa (ek hod hdd ?_);rw[wa (by simp)];refine aa (ia ?_);refine aa (pp hod hdd ?_);rw[wa (by simp)];refine ia ?_;simp only[show ¬((i:Int)<0) from by omega,xh,uh,li hi];refine aa ?_
 first|refine aa (yg hit.typeIs (ia ?_));show wpAny _ _ (setField (.ref it) 0 .none >>= _) _ _ s|refine aa (yh hit.typeIs (ia ?_));show wpAny _ _ (setField (.ref it) 0 .none >>= _) _ _ s
 refine aa (jh ho hd (by simp) ?_);show wpAny _ _ (newExc (.type "StopIteration") [] >>= _) _ _ _;refine aa ?_;simp only[newExc,newTuple];refine aa (gf ?_ (by size_fits));refine aa (m:=firstArgMember _ _) (wpAny_of_eq (a:=Value.none) (by first|rfl|(simp only[firstArgMember];rfl)) ?_);refine gf ?_ (by size_fits);simp only[raiseNew];refine aa (wpAny_handled ?_);rw[show A.in1.handled=none from hh];refine aa (ia (wpAny_throw ?_));refine aa (ao (T:="StopIteration") (b:=true) ⟨_,gb _ rfl,rfl⟩ isSubtype_stop ?_);exact ia (hQ _ (((ai ..).extBut.push _).push _))
theorem zqz(hh:A.handled=none)(I d:Addr)(hne:d≠I)(es:Array DictEntry)(ep:Nat):Walks prog w A I [I,d] [I] es.size (λi v=>∃e,es[i]?=some e/\v=e.key) (λi h=>h.IsKeyIter I d i es.size ep/\zod h d es ep) where
 sub:=λb hb=>by simp at hb;simp[hb]
 frame:=λ_ _ _ x hk=>⟨x.1.at λo e=>hk I (by simp) o e,x.2.at λo e=>hk d (by simp) o e⟩
 item:=λi s Q E hi x hQ=>zuv x.1 x.2 hi λh' hit' hs'=>hQ _ h' s.toks ⟨es[i],by simp[hi],rfl⟩ ⟨hit',x.2.at λo e=>(hs'.2 d hne).trans e⟩ λb o hb e=>hs'.extBut b o (λz=>hb (by simp[z])) e
 done:=λs Q E x hQ=>z0y hh x.1 x.2 (va _) λh' he'=>hQ h' s.toks λb o hb e=>he' b o (λz=>hb (by simp[z])) e
 self:=λ_ _ _ _ x hQ=>wpAny_pyIter_keyiter x.1 hQ
theorem z0z(lo:(d == sysModules)=false):PySem.W.KdlSrc prog w "dict" d d es.size (λi v=>∃e,es[i]?=some e/\v=e.key) (λh=>zod h d es ep) where
 type:=λ_ x=>x.ty
 there:=λ_ x=>⟨x.lt,x.lt⟩
 keep:=λ_ _ x hk=>x.at λo e=>hk d (.inl rfl) o e
 notList:=by decide
 notTuple:=by decide
 hint:=λ_ _ _ _ x hq=>PySem.W.kdl_hint_dict x.ty hq
 iter:=λ_ _ hh x=>⟨_,_,(λ_ _ hq=>zuu lo x hq),zqz hh _ d (dc x.lt) es ep,⟨⟨_,gb _ rfl,rfl,rfl⟩,x.at λo e=>ma _ e⟩⟩
theorem zgh{R:List Value->Shared->Prop}(hh:A.handled=none)(lo:(d == sysModules)=false)(x:zod s.heap d es ep)(hn:es.size<=sizeLine)(h:∀h' tk,(∀b o,s.heap.get? b=some o->h'.get? b=some o)->R (es.toList.map (·.key)) { s with heap:=h',toks:=tk }):wpAny (model prog w) A (collect (.ref d)) R E s:=by
 refine PySem.W.kdu_collect (z0z (es:=es) (ep:=ep) lo) hh x hn λh' tk acc keep hacc=>?_
 have e:acc.toList=es.toList.map (·.key):=by
  apply fj;intro i;obtain⟨h1,h2⟩:=hacc;by_cases hi:i<acc.size
  ·obtain⟨e,q1,q2⟩:=h2 i _ (fg hi)
   rw[ug,fg hi,q2,qc,ug,q1];rfl
  ·rw[ug,li (by omega),oh (by rw[ba,xf];omega)]
 rw[e];exact h h' tk keep
end
noncomputable def z00:D->Bool|.sc (.str _)=>true|_=>false
noncomputable def sgI:Nat->D->Bool
 |0,.sc (.int _)=>true
 |1,.sc (.bl _)=>true
 |2,.tup ds=>ds.all z00
 |_,_=>false
noncomputable def sgs:List Nat->List D->Bool
 |[],[]=>true
 |n::ns,d::ds=>sgI n d && sgs ns ds
 |_,_=>false
noncomputable def isN(sg:List Nat):D->Bool
 |.tup ds=>sgs sg ds
 |_=>false
mutual
noncomputable def zgv:D->Bool
 |.sc (.int _)=>true
 |.sc (.bl _)=>true
 |.sc (.str _)=>true
 |.tup ds=>zfk ds
 |_=>false
noncomputable def zfk:List D->Bool
 |[]=>true
 |d::ds=>zgv d && zfk ds
end
mutual
noncomputable def hD(w:World):D->Int
 |.sc (.int i)=>hashInt i
 |.sc (.bl b)=>if b then 1 else 0
 |.sc (.str x)=>hashStr w x
 |.tup ds=>reduceHash (Builtin.Tuple.tupleHashOf (hDs w ds))
 |_=>0
noncomputable def hDs(w:World):List D->List Int
 |[]=>[]
 |d::ds=>hD w d::hDs w ds
end
mutual
noncomputable def dr:D->Nat
 |.tup ds=>drs ds+1
 |_=>1
noncomputable def drs:List D->Nat
 |[]=>0
 |d::ds=>dr d+drs ds
end
section
variable {prog:Program}{w:World}{E:Value->Shared->Prop}
theorem zj2{A:Around}{k:Nat}(ih:∀{s:Shared}{d:D}{u:Value}{Q:Int->Shared->Prop},HD s.heap k d u->zgv d=true->Q (hD w d) { s with toks:=s.toks+dr d }->wpAny (model prog w) A (pyHash u) Q E s) :
  ∀{ds:List D} {its:List Value} {s:Shared} {b:Array Int} {Q:Array Int->Shared->Prop},Paired (HD s.heap k) ds its->zfk ds=true->(∀b':Array Int,b'.toList=b.toList++hDs w ds->Q b' { s with toks:=s.toks+drs ds }) →
  wpAny (model prog w) A (forIn its b λx r=>do let h ← pyHash x;pure PUnit.unit;pure (ForInStep.yield (r.push h))) Q E s
 |_,_,s,b,Q,.nil,_,h=>by rw[List.forIn_nil];exact ia (by have:=h b (by simp[hDs]);simpa [drs] using this)
 |d::ds,u::its,s,b,Q,.cons a r,hk,h=>by
  rw[zfk,ub]at hk;rw[List.forIn_cons];refine aa (aa (ih a hk.1 ?_));refine aa (ia (ia ?_));refine zj2 ih (s:={ s with toks:=s.toks+dr d }) r hk.2 λb' hb=>?_
  have:=h b' (by rw[hb,hDs];simp)
  rw[drs]at this
  simpa [Nat.add_assoc] using this
theorem z5w:∀{k:Nat}{A:Around}{s:Shared}{d:D}{u:Value}{Q:Int->Shared->Prop},HD s.heap k d u->zgv d=true->A.units+k<cLine->Q (hD w d) { s with toks:=s.toks+dr d }->wpAny (model prog w) A (pyHash u) Q E s:=by
 intro k
 induction k with
 |zero =>
  intro A s d u Q h hk hu q
  cases d with
  |sc v =>
   obtain⟨_,r⟩:=h
   cases v with
   |int i=>obtain⟨t,rfl⟩:=r;exact mn q
   |str x=>obtain⟨t,rfl⟩:=r;exact on q
   |bl b =>
    cases r;refine PySem.W.pyHash_slot (T:="bool") rfl PySem.F.slot_bool_hash entry_int_hash (args_int_hash _) (bo _) (.inr (by omega)) ?_
    cases b
    ·exact(show wpAny _ _ (do ret (← mkInt 0)) _ _ s from aa (ym (ia ⟨_,_,rfl,q⟩)))
    ·exact(show wpAny _ _ (do ret (← mkInt 1)) _ _ s from aa (ym (ia ⟨_,_,rfl,q⟩)))
   |_=>cases hk
  |_=>exact h.elim
 |succ k ih =>
  intro A s d u Q h hk hu q
  cases d with
  |sc v =>
   obtain⟨_,r⟩:=h
   cases v with
   |int i=>obtain⟨t,rfl⟩:=r;exact mn q
   |str x=>obtain⟨t,rfl⟩:=r;exact on q
   |bl b =>
    cases r;refine PySem.W.pyHash_slot (T:="bool") rfl PySem.F.slot_bool_hash entry_int_hash (args_int_hash _) (bo _) (.inr (by omega)) ?_
    cases b
    ·exact(show wpAny _ _ (do ret (← mkInt 0)) _ _ s from aa (ym (ia ⟨_,_,rfl,q⟩)))
    ·exact(show wpAny _ _ (do ret (← mkInt 1)) _ _ s from aa (ym (ia ⟨_,_,rfl,q⟩)))
   |_=>cases hk
  |tup ds =>
   obtain⟨a,its,rfl,t,p⟩:=h;obtain⟨o,ho,hc,n,hd⟩:=t;rw[zgv]at hk;refine PySem.W.pyHash_slot (T:="tuple") ⟨_,ho,hc⟩ PySem.F.slot_tuple_hash PySem.F.entry_tuple_hash (PySem.F.args_tuple_hash_1 _) (bo _) (.inr (by omega)) ?_;show wpAny _ _ (Builtin.Tuple.tupleItemsOf (.ref a) >>= _) _ _ s;refine aa (wpAny_tupleItemsOf ho hd ?_);refine aa ?_;rw[<-Array.forIn_toList];refine zj2 (A:=A.in1) (k:=k) (λ{s d u Q} h1 h2 q1=>ih h1 h2 (by show A.units+1+k<cLine;omega) q1) p hk λb' hb=>?_
   show wpAny _ _ (retInt (Builtin.Tuple.tupleHashOf b'.toList)) _ _ _;rw[hb];refine aa (ym (ia ⟨_,_,rfl,?_⟩));rw[hD,dr]at q
   simpa [Nat.add_assoc] using q
  |_=>cases hk
theorem z01:∀{k n:Nat}{A:Around}{s:Shared}{d:D}{u:Value}{Q:Bool->Shared->Prop},HD s.heap k d u->zgv d=true->k<=n->Q true s->wpAny (model prog w) A (eqIsQuiet n u) Q E s:=by
 have flat:∀{n:Nat} {A:Around} {s:Shared} {v:V} {u:Value} {Q:Bool->Shared->Prop},za7 v u->zgv (.sc v)=true->Q true s->wpAny (model prog w) A (eqIsQuiet n u) Q E s:=by
  intro n A s v u Q r hk q
  have hv:carriedByValue u=true:=by
   cases v with
   |int i=>obtain⟨t,rfl⟩:=r;rfl
   |str x=>obtain⟨t,rfl⟩:=r;rfl
   |bl b=>cases r;rfl
   |_=>cases hk
  rw[eqIsQuiet_byValue n hv];exact ia q
 intro k
 induction k with
 |zero =>
  intro n A s d u Q h hk hn q
  cases d with
  |sc v=>exact flat h.2 hk q
  |_=>exact h.elim
 |succ k ih =>
  intro n A s d u Q h hk hn q
  cases d with
  |sc v=>exact flat h.2 hk q
  |tup ds =>
   obtain⟨a,its,rfl,t,p⟩:=h;obtain⟨o,ho,hc,m,hd⟩:=t;rw[zgv]at hk;obtain⟨n',rfl⟩:∃n',n=n'+1:=⟨n - 1,by omega⟩
   unfold eqIsQuiet;refine aa (ql (T:="tuple") ⟨_,ho,hc⟩ PySem.F.slot_tuple_eq.lookup ?_);show wpAny _ _ (isInstance (.ref a) (.type "tuple") >>= _) _ _ s;refine aa (ao (T:="tuple") ⟨_,ho,hc⟩ isSubtype_tuple_tuple ?_);simp only[jf,yb,xh];refine aa (jm ho hd ?_);refine aa ?_;show wpAny _ _ (forIn its.toArray _ _) _ _ s;rw[<-Array.forIn_toList];refine wpAny_forIn_list _ (λrest r s'=>r.1=none/\s'=s/\∃es,Paired (HD s.heap k) es rest/\zfk es=true) _ ?_ ?_ _ _ ⟨rfl,rfl,ds,p,hk⟩
   ·rintro v rest r s' ⟨hr,rfl,es,pe,he⟩
    cases pe with
    |cons a1 b1 =>
     rw[zfk,ub]at he;refine aa (ih a1 he.1 (by omega) ?_);simp only[jf,yb,xh];exact ia ⟨rfl,rfl,_,b1,he.2⟩
   ·rintro⟨r1,r2⟩ s' ⟨hr,rfl,_⟩
    simp only at hr;subst hr;exact ia q
  |_=>cases hk
theorem z02{h h':Heap}{c:Addr}{o:Obj}{es:Array DictEntry}{ep:Nat}(ho:h.get? c=some o)(hd:o.data=.dict es ep)(hs:Heap.SameBut c h h'):∀{k:Nat}{d:D}{u:Value},HD h k d u->HD h' k d u:=by
 intro k
 induction k with
 |zero=>intro d u x;cases d <;> exact x
 |succ k ih =>
  intro d u x
  have ne:∀{b:Addr} {o':Obj} {xs:Array Value} {n:Nat},h.get? b=some o'->o'.data=.seq xs n->b≠c:=λ{b o' xs n} e1 e2 z=>by
   subst z;rw[ho]at e1;cases e1;rw[hd]at e2;cases e2
  cases d with
  |sc v=>exact x
  |tup ds =>
   obtain⟨a,its,e,⟨o',h1,h2,n,h3⟩,p⟩:=x;exact⟨a,its,e,⟨o',(hs.2 a (ne h1 h3)).trans h1,h2,n,h3⟩,p.zmap λ_ _=>ih⟩
  |lst ds =>
   obtain⟨a,its,e,⟨o',n,h1,h2,h3⟩,p⟩:=x;exact⟨a,its,e,⟨o',n,(hs.2 a (ne h1 (by first|exact h3.2.1|exact h3.2|exact h3.2.2))).trans h1,h2,h3⟩,p.zmap λ_ _=>ih⟩
  |_=>exact x.elim
end
theorem zmz:∀{ds es:List D},ds.all z00=true->es.all z00=true->(zcp ds es=true↔ds=es)
 |[],[],_,_=>by simp[zcp]
 |[],_::_,_,_=>by simp[zcp]
 |_::_,[],_,_=>by simp[zcp]
 |d::ds,e::es,h1,h2=>by
  rw[xi,ub]at h1 h2;have ih:=zmz h1.2 h2.2
  cases d with
  |sc a =>
   cases a with
   |str x =>
    cases e with
    |sc b =>
     cases b with
     |str y=>rw[zcp,ub,ih,deq];simp[eqV]
     |_=>cases h2.1
    |_=>cases h2.1
   |_=>cases h1.1
  |_=>cases h1.1
theorem z5x{n:Nat}{d e:D}(h1:sgI n d=true)(h2:sgI n e=true):deq d e=true↔d=e:=by
 match n,d,e,h1,h2 with
 |0,.sc (.int i),.sc (.int j),_,_=>rw[deq];simp[eqV]
 |1,.sc (.bl i),.sc (.bl j),_,_=>rw[deq];simp[eqV]
 |2,.tup ds,.tup es,h1,h2=>rw[deq,zmz h1 h2];simp
theorem zq0:∀{sg:List Nat}{ds es:List D},sgs sg ds=true->sgs sg es=true->(zcp ds es=true↔ds=es)
 |[],[],[],_,_=>by simp[zcp]
 |n::sg,d::ds,e::es,h1,h2=>by
  rw[sgs,ub]at h1 h2;rw[zcp,ub,z5x h1.1 h2.1,zq0 h1.2 h2.2];simp
theorem z03{n:Nat}{d:D}(h:sgI n d=true):zgv d=true:=by
 match n,d,h with
 |0,.sc (.int i),_=>simp[zgv]
 |1,.sc (.bl i),_=>simp[zgv]
 |2,.tup ds,h =>
  rw[zgv]
  have:∀l:List D,l.all z00=true->zfk l=true:=by
   intro l
   induction l with
   |nil=>intro _;simp[zfk]
   |cons a r ih =>
    intro h;rw[xi,ub]at h;rw[zfk,ih h.2]
    cases a with
    |sc v=>cases v <;> first|(simp[zgv];done)|cases h.1
    |_=>cases h.1
  exact this ds h
theorem zm0:∀{sg:List Nat}{ds:List D},sgs sg ds=true->zfk ds=true
 |[],[],_=>by simp[zfk]
 |n::sg,d::ds,h=>by
  rw[sgs,ub]at h;rw[zfk,z03 h.1,zm0 h.2];rfl
theorem zm1{sg:List Nat}{d:D}(h:isN sg d=true):zgv d=true:=by
 cases d with
 |tup ds=>rw[zgv];exact zm0 h
 |_=>cases h
theorem zq1{sg:List Nat}{d e:D}(h1:isN sg d=true)(h2:isN sg e=true):deq d e=true↔d=e:=by
 cases d with
 |tup ds =>
  cases e with
  |tup es=>rw[deq,zq0 h1 h2];simp
  |_=>cases h2
 |_=>cases h1
open Classical in
noncomputable def zuw(prog:Program)(w:World)(sg:List Nat):HeapKind prog w D where
 is:=λh d a=>isN sg d=true/\HD h 3 d (.ref a)
 hash:=hD w
 draws:=dr
 room:=λA=>A.units+3<cLine
 inj:=λh1 h2=>zwo h1.2 h2.2
 keeps:=λh ho hd hs=>⟨h.1,z02 ho hd hs h.2⟩
 pyHash:=λhu hk h=>z5w hk.2 (zm1 hk.1) hu h
 eqBool:=λ{A E s x y a b Q} hu hx hy h=>by
  refine zk1 hx.2 hy.2 hu prog w E Q ?_;rw[zp6 hx.2 hy.2]
  have:deq x y=decide (x=y):=by
   by_cases e:x=y
   ·rw[ib e];exact(zq1 hx.1 hy.1).mpr e
   ·rw[jc e];exact ck.mpr λz=>e ((zq1 hx.1 hy.1).mp z)
  rw[this];exact h
 quiet:=λhk h=>z01 hk.2 (zm1 hk.1) (by omega) h
noncomputable def z2k(lt:D->D->Bool)(x:D):List D->List D
 |[]=>[x]
 |y::r=>if lt x y=true then x::y::r else y::z2k lt x r
noncomputable def zm2(lt:D->D->Bool):List D->List D
 |[]=>[]
 |x::r=>z2k lt x (zm2 lt r)
structure LtT(lt:D->D->Bool)(S:List D):Prop where
 tr:∀a∈S,∀b∈S,∀c∈S,lt a b=true->lt b c=true->lt a c=true
 tot:∀a∈S,∀b∈S,a=b\/lt a b=true\/lt b a=true
 as:∀a∈S,∀b∈S,lt a b=true->lt b a=false
theorem zgi(lt:D->D->Bool)(x:D):∀l,(z2k lt x l).Perm (x::l)
 |[]=>lh _
 |y::r=>by
  unfold z2k;split
  ·exact lh _
  ·exact((zgi lt x r).cons y).trans (lq x y r)
theorem zcj(lt:D->D->Bool):∀l,(zm2 lt l).Perm l
 |[]=>lh _
 |x::r=>(zgi lt x _).trans ((zcj lt r).cons x)
theorem zq2{lt:D->D->Bool}{S:List D}(T:LtT lt S){x:D}(hx:x∈S):∀{l:List D},(∀y∈l,y∈S)->x ∉ l->l.Pairwise (λa b=>lt a b=true)->(z2k lt x l).Pairwise (λa b=>lt a b=true)
 |[],_,_,_=>zj _ _
 |y::r,hS,hn,h=>by
  have hy:=hS y xa;unfold z2k;split
  ·rename_i hxy
   refine qf.mpr ⟨λz hz=>?_,h⟩;rcases pb.mp hz with rfl|hz
   ·exact hxy
   ·exact T.tr x hx y hy z (hS z (ja _ hz)) hxy ((qf.mp h).1 z hz)
  ·rename_i hxy
   refine qf.mpr ⟨λz hz=>?_,zq2 T hx (λz hz=>hS z (ja _ hz)) (λz=>hn (ja _ z)) (qf.mp h).2⟩;rcases pb.mp ((zgi lt x r).mem_iff.mp hz) with rfl|hz
   ·rcases T.tot _ hx y hy with e|e|e
    ·exact absurd (e ▸ xa) hn
    ·exact absurd e hxy
    ·exact e
   ·exact(qf.mp h).1 z hz
theorem zie{lt:D->D->Bool}{S:List D}(T:LtT lt S):∀{l:List D},(∀y∈l,y∈S)->l.Nodup->(zm2 lt l).Pairwise (λa b=>lt a b=true)
 |[],_,_=>tm
 |x::r,hS,hn=>by
  have hn:=qg.mp hn;exact zq2 T (hS x xa) (λy hy=>hS y (ja _ ((zcj lt r).mem_iff.mp hy))) (λz=>hn.1 ((zcj lt r).mem_iff.mp z)) (zie T (λy hy=>hS y (ja _ hy)) hn.2)
theorem zux{lt:D->D->Bool}{l out:List D}(T:LtT lt l)(hn:l.Nodup)(hp:out.Perm l)(ho:out.Pairwise λa b=>lt b a=false):out=zm2 lt l:=by
 have h1:=zcj lt l
 have h2:(zm2 lt l).Pairwise λa b=>lt b a=false:=by
  have up:=zie T (λy hy=>hy) hn;rw[mf]at up ⊢;intro i j hi hj hij;exact T.as _ (h1.mem_iff.mp (vf hi)) _ (h1.mem_iff.mp (vf hj)) (up i j hi hj hij)
 refine(hp.trans h1.symm).eq_of_pairwise (λa b ha hb e1 e2=>?_) ho h2;rcases T.tot a (hp.mem_iff.mp ha) b (h1.mem_iff.mp hb) with e|e|e
 ·exact e
 ·rw[e]at e2;cases e2
 ·rw[e]at e1;cases e1
noncomputable def rk(F:List D->Option D)(d:D):D:=(F [d]).getD .non
noncomputable def ltK(F:List D->Option D)(d e:D):Bool:=dlt (rk F d) (rk F e)
structure KOk(F:List D->Option D)(ks:List D):Prop where
 ex:∀d∈ks,∃r,F [d]=some r/\dOk LV r=true
 kd:(∀d∈ks,zmy (rk F d)=true)\/∀d∈ks,zmy (rk F d)=false/\z0w (rk F d)=true
 ok:∀d∈ks,∀e∈ks,zb4 (rk F d) (rk F e)=true
 lt:LtT (ltK F) ks
 nd:ks.Nodup
 sm:(ks.length<64\/ks.Pairwise λa b=>ltK F a b=true)/\ks.length<=1000
open Classical in
noncomputable def zif(F:List D->Option D)(ks:List D):Option (List D):=if KOk F ks then some (zm2 (ltK F) ks) else none
theorem zd9{F:List D->Option D}{d r:D}(h:F [d]=some r):rk F d=r:=by unfold rk;rw[h];rfl
noncomputable def ltI(F:List D->Option D)(ks:List D)(i j:Nat):Bool:=ltK F (ks.getD (min i (ks.length - 1)) .non) (ks.getD (min j (ks.length - 1)) .non)
theorem KOk.irr{F:List D->Option D}{ks:List D}(h:KOk F ks){d:D}(hd:d∈ks):ltK F d d=false:=by
 cases e:ltK F d d with
 |false=>rfl
 |true=>have:=h.lt.as d hd d hd e;rw[e]at this;cases this
theorem KOk.wo{F:List D->Option D}{ks:List D}(h:KOk F ks)(hn:0<ks.length):WO (ltI F ks):=by
 have m:∀i,ks.getD (min i (ks.length - 1)) .non∈ks:=λi=>by
  have hi:min i (ks.length - 1)<ks.length:=by omega
  rw[ac,cc hi];exact vf hi
 refine⟨λa=>h.irr (m a),λa b c hac=>?_,λa b hab=>h.lt.as _ (m a) _ (m b) hab⟩;unfold ltI at hac ⊢;rcases h.lt.tot _ (m a) _ (m b) with e|e|e
 ·rw[<-e];exact .inr hac
 ·exact .inl e
 ·exact .inr (h.lt.tr _ (m b) _ (m a) _ (m c) e hac)
theorem KOk.sz{F:List D->Option D}{ks:List D}(h:KOk F ks):SzK (if 0<ks.length then ltI F ks else λ_ _=>false) ks.length:=by
 refine⟨h.sm.1.imp id λpw i j _ hij hj=>?_,h.sm.2⟩;have g:∀k,k<ks.length->Tim.ga (List.range ks.length).toArray k=k:=λk hk=>by rw[Tim.ga_eq];simp[hk]
 rw[g i (by omega),g j (by omega),la (by omega)];have e:∀k (hk:k<ks.length),ks.getD (min k (ks.length - 1)) .non=ks[k]:=λk hk=>by rw[show min k (ks.length - 1)=k by omega,ac,cc hk];rfl
 unfold ltI;rw[e i (by omega),e j (by omega)];by_cases z:i=j
 ·subst z;exact h.irr (vf _)
 ·exact h.lt.as _ (vf _) _ (vf _) (mf.mp pw i j (by omega) (by omega) (by omega))
theorem KOk.ord{F:List D->Option D}{ks:List D}(h:KOk F ks):KOrd (ks.map (rk F)) (if 0<ks.length then ltI F ks else λ_ _=>false):=by
 refine⟨?_,λr hr=>?_,?_,λi j r t hi hj=>?_⟩
 ·split
  ·rename_i hn;exact h.wo hn
  ·exact⟨λ_=>rfl,(λ_ _ _ z=>nomatch z),(λ_ _ z=>nomatch z)⟩
 ·obtain⟨d,hd,rfl⟩:=ic.mp hr
  obtain⟨r,h1,h2⟩:=h.ex d hd;rw[zd9 h1];exact h2
 ·rcases h.kd with k|k
  ·exact .inl λr hr=>by obtain⟨d,hd,rfl⟩:=ic.mp hr;exact k d hd
  ·exact .inr λr hr=>by obtain⟨d,hd,rfl⟩:=ic.mp hr;exact k d hd
 ·rw[qc]at hi hj
  obtain⟨d,hd,rfl⟩:=db.mp hi;obtain⟨e,he,rfl⟩:=db.mp hj;have i1:=(qa.mp hd).1;have j1:=(qa.mp he).1;refine⟨h.ok d (jd hd) e (jd he),?_⟩;rw[la (by omega)];unfold ltI ltK;rw[show min i (ks.length - 1)=i by omega,show min j (ks.length - 1)=j by omega,ac,hd,ac,he];rfl
theorem KOk.out{F:List D->Option D}{ks:List D}(h:KOk F ks){π:Array Nat}(hix:Ix ks.length π)(hup:Up (if 0<ks.length then ltI F ks else λ_ _=>false) π ks.length):π.toList.map (λi=>ks.getD i .non)=zm2 (ltK F) ks:=by
 have hsz:=hix.size;have bd:∀i∈π.toList,i<ks.length:=λi hi=>lg.mp (hix.mem_iff.mp hi)
 refine zux h.lt h.nd ?_ ?_
 ·have e:(List.range ks.length).map (λi=>ks.getD i D.non)=ks:=by
   apply fj;intro i;by_cases hi:i<ks.length
   ·simp[hi]
   ·simp[hi]
  have:=hix.map λi=>ks.getD i D.non
  rwa [e]at this
 ·rw[mf]
  intro i j hi hj hij;rw[ba,xf]at hi hj;have u:=hup i j (by omega) (by omega);rw[la (by omega)]at u;have gi:gp π i=π[i]:=by rw[z5l];simp[hi]
  have gj:gp π j=π[j]:=by rw[z5l];simp[hj]
  have bi:=bd π[i] (by simp);have bj:=bd π[j] (by simp);unfold ltI at u;rw[gi,gj,show min π[i] (ks.length - 1)=π[i] by omega,show min π[j] (ks.length - 1)=π[j] by omega]at u
  simpa using u
noncomputable abbrev zoe:DecidableEq D:=λa b=>Classical.propDecidable (a=b)
noncomputable def zg3(prog:Program)(w:World)(sg:List Nat)(p:Addr)(xs:List (D×Addr×Value)):HO:=.ext λh=>(p == sysModules)=false/\∃o es ep,h.get? p=some o/\o.ExactDict/\o.data=.dict es ep/\es.toList=xs.map (@entryOfKey prog w D zoe (zuw prog w sg))/\(xs.map (·.1)).Nodup
def zq3(K:PySem.W.Frag)(Hf:Hp)(sg:List Nat)(xs:List (D×Addr×Value)):Prop:=∀x∈xs,isN sg x.1=true/\Dn K Hf x.1 (.ref x.2.1)/\x.2.2=.bool true
open Classical in
noncomputable def zig(ks:List D)(d:D):List D:=if d∈ks then ks else ks++[d]
section
variable {X:Cx}{pins:List (Addr×Obj)}{σ:St}{H Hf:Hp}{s:Shared}{sg:List Nat}{p:Addr}{xs:List (D×Addr×Value)}
theorem z04{P:Program}{w:World}{H:Hp}{h:Heap}{a:Addr}{φ:Heap->Prop}(h1:φ h)(h2:∃o,h.get? a=some o)(h3:∀h1 h2:Heap,φ h1->(∀o,h1.get? a=some o->h2.get? a=some o)->φ h2):za8 P w H h a (.ext φ):=⟨h1,h2,h3⟩
theorem zm3{P:Program}{w:World}{H:Hp}{h:Heap}(h1:(p == sysModules)=false){o:Obj}{es:Array DictEntry}{ep:Nat}(ho:h.get? p=some o)(hx:o.ExactDict)(hd:o.data=.dict es ep)(he:es.toList=xs.map (@entryOfKey P w D zoe (zuw P w sg)))(hn:(xs.map (·.1)).Nodup):za8 P w H h p (zg3 P w sg p xs) :=
 z04 ⟨h1,o,es,ep,ho,hx,hd,he,hn⟩ ⟨o,ho⟩ λ_ _ ⟨a1,o,es,ep,a2,r⟩ k=>⟨a1,o,es,ep,k o a2,r⟩
theorem Inv.ndict(I:Inv X pins σ H s)(h:H p=some (zg3 X.prog X.w sg p xs)):(p == sysModules)=false/\∃o es ep,s.heap.get? p=some o/\o.ExactDict/\o.data=.dict es ep/\es.toList=xs.map (@entryOfKey X.prog X.w D zoe (zuw X.prog X.w sg))/\(xs.map (·.1)).Nodup :=
 (show za8 X.prog X.w H s.heap p (zg3 X.prog X.w sg p xs) from I.hok p _ h).1
theorem z05{x:D}(h:z00 x=true):dOk 1 x=true:=by
 cases x with
 |sc v=>rfl
 |_=>cases h
theorem z06{d:D}(h:isN sg d=true):dOk 3 d=true:=by
 cases d with
 |tup ds =>
  have str:∀l:List D,l.all z00=true->l.all (dOk 1)=true:=λl h=>df.mpr λx hx=>(z05 (df.mp h x hx))
  have one:∀(n:Nat) (d:D),sgI n d=true->dOk 2 d=true:=λn d h=>by
   match n,d,h with
   |0,.sc (.int i),_=>rfl
   |1,.sc (.bl i),_=>rfl
   |2,.tup ds,h=>exact str ds h
  have all:∀{sg:List Nat} {ds:List D},sgs sg ds=true->ds.all (dOk 2)=true:=by
   intro sg
   induction sg with
   |nil=>intro ds h;cases ds with|nil=>rfl|cons _ _=>cases h
   |cons n sg ih =>
    intro ds h
    cases ds with
    |nil=>cases h
    |cons d ds =>
     rw[sgs,ub]at h;rw[xi,one n d h.1,ih h.2];rfl
  exact all h
 |_=>cases h
theorem yb7(I:Inv X pins σ H s)(fh:zax Hf H){d:D}{a:Addr}(hN:isN sg d=true)(dn:Dn X.K Hf d (.ref a)):isN sg d=true/\HD s.heap 3 d (.ref a):=⟨hN,I.den ((dn.same fh).at (z06 hN)) rfl⟩
theorem zq4{xs:List (D×Addr×Value)}{K:PySem.W.Frag}(hx:zq3 K Hf sg xs){d:D}{a:Addr}(hN:isN sg d=true)(dn:Dn K Hf d (.ref a)):zq3 K Hf sg (@storedH D zoe xs d a (.bool true))/\(@storedH D zoe xs d a (.bool true)).map (·.1)=zig (xs.map (·.1)) d:=by
 unfold storedH zig;by_cases h:d∈xs.map (·.1)
 ·have h2:(@atKey D zoe xs d).isSome=true:=by
   unfold atKey;rw[vh,List.find?_isSome];obtain⟨x,hx1,hx2⟩:=ic.mp h;exact⟨x,hx1,@ib _ (zoe _ _) hx2⟩
  rw[la h2,la h]
  have e:xs.map (@putAt D zoe d (.bool true))=xs:=by
   refine(og λx hx1=>?_).trans (List.map_id _);show @putAt D zoe d (.bool true) x=x;unfold putAt;split
   ·rw[<-(hx x hx1).2.2]
   ·rfl
  rw[e];exact⟨hx,rfl⟩
 ·have h2:¬(@atKey D zoe xs d).isSome=true:=λz=>by
   unfold atKey at z;rw[vh,List.find?_isSome]at z;obtain⟨x,hx1,hx2⟩:=z;exact h (ic.mpr ⟨x,hx1,@yc _ (zoe _ _) hx2⟩)
  rw[wa h2,wa h];refine⟨λx hx1=>?_,by rw[lc];rfl⟩;rcases gc.mp hx1 with hx1|hx1
  ·exact hx x hx1
  ·rw[jb.mp hx1];exact⟨hN,dn,rfl⟩
theorem ydm{a:Addr}{d:D}{Q:Unit->Shared->Prop}{E:Value->Shared->Prop}(hu:X.A.units+4<cLine)(I:Inv X pins σ H s)(fh:zax Hf H)(hp:H p=some (zg3 X.prog X.w sg p xs))(hx:zq3 X.K Hf sg xs)(hl:xs.length<=100000)(hN:isN sg d=true)(dn:Dn X.K Hf d (.ref a))
  (q:∀s',Inv X pins σ (upd H p (zg3 X.prog X.w sg p (@storedH D zoe xs d a (.bool true)))) s'->Q () s'):wpAny (model X.prog X.w) X.A (setItem (.ref p) (.ref a) (.bool true)) Q E s:=by
 obtain⟨h0,o,es,ep,h1,h2,h3,h4,h5⟩:=I.ndict hp;refine@wpAny_setItem_heap X.prog X.w D zoe (zuw X.prog X.w sg) X.A E s p a d xs (.bool true) Q (show X.A.units+1+3<cLine by omega) (yb7 I fh hN dn) ⟨o,es,ep,h1,h2,h3,h4,λx hx1=>yb7 I fh (hx x hx1).1 (hx x hx1).2.1,h5⟩ (λh' hd' hs=>q _ ?_) (sz hl);obtain⟨o',es',ep',g1,g2,g3,g4,_,g5⟩:=hd';exact I.write (x:=p) (e:=p) (by rw[hp];trivial) (.inl rfl) (λb u hb e=>(hs.2 b hb).trans e) ⟨_,g1⟩ (zm3 h0 g1 g2 g3 g4 g5)
end
structure NS(X:Cx)(B:Bs)(sg:List Nat)(j:Nat)(Hf:Hp)(ρ:Rho)(σ:St)(H:Hp)(ks:List D):Prop where
 vi:VI X.K B Hf ρ σ H
 nj:ρ[j]?=some none
 ex:∃p xs,σ[j]?=some (some (.ref p))/\Hf p=none/\B.h p=none/\H p=some (zg3 X.prog X.w sg p xs)/\xs.map (·.1)=ks/\zq3 X.K Hf sg xs
noncomputable abbrev GN:=Rho->List D->Option (Rho×List D)
noncomputable def sNx(X:Cx)(B:Bs)(sg:List Nat)(j:Nat)(g:GN):TS:=λD σ H=>∃Hf ρ ks ρ' ks',NS X B sg j Hf ρ σ H ks/\g ρ ks=some (ρ',ks')/\∀Hf' σ' H',zax Hf Hf'->NS X B sg j Hf' ρ' σ' H' ks'->D.nx σ' H'
noncomputable def zq5(sg:List Nat)(fk:Rho->Option D):GN:=λρ ks=>(fk ρ).bind λd=>if isN sg d=true/\ks.length<=100000 then some (ρ,zig ks d) else none
noncomputable def zq6(gt:D->Rho->Option Rho)(f:GN):List D->GN
 |[],ρ,ks=>some (ρ,ks)
 |d::r,ρ,ks=>(gt d ρ).bind λρ1=>(f ρ1 ks).bind λz=>zq6 gt f r z.1 z.2
noncomputable def zsw(fi:Rho->Option (List D))(gt:D->Rho->Option Rho)(f:GN):GN:=λρ ks=>(fi ρ).bind λds=>zq6 gt f ds ρ ks
theorem zlm{Hf H Hf' H':Hp}{p:Addr}{o:HO}(e:Ex Hf H Hf' H')(h1:Hf p=none)(h2:H p=some o)(ho:∀xs,o≠.tup xs:=by intro xs z;cases z):Hf' p=none:=by
 cases z:Hf' p with
 |none=>rfl
 |some u =>
  rcases e.nw p (by rw[z];exact λz=>nomatch z) with y|y
  ·exact absurd h1 y
  ·exact(y.no h2 ho).elim
section
variable {X:Cx}{B:Bs}{sg:List Nat}{j:Nat}{Hf Hf' H H':Hp}{ρ:Rho}{σ:St}{ks:List D}{K:PySem.W.Frag}
theorem NS.ext(I:NS X B sg j Hf ρ σ H ks)(e:Ex Hf H Hf' H'):NS X B sg j Hf' ρ σ H' ks :=
 ⟨I.vi.ext e,I.nj,let ⟨p,xs,h1,h2,h3,h4,h5,h6⟩:=I.ex;⟨p,xs,h1,zlm e h2 h4 (λ_ z=>nomatch z),h3,e.hh _ _ h4,h5,λx hx=>⟨(h6 x hx).1,(h6 x hx).2.1.same e.ff,(h6 x hx).2.2⟩⟩⟩
theorem VI.setU{x:Option V}(I:VI K B Hf ρ σ H)(hj:ρ[j]?=some none):VI K B Hf ρ (σ.set j x) H:=by
 have ne:∀{i:Nat} {sl:Sl},ρ[i]?=some (some sl)->j≠i:=λ{i sl} h z=>by subst z;rw[hj]at h;cases h
 refine⟨I.ex,by simp[I.len],λi sl h=>?_,λi sl p h o q=>?_,λi k si sk p h1 h2 o1 o2 q1 q2=>?_⟩
 ·obtain⟨v,h1,h2⟩:=I.ok i sl h
  exact⟨v,by rw[na (ne h)];exact h1,h2⟩
 ·rw[na (ne h)]at q;exact I.own i sl p h o q
 ·rw[na (ne h1)]at q1
  rw[na (ne h2)]at q2;exact I.dis i k si sk p h1 h2 o1 o2 q1 q2
theorem VI.offE{p:Addr}{φ:Heap->Prop}{o:HO}(I:VI K B Hf ρ σ H)(hf:Hf p=none)(hB:B.h p=none)(hp:H p=some (.ext φ)):VI K B Hf ρ σ (upd H p o):=by
 refine⟨⟨I.ex.ff,λb u h=>?_,λb u h=>?_,I.ex.nw,I.ex.nf⟩,I.len,λi sl h=>?_,I.own,I.dis⟩
 ·rw[zad (zag h hB)];exact I.ex.hh b u h
 ·rw[zad (zag h hf)];exact I.fh b u h
 ·obtain⟨v,h1,h2⟩:=I.ok i sl h
  refine⟨v,h1,h2.away λo z=>?_⟩;subst z
  cases sl with
  |sh d=>cases o
  |ow ds=>obtain⟨q,xs,e,_,h3,_⟩:=h2;cases e;rw[hp]at h3;cases h3
  |dk ks ds=>obtain⟨q,xs,e,_,h3,_⟩:=h2;cases e;rw[hp]at h3;cases h3
  |dt ks ds=>obtain⟨q,xs,e,_,h3,_⟩:=h2;cases e;rw[hp]at h3;cases h3
variable {fk:Rho->Option D}{pos:Pos}{key:Expr}
theorem yao {n:Nat}{x:Str}{p1 pos' cp:Pos}{kk:Nat} (hr:Room n X.A) (hN:X.N[j]?=some x) (hk:PE X key (eV X.K B fk)) (hvis:Vis X.env.scope x:=by first|exact cb rfl|exact af (cb rfl)|exact af (af rfl)) (hd:(x == ("__debug__" : Str))=false:=by decide) (hcd:(x == ("__classdict__" : Str))=false:=by decide)
  (hs:swapsWith (.Constant (.bool true) kk cp) (some (.Subscript (.Name x p1) key pos')) pos.line X.env=pure false:=by rfl):PS X (.Assign [.Subscript (.Name x p1) key pos'] (.Constant (.bool true) kk cp) pos) (sNx X B sg j (zq5 sg fk)):=by
 intro pins s σ H D I h;obtain⟨Hf,ρ,ks,ρ',ks',N,hg,q⟩:=h;obtain⟨d,hd0,hg⟩:=bind_some hg
 split at hg
 ·rename_i hc
  cases hg;obtain⟨p,xs,hσ,hf,hB,hp,hks,hxs⟩:=N.ex
  refine wpAny_Assign_Subscript (thn (z2q pins s σ H (λv H1=>v=.bl true/\H1=H) I ⟨rfl,rfl⟩) λr s1 ⟨v,H1,I1,rv,e1,e2⟩=>?_) hs;subst e1 e2;cases rv;refine thn (zcg hN hvis hd hcd pins s1 σ H1 (λv H2=>v=.ref p/\H2=H1) I1 ⟨_,hσ,rfl,rfl⟩) λu s2 ⟨v,H2,I2,ru,e1,e2⟩=>?_
  subst e1 e2;cases ru;refine thn (hk pins s2 σ H2 (λv H3=>∃Hf3,Ex Hf H2 Hf3 H3/\Dn X.K Hf3 d v) I2 ⟨Hf,ρ,d,N.vi,hd0,λHf3 H3 v ex dv=>⟨Hf3,ex,dv⟩⟩) λiv s3 ⟨y,H3,I3,ry,Hf3,ex,dy⟩=>?_
  have N3:=N.ext ex
  obtain⟨a,rfl⟩:∃a,y=.ref a:=by
   cases d with
   |tup ds=>obtain⟨a,_,e,_⟩:=dy.tupU;exact⟨a,e⟩
   |_=>cases hc.1
  cases ry;have hp3:H3 p=some (zg3 X.prog X.w sg p xs):=ex.hh _ _ hp
  have hf3:=zlm ex hf hp (λ_ z=>nomatch z);have hxs3:zq3 X.K Hf3 sg xs:=λx hx=>⟨(hxs x hx).1,(hxs x hx).2.1.same ex.ff,(hxs x hx).2.2⟩
  refine ydm (by have:=hr.units;omega) I3 ex.fh hp3 hxs3 (by rw[<-ba (f:=(·.1)),hks];exact hc.2) hc.1 dy λs4 I4=>⟨σ,_,I4,q Hf3 σ _ ex.ff ⟨N3.vi.offE hf3 hB hp3,N3.nj,p,_,hσ,hf3,hB,zac,?_,(zq4 hxs3 hc.1 dy).1⟩⟩
  rw[(zq4 hxs3 hc.1 dy).2,hks]
 ·cases hg
variable {tg iter:Expr}{fi:Rho->Option (List D)}{gt:D->Rho->Option Rho}{sl:List Nat}{g:GN}
theorem z5y{body:List Stmt}(hp:PassesOwn (model X.prog X.w) X.A X.env X.xe)(hc:X.calm=true)(hi:PI X tg iter (iV X.K B fi))(hg:PG X tg (gV X.K B sl gt))(hj:j ∉ sl)(hgt:∀d ρ ρ1,gt d ρ=some ρ1->ρ1[j]?=ρ[j]?)(hb:PSs X body (sNx X B sg j g))(hs:∀x,foldedSetIterable iter X.env x=pure x:=by intro _;rfl):PS X (.For tg iter body [] pos) (sNx X B sg j (zsw fi gt g)):=(zlz hp hc hi hg hb hs).imp λD σ H ⟨Hf,ρ,ks,ρ',ks',N,hgg,q⟩=>by
 obtain⟨ds,e,hgg⟩:=bind_some hgg;refine⟨Hf,ρ,ds,N.vi,e,λJ Hf1 H1 ex1 ok=>?_⟩;refine⟨λi m σ H=>m=ds.length - i/\i<=ds.length/\∃Hf2 ρ2 ks2,NS X B sg j Hf2 ρ2 σ H ks2/\zax Hf1 Hf2/\zq6 gt g (ds.drop i) ρ2 ks2=some (ρ',ks'),⟨ds.length,by simp,ud _,Hf1,ρ,ks,N.ext ex1,zax.refl _,hgg⟩,?_⟩;rintro i m σ2 H2 ⟨rfl,hi,Hf2,ρ2,ks2,N2,s12,q2⟩;have okk:=ok Hf2 H2 (s12.trans N2.vi.fh) s12 N2.vi.fh i;by_cases hlt:i<ds.length
 ·obtain⟨go,yld⟩:=okk.1 ds[i] (by simp[hlt])
  refine .inr ⟨go,λσ' H'=>∃Hf3 ρ3 ks3,NS X B sg j Hf3 ρ3 σ' H' ks3/\zax Hf1 Hf3/\zq6 gt g (ds.drop (i+1)) ρ3 ks3=some (ρ',ks'),λσ' H' z=>⟨ds.length - (i+1),by omega,rfl,hlt,z⟩,λx H3 y=>?_⟩;obtain⟨Hf3,ex3,dx⟩:=yld x H3 y;rw[se hlt]at q2;unfold zq6 at q2;obtain⟨ρ1,hg1,q2⟩:=bind_some q2;obtain⟨z,hz,q2⟩:=bind_some q2;have N3:=N2.ext ex3;refine⟨Hf3,ρ2,_,ρ1,N3.vi,dx,hg1,λσ' I' _ hk=>⟨Hf3,ρ1,ks2,z.1,z.2,⟨I',(hgt _ _ _ hg1).trans N3.nj,?_⟩,hz,λHf' σ'' H'' sm N'=>⟨Hf',z.1,z.2,N',(s12.trans ex3.ff).trans sm,q2⟩⟩⟩;obtain⟨p,xs,h1,r⟩:=N3.ex;exact⟨p,xs,(hk j hj).trans h1,r⟩
 ·have e:i=ds.length:=by omega
  subst e;rw[ji]at q2;unfold zq6 at q2;cases q2;exact .inl ⟨okk.2 (va _),q Hf2 σ2 H2 (ex1.ff.trans s12) N2⟩
theorem z5z{st:Stmt}(h:PS X st (sNx X B sg j g)):PSs X [st] (sNx X B sg j g):=zfq h
end
section
variable {X:Cx}{B:Bs}{sg:List Nat}{j k:Nat}{g:GN}{F:List D->Option D}{f:Addr}{fd:FuncData}{p:Str}{pos:Pos}
theorem zuy(sg:List Nat):PE X (.Dict [] [] pos) (λ_ H Q=>∀p,H p=none->Q (.ref p) (upd H p (zg3 X.prog X.w sg p []))):=λpins s σ H Q I h =>
 xn ⟨.ref s.heap.objs.size,_,I.laid (a:=s.heap.objs.size) (o:=zg3 X.prog X.w sg s.heap.objs.size []) (t':=s.toks) (λ_ _ q=>ma _ q) (va _) (zm3 (zh.mpr (rf (dc I.big))) (es:=#[]) (ep:=0) (gb _ rfl) ⟨rfl,rfl,rfl⟩ rfl rfl kh),rfl,h _ (I.hok.fresh (va _))⟩
noncomputable def z50(X:Cx)(B:Bs)(sg:List Nat)(j:Nat)(F:List D->Option D):TE:=λσ H Q=>∃Hf ρ ks,NS X B sg j Hf ρ σ H ks/\KOk F ks/\∀Hf' H' l ys,Ex Hf H Hf' H'->H l=none->Hf' l=none->H' l=some (.lst ys)->Dns X.K Hf' (zm2 (ltK F) ks) ys->Q (.ref l) H'
theorem zuz {x fn:Str}{p1 p2 p3 p4:Pos} (hc:X.calm=true) (G:FnOk X.prog X.w X.K X.mg X.base CX0 k f fd [p] (spV X.K 1 F)) (hr:Room k X.A.in1.in1) (hg:Gl X "sorted") (hm:X.mg "sorted" = none) (hgf:Gl X fn) (hmf:X.mg fn=some (.ref f)) (hb:zch X.K fd [p] []) (hN:X.N[j]?=some x)
  (hvis:Vis X.env.scope x:=by first|exact cb rfl|exact af (cb rfl)|exact af (af rfl)) (hd:(x == ("__debug__" : Str))=false:=by decide) (hcd:(x == ("__classdict__" : Str))=false:=by decide) (hfd:(fn == ("__debug__" : Str))=false:=by decide) :
  PE X (.Call (.Name "sorted" p1) [.Name x p2] [⟨some "key",.Name fn p3,p4⟩] pos) (z50 X B sg j F):=by
 intro pins s σ H Q I h;obtain⟨Hf,ρ,ks,N,ok,q⟩:=h;obtain⟨a,xs,hσ,hf,hB,hp,hks,hxs⟩:=N.ex;refine zf (zef I hg hm zfy ?_ (by decide) (by decide));refine callWith_kw (thn ((zbp (zcg hN hvis hd hcd) zc5 (by rfl)) pos pins s σ H (λvs H1=>vs=[.ref a]/\H1=H) I ⟨_,hσ,rfl,rfl⟩) λus s1 ⟨vs,H1,I1,rv,e1,e2⟩=>?_) (by rfl) (by rfl) (by rfl) (by rfl);subst e1 e2;obtain⟨u,rfl,ru⟩:=zeg rv;cases ru;refine thn ((zo5 (zkw (v:=.ref f) hgf hmf rfl hfd) zv8) pos pins s1 σ H1 (λvs H2=>vs=[.ref f]/\H2=H1) I1 ⟨rfl,rfl⟩) λus s2 ⟨vs,H2,I2,rv,e1,e2⟩=>?_
 subst e1 e2;obtain⟨u,rfl,ru⟩:=zeg rv;cases ru;show wpAny (model X.prog X.w) X.A (call (.builtin "sorted") [.ref a] [(Str.ofString "key",.ref f)]) _ _ _;obtain⟨h0,o,es,ep,h1,h2,h3,h4,h5⟩:=I2.ndict hp;have hl:xs.length=ks.length:=by rw[<-hks,ba]
 have hsm:=ok.sm.2
 have dn:Dns X.K Hf ks (xs.map λx=>V.ref x.2.1):=by
  rw[<-hks]
  have:∀l:List (D×Addr×Value),(∀x∈l,x∈xs)->Dns X.K Hf (l.map (·.1)) (l.map λx=>V.ref x.2.1):=by
   intro l
   induction l with
   |nil=>intro _;exact .nil
   |cons y r ih=>intro hh;exact .cons (hxs y (hh y xa)).2.1 (ih λz hz=>hh z (ja _ hz))
  exact this xs λx hx=>hx
 have hes:es.toList.map (·.key)=xs.map λx=>Value.ref x.2.1:=by rw[h4,zd];rfl
 have hsz:es.size=xs.length:=by rw[<-xf,h4,ba]
 refine zhn (rs:=ks.map (rk F)) G hr hb I2 N.vi.fh dn (λR hR=>zgh (A:=X.A.in1) (I.ok.hd hc) h0 ⟨o,h1,h2,h3⟩ (by rw[hsz];exact sz (by omega)) λh' tk keep=>?_) (λi d hd=>?_) (by rw[ba]) ok.sz ok.ord λHf' H' l π ex hl1 hl2 hl3 hix hup=>q Hf' H' l _ ex hl1 hl2 hl3 ?_
 ·rw[hes]
  refine hR h' tk _ keep ?_
  have:∀l:List (D×Addr×Value),zbj (l.map λx=>V.ref x.2.1) (l.map λx=>Value.ref x.2.1):=by
   intro l
   induction l with
   |nil=>exact .nil
   |cons y r ih=>exact .cons rfl ih
  exact this xs
 ·obtain⟨r,e1,_⟩:=ok.ex d (jd hd)
  exact⟨r,by rw[qc,hd];show some (rk F d)=_;rw[zd9 e1],e1⟩
 ·rw[<-ok.out hix hup]
  have dn':=dn.same ex.ff
  have each:∀l:List Nat,(∀i∈l,i<ks.length)->Dns X.K Hf' (l.map λi=>ks.getD i D.non) (l.map λi=>(xs.map λx=>V.ref x.2.1).getD i V.non):=by
   intro l
   induction l with
   |nil=>intro _;exact .nil
   |cons i r ih =>
    intro hh;refine .cons ?_ (ih λz hz=>hh z (ja _ hz));have hi:=hh i xa;have e1:ks[i]?=some ks[i]:=cc hi;obtain⟨v,e2,dv⟩:=dn'.zget e1;show Dn X.K Hf' (ks.getD i D.non) ((xs.map λx=>V.ref x.2.1).getD i V.non);rw[ac,e1,ac,e2];exact dv
  exact each _ λi hi=>lg.mp (hix.mem_iff.mp hi)
noncomputable def zq7(j:Nat)(g:GN)(F:List D->Option D):Rho->Out:=λρ=>match ρ[j]? with
 |some none=>(match g ρ [] with|some z=>(match zif F z.2 with|some out=>.rw out|none=>.bad)|none=>.bad)
 |_=>.bad
theorem z51 {x fn:Str}{s2:Stmt}{q1 q2 q3 p1 p2 p3 p4 pos':Pos} (sg:List Nat) (hNd:X.N.Nodup) (hN:X.N[j]?=some x) (hx:Loc X.env.scope x) (h2:PS X s2 (sNx X B sg j g)) (hc:X.calm=true) (G:FnOk X.prog X.w X.K X.mg X.base CX0 k f fd [p] (spV X.K 1 F)) (hr:Room k X.A.in1.in1) (hg:Gl X "sorted") (hm:X.mg "sorted" = none) (hgf:Gl X fn) (hmf:X.mg fn=some (.ref f)) (hb:zch X.K fd [p] [])
  (hs:swapsWith (.Dict [] [] q1) (some (.Name x q2)) q3.line X.env=pure false:=by rfl) (hf:X.fn x=true\/X.env.scope.names.lookup x=some .local:=by first|exact .inl rfl|exact .inr rfl|assumption)
  (hvis:Vis X.env.scope x:=by first|exact cb rfl|exact af (cb rfl)|exact af (af rfl)) (hd:(x == ("__debug__" : Str))=false:=by decide) (hcd:(x == ("__classdict__" : Str))=false:=by decide) (hfd:(fn == ("__debug__" : Str))=false:=by decide) :
  PSs X [.Assign [.Name x q2] (.Dict [] [] q1) q3,s2,.Return (some (.Call (.Name "sorted" p1) [.Name x p2] [⟨some "key",.Name fn p3,p4⟩] pos)) pos'] (sV X.K B (zq7 j g F)) :=
 (zbt (zfr hNd hN hx (zuy sg) hs hf) (zbt h2 (zfq (zlx (zuz (B:=B) (sg:=sg) hc G hr hg hm hgf hmf hb hN hvis hd hcd hfd))))).imp λD σ H ⟨Hf,ρ,I,q⟩=>by
  unfold zq7 at q
  split at q
  ·rename_i hj
   split at q
   ·rename_i z hz
    split at q
    ·rename_i out ho
     intro a ha
     have ok:KOk F z.2:=by
      unfold zif at ho
      split at ho
      ·assumption
      ·cases ho
     have eo:out=zm2 (ltK F) z.2:=by
      unfold zif at ho;rw[la ok]at ho;exact(kc ho).symm
     have hjl:j<σ.length:=by rw[<-I.len];exact(qa.mp hj).1
     have I1:VI X.K B Hf ρ (σ.set j (some (.ref a))) (upd H a (zg3 X.prog X.w sg a [])):=(I.setU hj).ext (Ex.made I.fh ha);refine⟨Hf,ρ,[],z.1,z.2,⟨I1,hj,a,[],by rw[nb hjl],I.fh.free ha,I.ex.hh.free ha,zac,rfl,λx hx=>by cases hx⟩,hz,λHf' σ' H' sm N'=>⟨Hf',z.1,z.2,N',ok,λHf2 H2 l ys ex hl1 hl2 hl3 dn=>?_⟩⟩;exact q Hf2 H2 l ys (N'.vi.ex.trans ex) (N'.vi.ex.hh.free hl1) hl2 hl3 (by rw[eo];exact dn)
    ·exact q.elim
   ·exact q.elim
  ·exact q.elim
end
theorem Room.in2{k:Nat}{A:Around}(h:Room (k+1) A):Room k A.in1.in1:=⟨h.hd,by have:=h.dp;show A.depth+3 * k+5<_;omega,by have:=h.un;show A.units+1+1+16 * k+200<_;omega⟩
def HG(j:Nat)(r:List D->Rho->Option Rho):Prop:=∀ds ρ ρ1,r ds ρ=some ρ1->ρ1[j]?=ρ[j]?
theorem zln{i j:Nat}(h:i≠j):∀d ρ ρ1,gN i d ρ=some ρ1->ρ1[j]?=ρ[j]?:=λd ρ ρ1 e=>by cases e;exact na h
theorem yap{j:Nat}:HG j gT0:=λds ρ ρ1 e=>by
 unfold gT0 at e
 split at e
 ·cases e;rfl
 ·cases e
theorem zu0{j:Nat}{g:D->Rho->Option Rho}{r:List D->Rho->Option Rho}(h1:∀d ρ ρ1,g d ρ=some ρ1->ρ1[j]?=ρ[j]?)(h2:HG j r):HG j (gTC g r):=λds ρ ρ1 e=>by
 unfold gTC at e
 split at e
 ·obtain⟨ρ2,e1,e2⟩:=bind_some e
  exact(h2 _ _ _ e2).trans (h1 _ _ _ e1)
 ·cases e
theorem yaq{j n:Nat}{r:List D->Rho->Option Rho}(h:HG j r):∀d ρ ρ1,gT n r d ρ=some ρ1->ρ1[j]?=ρ[j]?:=λd ρ ρ1 e=>by
 unfold gT at e
 split at e
 ·split at e
  ·exact h _ _ _ e
  ·cases e
 ·cases e
end L2
namespace L2
open PySem PyProof.Rows
section
variable {pg:Program}{w:World}{A:Around}{R:Result->Shared->Prop}{I S:Addr}{fp wr:List Addr}{n:Nat}{P:Nat->Value->Prop}{St:Nat->Heap->Prop}{Kp:Heap->Prop}{bt:Nat->Nat->Bool}
theorem z07(Z:Walks pg w A.in1 I fp wr n P St)(kst:∀h h',Kp h->(∀b o,b ∉ wr->b≠S->h.get? b=some o->h'.get? b=some o)->Kp h')
  (cmp:∀i j u v (t:Shared) (Q:Value->Shared->Prop) (E:Value->Shared->Prop),P i u->P j v->Kp t.heap->Q (.bool (bt i j)) t->wpAny (model pg w) A.in1 (richCompare .Lt u v) Q E t) (nS:S ∉ fp) :
  ∀(k j:Nat) (t:Shared) (vb:Value) (c:Nat),n - (j+1)=k->j+1<=n->St (j+1) t.heap->Kp t.heap->P (argBest bt j) vb->t.heap.get? S=some { cls:=.type "list",dict:=none,data:=.seq #[vb,vb] c,slots:=#[] } →
  (∀v h' tk,P (argBest bt (n - 1)) v->(∀b o,b ∉ wr->b≠S->t.heap.get? b=some o->h'.get? b=some o)->R (.ok (.ret v)) { t with heap:=h',toks:=tk }) →
  codeAny (model pg w) A (.builtin "min.loop" ⟨[.ref I,.none,.ref S],[]⟩) R t:=by
 have nW:S ∉ wr:=λh=>nS (Z.sub _ h)
 have nam:(toString "min" ++ toString ".loop" : String) = "min.loop":=by decide
 intro k
 induction k with
 |zero =>
  intro j t vb c hk hj ht kp hv hS fin;have hn:j+1=n:=by omega
  refine oi PySem.F.entry_min_loop ?_;rw[rh PySem.F.plain_min_loop _];show wpAny _ A.in1 (seqItems? (.ref S) >>= _) _ _ t;refine aa (jm hS rfl ?_);show wpAny _ A.in1 (tryCatch (pyNext (.ref I)) _ >>= _) _ _ t;refine aa (km (Z.done t _ _ (hn ▸ ht) λh' tk kk=>?_));show wpAny _ A.in1 (updateSeq S (λ_=>#[]) >>= _) _ _ _;refine aa ?_;refine qp (kk S _ nW hS) rfl (aa (ll (ia ?_)));exact fin vb _ tk (by rw[<-hn];exact hv) λb o hbw hbS e=>(xb _ _ (rf hbS)).trans (kk b o hbw e)
 |succ k ih =>
  intro j t vb c hk hj ht kp hv hS fin;have lt:j+1<n:=by omega
  refine oi PySem.F.entry_min_loop ?_;rw[rh PySem.F.plain_min_loop _];show wpAny _ A.in1 (seqItems? (.ref S) >>= _) _ _ t;refine aa (jm hS rfl ?_);show wpAny _ A.in1 (tryCatch (pyNext (.ref I)) _ >>= _) _ _ t;refine aa (km (Z.item (j+1) t _ _ lt ht λv h' tk hP ht' kk=>?_));have hS1:=kk S _ nW hS;have kp1:Kp h':=kst _ _ kp λb o hb _ e=>kk b o hb e
  show wpAny _ A.in1 (tryCatch (holding [v,v] (richCompare .Lt v vb >>= _)) _ >>= _) _ _ _;refine aa (km (wf (aa (cmp (j+1) (argBest bt j) v vb _ _ _ hP hv kp1 ?_))));refine aa (wf (gg ?_));refine aa (ll (ia ?_))
  cases hb:bt (j+1) (argBest bt j) with
  |true =>
   simp only[wk];refine aa ?_;refine qp hS1 rfl (aa (ll ?_));rw[nam];have ot:∀b o,b≠S->h'.get? b=some o->(h'.update S (Obj.mapSeq λ_=>#[v,v])).get? b=some o:=λb o hb e=>(xb _ _ (rf hb)).trans e
   exact wpAny_pure ⟨plainId_quiet PySem.F.plain_min_loop _,ih (j+1) _ v _ (by omega) lt (Z.frame _ _ _ ht' λ b hbf o e=>ot b o (λ h:b=S=>nS (by rw[<-h];exact hbf)) e) (kst _ _ kp1 λ b o _ hb e=>ot b o hb e) (by simp only[argBest,hb,if_true];exact hP) (Heap.get?_update_self _ hS1 rfl)
    λv' h'' tk'' hP' k2=>fin v' h'' tk'' hP' λb o hbw hbS e=>k2 b o hbw hbS (ot b o hbS (kk b o hbw e))⟩
  |false =>
   simp only[yb,xh];refine aa (ll ?_);rw[nam];exact ia ⟨yi PySem.F.plain_min_loop _,ih (j+1) _ vb c (by omega) lt ht' kp1 (by simp only[argBest,hb,yb,xh];exact hv) hS1 λv' h'' tk'' hP' k2=>fin v' h'' tk'' hP' λb o hbw hbS e=>k2 b o hbw hbS (kk b o hbw e)⟩
theorem z08{E:Value->Shared->Prop}{t:Shared}{x:Value}{Q:Value->Shared->Prop}{bt:Nat->Nat->Bool}{Kp:Heap->Prop}(kst:∀h h',Kp h->(∀b o,b ∉ [t.heap.objs.size,t.heap.objs.size+1]->h.get? b=some o->h'.get? b=some o)->Kp h')
  (h:wpAny (model pg w) A.in1 (pyIter x) (λ it t2=>∃ fp n P St,it=.ref t.heap.objs.size/\Walks pg w A.in1 t.heap.objs.size fp [t.heap.objs.size] n P St/\St 0 t2.heap/\(∀ b∈fp,b<t2.heap.objs.size)/\t2.heap.objs.size=t.heap.objs.size+1/\0<n/\Kp t2.heap ∧
   (∀i j u v (t:Shared) (Q:Value->Shared->Prop) (E:Value->Shared->Prop),P i u->P j v->Kp t.heap->Q (.bool (bt i j)) t->wpAny (model pg w) A.in1 (richCompare .Lt u v) Q E t) ∧
   ∀v h' tk,P (argBest bt (n - 1)) v->(∀b o,b ∉ [t.heap.objs.size]->t2.heap.get? b=some o->h'.get? b=some o)->Q v { t2 with heap:=h',toks:=tk }) E t) :
  wpAny (model pg w) A (call (.builtin "min") [x]) Q E t:=by
 have nam:(toString "min" ++ toString ".loop" : String) = "min.loop":=by decide
 refine call_function_tree PySem.F.kind_min PySem.F.plain_min PySem.F.entry_min (PySem.F.args_min1 _) ?_
 show wpAny _ A.in1 (Builtin.Builtins.bindParams "min" ["key","default"] 0 ⟨[],[]⟩ >>= _) _ _ t;refine aa (wpAny_of_eq (show Builtin.Builtins.bindParams "min" ["key","default"] 0 ⟨[],[]⟩=pure [none,none] from rfl) ?_);refine aa (ia ?_);refine aa (ye h (λit t2 h2=>?_) λ_ _ e=>e);obtain⟨fp,n,P,St,rfl,Z,st0,hfp,hsz,hn,kp,cmp,fin⟩:=h2;refine aa (gf ?_);rw[nam];have nS:t2.heap.objs.size ∉ fp:=λhm=>wg _ (hfp _ hm)
 have nW:t2.heap.objs.size ∉ [t.heap.objs.size]:=λhm=>nS (Z.sub _ hm)
 have push:∀b o (x:Obj),t2.heap.get? b=some o->(t2.heap.push x).get? b=some o:=λb o x e=>ma _ e
 have kst':∀h h',Kp h->(∀b o,b ∉ [t.heap.objs.size]->b≠t2.heap.objs.size->h.get? b=some o->h'.get? b=some o)->Kp h':=λh h' k q=>kst h h' k λb o hb e=>q b o (λz=>hb (by rw[jb.mp z];exact .head _)) (λz=>hb (by rw[z,hsz];exact .tail _ (.head _))) e
 refine ia ⟨yi PySem.F.plain_min_loop _,?_⟩;refine oi PySem.F.entry_min_loop ?_;rw[rh PySem.F.plain_min_loop _];show wpAny _ A.in1 (seqItems? (.ref t2.heap.objs.size) >>= _) _ _ _;refine aa (jm (gb _ rfl) rfl ?_);show wpAny _ A.in1 (tryCatch (pyNext (.ref t.heap.objs.size)) _ >>= _) _ _ _;refine aa (km (Z.item 0 _ _ _ hn (Z.frame _ _ _ st0 λb _ o e=>push b o _ e) λv h' tk hP st1 kk=>?_));have hS1:=kk t2.heap.objs.size _ nW (gb _ rfl);show wpAny _ A.in1 (updateSeq t2.heap.objs.size (λ_=>#[v,v]) >>= _) _ _ _;refine aa ?_;refine qp hS1 rfl ?_;rw[nam];have ot:∀b o,b≠t2.heap.objs.size->h'.get? b=some o->(h'.update t2.heap.objs.size (Obj.mapSeq λ_=>#[v,v])).get? b=some o:=λb o hb e=>(xb _ _ (rf hb)).trans e
 have all:∀b o,b ∉ [t.heap.objs.size]->b≠t2.heap.objs.size->t2.heap.get? b=some o->(h'.update t2.heap.objs.size (Obj.mapSeq λ_=>#[v,v])).get? b=some o:=λb o hb hS e=>ot b o hS (kk b o hb (push b o _ e))
 refine ia ⟨yi PySem.F.plain_min_loop _,z07 Z kst' cmp nS _ 0 _ v _ rfl hn (Z.frame _ _ _ st1 λb hbf o e=>ot b o (λh:b=_=>nS (by rw[<-h];exact hbf)) e) (kst' _ _ kp all) hP (md _ hS1 rfl) λv' h'' tk'' hP' k2=>?_⟩;exact fin v' h'' tk'' hP' λb o hbw e=>k2 b o hbw (dc (ya e)) (all b o hbw (dc (ya e)) e)
end
theorem zea{α β:Type}{F G:α->β->Prop}(f:∀a b,F a b->G a b):∀{l:List α}{m:List β},Paired F l m->Paired G l m
 |_,_,.nil=>.nil
 |_,_,.cons a b=>.cons (f _ _ a) (zea f b)
theorem zq8{h h':Heap}(q:∀b o,h.get? b=some o->h'.get? b=some o):∀{k:Nat}{d:D}{u:Value},HD h k d u->HD h' k d u:=by
 intro k
 induction k with
 |zero =>
  intro d u z
  cases d with
  |sc v=>exact z
  |_=>exact z.elim
 |succ k ih =>
  intro d u z
  cases d with
  |sc v=>exact z
  |tup ds =>
   obtain⟨a,its,e,t,p⟩:=z;obtain⟨o,t1,t2⟩:=t;exact⟨a,its,e,⟨o,q _ _ t1,t2⟩,zea (λ_ _ z=>ih z) p⟩
  |lst ds =>
   obtain⟨a,its,e,t,p⟩:=z;obtain⟨o,n,t1,t2⟩:=t;exact⟨a,its,e,⟨o,n,q _ _ t1,t2⟩,zea (λ_ _ z=>ih z) p⟩
  |_=>exact z.elim
noncomputable def btD(es:List D)(i j:Nat):Bool:=dlt (es.getD i (.sc .non)) (es.getD j (.sc .non))
def z52(K:PySem.W.Frag):List V->Hp->VK->Prop:=λxs H Q=>∃p ys ds,xs=[.ref p]/\SqL K H p ys/\Paired (Den K H LV) ds ys/\ds≠[]/\(∀d∈ds,∀e∈ds,zb4 d e=true)/\∀x,ys[argBest (btD ds) (ds.length - 1)]?=some x->Q x H
variable {X:Cx}
theorem z53{k:Nat}(hc:X.calm=true)(hr:Room k X.A):zb6 X (.builtin "min") (z52 X.K):=by
 intro pins s σ H xs us Q I rv h;obtain⟨p,ys,ds,rfl,hq,pd,hne,ho,q⟩:=h;obtain⟨u,rfl,ru⟩:=zeg rv;cases ru;obtain⟨its,r,pl,_⟩:=I.list hq;have hl:=pl.isList;have hlt:p<s.heap.objs.size:=by obtain⟨_,e,_⟩:=hl;exact ya e
 have len1:=pd.length;have len2:=r.length;have hn:0<its.toArray.size:=by rw[oa,<-len2,<-len1];exact sq.mpr hne
 have hhd:∀(i:Nat) (v:Value),its.toArray[i]?=some v->HD s.heap LV (ds.getD i (.sc .non)) v/\ds.getD i (.sc .non)∈ds:=λi v hv=>by
  have hv':its[i]?=some v:=by simpa using hv
  obtain⟨hi,_⟩:=qa.mp hv';have hid:i<ds.length:=by rw[len1,len2];exact hi
  obtain⟨x,h1,h2⟩:=pd.zget (show ds[i]?=some ds[i] by simp[hid]);obtain⟨v',h3,h4⟩:=Paired.zget r h1;rw[hv']at h3;cases h3;rw[ac,cc hid];exact⟨I.den h2 h4,vf hid⟩
 refine z08 (bt:=btD ds) (Kp:=λh=>∀b o,s.heap.get? b=some o->h.get? b=some o) (λh h' z k b o e=>k b o (λm=>?_) (z b o e)) (wpAny_pyIter_list hl ?_)
 ·have:=ya e
  rcases pb.mp m with rfl|m
  ·exact wg _ this
  ·rw[jb.mp m]at this;exact absurd this (Nat.not_lt.mpr (mq _))
 refine⟨[s.heap.objs.size,p],its.toArray.size,_,_,rfl,Walks.list (A:=X.A.in1) (I.ok.hd hc) _ p (dc hlt) its.toArray,⟨⟨_,gb _ rfl,rfl,rfl⟩,hl.push _⟩,?_,lp _,hn,λb o e=>ma _ e,?_,λv h' tk hP hk=>?_⟩
 ·intro b hb
  show b<(s.heap.objs.push _).size;rw[lp];rcases pb.mp hb with rfl|m
  ·exact wn _
  ·rw[jb.mp m];exact um hlt
 ·intro i j u v t Q' E' hu hv kp hQ
  obtain⟨a1,a2⟩:=hhd i u hu;obtain⟨b1,b2⟩:=hhd j v hv;obtain⟨j1,j2⟩:=zqy a1 b1;have un:=hr.units;have z:=ztg (A:=X.A.in1) (s:=t) (zq8 kp a1) (zq8 kp b1) (j2 (ho _ a2 _ b2)) (show X.A.in1.units+LV<cLine by show X.A.units+1+9<cLine;omega);rw[j1]at z;exact z _ _ _ _ hQ
 ·have hP':its[argBest (btD ds) (its.toArray.size - 1)]?=some v:=by simpa using hP
  rw[oa,<-len2,<-len1]at hP';obtain⟨hi,_⟩:=qa.mp hP';obtain⟨v',h3,h4⟩:=Paired.zget r (show ys[argBest (btD ds) (ds.length - 1)]?=some ys[argBest (btD ds) (ds.length - 1)] by simp[show argBest (btD ds) (ds.length - 1)<ys.length by omega]);rw[hP']at h3;cases h3;exact⟨_,H,I.kept (h':=h') (t':=tk) (LSm.kept_iter hk),h4,q _ (by simp[show argBest (btD ds) (ds.length - 1)<ys.length by omega])⟩
noncomputable def zq9:List D->Option D:=λl=>match l with
 |[.lst es]=>if es≠[]/\es.all (dOk LV)=true/\(∀d∈es,∀e∈es,zb4 d e=true) then es[argBest (btD es) (es.length - 1)]? else none
 |_=>none
variable {K:PySem.W.Frag}
theorem z09:PN K (z52 K) zq9:=by
 intro Hf H xs ds z Q s hd hz q;unfold zq9 at hz
 split at hz
 ·split at hz
  ·rename_i es hk
   obtain⟨x,rfl,hx⟩:=zbs hd;obtain⟨a,ys,rfl,h1,h2⟩:=hx.lst s
   have pd:∀{ds:List D} {xs:List V},Dns K Hf ds xs->ds.all (dOk LV)=true->Paired (Den K H LV) ds xs:=by
    intro ds
    induction ds with
    |nil=>intro xs p _;cases p;exact .nil
    |cons d r ih =>
     intro xs p h;rw[xi,ub]at h
     cases p with
     |cons a b=>exact .cons ((a.same s).at h.1) (ih b h.2)
   refine⟨a,ys,es,rfl,h1,pd h2 hk.2.1,hk.1,hk.2.2,λx hx=>?_⟩;obtain⟨x',g1,g2⟩:=h2.zget hz;rw[hx]at g1;cases g1;exact q Hf H _ (.refl s) g2
  ·cases hz
 ·cases hz
end L2
namespace L2
open PySem PySem.Spec PyProof.Rows
section
variable {X:Cx}{B:Bs}{a b c d:Expr}{fa fb fc fd:Rho->Option D}{pos:Pos}
noncomputable def zeb(d e:D):Option D:=match d,e with|.sc (.bl i),.sc (.bl j)=>some (.bl (i != j))|_,_=>none
noncomputable def yar(f:Bool->Bool->Bool):R2:=λx y H Q=>match x,y with|.bl i,.bl j=>Q (.bl (f i j)) H|_,_=>False
theorem zm4:OpR X (compareOp .IsNot) (yar (· != ·)):=by
 intro pins s σ H x y v u Q I rx ry h;unfold yar at h
 split at h
 ·cases rx;cases ry;exact isnot_bool (zbz I h rfl)
 ·exact h.elim
theorem zj3{K:PySem.W.Frag}:P2 K (yar (· != ·)) zeb:=by
 intro Hf H x y d e z Q s hd he hz q;unfold zeb at hz
 split at hz
 ·cases hz;rw[hd.sc.2,he.sc.2];exact q Hf H _ (.refl s) (zav rfl)
 ·cases hz
noncomputable def zra(r r' r'':R2)(ta tb tc td:TE):TE:=λσ H Q=>ta σ H λx H1=>tb σ H1 λy H2=>r x y H2 λz H3=>∃k,z=.bl k ∧
 (if k=true then tc σ H3 λw' H4=>r' y w' H4 λz2 H5=>∃k2,z2=.bl k2/\(if k2=true then td σ H5 λu' H6=>r'' w' u' H6 Q else Q (.bl false) H5) else Q (.bl false) H3)
noncomputable def zgj(g g' g'':D->D->Option D)(fa fb fc fd:Rho->Option D):Rho->Option D:=λρ=>(fa ρ).bind λd=>(fb ρ).bind λe=>(g d e).bind λz=>(toB z).bind λk=>if k=true then (fc ρ).bind λw=>(g' e w).bind λz2=>(toB z2).bind λk2=>if k2=true then (fd ρ).bind λu=>g'' w u else some (.bl false) else some (.bl false)
theorem zof{h h' h'':Int->Int->V}(hf:∀i j,zci (h i j)=true)(hf':∀i j,zci (h' i j)=true)(hf'':∀i j,zci (h'' i j)=true){K:PySem.W.Frag}{σ:St}{H:Hp}{Q:VK}(hh:eV K B (zgj (gII h) (gII h') (gII h'') fa fb fc fd) σ H Q):zra (k20 h) (k20 h') (k20 h'') (eB K B fa) (eB K B fb) (eB K B fc) (eB K B fd) σ H Q:=by
 obtain⟨Hf,ρ,z,I,hz,q⟩:=hh;obtain⟨d,hd,hz⟩:=bind_some hz;obtain⟨e,he,hz⟩:=bind_some hz;obtain⟨k,hk,hz⟩:=bind_some hz;obtain⟨m,hm,hy⟩:=bind_some hz;clear hz;refine⟨Hf,ρ,d,I,hd,λHf1 H1 x ex1 dx=>⟨Hf1,ρ,e,I.ext ex1,he,λHf2 H2 y ex2 dy=>?_⟩⟩;have dy0:=dy;refine(zn5 (K:=K) hf) Hf2 H2 x y d e k _ ex2.fh (dx.ext ex2) dy hk λHf3 H3 v ex3 dv=>?_
 unfold toB at hm
 split at hm
 ·cases hm
  refine⟨m,dv.bl,?_⟩;have e3:=(ex1.trans ex2).trans ex3
  cases m with
  |true =>
   rw[la rfl]at hy ⊢;obtain⟨w,hw,hz⟩:=bind_some hy;obtain⟨k2,hk2,hz⟩:=bind_some hz;obtain⟨m2,hm2,hy2⟩:=bind_some hz;clear hz;refine⟨Hf3,ρ,w,I.ext e3,hw,λHf4 H4 u ex4 du=>?_⟩;have du0:=du;refine(zn5 (K:=K) hf') Hf4 H4 y u e w k2 _ ex4.fh ((dy0.ext ex3).ext ex4) du hk2 λHf5 H5 v5 ex5 dv5=>?_
   unfold toB at hm2
   split at hm2
   ·cases hm2
    refine⟨m2,dv5.bl,?_⟩;have e5:=(e3.trans ex4).trans ex5
    cases m2 with
    |true =>
     rw[la rfl]at hy2 ⊢;obtain⟨w2,hw2,hz⟩:=bind_some hy2;exact⟨Hf5,ρ,w2,I.ext e5,hw2,λHf6 H6 u6 ex6 du6=>(zn5 (K:=K) hf'') Hf6 H6 u u6 w w2 z Q ex6.fh ((du0.ext ex5).ext ex6) du6 hz λHf' H' v' ex7 dv'=>q Hf' H' v' ((e5.trans ex6).trans ex7) dv'⟩
    |false=>rw[wa ua]at hy2 ⊢;cases hy2;exact q Hf5 H5 _ e5 (zav rfl)
   ·cases hm2
  |false=>rw[wa ua]at hy ⊢;cases hy;exact q Hf3 H3 _ e3 (zav rfl)
 ·cases hm
theorem zj4{g g' g'':D->D->Option D}{ρ:Rho}{x y z w:D}{k1 k2 k3:Bool}(ha:fa ρ=some x)(hb:fb ρ=some y)(h1:g x y=some (.bl k1))(hc:k1=true->fc ρ=some z)(h2:k1=true->g' y z=some (.bl k2))(hd:k1=true->k2=true->fd ρ=some w)(h3:k1=true->k2=true->g'' z w=some (.bl k3)):zgj g g' g'' fa fb fc fd ρ=some (.bl (k1 && (k2 && k3))):=by
 unfold zgj;rw[ha,hb,za,za,h1,za]
 cases k1 with
 |false=>rfl
 |true =>
  show ((fc ρ).bind _)=_;rw[hc rfl,za,h2 rfl,za]
  cases k2 with
  |false=>rfl
  |true=>show ((fd ρ).bind _)=_;rw[hd rfl rfl,za,h3 rfl rfl];rfl
end
theorem z1a{i:Nat}:∀d ρ ρ1,gN i d ρ=some ρ1->(∀(k:Nat) s,ρ[k]?=some (some s)->zf1 s=false)->∀(k:Nat) s,ρ1[k]?=some (some s)->zf1 s=false:=λd ρ ρ1 e h k s q=>by
 cases e;by_cases hk:i=k
 ·subst hk
  rw[List.getElem?_set]at q
  split at q
  ·split at q
   ·cases q;rfl
   ·cases q
  ·exact h _ s q
 ·rw[na hk]at q;exact h k s q
noncomputable def jn(A C:Hp):Hp:=λb=>match A b with|some o=>some o|none=>C b
section
variable {A C H:Hp}
theorem yas:zax A (jn A C):=λb u h=>by unfold jn;rw[h]
theorem z54(h1:zax A H)(h2:zax C H):zax (jn A C) H:=λb u h=>by
 unfold jn at h
 cases e:A b with
 |some o=>rw[e]at h;cases h;exact h1 b _ e
 |none=>rw[e]at h;exact h2 b u h
theorem yb8(h1:zax A H)(h2:zax C H):zax C (jn A C):=λb u h=>by
 unfold jn
 cases e:A b with
 |some o =>
  have z:=h1 b o e;rw[h2 b u h]at z;exact z.symm
 |none=>exact h
noncomputable def noF(C:Hp):Hp:=λb=>match C b with|some (.frz _ _)=>none|x=>x
theorem zm5:zax (noF C) C:=λb u h=>by
 unfold noF at h
 split at h
 ·cases h
 ·exact h
theorem z55{b:Addr}(h:noF C b≠none):C b≠none:=λz=>h (by unfold noF;rw[z])
theorem z1b{b:Addr}{xs:List V}(h:C b=some (.lst xs)):noF C b=some (.lst xs):=by unfold noF;rw[h]
theorem z56{b:Addr}{xs:List (List Key×V)}(h:C b=some (.dT xs)):noF C b=some (.dT xs):=by unfold noF;rw[h]
theorem yat{b:Addr}{o:Obj}{u:HO}(h:jn A (noF C) b=some (.frz o u)):A b=some (.frz o u):=by
 unfold jn at h
 cases e:A b with
 |some x=>rw[e]at h;exact h
 |none =>
  rw[e]at h;have h:noF C b=some (.frz o u):=h;unfold noF at h
  split at h
  ·cases h
  ·rename_i n;exact absurd h (n o u)
theorem zrb{b:Addr}(h:jn A C b≠none):A b≠none\/C b≠none:=by
 unfold jn at h
 cases e:A b with
 |some o=>exact .inl λz=>nomatch z
 |none=>rw[e]at h;exact .inr h
end
noncomputable def emp:Hp:=λ_=>none
theorem zu1{H:Hp}{p:Addr}{o:HO}(h:H p=some o):zax (upd emp p o) H:=λb u e=>by
 by_cases hb:b=p
 ·subst hb;rw[zac]at e;cases e;exact h
 ·rw[zad hb]at e;cases e
theorem zu2{p b:Addr}{o:HO}(h:upd emp p o b≠none):b=p:=by
 by_cases hb:b=p
 ·exact hb
 ·rw[zad hb]at h;exact absurd rfl h
theorem VI.offH{K:PySem.W.Frag}{B:Bs}{Hf H:Hp}{ρ:Rho}{σ:St}{p:Addr}{o:HO}(I:VI K B Hf ρ σ H)(no:∀(i:Nat) sl,ρ[i]?=some (some sl)->zf1 sl=true->σ[i]?≠some (some (.ref p)))(hf:Hf p=none)(hB:B.h p=none):VI K B Hf ρ σ (upd H p o):=by
 refine⟨⟨I.ex.ff,λb u h=>?_,λb u h=>?_,I.ex.nw,I.ex.nf⟩,I.len,λi sl h=>?_,I.own,I.dis⟩
 ·rw[zad (zag h hB)];exact I.ex.hh b u h
 ·rw[zad (zag h hf)];exact I.fh b u h
 ·obtain⟨v,h1,h2⟩:=I.ok i sl h
  exact⟨v,h1,h2.away λo z=>no i sl h o (by rw[h1,z])⟩
section
variable {X:Cx}{B:Bs}{pos:Pos}{a b:Expr}{fa fb:Rho->Option D}
def yau:V->List V->Hp->VK->Prop:=λx vs H Q=>∃l xs y,∃k:Nat,x=.ref l/\vs=[.int (k:Nat),y]/\H l=some (.lst xs)/\k<=xs.length/\xs.length<sizeLine/\k<1000000/\Q .non (upd H l (.lst (xs.take k++y::xs.drop k)))
theorem z1c:MtR X "list.insert" yau:=by
 intro pins s σ H x vs v us Q I rx rv h;obtain⟨l,xs,y,k,rfl,rfl,hH,hk,hz,hkb,q⟩:=h;cases rx;obtain⟨u1,u2,rfl,r1,r2⟩:=zs6 rv;obtain⟨t,rfl⟩:=r1;obtain⟨z,its,n,r,hl,e⟩:=I.lstM hH;have hil:=r.length
 have hfi:¬(!Builtin.List.listFitsIndex ((k:Nat):Int))=true:=by
  have e1:Builtin.List.listFitsIndex ((k:Nat):Int)=true:=by
   unfold Builtin.List.listFitsIndex;rw[ub];exact⟨ib (by omega),ib (by omega)⟩
  rw[e1];decide
 have hsz:its.toArray.size<=sizeLine:=by rw[oa];omega
 generalize hkk:((k:Nat):Int)=kk at hfi;have M:=PySem.AutoSeq1.list_insert_list_int_val_1 l its.toArray n kk t u2 hfi hsz;refine qk F.slot_list_insert ⟨_,e,rfl⟩ F.entry_list_insert (F.args_list_insert_3 _ _ _) M ⟨e,?_⟩;subst hkk
 have hsplit:∀{xs:List V} {its:List Value} (k:Nat),zbj xs its->zbj (xs.take k++y::xs.drop k) (its.take k++u2::its.drop k):=by
  intro xs its k h
  induction k generalizing xs its with
  |zero=>exact .cons r2 h
  |succ k ih =>
   cases h with
   |nil=>exact .cons r2 .nil
   |cons a b=>exact .cons a (ih b)
 refine⟨.non,_,I.lset (its':=its.take k++u2::its.drop k) hH e ?_ (hsplit k r) (by rw[zc,bb,cf,pj];omega),rfl,q⟩;dsimp only;rw[wa (by omega)];apply ss;rw[show min (((k:Nat):Int)).toNat its.toArray.size=k by rw[oa,uh];omega];simp;rw[pf (by simp)]
noncomputable def zog(i:Nat)(fk fe:Rho->Option D):Rho->Out:=λρ=>match ρ[i]? with
 |some (some (.ow ds))=>(match fk ρ,fe ρ with|some (.sc (.int k)),some d=>if 0<=k/\k<=ds.length/\ds.length<100000 then .nx (ρ.set i (some (.ow (ds.take k.toNat++d::ds.drop k.toNat)))) else .bad|_,_=>.bad)
 |_=>.bad
theorem z57 {i:Nat}{x:Str}{p1 p2 p3:Pos} (hN:X.N[i]?=some x) (hb:PE X b (eV X.K B fb)) (ha:PE X a (eV X.K B fa)) (hv:Vis X.env.scope x:=by first|exact cb rfl|exact af (cb rfl)|exact af (af rfl)) (hd:(x == ("__debug__" : Str))=false:=by decide) (hcd:(x == ("__classdict__" : Str))=false:=by decide)
  (hbase:attributeBase (.Name x p1) "insert" X.env (eval (.Name x p1) X.env)=eval (.Name x p1) X.env:=by rfl)
  (hfew:((backTo p3 (starEach [b,a] X.env)).all (λx=>!x.1) && (backToKw p3 (keywordEach [] X.env)).all (λx=>x.1.isSome) && decide ([b,a].length+([]:List Keyword).length+(if ([]:List Keyword).isEmpty then 0 else 1)<30))=true:=by rfl)
  (hline:(p2.endLine == p3.line)=true:=by rfl) (hs:starEach [b,a] X.env=(false,eval b X.env)::starEach [a] X.env:=by rfl) (hs2:starEach [a] X.env=(false,eval a X.env)::starEach [] X.env:=by rfl) (hplain:(backTo p3 (starEach [a] X.env)).any (·.1)=false:=by rfl) (hsw:swapsWith (.Call (.Attribute (.Name x p1) "insert" p2) [b,a] [] p3) none pos.line X.env=pure false:=by rfl) :
  PS X (.Expr (.Call (.Attribute (.Name x p1) "insert" p2) [b,a] [] p3) pos) (sV X.K B (zog i fb fa)) :=
 (zez (ztb PySem.F.plainAttrs_list PySem.F.slot_list_insert PySem.F.type_list_insert z1c (zcg hN hv hd hcd) (zbp hb (zbp ha zc5 hs2) hs) hbase hfew hline hs hplain) hsw).imp λD σ H ⟨Hf,ρ,I,q⟩=>by
  unfold zog at q
  split at q
  ·rename_i ds e
   obtain⟨v,h1,p,xs,rfl,h2,h3,h4⟩:=I.ok i _ e;refine⟨_,h1,.inl ⟨rfl,xs,SqL.of h3⟩,?_⟩
   split at q
   ·rename_i k d hk hd
    split at q
    ·rename_i hc
     refine⟨Hf,ρ,_,I,hk,λHf1 H1 u ex1 du=>⟨Hf1,ρ,d,I.ext ex1,hd,λHf2 H2 w ex2 dw=>?_⟩⟩;rw[du.sc.2];obtain⟨kk,rfl⟩:=Int.eq_ofNat_of_zero_le hc.1;have hl:=h4.length;have I2:=(I.ext ex1).ext ex2;refine⟨p,xs,w,kk,rfl,rfl,ex2.hh _ _ (ex1.hh _ _ h3),by omega,by rw[<-hl];exact wb hc.2.2 (sz (va _)),by omega,q Hf2 σ _ (ex1.ff.trans ex2.ff) ?_⟩;refine I2.mut e h1 ?_;have dn:=(h4.same ex1.ff).same ex2.ff
     have hsplit:∀{ds:List L2.D} {xs:List V} (k:Nat),Dns X.K Hf2 ds xs->Dns X.K Hf2 (ds.take k++d::ds.drop k) (xs.take k++w::xs.drop k):=by
      intro ds xs k h
      induction k generalizing ds xs with
      |zero=>exact .cons dw h
      |succ k ih =>
       cases h with
       |nil=>exact .cons dw .nil
       |cons a b=>exact .cons a (ih b)
     exact hsplit kk dn
    ·exact q.elim
   ·exact q.elim
  ·exact q.elim
end
section
variable {X:Cx}{B:Bs}{a b c d:Expr}{fa fb fc fd:Rho->Option D}{pos:Pos}
theorem zrc{op op' op'':CmpOp}{r r' r'':R2}{ta tb tc td:TE}(ho:OpR X (compareOp op) r)(ho':OpR X (compareOp op') r')(ho'':OpR X (compareOp op'') r'')(ha:PE X a ta)(hb:PE X b tb)(hc:PE X c tc)(hd:PE X d td)
  (hm:lastMarks [op,op',op''] [b,c,d]=false:=by with_unfolding_all rfl):PE X (.Compare a [op,op',op''] [b,c,d] pos) (zra r r' r'' ta tb tc td):=by
 intro pins s σ H Q I h;refine Compare_chain (thn (ha pins s σ H _ I h) λv s1 ⟨x,H1,I1,r1,q1⟩=>chain_link (thn (hb pins s1 σ H1 _ I1 q1) λu s2 ⟨y,H2,I2,r2,q2⟩=>thn (ho pins s2 σ H2 x y v u _ I2 r1 r2 q2) λd s3 ⟨z,H3,I3,r3,k,e,q3⟩=>?_)) hm;subst e;cases r3;refine gg ?_
 cases k with
 |false=>exact ite_ff ⟨.bl false,H3,I3,rfl,q3⟩
 |true =>
  refine ite_tt (chain_link (thn (hc pins s3 σ H3 _ I3 q3) λw' s4 ⟨z',H4,I4,r4,q4⟩=>thn (ho' pins s4 σ H4 y z' u w' _ I4 r2 r4 q4) λd' s5 ⟨z2,H5,I5,r5,k2,e2,q5⟩=>?_));subst e2;cases r5;refine gg ?_
  cases k2 with
  |false=>exact ite_ff ⟨.bl false,H5,I5,rfl,q5⟩
  |true=>exact ite_tt (chain_last (thn (hd pins s5 σ H5 _ I5 q5) λw2 s6 ⟨z3,H6,I6,r6,q6⟩=>ho'' pins s6 σ H6 z' z3 w' w2 Q I6 r4 r6 q6))
theorem zu3{op op' op'':CmpOp}{h h' h'':Int->Int->V}(ho:OpR X (compareOp op) (k20 h))(ho':OpR X (compareOp op') (k20 h'))(ho'':OpR X (compareOp op'') (k20 h''))(ha:PE X a (eB X.K B fa))(hb:PE X b (eB X.K B fb))(hc:PE X c (eB X.K B fc))(hd:PE X d (eB X.K B fd))(hp:∀i j,zci (h i j)=true:=by exact λ_ _=>rfl)(hp':∀i j,zci (h' i j)=true:=by exact λ_ _=>rfl)(hp'':∀i j,zci (h'' i j)=true:=by exact λ_ _=>rfl)
  (hm:lastMarks [op,op',op''] [b,c,d]=false:=by with_unfolding_all rfl):PE X (.Compare a [op,op',op''] [b,c,d] pos) (eV X.K B (zgj (gII h) (gII h') (gII h'') fa fb fc fd)):=(zrc ho ho' ho'' ha hb hc hd hm).imp λσ H Q z=>zof hp hp' hp'' z
end
noncomputable def z58:Rho->Out:=λ_=>.bad
theorem z59{X:Cx}{B:Bs}{st:Stmt}:PS X st (sV X.K B z58):=(zs3 (X:=X) (st:=st)).imp λD σ H ⟨Hf,ρ,I,q⟩=>q
end L2
namespace L2
open PySem
theorem z1d{fa fb:Rho->Option Bool}{ρ:Rho}{a b:Bool}(h:fa ρ=some a)(h2:a=true->fb ρ=some b):zed fa fb ρ=some (a && b):=by
 cases a with
 |false=>exact zqr h
 |true=>exact zhk h (h2 rfl)
theorem z6a{fa fb:Rho->Option Bool}{ρ:Rho}{a b:Bool}(h:fa ρ=some a)(h2:a=false->fb ρ=some b):bOr fa fb ρ=some (a || b):=by
 cases a with
 |false=>exact zqq h (h2 rfl)
 |true=>exact z5b h
theorem zca{g:D->Rho->Option Rho}{f:Rho->Out}{x:D}{r:List D}{ρ ρ1 ρ2:Rho}(h1:g x ρ=some ρ1)(h2:f ρ1=.nx ρ2):zew g f (x::r) ρ=zew g f r ρ2:=by
 rw[zew,h1];dsimp only;rw[h2]
theorem zc4{g:D->Option D}{fa:Rho->Option D}{ρ:Rho}{d z:D}(ha:fa ρ=some d)(hg:g d=some z):e1 g fa ρ=some z:=by unfold e1;rw[ha];exact hg
theorem zho{i:Nat}{fe:Rho->Option D}{ρ:Rho}{ds:List D}{d:D}(h0:ρ[i]?=some (some (.ow ds)))(h1:fe ρ=some d)(h2:ds.length<=100000):zd7 i fe ρ=.nx (ρ.set i (some (.ow (ds++[d])))):=by
 unfold zd7;rw[h0];dsimp only;rw[h1];dsimp only;rw[la (szl h2)]
theorem z1e{g:D->Rho->Option Rho}{fe:Rho->Option D}{ρ ρ1:Rho}{d:D}(h:fe ρ=some d)(h2:g d ρ=some ρ1):zh9 g fe ρ=.nx ρ1:=by unfold zh9;rw[h];simp only[za,h2]
theorem zxe{i j:Int}(h:0<=j/\j<=1000000/\i.natAbs<2 ^ 64):zoo (.int i) (.int j)=some (.int (i ^ j.toNat)):=by unfold zoo zf7;exact la (ib h)
theorem z1f{l:List Int}:zct [.lst (l.map D.int)]=some (.int l.length):=by unfold zct;dsimp only;rw[ba]
noncomputable def dAt(l:List Int)(i:Nat):Int:=l.getD i 0
theorem z6b{l:List Int}{i:Nat}(h:i<l.length):gIx (.lst (l.map D.int)) (.int (i:Nat))=some (.int (dAt l i)):=by
 refine zk0 ?_;rw[qc];simp[dAt,h]
theorem z6c{i j:Int}:z4r [.int i,.int j]=some (.int (if j<i then j else i)):=rfl
theorem zxf{l:List Int}{a b:Nat}(h:a<=b):gSl (.lst (l.map D.int)) (some (a:Int)) (some (b:Int))=some (.lst (((l.drop a).take (b - a)).map D.int)):=by
 unfold gSl;dsimp only;rw[zqu,zqt _ _ _ h]
end L2
namespace L2
open PySem PySem.Spec PyProof.Rows
theorem zih:bootBuiltins "ValueError" = some (.type "ValueError"):=by decide +kernel
theorem zii:("path" : Str)∈zco:=by simp[zco]
theorem zgk:("first" : Str)∈zco:=by simp[zco]
theorem zij:("last" : Str)∈zco:=by simp[zco]
section
variable {P:Program}{w:World}{K:PySem.W.Frag}{mg:Str->Option Value}{base:Heap}
theorem yav{nm x qual f1 f2 f3:Str}{st:Stmt}{f:Addr}{fd:FuncData}{n0 n1 n2 n3:Str}{p1 p2 p3 p4 q1 q2 q3 q4 r1 r2 r3 r4:Pos}(F:Fun K x qual st f fd)(S:FnScope [n0,n1,n2,n3] [n0,n1,n2,n3] (zae st))(hf1:f1∈zco)(hf2:f2∈zco)(hf3:f3∈zco)(hb:zby st=[.Assign [.Attribute (.Name n0 p1) f1 p2] (.Name n1 p3) p4,.Assign [.Attribute (.Name n0 q1) f2 q2] (.Name n2 q3) q4,.Assign [.Attribute (.Name n0 r1) f3 r2] (.Name n3 r3) r4])
  (h0:(zae st).names.lookup n0=some .local) (h1:(zae st).names.lookup n1=some .local) (h2:(zae st).names.lookup n2=some .local) (h3:(zae st).names.lookup n3=some .local) (hd0:(n0 == ("__debug__" : Str))=false:=by decide) (hc0:(n0 == ("__classdict__" : Str))=false:=by decide) (hd1:(n1 == ("__debug__" : Str))=false:=by decide) (hc1:(n1 == ("__classdict__" : Str))=false:=by decide) (hd2:(n2 == ("__debug__" : Str))=false:=by decide) (hc2:(n2 == ("__classdict__" : Str))=false:=by decide) (hd3:(n3 == ("__debug__" : Str))=false:=by decide) (hc3:(n3 == ("__classdict__" : Str))=false:=by decide) (hne:(f2 == f1)=false:=by decide) (hn1:(f3 == f1)=false:=by decide) (hn2:(f3 == f2)=false:=by decide):FnOk P w K mg base CX0 1 f fd [n0,n1,n2,n3] (spI K nm [f1,f2,f3]):=by
 refine F.ok (k:=0) S (λvs H Q E ⟨e,us,_,_,_,_,h1,h2,_⟩=>by rw[h1,bb,h2];rfl) λcdv A outer s H vs Q E hr ⟨e,us,C,P',fI,t0,ev,hl,c,he,q⟩=>?_
 match us,hl with
 |[u,u2,u3],_ =>
  subst ev;rw[hb];refine⟨_,zbt (zp0 (i:=0) (j:=1) rfl rfl (cb h0) (cb h1) hd0 hc0 hd1 hc1 rfl) (zbt (zp0 (i:=0) (j:=2) rfl rfl (cb h0) (cb h2) hd0 hc0 hd2 hc2 rfl) (zbt (zp0 (i:=0) (j:=3) rfl rfl (cb h0) (cb h3) hd0 hc0 hd3 hc3 rfl) zkx)),?_⟩;refine⟨e,u,nm,C,P',fI,rfl,rfl,c,hf1,.inl ⟨t0,he,λdx m1 m2=>?_⟩⟩;have g:∀{v:HO},upd (upd H e (.ext (ExF e C dx t0))) dx v e=some (.ext (ExF e C dx t0)):=λ{v}=>by rw[zad (rf m2),zac]
  refine⟨e,u2,nm,C,P',fI,rfl,rfl,c,hf2,.inr ⟨dx,t0,[(f1,u)],g,zac,m2,by simp[List.lookup,hne],by simp,?_⟩⟩;rw[zou];refine⟨e,u3,nm,C,P',fI,rfl,rfl,c,hf3,.inr ⟨dx,t0,[(f1,u),(f2,u2)],g,zac,m2,by simp[List.lookup,hn1,hn2],by simp,?_⟩⟩;rw[zou];exact q dx m1 m2
end
end L2
namespace L2
open PySem PySem.Spec PyProof.Rows
open Sem (wp)
section
variable {prog:Program}{w:World}{K:Type}[DecidableEq K]{knd:HeapKind prog w K}{A:Around}{E:Value->Shared->Prop}{s:Shared}{d a:Addr}{k:K}{xs:List (K×Addr×Value)}
theorem zgl{dflt:Value}{Q:Value->Shared->Prop}(hu:knd.room A)(zgv:knd.is s.heap k a)(hm:s.heap.DictOfH knd d xs)
  (hthere:∀p,atKey xs k=some p->Q p.2 { s with toks:=s.toks+knd.draws k })
  (hnew:atKey xs k=none->∀h',h'.DictOfH knd d (xs++[(k,a,dflt)])->Heap.SameBut d s.heap h'->Q dflt { s with heap:=h',toks:=s.toks+knd.draws k })
  (hsz:xs.length<=sizeLine) :
  wpAny (model prog w) A (dictSetDefault d (.ref a) dflt) Q E s:=by
 obtain⟨o,es,ep,ho,hc,hd,he,his,hn⟩:=hm;unfold dictSetDefault
 try with_reducible refine wf ?_
 refine aa (knd.pyHash hu zgv ?_);refine aa (wpAny_dictFind_heap (s:={ s with toks:=s.toks+knd.draws k }) hu zgv ho hd he his hn ?_ ?_)
 ·intro hno
  have hnot:k ∉ xs.map (·.1):=not_mem_keys_of_get hno
  refine wpAny_bind (wpAny_rule (wpAny_bind (wpAny_updateDictKeys (hz:=by have e:=size_of_entries he;omega) (s:={ s with toks:=s.toks+knd.draws k }) ho hd (wpAny_pure (hnew (atKey_none_of_get hno) _ ⟨_,_,ep+1,Heap.get?_update_self _ ho (Obj.isFreed_of_dict (Obj.data_mapDictKeys hd _)),
   hc.mapDictKeys _,Obj.data_mapDictKeys hd _,?_,?_,?_⟩ (ai ..))))))
  ·simp[he,entryOfKey]
  ·intro x hx
   rcases gc.mp hx with hx|hx
   ·exact knd.keeps (his x hx) ho hd (ai ..)
   ·simp only[jb]at hx
    subst hx;exact knd.keeps zgv ho hd (ai ..)
  ·rw[lc,ij]
   refine⟨hn,by simp,?_⟩;intro x hx y hy;simp only[da,qe,jb]at hy;subst hy;exact λe=>hnot (e ▸ hx)
 ·intro j p hj
  refine aa (ek (s:={ s with toks:=s.toks+knd.draws k }) ho hd ?_);rw[entry_at he j,hj];exact aa (oj (ia (hthere _ (atKey_of_get hn hj))))
theorem ze9(hd:(d == sysModules)=false)(dflt:Value) :
  MeetsIn prog w (Builtin.«dict.setdefault» ⟨[.ref d,.ref a,dflt],[]⟩) (λ A R s=>knd.room A.in1/\∃ k xs,knd.is s.heap k a/\s.heap.DictOfH knd d xs/\xs.length<=sizeLine ∧
   (∀p,atKey xs k=some p->R (.ok (.ret p.2)) { s with toks:=s.toks+knd.draws k }) ∧
   (atKey xs k=none->∀h',h'.DictOfH knd d (xs++[(k,a,dflt)])->Heap.SameBut d s.heap h'->R (.ok (.ret dflt)) { s with heap:=h',toks:=s.toks+knd.draws k })) :=
 .of_wp λA R s ⟨hu,k,xs,zgv,hm,hz,h1,h2⟩=>by
  unfold Builtin.«dict.setdefault»;refine aa ?_;unfold Builtin.Dict.keyAndDefault;refine aa (wpAny_notOrdered_dict hm.typeIs ?_);show wpAny _ _ (pure (d,Value.ref a,some dflt)) _ _ s;refine ia ?_;show wpAny _ _ (if (d == sysModules)=true then _ else (dictSetDefault d (.ref a) dflt >>= _)) _ _ s;rw[wa (by rw[hd];exact ua)];exact aa (zgl hu zgv hm (λp hp=>ia ⟨p.2,rfl,h1 p hp⟩) (λhn h' hm' hs'=>ia ⟨dflt,rfl,h2 hn h' hm' hs'⟩) hz)
end
end L2
namespace L2
open PySem PySem.Spec PyProof.Rows
noncomputable def zd0(H:Hp):Hp:=λb=>match H b with|some (.tup xs)=>some (.tup xs)|_=>none
theorem zj5{H:Hp}:zax (zd0 H) H:=λb u h=>by
 unfold zd0 at h
 split at h
 ·rename_i e;cases h;exact e
 ·cases h
theorem z1g{H:Hp}{b:Addr}{xs:List V}(h:H b=some (.tup xs)):zd0 H b=some (.tup xs):=by unfold zd0;rw[h]
theorem Ex.tups{Hf H:Hp}(s:zax Hf H):Ex Hf H (jn Hf (zd0 H)) H:=by
 refine⟨yas,zax.refl _,z54 s zj5,λb hb=>?_,λb o u h=>?_⟩;rcases zrb hb with z|z
 ·exact .inl z
 ·unfold zd0 at z
  split at z
  ·rename_i xs e;exact .inr (.inr ⟨xs,e⟩)
  ·exact absurd rfl z
 ·unfold jn at h
  cases e:Hf b with
  |some x=>rw[e]at h;exact h
  |none =>
   rw[e]at h;have h:zd0 H b=some (.frz o u):=h;unfold zd0 at h
   split at h <;> cases h
noncomputable def kyD:Key->D
 |.inl i=>.int i
 |.inr x=>.sc (.str x)
theorem zrd{K:PySem.W.Frag}{H:Hp}:∀ks:List Key,Dns K H (ks.map kyD) (ks.map kV)
 |[]=>.nil
 |.inl i::r=>.cons (zav rfl) (zrd r)
 |.inr x::r=>.cons (zav rfl) (zrd r)
noncomputable def ktD(ks:List Key):D:=.tup (ks.map kyD)
noncomputable def zxg(F:List D->Option D)(fa:Rho->Option D):Rho->Option (List D):=λρ=>(fa ρ).bind λd=>match d with
 |.dt ks _=>zif F (ks.map ktD)
 |_=>none
section
variable {X:Cx}{B:Bs}{k:Nat}{F:List D->Option D}{f:Addr}{fd:FuncData}{p:Str}{pos:Pos}{a:Expr}{fa:Rho->Option D}
theorem z1h {fn:Str}{p1 p3 p4:Pos} (hc:X.calm=true) (G:FnOk X.prog X.w X.K X.mg X.base CX0 k f fd [p] (spV X.K 1 F)) (hr:Room k X.A.in1.in1) (hg:Gl X "sorted") (hm:X.mg "sorted" = none) (hgf:Gl X fn) (hmf:X.mg fn=some (.ref f)) (hb:zch X.K fd [p] []) (ha:PE X a (eB X.K B fa))
  (hfd:(fn == ("__debug__" : Str))=false:=by decide) (hs0:starEach [a] X.env=(false,eval a X.env)::starEach [] X.env:=by rfl)
  (hk1:backTo pos (starEach [a] X.env)=(false,eval a X.env)::backTo pos (starEach [] X.env):=by rfl) (hk2:((backTo pos (starEach [a] X.env)).any λx=>x.1)=false:=by rfl) :
  PE X (.Call (.Name "sorted" p1) [a] [⟨some "key",.Name fn p3,p4⟩] pos) (eW X.K B (zxg F fa)):=by
 intro pins s σ H Q I h;obtain⟨Hf,ρ,out,N,hz,q⟩:=h;obtain⟨d,hd0,hz⟩:=bind_some hz
 split at hz
 ·rename_i ks dvs
  unfold zif at hz
  split at hz
  ·rename_i ok
   cases hz;refine zf (zef I hg hm zfy ?_ (by decide) (by decide))
   refine callWith_kw (thn ((zbp ha zc5 hs0) pos pins s σ H (λvs H1=>∃Hf1 v,vs=[v]/\Ex Hf H Hf1 H1/\DnB X.K Hf1 H1 (.dt ks dvs) v) I ⟨Hf,ρ,_,N,hd0,λHf1 H1 v ex dv=>⟨Hf1,v,rfl,ex,dv⟩⟩) λus s1 ⟨vs,H1,I1,rv,Hf1,v,e1,ex1,dv⟩=>?_) (by first|exact hk1|exact hk2|rfl) (by first|exact hk1|exact hk2|rfl) (by first|exact hk1|exact hk2|rfl) (by first|exact hk1|exact hk2|rfl);subst e1;obtain⟨u,rfl,ru⟩:=zeg rv;obtain⟨ad,kvs,rfl,h3,h4,h5⟩:=dv.dt ex1.fh;cases ru;refine thn ((zo5 (zkw (v:=.ref f) hgf hmf rfl hfd) zv8) pos pins s1 σ H1 (λvs H2=>vs=[.ref f]/\H2=H1) I1 ⟨rfl,rfl⟩) λus s2 ⟨vs,H2,I2,rv,e1,e2⟩=>?_
   subst e1 e2;obtain⟨u,rfl,ru⟩:=zeg rv;cases ru;show wpAny (model X.prog X.w) X.A (call (.builtin "sorted") [.ref ad] [(Str.ofString "key",.ref f)]) _ _ _;obtain⟨z1,h0,xs,rel,o,es,ep,g1,g2,g3,g4,g5⟩:=(show za8 X.prog X.w H2 s2.heap ad (.dT kvs) from I2.hok ad _ h3)
   have ext:=Ex.tups ex1.fh
   have dn:Dns X.K (jn Hf1 (zd0 H2)) (ks.map ktD) (xs.map λx=>V.ref x.2.1):=by
    rw[<-h4]
    have:∀{l:List (List Key×V)} {m:List (List Key×Addr×Value)},Paired (λ(p:List Key×V) (q:List Key×Addr×Value)=>p.1=q.1/\H2 q.2.1=some (.tup (p.1.map kV))/\za7 p.2 q.2.2) l m->Dns X.K (jn Hf1 (zd0 H2)) ((l.map Prod.fst).map ktD) (m.map λx=>V.ref x.2.1):=by
     intro l m pr
     induction pr with
     |nil=>exact .nil
     |cons r t ih=>exact .cons (zf0 (SqU.of (yb8 ex1.fh zj5 _ _ (z1g r.2.1))) (zrd _)) ih
    exact this rel
   have hl:xs.length=(ks.map ktD).length:=by rw[dn.length,ba]
   have hes:es.toList.map (·.key)=xs.map λx=>Value.ref x.2.1:=by rw[g4,zd];rfl
   have hsz:es.size=xs.length:=by rw[<-xf,g4,ba]
   have hsm:=ok.sm.2;refine zhn (rs:=(ks.map ktD).map (rk F)) G hr hb I2 ext.fh dn (λR hR=>zgh (A:=X.A.in1) (I.ok.hd hc) h0 ⟨o,g1,g2,g3⟩ (by rw[hsz];exact sz (by omega)) λh' tk keep=>?_) (λi d hd=>?_) (by rw[ba]) ok.sz ok.ord λHf' H' l π ex hl1 hl2 hl3 hix hup=>q Hf' H' l _ (ex1.trans (ext.trans ex)) (ex1.hh.free hl1) hl2 hl3 ?_
   ·rw[hes]
    refine hR h' tk _ keep ?_
    have:∀l:List (List Key×Addr×Value),zbj (l.map λx=>V.ref x.2.1) (l.map λx=>Value.ref x.2.1):=by
     intro l
     induction l with
     |nil=>exact .nil
     |cons y r ih=>exact .cons rfl ih
    exact this xs
   ·obtain⟨r,e1,_⟩:=ok.ex d (jd hd)
    exact⟨r,by rw[qc,hd];show some (rk F d)=_;rw[zd9 e1],e1⟩
   ·rw[<-ok.out hix hup]
    have dn':=dn.same ex.ff
    have each:∀l:List Nat,(∀i∈l,i<(ks.map ktD).length)->Dns X.K Hf' (l.map λi=>(ks.map ktD).getD i D.non) (l.map λi=>(xs.map λx=>V.ref x.2.1).getD i V.non):=by
     intro l
     induction l with
     |nil=>intro _;exact .nil
     |cons i r ih =>
      intro hh;refine .cons ?_ (ih λz hz=>hh z (ja _ hz));have hi:=hh i xa;have e1:(ks.map ktD)[i]?=some (ks.map ktD)[i]:=cc hi;obtain⟨v,e2,dv⟩:=dn'.zget e1;show Dn X.K Hf' ((ks.map ktD).getD i D.non) ((xs.map λx=>V.ref x.2.1).getD i V.non);rw[ac,e1,ac,e2];exact dv
    exact each _ λi hi=>lg.mp (hix.mem_iff.mp hi)
  ·cases hz
 ·cases hz
end
section
variable {X:Cx}{pins:List (Addr×Obj)}{σ:St}{H:Hp}{s:Shared}{a b:Addr}{v:V}{r:Value}{A:Around}{E:Value->Shared->Prop}{kvs:List (List Key×V)}{k:List Key}
theorem zu4{Q:Value->Shared->Prop}(hu:A.units+1<cLine)(I:Inv X pins σ H s)(e:H a=some (.dT kvs))(eb:H b=some (.tup (k.map kV)))(hl:kvs.length<sizeLine)(rd:za7 v r)
  (q1:∀w' u' s',zec kvs k=some w'->za7 w' u'->Inv X pins σ H s'->Q u' s') (q2:zec kvs k=none->∀s',Inv X pins σ (upd H a (.dT (zh3 kvs k v))) s'->Q r s') :
  wpAny (model X.prog X.w) A (call (.builtin "dict.setdefault") [.ref a,.ref b,r]) Q E s:=by
 obtain⟨z,hd,xs,rel,dd⟩:=z36 I.hok e;have hz:xs.length<=sizeLine:=by rw[<-Paired.length rel];exact z
 have hv:=rel.val k;refine call_meetsIn PySem.F.slot_dict_setdefault dd.typeIs PySem.F.entry_dict_setdefault (PySem.F.args_dict_setdefault_3 _ _ _) (ze9 (knd:=tupleKind (zbi X.prog X.w)) hd r) ⟨gh hu,k,xs,zfz I.hok eb,dd,hz,λp hp=>?_,λhn h' dd' hs=>?_⟩
 ·rw[hp]at hv
  cases l:zec kvs k with
  |none=>rw[l]at hv;exact hv.elim
  |some w'=>rw[l]at hv;exact q1 w' p.2 _ l hv (I.tok _)
 ·rw[hn]at hv
  cases l:zec kvs k with
  |some w'=>rw[l]at hv;exact hv.elim
  |none =>
   refine q2 l _ ?_;have rp:=rel.put k eb rd;rw[storedH_new hn]at rp;have hl2:(zh3 kvs k v).length<=sizeLine:=by have:=zd4 kvs k v;omega
   obtain⟨q,es,ep,hq,h2,h3,h4,_,h5⟩:=dd';refine zk9 I (by rw[e];exact jg) hs ⟨q,hq⟩ ⟨hl2,hd,_,rp.keeps λc ys ec=>?_,q,es,ep,hq,h2,h3,h4,h5⟩;rw[zad (zd3 ec e (λz=>nomatch z))];exact ec
end
noncomputable def ydn(td ty tx:TE):TE:=λσ H Q=>td σ H λx H1=>∃a,x=.ref a/\IsD H1 a/\ty σ H1 λy H2=>tx σ H2 λz H3=>∃b kvs k,y=.ref b/\H3 a=some (.dT kvs)/\H3 b=some (.tup (k.map kV))/\kvs.length<sizeLine ∧
 (∀w,zec kvs k=some w->Q w H3)/\(zec kvs k=none->Q z (upd H3 a (.dT (zh3 kvs k z))))
section
variable {X:Cx}{o e f:Expr}{apos cpos:Pos}{td ty tx:TE}
theorem zxh (hu:X.A.units+1<cLine) (ho:PE X o td) (he:PE X e ty) (hf:PE X f tx) (m:M2 X o "setdefault" apos e f cpos):PE X (.Call (.Attribute o "setdefault" apos) [e,f] [] cpos) (ydn td ty tx):=by
 intro pins s σ H Q I h;refine wpAny_Call_method m.base m.few m.line PySem.F.plainAttrs_dict PySem.F.slot_dict_setdefault PySem.F.type_dict_setdefault (thn (ho pins s σ H _ I h) λu s1 ⟨x,H1,I1,rx,a,ex,d,q1⟩=>?_);subst ex;obtain rfl:u=Value.ref a:=rx;obtain⟨t1,t2,_⟩:=zwi I1 d;refine⟨t1,t2,?_⟩;rw[m.trees]
 refine Calls.callWith_builtin rfl (Calls.evalArgs_plain (Calls.spliced_cons (thn (he pins s1 σ H1 _ I1 q1) λ iv s2 ⟨y,H2,I2,ry,q2⟩ =>
  dh (thn (hf pins s2 σ H2 _ I2 q2) λfv s3 ⟨z,H3,I3,rz,b,kvs,k,ey,ea,eb,hl,q3,q4⟩=>ak ?_))))
 subst ey;obtain rfl:iv=Value.ref b:=ry;exact zu4 hu I3 ea eb hl rz (λw' u' s4 l rw' I4=>⟨w',H3,I4,rw',q3 w' l⟩) λl s4 I4=>⟨z,_,I4,rz,q4 l⟩
end
noncomputable abbrev GD:=List (List Key×List D)
structure GS(X:Cx)(B:Bs)(j:Nat)(Hf:Hp)(ρ:Rho)(σ:St)(H:Hp)(gd:GD)(Hn:Hp):Prop where
 vi:VI X.K B Hf ρ σ H
 nj:ρ[j]?=some none
 nh:zax Hn H
 nt:∀b xs,Hn b≠some (.tup xs)
 fr:∀b,Hn b≠none->Hf b=none/\B.h b=none
 no:∀(i:Nat) sl,ρ[i]?=some (some sl)->zf1 sl=false
 ex:∃p kvs,σ[j]?=some (some (.ref p))/\Hn p=some (.dT kvs)/\kvs.map Prod.fst=gd.map Prod.fst/\(kvs.map Prod.snd).Nodup/\Paired (λds v=>∃l xs,v=.ref l/\Hn l=some (.lst xs)/\Dns X.K Hf ds xs) (gd.map Prod.snd) (kvs.map Prod.snd)
section
variable {X:Cx}{B:Bs}{j:Nat}{Hf Hf' H H' Hn:Hp}{ρ:Rho}{σ:St}{gd:GD}
theorem GS.ext(I:GS X B j Hf ρ σ H gd Hn)(e:Ex Hf H Hf' H'):GS X B j Hf' ρ σ H' gd Hn:=by
 refine⟨I.vi.ext e,I.nj,I.nh.trans e.hh,I.nt,λb hb=>⟨?_,(I.fr b hb).2⟩,I.no,?_⟩
 ·cases z:Hn b with
  |none=>exact absurd z hb
  |some o=>exact zlm e (I.fr b hb).1 (I.nh b o z) (λxs hx=>I.nt b xs (by rw[z,hx]))
 ·obtain⟨p,kvs,h1,h2,h3,h4,h5⟩:=I.ex
  exact⟨p,kvs,h1,h2,h3,h4,h5.zmap λ_ _ ⟨l,xs,a1,a2,a3⟩=>⟨l,xs,a1,a2,a3.same e.ff⟩⟩
end
noncomputable abbrev GG:=Rho->GD->Option (Rho×GD)
noncomputable def sG(X:Cx)(B:Bs)(j:Nat)(g:GG):TS:=λD σ H=>∃Hf ρ gd Hn ρ' gd',GS X B j Hf ρ σ H gd Hn/\g ρ gd=some (ρ',gd')/\∀Hf' σ' H' Hn',zax Hf Hf'->GS X B j Hf' ρ' σ' H' gd' Hn'->D.nx σ' H'
noncomputable def zop(gd:GD)(k:List Key):GD:=if (zcb gd k).isSome=true then gd else gd++[(k,[])]
noncomputable def zik(k:List Key)(d:D):GD->GD
 |[]=>[]
 |x::r=>if x.1=k then (x.1,x.2++[d])::r else x::zik k d r
theorem zj6(k:List Key)(d:D):∀gd:GD,(zik k d gd).map Prod.fst=gd.map Prod.fst
 |[]=>rfl
 |x::r=>by
  unfold zik;split
  ·rfl
  ·rw[da,zj6 k d r];rfl
theorem zm6{gd:GD}{k:List Key}:∀{kvs:List (List Key×V)},kvs.map Prod.fst=gd.map Prod.fst->(zec kvs k).isSome=(zcb gd k).isSome:=by
 induction gd with
 |nil=>intro kvs h;cases kvs with|nil=>rfl|cons _ _=>simp at h
 |cons x r ih =>
  intro kvs h
  cases kvs with
  |nil=>simp at h
  |cons y m =>
   simp only[da,ul]at h;by_cases e:y.1=k
   ·have e':x.1=k:=by rw[<-h.1];exact e
    simp[zec,zcb,sf,e,e']
   ·have e':¬x.1=k:=by rw[<-h.1];exact e
    rw[zcn e,ih h.2];simp[zcb,sf,e']
theorem zj7{kvs:List (List Key×V)}{k:List Key}{v:V}(h:zec kvs k=none):zh3 kvs k v=kvs++[(k,v)]:=by
 unfold zh3;rw[zh4,h];rfl
section
variable {K:PySem.W.Frag}{Hf Hn:Hp}
theorem zu5{k:List Key}{d:D}{y:V}{l:Addr}{xs:List V}(hx:Hn l=some (.lst xs))(dy:Dn K Hf d y):∀{gd:GD}{kvs:List (List Key×V)},kvs.map Prod.fst=gd.map Prod.fst->(kvs.map Prod.snd).Nodup->zec kvs k=some (.ref l)->Paired (λds v=>∃l xs,v=.ref l/\Hn l=some (.lst xs)/\Dns K Hf ds xs) (gd.map Prod.snd) (kvs.map Prod.snd) →
  Paired (λds v=>∃l' xs',v=.ref l'/\upd Hn l (.lst (xs++[y])) l'=some (.lst xs')/\Dns K Hf ds xs') ((zik k d gd).map Prod.snd) (kvs.map Prod.snd):=by
 intro gd
 induction gd with
 |nil=>intro kvs h _ hv _;cases kvs with|nil=>cases hv|cons _ _=>simp at h
 |cons x r ih =>
  intro kvs h nd hv pr
  cases kvs with
  |nil=>simp at h
  |cons z m =>
   simp only[da,ul]at h;rw[da,qg]at nd;rw[da,da]at pr
   cases pr with
   |cons p1 p2 =>
    have keep:∀{a:List (List D)} {b:List V},(.ref l) ∉ b->Paired (λds v=>∃l xs,v=.ref l/\Hn l=some (.lst xs)/\Dns K Hf ds xs) a b->Paired (λds v=>∃l' xs',v=.ref l'/\upd Hn l (.lst (xs++[y])) l'=some (.lst xs')/\Dns K Hf ds xs') a b:=by
     intro a b hb q
     induction q with
     |nil=>exact .nil
     |cons q1 q2 ih2 =>
      obtain⟨l',xs',e1,e2,e3⟩:=q1;refine .cons ⟨l',xs',e1,?_,e3⟩ (ih2 λw=>hb (ja _ w));rw[zad (λw=>hb (by rw[e1,w];exact xa))];exact e2
    unfold zik;by_cases e:x.1=k
    ·have e':z.1=k:=by rw[h.1];exact e
     rw[zc0 e']at hv;have hz:z.2=.ref l:=kc hv;rw[la e,da,da];obtain⟨l',xs',e1,e2,e3⟩:=p1;rw[hz]at e1;cases e1;rw[hx]at e2;cases e2;refine .cons ⟨l,_,hz,zac,e3.zsnoc dy⟩ (keep (by rw[<-hz];exact nd.1) p2)
    ·have e':¬z.1=k:=by rw[h.1];exact e
     rw[zcn e']at hv;rw[wa e,da,da];obtain⟨l',xs',e1,e2,e3⟩:=p1
     have hm:(.ref l)∈m.map Prod.snd:=by
      unfold zec at hv;obtain⟨w,hw1,hw2⟩:=db.mp hv;rw[<-hw2];exact tq (rm hw1)
     refine .cons ⟨l',xs',e1,?_,e3⟩ (ih h.2 nd.2 hv p2);rw[zad (λw=>nd.1 (by rw[e1,w];exact hm))];exact e2
end
section
variable {X:Cx}{B:Bs}{j:Nat}{Hf Hf' H H' Hn:Hp}{ρ:Rho}{σ:St}{gd:GD}
theorem GS.app{k:List Key}{d:D}{y:V}{l p:Addr}{xs:List V}{kvs:List (List Key×V)}(I:GS X B j Hf ρ σ H gd Hn)(hσ:σ[j]?=some (some (.ref p)))(hp:Hn p=some (.dT kvs))(hv:zec kvs k=some (.ref l))(hx:Hn l=some (.lst xs))(dy:Dn X.K Hf d y):GS X B j Hf ρ σ (upd H l (.lst (xs++[y]))) (zik k d gd) (upd Hn l (.lst (xs++[y]))):=by
 have hn:Hn l≠none:=by rw[hx];exact λz=>nomatch z
 have hlp:p≠l:=λz=>by rw[z,hx]at hp;cases hp
 refine⟨I.vi.offH (λi sl h o z=>by have:=I.no i sl h;rw[o]at this;cases this) (I.fr l hn).1 (I.fr l hn).2,I.nj,λb u z=>?_,λb ys z=>?_,λb hb=>?_,I.no,?_⟩
 ·by_cases hb:b=l
  ·subst hb;rw[zac]at z ⊢;exact z
  ·rw[zad hb]at z ⊢;exact I.nh b u z
 ·by_cases hb:b=l
  ·subst hb;rw[zac]at z;cases z
  ·rw[zad hb]at z;exact I.nt b ys z
 ·by_cases hb':b=l
  ·rw[hb'];exact I.fr l hn
  ·rw[zad hb']at hb;exact I.fr b hb
 ·obtain⟨p',kvs',h1,h2,h3,h4,h5⟩:=I.ex
  rw[hσ]at h1;cases h1;rw[hp]at h2;cases h2;exact⟨p,kvs,hσ,by rw[zad hlp];exact hp,by rw[zj6];exact h3,h4,zu5 hx dy h3 h4 hv h5⟩
theorem GS.new{k:List Key}{l p:Addr}{kvs:List (List Key×V)}(I:GS X B j Hf ρ σ H gd Hn)(hσ:σ[j]?=some (some (.ref p)))(hp:Hn p=some (.dT kvs))(hl:H l=none):GS X B j Hf ρ σ (upd (upd H l (.lst [])) p (.dT (kvs++[(k,.ref l)]))) (gd++[(k,[])]) (upd (upd Hn l (.lst [])) p (.dT (kvs++[(k,.ref l)]))):=by
 have hn:Hn p≠none:=by rw[hp];exact λz=>nomatch z
 have hpl:p≠l:=λz=>by have:=I.nh p _ hp;rw[z,hl]at this;cases this
 have hnl:Hn l=none:=I.nh.free hl;have I1:=I.ext (Ex.made (o:=.lst []) I.vi.fh hl);refine⟨I1.vi.offH (λi sl h o z=>by have:=I.no i sl h;rw[o]at this;cases this) (I.fr p hn).1 (I.fr p hn).2,I.nj,λb u z=>?_,λb ys z=>?_,λb hb=>?_,I.no,?_⟩
 ·by_cases hb:b=p
  ·subst hb;rw[zac]at z ⊢;exact z
  ·rw[zad hb]at z ⊢
   by_cases hb2:b=l
   ·subst hb2;rw[zac]at z ⊢;exact z
   ·rw[zad hb2]at z ⊢;exact I.nh b u z
 ·by_cases hb:b=p
  ·subst hb;rw[zac]at z;cases z
  ·rw[zad hb]at z
   by_cases hb2:b=l
   ·subst hb2;rw[zac]at z;cases z
   ·rw[zad hb2]at z;exact I.nt b ys z
 ·by_cases hb':b=p
  ·rw[hb'];exact I.fr p hn
  ·rw[zad hb']at hb
   by_cases hb2:b=l
   ·rw[hb2];exact⟨I.vi.fh.free hl,I.vi.ex.hh.free hl⟩
   ·rw[zad hb2]at hb;exact I.fr b hb
 ·obtain⟨p',kvs',h1,h2,h3,h4,h5⟩:=I.ex
  rw[hσ]at h1;cases h1;rw[hp]at h2;cases h2
  have hm:∀v∈kvs.map Prod.snd,∃l' xs',v=.ref l'/\Hn l'=some (.lst xs'):=by
   have:∀{a:List (List D)} {b:List V},Paired (λds v=>∃l xs,v=.ref l/\Hn l=some (.lst xs)/\Dns X.K Hf ds xs) a b->∀v∈b,∃l' xs',v=.ref l'/\Hn l'=some (.lst xs'):=by
    intro a b q
    induction q with
    |nil=>intro v hv;cases hv
    |cons q1 q2 ih =>
     intro v hv;obtain⟨l',xs',e1,e2,_⟩:=q1;rcases pb.mp hv with rfl|hv
     ·exact⟨l',xs',e1,e2⟩
     ·exact ih v hv
   exact this h5
  refine⟨p,_,hσ,zac,by rw[lc,lc,h3];rfl,?_,?_⟩
  ·rw[lc,ij]
   refine⟨h4,by simp,λv hv w hw e=>?_⟩;obtain⟨l',xs',e1,e2⟩:=hm v hv;simp at hw;rw[e,hw]at e1;cases e1;rw[hnl]at e2;cases e2
  ·rw[lc,lc]
   refine(h5.zmap λds v ⟨l',xs',a1,a2,a3⟩=>⟨l',xs',a1,?_,a3⟩).zsnoc ⟨l,[],rfl,by rw[zad hpl.symm,zac],.nil⟩;rw[zad (λw=>by rw[w,hp]at a2;cases a2),zad (λw=>by rw[w,hnl]at a2;cases a2)];exact a2
end
noncomputable def z73(gd:GD)(k:List Key)(d:D):GD:=zik k d (zop gd k)
noncomputable def gSd(fk:Rho->Option D):GG:=λρ gd=>(fk ρ).bind λkd=>(zfc kd).bind λk=>if gd.length<100000 then some (ρ,zop gd k) else none
noncomputable def gSa(fk fv:Rho->Option D):GG:=λρ gd=>(fk ρ).bind λkd=>(zfc kd).bind λk=>(fv ρ).bind λd=>if gd.length<100000/\(gd.all λx=>decide (x.2.length<100000))=true then some (ρ,z73 gd k d) else none
noncomputable def z74(i:Nat)(fe:Rho->Option D):GG:=λρ gd=>(fe ρ).map λd=>(ρ.set i (some (.sh d)),gd)
noncomputable def zoh(g h:GG):GG:=λρ gd=>(g ρ gd).bind λz=>h z.1 z.2
noncomputable def zre(gt:D->Rho->Option Rho)(f:GG):List D->GG
 |[],ρ,gd=>some (ρ,gd)
 |d::r,ρ,gd=>(gt d ρ).bind λρ1=>(f ρ1 gd).bind λz=>zre gt f r z.1 z.2
noncomputable def zxi(fi:Rho->Option (List D))(gt:D->Rho->Option Rho)(f:GG):GG:=λρ gd=>(fi ρ).bind λds=>zre gt f ds ρ gd
theorem zhp{α β:Type}{F:α->β->Prop}:∀{l:List α}{r:List β},Paired F l r->∀y∈r,∃x∈l,F x y
 |_,_,.nil,y,h=>by cases h
 |_,_,.cons p q,y,h=>by
  rcases pb.mp h with rfl|h
  ·exact⟨_,xa,p⟩
  ·obtain⟨x,h1,h2⟩:=zhp q y h
   exact⟨x,ja _ h1,h2⟩
theorem z1i{kvs:List (List Key×V)}{k:List Key}{v:V}(h:zec kvs k=some v):v∈kvs.map Prod.snd:=by
 unfold zec at h;obtain⟨w,hw1,hw2⟩:=db.mp h;rw[<-hw2];exact tq (rm hw1)
theorem z1j{kvs:List (List Key×V)}{k:List Key}{v:V}(h:zec kvs k=none):zec (kvs++[(k,v)]) k=some v:=by
 induction kvs with
 |nil=>exact zc0 rfl
 |cons x r ih =>
  by_cases e:x.1=k
  ·rw[zc0 e]at h;cases h
  ·rw[zcn e]at h
   rw[ge,zcn e];exact ih h
section
variable {X:Cx}{B:Bs}{j:Nat}{pos:Pos}{key v:Expr}{fk fv:Rho->Option D}
theorem ydo {n:Nat}{x:Str}{p1 p2 p3 p4:Pos} (hr:Room n X.A) (hN:X.N[j]?=some x) (hk:PE X key (eB X.K B fk)) (m:M2 X (.Name x p1) "setdefault" p2 key (.List [] p3) p4) (hvis:Vis X.env.scope x:=by first|exact cb rfl|exact af (cb rfl)|exact af (af rfl)) (hd:(x == ("__debug__" : Str))=false:=by decide) (hcd:(x == ("__classdict__" : Str))=false:=by decide)
  (hs:swapsWith (.Call (.Attribute (.Name x p1) "setdefault" p2) [key,.List [] p3] [] p4) none pos.line X.env=pure false:=by rfl) :
  PS X (.Expr (.Call (.Attribute (.Name x p1) "setdefault" p2) [key,.List [] p3] [] p4) pos) (sG X B j (gSd fk)) :=
 (zez (zxh (by have:=hr.units;omega) (zcg hN hvis hd hcd) hk (zl0 zc5) m) hs).imp λD σ H ⟨Hf,ρ,gd,Hn,ρ',gd',N,hg,q⟩=>by
  obtain⟨kd,hk0,hg⟩:=bind_some hg;obtain⟨k,hk1,hg⟩:=bind_some hg
  split at hg
  ·rename_i hlen
   cases hg;obtain⟨p,kvs,hσ,hp,h3,h4,h5⟩:=N.ex
   refine⟨_,hσ,p,rfl,.inr ⟨kvs,.inl (N.nh _ _ hp)⟩,Hf,ρ,kd,N.vi,hk0,λHf1 H1 y ex1 dy=>⟨ud _,λl hl=>?_⟩⟩;have N1:=N.ext ex1;obtain⟨b,rfl,hb⟩:=zh6 dy hk1;have hp1:H1 p=some (.dT kvs):=N1.nh _ _ hp;have hb1:=ex1.fh _ _ hb;have hkl:kvs.length=gd.length:=by rw[<-ba (f:=Prod.fst),h3,ba]
   have hs1:=zm6 (k:=k) h3;refine⟨b,kvs,k,rfl,by rw[zad (zag hp1 hl)];exact hp1,by rw[zad (zag hb1 hl)];exact hb1,by rw[hkl];exact szl (by omega),λw hw=>?_,λhw=>?_⟩
   ·rw[hw]at hs1
    have e:zop gd k=gd:=by unfold zop;exact la hs1.symm
    rw[e]at q;exact q Hf1 σ _ Hn ex1.ff (N1.ext (Ex.made N1.vi.fh hl))
   ·rw[hw]at hs1
    have e:zop gd k=gd++[(k,[])]:=by unfold zop;rw[wa (by rw[<-hs1];decide)]
    rw[e]at q;rw[zj7 hw];exact q Hf1 σ _ _ ex1.ff (N1.new hσ hp hl)
  ·cases hg
theorem ydp {n:Nat}{x:Str}{p1 p2 p3 p4 p5 p6:Pos} (hr:Room n X.A) (hN:X.N[j]?=some x) (hk:PE X key (eB X.K B fk)) (hv:PE X v (eV X.K B fv)) (m:M2 X (.Name x p1) "setdefault" p2 key (.List [] p3) p4) (hvis:Vis X.env.scope x:=by first|exact cb rfl|exact af (cb rfl)|exact af (af rfl)) (hd:(x == ("__debug__" : Str))=false:=by decide) (hcd:(x == ("__classdict__" : Str))=false:=by decide)
  (hbase:attributeBase (.Call (.Attribute (.Name x p1) "setdefault" p2) [key,.List [] p3] [] p4) "append" X.env (eval (.Call (.Attribute (.Name x p1) "setdefault" p2) [key,.List [] p3] [] p4) X.env)=eval (.Call (.Attribute (.Name x p1) "setdefault" p2) [key,.List [] p3] [] p4) X.env:=by rfl)
  (hfew:((backTo p6 (starEach [v] X.env)).all (λx=>!x.1) && (backToKw p6 (keywordEach [] X.env)).all (λx=>x.1.isSome) && decide ([v].length+([]:List Keyword).length+(if ([]:List Keyword).isEmpty then 0 else 1)<30))=true:=by rfl)
  (hline:(p5.endLine == p6.line)=true:=by rfl) (hst:starEach [v] X.env=(false,eval v X.env)::starEach [] X.env:=by rfl) (hplain:(backTo p6 (starEach [] X.env)).any (·.1)=false:=by rfl)
  (hs:swapsWith (.Call (.Attribute (.Call (.Attribute (.Name x p1) "setdefault" p2) [key,.List [] p3] [] p4) "append" p5) [v] [] p6) none pos.line X.env=pure false:=by rfl) :
  PS X (.Expr (.Call (.Attribute (.Call (.Attribute (.Name x p1) "setdefault" p2) [key,.List [] p3] [] p4) "append" p5) [v] [] p6) pos) (sG X B j (gSa fk fv)) :=
 (zez (ztb PySem.F.plainAttrs_list PySem.F.slot_list_append PySem.F.type_list_append zjj (zxh (by have:=hr.units;omega) (zcg hN hvis hd hcd) hk (zl0 zc5) m) (zbp hv zc5 hst) hbase hfew hline hst hplain) hs).imp λD σ H ⟨Hf,ρ,gd,Hn,ρ',gd',N,hg,q⟩=>by
  obtain⟨kd,hk0,hg⟩:=bind_some hg;obtain⟨k,hk1,hg⟩:=bind_some hg;obtain⟨d,hd0,hg⟩:=bind_some hg
  split at hg
  ·rename_i hc
   cases hg;obtain⟨p,kvs,hσ,hp,h3,h4,h5⟩:=N.ex
   refine⟨_,hσ,p,rfl,.inr ⟨kvs,.inl (N.nh _ _ hp)⟩,Hf,ρ,kd,N.vi,hk0,λHf1 H1 y ex1 dy=>⟨ud _,λl hl=>?_⟩⟩;have N1:=N.ext ex1;obtain⟨b,rfl,hb⟩:=zh6 dy hk1;have hp1:H1 p=some (.dT kvs):=N1.nh _ _ hp;have hb1:=ex1.fh _ _ hb;have hkl:kvs.length=gd.length:=by rw[<-ba (f:=Prod.fst),h3,ba]
   have hs1:=zm6 (k:=k) h3;refine⟨b,kvs,k,rfl,by rw[zad (zag hp1 hl)];exact hp1,by rw[zad (zag hb1 hl)];exact hb1,by rw[hkl];exact szl (by omega),λw hw=>?_,λhw=>?_⟩
   ·rw[hw]at hs1
    have e:zop gd k=gd:=by unfold zop;exact la hs1.symm
    unfold z73 at q;rw[e]at q;have N2:=N1.ext (Ex.made (o:=.lst []) N1.vi.fh hl);obtain⟨ds,hds,l',xs,rfl,hx,dx⟩:=zhp h5 w (z1i hw);refine⟨.inl ⟨rfl,xs,SqL.of (N2.nh _ _ hx)⟩,Hf1,ρ,d,N2.vi,hd0,λHf2 H2 y ex2 dy2=>?_⟩;have N3:=N2.ext ex2;refine⟨xs,N3.nh _ _ hx,?_,q Hf2 σ _ _ (ex1.ff.trans ex2.ff) (N3.app hσ hp hw hx dy2)⟩;obtain⟨z,hz,rfl⟩:=ic.mp hds
    have:=yc (df.mp hc.2 z hz)
    rw[<-dx.length];exact szl (by omega)
   ·rw[hw]at hs1
    have e:zop gd k=gd++[(k,[])]:=by unfold zop;rw[wa (by rw[<-hs1];decide)]
    unfold z73 at q;rw[e]at q;rw[zj7 hw];have N2:=N1.new (k:=k) hσ hp hl;have hpl:p≠l:=zag hp1 hl;have hx:(upd (upd Hn l (.lst [])) p (.dT (kvs++[(k,.ref l)]))) l=some (.lst []):=by rw[zad hpl.symm,zac]
    refine⟨.inl ⟨rfl,[],SqL.of (N2.nh _ _ hx)⟩,Hf1,ρ,d,N2.vi,hd0,λHf2 H2 y ex2 dy2=>?_⟩;have N3:=N2.ext ex2;exact⟨[],N3.nh _ _ hx,szl (by decide),q Hf2 σ _ _ (ex1.ff.trans ex2.ff) (N3.app hσ zac (z1j hw) hx dy2)⟩
  ·cases hg
variable {g h:GG}{st:Stmt}{rest as bs:List Stmt}{ft:Rho->Option Bool}{fe:Rho->Option D}
theorem z6d(h:PS X st (sG X B j g)):PSs X [st] (sG X B j g):=zfq h
theorem zxj(h1:PS X st (sG X B j g))(h2:PSs X rest (sG X B j h)):PSs X (st::rest) (sG X B j (zoh g h)):=(zbt h1 h2).imp λD σ H ⟨Hf,ρ,gd,Hn,ρ',gd',N,hg,q⟩=>by
 obtain⟨z,hz,hg⟩:=bind_some hg;exact⟨Hf,ρ,gd,Hn,z.1,z.2,N,hz,λHf1 σ1 H1 Hn1 s1 N1=>⟨Hf1,z.1,z.2,Hn1,ρ',gd',N1,hg,λHf2 σ2 H2 Hn2 s2 N2=>q Hf2 σ2 H2 Hn2 (s1.trans s2) N2⟩⟩
theorem GS.set{Hf H Hn:Hp}{ρ:Rho}{σ:St}{gd:GD}{i:Nat}{d:D}{w:V}(N:GS X B j Hf ρ σ H gd Hn)(hij:i≠j)(dv:Dn X.K Hf d w):GS X B j Hf (ρ.set i (some (.sh d))) (σ.set i (some w)) H gd Hn:=by
 refine⟨N.vi.set dv,by rw[na hij];exact N.nj,N.nh,N.nt,N.fr,z1a (i:=i) d ρ _ rfl N.no,?_⟩
 ·obtain⟨p,kvs,h1,r⟩:=N.ex
  exact⟨p,kvs,by rw[na hij];exact h1,r⟩
theorem yaw{i:Nat}{y:Str}{pos':Pos}{e:Expr}(hij:i≠j)(hNd:X.N.Nodup)(hi:X.N[i]?=some y)(hx:Loc X.env.scope y)(he:PE X e (eV X.K B fe))(hs:swapsWith e (some (.Name y pos')) pos.line X.env=pure false:=by rfl)(hf:X.fn y=true\/X.env.scope.names.lookup y=some .local:=by first|exact .inl rfl|exact .inr rfl|assumption):PS X (.Assign [.Name y pos'] e pos) (sG X B j (z74 i fe)):=(zfr hNd hi hx he hs hf).imp λD σ H ⟨Hf,ρ,gd,Hn,ρ',gd',N,hg,q⟩=>by
 obtain⟨d,hd0,hg⟩:=db.mp hg;cases hg;exact⟨Hf,ρ,d,N.vi,hd0,λHf1 H1 w ex1 dv=>q Hf1 _ H1 Hn ex1.ff ((N.ext ex1).set hij dv)⟩
variable {tg iter:Expr}{fi:Rho->Option (List D)}{gt:D->Rho->Option Rho}{sl:List Nat}
theorem z6e{body:List Stmt}(hp:PassesOwn (model X.prog X.w) X.A X.env X.xe)(hc:X.calm=true)(hi:PI X tg iter (iV X.K B fi))(hg:PG X tg (gV X.K B sl gt))(hj:j ∉ sl)(hgt:∀d ρ ρ1,gt d ρ=some ρ1->ρ1[j]?=ρ[j]?)(hno:∀d ρ ρ1,gt d ρ=some ρ1->(∀(i:Nat) s,ρ[i]?=some (some s)->zf1 s=false)->∀(i:Nat) s,ρ1[i]?=some (some s)->zf1 s=false)(hb:PSs X body (sG X B j g))(hs:∀x,foldedSetIterable iter X.env x=pure x:=by intro _;rfl):PS X (.For tg iter body [] pos) (sG X B j (zxi fi gt g)):=(zlz hp hc hi hg hb hs).imp λD σ H ⟨Hf,ρ,gd,Hn,ρ',gd',N,hgg,q⟩=>by
 obtain⟨ds,e,hgg⟩:=bind_some hgg;refine⟨Hf,ρ,ds,N.vi,e,λJ Hf1 H1 ex1 ok=>?_⟩;refine⟨λi m σ H=>m=ds.length - i/\i<=ds.length/\∃Hf2 ρ2 gd2 Hn2,GS X B j Hf2 ρ2 σ H gd2 Hn2/\zax Hf1 Hf2/\zre gt g (ds.drop i) ρ2 gd2=some (ρ',gd'),⟨ds.length,by simp,ud _,Hf1,ρ,gd,Hn,N.ext ex1,zax.refl _,hgg⟩,?_⟩;rintro i m σ2 H2 ⟨rfl,hi,Hf2,ρ2,gd2,Hn2,N2,s12,q2⟩;have okk:=ok Hf2 H2 (s12.trans N2.vi.fh) s12 N2.vi.fh i;by_cases hlt:i<ds.length
 ·obtain⟨go,yld⟩:=okk.1 ds[i] (by simp[hlt])
  refine .inr ⟨go,λσ' H'=>∃Hf3 ρ3 gd3 Hn3,GS X B j Hf3 ρ3 σ' H' gd3 Hn3/\zax Hf1 Hf3/\zre gt g (ds.drop (i+1)) ρ3 gd3=some (ρ',gd'),λσ' H' z=>⟨ds.length - (i+1),by omega,rfl,hlt,z⟩,λx H3 y=>?_⟩;obtain⟨Hf3,ex3,dx⟩:=yld x H3 y;rw[se hlt]at q2;unfold zre at q2;obtain⟨ρ1,hg1,q2⟩:=bind_some q2;obtain⟨z,hz,q2⟩:=bind_some q2;have N3:=N2.ext ex3;refine⟨Hf3,ρ2,_,ρ1,N3.vi,dx,hg1,λσ' I' _ hk=>⟨Hf3,ρ1,gd2,Hn2,z.1,z.2,⟨I',(hgt _ _ _ hg1).trans N3.nj,N3.nh,N3.nt,N3.fr,hno _ _ _ hg1 N3.no,?_⟩,hz,λHf' σ'' H'' Hn' sm N'=>⟨Hf',z.1,z.2,Hn',N',(s12.trans ex3.ff).trans sm,q2⟩⟩⟩;obtain⟨p,xs,h1,r⟩:=N3.ex;exact⟨p,xs,(hk j hj).trans h1,r⟩
 ·have e:i=ds.length:=by omega
  subst e;rw[ji]at q2;unfold zre at q2;cases q2;exact .inl ⟨okk.2 (va _),q Hf2 σ2 H2 Hn2 (ex1.ff.trans s12) N2⟩
noncomputable def z6f(j:Nat)(g:GG):Rho->Out:=λρ=>match ρ[j]? with
 |some none=>if (ρ.all λs=>match s with|some sl=>!zf1 sl|none=>true)=true then (match g ρ [] with|some z=>.rt (.dt (z.2.map Prod.fst) (z.2.map λx=>.lst x.2))|none=>.bad) else .bad
 |_=>.bad
theorem z6g{x:Str}{s2:Stmt}{q1 q2 q3 p2 pos':Pos}(hNd:X.N.Nodup)(hN:X.N[j]?=some x)(hx:Loc X.env.scope x)(h2:PS X s2 (sG X B j g))
  (hs:swapsWith (.Dict [] [] q1) (some (.Name x q2)) q3.line X.env=pure false:=by rfl) (hf:X.fn x=true\/X.env.scope.names.lookup x=some .local:=by first|exact .inl rfl|exact .inr rfl|assumption)
  (hvis:Vis X.env.scope x:=by first|exact cb rfl|exact af (cb rfl)|exact af (af rfl)) (hd:(x == ("__debug__" : Str))=false:=by decide) (hcd:(x == ("__classdict__" : Str))=false:=by decide) :
  PSs X [.Assign [.Name x q2] (.Dict [] [] q1) q3,s2,.Return (some (.Name x p2)) pos'] (sV X.K B (z6f j g)) :=
 (zbt (zfr hNd hN hx ztu hs hf) (zbt h2 (zfq (zlx (zcg hN hvis hd hcd))))).imp λD σ H ⟨Hf,ρ,I,q⟩=>by
  unfold z6f at q
  split at q
  ·rename_i hj
   split at q
   ·rename_i hall
    split at q
    ·rename_i z hz
     intro a ha;have hjl:j<σ.length:=by rw[<-I.len];exact(qa.mp hj).1
     have I1:VI X.K B Hf ρ (σ.set j (some (.ref a))) (upd H a (.dT [])):=(I.setU hj).ext (Ex.made I.fh ha)
     have hno:∀(i:Nat) sl,ρ[i]?=some (some sl)->zf1 sl=false:=λi sl h=>by
      have:=df.mp hall _ (jd h)
      simpa using this
     refine⟨Hf,ρ,[],upd emp a (.dT []),z.1,z.2,⟨I1,hj,zu1 zac,λb xs h=>?_,λb hb=>?_,hno,a,[],by rw[nb hjl],zac,rfl,kh,.nil⟩,hz,λHf' σ' H' Hn' sm N'=>?_⟩
     ·by_cases hb:b=a
      ·subst hb;rw[zac]at h;cases h
      ·rw[zad hb]at h;cases h
     ·rw[zu2 hb];exact⟨I.fh.free ha,I.ex.hh.free ha⟩
     ·obtain⟨p,kvs,h1,h2,h3,h4,h5⟩:=N'.ex
      have jr0:=yb8 N'.vi.fh (zm5.trans N'.nh);have jl:∀b xs,Hn' b=some (.lst xs)->jn Hf' (noF Hn') b=some (.lst xs):=λb xs e=>jr0 _ _ (z1b e)
      refine⟨_,h1,q (jn Hf' (noF Hn')) H' _ ⟨N'.vi.ex.ff.trans yas,N'.vi.ex.hh,z54 N'.vi.fh (zm5.trans N'.nh),λb hb=>?_,λb o u h=>N'.vi.ex.nf b o u (yat h)⟩ ?_⟩
      ·rcases zrb hb with w|w
       ·exact N'.vi.ex.nw b w
       ·exact .inr (.inl (N'.fr b (z55 w)).2)
      ·refine zzn (jr0 _ _ (z56 h2)) h3 ?_
       have:∀{a:List (List L2.D)} {b:List V},Paired (λds v=>∃l xs,v=.ref l/\Hn' l=some (.lst xs)/\Dns X.K Hf' ds xs) a b->Dns X.K (jn Hf' (noF Hn')) (a.map L2.D.lst) b:=by
        intro a b pr
        induction pr with
        |nil=>exact .nil
        |cons r t ih =>
         obtain⟨l,xs,rfl,e2,e3⟩:=r;exact .cons (zc8 (SqL.of (jl _ _ e2)) (e3.same yas)) ih
       have e:=this h5;rw[zd]at e;exact e
    ·exact q.elim
   ·exact q.elim
  ·exact q.elim
end
noncomputable def ixD(e:D):List D->Nat->Option Nat
 |[],_=>none
 |d::r,n=>if deq d e=true then some n else ixD e r (n+1)
theorem zm7{e:D}:∀{ds:List D}{n j:Nat},ixD e ds n=some j->n<=j/\(∃d,ds[j - n]?=some d/\deq d e=true)/\∀m d,m<j - n->ds[m]?=some d->deq d e=false
 |[],n,j,h=>by cases h
 |d::r,n,j,h=>by
  unfold ixD at h
  split at h
  ·rename_i hd
   cases h;exact⟨va _,⟨d,by rw[cg];rfl,hd⟩,λm d' hm=>by omega⟩
  ·rename_i hd
   obtain⟨h1,⟨d1,h2,h3⟩,h4⟩:=zm7 h;refine⟨by omega,⟨d1,?_,h3⟩,λm d' hm hd'=>?_⟩
   ·rw[show j - n=(j - (n+1))+1 by omega,lb];exact h2
   ·cases m with
    |zero=>cases hd';exact ck.mpr hd
    |succ m=>rw[lb]at hd';exact h4 m d' (by omega) hd'
def yb9(K:PySem.W.Frag)(k:Nat):V->List V->Hp->VK->Prop:=λx vs H Q=>∃p xs ds e y j,x=.ref p/\vs=[y]/\SqL K H p xs/\Den K H k e y/\Paired (Den K H k) ds xs/\(∃d,ds[j]?=some d/\eqD k d e=true)/\(∀m d,m<j->ds[m]?=some d->eqD k d e=false)/\Q (.int ((j:Nat):Int)) H
section
variable {X:Cx}{B:Bs}
theorem zcx{α β:Type}{F:α->β->Prop}:∀{l:List α}{r:List β},Paired F l r->∀{j:Nat}{a:α},l[j]?=some a->∃b,r[j]?=some b/\F a b
 |_,_,.nil,j,a,e=>by simp at e
 |_,_,.cons p q,0,a,e=>by simp at e;subst e;exact⟨_,rfl,p⟩
 |_,_,.cons p q,j+1,a,e=>by
  rw[lb]at e;obtain⟨b,h1,h2⟩:=zcx q e;exact⟨b,by rw[lb];exact h1,h2⟩
theorem z6h(k:Nat){n:Nat}(hr:Room n X.A)(hk:k<=9):MtR X "list.index" (yb9 X.K k):=by
 intro pins s σ H x vs v us Q I rx rv h;obtain⟨p,xs,ds,e,y,j,rfl,rfl,hq,hy,hd,⟨d0,h1,h2⟩,h3,q⟩:=h;cases rx;obtain⟨u,rfl,ru⟩:=rv.one;obtain⟨its,r,pl,hz⟩:=I.list hq;have hp:=I.dens hd r;have hv:=I.den hy ru;have hu:=hr.units;obtain⟨w0,hw0,hx0⟩:=zcx hp h1;have hj:j<its.length:=(qa.mp hw0).1;have hl:its.length=xs.length:=r.length.symm;have hsz:=zfs;obtain⟨⟨cls,dd,data,sl⟩,ho,hc,c,hdd⟩:=pl.isList;simp only at hc hdd;subst hc hdd;refine qk PySem.F.slot_list_index ⟨_,ho,rfl⟩ PySem.F.entry_list_index (PySem.F.args_list_index_2 _ _) (SeqAt.list_indexAt p its.toArray c dd sl u (eqF s.heap k e) j (by simpa using hj) (by omega) ?_ λm hm hmj=>?_) ⟨ho,λw hw=>zf4 (A:=X.A.in1) hv (by show X.A.units+1+k<cLine;omega) hp w (by simpa using hw),.int ((j:Nat):Int),H,I.tok _,⟨_,rfl⟩,q⟩
 ·have e0:its.toArray[j]'(by simpa using hj)=w0:=by
   have:=cc hj
   rw[this]at hw0
   simpa using hw0
  rw[e0,zjr hx0];exact h2
 ·have hm':m<its.length:=by simpa using hm
  have hds:m<ds.length:=by rw[hp.length];exact hm'
  obtain⟨w1,hw1,hx1⟩:=zcx hp (cc hds)
  have e0:its.toArray[m]=w1:=by
   have:=cc hm'
   rw[this]at hw1
   simpa using hw1
  rw[e0,zjr hx1];exact h3 m _ hmj (cc hds)
noncomputable def z6i(d:D)(es:List D):Option D:=match d,es with
 |.lst ds,[e]=>if dOk LV e && ds.all (dOk LV) then (ixD e ds 0).map λj=>.int ((j:Nat):Int) else none
 |_,_=>none
theorem z6j{K:PySem.W.Frag}:PM K "list" (yb9 K LV) z6i:=by
 intro Hf H x xs d ds z Q s hd hds hz q;unfold z6i at hz
 split at hz
 ·rename_i es e
  split at hz
  ·rename_i hk
   rw[ub]at hk
   cases hi:ixD e es 0 with
   |none=>rw[hi]at hz;cases hz
   |some j =>
    rw[hi]at hz;cases hz;obtain⟨y,rfl,hy⟩:=zbs hds;obtain⟨p,ys,rfl,h1,h2⟩:=hd.lst s;have hy:=(hy.whole s).at hk.1;have h2:=(h2.same s).at hk.2;obtain⟨_,⟨d1,g1,g2⟩,g3⟩:=zm7 hi;refine⟨p,ys,es,e,y,j,rfl,rfl,h1,hy,h2,⟨d1,g1,?_⟩,λm d hm hd=>?_,q Hf H _ (.refl s) (zav rfl)⟩
    ·obtain⟨v,_,dv⟩:=zcx h2 g1
     rw[zf5 dv hy];exact g2
    ·obtain⟨v,_,dv⟩:=zcx h2 hd
     rw[zf5 dv hy];exact g3 m d (by omega) hd
  ·cases hz
 ·cases hz
end
def yca(K:PySem.W.Frag)(k:Nat):V->List V->Hp->VK->Prop:=λx vs H Q=>∃p xs ds e y,x=.ref p/\vs=[y]/\SqL K H p xs/\Den K H k e y/\Paired (Den K H k) ds xs/\Q (.int ((ds.countP λd=>eqD k d e:Nat):Int)) H
theorem zhq{α β:Type}{F:α->β->Prop}{f:α->Bool}{g:β->Bool}(h:∀a b,F a b->g b=f a):∀{l:List α}{r:List β},Paired F l r->r.countP g=l.countP f
 |_,_,.nil=>rfl
 |_,_,.cons p q=>by rw[List.countP_cons,List.countP_cons,zhq h q,h _ _ p]
section
variable {X:Cx}{B:Bs}
theorem z6k(k:Nat){n:Nat}(hr:Room n X.A)(hk:k<=9):MtR X "list.count" (yca X.K k):=by
 intro pins s σ H x vs v us Q I rx rv h;obtain⟨p,xs,ds,e,y,rfl,rfl,hq,hy,hd,q⟩:=h;cases rx;obtain⟨u,rfl,ru⟩:=rv.one;obtain⟨its,r,pl,hz⟩:=I.list hq;have hp:=I.dens hd r;have hv:=I.den hy ru;have hu:=hr.units;have hc:(its.countP (eqF s.heap k e))=ds.countP λd=>eqD k d e:=zhq (λa b hab=>zjr hab) hp
 obtain⟨⟨cls,dd,data,sl⟩,ho,hc2,c,hdd⟩:=pl.isList;simp only at hc2 hdd;subst hc2 hdd;refine qk PySem.F.slot_list_count ⟨_,ho,rfl⟩ PySem.F.entry_list_count (PySem.F.args_list_count_2 _ _) (SeqAt.list_countAt p its.toArray c dd sl u (eqF s.heap k e)) ⟨ho,λw hw=>zf4 (A:=X.A.in1) hv (by show X.A.units+1+k<cLine;omega) hp w (by simpa using hw),.int ((its.countP (eqF s.heap k e):Nat):Int),H,I.tok _,⟨_,rfl⟩,by rw[hc];exact q⟩
noncomputable def z75(d:D)(es:List D):Option D:=match d,es with
 |.lst ds,[e]=>if dOk LV e && ds.all (dOk LV) then some (.int ((ds.countP λd=>deq d e:Nat):Int)) else none
 |_,_=>none
theorem z6l{K:PySem.W.Frag}:PM K "list" (yca K LV) z75:=by
 intro Hf H x xs d ds z Q s hd hds hz q;unfold z75 at hz
 split at hz
 ·rename_i es e
  split at hz
  ·rename_i hk
   rw[ub]at hk;cases hz;obtain⟨y,rfl,hy⟩:=zbs hds;obtain⟨p,ys,rfl,h1,h2⟩:=hd.lst s;have hy:=(hy.whole s).at hk.1;have h2:=(h2.same s).at hk.2;refine⟨p,ys,es,e,y,rfl,rfl,h1,hy,h2,?_⟩
   have hcc:(es.countP λd=>eqD LV d e)=es.countP λd=>deq d e:=List.countP_congr λd hd=>by
    obtain⟨i,hi⟩:=fq hd;obtain⟨v,_,dv⟩:=zcx h2 hi;rw[zf5 dv hy]
   rw[hcc];exact q Hf H _ (.refl s) (zav rfl)
  ·cases hz
 ·cases hz
end
noncomputable def yax(d:D):Option D:=match d with
 |.er _ _ _=>some (.bl true)
 |_=>none
section
variable {X:Cx}{B:Bs}{a e:Expr}{fa:Rho->Option D}{pos p p':Pos}
theorem yay {P:Addr} (hP:PySem.W.nsIn X.K mainGlobals "PageError" = some (some (.ref P))) (hg:Gl X "isinstance") (hm:X.mg "isinstance" = none) (hgn:Gl X "PageError") (hmn:X.mg "PageError" = some (.ref P)) (ha:PE X a (eV X.K B fa))
  (hs1:starEach [a,.Name "PageError" p'] X.env=(false,eval a X.env)::starEach [.Name "PageError" p'] X.env:=by rfl) (hs2:starEach [.Name "PageError" p'] X.env=[(false,eval (.Name "PageError" p') X.env)]:=by rfl) (hpl:(backTo pos (starEach [.Name "PageError" p'] X.env)).any (·.1)=false:=by rfl):PE X (.Call (.Name "isinstance" p) [a,.Name "PageError" p'] [] pos) (eV X.K B (e1 yax fa)) :=
 (zdm zib hg hm zcd (zbp ha (zbp (zw2 hgn hmn (by decide)) zc5 hs2) hs1) (by decide) (by decide) hs1 hpl).imp λσ H Q ⟨Hf,ρ,z,I,hz,q⟩=>by
  obtain⟨d,hd,hz⟩:=bind_some hz;unfold yax at hz
  split at hz
  ·rename_i m ks ds
   cases hz;refine⟨Hf,ρ,_,I,hd,λHf1 H1 v ex1 ⟨k,dv⟩=>?_⟩
   cases k with
   |zero=>exact dv.elim
   |succ k =>
    obtain⟨e',C',dx,fs,rfl,h2,h3,_⟩:=dv;obtain⟨P',fI,c,_⟩:=id h3;exact⟨_,.ref P,.ref P,_,rfl,rfl,.inl ⟨e',C',dx,m,P',fI,rfl,ex1.fh _ _ h2,c,zud h3 hP⟩,.inr ⟨P,rfl⟩,q Hf1 H1 _ ex1 (zav rfl)⟩
  ·cases hz
end
end L2
namespace L2
open PySem
structure TotD(C:D->Prop):Prop where
 eq:∀a b,C a->C b->(deq a b=true↔a=b)
 ok:∀a b,C a->C b->zb4 a b=true
 tr:∀a b c,C a->C b->C c->dlt a b=true->dlt b c=true->dlt a c=true
 tot:∀a b,C a->C b->a=b\/dlt a b=true\/dlt b a=true
 as:∀a b,C a->C b->dlt a b=true->dlt b a=false
theorem TotD.irr{C:D->Prop}(T:TotD C){a:D}(h:C a):dlt a a=false:=by
 cases e:dlt a a with
 |false=>rfl
 |true=>rw[T.as a a h h e]at e;cases e
def yaz(d:D):Prop:=∃i:Int,d=.int i
def CBl(d:D):Prop:=∃b:Bool,d=.bl b
def ya0(d:D):Prop:=∃l:List Nat,d=.str l
theorem zil(i j:Int):dlt (.int i) (.int j)=decide (i<j):=by rw[dlt];rfl
theorem zrf:TotD yaz where
 eq:=λa b ⟨i,x⟩ ⟨j,y⟩=>by subst x y;rw[zlj];simp
 ok:=λa b ⟨i,x⟩ ⟨j,y⟩=>by subst x y;rw[zb4];rfl
 tr:=λa b c ⟨i,x⟩ ⟨j,y⟩ ⟨k,z⟩ h1 h2=>by
  subst x y z;rw[zil]at *
  have:=yc h1
  have:=yc h2
  exact ib (by omega)
 tot:=λa b ⟨i,x⟩ ⟨j,y⟩=>by
  subst x y;rw[zil,zil];rcases Int.lt_trichotomy i j with h|h|h
  ·exact .inr (.inl (ib h))
  ·exact .inl (by rw[h])
  ·exact .inr (.inr (ib h))
 as:=λa b ⟨i,x⟩ ⟨j,y⟩ h=>by
  subst x y;rw[zil]at *
  have:=yc h
  exact jc (by omega)
theorem z76(i j:Bool):dlt (.bl i) (.bl j)=(!i && j):=by rw[dlt];cases i <;> cases j <;> rfl
theorem z6m:TotD CBl where
 eq:=λa b ⟨i,x⟩ ⟨j,y⟩=>by subst x y;rw[z5h];cases i <;> cases j <;> simp
 ok:=λa b ⟨i,x⟩ ⟨j,y⟩=>by subst x y;rw[zb4];rfl
 tr:=λa b c ⟨i,x⟩ ⟨j,y⟩ ⟨k,z⟩ h1 h2=>by
  subst x y z;rw[z76]at *
  cases i <;> cases j <;> cases k <;> simp_all
 tot:=λa b ⟨i,x⟩ ⟨j,y⟩=>by
  subst x y;rw[z76,z76]
  cases i <;> cases j <;> simp
 as:=λa b ⟨i,x⟩ ⟨j,y⟩ h=>by
  subst x y;rw[z76]at *
  cases i <;> cases j <;> simp_all
theorem z77(l m:List Nat):dlt (.str l) (.str m)=decide (l<m):=by rw[dlt];rfl
theorem zrg{i j:List Nat}(h:D.str i=D.str j):i=j:=by
 have h2:S i=S j:=V.str.inj (D.sc.inj h);have h3:i.toArray=j.toArray:=Str.mk.inj h2
 simpa using h3
theorem zrh:TotD ya0 where
 eq:=λa b ⟨i,x⟩ ⟨j,y⟩=>by subst x y;rw[zid];exact⟨λh=>by rw[yc h],λh=>ib (zrg h)⟩
 ok:=λa b ⟨i,x⟩ ⟨j,y⟩=>by subst x y;rw[zb4];rfl
 tr:=λa b c ⟨i,x⟩ ⟨j,y⟩ ⟨k,z⟩ h1 h2=>by
  subst x y z;rw[z77]at *;exact ib (List.lt_trans (yc h1) (yc h2))
 tot:=λa b ⟨i,x⟩ ⟨j,y⟩=>by
  subst x y;rw[z77,z77];by_cases h:i<j
  ·exact .inr (.inl (ib h))
  ·by_cases h':j<i
   ·exact .inr (.inr (ib h'))
   ·exact .inl (by rw[List.le_antisymm (List.not_lt.mp h') (List.not_lt.mp h)])
 as:=λa b ⟨i,x⟩ ⟨j,y⟩ h=>by
  subst x y;rw[z77]at *;exact jc (List.lt_asymm (yc h))
def Fam(C:Nat->D->Prop):List D->Prop
 |[]=>True
 |d::r=>C 0 d/\Fam (λi=>C (i+1)) r
theorem zm8:∀{C:Nat->D->Prop},(∀i,TotD (C i))->∀as bs,Fam C as->Fam C bs->(zcp as bs=true↔as=bs)
 |C,T,[],[],_,_=>by simp[zcp]
 |C,T,[],_::_,_,_=>by simp[zcp]
 |C,T,_::_,[],_,_=>by simp[zcp]
 |C,T,a::as,b::bs,ha,hb=>by
  rw[zcp,ub,(T 0).eq a b ha.1 hb.1,zm8 (λi=>T (i+1)) as bs ha.2 hb.2];simp
theorem zri:∀{C:Nat->D->Prop},(∀i,TotD (C i))->∀as bs,Fam C as->Fam C bs->zdc as bs=true
 |C,T,[],[],_,_=>by simp[zdc]
 |C,T,[],_::_,_,_=>by simp[zdc]
 |C,T,_::_,[],_,_=>by simp[zdc]
 |C,T,a::as,b::bs,ha,hb=>by rw[zdc,(T 0).ok a b ha.1 hb.1,zri (λi=>T (i+1)) as bs ha.2 hb.2];rfl
theorem zlo:∀{C:Nat->D->Prop},(∀i,TotD (C i))->∀as bs,Fam C as->Fam C bs->as=bs\/zcr as bs=true\/zcr bs as=true
 |C,T,[],[],_,_=>.inl rfl
 |C,T,[],_::_,_,_=>.inr (.inl (by rw[zcr]))
 |C,T,_::_,[],_,_=>.inr (.inr (by rw[zcr]))
 |C,T,a::as,b::bs,ha,hb=>by
  by_cases e:a=b
  ·subst e
   have h:=((T 0).eq a a ha.1 ha.1).mpr rfl;rw[zcr,zcr,h,la rfl,la rfl];rcases zlo (λi=>T (i+1)) as bs ha.2 hb.2 with z|z|z
   ·exact .inl (by rw[z])
   ·exact .inr (.inl z)
   ·exact .inr (.inr z)
  ·have h1:¬deq a b=true:=λz=>e (((T 0).eq a b ha.1 hb.1).mp z)
   have h2:¬deq b a=true:=λz=>e (((T 0).eq b a hb.1 ha.1).mp z).symm
   rw[zcr,zcr,wa h1,wa h2];rcases(T 0).tot a b ha.1 hb.1 with z|z|z
   ·exact absurd z e
   ·exact .inr (.inl z)
   ·exact .inr (.inr z)
theorem zrj:∀{C:Nat->D->Prop},(∀i,TotD (C i))->∀as bs,Fam C as->Fam C bs->zcr as bs=true->zcr bs as=false
 |C,T,[],[],_,_,h=>by rw[zcr]at h;cases h
 |C,T,[],_::_,_,_,_=>by rw[zcr]
 |C,T,_::_,[],_,_,h=>by rw[zcr]at h;cases h
 |C,T,a::as,b::bs,ha,hb,h=>by
  by_cases e:a=b
  ·subst e
   have h0:=((T 0).eq a a ha.1 ha.1).mpr rfl;rw[zcr,h0,la rfl]at h ⊢;exact zrj (λi=>T (i+1)) as bs ha.2 hb.2 h
  ·have h1:¬deq a b=true:=λz=>e (((T 0).eq a b ha.1 hb.1).mp z)
   have h2:¬deq b a=true:=λz=>e (((T 0).eq b a hb.1 ha.1).mp z).symm
   rw[zcr,wa h1]at h;rw[zcr,wa h2];exact(T 0).as a b ha.1 hb.1 h
open Classical in
theorem zrk:∀{C:Nat->D->Prop},(∀i,TotD (C i))->∀as bs cs,Fam C as->Fam C bs->Fam C cs->zcr as bs=true->zcr bs cs=true->zcr as cs=true
 |C,T,as,[],cs,_,_,_,h,h'=>by cases as <;> (rw[zcr]at h;cases h)
 |C,T,as,b::bs,[],_,_,_,h,h'=>by rw[zcr]at h';cases h'
 |C,T,[],b::bs,c::cs,_,_,_,h,h'=>by rw[zcr]
 |C,T,a::as,b::bs,c::cs,ha,hb,hc,h,h'=>by
  have eqv:∀x y,C 0 x->C 0 y->∀p q:Bool,(if deq x y=true then p else q)=if x=y then p else q:=λx y hx hy p q=>by
   by_cases e:x=y
   ·rw[la (((T 0).eq x y hx hy).mpr e),la e]
   ·rw[wa (λz=>e (((T 0).eq x y hx hy).mp z)),wa e]
  rw[zcr,eqv a b ha.1 hb.1]at h;rw[zcr,eqv b c hb.1 hc.1]at h';rw[zcr,eqv a c ha.1 hc.1];by_cases e1:a=b
  ·subst e1
   rw[la rfl]at h;by_cases e2:a=c
   ·subst e2
    rw[la rfl]at h' ⊢;exact zrk (λi=>T (i+1)) as bs cs ha.2 hb.2 hc.2 h h'
   ·rw[wa e2]at h' ⊢;exact h'
  ·rw[wa e1]at h
   by_cases e2:b=c
   ·subst e2
    rw[wa e1];exact h
   ·rw[wa e2]at h'
    have h3:=(T 0).tr a b c ha.1 hb.1 hc.1 h h';by_cases e3:a=c
    ·subst e3;rw[(T 0).irr ha.1]at h3;cases h3
    ·rw[wa e3];exact h3
def ycb(C:Nat->D->Prop)(d:D):Prop:=∃ds,d=.lst ds/\Fam C ds
def z1k(C:Nat->D->Prop)(d:D):Prop:=∃ds,d=.tup ds/\Fam C ds
theorem z1l{C:Nat->D->Prop}(T:∀i,TotD (C i)):TotD (ycb C) where
 eq:=λa b ⟨i,x,p⟩ ⟨j,y,q⟩=>by subst x y;rw[deq,zm8 T i j p q];simp
 ok:=λa b ⟨i,x,p⟩ ⟨j,y,q⟩=>by subst x y;rw[zb4];exact zri T i j p q
 tr:=λa b c ⟨i,x,p⟩ ⟨j,y,q⟩ ⟨k,z,r⟩ h1 h2=>by subst x y z;rw[dlt]at *;exact zrk T i j k p q r h1 h2
 tot:=λa b ⟨i,x,p⟩ ⟨j,y,q⟩=>by
  subst x y;rw[dlt,dlt];rcases zlo T i j p q with z|z
  ·exact .inl (by rw[z])
  ·exact .inr z
 as:=λa b ⟨i,x,p⟩ ⟨j,y,q⟩ h=>by subst x y;rw[dlt]at *;exact zrj T i j p q h
theorem zlp{C:Nat->D->Prop}(T:∀i,TotD (C i)):TotD (z1k C) where
 eq:=λa b ⟨i,x,p⟩ ⟨j,y,q⟩=>by subst x y;rw[deq,zm8 T i j p q];simp
 ok:=λa b ⟨i,x,p⟩ ⟨j,y,q⟩=>by subst x y;rw[zb4];exact zri T i j p q
 tr:=λa b c ⟨i,x,p⟩ ⟨j,y,q⟩ ⟨k,z,r⟩ h1 h2=>by subst x y z;rw[dlt]at *;exact zrk T i j k p q r h1 h2
 tot:=λa b ⟨i,x,p⟩ ⟨j,y,q⟩=>by
  subst x y;rw[dlt,dlt];rcases zlo T i j p q with z|z
  ·exact .inl (by rw[z])
  ·exact .inr z
 as:=λa b ⟨i,x,p⟩ ⟨j,y,q⟩ h=>by subst x y;rw[dlt]at *;exact zrj T i j p q h
theorem zrl{C:D->Prop}:∀{ds:List D},(∀d∈ds,C d)->Fam (λ_=>C) ds
 |[],_=>jg
 |d::r,h=>⟨h d xa,zrl λe he=>h e (ja _ he)⟩
end L2
namespace K16
open PySem L2
noncomputable def f_q18:Rho->Out :=
  (zaw (zfm 3 (lOk aN))
  (zaw (zbn 4 (zal 2))
  (zaw (zbn 5 (eC (.int 0)))
  (zaw (zdz (iE (zal 0)) (gN 6) (zaw (sIf (zed (tE (e2 gGt (zaa 5) (eC (.int 0)))) (bOr (tE (zal 6)) (tE (e2 gGe (zaa 5) (zaa 1))))) (zaw (zbn 4 (e2 zbm (zaa 4) (eC (.int 1))))
  (zbn 5 (eC (.int 0)))) zbd)
  (zaw (zbn 5 (e2 zbm (zaa 5) (eC (.int 1))))
  (zd7 3 (zal 4)))))
  (zgu 3 (zb7 (zal 3)))))))
noncomputable def zlq:List D->Option D:=fnR 3 7 f_q18
noncomputable def f_q17:Rho->Out :=
  (zaw (sIf (tE (e2 zbq (eC (.str [124])) (zaa 0))) (zb7 (zal 0)) zbd)
  (zaw (zbn 1 (eM "str" zjt (zaa 0) (aC (eC (.str [124])) aN)))
  (zb7 (e2 zbm (e2 zbm (eSl (zaa 0) (oS (e2 zbm (zaa 1) (eC (.int 1)))) oN) (eC (.str [44,32]))) (eSl (zaa 0) oN (oS (zaa 1)))))))
noncomputable def zg4:List D->Option D:=fnR 1 2 f_q17
noncomputable def f_q15:Rho->Out :=
  (zb7 (eM "str" zeo (eM "str" zqd (eC (.str [])) (aC (eL (zcf 1 [] (iE (zao 1 zg4 (aC (zal 0) aN))) (gN 0) (tE (e2 zjs (zaa 0) (eC (.str LF)))) (zal 0))) aN)) aN))
noncomputable def zj8:List D->Option D:=fnR 1 1 f_q15
noncomputable def f_q1a:Rho->Out :=
  (zb7 (eL (zcf 1 [] (iE (zaa 0)) (gN 0) (λ_=>some true) (eN zbb (aC (zao 1 zj8 (aC (zal 0) aN)) (aC (zao 1 zg4 (aC (zal 0) aN)) aN))))))
noncomputable def zdw:List D->Option D:=fnR 1 1 f_q1a
noncomputable def f_q19:Rho->Out :=
  (zb7 (zgj gLe gLe ydj (eC (.int 0)) (e2 gIx (zaa 0) (eC (.int 1))) (e2 gIx (zaa 0) (eC (.int 2))) (zaa 1)))
noncomputable def zcl:List D->Option D:=fnR 2 2 f_q19
noncomputable def f_q14:Rho->Out :=
  (zb7 (eN zmf (aC (eN zzz (aC (zaa 0) aN)) aN)))
noncomputable def zj9:List D->Option D:=fnR 1 1 f_q14
noncomputable def f_qd:Rho->Out :=
  (zb7 (eN zbb (aC (zao 1 zdw (aC (e2 gIx (zaa 0) (eC (.int 0))) aN)) (aC (e2 gIx (zaa 0) (eC (.int 1))) (aC (e2 gIx (zaa 0) (eC (.int 2))) (aC (e2 gIx (zaa 0) (eC (.int 3))) aN))))))
noncomputable def zee:List D->Option D:=fnR 1 1 f_qd
noncomputable def f_q16:Rho->Out :=
  (zq7 1 (zsw (iE (zal 0)) (gN 2) (zsw (iE (zal 2)) (gT 4 (gTC (gN 3) (gTC (gN 4) (gTC (gN 5) (gTC (gN 6) gT0))))) (zq5 [2,0,0,1] (eN zbb (aC (zao 1 zj9 (aC (zal 3) aN)) (aC (zal 4) (aC (zal 5) (aC (zal 6) aN)))))))) zee)
noncomputable def zfl:List D->Option (List D):=fnW 1 7 f_q16
noncomputable def f_q11:Rho->Out :=
  (zb7 (eT (zed (tE (e2 zdh (e2 zbm (e2 gIx (zaa 0) (eC (.int 1))) (eC (.int 1))) (zaa 1))) (tE (e2 zdh (e2 gIx (zaa 0) (eC (.int 2))) (zaa 2))))))
noncomputable def zim:List D->Option D:=fnR 3 3 f_q11
noncomputable def f_q0:Rho->Out :=
  (zaw (yb6 2 (.dk [] []))
  (zaw (zdz (iE (zal 1)) (gT 4 (gTC (gN 3) (gTC (gN 4) (gTC (gN 5) (gTC (gN 6) gT0))))) (zdz (iE (eSl (zaa 0) (oS (zaa 4)) (oS (e2 zbm (zaa 5) (eC (.int 1)))))) (gN 7) (zoa 2 (zaa 7) (eT (bOr (tE (zal 6)) (tE (zgd (zaa 2) (zaa 7) (eC (.bl false)))))))))
  (z0r 2 (zb7 (zal 2)))))
noncomputable def z1m:List D->Option D:=fnR 2 8 f_q0
noncomputable def f_qb:Rho->Out :=
  (zaw (zbn 2 (zao 2 z1m (aC (zal 0) (aC (zal 1) aN))))
  (zaw (zfm 3 (lOk aN))
  (zaw (zdz (iE (eL (wN zjy (aC (zaa 2) aN)))) (gN 4) (sIf (zed (tE (e2 gGt (eN zct (aC (zaa 3) aN)) (eC (.int 0)))) (tE (zao 3 zim (aC (e2 gIx (zaa 3) (e1 zt1 (eC (.int 1)))) (aC (zal 4) (aC (e2 zlk (zaa 2) (zaa 4)) aN)))))) (zoc 3 (e1 zt1 (eC (.int 1))) (eN zbb (aC (e2 gIx (e2 gIx (zaa 3) (e1 zt1 (eC (.int 1)))) (eC (.int 0))) (aC (zal 4) (aC (e2 zlk (zaa 2) (zaa 4)) aN))))) (zd7 3 (eN zbb (aC (zal 4) (aC (zal 4) (aC (e2 zlk (zaa 2) (zaa 4)) aN)))))))
  (zgu 3 (zb7 (zal 3))))))
noncomputable def z1n:List D->Option D:=fnR 2 5 f_qb
noncomputable def f_q1:Rho->Out :=
  (z6f 1 (zxi (iE (zal 0)) (gN 2) (zoh (z74 3 (e2 gIx (zaa 2) (eC (.int 0))))
  (zoh (zxi (iR zwz (aC (eC (.int 1)) (aC (eN zct (aC (zaa 3) aN)) aN))) (gN 4) (gSd (eSl (zaa 3) oN (oS (zaa 4)))))
  (gSa (zaa 3) (zal 2))))))
noncomputable def z1o:List D->Option D:=fnR 1 5 f_q1
noncomputable def f_q3:Rho->Out :=
  (zdz (iE (zal 0)) (gN 2) (sIf (zc9 (tE (zao 2 zcl (aC (zal 2) (aC (zal 1) aN))))) z58 zbd))
noncomputable def zsx:List D->Option D:=fnR 2 3 f_q3
noncomputable def ycc:Rho->Option D :=
  (z45 (iE (zal 0)) (gN 2) (sIf (zc9 (tE (zao 2 zcl (aC (zal 2) (aC (zal 1) aN))))) z58 zbd) (xIf (zc9 (tE (zao 2 zcl (aC (zal 2) (aC (zal 1) aN))))) (xRs "OutOfBook" ["path","first","last"] (aC (e2 gIx (zaa 2) (eC (.int 0))) (aC (e2 gIx (zaa 2) (eC (.int 1))) (aC (e2 gIx (zaa 2) (eC (.int 2))) aN)))) xNo))
noncomputable def z6n:List D->Option D:=fnE 2 3 ycc
noncomputable def f_q13:Rho->Out :=
  (zaw (zbn 4 (eL (zcv 1 zfl (aC (eN zbc (aC (zal 3) aN)) aN))))
  (zaw (zc3 (zao 2 zsx (aC (zal 4) (aC (eN zct (aC (zaa 0) aN)) aN))))
  (zaw (zbn 5 (zao 3 zlq (aC (zal 0) (aC (zal 1) (aC (zal 2) aN)))))
  (zaw (zbn 6 (zao 1 z1o (aC (zal 4) aN)))
  (zb7 (eL (zcf 1 [5,6] (iE (eL (zxg zdw (zaa 6)))) (gN 0) (λ_=>some true) (eN zbb (aC (zal 0) (aC (zao 2 z1n (aC (zal 1) (aC (e2 zlk (zaa 2) (zaa 0)) aN))) aN))))))))))
noncomputable def zg5:List D->Option D:=fnR 4 7 f_q13
noncomputable def z6o:Rho->Option D :=
  (xSq (zbn 4 (eL (zcv 1 zfl (aC (eN zbc (aC (zal 3) aN)) aN)))) xNo
  (z0h 2 z6n (aC (zal 4) (aC (eN zct (aC (zaa 0) aN)) aN))))
noncomputable def zrm:List D->Option D:=fnE 4 7 z6o
noncomputable def f_q7:Rho->Out :=
  (zaw (sIf (tE (e2 gLt (zaa 1) (eN zct (aC (zaa 0) aN)))) (zb7 (e2 gIx (zaa 0) (zaa 1))) zbd)
  (zb7 (eC (.int 0))))
noncomputable def zxk:List D->Option D:=fnR 2 2 f_q7
noncomputable def f_q8:Rho->Out :=
  (zb7 (eT (zed (tE (e1 (z2h "int") (zaa 0))) (tE (eT (zc9 (tE (e1 (z2h "bool") (zaa 0)))))))))
noncomputable def zsy:List D->Option D:=fnR 1 1 f_q8
noncomputable def f_q6:Rho->Out :=
  (zaw (zbn 2 (eC (.str SG)))
  (zaw (zbn 3 (e2 zbm (eC (.int 1)) (e2 zb5 (e2 zbm (zaa 0) (e2 zcq (zaa 1) (eC (.int 2)))) (eC (.int 4)))))
  (zaw (zbn 4 (e2 zb5 (e2 zcq (zaa 0) (eC (.int 4))) (zaa 3)))
  (zaw (zbn 5 (e2 zb5 (e2 zbm (e2 zcq (zaa 0) (eC (.int 16))) (zaa 1)) (eC (.int 4))))
  (zaw (zbn 6 (eC (.str [])))
  (zaw (zbn 7 (eC (.str [])))
  (zaw (zdz (iR zz5 (aC (zaa 3) aN)) (gN 8) (zaw (zbn 9 (e2 zbm (e2 zbm (e2 zcq (zaa 0) (e2 zbm (zaa 8) (eC (.int 3)))) (e2 zce (zaa 8) (zaa 8))) (e2 zce (e2 zce (zaa 1) (eN zws (aC (e2 zdh (zaa 8) (zaa 4)) aN))) (e2 gIx (eN zbc (aC (eC (.int 1)) (aC (eC (.int 26)) (aC (eC (.int 1)) (aC (eC (.int 5)) aN))))) (zaa 5)))))
  (zaw (zbn 6 (e2 zbm (zaa 6) (e2 gIx (zaa 2) (e2 zb5 (zaa 9) (eC (.int 63))))))
  (zbn 7 (e2 zbm (zaa 7) (e2 gIx (zaa 2) (e2 zb5 (e2 zbm (e2 zcq (zaa 0) (e2 zbm (zaa 8) (eC (.int 5)))) (e2 zce (zaa 8) (eC (.int 11)))) (eC (.int 63)))))))))
  (zaw (sIf (tE (e2 zdh (zaa 5) (eC (.int 0)))) (zb7 (zal 6)) zbd)
  (zb7 (e2 zbm (e2 zbm (zaa 6) (e2 gIx (eN zbc (aC (eC (.str [])) (aC (eC (.str [32])) (aC (eC (.str [124])) (aC (eC (.str [124])) aN))))) (zaa 5))) (e2 gIx (eN zbc (aC (eC (.str [])) (aC (zal 7) (aC (zal 7) (aC (eC (.str [100,32,86,111])) aN))))) (zaa 5))))))))))))
noncomputable def zsz:List D->Option D:=fnR 2 10 f_q6
noncomputable def f_q4:Rho->Out :=
  (zaw (zfm 2 (lOk aN))
  (zaw (zdz (iR zz5 (aC (e2 gIx (eN zbc (aC (eC (.int 1)) (aC (eC (.int 1)) (aC (eC (.int 2)) (aC (eC (.int 2)) (aC (eC (.int 3)) (aC (eC (.int 6)) aN))))))) (e2 zb5 (zaa 0) (eC (.int 6)))) aN)) (gN 3) (zd7 2 (zao 2 zsz (aC (zal 1) (aC (e2 zbm (e2 zb5 (e2 zcq (zaa 0) (e2 zbm (eC (.int 6)) (e2 zce (zaa 3) (zaa 3)))) (eC (.int 4))) (e2 zce (eC (.int 4)) (e2 zb5 (zaa 3) (eC (.int 3))))) aN)))))
  (zb7 (eN zmf (aC (zaa 2) aN)))))
noncomputable def zs0:List D->Option D:=fnR 2 4 f_q4
noncomputable def f_qa:Rho->Out :=
  (zaw (zh9 (gT 3 (gTC (gN 1) (gTC (gN 2) (gTC (gN 3) gT0)))) (eM "str" zcu (zaa 0) (aC (eC (.str [124])) aN)))
  (zaw (sIf (tE (e2 zdh (zaa 2) (eC (.str [])))) (zb7 (zal 0)) zbd)
  (zb7 (e2 zbm (e2 zbm (zaa 3) (eC (.str [44,32]))) (zaa 1)))))
noncomputable def zoq:List D->Option D:=fnR 1 4 f_qa
noncomputable def f_qe:Rho->Out :=
  (zaw (zfm 1 (lOk aN))
  (zaw (zdz (iE (zal 0)) (gN 2) (zaw (zbn 3 (eC (.str [])))
  (zaw (zdz (iE (zao 1 zoq (aC (zal 2) aN))) (gN 4) (sIf (tE (eM "str" zdp (zaa 4) aN)) (zbn 3 (e2 zbm (zaa 3) (eM "str" zeo (zaa 4) aN))) zbd))
  (zd7 1 (eN zbb (aC (zal 3) (aC (zao 1 zoq (aC (zal 2) aN)) aN)))))))
  (zgu 1 (zb7 (zal 1)))))
noncomputable def zxl:List D->Option D:=fnR 1 5 f_qe
noncomputable def f_qf:Rho->Out :=
  (zb7 (eL (zcf 1 [] (iE (zaa 0)) (gN 0) (λ_=>some true) (e2 zdh (e2 zb5 (zaa 0) (eC (.int 7))) (eC (.int 3))))))
noncomputable def z1p:List D->Option D:=fnR 1 1 f_qf
noncomputable def f_q2:Rho->Out :=
  (zaw (zbn 1 (e2 gIx (eN zbc (aC (e2 zbm (eC (.int 1)) (e2 zb5 (zaa 0) (eC (.int 5)))) (aC (e2 zbm (eC (.int 1)) (e2 zb5 (e2 zce (zaa 0) (eC (.int 48271))) (e2 zoo (eC (.int 10)) (eC (.int 59))))) aN))) (eN zws (aC (e2 zdh (e2 zb5 (e2 zcq (zaa 0) (eC (.int 5))) (eC (.int 7))) (eC (.int 0))) aN))))
  (zb7 (eN zbb (aC (zal 1) (aC (e2 gIx (eN zbc (aC (e2 zb5 (e2 zcq (zaa 0) (eC (.int 35))) (eC (.int 9))) (aC (e2 zb5 (e2 zce (zaa 0) (eC (.int 982451653))) (e2 zf8 (e2 zoo (eC (.int 10)) (eC (.int 60))) (eC (.int 2000)))) aN))) (e2 zb5 (e2 zcq (zaa 0) (eC (.int 7))) (eC (.int 2)))) aN)))))
noncomputable def zu6:List D->Option D:=fnR 1 2 f_q2
noncomputable def f_qc:Rho->Out :=
  (zaw (zfm 3 (lOk aN))
  (zaw (zdz (iE (zal 0)) (gN 4) (sIf (tE (e2 gGt (zaa 2) (eC (.int 0)))) (zaw (zbn 5 (e2 zb5 (e2 zcq (zaa 4) (eC (.int 7))) (zaa 2)))
  (zaw (zbn 6 (eN z4r (aC (e2 zf8 (zaa 2) (eC (.int 1))) (aC (e2 zbm (zaa 5) (e2 gIx (eN zbc (aC (eC (.int 0)) (aC (eC (.int 0)) (aC (eC (.int 1)) (aC (eC (.int 3)) (aC (e2 zb5 (e2 zcq (zaa 4) (eC (.int 49))) (eC (.int 40))) aN)))))) (e2 zb5 (e2 zcq (zaa 4) (eC (.int 3))) (eC (.int 5))))) aN))))
  (zd7 3 (eN zbb (aC (zao 2 zs0 (aC (e2 zcq (zaa 4) (eC (.int 2))) (aC (zal 1) aN))) (aC (zal 5) (aC (zal 6) (aC (e2 zdh (e2 zb5 (e2 zcq (zaa 4) (eC (.int 11))) (eC (.int 3))) (eC (.int 0))) aN)))))))) zbd))
  (zdu 3)))
noncomputable def z1q:List D->Option (List D):=fnW 3 7 f_qc
noncomputable def f_q9:Rho->Out :=
  (zaw (zbn 1 (eN zbc (aC (e1 (zkr "OutOfBook") (zal 0)) (aC (e1 (zkr "SentHere") (zal 0)) (aC (e1 (zkr "Both") (zal 0)) (aC (e1 (zkr "TwoWays") (zal 0)) aN))))))
  (zaw (zbn 1 (e2 zbm (zaa 1) (eN zbc (aC (e1 (zkr "Ring") (zal 0)) (aC (e1 (zkr "Nowhere") (zal 0)) (aC (e1 (zkr "NoRow") (zal 0)) aN))))))
  (zaw (zbn 1 (e2 zbm (zaa 1) (eN zbc (aC (e1 (zkr "NoMark") (zal 0)) (aC (e1 (zkr "NoText") (zal 0)) aN)))))
  (zb7 (eT (zed (tE (e2 zdh (eM "list" z75 (zaa 1) (aC (eC (.bl true)) aN)) (eC (.int 1)))) (tE (eT (zed (tE (e1 yax (zal 0))) (tE (e1 yac (zal 0))))))))))))
noncomputable def zxm:List D->Option D:=fnR 1 2 f_q9
noncomputable def f_q12:Rho->Out :=
  (zaw (zbn 3 (e2 zb5 (e2 zcq (zaa 0) (eC (.int 5))) (e2 zbm (zaa 2) (eC (.int 1)))))
  (zaw (zbn 4 (e2 zb5 (e2 zce (zaa 0) (eC (.int 48271))) (e2 zoo (eC (.int 10)) (eC (.int 59)))))
  (zaw (zbn 5 (eN zbc (aC (eN zbb (aC (zal 3) (aC (zal 2) aN))) (aC (eN zbb (aC (e2 zf8 (eC (.int 0)) (eC (.int 1))) (aC (zal 3) aN))) (aC (eN zbb (aC (e2 zbm (zaa 3) (eC (.int 1))) (aC (zal 3) aN))) (aC (eN zbb (aC (eC (.int 0)) (aC (e2 zbm (zaa 2) (zaa 4)) aN))) (aC (eN zbb (aC (e2 zf8 (e2 zf8 (eC (.int 0)) (eC (.int 1))) (zaa 4)) (aC (e2 zf8 (eC (.int 0)) (eC (.int 1))) aN))) (aC (eN zbb (aC (zal 2) (aC (zal 2) aN))) aN))))))))
  (zaw (zh9 (gT 2 (gTC (gN 6) (gTC (gN 7) gT0))) (e2 gIx (zaa 5) (e2 zb5 (zaa 0) (eC (.int 6)))))
  (zb7 (eN zbb (aC (zao 2 zs0 (aC (e2 zcq (zaa 0) (eC (.int 6))) (aC (zal 1) aN))) (aC (zal 6) (aC (zal 7) (aC (e2 zdh (e2 zb5 (e2 zcq (zaa 0) (eC (.int 3))) (eC (.int 2))) (eC (.int 0))) aN))))))))))
noncomputable def zka:List D->Option D:=fnR 3 8 f_q12
noncomputable def f_q10:Rho->Out :=
  (zaw (zbn 3 (eC .non))
  (zaw (zqm 3 4 4 zg5 zrm (aC (zal 0) (aC (e2 gIx (zaa 1) (eC (.int 0))) (aC (e2 gIx (zaa 1) (eC (.int 1))) (aC (zal 2) aN)))))
  (zb7 (zal 3))))
noncomputable def zg6:List D->Option D:=fnR 3 5 f_q10
noncomputable def f_q5:Rho->Out :=
  (zaw (sIf (bOr (zc9 (tE (e1 (zkr "OutOfBook") (zal 0)))) (zc9 (tE (zao 1 zxm (aC (zal 0) aN))))) (zb7 (eC (.bl false))) zbd)
  (zaw (sIf (bOr (zc9 (tE (e1 (z2h "tuple") (e1 (gAt "path") (zal 0))))) (bOr (zc9 (tE (zao 1 zsy (aC (e1 (gAt "first") (zal 0)) aN)))) (zc9 (tE (zao 1 zsy (aC (e1 (gAt "last") (zal 0)) aN)))))) (zb7 (eC (.bl false))) zbd)
  (zaw (zbn 2 (eL (zcf 1 [] (iE (zaa 1)) (gN 0) (λ _=>some true) (eN zbb (aC (zao 1 zxl (aC (e2 gIx (zaa 0) (eC (.int 0))) aN)) (aC (e2 gIx (zaa 0) (eC (.int 1))) (aC (e2 gIx (zaa 0) (eC (.int 2))) (aC (e2 gIx (zaa 0) (eC (.int 3))) aN))))))))
  (zaw (zbn 3 (e2 gIx (zaa 1) (eM "list" z6i (zaa 2) (aC (eN zq9 (aC (zaa 2) aN)) aN))))
  (zb7 (e2 zdh (eN zbb (aC (e1 (gAt "path") (zal 0)) (aC (e1 (gAt "first") (zal 0)) (aC (e1 (gAt "last") (zal 0)) aN)))) (eSl (zaa 3) oN (oS (eC (.int 3))))))))))
noncomputable def zxn:List D->Option D:=fnR 2 4 f_q5
noncomputable def f_q1b:Rho->Out :=
  (zaw (zbn 1 (zao 2 zxk (aC (zal 0) (aC (eC (.int 0)) aN))))
  (zaw (zbn 2 (zao 2 zxk (aC (zal 0) (aC (eC (.int 1)) aN))))
  (zaw (zbn 3 (zao 1 z1p (aC (eSl (zaa 0) (oS (eC (.int 2))) (oS (eC (.int 302)))) aN)))
  (zaw (zbn 4 (eL (zcv 3 z1q (aC (eSl (zaa 0) (oS (eC (.int 2))) (oS (eC (.int 20)))) (aC (zal 2) (aC (eN zct (aC (zaa 3) aN)) aN))))))
  (zaw (zfm 5 (lOk aN))
  (zaw (zdz (iR zz5 (aC (e2 zbm (eC (.int 1)) (e2 zb5 (zaa 1) (eC (.int 3)))) aN)) (gN 6) (zd7 5 (zao 3 zka (aC (e2 zbm (eN z7z (aC (e2 zcq (zaa 1) (e2 zbm (eC (.int 3)) (zaa 6))) aN)) (zaa 6)) (aC (zal 2) (aC (eN zct (aC (zaa 3) aN)) aN))))))
  (zaw (zdz (iE (zal 4)) (gN 7) (sIf (tE (e2 zeb (zao 2 zcl (aC (zal 7) (aC (eN zct (aC (zaa 3) aN)) aN))) (eC (.bl true)))) (zb7 (eC (.bl false))) zbd))
  (zaw (zfm 8 (wN zkq (aC (zaa 4) aN)))
  (zgu 5 (zaw (zdz (iE (zal 5)) (gN 7) (zaw (sIf (tE (e2 zeb (zao 2 zcl (aC (zal 7) (aC (eN zct (aC (zaa 3) aN)) aN))) (eC (.bl false)))) (zb7 (eC (.bl false))) zbd)
  (zog 8 (e2 zb5 (e2 zcq (zaa 1) (eC (.int 5))) (e2 zbm (eN zct (aC (zaa 8) aN)) (eC (.int 1)))) (zal 7))))
  (zgu 8 (zaw (sIf (zc9 (tE (zao 2 zxn (aC (zao 3 zg6 (aC (zal 3) (aC (zao 1 zu6 (aC (zal 1) aN)) (aC (zal 8) aN)))) (aC (zal 5) aN))))) (zb7 (eC (.bl false))) zbd)
  (zaw (sIf (tE (e2 zqj (zao 3 zg6 (aC (zal 3) (aC (zao 1 zu6 (aC (zal 1) aN)) (aC (zal 4) aN)))) (eC .non))) (zb7 (eC (.bl false))) zbd)
  (zb7 (zao 2 zxn (aC (zao 3 zg6 (aC (zal 3) (aC (zao 1 zu6 (aC (zal 1) aN)) (aC (eL (wN z72 (aC (zaa 8) aN))) aN)))) (aC (zal 5) aN)))))))))))))))))
noncomputable def zin:List D->Option D:=fnR 1 9 f_q1b
end K16
namespace K16
open PySem L2
open PyProof.Rows (lo1)
theorem zkb(p:Int)(n:Nat):zmj p (n+1)=.int p::zmj (p+1) n:=by
 unfold zmj;rw[oo,da,zd];refine congr (ef _ ?_) (og λk _=>?_)
 ·show D.int (p+((0:Nat):Int))=_;rw[show p+((0:Nat):Int)=p by omega]
 ·show D.int (p+((k+1:Nat):Int))=_;rw[show p+((k+1:Nat):Int)=p+1+(k:Int) by omega]
noncomputable def zau(l:List Nat):List Nat:=if 124∈l then l.drop (zcs 124 l+1)++[44,32]++l.take (zcs 124 l) else l
theorem zm9(l:List Nat)(h:l.length<=1000):zg4 [.str l]=some (.str (zau l)):=by
 unfold zg4 f_q17 zau;have hz:l.length<=sizeLine:=sz (by omega);by_cases hc:124∈l
 ·have hi:=zk5 124 l hc
  have e1:zbm (D.int (zcs 124 l)) (D.int 1)=some (.int ((zcs 124 l+1:Nat):Int)):=rfl;simp only[fnR,fnW,zdr,zaw,sIf,zbn,zfm,zh9,zc3,zb7,ze5,zdu,ze6,zd7,zgu,zdz,zbd,eC,zal,zaa,L2.e1,L2.e2,eN,aN,aC,tE,zed,bOr,zc9,eT,eSl,oN,oS,toI,toB,eM,tyN,zao,zcw,zcv,eL,lOk,wN,zkq,zcf,zc2,iE,iR,gN,gT,gTC,gT0,zjs,zbq,zdh,gII,zf7,zct,zbc,zbb,da,qe,bb,vc,ge,ke,List.replicate,cg,Nat.reduceAdd,Nat.reduceSub,Nat.reduceLeDiff,re,vd,yd,bc,lb,za,ue,je,bf,ve,la,ui,qh,reduceIte,jf,tf,yb,reduceCtorEq,zb,za9,itD,yae,hc,nu,z0m 124 l hc,e1,zuh l _ hz hi,z5c l _ hz];rw[ze8 _ _ (sz (by simp;omega))];simp only[fnR,fnW,zdr,zaw,sIf,zbn,zfm,zh9,zc3,zb7,ze5,zdu,ze6,zd7,zgu,zdz,zbd,eC,zal,zaa,L2.e1,L2.e2,eN,aN,aC,tE,zed,bOr,zc9,eT,eSl,oN,oS,toI,toB,eM,tyN,zao,zcw,zcv,eL,lOk,wN,zkq,zcf,zc2,iE,iR,gN,gT,gTC,gT0,zjs,zbq,zdh,gII,zf7,zct,zbc,zbb,da,qe,bb,vc,ge,ke,List.replicate,cg,Nat.reduceAdd,Nat.reduceSub,Nat.reduceLeDiff,re,vd,yd,bc,lb,za,ue,je,bf,ve,la,ui,qh,reduceIte,jf,tf,yb,reduceCtorEq,zb,za9,itD];rw[ze8 _ _ (sz (by simp;omega))]
 ·simp only[fnR,fnW,zdr,zaw,sIf,zbn,zfm,zh9,zc3,zb7,ze5,zdu,ze6,zd7,zgu,zdz,zbd,eC,zal,zaa,L2.e1,L2.e2,eN,aN,aC,tE,zed,bOr,zc9,eT,eSl,oN,oS,toI,toB,eM,tyN,zao,zcw,zcv,eL,lOk,wN,zkq,zcf,zc2,iE,iR,gN,gT,gTC,gT0,zjs,zbq,zdh,gII,zf7,zct,zbc,zbb,da,qe,bb,vc,ge,ke,List.replicate,cg,Nat.reduceAdd,Nat.reduceSub,Nat.reduceLeDiff,re,vd,yd,bc,lb,za,ue,je,bf,ve,la,ui,qh,reduceIte,jf,tf,yb,reduceCtorEq,zb,za9,itD,yae,hc,xo]
theorem zgm(l:List Nat)(h:l.length<=1000):zoq [.str l]=some (.str (zau l)):=by
 unfold zoq f_qa zau;have hz:l.length<=sizeLine:=sz (by omega);by_cases hc:124∈l
 ·have hi:=zk5 124 l hc
  have e1:zn7 124 l=[.str (l.take (zcs 124 l)),.str [124],.str (l.drop (zcs 124 l+1))]:=la hc;simp only[fnR,fnW,zdr,zaw,sIf,zbn,zfm,zh9,zc3,zb7,ze5,zdu,ze6,zd7,zgu,zdz,zbd,eC,zal,zaa,L2.e1,L2.e2,eN,aN,aC,tE,zed,bOr,zc9,eT,eSl,oN,oS,toI,toB,eM,tyN,zao,zcw,zcv,eL,lOk,wN,zkq,zcf,zc2,iE,iR,gN,gT,gTC,gT0,zjs,zbq,zdh,gII,zf7,zct,zbc,zbb,da,qe,bb,vc,ge,ke,List.replicate,cg,Nat.reduceAdd,Nat.reduceSub,Nat.reduceLeDiff,re,vd,yd,bc,lb,za,ue,je,bf,ve,la,ui,qh,reduceIte,jf,tf,yb,reduceCtorEq,zb,za9,itD,zw7 124 l hz,e1,hc,zw9,xo];rw[ze8 _ _ (sz (by simp;omega))];simp only[fnR,fnW,zdr,zaw,sIf,zbn,zfm,zh9,zc3,zb7,ze5,zdu,ze6,zd7,zgu,zdz,zbd,eC,zal,zaa,L2.e1,L2.e2,eN,aN,aC,tE,zed,bOr,zc9,eT,eSl,oN,oS,toI,toB,eM,tyN,zao,zcw,zcv,eL,lOk,wN,zkq,zcf,zc2,iE,iR,gN,gT,gTC,gT0,zjs,zbq,zdh,gII,zf7,zct,zbc,zbb,da,qe,bb,vc,ge,ke,List.replicate,cg,Nat.reduceAdd,Nat.reduceSub,Nat.reduceLeDiff,re,vd,yd,bc,lb,za,ue,je,bf,ve,la,ui,qh,reduceIte,jf,tf,yb,reduceCtorEq,zb,za9,itD];rw[ze8 _ _ (sz (by simp;omega))]
 ·have e1:zn7 124 l=[.str l,.str [],.str []]:=wa hc
  simp only[fnR,fnW,zdr,zaw,sIf,zbn,zfm,zh9,zc3,zb7,ze5,zdu,ze6,zd7,zgu,zdz,zbd,eC,zal,zaa,L2.e1,L2.e2,eN,aN,aC,tE,zed,bOr,zc9,eT,eSl,oN,oS,toI,toB,eM,tyN,zao,zcw,zcv,eL,lOk,wN,zkq,zcf,zc2,iE,iR,gN,gT,gTC,gT0,zjs,zbq,zdh,gII,zf7,zct,zbc,zbb,da,qe,bb,vc,ge,ke,List.replicate,cg,Nat.reduceAdd,Nat.reduceSub,Nat.reduceLeDiff,re,vd,yd,bc,lb,za,ue,je,bf,ve,la,ui,qh,reduceIte,jf,tf,yb,reduceCtorEq,zb,za9,itD,zw7 124 l hz,e1,hc,zw9,nu]
def asc(l:List Nat):Prop:=∀c∈l,c<128
theorem zkc{l:List Nat}(h:asc l):asc (zau l):=by
 unfold zau;split
 ·intro c hc
  simp only[gc]at hc;rcases hc with(hc|hc)|hc
  ·exact h c (lj hc)
  ·simp at hc;omega
  ·exact h c (el hc)
 ·exact h
theorem zkd{l:List Nat}:(zau l).length<=l.length+2:=by
 unfold zau;split
 ·simp;omega
 ·omega
noncomputable def zi0(l:List Nat):List Nat:=((zau l).filter λc=>decide (c∈LF)).map lo1
theorem ya1(l:List Nat):((l.map λc=>[c]).map List.length).sum=l.length:=by
 induction l with
 |nil=>rfl
 |cons a r ih=>simp only[da,List.sum_cons,ih,bb,vc];omega
theorem ya2(l:List Nat):(l.map λc=>[c]).flatten=l:=by
 induction l with
 |nil=>rfl
 |cons a r ih=>simp[ih]
theorem z6p(l:List Nat)(ha:asc l)(h:l.length<=1000):zj8 [.str l]=some (.str (zi0 l)):=by
 unfold zj8 f_q15 zi0;have hs:=zkd (l:=l)
 have hcomp:zd6 (gN 0) (tE (e2 zjs (zaa 0) (eC (.str LF)))) (zal 0) [none] ((zau l).map λc=>.str [c])=some (((zau l).filter λc=>decide (c∈LF)).map λc=>D.str [c]) :=
  zga (λc=>D.str [c]) (λc=>decide (c∈LF)) (λc=>D.str [c]) (zau l) λc hc=>⟨_,rfl,by simp only[fnR,fnW,zdr,zaw,sIf,zbn,zfm,zh9,zc3,zb7,ze5,zdu,ze6,zd7,zgu,zdz,zbd,eC,zal,zaa,L2.e1,L2.e2,eN,aN,aC,tE,zed,bOr,zc9,eT,eSl,oN,oS,toI,toB,eM,tyN,zao,zcw,zcv,eL,lOk,wN,zkq,zcf,zc2,iE,iR,gN,gT,gTC,gT0,zjs,zbq,zdh,gII,zf7,zct,zbc,zbb,da,qe,bb,vc,ge,ke,List.replicate,cg,Nat.reduceAdd,Nat.reduceSub,Nat.reduceLeDiff,re,vd,yd,bc,lb,za,ue,je,bf,ve,la,ui,qh,reduceIte,jf,tf,yb,reduceCtorEq,zb,za9,itD,yae],λ_=>by simp only[fnR,fnW,zdr,zaw,sIf,zbn,zfm,zh9,zc3,zb7,ze5,zdu,ze6,zd7,zgu,zdz,zbd,eC,zal,zaa,L2.e1,L2.e2,eN,aN,aC,tE,zed,bOr,zc9,eT,eSl,oN,oS,toI,toB,eM,tyN,zao,zcw,zcv,eL,lOk,wN,zkq,zcf,zc2,iE,iR,gN,gT,gTC,gT0,zjs,zbq,zdh,gII,zf7,zct,zbc,zbb,da,qe,bb,vc,ge,ke,List.replicate,cg,Nat.reduceAdd,Nat.reduceSub,Nat.reduceLeDiff,re,vd,yd,bc,lb,za,ue,je,bf,ve,la,ui,qh,reduceIte,jf,tf,yb,reduceCtorEq,zb,za9,itD]⟩
 have hf:((zau l).filter λc=>decide (c∈LF)).length<=l.length+2:=ed (xp _ _) hs;simp only[fnR,fnW,zdr,zaw,sIf,zbn,zfm,zh9,zc3,zb7,ze5,zdu,ze6,zd7,zgu,zdz,zbd,eC,zal,zaa,L2.e1,L2.e2,eN,aN,aC,tE,zed,bOr,zc9,eT,eSl,oN,oS,toI,toB,eM,tyN,zao,zcw,zcv,eL,lOk,wN,zkq,zcf,zc2,iE,iR,gN,gT,gTC,gT0,zjs,zbq,zdh,gII,zf7,zct,zbc,zbb,da,qe,bb,vc,ge,ke,List.replicate,cg,Nat.reduceAdd,Nat.reduceSub,Nat.reduceLeDiff,re,vd,yd,bc,lb,za,ue,je,bf,ve,la,ui,qh,reduceIte,jf,tf,yb,reduceCtorEq,zb,za9,itD,zm9 l h,ydi,ba,sz (show (zau l).length<=100000 by omega),hcomp];have e:(List.map (λc=>D.str [c]) (List.filter (λc=>decide (c∈LF)) (zau l)))=((List.filter (λc=>decide (c∈LF)) (zau l)).map λc=>[c]).map D.str:=by rw[zd];rfl
 rw[e,z0n,zjo,ya2]
 ·simp only[fnR,fnW,zdr,zaw,sIf,zbn,zfm,zh9,zc3,zb7,ze5,zdu,ze6,zd7,zgu,zdz,zbd,eC,zal,zaa,L2.e1,L2.e2,eN,aN,aC,tE,zed,bOr,zc9,eT,eSl,oN,oS,toI,toB,eM,tyN,zao,zcw,zcv,eL,lOk,wN,zkq,zcf,zc2,iE,iR,gN,gT,gTC,gT0,zjs,zbq,zdh,gII,zf7,zct,zbc,zbb,da,qe,bb,vc,ge,ke,List.replicate,cg,Nat.reduceAdd,Nat.reduceSub,Nat.reduceLeDiff,re,vd,yd,bc,lb,za,ue,je,bf,ve,la,ui,qh,reduceIte,jf,tf,yb,reduceCtorEq,zb,za9,itD]
  rw[zms]
  ·intro c hc
   exact zkc ha c (bp.mp hc).1
  ·exact sz (by omega)
 ·rw[ya1]
  simp;omega
theorem zrn{c:Nat}(h:c<128):zeo (.sc (.str (S [c]))) []=some (.str [lo1 c]):=zms (l:=[c]) (by simpa using h) (sz (by simp))
noncomputable def zxo(l:List Nat):List Nat:=(l.filter λc=>decide (c∈LF)).map lo1
theorem zu7(l:List Nat):(zxo l).length<=l.length:=by unfold zxo;rw[ba];exact xp _ _
theorem zro:∀c∈SG,c<128/\c≠44/\c≠124/\c≠32:=by decide
theorem zxp:SG.length=63:=rfl
def gd(c:Nat):Prop:=c∈SG\/c=32\/c=124
theorem z6q{c:Nat}(h:gd c):c<128:=by
 rcases h with h|h|h
 ·exact(zro c h).1
 ·omega
 ·omega
theorem ya3{c:Nat}(h:gd c):c≠44:=by
 rcases h with h|h|h
 ·exact(zro c h).2.1
 ·omega
 ·omega
structure GdH(l:List Nat):Prop where
 g:∀c∈l,gd c
 len:l.length<=9
 pos:1<=l.length
theorem z1r(c k:Int)(h0:0<=k)(h1:k<1000):∃l,zsz [.int c,.int k]=some (.str l)/\GdH l:=by
 obtain⟨n,hn⟩:∃n:Nat,1+(c+k / 2) % 4=n:=⟨(1+(c+k / 2) % 4).toNat,by omega⟩
 have hn1:1<=n:=by omega
 have hn2:n<=4:=by omega
 obtain⟨w,hw,hw4⟩:∃w:Nat,(c / 16+k) % 4=w/\w<4:=⟨((c / 16+k) % 4).toNat,by omega,by omega⟩
 have hm:∃m:Int,atI [D.int 1,D.int 26,D.int 1,D.int 5] (w:Int)=some (.int m)/\0<=m/\m<=26:=by
  have:w=0\/w=1\/w=2\/w=3:=by omega
  rcases this with rfl|rfl|rfl|rfl
  ·exact⟨1,rfl,by omega,by omega⟩
  ·exact⟨26,rfl,by omega,by omega⟩
  ·exact⟨1,rfl,by omega,by omega⟩
  ·exact⟨5,rfl,by omega,by omega⟩
 obtain⟨m,hm,m0,m1⟩:=hm;have sgz:SG.length<=sizeLine:=sz (by decide)
 have loop:∃ ρ',zew (gN 8) _ _ _=_/\_:=zfo (λ k:Nat=>D.int k) (g:=gN 8) (f:=(zaw (zbn 9 (e2 zbm (e2 zbm (e2 zcq (zaa 0) (e2 zbm (zaa 8) (eC (.int 3)))) (e2 zce (zaa 8) (zaa 8))) (e2 zce (e2 zce (zaa 1) (eN zws (aC (e2 zdh (zaa 8) (zaa 4)) aN))) (e2 gIx (eN zbc (aC (eC (.int 1)) (aC (eC (.int 26)) (aC (eC (.int 1)) (aC (eC (.int 5)) aN))))) (zaa 5)))))
  (zaw (zbn 6 (e2 zbm (zaa 6) (e2 gIx (zaa 2) (e2 zb5 (zaa 9) (eC (.int 63))))))
  (zbn 7 (e2 zbm (zaa 7) (e2 gIx (zaa 2) (e2 zb5 (e2 zbm (e2 zcq (zaa 0) (e2 zbm (zaa 8) (eC (.int 5)))) (e2 zce (zaa 8) (eC (.int 11)))) (eC (.int 63)))))))))
  (λpre ρ=>∃wd ot x y,ρ=[some (.sh (.int c)),some (.sh (.int k)),some (.sh (.str SG)),some (.sh (.int n)),some (.sh (.int (c / 4 % n))),some (.sh (.int w)),some (.sh (.str wd)),some (.sh (.str ot)),x,y]/\(∀z∈wd,z∈SG)/\(∀z∈ot,z∈SG)/\wd.length=pre.length/\ot.length=pre.length)
  (List.range n) [some (.sh (.int c)),some (.sh (.int k)),some (.sh (.str SG)),some (.sh (.int n)),some (.sh (.int (c / 4 % n))),some (.sh (.int w)),some (.sh (.str [])),some (.sh (.str [])),none,none]
  (λ pre j post ρ e ⟨wd,ot,x,y,hx,a1,a2,l1,l2⟩=>by
   subst hx;have hlen:pre.length+1<=n:=by have:=ef List.length e;simp at this;omega
   have hj:j<n:=lg.mp (by rw[e];simp);obtain⟨b,hb,hb01⟩:∃b:Int,(if decide ((j:Int)=c / 4 % n)=true then (1:Int) else 0)=b/\(b=0\/b=1):=⟨_,rfl,by split <;> simp⟩
   obtain⟨p,hp⟩:∃p:Int,c / ((j:Int)+3)+(j:Int) * j+k * b * m=p:=⟨_,rfl⟩
   obtain⟨c1,hc1,e1⟩:=zxa (xs:=SG) (i:=p % 63) (by omega) (by rw[zxp];omega);obtain⟨c2,hc2,e2⟩:=zxa (xs:=SG) (i:=(c / ((j:Int)+5)+(j:Int) * 11) % 63) (by omega) (by rw[zxp];omega);refine⟨_,[some (.sh (.int c)),some (.sh (.int k)),some (.sh (.str SG)),some (.sh (.int n)),some (.sh (.int (c / 4 % n))),some (.sh (.int w)),some (.sh (.str (wd++[c1]))),some (.sh (.str (ot++[c2]))),some (.sh (.int j)),some (.sh (.int p))],rfl,.inl ?_,_,_,_,_,rfl,?_,?_,by simp[l1],by simp[l2]⟩
   ·have s1:=ze8 wd [c1] (sz (by simp;omega))
    have s2:=ze8 ot [c2] (sz (by simp;omega));refine st (zap (d:=.int p) ?_) (st (zap (zaf rfl (zaf rfl (zaf rfl rfl (zbk (by decide))) (zxb sgz e1)) s1)) (zap (zaf rfl (zaf rfl (zaf (zaf (zaf rfl rfl (zcc (by omega))) (zaf rfl rfl (zeu (zgb (by decide)))) rfl) rfl (zbk (by decide))) (zxb sgz e2)) s2)));rw[<-hp];exact zaf (zaf (zaf rfl rfl (zcc (by omega))) (zaf rfl rfl (zeu (zic (by omega)))) rfl) (zaf (zaf rfl (za1 (ds:=[.bl (decide ((j:Int)=c / 4 % n))]) (by simp only[fnR,fnW,zdr,zaw,sIf,zbn,zfm,zh9,zc3,zb7,ze5,zdu,ze6,zd7,zgu,zdz,zbd,eC,zal,zaa,L2.e1,L2.e2,eN,aN,aC,tE,zed,bOr,zc9,eT,eSl,oN,oS,toI,toB,eM,tyN,zao,zcw,zcv,eL,lOk,wN,zkq,zcf,zc2,iE,iR,gN,gT,gTC,gT0,zjs,zbq,zdh,gII,zf7,zct,zbc,zbb,da,qe,bb,vc,ge,ke,List.replicate,cg,Nat.reduceAdd,Nat.reduceSub,Nat.reduceLeDiff,re,vd,yd,bc,lb,za,ue,je,bf,ve,la,ui,qh,reduceIte,jf,tf,yb,reduceCtorEq,zb,za9,itD,zgc]) (by rw[yb5,hb])) (zeu (zic (by omega)))) (zaf rfl rfl hm) (zeu (zgb (by omega)))) rfl
   ·intro z hz
    rcases gc.mp hz with hz|hz
    ·exact a1 z hz
    ·rw[jb.mp hz];exact hc1
   ·intro z hz
    rcases gc.mp hz with hz|hz
    ·exact a2 z hz
    ·rw[jb.mp hz];exact hc2) ⟨[],[],none,none,rfl,(by intro z hz;cases hz),(by intro z hz;cases hz),rfl,rfl⟩
 obtain⟨ρ',loop,wd,ot,x,y,hx,a1,a2,l1,l2⟩:=loop;subst hx
 have go:∀l,zaw (sIf (tE (e2 zdh (zaa 5) (eC (.int 0)))) (zb7 (zal 6)) zbd)
   (zb7 (e2 zbm (e2 zbm (zaa 6) (e2 gIx (eN zbc (aC (eC (.str [])) (aC (eC (.str [32])) (aC (eC (.str [124])) (aC (eC (.str [124])) aN))))) (zaa 5))) (e2 gIx (eN zbc (aC (eC (.str [])) (aC (zal 7) (aC (zal 7) (aC (eC (.str [100,32,86,111])) aN))))) (zaa 5)))) [some (.sh (.int c)),some (.sh (.int k)),some (.sh (.str SG)),some (.sh (.int n)),some (.sh (.int (c / 4 % n))),some (.sh (.int w)),some (.sh (.str wd)),some (.sh (.str ot)),x,y]=.rt (.str l)->zsz [.int c,.int k]=some (.str l):=by
  intro l hl;refine zbf rfl ?_;refine st rfl (st (ρ':=[some (.sh (.int c)),some (.sh (.int k)),some (.sh (.str SG)),some (.sh (.int n)),none,none,none,none,none,none]) (by rw[<-hn];rfl) (st (zap (d:=.int (c / 4 % n)) (zaf rfl rfl (zbk (by omega)))) (st (ρ':=[some (.sh (.int c)),some (.sh (.int k)),some (.sh (.str SG)),some (.sh (.int n)),some (.sh (.int (c / 4 % n))),some (.sh (.int w)),none,none,none,none]) (by rw[<-hw];rfl) (st rfl (st rfl (st (zb3 (ds:=(List.range n).map λk=>.int ((k:Nat):Int)) ?_ loop) hl))))));exact zuf rfl (zli (n:=n) (j:=(n:Int)) rfl (by omega))
 simp only[xm]at l1 l2;have gs:∀{a:List Nat},(∀z∈a,z∈SG)->∀z∈a,gd z:=λh z hz=>.inl (h z hz)
 have hd:∀z∈[100,32,86,111],gd z:=by
  intro z hz;simp only[pb,nk,su]at hz;rcases hz with rfl|rfl|rfl|rfl
  ·exact .inl (by decide)
  ·exact .inr (.inl rfl)
  ·exact .inl (by decide)
  ·exact .inl (by decide)
 have h32:∀z∈[32],gd z:=by intro z hz;rw[jb.mp hz];exact .inr (.inl rfl)
 have h124:∀z∈[124],gd z:=by intro z hz;rw[jb.mp hz];exact .inr (.inr rfl)
 have cases4:w=0\/w=1\/w=2\/w=3:=by omega
 have app:∀{a b:List Nat},(∀z∈a,gd z)->(∀z∈b,gd z)->∀z∈a++b,gd z:=λ{a b} ha hb z hz=>(gc.mp hz).elim (ha z) (hb z)
 rcases cases4 with rfl|rfl|rfl|rfl
 ·exact⟨wd,go wd (zqn rfl),gs a1,by omega,by omega⟩
 ·exact⟨wd++[32]++ot,go _ (st rfl (za4 (zaf (zaf rfl rfl (ze8 wd [32] (sz (by simp;omega)))) rfl (ze8 _ ot (sz (by simp;omega)))))),app (app (gs a1) h32) (gs a2),by simp;omega,by simp;omega⟩
 ·exact⟨wd++[124]++ot,go _ (st rfl (za4 (zaf (zaf rfl rfl (ze8 wd [124] (sz (by simp;omega)))) rfl (ze8 _ ot (sz (by simp;omega)))))),app (app (gs a1) h124) (gs a2),by simp;omega,by simp;omega⟩
 ·exact⟨wd++[124]++[100,32,86,111],go _ (st rfl (za4 (zaf (zaf rfl rfl (ze8 wd [124] (sz (by simp;omega)))) rfl (ze8 _ [100,32,86,111] (sz (by simp;omega)))))),app (app (gs a1) h124) hd,by simp;omega,by simp⟩
theorem z1s{l:List Nat}(h:GdH l):asc l:=λc hc=>z6q (h.g c hc)
theorem z6r{l:List Nat}(h:GdH l):44 ∉ l:=λhc=>ya3 (h.g 44 hc) rfl
theorem zio{c:Nat}:∀{a r:List Nat},c ∉ a->zcs c (a++c::r)=a.length
 |[],r,_=>by simp[zcs]
 |x::a,r,h=>by
  have hx:¬x=c:=λe=>h (by simp[e])
  have ih:=zio (c:=c) (a:=a) (r:=r) (λz=>h (ja _ z));show (if x=c then 0 else zcs c (a++c::r)+1)=a.length+1;rw[wa hx,ih]
theorem zke{c:Nat}{l:List Nat}(h:c∈l):l=l.take (zcs c l)++c::l.drop (zcs c l+1):=by
 obtain⟨h1,_⟩:=zej c l h;have hlt:=zk5 c l h;have e:=se hlt
 have e2:l[zcs c l]=c:=by
  rw[cc hlt]at h1;exact kc h1
 rw[e2]at e;rw[<-e,yp]
theorem zkf{l m:List Nat}(hl:44 ∉ l)(hm:44 ∉ m)(h:zau l=zau m):l=m:=by
 unfold zau at h;have key:∀{x y:List Nat},44 ∉ x->124∈y->44 ∉ y->x=y.drop (zcs 124 y+1)++[44,32]++y.take (zcs 124 y)->False:=λ{x y} hx _ _ e=>hx (by rw[e];simp)
 by_cases h1:124∈l
 ·by_cases h2:124∈m
  ·rw[la h1,la h2]at h
   have n1:44 ∉ l.drop (zcs 124 l+1):=λz=>hl (lj z)
   have n2:44 ∉ m.drop (zcs 124 m+1):=λz=>hm (lj z)
   have e1:=zio (r:=32::l.take (zcs 124 l)) n1;have e2:=zio (r:=32::m.take (zcs 124 m)) n2;have h':l.drop (zcs 124 l+1)++44::32::l.take (zcs 124 l)=m.drop (zcs 124 m+1)++44::32::m.take (zcs 124 m):=by simpa using h
   rw[h',e2]at e1;obtain⟨q1,q2⟩:=List.append_inj h' e1.symm;have q3:l.take (zcs 124 l)=m.take (zcs 124 m):=by simpa using q2
   rw[zke h1,zke h2,q1,q3]
  ·rw[la h1,wa h2]at h
   exact(key hm h1 hl h.symm).elim
 ·by_cases h2:124∈m
  ·rw[wa h1,la h2]at h
   exact(key hl h2 hm h).elim
  ·rw[wa h1,wa h2]at h
   exact h
noncomputable def rkD(l:List Nat):D:=.tup [.str (zi0 l),.str (zau l)]
theorem zu8(a b c d:List Nat):zcp [.str a,.str b] [.str c,.str d]=(decide (a=c) && decide (b=d)):=by
 simp only[zcp,zid,Bool.and_true]
theorem z6s{l m:List Nat}(hl:44 ∉ l)(hm:44 ∉ m):deq (rkD l) (rkD m)=decide (l=m):=by
 unfold rkD;rw[deq,zu8];by_cases h:l=m
 ·subst h;simp
 ·have:¬zau l=zau m:=λz=>h (zkf hl hm z)
  simp[h,this]
theorem zxq:∀{as bs:List (List Nat)},(∀a∈as,44 ∉ a)->(∀b∈bs,44 ∉ b)->zcp (as.map rkD) (bs.map rkD)=decide (as=bs)
 |[],[],_,_=>by simp[zcp]
 |[],b::bs,_,_=>by simp[zcp]
 |a::as,[],_,_=>by simp[zcp]
 |a::as,b::bs,h1,h2=>by
  simp only[da,zcp];rw[z6s (h1 a (by simp)) (h2 b (by simp)),zxq (λx hx=>h1 x (by simp[hx])) (λx hx=>h2 x (by simp[hx]))];by_cases e:a=b <;> simp[e]
theorem zrp:∀(as bs:List (List Nat)),zcp (as.map D.str) (bs.map D.str)=decide (as=bs)
 |[],[]=>by simp[zcp]
 |[],b::bs=>by simp[zcp]
 |a::as,[]=>by simp[zcp]
 |a::as,b::bs=>by
  simp only[da,zcp];rw[zid,zrp as bs];by_cases e:a=b <;> simp[e]
noncomputable def hlt(a b:List Nat):Bool:=if zi0 a=zi0 b then decide (zau a<zau b) else decide (zi0 a<zi0 b)
noncomputable def plt:List (List Nat)->List (List Nat)->Bool
 |[],[]=>false
 |[],_::_=>true
 |_::_,[]=>false
 |a::as,b::bs=>if a=b then plt as bs else hlt a b
theorem z1t(l m:List Nat):dlt (.str l) (.str m)=decide (l<m):=by rw[dlt];rfl
theorem ya4(l m:List Nat)(h:¬l=m)(hl:44 ∉ l)(hm:44 ∉ m):dlt (rkD l) (rkD m)=hlt l m:=by
 unfold rkD hlt
 have:¬zau l=zau m:=λz=>h (zkf hl hm z)
 rw[dlt];simp only[zcr,zid,z1t];by_cases e:zi0 l=zi0 m
 ·simp[e,this]
 ·simp[e]
theorem zhr:∀{as bs:List (List Nat)},(∀a∈as,44 ∉ a)->(∀b∈bs,44 ∉ b)->zcr (as.map rkD) (bs.map rkD)=plt as bs
 |[],[],_,_=>by simp[zcr,plt]
 |[],b::bs,_,_=>by simp[zcr,plt]
 |a::as,[],_,_=>by simp[zcr,plt]
 |a::as,b::bs,h1,h2=>by
  simp only[da,zcr,plt];rw[z6s (h1 a (by simp)) (h2 b (by simp)),zhr (λx hx=>h1 x (by simp[hx])) (λx hx=>h2 x (by simp[hx]))];by_cases e:a=b
  ·simp[e]
  ·simp only[e,xo,xh,yb]
   exact ya4 a b e (h1 a (by simp)) (h2 b (by simp))
theorem z1u(as:List (List Nat)):dOk LV (.lst (as.map rkD))=true:=by
 show (as.map rkD).all (dOk 8)=true;rw[List.all_map,df];intro x _;rfl
theorem zu9(hs:List (List Nat))(ha:∀h∈hs,asc h/\h.length<=1000)(hn:hs.length<=1000):zxl [.tup (hs.map D.str)]=some (.lst (hs.map λh=>.tup [.str (zi0 h),.str (zau h)])):=by
 have key:∀l,asc l->l.length<=1000->∀p acc y,∃x,zew (gN 4) (sIf (tE (eM "str" zdp (zaa 4) aN)) (zbn 3 (e2 zbm (zaa 3) (eM "str" zeo (zaa 4) aN))) zbd) ((zau l).map λc=>D.str [c]) [p,some (.ow acc),some (.sh (.str l)),some (.sh (.str [])),y]=.nx [p,some (.ow acc),some (.sh (.str l)),some (.sh (.str (zi0 l))),x]:=by
  intro l ha h p acc y;have hs:=zkd (l:=l);have sa:=zkc ha
  obtain⟨ρ',loop,x,hx⟩:=zfo (λc=>D.str [c]) (g:=gN 4) (f:=sIf (tE (eM "str" zdp (zaa 4) aN)) (zbn 3 (e2 zbm (zaa 3) (eM "str" zeo (zaa 4) aN))) zbd)
   (λpre ρ=>∃x,ρ=[p,some (.ow acc),some (.sh (.str l)),some (.sh (.str (zxo pre))),x]) (zau l) [p,some (.ow acc),some (.sh (.str l)),some (.sh (.str [])),y]
   (λ pre c post ρ e ⟨x,hx⟩=>by
    subst hx;have hc:c<128:=sa c (by rw[e];simp);have hl:=zu7 pre;have hpl:pre.length<=l.length+2:=by rw[e]at hs;simp at hs;omega
    have e2:zxo (pre++[c])=if c∈LF then zxo pre++[lo1 c] else zxo pre:=by
     unfold zxo;rw[List.filter_append,lc];by_cases hm:c∈LF <;> simp[hm]
    refine⟨_,[p,some (.ow acc),some (.sh (.str l)),some (.sh (.str (zxo (pre++[c])))),some (.sh (.str [c]))],rfl,.inl ?_,_,rfl⟩;rw[e2];by_cases hm:c∈LF
    ·simp only[fnR,fnW,zdr,zaw,sIf,zbn,zfm,zh9,zc3,zb7,ze5,zdu,ze6,zd7,zgu,zdz,zbd,eC,zal,zaa,L2.e1,L2.e2,eN,aN,aC,tE,zed,bOr,zc9,eT,eSl,oN,oS,toI,toB,eM,tyN,zao,zcw,zcv,eL,lOk,wN,zkq,zcf,zc2,iE,iR,gN,gT,gTC,gT0,zjs,zbq,zdh,gII,zf7,zct,zbc,zbb,da,qe,bb,vc,ge,ke,List.replicate,cg,Nat.reduceAdd,Nat.reduceSub,Nat.reduceLeDiff,re,vd,yd,bc,lb,za,ue,je,bf,ve,la,ui,qh,reduceIte,jf,tf,yb,reduceCtorEq,zb,za9,itD,zmt,zmu hc,hm,nu,zrn hc]
     rw[ze8 _ _ (sz (by simp;omega))]
    ·simp only[fnR,fnW,zdr,zaw,sIf,zbn,zfm,zh9,zc3,zb7,ze5,zdu,ze6,zd7,zgu,zdz,zbd,eC,zal,zaa,L2.e1,L2.e2,eN,aN,aC,tE,zed,bOr,zc9,eT,eSl,oN,oS,toI,toB,eM,tyN,zao,zcw,zcv,eL,lOk,wN,zkq,zcf,zc2,iE,iR,gN,gT,gTC,gT0,zjs,zbq,zdh,gII,zf7,zct,zbc,zbb,da,qe,bb,vc,ge,ke,List.replicate,cg,Nat.reduceAdd,Nat.reduceSub,Nat.reduceLeDiff,re,vd,yd,bc,lb,za,ue,je,bf,ve,la,ui,qh,reduceIte,jf,tf,yb,reduceCtorEq,zb,za9,itD,zmt,zmu hc,hm,xo]) ⟨y,rfl⟩
  subst hx;exact⟨x,loop⟩
 obtain ⟨ρ',loop,x,y,z,hx⟩:=zfo (λ h=>D.str h) (g:=gN 2) (f:=(zaw (zbn 3 (eC (.str [])))
  (zaw (zdz (iE (zao 1 zoq (aC (zal 2) aN))) (gN 4) (sIf (tE (eM "str" zdp (zaa 4) aN)) (zbn 3 (e2 zbm (zaa 3) (eM "str" zeo (zaa 4) aN))) zbd))
  (zd7 1 (eN zbb (aC (zal 3) (aC (zao 1 zoq (aC (zal 2) aN)) aN)))))))
  (λpre ρ=>∃x y z,ρ=[some (.sh (.tup (hs.map D.str))),some (.ow (pre.map λh=>.tup [.str (zi0 h),.str (zau h)])),x,y,z]) hs [some (.sh (.tup (hs.map D.str))),some (.ow []),none,none,none]
  (λ pre l post ρ e ⟨x,y,z,hx⟩=>by
   subst hx;obtain⟨a1,a2⟩:=ha l (by rw[e];simp);obtain⟨w,hw⟩:=key l a1 a2 (some (.sh (.tup (hs.map D.str)))) (pre.map λh=>.tup [.str (zi0 h),.str (zau h)]) z;have hpl:pre.length<sizeLine:=szl (by rw[e]at hn;simp at hn;omega);refine⟨_,[some (.sh (.tup (hs.map D.str))),some (.ow ((pre++[l]).map λh=>.tup [.str (zi0 h),.str (zau h)])),some (.sh (.str l)),some (.sh (.str (zi0 l))),w],rfl,.inl ?_,_,_,_,rfl⟩;refine st rfl (st (zb3 (zqp (zam rfl rfl (zgm l a2)) rfl) hw) ?_);have e1:eN zbb (aC (zal 3) (aC (zao 1 zoq (aC (zal 2) aN)) aN)) [some (.sh (.tup (hs.map D.str))),some (.ow (pre.map λh=>.tup [.str (zi0 h),.str (zau h)])),some (.sh (.str l)),some (.sh (.str (zi0 l))),w]=some (.tup [.str (zi0 l),.str (zau l)]):=za1 (zai rfl (zai (zam rfl rfl (zgm l a2)) rfl)) rfl;unfold zd7;simp only[lb,bc,e1,ba,hpl,wk,yd,vd,lc,da,qe])
  ⟨none,none,none,rfl⟩
 subst hx;exact zbf rfl (st rfl (st (zb3 rfl loop) rfl))
theorem zrq(hs:List (List Nat))(ha:∀h∈hs,asc h/\h.length<=1000)(hn:hs.length<=1000):zdw [.tup (hs.map D.str)]=some (.lst (hs.map rkD)):=by
 refine zbf rfl (za4 (zg2 (zfn (ds:=hs.map D.str) rfl (by rw[ba];exact sz (by omega)) ?_)));exact zet D.str rkD hs λh hh=>⟨_,rfl,rfl,za1 (zai (zam rfl rfl (z6p h (ha h hh).1 (ha h hh).2)) (zai (zam rfl rfl (zm9 h (ha h hh).2)) rfl)) rfl⟩
theorem p10:zoo (.int 10) (.int 60)=some (.int (10 ^ 60)):=zxe ⟨by decide,by decide,by decide⟩
theorem p59:zoo (.int 10) (.int 59)=some (.int (10 ^ 59)):=zxe ⟨by decide,by decide,by decide⟩
theorem zkg(ns:List Int)(k:Nat):zxk [.lst (ns.map D.int),.int (k:Nat)]=some (.int (dAt ns k)):=by
 have q:tE (e2 gLt (zaa 1) (eN zct (aC (zaa 0) aN))) [some (.sh (.lst (ns.map D.int))),some (.sh (.int (k:Nat)))]=some (decide (((k:Nat):Int)<(ns.length:Nat))):=zb8 (zaf rfl (za1 rfl z1f) yaf)
 cases hq:decide (((k:Nat):Int)<(ns.length:Nat)) with
 |true =>
  rw[hq]at q;exact zbf rfl (zqn ((zqo q).trans (za4 (zaf rfl rfl (z6b (by have:=yc hq;omega))))))
 |false =>
  rw[hq]at q;refine zbf rfl (st ((zes q).trans rfl) (za4 ?_))
  have:dAt ns k=0:=by
   unfold dAt
   have:=of_decide_eq_false hq
   rw[ac,oh (by omega)];rfl
  rw[this];rfl
structure GdP(hs:List (List Nat)):Prop where
 g:∀h∈hs,GdH h
 len:hs.length<=6
 pos:1<=hs.length
noncomputable def MkD(hs:List (List Nat))(f l:Int)(m:Bool):D:=.tup [.tup (hs.map D.str),.int f,.int l,.bl m]
def GdM(d:D):Prop:=∃hs f l m,GdP hs/\d=MkD hs f l m
theorem GdP.asc{hs:List (List Nat)}(h:GdP hs):∀l∈hs,asc l/\l.length<=1000:=λl hl=>⟨z1s (h.g l hl),ed (h.g l hl).len (by decide)⟩
theorem GdP.nc{hs:List (List Nat)}(h:GdP hs):∀l∈hs,44 ∉ l:=λl hl=>z6r (h.g l hl)
theorem za5{hs:List (List Nat)}(h:GdP hs)(f l:Int)(m:Bool):zee [MkD hs f l m]=some (.tup [.lst (hs.map rkD),.int f,.int l,.bl m]) :=
 zbf rfl (za4 (za1 (zai (zam (zai (zaf rfl rfl rfl) rfl) rfl (zrq hs h.asc (ed h.len (by decide)))) (zai (zaf rfl rfl rfl) (zai (zaf rfl rfl rfl) (zai (zaf rfl rfl rfl) rfl)))) rfl))
abbrev CRk:D->Prop:=ycb λ_=>z1k λ_=>ya0
theorem zev:TotD CRk:=z1l λ_=>zlp λ_=>zrh
theorem crk(hs:List (List Nat)):CRk (.lst (hs.map rkD)):=⟨_,rfl,zrl λd hd=>by
 obtain⟨l,_,rfl⟩:=ic.mp hd;exact⟨_,rfl,⟨_,rfl⟩,⟨_,rfl⟩,jg⟩⟩
noncomputable def CMf:Nat->D->Prop|0=>CRk|1=>yaz|2=>yaz|_=>CBl
theorem zrr:TotD (z1k CMf):=zlp λi=>match i with|0=>zev|1=>zrf|2=>zrf|_+3=>z6m
theorem ziq{hs gs:List (List Nat)}(h:GdP hs)(g:GdP gs)(e:hs.map rkD=gs.map rkD):hs=gs:=by
 have h1:=zxq h.nc g.nc;rw[<-e]at h1;obtain⟨ds,e1,e2⟩:=crk hs;have e1:hs.map rkD=ds:=D.lst.inj e1;have h2:=(zm8 (C:=λ_=>z1k λ_=>ya0) (λ_=>zlp λ_=>zrh) (hs.map rkD) (hs.map rkD) (by rw[e1];exact e2) (by rw[e1];exact e2)).mpr rfl;rw[h2]at h1;exact yc h1.symm
structure Rkd(F:List D->Option D)(C Gd:D->Prop):Prop where
 T:TotD C
 ex:∀d,Gd d->F [d]=some (rk F d)
 cl:∀d,Gd d->C (rk F d)
 dk:∀d,Gd d->dOk LV (rk F d)=true
 kb:∀d,Gd d->zmy (rk F d)=false/\z0w (rk F d)=true
 inj:∀d e,Gd d->Gd e->rk F d=rk F e->d=e
theorem zlr:Rkd zee (z1k CMf) GdM where
 T:=zrr
 ex:=λd ⟨hs,f,l,m,h,e⟩=>by subst e;rw[zd9 (za5 h f l m)];exact za5 h f l m
 cl:=λd ⟨hs,f,l,m,h,e⟩=>by subst e;rw[zd9 (za5 h f l m)];exact⟨_,rfl,crk hs,⟨_,rfl⟩,⟨_,rfl⟩,⟨_,rfl⟩,jg⟩
 dk:=λd ⟨hs,f,l,m,h,e⟩=>by subst e;rw[zd9 (za5 h f l m)];simp[dOk,LV,rkD]
 kb:=λd ⟨hs,f,l,m,h,e⟩=>by subst e;rw[zd9 (za5 h f l m)];exact⟨rfl,rfl⟩
 inj:=λd e ⟨hs,f,l,m,h,e1⟩ ⟨gs,f',l',m',h',e2⟩ z=>by
  subst e1 e2;rw[zd9 (za5 h f l m),zd9 (za5 h' f' l' m')]at z;have z:=D.tup.inj z;simp only[ul,D.lst.injEq]at z;obtain⟨z1,z2,z3,z4,_⟩:=z
  have:=ziq h h' z1
  subst this;unfold MkD;rw[z2,z3,z4]
section
variable {F:List D->Option D}{C Gd:D->Prop}(R:Rkd F C Gd)
include R
theorem Rkd.ltT{ks:List D}(hg:∀d∈ks,Gd d):LtT (ltK F) ks where
 tr:=λa ha b hb c hc h1 h2=>R.T.tr _ _ _ (R.cl a (hg a ha)) (R.cl b (hg b hb)) (R.cl c (hg c hc)) h1 h2
 tot:=λa ha b hb=>by
  rcases R.T.tot _ _ (R.cl a (hg a ha)) (R.cl b (hg b hb)) with z|z
  ·exact .inl (R.inj a b (hg a ha) (hg b hb) z)
  ·exact .inr z
 as:=λa ha b hb h=>R.T.as _ _ (R.cl a (hg a ha)) (R.cl b (hg b hb)) h
theorem Rkd.kok{ks:List D}(hg:∀d∈ks,Gd d)(nd:ks.Nodup)(sm:ks.length<64):KOk F ks where
 ex:=λd hd=>⟨_,R.ex d (hg d hd),R.dk d (hg d hd)⟩
 kd:=.inr λd hd=>R.kb d (hg d hd)
 ok:=λd hd e he=>R.T.ok _ _ (R.cl d (hg d hd)) (R.cl e (hg e he))
 lt:=R.ltT hg
 nd:=nd
 sm:=⟨.inl sm,by omega⟩
end
noncomputable def dd(l:List D):List D:=l.foldl zig []
theorem z1v:∀(l acc:List D),acc.Nodup->(l.foldl zig acc).Nodup/\∀d,d∈l.foldl zig acc↔d∈acc\/d∈l
 |[],acc,h=>⟨h,λd=>by simp⟩
 |x::r,acc,h=>by
  rw[ph]
  have h2:(zig acc x).Nodup/\∀d,d∈zig acc x↔d∈acc\/d=x:=by
   unfold zig;split
   ·rename_i hx;exact⟨h,λd=>⟨.inl,λz=>z.elim id λe=>by rw[e];exact hx⟩⟩
   ·rename_i hx;exact⟨ij.mpr ⟨h,by simp,λa ha b hb e=>hx (by rw[jb.mp hb]at e;rw[<-e];exact ha)⟩,λd=>by simp⟩
  obtain⟨i1,i2⟩:=z1v r (zig acc x) h2.1;refine⟨i1,λd=>?_⟩;rw[i2,h2.2,pb,or_assoc]
theorem zrs(l:List D):(dd l).Nodup:=(z1v l [] kh).1
theorem zfg{l:List D}{d:D}:d∈dd l↔d∈l:=by
 have:=(z1v l [] kh).2 d
 simpa [dd] using this
theorem zgn:∀{l m:List D},l.Nodup->(∀d∈l,d∈m)->l.length<=m.length
 |[],m,_,_=>ud _
 |x::r,m,h,hs=>by
  have h':=qg.mp h;obtain⟨m1,m2,e⟩:=gm (hs x xa)
  have:=zgn (m:=m1++m2) h'.2 λd hd=>by
   have h1:=hs d (ja _ hd);rw[e]at h1;have hne:d≠x:=λz=>h'.1 (by rw[<-z];exact hd)
   simp only[gc,pb]at h1 ⊢;rcases h1 with h1|h1|h1
   ·exact .inl h1
   ·exact absurd h1 hne
   ·exact .inr h1
  rw[e];simp at this ⊢;omega
theorem zrt(hs:List (List Nat)):zj9 [.tup (hs.map D.str)]=some (.tup (hs.map D.str)):=zbf rfl (za4 (za1 (zai (za1 rfl rfl) rfl) rfl))
theorem zna(ks:List D)(d:D):(zig ks d).length<=ks.length+1:=by unfold zig;split <;> simp
theorem zva(hs:List (List Nat)):(hs.map D.str).all z00=true:=df.mpr λd hd=>by obtain⟨l,_,rfl⟩:=ic.mp hd;rfl
theorem ya5(hs:List (List Nat))(f l:Int)(m:Bool):isN [2,0,0,1] (MkD hs f l m)=true:=by
 simp only[isN,MkD,sgs,ub,Bool.and_true];exact⟨zva hs,rfl,rfl,rfl⟩
noncomputable abbrev tgM:D->Rho->Option Rho:=gT 4 (gTC (gN 3) (gTC (gN 4) (gTC (gN 5) (gTC (gN 6) gT0))))
noncomputable abbrev puM:GN:=zq5 [2,0,0,1] (eN zbb (aC (zao 1 zj9 (aC (zal 3) aN)) (aC (zal 4) (aC (zal 5) (aC (zal 6) aN)))))
theorem zkh{gt:D->Rho->Option Rho}{f:GN}{d:D}{r:List D}{ρ ρ1 ρ2:Rho}{ks ks2:List D}(h1:gt d ρ=some ρ1)(h2:f ρ1 ks=some (ρ2,ks2)):zq6 gt f (d::r) ρ ks=zq6 gt f r ρ2 ks2:=by
 rw[zq6,h1,za,h2,za]
theorem z1w{sg:List Nat}{fk:Rho->Option D}{ρ:Rho}{ks:List D}{d:D}(h:fk ρ=some d)(h1:isN sg d=true)(h2:ks.length<=100000):zq5 sg fk ρ ks=some (ρ,zig ks d):=by
 unfold zq5;rw[h,za,la ⟨h1,h2⟩]
theorem zxr(a b:Option Sl):∀(h ks:List D) (z3 z4 z5 z6:Option Sl),(∀d∈h,GdM d)->ks.length+h.length<=100000->∃y3 y4 y5 y6,zq6 tgM puM h [a,none,b,z3,z4,z5,z6] ks=some ([a,none,b,y3,y4,y5,y6],h.foldl zig ks)
 |[],ks,z3,z4,z5,z6,_,_=>⟨z3,z4,z5,z6,rfl⟩
 |d::r,ks,z3,z4,z5,z6,hg,hl=>by
  obtain⟨hs,f,l,m,_,rfl⟩:=hg _ xa;rw[bb]at hl;have al:=zna ks (MkD hs f l m);obtain⟨y3,y4,y5,y6,ih⟩:=zxr a b r (zig ks (MkD hs f l m)) (some (.sh (.tup (hs.map D.str)))) (some (.sh (.int f))) (some (.sh (.int l))) (some (.sh (.bl m))) (λe he=>hg e (ja _ he)) (by omega);exact⟨y3,y4,y5,y6,(zkh rfl (z1w (za1 (zai (zam rfl rfl (zrt hs)) (zai rfl (zai rfl (zai rfl rfl)))) rfl) (ya5 hs f l m) (by omega))).trans ih⟩
theorem zxs(a:Option Sl):∀(hs:List (List D)) (ks:List D) (b z3 z4 z5 z6:Option Sl),(∀d∈hs.flatten,GdM d)->ks.length+hs.flatten.length<=100000->∃y2 y3 y4 y5 y6,zq6 (gN 2) (zsw (iE (zal 2)) tgM puM) (hs.map D.lst) [a,none,b,z3,z4,z5,z6] ks=some ([a,none,y2,y3,y4,y5,y6],hs.flatten.foldl zig ks)
 |[],ks,b,z3,z4,z5,z6,_,_=>⟨b,z3,z4,z5,z6,rfl⟩
 |h::r,ks,b,z3,z4,z5,z6,hg,hl=>by
  rw[ah,zc]at hl
  have lk:∀(l acc:List D),(l.foldl zig acc).length<=acc.length+l.length:=λl=>by
   induction l with
   |nil=>intro acc;simp
   |cons x l ih=>intro acc;rw[ph,bb];have:=ih (zig acc x);have:=zna acc x;omega
  have lk1:=lk h ks;obtain⟨y3,y4,y5,y6,e1⟩:=zxr a (some (.sh (.lst h))) h ks z3 z4 z5 z6 (λd hd=>hg d (by rw[ah];exact we _ hd)) (by omega);obtain⟨w2,w3,w4,w5,w6,e2⟩:=zxs a r (h.foldl zig ks) (some (.sh (.lst h))) y3 y4 y5 y6 (λd hd=>hg d (by rw[ah];exact pc _ hd)) (by omega);refine⟨w2,w3,w4,w5,w6,?_⟩;rw[da,ah,List.foldl_append,<-e2];refine zkh rfl ?_;show zsw (iE (zal 2)) tgM puM [a,none,some (.sh (.lst h)),z3,z4,z5,z6] ks=_;unfold zsw;exact e1
theorem zki{hs:List (List D)}(hg:∀d∈hs.flatten,GdM d)(hl:hs.flatten.length<=10000)(sm:(dd hs.flatten).length<64):zfl [.lst (hs.map D.lst)]=some (zm2 (ltK zee) (dd hs.flatten)):=by
 obtain⟨y2,y3,y4,y5,y6,e⟩:=zxs (some (.sh (.lst (hs.map D.lst)))) hs [] none none none none none hg (by rw[vc];omega);refine zw6 rfl ?_;have ok:=zlr.kok (λd hd=>hg d (zfg.mp hd)) (zrs hs.flatten) sm;have e':zsw (iE (zal 0)) (gN 2) (zsw (iE (zal 2)) tgM puM) [some (.sh (.lst (hs.map D.lst))),none,none,none,none,none,none] []=some ([some (.sh (.lst (hs.map D.lst))),none,y2,y3,y4,y5,y6],dd hs.flatten):=e;show zq7 1 (zsw (iE (zal 0)) (gN 2) (zsw (iE (zal 2)) tgM puM)) zee [some (.sh (.lst (hs.map D.lst))),none,none,none,none,none,none]=_;unfold zq7;simp only[lb,bc];rw[e'];dsimp only;unfold zif;rw[la ok]
theorem zru(c by_:Int):∃hs,zs0 [.int c,.int by_]=some (.tup (hs.map D.str))/\GdP hs:=by
 have hn:∃n:Nat,atI [D.int 1,D.int 1,D.int 2,D.int 2,D.int 3,D.int 6] (c % 6)=some (.int n)/\1<=n/\n<=6:=by
  have:c % 6=0\/c % 6=1\/c % 6=2\/c % 6=3\/c % 6=4\/c % 6=5:=by omega
  rcases this with h|h|h|h|h|h <;> rw[h]
  ·exact⟨1,rfl,by omega,by omega⟩
  ·exact⟨1,rfl,by omega,by omega⟩
  ·exact⟨2,rfl,by omega,by omega⟩
  ·exact⟨2,rfl,by omega,by omega⟩
  ·exact⟨3,rfl,by omega,by omega⟩
  ·exact⟨6,rfl,by omega,by omega⟩
 obtain⟨n,hn,n1,n6⟩:=hn
 obtain⟨ρ',loop,hs,x,hx,hg,hl⟩:=zfo (λk:Nat=>D.int k) (g:=gN 3) (f:=(zd7 2 (zao 2 zsz (aC (zal 1) (aC (e2 zbm (e2 zb5 (e2 zcq (zaa 0) (e2 zbm (eC (.int 6)) (e2 zce (zaa 3) (zaa 3)))) (eC (.int 4))) (e2 zce (eC (.int 4)) (e2 zb5 (zaa 3) (eC (.int 3))))) aN)))))
  (λpre ρ=>∃hs x,ρ=[some (.sh (.int c)),some (.sh (.int by_)),some (.ow (hs.map D.str)),x]/\(∀h∈hs,GdH h)/\hs.length=pre.length) (List.range n) [some (.sh (.int c)),some (.sh (.int by_)),some (.ow []),none]
  (λ pre j post ρ e ⟨hs,x,hx,hg,hl⟩=>by
   subst hx;have hlen:pre.length+1<=n:=by have:=ef List.length e;simp at this;omega
   have hj:j<n:=lg.mp (by rw[e];simp);have hjj:(j:Int) * j<=36:=Int.le_trans (Int.mul_le_mul (show (j:Int)<=6 by omega) (show (j:Int)<=6 by omega) (by omega) (by omega)) (by omega);have hjj0:0<=(j:Int) * j:=Int.mul_nonneg (by omega) (by omega);obtain⟨l,h1,h2⟩:=z1r by_ (c / (6+(j:Int) * j) % 4+4 * ((j:Int) % 3)) (by omega) (by omega);refine⟨_,[some (.sh (.int c)),some (.sh (.int by_)),some (.ow ((hs++[l]).map D.str)),some (.sh (.int j))],rfl,.inl ?_,hs++[l],_,rfl,?_,by simp[hl]⟩
   ·have e1:zao 2 zsz (aC (zal 1) (aC (e2 zbm (e2 zb5 (e2 zcq (zaa 0) (e2 zbm (eC (.int 6)) (e2 zce (zaa 3) (zaa 3)))) (eC (.int 4))) (e2 zce (eC (.int 4)) (e2 zb5 (zaa 3) (eC (.int 3))))) aN)) [some (.sh (.int c)),some (.sh (.int by_)),some (.ow (hs.map D.str)),some (.sh (.int j))]=some (.str l) :=
     zam (zai rfl (zai (zaf (zaf (zaf rfl (zaf rfl (zaf rfl rfl (zeu (zic (by omega)))) rfl) (zcc (by omega))) rfl (zbk (by decide))) (zaf rfl (zaf rfl rfl (zbk (by decide))) (zeu (zic (by decide)))) rfl) rfl)) rfl h1
    have hz:hs.length<sizeLine:=szl (by omega);unfold zd7;simp only[lb,bc,e1,ba,hz,wk,yd,vd,lc,da,qe]
   ·intro h hh
    rcases gc.mp hh with hh|hh
    ·exact hg h hh
    ·rw[jb.mp hh];exact h2) ⟨[],none,rfl,(by intro h hh;cases hh),rfl⟩
 subst hx;simp only[xm]at hl;refine⟨hs,zbf rfl (st rfl (st (zb3 (zuf (zai (zaf rfl (zaf rfl rfl (zbk (by decide))) hn) rfl) (zli (n:=n) rfl (by omega))) loop) rfl)),hg,by omega,by omega⟩
theorem zir{np:Nat}{F:List D->Option (List D)}{fr:Rho->Option (List D)}{ρ:Rho}{ds:List D}{z:List D}(ha:fr ρ=some ds)(hn:ds.length=np)(hF:F ds=some z):zcv np F fr ρ=some z:=by unfold zcv;rw[ha];show (if ds.length=np then F ds else none)=_;rw[la hn];exact hF
section
variable {κ α:Type}[DecidableEq κ]
theorem zck(a:κ×α)(m:List (κ×α))(k:κ):zcb (a::m) k=if a.1=k then some a.2 else zcb m k:=by
 unfold zcb;rw[sf];by_cases h:a.1=k
 ·rw[la h,ib h];rfl
 ·rw[wa h,jc h]
theorem zrv{m:List (κ×α)}{k:κ}(h:k ∉ m.map Prod.fst):zcb m k=none:=by
 induction m with
 |nil=>rfl
 |cons a r ih =>
  rw[da,pb]at h;rw[zck,wa (λz=>h (.inl z.symm)),ih λz=>h (.inr z)]
theorem zgo{m:List (κ×α)}{k:κ}(h:k∈m.map Prod.fst):∃v,zcb m k=some v:=by
 induction m with
 |nil=>simp at h
 |cons a r ih =>
  rw[zck];by_cases e:a.1=k
  ·exact⟨_,la e⟩
  ·rw[wa e]
   rw[da,pb]at h;exact ih (h.resolve_left λz=>e z.symm)
theorem zrw(m:List (κ×α))(k:κ):(m.any λkv=>decide (kv.1=k))=decide (k∈m.map Prod.fst):=by
 induction m with
 |nil=>simp
 |cons a r ih =>
  rw[xg,ih,da];by_cases e:a.1=k
  ·simp[e]
  ·have e2:¬k=a.1:=λz=>e z.symm
   simp[e,e2]
theorem zis{m:List (κ×α)}{k:κ}(v:α)(h:k ∉ m.map Prod.fst):ziz m k v=m++[(k,v)]:=by
 unfold ziz;rw[zrw,jc h,wa ua]
theorem zit{m:List (κ×α)}{k:κ}(v:α)(h:k∈m.map Prod.fst):ziz m k v=m.map λkv=>if kv.1=k then (kv.1,v) else kv:=by
 unfold ziz;rw[zrw,ib h,la rfl]
theorem zgp(m:List (κ×α))(k:κ)(v:α):(ziz m k v).map Prod.fst=if k∈m.map Prod.fst then m.map Prod.fst else m.map Prod.fst++[k]:=by
 by_cases h:k∈m.map Prod.fst
 ·rw[zit v h,la h,zd]
  refine og λkv _=>?_
  show (if kv.1=k then (kv.1,v) else kv).1=kv.1
  split <;> rfl
 ·rw[zis v h,wa h,lc];rfl
end
noncomputable def kz(m:List (Int×Bool)):List Key:=m.map λp=>Sum.inl p.1
noncomputable def dz(m:List (Int×Bool)):List D:=m.map λp=>D.bl p.2
noncomputable def phi(p:Int×Bool):Key×D:=(Sum.inl p.1,D.bl p.2)
theorem zxt(m:List (Int×Bool)):(kz m).zip (dz m)=m.map phi:=by
 induction m with
 |nil=>rfl
 |cons a r ih=>show (_::_)=_;rw[da];exact ef _ ih
theorem zxu(m:List (Int×Bool)):(m.map phi).map Prod.fst=kz m:=by rw[zd];rfl
theorem z6t(m:List (Int×Bool)):(m.map phi).map Prod.snd=dz m:=by rw[zd];rfl
theorem zxv(m:List (Int×Bool)):kz m=(m.map Prod.fst).map Sum.inl:=by rw[zd];rfl
theorem zxw{m:List (Int×Bool)}{k:Int}:(Sum.inl k:Key)∈(m.map phi).map Prod.fst↔k∈m.map Prod.fst:=by
 rw[zxu,zxv,ic];exact⟨λ⟨x,h1,h2⟩=>by cases h2;exact h1,λh=>⟨k,h,rfl⟩⟩
theorem zvb(m:List (Int×Bool))(k:Int):zcb (m.map phi) (Sum.inl k)=(zcb m k).map D.bl:=by
 induction m with
 |nil=>rfl
 |cons a r ih =>
  rw[da,zck,zck,ih];by_cases e:a.1=k
  ·rw[la e,la (by show Sum.inl a.1=Sum.inl k;rw[e])];rfl
  ·rw[wa e,wa (by show ¬Sum.inl a.1=Sum.inl k;exact λz=>e (ku z))]
theorem zvc(m:List (Int×Bool))(k:Int)(b:Bool):ziz (m.map phi) (Sum.inl k) (D.bl b)=(ziz m k b).map phi:=by
 by_cases h:k∈m.map Prod.fst
 ·rw[zit _ (zxw.mpr h),zit _ h,zd,zd]
  refine og λkv _=>?_
  show (if (Sum.inl kv.1:Key)=Sum.inl k then ((Sum.inl kv.1:Key),D.bl b) else phi kv)=phi (if kv.1=k then (kv.1,b) else kv);by_cases e:kv.1=k
  ·rw[la e,la (by rw[e])];rfl
  ·rw[wa e,wa (λz=>e (ku z))]
 ·rw[zis _ (λz=>h (zxw.mp z)),zis _ h,lc];rfl
theorem zrx(m:List (Int×Bool))(k:Int):zd5 (.dk (kz m) (dz m)) (.int k)=some ((zcb m k).map D.bl):=by
 unfold zd5;show some (zcb ((kz m).zip (dz m)) (Sum.inl k))=_;rw[zxt,zvb]
theorem z6u{m:List (Int×Bool)}{k:Int}{b:Bool}(h:zcb m k=some b):zlk (.dk (kz m) (dz m)) (.int k)=some (.bl b):=by
 unfold zlk;rw[zrx,h];rfl
theorem zvd{m:List (Int×Bool)}(k:Int)(b:Bool)(h:m.length<=100000):zn9 (.dk (kz m) (dz m)) (.int k) (.bl b)=some (.dk (kz (ziz m k b)) (dz (ziz m k b))):=by
 unfold zn9;show (if (kz m).length<sizeLine then some (Sl.dk _ _) else none)=_;rw[la (by unfold kz;rw[ba];exact szl h),zxt,zvc,zxu,z6t]
theorem zxx:∀{l m:List Int},l.Nodup->(∀x∈l,x∈m)->l.length<=m.length
 |[],_,_,_=>ud _
 |a::l,m,hn,hs=>by
  have ha:=hs a (by simp);have hn:=qg.mp hn
  have:=zxx (l:=l) (m:=m.erase a) hn.2 λx hx=>(List.mem_erase_of_ne (λz:x=a=>hn.1 (z ▸ hx))).mpr (hs x (ja _ hx))
  rw[List.length_erase_of_mem ha]at this;have hp:=List.length_pos_of_mem ha;rw[bb];omega
structure Good(pg:List Int)(m:List (Int×Bool)):Prop where
 nd:(m.map Prod.fst).Nodup
 sub:∀x∈m.map Prod.fst,x∈pg
theorem Good.len{pg:List Int}{m:List (Int×Bool)}(h:Good pg m):m.length<=pg.length:=by
 have:=zxx h.nd h.sub
 rwa [ba]at this
theorem Good.put{pg:List Int}{m:List (Int×Bool)}(h:Good pg m){k:Int}(hk:k∈pg)(b:Bool):Good pg (ziz m k b):=by
 constructor
 ·rw[zgp]
  split
  ·exact h.nd
  ·rename_i hn
   exact List.nodup_append.mpr ⟨h.nd,by simp,λ x hx y hy z=>by
    rw[jb]at hy;subst hy z;exact hn hx⟩
 ·rw[zgp]
  split
  ·exact h.sub
  ·intro x hx
   rcases gc.mp hx with hx|hx
   ·exact h.sub x hx
   ·rw[jb.mp hx];exact hk
theorem zve{fo fk fz:Rho->Option D}{ρ:Rho}{d k z:D}{o:Option D}(h1:fo ρ=some d)(h2:fk ρ=some k)(h3:fz ρ=some z)(h4:zd5 d k=some o):zgd fo fk fz ρ=some (o.getD z):=by
 unfold zgd;rw[h1,h2,h3];show (zd5 d k).map _=_;rw[h4];rfl
theorem z1x{i:Nat}{fk fv:Rho->Option D}{ρ:Rho}{sl sl':Sl}{d k:D}(h0:ρ[i]?=some (some sl))(h1:fv ρ=some d)(h2:fk ρ=some k)(h3:zn9 sl k d=some sl'):zoa i fk fv ρ=.nx (ρ.set i (some sl')):=by
 unfold zoa;rw[h0];dsimp only;rw[h1,h2];show (match zn9 sl k d with|some sl'=>Out.nx (ρ.set i (some sl'))|none=>Out.bad)=_;rw[h3]
theorem z1y{i:Nat}{fk fv:Rho->Option D}{ρ:Rho}{ds ds':List D}{d k:D}(h0:ρ[i]?=some (some (.ow ds)))(h1:fv ρ=some d)(h2:fk ρ=some k)(h3:z5o ds k d=some ds'):zoc i fk fv ρ=.nx (ρ.set i (some (.ow ds'))):=by
 unfold zoc;rw[h0];dsimp only;rw[h1,h2];show (match z5o ds k d with|some ds'=>Out.nx (ρ.set i (some (.ow ds')))|none=>Out.bad)=_;rw[h3]
noncomputable abbrev Mk:=Nat×Nat×Bool
noncomputable def MkS(p:D)(m:Mk):D:=.tup [p,.int (m.1:Nat),.int (m.2.1:Nat),.bl m.2.2]
noncomputable def stp(most:Bool)(m:List (Int×Bool))(page:Int):List (Int×Bool):=ziz m page (most || (zcb m page).getD false)
noncomputable def zoi(pg:List Int)(k:Mk):List Int:=(pg.drop k.1).take (k.2.1+1 - k.1)
noncomputable def za6(pg:List Int)(mks:List Mk):List (Int×Bool):=mks.foldl (λm k=>(zoi pg k).foldl (stp k.2.2) m) []
theorem ziu{pg:List Int}{k:Mk}{x:Int}(h:x∈zoi pg k):x∈pg:=lj (el h)
theorem Good.stps{pg:List Int}{most:Bool}:∀{ps:List Int}{m:List (Int×Bool)},Good pg m->(∀x∈ps,x∈pg)->Good pg (ps.foldl (stp most) m)
 |[],_,h,_=>h
 |x::r,m,h,hs=>Good.stps (ps:=r) (h.put (hs x (by simp)) _) λy hy=>hs y (ja _ hy)
theorem zdd(pg:List Int):∀(mks:List Mk) (m:List (Int×Bool)),Good pg m->Good pg (mks.foldl (λm k=>(zoi pg k).foldl (stp k.2.2) m) m)
 |[],_,h=>h
 |k::r,m,h=>zdd pg r _ (h.stps λ_ hx=>ziu hx)
theorem zgq(pg:List Int)(mks:List Mk):Good pg (za6 pg mks):=zdd pg mks [] ⟨kh,λx hx=>by simp at hx⟩
noncomputable def z6v:Rho->Out:=zoa 2 (zaa 7) (eT (bOr (tE (zal 6)) (tE (zgd (zaa 2) (zaa 7) (eC (.bl false))))))
theorem znb{pg:List Int}(hpg:pg.length<=1000)(a b c d e:Option Sl)(most:Bool):∀(ps:List Int) (m:List (Int×Bool)) (z:Option Sl),Good pg m->(∀x∈ps,x∈pg) →
  ∃z',zew (gN 7) z6v (ps.map D.int) [a,b,some (.dk (kz m) (dz m)),c,d,e,some (.sh (.bl most)),z]=.nx [a,b,some (.dk (kz (ps.foldl (stp most) m)) (dz (ps.foldl (stp most) m))),c,d,e,some (.sh (.bl most)),z']
 |[],m,z,_,_=>⟨z,rfl⟩
 |x::r,m,z,hm,hs=>by
  obtain⟨z',ih⟩:=znb hpg a b c d e most r (stp most m x) (some (.sh (.int x))) (hm.put (hs x (by simp)) _) λy hy=>hs y (ja _ hy)
  refine⟨z',?_⟩;rw[da,ph,<-ih];refine zca rfl ?_;have hl:m.length<=100000:=ed hm.len (by omega)
  have g:tE (zgd (zaa 2) (zaa 7) (eC (.bl false))) [a,b,some (.dk (kz m) (dz m)),c,d,e,some (.sh (.bl most)),some (.sh (.int x))]=some ((zcb m x).getD false):=by
   refine zb8 ((zve (z:=.bl false) rfl rfl rfl (zrx m x)).trans ?_)
   cases zcb m x <;> rfl
  have g2:eT (bOr (tE (zal 6)) (tE (zgd (zaa 2) (zaa 7) (eC (.bl false))))) [a,b,some (.dk (kz m) (dz m)),c,d,e,some (.sh (.bl most)),some (.sh (.int x))]=some (.bl (most || (zcb m x).getD false)):=by
   refine zug ?_
   cases most with
   |true=>exact z5b rfl
   |false=>exact zqq rfl g
  exact(z1x rfl g2 rfl (zvd x _ hl)).trans rfl
noncomputable def ya6:Rho->Out:=zdz (iE (eSl (zaa 0) (oS (zaa 4)) (oS (e2 zbm (zaa 5) (eC (.int 1)))))) (gN 7) z6v
theorem znc{pg:List Int}(hpg:pg.length<=1000)(p:D)(b:Option Sl):∀(mks:List Mk) (m:List (Int×Bool)) (c d e f z:Option Sl),Good pg m->(∀k∈mks,k.1<=k.2.1) →
  ∃c' d' e' f' z',zew (gT 4 (gTC (gN 3) (gTC (gN 4) (gTC (gN 5) (gTC (gN 6) gT0))))) ya6 (mks.map (MkS p)) [some (.sh (.lst (pg.map D.int))),b,some (.dk (kz m) (dz m)),c,d,e,f,z] =
   .nx [some (.sh (.lst (pg.map D.int))),b,some (.dk (kz (mks.foldl (λm k=>(zoi pg k).foldl (stp k.2.2) m) m)) (dz (mks.foldl (λm k=>(zoi pg k).foldl (stp k.2.2) m) m))),c',d',e',f',z']
 |[],m,c,d,e,f,z,_,_=>⟨c,d,e,f,z,rfl⟩
 |k::r,m,c,d,e,f,z,hm,hk=>by
  obtain⟨z1,h1⟩:=znb hpg (some (.sh (.lst (pg.map D.int)))) b (some (.sh p)) (some (.sh (.int (k.1:Nat)))) (some (.sh (.int (k.2.1:Nat)))) k.2.2 (zoi pg k) m z hm λx hx=>ziu hx
  obtain⟨c',d',e',f',z',ih⟩:=znc hpg p b r _ (some (.sh p)) (some (.sh (.int (k.1:Nat)))) (some (.sh (.int (k.2.1:Nat)))) (some (.sh (.bl k.2.2))) z1 (hm.stps (most:=k.2.2) λx hx=>ziu hx) λj hj=>hk j (ja _ hj)
  refine⟨c',d',e',f',z',?_⟩;rw[da,ph,<-ih];refine zca (ρ1:=[some (.sh (.lst (pg.map D.int))),b,some (.dk (kz m) (dz m)),some (.sh p),some (.sh (.int (k.1:Nat))),some (.sh (.int (k.2.1:Nat))),some (.sh (.bl k.2.2)),z]) rfl ?_;refine zb3 (ds:=(zoi pg k).map D.int) (zqp (d:=.lst ((zoi pg k).map D.int)) ?_ rfl) h1
  have hc:zle (pg.map D.int) (some ((k.1:Nat):Int)) (some ((k.2.1:Nat)+1:Int))=(zoi pg k).map D.int:=by
   have e0:((k.2.1:Nat)+1:Int)=((k.2.1+1:Nat):Int):=by omega
   rw[e0,zqu,zqt _ _ _ (by have:=hk k (by simp);omega)];rfl
  show (gSl (.lst (pg.map D.int)) (some ((k.1:Nat):Int)) (some ((k.2.1:Nat)+1:Int)))=_;unfold gSl;dsimp only;rw[hc]
theorem zry{pg:List Int}(hpg:pg.length<=1000)(p:D)(mks:List Mk)(hk:∀k∈mks,k.1<=k.2.1):z1m [.lst (pg.map D.int),.lst (mks.map (MkS p))]=some (.dk (kz (za6 pg mks)) (dz (za6 pg mks))):=by
 obtain⟨c,d,e,f,z,h⟩:=znc hpg p (some (.sh (.lst (mks.map (MkS p))))) mks [] none none none none none ⟨kh,λx hx=>by simp at hx⟩ hk;exact zbf rfl (st rfl (st (zb3 (zqp rfl rfl) h) rfl))
noncomputable abbrev Td:=Int×Int×Bool
noncomputable def TdD(t:Td):D:=.tup [.int t.1,.int t.2.1,.bl t.2.2]
theorem z1z(t:Td)(page:Int)(s:Bool):zim [TdD t,.int page,.bl s]=some (.bl (decide (t.2.1+1=page) && (t.2.2 == s))):=by
 refine zbf rfl (za4 (zug ?_));have q1:tE (e2 zdh (e2 zbm (e2 gIx (zaa 0) (eC (.int 1))) (eC (.int 1))) (zaa 1)) (zdr 3 [TdD t,.int page,.bl s])=some (decide (t.2.1+1=page)):=zb8 (zaf (d:=.int (t.2.1+1)) rfl rfl (zff zgc));have q2:tE (e2 zdh (e2 gIx (zaa 0) (eC (.int 2))) (zaa 2)) (zdr 3 [TdD t,.int page,.bl s])=some (t.2.2 == s):=zb8 (zaf (d:=.bl t.2.2) rfl rfl (zff z5e))
 cases h:decide (t.2.1+1=page) with
 |false=>rw[h]at q1;exact zqr q1
 |true=>rw[h]at q1;exact zhk q1 q2
noncomputable def zkj(a b:Int)(t:Bool):List (Int×Bool)->List Td
 |[]=>[(a,b,t)]
 |(page,s)::r=>if b+1=page/\t=s then zkj a page s r else (a,b,t)::zkj page page s r
noncomputable def znd:List (Int×Bool)->List Td
 |[]=>[]
 |(page,s)::r=>zkj page page s r
theorem ziv(a b:Int)(t:Bool):∀(r:List (Int×Bool)),(zkj a b t r).length<=r.length+1
 |[]=>by simp[zkj]
 |(page,s)::r=>by
  unfold zkj;split
  ·have:=ziv a page s r;simp;omega
  ·have:=ziv page page s r;simp;omega
theorem zvf(r:List (Int×Bool)):(znd r).length<=r.length:=by
 cases r with
 |nil=>simp[znd]
 |cons x r=>have:=ziv x.1 x.1 x.2 r;unfold znd;simp;omega
noncomputable def z6w:Rho->Out:=sIf (zed (tE (e2 gGt (eN zct (aC (zaa 3) aN)) (eC (.int 0)))) (tE (zao 3 zim (aC (e2 gIx (zaa 3) (e1 zt1 (eC (.int 1)))) (aC (zal 4) (aC (e2 zlk (zaa 2) (zaa 4)) aN)))))) (zoc 3 (e1 zt1 (eC (.int 1))) (eN zbb (aC (e2 gIx (e2 gIx (zaa 3) (e1 zt1 (eC (.int 1)))) (eC (.int 0))) (aC (zal 4) (aC (e2 zlk (zaa 2) (zaa 4)) aN))))) (zd7 3 (eN zbb (aC (zal 4) (aC (zal 4) (aC (e2 zlk (zaa 2) (zaa 4)) aN)))))
theorem z10{α:Type}(l:List α)(x:α):atI (l++[x]) (-1)=some x:=by
 unfold atI
 have e:ixN (l++[x]).length (-1)=some l.length:=by
  unfold ixN;rw[wa (by omega),la (by simp;omega)]
  congr 1
  simp;omega
 rw[e];show (l++[x])[l.length]?=_;simp
theorem zvg(l:List D)(x d:D):z5o (l++[x]) (.int (-1)) d=some (l++[d]):=by
 unfold z5o
 have e:ixN (l++[x]).length (-1)=some l.length:=by
  unfold ixN;rw[wa (by omega),la (by simp;omega)]
  congr 1
  simp;omega
 show (ixN (l++[x]).length (-1)).map _=_;rw[e];show some ((l++[x]).set l.length d)=_
 congr 1
 simp
theorem zgr{m:List (Int×Bool)}(n k:Option Sl):∀(r:List (Int×Bool)) (init:List Td) (a b:Int) (t:Bool) (z:Option Sl),(∀x∈r,zcb m x.1=some x.2)->init.length+r.length<=50000 →
  ∃z',zew (gN 4) z6w (r.map λx=>D.int x.1) [n,k,some (.sh (.dk (kz m) (dz m))),some (.ow ((init++[(a,b,t)]).map TdD)),z]=.nx [n,k,some (.sh (.dk (kz m) (dz m))),some (.ow ((init++zkj a b t r).map TdD)),z']
 |[],init,a,b,t,z,_,_=>⟨z,rfl⟩
 |(page,s)::r,init,a,b,t,z,hv,hl=>by
  have hv1:zlk (.dk (kz m) (dz m)) (.int page)=some (.bl s):=z6u (hv (page,s) (by simp));have hv2:∀x∈r,zcb m x.1=some x.2:=λx hx=>hv x (ja _ hx)
  rw[bb]at hl;have em:∀(x:Td),(init++[x]).map TdD=init.map TdD++[TdD x]:=λx=>by rw[lc];rfl
  have hat:atI ((init++[(a,b,t)]).map TdD) (-1)=some (TdD (a,b,t)):=by rw[em];exact z10 _ _
  have q1:tE (e2 gGt (eN zct (aC (zaa 3) aN)) (eC (.int 0))) [n,k,some (.sh (.dk (kz m) (dz m))),some (.ow ((init++[(a,b,t)]).map TdD)),some (.sh (.int page))]=some true:=by
   refine zb8 (zaf (za1 (z:=.int ((init++[(a,b,t)]).map TdD).length) rfl rfl) rfl ?_);rw[zuj]
   congr 2
   exact ib (by rw[ba,zc,ig];omega)
  have q2:tE (zao 3 zim (aC (e2 gIx (zaa 3) (e1 zt1 (eC (.int 1)))) (aC (zal 4) (aC (e2 zlk (zaa 2) (zaa 4)) aN)))) [n,k,some (.sh (.dk (kz m) (dz m))),some (.ow ((init++[(a,b,t)]).map TdD)),some (.sh (.int page))]=some (decide (b+1=page) && (t == s)) :=
   zb8 (zam (zai (zaf rfl rfl hat) (zai rfl (zai (zaf rfl rfl hv1) rfl))) rfl (z1z (a,b,t) page s))
  by_cases hc:b+1=page/\t=s
  ·have hq:(decide (b+1=page) && (t == s))=true:=by rw[ib hc.1,hc.2];simp
   rw[hq]at q2;obtain⟨z',ih⟩:=zgr n k r init a page s (some (.sh (.int page))) hv2 (by omega);refine⟨z',?_⟩;have eg:zkj a b t ((page,s)::r)=zkj a page s r:=by rw[zkj,la hc]
   rw[eg,<-ih];refine zca rfl ((zqo (zhk q1 q2)).trans ?_);refine(z1y (ds':=(init++[(a,page,s)]).map TdD) rfl (za1 (ds:=[.int a,.int page,.bl s]) (zai (zaf (zaf rfl rfl hat) rfl rfl) (zai rfl (zai (zaf rfl rfl hv1) rfl))) rfl) rfl ?_).trans rfl;rw[em,em];exact zvg _ _ _
  ·have hq:(decide (b+1=page) && (t == s))=false:=by
    cases h1:decide (b+1=page) with
    |false=>rfl
    |true =>
     cases h2:t == s with
     |false=>rfl
     |true=>exact absurd ⟨yc h1,by simpa using h2⟩ hc
   rw[hq]at q2;obtain⟨z',ih⟩:=zgr n k r (init++[(a,b,t)]) page page s (some (.sh (.int page))) hv2 (by rw[zc,ig];omega);refine⟨z',?_⟩;have eg:init++zkj a b t ((page,s)::r)=init++[(a,b,t)]++zkj page page s r:=by rw[zkj,wa hc,cj];rfl
   rw[eg,<-ih];refine zca rfl ((zes (zhk q1 q2)).trans ?_);refine(zho (ds:=(init++[(a,b,t)]).map TdD) (d:=TdD (page,page,s)) rfl (za1 (ds:=[.int page,.int page,.bl s]) (zai rfl (zai rfl (zai (zaf rfl rfl hv1) rfl))) rfl) (by simp;omega)).trans ?_;show Out.nx [n,k,some (.sh (.dk (kz m) (dz m))),some (.ow ((init++[(a,b,t)]).map TdD++[TdD (page,page,s)])),some (.sh (.int page))]=_;simp only[lc,da,qe]
noncomputable def zhs(m:List (Int×Bool)):List (Int×Bool):=(zul (m.map Prod.fst)).map λk=>(k,(zcb m k).getD false)
theorem zvh(m:List (Int×Bool)):(zhs m).map (λx=>D.int x.1)=(zul (m.map Prod.fst)).map D.int:=by unfold zhs;rw[zd];rfl
theorem zvi{m:List (Int×Bool)}{x:Int×Bool}(h:x∈zhs m):zcb m x.1=some x.2:=by
 obtain⟨k,h1,rfl⟩:=ic.mp h;obtain⟨v,h2⟩:=zgo ((zdk _).mem_iff.mp h1);show zcb m k=some ((zcb m k).getD false);rw[h2];rfl
theorem ziw(m:List (Int×Bool)):(zhs m).length=m.length:=by unfold zhs;rw[ba,(zdk _).length_eq,ba]
theorem zrz{m:List (Int×Bool)}(n k:Option Sl)(hl:m.length<=1000):∃z',zew (gN 4) z6w ((zhs m).map λx=>D.int x.1) [n,k,some (.sh (.dk (kz m) (dz m))),some (.ow []),none]=.nx [n,k,some (.sh (.dk (kz m) (dz m))),some (.ow ((znd (zhs m)).map TdD)),z']:=by
 have hv:∀x∈zhs m,zcb m x.1=some x.2:=λx hx=>zvi hx
 have hsl:=ziw m
 cases hr:zhs m with
 |nil=>exact⟨none,rfl⟩
 |cons x r =>
  rw[hr]at hv hsl;obtain⟨page,s⟩:=x;rw[bb]at hsl;have hv1:zlk (.dk (kz m) (dz m)) (.int page)=some (.bl s):=z6u (hv (page,s) (by simp));obtain⟨z',ih⟩:=zgr n k r [] page page s (some (.sh (.int page))) (λx hx=>hv x (ja _ hx)) (by simp;omega);refine⟨z',?_⟩;show _=Out.nx [n,k,_,some (.ow (([]++zkj page page s r).map TdD)),z'];rw[<-ih];refine zca rfl ((zes (zqr (zb8 (zaf (za1 rfl rfl) rfl zuj)))).trans ?_);exact(zho (ds:=[]) (d:=TdD (page,page,s)) rfl (za1 (ds:=[.int page,.int page,.bl s]) (zai rfl (zai rfl (zai (zaf rfl rfl hv1) rfl))) rfl) (by simp)).trans rfl
theorem zkk{pg:List Int}(hpg:pg.length<=62)(p:D)(mks:List Mk)(hk:∀k∈mks,k.1<=k.2.1):z1n [.lst (pg.map D.int),.lst (mks.map (MkS p))]=some (.lst ((znd (zhs (za6 pg mks))).map TdD)):=by
 have hg:=zgq pg mks;have hl:=hg.len;obtain⟨z,h⟩:=zrz (m:=za6 pg mks) (some (.sh (.lst (pg.map D.int)))) (some (.sh (.lst (mks.map (MkS p))))) (by omega);refine zbf rfl (st (zap (zam rfl rfl (zry (by omega) p mks hk))) (st rfl (st (zb3 (ds:=(zhs (za6 pg mks)).map λx:Int×Bool=>D.int x.1) (zqp (d:=.lst ((zhs (za6 pg mks)).map λx:Int×Bool=>D.int x.1)) (zg2 ?_) rfl) h) rfl)));show zjy [.dk (kz (za6 pg mks)) (dz (za6 pg mks))]=_;unfold zjy;dsimp only;rw[zxv,zum,zvh];show (if ((za6 pg mks).map Prod.fst).length<64 then some _ else none)=_;rw[la (by rw[ba];omega)]
noncomputable def zxy:Rho->Out:=(zaw (sIf (zed (tE (e2 gGt (zaa 5) (eC (.int 0)))) (bOr (tE (zal 6)) (tE (e2 gGe (zaa 5) (zaa 1))))) (zaw (zbn 4 (e2 zbm (zaa 4) (eC (.int 1))))
  (zbn 5 (eC (.int 0)))) zbd)
  (zaw (zbn 5 (e2 zbm (zaa 5) (eC (.int 1))))
  (zd7 3 (zal 4))))
theorem zr0(a c:Option Sl)(most page filled:Int)(acc:List Int)(b:Bool)(hl:acc.length<=1000):∃p f,zxy [a,some (.sh (.int most)),c,some (.ow (acc.map D.int)),some (.sh (.int page)),some (.sh (.int filled)),some (.sh (.bl b))]=.nx [a,some (.sh (.int most)),c,some (.ow ((acc++[p]).map D.int)),some (.sh (.int p)),some (.sh (.int f)),some (.sh (.bl b))]:=by
 have q:zed (tE (e2 gGt (zaa 5) (eC (.int 0)))) (bOr (tE (zal 6)) (tE (e2 gGe (zaa 5) (zaa 1)))) [a,some (.sh (.int most)),c,some (.ow (acc.map D.int)),some (.sh (.int page)),some (.sh (.int filled)),some (.sh (.bl b))]=some (decide (0<filled) && (b || decide (most<=filled))):=z1d (zb8 (zaf rfl rfl zuj)) λ_=>z6a (zb8 rfl) λ_=>zb8 (zaf rfl rfl yag)
 have hz:(acc.map D.int).length<=100000:=by rw[ba];omega
 cases e:(decide (0<filled) && (b || decide (most<=filled))) with
 |true =>
  rw[e]at q;refine⟨page+1,0+1,st ((zqo q).trans (st (zap (zaf rfl rfl zdj)) (zap rfl))) (st (zap (zaf rfl rfl zdj)) ((zho (ds:=acc.map D.int) (d:=.int (page+1)) rfl rfl hz).trans ?_))⟩;rw[lc];rfl
 |false =>
  rw[e]at q;refine⟨page,filled+1,st ((zes q).trans rfl) (st (zap (zaf rfl rfl zdj)) ((zho (ds:=acc.map D.int) (d:=.int page) rfl rfl hz).trans ?_))⟩;rw[lc];rfl
theorem zkl(a c:Option Sl)(most:Int):∀(r:List Bool) (acc:List Int) (page filled:Int) (z:Option Sl),acc.length+r.length<=1000->∃(pg:List Int) (p f y:Option Sl),pg.length=acc.length+r.length/\zew (gN 6) zxy (r.map D.bl) [a,some (.sh (.int most)),c,some (.ow (acc.map D.int)),some (.sh (.int page)),some (.sh (.int filled)),z]=.nx [a,some (.sh (.int most)),c,some (.ow (pg.map D.int)),p,f,y]
 |[],acc,page,filled,z,_=>⟨acc,_,_,_,rfl,rfl⟩
 |b::r,acc,page,filled,z,hl=>by
  rw[bb]at hl;obtain⟨p,f,e⟩:=zr0 a c most page filled acc b (by omega);obtain⟨pg,p',f',y,h1,h2⟩:=zkl a c most r (acc++[p]) p f (some (.sh (.bl b))) (by rw[zc,ig];omega);refine⟨pg,p',f',y,by rw[h1,zc,ig,bb];omega,?_⟩;rw[da,<-h2];exact zca rfl e
theorem zvj(bs:List Bool)(hl:bs.length<=1000)(most first:Int):∃pg:List Int,pg.length=bs.length/\zlq [.lst (bs.map D.bl),.int most,.int first]=some (.lst (pg.map D.int)):=by
 obtain⟨pg,p,f,y,h1,h2⟩:=zkl (some (.sh (.lst (bs.map D.bl)))) (some (.sh (.int first))) most bs [] first 0 none (by rw[vc];omega)
 refine⟨pg,by rw[h1,vc];omega,zbf rfl (st rfl (st (zap rfl) (st (zap rfl) (st (zb3 rfl h2) rfl))))⟩
noncomputable abbrev Pth:=List (List Nat)
noncomputable abbrev M4:=Pth×Nat×Nat×Bool
noncomputable def mkE(x:M4):D:=MkD x.1 ((x.2.1:Nat):Int) ((x.2.2.1:Nat):Int) x.2.2.2
structure GdK(n:Nat)(x:M4):Prop where
 p:GdP x.1
 lo:x.2.1<=x.2.2.1
 hi:x.2.2.1<n
theorem zr1{x:M4}{n:Nat}(h:GdK n x):zcl [mkE x,.int (n:Nat)]=some (.bl true):=by
 refine zbf rfl (za4 ?_);have h1:=h.lo;have h2:=h.hi;refine(zj4 (x:=.int 0) (y:=.int ((x.2.1:Nat):Int)) (z:=.int ((x.2.2.1:Nat):Int)) (w:=.int (n:Nat)) rfl (zaf rfl rfl rfl) zui (λ_=>zaf rfl rfl rfl) (λ_=>zui) (λ_ _=>rfl) (λ_ _=>rfl)).trans ?_;rw[ib (show (0:Int)<=((x.2.1:Nat):Int) by omega),ib (show ((x.2.1:Nat):Int)<=((x.2.2.1:Nat):Int) by omega),ib (show ((x.2.2.1:Nat):Int)<((n:Nat):Int) by omega)];rfl
theorem z6x{np n:Nat}{f:Rho->Out}{ds:List D}{ρ:Rho}(hl:ds.length=np)(h:f (zdr n ds)=.nx ρ):fnR np n f ds=some .non:=by unfold fnR;rw[la hl,h]
theorem zr2{os:List M4}{n:Nat}(h:∀x∈os,GdK n x):zsx [.lst (os.map mkE),.int (n:Nat)]=some .non:=by
 have loop:∀(r:List M4) (a z:Option Sl),(∀x∈r,GdK n x)->∃y,zew (gN 2) (sIf (zc9 (tE (zao 2 zcl (aC (zal 2) (aC (zal 1) aN))))) z58 zbd) (r.map mkE) [a,some (.sh (.int (n:Nat))),z]=.nx [a,some (.sh (.int (n:Nat))),y]:=by
  intro r
  induction r with
  |nil=>intro a z _;exact⟨z,rfl⟩
  |cons x r ih =>
   intro a z hg;obtain⟨y,e⟩:=ih a (some (.sh (mkE x))) λw hw=>hg w (ja _ hw)
   refine⟨y,?_⟩;rw[da,<-e];exact zca rfl ((zes (zdi (b:=true) (zb8 (zam rfl rfl (zr1 (hg x xa)))))).trans rfl)
 obtain⟨y,e⟩:=loop os (some (.sh (.lst (os.map mkE)))) none h;exact z6x rfl (zb3 rfl e)
theorem z6y{x:M4}(h:GdP x.1):GdM (mkE x):=⟨_,_,_,_,h,rfl⟩
theorem zr3{α β:Type}{f:α->β}{ms:List α}:∀(l:List β),(∀d∈l,d∈ms.map f)->∃os:List α,l=os.map f/\∀x∈os,x∈ms
 |[],_=>⟨[],rfl,λx hx=>by cases hx⟩
 |d::r,h=>by
  obtain⟨x,h1,h2⟩:=ic.mp (h d xa);obtain⟨os,h3,h4⟩:=zr3 r λe he=>h e (ja _ he)
  refine⟨x::os,by rw[da,h2,<-h3],λy hy=>?_⟩;rcases pb.mp hy with rfl|hy
  ·exact h1
  ·exact h4 y hy
theorem z11{ms:List M4}(h:∀x∈ms,GdP x.1)(hl:ms.length<=60):∃os:List M4,zfl [.lst [.lst (ms.map mkE)]]=some (os.map mkE)/\(∀x∈os,x∈ms)/\os.length<=ms.length/\(ms≠[]->os≠[])/\os.Pairwise λa b=>ltK zee (mkE a) (mkE b)=true:=by
 have hg:∀d∈[ms.map mkE].flatten,GdM d:=λd hd=>by
  rw[ah,io,zb]at hd;obtain⟨x,hx,rfl⟩:=ic.mp hd;exact z6y (h x hx)
 have hf:[ms.map mkE].flatten=ms.map mkE:=by rw[ah,io,zb]
 have hd:(dd [ms.map mkE].flatten).length<=ms.length:=by
  have:=zgn (zrs [ms.map mkE].flatten) λd hd=>zfg.mp hd
  rw[hf,ba]at this;rw[hf];exact this
 have e:=zki (hs:=[ms.map mkE]) hg (by rw[hf,ba];omega) (by omega);have hp:=zcj (ltK zee) (dd [ms.map mkE].flatten)
 obtain⟨os,h1,h2⟩:=zr3 (f:=mkE) (ms:=ms) (zm2 (ltK zee) (dd [ms.map mkE].flatten)) λd hd=>by
  have:=zfg.mp (hp.mem_iff.mp hd)
  rw[hf]at this;exact this
 refine⟨os,by rw[<-h1];exact e,h2,?_,λhne hos=>?_,?_⟩
 ·have:=ef List.length h1
  rw[hp.length_eq,ba]at this;omega
 ·obtain⟨x,r,rfl⟩:=dm hne
  have hx:mkE x∈zm2 (ltK zee) (dd [(x::r).map mkE].flatten):=hp.mem_iff.mpr (zfg.mpr (by rw[hf];exact ic.mpr ⟨x,xa,rfl⟩));rw[h1,hos]at hx;cases hx
 ·have up:=zie (zlr.ltT λd hd=>hg d (zfg.mp hd)) (l:=dd [ms.map mkE].flatten) (λy hy=>hy) (zrs _)
  rw[h1]at up;exact jj.mp up
noncomputable abbrev pD(p:Pth):D:=.tup (p.map D.str)
noncomputable def pK(p:Pth):List Key:=p.map λl=>Sum.inr (S l)
theorem ztl{i j:List Nat}(h:S i=S j):i=j:=zrg (show D.str i=D.str j by unfold D.str;rw[h])
theorem zne:∀{p q:Pth},pK p=pK q->p=q
 |[],[],_=>rfl
 |a::p,b::q,h=>by
  have h:(Sum.inr (S a):Key)::pK p=Sum.inr (S b)::pK q:=h;obtain⟨h1,h2⟩:=uk h;rw[ztl (Sum.inr.inj h1),zne h2]
 |[],_::_,h=>by cases h
 |_::_,[],h=>by cases h
theorem znf:∀p:Pth,zf2 (p.map D.str)=some (pK p)
 |[]=>rfl
 |a::p=>by
  rw[da,zf2,znf p];rfl
theorem zkm(p:Pth):zfc (pD p)=some (pK p):=znf p
theorem zxz{p q:Pth}(h:pD p=pD q):p=q:=by
 have h1:=zkm p;rw[h,zkm]at h1;exact zne (kc h1.symm)
theorem z6z(p:Pth):ktD (pK p)=pD p:=by
 unfold ktD pK;rw[zd];rfl
theorem zix{β γ:Type}(enc:β->γ)(p:Pth):∀m:List (Pth×β),zcb (m.map λe=>(pK e.1,enc e.2)) (pK p)=(zcb m p).map enc
 |[]=>rfl
 |a::m=>by
  rw[da,zck,zck,zix enc p m];by_cases e:a.1=p
  ·rw[la e,la (by rw[e])];rfl
  ·rw[wa e,wa (λz=>e (zne z))]
theorem zr4{β:Type}(enc:β->D):∀m:List (Pth×β),(m.map λe=>pK e.1).zip (m.map λe=>enc e.2)=m.map λe=>(pK e.1,enc e.2)
 |[]=>rfl
 |a::m=>by rw[da,da,vg,zr4 enc m,da]
theorem z60{β:Type}(enc:β->D)(m:List (Pth×β))(p:Pth):zd5 (.dt (m.map λe=>pK e.1) (m.map λe=>enc e.2)) (pD p)=some ((zcb m p).map enc):=by
 unfold zd5;show (zfc (pD p)).map _=_;rw[zkm,je,zr4,zix]
theorem ndl{α:Type}:∀{l m:List α},l.Nodup->(∀d∈l,d∈m)->l.length<=m.length
 |[],m,_,_=>ud _
 |x::r,m,h,hs=>by
  have h':=qg.mp h;obtain⟨m1,m2,e⟩:=gm (hs x xa)
  have:=ndl (m:=m1++m2) h'.2 λd hd=>by
   have h1:=hs d (ja _ hd);rw[e]at h1;have hne:d≠x:=λz=>h'.1 (by rw[<-z];exact hd)
   simp only[gc,pb]at h1 ⊢;rcases h1 with h1|h1|h1
   ·exact .inl h1
   ·exact absurd h1 hne
   ·exact .inr h1
  rw[e];simp at this ⊢;omega
noncomputable def ziy(ms:List M4):List Pth:=ms.flatMap λx=>(List.range x.1.length).map λk=>x.1.take (k+1)
theorem zkn{ms:List M4}{x:M4}(hx:x∈ms){k:Nat}(h1:1<=k)(h2:k<=x.1.length):x.1.take k∈ziy ms :=
 List.mem_flatMap.mpr ⟨x,hx,ic.mpr ⟨k - 1,lg.mpr (by omega),by rw[show k - 1+1=k by omega]⟩⟩
theorem zng{ms:List M4}(h:∀x∈ms,GdP x.1){p:Pth}(hp:p∈ziy ms):GdP p:=by
 obtain⟨x,hx,h2⟩:=List.mem_flatMap.mp hp;obtain⟨k,hk,rfl⟩:=ic.mp h2;have g:=h x hx;have hk:=lg.mp hk
 have:=g.len
 exact⟨λy hy=>g.g y (el hy),by rw[cf];omega,by rw[cf];omega⟩
theorem zko:∀{ms:List M4},(∀x∈ms,GdP x.1)->(ziy ms).length<=6 * ms.length
 |[],_=>ud _
 |x::ms,h=>by
  have ih:=zko (ms:=ms) λy hy=>h y (ja _ hy)
  have:=(h x xa).len
  unfold ziy at ih ⊢;rw[List.flatMap_cons,zc,ba,xm,bb];omega
noncomputable def gE(e:Pth×List M4):List Key×List D:=(pK e.1,e.2.map mkE)
structure MI(ms:List M4)(N:Nat)(m:List (Pth×List M4)):Prop where
 nd:(m.map Prod.fst).Nodup
 sub:∀e∈m,e.1∈ziy ms
 mm:∀e∈m,∀x∈e.2,x.1=e.1/\x∈ms
 ln:∀e∈m,e.2.length<=N
theorem MI.len{ms:List M4}{N:Nat}{m:List (Pth×List M4)}(h:MI ms N m)(hg:∀x∈ms,GdP x.1):m.length<=6 * ms.length:=by
 have:=ndl h.nd (m:=ziy ms) λp hp=>by
  obtain⟨e,he,rfl⟩:=ic.mp hp;exact h.sub e he
 rw[ba]at this;exact ed this (zko hg)
noncomputable def sd(m:List (Pth×List M4))(p:Pth):List (Pth×List M4):=if (zcb m p).isSome=true then m else m++[(p,[])]
theorem z61(m:List (Pth×List M4))(p:Pth):zop (m.map gE) (pK p)=(sd m p).map gE:=by
 unfold zop sd
 have:zcb (m.map gE) (pK p)=(zcb m p).map (List.map mkE):=zix (List.map mkE) p m
 rw[this,vh];split
 ·rfl
 ·rw[lc];rfl
theorem zfp{β:Type}{m:List (Pth×β)}{p:Pth}:(zcb m p).isSome=true↔p∈m.map Prod.fst:=by
 constructor
 ·intro h
  refine Classical.byContradiction λz=>?_
  rw[zrv z]at h;cases h
 ·intro h
  obtain⟨v,e⟩:=zgo h;rw[e];rfl
theorem MI.sd{ms:List M4}{N:Nat}{m:List (Pth×List M4)}(h:MI ms N m){p:Pth}(hp:p∈ziy ms):MI ms N (K16.sd m p)/\p∈(K16.sd m p).map Prod.fst:=by
 unfold K16.sd;split
 ·rename_i hs
  exact⟨h,zfp.mp hs⟩
 ·rename_i hs
  have hn:p ∉ m.map Prod.fst:=λz=>hs (zfp.mpr z)
  refine⟨⟨?_,λe he=>?_,λe he=>?_,λe he=>?_⟩,by simp⟩
  ·rw[lc]
   exact List.nodup_append.mpr ⟨h.nd,by simp,λ a ha b hb z=>hn (by
    have:b=p:=by simpa using hb
    rw[<-this,<-z];exact ha)⟩
  ·rcases gc.mp he with he|he
   ·exact h.sub e he
   ·rw[jb.mp he];exact hp
  ·rcases gc.mp he with he|he
   ·exact h.mm e he
   ·rw[jb.mp he];intro x hx;cases hx
  ·rcases gc.mp he with he|he
   ·exact h.ln e he
   ·rw[jb.mp he];exact ud _
noncomputable def ap(p:Pth)(x:M4):List (Pth×List M4)->List (Pth×List M4)
 |[]=>[]
 |e::r=>if e.1=p then (e.1,e.2++[x])::r else e::ap p x r
theorem z62(p:Pth)(x:M4):∀m:List (Pth×List M4),zik (pK p) (mkE x) (m.map gE)=(ap p x m).map gE
 |[]=>rfl
 |e::r=>by
  rw[da,zik,ap];by_cases h:e.1=p
  ·rw[la h,la (show (gE e).1=pK p by rw[<-h];rfl),da]
   refine ef (·::_) ?_;show (pK e.1,e.2.map mkE++[mkE x])=(pK e.1,(e.2++[x]).map mkE);rw[lc];rfl
  ·rw[wa h,wa (show ¬(gE e).1=pK p from λz=>h (zne z)),da,z62 p x r]
theorem zr5(p:Pth)(x:M4):∀m:List (Pth×List M4),(ap p x m).map Prod.fst=m.map Prod.fst
 |[]=>rfl
 |e::r=>by
  rw[ap];split
  ·rfl
  ·rw[da,da,zr5 p x r]
theorem znh{p:Pth}{x:M4}{e:Pth×List M4}:∀{m:List (Pth×List M4)},e∈ap p x m->e∈m\/∃f∈m,f.1=p/\e=(f.1,f.2++[x])
 |[],h=>by cases h
 |f::r,h=>by
  rw[ap]at h
  split at h
  ·rename_i hf
   rcases pb.mp h with rfl|h
   ·exact .inr ⟨f,xa,hf,rfl⟩
   ·exact .inl (ja _ h)
  ·rcases pb.mp h with rfl|h
   ·exact .inl xa
   ·rcases znh h with h|⟨g,h1,h2⟩
    ·exact .inl (ja _ h)
    ·exact .inr ⟨g,ja _ h1,h2⟩
theorem MI.ap{ms:List M4}{N:Nat}{m:List (Pth×List M4)}(h:MI ms N m){x:M4}(hx:x∈ms):MI ms (N+1) (K16.ap x.1 x m) where
 nd:=by rw[zr5];exact h.nd
 sub:=λe he=>by
  rcases znh he with he|⟨f,h1,_,rfl⟩
  ·exact h.sub e he
  ·exact h.sub f h1
 mm:=λe he y hy=>by
  rcases znh he with he|⟨f,h1,h2,rfl⟩
  ·exact h.mm e he y hy
  ·rcases gc.mp hy with hy|hy
   ·exact h.mm f h1 y hy
   ·rw[jb.mp hy];exact⟨h2.symm,hx⟩
 ln:=λe he=>by
  rcases znh he with he|⟨f,h1,_,rfl⟩
  ·exact wm (h.ln e he)
  ·have:=h.ln f h1
   show (f.2++[x]).length<=_;rw[zc,ig];omega
def NE(m:List (Pth×List M4)):Prop:=∃e∈m,e.2≠[]
theorem NE.sd{m:List (Pth×List M4)}(h:NE m)(p:Pth):NE (K16.sd m p):=by
 obtain⟨e,h1,h2⟩:=h;unfold K16.sd;split
 ·exact⟨e,h1,h2⟩
 ·exact⟨e,we _ h1,h2⟩
theorem zx0{p:Pth}{x:M4}:∀{m:List (Pth×List M4)},p∈m.map Prod.fst->∃f∈ap p x m,f.2≠[]
 |[],h=>by cases h
 |f::r,h=>by
  rw[ap];split
  ·exact⟨_,xa,by simp⟩
  ·rename_i hf
   rw[da,pb]at h;obtain⟨g,h1,h2⟩:=zx0 (x:=x) (h.resolve_left λz=>hf z.symm);exact⟨g,ja _ h1,h2⟩
theorem zkp{gt:D->Rho->Option Rho}{f:GG}{d:D}{r:List D}{ρ ρ1:Rho}{gd:GD}{z:Rho×GD}(h1:gt d ρ=some ρ1)(h2:f ρ1 gd=some z):zre gt f (d::r) ρ gd=zre gt f r z.1 z.2:=by
 rw[zre,h1,za,h2,za]
theorem z63{fk:Rho->Option D}{ρ:Rho}{m:List (Pth×List M4)}{p:Pth}(h:fk ρ=some (pD p))(hl:m.length<100000):gSd fk ρ (m.map gE)=some (ρ,(sd m p).map gE):=by
 unfold gSd;rw[h,za,zkm,za,la (by rw[ba];exact hl),z61]
theorem z64{fk fv:Rho->Option D}{ρ:Rho}{m:List (Pth×List M4)}{p:Pth}{x:M4}(h:fk ρ=some (pD p))(hv:fv ρ=some (mkE x))(hl:m.length<100000)(hn:∀e∈m,e.2.length<100000):gSa fk fv ρ (m.map gE)=some (ρ,(ap p x (sd m p)).map gE):=by
 unfold gSa
 have hc:(m.map gE).length<100000/\((m.map gE).all λx=>decide (x.2.length<100000))=true:=by
  refine⟨by rw[ba];exact hl,df.mpr λy hy=>?_⟩;obtain⟨e,he,rfl⟩:=ic.mp hy;refine ib ?_;show (e.2.map mkE).length<_;rw[ba];exact hn e he
 rw[h,za,zkm,za,hv,za,la hc,z73,z61,z62]
theorem zvk{p:Pth}(h:GdP p):zdw [pD p]=some (.lst (p.map rkD)):=zrq p h.asc (ed h.len (by decide))
theorem zr6:∀{e q:Pth},e <+: q->e≠q->plt e q=true
 |[],[],_,h=>absurd rfl h
 |[],_::_,_,_=>rfl
 |a::e,[],h,_=>by simp at h
 |a::e,b::q,h,hn=>by
  obtain⟨rfl,h'⟩:=aj.mp h;rw[plt,la rfl];exact zr6 h' λz=>hn (by rw[z])
theorem zr7:∀{q x e y:Pth},q <+: x->e <+: y->plt q e=true->plt x y=false->q <+: y
 |[],_,_,_,_,_,_,_=>List.nil_prefix
 |a::q,x,e,y,h1,h2,h3,h4=>by
  cases x with
  |nil=>simp at h1
  |cons c x =>
   obtain⟨rfl,g1⟩:=aj.mp h1
   cases e with
   |nil=>rw[plt]at h3;cases h3
   |cons b e =>
    cases y with
    |nil=>simp at h2
    |cons d y =>
     obtain⟨rfl,g2⟩:=aj.mp h2;rw[plt]at h3 h4;by_cases z:a=b
     ·subst z
      rw[la rfl]at h3 h4;exact aj.mpr ⟨rfl,zr7 g1 g2 h3 h4⟩
     ·rw[wa z]at h3 h4
      rw[h3]at h4;cases h4
theorem z12{p q:Pth}(hp:GdP p)(hq:GdP q):ltK zdw (pD p) (pD q)=plt p q:=by
 unfold ltK;rw[zd9 (zvk hp),zd9 (zvk hq),dlt,zhr hp.nc hq.nc]
theorem z13{p q:Pth}(hp:GdP p)(hq:GdP q):p=q\/plt p q=true\/plt q p=true:=by
 rcases zev.tot _ _ (crk p) (crk q) with z|z|z
 ·exact .inl (ziq hp hq (D.lst.inj z))
 ·rw[dlt,zhr hp.nc hq.nc]at z;exact .inr (.inl z)
 ·rw[dlt,zhr hq.nc hp.nc]at z;exact .inr (.inr z)
theorem z65{a b:M4}(ha:GdP a.1)(hb:GdP b.1)(h:ltK zee (mkE a) (mkE b)=true):plt b.1 a.1=false:=by
 have ra:rk zee (mkE a)=.tup [.lst (a.1.map rkD),.int ((a.2.1:Nat):Int),.int ((a.2.2.1:Nat):Int),.bl a.2.2.2]:=zd9 (za5 ha _ _ _);have rb:rk zee (mkE b)=.tup [.lst (b.1.map rkD),.int ((b.2.1:Nat):Int),.int ((b.2.2.1:Nat):Int),.bl b.2.2.2]:=zd9 (za5 hb _ _ _);unfold ltK at h;rw[ra,rb,dlt,zcr]at h;by_cases e:a.1=b.1
 ·rw[e]
  have:=zev.irr (crk b.1)
  rwa [dlt,zhr hb.nc hb.nc]at this
 ·have hne:¬deq (.lst (a.1.map rkD)) (.lst (b.1.map rkD))=true:=λz=>e (ziq ha hb (D.lst.inj ((zev.eq _ _ (crk a.1) (crk b.1)).mp z)))
  rw[wa hne]at h
  have:=zev.as _ _ (crk a.1) (crk b.1) h
  rwa [dlt,zhr hb.nc ha.nc]at this
structure AI(ds:List M4)(x:Pth)(k:Nat)(K:List Pth):Prop where
 up:K.Pairwise λa b=>plt a b=true
 fr:∀e∈K,(∃y∈ds,e <+: y.1)\/∃l,l<k/\e=x.take l
 th:∀y∈ds,∀l,1<=l->l<=y.1.length->y.1.take l∈K
 me:∀l,1<=l->l<k->x.take l∈K
theorem z14(m:List (Pth×List M4))(p:Pth):(sd m p).map Prod.fst=if p∈m.map Prod.fst then m.map Prod.fst else m.map Prod.fst++[p]:=by
 unfold sd;by_cases h:p∈m.map Prod.fst
 ·rw[la (zfp.mpr h),la h]
 ·rw[wa (λz=>h (zfp.mp z)),wa h,lc];rfl
theorem z15{x e:Pth}(g:GdP x)(h:e <+: x)(hp:1<=e.length):GdP e:=⟨λy hy=>g.g y (h.subset hy),ed h.length_le g.len,hp⟩
theorem AI.sd{ds:List M4}{x:Pth}{k:Nat}{m:List (Pth×List M4)}(h:AI ds x k (m.map Prod.fst))(gx:GdP x)(hd:∀y∈ds,GdP y.1/\plt x y.1=false)(hK:∀e∈m.map Prod.fst,GdP e)(h1:1<=k)(h2:k<=x.length):AI ds x (k+1) ((K16.sd m (x.take k)).map Prod.fst):=by
 rw[z14]
 have hme:∀{K:List Pth},(∀l,1<=l->l<k->x.take l∈K)->x.take k∈K->∀l,1<=l->l<k+1->x.take l∈K:=λa b l l1 l2=>by
  by_cases e:l=k
  ·rw[e];exact b
  ·exact a l l1 (by omega)
 split
 ·rename_i hin
  exact⟨h.up,λe he=>(h.fr e he).imp id λ⟨l,l1,l2⟩=>⟨l,by omega,l2⟩,h.th,hme h.me hin⟩
 ·rename_i hin
  refine⟨il.mpr ⟨h.up,zj _ _,λe he q hq=>?_⟩,λe he=>?_,λy hy l l1 l2=>we _ (h.th y hy l l1 l2),hme (λl l1 l2=>we _ (h.me l l1 l2)) (pc _ (jb.mpr rfl))⟩
  ·rw[jb.mp hq]
   have hne:e≠x.take k:=λz=>hin (by rw[<-z];exact he)
   have gq:GdP (x.take k):=z15 gx (jo _ _) (by rw[cf];omega);rcases h.fr e he with⟨y,hy,hp⟩|⟨l,l1,rfl⟩
   ·rcases z13 (hK e he) gq with z|z|z
    ·exact absurd z hne
    ·exact z
    ·have hpre:=zr7 (jo k x) hp z (hd y hy).2
     have hl:=hpre.length_le;rw[cf,pi h2]at hl;refine absurd ?_ hin
     have e2:x.take k=y.1.take k:=by
      have:=List.prefix_iff_eq_take.mp hpre
      rwa [cf,pi h2]at this
     rw[e2];exact h.th y hy k h1 hl
   ·exact zr6 (List.take_prefix_take_left (vo l1)) hne
  ·rcases gc.mp he with he|he
   ·exact(h.fr e he).imp id λ⟨l,l1,l2⟩=>⟨l,by omega,l2⟩
   ·exact .inr ⟨k,by omega,jb.mp he⟩
structure AJ(ds:List M4)(K:List Pth):Prop where
 up:K.Pairwise λa b=>plt a b=true
 fr:∀e∈K,∃y∈ds,e <+: y.1
 th:∀y∈ds,∀l,1<=l->l<=y.1.length->y.1.take l∈K
theorem AJ.start{ds:List M4}{K:List Pth}(h:AJ ds K)(x:Pth):AI ds x 1 K:=⟨h.up,λe he=>.inl (h.fr e he),h.th,λl l1 l2=>by omega⟩
theorem AI.end_{ds:List M4}{x:M4}{K:List Pth}(h:AI ds x.1 (x.1.length+1) K):AJ (ds++[x]) K where
 up:=h.up
 fr:=λe he=>by
  rcases h.fr e he with⟨y,hy,z⟩|⟨l,_,z⟩
  ·exact⟨y,we _ hy,z⟩
  ·exact⟨x,pc _ (jb.mpr rfl),by rw[z];exact jo _ _⟩
 th:=λy hy l l1 l2=>by
  rcases gc.mp hy with hy|hy
  ·exact h.th y hy l l1 l2
  ·rw[jb.mp hy]at l2 ⊢
   exact h.me l l1 (by omega)
noncomputable abbrev slP:Rho->Option D:=eSl (zaa 3) oN (oS (zaa 4))
theorem MI.gd{ms:List M4}{N:Nat}{m:List (Pth×List M4)}(h:MI ms N m)(hg:∀x∈ms,GdP x.1){p:Pth}(hp:p∈m.map Prod.fst):GdP p:=by
 obtain⟨e,he,rfl⟩:=ic.mp hp;exact zng hg (h.sub e he)
theorem zni{ms:List M4}(hg:∀x∈ms,GdP x.1)(hm:ms.length<=60){x:M4}(hx:x∈ms){N:Nat}{dn:List M4}(hd:∀y∈dn,GdP y.1/\plt x.1 y.1=false)(a b:Option Sl):∀(n k:Nat) (m:List (Pth×List M4)) (z:Option Sl),1<=k->k+n<=x.1.length->MI ms N m->AI dn x.1 k (m.map Prod.fst) →
  ∃m' y,zre (gN 4) (gSd slP) (zmj ((k:Nat):Int) n) [a,none,b,some (.sh (pD x.1)),z] (m.map gE)=some ([a,none,b,some (.sh (pD x.1)),y],m'.map gE)/\MI ms N m'/\(NE m->NE m')/\AI dn x.1 (k+n) (m'.map Prod.fst)
 |0,k,m,z,_,_,h,hA=>⟨m,z,rfl,h,id,hA⟩
 |n+1,k,m,z,h1,h2,h,hA=>by
  have h3:=(h.sd (zkn hx h1 (by omega))).1;obtain⟨m',y,e,h4,h5,h6⟩:=zni hg hm hx hd a b n (k+1) (sd m (x.1.take k)) (some (.sh (.int (k:Nat)))) (by omega) (by omega) h3 (hA.sd (hg x hx) hd (λe he=>h.gd hg he) h1 (by omega));refine⟨m',y,?_,h4,λz=>h5 (z.sd _),by rw[show k+(n+1)=k+1+n by omega];exact h6⟩;rw[zkb,<-e]
  have hs:slP [a,none,b,some (.sh (pD x.1)),some (.sh (.int (k:Nat)))]=some (pD (x.1.take k)):=by
   show some (D.tup (zle (x.1.map D.str) none (some ((k:Nat):Int))))=_;rw[z5f,<-vq]
  have:=h.len hg
  exact zkp rfl (z63 hs (by omega))
noncomputable def zr8:GG:=(zoh (z74 3 (e2 gIx (zaa 2) (eC (.int 0))))
  (zoh (zxi (iR zwz (aC (eC (.int 1)) (aC (eN zct (aC (zaa 3) aN)) aN))) (gN 4) (gSd (eSl (zaa 3) oN (oS (zaa 4)))))
  (gSa (zaa 3) (zal 2))))
theorem zr9{ms:List M4}(hg:∀x∈ms,GdP x.1)(hm:ms.length<=60)(a:Option Sl):∀(os dn:List M4) (m:List (Pth×List M4)) (N:Nat) (z2 z3 z4:Option Sl),(∀x∈os,x∈ms)->N+os.length<=1000->MI ms N m->AJ dn (m.map Prod.fst)->((dn++os).Pairwise λa b=>plt b.1 a.1=false)->(∀x∈dn,GdP x.1) →
  ∃m' ρ',zre (gN 2) zr8 (os.map mkE) [a,none,z2,z3,z4] (m.map gE)=some (ρ',m'.map gE)/\MI ms (N+os.length) m'/\(NE m\/os≠[]->NE m')/\AJ (dn++os) (m'.map Prod.fst)
 |[],dn,m,N,z2,z3,z4,_,_,h,hJ,_,_=>⟨m,_,rfl,h,λz=>z.resolve_right λz=>z rfl,by rw[zb];exact hJ⟩
 |x::os,dn,m,N,z2,z3,z4,hs,hN,h,hJ,hO,hD=>by
  rw[bb]at hN;have hx:=hs x xa;have gx:=hg x hx;have gl:=gx.len;have gp:=gx.pos;have hd:∀y∈dn,GdP y.1/\plt x.1 y.1=false:=λy hy=>⟨hD y hy,(il.mp hO).2.2 y hy x xa⟩
  obtain⟨m1,y,e1,h1,_,hA⟩:=zni hg hm hx hd a (some (.sh (mkE x))) (x.1.length - 1) 1 m z4 (va _) (by omega) h (hJ.start x.1);have hA2:=hA.sd gx hd (λe he=>h1.gd hg he) (by omega) (by omega);rw[show 1+(x.1.length - 1)=x.1.length by omega,zn]at hA2
  have hp:x.1∈ziy ms:=by
   have:=zkn hx gp (va _)
   rwa [zn]at this
  obtain⟨h2,hin⟩:=h1.sd hp
  obtain⟨m',ρ',e,h4,h6,h7⟩:=zr9 hg hm a os (dn++[x]) (ap x.1 x (sd m1 x.1)) (N+1) (some (.sh (mkE x))) (some (.sh (pD x.1))) y (λy hy=>hs y (ja _ hy)) (by omega) (h2.ap hx) (by rw[zr5];exact hA2.end_) (by rw[cj];exact hO) λz hz=>by
   rcases gc.mp hz with hz|hz
   ·exact hD z hz
   ·rw[jb.mp hz];exact gx
  refine⟨m',ρ',?_,by rw[bb,show N+(os.length+1)=N+1+os.length by omega];exact h4,λ_=>h6 (.inl (zx0 hin)),by rw[cj]at h7;exact h7⟩;rw[da,<-e];refine zkp (ρ1:=[a,none,some (.sh (mkE x)),z3,z4]) (z:=([a,none,some (.sh (mkE x)),some (.sh (pD x.1)),y],(ap x.1 x (sd m1 x.1)).map gE)) rfl ?_;have l1:z74 3 (e2 gIx (zaa 2) (eC (.int 0))) [a,none,some (.sh (mkE x)),z3,z4] (m.map gE)=some ([a,none,some (.sh (mkE x)),some (.sh (pD x.1)),z4],m.map gE):=rfl
  have r2:iR zwz (aC (eC (.int 1)) (aC (eN zct (aC (zaa 3) aN)) aN)) [a,none,some (.sh (mkE x)),some (.sh (pD x.1)),z4]=some (zmj ((1:Nat):Int) (x.1.length - 1)):=by
   refine zuf (ds:=[.int 1,.int ((x.1.length:Nat):Int)]) (zai rfl (zai (za1 rfl ?_) rfl)) ?_
   ·show some (D.int (((x.1.map D.str).length:Nat):Int))=_
    rw[ba]
   ·refine(z0o (by decide) (by decide) (by omega) (by omega)).trans ?_
    rw[show (((x.1.length:Nat):Int) - 1).toNat=x.1.length - 1 by omega];rfl
  have l2:zxi (iR zwz (aC (eC (.int 1)) (aC (eN zct (aC (zaa 3) aN)) aN))) (gN 4) (gSd (eSl (zaa 3) oN (oS (zaa 4)))) [a,none,some (.sh (mkE x)),some (.sh (pD x.1)),z4] (m.map gE)=some ([a,none,some (.sh (mkE x)),some (.sh (pD x.1)),y],m1.map gE):=by
   unfold zxi;rw[r2,za];exact e1
  have l3:gSa (zaa 3) (zal 2) [a,none,some (.sh (mkE x)),some (.sh (pD x.1)),y] (m1.map gE)=some ([a,none,some (.sh (mkE x)),some (.sh (pD x.1)),y],(ap x.1 x (sd m1 x.1)).map gE):=by
   have:=h1.len hg
   exact z64 rfl rfl (by omega) λe he=>by have:=h1.ln e he;omega
  show zr8 _ _=_;unfold zr8 zoh;rw[l1,za];dsimp only;rw[l2,za];exact l3
noncomputable def dtD(m:List (Pth×List M4)):D:=.dt (m.map λe=>pK e.1) (m.map λe=>.lst (e.2.map mkE))
theorem zsa{ms os:List M4}(hg:∀x∈ms,GdP x.1)(hm:ms.length<=60)(hs:∀x∈os,x∈ms)(hl:os.length<=60)(ho:os.Pairwise λa b=>plt b.1 a.1=false):∃m,z1o [.lst (os.map mkE)]=some (dtD m)/\MI ms os.length m/\(os≠[]->NE m)/\(m.map Prod.fst).Pairwise λa b=>plt a b=true:=by
 obtain⟨m,ρ',e,h,hne,hJ⟩:=zr9 hg hm (some (.sh (.lst (os.map mkE)))) os [] [] 0 none none none hs (by omega) ⟨kh,(λe he=>nomatch he),(λe he=>nomatch he),(λe he=>nomatch he)⟩ ⟨.nil,(λe he=>nomatch he),(λy hy=>nomatch hy)⟩ ho (λx hx=>nomatch hx);rw[re]at h;refine⟨m,zbf rfl ?_,h,λz=>hne (.inr z),hJ.up⟩;show z6f 1 (zxi (iE (zal 0)) (gN 2) zr8) [some (.sh (.lst (os.map mkE))),none,none,none,none]=_;unfold z6f;have e':zxi (iE (zal 0)) (gN 2) zr8 [some (.sh (.lst (os.map mkE))),none,none,none,none] []=some (ρ',m.map gE):=e;simp only[lb,bc];refine(la rfl).trans ?_;rw[e'];dsimp only;rw[zd,zd];rfl
theorem ya7{ks:List Pth}(hg:∀p∈ks,GdP p)(nd:ks.Nodup)(up:ks.Pairwise λa b=>plt a b=true)(sm:ks.length<=1000):KOk zdw (ks.map pD):=by
 have ga:∀d∈ks.map pD,∃p,GdP p/\d=pD p/\rk zdw d=.lst (p.map rkD):=λd hd=>by
  obtain⟨p,hp,rfl⟩:=ic.mp hd;exact⟨p,hg p hp,rfl,zd9 (zvk (hg p hp))⟩
 refine⟨λd hd=>?_,.inl λd hd=>?_,λd hd e he=>?_,⟨λa ha b hb c hc h1 h2=>?_,λa ha b hb=>?_,λa ha b hb h=>?_⟩,?_,.inr (jj.mpr (gn (λ{a b} ha hb h=>by rw[z12 (hg a ha) (hg b hb)];exact h) up)),by rw[ba];exact sm⟩
 ·obtain⟨p,g,rfl,_⟩:=ga d hd
  exact⟨_,zvk g,z1u p⟩
 ·obtain⟨p,g,rfl,e⟩:=ga d hd
  rw[e];rfl
 ·obtain⟨p,g,rfl,e1⟩:=ga d hd
  obtain⟨q,g2,rfl,e2⟩:=ga e he;rw[e1,e2];exact zev.ok _ _ (crk p) (crk q)
 ·obtain⟨p,g,rfl,e1⟩:=ga a ha
  obtain⟨q,g2,rfl,e2⟩:=ga b hb;obtain⟨r,g3,rfl,e3⟩:=ga c hc;unfold ltK at h1 h2 ⊢;rw[e1,e2]at h1;rw[e2,e3]at h2;rw[e1,e3];exact zev.tr _ _ _ (crk p) (crk q) (crk r) h1 h2
 ·obtain⟨p,g,rfl,e1⟩:=ga a ha
  obtain⟨q,g2,rfl,e2⟩:=ga b hb;unfold ltK;rw[e1,e2];rcases zev.tot _ _ (crk p) (crk q) with z|z
  ·exact .inl (by rw[ziq g g2 (D.lst.inj z)])
  ·exact .inr z
 ·obtain⟨p,g,rfl,e1⟩:=ga a ha
  obtain⟨q,g2,rfl,e2⟩:=ga b hb;unfold ltK at h ⊢;rw[e1,e2]at h;rw[e1,e2];exact zev.as _ _ (crk p) (crk q) h
 ·exact jj.mpr (List.Pairwise.imp (λ{a b} h e=>h (zxz e)) nd)
theorem z16{α β:Type}{f:α->β}{l m:List β}(h:l.Perm m):∀{ks:List α},m=ks.map f->∃ks':List α,l=ks'.map f/\ks'.Perm ks:=by
 induction h with
 |nil =>
  intro ks e
  cases ks with
  |nil=>exact⟨[],rfl,.refl _⟩
  |cons a r=>cases e
 |cons x _ ih =>
  intro ks e
  cases ks with
  |nil=>cases e
  |cons a r =>
   obtain⟨e1,e2⟩:=uk e;obtain⟨r',h1,h2⟩:=ih e2;exact⟨a::r',by rw[da,e1,h1],h2.cons a⟩
 |swap x y l =>
  intro ks e
  match ks,e with
  |[],e=>cases e
  |[a],e=>cases e
  |a::b::r,e =>
   obtain⟨e1,e2⟩:=uk e;obtain⟨e2,e3⟩:=uk e2;exact⟨b::a::r,by rw[da,da,e1,e2,e3],lq a b r⟩
 |trans _ _ ih1 ih2 =>
  intro ks e;obtain⟨k2,h1,h2⟩:=ih2 e;obtain⟨k1,h3,h4⟩:=ih1 h1;exact⟨k1,h3,h4.trans h2⟩
theorem z66{ks:List Pth}(hg:∀p∈ks,GdP p)(nd:ks.Nodup)(up:ks.Pairwise λa b=>plt a b=true)(sm:ks.length<=1000):∃ks':List Pth,zif zdw (ks.map pD)=some (ks'.map pD)/\ks'.Perm ks:=by
 obtain⟨ks',h1,h2⟩:=z16 (zcj (ltK zdw) (ks.map pD)) rfl;refine⟨ks',?_,h2⟩;unfold zif;rw[la (ya7 hg nd up sm),h1]
theorem zsb{β:Type}{p:Pth}{v:β}:∀{m:List (Pth×β)},zcb m p=some v->(p,v)∈m
 |[],h=>by cases h
 |a::m,h=>by
  rw[zck]at h
  split at h
  ·rename_i e
   cases h;rw[<-e];exact xa
  ·exact ja _ (zsb h)
theorem z17{α:Type}(m:List (Int×α))(k:Int)(v:α):ziz m k v≠[]:=by
 intro z
 have:=ef (List.map Prod.fst) z
 rw[zgp]at this
 split at this
 ·rename_i h;rw[this]at h;cases h
 ·simp at this
theorem zls{most:Bool}:∀(ps:List Int) (m:List (Int×Bool)),m≠[]\/ps≠[]->ps.foldl (stp most) m≠[]
 |[],m,h=>h.resolve_right λz=>z rfl
 |x::r,m,_=>zls r _ (.inl (z17 _ _ _))
theorem zd1{pg:List Int}:∀(mks:List Mk) (m:List (Int×Bool)),m≠[]->mks.foldl (λm k=>(zoi pg k).foldl (stp k.2.2) m) m≠[]
 |[],m,h=>h
 |k::r,m,h=>zd1 r _ (zls _ _ (.inl h))
theorem zsc{pg:List Int}{k:Mk}{r:List M4}(h:zoi pg k≠[]){p:Pth}:za6 pg (((p,k)::r).map (·.2))≠[]:=by
 unfold za6;rw[da,ph];exact zd1 _ _ (zls _ _ (.inr h))
theorem zsd(a b:Int)(t:Bool):∀r:List (Int×Bool),zkj a b t r≠[]
 |[]=>by unfold zkj;simp
 |x::r=>by
  unfold zkj;split
  ·exact zsd _ _ _ r
  ·simp
theorem z18{m:List (Int×Bool)}(h:m≠[]):znd m≠[]:=by
 cases m with
 |nil=>exact absurd rfl h
 |cons x r=>unfold znd;exact zsd _ _ _ r
noncomputable def enD(e:Pth×List Td):D:=.tup [pD e.1,.lst (e.2.map TdD)]
structure GdE(ms:List M4)(E:List (Pth×List Td)):Prop where
 nd:(E.map Prod.fst).Nodup
 sub:∀e∈E,e.1∈ziy ms
 ln:∀e∈E,e.2.length<=62
theorem zse{fe:Rho->Option D}{ρ:Rho}{d:D}(h:fe ρ=some d):zc3 fe ρ=.nx ρ:=by unfold zc3;rw[h]
theorem zoj{ms:List M4}(bs:List Bool)(hb:bs.length<=62)(hg:∀x∈ms,GdK bs.length x)(hm:ms.length<=20)(most first:Int):∃E,zg5 [.lst (bs.map D.bl),.int most,.int first,.lst (ms.map mkE)]=some (.lst (E.map enD))/\GdE ms E/\(ms≠[]->∃e∈E,e.2≠[]):=by
 have hp:∀x∈ms,GdP x.1:=λx hx=>(hg x hx).p
 obtain⟨os,e1,o1,o2,o3,o4⟩:=z11 hp (by omega);have e2:=zr2 (os:=os) λx hx=>hg x (o1 x hx)
 obtain⟨pg,p1,e3⟩:=zvj bs (by omega) most first
 obtain⟨m,e4,M,hNE,hup⟩:=zsa hp (by omega) o1 (by omega) (gn (λ{a b} ha hb h=>z65 (hp a (o1 a ha)) (hp b (o1 b hb)) h) o4);have ml:=M.len hp
 obtain ⟨ks,e5,k1⟩:=z66 (ks:=m.map Prod.fst) (λ p hpp=>by
  obtain⟨e,he,rfl⟩:=ic.mp hpp;exact zng hp (M.sub e he)) M.nd hup (by rw[ba];omega)
 have kl:=k1.length_eq;rw[ba]at kl
 have hv:∀p∈ks,∃xs,zcb m p=some xs/\(p,xs)∈m:=λp hpp=>by
  obtain⟨xs,hx⟩:=zgo (k1.mem_iff.mp hpp);exact⟨xs,hx,zsb hx⟩
 refine⟨ks.map λp=>(p,znd (zhs (za6 pg (((zcb m p).getD []).map (·.2))))),?_,⟨?_,λe he=>?_,λe he=>?_⟩,λhms=>?_⟩
 ·refine zbf rfl (st (zap (zg2 (zir (zai (za1 rfl rfl) rfl) rfl e1))) (st (zse (zam (ds:=[.lst (os.map mkE),.int ((bs.length:Nat):Int)]) (zai rfl (zai (za1 rfl ?_) rfl)) rfl e2)) (st (zap (zam rfl rfl e3)) (st (zap (zam rfl rfl e4)) (za4 ?_)))))
  ·show some (D.int (((bs.map D.bl).length:Nat):Int))=_
   rw[ba]
  ·refine(zg2 (zfn (ds:=ks.map pD) (zqp (d:=.lst (ks.map pD)) (zg2 ?_) rfl) (sz (by rw[ba];omega)) (zet pD (λp=>enD (p,znd (zhs (za6 pg (((zcb m p).getD []).map (·.2)))))) ks λp hpp=>⟨_,rfl,rfl,?_⟩))).trans ?_
   ·show zif zdw ((m.map λe=>pK e.1).map ktD)=_
    rw[<-e5,zd,zd];exact ef _ (og λe _=>z6z e.1)
   ·obtain⟨xs,hx,hxm⟩:=hv p hpp
    rw[hx]
    have hk:∀k∈xs.map (·.2),k.1<=k.2.1:=λk hk=>by
     obtain⟨x,hx2,rfl⟩:=ic.mp hk;exact(hg x (M.mm _ hxm x hx2).2).lo
    have hs:=zkk (pg:=pg) (by omega) (pD p) (xs.map (·.2)) hk
    have he:(xs.map (·.2)).map (MkS (pD p))=xs.map mkE:=by
     rw[zd];refine og λx hx2=>?_
     show MkS (pD p) x.2=mkE x;unfold MkS mkE MkD;rw[(M.mm _ hxm x hx2).1]
    rw[he]at hs;refine za1 (ds:=[pD p,.lst ((znd (zhs (za6 pg (xs.map (·.2))))).map TdD)]) (zai rfl (zai (zam (ds:=[.lst (pg.map D.int),.lst (xs.map mkE)]) (zai rfl (zai (zaf (d:=dtD m) (e:=pD p) rfl rfl ?_) rfl)) rfl hs) rfl)) rfl;unfold zlk
    have:=z60 (λxs:List M4=>D.lst (xs.map mkE)) m p
    rw[hx]at this;show (zd5 (.dt (m.map λe=>pK e.1) (m.map λe=>D.lst (e.2.map mkE))) (pD p)).bind id=_;rw[this];rfl
   ·rw[zd];rfl
 ·rw[zd]
  have:(ks.map (Prod.fst ∘ λp=>(p,znd (zhs (za6 pg (((zcb m p).getD []).map (·.2)))))))=ks:=by
   have:(Prod.fst ∘ λp:Pth=>(p,znd (zhs (za6 pg (((zcb m p).getD []).map (·.2))))))=id:=rfl
   rw[this,List.map_id]
  rw[this];exact k1.nodup_iff.mpr M.nd
 ·obtain⟨p,hpp,rfl⟩:=ic.mp he
  obtain⟨xs,_,hxm⟩:=hv p hpp;exact M.sub _ hxm
 ·obtain⟨p,hpp,rfl⟩:=ic.mp he
  have h1:=zvf (zhs (za6 pg (((zcb m p).getD []).map (·.2))));rw[ziw]at h1;have h2:=(zgq pg (((zcb m p).getD []).map (·.2))).len;show (znd _).length<=62;omega
 ·obtain⟨e,he,hn⟩:=hNE (o3 hms)
  have hpe:e.1∈ks:=k1.mem_iff.mpr (ic.mpr ⟨e,he,rfl⟩);refine⟨_,ic.mpr ⟨e.1,hpe,rfl⟩,?_⟩
  have hv1:zcb m e.1=some e.2:=by
   obtain⟨xs,h1,h2⟩:=hv e.1 hpe;rw[h1]
   have:(e.1,xs)=e:=by
    have nd:=M.nd;rw[List.nodup_iff_pairwise_ne,jj]at nd;rcases jq.mp h2 with⟨a,ha,ea⟩;rcases jq.mp he with⟨c,hc,ec⟩
    have hac:a=c:=by
     rcases vm a c with z|z|z
     ·exact absurd (show m[a].1=m[c].1 by rw[ea,ec]) (mf.mp nd a c ha hc z)
     ·exact z
     ·exact absurd (show m[c].1=m[a].1 by rw[ea,ec]) (mf.mp nd c a hc ha z)
    subst hac;rw[<-ea,ec]
   rw[<-this]
  rw[hv1];show znd (zhs (za6 pg (e.2.map (·.2))))≠[];obtain⟨x,r,hxr⟩:=dm hn;have hx:=M.mm e he x (by rw[hxr];exact xa);have gx:=hg x hx.2
  have hcut:zoi pg x.2≠[]:=by
   unfold zoi;intro z
   have:=ef List.length z
   rw[cf,pj,vc]at this;have h1:=gx.lo;have h2:=gx.hi;omega
  have hst:za6 pg (e.2.map (·.2))≠[]:=by
   rw[hxr];exact zsc hcut
  intro z
  have:=z18 (m:=zhs (za6 pg (e.2.map (·.2)))) (λ y=>hst (by
   have h1:=ef List.length y;rw[ziw,vc]at h1;exact List.eq_nil_of_length_eq_zero h1))
  exact this z
end K16
namespace K16
open PySem L2
noncomputable abbrev M5:=Pth×Int×Int×Bool
noncomputable def mI(x:M5):D:=MkD x.1 x.2.1 x.2.2.1 x.2.2.2
noncomputable def zgw(n:Nat)(x:M5):Bool:=decide (0<=x.2.1) && (decide (x.2.1<=x.2.2.1) && decide (x.2.2.1<((n:Nat):Int)))
theorem zx1{x y:M5}(h:mI x=mI y):x=y:=by
 obtain⟨p,f,l,m⟩:=x;obtain⟨p',f',l',m'⟩:=y;have z:=D.tup.inj (show D.tup [pD p,.int f,.int l,.bl m]=D.tup [pD p',.int f',.int l',.bl m'] from h);simp only[ul,D.sc.injEq,V.int.injEq,V.bl.injEq,and_true]at z;obtain⟨z1,z2,z3,z4⟩:=z;rw[zxz z1,z2,z3,z4]
theorem ycd(x:M5)(n:Nat):zcl [mI x,.int (n:Nat)]=some (.bl (zgw n x)):=by
 refine zbf rfl (za4 ?_);refine(zj4 (x:=.int 0) (y:=.int x.2.1) (z:=.int x.2.2.1) (w:=.int (n:Nat)) rfl (zaf rfl rfl rfl) zui (λ_=>zaf rfl rfl rfl) (λ_=>zui) (λ_ _=>rfl) (λ_ _=>rfl)).trans ?_;rfl
theorem gdI{x:M5}(h:GdP x.1):GdM (mI x):=⟨_,_,_,_,h,rfl⟩
theorem z19{ms:List M5}(h:∀x∈ms,GdP x.1)(hl:ms.length<=60):∃os:List M5,zfl [.lst [.lst (ms.map mI)]]=some (os.map mI)/\(∀x,x∈os↔x∈ms)/\os.Pairwise λa b=>ltK zee (mI a) (mI b)=true:=by
 have hf:[ms.map mI].flatten=ms.map mI:=by rw[ah,io,zb]
 have hg:∀d∈[ms.map mI].flatten,GdM d:=λd hd=>by
  rw[hf]at hd;obtain⟨x,hx,rfl⟩:=ic.mp hd;exact gdI (h x hx)
 have hd:(dd [ms.map mI].flatten).length<=ms.length:=by
  have:=zgn (zrs [ms.map mI].flatten) λd hd=>zfg.mp hd
  rw[hf,ba]at this;rw[hf];exact this
 have e:=zki (hs:=[ms.map mI]) hg (by rw[hf,ba];omega) (by omega);have hp:=zcj (ltK zee) (dd [ms.map mI].flatten);have up:=zie (zlr.ltT λd hd=>hg d (zfg.mp hd)) (l:=dd [ms.map mI].flatten) (λy hy=>hy) (zrs _);have mem:∀d,d∈zm2 (ltK zee) (dd [ms.map mI].flatten)↔d∈ms.map mI:=λd=>by rw[hp.mem_iff,zfg,hf]
 obtain⟨os,h1,h2⟩:=zr3 (f:=mI) (ms:=ms) (zm2 (ltK zee) (dd [ms.map mI].flatten)) λd hd=>(mem d).mp hd
 refine⟨os,by rw[<-h1];exact e,λx=>⟨h2 x,λhx=>?_⟩,?_⟩
 ·have:=(mem (mI x)).mpr (ic.mpr ⟨x,hx,rfl⟩)
  rw[h1]at this;obtain⟨y,hy,e⟩:=ic.mp this;rw[<-zx1 e];exact hy
 ·rw[h1]at up
  exact jj.mp up
theorem ya8{x y:M5}(h1:GdP x.1)(h2:GdP y.1)(h:ltK zee (mI x) (mI y)=true):ltK zee (mI y) (mI x)=false :=
 zlr.T.as _ _ (zlr.cl _ (gdI h1)) (zlr.cl _ (gdI h2)) h
theorem zlt{os:List M5}{n:Nat}(hg:∀x∈os,GdP x.1)(up:os.Pairwise λa b=>ltK zee (mI a) (mI b)=true){X:M5}(hX:X∈os)(hm:∀y∈os,zgw n y=false->y=X\/ltK zee (mI X) (mI y)=true):∃pre post,os=pre++X::post/\∀x∈pre,zgw n x=true:=by
 obtain⟨pre,post,e⟩:=gm hX;refine⟨pre,post,e,λx hx=>?_⟩
 cases hf:zgw n x with
 |true=>rfl
 |false =>
  have hxo:x∈os:=by rw[e];exact we _ hx
  have h1:ltK zee (mI x) (mI X)=true:=by
   rw[e]at up;exact(il.mp up).2.2 x hx X xa
  have h2:=ya8 (hg x hxo) (hg X hX) h1;rcases hm x hxo hf with z|z
  ·rw[z]at h1 h2;rw[h1]at h2;cases h2
  ·rw[z]at h2;cases h2
theorem ya9{ft:Rho->Option Bool}{g1 g2:Rho->Option D}{ρ:Rho}(h:ft ρ=some true):xIf ft g1 g2 ρ=g1 ρ:=by unfold xIf;rw[h]
theorem yba{ft:Rho->Option Bool}{g1 g2:Rho->Option D}{ρ:Rho}(h:ft ρ=some false):xIf ft g1 g2 ρ=g2 ρ:=by unfold xIf;rw[h]
theorem z67{f:Rho->Out}{gs gr:Rho->Option D}{ρ ρ':Rho}(h0:gs ρ=none)(h:f ρ=.nx ρ'):xSq f gs gr ρ=gr ρ':=by unfold xSq;rw[h0];dsimp only;rw[h]
theorem zvl{g:D->Rho->Option Rho}{f:Rho->Out}{gx:Rho->Option D}{x:D}{r:List D}{ρ ρ1 ρ2:Rho}(h1:g x ρ=some ρ1)(h0:gx ρ1=none)(h2:f ρ1=.nx ρ2):zfj g f gx (x::r) ρ=zfj g f gx r ρ2:=by rw[zfj,h1];dsimp only;rw[h0];dsimp only;rw[h2]
theorem zsf{g:D->Rho->Option Rho}{f:Rho->Out}{gx:Rho->Option D}{x:D}{r:List D}{ρ ρ1:Rho}{d:D}(h1:g x ρ=some ρ1)(h0:gx ρ1=some d):zfj g f gx (x::r) ρ=some d:=by rw[zfj,h1];dsimp only;rw[h0]
theorem zvm{g:D->Rho->Option Rho}{f:Rho->Out}{x:D}{r:List D}{ρ ρ1:Rho}(h1:g x ρ=some ρ1)(h2:f ρ1=.bad):zew g f (x::r) ρ=.bad:=by
 rw[zew,h1];dsimp only;rw[h2]
theorem zsg{np n:Nat}{f:Rho->Out}{ds:List D}(h:ds.length=np)(h2:f (zdr n ds)=.bad):fnR np n f ds=none:=by unfold fnR;rw[la h,h2]
theorem zx2{np n:Nat}{g:Rho->Option D}{ds:List D}{o:Option D}(h:ds.length=np)(h2:g (zdr n ds)=o):fnE np n g ds=o:=by unfold fnE;rw[la h,h2]
theorem zvn{f g:Rho->Out}{ρ:Rho}(h:f ρ=.bad):zaw f g ρ=.bad:=by unfold zaw;rw[h]
noncomputable def zks(X:M5):D:=.er "OutOfBook" ["path","first","last"] [pD X.1,.int X.2.1,.int X.2.2.1]
noncomputable abbrev rfS:Rho->Out:=sIf (zc9 (tE (zao 2 zcl (aC (zal 2) (aC (zal 1) aN))))) z58 zbd
noncomputable abbrev rfX:Rho->Option D:=xIf (zc9 (tE (zao 2 zcl (aC (zal 2) (aC (zal 1) aN))))) (xRs "OutOfBook" ["path","first","last"] (aC (e2 gIx (zaa 2) (eC (.int 0))) (aC (e2 gIx (zaa 2) (eC (.int 1))) (aC (e2 gIx (zaa 2) (eC (.int 2))) aN)))) xNo
theorem yce{a:Option Sl}{n:Nat}{x:M5}:zc9 (tE (zao 2 zcl (aC (zal 2) (aC (zal 1) aN)))) [a,some (.sh (.int (n:Nat))),some (.sh (mI x))]=some (!zgw n x):=zdi (zb8 (zam rfl rfl (ycd x n)))
theorem zsh{n:Nat}{X:M5}(hX:zgw n X=false){post:List M5}(a:Option Sl):∀(pre:List M5) (z:Option Sl),(∀x∈pre,zgw n x=true)->zew (gN 2) rfS ((pre++X::post).map mI) [a,some (.sh (.int (n:Nat))),z]=.bad/\zfj (gN 2) rfS rfX ((pre++X::post).map mI) [a,some (.sh (.int (n:Nat))),z]=some (zks X)
 |[],z,_=>by
  have t:zc9 (tE (zao 2 zcl (aC (zal 2) (aC (zal 1) aN)))) [a,some (.sh (.int (n:Nat))),some (.sh (mI X))]=some true:=by rw[yce,hX];rfl
  exact⟨zvm rfl ((zqo t).trans rfl),zsf rfl ((ya9 t).trans rfl)⟩
 |x::pre,z,h=>by
  have t:zc9 (tE (zao 2 zcl (aC (zal 2) (aC (zal 1) aN)))) [a,some (.sh (.int (n:Nat))),some (.sh (mI x))]=some false:=by rw[yce,h x xa];rfl
  obtain⟨i1,i2⟩:=zsh hX a pre (some (.sh (mI x))) λy hy=>h y (ja _ hy)
  rw[ge,da];exact⟨(zca rfl ((zes t).trans rfl)).trans i1,(zvl rfl ((yba t).trans rfl) ((zes t).trans rfl)).trans i2⟩
theorem zok{n:Nat}{pre post:List M5}{X:M5}(hX:zgw n X=false)(h:∀x∈pre,zgw n x=true):zsx [.lst ((pre++X::post).map mI),.int (n:Nat)]=none/\z6n [.lst ((pre++X::post).map mI),.int (n:Nat)]=some (zks X):=by
 obtain⟨i1,i2⟩:=zsh hX (post:=post) (some (.sh (.lst ((pre++X::post).map mI)))) pre none h;refine⟨zsg rfl (zb3 rfl i1),zx2 rfl ?_⟩;show z45 _ _ _ _ _=_;unfold z45;exact i2
theorem zht{ms:List M5}{bs:List Bool}(hb:bs.length<=1000)(a b:Int)(hg:∀x∈ms,GdP x.1)(hl:ms.length<=60){X:M5}(hX:X∈ms)(hu:zgw bs.length X=false)(hm:∀y∈ms,zgw bs.length y=false->y=X\/ltK zee (mI X) (mI y)=true) :
  zg5 [.lst (bs.map D.bl),.int a,.int b,.lst (ms.map mI)]=none/\zrm [.lst (bs.map D.bl),.int a,.int b,.lst (ms.map mI)]=some (zks X):=by
 obtain⟨os,e1,o1,o2⟩:=z19 hg hl;obtain⟨pre,post,e,hpre⟩:=zlt (n:=bs.length) (λx hx=>hg x ((o1 x).mp hx)) o2 ((o1 X).mpr hX) λy hy=>hm y ((o1 y).mp hy)
 obtain⟨h1,h2⟩:=zok (post:=post) hu hpre;rw[<-e]at h1 h2
 have hlen:zct [.lst (bs.map D.bl)]=some (.int ((bs.length:Nat):Int)):=by
  show some (D.int (((bs.map D.bl).length:Nat):Int))=_;rw[ba]
 have s1:zbn 4 (eL (zcv 1 zfl (aC (eN zbc (aC (zal 3) aN)) aN))) [some (.sh (.lst (bs.map D.bl))),some (.sh (.int a)),some (.sh (.int b)),some (.sh (.lst (ms.map mI))),none,none,none]=.nx [some (.sh (.lst (bs.map D.bl))),some (.sh (.int a)),some (.sh (.int b)),some (.sh (.lst (ms.map mI))),some (.sh (.lst (os.map mI))),none,none]:=zap (zg2 (zir (zai (za1 rfl rfl) rfl) rfl e1));have ar:aC (zal 4) (aC (eN zct (aC (zaa 0) aN)) aN) [some (.sh (.lst (bs.map D.bl))),some (.sh (.int a)),some (.sh (.int b)),some (.sh (.lst (ms.map mI))),some (.sh (.lst (os.map mI))),none,none]=some [.lst (os.map mI),.int ((bs.length:Nat):Int)]:=zai rfl (zai (za1 rfl hlen) rfl);refine⟨zsg rfl (st s1 (zvn ?_)),zx2 rfl ((z67 rfl s1).trans ?_)⟩
 ·unfold zc3 zao
  rw[ar];show (match (if ([D.lst (os.map mI),D.int ((bs.length:Nat):Int)]).length=2 then zsx [.lst (os.map mI),.int ((bs.length:Nat):Int)] else none) with|some _=>_|none=>_)=_;rw[la (show ([D.lst (os.map mI),D.int ((bs.length:Nat):Int)]).length=2 from rfl),h1]
 ·unfold z0h
  rw[ar];show (if ([D.lst (os.map mI),D.int ((bs.length:Nat):Int)]).length=2 then z6n [.lst (os.map mI),.int ((bs.length:Nat):Int)] else none)=_;rw[la (show ([D.lst (os.map mI),D.int ((bs.length:Nat):Int)]).length=2 from rfl),h2]
noncomputable def zx3:Rho->Out:=(sIf (tE (e2 gGt (zaa 2) (eC (.int 0)))) (zaw (zbn 5 (e2 zb5 (e2 zcq (zaa 4) (eC (.int 7))) (zaa 2)))
  (zaw (zbn 6 (eN z4r (aC (e2 zf8 (zaa 2) (eC (.int 1))) (aC (e2 zbm (zaa 5) (e2 gIx (eN zbc (aC (eC (.int 0)) (aC (eC (.int 0)) (aC (eC (.int 1)) (aC (eC (.int 3)) (aC (e2 zb5 (e2 zcq (zaa 4) (eC (.int 49))) (eC (.int 40))) aN)))))) (e2 zb5 (e2 zcq (zaa 4) (eC (.int 3))) (eC (.int 5))))) aN))))
  (zd7 3 (eN zbb (aC (zao 2 zs0 (aC (e2 zcq (zaa 4) (eC (.int 2))) (aC (zal 1) aN))) (aC (zal 5) (aC (zal 6) (aC (e2 zdh (e2 zb5 (e2 zcq (zaa 4) (eC (.int 11))) (eC (.int 3))) (eC (.int 0))) aN)))))))) zbd)
theorem z2a(a:Option Sl)(c y:Int)(n:Nat)(hn:n<=1000)(acc:List M4)(hl:acc.length<=1000)(z5 z6:Option Sl):∃(ms:List M4) (y5 y6:Option Sl),zx3 [a,some (.sh (.int y)),some (.sh (.int (n:Nat))),some (.ow (acc.map mkE)),some (.sh (.int c)),z5,z6]=.nx [a,some (.sh (.int y)),some (.sh (.int (n:Nat))),some (.ow ((acc++ms).map mkE)),some (.sh (.int c)),y5,y6]/\(∀x∈ms,GdK n x)/\ms.length<=1:=by
 have q:tE (e2 gGt (zaa 2) (eC (.int 0))) [a,some (.sh (.int y)),some (.sh (.int (n:Nat))),some (.ow (acc.map mkE)),some (.sh (.int c)),z5,z6]=some (decide ((0:Int)<(n:Nat))):=zb8 (zaf rfl rfl zuj);by_cases h0:n=0
 ·refine⟨[],z5,z6,?_,(λx hx=>nomatch hx),ud _⟩
  rw[zb];exact(zes (q.trans (by rw[jc (by omega)]))).trans rfl
 obtain⟨hs,hp,hg⟩:=zru (c / 2) y
 have hg4:∃v:Int,e2 gIx (eN zbc (aC (eC (.int 0)) (aC (eC (.int 0)) (aC (eC (.int 1)) (aC (eC (.int 3)) (aC (e2 zb5 (e2 zcq (zaa 4) (eC (.int 49))) (eC (.int 40))) aN)))))) (e2 zb5 (e2 zcq (zaa 4) (eC (.int 3))) (eC (.int 5))) [a,some (.sh (.int y)),some (.sh (.int (n:Nat))),some (.ow (acc.map mkE)),some (.sh (.int c)),some (.sh (.int (c / 7 % (n:Nat)))),z6]=some (.int v)/\0<=v:=by
  have h5:c / 3 % 5=0\/c / 3 % 5=1\/c / 3 % 5=2\/c / 3 % 5=3\/c / 3 % 5=4:=by omega
  have e5:e2 zb5 (e2 zcq (zaa 4) (eC (.int 3))) (eC (.int 5)) [a,some (.sh (.int y)),some (.sh (.int (n:Nat))),some (.ow (acc.map mkE)),some (.sh (.int c)),some (.sh (.int (c / 7 % (n:Nat)))),z6]=some (.int (c / 3 % 5)):=zaf (zaf rfl rfl (zcc (by decide))) rfl (zbk (by decide));have e6:eN zbc (aC (eC (.int 0)) (aC (eC (.int 0)) (aC (eC (.int 1)) (aC (eC (.int 3)) (aC (e2 zb5 (e2 zcq (zaa 4) (eC (.int 49))) (eC (.int 40))) aN))))) [a,some (.sh (.int y)),some (.sh (.int (n:Nat))),some (.ow (acc.map mkE)),some (.sh (.int c)),some (.sh (.int (c / 7 % (n:Nat)))),z6]=some (.lst [.int 0,.int 0,.int 1,.int 3,.int (c / 49 % 40)]):=za1 (zai rfl (zai rfl (zai rfl (zai rfl (zai (zaf (zaf rfl rfl (zcc (by decide))) rfl (zbk (by decide))) rfl))))) rfl;rcases h5 with h|h|h|h|h
  ·exact⟨0,zaf e6 e5 (by rw[h];rfl),by omega⟩
  ·exact⟨0,zaf e6 e5 (by rw[h];rfl),by omega⟩
  ·exact⟨1,zaf e6 e5 (by rw[h];rfl),by omega⟩
  ·exact⟨3,zaf e6 e5 (by rw[h];rfl),by omega⟩
  ·exact⟨_,zaf e6 e5 (by rw[h];rfl),by omega⟩
 obtain⟨v,hv,v0⟩:=hg4;have l0:=wl (c / 7) (show ((n:Nat):Int)≠0 by omega);have l1:=Int.emod_lt_of_pos (c / 7) (show (0:Int)<(n:Nat) by omega);obtain⟨lo,hlo⟩:∃lo:Nat,c / 7 % (n:Nat)=(lo:Nat):=⟨(c / 7 % (n:Nat)).toNat,by omega⟩
 obtain⟨hi,hhi⟩:∃hi:Nat,(if (lo:Int)+v<(n:Nat) - 1 then (lo:Int)+v else (n:Nat) - 1)=(hi:Nat):=⟨(if (lo:Int)+v<(n:Nat) - 1 then (lo:Int)+v else (n:Nat) - 1).toNat,by split <;> omega⟩
 rw[hlo]at hv;refine⟨[(hs,lo,hi,decide (c / 11 % 3=0))],some (.sh (.int (lo:Nat))),some (.sh (.int (hi:Nat))),?_,λx hx=>?_,va _⟩
 ·refine(zqo (q.trans (by rw[ib (by omega)]))).trans (st (ρ':=[a,some (.sh (.int y)),some (.sh (.int (n:Nat))),some (.ow (acc.map mkE)),some (.sh (.int c)),some (.sh (.int (lo:Nat))),z6]) (zap (zaf (zaf rfl rfl (zcc (by decide))) rfl ((zbk (by omega)).trans (by rw[hlo])))) (st (ρ':=[a,some (.sh (.int y)),some (.sh (.int (n:Nat))),some (.ow (acc.map mkE)),some (.sh (.int c)),some (.sh (.int (lo:Nat))),some (.sh (.int (hi:Nat)))]) (zap (za1 (zai (zaf rfl rfl zw8) (zai (zaf rfl hv zdj) rfl)) (z6c.trans (by rw[hhi])))) ((zho (ds:=acc.map mkE) (d:=mkE (hs,lo,hi,decide (c / 11 % 3=0))) rfl ?_ (by rw[ba];omega)).trans ?_)))
  ·exact za1 (zai (zam (zai (zaf rfl rfl (zcc (by decide))) rfl) rfl hp) (zai rfl (zai rfl (zai (zaf (zaf (zaf rfl rfl (zcc (by decide))) rfl (zbk (by decide))) rfl (zff zgc)) rfl)))) rfl
  ·rw[lc];rfl
 ·rw[jb.mp hx]
  refine⟨hg,?_,?_⟩
  ·show lo<=hi
   split at hhi <;> omega
  ·show hi<n
   split at hhi <;> omega
theorem zsi(a:Option Sl)(y:Int)(n:Nat)(hn:n<=1000):∀(cs:List Int) (acc:List M4) (z4 z5 z6:Option Sl),acc.length+cs.length<=1000->∃(ms:List M4) (y4 y5 y6:Option Sl),zew (gN 4) zx3 (cs.map D.int) [a,some (.sh (.int y)),some (.sh (.int (n:Nat))),some (.ow (acc.map mkE)),z4,z5,z6]=.nx [a,some (.sh (.int y)),some (.sh (.int (n:Nat))),some (.ow ((acc++ms).map mkE)),y4,y5,y6]/\(∀x∈ms,GdK n x)/\ms.length<=cs.length
 |[],acc,z4,z5,z6,_=>⟨[],z4,z5,z6,by rw[zb];rfl,(λx hx=>nomatch hx),va _⟩
 |c::cs,acc,z4,z5,z6,hl=>by
  rw[bb]at hl;obtain⟨m1,y5,y6,e1,g1,l1⟩:=z2a a c y n hn acc (by omega) z5 z6;obtain⟨m2,w4,w5,w6,e2,g2,l2⟩:=zsi a y n hn cs (acc++m1) (some (.sh (.int c))) y5 y6 (by rw[zc];omega);refine⟨m1++m2,w4,w5,w6,?_,λx hx=>(gc.mp hx).elim (g1 x) (g2 x),by rw[zc,bb];omega⟩;rw[da,<-cj,<-e2];exact zca rfl e1
theorem zvo(cs:List Int)(hc:cs.length<=100)(y:Int)(n:Nat)(hn:n<=1000):∃ms:List M4,z1q [.lst (cs.map D.int),.int y,.int (n:Nat)]=some (ms.map mkE)/\(∀x∈ms,GdK n x)/\ms.length<=cs.length:=by
 obtain⟨ms,y4,y5,y6,e,g,l⟩:=zsi (some (.sh (.lst (cs.map D.int)))) y n hn cs [] none none none (by simp;omega);exact⟨ms,zw6 rfl (st rfl (st (zb3 rfl e) rfl)),g,l⟩
theorem z68(c y:Int)(n:Nat)(hn:n<=1000):∃X:M5,zka [.int c,.int y,.int (n:Nat)]=some (mI X)/\GdP X.1/\zgw n X=false:=by
 obtain⟨hs,hp,hg⟩:=zru (c / 6) y;have l0:=wl (c / 5) (show ((n:Nat):Int)+1≠0 by omega);have f0:=wl (c * 48271) (show (10:Int) ^ 59≠0 by decide);generalize hlo:c / 5 % (((n:Nat):Int)+1)=lo at l0;generalize hfa:c * 48271 % 10 ^ 59=fa at f0
 have ix:∃f l:Int,gIx (.lst [.tup [.int lo,.int (n:Nat)],.tup [.int (0 - 1),.int lo],.tup [.int (lo+1),.int lo],.tup [.int 0,.int ((n:Nat)+fa)],.tup [.int (0 - 1 - fa),.int (0 - 1)],.tup [.int (n:Nat),.int (n:Nat)]]) (.int (c % 6))=some (.tup [.int f,.int l])/\∀m,zgw n (hs,f,l,m)=false:=by
  have h6:c % 6=0\/c % 6=1\/c % 6=2\/c % 6=3\/c % 6=4\/c % 6=5:=by omega
  have no:∀f l:Int,(f<0\/l<f\/(n:Int)<=l)->∀m,zgw n (hs,f,l,m)=false:=λf l h m=>by
   unfold zgw;dsimp only;rcases h with h|h|h
   ·rw[jc (show ¬0<=f by omega)];rfl
   ·rw[jc (show ¬f<=l by omega)];simp
   ·rw[jc (show ¬l<((n:Nat):Int) by omega)];simp
  rcases h6 with h|h|h|h|h|h <;> rw[h]
  ·exact⟨_,_,rfl,no _ _ (by omega)⟩
  ·exact⟨_,_,rfl,no _ _ (by omega)⟩
  ·exact⟨_,_,rfl,no _ _ (by omega)⟩
  ·exact⟨_,_,rfl,no _ _ (by omega)⟩
  ·exact⟨_,_,rfl,no _ _ (by omega)⟩
  ·exact⟨_,_,rfl,no _ _ (by omega)⟩
 obtain⟨f,l,hix,hno⟩:=ix;refine⟨(hs,f,l,decide (c / 3 % 2=0)),zbf rfl (st (zap (zaf (zaf rfl rfl (zcc (by decide))) (zaf rfl rfl zdj) ((zbk (by omega)).trans (by rw[hlo])))) (st (zap (zaf (zaf rfl rfl (zeu (zgb ⟨by decide,by decide⟩))) (zaf rfl rfl p59) ((zbk (by decide)).trans (by rw[hfa])))) (st (zap (za1 (zai (za1 rfl rfl) (zai (za1 rfl rfl) (zai (za1 rfl rfl) (zai (za1 rfl rfl) (zai (za1 rfl rfl) (zai (za1 rfl rfl) rfl)))))) rfl)) (st (z1e (d:=.tup [.int f,.int l]) (zaf rfl (zaf rfl rfl (zbk (by decide))) hix) rfl) (za4 ?_))))),hg,hno _⟩;exact za1 (zai (zam (zai (zaf rfl rfl (zcc (by decide))) rfl) rfl hp) (zai rfl (zai rfl (zai (zaf (zaf (zaf rfl rfl (zcc (by decide))) rfl (zbk (by decide))) rfl (zff zgc)) rfl)))) rfl
theorem zvp(X:M5):zxm [zks X]=some (.bl true):=by
 have hc:z75 (.lst [.bl true,.bl false,.bl false,.bl false,.bl false,.bl false,.bl false,.bl false,.bl false]) [.bl true]=some (.int 1):=rfl
 have n1:∀m:Str,m ≠ "OutOfBook" -> zkr m (zks X)=some (.bl false):=λm h=>by
  show some (D.bl (decide (("OutOfBook" : Str)=m)))=_;rw[jc λz=>h z.symm]
 have n0:zkr "OutOfBook" (zks X)=some (.bl true):=by
  show some (D.bl (decide (("OutOfBook" : Str) = "OutOfBook")))=_;rw[ib rfl]
 refine zbf rfl (st (zap (d:=.lst [.bl true,.bl false,.bl false,.bl false]) (za1 (zai (zc4 rfl n0) (zai (zc4 rfl (n1 _ (by decide))) (zai (zc4 rfl (n1 _ (by decide))) (zai (zc4 rfl (n1 _ (by decide))) rfl)))) rfl)) (st (zap (d:=.lst [.bl true,.bl false,.bl false,.bl false,.bl false,.bl false,.bl false]) (zaf rfl (za1 (zai (zc4 rfl (n1 _ (by decide))) (zai (zc4 rfl (n1 _ (by decide))) (zai (zc4 rfl (n1 _ (by decide))) rfl))) rfl) rfl)) (st (zap (d:=.lst [.bl true,.bl false,.bl false,.bl false,.bl false,.bl false,.bl false,.bl false,.bl false]) (zaf rfl (za1 (zai (zc4 rfl (n1 _ (by decide))) (zai (zc4 rfl (n1 _ (by decide))) rfl)) rfl) rfl)) (za4 ?_))));exact zug (zhk (zb8 (zaf (z5a rfl rfl rfl hc) rfl (zff (zgc.trans (by rw[ib rfl]))))) (zb8 (zug (zhk (zb8 (zc4 rfl rfl)) (zb8 (zc4 rfl rfl))))))
theorem znj(i:Int):zsy [.int i]=some (.bl true):=zbf rfl (za4 rfl)
noncomputable def rkM(x:M5):D:=.tup [.lst (x.1.map rkD),.int x.2.1,.int x.2.2.1,.bl x.2.2.2]
theorem znk{x:M5}(h:GdP x.1):rk zee (mI x)=rkM x:=zd9 (za5 h _ _ _)
theorem znl{es:List D}{C:D->Prop}(T:TotD C)(hC:∀d∈es,C d):∀k,k<es.length->argBest (btD es) k<es.length/\∀i,i<=k->∀a b,es[i]?=some a->es[argBest (btD es) k]?=some b->a=b\/dlt b a=true
 | 0,h=>⟨h,λ i hi a b ha hb=>by
  have:i=0:=by omega
  subst this;rw[show argBest (btD es) 0=0 from rfl,ha]at hb;exact .inl (kc hb)⟩
 |k+1,h=>by
  obtain⟨i1,i2⟩:=znl T hC k (by omega);have e1:es[argBest (btD es) k]?=some es[argBest (btD es) k]:=cc i1;have e2:es[k+1]?=some es[k+1]:=cc h;have c1:=hC _ (vf i1);have c2:=hC _ (vf h)
  have hb:btD es (k+1) (argBest (btD es) k)=dlt es[k+1] es[argBest (btD es) k]:=by
   show dlt (es.getD (k+1) (.sc .non)) (es.getD (argBest (btD es) k) (.sc .non))=_;rw[ac,e2,ac,e1];rfl
  rw[argBest];split
  ·rename_i hc
   rw[hb]at hc;refine⟨h,λi hi a b ha hbb=>?_⟩;rw[e2]at hbb;cases hbb;by_cases ei:i=k+1
   ·subst ei;rw[e2]at ha;cases ha;exact .inl rfl
   ·have hi':i<es.length:=by omega
    have ca:C a:=hC _ (jd ha);rcases i2 i (by omega) a _ ha e1 with z|z
    ·rw[z];exact .inr hc
    ·exact .inr (T.tr _ _ _ c2 c1 ca hc z)
  ·rename_i hc
   rw[hb]at hc;refine⟨i1,λi hi a b ha hbb=>?_⟩;by_cases ei:i=k+1
   ·subst ei
    rw[e2]at ha;cases ha;rw[e1]at hbb;cases hbb;rcases T.tot _ _ c1 c2 with z|z|z
    ·exact .inl z.symm
    ·exact .inr z
    ·exact absurd z hc
   ·exact i2 i (by omega) a b ha hbb
theorem cM(x:M5):z1k CMf (rkM x):=⟨_,rfl,crk x.1,⟨_,rfl⟩,⟨_,rfl⟩,⟨_,rfl⟩,jg⟩
theorem zsj{x y:M5}(h1:GdP x.1)(h2:GdP y.1)(h:rkM x=rkM y):x=y:=by
 rw[<-znk h1,<-znk h2]at h;exact zx1 (zlr.inj _ _ (gdI h1) (gdI h2) h)
theorem zsk(x:M5):dOk LV (rkM x)=true:=by
 unfold rkM;simp[dOk,LV,rkD]
theorem ydq{O:List M5}(hO:O≠[]):∃X∈O,zq9 [.lst (O.map rkM)]=some (rkM X)/\∀y∈O,rkM y=rkM X\/dlt (rkM X) (rkM y)=true:=by
 have hl:0<O.length:=sq.mpr hO;have hC:∀d∈O.map rkM,z1k CMf d:=λd hd=>by obtain⟨x,_,rfl⟩:=ic.mp hd;exact cM x
 obtain⟨i1,i2⟩:=znl zrr hC (O.length - 1) (by rw[ba];omega);rw[ba]at i1;have e1:(O.map rkM)[argBest (btD (O.map rkM)) (O.length - 1)]?=some (rkM O[argBest (btD (O.map rkM)) (O.length - 1)]):=by rw[qc,cc i1];rfl
 refine⟨O[argBest (btD (O.map rkM)) (O.length - 1)],vf i1,?_,λy hy=>?_⟩
 ·unfold zq9
  dsimp only;rw[la ⟨by simpa using hO,df.mpr λd hd=>by obtain⟨x,_,rfl⟩:=ic.mp hd;exact zsk x,λd hd e he=>zrr.ok _ _ (hC d hd) (hC e he)⟩,ba,e1]
 ·obtain⟨i,hi,rfl⟩:=List.getElem_of_mem hy
  exact i2 i (by omega) _ _ (by rw[qc,cc hi];rfl) e1
theorem znm{X:M5}:∀{O:List M5} (n:Nat),X∈O->∃j Y,ixD (rkM X) (O.map rkM) n=some (n+j)/\O[j]?=some Y/\rkM Y=rkM X
 |[],n,h=>by cases h
 |y::O,n,h=>by
  rw[da,ixD];by_cases e:deq (rkM y) (rkM X)=true
  ·rw[la e]
   exact⟨0,y,rfl,rfl,(zrr.eq _ _ (cM y) (cM X)).mp e⟩
  ·rw[wa e]
   have hX:X∈O:=(pb.mp h).resolve_left λz=>e (by rw[z];exact(zrr.eq _ _ (cM y) (cM y)).mpr rfl)
   obtain⟨j,Y,h1,h2,h3⟩:=znm (n+1) hX;exact⟨j+1,Y,by rw[h1];congr 1;omega,h2,h3⟩
theorem lrk{x:M5}(h:GdP x.1):zxl [pD x.1]=some (.lst (x.1.map rkD)):=zu9 x.1 h.asc (ed h.len (by decide))
theorem z69(p:Pth):deq (pD p) (pD p)=true:=by rw[deq,zrp,ib rfl]
theorem zvq{O:List M5}(hO:O≠[])(hg:∀x∈O,GdP x.1)(hl:O.length<=10):∃X∈O,(∀y∈O,y=X\/ltK zee (mI X) (mI y)=true)/\zxn [zks X,.lst (O.map mI)]=some (.bl true):=by
 obtain⟨X,hX,hm,hle⟩:=ydq hO;refine⟨X,hX,λy hy=>?_,?_⟩
 ·rcases hle y hy with z|z
  ·exact .inl (zsj (hg y hy) (hg X hX) z)
  ·refine .inr ?_
   unfold ltK;rw[znk (hg X hX),znk (hg y hy)];exact z
 obtain⟨j,Y,j1,j2,j3⟩:=znm 0 hX;have hY:Y=X:=zsj (hg Y (jd j2)) (hg X hX) j3;subst hY;rw[re]at j1
 have a1:gAt "path" (zks Y)=some (pD Y.1):=by
  show List.lookup ("path" : Str) [("path",pD Y.1),("first",D.int Y.2.1),("last",D.int Y.2.2.1)]=_;simp[List.lookup]
 have a2:gAt "first" (zks Y)=some (.int Y.2.1):=by
  show List.lookup ("first" : Str) [("path",pD Y.1),("first",D.int Y.2.1),("last",D.int Y.2.2.1)]=_;rw[ae,show (("first" : Str) == "path")=false by decide,ae];simp
 have a3:gAt "last" (zks Y)=some (.int Y.2.2.1):=by
  show List.lookup ("last" : Str) [("path",pD Y.1),("first",D.int Y.2.1),("last",D.int Y.2.2.1)]=_;rw[ae,show (("last" : Str) == "path")=false by decide,ae,show (("last" : Str) == "first")=false by decide,ae];simp
 have n0:zkr "OutOfBook" (zks Y)=some (.bl true):=by
  show some (D.bl (decide (("OutOfBook" : Str) = "OutOfBook")))=_;rw[ib rfl]
 have hix:z6i (.lst (O.map rkM)) [rkM Y]=some (.int ((j:Nat):Int)):=by
  unfold z6i;dsimp only;rw[la (by rw[zsk Y,Bool.true_and];exact df.mpr λd hd=>by obtain⟨x,_,rfl⟩:=ic.mp hd;exact zsk x),j1];rfl
 have hat:gIx (.lst (O.map mI)) (.int ((j:Nat):Int))=some (mI Y):=zk0 (by rw[qc,j2];rfl)
 have heq:gEq (.tup [pD Y.1,.int Y.2.1,.int Y.2.2.1]) (.tup [pD Y.1,.int Y.2.1,.int Y.2.2.1])=some true:=by
  rw[z5g (by simp[dOk,LV]),zcp,zcp,zcp,zcp,z69,zlj,zlj,ib rfl,ib rfl];rfl
 refine zbf rfl (st ((zes (zqq (show zc9 (tE (e1 (zkr "OutOfBook") (zal 0))) _=some (!true) from zdi (zb8 (zc4 rfl n0))) (show zc9 (tE (zao 1 zxm (aC (zal 0) aN))) _=some (!true) from zdi (zb8 (zam rfl rfl (zvp Y)))))).trans rfl) (st ((zes (zqq (show zc9 (tE (e1 (z2h "tuple") (e1 (gAt "path") (zal 0)))) _=some (!true) from zdi (zb8 (zc4 (zc4 rfl a1) rfl))) (zqq (show zc9 (tE (zao 1 zsy (aC (e1 (gAt "first") (zal 0)) aN))) _=some (!true) from zdi (zb8 (zam (zai (zc4 rfl a2) rfl) rfl (znj _)))) (show zc9 (tE (zao 1 zsy (aC (e1 (gAt "last") (zal 0)) aN))) _=some (!true) from zdi (zb8 (zam (zai (zc4 rfl a3) rfl) rfl (znj _))))))).trans rfl) (st (zap (d:=.lst (O.map rkM)) ?_) (st (zap (d:=mI Y) (zaf rfl (z5a rfl (zai (za1 rfl hm) rfl) rfl hix) hat)) (za4 (zaf (za1 (zai (zc4 rfl a1) (zai (zc4 rfl a2) (zai (zc4 rfl a3) rfl))) rfl) rfl (zff heq)))))));exact zg2 (zfn (ds:=O.map mI) rfl (sz (by rw[ba];omega)) (zet mI rkM O λx hx=>⟨_,rfl,rfl,za1 (zai (zam (zai (zaf rfl rfl rfl) rfl) rfl (lrk (hg x hx))) (zai (zaf rfl rfl rfl) (zai (zaf rfl rfl rfl) (zai (zaf rfl rfl rfl) rfl)))) rfl⟩))
noncomputable def up5(x:M4):M5:=(x.1,((x.2.1:Nat):Int),((x.2.2.1:Nat):Int),x.2.2.2)
theorem zsl(ms:List M4):ms.map mkE=(ms.map up5).map mI:=by rw[zd];rfl
theorem z2b{n:Nat}{x:M4}(h:GdK n x):zgw n (up5 x)=true:=by
 have h1:=h.lo;have h2:=h.hi;unfold zgw up5;dsimp only;rw[ib (show (0:Int)<=((x.2.1:Nat):Int) by omega),ib (show ((x.2.1:Nat):Int)<=((x.2.2.1:Nat):Int) by omega),ib (show ((x.2.2.1:Nat):Int)<((n:Nat):Int) by omega)];rfl
theorem z78{bs:List Bool}:zct [.lst (bs.map D.bl)]=some (.int ((bs.length:Nat):Int)):=by
 show some (D.int (((bs.map D.bl).length:Nat):Int))=_;rw[ba]
theorem z2c(cs:List Int)(hl:cs.length<=1000):z1p [.lst (cs.map D.int)]=some (.lst ((cs.map λc=>decide (c % 7=3)).map D.bl)):=by
 refine zbf rfl (za4 ((zg2 (zfn (ds:=cs.map D.int) rfl (sz (by rw[ba];omega)) (zet D.int (λc=>D.bl (decide (c % 7=3))) cs λc _=>⟨_,rfl,rfl,zaf (zaf rfl rfl (zbk (by decide))) rfl (zff zgc)⟩))).trans ?_));rw[zd];rfl
theorem zlu(y:Int):∃a b:Int,zu6 [.int y]=some (.tup [.int a,.int b]):=by
 have i1:∃a:Int,e2 gIx (eN zbc (aC (e2 zbm (eC (.int 1)) (e2 zb5 (zaa 0) (eC (.int 5)))) (aC (e2 zbm (eC (.int 1)) (e2 zb5 (e2 zce (zaa 0) (eC (.int 48271))) (e2 zoo (eC (.int 10)) (eC (.int 59))))) aN))) (eN zws (aC (e2 zdh (e2 zb5 (e2 zcq (zaa 0) (eC (.int 5))) (eC (.int 7))) (eC (.int 0))) aN)) [some (.sh (.int y)),none]=some (.int a):=by
  have l1:eN zbc (aC (e2 zbm (eC (.int 1)) (e2 zb5 (zaa 0) (eC (.int 5)))) (aC (e2 zbm (eC (.int 1)) (e2 zb5 (e2 zce (zaa 0) (eC (.int 48271))) (e2 zoo (eC (.int 10)) (eC (.int 59))))) aN)) [some (.sh (.int y)),none]=some (.lst [.int (1+y % 5),.int (1+y * 48271 % 10 ^ 59)]):=za1 (zai (zaf rfl (zaf rfl rfl (zbk (by decide))) zdj) (zai (zaf rfl (zaf (zaf rfl rfl (zeu (zgb ⟨by decide,by decide⟩))) (zaf rfl rfl p59) (zbk (by decide))) zdj) rfl)) rfl;have l2:eN zws (aC (e2 zdh (e2 zb5 (e2 zcq (zaa 0) (eC (.int 5))) (eC (.int 7))) (eC (.int 0))) aN) [some (.sh (.int y)),none]=some (.int (if decide (y / 5 % 7=0) then 1 else 0)):=za1 (zai (zaf (zaf (zaf rfl rfl (zcc (by decide))) rfl (zbk (by decide))) rfl (zff zgc)) rfl) (yb5 _);by_cases h:y / 5 % 7=0
  ·rw[ib h]at l2;exact⟨_,zaf l1 l2 rfl⟩
  ·rw[jc h]at l2;exact⟨_,zaf l1 l2 rfl⟩
 obtain⟨a,ha⟩:=i1
 have i2:∃b:Int,e2 gIx (eN zbc (aC (e2 zb5 (e2 zcq (zaa 0) (eC (.int 35))) (eC (.int 9))) (aC (e2 zb5 (e2 zce (zaa 0) (eC (.int 982451653))) (e2 zf8 (e2 zoo (eC (.int 10)) (eC (.int 60))) (eC (.int 2000)))) aN))) (e2 zb5 (e2 zcq (zaa 0) (eC (.int 7))) (eC (.int 2))) [some (.sh (.int y)),some (.sh (.int a))]=some (.int b):=by
  have l1:eN zbc (aC (e2 zb5 (e2 zcq (zaa 0) (eC (.int 35))) (eC (.int 9))) (aC (e2 zb5 (e2 zce (zaa 0) (eC (.int 982451653))) (e2 zf8 (e2 zoo (eC (.int 10)) (eC (.int 60))) (eC (.int 2000)))) aN)) [some (.sh (.int y)),some (.sh (.int a))]=some (.lst [.int (y / 35 % 9),.int (y * 982451653 % (10 ^ 60 - 2000))]):=za1 (zai (zaf (zaf rfl rfl (zcc (by decide))) rfl (zbk (by decide))) (zai (zaf (zaf rfl rfl (zeu (zgb ⟨by decide,by decide⟩))) (zaf (zaf rfl rfl p10) rfl zw8) (zbk (by decide))) rfl)) rfl;have l2:e2 zb5 (e2 zcq (zaa 0) (eC (.int 7))) (eC (.int 2)) [some (.sh (.int y)),some (.sh (.int a))]=some (.int (y / 7 % 2)):=zaf (zaf rfl rfl (zcc (by decide))) rfl (zbk (by decide));have h:y / 7 % 2=0\/y / 7 % 2=1:=by omega
  rcases h with h|h <;> rw[h]at l2
  ·exact⟨_,zaf l1 l2 rfl⟩
  ·exact⟨_,zaf l1 l2 rfl⟩
 obtain⟨b,hb⟩:=i2;exact⟨a,b,zbf rfl (st (zap ha) (za4 (za1 (zai rfl (zai hb rfl)) rfl)))⟩
theorem zsm(B L:D)(a b:Int):aC (zal 0) (aC (e2 gIx (zaa 1) (eC (.int 0))) (aC (e2 gIx (zaa 1) (eC (.int 1))) (aC (zal 2) aN))) [some (.sh B),some (.sh (.tup [.int a,.int b])),some (.sh L),some (.sh .non),none]=some [B,.int a,.int b,L]:=rfl
theorem z7a{B L:D}{a b:Int}{X:M5}(h1:zg5 [B,.int a,.int b,L]=none)(h2:zrm [B,.int a,.int b,L]=some (zks X)):zg6 [B,.tup [.int a,.int b],L]=some (zks X):=by
 refine zbf rfl (st (zap (d:=.non) rfl) (st (ρ':=[some (.sh B),some (.sh (.tup [.int a,.int b])),some (.sh L),some (.sh (zks X)),none]) ?_ (za4 rfl)));unfold zqm;rw[show List.set (zdr 5 [B,.tup [.int a,.int b],L]) 3 (some (Sl.sh D.non))=[some (.sh B),some (.sh (.tup [.int a,.int b])),some (.sh L),some (.sh .non),none] from rfl,zsm];dsimp only;rw[la ⟨rfl,rfl,by decide⟩,h1];dsimp only;rw[h2];rfl
theorem ybb{B L d:D}{a b:Int}(h1:zg5 [B,.int a,.int b,L]=some d):zg6 [B,.tup [.int a,.int b],L]=some .non:=by
 refine zbf rfl (st (zap (d:=.non) rfl) (st (ρ':=[some (.sh B),some (.sh (.tup [.int a,.int b])),some (.sh L),some (.sh .non),none]) ?_ (za4 rfl)));unfold zqm;rw[show List.set (zdr 5 [B,.tup [.int a,.int b],L]) 3 (some (Sl.sh D.non))=[some (.sh B),some (.sh (.tup [.int a,.int b])),some (.sh L),some (.sh .non),none] from rfl,zsm];dsimp only;rw[la ⟨rfl,rfl,by decide⟩,h1]
theorem z2d{i:Nat}{fk fe:Rho->Option D}{ρ:Rho}{ds:List D}{d:D}{k:Nat}(h:ρ[i]?=some (some (.ow ds)))(h1:fk ρ=some (.int ((k:Nat):Int)))(h2:fe ρ=some d)(hk:k<=ds.length)(hl:ds.length<100000):zog i fk fe ρ=.nx (ρ.set i (some (.ow (ds.take k++d::ds.drop k)))):=by
 unfold zog;rw[h];dsimp only;rw[h1,h2];dsimp only;rw[la ⟨by omega,by omega,hl⟩,uh]
noncomputable def z7b:Rho->Out:=(zaw (sIf (tE (e2 zeb (zao 2 zcl (aC (zal 7) (aC (eN zct (aC (zaa 3) aN)) aN))) (eC (.bl false)))) (zb7 (eC (.bl false))) zbd)
  (zog 8 (e2 zb5 (e2 zcq (zaa 1) (eC (.int 5))) (e2 zbm (eN zct (aC (zaa 8) aN)) (eC (.int 1)))) (zal 7)))
theorem znn(s0 s2 s4 s5 s6:Option Sl)(y:Int)(bs:List Bool):∀(O S:List M5) (z7:Option Sl),(∀x∈O,zgw bs.length x=false)->S.length+O.length<=1000->∃(S':List M5) (w7:Option Sl),zew (gN 7) z7b (O.map mI) [s0,some (.sh (.int y)),s2,some (.sh (.lst (bs.map D.bl))),s4,s5,s6,z7,some (.ow (S.map mI))]=.nx [s0,some (.sh (.int y)),s2,some (.sh (.lst (bs.map D.bl))),s4,s5,s6,w7,some (.ow (S'.map mI))]/\(∀x,x∈S'↔x∈S\/x∈O)/\S'.length=S.length+O.length
 |[],S,z7,_,_=>⟨S,z7,rfl,λx=>by simp,rfl⟩
 |x::O,S,z7,h,hl=>by
  rw[bb]at hl;have e0:=wl (y / 5) (show ((S.length:Nat):Int)+1≠0 by omega);have e1:=Int.emod_lt_of_pos (y / 5) (show (0:Int)<((S.length:Nat):Int)+1 by omega);obtain⟨k,hk⟩:∃k:Nat,y / 5 % (((S.length:Nat):Int)+1)=((k:Nat):Int):=⟨_,(Int.toNat_of_nonneg e0).symm⟩
  have hkl:k<=S.length:=by omega
  obtain⟨S',w7,i1,i2,i3⟩:=znn s0 s2 s4 s5 s6 y bs O (S.take k++x::S.drop k) (some (.sh (mI x))) (λz hz=>h z (ja _ hz)) (by simp;omega)
  have hlen:zct [.lst (S.map mI)]=some (.int ((S.length:Nat):Int)):=by
   show some (D.int (((S.map mI).length:Nat):Int))=_;rw[ba]
  have hmod:zb5 (.int (y / 5)) (.int (((S.length:Nat):Int)+1))=some (.int ((k:Nat):Int)):=(zbk (by omega)).trans (by rw[hk]);refine⟨S',w7,?_,λz=>?_,?_⟩
  ·rw[da,<-i1]
   refine zca rfl (st ((zes (zb8 (zaf (zam (zai rfl (zai (za1 rfl z78) rfl)) rfl (ycd x bs.length)) rfl (show zeb (.bl (zgw bs.length x)) (.bl false)=some (.bl false) by rw[h x xa];rfl)))).trans rfl) ((z2d (ds:=S.map mI) (k:=k) rfl (zaf (zaf rfl rfl (zcc (by decide))) (zaf (za1 rfl hlen) rfl zdj) hmod) rfl (by rw[ba];exact hkl) (by rw[ba];omega)).trans ?_));rw[lc,da,vq,List.map_drop];rfl
  ·rw[i2,gc,pb,pb]
   have:z∈S↔z∈S.take k\/z∈S.drop k:=by
    rw[<-gc,yp]
   rw[this];constructor
   ·rintro((a|a|a)|a)
    ·exact .inl (.inl a)
    ·exact .inr (.inl a)
    ·exact .inl (.inr a)
    ·exact .inr (.inr a)
   ·rintro((a|a)|a|a)
    ·exact .inl (.inl a)
    ·exact .inl (.inr (.inr a))
    ·exact .inl (.inr (.inl a))
    ·exact .inr a
  ·rw[i3,zc,cf,bb,pj,bb];omega
noncomputable def z7c:Rho->Out:=(sIf (tE (e2 zeb (zao 2 zcl (aC (zal 7) (aC (eN zct (aC (zaa 3) aN)) aN))) (eC (.bl true)))) (zb7 (eC (.bl false))) zbd)
theorem zno(s0 s1 s2 s4 s5 s6 s8:Option Sl)(bs:List Bool):∀(ms:List M4) (z7:Option Sl),(∀x∈ms,GdK bs.length x)->∃w7,zew (gN 7) z7c (ms.map mkE) [s0,s1,s2,some (.sh (.lst (bs.map D.bl))),s4,s5,s6,z7,s8]=.nx [s0,s1,s2,some (.sh (.lst (bs.map D.bl))),s4,s5,s6,w7,s8]
 |[],z7,_=>⟨z7,rfl⟩
 |x::ms,z7,h=>by
  obtain⟨w7,e⟩:=zno s0 s1 s2 s4 s5 s6 s8 bs ms (some (.sh (mkE x))) λy hy=>h y (ja _ hy)
  refine⟨w7,?_⟩;rw[da,<-e];exact zca rfl ((zes (zb8 (zaf (zam (zai rfl (zai (za1 rfl z78) rfl)) rfl (zr1 (h x xa))) rfl rfl))).trans rfl)
noncomputable def z7d:Rho->Out:=(zd7 5 (zao 3 zka (aC (e2 zbm (eN z7z (aC (e2 zcq (zaa 1) (e2 zbm (eC (.int 3)) (zaa 6))) aN)) (zaa 6)) (aC (zal 2) (aC (eN zct (aC (zaa 3) aN)) aN)))))
theorem znp(s0 s4 s7 s8:Option Sl)(y v:Int)(bs:List Bool)(hb:bs.length<=1000):∀(n k:Nat) (O:List M5) (z6:Option Sl),O.length=k->k+n<=10->(∀x∈O,GdP x.1/\zgw bs.length x=false)->∃(O':List M5) (w6:Option Sl),zew (gN 6) z7d (zmj ((k:Nat):Int) n) [s0,some (.sh (.int y)),some (.sh (.int v)),some (.sh (.lst (bs.map D.bl))),s4,some (.ow (O.map mI)),z6,s7,s8]=.nx [s0,some (.sh (.int y)),some (.sh (.int v)),some (.sh (.lst (bs.map D.bl))),s4,some (.ow (O'.map mI)),w6,s7,s8]/\O'.length=k+n/\∀x∈O',GdP x.1/\zgw bs.length x=false
 |0,k,O,z6,hO,_,h=>⟨O,z6,rfl,by omega,h⟩
 |n+1,k,O,z6,hO,hk,h=>by
  obtain⟨X,e,g1,g2⟩:=z68 ((if y / (3+((k:Nat):Int))<0 then -(y / (3+((k:Nat):Int))) else y / (3+((k:Nat):Int)))+((k:Nat):Int)) v bs.length hb
  obtain⟨O',w6,i1,i2,i3⟩:=znp s0 s4 s7 s8 y v bs hb n (k+1) (O++[X]) (some (.sh (.int ((k:Nat):Int)))) (by simp[hO]) (by omega) λx hx=>by
   rcases gc.mp hx with hx|hx
   ·exact h x hx
   ·rw[jb.mp hx];exact⟨g1,g2⟩
  refine⟨O',w6,?_,by omega,i3⟩;rw[zkb,<-i1];refine zca rfl ((zho (ds:=O.map mI) (d:=mI X) rfl (zam (zai (zaf (za1 (zai (zaf rfl (zaf rfl rfl zdj) (zcc (by omega))) rfl) rfl) rfl zdj) (zai rfl (zai (za1 rfl z78) rfl))) rfl e) (by rw[ba];omega)).trans ?_);rw[lc];rfl
theorem zvr(ns:List Int)(hl:ns.length<=63):zin [.lst (ns.map D.int)]=some (.bl true):=by
 generalize hbs:((ns.drop 2).take 300).map (λc=>decide (c % 7=3))=bs;have hb:bs.length<=61:=by rw[<-hbs];simp;omega
 have hbook:=z2c ((ns.drop 2).take 300) (by simp;omega);rw[hbs]at hbook;obtain⟨ms,hms,gms,lms⟩:=zvo ((ns.drop 2).take 18) (by simp;omega) (dAt ns 1) bs.length (by omega)
 have lm:ms.length<=18:=by
  have:((ns.drop 2).take 18).length<=18:=by simp;omega
  omega
 obtain⟨a,b,hset⟩:=zlu (dAt ns 0);have hn:∃n:Nat,1+dAt ns 0 % 3=((n:Nat):Int)/\1<=n/\n<=3:=⟨(1+dAt ns 0 % 3).toNat,by omega,by omega,by omega⟩
 obtain⟨n,hn,n1,n3⟩:=hn;obtain⟨O,w6,o1,o2,o3⟩:=znp (some (.sh (.lst (ns.map D.int)))) (some (.sh (.lst (ms.map mkE)))) none none (dAt ns 0) (dAt ns 1) bs (by omega) n 0 [] none rfl (by omega) (λx hx=>nomatch hx);have hO:O≠[]:=λz=>by rw[z]at o2;simp at o2;omega
 obtain⟨X,hX,hmin,href⟩:=zvq hO (λx hx=>(o3 x hx).1) (by omega);obtain⟨w7,f1⟩:=zno (some (.sh (.lst (ns.map D.int)))) (some (.sh (.int (dAt ns 0)))) (some (.sh (.int (dAt ns 1)))) (some (.sh (.lst (ms.map mkE)))) (some (.ow (O.map mI))) w6 none bs ms none gms;obtain⟨S,u7,s1,s2,s3⟩:=znn (some (.sh (.lst (ns.map D.int)))) (some (.sh (.int (dAt ns 1)))) (some (.sh (.lst (ms.map mkE)))) (some (.sh (.lst (O.map mI)))) w6 (dAt ns 0) bs O (ms.map up5) w7 (λx hx=>(o3 x hx).2) (by rw[ba];omega);rw[ba]at s3
 have gS:∀x∈S,GdP x.1:=λx hx=>by
  rcases(s2 x).mp hx with h|h
  ·obtain⟨z,hz,rfl⟩:=ic.mp h
   exact(gms z hz).p
  ·exact(o3 x h).1
 have mS:∀x∈S,zgw bs.length x=false->x=X\/ltK zee (mI X) (mI x)=true:=λx hx hf=>by
  rcases(s2 x).mp hx with h|h
  ·obtain⟨z,hz,rfl⟩:=ic.mp h
   rw[z2b (gms z hz)]at hf;cases hf
  ·exact hmin x h
 obtain⟨n1',r1⟩:=zht (ms:=S) (bs:=bs) (by omega) a b gS (by omega) ((s2 X).mpr (.inr hX)) (o3 X hX).2 mS;obtain⟨n2',r2⟩:=zht (ms:=S.reverse) (bs:=bs) (by omega) a b (λx hx=>gS x (ko.mp hx)) (by rw[yl];omega) (ko.mpr ((s2 X).mpr (.inr hX))) (o3 X hX).2 λx hx=>mS x (ko.mp hx)
 obtain⟨En,e1,_,_⟩:=zoj bs (by omega) gms (by omega) a b;have t1:=z7a n1' r1;have t2:=z7a n2' r2;have t3:=ybb e1;have c0:=zkg ns 0;have c1:=zkg ns 1;have g1:gSl (.lst (ns.map D.int)) (some 2) (some 302)=some (.lst (((ns.drop 2).take 300).map D.int)):=zxf (a:=2) (b:=302) (by decide);have g2:gSl (.lst (ns.map D.int)) (some 2) (some 20)=some (.lst (((ns.drop 2).take 18).map D.int)):=zxf (a:=2) (b:=20) (by decide)
 have hrev:z72 [.lst (S.map mI)]=some ((S.reverse).map mI):=by
  rw[List.map_reverse];rfl
 have e0:∀ρ:Rho,zaa 0 ρ=some (.lst (ns.map D.int))->eSl (zaa 0) (oS (eC (.int 2))) (oS (eC (.int 302))) ρ=some (.lst (((ns.drop 2).take 300).map D.int)):=λρ h=>by
  unfold eSl;rw[h];exact g1
 have e9:∀ρ:Rho,zaa 0 ρ=some (.lst (ns.map D.int))->eSl (zaa 0) (oS (eC (.int 2))) (oS (eC (.int 20))) ρ=some (.lst (((ns.drop 2).take 18).map D.int)):=λρ h=>by
  unfold eSl;rw[h];exact g2
 refine zbf rfl (st (zap (zam rfl rfl c0)) (st (zap (zam rfl rfl c1)) (st (zap (zam (zai (e0 _ rfl) rfl) rfl hbook)) (st (zap (zg2 (zir (zai (e9 _ rfl) (zai rfl (zai (za1 rfl z78) rfl))) rfl hms))) (st rfl (st (zb3 (zuf (zai (zaf rfl (zaf rfl rfl (zbk (by decide))) zdj) rfl) ?_) o1) (st (zb3 rfl f1) (st (z0l (d:=ms.map mkE) rfl) ?_))))))))
 ·rw[hn,zli (n:=n) rfl (by omega)]
  unfold zmj;exact ef some (og λk _=>by rw[show ((0:Nat):Int)+(k:Int)=(k:Int) by omega])
 show zgu 5 _ [some (.sh (.lst (ns.map D.int))),some (.sh (.int (dAt ns 0))),some (.sh (.int (dAt ns 1))),some (.sh (.lst (bs.map D.bl))),some (.sh (.lst (ms.map mkE))),some (.ow (O.map mI)),w6,w7,some (.ow (ms.map mkE))]=_;rw[zsl ms]at s1 ⊢;refine st (zb3 rfl s1) ?_;show zgu 8 _ [some (.sh (.lst (ns.map D.int))),some (.sh (.int (dAt ns 0))),some (.sh (.int (dAt ns 1))),some (.sh (.lst (bs.map D.bl))),some (.sh (.lst ((ms.map up5).map mI))),some (.sh (.lst (O.map mI))),w6,u7,some (.ow (S.map mI))]=_;rw[<-zsl ms];refine st ((zes (zdi (b:=true) (zb8 (zam (ds:=[zks X,.lst (O.map mI)]) (zai (zam (zai rfl (zai (zam rfl rfl hset) rfl)) rfl t1) rfl) rfl href)))).trans rfl) (st ((zes (zb8 (zaf (zam (zai rfl (zai (zam rfl rfl hset) rfl)) rfl t3) rfl rfl))).trans rfl) (za4 (zam (ds:=[zks X,.lst (O.map mI)]) (zai (zam (zai rfl (zai (zam rfl rfl hset) (zai (zg2 hrev) rfl))) rfl t2) rfl) rfl href)))
end K16
set_option maxHeartbeats 4000000
namespace K16
open PySem L2
noncomputable abbrev zvs:Stmt:=top 1
noncomputable abbrev zvt:Stmt:=top 15
noncomputable abbrev zvu:Stmt:=top 16
noncomputable abbrev zvv:Stmt:=top 17
noncomputable abbrev zvw:Stmt:=top 19
noncomputable abbrev zvx:Stmt:=top 20
noncomputable abbrev zvy:Stmt:=top 21
noncomputable abbrev z79:Stmt:=top 22
noncomputable abbrev z8a:Stmt:=top 24
noncomputable abbrev z8b:Stmt:=top 25
noncomputable abbrev zvz:Stmt:=top 26
noncomputable abbrev zv0:Stmt:=top 28
noncomputable abbrev z8c:Stmt:=top 29
noncomputable abbrev z8d:Stmt:=top 30
noncomputable abbrev z8e:Stmt:=top 32
noncomputable abbrev z8f:Stmt:=top 33
noncomputable abbrev z8g:Stmt:=top 34
noncomputable abbrev z8h:Stmt:=top 35
noncomputable abbrev z8i:Stmt:=top 36
noncomputable abbrev z8j:Stmt:=top 37
noncomputable abbrev z8k:Stmt:=top 38
noncomputable abbrev z8l:Stmt:=top 40
noncomputable abbrev z8m:Stmt:=top 41
noncomputable abbrev z8n:Stmt:=top 42
noncomputable abbrev zv1:Stmt:=top 43
noncomputable abbrev zv2:Stmt:=top 44
noncomputable abbrev z8o:Stmt:=top 45
noncomputable abbrev zlv:Stmt:=top 46
theorem zfh:FnScope ["book","most","first","told","page","filled","new"] ["book","most","first"] (zae zvs):=⟨rfl,rfl,rfl,by decide +kernel,rfl,by decide +kernel,by decide +kernel⟩
theorem zx4:FnScope ["head","bar"] ["head"] (zae zvt):=⟨rfl,rfl,rfl,by decide +kernel,rfl,by decide +kernel,by decide +kernel⟩
theorem z7e:FnScope ["head"] ["head"] (zae zvu):=⟨rfl,rfl,rfl,by decide +kernel,rfl,by decide +kernel,by decide +kernel⟩
theorem z7f:FnScope ["path"] ["path"] (zae zvv):=⟨rfl,rfl,rfl,by decide +kernel,rfl,by decide +kernel,by decide +kernel⟩
theorem z7g:FnScope ["mark","many"] ["mark","many"] (zae zvw):=⟨rfl,rfl,rfl,by decide +kernel,rfl,by decide +kernel,by decide +kernel⟩
theorem zgs:FnScope ["hands","found","hand","path","first","last","most"] ["hands"] (zae zvx):=⟨rfl,rfl,rfl,by decide +kernel,rfl,by decide +kernel,by decide +kernel⟩
theorem z7h:FnScope ["path"] ["path"] (zae zvy):=⟨rfl,rfl,rfl,by decide +kernel,rfl,by decide +kernel,by decide +kernel⟩
theorem ybc:FnScope ["mark"] ["mark"] (zae z79):=⟨rfl,rfl,rfl,by decide +kernel,rfl,by decide +kernel,by decide +kernel⟩
theorem zv3:FnScope ["numbers","marks","strong","told","page"] ["numbers","marks"] (zae z8a):=⟨rfl,rfl,rfl,by decide +kernel,rfl,by decide +kernel,by decide +kernel⟩
theorem zlw:FnScope ["numbers","marks","strong","path","first","last","most","page"] ["numbers","marks"] (zae z8b):=⟨rfl,rfl,rfl,by decide +kernel,rfl,by decide +kernel,by decide +kernel⟩
theorem z7i:FnScope ["stretch","page","is_strong"] ["stretch","page","is_strong"] (zae zvz):=⟨rfl,rfl,rfl,by decide +kernel,rfl,by decide +kernel,by decide +kernel⟩
theorem zhu:FnScope ["book","most","first","marks","ordered","numbers","found"] ["book","most","first","marks"] (zae zv0):=⟨rfl,rfl,rfl,by decide +kernel,rfl,by decide +kernel,by decide +kernel⟩
theorem zv4:FnScope ["ordered","many","mark"] ["ordered","many"] (zae z8c):=⟨rfl,rfl,rfl,by decide +kernel,rfl,by decide +kernel,by decide +kernel⟩
theorem zsn:FnScope ["ordered","found","mark","path","many"] ["ordered"] (zae z8d):=⟨rfl,rfl,rfl,by decide +kernel,rfl,by decide +kernel,by decide +kernel⟩
theorem ybd:FnScope ["_law_script","_law_k"] ["_law_script","_law_k"] (zae z8e):=⟨rfl,rfl,rfl,by decide +kernel,rfl,by decide +kernel,by decide +kernel⟩
theorem ybe:FnScope ["_law_found"] ["_law_found"] (zae z8f):=⟨rfl,rfl,rfl,by decide +kernel,rfl,by decide +kernel,by decide +kernel⟩
theorem zgt:FnScope ["_law_cell","_law_k","_law_signs","_law_size","_law_at","_law_way","_law_word","_law_other","_law_j","_law_place"] ["_law_cell","_law_k"] (zae z8g):=⟨rfl,rfl,rfl,by decide +kernel,rfl,by decide +kernel,by decide +kernel⟩
theorem z2e:FnScope ["_law_cell","_law_by","_law_heads","_law_j"] ["_law_cell","_law_by"] (zae z8h):=⟨rfl,rfl,rfl,by decide +kernel,rfl,by decide +kernel,by decide +kernel⟩
theorem zv5:FnScope ["_law_head","_law_ahead","_law_turn","_law_behind"] ["_law_head"] (zae z8i):=⟨rfl,rfl,rfl,by decide +kernel,rfl,by decide +kernel,by decide +kernel⟩
theorem zol:FnScope ["_law_path","_law_found","_law_head","_law_letters","_law_sign"] ["_law_path"] (zae z8j):=⟨rfl,rfl,rfl,by decide +kernel,rfl,by decide +kernel,by decide +kernel⟩
theorem ybf:FnScope ["_law_cells"] ["_law_cells"] (zae z8k):=⟨rfl,rfl,rfl,by decide +kernel,rfl,by decide +kernel,by decide +kernel⟩
theorem z7j:FnScope ["_law_by","_law_most"] ["_law_by"] (zae z8l):=⟨rfl,rfl,rfl,by decide +kernel,rfl,by decide +kernel,by decide +kernel⟩
theorem zso:FnScope ["_law_cells","_law_by","_law_many","_law_marks_here","_law_cell","_law_low","_law_high"] ["_law_cells","_law_by","_law_many"] (zae z8m):=⟨rfl,rfl,rfl,by decide +kernel,rfl,by decide +kernel,by decide +kernel⟩
theorem zv6:FnScope ["_law_kept","_law_some"] ["_law_kept"] (zae z8n):=⟨rfl,rfl,rfl,by decide +kernel,rfl,by decide +kernel,by decide +kernel⟩
theorem zhv:FnScope ["_law_cell","_law_by","_law_many","_law_low","_law_far","_law_some","_law_first","_law_last"] ["_law_cell","_law_by","_law_many"] (zae zv1):=⟨rfl,rfl,rfl,by decide +kernel,rfl,by decide +kernel,by decide +kernel⟩
theorem zsp:FnScope ["_law_book_here","_law_settings_here","_law_marks_here","_law_kept","refusal"] ["_law_book_here","_law_settings_here","_law_marks_here"] (zae zv2):=⟨rfl,rfl,rfl,by decide +kernel,rfl,by decide +kernel,by decide +kernel⟩
theorem z2f:FnScope ["_law_kept","_law_odd_here","_law_ranks","_law_least"] ["_law_kept","_law_odd_here"] (zae z8o):=⟨rfl,rfl,rfl,by decide +kernel,rfl,by decide +kernel,by decide +kernel⟩
theorem zd2:FnScope ["_law_script","_law_by","_law_names","_law_book_here","_law_marks_here","_law_odd_here","_law_k","_law_mark","_law_spoiled"] ["_law_script"] (zae zlv):=⟨rfl,rfl,rfl,by decide +kernel,rfl,by decide +kernel,by decide +kernel⟩
noncomputable abbrev zbl:Str:="abcdefghijklmnopqrstuvwxyzABCDEFGHIJKLMNOPQRSTUVWXYZ0123456789"
noncomputable abbrev zbu:Stmt:=(zor (top 4)).getD 0 (.Pass ⟨0,0,0,0⟩)
theorem zfa:FnScope ["self","path","first","last"] ["self","path","first","last"] (zae zbu):=⟨rfl,rfl,rfl,by decide +kernel,rfl,by decide +kernel,by decide +kernel⟩
structure Adr where
 f_q18:Addr
 fd_q18:FuncData
 f_q17:Addr
 fd_q17:FuncData
 f_q15:Addr
 fd_q15:FuncData
 f_q1a:Addr
 fd_q1a:FuncData
 f_q19:Addr
 fd_q19:FuncData
 f_q16:Addr
 fd_q16:FuncData
 f_q14:Addr
 fd_q14:FuncData
 f_qd:Addr
 fd_qd:FuncData
 f_qb:Addr
 fd_qb:FuncData
 f_q0:Addr
 fd_q0:FuncData
 f_q11:Addr
 fd_q11:FuncData
 f_q13:Addr
 fd_q13:FuncData
 f_q3:Addr
 fd_q3:FuncData
 f_q1:Addr
 fd_q1:FuncData
 f_q7:Addr
 fd_q7:FuncData
 f_q8:Addr
 fd_q8:FuncData
 f_q6:Addr
 fd_q6:FuncData
 f_q4:Addr
 fd_q4:FuncData
 f_qa:Addr
 fd_qa:FuncData
 f_qe:Addr
 fd_qe:FuncData
 f_qf:Addr
 fd_qf:FuncData
 f_q2:Addr
 fd_q2:FuncData
 f_qc:Addr
 fd_qc:FuncData
 f_q9:Addr
 fd_q9:FuncData
 f_q12:Addr
 fd_q12:FuncData
 f_q10:Addr
 fd_q10:FuncData
 f_q5:Addr
 fd_q5:FuncData
 f_q1b:Addr
 fd_q1b:FuncData
 tk_LETTERS_AND_FIGURES:Tok
 c_Both:Addr
 fo_Both:Option Addr
 c_NoMark:Addr
 fo_NoMark:Option Addr
 c_NoRow:Addr
 fo_NoRow:Option Addr
 c_NoText:Addr
 fo_NoText:Option Addr
 c_Nowhere:Addr
 fo_Nowhere:Option Addr
 c_OutOfBook:Addr
 fi_OutOfBook:Addr
 fdi_OutOfBook:FuncData
 c_PageError:Addr
 c_Ring:Addr
 fo_Ring:Option Addr
 c_SentHere:Addr
 fo_SentHere:Option Addr
 c_TwoWays:Addr
 fo_TwoWays:Option Addr
structure Txt(K:PySem.W.Frag)(mg:Str->Option Value)(t:Adr):Prop where
 d_q18:Df K mg "pages" zvs ["book","most","first"] t.f_q18 t.fd_q18
 d_q17:Df K mg "shown" zvt ["head"] t.f_q17 t.fd_q17
 d_q15:Df K mg "key_of" zvu ["head"] t.f_q15 t.fd_q15
 d_q1a:Df K mg "rank" zvv ["path"] t.f_q1a t.fd_q1a
 d_q19:Df K mg "fits" zvw ["mark","many"] t.f_q19 t.fd_q19
 d_q16:Df K mg "poured" zvx ["hands"] t.f_q16 t.fd_q16
 d_q14:Df K mg "copied" zvy ["path"] t.f_q14 t.fd_q14
 d_qd:Df K mg "mark_rank" z79 ["mark"] t.f_qd t.fd_qd
 d_qb:Df K mg "stretches" z8a ["numbers","marks"] t.f_qb t.fd_qb
 d_q0:Df K mg "strong_by_page" z8b ["numbers","marks"] t.f_q0 t.fd_q0
 d_q11:Df K mg "goes_on" zvz ["stretch","page","is_strong"] t.f_q11 t.fd_q11
 d_q13:Df K mg "entries" zv0 ["book","most","first","marks"] t.f_q13 t.fd_q13
 d_q3:Df K mg "refuse_unfit" z8c ["ordered","many"] t.f_q3 t.fd_q3
 d_q1:Df K mg "marks_by_path" z8d ["ordered"] t.f_q1 t.fd_q1
 d_q7:Df K mg "_law_cell_at" z8e ["_law_script","_law_k"] t.f_q7 t.fd_q7
 d_q8:Df K mg "_law_whole" z8f ["_law_found"] t.f_q8 t.fd_q8
 d_q6:Df K mg "_law_head_by" z8g ["_law_cell","_law_k"] t.f_q6 t.fd_q6
 d_q4:Df K mg "_law_path_by" z8h ["_law_cell","_law_by"] t.f_q4 t.fd_q4
 d_qa:Df K mg "_law_shown" z8i ["_law_head"] t.f_qa t.fd_qa
 d_qe:Df K mg "_law_rank" z8j ["_law_path"] t.f_qe t.fd_qe
 d_qf:Df K mg "_law_book" z8k ["_law_cells"] t.f_qf t.fd_qf
 d_q2:Df K mg "_law_settings" z8l ["_law_by"] t.f_q2 t.fd_q2
 d_qc:Df K mg "_law_marks" z8m ["_law_cells","_law_by","_law_many"] t.f_qc t.fd_qc
 d_q9:Df K mg "_law_alone" z8n ["_law_kept"] t.f_q9 t.fd_q9
 d_q12:Df K mg "_law_odd" zv1 ["_law_cell","_law_by","_law_many"] t.f_q12 t.fd_q12
 d_q10:Df K mg "_law_told" zv2 ["_law_book_here","_law_settings_here","_law_marks_here"] t.f_q10 t.fd_q10
 d_q5:Df K mg "_law_refused" z8o ["_law_kept","_law_odd_here"] t.f_q5 t.fd_q5
 d_q1b:Df K mg "law" zlv ["_law_script"] t.f_q1b t.fd_q1b
 ValueError:mg "ValueError" = none
 abs:mg "abs" = none
 bool:mg "bool" = none
 int:mg "int" = none
 isinstance:mg "isinstance" = none
 len:mg "len" = none
 list:mg "list" = none
 min:mg "min" = none
 range:mg "range" = none
 reversed:mg "reversed" = none
 sorted:mg "sorted" = none
 tuple:mg "tuple" = none
 c_LETTERS_AND_FIGURES:mg "LETTERS_AND_FIGURES" = some (.str zbl t.tk_LETTERS_AND_FIGURES)
 n_Both:PySem.W.nsIn K mainGlobals "Both" = some (some (.ref t.c_Both))
 m_Both:mg "Both" = some (.ref t.c_Both)
 x_Both:XK' K "Both" t.c_Both t.c_PageError t.fo_Both
 n_NoMark:PySem.W.nsIn K mainGlobals "NoMark" = some (some (.ref t.c_NoMark))
 m_NoMark:mg "NoMark" = some (.ref t.c_NoMark)
 x_NoMark:XK' K "NoMark" t.c_NoMark t.c_PageError t.fo_NoMark
 n_NoRow:PySem.W.nsIn K mainGlobals "NoRow" = some (some (.ref t.c_NoRow))
 m_NoRow:mg "NoRow" = some (.ref t.c_NoRow)
 x_NoRow:XK' K "NoRow" t.c_NoRow t.c_PageError t.fo_NoRow
 n_NoText:PySem.W.nsIn K mainGlobals "NoText" = some (some (.ref t.c_NoText))
 m_NoText:mg "NoText" = some (.ref t.c_NoText)
 x_NoText:XK' K "NoText" t.c_NoText t.c_PageError t.fo_NoText
 n_Nowhere:PySem.W.nsIn K mainGlobals "Nowhere" = some (some (.ref t.c_Nowhere))
 m_Nowhere:mg "Nowhere" = some (.ref t.c_Nowhere)
 x_Nowhere:XK' K "Nowhere" t.c_Nowhere t.c_PageError t.fo_Nowhere
 n_OutOfBook:PySem.W.nsIn K mainGlobals "OutOfBook" = some (some (.ref t.c_OutOfBook))
 m_OutOfBook:mg "OutOfBook" = some (.ref t.c_OutOfBook)
 x_OutOfBook:XK' K "OutOfBook" t.c_OutOfBook t.c_PageError (some t.fi_OutOfBook)
 lo_OutOfBook:∃o,K.lookup t.fi_OutOfBook=some o/\o.cls=.type "function"
 kp_OutOfBook:PySem.W.keepIn K (.ref t.c_OutOfBook)=true
 fu_OutOfBook:Fun K "__init__" "OutOfBook.__init__" zbu t.fi_OutOfBook t.fdi_OutOfBook
 bi_OutOfBook:zch K t.fdi_OutOfBook ["self","path","first","last"] []
 n_PageError:PySem.W.nsIn K mainGlobals "PageError" = some (some (.ref t.c_PageError))
 m_PageError:mg "PageError" = some (.ref t.c_PageError)
 n_Ring:PySem.W.nsIn K mainGlobals "Ring" = some (some (.ref t.c_Ring))
 m_Ring:mg "Ring" = some (.ref t.c_Ring)
 x_Ring:XK' K "Ring" t.c_Ring t.c_PageError t.fo_Ring
 n_SentHere:PySem.W.nsIn K mainGlobals "SentHere" = some (some (.ref t.c_SentHere))
 m_SentHere:mg "SentHere" = some (.ref t.c_SentHere)
 x_SentHere:XK' K "SentHere" t.c_SentHere t.c_PageError t.fo_SentHere
 n_TwoWays:PySem.W.nsIn K mainGlobals "TwoWays" = some (some (.ref t.c_TwoWays))
 m_TwoWays:mg "TwoWays" = some (.ref t.c_TwoWays)
 x_TwoWays:XK' K "TwoWays" t.c_TwoWays t.c_PageError t.fo_TwoWays
section
variable {P:Program}{w:World}{K:PySem.W.Frag}{mg:Str->Option Value}{base:Heap}{t:Adr}
theorem Txt.cl_Both(T:Txt K mg t):ClP K "Both" t.c_Both:=⟨_,_,T.x_Both,T.n_PageError,T.n_Both⟩
theorem Txt.cl_NoMark(T:Txt K mg t):ClP K "NoMark" t.c_NoMark:=⟨_,_,T.x_NoMark,T.n_PageError,T.n_NoMark⟩
theorem Txt.cl_NoRow(T:Txt K mg t):ClP K "NoRow" t.c_NoRow:=⟨_,_,T.x_NoRow,T.n_PageError,T.n_NoRow⟩
theorem Txt.cl_NoText(T:Txt K mg t):ClP K "NoText" t.c_NoText:=⟨_,_,T.x_NoText,T.n_PageError,T.n_NoText⟩
theorem Txt.cl_Nowhere(T:Txt K mg t):ClP K "Nowhere" t.c_Nowhere:=⟨_,_,T.x_Nowhere,T.n_PageError,T.n_Nowhere⟩
theorem Txt.cl_OutOfBook(T:Txt K mg t):ClP K "OutOfBook" t.c_OutOfBook:=⟨_,_,T.x_OutOfBook,T.n_PageError,T.n_OutOfBook⟩
theorem zg7(T:Txt K mg t):FnOk P w K mg base CX0 1 t.fi_OutOfBook t.fdi_OutOfBook ["self","path","first","last"] (spI K "OutOfBook" ["path","first","last"]):=yav T.fu_OutOfBook zfa zii zgk zij rfl rfl rfl rfl rfl
theorem Txt.cl_Ring(T:Txt K mg t):ClP K "Ring" t.c_Ring:=⟨_,_,T.x_Ring,T.n_PageError,T.n_Ring⟩
theorem Txt.cl_SentHere(T:Txt K mg t):ClP K "SentHere" t.c_SentHere:=⟨_,_,T.x_SentHere,T.n_PageError,T.n_SentHere⟩
theorem Txt.cl_TwoWays(T:Txt K mg t):ClP K "TwoWays" t.c_TwoWays:=⟨_,_,T.x_TwoWays,T.n_PageError,T.n_TwoWays⟩
theorem z7k(T:Txt K mg t):FnOk P w K mg base CX0 1 t.f_q18 t.fd_q18 ["book","most","first"] (spV K 3 zlq):=by
 exact zfd (k:=0) (fs:=f_q18) rfl rfl rfl T.d_q18.F zfh λ cdv A outer s H E B hr=>(@zak _ _ _ _ _ _ (zlf (i:=3) zfh.nd rfl (Or.inl rfl) (zhj zba))
   (@zak _ _ _ _ _ _ (@zbg _ _ _ _ _ 4 _ _ zfh.nd rfl (Or.inl rfl) (zaj 2) rfl (.inl rfl))
   (@zak _ _ _ _ _ _ (@zbg _ _ _ _ _ 5 _ _ zfh.nd rfl (Or.inl rfl) zah rfl (.inl rfl))
   (@zak _ _ _ _ _ _ (ze7 PassesOwn.never rfl (zmi (zaj 0)) (zdq (i:=6) zfh.nd rfl (Or.inl rfl)) (@zak _ _ _ _ _ _ (zdv (PW.pt (zwn (zda z9a zzv (zab 5) (v_b zah) (zb0 _)) (zp1 (PW.pt (ztz (zdb (zaj 6)) (zp2 (zda yc1 z90 (zab 5) (zab 1) (zb0 _)))))))) (@zak _ _ _ _ _ _ (@zbg _ _ _ _ _ 4 _ _ zfh.nd rfl (Or.inl rfl) (zaz zbh zat (zab 4) (v_b zah)) rfl (.inl rfl))
   (zaq (@zbg _ _ _ _ _ 5 _ _ zfh.nd rfl (cb rfl) zah rfl (.inl rfl)))) zd8)
   (@zak _ _ _ _ _ _ (@zbg _ _ _ _ _ 5 _ _ zfh.nd rfl (Or.inl rfl) (zaz zbh zat (zab 5) (v_b zah)) rfl (.inl rfl))
   (zaq (zn8 (i:=3) rfl (zaj 4))))))
   (zqi 3 (zaq (zbo (zaj 3))))))))
theorem zx5(T:Txt K mg t):FnOk P w K mg base CX0 1 t.f_q17 t.fd_q17 ["head"] (spV K 1 zg4):=by
 exact zfd (k:=0) (fs:=f_q17) rfl rfl rfl T.d_q17.F zx4 λ cdv A outer s H E B hr=>(@zak _ _ _ _ _ _ (zdv (zda (zzt hr) zt0 (v_b (zdg (l:=[124]) (by decide +kernel))) (zab 0) (by with_unfolding_all rfl)) (zaq (zbo (zaj 0))) zd8)
   (@zak _ _ _ _ _ _ (@zbg _ _ _ _ _ 1 _ _ zx4.nd rfl (Or.inl rfl) (v_m PySem.F.plainAttrs_str PySem.F.slot_str_index PySem.F.type_str_index ztm zt5 (zab 0) (zbr (v_b (zdg (l:=[124]) (by decide +kernel))) zbx)) rfl (.inl rfl))
   (zaq (zbo (zaz zbh zat (v_b (zaz zbh zat (v_b (zzy (zab 0) (zsu (v_b (zaz zbh zat (zab 1) (v_b zah)))) z7y)) (v_b (zdg (l:=[44,32]) (by decide +kernel))))) (v_b (zzy (zab 0) z7y (zsu (zab 1)))))))))
theorem z7l(T:Txt K mg t):FnOk P w K mg base CX0 2 t.f_q15 t.fd_q15 ["head"] (spV K 1 zj8):=by
 have G_q17:FnOk P w K mg base CX0 1 t.f_q17 t.fd_q17 ["head"] (spV K 1 zg4):=zx5 T;exact zfd (k:=1) (fs:=f_q15) rfl rfl rfl T.d_q15.F z7e λcdv A outer s H E B hr=>(zaq (zbo (z95 PySem.F.plainAttrs_str PySem.F.slot_str_lower PySem.F.type_str_lower zl7 zmh (v_b (v_m PySem.F.plainAttrs_str PySem.F.slot_str_join PySem.F.type_str_join zzb zz3 (v_b (zdg (l:=[]) (by decide +kernel))) (zbr (v_b (zsv (zmn rfl (vars:=["sign"]) (cap:=[]) (zjk [] rfl (by decide +kernel) (by decide +kernel) (by decide +kernel) .nil) (z3x .nil) (by decide) (by decide) (zqf (v_b (zar G_q17 (hr.mono (by decide)) (by rfl) T.d_q17.m T.d_q17.F.kp T.d_q17.b (zan (zaj 0) zba)))) (λ_ _ _ _=>(zdq (i:=0) (show List.Nodup (["sign"]:List Str) by decide +kernel) rfl (cb rfl))) (λ_ _ _ _=>(z4v (zda (yc7 hr) z9z (zab 0) (v_b (zz7 (x:=zbl) (l:=LF) (by decide +kernel) (by rfl) T.c_LETTERS_AND_FIGURES)) (by with_unfolding_all rfl)))) (λ_ _ _ _=>(zaj 0))))) zbx))))))
theorem zx6(T:Txt K mg t):FnOk P w K mg base CX0 3 t.f_q1a t.fd_q1a ["path"] (spV K 1 zdw):=by
 have G_q15:FnOk P w K mg base CX0 2 t.f_q15 t.fd_q15 ["head"] (spV K 1 zj8):=z7l T;have G_q17:FnOk P w K mg base CX0 1 t.f_q17 t.fd_q17 ["head"] (spV K 1 zg4):=zx5 T;exact zfd (k:=2) (fs:=f_q1a) rfl rfl rfl T.d_q1a.F z7f λcdv A outer s H E B hr=>(zaq (zbo (zsv (zmn rfl (vars:=["head"]) (cap:=[]) (zjk [] rfl (by decide +kernel) (by decide +kernel) (by decide +kernel) .nil) (z3x .nil) (by decide) (by decide) (zqf (zab 0)) (λ_ _ _ _=>(zdq (i:=0) (show List.Nodup (["head"]:List Str) by decide +kernel) rfl (cb rfl))) (λ_ _ _ _=>zml) (λ_ _ _ _=>(zde (zan (zar G_q15 (hr.mono (by decide)) (by rfl) T.d_q15.m T.d_q15.F.kp T.d_q15.b (zan (zaj 0) zba)) (zan (zar G_q17 (hr.mono (by decide)) (by rfl) T.d_q17.m T.d_q17.F.kp T.d_q17.b (zan (zaj 0) zba)) zba))))))))
theorem zsq(T:Txt K mg t):FnOk P w K mg base CX0 1 t.f_q19 t.fd_q19 ["mark","many"] (spV K 2 zcl):=by
 exact zfd (k:=0) (fs:=f_q19) rfl rfl rfl T.d_q19.F z7g λcdv A outer s H E B hr=>(zaq (zbo (zu3 yb0 yb0 ybz (v_b zah) (v_b (zdt (zab 0) (v_b zah) (λ_ _=>rfl))) (v_b (zdt (zab 0) (v_b zah) (λ_ _=>rfl))) (zab 1))))
theorem z7m(T:Txt K mg t):FnOk P w K mg base CX0 1 t.f_q14 t.fd_q14 ["path"] (spV K 1 zj9):=by
 exact zfd (k:=0) (fs:=f_q14) rfl rfl rfl T.d_q14.F z7h λcdv A outer s H E B hr=>(zaq (zbo (zqa zeh zmg (by rfl) T.tuple zh2 (zbr (v_b (zqa zpl zz0 (by rfl) T.list zk4 (zbr (zab 0) zbx))) zbx))))
theorem ybg(T:Txt K mg t):FnOk P w K mg base CX0 4 t.f_qd t.fd_qd ["mark"] (spV K 1 zee):=by
 have G_q1a:FnOk P w K mg base CX0 3 t.f_q1a t.fd_q1a ["path"] (spV K 1 zdw):=zx6 T;exact zfd (k:=3) (fs:=f_qd) rfl rfl rfl T.d_qd.F ybc λcdv A outer s H E B hr=>(zaq (zbo (zde (zan (zar G_q1a (hr.mono (by decide)) (by rfl) T.d_q1a.m T.d_q1a.F.kp T.d_q1a.b (zan (zdt (zab 0) (v_b zah) (λ_ _=>rfl)) zba)) (zan (zdt (zab 0) (v_b zah) (λ_ _=>rfl)) (zan (zdt (zab 0) (v_b zah) (λ_ _=>rfl)) (zan (zdt (zab 0) (v_b zah) (λ_ _=>rfl)) zba)))))))
theorem zx7(T:Txt K mg t):FnOk P w K mg base CX0 6 t.f_q16 t.fd_q16 ["hands"] (spW K 1 zfl):=by
 have G_q14:FnOk P w K mg base CX0 1 t.f_q14 t.fd_q14 ["path"] (spV K 1 zj9):=z7m T;have G_qd:FnOk P w K mg base CX0 4 t.f_qd t.fd_qd ["mark"] (spV K 1 zee):=ybg T;exact yb4 (k:=5) (fs:=f_q16) rfl rfl rfl T.d_q16.F zgs λcdv A outer s H E B hr=>(z51 (j:=1) [2,0,0,1] zgs.nd rfl (cb rfl) (z5y ce rfl (zmi (zaj 0)) (zdq (i:=2) zgs.nd rfl (cb rfl)) (by decide) (zln (by decide)) (z5z (z5y ce rfl (zmi (zaj 2)) (z70 rfl (ze4 (zdq (i:=3) zgs.nd rfl (cb rfl)) (ze4 (zdq (i:=4) zgs.nd rfl (cb rfl)) (ze4 (zdq (i:=5) zgs.nd rfl (cb rfl)) (ze4 (zdq (i:=6) zgs.nd rfl (cb rfl)) zt8))))) (by decide) (yaq (zu0 (zln (by decide)) (zu0 (zln (by decide)) (zu0 (zln (by decide)) (zu0 (zln (by decide)) yap))))) (z5z (yao hr rfl (zde (zan (zar G_q14 (hr.mono (by decide)) (by rfl) T.d_q14.m T.d_q14.F.kp T.d_q14.b (zan (zaj 3) zba)) (zan (zaj 4) (zan (zaj 5) (zan (zaj 6) zba)))))))))) rfl G_qd (hr.mono (by decide)).in2 (by rfl) T.sorted (by rfl) T.d_qd.m T.d_qd.b)
theorem z7n(T:Txt K mg t):FnOk P w K mg base CX0 1 t.f_q11 t.fd_q11 ["stretch","page","is_strong"] (spV K 3 zim):=by
 exact zfd (k:=0) (fs:=f_q11) rfl rfl rfl T.d_q11.F z7i λcdv A outer s H E B hr=>(zaq (zbo (zmc (zh5 (zp8 hr) zf6 (v_b (zaz zbh zat (v_b (zdt (zab 0) (v_b zah) (λ_ _=>rfl))) (v_b zah))) (zab 1) (zb0 _)) (zmb (zh5 (zp8 hr) zf6 (v_b (zdt (zab 0) (v_b zah) (λ_ _=>rfl))) (zab 2) (zb0 _))))))
theorem ybh(T:Txt K mg t):FnOk P w K mg base CX0 1 t.f_q0 t.fd_q0 ["numbers","marks"] (spV K 2 z1m):=by
 exact zfd (k:=0) (fs:=f_q0) rfl rfl rfl T.d_q0.F zlw λ cdv A outer s H E B hr=>(@zak _ _ _ _ _ _ (z5i (j:=2) zlw.nd rfl (Or.inl rfl))
   (@zak _ _ _ _ _ _ (ze7 PassesOwn.never rfl (zmi (zaj 1)) (z70 rfl (ze4 (zdq (i:=3) zlw.nd rfl (Or.inl rfl)) (ze4 (zdq (i:=4) zlw.nd rfl (Or.inl rfl)) (ze4 (zdq (i:=5) zlw.nd rfl (Or.inl rfl)) (ze4 (zdq (i:=6) zlw.nd rfl (Or.inl rfl)) zt8))))) (zaq (ze7 PassesOwn.never rfl (zmi (zzy (zab 0) (zsu (zab 4)) (zsu (v_b (zaz zbh zat (zab 5) (v_b zah)))))) (zdq (i:=7) zlw.nd rfl (Or.inl rfl)) (zaq (z5j (j:=2) hr rfl (zab 7) (z9y (zaj 6) (zmb (z0p hr (zab 2) (zab 7) zst))))))))
   (z5n 2 (zaq (zbo (zaj 2))))))
theorem ybi(T:Txt K mg t):FnOk P w K mg base CX0 2 t.f_qb t.fd_qb ["numbers","marks"] (spV K 2 z1n):=by
 have G_q11:FnOk P w K mg base CX0 1 t.f_q11 t.fd_q11 ["stretch","page","is_strong"] (spV K 3 zim):=z7n T;have G_q0:FnOk P w K mg base CX0 1 t.f_q0 t.fd_q0 ["numbers","marks"] (spV K 2 z1m):=ybh T
 exact zfd (k:=1) (fs:=f_qb) rfl rfl rfl T.d_qb.F zv3 λ cdv A outer s H E B hr=>(@zak _ _ _ _ _ _ (@zbg _ _ _ _ _ 2 _ _ zv3.nd rfl (Or.inl rfl) (zar G_q0 (hr.mono (by decide)) (by rfl) T.d_q0.m T.d_q0.F.kp T.d_q0.b (zan (zaj 0) (zan (zaj 1) zba))) rfl (.inl rfl))
   (@zak _ _ _ _ _ _ (zlf (i:=3) zv3.nd rfl (Or.inl rfl) (zhj zba))
   (@zak _ _ _ _ _ _ (ze7 PassesOwn.never rfl (zmi (zsv (zun rfl (by rfl) T.sorted (zbr (zab 2) zbx)))) (zdq (i:=4) zv3.nd rfl (Or.inl rfl)) (zaq (zdv (PW.pt (zwn (zda z9a zzv (v_b (ze3 zg0 zdy (by rfl) T.len zdx (zbr (zab 3) zbx))) (v_b zah) (zb0 _)) (zp1 (zdb (zar G_q11 (hr.mono (by decide)) (by rfl) T.d_q11.m T.d_q11.F.kp T.d_q11.b (zan (zdt (zab 3) (v_b (zzw zah)) (λ _ _=>rfl)) (zan (zaj 4) (zan (zuk hr (zab 2) (zab 4) (λ _ _=>rfl)) zba)))))))) (zaq (z5p (j:=3) rfl (v_b (zzw zah)) (zde (zan (zdt (v_b (zdt (zab 3) (v_b (zzw zah)) (λ _ _=>rfl))) (v_b zah) (λ _ _=>rfl)) (zan (zaj 4) (zan (zuk hr (zab 2) (zab 4) (λ _ _=>rfl)) zba)))))) (zaq (zn8 (i:=3) rfl (zde (zan (zaj 4) (zan (zaj 4) (zan (zuk hr (zab 2) (zab 4) (λ _ _=>rfl)) zba)))))))))
   (zqi 3 (zaq (zbo (zaj 3)))))))
theorem ybj(T:Txt K mg t):FnOk P w K mg base CX0 1 t.f_q1 t.fd_q1 ["ordered"] (spV K 1 z1o):=by
 exact zfd (k:=0) (fs:=f_q1) rfl rfl rfl T.d_q1.F zsn λ cdv A outer s H E B hr=>(z6g (j:=1) zsn.nd rfl (Or.inl rfl) (z6e PassesOwn.never rfl (zmi (zaj 0)) (zdq (i:=2) zsn.nd rfl (Or.inl rfl)) (by decide) (zln (by decide)) z1a
   (zxj (yaw (i:=3) (by decide) zsn.nd rfl (Or.inl rfl) (zdt (zab 2) (v_b zah) (λ _ _=>rfl)))
   (zxj (z6e PassesOwn.never rfl (zt7 (by rfl) T.range (zbr (v_b zah) (zbr (v_b (ze3 zg0 zdy (by rfl) T.len zdx (zbr (zab 3) zbx))) zbx))) (zdq (i:=4) zsn.nd rfl (Or.inl rfl)) (by decide) (zln (by decide)) z1a
   (z6d (ydo hr rfl (v_b (zzy (zab 3) z7y (zsu (zab 4)))) ⟨rfl,rfl,rfl,rfl⟩)))
   (z6d (ydp hr rfl (zab 3) (zaj 2) ⟨rfl,rfl,rfl,rfl⟩))))))
theorem z7o(T:Txt K mg t):FnOk P w K mg base CX0 3 t.f_q3 t.fd_q3 ["ordered","many"] (spV K 2 zsx):=by
 have G_q19:FnOk P w K mg base CX0 1 t.f_q19 t.fd_q19 ["mark","many"] (spV K 2 zcl):=zsq T;exact zfd (k:=2) (fs:=f_q3) rfl rfl rfl T.d_q3.F zv4 λcdv A outer s H E B hr=>(zaq (ze7 ce rfl (zmi (zaj 0)) (zdq (i:=2) zv4.nd rfl (cb rfl)) (zaq (zdv (zem (zdb (zar G_q19 (hr.mono (by decide)) (by rfl) T.d_q19.m T.d_q19.F.kp T.d_q19.b (zan (zaj 2) (zan (zaj 1) zba))))) (zaq z59) zd8))))
theorem z7p(T:Txt K mg t):FnOk P w K mg base (CX1 P w) 3 t.f_q3 t.fd_q3 ["ordered","many"] (spE K 2 z6n):=by
 have G_q19:FnOk P w K mg base CX0 1 t.f_q19 t.fd_q19 ["mark","many"] (spV K 2 zcl):=zsq T;exact okE (k:=2) (gs:=ycc) T.d_q3.F zv4 λcdv A outer s H E B hr=>(zmq (z99 z0d rfl (zmi (zaj 0)) (zdq (i:=2) zv4.nd rfl (cb rfl)) (zaq (zdv (zem (zdb (zar G_q19 (hr.mono (by decide)) (by rfl) T.d_q19.m T.d_q19.F.kp T.d_q19.b (zan (zaj 2) (zan (zaj 1) zba))))) (zaq z59) zd8)) (zmq (ydg (zem (zdb (zar G_q19 (hr.mono (by decide)) (by rfl) T.d_q19.m T.d_q19.F.kp T.d_q19.b (zan (zaj 2) (zan (zaj 1) zba))))) (zmq (ydf rfl T.x_OutOfBook T.n_PageError T.n_OutOfBook T.lo_OutOfBook T.kp_OutOfBook (zg7 T) (hr.mono (by decide)) (by rfl) T.m_OutOfBook T.bi_OutOfBook z97 (by decide) (zan (zdt (zab 2) (v_b zah) (λ_ _=>rfl)) (zan (zdt (zab 2) (v_b zah) (λ_ _=>rfl)) (zan (zdt (zab 2) (v_b zah) (λ_ _=>rfl)) zba))))) z46))))
theorem z7q(T:Txt K mg t):FnOk P w K mg base CX0 7 t.f_q13 t.fd_q13 ["book","most","first","marks"] (spV K 4 zg5):=by
 have G_q1:FnOk P w K mg base CX0 1 t.f_q1 t.fd_q1 ["ordered"] (spV K 1 z1o):=ybj T;have G_q18:FnOk P w K mg base CX0 1 t.f_q18 t.fd_q18 ["book","most","first"] (spV K 3 zlq):=z7k T;have G_q16:FnOk P w K mg base CX0 6 t.f_q16 t.fd_q16 ["hands"] (spW K 1 zfl):=zx7 T;have G_q1a:FnOk P w K mg base CX0 3 t.f_q1a t.fd_q1a ["path"] (spV K 1 zdw):=zx6 T;have G_q3:FnOk P w K mg base CX0 3 t.f_q3 t.fd_q3 ["ordered","many"] (spV K 2 zsx):=z7o T;have G_qb:FnOk P w K mg base CX0 2 t.f_qb t.fd_qb ["numbers","marks"] (spV K 2 z1n):=ybi T
 exact zfd (k:=6) (fs:=f_q13) rfl rfl rfl T.d_q13.F zhu λ cdv A outer s H E B hr=>(@zak _ _ _ _ _ _ (@zbg _ _ _ _ _ 4 _ _ zhu.nd rfl (Or.inl rfl) (zsv (zlg G_q16 (hr.mono (by decide)) (by rfl) T.d_q16.m T.d_q16.F.kp T.d_q16.b (zan (@ze2 _ _ _ _ _ (zan (zaj 3) zba)) zba))) rfl (.inl rfl))
   (@zak _ _ _ _ _ _ (z4y (zar G_q3 (hr.mono (by decide)) (by rfl) T.d_q3.m T.d_q3.F.kp T.d_q3.b (zan (zaj 4) (zan (ze3 zg0 zdy (by rfl) T.len zdx (zbr (zab 0) zbx)) zba))))
   (@zak _ _ _ _ _ _ (@zbg _ _ _ _ _ 5 _ _ zhu.nd rfl (Or.inr rfl) (zar G_q18 (hr.mono (by decide)) (by rfl) T.d_q18.m T.d_q18.F.kp T.d_q18.b (zan (zaj 0) (zan (zaj 1) (zan (zaj 2) zba)))) rfl (.inl rfl))
   (@zak _ _ _ _ _ _ (@zbg _ _ _ _ _ 6 _ _ zhu.nd rfl (Or.inr rfl) (zar G_q1 (hr.mono (by decide)) (by rfl) T.d_q1.m T.d_q1.F.kp T.d_q1.b (zan (zaj 4) zba)) rfl (.inl rfl))
   (zaq (zbo (zsv (zmn rfl (vars:=["path"]) (cap:=[5,6]) (zjk ["numbers","found"] rfl (by decide +kernel) (by decide +kernel) (by decide +kernel) (.cons (cb rfl) (.cons (cb rfl) .nil))) (z3x (.cons (⟨yc (by rfl),yc (by rfl)⟩) (.cons (⟨yc (by rfl),yc (by rfl)⟩) .nil))) (by decide) (by decide) (zqf (v_b (zsv (z1h rfl G_q1a (hr.mono (by decide)).in2 (by rfl) T.sorted (by rfl) T.d_q1a.m T.d_q1a.b (zab 6))))) (λ_ _ _ _=>(zdq (i:=0) (show List.Nodup (["path","numbers","found"]:List Str) by decide +kernel) rfl (cb rfl))) (λ_ _ _ _=>zml) (λ_ _ _ _=>(zde (zan (zaj 0) (zan (zar G_qb (hr.mono (by decide)) (by rfl) T.d_qb.m T.d_qb.F.kp T.d_qb.b (zan (zaj 1) (zan (zuk hr (zab 2) (zab 0) (λ_ _=>rfl)) zba))) zba))))))))))))
theorem z2g(T:Txt K mg t):FnOk P w K mg base (CX1 P w) 7 t.f_q13 t.fd_q13 ["book","most","first","marks"] (spE K 4 zrm):=by
 have G_q16:FnOk P w K mg base CX0 6 t.f_q16 t.fd_q16 ["hands"] (spW K 1 zfl):=zx7 T;have G_q3:FnOk P w K mg base CX0 3 t.f_q3 t.fd_q3 ["ordered","many"] (spV K 2 zsx):=z7o T;have GX_q3:FnOk P w K mg base (CX1 P w) 3 t.f_q3 t.fd_q3 ["ordered","many"] (spE K 2 z6n):=z7p T
 exact okE (k:=6) (gs:=z6o) T.d_q13.F zhu λ cdv A outer s H E B hr=>(z47 (@zbg _ _ _ _ _ 4 _ _ zhu.nd rfl (Or.inl rfl) (zsv (zlg G_q16 (hr.mono (by decide)) (by rfl) T.d_q16.m T.d_q16.F.kp T.d_q16.b (zan (@ze2 _ _ _ _ _ (zan (zaj 3) zba)) zba))) rfl (.inl rfl)) yde
   (zmq (z48 (z0i GX_q3 (hr.mono (by decide)) (by rfl) T.d_q3.m T.d_q3.F.kp T.d_q3.b z42 (zan (zaj 4) (zan (ze3 zg0 zdy (by rfl) T.len zdx (zbr (zab 0) zbx)) zba))))))
theorem ybk(T:Txt K mg t):FnOk P w K mg base CX0 1 t.f_q7 t.fd_q7 ["_law_script","_law_k"] (spV K 2 zxk):=by
 exact zfd (k:=0) (fs:=f_q7) rfl rfl rfl T.d_q7.F ybd λ cdv A outer s H E B hr=>(@zak _ _ _ _ _ _ (zdv (zda (yc8 hr) z91 (zab 1) (v_b (ze3 zg0 zdy (by rfl) T.len zdx (zbr (zab 0) zbx))) (zb0 _)) (zaq (zbo (zdt (zab 0) (zab 1) (λ _ _=>rfl)))) zd8)
   (zaq (zbo zah)))
theorem ybl(T:Txt K mg t):FnOk P w K mg base CX0 1 t.f_q8 t.fd_q8 ["_law_found"] (spV K 1 zsy):=by
 exact zfd (k:=0) (fs:=f_q8) rfl rfl rfl T.d_q8.F ybe λcdv A outer s H E B hr=>(zaq (zbo (zmc (zz2 zz1 (by rfl) T.isinstance (zhy (v:=.ty "int") (by rfl) T.int zpp rfl) (zab 0)) (zmb (z4k (zz2 zt4 (by rfl) T.isinstance (zhy (v:=.ty "bool") (by rfl) T.bool zy7 rfl) (zab 0)))))))
theorem ybm(T:Txt K mg t):FnOk P w K mg base CX0 1 t.f_q6 t.fd_q6 ["_law_cell","_law_k"] (spV K 2 zsz):=by
 exact zfd (k:=0) (fs:=f_q6) rfl rfl rfl T.d_q6.F zgt λ cdv A outer s H E B hr=>(@zak _ _ _ _ _ _ (@zbg _ _ _ _ _ 2 _ _ zgt.nd rfl (Or.inl rfl) (zdg (l:=SG) (by decide +kernel)) rfl (.inl rfl))
   (@zak _ _ _ _ _ _ (@zbg _ _ _ _ _ 3 _ _ zgt.nd rfl (Or.inl rfl) (zaz zbh zat (v_b zah) (v_b (zaz zb9 zbe (v_b (zaz zbh zat (zab 0) (v_b (zaz zb1 zb2 (zab 1) (v_b zah))))) (v_b zah)))) rfl (.inl rfl))
   (@zak _ _ _ _ _ _ (@zbg _ _ _ _ _ 4 _ _ zgt.nd rfl (Or.inl rfl) (zaz zb9 zbe (v_b (zaz zb1 zb2 (zab 0) (v_b zah))) (zab 3)) rfl (.inl rfl))
   (@zak _ _ _ _ _ _ (@zbg _ _ _ _ _ 5 _ _ zgt.nd rfl (Or.inl rfl) (zaz zb9 zbe (v_b (zaz zbh zat (v_b (zaz zb1 zb2 (zab 0) (v_b zah))) (zab 1))) (v_b zah)) rfl (.inl rfl))
   (@zak _ _ _ _ _ _ (@zbg _ _ _ _ _ 6 _ _ zgt.nd rfl (Or.inl rfl) (zdg (l:=[]) (by decide +kernel)) rfl (.inl rfl))
   (@zak _ _ _ _ _ _ (@zbg _ _ _ _ _ 7 _ _ zgt.nd rfl (Or.inl rfl) (zdg (l:=[]) (by decide +kernel)) rfl (.inl rfl))
   (@zak _ _ _ _ _ _ (ze7 PassesOwn.never rfl (zh8 (by rfl) T.range (zbr (zab 3) zbx)) (zdq (i:=8) zgt.nd rfl (Or.inl rfl)) (@zak _ _ _ _ _ _ (@zbg _ _ _ _ _ 9 _ _ zgt.nd rfl (Or.inl rfl) (@zaz _ _ _ _ _ _ _ _ _ _ zbh zat (@v_b _ _ _ _ (@zaz _ _ _ _ _ _ _ _ _ _ zbh zat (@v_b _ _ _ _ (@zaz _ _ _ _ _ _ _ _ _ _ zb1 zb2 (zab 0) (@v_b _ _ _ _ (@zaz _ _ _ _ _ _ _ _ _ _ zbh zat (zab 8) (@v_b _ _ _ _ zah))))) (@v_b _ _ _ _ (@zaz _ _ _ _ _ _ _ _ _ _ zen zc1 (zab 8) (zab 8))))) (@v_b _ _ _ _ (@zaz _ _ _ _ _ _ _ _ _ _ zen zc1 (@v_b _ _ _ _ (@zaz _ _ _ _ _ _ _ _ _ _ zen zc1 (zab 1) (@v_b _ _ _ _ (zqa zwd zwt (by rfl) T.int zpp (zbr (@v_b _ _ _ _ (zh5 (zp8 hr) zf6 (zab 8) (zab 4) (zb0 _))) zbx))))) (@v_b _ _ _ _ (zdt (@v_b _ _ _ _ (@ze2 _ _ _ _ _ (zan zah (zan zah (zan zah (zan zah zba)))))) (zab 5) (λ _ _=>rfl)))))) rfl (.inl rfl))
   (@zak _ _ _ _ _ _ (@zbg _ _ _ _ _ 6 _ _ zgt.nd rfl (Or.inl rfl) (zaz zbh zat (zab 6) (v_b (zdt (zab 2) (v_b (zaz zb9 zbe (zab 9) (v_b zah))) (λ _ _=>rfl)))) rfl (.inl rfl))
   (zaq (@zbg _ _ _ _ _ 7 _ _ zgt.nd rfl (cb rfl) (zaz zbh zat (zab 7) (v_b (zdt (zab 2) (v_b (zaz zb9 zbe (v_b (zaz zbh zat (v_b (zaz zb1 zb2 (zab 0) (v_b (zaz zbh zat (zab 8) (v_b zah))))) (v_b (zaz zen zc1 (zab 8) (v_b zah))))) (v_b zah))) (λ_ _=>rfl)))) rfl (.inl rfl))))))
   (@zak _ _ _ _ _ _ (zdv (zda (zp8 hr) zf6 (zab 5) (v_b zah) (zb0 _)) (zaq (zbo (zaj 6))) zd8)
   (@zaq _ _ _ _ (@zbo _ _ _ _ _ (@zaz _ _ _ _ _ _ _ _ _ _ zbh zat (@v_b _ _ _ _ (@zaz _ _ _ _ _ _ _ _ _ _ zbh zat (zab 6) (@v_b _ _ _ _ (zdt (@v_b _ _ _ _ (@ze2 _ _ _ _ _ (zan (zdg (l:=[]) (by decide +kernel)) (zan (zdg (l:=[32]) (by decide +kernel)) (zan (zdg (l:=[124]) (by decide +kernel)) (zan (zdg (l:=[124]) (by decide +kernel)) zba)))))) (zab 5) (λ_ _=>rfl))))) (@v_b _ _ _ _ (zdt (@v_b _ _ _ _ (@ze2 _ _ _ _ _ (zan (zdg (l:=[]) (by decide +kernel)) (zan (zaj 7) (zan (zaj 7) (zan (zdg (l:=[100,32,86,111]) (by decide +kernel)) zba)))))) (zab 5) (λ_ _=>rfl))))))))))))))
theorem z7r(T:Txt K mg t):FnOk P w K mg base CX0 2 t.f_q4 t.fd_q4 ["_law_cell","_law_by"] (spV K 2 zs0):=by
 have G_q6:FnOk P w K mg base CX0 1 t.f_q6 t.fd_q6 ["_law_cell","_law_k"] (spV K 2 zsz):=ybm T
 exact zfd (k:=1) (fs:=f_q4) rfl rfl rfl T.d_q4.F z2e λ cdv A outer s H E B hr=>(@zak _ _ _ _ _ _ (zlf (i:=2) z2e.nd rfl (Or.inl rfl) (zhj zba))
   (@zak _ _ _ _ _ _ (ze7 PassesOwn.never rfl (zh8 (by rfl) T.range (zbr (@v_b _ _ _ _ (zdt (@v_b _ _ _ _ (@ze2 _ _ _ _ _ (zan zah (zan zah (zan zah (zan zah (zan zah (zan zah zba)))))))) (@v_b _ _ _ _ (@zaz _ _ _ _ _ _ _ _ _ _ zb9 zbe (zab 0) (@v_b _ _ _ _ zah))) (λ _ _=>rfl))) zbx)) (zdq (i:=3) z2e.nd rfl (Or.inl rfl)) (@zaq _ _ _ _ (zn8 (i:=2) rfl (zar G_q6 (hr.mono (by decide)) (by rfl) T.d_q6.m T.d_q6.F.kp T.d_q6.b (zan (zaj 1) (zan (@zaz _ _ _ _ _ _ _ _ _ _ zbh zat (@v_b _ _ _ _ (@zaz _ _ _ _ _ _ _ _ _ _ zb9 zbe (@v_b _ _ _ _ (@zaz _ _ _ _ _ _ _ _ _ _ zb1 zb2 (zab 0) (@v_b _ _ _ _ (@zaz _ _ _ _ _ _ _ _ _ _ zbh zat (@v_b _ _ _ _ zah) (@v_b _ _ _ _ (@zaz _ _ _ _ _ _ _ _ _ _ zen zc1 (zab 3) (zab 3))))))) (@v_b _ _ _ _ zah))) (@v_b _ _ _ _ (@zaz _ _ _ _ _ _ _ _ _ _ zen zc1 (@v_b _ _ _ _ zah) (@v_b _ _ _ _ (@zaz _ _ _ _ _ _ _ _ _ _ zb9 zbe (zab 3) (@v_b _ _ _ _ zah)))))) zba))))))
   (zaq (zbo (zqa zeh zmg (by rfl) T.tuple zh2 (zbr (zab 2) zbx))))))
theorem ybn(T:Txt K mg t):FnOk P w K mg base CX0 1 t.f_qa t.fd_qa ["_law_head"] (spV K 1 zoq):=by
 exact zfd (k:=0) (fs:=f_qa) rfl rfl rfl T.d_qa.F zv5 λ cdv A outer s H E B hr=>(@zak _ _ _ _ _ _ (z4x (v_m PySem.F.plainAttrs_str PySem.F.slot_str_partition PySem.F.type_str_partition zjn zju (zab 0) (zbr (v_b (zdg (l:=[124]) (by decide +kernel))) zbx)) (z70 rfl (ze4 (zdq (i:=1) zv5.nd rfl (Or.inl rfl)) (ze4 (zdq (i:=2) zv5.nd rfl (Or.inl rfl)) (ze4 (zdq (i:=3) zv5.nd rfl (Or.inl rfl)) zt8)))))
   (@zak _ _ _ _ _ _ (zdv (zda (zp8 hr) zf6 (zab 2) (v_b (zdg (l:=[]) (by decide +kernel))) (zb0 _)) (zaq (zbo (zaj 0))) zd8)
   (zaq (zbo (zaz zbh zat (v_b (zaz zbh zat (zab 3) (v_b (zdg (l:=[44,32]) (by decide +kernel))))) (zab 1))))))
theorem ybo(T:Txt K mg t):FnOk P w K mg base CX0 2 t.f_qe t.fd_qe ["_law_path"] (spV K 1 zxl):=by
 have G_qa:FnOk P w K mg base CX0 1 t.f_qa t.fd_qa ["_law_head"] (spV K 1 zoq):=ybn T
 exact zfd (k:=1) (fs:=f_qe) rfl rfl rfl T.d_qe.F zol λ cdv A outer s H E B hr=>(@zak _ _ _ _ _ _ (zlf (i:=1) zol.nd rfl (Or.inl rfl) (zhj zba))
   (@zak _ _ _ _ _ _ (ze7 PassesOwn.never rfl (zmi (zaj 0)) (zdq (i:=2) zol.nd rfl (Or.inl rfl)) (@zak _ _ _ _ _ _ (@zbg _ _ _ _ _ 3 _ _ zol.nd rfl (Or.inl rfl) (zdg (l:=[]) (by decide +kernel)) rfl (.inl rfl))
   (@zak _ _ _ _ _ _ (ze7 PassesOwn.never rfl (zmi (zar G_qa (hr.mono (by decide)) (by rfl) T.d_qa.m T.d_qa.F.kp T.d_qa.b (zan (zaj 2) zba))) (zdq (i:=4) zol.nd rfl (Or.inl rfl)) (zaq (zdv (zdb (z95 PySem.F.plainAttrs_str PySem.F.slot_str_isalnum PySem.F.type_str_isalnum zn2 zn6 (zab 4))) (zaq (@zbg _ _ _ _ _ 3 _ _ zol.nd rfl (Or.inl rfl) (zaz zbh zat (zab 3) (v_b (z95 PySem.F.plainAttrs_str PySem.F.slot_str_lower PySem.F.type_str_lower zl7 zmh (zab 4)))) rfl (.inl rfl))) zd8)))
   (zaq (zn8 (i:=1) rfl (zde (zan (zaj 3) (zan (zar G_qa (hr.mono (by decide)) (by rfl) T.d_qa.m T.d_qa.F.kp T.d_qa.b (zan (zaj 2) zba)) zba))))))))
   (zqi 1 (zaq (zbo (zaj 1))))))
theorem ybp(T:Txt K mg t):FnOk P w K mg base CX0 1 t.f_qf t.fd_qf ["_law_cells"] (spV K 1 z1p):=by
 exact zfd (k:=0) (fs:=f_qf) rfl rfl rfl T.d_qf.F ybf λcdv A outer s H E B hr=>(zaq (zbo (zsv (zmn rfl (vars:=["_law_cell"]) (cap:=[]) (zjk [] rfl (by decide +kernel) (by decide +kernel) (by decide +kernel) .nil) (z3x .nil) (by decide) (by decide) (zqf (zab 0)) (λ_ _ _ _=>(zdq (i:=0) (show List.Nodup (["_law_cell"]:List Str) by decide +kernel) rfl (cb rfl))) (λ_ _ _ _=>zml) (λ_ _ _ _=>(zh5 (zp8 hr) zf6 (v_b (zaz zb9 zbe (zab 0) (v_b zah))) (v_b zah) (zb0 _)))))))
theorem ybq(T:Txt K mg t):FnOk P w K mg base CX0 1 t.f_q2 t.fd_q2 ["_law_by"] (spV K 1 zu6):=by
 exact zfd (k:=0) (fs:=f_q2) rfl rfl rfl T.d_q2.F z7j λ cdv A outer s H E B hr=>(@zak _ _ _ _ _ _ (@zbg _ _ _ _ _ 1 _ _ z7j.nd rfl (Or.inl rfl) (zdt (@v_b _ _ _ _ (@ze2 _ _ _ _ _ (zan (@zaz _ _ _ _ _ _ _ _ _ _ zbh zat (@v_b _ _ _ _ zah) (@v_b _ _ _ _ (@zaz _ _ _ _ _ _ _ _ _ _ zb9 zbe (zab 0) (@v_b _ _ _ _ zah)))) (zan (@zaz _ _ _ _ _ _ _ _ _ _ zbh zat (@v_b _ _ _ _ zah) (@v_b _ _ _ _ (@zaz _ _ _ _ _ _ _ _ _ _ zb9 zbe (@v_b _ _ _ _ (@zaz _ _ _ _ _ _ _ _ _ _ zen zc1 (zab 0) (@v_b _ _ _ _ zah))) (@v_b _ _ _ _ (@zaz _ _ _ _ _ _ _ _ _ _ zyt zp9 (@v_b _ _ _ _ zah) (@v_b _ _ _ _ zah)))))) zba)))) (@v_b _ _ _ _ (zqa zwd zwt (by rfl) T.int zpp (zbr (@v_b _ _ _ _ (zh5 (zp8 hr) zf6 (@v_b _ _ _ _ (@zaz _ _ _ _ _ _ _ _ _ _ zb9 zbe (@v_b _ _ _ _ (@zaz _ _ _ _ _ _ _ _ _ _ zb1 zb2 (zab 0) (@v_b _ _ _ _ zah))) (@v_b _ _ _ _ zah))) (@v_b _ _ _ _ zah) (zb0 _))) zbx))) (λ _ _=>rfl)) rfl (.inl rfl))
   (@zaq _ _ _ _ (@zbo _ _ _ _ _ (zde (zan (zaj 1) (zan (zdt (@v_b _ _ _ _ (@ze2 _ _ _ _ _ (zan (@zaz _ _ _ _ _ _ _ _ _ _ zb9 zbe (@v_b _ _ _ _ (@zaz _ _ _ _ _ _ _ _ _ _ zb1 zb2 (zab 0) (@v_b _ _ _ _ zah))) (@v_b _ _ _ _ zah)) (zan (@zaz _ _ _ _ _ _ _ _ _ _ zb9 zbe (@v_b _ _ _ _ (@zaz _ _ _ _ _ _ _ _ _ _ zen zc1 (zab 0) (@v_b _ _ _ _ zah))) (@v_b _ _ _ _ (@zaz _ _ _ _ _ _ _ _ _ _ zn1 zhf (@v_b _ _ _ _ (@zaz _ _ _ _ _ _ _ _ _ _ zyt zp9 (@v_b _ _ _ _ zah) (@v_b _ _ _ _ zah))) (@v_b _ _ _ _ zah)))) zba)))) (@v_b _ _ _ _ (@zaz _ _ _ _ _ _ _ _ _ _ zb9 zbe (@v_b _ _ _ _ (@zaz _ _ _ _ _ _ _ _ _ _ zb1 zb2 (zab 0) (@v_b _ _ _ _ zah))) (@v_b _ _ _ _ zah))) (λ_ _=>rfl)) zba))))))
theorem ybr(T:Txt K mg t):FnOk P w K mg base CX0 3 t.f_qc t.fd_qc ["_law_cells","_law_by","_law_many"] (spW K 3 z1q):=by
 have G_q4:FnOk P w K mg base CX0 2 t.f_q4 t.fd_q4 ["_law_cell","_law_by"] (spV K 2 zs0):=z7r T
 exact yb4 (k:=2) (fs:=f_qc) rfl rfl rfl T.d_qc.F zso λ cdv A outer s H E B hr=>(@zak _ _ _ _ _ _ (zlf (i:=3) zso.nd rfl (Or.inl rfl) (zhj zba))
   (@zak _ _ _ _ _ _ (ze7 PassesOwn.never rfl (zmi (zaj 0)) (zdq (i:=4) zso.nd rfl (Or.inl rfl)) (zaq (zdv (zda z9a zzv (zab 2) (v_b zah) (zb0 _)) (@zak _ _ _ _ _ _ (@zbg _ _ _ _ _ 5 _ _ zso.nd rfl (Or.inl rfl) (zaz zb9 zbe (v_b (zaz zb1 zb2 (zab 4) (v_b zah))) (zab 2)) rfl (.inl rfl))
   (@zak _ _ _ _ _ _ (@zbg _ _ _ _ _ 6 _ _ zso.nd rfl (Or.inl rfl) (ze3 (zo0 rfl) z4t (by rfl) T.min zwf (zbr (@v_b _ _ _ _ (@zaz _ _ _ _ _ _ _ _ _ _ zn1 zhf (zab 2) (@v_b _ _ _ _ zah))) (zbr (@v_b _ _ _ _ (@zaz _ _ _ _ _ _ _ _ _ _ zbh zat (zab 5) (@v_b _ _ _ _ (zdt (@v_b _ _ _ _ (@ze2 _ _ _ _ _ (zan zah (zan zah (zan zah (zan zah (zan (@zaz _ _ _ _ _ _ _ _ _ _ zb9 zbe (@v_b _ _ _ _ (@zaz _ _ _ _ _ _ _ _ _ _ zb1 zb2 (zab 4) (@v_b _ _ _ _ zah))) (@v_b _ _ _ _ zah)) zba))))))) (@v_b _ _ _ _ (@zaz _ _ _ _ _ _ _ _ _ _ zb9 zbe (@v_b _ _ _ _ (@zaz _ _ _ _ _ _ _ _ _ _ zb1 zb2 (zab 4) (@v_b _ _ _ _ zah))) (@v_b _ _ _ _ zah))) (λ _ _=>rfl))))) zbx))) rfl (.inl rfl))
   (zaq (zn8 (i:=3) rfl (zde (zan (zar G_q4 (hr.mono (by decide)) (by rfl) T.d_q4.m T.d_q4.F.kp T.d_q4.b (zan (zaz zb1 zb2 (zab 4) (v_b zah)) (zan (zaj 1) zba))) (zan (zaj 5) (zan (zaj 6) (zan (zh5 (zp8 hr) zf6 (v_b (zaz zb9 zbe (v_b (zaz zb1 zb2 (zab 4) (v_b zah))) (v_b zah))) (v_b zah) (zb0 _)) zba))))))))) zd8)))
   (zaq (z4z 3))))
theorem ybs(T:Txt K mg t):FnOk P w K mg base CX0 1 t.f_q9 t.fd_q9 ["_law_kept"] (spV K 1 zxm):=by
 exact zfd (k:=0) (fs:=f_q9) rfl rfl rfl T.d_q9.F zv6 λ cdv A outer s H E B hr=>(@zak _ _ _ _ _ _ (@zbg _ _ _ _ _ 1 _ _ zv6.nd rfl (Or.inl rfl) (@ze2 _ _ _ _ _ (zan (zg1 T.cl_OutOfBook (by rfl) T.isinstance (by rfl) T.m_OutOfBook (zaj 0)) (zan (zg1 T.cl_SentHere (by rfl) T.isinstance (by rfl) T.m_SentHere (zaj 0)) (zan (zg1 T.cl_Both (by rfl) T.isinstance (by rfl) T.m_Both (zaj 0)) (zan (zg1 T.cl_TwoWays (by rfl) T.isinstance (by rfl) T.m_TwoWays (zaj 0)) zba))))) rfl (.inl rfl))
   (@zak _ _ _ _ _ _ (@zbg _ _ _ _ _ 1 _ _ zv6.nd rfl (Or.inl rfl) (@zaz _ _ _ _ _ _ _ _ _ _ zbh zat (zab 1) (@v_b _ _ _ _ (@ze2 _ _ _ _ _ (zan (zg1 T.cl_Ring (by rfl) T.isinstance (by rfl) T.m_Ring (zaj 0)) (zan (zg1 T.cl_Nowhere (by rfl) T.isinstance (by rfl) T.m_Nowhere (zaj 0)) (zan (zg1 T.cl_NoRow (by rfl) T.isinstance (by rfl) T.m_NoRow (zaj 0)) zba)))))) rfl (.inl rfl))
   (@zak _ _ _ _ _ _ (@zbg _ _ _ _ _ 1 _ _ zv6.nd rfl (Or.inl rfl) (@zaz _ _ _ _ _ _ _ _ _ _ zbh zat (zab 1) (@v_b _ _ _ _ (@ze2 _ _ _ _ _ (zan (zg1 T.cl_NoMark (by rfl) T.isinstance (by rfl) T.m_NoMark (zaj 0)) (zan (zg1 T.cl_NoText (by rfl) T.isinstance (by rfl) T.m_NoText (zaj 0)) zba))))) rfl (.inl rfl))
   (zaq (zbo (zmc (zh5 (zp8 hr) zf6 (v_b (v_m PySem.F.plainAttrs_list PySem.F.slot_list_count PySem.F.type_list_count (z6k LV hr (by decide)) z6l (zab 1) (zbr (v_b zst) zbx))) (v_b zah) (zb0 _)) (zmc (yay T.n_PageError (by rfl) T.isinstance (by rfl) T.m_PageError (zaj 0)) (zmb (yad (C:=0) (by rfl) T.isinstance (zhy (v:=.ty "ValueError") (by rfl) T.ValueError zih rfl) (zaj 0))))))))))
theorem z7s(T:Txt K mg t):FnOk P w K mg base CX0 3 t.f_q12 t.fd_q12 ["_law_cell","_law_by","_law_many"] (spV K 3 zka):=by
 have G_q4:FnOk P w K mg base CX0 2 t.f_q4 t.fd_q4 ["_law_cell","_law_by"] (spV K 2 zs0):=z7r T
 exact zfd (k:=2) (fs:=f_q12) rfl rfl rfl T.d_q12.F zhv λ cdv A outer s H E B hr=>(@zak _ _ _ _ _ _ (@zbg _ _ _ _ _ 3 _ _ zhv.nd rfl (Or.inl rfl) (zaz zb9 zbe (v_b (zaz zb1 zb2 (zab 0) (v_b zah))) (v_b (zaz zbh zat (zab 2) (v_b zah)))) rfl (.inl rfl))
   (@zak _ _ _ _ _ _ (@zbg _ _ _ _ _ 4 _ _ zhv.nd rfl (Or.inl rfl) (zaz zb9 zbe (v_b (zaz zen zc1 (zab 0) (v_b zah))) (v_b (zaz zyt zp9 (v_b zah) (v_b zah)))) rfl (.inl rfl))
   (@zak _ _ _ _ _ _ (@zbg _ _ _ _ _ 5 _ _ zhv.nd rfl (Or.inl rfl) (@ze2 _ _ _ _ _ (zan (zde (zan (zaj 3) (zan (zaj 2) zba))) (zan (zde (zan (@zaz _ _ _ _ _ _ _ _ _ _ zn1 zhf (@v_b _ _ _ _ zah) (@v_b _ _ _ _ zah)) (zan (zaj 3) zba))) (zan (zde (zan (@zaz _ _ _ _ _ _ _ _ _ _ zbh zat (zab 3) (@v_b _ _ _ _ zah)) (zan (zaj 3) zba))) (zan (zde (zan zah (zan (@zaz _ _ _ _ _ _ _ _ _ _ zbh zat (zab 2) (zab 4)) zba))) (zan (zde (zan (@zaz _ _ _ _ _ _ _ _ _ _ zn1 zhf (@v_b _ _ _ _ (@zaz _ _ _ _ _ _ _ _ _ _ zn1 zhf (@v_b _ _ _ _ zah) (@v_b _ _ _ _ zah))) (zab 4)) (zan (@zaz _ _ _ _ _ _ _ _ _ _ zn1 zhf (@v_b _ _ _ _ zah) (@v_b _ _ _ _ zah)) zba))) (zan (zde (zan (zaj 2) (zan (zaj 2) zba))) zba))))))) rfl (.inl rfl))
   (@zak _ _ _ _ _ _ (z4x (zdt (zab 5) (v_b (zaz zb9 zbe (zab 0) (v_b zah))) (λ _ _=>rfl)) (z70 rfl (ze4 (zdq (i:=6) zhv.nd rfl (Or.inl rfl)) (ze4 (zdq (i:=7) zhv.nd rfl (Or.inl rfl)) zt8))))
   (zaq (zbo (zde (zan (zar G_q4 (hr.mono (by decide)) (by rfl) T.d_q4.m T.d_q4.F.kp T.d_q4.b (zan (zaz zb1 zb2 (zab 0) (v_b zah)) (zan (zaj 1) zba))) (zan (zaj 6) (zan (zaj 7) (zan (zh5 (zp8 hr) zf6 (v_b (zaz zb9 zbe (v_b (zaz zb1 zb2 (zab 0) (v_b zah))) (v_b zah))) (v_b zah) (zb0 _)) zba)))))))))))
theorem z7t(T:Txt K mg t):FnOk P w K mg base CX0 8 t.f_q10 t.fd_q10 ["_law_book_here","_law_settings_here","_law_marks_here"] (spV K 3 zg6):=by
 have G_q13:FnOk P w K mg base CX0 7 t.f_q13 t.fd_q13 ["book","most","first","marks"] (spV K 4 zg5):=z7q T;have GX_q13:FnOk P w K mg base (CX1 P w) 7 t.f_q13 t.fd_q13 ["book","most","first","marks"] (spE K 4 zrm):=z2g T
 exact zfd (k:=7) (fs:=f_q10) rfl rfl rfl T.d_q10.F zsp λ cdv A outer s H E B hr=>(@zak _ _ _ _ _ _ (@zbg _ _ _ _ _ 3 _ _ zsp.nd rfl (Or.inl rfl) z4j rfl (.inl rfl))
   (@zak _ _ _ _ _ _ (z49 (i:=3) (j:=4) G_q13 GX_q13 (hr.mono (by decide)) (by rfl) T.d_q13.m T.d_q13.F.kp T.d_q13.b (by rfl) ⟨rfl,rfl⟩ zsp.nd rfl rfl rfl rfl (λ _=>(zan (zaj 0) (zan (zdt (zab 1) (v_b zah) (λ _ _=>rfl)) (zan (zdt (zab 1) (v_b zah) (λ _ _=>rfl)) (zan (zaj 2) zba))))))
   (zaq (zbo (zaj 3)))))
theorem ybt(T:Txt K mg t):FnOk P w K mg base CX0 3 t.f_q5 t.fd_q5 ["_law_kept","_law_odd_here"] (spV K 2 zxn):=by
 have G_q9:FnOk P w K mg base CX0 1 t.f_q9 t.fd_q9 ["_law_kept"] (spV K 1 zxm):=ybs T;have G_qe:FnOk P w K mg base CX0 2 t.f_qe t.fd_qe ["_law_path"] (spV K 1 zxl):=ybo T;have G_q8:FnOk P w K mg base CX0 1 t.f_q8 t.fd_q8 ["_law_found"] (spV K 1 zsy):=ybl T
 exact zfd (k:=2) (fs:=f_q5) rfl rfl rfl T.d_q5.F z2f λ cdv A outer s H E B hr=>(@zak _ _ _ _ _ _ (zdv (PW.pt (ztz (zem (zdb (zg1 T.cl_OutOfBook (by rfl) T.isinstance (by rfl) T.m_OutOfBook (zaj 0)))) (zp2 (zem (zdb (zar G_q9 (hr.mono (by decide)) (by rfl) T.d_q9.m T.d_q9.F.kp T.d_q9.b (zan (zaj 0) zba))))))) (zaq (zbo zst)) zd8)
   (@zak _ _ _ _ _ _ (zdv (PW.pt (ztz (zem (zdb (zz2 zqc (by rfl) T.isinstance (zhy (v:=.ty "tuple") (by rfl) T.tuple zh2 rfl) (v_b (z2i zii (zaj 0)))))) (ztz (zem (zdb (zar G_q8 (hr.mono (by decide)) (by rfl) T.d_q8.m T.d_q8.F.kp T.d_q8.b (zan (z2i zgk (zaj 0)) zba)))) (zp2 (zem (zdb (zar G_q8 (hr.mono (by decide)) (by rfl) T.d_q8.m T.d_q8.F.kp T.d_q8.b (zan (z2i zij (zaj 0)) zba)))))))) (zaq (zbo zst)) zd8)
   (@zak _ _ _ _ _ _ (z4w (i:=2) z2f.nd rfl rfl rfl (vars:=["_law_mark"]) (cap:=[]) (zjk [] rfl (by decide +kernel) (by decide +kernel) (by decide +kernel) .nil) (z3x .nil) (by decide) (by decide) (zqf (zab 1)) (λ _ _ _ _=>(zdq (i:=0) (show List.Nodup (["_law_mark"]:List Str) by decide +kernel) rfl (Or.inl rfl))) (λ _ _ _ _=>zml) (λ _ _ _ _=>(zde (zan (zar G_qe (hr.mono (by decide)) (by rfl) T.d_qe.m T.d_qe.F.kp T.d_qe.b (zan (zdt (zab 0) (v_b zah) (λ _ _=>rfl)) zba)) (zan (zdt (zab 0) (v_b zah) (λ _ _=>rfl)) (zan (zdt (zab 0) (v_b zah) (λ _ _=>rfl)) (zan (zdt (zab 0) (v_b zah) (λ _ _=>rfl)) zba)))))))
   (@zak _ _ _ _ _ _ (@zbg _ _ _ _ _ 3 _ _ z2f.nd rfl (Or.inl rfl) (zdt (zab 1) (v_b (v_m PySem.F.plainAttrs_list PySem.F.slot_list_index PySem.F.type_list_index (z6h LV hr (by decide)) z6j (zab 2) (zbr (v_b (ze3 (z53 rfl hr) z09 (by rfl) T.min zwf (zbr (zab 2) zbx))) zbx))) (λ _ _=>rfl)) rfl (.inl rfl))
   (zaq (zbo (zh5 (zp8 hr) zf6 (v_b (zde (zan (z2i zii (zaj 0)) (zan (z2i zgk (zaj 0)) (zan (z2i zij (zaj 0)) zba))))) (v_b (zzy (zab 3) z7y (zsu (v_b zah)))) (zb0 _))))))))
theorem z7u(T:Txt K mg t):FnOk P w K mg base CX0 9 t.f_q1b t.fd_q1b ["_law_script"] (spV K 1 zin):=by
 have G_qf:FnOk P w K mg base CX0 1 t.f_qf t.fd_qf ["_law_cells"] (spV K 1 z1p):=ybp T;have G_q7:FnOk P w K mg base CX0 1 t.f_q7 t.fd_q7 ["_law_script","_law_k"] (spV K 2 zxk):=ybk T;have G_qc:FnOk P w K mg base CX0 3 t.f_qc t.fd_qc ["_law_cells","_law_by","_law_many"] (spW K 3 z1q):=ybr T;have G_q12:FnOk P w K mg base CX0 3 t.f_q12 t.fd_q12 ["_law_cell","_law_by","_law_many"] (spV K 3 zka):=z7s T;have G_q5:FnOk P w K mg base CX0 3 t.f_q5 t.fd_q5 ["_law_kept","_law_odd_here"] (spV K 2 zxn):=ybt T;have G_q2:FnOk P w K mg base CX0 1 t.f_q2 t.fd_q2 ["_law_by"] (spV K 1 zu6):=ybq T;have G_q10:FnOk P w K mg base CX0 8 t.f_q10 t.fd_q10 ["_law_book_here","_law_settings_here","_law_marks_here"] (spV K 3 zg6):=z7t T;have G_q19:FnOk P w K mg base CX0 1 t.f_q19 t.fd_q19 ["mark","many"] (spV K 2 zcl):=zsq T
 exact zfd (k:=8) (fs:=f_q1b) rfl rfl rfl T.d_q1b.F zd2 λ cdv A outer s H E B hr=>(@zak _ _ _ _ _ _ (@zbg _ _ _ _ _ 1 _ _ zd2.nd rfl (Or.inl rfl) (zar G_q7 (hr.mono (by decide)) (by rfl) T.d_q7.m T.d_q7.F.kp T.d_q7.b (zan (zaj 0) (zan zah zba))) rfl (.inl rfl))
   (@zak _ _ _ _ _ _ (@zbg _ _ _ _ _ 2 _ _ zd2.nd rfl (Or.inl rfl) (zar G_q7 (hr.mono (by decide)) (by rfl) T.d_q7.m T.d_q7.F.kp T.d_q7.b (zan (zaj 0) (zan zah zba))) rfl (.inl rfl))
   (@zak _ _ _ _ _ _ (@zbg _ _ _ _ _ 3 _ _ zd2.nd rfl (Or.inl rfl) (zar G_qf (hr.mono (by decide)) (by rfl) T.d_qf.m T.d_qf.F.kp T.d_qf.b (zan (zzy (zab 0) (zsu (v_b zah)) (zsu (v_b zah))) zba)) rfl (.inl rfl))
   (@zak _ _ _ _ _ _ (@zbg _ _ _ _ _ 4 _ _ zd2.nd rfl (Or.inl rfl) (zsv (zlg G_qc (hr.mono (by decide)) (by rfl) T.d_qc.m T.d_qc.F.kp T.d_qc.b (zan (zzy (zab 0) (zsu (v_b zah)) (zsu (v_b zah))) (zan (zaj 2) (zan (ze3 zg0 zdy (by rfl) T.len zdx (zbr (zab 3) zbx)) zba))))) rfl (.inl rfl))
   (@zak _ _ _ _ _ _ (zlf (i:=5) zd2.nd rfl (Or.inl rfl) (zhj zba))
   (@zak _ _ _ _ _ _ (ze7 PassesOwn.never rfl (zh8 (by rfl) T.range (zbr (v_b (zaz zbh zat (v_b zah) (v_b (zaz zb9 zbe (zab 1) (v_b zah))))) zbx)) (zdq (i:=6) zd2.nd rfl (Or.inl rfl)) (zaq (zn8 (i:=5) rfl (zar G_q12 (hr.mono (by decide)) (by rfl) T.d_q12.m T.d_q12.F.kp T.d_q12.b (zan (zaz zbh zat (v_b (ze3 zs7 z4s (by rfl) T.abs z3y (zbr (v_b (zaz zb1 zb2 (zab 1) (v_b (zaz zbh zat (v_b zah) (zab 6))))) zbx))) (zab 6)) (zan (zaj 2) (zan (ze3 zg0 zdy (by rfl) T.len zdx (zbr (zab 3) zbx)) zba)))))))
   (@zak _ _ _ _ _ _ (ze7 PassesOwn.never rfl (zmi (zaj 4)) (zdq (i:=7) zd2.nd rfl (Or.inl rfl)) (zaq (zdv (zda zm4 zj3 (v_b (zar G_q19 (hr.mono (by decide)) (by rfl) T.d_q19.m T.d_q19.F.kp T.d_q19.b (zan (zaj 7) (zan (ze3 zg0 zdy (by rfl) T.len zdx (zbr (zab 3) zbx)) zba)))) (v_b zst) (zb0 _)) (zaq (zbo zst)) zd8)))
   (@zak _ _ _ _ _ _ (zlf (i:=8) zd2.nd rfl (Or.inl rfl) (zz6 (x:="") (by rfl) T.list (zbr (zab 4) zbx)))
   (zqi 5 (@zak _ _ _ _ _ _ (ze7 PassesOwn.never rfl (zmi (zaj 5)) (zdq (i:=7) zd2.nd rfl (Or.inl rfl)) (@zak _ _ _ _ _ _ (zdv (zda zm4 zj3 (v_b (zar G_q19 (hr.mono (by decide)) (by rfl) T.d_q19.m T.d_q19.F.kp T.d_q19.b (zan (zaj 7) (zan (ze3 zg0 zdy (by rfl) T.len zdx (zbr (zab 3) zbx)) zba)))) (v_b zst) (zb0 _)) (zaq (zbo zst)) zd8)
   (zaq (z57 (i:=8) rfl (zaz zb9 zbe (v_b (zaz zb1 zb2 (zab 1) (v_b zah))) (v_b (zaz zbh zat (v_b (ze3 zg0 zdy (by rfl) T.len zdx (zbr (zab 8) zbx))) (v_b zah)))) (zaj 7)))))
   (zqi 8 (@zak _ _ _ _ _ _ (zdv (zem (zdb (zar G_q5 (hr.mono (by decide)) (by rfl) T.d_q5.m T.d_q5.F.kp T.d_q5.b (zan (zar G_q10 (hr.mono (by decide)) (by rfl) T.d_q10.m T.d_q10.F.kp T.d_q10.b (zan (zaj 3) (zan (zar G_q2 (hr.mono (by decide)) (by rfl) T.d_q2.m T.d_q2.F.kp T.d_q2.b (zan (zaj 1) zba)) (zan (zaj 8) zba)))) (zan (zaj 5) zba))))) (zaq (zbo zst)) zd8)
   (@zak _ _ _ _ _ _ (zdv (zda zz8 zt9 (v_b (zar G_q10 (hr.mono (by decide)) (by rfl) T.d_q10.m T.d_q10.F.kp T.d_q10.b (zan (zaj 3) (zan (zar G_q2 (hr.mono (by decide)) (by rfl) T.d_q2.m T.d_q2.F.kp T.d_q2.b (zan (zaj 1) zba)) (zan (zaj 4) zba))))) (v_b z4j) (zb0 _)) (zaq (zbo zst)) zd8)
   (zaq (zbo (zar G_q5 (hr.mono (by decide)) (by rfl) T.d_q5.m T.d_q5.F.kp T.d_q5.b (zan (zar G_q10 (hr.mono (by decide)) (by rfl) T.d_q10.m T.d_q10.F.kp T.d_q10.b (zan (zaj 3) (zan (zar G_q2 (hr.mono (by decide)) (by rfl) T.d_q2.m T.d_q2.F.kp T.d_q2.b (zan (zaj 1) zba)) (zan (zsv (z5r rfl (by rfl) T.list (by rfl) T.reversed (zbr (zab 8) zbx))) zba)))) (zan (zaj 5) zba))))))))))))))))))
end
theorem zsr{K:PySem.W.Frag}{H:Hp}{a:Addr}{ns:List Int}{E:XK}{Q:VK}(hl:ns.length<=63)(hS:SqL K H a (ns.map V.int))(q:∀H',Q (.bl true) H'):spV K 1 zin [.ref a] H Q E:=by
 refine⟨H,[.lst (ns.map D.int)],.bl true,zax.refl _,.cons (zc8 hS (zia ns)) .nil,rfl,zvr ns hl,λHf' H' v _ dv=>?_⟩;rw[dv.bl];exact q H'
abbrev fT(K:PySem.W.Frag)(x:String)(s:Stmt)(f:Addr)(pm cd:Value):Prop:=PySem.W.nsIn K mainGlobals x=some (some (.ref f))/\K.lookup f=some (Zf x x s pm cd)/\PySem.W.codeIn K cd x=true/\PySem.W.keepIn K (.ref f)=true
theorem all_mk {l:PySem.W.OpenLaw}{w:World}{h:Heap}{mg:Str->Option Value}{fa:Addr} (X:(KK w.params).In h) (G:h.Ns mainGlobals mg) (hfa:mg "law" = some (.ref fa)) :
  ∃fd:FuncData,(∀(s:Shared) (v:Value),BindsTo s fd ⟨[v],[]⟩ [("_law_script",v)])/\∀base:Heap,(KK w.params).In base->base.Ns mainGlobals mg->FnOk l.prog w (KK w.params) mg base CX0 9 fa fd ["_law_script"] (spV (KK w.params) 1 zin):=by
 have ⟨a_q18,l_q18,c_q18,k_q18⟩:fT (KK w.params) "pages" zvs 21 (Zs "pageback.book" 187) (.ref 20):=by and_intros <;> kernel_rfl
 have ⟨a_q17,l_q17,c_q17,k_q17⟩:fT (KK w.params) "shown" zvt 205 (Zs "pageback.heads" 444) (.ref 204):=by and_intros <;> kernel_rfl
 have ⟨a_q15,l_q15,c_q15,k_q15⟩:fT (KK w.params) "key_of" zvu 210 (Zs "pageback.heads" 444) (.ref 209):=by and_intros <;> kernel_rfl
 have ⟨a_q1a,l_q1a,c_q1a,k_q1a⟩:fT (KK w.params) "rank" zvv 215 (Zs "pageback.heads" 444) (.ref 214):=by and_intros <;> kernel_rfl
 have ⟨a_q19,l_q19,c_q19,k_q19⟩:fT (KK w.params) "fits" zvw 222 (Zs "pageback.marks" 468) (.ref 221):=by and_intros <;> kernel_rfl
 have ⟨a_q16,l_q16,c_q16,k_q16⟩:fT (KK w.params) "poured" zvx 229 (Zs "pageback.marks" 468) (.ref 228):=by and_intros <;> kernel_rfl
 have ⟨a_q14,l_q14,c_q14,k_q14⟩:fT (KK w.params) "copied" zvy 236 (Zs "pageback.marks" 468) (.ref 235):=by and_intros <;> kernel_rfl
 have ⟨a_qd,l_qd,c_qd,k_qd⟩:fT (KK w.params) "mark_rank" z79 243 (Zs "pageback.marks" 468) (.ref 242):=by and_intros <;> kernel_rfl
 have ⟨a_qb,l_qb,c_qb,k_qb⟩:fT (KK w.params) "stretches" z8a 250 (Zs "pageback.stretches" 505) (.ref 249):=by and_intros <;> kernel_rfl
 have ⟨a_q0,l_q0,c_q0,k_q0⟩:fT (KK w.params) "strong_by_page" z8b 257 (Zs "pageback.stretches" 505) (.ref 256):=by and_intros <;> kernel_rfl
 have ⟨a_q11,l_q11,c_q11,k_q11⟩:fT (KK w.params) "goes_on" zvz 264 (Zs "pageback.stretches" 505) (.ref 263):=by and_intros <;> kernel_rfl
 have ⟨a_q13,l_q13,c_q13,k_q13⟩:fT (KK w.params) "entries" zv0 269 (Zs "pageback.entries" 541) (.ref 268):=by and_intros <;> kernel_rfl
 have ⟨a_q3,l_q3,c_q3,k_q3⟩:fT (KK w.params) "refuse_unfit" z8c 276 (Zs "pageback.entries" 541) (.ref 275):=by and_intros <;> kernel_rfl
 have ⟨a_q1,l_q1,c_q1,k_q1⟩:fT (KK w.params) "marks_by_path" z8d 283 (Zs "pageback.entries" 541) (.ref 282):=by and_intros <;> kernel_rfl
 have ⟨a_q7,l_q7,c_q7,k_q7⟩:fT (KK w.params) "_law_cell_at" z8e 290 Zm (.ref 289):=by and_intros <;> kernel_rfl
 have ⟨a_q8,l_q8,c_q8,k_q8⟩:fT (KK w.params) "_law_whole" z8f 297 Zm (.ref 296):=by and_intros <;> kernel_rfl
 have ⟨a_q6,l_q6,c_q6,k_q6⟩:fT (KK w.params) "_law_head_by" z8g 304 Zm (.ref 303):=by and_intros <;> kernel_rfl
 have ⟨a_q4,l_q4,c_q4,k_q4⟩:fT (KK w.params) "_law_path_by" z8h 311 Zm (.ref 310):=by and_intros <;> kernel_rfl
 have ⟨a_qa,l_qa,c_qa,k_qa⟩:fT (KK w.params) "_law_shown" z8i 318 Zm (.ref 317):=by and_intros <;> kernel_rfl
 have ⟨a_qe,l_qe,c_qe,k_qe⟩:fT (KK w.params) "_law_rank" z8j 325 Zm (.ref 324):=by and_intros <;> kernel_rfl
 have ⟨a_qf,l_qf,c_qf,k_qf⟩:fT (KK w.params) "_law_book" z8k 330 Zm (.ref 329):=by and_intros <;> kernel_rfl
 have ⟨a_q2,l_q2,c_q2,k_q2⟩:fT (KK w.params) "_law_settings" z8l 344 Zm (.ref 343):=by and_intros <;> kernel_rfl
 have ⟨a_qc,l_qc,c_qc,k_qc⟩:fT (KK w.params) "_law_marks" z8m 351 Zm (.ref 350):=by and_intros <;> kernel_rfl
 have ⟨a_q9,l_q9,c_q9,k_q9⟩:fT (KK w.params) "_law_alone" z8n 358 Zm (.ref 357):=by and_intros <;> kernel_rfl
 have ⟨a_q12,l_q12,c_q12,k_q12⟩:fT (KK w.params) "_law_odd" zv1 365 Zm (.ref 364):=by and_intros <;> kernel_rfl
 have ⟨a_q10,l_q10,c_q10,k_q10⟩:fT (KK w.params) "_law_told" zv2 372 Zm (.ref 371):=by and_intros <;> kernel_rfl
 have ⟨a_q5,l_q5,c_q5,k_q5⟩:fT (KK w.params) "_law_refused" z8o 377 Zm (.ref 376):=by and_intros <;> kernel_rfl
 have ⟨a_q1b,l_q1b,c_q1b,k_q1b⟩:fT (KK w.params) "law" zlv 384 Zm (.ref 383):=by and_intros <;> kernel_rfl
 have z_ValueError:PySem.W.nsIn (KK w.params) mainGlobals "ValueError" = some none:=by kernel_rfl
 have z_abs:PySem.W.nsIn (KK w.params) mainGlobals "abs" = some none:=by kernel_rfl
 have z_bool:PySem.W.nsIn (KK w.params) mainGlobals "bool" = some none:=by kernel_rfl
 have z_int:PySem.W.nsIn (KK w.params) mainGlobals "int" = some none:=by kernel_rfl
 have z_isinstance:PySem.W.nsIn (KK w.params) mainGlobals "isinstance" = some none:=by kernel_rfl
 have z_len:PySem.W.nsIn (KK w.params) mainGlobals "len" = some none:=by kernel_rfl
 have z_list:PySem.W.nsIn (KK w.params) mainGlobals "list" = some none:=by kernel_rfl
 have z_min:PySem.W.nsIn (KK w.params) mainGlobals "min" = some none:=by kernel_rfl
 have z_range:PySem.W.nsIn (KK w.params) mainGlobals "range" = some none:=by kernel_rfl
 have z_reversed:PySem.W.nsIn (KK w.params) mainGlobals "reversed" = some none:=by kernel_rfl
 have z_sorted:PySem.W.nsIn (KK w.params) mainGlobals "sorted" = some none:=by kernel_rfl
 have z_tuple:PySem.W.nsIn (KK w.params) mainGlobals "tuple" = some none:=by kernel_rfl
 have n_PageError:PySem.W.nsIn (KK w.params) mainGlobals "PageError" = some (some (.ref 31)):=by kernel_rfl
 have n_Both:PySem.W.nsIn (KK w.params) mainGlobals "Both" = some (some (.ref 89)):=by kernel_rfl
 have i_Both:PySem.W.findIn (KK w.params) (.ref 89) "__init__" = some (some (.ref 86)):=by kernel_rfl
 have x_Both:xcB (KK w.params) "Both" 89 31 (some 86)=true:=by kernel_rfl
 have n_NoMark:PySem.W.nsIn (KK w.params) mainGlobals "NoMark" = some (some (.ref 177)):=by kernel_rfl
 have x_NoMark:xcB (KK w.params) "NoMark" 177 31 none=true:=by kernel_rfl
 have n_NoRow:PySem.W.nsIn (KK w.params) mainGlobals "NoRow" = some (some (.ref 165)):=by kernel_rfl
 have i_NoRow:PySem.W.findIn (KK w.params) (.ref 165) "__init__" = some (some (.ref 162)):=by kernel_rfl
 have x_NoRow:xcB (KK w.params) "NoRow" 165 31 (some 162)=true:=by kernel_rfl
 have n_NoText:PySem.W.nsIn (KK w.params) mainGlobals "NoText" = some (some (.ref 196)):=by kernel_rfl
 have i_NoText:PySem.W.findIn (KK w.params) (.ref 196) "__init__" = some (some (.ref 193)):=by kernel_rfl
 have x_NoText:xcB (KK w.params) "NoText" 196 31 (some 193)=true:=by kernel_rfl
 have n_Nowhere:PySem.W.nsIn (KK w.params) mainGlobals "Nowhere" = some (some (.ref 146)):=by kernel_rfl
 have i_Nowhere:PySem.W.findIn (KK w.params) (.ref 146) "__init__" = some (some (.ref 143)):=by kernel_rfl
 have x_Nowhere:xcB (KK w.params) "Nowhere" 146 31 (some 143)=true:=by kernel_rfl
 have n_OutOfBook:PySem.W.nsIn (KK w.params) mainGlobals "OutOfBook" = some (some (.ref 51)):=by kernel_rfl
 have i_OutOfBook:PySem.W.findIn (KK w.params) (.ref 51) "__init__" = some (some (.ref 48)):=by kernel_rfl
 have x_OutOfBook:xcB (KK w.params) "OutOfBook" 51 31 (some 48)=true:=by kernel_rfl
 have li_OutOfBook:(KK w.params).lookup 48=some (Zf "__init__" "OutOfBook.__init__" zbu (Zs "pageback.errors" 202) (.ref 47)):=by kernel_rfl
 have ci_OutOfBook:PySem.W.codeIn (KK w.params) (.ref 47) "OutOfBook.__init__" = true:=by kernel_rfl
 have ki_OutOfBook:PySem.W.keepIn (KK w.params) (.ref 48)=true:=by kernel_rfl
 have kp_OutOfBook:PySem.W.keepIn (KK w.params) (.ref 51)=true:=by kernel_rfl
 have n_Ring:PySem.W.nsIn (KK w.params) mainGlobals "Ring" = some (some (.ref 127)):=by kernel_rfl
 have i_Ring:PySem.W.findIn (KK w.params) (.ref 127) "__init__" = some (some (.ref 124)):=by kernel_rfl
 have x_Ring:xcB (KK w.params) "Ring" 127 31 (some 124)=true:=by kernel_rfl
 have n_SentHere:PySem.W.nsIn (KK w.params) mainGlobals "SentHere" = some (some (.ref 70)):=by kernel_rfl
 have i_SentHere:PySem.W.findIn (KK w.params) (.ref 70) "__init__" = some (some (.ref 67)):=by kernel_rfl
 have x_SentHere:xcB (KK w.params) "SentHere" 70 31 (some 67)=true:=by kernel_rfl
 have n_TwoWays:PySem.W.nsIn (KK w.params) mainGlobals "TwoWays" = some (some (.ref 108)):=by kernel_rfl
 have i_TwoWays:PySem.W.findIn (KK w.params) (.ref 108) "__init__" = some (some (.ref 105)):=by kernel_rfl
 have x_TwoWays:xcB (KK w.params) "TwoWays" 108 31 (some 105)=true:=by kernel_rfl
 have y_LETTERS_AND_FIGURES:PySem.W.nsIn (KK w.params) mainGlobals "LETTERS_AND_FIGURES" = some (some (.str zbl 446)):=by kernel_rfl
 generalize KK w.params=K at *;have e:=hfa.symm.trans (PySem.W.mg_of X G a_q1b);cases e;have zlq:=za2 (st:=zvs) l_q18 c_q18 k_q18;have b_pages:=zlq.binds (ps:=["book","most","first"]) λ_ _ _ _ _ _ us hl=>match us,hl with|[_,_,_],_=>rfl
 have zg4:=za2 (st:=zvt) l_q17 c_q17 k_q17;have b_shown:=zg4.binds (ps:=["head"]) λ_ _ _ _ _ _ us hl=>match us,hl with|[_],_=>rfl
 have zj8:=za2 (st:=zvu) l_q15 c_q15 k_q15;have b_key_of:=zj8.binds (ps:=["head"]) λ_ _ _ _ _ _ us hl=>match us,hl with|[_],_=>rfl
 have zdw:=za2 (st:=zvv) l_q1a c_q1a k_q1a;have b_rank:=zdw.binds (ps:=["path"]) λ_ _ _ _ _ _ us hl=>match us,hl with|[_],_=>rfl
 have zcl:=za2 (st:=zvw) l_q19 c_q19 k_q19;have b_fits:=zcl.binds (ps:=["mark","many"]) λ_ _ _ _ _ _ us hl=>match us,hl with|[_,_],_=>rfl
 have zfl:=za2 (st:=zvx) l_q16 c_q16 k_q16;have b_poured:=zfl.binds (ps:=["hands"]) λ_ _ _ _ _ _ us hl=>match us,hl with|[_],_=>rfl
 have zj9:=za2 (st:=zvy) l_q14 c_q14 k_q14;have b_copied:=zj9.binds (ps:=["path"]) λ_ _ _ _ _ _ us hl=>match us,hl with|[_],_=>rfl
 have zee:=za2 (st:=z79) l_qd c_qd k_qd;have b_mark_rank:=zee.binds (ps:=["mark"]) λ_ _ _ _ _ _ us hl=>match us,hl with|[_],_=>rfl
 have z1n:=za2 (st:=z8a) l_qb c_qb k_qb;have b_stretches:=z1n.binds (ps:=["numbers","marks"]) λ_ _ _ _ _ _ us hl=>match us,hl with|[_,_],_=>rfl
 have z1m:=za2 (st:=z8b) l_q0 c_q0 k_q0;have b_strong_by_page:=z1m.binds (ps:=["numbers","marks"]) λ_ _ _ _ _ _ us hl=>match us,hl with|[_,_],_=>rfl
 have zim:=za2 (st:=zvz) l_q11 c_q11 k_q11;have b_goes_on:=zim.binds (ps:=["stretch","page","is_strong"]) λ_ _ _ _ _ _ us hl=>match us,hl with|[_,_,_],_=>rfl
 have zg5:=za2 (st:=zv0) l_q13 c_q13 k_q13;have b_entries:=zg5.binds (ps:=["book","most","first","marks"]) λ_ _ _ _ _ _ us hl=>match us,hl with|[_,_,_,_],_=>rfl
 have zsx:=za2 (st:=z8c) l_q3 c_q3 k_q3;have b_refuse_unfit:=zsx.binds (ps:=["ordered","many"]) λ_ _ _ _ _ _ us hl=>match us,hl with|[_,_],_=>rfl
 have z1o:=za2 (st:=z8d) l_q1 c_q1 k_q1;have b_marks_by_path:=z1o.binds (ps:=["ordered"]) λ_ _ _ _ _ _ us hl=>match us,hl with|[_],_=>rfl
 have zxk:=za2 (st:=z8e) l_q7 c_q7 k_q7;have b_law_cell_at:=zxk.binds (ps:=["_law_script","_law_k"]) λ_ _ _ _ _ _ us hl=>match us,hl with|[_,_],_=>rfl
 have zsy:=za2 (st:=z8f) l_q8 c_q8 k_q8;have b_law_whole:=zsy.binds (ps:=["_law_found"]) λ_ _ _ _ _ _ us hl=>match us,hl with|[_],_=>rfl
 have zsz:=za2 (st:=z8g) l_q6 c_q6 k_q6;have b_law_head_by:=zsz.binds (ps:=["_law_cell","_law_k"]) λ_ _ _ _ _ _ us hl=>match us,hl with|[_,_],_=>rfl
 have zs0:=za2 (st:=z8h) l_q4 c_q4 k_q4;have b_law_path_by:=zs0.binds (ps:=["_law_cell","_law_by"]) λ_ _ _ _ _ _ us hl=>match us,hl with|[_,_],_=>rfl
 have zoq:=za2 (st:=z8i) l_qa c_qa k_qa;have b_law_shown:=zoq.binds (ps:=["_law_head"]) λ_ _ _ _ _ _ us hl=>match us,hl with|[_],_=>rfl
 have zxl:=za2 (st:=z8j) l_qe c_qe k_qe;have b_law_rank:=zxl.binds (ps:=["_law_path"]) λ_ _ _ _ _ _ us hl=>match us,hl with|[_],_=>rfl
 have z1p:=za2 (st:=z8k) l_qf c_qf k_qf;have b_law_book:=z1p.binds (ps:=["_law_cells"]) λ_ _ _ _ _ _ us hl=>match us,hl with|[_],_=>rfl
 have zu6:=za2 (st:=z8l) l_q2 c_q2 k_q2;have b_law_settings:=zu6.binds (ps:=["_law_by"]) λ_ _ _ _ _ _ us hl=>match us,hl with|[_],_=>rfl
 have z1q:=za2 (st:=z8m) l_qc c_qc k_qc;have b_law_marks:=z1q.binds (ps:=["_law_cells","_law_by","_law_many"]) λ_ _ _ _ _ _ us hl=>match us,hl with|[_,_,_],_=>rfl
 have zxm:=za2 (st:=z8n) l_q9 c_q9 k_q9;have b_law_alone:=zxm.binds (ps:=["_law_kept"]) λ_ _ _ _ _ _ us hl=>match us,hl with|[_],_=>rfl
 have zka:=za2 (st:=zv1) l_q12 c_q12 k_q12;have b_law_odd:=zka.binds (ps:=["_law_cell","_law_by","_law_many"]) λ_ _ _ _ _ _ us hl=>match us,hl with|[_,_,_],_=>rfl
 have zg6:=za2 (st:=zv2) l_q10 c_q10 k_q10;have b_law_told:=zg6.binds (ps:=["_law_book_here","_law_settings_here","_law_marks_here"]) λ_ _ _ _ _ _ us hl=>match us,hl with|[_,_,_],_=>rfl
 have zxn:=za2 (st:=z8o) l_q5 c_q5 k_q5;have b_law_refused:=zxn.binds (ps:=["_law_kept","_law_odd_here"]) λ_ _ _ _ _ _ us hl=>match us,hl with|[_,_],_=>rfl
 have zin:=za2 (st:=zlv) l_q1b c_q1b k_q1b;have b_law:=zin.binds (ps:=["_law_script"]) λ_ _ _ _ _ _ us hl=>match us,hl with|[_],_=>rfl
 have FI_OutOfBook:=za2 (st:=zbu) li_OutOfBook ci_OutOfBook ki_OutOfBook;have bI_OutOfBook:=FI_OutOfBook.binds (ps:=["self","path","first","last"]) λ_ _ _ _ _ _ us hl=>match us,hl with|[_,_,_,_],_=>rfl
 have T:Txt K mg ⟨21,_,205,_,210,_,215,_,222,_,229,_,236,_,243,_,250,_,257,_,264,_,269,_,276,_,283,_,290,_,297,_,304,_,311,_,318,_,325,_,330,_,344,_,351,_,358,_,365,_,372,_,377,_,384,_,446,89,(some 86),177,none,165,(some 162),196,(some 193),146,(some 143),51,48,_,31,127,(some 124),70,(some 67),108,(some 105)⟩:=⟨⟨zlq,PySem.W.mg_of X G a_q18,b_pages⟩,⟨zg4,PySem.W.mg_of X G a_q17,b_shown⟩,⟨zj8,PySem.W.mg_of X G a_q15,b_key_of⟩,⟨zdw,PySem.W.mg_of X G a_q1a,b_rank⟩,⟨zcl,PySem.W.mg_of X G a_q19,b_fits⟩,⟨zfl,PySem.W.mg_of X G a_q16,b_poured⟩,⟨zj9,PySem.W.mg_of X G a_q14,b_copied⟩,⟨zee,PySem.W.mg_of X G a_qd,b_mark_rank⟩,⟨z1n,PySem.W.mg_of X G a_qb,b_stretches⟩,⟨z1m,PySem.W.mg_of X G a_q0,b_strong_by_page⟩,⟨zim,PySem.W.mg_of X G a_q11,b_goes_on⟩,⟨zg5,PySem.W.mg_of X G a_q13,b_entries⟩,⟨zsx,PySem.W.mg_of X G a_q3,b_refuse_unfit⟩,⟨z1o,PySem.W.mg_of X G a_q1,b_marks_by_path⟩,⟨zxk,PySem.W.mg_of X G a_q7,b_law_cell_at⟩,⟨zsy,PySem.W.mg_of X G a_q8,b_law_whole⟩,⟨zsz,PySem.W.mg_of X G a_q6,b_law_head_by⟩,⟨zs0,PySem.W.mg_of X G a_q4,b_law_path_by⟩,⟨zoq,PySem.W.mg_of X G a_qa,b_law_shown⟩,⟨zxl,PySem.W.mg_of X G a_qe,b_law_rank⟩,⟨z1p,PySem.W.mg_of X G a_qf,b_law_book⟩,⟨zu6,PySem.W.mg_of X G a_q2,b_law_settings⟩,⟨z1q,PySem.W.mg_of X G a_qc,b_law_marks⟩,⟨zxm,PySem.W.mg_of X G a_q9,b_law_alone⟩,⟨zka,PySem.W.mg_of X G a_q12,b_law_odd⟩,⟨zg6,PySem.W.mg_of X G a_q10,b_law_told⟩,⟨zxn,PySem.W.mg_of X G a_q5,b_law_refused⟩,⟨zin,PySem.W.mg_of X G a_q1b,b_law⟩,PySem.W.mg_none_of X G z_ValueError,PySem.W.mg_none_of X G z_abs,PySem.W.mg_none_of X G z_bool,PySem.W.mg_none_of X G z_int,PySem.W.mg_none_of X G z_isinstance,PySem.W.mg_none_of X G z_len,PySem.W.mg_none_of X G z_list,PySem.W.mg_none_of X G z_min,PySem.W.mg_none_of X G z_range,PySem.W.mg_none_of X G z_reversed,PySem.W.mg_none_of X G z_sorted,PySem.W.mg_none_of X G z_tuple,PySem.W.mg_of X G y_LETTERS_AND_FIGURES,n_Both,PySem.W.mg_of X G n_Both,zer x_Both,n_NoMark,PySem.W.mg_of X G n_NoMark,zer x_NoMark,n_NoRow,PySem.W.mg_of X G n_NoRow,zer x_NoRow,n_NoText,PySem.W.mg_of X G n_NoText,zer x_NoText,n_Nowhere,PySem.W.mg_of X G n_Nowhere,zer x_Nowhere,n_OutOfBook,PySem.W.mg_of X G n_OutOfBook,zer x_OutOfBook,⟨_,li_OutOfBook,rfl⟩,kp_OutOfBook,FI_OutOfBook,bI_OutOfBook,n_PageError,PySem.W.mg_of X G n_PageError,n_Ring,PySem.W.mg_of X G n_Ring,zer x_Ring,n_SentHere,PySem.W.mg_of X G n_SentHere,zer x_SentHere,n_TwoWays,PySem.W.mg_of X G n_TwoWays,zer x_TwoWays⟩
 exact⟨PySem.W.fnOf "law" "law" (zex zlv) (zby zlv) (zae zlv) .none .none .none Zm none (.ref 383) .none,λs v=>.of_eq rfl,λbase _ _=>z7u T⟩
theorem walk{l:PySem.W.OpenLaw}{q:Program}{loose:List Str}{XP:(Str->Option Value)->Heap->Prop}{YP:World->Heap->Prop}{d:DefRec}{K:Params->PySem.W.Frag}(hn:l.most=some 63)(hdf:d.params.defaults=[])
  (hY:∀(w:World) (h:Heap),YP w h->(K w.params).In h)
  (F:∀ (w:World) (mg:Str->Option Value) (fa:Addr) (h:Heap),(K w.params).In h->h.Ns mainGlobals mg->mg d.name=some (.ref fa) →
   ∃fd:FuncData,(∀(s:Shared) (u:Value),BindsTo s fd ⟨[u],[]⟩ [("_law_script",u)])/\∀base:Heap,(K w.params).In base->base.Ns mainGlobals mg->FnOk l.prog w (K w.params) mg base CX0 9 fa fd ["_law_script"] (spV (K w.params) 1 zin)) :
  PySem.W.WalkO q loose XP YP l.row.toRowW d [] (λf vs=>PySem.call f vs) :=
 L2.walk_of (n:=63) (k:=9) (x:="_law_script") (CX:=λ_=>CX0) (sp:=λw=>spV (K w.params) 1 zin) hn (by decide) hdf ⟨rfl,by decide,by decide⟩ hY F (λ_ H a ns hl hO hS=>zsr hl hS λ_=>rfl) λ_ _ _ _ _ z=>z
end K16
open PySem PySem.W PyProof.Rows
set_option maxRecDepth 100000 in
set_option maxHeartbeats 0 in
theorem PySem.Challenge.cw_pageback_k16_out_of_book_holds : PySem.Challenge.rw_pageback_k16_out_of_book.Holds := by
 w_on;o_law
 refine PySem.W.holds_open (q:=K16.VV) (loose:=[]) (XP:=PySem.W.XL K16.VV []) (kwd:=[]) K16.hl (PySem.W.kHook K16.KK K16.AA K16.ka).of (PySem.W.kHook K16.KK K16.AA K16.ka).keeps (λs e=>PySem.W.xl_of s (kq.mp e).left) PySem.W.XL.keeps (by rfl) (by rfl) (by rfl) (λs e=>PySem.W.recFacts_of (kq.mp e).right) (by rfl) ?said (by decide +kernel) ⟨rfl,rfl,rfl,rfl,rfl,by decide +kernel⟩ ?hw ?hc
 case said=>assumption
 case hw=>w_witness2
 refine K16.walk (l:=PySem.Challenge.rw_pageback_k16_out_of_book) rfl rfl (λw h Y=>PySem.W.kIn_of Y) ?F
 case F =>
  intro w mg fa h KX G hmg;exact K16.all_mk KX G hmg
end
