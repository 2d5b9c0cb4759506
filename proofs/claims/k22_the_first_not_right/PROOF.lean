import PyProof.Rows.All
import KE.KDictOf
import KE.KDictSum
import KE.KEqDict
import KE.KFromBytes
import KE.KIntText
import KE.KIsAll
import KE.KRevIter
import KE.KSortTup
import KE.LcSums
import PySem.Challenge.RW_pageback_k22_the_first_not_right
abbrev Fg1:=PySem.W.Frag
local macro_rules|`(‹0›)=>`(⟨rfl,rfl,rfl,by decide,rfl,by decide,by decide⟩)
local macro_rules|`(tactic|decide)=>`(tactic|decide +kernel)
def hPt:Nat->Lean.Term->Lean.MacroM (Lean.TSyntax `rcasesPat)
 |0,_=>Lean.Macro.throwUnsupported
 |n+1,x=>match x with
  |`(⟨$y,*⟩)=>do
   let p ← y.getElems.mapM λx=>do
    let p ← hPt n x
    `(Lean.Parser.Tactic.rcasesPatLo|$p:rcasesPat)
   `(rcasesPat|⟨$p,*⟩)
  |`($i:ident)=>`(rcasesPat|$i:ident)
  |_=>`(rcasesPat|_)
local macro_rules|`(tactic|have⟨$x,*⟩:=$e)=>do
 let p ← hPt 9 (← `(⟨$x,*⟩))
 `(tactic|obtain $p:rcasesPat:=$e)
noncomputable section
def aa:=@PySem.wpAny_bind
def ba:=@List.length_map
def da:=@if_pos
def ia:=@PySem.wpAny_pure
def ja:=@List.map_cons
def la:=@List.mem_cons_of_mem
def ma:=@Bool.false_ne_true
def na:=@PySem.Heap.get?_push_of_some
def oa:=@List.size_toArray
def qa:=@if_neg
def ua:=@List.getElem?_set_ne
def va:=@List.mem_cons_self
def wa:=@List.length_append
def xa:=@Option.bind_some
def ya:=@List.getElem?_eq_some_iff
def za:=@decide_eq_true
def bb:=@Nat.le_refl
def cb:=@Or.inl
def db:=@List.map_append
def gb:=@List.mem_map
def ib:=@PySem.Heap.lt_size
def jb:=@Bool.and_eq_true
def lb:=@Option.map_eq_some_iff
def nb:=@decide_eq_false
def pb:=@List.mem_cons
def ub:=@Nat.lt_of_lt_of_le
def wb:=@List.length_cons
def xb:=@List.length_singleton
def yb:=@List.mem_singleton
def zb:=@PySem.Heap.get?_push_size
def ac:=@List.getElem?_set_self
def bc:=@of_decide_eq_true
def cc:=@PySem.Heap.get?_update_other
def dc:=@PySem.wpAny_loadPart'
def gc:=@List.getD_eq_getElem?_getD
def ic:=@Nat.ne_of_lt
def jc:=@List.map_map
def lc:=@Option.some.inj
def pc:=@List.append_nil
def qc:=@List.mem_append_right
def vc:=@List.all_eq_true
def wc:=@List.getElem?_cons_succ
def yc:=@List.mem_append
def zc:=@List.getElem?_eq_getElem
def ed:=@List.getElem?_map
def jd:=@List.drop_eq_getElem_cons
def md:=@List.length_nil
def pd:=@Array.getElem?_eq_some_iff
def ud:=@List.flatten_cons
def vd:=@PySem.wpAny_loadPart_at
def wd:=@Nat.le_trans
def yd:=@PySem.PassesOwn.never
def zd:=@Bool.false_eq_true
def ae:=@List.length_take
def be:=@Nat.zero_le
def ce:=@PySem.Heap.get?_update_self
def de:=@congrArg
def ge:=@Bool.eq_false_iff
def ie:=@List.getElem?_cons_zero
def je:=@List.mem_of_getElem?
def ke:=@List.nodup_append
def me:=@PySem.Obj.data_mapFields
def qe:=@PySem.wpAny_holding
def re:=@PySem.wpAny_mono
def se:=@List.nil_append
def ue:=@PySem.wpAny_newObj_type
def ve:=@Ne.symm
def we:=@PyProof.Rows.slot_tuple_getitem
def ye:=@List.replicate_succ
def ze:=@Option.map_some
def af:=@List.lookup_cons
def bf:=@List.mem_append_left
def cf:=@List.getElem?_append_left
def ef:=@PySem.wpAny_Call_Name_kw
def gf:=@List.pairwise_cons
def jf:=@List.find?_cons
def mf:=@Or.inr
def pf:=@Array.length_toList
def qf:=@List.append_assoc
def rf:=@Nat.zero_add
def sf:=@List.getElem?_append_right
def tf:=@List.contains_cons
def uf:=@List.nodup_cons
def vf:=@List.take_of_length_le
def wf:=@List.cons_append
def xf:=@Array.getElem?_eq_getElem
def yf:=@List.pairwise_iff_getElem
def zf:=@List.map_congr_left
def ag:=@PySem.Obj.isFreed_of_fields
def bg:=@List.zip_cons_cons
def cg:=@List.getElem?_replicate
def dg:=@Int.eq_ofNat_of_zero_le
def fg:=@PySem.Around.under_plainId
def ig:=@List.mem_of_mem_take
def jg:=@PySem.wpAny_field
def kg:=@PyProof.Rows.callWith_type1
def lg:=@Int.toNat_natCast
def ng:=@PySem.wpAny_truthy_bool
def og:=@Option.isSome_map
def qg:=@PySem.wpAny_setField
def rg:=@List.map_nil
def ug:=@True.intro
def vg:=@PySem.wpAny_isSubtype_exc
def wg:=@Array.getElem?_toList
def xg:=@List.set_cons_zero
def yg:=@List.set_cons_succ
def zg:=@List.any_cons
def ah:=@PySem.wpAny_typeNameOfWhole_keyiter
def bh:=@PySem.codeAny_call_builtin
def dh:=@List.mem_range
def gh:=@decide_eq_true_eq
def jh:=@List.mem_filter
def kh:=@List.foldl_cons
def mh:=@PySem.codeAny_builtin
def oh:=@List.drop_of_length_le
def ph:=@PySem.richCompare_meets_room
def qh:=@Nat.lt_irrefl
def uh:=@PySem.plainId_quiet
def vh:=@Bool.not_true
def xh:=@List.drop_length
def yh:=@Option.bind_none
def zh:=@Option.getD_some
def ai:=@PySem.Calls.spliced_cons
def ci:=@PySem.tupleKind_room_in1
def ii:=@Int.emod_lt_of_pos
def ji:=@List.nodup_nil
def ki:=@List.Perm.refl
def ni:=@PySem.builtinLookup_eq_fast
def oi:=@PySem.wpAny_passesOwn
def pi:=@Option.map_none
def ui:=@List.mem_of_mem_drop
def xi:=@if_false
def yi:=@PySem.wpAny_typeNameOf_keyiter
def zi:=@List.all_cons
def aj:=@beq_eq_false_iff_ne
def cj:=@PySem.Heap.SameBut.update
def fj:=@PySem.wpAny_callSpecial?_slot
def ij:=@List.filter_cons_of_pos
def jj:=@List.filter_cons_of_neg
def kj:=@List.length_drop
def lj:=@PySem.wpAny_call_entry
def oj:=@List.getElem_mem
def pj:=@Bool.not_false
def tj:=@PySem.Calls.callWith_builtin
def uj:=@Array.getElem?_eq_none
def vj:=@Nat.sub_self
def wj:=@PySem.wpAny_execs_nil
def xj:=@Int.emod_nonneg
def yj:=@PySem.wpAny_standAt
def zj:=@List.length_replicate
def ak:=@Bool.not_eq_true'
def ck:=@PySem.wpAny_tryCatch
def ek:=@List.not_mem_nil
def gk:=@Nat.ne_of_gt
def ik:=@PySem.codeAny_mono
def jk:=@PySem.wpAny_comprehension_free
def nk:=@Bool.eq_iff_iff
def qk:=@PySem.typeLookup_type
def uk:=@Nat.min_eq_left
def vk:=@List.cons.injEq
def wk:=@PySem.wpAny_call
def xk:=@beq_iff_eq
def yk:=@List.getElem?_set_self'
def zk:=@PySem.wpAny_letGo
def il:=@PySem.AutoSeq1.sub_list_list
def ll:=@PySem.Calls.spliced_nil
def ol:=@List.ext_getElem?
def ql:=@PySem.wpAny_dictEntries
def ul:=@List.pairwise_map
def wl:=@PySem.F.typeOf_object_class
def xl:=@List.getElem?_eq_none
def yl:=@PySem.wpAny_isOneOf_keyiter
def zl:=@PyProof.Rows.callWith_builtin1
def am:=@Nat.min_eq_right
def cm:=@PySem.call_meets
def dm:=@PySem.wpAny_rule
def fm:=@List.cons.inj
def im:=@PyProof.Rows.listUpdate_at
def jm:=@Bool.and_true
def km:=@PySem.Heap.get?_none_of_le
def lm:=@PySem.Calls.evalArgs_plain
def om:=@PySem.F.excBase_ValueError
def qm:=@List.dropLast_concat_getLast
def rm:=@PySem.wpAny_specialOf
def tm:=@List.filterMap_cons
def um:=@List.length_reverse
def vm:=@PySem.wpAny_typeOf
def wm:=@if_true
def xm:=@ite_false
def ym:=@PySem.Calls.Name_function_global
def zm:=@List.exists_cons_of_ne_nil
def bn:=@List.eq_append_cons_of_mem
def cn:=@PySem.Code.quiet_builtin
def gn:=@PySem.wpAny_fieldsOf
def kn:=@PySem.wpAny_seqItems
def mn:=@List.mem_of_find?_eq_some
def on:=@List.any_eq_false
def rn:=@List.Pairwise.nil
def vn:=@Nat.lt_trichotomy
def wn:=@Nat.le_succ_of_le
def xn:=@List.length_range
def yn:=@PySem.wpAny_mkInt
def bo:=@List.map_take
def jo:=@List.pairwise_singleton
def ko:=@List.length_eq_zero_iff
def mo:=@decide_eq_false_iff_not
def oo:=@PySem.wpAny_pyHash_int
def qo:=@PySem.wpAny_pyHash_str
def so:=@PySem.wpAny_execs_cons
def uo:=@Nat.min_le_right
def vo:=@beq_self_eq_true
def xo:=@Nat.lt_succ_self
def yo:=@PySem.wpAny_forIn_list
def zo:=@PySem.wpAny_Dict_empty
def bp:=@PySem.wpAny_isInstance
def ip:=@PySem.beq_builtin_none
def jp:=@List.flatten_nil
def pp:=@decide_eq_decide
def qp:=@ite_true
def xp:=@List.range_succ_eq_map
def zp:=@Nat.lt_or_ge
def aq:=@List.of_mem_zip
def bq:=@PySem.SeqAt.EqAt.same
def cq:=@PySem.wpAny_dictEpoch
def fq:=@PySem.wpAny_updateSeq
def jq:=@List.take_append_drop
def kq:=@Array.mem_toList_iff
def pq:=@List.getElem?_of_mem
def rq:=@List.mem_iff_getElem
def tq:=@Bool.and_eq_true_iff
def uq:=@List.Perm.swap
def vq:=@PySem.wpAny_of_eq
def wq:=@Prod.ext
def ar:=@List.mem_map_of_mem
def br:=@List.length_pos_iff
def cr:=@List.map_eq_nil_iff
def ir:=@List.dropWhile_cons
def nu:=@Nat.le_of_lt
def qu:=@List.all_map
def su:=@Nat.min_self
def wu:=@or_false
def xu:=@Sum.inl.inj
def zu:=@Nat.le_succ
def av:=@List.map_id
set_option Elab.async false
set_option linter.all false
set_option maxRecDepth 100000
set_option maxHeartbeats 4000000
namespace L2
open PySem
noncomputable def kY(s:Stmt):Arguments:=match s with
 |.FunctionDef _ a _ _ _ _ _ _ _ _=>a
 |_=>{ posonlyargs:=[],args:=[],vararg:=none,kwonlyargs:=[],kw_defaults:=[],kwarg:=none,defaults:=[] }
noncomputable def e6(s:Stmt):List Stmt:=match s with
 |.FunctionDef _ _ b _ _ _ _ _ _ _=>b
 |_=>[]
noncomputable def bt(s:Stmt):Scope:=match s with
 |.FunctionDef _ _ _ _ _ _ sc _ _ _=>sc
 |_=>{ kind:=.function,names:=[],isGenerator:=false,isCoroutine:=false }
noncomputable def i9(s:Stmt):List Stmt:=match s with
 |.ClassDef _ _ _ b _ _ _ _ _ _ _=>b
 |_=>[]
end L2
namespace K22
open PySem L2
noncomputable def bW(i:Nat):Stmt:=PySem.Challenge.pw_pageback_k22_the_first_not_right.main.body.getD i (.Pass ⟨0,0,0,0⟩)
noncomputable abbrev Zs(x:String)(t:Tok):Value:=.str (Str.ofString x) t
abbrev Ze(P:Params)(x:String)(t:Tok)(v:Value):DictEntry:=⟨PyData.keyHash P (Str.ofString x),Zs x t,v⟩
noncomputable abbrev Zt(a:Array Value):Obj:=⟨.type "tuple",none,.seq a,#[]⟩
noncomputable abbrev Zc(a:Array Value):Obj:=⟨.type "code",none,.fields a,#[]⟩
noncomputable abbrev Zd(a:Array DictEntry)(n:Nat):Obj:=⟨.type "dict",none,.dict a n,#[]⟩
abbrev Zf(n q:String)(s:Stmt)(a cd:Value):Obj:=⟨.type "function",none,.func (PySem.W.fnOf (Str.ofString n) (Str.ofString q) (kY s) (e6 s) (bt s) .none .none .none a none cd .none),#[]⟩
abbrev Zk(n q:String)(a b c:Tok)(l k:Int)(r f:Addr)(x y z:Value)(m:Addr)(d e:Nat):Obj:=Zc #[Zs n a,Zs q b,Zs "/claim/cut.py" c,.int l 0,.int k 0,.int 0 0,.int 0 0,.int 3 0,.ref r,.bool true,.int 181 0,.ref f,x,y,z,.ref m,.int d 0,.int l 0,Zs "/claim/cut.py" e]
abbrev Zm:Value:=Zs "law_pageback_k22_the_first_not_right" 668
abbrev Z1:Value:=Zs "pageback.errors" 187
abbrev Z2:Value:=Zs "pageback.heads" 429
abbrev Z3:Value:=Zs "pageback.marks" 453
abbrev Z4:Value:=Zs "pageback.sees" 509
abbrev Z5:Value:=Zs "pageback.book" 589
abbrev Z6:Value:=Zs "pageback.stretches" 604
abbrev Z7:Value:=Zs "pageback.entries" 640
abbrev Zg(x:String)(i:Nat)(m:Value)(f:Addr):Obj:=Zf x x (bW i) m (.ref (f - 1))
noncomputable abbrev Zx(n:String)(c k:Addr)(s:Array (Option Value)):Obj:=Obj.mk (.type "type") none (Data.cls (ClassData.mk (Str.ofString n) [.ref 24] [.ref c,.ref 24,.type "ValueError",.type "Exception",.type "BaseException",.type "object"] k (Str.ofString n) true [] [] false none false)) s
abbrev Zy(P:Params)(a:Tok)(v:Value)(b:Tok)(i:Int)(c d:Tok)(f:Addr)(e:Tok)(g:Addr)(h:Tok):Obj:=Zd #[Ze P "__module__" a v,Ze P "__firstlineno__" b (.int i c),Ze P "__init__" d (.ref f),Ze P "__static_attributes__" e (.ref g),Ze P "__doc__" h .none] 2
abbrev Zl(n:String)(a b c:Tok)(l k:Int)(r f:Addr)(x y z:Value)(m:Addr)(d e:Nat):Obj:=Zk n n a b c l k r f x y z m d e
def KK(P:Params):Fg1 :=
 [(2,Obj.mk .none none (Data.dict #[]) #[]),
  (3,Zd #[Ze P "__name__" 165 Zm,Ze P "__doc__" 166 .none,Ze P "__package__" 167 .none,Ze P "__loader__" 168 (.builtin "__main__.__loader__#opaque"),Ze P "__spec__" 169 .none,Ze P "__annotations__" 170 (.ref 6),Ze P "__builtins__" 171 (.ref 4),Ze P "__file__" 173 (Zs "/claim/cut.py" 172),Ze P "__cached__" 174 .none,Ze P "PageError" 206 (.ref 24),Ze P "OutOfBook" 235 (.ref 44),Ze P "SentHere" 260 (.ref 63),Ze P "Both" 285 (.ref 82),Ze P "TwoWays" 310 (.ref 101),Ze P "Ring" 335 (.ref 120),Ze P "Nowhere" 362 (.ref 139),Ze P "NoRow" 387 (.ref 158),Ze P "NoMark" 403 (.ref 170),Ze P "NoText" 428 (.ref 189),Ze P "LETTERS_AND_FIGURES" 432 (Zs "abcdefghijklmnopqrstuvwxyzABCDEFGHIJKLMNOPQRSTUVWXYZ0123456789" 431),Ze P "shown" 440 (.ref 198),Ze P "key_of" 446 (.ref 203),Ze P "rank" 452 (.ref 208),Ze P "fits" 462 (.ref 215),Ze P "poured" 475 (.ref 222),Ze P "poured_sees" 487 (.ref 229),Ze P "copied" 494 (.ref 236),Ze P "mark_rank" 501 (.ref 243),Ze P "see_rank" 508 (.ref 250),Ze P "ways" 516 (.ref 255),Ze P "pages_by_path" 526 (.ref 262),Ze P "goals_by_path" 537 (.ref 269),Ze P "way_of_see" 552 (.ref 276),Ze P "refuse_start" 563 (.ref 283),Ze P "way_of_goal" 573 (.ref 290),Ze P "ring_in" 580 (.ref 297),Ze P "from_least" 588 (.ref 304),Ze P "pages" 603 (.ref 311),Ze P "stretches" 616 (.ref 318),Ze P "strong_by_page" 630 (.ref 325),Ze P "goes_on" 639 (.ref 332),Ze P "entries" 647 (.ref 337),Ze P "refuse_unfit" 656 (.ref 344),Ze P "marks_by_path" 667 (.ref 351),Ze P "_law_cell_at" 677 (.ref 358),Ze P "_law_head_by" 691 (.ref 365),Ze P "_law_paths" 697 (.ref 370),Ze P "_law_sees" 709 (.ref 377),Ze P "_law_onward" 720 (.ref 384),Ze P "_law_two" 731 (.ref 391),Ze P "_law_round" 737 (.ref 396),Ze P "_law_due" 752 (.ref 403),Ze P "_law_answer" 764 (.ref 410),Ze P "_law_holds" 770 (.ref 415),Ze P "law" 784 (.ref 422)] 55),
  (23,Zd #[Ze P "__module__" 196 Z1,Ze P "__firstlineno__" 200 (.int 2 199),Ze P "__static_attributes__" 201 (.ref 22),Ze P "__weakref__" 203 (.ref 25),Ze P "__doc__" 204 .none] 3),
  (24,Obj.mk (.type "type") none (Data.cls (ClassData.mk (Str.ofString "PageError") [.type "ValueError"] [.ref 24,.type "ValueError",.type "Exception",.type "BaseException",.type "object"] 23 (Str.ofString "PageError") true [] [.ref 44,.ref 63,.ref 82,.ref 101,.ref 120,.ref 139,.ref 158,.ref 170,.ref 189] false none false)) #[some (.ref 15),none,some (Zs "PageError" 189),some (Zs "PageError" 197),some (.builtin "ValueError.__new__"),some (.bool true)]),
  (40,Zk "__init__" "OutOfBook.__init__" 219 220 221 6 4 35 36 (.none) (.ref 37) (.ref 38) 39 226 227),
  (41,Zf "__init__" "OutOfBook.__init__" ((i9 (bW 2)).getD 0 (.Pass ⟨0,0,0,0⟩)) Z1 (.ref 40)),
  (43,Zy P 214 Z1 218 4 217 228 41 232 42 233),
  (44,Zx "OutOfBook" 44 43 #[some (.ref 28),none,some (Zs "OutOfBook" 207),some (Zs "OutOfBook" 215),some (.builtin "ValueError.__new__"),some (.bool true)]),
  (59,Zk "__init__" "SentHere.__init__" 248 249 250 12 2 54 55 (.none) (.ref 56) (.ref 57) 58 253 254),
  (60,Zf "__init__" "SentHere.__init__" ((i9 (bW 3)).getD 0 (.Pass ⟨0,0,0,0⟩)) Z1 (.ref 59)),
  (62,Zy P 243 Z1 247 10 246 255 60 257 61 258),
  (63,Zx "SentHere" 63 62 #[some (.ref 47),none,some (Zs "SentHere" 236),some (Zs "SentHere" 244),some (.builtin "ValueError.__new__"),some (.bool true)]),
  (78,Zk "__init__" "Both.__init__" 273 274 275 16 2 73 74 (.none) (.ref 75) (.ref 76) 77 278 279),
  (79,Zf "__init__" "Both.__init__" ((i9 (bW 4)).getD 0 (.Pass ⟨0,0,0,0⟩)) Z1 (.ref 78)),
  (81,Zy P 268 Z1 272 14 271 280 79 282 80 283),
  (82,Zx "Both" 82 81 #[some (.ref 66),none,some (Zs "Both" 261),some (Zs "Both" 269),some (.builtin "ValueError.__new__"),some (.bool true)]),
  (97,Zk "__init__" "TwoWays.__init__" 298 299 300 20 2 92 93 (.none) (.ref 94) (.ref 95) 96 303 304),
  (98,Zf "__init__" "TwoWays.__init__" ((i9 (bW 5)).getD 0 (.Pass ⟨0,0,0,0⟩)) Z1 (.ref 97)),
  (100,Zy P 293 Z1 297 18 296 305 98 307 99 308),
  (101,Zx "TwoWays" 101 100 #[some (.ref 85),none,some (Zs "TwoWays" 286),some (Zs "TwoWays" 294),some (.builtin "ValueError.__new__"),some (.bool true)]),
  (116,Zk "__init__" "Ring.__init__" 323 324 325 24 2 111 112 (.none) (.ref 113) (.ref 114) 115 328 329),
  (117,Zf "__init__" "Ring.__init__" ((i9 (bW 6)).getD 0 (.Pass ⟨0,0,0,0⟩)) Z1 (.ref 116)),
  (119,Zy P 318 Z1 322 22 321 330 117 332 118 333),
  (120,Zx "Ring" 120 119 #[some (.ref 104),none,some (Zs "Ring" 311),some (Zs "Ring" 319),some (.builtin "ValueError.__new__"),some (.bool true)]),
  (135,Zk "__init__" "Nowhere.__init__" 348 349 350 29 3 130 131 (.none) (.ref 132) (.ref 133) 134 354 355),
  (136,Zf "__init__" "Nowhere.__init__" ((i9 (bW 7)).getD 0 (.Pass ⟨0,0,0,0⟩)) Z1 (.ref 135)),
  (138,Zy P 343 Z1 347 27 346 356 136 359 137 360),
  (139,Zx "Nowhere" 139 138 #[some (.ref 123),none,some (Zs "Nowhere" 336),some (Zs "Nowhere" 344),some (.builtin "ValueError.__new__"),some (.bool true)]),
  (157,Zy P 370 Z1 374 32 373 382 155 384 156 385),
  (158,Zx "NoRow" 158 157 #[some (.ref 142),none,some (Zs "NoRow" 363),some (Zs "NoRow" 371),some (.builtin "ValueError.__new__"),some (.bool true)]),
  (169,Zd #[Ze P "__module__" 395 Z1,Ze P "__firstlineno__" 399 (.int 36 398),Ze P "__static_attributes__" 400 (.ref 168),Ze P "__doc__" 401 .none] 2),
  (170,Zx "NoMark" 170 169 #[some (.ref 161),none,some (Zs "NoMark" 388),some (Zs "NoMark" 396),some (.builtin "ValueError.__new__"),some (.bool true)]),
  (188,Zy P 411 Z1 415 38 414 423 186 425 187 426),
  (189,Zx "NoText" 189 188 #[some (.ref 173),none,some (Zs "NoText" 404),some (Zs "NoText" 412),some (.builtin "ValueError.__new__"),some (.bool true)]),
  (197,Zl "shown" 433 434 435 44 1 192 193 (.none) (.ref 194) (.ref 195) 196 438 439),
  (198,Zg "shown" 13 Z2 198),
  (202,Zl "key_of" 441 442 443 49 1 199 200 .none .none .none 201 444 445),
  (203,Zg "key_of" 14 Z2 203),
  (207,Zl "rank" 447 448 449 51 1 204 205 .none .none .none 206 450 451),
  (208,Zg "rank" 15 Z2 208),
  (214,Zl "fits" 455 456 457 54 2 209 210 (.none) (.ref 211) (.ref 212) 213 460 461),
  (215,Zg "fits" 17 Z3 215),
  (221,Zl "poured" 463 464 465 56 1 216 217 (.none) (.ref 218) (.ref 219) 220 473 474),
  (222,Zg "poured" 18 Z3 222),
  (228,Zl "poured_sees" 476 477 478 62 1 223 224 (.none) (.ref 225) (.ref 226) 227 485 486),
  (229,Zg "poured_sees" 19 Z3 229),
  (235,Zl "copied" 488 489 490 68 1 230 231 (.none) (.ref 232) (.ref 233) 234 492 493),
  (236,Zg "copied" 20 Z3 236),
  (242,Zl "mark_rank" 495 496 497 70 1 237 238 (.none) (.ref 239) (.ref 240) 241 499 500),
  (243,Zg "mark_rank" 21 Z3 243),
  (249,Zl "see_rank" 502 503 504 72 1 244 245 (.none) (.ref 246) (.ref 247) 248 506 507),
  (250,Zg "see_rank" 22 Z3 250),
  (254,Zl "ways" 511 512 513 75 2 251 252 .none .none .none 253 514 515),
  (255,Zg "ways" 24 Z4 255),
  (261,Zl "pages_by_path" 517 518 519 80 1 256 257 (.none) (.ref 258) (.ref 259) 260 524 525),
  (262,Zg "pages_by_path" 25 Z4 262),
  (268,Zl "goals_by_path" 527 528 529 85 1 263 264 (.none) (.ref 265) (.ref 266) 267 535 536),
  (269,Zg "goals_by_path" 26 Z4 269),
  (275,Zl "way_of_see" 538 539 540 91 3 270 271 (.none) (.ref 272) (.ref 273) 274 550 551),
  (276,Zg "way_of_see" 27 Z4 276),
  (282,Zl "refuse_start" 553 554 555 104 5 277 278 (.none) (.ref 279) (.ref 280) 281 561 562),
  (283,Zg "refuse_start" 28 Z4 283),
  (289,Zl "way_of_goal" 564 565 566 111 2 284 285 (.none) (.ref 286) (.ref 287) 288 571 572),
  (290,Zg "way_of_goal" 29 Z4 290),
  (296,Zl "ring_in" 574 575 576 118 1 291 292 (.none) (.ref 293) (.ref 294) 295 578 579),
  (297,Zg "ring_in" 30 Z4 297),
  (303,Zl "from_least" 581 582 583 120 1 298 299 (.none) (.ref 300) (.ref 301) 302 586 587),
  (304,Zg "from_least" 31 Z4 304),
  (310,Zl "pages" 591 592 593 124 3 305 306 (.none) (.ref 307) (.ref 308) 309 601 602),
  (311,Zg "pages" 33 Z5 311),
  (317,Zl "stretches" 606 607 608 136 2 312 313 (.none) (.ref 314) (.ref 315) 316 614 615),
  (318,Zg "stretches" 35 Z6 318),
  (324,Zl "strong_by_page" 617 618 619 145 2 319 320 (.none) (.ref 321) (.ref 322) 323 628 629),
  (325,Zg "strong_by_page" 36 Z6 325),
  (331,Zl "goes_on" 631 632 633 151 3 326 327 (.none) (.ref 328) (.ref 329) 330 637 638),
  (332,Zg "goes_on" 37 Z6 332),
  (336,Zl "entries" 642 643 644 154 4 333 334 .none .none .none 335 645 646),
  (337,Zg "entries" 39 Z7 337),
  (343,Zl "refuse_unfit" 648 649 650 160 2 338 339 (.none) (.ref 340) (.ref 341) 342 654 655),
  (344,Zg "refuse_unfit" 40 Z7 344),
  (350,Zl "marks_by_path" 657 658 659 164 1 345 346 (.none) (.ref 347) (.ref 348) 349 665 666),
  (351,Zg "marks_by_path" 41 Z7 351),
  (357,Zl "_law_cell_at" 670 671 672 173 2 352 353 (.none) (.ref 354) (.ref 355) 356 675 676),
  (358,Zg "_law_cell_at" 43 Zm 358),
  (364,Zl "_law_head_by" 678 679 680 177 2 359 360 (.none) (.ref 361) (.ref 362) 363 689 690),
  (365,Zg "_law_head_by" 44 Zm 365),
  (369,Zl "_law_paths" 692 693 694 196 1 366 367 .none .none .none 368 695 696),
  (370,Zg "_law_paths" 45 Zm 370),
  (376,Zl "_law_sees" 698 699 700 200 3 371 372 (.none) (.ref 373) (.ref 374) 375 707 708),
  (377,Zg "_law_sees" 46 Zm 377),
  (383,Zl "_law_onward" 710 711 712 206 1 378 379 (.none) (.ref 380) (.ref 381) 382 718 719),
  (384,Zg "_law_onward" 47 Zm 384),
  (390,Zl "_law_two" 721 722 723 212 2 385 386 (.none) (.ref 387) (.ref 388) 389 729 730),
  (391,Zg "_law_two" 48 Zm 391),
  (395,Zl "_law_round" 732 733 734 217 2 392 393 .none .none .none 394 735 736),
  (396,Zg "_law_round" 49 Zm 396),
  (402,Zl "_law_due" 738 739 740 222 4 397 398 (.none) (.ref 399) (.ref 400) 401 750 751),
  (403,Zg "_law_due" 50 Zm 403),
  (409,Zl "_law_answer" 753 754 755 239 2 404 405 (.none) (.ref 406) (.ref 407) 408 762 763),
  (410,Zg "_law_answer" 51 Zm 410),
  (414,Zl "_law_holds" 765 766 767 261 2 411 412 .none .none .none 413 768 769),
  (415,Zg "_law_holds" 52 Zm 415),
  (421,Zl "law" 771 772 773 272 1 416 417 (.none) (.ref 418) (.ref 419) 420 782 783),
  (422,Zg "law" 53 Zm 422)]
noncomputable def AA:List Addr:=[2,3,23,24,40,41,43,44,59,60,62,63,78,79,81,82,97,98,100,101,116,117,119,120,135,136,138,139,157,158,169,170,188,189,197,198,202,203,207,208,214,215,221,222,228,229,235,236,242,243,249,250,254,255,261,262,268,269,275,276,282,283,289,290,296,297,303,304,310,311,317,318,324,325,331,332,336,337,343,344,350,351,357,358,364,365,369,370,376,377,383,384,390,391,395,396,402,403,409,410,414,415,421,422]
def VV:Program:={ PySem.Challenge.pw_pageback_k22_the_first_not_right with main:={ PySem.Challenge.pw_pageback_k22_the_first_not_right.main with body:=[1,2,3,4,5,6,7,8,9,10,12,13,14,15,17,18,19,20,21,22,24,25,26,27,28,29,30,31,33,35,36,37,39,40,41,43,44,45,46,47,48,49,50,51,52,53].map bW } }
theorem ka(P:Params):AA=List.map (λx=>x.fst) (KK P):=by kernel_rfl
theorem hm(w:World):(PySem.W.openEnds treeTable PySem.Challenge.pw_pageback_k22_the_first_not_right w 7210).map (λs=>(PySem.W.openSeen VV [] (importedModules PySem.Challenge.pw_pageback_k22_the_first_not_right.main.body) (λs=>PySem.W.xlAt VV [] s && PySem.W.recOk PySem.Challenge.rw_pageback_k22_the_first_not_right.row.records s) true s).2)=some (PySem.W.openGood VV []).2:=by kernel_rfl
theorem hn(w:World):(PySem.W.openEnds treeTable PySem.Challenge.pw_pageback_k22_the_first_not_right w 7210).map (λs=>((PySem.W.openSeen VV [] (importedModules PySem.Challenge.pw_pageback_k22_the_first_not_right.main.body) (λs=>PySem.W.xlAt VV [] s && PySem.W.recOk PySem.Challenge.rw_pageback_k22_the_first_not_right.row.records s) true s).1,(PySem.W.kHook KK AA ka).obs s))=some ((PySem.W.openGood VV []).1,(PySem.W.kHook KK AA ka).val w):=by kernel_rfl
theorem hl:PySem.W.LeftO PySem.Challenge.pw_pageback_k22_the_first_not_right VV [] (λs=>PySem.W.xlAt VV [] s && PySem.W.recOk PySem.Challenge.rw_pageback_k22_the_first_not_right.row.records s) (PySem.W.kHook KK AA ka).obs (PySem.W.kHook KK AA ka).val 7210:=λw=>by
 have⟨s,a,b⟩:=lb.mp (hm w);have⟨z,c,d⟩:=lb.mp (hn w);have e:s=z:=lc (a.symm.trans c);subst e;rw[a];have⟨f,g⟩:=Prod.mk.inj d;exact de some (congr (de Prod.mk (wq f b)) g)
end K22
namespace L2
open PySem PySem.Spec PyProof.Rows
noncomputable abbrev aW:=Sum Int Str
def mz:aW->Value->Bool
 |.inl k,v=>Value.isInt k v
 |.inr x,v=>Value.isStrOf x v
def EX(w:World):aW->Int
 |.inl k=>hashInt k
 |.inr x=>hashStr w x
theorem ku:∀{k:aW}{v:Value},mz k v=true->(∃i t,k=Sum.inl i/\v=Value.int i t)\/(∃x t,k=Sum.inr x/\v=Value.str x t)
 |.inl i,v,h=>by
  have⟨t,e⟩:=Value.isInt_shape (k:=i) (v:=v) h;exact .inl ⟨i,t,rfl,e⟩
 |.inr x,v,h=>by
  have⟨t,e⟩:=Value.isStrOf_shape (x:=x) (v:=v) h;exact .inr ⟨x,t,rfl,e⟩
theorem EY(i:Int)(t:Tok):mz (.inl i) (.int i t)=true:=by simp[mz,Value.isInt]
theorem EZ(x:Str)(t:Tok):mz (.inr x) (.str x t)=true:=by simp[mz,Value.isStrOf]
theorem E1(a b:Int):decide ((Sum.inl a:aW)=Sum.inl b)=(a == b):=by
 by_cases e:a=b
 ·subst e;simp
 ·have h:¬(Sum.inl a:aW)=Sum.inl b:=λq=>e (xu q)
  rw[nb h];exact(aj.mpr e).symm
theorem E2(a b:Str):decide ((Sum.inr a:aW)=Sum.inr b)=decide (a=b):=by
 by_cases e:a=b
 ·subst e;simp
 ·have h:¬(Sum.inr a:aW)=Sum.inr b:=λq=>e (Sum.inr.inj q)
  rw[nb h,nb e]
theorem E3(a:Int)(b:Str):decide ((Sum.inl a:aW)=Sum.inr b)=false:=nb (λq=>nomatch q)
theorem E4(a:Str)(b:Int):decide ((Sum.inr a:aW)=Sum.inl b)=false:=nb (λq=>nomatch q)
def fM(prog:Program)(w:World):PySem.KeyKind prog w aW where
 is:=mz
 hash:=EX w
 inj:=λv a b ha hb=>by
  rcases ku ha with⟨i,t,rfl,rfl⟩|⟨x,t,rfl,rfl⟩
  ·rcases ku hb with⟨j,u,rfl,e⟩|⟨y,u,rfl,e⟩
   ·injection e with e1 _;rw[e1]
   ·exact nomatch e
  ·rcases ku hb with⟨j,u,rfl,e⟩|⟨y,u,rfl,e⟩
   ·exact nomatch e
   ·injection e with e1 _;rw[e1]
 byValue:=λk v h=>by
  rcases ku h with⟨i,t,rfl,rfl⟩|⟨x,t,rfl,rfl⟩ <;> rfl
 pyHash:=λhv h=>by
  rcases ku hv with⟨i,t,rfl,rfl⟩|⟨x,t,rfl,rfl⟩
  ·exact oo h
  ·exact qo h
 eqBool:=λhu hv h=>by
  rcases ku hu with⟨i,t,rfl,rfl⟩|⟨x,t,rfl,rfl⟩
  ·rcases ku hv with⟨j,u,rfl,rfl⟩|⟨y,u,rfl,rfl⟩
   ·rw[E1]at h;exact wpAny_eqBool_int h
   ·rw[E3]at h;exact SeqAt.EqAt.int_str i t y u _ _ _ _ h
  ·rcases ku hv with⟨j,u,rfl,rfl⟩|⟨y,u,rfl,rfl⟩
   ·rw[E4]at h;exact SeqAt.EqAt.str_int x t j u _ _ _ _ h
   ·rw[E2]at h;exact wpAny_eqBool_str h
 «strs»:=λk x t v h=>by
  rcases ku h with⟨i,u,rfl,e⟩|⟨y,u,rfl,e⟩
  ·exact nomatch e
  ·injection e with e1 _
   subst e1
   cases v <;> rfl
theorem E5(prog:Program)(w:World)(i:Int)(t:Tok):(fM prog w).is (.inl i) (.int i t)=true:=EY i t
theorem E6(prog:Program)(w:World)(x:Str)(t:Tok):(fM prog w).is (.inr x) (.str x t)=true:=EZ x t
inductive V where
 |non|bl (b:Bool)|int (i:Int)|str (x:Str)|byt (b:Array UInt8)|flt (b:UInt64)|ref (a:Addr)|ty (n:String)
 deriving DecidableEq
def bj:V->Value->Prop
 |.non,u=>u=Value.none
 |.bl b,u=>u=Value.bool b
 |.int i,u=>∃t,u=Value.int i t
 |.str x,u=>∃t,u=Value.str x t
 |.byt b,u=>∃t,u=Value.bytes b t
 |.flt b,u=>∃t,u=Value.float b t
 |.ref a,u=>u=Value.ref a
 |.ty n,u=>u=Value.type n
abbrev bB:List V->List Value->Prop:=Paired bj
theorem bB.length{xs:List V}{a:List Value}(r:bB xs a):xs.length=a.length:=Paired.length r
theorem bB.get:∀{xs:List V}{a:List Value}{i:Nat}{x:V},bB xs a->xs[i]?=some x->∃u,a[i]?=some u/\bj x u
 |_,_,_,_,.nil,e=>by simp at e
 |_,_,0,_,.cons r _,e=>by simp at e;subst e;exact⟨_,rfl,r⟩
 |_,_,i+1,x,.cons _ t,e=>by
  obtain⟨u,b,c⟩:=bB.get (i:=i) (x:=x) t (by simpa using e);exact⟨u,by simpa using b,c⟩
theorem bB.set{x:V}{u:Value}(r:bj x u):∀{xs:List V}{a:List Value} (i:Nat),bB xs a->bB (xs.set i x) (a.set i u)
 |_,_,_,.nil=>.nil
 |_,_,0,.cons _ t=>.cons r t
 |_,_,i+1,.cons q t=>.cons q (bB.set r i t)
theorem bB.append:∀{xs ys:List V}{a b:List Value},bB xs a->bB ys b->bB (xs++ys) (a++b)
 |_,_,_,_,.nil,s=>s
 |_,_,_,_,.cons r t,s=>.cons r (bB.append t s)
theorem bB.take:∀{xs:List V}{a:List Value} (n:Nat),bB xs a->bB (xs.take n) (a.take n)
 |_,_,0,_=>.nil
 |_,_,_+1,.nil=>.nil
 |_,_,n+1,.cons r t=>.cons r (bB.take n t)
theorem bB.drop:∀{xs:List V}{a:List Value} (n:Nat),bB xs a->bB (xs.drop n) (a.drop n)
 |_,_,0,r=>r
 |_,_,_+1,.nil=>.nil
 |_,_,n+1,.cons _ t=>bB.drop n t
def ez:Option V->Option Value->Prop
 |some v,some u=>bj v u
 |none,none=>True
 |_,_=>False
def KV{κ:Type}:List (κ×V)->List (κ×Value)->Prop:=Paired λ(p:κ×V) (q:κ×Value)=>p.1=q.1/\bj p.2 q.2
def kV:aW->V
 |.inl i=>.int i
 |.inr x=>.str x
inductive HO where
 |lst (xs:List V)
 |tup (xs:List V)
 |dK (kvs:List (aW×V))|dT (kvs:List (List aW×V))
 |set (S:Int->Bool) (n:Nat)
 |ins (C dx:Addr) (fs:List (Str×V))
 |own (x:Addr)
 |xd (fs:List (Str×V))
 |met (f x:Addr)
 |rng (lo hi:Int)
 |frz (o:Obj) (u:HO)
 |tbl (ps:Array Value)
 |ext (φ:Heap->Prop)
noncomputable abbrev Hp:=Addr->Option HO
def aG(H:Hp)(a:Addr)(o:HO):Hp:=λb=>if b=a then some o else H b
theorem bi{H:Hp}{a:Addr}{o:HO}:aG H a o a=some o:=by unfold aG;rw[da rfl]
theorem aK{H:Hp}{a b:Addr}{o:HO}(h:b≠a):aG H a o b=H b:=by unfold aG;rw[qa h]
theorem n8{H:Hp}{a:Addr}{o u:HO}:aG (aG H a o) a u=aG H a u:=by
 funext b;unfold aG;split <;> rfl
theorem fZ{H:Hp}{a b:Addr}{o u:HO}(h:H a=some o)(h':H b=some u)(d:o≠u):a≠b:=by
 intro e;subst e;rw[h]at h';exact d (lc h')
theorem cC{H:Hp}{a b:Addr}{o:HO}(h:H a=some o)(h':H b=none):a≠b:=by
 intro e;subst e;rw[h]at h';cases h'
section
variable (P:Program)(w:World)
def cA(H:Hp)(h:Heap)(a:Addr):HO->Prop
 |.lst xs=>xs.length<=sizeLine/\∃(b:List Value) (n:Nat),bB xs b/\h.get? a=some { cls:=.type "list",data:=.seq b.toArray n }
 |.tup xs=>xs.length<=sizeLine/\∃b:List Value,bB xs b/\IsTup h a b.toArray
 |.dK kvs=>kvs.length<=sizeLine/\(a == sysModules)=false/\∃vs,KV kvs vs/\h.DictOf (fM P w) a vs
 |.dT kvs=>kvs.length<=sizeLine/\(a == sysModules)=false/\∃xs:List (List aW×Addr×Value),
   Paired (λ(p:List aW×V) (q:List aW×Addr×Value)=>p.1=q.1/\H q.2.1=some (.tup (p.1.map kV))/\bj p.2 q.2.2) kvs xs ∧
   ∃o es ep,h.get? a=some o/\o.ExactDict/\o.data=.dict es ep/\es.toList=xs.map (entryOfKey (tupleKind (fM P w)))/\(xs.map (·.1)).Nodup
 |.set S n=>h.SetOf (intKind P w) a S n
 |.ins C dx fs=>H dx=some (.own a)/\fs.length<=1000/\dx≠a/\h.get? a=some (PySem.W.instObj C dx) ∧
   ∃mA,h.Ns1 dx mA/\(∀f,ez (fs.lookup f) (mA f))/\PySem.Within mA (fs.map (·.1))
 |.own _=>∃o,h.get? a=some o
 |.xd fs=>∃mA,h.Ns1 a mA/\∀f,ez (fs.lookup f) (mA f)
 |.rng lo hi=>∃t u v,h.get? a=some { cls:=.type "range",data:=.fields #[.int lo t,.int hi u,.int 1 v] }
 |.frz o u=>h.get? a=some o/\cA H h a u
 |.tbl ps=>h.get? a=some { cls:=.none,data:=.fields ps }
 |.met f x=>h.get? a=some (PySem.W.methodObj (.ref f) (.ref x))
 |.ext c=>c h/\(∃o,h.get? a=some o)/\∀h1 h2:Heap,c h1->(∀o,h1.get? a=some o->h2.get? a=some o)->c h2
def cJ(H:Hp)(h:Heap):Prop:=∀a o,H a=some o->cA P w H h a o
end
section
variable {P:Program}{w:World}{H H':Hp}{h h':Heap}{a:Addr}{o:HO}
theorem cA.lt(x:cA P w H h a o):a<h.objs.size:=by
 cases o with
 |lst xs=>obtain⟨_,_,_,_,e⟩:=x;exact ib e
 |tup xs=>obtain⟨_,_,_,p⟩:=x;exact p.lt
 |dK kvs=>obtain⟨_,_,_,_,o,_,_,e,_⟩:=x;exact ib e
 |dT kvs=>obtain⟨_,_,_,_,o,_,_,e,_⟩:=x;exact ib e
 |set S n=>obtain⟨o,_,_,_,e,_⟩:=x;exact ib e
 |ins C dx fs=>obtain⟨_,_,_,e,_⟩:=x;exact ib e
 |own y=>obtain⟨_,e⟩:=x;exact ib e
 |xd fs=>obtain⟨_,⟨_,_,_,e,_⟩,_⟩:=x;exact ib e
 |rng b c=>obtain⟨_,_,_,e⟩:=x;exact ib e
 |frz d u=>obtain⟨e,_⟩:=x;exact ib e
 |tbl ps=>exact ib (show h.get? a=some _ from x)
 |met f y=>exact ib (show h.get? a=some _ from x)
 |ext g=>obtain⟨_,⟨_,e⟩,_⟩:=x;exact ib e
theorem Paired.mapP{d e:Type}{F G:d->e->Prop}:∀{l₁:List d}{c:List e},Paired F l₁ c->(∀a b,F a b->G a b)->Paired G l₁ c
 |_,_,.nil,_=>.nil
 |_,_,.cons r t,f=>.cons (f _ _ r) (Paired.mapP t f)
theorem cA.stay(x:cA P w H h a o)(k:∀b u,(b=a\/H b=some (.own a))->h.get? b=some u->h'.get? b=some u)
  (m:∀b,H b=some (.own a)->H' b=some (.own a)) (s:∀b xs,H b=some (.tup xs)->H' b=some (.tup xs)):cA P w H' h' a o:=by
 induction o with
 |lst xs=>obtain⟨z,i,n,r,e⟩:=x;exact⟨z,i,n,r,k _ _ (.inl rfl) e⟩
 |tup xs=>obtain⟨z,i,r,g,e,c⟩:=x;exact⟨z,i,r,g,k _ _ (.inl rfl) e,c⟩
 |dK kvs=>obtain⟨z,y,vs,r,g,es,ep,e,c⟩:=x;exact⟨z,y,vs,r,g,es,ep,k _ _ (.inl rfl) e,c⟩
 |dT kvs =>
  obtain⟨z,y,xs,r,g,es,ep,e,c⟩:=x;exact⟨z,y,xs,Paired.mapP r λp q z=>⟨z.1,s _ _ z.2.1,z.2.2⟩,g,es,ep,k _ _ (.inl rfl) e,c⟩
 |set S n=>obtain⟨g,es,ep,t,e,c⟩:=x;exact⟨g,es,ep,t,k _ _ (.inl rfl) e,c⟩
 |ins C dx fs =>
  obtain⟨d,z,l,e,mA,⟨j,es,ep,e2,c⟩,r⟩:=x;exact⟨m _ d,z,l,k _ _ (.inl rfl) e,mA,⟨j,es,ep,k _ _ (.inr d) e2,c⟩,r⟩
 |own y=>obtain⟨g,e⟩:=x;exact⟨g,k _ _ (.inl rfl) e⟩
 |xd fs=>obtain⟨mA,⟨j,es,ep,e,c⟩,r⟩:=x;exact⟨mA,⟨j,es,ep,k _ _ (.inl rfl) e,c⟩,r⟩
 |rng B E=>obtain⟨t,u,v,e⟩:=x;exact⟨t,u,v,k _ _ (.inl rfl) e⟩
 |frz g u A=>obtain⟨e,q⟩:=x;exact⟨k _ _ (.inl rfl) e,A q⟩
 |tbl ps =>
  have e:h.get? a=some { cls:=.none,data:=.fields ps }:=x;show h'.get? a=some { cls:=.none,data:=.fields ps };exact k a _ (.inl rfl) e
 |met f y =>
  have e:h.get? a=some (PySem.W.methodObj (.ref f) (.ref y)):=x;show h'.get? a=some (PySem.W.methodObj (.ref f) (.ref y));exact k a _ (.inl rfl) e
 |ext F=>obtain⟨p,⟨o,e⟩,st⟩:=x;exact⟨st _ _ p λo q=>k _ _ (.inl rfl) q,⟨o,k _ _ (.inl rfl) e⟩,st⟩
theorem cJ.lt(x:cJ P w H h)(e:H a=some o):a<h.objs.size:=(x a o e).lt
theorem cJ.fresh(x:cJ P w H h)(e:h.objs.size<=a):H a=none:=by
 cases q:H a with
 |none=>rfl
 |some u=>exact absurd (ub (x.lt q) e) (qh _)
theorem cJ.kept(x:cJ P w H h)(k:∀b u,h.get? b=some u->h'.get? b=some u):cJ P w H h':=λa o e =>
 (x a o e).stay (λb u _ q=>k b u q) (λ_ q=>q) λ_ _ q=>q
theorem cJ.laid(x:cJ P w H h)(k:∀b u,h.get? b=some u->h'.get? b=some u)(f:h.objs.size<=a)(new:cA P w (aG H a o) h' a o):cJ P w (aG H a o) h':=λb u e=>by
 have hn:=x.fresh f;by_cases d:b=a
 ·subst d;rw[bi]at e;cases e;exact new
 ·rw[aK d]at e
  exact(x b u e).stay (λc v _ q=>k c v q) (λc q=>by rw[aK (cC q hn)];exact q) λc xs q=>by rw[aK (cC q hn)];exact q
end
def Rd(H:Hp)(a:Addr)(u:HO):Prop:=H a=some u\/∃o,H a=some (.frz o u)
theorem Rd.of{H:Hp}{a:Addr}{u:HO}(h:H a=some u):Rd H a u:=.inl h
theorem Rd.ok{P:Program}{w:World}{H:Hp}{h:Heap}{a:Addr}{u:HO}(r:Rd H a u)(x:cJ P w H h):cA P w H h a u:=by
 rcases r with r|⟨o,r⟩
 ·exact x a u r
 ·have⟨_,q⟩:=x a _ r
  exact q
def pN:Option HO->Prop
 |some (.lst _)=>True
 |some (.dK _)=>True
 |some (.dT _)=>True
 |some (.set _ _)=>True
 |some (.ins _ _ _)=>True
 |some (.ext _)=>True
 |_=>False
section
variable {P:Program}{w:World}{H:Hp}{h h':Heap}{x e:Addr}{o':HO}
theorem cJ.write(ok:cJ P w H h)(i:pN (H x))(m:e=x\/H e=some (.own x))(k:∀b u,b≠e->h.get? b=some u->h'.get? b=some u)(j:∃u,h'.get? e=some u)
  (new:cA P w (aG H x o') h' x o'):cJ P w (aG H x o') h':=λb u q=>by
 have d:∀c y,H c=some (.own y)->c≠x:=λc y r z=>by subst z;rw[r]at i;exact i
 have f:∀c xs,H c=some (.tup xs)->c≠x:=λc xs r z=>by subst z;rw[r]at i;exact i
 by_cases g:b=x
 ·subst g;rw[bi]at q;cases q;exact new
 ·rw[aK g]at q
  by_cases a:b=e
  ·have l:H b=some (.own x):=by
    rcases m with z|z
    ·exact absurd (a.trans z) g
    ·rw[a];exact z
   rw[q]at l;cases l;obtain⟨v,n⟩:=j;exact⟨v,by rw[a];exact n⟩
  ·refine(ok b u q).stay (λc v hc r=>k c v ?_ r) (λc r=>by rw[aK (d c b r)];exact r) λc xs r=>by rw[aK (f c xs r)];exact r
   rcases hc with rfl|hc
   ·exact a
   ·rintro rfl
    rcases m with z|z
    ·exact d c b hc z
    ·rw[hc]at z;cases z;exact g rfl
end
structure Un(fs ex:List Addr)(H H':Hp)(h h':Heap):Prop where
 keep:∀b o,h.get? b=some o->H b=none->b ∉ fs->b ∉ ex->h'.get? b=some o
 slot:∀b o,h.get? b=some o->H b=none->b∈fs->b ∉ ex->∃sl,h'.get? b=some { o with slots:=sl }
 free:∀b o,h.get? b=some o->H b=none->b ∉ ex->H' b=none
 there:∀b o,h.get? b=some o->b ∉ ex->∃o',h'.get? b=some o'
 tups:∀b xs,H b=some (.tup xs)->H' b=some (.tup xs)
 frzs:∀b o u,H b=some (.frz o u)->H' b=some (.frz o u)
 tbls:∀b ps,H b=some (.tbl ps)->∃more,H' b=some (.tbl (ps++more))
section
variable {fs fs' ex ex':List Addr}{H H1 H2:Hp}{h h1 h2 h':Heap}{a x e:Addr}{o:HO}
theorem Un.any(u:Un fs ex H H1 h h1){b:Addr}{a:Obj}(q:h.get? b=some a)(n:H b=none)(d:b ∉ ex):∃sl,h1.get? b=some { a with slots:=sl }:=by
 by_cases c:b∈fs
 ·exact u.slot b a q n c d
 ·exact⟨a.slots,u.keep b a q n c d⟩
theorem Un.kept(k:∀b u,h.get? b=some u->h'.get? b=some u):Un fs ex H H h h' :=
 ⟨λb a q _ _ _=>k b a q,λb a q _ _ _=>⟨a.slots,k b a q⟩,λ_ _ _ n _=>n,λb a q _=>⟨a,k b a q⟩,λ_ _ q=>q,λ_ _ _ q=>q,λ_ ps q=>⟨#[],by rw[q];simp⟩⟩
theorem Un.refl:Un fs ex H H h h:=Un.kept λ_ _ q=>q
theorem Un.laid(k:∀b u,h.get? b=some u->h'.get? b=some u)(hp:h.objs.size<=a)(hn:H a=none):Un fs ex H (aG H a o) h h' where
 keep:=λb u q _ _ _=>k b u q
 slot:=λb u q _ _ _=>⟨u.slots,k b u q⟩
 free:=λb u q n _=>by rw[aK (ic (ub (ib q) hp))];exact n
 there:=λb u q _=>⟨u,k b u q⟩
 tups:=λb xs q=>by rw[aK (cC q hn)];exact q
 frzs:=λb u xs q=>by rw[aK (cC q hn)];exact q
 tbls:=λb ps q=>⟨#[],by rw[aK (cC q hn),q];simp⟩
theorem Un.write(c:pN (H x))(i:e=x\/H e=some (.own x))(k:∀b u,b≠e->h.get? b=some u->h'.get? b=some u)(d:∃u,h'.get? e=some u):Un fs ex H (aG H x o) h h':=by
 have f:∀b,H b=none->b≠x:=λb n z=>by subst z;rw[n]at c;exact c
 have g:∀b,H b=none->b≠e:=λb n z=>by
  subst z;rcases i with r|r
  ·exact f b n r
  ·rw[n]at r;cases r
 have hm:∀b u,H b=some u->¬pN (some u)->b≠x:=λb u q nm z=>by subst z;rw[q]at c;exact nm c
 refine⟨λ b u q n _ _=>k b u (g b n) q,λ b u q n _ _=>⟨u.slots,k b u (g b n) q⟩,λ b u q n _=>by rw[aK (f b n)];exact n,λ b u q _=>?_,
  λb xs q=>by rw[aK (hm b _ q λz=>z)];exact q,λb u xs q=>by rw[aK (hm b _ q λz=>z)];exact q,λb ps q=>⟨#[],by rw[aK (hm b _ q λz=>z),q];simp⟩⟩
 by_cases a:b=e
 ·subst a;exact d
 ·exact⟨u,k b u a q⟩
end
def rR(h:Heap)(H:Hp):List Addr:=(List.range h.objs.size).filter λa=>(H a).isSome
def kZ(h:Heap)(H:Hp):Heap:=PySem.W.hideAll h (rR h H)
theorem E7(h:Heap)(H:Hp):(kZ h H).objs.size=h.objs.size:=PySem.W.hideAll_size _ _
theorem E8{h:Heap}{H:Hp}{b:Addr}{o:Obj}(e:h.get? b=some o)(n:H b=none):(kZ h H).get? b=some o :=
 PySem.W.hideAll_get _ e λhm=>by
  have q:(H b).isSome=true:=(jh.mp hm).2;rw[n]at q;simp at q
theorem E9{h:Heap}{H:Hp}{b:Addr}{o:Obj}(e:(kZ h H).get? b=some o):h.get? b=some o/\H b=none:=by
 have a:h.get? b=some o:=PySem.W.of_hideAll (rR h H) e;refine⟨a,?_⟩
 cases q:H b with
 |none=>rfl
 |some x =>
  have hm:b∈rR h H:=jh.mpr ⟨dh.mpr (ib a),by simp[q]⟩;have z:(kZ h H).get? b=none:=PySem.W.hideAll_none (rR h H) hm;rw[z]at e;cases e
structure Mod(K:Fg1)(mg:Str->Option Value)(base:Heap):Prop where
 kin:K.In base
 glob:base.Ns mainGlobals mg
 blt:∃mb,base.Ns builtinsNs mb/\∀x:Str,x ≠ "__name__" -> mb x=bootBuiltins x
 nolimit:base.NoLimit
structure Cx where
 prog:Program
 w:World
 K:Fg1
 mg:Str->Option Value
 base:Heap
 A:Around
 N:List Str
 s₀:Shared
 H₀:Hp
 env:Env
 outer:List Env
 stack:List Env
 ex:List Addr
 fn:Str->Bool
 calm:Bool
 pn:List (Addr×Obj)
 xe:Value->Shared->Prop
noncomputable def d7(l:List Env):List Addr:=l.filterMap (·.frame)
abbrev Cx.fs(X:Cx):List Addr:=d7 X.outer
def gB(sc:Scope)(x:Str):Prop:=sc.names.lookup x=some .local\/sc.names.lookup x=some .cell\/sc.names.lookup x=some .free
def jr(sc:Scope)(x:Str):Prop:=sc.names.lookup x=some .local\/sc.names.lookup x=some .cell
def Fa(env:Env)(h:Heap)(m:Str->Option Value)(x:Str)(u:Value):Prop :=
 (env.kindOf x=some .local/\m x=some u)\/((env.kindOf x=some .cell\/env.kindOf x=some .free)/\∃c,env.cells.lookup x=some c/\h.IsCell c (some u))
structure Cx.Ok(X:Cx):Prop where
 mod:Mod X.K X.mg X.base
 kind:X.env.scope.kind=.function
 glob:X.env.globals=mainGlobals
 blt:X.env.builtins=builtinsNs
 above:X.s₀.heap.objs.size<=X.env.locals
 inj:∀x y c,X.env.cells.lookup x=some c->X.env.cells.lookup y=some c->x=y
 has:∀x,(X.env.kindOf x=some .cell\/X.env.kindOf x=some .free)->∃c,X.env.cells.lookup x=some c
 cab:∀x c,X.fn x=true->X.env.cells.lookup x=some c->X.s₀.heap.objs.size<=c
 hd:X.calm=true->X.A.handled=none
 frames:X.A.frames=some X.stack
 stk:X.stack=X.outer\/(X.stack=X.env::X.outer/\X.env.frame=some X.env.locals)
 exf:∀b∈X.ex,b≠X.env.locals/\∀x c,X.env.cells.lookup x=some c->c≠b
 bs:∀b o,X.base.get? b=some o->X.s₀.heap.get? b=some o/\X.H₀ b=none
 bsz:X.base.objs.size<=X.s₀.heap.objs.size
 noex:∀b o,X.base.get? b=some o->b ∉ X.ex
 exfs:∀b∈X.ex,b ∉ X.fs
 funs:X.s₀.heap.FunFrames X.base X.outer
 frf:∀b∈X.fs,X.H₀ b=none
structure aw(X:Cx)(pins:List (Addr×Obj))(σ:List (Option V))(H:Hp)(s:Shared):Prop where
 ok:X.Ok
 os:s.os=X.s₀.os
 bare:AllBare s.gens
 base:Un X.fs X.ex X.H₀ H X.s₀.heap s.heap
 loc:∃m,s.heap.Ns X.env.locals m/\∀(i:Nat) (x:Str) (v:V),X.N[i]?=some x->σ[i]?=some (some v)->gB X.env.scope x->∃u,bj v u/\Fa X.env s.heap m x u
 cell:∀x c,X.env.cells.lookup x=some c->∃v,s.heap.IsCell c v
 free:H X.env.locals=none
 freeC:∀x c,X.env.cells.lookup x=some c->H c=none
 pin:∀p∈X.pn++pins,s.heap.get? p.1=some p.2/\H p.1=none/\p.1≠X.env.locals/\p.1 ∉ X.fs/\∀v,p.2.data≠.cell v
 hok:cJ X.prog X.w H s.heap
 len:σ.length=X.N.length
section
variable {X:Cx}{pins:List (Addr×Obj)}{σ:List (Option V)}{H H':Hp}{s:Shared}{h':Heap}
theorem Cx.Ok.nofr(ok:X.Ok){b:Addr}{o:Obj}(e:X.base.get? b=some o):b ∉ X.fs:=λa=>by
 have:=(ok.funs.mem a).1
 rw[e]at this;cases this
theorem aw.bs(I:aw X pins σ H s):∀b o,X.base.get? b=some o->s.heap.get? b=some o/\H b=none:=λb o e =>
 ⟨I.base.keep b o (I.ok.bs b o e).1 (I.ok.bs b o e).2 (I.ok.nofr e) (I.ok.noex b o e),I.base.free b o (I.ok.bs b o e).1 (I.ok.bs b o e).2 (I.ok.noex b o e)⟩
theorem aw.bk(I:aw X pins σ H s):∀b o,X.base.get? b=some o->s.heap.get? b=some o:=λb o e=>(I.bs b o e).1
theorem aw.mod(I:aw X pins σ H s):Mod X.K X.mg X.base:=I.ok.mod
theorem aw.kIn(I:aw X pins σ H s):X.K.In s.heap:=I.ok.mod.kin.keeps I.bk
theorem aw.lt(I:aw X pins σ H s):X.env.locals<s.heap.objs.size:=let ⟨_,hn,_⟩:=I.loc;hn.lt
theorem aw.sz(I:aw X pins σ H s):X.s₀.heap.objs.size<=s.heap.objs.size:=wd I.ok.above (nu I.lt)
theorem aw.nofs(I:aw X pins σ H s){a:Addr}(h:s.heap.objs.size<=a):a ∉ X.fs:=λb=>by
 have⟨_,o,c,_⟩:=I.ok.funs.mem b
 exact absurd (ub (ib c) (wd I.sz h)) (qh _)
theorem aw.cne(I:aw X pins σ H s):∀x c,X.env.cells.lookup x=some c->c≠X.env.locals:=λx c e z=>by
 have⟨v,o,d,f⟩:=I.cell x c e;have⟨m,⟨g,es,ep,a,b,_⟩,_⟩:=I.loc;rw[z,a]at d;cases d;rw[b]at f;cases f
theorem aw.funs(I:aw X pins σ H s):s.heap.FunFrames X.base X.outer:=by
 have all:∀(l:List Env),(∀b∈d7 l,b∈X.fs)->X.s₀.heap.FunFrames X.base l->s.heap.FunFrames X.base l:=by
  intro l
  induction l with
  |nil=>intro _ _;trivial
  |cons env r j =>
   intro hs hl;obtain⟨f,⟨L,o,c,hn,g,h⟩,i⟩:=hl;have d:L∈X.fs:=hs L (by unfold d7;rw[tm,c];exact va);have⟨sl,e⟩:=I.base.slot L o g (I.ok.frf L d) d λz=>I.ok.exfs L z d
   exact⟨f,⟨L,_,c,hn,e,h⟩,j (λb a=>hs b (by unfold d7;rw[tm,c];exact la _ a)) i⟩
 exact all X.outer (λ_ a=>a) I.ok.funs
theorem aw.stack(I:aw X pins σ H s):s.heap.FunFrames X.base X.stack:=by
 rcases I.ok.stk with e|⟨e,a⟩
 ·rw[e];exact I.funs
 ·rw[e]
  have⟨m,hn,_⟩:=I.loc;refine .cons (by rw[I.ok.kind];decide) a hn ?_ I.funs
  exact km (wd I.ok.bsz I.ok.above)
theorem aw.stkSub(I:aw X pins σ H s):∀b∈d7 X.stack,b∈X.env.locals::X.fs:=λb a=>by
 rcases I.ok.stk with e|⟨e,c⟩
 ·rw[e]at a;exact la _ a
 ·rw[e]at a
  unfold d7 at a;rw[tm,c]at a;exact a
theorem aw.stkFree(I:aw X pins σ H s):∀b∈d7 X.stack,H b=none:=λb hb=>by
 rcases pb.mp (I.stkSub b hb) with e|hb
 ·rw[e];exact I.free
 ·have⟨_,o,a,_⟩:=I.ok.funs.mem hb
  exact I.base.free b o a (I.ok.frf b hb) λz=>I.ok.exfs b z hb
theorem aw.step{g':Array GenState}{t':Nat}{d':Drawn}{ch:List Addr}(I:aw X pins σ H s)
  (h:∀b∈ch,(b∈X.ex\/X.s₀.heap.objs.size<=b)/\b≠X.env.locals/\(∀x c,X.env.cells.lookup x=some c->c≠b)/\∀p∈X.pn++pins,p.1≠b)
  (j:∀b o,b≠X.env.locals->b ∉ X.fs->b ∉ ch->s.heap.get? b=some o->H b=none->h'.get? b=some o)
  (A:∀b o,b≠X.env.locals->b∈X.fs->b ∉ ch->s.heap.get? b=some o->H b=none->∃sl,h'.get? b=some { o with slots:=sl }) (free:∀b o,b ∉ ch->s.heap.get? b=some o->H b=none->H' b=none)
  (C:∀b o,b ∉ ch->s.heap.get? b=some o->∃o',h'.get? b=some o')
  (tups:∀b xs,H b=some (.tup xs)->H' b=some (.tup xs)) (G:∀b o u,H b=some (.frz o u)->H' b=some (.frz o u)) (J:∀b ps,H b=some (.tbl ps)->∃K,H' b=some (.tbl (ps++K)))
  (ns:∀m,s.heap.Ns X.env.locals m->h'.Ns X.env.locals m) (N:cJ X.prog X.w H' h') (Z:AllBare g') :
  aw X pins σ H' { s with heap:=h',gens:=g',drawn:=d',toks:=t' }:=by
 have F:∀b o,X.s₀.heap.get? b=some o->b≠X.env.locals:=λb o e=>ic (ub (ib e) I.ok.above)
 have y:∀b o,X.s₀.heap.get? b=some o->b ∉ X.ex->b ∉ ch:=λb o e a B=>by
  rcases(h b B).1 with z|z
  ·exact a z
  ·exact absurd (ub (ib e) z) (qh _)
 have f:∀x c,X.env.cells.lookup x=some c->∀v,s.heap.IsCell c v->h'.IsCell c v:=λx c e v ⟨o,E,L⟩=>by
  have g:c ∉ ch:=λz=>(h c z).2.2.1 x c e rfl
  by_cases R:c∈X.fs
  ·have⟨sl,q⟩:=A c o (I.cne x c e) R g E (I.freeC x c e)
   exact⟨_,q,L⟩
  ·exact⟨o,j c o (I.cne x c e) R g E (I.freeC x c e),L⟩
 refine⟨I.ok,I.os,Z,⟨λb o e n B a=>?_,λb o e n B a=>?_,λb o e n a=>?_,λb o e a=>?_,λb xs e=>tups b xs (I.base.tups b xs e),λb o xs e=>G b o xs (I.base.frzs b o xs e),λb ps e=>?_⟩,?_,λx c e=>?_,?_,λx c e=>?_,λp O=>?_,N,I.len⟩
 ·exact j b o (F b o e) B (y b o e a) (I.base.keep b o e n B a) (I.base.free b o e n a)
 ·have⟨sl,e1⟩:=I.base.slot b o e n B a
  have⟨M,e2⟩:=A b _ (F b o e) B (y b o e a) e1 (I.base.free b o e n a);exact⟨M,e2⟩
 ·have⟨o',e1⟩:=I.base.there b o e a
  exact free b o' (y b o e a) e1 (I.base.free b o e n a)
 ·have⟨o',e1⟩:=I.base.there b o e a
  exact C b o' (y b o e a) e1
 ·have⟨U,e1⟩:=I.base.tbls b ps e
  have⟨Y,e2⟩:=J b _ e1;exact⟨U++Y,by rw[e2,Array.append_assoc]⟩
 ·have⟨m,hn,hl⟩:=I.loc
  refine⟨m,ns m hn,λi x v e1 e2 T=>?_⟩;have⟨u,r,l⟩:=hl i x v e1 e2 T;refine⟨u,r,?_⟩;rcases l with l|⟨k,c,e,z⟩
  ·exact .inl l
  ·exact .inr ⟨k,c,e,f x c e _ z⟩
 ·have⟨v,z⟩:=I.cell x c e
  exact⟨v,f x c e v z⟩
 ·have⟨m,⟨o,_,_,E,_⟩,_⟩:=I.loc
  exact free _ o (λz=>(h _ z).2.1 rfl) E I.free
 ·have⟨v,o,E,L⟩:=I.cell x c e
  exact free c o (λz=>(h c z).2.2.1 x c e rfl) E (I.freeC x c e)
 ·have⟨e,n,P,Q,d⟩:=I.pin p O
  have g:p.1 ∉ ch:=λz=>(h p.1 z).2.2.2 p O rfl
  exact⟨j p.1 p.2 P Q g e n,free p.1 p.2 g e n,P,Q,d⟩
theorem aw.un{t':Nat}(I:aw X pins σ H s)(u:Un X.fs [] H H' s.heap h')(g:cJ X.prog X.w H' h'):aw X pins σ H' { s with heap:=h',toks:=t' }:=by
 have⟨m,⟨o,es,ep,h,r⟩,_⟩:=id I.loc;obtain⟨sl,i⟩:=u.any h I.free (by simp)
 exact I.step (g':=s.gens) (d':=s.drawn) (ch:=[]) (λ _ z=>nomatch z) (λ b o _ c _ e n=>u.keep b o e n c (by simp)) (λ b o _ c _ e n=>u.slot b o e n c (by simp)) (λ b o _ e n=>u.free b o e n (by simp)) (λ b o _ e=>u.there b o e (by simp)) u.tups u.frzs u.tbls (λ l hm=>by
  obtain⟨p,d,f,a,j⟩:=hm;rw[h]at a;cases a;exact⟨_,d,f,i,j⟩) g I.bare
theorem aw.call{g':Array GenState}{t':Nat}{d':Drawn}{ch:List Addr}(I:aw X pins σ H s)(u:Un (d7 X.stack) ch H H' s.heap h')(j:cJ X.prog X.w H' h')(y:AllBare g')
  (f:∀b∈ch,(b∈X.ex\/X.s₀.heap.objs.size<=b)/\b≠X.env.locals/\(∀x c,X.env.cells.lookup x=some c->c≠b)/\∀p∈X.pn++pins,p.1≠b) :
  aw X pins σ H' { s with heap:=h',gens:=g',drawn:=d',toks:=t' }:=by
 have⟨m,⟨o,es,ep,l,r⟩,_⟩:=id I.loc;have⟨sl,g⟩:=u.any l I.free λz=>(f _ z).2.1 rfl
 exact I.step (ch:=ch) f (λ b o g q a e n=>u.keep b o e n (λ z=>(List.mem_cons.mp (I.stkSub b z)).elim g q) a) (λ b o _ _ a e n=>u.any e n a) (λ b o a e n=>u.free b o e n a) (λ b o a e=>u.there b o e a) u.tups u.frzs u.tbls (λ A hm=>by
  obtain⟨B,h,i,d,v⟩:=hm;rw[l]at d;cases d;exact⟨_,h,i,g,v⟩) j y
theorem aw.turned{t':Nat}{it:Addr}(I:aw X pins σ H s)(k:∀b o,b≠it->s.heap.get? b=some o->h'.get? b=some o)(hn:H it=none)(f:it≠X.env.locals)
  (i:it∈X.ex\/X.s₀.heap.objs.size<=it) (j:∀x c,X.env.cells.lookup x=some c->c≠it) (l:∀p∈X.pn++pins,p.1≠it):aw X pins σ H { s with heap:=h',toks:=t' }:=by
 have d:∀b u,H b=some u->b≠it:=λb u e z=>by rw[z,hn]at e;cases e
 refine I.step (g':=s.gens) (d':=s.drawn) (ch:=[it]) (λb g=>?_) (λb o _ _ a e _=>k b o (λz=>a (by simp[z])) e) (λb o _ _ a e _=>⟨o.slots,k b o (λz=>a (by simp[z])) e⟩) (λ_ _ _ _ n=>n)
  (λb o a e=>⟨o,k b o (λz=>a (by simp[z])) e⟩) (λ_ _ e=>e) (λ_ _ _ e=>e) (λb ps e=>⟨#[],by rw[e];simp⟩) (λm hm=>?_) (λb u e=>?_) I.bare
 ·have e:b=it:=by simpa using g
  subst e;exact⟨i,f,j,l⟩
 ·obtain⟨o,es,ep,h,r⟩:=hm
  exact⟨o,es,ep,k _ o (ve f) h,r⟩
 ·refine(I.hok b u e).stay (λc v a q=>k c v ?_ q) (λ_ q=>q) λ_ _ q=>q
  rcases a with z|z
  ·rw[z];exact d b u e
  ·exact d c _ z
theorem aw.tok(I:aw X pins σ H s)(t:Nat):aw X pins σ H { s with toks:=t }:=I.un (h':=s.heap) (t':=t) Un.refl I.hok
theorem aw.kept{t':Nat}(I:aw X pins σ H s)(k:∀b u,s.heap.get? b=some u->h'.get? b=some u):aw X pins σ H { s with heap:=h',toks:=t' }:=I.un (Un.kept k) (I.hok.kept k)
theorem aw.laid{a:Addr}{o:HO}{t':Nat}(I:aw X pins σ H s)(k:∀b u,s.heap.get? b=some u->h'.get? b=some u)(c:s.heap.objs.size<=a)(new:cA X.prog X.w (aG H a o) h' a o) :
  aw X pins σ (aG H a o) { s with heap:=h',toks:=t' }:=I.un (Un.laid k c (I.hok.fresh c)) (I.hok.laid k c new)
theorem aw.write{x e:Addr}{o:HO}{t':Nat}(I:aw X pins σ H s)(c:pN (H x))(d:e=x\/H e=some (.own x))(k:∀b u,b≠e->s.heap.get? b=some u->h'.get? b=some u)(a:∃u,h'.get? e=some u)
  (new:cA X.prog X.w (aG H x o) h' x o):aw X pins σ (aG H x o) { s with heap:=h',toks:=t' }:=I.un (Un.write c d k a) (I.hok.write c d k a new)
theorem aw.weak{a:List (Option V)}(I:aw X pins σ H s)(hl:a.length=σ.length)(w:∀(i:Nat) v,a[i]?=some (some v)->σ[i]?=some (some v)):aw X pins a H s :=
 ⟨I.ok,I.os,I.bare,I.base,let ⟨m,hn,b⟩:=I.loc;⟨m,hn,λi x v e1 e2 c=>b i x v e1 (w i v e2) c⟩,I.cell,I.free,I.freeC,I.pin,I.hok,hl.trans I.len⟩
theorem aw.pins_of{a:List (Addr×Obj)}(I:aw X pins σ H s)(h:∀p∈a,s.heap.get? p.1=some p.2/\H p.1=none/\p.1≠X.env.locals/\p.1 ∉ X.fs/\∀v,p.2.data≠.cell v):aw X a σ H s :=
 ⟨I.ok,I.os,I.bare,I.base,I.loc,I.cell,I.free,I.freeC,λp b=>(yc.mp b).elim (λz=>I.pin p (bf _ z)) (h p),I.hok,I.len⟩
theorem u8{N:List Str}(c:N.Nodup){i j:Nat}{x:Str}(a:N[i]?=some x)(b:N[j]?=some x):i=j:=by
 have⟨d,e1⟩:=ya.mp a;have⟨e,e2⟩:=ya.mp b;exact(List.getElem_inj c).mp (e1.trans e2.symm)
theorem zT{M:Model}{A:Around}{E:Value->Shared->Prop}{i:Nat}{x:Str}{v:V}{u:Value}{Q:Unit->Shared->Prop}(I:aw X pins σ H s)(hN:X.N.Nodup)(R:X.N[i]?=some x)(g:jr X.env.scope x)(r:bj v u)
  (h:∀s',aw X pins (σ.set i (some v)) H s'->(∃a,Heap.SameBut a s.heap s'.heap/\(a=X.env.locals\/X.env.cells.lookup x=some a))->Q () s') (hf:X.fn x=true\/X.env.scope.names.lookup x=some .local:=by first|exact .inl rfl|exact .inr rfl|assumption):wpAny M A (storeName X.env x u) Q E s:=by
 have⟨m,hn,hl⟩:=id I.loc;have O:(X.env.scope.kind == .class || (X.env.scope.kind == .module && X.env.locals != X.env.globals))=false:=by rw[I.ok.kind];rfl
 have B:i<σ.length:=by rw[I.len];exact(ya.mp R).1
 have cne:=I.cne
 have f:∀{a:Addr} {h':Heap},(∃o,s.heap.get? a=some o/\H a=none)->Heap.SameBut a s.heap h'->cJ X.prog X.w H h':=λ{a h'} ha hs b ob e=>by
  obtain⟨_,_,l⟩:=ha;refine(I.hok b ob e).stay (λc T hc q=>(hs.2 c ?_).trans q) (λ_ q=>q) λ_ _ q=>q
  rintro rfl;rcases hc with rfl|hc
  ·rw[l]at e;cases e
  ·rw[l]at hc;cases hc
 rcases g with hk|hk
 ·refine wpAny_storeName_local hk hn (λh' Z hs=>?_) O
  have⟨oL,_,_,hoL,_⟩:=id hn;refine h _ ⟨I.ok,I.os,I.bare,⟨λb o e n C g=>?_,λb o e n C g=>?_,I.base.free,λb o e g=>?_,I.base.tups,I.base.frzs,I.base.tbls⟩,⟨_,Z,λj y v' e1 e2 e3=>?_⟩,λy c e=>?_,I.free,I.freeC,λp hp=>?_,f ⟨oL,hoL,I.free⟩ hs,by simpa using I.len⟩ ⟨_,hs,.inl rfl⟩
  ·exact(hs.2 b (ic (ub (ib e) I.ok.above))).trans (I.base.keep b o e n C g)
  ·have⟨sl,e1⟩:=I.base.slot b o e n C g
   exact⟨sl,(hs.2 b (ic (ub (ib e) I.ok.above))).trans e1⟩
  ·have⟨o',e1⟩:=I.base.there b o e g
   exact⟨o',(hs.2 b (ic (ub (ib e) I.ok.above))).trans e1⟩
  ·by_cases G:j=i
   ·subst G
    rw[R]at e1;cases e1;rw[ac B]at e2;cases e2;exact⟨u,r,.inl ⟨hk,by simp⟩⟩
   ·rw[ua (ve G)]at e2
    have⟨u',r',q⟩:=hl j y v' e1 e2 e3;refine⟨u',r',?_⟩;rcases q with⟨k,e⟩|⟨k,c,e,z⟩
    ·refine .inl ⟨k,?_⟩
     have:y≠x:=λe=>G (u8 hN e1 (e ▸ R))
     simp[this,e]
    ·exact .inr ⟨k,c,e,z.sameBut hs (cne y c e)⟩
  ·have⟨T,z⟩:=I.cell y c e
   exact⟨T,z.sameBut hs (cne y c e)⟩
  ·have⟨e,n,Y,nf,d⟩:=I.pin p hp
   exact⟨(hs.2 p.1 Y).trans e,n,Y,nf,d⟩
 ·have F:X.fn x=true:=by
   rcases hf with z|z
   ·exact z
   ·rw[z]at hk;cases hk
  have⟨c,hc⟩:=I.ok.has x (.inl hk);have⟨T,z⟩:=I.cell x c hc;refine wpAny_storeName_cell I.ok.kind hk hc z (λh' J hs=>?_);have⟨oc,K,L⟩:=id z;refine h { s with heap:=h' } ⟨I.ok,I.os,I.bare,⟨λb o e n C g=>?_,λb o e n C g=>?_,I.base.free,λb o e g=>?_,I.base.tups,I.base.frzs,I.base.tbls⟩,⟨m,hn.sameBut hs (ve (cne x c hc)),λj y v' e1 e2 e3=>?_⟩,λy U e=>?_,I.free,I.freeC,λp hp=>?_,f ⟨oc,K,I.freeC x c hc⟩ hs,by simpa using I.len⟩ ⟨c,hs,.inr hc⟩
  ·exact(hs.2 b (ic (ub (ib e) (I.ok.cab x c F hc)))).trans (I.base.keep b o e n C g)
  ·have⟨sl,e1⟩:=I.base.slot b o e n C g
   exact⟨sl,(hs.2 b (ic (ub (ib e) (I.ok.cab x c F hc)))).trans e1⟩
  ·have⟨o',e1⟩:=I.base.there b o e g
   exact⟨o',(hs.2 b (ic (ub (ib e) (I.ok.cab x c F hc)))).trans e1⟩
  ·by_cases G:j=i
   ·subst G
    rw[R]at e1;cases e1;rw[ac B]at e2;cases e2;exact⟨u,r,.inr ⟨.inl hk,c,hc,J⟩⟩
   ·rw[ua (ve G)]at e2
    have⟨u',r',q⟩:=hl j y v' e1 e2 e3;refine⟨u',r',?_⟩;rcases q with q|⟨k,U,e,z'⟩
    ·exact .inl q
    ·refine .inr ⟨k,U,e,z'.sameBut hs ?_⟩
     rintro rfl;exact G (u8 hN e1 (I.ok.inj _ _ _ e hc ▸ R))
  ·by_cases P:U=c
   ·subst P;exact⟨_,J⟩
   ·have⟨w2,z2⟩:=I.cell y U e
    exact⟨w2,z2.sameBut hs P⟩
  ·have⟨e,n,Y,nf,d⟩:=I.pin p hp
   refine⟨(hs.2 p.1 ?_).trans e,n,Y,nf,d⟩;intro q;rw[q,K]at e;have q':oc=p.2:=lc e;exact d T (by rw[<-q'];exact L)
theorem rS{M:Model}{A:Around}{E:Value->Shared->Prop}{i:Nat}{x:Str}{v:V}{u:Value}{Q:Unit->Shared->Prop}(I:aw X pins σ H s)(b:X.N.Nodup)(c:X.N[i]?=some x)(d:jr X.env.scope x)(r:bj v u)
  (h:∀s',aw X pins (σ.set i (some v)) H s'->Q () s') (e:X.fn x=true\/X.env.scope.names.lookup x=some .local:=by first|exact .inl rfl|exact .inr rfl|assumption):wpAny M A (storeName X.env x u) Q E s :=
 zT I b c d r (λs' a _=>h s' a) e
theorem aw.call'{s':Shared}{ch:List Addr}(I:aw X pins σ H s)(g:s'.os=s.os)(u:Un (d7 X.stack) ch H H' s.heap s'.heap)(a:cJ X.prog X.w H' s'.heap)(h:AllBare s'.gens)
  (d:∀b∈ch,(b∈X.ex\/X.s₀.heap.objs.size<=b)/\b≠X.env.locals/\(∀x c,X.env.cells.lookup x=some c->c≠b)/\∀p∈X.pn++pins,p.1≠b):aw X pins σ H' s':=by
 obtain⟨h',g',d',t',f⟩:=s';have e:f=s.os:=g;subst e;exact I.call (g':=g') (t':=t') (d':=d') u a h d
end
abbrev XK:=Value->Option Addr->Hp->Prop
noncomputable abbrev St:=List (Option V)
abbrev VK:=V->Hp->Prop
abbrev TE:=St->Hp->VK->Prop
abbrev TT:=St->Hp->(Bool->Hp->Prop)->Prop
abbrev TA:=St->Hp->(List V->Hp->Prop)->Prop
structure eA where
 nx:St->Hp->Prop
 rt:VK
 bk:St->Hp->Prop:=λ_ _=>False
 ct:St->Hp->Prop:=λ_ _=>False
abbrev TS:=eA->St->Hp->Prop
def EP(X:Cx)(pins:List (Addr×Obj))(σ:St)(Q:VK)(u:Value)(s':Shared):Prop:=∃v H',aw X pins σ H' s'/\bj v u/\Q v H'
def TP(X:Cx)(pins:List (Addr×Obj))(σ:St)(Q:Bool->Hp->Prop)(b:Bool)(s':Shared):Prop:=∃H',aw X pins σ H' s'/\Q b H'
def AP(X:Cx)(pins:List (Addr×Obj))(σ:St)(Q:List V->Hp->Prop)(a:List Value)(s':Shared):Prop:=∃vs H',aw X pins σ H' s'/\bB vs a/\Q vs H'
def SP(X:Cx)(pins:List (Addr×Obj))(D:eA)(f:Flow)(s':Shared):Prop :=
 match f with
 |.next=>∃a H',aw X pins a H' s'/\D.nx a H'
 |.brk=>∃a H',aw X pins a H' s'/\D.bk a H'
 |.cont=>∃a H',aw X pins a H' s'/\D.ct a H'
 |.ret u=>∃v a H',aw X pins a H' s'/\bj v u/\D.rt v H'
def PE(X:Cx)(e:Expr)(t:TE):Prop :=
 ∀(pins:List (Addr×Obj)) (s:Shared) (σ:St) (H:Hp) (Q:VK),aw X pins σ H s->t σ H Q->wpAny (model X.prog X.w) X.A (eval e X.env) (EP X pins σ Q) X.xe s
def PT(X:Cx)(e:Expr)(t:TT):Prop :=
 ∀(pins:List (Addr×Obj)) (s:Shared) (σ:St) (H:Hp) (Q:Bool->Hp->Prop),aw X pins σ H s->t σ H Q->wpAny (model X.prog X.w) X.A (isTrue e X.env (eval e X.env)) (TP X pins σ Q) X.xe s
def PW(X:Cx)(e:Expr)(t:TT):Prop :=
 ∀(whole:Sem Value) (pins:List (Addr×Obj)) (s:Shared) (σ:St) (H:Hp) (Q:Bool->Hp->Prop),aw X pins σ H s->t σ H Q->wpAny (model X.prog X.w) X.A (isTrue e X.env whole) (TP X pins σ Q) X.xe s
theorem PW.pt{X:Cx}{e:Expr}{t:TT}(h:PW X e t):PT X e t:=h _
def PA(X:Cx)(es:List Expr)(t:TA):Prop :=
 ∀(pos:Pos) (pins:List (Addr×Obj)) (s:Shared) (σ:St) (H:Hp) (Q:List V->Hp->Prop),aw X pins σ H s->t σ H Q->wpAny (model X.prog X.w) X.A (spliced (backTo pos (starEach es X.env))) (AP X pins σ Q) X.xe s
def PS(X:Cx)(st:Stmt)(t:TS):Prop :=
 ∀(pins:List (Addr×Obj)) (s:Shared) (σ:St) (H:Hp) (D:eA),aw X pins σ H s->t D σ H->wpAny (model X.prog X.w) X.A (exec st X.env) (SP X pins D) X.xe s
def bT(X:Cx)(st:List Stmt)(t:TS):Prop :=
 ∀(pins:List (Addr×Obj)) (s:Shared) (σ:St) (H:Hp) (D:eA),aw X pins σ H s->t D σ H->wpAny (model X.prog X.w) X.A (execs st X.env) (SP X pins D) X.xe s
theorem aX{b:Type}{t:Sem b}{Q c:b->Shared->Prop}{M:Model}{A:Around}{E:Value->Shared->Prop}{s:Shared}(h:wpAny M A t Q E s)(d:∀a s,Q a s->c a s):wpAny M A t c E s:=re h d λ_ _ x=>x
section
variable {X:Cx}
def Fb(i:Nat):TE:=λσ H Q=>∃v,σ[i]?=some (some v)/\Q v H
def tC(v:V):TE:=λ_ H Q=>Q v H
theorem fN {i:Nat}{x:Str}{f:Pos} (p:X.N[i]?=some x) (q:gB X.env.scope x) (g:(x == ("__debug__" : Str))=false:=by decide) (j:(x == ("__classdict__" : Str))=false:=by decide):PE X (.Name x f) (Fb i):=by
 intro d s o H Q I h;obtain⟨v,e,h⟩:=h;have⟨m,hn,hl⟩:=I.loc;have⟨u,r,l⟩:=hl i x v p e q;have b:EP X d o Q u s:=⟨v,H,I,r,h⟩
 rcases l with⟨hk,hm⟩|⟨hk,c,n,a⟩
 ·exact wpAny_Name (wpAny_loadName_local I.ok.kind hk hn hm b) g
 ·rcases hk with hk|hk
  ·exact wpAny_Name (wpAny_loadName_cell I.ok.kind hk n a b) g
  ·exact wpAny_Name (wpAny_loadName_free I.ok.kind hk n a b j) g
theorem Fc{i j pos}:PE X (.Constant (.int i) j pos) (tC (.int i)):=λ_ _ _ H _ I h=>wpAny_Constant_int ⟨.int i,H,I.tok _,⟨_,rfl⟩,h⟩
theorem zU{b j pos}:PE X (.Constant (.bool b) j pos) (tC (.bl b)):=λ_ _ _ H _ I h=>Constant_bool ⟨.bl b,H,I,rfl,h⟩
theorem Fd{j pos}:PE X (.Constant .none j pos) (tC .non):=λ_ _ _ H _ I h=>Constant_none ⟨.non,H,I,rfl,h⟩
theorem Fe{x j pos}:PE X (.Constant (.str x) j pos) (tC (.str x)):=λ_ _ _ H _ I h=>Calls.Constant_str ⟨.str x,H,I.tok _,⟨_,rfl⟩,h⟩
def Gl(X:Cx)(x:Str):Prop:=X.env.kindOf x=some .globalImplicit
theorem mB{E:Value->Shared->Prop}{a:List (Addr×Obj)}{s:Shared}{c:St}{H:Hp}{x:Str}{u:Value}{b:Pos}{Q:Value->Shared->Prop}(I:aw X a c H s)(d:Gl X x)(hm:X.mg x=some u)(h:Q u s)
  (e:(x == ("__debug__" : Str))=false:=by decide):wpAny (model X.prog X.w) X.A (eval (.Name x b) X.env) Q E s :=
 ym I.ok.kind d (Calls.loadGlobal_global (by rw[I.ok.glob];exact I.mod.glob.keeps I.bk) hm h) e
theorem kw{E:Value->Shared->Prop}{a:List (Addr×Obj)}{s:Shared}{e:St}{H:Hp}{x:Str}{u:Value}{b:Pos}{Q:Value->Shared->Prop}(I:aw X a e H s)(f:Gl X x)(hm:X.mg x=none)(g:bootBuiltins x=some u)(h:Q u s)
  (hn:x ≠ "__name__":=by decide) (i:(x == ("__debug__" : Str))=false:=by decide):wpAny (model X.prog X.w) X.A (eval (.Name x b) X.env) Q E s:=by
 have⟨j,c,d⟩:=I.mod.blt;exact ym I.ok.kind f (Calls.loadGlobal_builtin (by rw[I.ok.glob];exact I.mod.glob.keeps I.bk) hm (by rw[I.ok.blt];exact c.keeps I.bk) ((d x hn).trans g) h) i
theorem rT {x:Str}{v:V}{u:Value}{a:Pos} (b:Gl X x) (hm:X.mg x=some u) (r:bj v u) (c:(x == ("__debug__" : Str))=false:=by decide):PE X (.Name x a) (tC v) :=
 λ_ _ _ H _ I h=>mB I b hm ⟨v,H,I,r,h⟩ c
theorem Ff {x:Str}{v:V}{u:Value}{a:Pos} (b:Gl X x) (hm:X.mg x=none) (c:bootBuiltins x=some u) (r:bj v u) (hn:x ≠ "__name__":=by decide) (d:(x == ("__debug__" : Str))=false:=by decide):PE X (.Name x a) (tC v) :=
 λ_ _ _ H _ I h=>kw I b hm c ⟨v,H,I,r,h⟩ hn d
variable {a b:Expr}{ta tb:TE}{pos:Pos}
variable {tA tB':TT}{rest:List Expr}
def zV(t u:TT):TT:=λσ H Q=>t σ H λc H1=>if c=true then u σ H1 Q else Q false H1
def zW(t u:TT):TT:=λσ H Q=>t σ H λc H1=>if c=true then Q true H1 else u σ H1 Q
def Fg(t:TT):TT:=λσ H Q=>t σ H λc H1=>Q (!c) H1
theorem Fh(f:PT X a tA):PW X (.BoolOp .And [a] pos) tA:=by
 intro i b s d H Q I h;refine isTrue_and (aX (f b s d H Q I h) λc g e=>?_)
 cases c with
 |true=>exact isTrue_and_nil e
 |false=>exact e
theorem Fi(f:PT X a tA):PW X (.BoolOp .Or [a] pos) tA:=by
 intro i b s d H Q I h;refine isTrue_or (aX (f b s d H Q I h) λc g e=>?_)
 cases c with
 |false=>exact isTrue_or_nil e
 |true=>exact e
theorem Fj(m:PT X a tA)(n:PW X (.BoolOp .And (b::rest) pos) tB'):PW X (.BoolOp .And (a::b::rest) pos) (zV tA tB'):=by
 intro l d s i H Q I h;refine isTrue_and (aX (m d s i H _ I h) λc j ⟨e,f,g⟩=>?_)
 cases c with
 |true=>exact n l d j i e Q f g
 |false=>exact⟨e,f,g⟩
theorem Fk(m:PT X a tA)(n:PW X (.BoolOp .Or (b::rest) pos) tB'):PW X (.BoolOp .Or (a::b::rest) pos) (zW tA tB'):=by
 intro l d s i H Q I h;refine isTrue_or (aX (m d s i H _ I h) λc j ⟨e,f,g⟩=>?_)
 cases c with
 |true=>exact⟨e,f,g⟩
 |false=>exact n l d j i e Q f g
theorem Fl(f:PT X a tA):PT X (.UnaryOp .Not a pos) (Fg tA):=by
 intro b s e H Q I h;exact isTrue_not (f b s e H (λc d=>Q (!c) d) I h)
theorem Fm{op}{t:TE}(h:PE X a t):PE X (.BoolOp op [a] pos) t:=λb s c H Q I d=>BoolOp_one (h b s c H Q I d)
end
def bJ(K:Fg1)(H:Hp)(a:Addr)(xs:List V):Prop :=
 Rd H a (.lst xs) ∨
  ∃(o:Obj) (b:Array Value) (n:Nat),K.lookup a=some o/\o.cls=.type "list" /\ o.dict=none/\o.data=.seq b n/\b.size<=sizeLine/\bB xs b.toList
def dJ(K:Fg1)(H:Hp)(a:Addr)(xs:List V):Prop :=
 Rd H a (.tup xs) ∨
  ∃(o:Obj) (b:Array Value) (n:Nat),K.lookup a=some o/\o.cls=.type "tuple" /\ o.data=.seq b n/\b.size<=sizeLine/\bB xs b.toList
noncomputable def Fn:Value->Option V
 |.none=>some .non
 |.bool b=>some (.bl b)
 |.int i _=>some (.int i)
 |.str x _=>some (.str x)
 |.bytes b _=>some (.byt b)
 |.float b _=>some (.flt b)
 |.ref a=>some (.ref a)
 |.type n=>some (.ty n)
 |_=>none
theorem bj.abs{x:V}{u:Value}(r:bj x u):Fn u=some x:=by
 cases x with
 |non=>cases r;rfl
 |bl _=>cases r;rfl
 |int _=>obtain⟨t,rfl⟩:=r;rfl
 |str _=>obtain⟨t,rfl⟩:=r;rfl
 |byt _=>obtain⟨t,rfl⟩:=r;rfl
 |flt _=>obtain⟨t,rfl⟩:=r;rfl
 |ref _=>cases r;rfl
 |ty _=>cases r;rfl
theorem bj.inj{x y:V}{u:Value}(r:bj x u)(q:bj y u):x=y:=lc (r.abs.symm.trans q.abs)
theorem bB.inj:∀{xs ys:List V}{a:List Value},bB xs a->bB ys a->xs=ys
 |_,_,_,.nil,.nil=>rfl
 |_,_,_,.cons r t,.cons b t'=>by rw[r.inj b,bB.inj t t']
section
variable {X:Cx}{pins:List (Addr×Obj)}{σ:St}{H:Hp}{s:Shared}{a:Addr}{xs ys:List V}
theorem bJ.of{K:Fg1}(h:H a=some (.lst xs)):bJ K H a xs:=.inl (.inl h)
theorem aw.list(I:aw X pins σ H s)(h:bJ X.K H a xs):∃b:List Value,bB xs b/\PlainL s.heap a b.toArray/\xs.length<=sizeLine:=by
 rcases h with h|⟨o,b,n,c,d,f,hs,hz,r⟩
 ·have⟨z,b,n,r,e⟩:=h.ok I.hok
  exact⟨b,r,⟨_,n,e,rfl,rfl,rfl⟩,z⟩
 ·refine⟨b.toList,r,⟨o,n,I.kIn a o c,d,f,by simpa using hs⟩,?_⟩
  have e:=r.length;simp only[pf]at e;omega
theorem aw.tuple(I:aw X pins σ H s)(h:dJ X.K H a xs):∃b:List Value,bB xs b/\IsTup s.heap a b.toArray/\xs.length<=sizeLine:=by
 rcases h with h|⟨o,b,n,c,d,hs,hz,r⟩
 ·have⟨z,b,r,p⟩:=h.ok I.hok
  exact⟨b,r,p,z⟩
 ·refine⟨b.toList,r,⟨o,I.kIn a o c,d,n,by simpa using hs⟩,?_⟩
  have e:=r.length;simp only[pf]at e;omega
theorem aw.list_inj(I:aw X pins σ H s)(h:bJ X.K H a xs)(h':bJ X.K H a ys):xs=ys:=by
 have⟨b,r,⟨o,n,e,_,_,d⟩,_⟩:=I.list h;have⟨its',f,⟨i,n',c,_,_,d'⟩,_⟩:=I.list h';rw[e]at c;cases c;rw[d]at d';injection d' with g _
 have:b=its':=by simpa using de Array.toList g
 subst this;exact r.inj f
theorem aw.tuple_inj(I:aw X pins σ H s)(h:dJ X.K H a xs)(h':dJ X.K H a ys):xs=ys:=by
 have⟨b,r,⟨o,e,_,n,d⟩,_⟩:=I.tuple h;have⟨its',f,⟨i,c,_,n',d'⟩,_⟩:=I.tuple h';rw[e]at c;cases c;rw[d]at d';injection d' with g _
 have:b=its':=by simpa using de Array.toList g
 subst this;exact r.inj f
end
noncomputable abbrev Cx.wish(X:Cx)(E:Value->Shared->Prop):Cx:={ X with xe:=E }
noncomputable abbrev Cx.nox(X:Cx):Cx:=X.wish λ_ _=>False
theorem Cx.Ok.wish{X:Cx}(ok:X.Ok)(E:Value->Shared->Prop):(X.wish E).Ok :=
 ⟨ok.mod,ok.kind,ok.glob,ok.blt,ok.above,ok.inj,ok.has,ok.cab,ok.hd,ok.frames,ok.stk,ok.exf,ok.bs,ok.bsz,ok.noex,ok.exfs,ok.funs,ok.frf⟩
theorem Cx.Ok.unwish{X:Cx}{E:Value->Shared->Prop}(ok:(X.wish E).Ok):X.Ok :=
 ⟨ok.mod,ok.kind,ok.glob,ok.blt,ok.above,ok.inj,ok.has,ok.cab,ok.hd,ok.frames,ok.stk,ok.exf,ok.bs,ok.bsz,ok.noex,ok.exfs,ok.funs,ok.frf⟩
section
variable {X:Cx}{pins:List (Addr×Obj)}{σ:St}{H:Hp}{s:Shared}{E:Value->Shared->Prop}
theorem aw.wish(I:aw X pins σ H s)(E:Value->Shared->Prop):aw (X.wish E) pins σ H s:=⟨I.ok.wish E,I.os,I.bare,I.base,I.loc,I.cell,I.free,I.freeC,I.pin,I.hok,I.len⟩
theorem aw.unwish(I:aw (X.wish E) pins σ H s):aw X pins σ H s:=⟨I.ok.unwish,I.os,I.bare,I.base,I.loc,I.cell,I.free,I.freeC,I.pin,I.hok,I.len⟩
theorem SP.unwish{D:eA}{f:Flow}{s':Shared}(h:SP (X.wish E) pins D f s'):SP X pins D f s':=by
 cases f with
 |next=>obtain⟨a,H',I,q⟩:=h;exact⟨a,H',I.unwish,q⟩
 |brk=>obtain⟨a,H',I,q⟩:=h;exact⟨a,H',I.unwish,q⟩
 |cont=>obtain⟨a,H',I,q⟩:=h;exact⟨a,H',I.unwish,q⟩
 |ret u=>obtain⟨v,a,H',I,r,q⟩:=h;exact⟨v,a,H',I.unwish,r,q⟩
theorem PE.nox{e:Expr}{t:TE}(h:PE X.nox e t):PE X e t:=λa s b H Q I c =>
 re (h a s b H Q (I.wish _) c) (λ_ _ ⟨v,H',d,r,q⟩=>⟨v,H',d.unwish,r,q⟩) λ_ _ z=>False.elim z
theorem bT.nox{st:List Stmt}{t:TS}(h:bT X.nox st t):bT X st t:=λa s b H D I c =>
 re (h a s b H D (I.wish _) c) (λ_ _ q=>q.unwish) λ_ _ z=>False.elim z
end
section
variable {X:Cx}{st:Stmt}{rest:List Stmt}{t u:TS}{e:Expr}{te:TE}{pos:Pos}
def Fo:TS:=λD σ H=>D.nx σ H
def Fp(t u:TS):TS:=λD σ H=>t { D with nx:=u D } σ H
theorem n9:bT X [] Fo:=λ_ _ a H _ I h=>wj ⟨a,H,I,h⟩
theorem g7(g:PS X st t)(i:bT X rest u):bT X (st::rest) (Fp t u):=by
 intro a s d H D I h;refine so (aX (g a s d H { D with nx:=u D } I h) λf c q=>?_)
 cases f with
 |next =>
  obtain⟨b,H',e,q⟩:=q;exact i a c b H' D e q
 |ret v=>exact q
 |brk=>exact q
 |cont=>exact q
theorem pO(c:PS X st t):bT X [st] t:=by
 intro a s b H D I h;refine so (aX (c a s b H D I h) λf d q=>?_)
 cases f with
 |next=>exact wj q
 |ret v=>exact q
 |brk=>exact q
 |cont=>exact q
theorem aw.quiet{a:List (Addr×Obj)}{b:St}{H:Hp}{s:Shared}(I:aw X a b H s):interactive X.env=false:=by simp[interactive,I.ok.kind]
def Fq(te:TE):TS:=λD σ H=>te σ H λ_ H1=>D.nx σ H1
theorem oq(g:PE X e te)(hs:swapsWith e none pos.line X.env=pure false:=by rfl):PS X (.Expr e pos) (Fq te):=by
 intro a s b H D I h;exact wpAny_Expr_any (aX (g a s b H _ I h) λv i ⟨x,c,d,j,f⟩=>⟨b,c,d,f⟩) I.quiet hs
def Fr(te:TE):TS:=λD σ H=>te σ H D.rt
theorem rV(i:PE X e te):PS X (.Return (some e) pos) (Fr te):=by
 intro a s b H D I h;exact wpAny_Return_some (aX (i a s b H _ I h) λv j ⟨x,c,d,f,g⟩=>⟨x,b,c,d,f,g⟩)
def Fs(c:TT)(t u:TS):TS:=λD σ H=>c σ H λb H1=>if b=true then t D σ H1 else u D σ H1
theorem u9{c:Expr}{a b:List Stmt}{m:TT}(n:PT X c m)(o:bT X a t)(p:bT X b u):PS X (.If c a b pos) (Fs m t u):=by
 intro e s f H D I h;refine wpAny_If (aX (n e s f H _ I h) λd g ⟨i,j,l⟩=>?_)
 cases d with
 |true=>exact o e g f i D j l
 |false=>exact p e g f i D j l
def Ft:TS:=λ_ _ _=>False
theorem Fu:PS X st Ft:=λ_ _ _ _ _ _ h=>h.elim
end
abbrev TG:=V->St->Hp->(St->Hp->Prop)->Prop
abbrev iM:=List V->St->Hp->(St->Hp->Prop)->Prop
def PG(X:Cx)(a:Expr)(t:TG):Prop :=
 ∀(pins:List (Addr×Obj)) (s:Shared) (σ:St) (H:Hp) (v:V) (u:Value) (Q:St->Hp->Prop),aw X pins σ H s->bj v u->t v σ H Q →
  wpAny (model X.prog X.w) X.A (assign a X.env u) (λ_ s'=>∃b H',aw X pins b H' s'/\Q b H') X.xe s
def gC(X:Cx)(c:List Expr)(t:iM):Prop :=
 ∀(pins:List (Addr×Obj)) (s:Shared) (σ:St) (H:Hp) (vs:List V) (b:List Value) (Q:St->Hp->Prop),aw X pins σ H s->bB vs b->t vs σ H Q →
  wpAny (model X.prog X.w) X.A (assignInOrder ((assignEach c X.env).map (·.2)) b) (λ_ s'=>∃a H',aw X pins a H' s'/\Q a H') X.xe s
abbrev vl:=V->V->V->Hp->(Hp->Prop)->Prop
def zX(X:Cx)(t:vl):Prop :=
 ∀(pins:List (Addr×Obj)) (s:Shared) (σ:St) (H:Hp) (o i v:V) (a b u:Value) (Q:Hp->Prop),aw X pins σ H s->bj o a->bj i b->bj v u->t o i v H Q →
  wpAny (model X.prog X.w) X.A (setItem a b u) (λ_ s'=>∃H',aw X pins σ H' s'/\Q H') X.xe s
section
variable {X:Cx}{pos:Pos}
def rW(i:Nat):TG:=λv σ H Q=>Q (σ.set i (some v)) H
theorem Fv{i:Nat}{x:Str}(c:X.N.Nodup)(d:X.N[i]?=some x)(e:jr X.env.scope x)(f:X.fn x=true\/X.env.scope.names.lookup x=some .local:=by first|exact .inl rfl|exact .inr rfl|assumption):PG X (.Name x pos) (rW i):=by
 intro a s j H v u Q I r h;exact wpAny_assign_Name (rS I c d e r (λg b=>⟨_,H,b,h⟩) f)
def Fw:iM:=λvs σ H Q=>vs=[]/\Q σ H
def Fx(t:TG)(u:iM):iM:=λvs σ H Q=>∃v r,vs=v::r/\t v σ H λa H'=>u r a H' Q
theorem Fy:gC X [] Fw:=by
 intro a s b H vs c Q I r h;obtain⟨e,h⟩:=h;subst e;cases r;exact assignInOrder_nil ⟨b,H,I,h⟩
theorem Fz{e:Expr}{es:List Expr}{t:TG}{u:iM}(j:PG X e t)(l:gC X es u)
  (hs:(assignEach (e::es) X.env).map (·.2)=assign e X.env::(assignEach es X.env).map (·.2):=by rfl):gC X (e::es) (Fx t u):=by
 intro a s i H vs n Q I r h;obtain⟨v,o,e1,h⟩:=h;subst e1
 cases r with
 |cons r m =>
  rw[hs];refine assignInOrder_cons (aX (j a s i H _ _ _ I r h) λ_ c ⟨b,d,f,g⟩=>?_);exact l a c b d _ _ Q f m g
def FA(K:Fg1)(n:Nat)(t:iM):TG:=λv σ H Q=>∃a xs,v=.ref a/\dJ K H a xs/\xs.length=n/\t xs σ H Q
theorem FB{es:List Expr}{k:Nat}{t:iM}{n:Nat}(w:X.calm=true)(h:gC X es t)
  (hn:(assignEach es X.env).length=n:=by rfl) (f:(assignEach es X.env).findIdx? (·.1)=none:=by rfl):PG X (.Tuple es k pos) (FA X.K n t):=by
 intro c s g H v u Q I r d;obtain⟨a,xs,e1,l,hl,d⟩:=d;subst e1;cases r;have⟨m,i,p,hz⟩:=I.tuple l;refine assign_Tuple_tuple (I.ok.hd w) p (by simp[hn,<-hl,i.length]) f λh' j=>?_
 have q:aw X c g H { s with heap:=h' }:=I.kept (t':=s.toks) λb o e=>j b o (ic (ib e)) e
 exact h c _ g H xs _ Q q (by simpa using i) d
def FC(to b:TE)(t:vl):TG:=λv σ H Q=>to σ H λo H1=>b σ H1 λi H2=>t o i v H2 λa=>Q σ a
theorem FD{o i:Expr}{e f:TE}{t:vl}(F:PE X o e)(G:PE X i f)(hs:zX X t)
  (J:∀ v,assign (.Subscript o i pos) X.env v=(do
   let b ← holding [v] (eval o X.env)
   let c ← holding [v,b] (eval i X.env)
   standAt pos
   holding [v,b,c] (setItem b c v)
   release [v,b,c] []):=by intro _;rfl):PG X (.Subscript o i pos) (FC e f t):=by
 intro a s d H v u Q I r h;rw[J];refine aa (qe (aX (F a s d H _ I h) λb g ⟨x,j,l,m,n⟩=>?_));refine aa (qe (aX (G a g d j _ l n) λc p ⟨y,q,w,z,A⟩=>?_));refine aa (yj (aa (qe (aX (hs a p d q x y v b c u _ w m z r A) λ_ K ⟨B,C,E⟩=>?_))));exact wpAny_release ⟨d,B,C,E⟩
def vp(te:TE)(g:TG):TS:=λD σ H=>te σ H λx H1=>g x σ H1 D.nx
theorem zY{b e:Expr}{te:TE}{g:TG}(m:PE X e te)(n:PG X b g)(hs:swapsWithSole [b] e pos.line X.env=pure false:=by rfl)(o:swappedStores [b] e X.env=pure none:=by rfl)
  (p:(assignEach [b] X.env).map (·.2)=[assign b X.env]:=by rfl):PS X (.Assign [b] e pos) (vp te g):=by
 intro a s c H D I h;refine wpAny_Assign_stores (aX (m a s c H _ I h) λv d ⟨x,f,i,j,l⟩=>?_) hs o;rw[p];exact aX (n a d c f x v _ i j l) λ_ r q=>q
theorem lL{i:Nat}{x:Str}{e:Expr}{te:TE}{a:Pos}(m:X.N.Nodup)(n:X.N[i]?=some x)(o:jr X.env.scope x)(p:PE X e te)(hs:swapsWith e (some (.Name x a)) pos.line X.env=pure false:=by rfl)(q:X.fn x=true\/X.env.scope.names.lookup x=some .local:=by first|exact .inl rfl|exact .inr rfl|assumption) :
  PS X (.Assign [.Name x a] e pos) (vp te (rW i)):=by
 intro b s l H D I h;refine wpAny_Assign_Name (aX (p b s l H _ I h) λv r ⟨y,c,d,f,g⟩=>?_) hs;exact rS d m n o f (λu j=>⟨_,c,j,g⟩) q
end
section
variable {X:Cx}{pos:Pos}
def FE(c:TT)(tb:TS):TS:=λD σ H=>∃W:Nat->St->Hp->Prop,(∃m,W m σ H)/\∀m σ H,W m σ H →
 c σ H λb H1=>if b=true then ∃N:St->Hp->Prop,(∀a H',N a H'->∃d,d<m/\W d a H')/\tb { D with nx:=N,ct:=N,bk:=D.nx } σ H1 else D.nx σ H1
theorem FF{c:Expr}{g:List Stmt}{B:TT}{C:TS}(E:PassesOwn (model X.prog X.w) X.A X.env X.xe)(Q:PT X c B)(R:bT X g C):PS X (.While c g [] pos) (FE B C):=by
 intro a s J H D I h;obtain⟨W,⟨O,P⟩,turn⟩:=h;refine wpAny_While (codeAny_whileLoop (λn F=>∃j H',aw X a j H' F/\W n j H') ?_ O ⟨J,H,I,P⟩);rintro n K ⟨e,y,L,M⟩;refine oi E (aX (Q a K e y _ L (turn n e y M)) λb G ⟨u,x,l⟩=>?_)
 cases b with
 |true =>
  obtain⟨N,z,l⟩:=l;rw[da rfl];refine oi E (aX (R a G e u _ x l) λf T m=>?_)
  cases f with
  |next =>
   obtain⟨d,i,o,p⟩:=m;have⟨q,hm,r⟩:=z d i p;exact⟨q,hm,d,i,o,r⟩
  |cont =>
   obtain⟨d,i,o,p⟩:=m;have⟨q,hm,r⟩:=z d i p;exact⟨q,hm,d,i,o,r⟩
  |brk=>exact m
  |ret v=>exact m
 |false =>
  rw[qa ma];exact wj ⟨e,u,x,l⟩
end
structure It where
 go:Nat->Hp->Prop
 yld:Nat->Hp->V->Hp->Prop
 stop:Nat->Hp->Prop
def js(X:Cx)(pins:List (Addr×Obj))(H:Hp)(b:Addr):Prop :=
 H b=none/\b≠X.env.locals/\b ∉ X.fs/\(b∈X.ex\/X.s₀.heap.objs.size<=b)/\(∀x c,X.env.cells.lookup x=some c->c≠b)/\∀p∈X.pn++pins,p.1≠b
theorem aw.fpOk{X:Cx}{a:List (Addr×Obj)}{g:St}{H H':Hp}{s:Shared}{b:Addr}(I:aw X a g H s)(d:s.heap.objs.size<=b)(hn:H' b=none):js X a H' b:=by
 refine⟨hn,gk (ub I.lt d),I.nofs d,.inr (wd I.sz d),λx c e z=>?_,λp f z=>?_⟩
 ·have⟨v,q⟩:=I.cell x c e
  exact absurd (ub q.lt (by rw[z];exact d)) (qh _)
 ·exact absurd (ub (ib (I.pin p f).1) (by rw[z];exact d)) (qh _)
structure gD(P:Program)(w:World)(K:Fg1)(tg:Expr)(J:It)(fp:List Addr)(it:Addr)(tn:Nat->Heap->Prop):Prop where
 mem:it∈fp
 obj:∀i h,tn i h->∀b∈fp,∃o,h.get? b=some o/\∀v,o.data≠.cell v
 keep:∀i h h',tn i h->(∀b∈fp,∀o,h.get? b=some o->h'.get? b=some o)->tn i h'
 item:∀(X:Cx),X.prog=P->X.w=w->X.K=K->X.calm=true->∀(i:Nat) (pins:List (Addr×Obj)) (s:Shared) (σ:St) (H:Hp) (E:Value->Shared->Prop),aw X pins σ H s->(∀b∈fp,js X pins H b)->tn i s.heap->J.go i H →
  wpAny (model P w) X.A (pyNext (.ref it)) (λ r s1=>∃ u,r=some u ∧
   wpAny (model P w) X.A (letOwnedTupleGo tg (.ref it) u) (λ_ s2=>∃x H',aw X pins σ H' s2/\bj x u/\J.yld i H x H'/\tn (i+1) s2.heap/\∀b∈fp,H' b=none) E s1) E s
 done:∀(X:Cx),X.prog=P->X.w=w->X.K=K->X.calm=true->∀(i:Nat) (pins:List (Addr×Obj)) (s:Shared) (σ:St) (H:Hp) (E:Value->Shared->Prop),aw X pins σ H s->(∀b∈fp,js X pins H b)->tn i s.heap->J.stop i H →
  wpAny (model P w) X.A (pyNext (.ref it)) (λr s1=>r=none/\aw X pins σ H s1) E s
 self:∀(A:Around) (i:Nat) (s:Shared) (Q:Value->Shared->Prop) (E:Value->Shared->Prop),tn i s.heap->Q (.ref it) s->wpAny (model P w) A (pyIter (.ref it)) Q E s
abbrev TI:=St->Hp->(It->Hp->Prop)->Prop
def zZ(X:Cx)(pins:List (Addr×Obj))(σ:St)(tg:Expr)(R:It->Hp->Prop)(a:Value)(c:Shared):Prop :=
 ∃(it:Addr) (d:List Addr) (e:Nat->Heap->Prop) (J:It) (H':Hp),a=.ref it/\aw X pins σ H' c/\gD X.prog X.w X.K tg J d it e/\e 0 c.heap/\(∀b∈d,js X pins H' b)/\R J H'
def PI(X:Cx)(tg iter:Expr)(wi:TI):Prop :=
 ∀(pins:List (Addr×Obj)) (s:Shared) (σ:St) (H:Hp) (R:It->Hp->Prop),aw X pins σ H s->wi σ H R →
  wpAny (model X.prog X.w) X.A (eval iter X.env) (λv a=>wpAny (model X.prog X.w) X.A (pyIter v) (zZ X pins σ tg R) X.xe a) X.xe s
theorem pP{M:Model}{A:Around}{E:Value->Shared->Prop}{s:Shared}{b:Expr}{it:Addr}{u:Value}{o:Obj}{n:String}{vs:Array Value}{Q:Unit->Shared->Prop}(c:s.heap.get? it=some o)(d:o.cls=.type n)(e:o.data=.fields vs)
  (hn:["enumerate","zip","dict_itemiterator","dict_reverseitemiterator","odict_iterator","itertools.zip_longest","itertools.pairwise"].contains n=false) (a:Q () s):wpAny M A (letOwnedTupleGo b (.ref it) u) Q E s:=by
 unfold letOwnedTupleGo
 cases b <;> first
  |exact ia a
  | (cases u <;> first
    |exact ia a
    | (refine wpAny_bind (wpAny_load c ?_)
       rw[d,e];show wpAny M A (if (["enumerate","zip","dict_itemiterator","dict_reverseitemiterator","odict_iterator","itertools.zip_longest","itertools.pairwise"].contains n && vs[0]? == some (rawInt _))=true then _ else _) Q E s;rw[qa (by intro h;rw[hn,Bool.false_and]at h;cases h)];exact ia a))
noncomputable def vr(K:Fg1)(a:Addr):It :=
 ⟨λi H=>∃xs x,bJ K H a xs/\xs[i]?=some x,λi H x H'=>H'=H/\∀xs,bJ K H a xs->xs[i]?=some x,λi H=>∃xs,bJ K H a xs/\xs.length<=i⟩
noncomputable def vt(K:Fg1)(a:Addr):It :=
 ⟨λi H=>∃xs x,dJ K H a xs/\xs[i]?=some x,λi H x H'=>H'=H/\∀xs,dJ K H a xs->xs[i]?=some x,λi H=>∃xs,dJ K H a xs/\xs.length<=i⟩
noncomputable def pQ(lo:Int)(n:Nat):It:=⟨λi _=>i<n,λi H x H'=>H'=H/\x=.int (lo+i),λi _=>n<=i⟩
theorem FG{P:Program}{w:World}{K:Fg1}{tg:Expr}(a it:Addr):gD P w K tg (vr K a) [it] it (λi h=>h.IsListIter it a i) where
 mem:=by simp
 obj:=λi h st b hb=>by
  have e:b=it:=by simpa using hb
  subst e;obtain⟨o,e,c,d⟩:=st;exact⟨o,e,λv z=>by rw[d]at z;cases z⟩
 keep:=λi h h' st k=>st.at λo e=>k it (by simp) o e
 item:=by
  intro X hP hw hK hc i pins s σ H E I hf st hg;subst hP hw hK;obtain⟨xs,x,hq,hx⟩:=hg;have⟨its,rv,p,hz⟩:=I.list hq;have⟨u,hu,ru⟩:=rv.get hx;obtain⟨f0,f1,f2,f3,f4,f5⟩:=hf it (by simp);refine wpAny_pyNext_list_item st p.isList (x:=u) (by simpa using hu) λh' st' sb=>?_
  have I1:aw X pins σ H { s with heap:=h' }:=I.turned (t':=s.toks) (λb o hb e=>(sb.2 b hb).trans e) f0 f1 f3 f4 f5;have⟨o,e,c,d⟩:=id st';exact⟨u,rfl,pP (s:={ s with heap:=h' }) e c d (by decide) ⟨x,H,I1,ru,⟨rfl,λys hy=>by rw[I.list_inj hy hq];exact hx⟩,st',λb hb=>(hf b hb).1⟩⟩
 done:=by
  intro X hP hw hK hc i pins s σ H E I hf st hg;subst hP hw hK;obtain⟨xs,hq,hx⟩:=hg;have⟨its,rv,p,hz⟩:=I.list hq;obtain⟨f0,f1,f2,f3,f4,f5⟩:=hf it (by simp);have hl:=rv.length;exact wpAny_pyNext_list_end (I.ok.hd hc) st p.isList (by simp;omega) λh' eb=>⟨rfl,I.turned (t':=s.toks) (λb o hb e=>eb b o hb e) f0 f1 f3 f4 f5⟩
 self:=λ_ _ _ _ _ st h=>wpAny_pyIter_listiter st h
theorem FH{P:Program}{w:World}{K:Fg1}{tg:Expr}(a it:Addr):gD P w K tg (vt K a) [it] it (λi h=>h.IsTupleIter it a i) where
 mem:=by simp
 obj:=λi h st b hb=>by
  have e:b=it:=by simpa using hb
  subst e;obtain⟨o,e,c,d⟩:=st;exact⟨o,e,λv z=>by rw[d]at z;cases z⟩
 keep:=λi h h' st k=>st.at λo e=>k it (by simp) o e
 item:=by
  intro X hP hw hK hc i pins s σ H E I hf st hg;subst hP hw hK;obtain⟨xs,x,hq,hx⟩:=hg;have⟨its,rv,p,hz⟩:=I.tuple hq;have⟨u,hu,ru⟩:=rv.get hx;obtain⟨f0,f1,f2,f3,f4,f5⟩:=hf it (by simp);refine wpAny_pyNext_tuple_item st (show s.heap.IsTuple a its.toArray from p) (x:=u) (by simpa using hu) λh' st' sb=>?_
  have I1:aw X pins σ H { s with heap:=h' }:=I.turned (t':=s.toks) (λb o hb e=>(sb.2 b hb).trans e) f0 f1 f3 f4 f5;have⟨o,e,c,d⟩:=id st';exact⟨u,rfl,pP (s:={ s with heap:=h' }) e c d (by decide) ⟨x,H,I1,ru,⟨rfl,λys hy=>by rw[I.tuple_inj hy hq];exact hx⟩,st',λb hb=>(hf b hb).1⟩⟩
 done:=by
  intro X hP hw hK hc i pins s σ H E I hf st hg;subst hP hw hK;obtain⟨xs,hq,hx⟩:=hg;have⟨its,rv,p,hz⟩:=I.tuple hq;obtain⟨f0,f1,f2,f3,f4,f5⟩:=hf it (by simp);have hl:=rv.length;exact wpAny_pyNext_tuple_end (I.ok.hd hc) st (show s.heap.IsTuple a its.toArray from p) (by simp;omega) λh' eb=>⟨rfl,I.turned (t':=s.toks) (λb o hb e=>eb b o hb e) f0 f1 f3 f4 f5⟩
 self:=λ_ _ _ _ _ st h=>wpAny_pyIter_tupleiter st h
theorem FI{P:Program}{w:World}{K:Fg1}{tg:Expr}(it:Addr)(lo:Int)(n:Nat):gD P w K tg (pQ lo n) [it] it (λi h=>IsRangeIter h it (lo+(i:Nat) * 1) ((n:Int) - (i:Nat)) 1) where
 mem:=by simp
 obj:=λi h st b hb=>by
  have e:b=it:=by simpa using hb
  subst e
  exact⟨_,st,λ v z=>by
   have z':Data.fields _=Data.cell v:=z
   cases z'⟩
 keep:=λi h h' st k=>k it (by simp) _ st
 item:=by
  intro X hP hw hK hc i pins s σ H E I hf st hg;subst hP hw hK;obtain⟨f0,f1,f2,f3,f4,f5⟩:=hf it (by simp);have W:=Walks.range (prog:=X.prog) (w:=X.w) (I.ok.hd hc) it lo 1 n;refine W.item i s _ _ hg st λv h' tk hv st' kk=>?_
  obtain⟨t,rfl⟩:=hv;have I1:aw X pins σ H { s with heap:=h',toks:=tk }:=I.turned (λb o hb e=>kk b o (by simpa using hb) e) f0 f1 f3 f4 f5;refine⟨_,rfl,pP (s:={ s with heap:=h',toks:=tk }) (n:="range_iterator") st' rfl rfl (by decide) ⟨.int (lo+i),H,I1,⟨t,?_⟩,⟨rfl,rfl⟩,st',λb hb=>(hf b hb).1⟩⟩;rw[Int.mul_one]
 done:=by
  intro X hP hw hK hc i pins s σ H E I hf st hg;subst hP hw hK;obtain⟨f0,f1,f2,f3,f4,f5⟩:=hf it (by simp);exact wpAny_pyNext_range_end (I.ok.hd hc) st (by have:n<=i:=hg;omega) λh' eb=>⟨rfl,I.turned (t':=s.toks) (λb o hb e=>eb b o hb e) f0 f1 f3 f4 f5⟩
 self:=λ_ _ _ _ _ st h=>wpAny_pyIter_rangeiter st h
section
variable {X:Cx}{tg:Expr}
theorem z5{d:List (Addr×Obj)}{g:St}{H:Hp}{s:Shared}{R:It->Hp->Prop}{E:Value->Shared->Prop}{a c:Int}{t u v:Tok}{h:Nat}(I:aw X d g H s)(j:-(2 ^ 62)<=a)(l:a<2 ^ 62)(m:-(2 ^ 62)<=c)(n:c<2 ^ 62)
  (q:R (pQ a (c - a).toNat) H):wpAny (model X.prog X.w) X.A (pyIter (.ref s.heap.objs.size)) (zZ X d g tg R) E { s with heap:=s.heap.push { cls:=.type "range",data:=.fields #[.int a t,.int c u,.int 1 v] },toks:=h }:=by
 refine wpAny_pyIter_range (IsRange.new ..) (small_one j l m n) ?_;have f:aw X d g H { s with heap:=s.heap.push { cls:=.type "range",data:=.fields #[.int a t,.int c u,.int 1 v] },toks:=h }:=I.kept λb o e=>na _ e
 refine⟨(s.heap.push { cls:=.type "range",data:=.fields #[.int a t,.int c u,.int 1 v] }).objs.size,[(s.heap.push { cls:=.type "range",data:=.fields #[.int a t,.int c u,.int 1 v] }).objs.size],_,_,H,rfl,
  f.kept (t':=h) λb o e=>na _ e,FI _ a (c - a).toNat,?_,λb i=>?_,q⟩
 ·have e1:a+((0:Nat):Int) * 1=a:=by simp
  have e2:(((c - a).toNat:Nat):Int) - ((0:Nat):Int)=Builtin.Range.rangeSize a c 1:=by rw[rangeSize_one];split <;> omega
  show IsRangeIter _ _ (a+((0:Nat):Int) * 1) ((((c - a).toNat:Nat):Int) - ((0:Nat):Int)) 1;rw[e1,e2];exact zb _ rfl
 ·have e:b=(s.heap.push { cls:=.type "range",data:=.fields #[.int a t,.int c u,.int 1 v] }).objs.size:=by simpa using i
  subst e;exact f.fpOk (bb _) (f.hok.fresh (bb _))
def FJ(wi:TI)(g:TG)(tb:TS):TS:=λD σ H=>wi σ H λJ H1=>∃W:Nat->Nat->St->Hp->Prop,(∃m,W 0 m σ H1)/\∀i m σ H,W i m σ H →
 (J.stop i H/\D.nx σ H)\/(J.go i H/\∃N:St->Hp->Prop,(∀a H',N a H'->∃c,c<m/\W (i+1) c a H')/\∀x H',J.yld i H x H'->g x σ H' λb H2=>tb { D with nx:=N,ct:=N,bk:=D.nx } b H2)
noncomputable def pR(a:List Addr)(h:Heap):List (Addr×Obj):=a.filterMap λb=>(h.get? b).map λo=>(b,o)
theorem rX{a:List Addr}{h:Heap}{b:Addr}{o:Obj}(c:b∈a)(e:h.get? b=some o):(b,o)∈pR a h:=List.mem_filterMap.mpr ⟨b,c,by rw[e];rfl⟩
theorem FK{a:List Addr}{h:Heap}{p:Addr×Obj}(f:p∈pR a h):p.1∈a/\h.get? p.1=some p.2:=by
 have⟨b,c,e⟩:=List.mem_filterMap.mp f
 cases q:h.get? b with
 |none=>rw[q]at e;cases e
 |some o =>
  rw[q]at e;have d:(b,o)=p:=lc e;subst d;exact⟨c,q⟩
theorem aw.pinned{a:List (Addr×Obj)}{h:St}{H:Hp}{s:Shared}{c:List Addr}(I:aw X a h H s)(n:∀b∈c,js X a H b)(q:∀b∈c,∃o,s.heap.get? b=some o/\∀v,o.data≠.cell v):aw X (a++pR c s.heap) h H s :=
 I.pins_of λp i=>(yc.mp i).elim (λz=>I.pin p (qc _ z)) λz=>by
  have⟨f,e⟩:=FK z;have⟨j,l,m,_⟩:=n p.1 f;have⟨o,g,d⟩:=q p.1 f;rw[e]at g;cases g;exact⟨e,j,l,m,d⟩
theorem aw.unpinned{a d:List (Addr×Obj)}{b:St}{H:Hp}{s:Shared}(I:aw X (a++d) b H s):aw X a b H s:=I.pins_of λp c=>I.pin p (qc _ (bf _ c))
theorem vu{B:Expr}{F:List Stmt}{wi:TI}{g:TG}{tb:TS}{pos:Pos}(P:PassesOwn (model X.prog X.w) X.A X.env X.xe)(hc:X.calm=true)(hi:PI X tg B wi)(hg:PG X tg g)(j:bT X F tb)
  (hs:∀x,foldedSetIterable B X.env x=pure x:=by intro _;rfl):PS X (.For tg B F [] pos) (FJ wi g tb):=by
 intro c s σ H D I h;refine wpAny_For (aX (hi c s σ H _ I h) λv s1 h1=>aX h1 λitv s2 h2=>?_) hs;obtain⟨it,M,tn,J,H2,e,I2,T,st2,f2,W,⟨m0,w0⟩,turn⟩:=h2;subst e;have y:∀{H':Hp},(∀b∈M,H' b=none)->∀b∈M,js X c H' b:=λhn b j=>⟨hn b j,(f2 b j).2⟩
 refine codeAny_forLoop_any (λn s'=>∃i C H',aw X c C H' s'/\tn i s'.heap/\(∀b∈M,H' b=none)/\W i n C H') ?_ m0 ⟨0,σ,H2,I2,st2,λb j=>(f2 b j).1,w0⟩;rintro n s3 ⟨i,q,Q,I3,gA,L,w3⟩;rcases turn i n q Q w3 with⟨O,qn⟩|⟨go,N,hN,step⟩
 ·refine oi P (aX (T.done X rfl rfl rfl hc i c s3 q Q X.xe I3 (y L) gA O) λr s4 ⟨R,I4⟩=>?_)
  subst R;exact wj ⟨q,Q,I4,qn⟩
 ·refine oi P (aX (T.item X rfl rfl rfl hc i c s3 q Q X.xe I3 (y L) gA go) λr s4 ⟨u,R,h4⟩=>?_)
  subst R;refine oi P (aX h4 λ_ s5 ⟨x,H5,I5,r5,y5,G,U⟩=>?_);have I5':=I5.pinned (y U) (T.obj _ _ G);refine oi P (aX (hg _ s5 q H5 x u _ I5' r5 (step x H5 y5)) λ_ s6 ⟨Y,H6,I6,q6⟩=>?_);refine oi P (aX (j _ s6 Y H6 _ I6 q6) λf Z E=>?_)
  have z:∀{a:St} {l:Hp},aw X (c++pR M s5.heap) a l Z->N a l->∃m,m<n/\∃i C H',aw X c C H' Z/\tn i Z.heap/\(∀b∈M,H' b=none)/\W i m C H':=λ{a l} p K=>by
   have⟨m',hm,w7⟩:=hN a l K;refine⟨m',hm,i+1,a,l,p.unpinned,T.keep _ _ _ G λb j o e=>(p.pin (b,o) (qc _ (qc _ (rX j e)))).1,λb j=>?_,w7⟩;have⟨o,e,d⟩:=T.obj _ _ G b j;exact(p.pin (b,o) (qc _ (qc _ (rX j e)))).2.1
  cases f with
  |next=>obtain⟨a,l,p,K⟩:=E;exact z p K
  |cont=>obtain⟨a,l,p,K⟩:=E;exact z p K
  |brk=>obtain⟨a,l,p,E⟩:=E;exact⟨a,l,p.unpinned,E⟩
  |ret v=>obtain⟨x7,a,l,p,r7,E⟩:=E;exact⟨x7,a,l,p.unpinned,r7,E⟩
end
abbrev R2:=V->V->Hp->VK->Prop
def bC(X:Cx)(f:Value->Value->Sem Value)(r:R2):Prop :=
 ∀(pins:List (Addr×Obj)) (s:Shared) (σ:St) (H:Hp) (x y:V) (v u:Value) (Q:VK),aw X pins σ H s->bj x v->bj y u->r x y H Q →
  wpAny (model X.prog X.w) X.A (f v u) (EP X pins σ Q) X.xe s
def ot(X:Cx)(f:Value->Sem Value)(r:V->Hp->VK->Prop):Prop :=
 ∀(pins:List (Addr×Obj)) (s:Shared) (σ:St) (H:Hp) (x:V) (v:Value) (Q:VK),aw X pins σ H s->bj x v->r x H Q →
  wpAny (model X.prog X.w) X.A (f v) (EP X pins σ Q) X.xe s
def d2(X:Cx)(f:Value)(r:List V->Hp->VK->Prop):Prop :=
 ∀(pins:List (Addr×Obj)) (s:Shared) (σ:St) (H:Hp) (xs:List V) (a:List Value) (Q:VK),aw X pins σ H s->bB xs a->r xs H Q →
  wpAny (model X.prog X.w) X.A (call f a) (EP X pins σ Q) X.xe s
def pS(r:R2)(ta tb:TE):TE:=λσ H Q=>ta σ H λx H1=>tb σ H1 λy H2=>r x y H2 Q
def FL(r:V->Hp->VK->Prop)(ta:TE):TE:=λσ H Q=>ta σ H λx H1=>r x H1 Q
def rI(C:Int->Int->Prop)(g:Int->Int->V):R2:=λx y H Q=>∃i j,x=.int i/\y=.int j/\C i j/\Q (g i j) H
def lM(g:Int->Int->V):R2:=λx y H Q=>∃i j,x=.int i/\y=.int j/\Q (g i j) H
def rU(g:Int->V):V->Hp->VK->Prop:=λx H Q=>∃i,x=.int i/\Q (g i) H
section
variable {X:Cx}{a b c:Expr}{ta tb tc:TE}{pos:Pos}
theorem rY(r:PE X a ta)(z:PE X b tb){c:List (Addr×Obj)}{s:Shared}{d:St}{H:Hp}{R:V->V->Hp->Prop}(I:aw X c d H s)
  (h:ta d H λx H1=>tb d H1 λy H2=>R x y H2) {Q:Value->Shared->Prop} {f:Value->Value->Sem Value}
  (B:∀v u i x y H2,aw X c d H2 i->bj x v->bj y u->R x y H2->wpAny (model X.prog X.w) X.A (f v u) Q X.xe i) :
  wpAny (model X.prog X.w) X.A (eval a X.env) (λv e=>wpAny (model X.prog X.w) X.A (eval b X.env) (λu g=>wpAny (model X.prog X.w) X.A (f v u) Q X.xe g) X.xe e) X.xe s:=by
 refine aX (r c s d H _ I h) λv j ⟨x,H1,l,m,n⟩=>?_
 refine aX (z c j d H1 _ l n) λu i ⟨y,H2,o,p,q⟩=>?_
 exact B v u i x y H2 o m p q
theorem FM{op:Operator}{r:R2}(l:bC X (binaryOp op) r)(m:PE X a ta)(n:PE X b tb):PE X (.BinOp a op b pos) (pS r ta tb):=by
 intro c s j H Q I h;exact wpAny_BinOp (rY m n I h λv u d x y e f g i q=>l c d j e x y v u Q f g i q)
theorem FN{op:UnaryOp}{r:V->Hp->VK->Prop}(j:ot X (unaryOp op) r)(l:PE X a ta):PE X (.UnaryOp op a pos) (FL r ta):=by
 intro b s c H Q I h;exact UnaryOp_ (aX (l b s c H _ I h) λv d ⟨x,e,f,g,i⟩=>j b d c e x v Q f g i)
theorem vv{f:Value->Value->Sem Value}{C:Int->Int->Prop}{g:Int->Int->Int}
  (a:∀(i j:Int) (t u:Tok) (s:Shared) (Q:Value->Shared->Prop) (E:Value->Shared->Prop),C i j->Q (.int (g i j) s.toks) { s with toks:=s.toks+1 }->wpAny (model X.prog X.w) X.A (f (.int i t) (.int j u)) Q E s) :
  bC X f (rI C λi j=>.int (g i j)):=by
 intro b s l H x y v u Q I c d h;obtain⟨i,j,rfl,rfl,e,q⟩:=h;obtain⟨t,rfl⟩:=c;obtain⟨t',rfl⟩:=d;exact a i j t t' s _ _ e ⟨.int (g i j),H,I.tok _,⟨_,rfl⟩,q⟩
theorem FO{f:Value->Value->Sem Value}{g:Int->Int->Int}
  (a:∀(i j:Int) (t u:Tok) (s:Shared) (Q:Value->Shared->Prop) (E:Value->Shared->Prop),Q (.int (g i j) s.toks) { s with toks:=s.toks+1 }->wpAny (model X.prog X.w) X.A (f (.int i t) (.int j u)) Q E s) :
  bC X f (lM λi j=>.int (g i j)):=by
 intro b s e H x y v u Q I c d h;obtain⟨i,j,rfl,rfl,q⟩:=h;obtain⟨t,rfl⟩:=c;obtain⟨t',rfl⟩:=d;exact a i j t t' s _ _ ⟨.int (g i j),H,I.tok _,⟨_,rfl⟩,q⟩
theorem rZ{f:Value->Value->Sem Value}{g:Int->Int->Bool}
  (a:∀(i j:Int) (t u:Tok) (s:Shared) (Q:Value->Shared->Prop) (E:Value->Shared->Prop),Q (.bool (g i j)) s->wpAny (model X.prog X.w) X.A (f (.int i t) (.int j u)) Q E s) :
  bC X f (lM λi j=>.bl (g i j)):=by
 intro b s e H x y v u Q I c d h;obtain⟨i,j,rfl,rfl,q⟩:=h;obtain⟨t,rfl⟩:=c;obtain⟨t',rfl⟩:=d;exact a i j t t' s _ _ ⟨.bl (g i j),H,I,rfl,q⟩
def vw(i j:Int):Prop:=0<j/\j<1073741824
def r0(i j:Int):Prop:=(-(2 ^ 64)<i/\i<2 ^ 64)\/(-(2 ^ 64)<j/\j<2 ^ 64)
theorem r0.ok{i j:Int}(h:r0 i j):IntMulOk i j:=by
 rcases h with⟨a,b⟩|⟨a,b⟩
 ·exact .of_left (intBits_le_64 a b)
 ·exact .of_right (intBits_le_64 a b)
theorem FP:bC X (binaryOp .Add) (lM λi j=>.int (i+j)):=FO λ_ _ _ _ _ _ _ q=>add_int q
theorem FQ:bC X (binaryOp .FloorDiv) (rI vw λi j=>.int (i / j)):=vv λi j _ _ _ _ _ a q=>by
 have b:(0:Int)<j:=a.1;have c:j<1073741824:=a.2;exact floordiv_int (by omega) (by rw[Int.fdiv_eq_ediv_of_nonneg i (by omega)];exact q) (.inl (PyProof.noPylong_small (by omega)))
theorem FR:bC X (binaryOp .Mod) (rI (λ_ j=>0<j) λi j=>.int (i % j)):=vv λi j _ _ _ _ _ a q=>by
 have b:(0:Int)<j:=a;exact mod_int' (by omega) (by rw[Int.fmod_eq_emod_of_nonneg i (by omega)];exact q)
theorem FS{f:Value->Sem Value}{g:Int->Int}
  (a:∀(i:Int) (t:Tok) (s:Shared) (Q:Value->Shared->Prop) (E:Value->Shared->Prop),Q (.int (g i) s.toks) { s with toks:=s.toks+1 }->wpAny (model X.prog X.w) X.A (f (.int i t)) Q E s) :
  ot X f (rU λi=>.int (g i)):=by
 intro b s d H x v Q I c h;obtain⟨i,rfl,q⟩:=h;obtain⟨t,rfl⟩:=c;exact a i t s _ _ ⟨.int (g i),H,I.tok _,⟨_,rfl⟩,q⟩
theorem FT:ot X (unaryOp .USub) (rU λi=>.int (-i)):=FS λ_ _ _ _ _ q=>neg_int q
end
noncomputable def z6:V->V->Bool
 |.non,.non=>true|.non,.int _=>true|.int _,.non=>true|.non,.bl _=>true|.bl _,.non=>true|.non,.str _=>true|.str _,.non=>true
 |.int _,.int _=>true|.bl _,.bl _=>true|.str _,.str _=>true|.byt _,.byt _=>true
 |.int _,.str _=>true|.str _,.int _=>true|.bl _,.str _=>true|.str _,.bl _=>true
 |_,_=>false
def FU:R2:=λx y H Q=>z6 x y=true/\Q (.bl (decide (x=y))) H
def FV:R2:=λx y H Q=>z6 x y=true/\Q (.bl (!decide (x=y))) H
theorem z7{i j:Int}:decide (V.int i=V.int j)=(i == j):=by
 rw[nk];simp
theorem z8{i j:Bool}:decide (V.bl i=V.bl j)=(i == j):=by
 rw[nk];simp
theorem z9{i j:Str}:decide (V.str i=V.str j)=(i == j):=by
 rw[nk];simp
theorem Aa{i j:Array UInt8}:decide (V.byt i=V.byt j)=(i.toList == j.toList):=by
 rw[nk];cases i;cases j;simp
section
variable {X:Cx}{a b c:Expr}{ta tb tc:TE}{pos:Pos}
theorem cT{a:List (Addr×Obj)}{b:St}{H:Hp}{s:Shared}{Q:VK}{k c:Bool}(I:aw X a b H s)(q:Q (.bl k) H)(e:k=c):EP X a b Q (.bool c) s:=by
 subst e;exact⟨.bl k,H,I,rfl,q⟩
theorem FW:bC X (compareOp .Eq) FU:=by
 intro c s d H x y v u Q I b a h;obtain⟨hs,q⟩:=h
 cases x with
 |non =>
  cases b
  cases y with
  |non=>cases a;exact PySem.EqNone.eq_none_none (cT I q (by simp))
  |bl j=>cases a;exact PySem.EqNone.eq_none_bool (cT I q (by simp))
  |int j=>obtain⟨t',rfl⟩:=a;exact PySem.EqNone.eq_none_int (cT I q (by simp))
  |str j=>obtain⟨t',rfl⟩:=a;exact PySem.EqNone.eq_none_str (cT I q (by simp))
  |_=>exact absurd (show false=true from hs) ma
 |bl i =>
  cases b
  cases y with
  |non=>cases a;exact PySem.EqNone.eq_bool_none (cT I q (by simp))
  |bl j=>cases a;exact eq_bool (cT I q z8)
  |str j=>obtain⟨t',rfl⟩:=a;exact PySem.EqMixed.eq_bool_str (cT I q (by simp))
  |_=>exact absurd (show false=true from hs) ma
 |int i =>
  obtain⟨t,rfl⟩:=b
  cases y with
  |non=>cases a;exact PySem.EqNone.eq_int_none (cT I q (by simp))
  |int j=>obtain⟨t',rfl⟩:=a;exact eq_int (cT I q z7)
  |str j=>obtain⟨t',rfl⟩:=a;exact PySem.EqMixed.eq_int_str (cT I q (by simp))
  |_=>exact absurd (show false=true from hs) ma
 |str i =>
  obtain⟨t,rfl⟩:=b
  cases y with
  |non=>cases a;exact PySem.EqNone.eq_str_none (cT I q (by simp))
  |bl j=>cases a;exact PySem.EqMixed.eq_str_bool (cT I q (by simp))
  |int j=>obtain⟨t',rfl⟩:=a;exact PySem.EqMixed.eq_str_int (cT I q (by simp))
  |str j=>obtain⟨t',rfl⟩:=a;exact eq_str (cT I q z9)
  |_=>exact absurd (show false=true from hs) ma
 |byt i =>
  obtain⟨t,rfl⟩:=b
  cases y with
  |byt j=>obtain⟨t',rfl⟩:=a;exact PySem.W.eq_bytes (cT I q Aa)
  |_=>exact absurd (show false=true from hs) ma
 |_=>cases y <;> exact absurd (show false=true from hs) ma
theorem FX:bC X (compareOp .NotEq) FV:=by
 intro c s d H x y v u Q I b a h;obtain⟨hs,q⟩:=h
 cases x with
 |non =>
  cases b
  cases y with
  |non=>cases a;exact PySem.EqNone.ne_none_none (cT I q (by simp))
  |bl j=>cases a;exact PySem.EqNone.ne_none_bool (cT I q (by simp))
  |int j=>obtain⟨t',rfl⟩:=a;exact PySem.EqNone.ne_none_int (cT I q (by simp))
  |str j=>obtain⟨t',rfl⟩:=a;exact PySem.EqNone.ne_none_str (cT I q (by simp))
  |_=>exact absurd (show false=true from hs) ma
 |bl i =>
  cases b
  cases y with
  |non=>cases a;exact PySem.EqNone.ne_bool_none (cT I q (by simp))
  |bl j=>cases a;exact ne_bool (cT I q (de not z8))
  |str j=>obtain⟨t',rfl⟩:=a;exact PySem.EqMixed.ne_bool_str (cT I q (by simp))
  |_=>exact absurd (show false=true from hs) ma
 |int i =>
  obtain⟨t,rfl⟩:=b
  cases y with
  |non=>cases a;exact PySem.EqNone.ne_int_none (cT I q (by simp))
  |int j=>obtain⟨t',rfl⟩:=a;exact ne_int (cT I q (de not z7))
  |str j=>obtain⟨t',rfl⟩:=a;exact PySem.EqMixed.ne_int_str (cT I q (by simp))
  |_=>exact absurd (show false=true from hs) ma
 |str i =>
  obtain⟨t,rfl⟩:=b
  cases y with
  |non=>cases a;exact PySem.EqNone.ne_str_none (cT I q (by simp))
  |bl j=>cases a;exact PySem.EqMixed.ne_str_bool (cT I q (by simp))
  |int j=>obtain⟨t',rfl⟩:=a;exact PySem.EqMixed.ne_str_int (cT I q (by simp))
  |str j=>obtain⟨t',rfl⟩:=a;exact ne_str (cT I q (de not z9))
  |_=>exact absurd (show false=true from hs) ma
 |byt i =>
  obtain⟨t,rfl⟩:=b
  cases y with
  |byt j=>obtain⟨t',rfl⟩:=a;exact PySem.W.ne_bytes (cT I q (de not Aa))
  |_=>exact absurd (show false=true from hs) ma
 |_=>cases y <;> exact absurd (show false=true from hs) ma
theorem FY:bC X (compareOp .Lt) (lM λi j=>.bl (decide (i<j))):=rZ λ_ _ _ _ _ _ _ q=>lt_int q
theorem FZ:bC X (compareOp .LtE) (lM λi j=>.bl (decide (i<=j))):=rZ λ_ _ _ _ _ _ _ q=>le_int q
theorem F2:bC X (compareOp .Gt) (lM λi j=>.bl (decide (j<i))):=rZ λ_ _ _ _ _ _ _ q=>gt_int q
theorem F3:bC X (compareOp .GtE) (lM λi j=>.bl (decide (j<=i))):=rZ λ_ _ _ _ _ _ _ q=>ge_int q
theorem F4:bC X (compareOp .In) (λx y H Q=>∃i j,x=.str i/\y=.str j/\Q (.bl (!(Builtin.Str.occurrences j i 0 j.length 1).isEmpty)) H):=by
 intro a s d H x y v u Q I b c h;obtain⟨i,j,rfl,rfl,q⟩:=h;obtain⟨t,rfl⟩:=b;obtain⟨t',rfl⟩:=c;exact in_str (cT I q rfl)
theorem F5:bC X (compareOp .Is) (λx y H Q=>y=.non/\Q (.bl (decide (x=.non))) H):=by
 intro a s d H x y v u Q I b c h;obtain⟨rfl,q⟩:=h;cases c;refine is_none_gen (cT I q ?_)
 cases x <;> first
  |(cases b;rfl)
  |(obtain⟨t,rfl⟩:=b;rfl)
theorem F6:bC X (compareOp .NotIn) (λx y H Q=>∃i j,x=.str i/\y=.str j/\Q (.bl (!(!(Builtin.Str.occurrences j i 0 j.length 1).isEmpty))) H):=by
 intro a s d H x y v u Q I b c h;obtain⟨i,j,rfl,rfl,q⟩:=h;obtain⟨t,rfl⟩:=b;obtain⟨t',rfl⟩:=c;exact notIn_str (cT I q rfl)
theorem bC.or{f:Value->Value->Sem Value}{r e:R2}(h:bC X f r)(h':bC X f e):bC X f (λx y H Q=>r x y H Q\/e x y H Q):=by
 intro a s b H x y v u Q I c d q;rcases q with q|q
 ·exact h a s b H x y v u Q I c d q
 ·exact h' a s b H x y v u Q I c d q
theorem cO(b:Expr){op:CmpOp}(h:op≠.In:=by decide)(a:op≠.NotIn:=by decide):behindInMarks op b=false:=by
 have e1:(op == CmpOp.In)=false:=by cases op <;> first|rfl|exact absurd rfl h
 have e2:(op == CmpOp.NotIn)=false:=by cases op <;> first|rfl|exact absurd rfl a
 cases b <;> simp[behindInMarks,e1,e2]
theorem F7{op:CmpOp}{r:R2}(l:bC X (compareOp op) r)(m:PE X a ta)(n:PE X b tb)(hm:behindInMarks op b=false):PE X (.Compare a [op] [b] pos) (pS r ta tb):=by
 intro c s j H Q I h;exact wpAny_Compare1 (rY m n I h λv u d x y e f g i q=>l c d j e x y v u Q f g i q) hm
theorem mC:(sizeLine:Nat)<2 ^ 63:=by rw[sizeLine_eq];decide
theorem F8:bC X (binaryOp .Add) (λx y H Q=>∃i j,x=.str i/\y=.str j/\i.length+j.length<=sizeLine/\Q (.str (i++j)) H):=by
 intro a s e H x y v u Q I b c h;obtain⟨i,j,rfl,rfl,hz,q⟩:=h;obtain⟨t,rfl⟩:=b;obtain⟨t',rfl⟩:=c;exact add_str (λt' d=>⟨.str (i++j),H,I.tok _,⟨_,rfl⟩,q⟩) hz
theorem g8{x:V}{a:List Value}(r:bB [x] a):∃u,a=[u]/\bj x u:=by
 cases r with
 |cons b c=>cases c;exact⟨_,rfl,b⟩
theorem ou{x y:V}{a:List Value}(r:bB [x,y] a):∃u w',a=[u,w']/\bj x u/\bj y w':=by
 cases r with
 |cons b c =>
  cases c with
  |cons d e=>cases e;exact⟨_,_,rfl,b,d⟩
theorem F9:d2 X (.type "str") (λxs H Q=>∃i,xs=[.int i]/\i.natAbs.log2<1920/\Q (.str (toString i)) H):=by
 intro a s b H xs c Q I r h;obtain⟨i,rfl,hz,q⟩:=h;obtain⟨u,rfl,t,rfl⟩:=g8 r;exact PySem.P.str_of_int hz ⟨.str _,H,I.tok _,⟨_,rfl⟩,q⟩
end
structure mD(h:Heap)(x dx C:Addr)(mA:Str->Option Value):Prop where
 obj:h.get? x=some (PySem.W.instObj C dx)
 ns:h.Ns1 dx mA
 ne:dx≠x
theorem Ga{h:Heap}{dx:Addr}{mA:Str->Option Value}(n:h.Ns1 dx mA):∃b,h.get? dx=some b/\∀name,PySem.W.lookIn name b=some (mA name):=by
 obtain⟨o,es,ep,d,f,g,_,hm⟩:=n;refine⟨o,d,λname=>?_⟩;have e:=hm name;unfold nsFind findBy at e;rw[<-Array.find?_toList]at e;unfold PySem.W.lookIn;rw[f];dsimp only;split
 ·rename_i y q
  rw[q]at e;exact de some e
 ·rename_i q
  rw[q]at e
  have a:es.toList.any (·.refKey)=false:=by
   rw[on];intro y c;have⟨z,t,et⟩:=g y (kq.mp c);simp[DictEntry.refKey,et]
  have i:¬es.toList.any (·.refKey)=true:=by rw[a];exact ma
  rw[qa i];exact de some e
theorem mD.look{h:Heap}{x dx C:Addr}{mA:Str->Option Value}(I:mD h x dx C mA):∃a,PySem.W.InstAt h x (PySem.W.instObj C dx) C (some a)/\∀name,PySem.W.lookIn name a=some (mA name) :=
 let ⟨a,b,hl⟩:=Ga I.ns
 ⟨a,⟨I.obj,rfl,rfl,b⟩,hl⟩
theorem ez.some_of{v:V}{o:Option Value}(r:ez (some v) o):∃u,o=some u/\bj v u:=by
 cases o with
 |none=>exact(show False from r).elim
 |some u=>exact⟨u,rfl,r⟩
theorem Gb{v:V}{u:Value}(r:bj v u):PySem.W.handedIn u=true:=by
 cases v with
 |non=>cases (show u=Value.none from r);rfl
 |bl b=>cases (show u=Value.bool b from r);rfl
 |int i=>have⟨t,e⟩:=(show ∃t,u=Value.int i t from r);cases e;rfl
 |str x=>have⟨t,e⟩:=(show ∃t,u=Value.str x t from r);cases e;rfl
 |byt b=>have⟨t,e⟩:=(show ∃t,u=Value.bytes b t from r);cases e;rfl
 |flt b=>have⟨t,e⟩:=(show ∃t,u=Value.float b t from r);cases e;rfl
 |ref a=>cases (show u=Value.ref a from r);rfl
 |ty n=>cases (show u=Value.type n from r);rfl
section
variable {P:Program}{w:World}{H H':Hp}{h h':Heap}{a C dx:Addr}{fs fs':List (Str×V)}
theorem Gc(b:cJ P w H h)(e:H a=some (.ins C dx fs)):∃mA,mD h a dx C mA/\(∀f,ez (fs.lookup f) (mA f))/\PySem.Within mA (fs.map (·.1))/\fs.length<=1000/\H dx=some (.own a):=by
 have⟨d,z,c,g,mA,n,r,q⟩:=(show cA P w H h a (.ins C dx fs) from b a _ e)
 exact⟨mA,⟨g,n,c⟩,r,q,z,d⟩
end
structure vx(K:Fg1)(C:Addr):Prop where
 pg:PySem.W.plainGet K C Str.empty=true
 hd:PySem.W.hasDictIn K C=true
 po:PySem.W.plainOver K C=true
 sa:PySem.W.findIn K (.ref C) "__setattr__" = some (some (.builtin "object.__setattr__"))
theorem vx.get{K:Fg1}{C:Addr}(c:vx K C)(f:Str):PySem.W.plainGet K C f=true:=c.pg
section
variable {X:Cx}{pins:List (Addr×Obj)}{σ:St}{H:Hp}{s:Shared}{a C dx:Addr}{fs:List (Str×V)}{f:Str}{v:V}{A:Around}{E:Value->Shared->Prop}
theorem Ge{prog:Program}{w:World}{env:Env}{e:Expr}{f:Str}{b:Pos}{s:Shared}{Q:Value->Shared->Prop}(c:attributeBase e f env (eval e env)=eval e env)
  (h:wpAny (model prog w) A (eval e env) (λo a=>wpAny (model prog w) A (getAttr o f true) Q E a) E s):wpAny (model prog w) A (eval (.Attribute e f b) env) Q E s :=
 Attribute_any_ h (by rw[arm_eval_Attribute,c])
end
section
variable {X:Cx}{pins:List (Addr×Obj)}{σ:St}{H:Hp}{s:Shared}{A:Around}{E:Value->Shared->Prop}{Q:Value->Shared->Prop}{c:Value}{b:Bool}
inductive dM (K:Fg1) (H:Hp):V->Value->Prop where
 |non:dM K H .non (.type "NoneType")
 |bl (x:Bool):dM K H (.bl x) (.type "bool")
 |int (i:Int):dM K H (.int i) (.type "int")
 |str (x:Str):dM K H (.str x) (.type "str")
 |flt (x:UInt64):dM K H (.flt x) (.type "float")
 |lst {a:Addr} {xs:List V} (e:H a=some (.lst xs)):dM K H (.ref a) (.type "list")
 |frz {a:Addr} {o:Obj} {xs:List V} (e:H a=some (.frz o (.lst xs))):dM K H (.ref a) (.type "list")
 |tup {a:Addr} {xs:List V} (e:H a=some (.tup xs)):dM K H (.ref a) (.type "tuple")
 |dK {a:Addr} {kvs:List (aW×V)} (e:H a=some (.dK kvs)):dM K H (.ref a) (.type "dict")
 |dT {a:Addr} {kvs:List (List aW×V)} (e:H a=some (.dT kvs)):dM K H (.ref a) (.type "dict")
 |ins {a C dx:Addr} {fs:List (Str×V)} (e:H a=some (.ins C dx fs)) (cl:vx K C) (ha:PySem.W.findIn K (.ref C) "__class__" = some (some (.builtin "object.__class__")))
   (hn:PySem.W.specialIn K (.builtin "object.__class__") "__get__" = some (some (.builtin "getset_descriptor.__get__"))) (htk:PySem.W.takesIn K (.builtin "object.__class__")=some true)
   (hm:PySem.W.mroIn K C (.type "object")=some true):dM K H (.ref a) (.ref C)
theorem Gf{x:V}{u t:Value}(I:aw X pins σ H s)(rx:bj x u)(ty:dM X.K H x t)(e:PySem.W.kitOne X.K t c=some b)(h:∀tk,Q (.bool b) { s with toks:=tk }) :
  wpAny (model X.prog X.w) A (call (.builtin "isinstance") [u,c]) Q E s:=by
 cases ty with
 |non=>cases (show u=Value.none from rx);exact PySem.W.kia_one PySem.W.kitx_none I.kIn ug e (λz=>nomatch z) h
 |bl y=>cases (show u=Value.bool y from rx);exact PySem.W.kia_one PySem.W.kitx_bool I.kIn ug e (λz=>nomatch z) h
 |int i=>have⟨t,q⟩:=(show ∃t,u=Value.int i t from rx);cases q;exact PySem.W.kia_one PySem.W.kitx_int I.kIn ug e (λz=>nomatch z) h
 |str y=>have⟨t,q⟩:=(show ∃t,u=Value.str y t from rx);cases q;exact PySem.W.kia_one PySem.W.kitx_str I.kIn ug e (λz=>nomatch z) h
 |flt y=>have⟨t,q⟩:=(show ∃t,u=Value.float y t from rx);cases q;exact PySem.W.kia_one PySem.W.kitx_float I.kIn ug e (λz=>nomatch z) h
 |@lst a xs ea =>
  cases (show u=Value.ref a from rx)
  have⟨_,_,n,_,h1⟩:=(show cA X.prog X.w H s.heap a (.lst xs) from I.hok a _ ea)
  exact PySem.W.kia_one PySem.W.kitx_list I.kIn ⟨_,h1,rfl⟩ e (λz=>nomatch z) h
 |@frz a ob xs ea =>
  cases (show u=Value.ref a from rx)
  have⟨_,_,_,n,_,h1⟩:=(show cA X.prog X.w H s.heap a (.frz ob (.lst xs)) from I.hok a _ ea)
  exact PySem.W.kia_one PySem.W.kitx_list I.kIn ⟨_,h1,rfl⟩ e (λz=>nomatch z) h
 |@tup a xs ea =>
  cases (show u=Value.ref a from rx)
  have⟨_,_,_,p⟩:=(show cA X.prog X.w H s.heap a (.tup xs) from I.hok a _ ea)
  obtain⟨o,h1,h2,_⟩:=p;exact PySem.W.kia_one PySem.W.kitx_tuple I.kIn ⟨o,h1,h2⟩ e (λz=>nomatch z) h
 |@dK a kvs ea =>
  cases (show u=Value.ref a from rx)
  have⟨_,_,vs,_,p⟩:=(show cA X.prog X.w H s.heap a (.dK kvs) from I.hok a _ ea)
  obtain⟨o,es,ep,h1,h2,_⟩:=p;exact PySem.W.kia_one PySem.W.kitx_dict I.kIn ⟨o,h1,h2.1⟩ e (λz=>nomatch z) h
 |@dT a kvs ea =>
  cases (show u=Value.ref a from rx)
  have⟨_,_,xs,_,o,es,ep,h1,h2,_⟩:=(show cA X.prog X.w H s.heap a (.dT kvs) from I.hok a _ ea)
  exact PySem.W.kia_one PySem.W.kitx_dict I.kIn ⟨o,h1,h2.1⟩ e (λz=>nomatch z) h
 |@ins a C dx fs ea cl ha hn htk hm =>
  cases (show u=Value.ref a from rx)
  have⟨mA,O,_⟩:=Gc I.hok ea;have⟨od,J,_⟩:=O.look;exact PySem.W.kia_one (PySem.W.kitx_own (cl.get _) cl.hd ha hn htk hm) I.kIn J e (λz=>nomatch z) h
end
structure aM(k:Nat)(A:Around):Prop where
 hd:A.handled=none
 dp:A.depth+3 * k+5<recursionLimit
 un:A.units+16 * k+200<cLine
theorem aM.mono{j k:Nat}{A:Around}(r:aM k A)(h:j<=k):aM j A:=⟨r.hd,by have:=r.dp;omega,by have:=r.un;omega⟩
theorem aM.deeper{k:Nat}{A:Around}(r:aM (k+1) A)(env:Env):aM k (A.deeper env) :=
 ⟨r.hd,by have:=r.dp;show A.depth+1+3 * k+5<_;omega,by have:=r.un;show A.units+3+16 * k+200<_;omega⟩
theorem aM.in1{k:Nat}{A:Around}(r:aM (k+1) A):aM k A.in1 :=
 ⟨r.hd,by have:=r.dp;show A.depth+3 * k+5<_;omega,by have:=r.un;show A.units+1+16 * k+200<_;omega⟩
theorem Gg{A:Around}{C:Addr}{a:List Value}{b:List (Str×Value)}:(A.under (.builtin "type.__call__" ⟨.ref C::a,b⟩)).depth=A.depth+1:=by
 first|rfl|simp[Around.under,Code.weight,Code.isCreation,Code.isGuard,Code.isCaller,Code.frames,Code.isFrame,guardIds]
theorem Gh{A:Around}{C:Addr}{a:List Value}{b:List (Str×Value)}:(A.under (.builtin "type.__call__" ⟨.ref C::a,b⟩)).units=A.units+1:=by
 first|rfl|simp[Around.under,Code.cUnits,Code.frames,Code.isFrame]
theorem aM.make{k:Nat}{A:Around}(r:aM (k+1) A)(C:Addr)(a:List Value)(b:List (Str×Value)):aM k (A.under (.builtin "type.__call__" ⟨.ref C::a,b⟩)) :=
 ⟨r.hd,by have:=r.dp;rw[Gg];omega,by have:=r.un;rw[Gh];omega⟩
theorem aM.depth{k:Nat}{A:Around}(r:aM k A):A.depth<recursionLimit:=by have:=r.dp;omega
theorem aM.units{k:Nat}{A:Around}(r:aM k A):A.units+64<cLine:=by have:=r.un;omega
def Ab:TA:=λ_ H Q=>Q [] H
def Ac(ta:TE)(a:TA):TA:=λσ H Q=>ta σ H λx H1=>a σ H1 λxs H2=>Q (x::xs) H2
section
variable {X:Cx}{e:Expr}{es:List Expr}{te:TE}{t:TA}{pos:Pos}
theorem jt:PA X [] Ab:=λ_ _ _ _ H Q I h=>ll ⟨[],H,I,.nil,h⟩
theorem g9(p:PE X e te)(q:PA X es t)(hs:starEach (e::es) X.env=(false,eval e X.env)::starEach es X.env:=by rfl):PA X (e::es) (Ac te t):=by
 intro b a s c H Q I h;rw[hs];show wpAny _ _ (spliced ((false,eval e X.env)::backTo b (starEach es X.env))) _ _ s;refine ai (aX (p a s c H _ I h) λu d ⟨x,f,g,i,j⟩=>?_);exact aX (q b a d c f _ g j) λr v ⟨xs,l,m,n,o⟩=>⟨x::xs,l,m,.cons i n,o⟩
def Gi(t:TA):TE:=λσ H Q=>t σ H λxs H1=>xs.length<=sizeLine/\∀p,H1 p=none->Q (.ref p) (aG H1 p (.tup xs))
def Gj(t:TA):TE:=λσ H Q=>t σ H λxs H1=>xs.length<=sizeLine/\∀p,H1 p=none->Q (.ref p) (aG H1 p (.lst xs))
theorem Gk{x1}(h:PA X es t):PE X (.Tuple es x1 pos) (Gi t):=by
 intro a s i H Q I j;refine wpAny_Tuple_spliced (aX (h pos a s i H _ I j) λg c ⟨xs,d,f,r,z,q⟩=>⟨by rw[<-r.length];exact z,?_⟩);have l:d c.heap.objs.size=none:=f.hok.fresh (bb _);refine⟨.ref c.heap.objs.size,aG d c.heap.objs.size (.tup xs),f.laid (t':=c.toks) (λb u e=>na _ e) (bb _) ?_,rfl,q _ l⟩;exact⟨z,g,r,⟨_,zb _ rfl,rfl,_,rfl⟩⟩
theorem r4(h:PA X es t):PE X (.List es pos) (Gj t):=by
 intro a s i H Q I j;refine wpAny_List_spliced (aX (h pos a s i H _ I j) λg c ⟨xs,d,f,r,z,q⟩=>⟨by rw[<-r.length];exact z,?_⟩);have l:d c.heap.objs.size=none:=f.hok.fresh (bb _);refine⟨.ref c.heap.objs.size,aG d c.heap.objs.size (.lst xs),f.laid (t':=c.toks) (λb u e=>na _ e) (bb _) ?_,rfl,q _ l⟩;exact⟨z,g,0,r,zb _ rfl⟩
end
abbrev Sp:=List V->Hp->VK->XK->Prop
abbrev iN:=List Env->Hp->Shared->XK->Value->Shared->Prop
structure eE(P:Program)(w:World)(K:Fg1)(mg:Str->Option Value)(base:Heap)(A:Around)(outer:List Env)(s:Shared)(H:Hp):Prop where
 frames:A.frames=some outer
 mod:Mod K mg base
 bs:∀b o,base.get? b=some o->s.heap.get? b=some o/\H b=none
 bsz:base.objs.size<=s.heap.objs.size
 funs:s.heap.FunFrames base outer
 frf:∀b∈d7 outer,H b=none
 hok:cJ P w H s.heap
 bare:AllBare s.gens
def CE(outer:List Env)(P:Program)(w:World)(H:Hp)(s:Shared)(Q:VK)(u:Value)(s':Shared):Prop :=
 ∃v H',s'.os=s.os/\AllBare s'.gens/\Un (d7 outer) [] H H' s.heap s'.heap/\cJ P w H' s'.heap/\bj v u/\Q v H'
def CR(CX:iN)(outer:List Env)(P:Program)(w:World)(H:Hp)(s:Shared)(Q:VK)(E:XK)(r:Result)(s':Shared):Prop :=
 match r with
 |.ok (.ret u)=>CE outer P w H s Q u s'
 |.ok _=>False
 |.error e=>CX outer H s E e s'
structure ax(P:Program)(w:World)(K:Fg1)(mg:Str->Option Value)(base:Heap)(CX:iN)(k:Nat)(f:Addr)(fd:FuncData)(ps:List Str)(sp:Sp):Prop where
 len:∀vs H Q E,sp vs H Q E->vs.length=ps.length
 run:∀(A:Around) (outer:List Env) (s:Shared) (H:Hp) (args:Args) (us:List Value) (vs:List V) (Q:VK) (E:XK),aM k A->eE P w K mg base A outer s H->BindsTo s fd args (ps.zip us)->bB vs us->sp vs H Q E →
  codeAny (model P w) A (.call (.ref f) args) (CR CX outer P w H s Q E) s
theorem eE.make{P:Program}{w:World}{K:Fg1}{b:Str->Option Value}{base:Heap}{A:Around}{a:List Env}{s:Shared}{H:Hp}(e:eE P w K b base A a s H)(C:Addr)(c:List Value)(d:List (Str×Value)) :
  eE P w K b base (A.under (.builtin "type.__call__" ⟨.ref C::c,d⟩)) a s H:=⟨by first|exact e.frames|(simpa [Around.under,Code.envs,Code.isFrame,pushEnvs] using e.frames),e.mod,e.bs,e.bsz,e.funs,e.frf,e.hok,e.bare⟩
theorem eE.in1{P:Program}{w:World}{K:Fg1}{b:Str->Option Value}{base:Heap}{A:Around}{a:List Env}{s:Shared}{H:Hp}(e:eE P w K b base A a s H) :
  eE P w K b base A.in1 a s H:=⟨e.frames,e.mod,e.bs,e.bsz,e.funs,e.frf,e.hok,e.bare⟩
section
variable {X:Cx}{pins:List (Addr×Obj)}{σ:St}{H:Hp}{s s':Shared}
theorem aw.env0(I:aw X pins σ H s):eE X.prog X.w X.K X.mg X.base X.A X.stack s H :=
 ⟨I.ok.frames,I.ok.mod,I.bs,wd I.ok.bsz I.sz,I.stack,I.stkFree,I.hok,I.bare⟩
theorem aw.after{Q:VK}{u:Value}(I:aw X pins σ H s)(h:CE X.stack X.prog X.w H s Q u s'):EP X pins σ Q u s':=by
 obtain⟨v,H',os,a,un,c,r,q⟩:=h;obtain⟨f,g,d,t,e⟩:=s';obtain rfl:e=s.os:=os;exact⟨v,H',I.call (h':=f) (g':=g) (d':=d) (t':=t) (ch:=[]) un c a (λb z=>absurd z (by simp)),r,q⟩
end
def Gm(sp:Sp)(dvs:List V)(E:XK)(t:TA):TE:=λσ H Q=>t σ H λvs H1=>sp (vs++dvs) H1 Q E
def c9(K:Fg1)(fd:FuncData)(ps:List Str)(ds:List Value):Prop :=
 ∀(s:Shared) (a:List Value),K.In s.heap->(a++ds).length=ps.length->BindsTo s fd ⟨a,[]⟩ (ps.zip (a++ds))
theorem c9.all{K:Fg1}{b:FuncData}{ps:List Str}(h:∀a:List Value,a.length=ps.length->bindArgs b ⟨a,[]⟩=pure (ps.zip a)):c9 K b ps []:=λs a _ hl=>by
 rw[pc]at hl ⊢;exact .of_eq (h a hl)
def ox(CX:iN)(X:Cx)(E:XK):Prop:=∀(pins:List (Addr×Obj)) (σ:St) (H:Hp) (s:Shared) (e:Value) (s':Shared),aw X pins σ H s->CX X.stack H s E e s'->X.xe e s'
section
variable {X:Cx}{CX:iN}{k:Nat}{f C:Addr}{fd:FuncData}{ps:List Str}{sp:Sp}{dvs:List V}{ds:List Value}{E:XK}{x m:Str}{p pos apos:Pos}{e o:Expr}{es:List Expr}{ta:TE}{t:TA}
theorem Gn{a:List (Addr×Obj)}{d:St}{H:Hp}{s:Shared}{Q:VK}{b:List Value}{vs:List V}(F:ax X.prog X.w X.K X.mg X.base CX k f fd ps sp)(j:aM k X.A)(l:c9 X.K fd ps ds)(m:bB dvs ds)(n:ox CX X E)
  (I:aw X a d H s) (r:bB vs b) (h:sp (vs++dvs) H Q E):wpAny (model X.prog X.w) X.A (call (.ref f) b) (EP X a d Q) X.xe s:=by
 have g:bB (vs++dvs) (b++ds):=r.append m;have hl:(b++ds).length=ps.length:=by rw[<-g.length];exact F.len _ _ _ _ h
 refine wk (ik (F.run X.A X.stack s H ⟨b,[]⟩ (b++ds) (vs++dvs) Q E j I.env0 (l s b I.kIn hl) g h) λr i c=>?_)
 cases r with
 |error e=>exact n a d H s e i I c
 |ok o =>
  cases o with
  |ret u=>exact I.after c
  |next=>exact False.elim c
  |brk=>exact False.elim c
  |cont=>exact False.elim c
theorem vy(F:ax X.prog X.w X.K X.mg X.base CX k f fd ps sp)(i:aM k X.A)(j:Gl X x)(hm:X.mg x=some (.ref f))(l:PySem.W.keepIn X.K (.ref f)=true)(m:c9 X.K fd ps ds)(n:bB dvs ds)(o:ox CX X E)
  (u:PA X (e::es) t) (b:(x == ("__debug__" : Str))=false:=by decide) (v:starEach (e::es) X.env=(false,eval e X.env)::starEach es X.env:=by rfl) (c:(backTo pos (starEach es X.env)).any (·.1)=false:=by rfl) :
  PE X (.Call (.Name x p) (e::es) [] pos) (Gm sp dvs E t):=by
 intro a s g H Q I h;refine ef (mB I j hm ?_ b);refine PySem.W.callWith_K (h₀:=X.base) I.ok.mod.kin l (aX (u pos a s g H _ I h) λy z ⟨vs,B,d,r,q⟩=>⟨d.kIn,?_⟩) v c;exact Gn F i m n o d r q
end
def PK(X:Cx)(kws:List Keyword)(t:TA):Prop :=
 ∀(pos:Pos) (pins:List (Addr×Obj)) (s:Shared) (σ:St) (H:Hp) (Q:List V->Hp->Prop),aw X pins σ H s->t σ H Q->wpAny (model X.prog X.w) X.A (evalAll ((backToKw pos (keywordEach kws X.env)).map (·.2))) (AP X pins σ Q) X.xe s
section
variable {X:Cx}{CX:iN}{k:Nat}{f C:Addr}{fd:FuncData}{ps ks:List Str}{sp:Sp}{E:XK}{x m:Str}{p pos apos kpos:Pos}{e o:Expr}{es:List Expr}{kws:List Keyword}{te ta:TE}{t tk:TA}{nm:Option Str}
theorem vz:PK X [] Ab:=λ_ _ _ _ H Q I h=>wpAny_evalAll_nil ⟨[],H,I,.nil,h⟩
theorem vA(p:PE X e te)(q:PK X kws t):PK X (⟨nm,e,kpos⟩::kws) (Ac te t):=by
 intro b a s c H Q I h;show wpAny _ _ (evalAll ((do let v ← eval e X.env;standAt b;pure v)::(backToKw b (keywordEach kws X.env)).map (·.2))) _ _ s;refine wpAny_evalAll_cons (aa (aX (p a s c H _ I h) λu d ⟨x,f,g,i,j⟩=>aa (yj (ia ?_))));exact aX (q b a d c f _ g j) λr w ⟨xs,l,m,n,o⟩=>⟨x::xs,l,m,.cons i n,o⟩
variable {g:List Value->List Value->List Value}{gV:List V->List V->List V}
end
structure ay(N P:List Str)(sc:Scope):Prop where
 kind:sc.kind=.function
 co:sc.isCoroutine=false
 gen:sc.isGenerator=false
 nd:N.Nodup
 pre:N.take P.length=P
 par:∀x∈P,sc.names.lookup x=some .local\/sc.names.lookup x=some .cell
 nofree:∀y∈sc.names,y.2≠.free
theorem Ad{a:Str->Option NameKind}{x:Str}:∀{binds:List (Str×Value)}{m:Str->Option Value},(∀v,(x,v) ∉ binds)->bindL a binds m x=m x
 |[],_,_=>rfl
 |(n,v)::r,m,h=>by
  unfold bindL;rw[Ad λw b=>h w (la _ b)];split
  ·have:x≠n:=by rintro rfl;exact h v va
   simp[this]
  ·rfl
theorem Ae{a:Str->Option NameKind}{x:Str}:∀{binds:List (Str×Value)}{m:Str->Option Value},(∀v,(x,v) ∉ binds)->bindC a binds m x=m x
 |[],_,_=>rfl
 |(n,v)::r,m,h=>by
  unfold bindC;rw[Ae λw b=>h w (la _ b)];split
  ·rfl
  ·have:x≠n:=by rintro rfl;exact h v va
   simp[this]
theorem Af{a:Str->Option NameKind}{x:Str}{v:Value}:∀{P:List Str}{vs:List Value}{i:Nat}{m:Str->Option Value},P.Nodup->P[i]?=some x->vs[i]?=some v->a x=some .local →
  bindL a (P.zip vs) m x=some v
 |[],_,_,_,_,h,_,_=>by simp at h
 |_::_,[],_,_,_,_,h,_=>by simp at h
 |p::P,w::vs,0,m,d,b,c,e=>by
  simp at b c;subst b;subst c;show bindL a ((p,w)::P.zip vs) m p=_;unfold bindL;rw[Ad λv f=>(uf.mp d).1 (aq f).1,da e];simp
 |p::P,w::vs,i+1,m,d,b,c,e=>by
  show bindL a ((p,w)::P.zip vs) m x=_;unfold bindL;exact Af (i:=i) (uf.mp d).2 (by simpa using b) (by simpa using c) e
theorem Ag{a:Str->Option NameKind}{x:Str}{v:Value}:∀{P:List Str}{vs:List Value}{i:Nat}{m:Str->Option Value},P.Nodup->P[i]?=some x->vs[i]?=some v->a x≠some .local →
  bindC a (P.zip vs) m x=some v
 |[],_,_,_,_,h,_,_=>by simp at h
 |_::_,[],_,_,_,_,h,_=>by simp at h
 |p::P,w::vs,0,m,d,b,c,e=>by
  simp at b c;subst b;subst c;show bindC a ((p,w)::P.zip vs) m p=_;unfold bindC;rw[Ae λv f=>(uf.mp d).1 (aq f).1,qa e];simp
 |p::P,w::vs,i+1,m,d,b,c,e=>by
  show bindC a ((p,w)::P.zip vs) m x=_;unfold bindC;exact Ag (i:=i) (uf.mp d).2 (by simpa using b) (by simpa using c) e
def ju(N:List Str)(vs:List V):St:=vs.map some++List.replicate (N.length - vs.length) none
def cP(CX:iN)(P:Program)(w:World)(K:Fg1)(mg:Str->Option Value)(base:Heap)(N:List Str)(qual:Str)(scope:Scope)(f:Addr)(cd:Value)(A:Around)(outer:List Env)(s:Shared)(H:Hp)(E:XK):Cx where
 prog:=P
 w:=w
 K:=K
 mg:=mg
 base:=base
 A:=A.deeper (envOfC qual scope s.heap.objs.size f cd)
 N:=N
 s₀:=s
 H₀:=H
 env:=envOfC qual scope s.heap.objs.size f cd
 outer:=outer
 stack:=envOfC qual scope s.heap.objs.size f cd::outer
 ex:=[]
 calm:=true
 fn:=λ_=>true
 pn:=[]
 xe:=λe s'=>wpAny (model P w) (A.deeper (envOfC qual scope s.heap.objs.size f cd)) (leaving (envOfC qual scope s.heap.objs.size f cd) e) (λ_ s''=>CX outer H s E e s'') (λe' s''=>CX outer H s E e' s'') s'
theorem Ah{sc:Scope}{n:Nat}{x:Str}(h:sc.names.lookup x=some .cell):∃c,(cellsFrom n sc.names []).lookup x=some c:=by
 have q:=PySem.W.cellsFrom_some sc.names n [] (.inl h);exact Option.isSome_iff_exists.mp q
theorem Go{CX:iN}{P:Program}{w:World}{K:Fg1}{J:Str->Option Value}{base:Heap}{N ps:List Str}{j:Str}{d:Scope}{f:Addr}{I:Value}{A:Around}{g:List Env}{s s1:Shared}{H:Hp}{E:XK}{L:List Value}{vs:List V}
  (S:ay N ps d) (U:A.handled=none) (m:eE P w K J base A g s H) (hl:vs.length=ps.length) (r:bB vs L)
  (x:InCallC s s.heap.objs.size (bindL (envOfC j d s.heap.objs.size f I).kindOf (ps.zip L) λ_=>none) (cellsFrom (s.heap.objs.size+1) d.names []) (bindC (envOfC j d s.heap.objs.size f I).kindOf (ps.zip L) λ_=>none) s1) :
  aw (cP CX P w K J base N j d f I A g s H E) [] (ju N vs) H s1:=by
 have R:ps.length<=N.length:=by have:=de List.length S.pre;rw[ae]at this;omega
 obtain⟨F,Y,rfl,M⟩:=x.done;have o:∀b:Addr,b ∉ (cP CX P w K J base N j d f I A g s H E).ex:=λb z=>absurd (show b∈([]:List Addr) from z) (by simp)
 refine⟨⟨m.mod,S.kind,rfl,rfl,Nat.le_refl _,λ y z c F l=>?_,λ y hy=>?_,λ y c _ h=>?_,λ _=>U,Around.frames_deeper m.frames,.inr ⟨rfl,rfl⟩,λ b z=>absurd z (o b),m.bs,m.bsz,λ b _ _=>o b,λ b z=>absurd z (o b),m.funs,m.frf⟩,
  rfl,m.bare,Un.kept M,⟨_,x.toInCall.ns,λi y v F l X=>?_⟩,λy c h=>⟨_,x.cell y c h⟩,m.hok.fresh (bb _),λy c h=>?_,λp B=>absurd (show p∈([]:List (Addr×Obj)) from B) (by simp),m.hok.kept M,?_⟩
 ·exact name_of_addr x.apart (PySem.mem_of_lookup F) (PySem.mem_of_lookup l)
 ·have hy:d.names.lookup y=some .cell\/d.names.lookup y=some .free:=hy
  rcases hy with hy|hy
  ·exact Ah hy
  ·exact absurd rfl (S.nofree _ (PySem.mem_of_lookup hy))
 ·exact nu (x.above y c (PySem.mem_of_lookup h))
 ·have G:i<vs.length:=by
   unfold ju at l;by_cases G:i<vs.length
   ·exact G
   ·rw[sf (by simpa using G)]at l
    rw[cg]at l
    split at l <;> cases l
  have T:vs[i]?=some v:=by
   unfold ju at l;rw[cf (by simpa using G),ed]at l
   cases e:vs[i]? with
   |none=>rw[e]at l;cases l
   |some a=>rw[e]at l;cases l;rfl
  have⟨u,O,Q⟩:=r.get T
  have B:ps[i]?=some y:=by
   rw[<-S.pre,List.getElem?_take_of_lt (by omega)];exact F
  have C:ps.Nodup:=by rw[<-S.pre];exact S.nd.sublist (List.take_sublist _ _)
  refine⟨u,Q,?_⟩;rcases S.par y (je B) with k|k
  ·exact .inl ⟨k,Af C B O k⟩
  ·have⟨c,e⟩:=Ah (n:=s.heap.objs.size+1) k
   refine .inr ⟨.inl k,c,e,?_⟩;have q:=x.cell y c e;rw[Ag C B O (by show d.names.lookup y≠_;rw[k];decide)]at q;exact q
 ·exact m.hok.fresh (nu (x.above y c (PySem.mem_of_lookup h)))
 ·unfold ju
  show _=N.length;rw[wa,ba,zj];omega
theorem Ai{CX:iN}{P:Program}{w:World}{K:Fg1}{F:Str->Option Value}{base:Heap}{k:Nat}{f:Addr}{name d:Str}{h:Arguments}{i:List Stmt}{a:Scope}{Y kV C Z g ct oc:Value}{an od:Option Addr}
  {R:Array (Option Value)} {N ps:List Str} {sp:Sp} (lk:K.lookup f=some ⟨oc,od,.func (PySem.W.fnOf name d h i a Y kV C Z an g ct),R⟩) (T:PySem.W.codeIn K g d=true) (S:ay N ps a)
  (len:∀vs H Q E,sp vs H Q E->vs.length=ps.length)
  (m:∀ (A:Around) (c:List Env) (s:Shared) (H:Hp) (vs:List V) (Q:VK) (E:XK),aM k (A.deeper (envOfC d a s.heap.objs.size f g))->sp vs H Q E →
   ∃t,bT (cP CX P w K F base N d a f g A c s H E) i t/\t { nx:=λ_ H'=>Q .non H',rt:=Q } (ju N vs) H) :
  ax P w K F base CX (k+1) f (PySem.W.fnOf name d h i a Y kV C Z an g ct) ps sp:=by
 refine⟨len,λA c s H U us vs Q E G p hb r z=>?_⟩;have hl:=len _ _ _ _ z;have X:K.In s.heap:=p.mod.kin.keeps λb o e=>(p.bs b o e).1
 have O:s.heap.NoLimit:=p.mod.nolimit.keeps λb o e=>(p.bs b o e).1
 have l:∀y∈ps.zip us,a.names.lookup y.1=some .local\/(a.names.lookup y.1=some .cell/\((cellsFrom (s.heap.objs.size+1) a.names []).lookup y.1).isSome=true):=λ⟨n,v⟩ hy=>by
  rcases S.par n (aq hy).1 with q|q
  ·exact .inl q
  ·exact .inr ⟨q,PySem.W.cellsFrom_some _ _ _ (.inl q)⟩
 refine codeAny_call_function G.depth (X _ _ lk) rfl S.co S.gen rfl (PySem.W.codeRec_of X T) (hb _ _ _ _ ?_)
 refine wpAny_newFunctionEnv_cells S.kind l λenv he s1 x=>?_
 subst he;refine⟨O.keeps x.toInCall.keep,codeAny_func ?_⟩;have⟨t,ht,hq⟩:=m A c s H vs Q E (G.deeper _) z;have I:aw (cP CX P w K F base N d a f g A c s H E) [] (ju N vs) H s1:=Go S G.hd p hl r x;refine re (ht [] s1 (ju N vs) H _ I hq) (λfl L hs=>?_) λe L hs=>hs
 have B:∀{j:St} {H':Hp} {v:V} {u:Value},aw (cP CX P w K F base N d a f g A c s H E) [] j H' L->bj v u->Q v H'->CE c P w H s Q u L :=
  λ{j H' v u} J M q=>⟨v,H',J.os,J.bare,J.base,J.hok,M,q⟩
 cases fl with
 |ret u =>
  obtain⟨v,j,H',J,M,q⟩:=hs;exact B J M q
 |next =>
  obtain⟨j,H',J,q⟩:=hs;exact B (v:=V.non) (u:=Value.none) J rfl q
 |brk =>
  obtain⟨_,_,_,q⟩:=hs;exact False.elim q
 |cont =>
  obtain⟨_,_,_,q⟩:=hs;exact False.elim q
section
variable {X:Cx}{x:Str}{p pos:Pos}{e:Expr}{es:List Expr}{t:TA}{id T:String}{r:List V->Hp->VK->Prop}
def sk(r:List V->Hp->VK->Prop)(t:TA):TE:=λσ H Q=>t σ H λvs H1=>r vs H1 Q
theorem ss (n:d2 X (.builtin id) r) (o:Gl X x) (hm:X.mg x=none) (q:bootBuiltins x=some (.builtin id)) (u:PA X (e::es) t) (hn:x ≠ "__name__":=by decide) (b:(x == ("__debug__" : Str))=false:=by decide)
  (v:starEach (e::es) X.env=(false,eval e X.env)::starEach es X.env:=by rfl) (c:(backTo pos (starEach es X.env)).any (·.1)=false:=by rfl):PE X (.Call (.Name x p) (e::es) [] pos) (sk r t):=by
 intro a s d H Q I h;refine ef (kw I o hm q ?_ hn b);exact zl (aX (u pos a s d H _ I h) λf g ⟨vs,i,j,l,m⟩=>n a g d i vs f Q j l m) v c
theorem Aj (n:d2 X (.type T) r) (o:Gl X x) (hm:X.mg x=none) (q:bootBuiltins x=some (.type T)) (u:PA X (e::es) t) (hn:x ≠ "__name__":=by decide) (b:(x == ("__debug__" : Str))=false:=by decide)
  (v:starEach (e::es) X.env=(false,eval e X.env)::starEach es X.env:=by rfl) (c:(backTo pos (starEach es X.env)).any (·.1)=false:=by rfl):PE X (.Call (.Name x p) (e::es) [] pos) (sk r t):=by
 intro a s d H Q I h;refine ef (kw I o hm q ?_ hn b);exact kg (aX (u pos a s d H _ I h) λf g ⟨vs,i,j,l,m⟩=>n a g d i vs f Q j l m) v c
end
end L2
namespace HT
open PySem PyProof.Rows
section
open PySem.SeqAt
open PySem.AutoSeq1 (wpAny_loadPart')
open PySem.MeetsSeq PySem.MeetsSeq2 PySem.MeetsSeq3
end
section
variable {prog:Program}{w:World}{A:Around}{E:Value->Shared->Prop}{s:Shared}
noncomputable def sIx(n d:Nat):Option Int->Nat
 |none=>d
 |some v=>if v<0 then (v+(n:Int)).toNat else min v.toNat n
theorem sIx_none(n d:Nat):sIx n d none=d:=rfl
theorem sIx_nat(n d k:Nat):sIx n d (some (k:Int))=min k n:=by
 show (if (k:Int)<0 then ((k:Int)+(n:Int)).toNat else min (k:Int).toNat n)=min k n;rw[qa (by omega),lg]
theorem Gp(n d:Nat)(b:d<=n)(o:Option Int):sIx n d o<=n:=by
 cases o with
 |none=>exact b
 |some v =>
  show (if v<0 then (v+(n:Int)).toNat else min v.toNat n)<=n;by_cases a:v<0
  ·rw[da a];omega
  ·rw[qa a];exact uo _ _
theorem Ak(v:Int)(n d:Nat):(if v<0 then max (v+(n:Int)) 0 else min v (n:Int))=((sIx n d (some v):Nat):Int):=by
 show (if v<0 then max (v+(n:Int)) 0 else min v (n:Int))=(((if v<0 then (v+(n:Int)).toNat else min v.toNat n):Nat):Int);by_cases a:v<0
 ·simp only[da a];omega
 ·simp only[qa a];omega
theorem Gq(a b:Option Int)(n:Nat):Builtin.Slice.sliceAdjust a b 1 (n:Int)=(((sIx n 0 a:Nat):Int),((sIx n n b:Nat):Int)):=by
 have c:¬((1:Int)<0):=by omega
 unfold Builtin.Slice.sliceAdjust;simp only[c,xi];refine wq ?_ ?_
 ·cases a with
  |none=>rfl
  |some v=>exact Ak v n 0
 ·cases b with
  |none=>rfl
  |some v=>exact Ak v n n
theorem Gr(i j:Nat):Builtin.Slice.slicePlaces (i:Int) (j:Int) 1=j - i:=by
 unfold Builtin.Slice.slicePlaces;have a:(1:Int) > 0:=by omega
 simp only[a,wm,Int.ediv_one]
 split <;> omega
theorem Al{v:Value}{o:Option Int}{Q:Option Int->Shared->Prop}(p:IsPart v o)(h:Q o s):wpAny (model prog w) A (Builtin.Slice.slicePartIndex v) Q E s:=by
 cases p with
 |none=>exact slicePart_none h
 |int i t=>exact slicePart_int h
theorem Am{sl:Addr}{e f:Value}{a d:Option Int}{n:Nat}{Q:Int×Int×Nat->Shared->Prop}(hs:s.heap.IsSliceOf sl e f .none)(i:IsPart e a)(j:IsPart f d)
  (h:Q (((sIx n 0 a:Nat):Int),1,sIx n n d - sIx n 0 a) s):wpAny (model prog w) A (Builtin.Slice.sliceApplied (.ref sl) (pure (n:Int))) Q E s:=by
 have⟨os,b,g,c⟩:=id hs;unfold Builtin.Slice.sliceApplied Builtin.Slice.sliceFields;refine aa (aa (jg b c (x:=e) rfl (aa (jg b c (x:=f) rfl (aa (jg b c (x:=.none) rfl (ia ?_)))))));refine aa (slicePart_none ?_);show wpAny _ _ (if ((1:Int) == 0)=true then _ else _) _ _ s;rw[qa (by decide)];refine aa (Al i (aa (Al j (aa (ia ?_)))));show wpAny _ _ (match Builtin.Slice.sliceAdjust a d 1 (n:Int) with|(a,d)=>pure (a,(1:Int),Builtin.Slice.slicePlaces a d 1)) _ _ s;rw[Gq a d n];show wpAny _ _ (pure (((sIx n 0 a:Nat):Int),(1:Int),Builtin.Slice.slicePlaces ((sIx n 0 a:Nat):Int) ((sIx n n d:Nat):Int) 1)) _ _ s;rw[Gr];exact ia h
theorem Gs(xs:Array Value)(i k:Nat):((List.range k).filterMap λ(m:Nat)=>xs[((i:Int)+(m:Int) * 1).toNat]?).toArray=((xs.toList.drop i).take k).toArray:=by
 have e:(λ(m:Nat)=>xs[((i:Int)+(m:Int) * 1).toNat]?)=λm=>xs[i+m]?:=by
  funext m
  have:((i:Int)+(m:Int) * 1).toNat=i+m:=by omega
  rw[this]
 rw[e]
 have:=pick_run xs i k
 rw[List.filterMap_map]at this;have e2:((λx=>xs[x]?) ∘ λx=>i+x)=λm=>xs[i+m]?:=rfl
 rw[e2]at this;rw[this]
theorem getItem_tuple_cut{t sl:Addr}{items:Array Value}{j l:Value}{b c:Option Int}{Q:Value->Shared->Prop}(d:IsTup s.heap t items)(hs:s.heap.IsSliceOf sl j l .none)(o:IsPart j b)(p:IsPart l c)
  (r:¬(sIx items.size 0 b=0/\sIx items.size items.size c=items.size))
  (h:Q (.ref s.heap.objs.size) { s with heap:=s.heap.push { cls:=.type "tuple",data:=.seq ((items.toList.drop (sIx items.size 0 b)).take (sIx items.size items.size c - sIx items.size 0 b)).toArray } })
  (hsz:items.size<=sizeLine):wpAny (model prog w) A (getItem (.ref t) (.ref sl)) Q E s:=by
 have a:sizeOk (.seq ((items.toList.drop (sIx items.size 0 b)).take (sIx items.size items.size c - sIx items.size 0 b)).toArray):=by
  show ((items.toList.drop (sIx items.size 0 b)).take (sIx items.size items.size c - sIx items.size 0 b)).toArray.size<=sizeLine;rw[oa,ae,kj,pf];omega
 have u:sIx items.size items.size c<=items.size:=Gp _ _ (bb _) c;have⟨os,e,f,n⟩:=id hs;have g:s.TypeIs (.ref sl) "slice":=⟨os,e,f⟩
 unfold getItem
 try with_reducible refine qe ?_
 first|refine aa (ia ?_)|skip
 refine aa (wpAny_sequenceKey d.typeIs (by decide) ?_)
 refine wpAny_bind (wpAny_callSpecial?_slot (name:=Str.ofString "__getitem__") d.typeIs PyProof.Rows.slot_tuple_getitem
  (lj we d.typeIs entry_tuple_getitem ?_ (args_tuple_getitem _ _)))
 show wpAny _ _ (Builtin.Tuple.tupleItemsOf (.ref t) >>= _) _ _ s;refine aa (tupleItemsOf_ d ?_);refine aa (vm g ?_);rw[da (by decide)];refine aa (Am hs o p ?_)
 have i:¬((((sIx items.size 0 b:Nat):Int) == 0 && (1:Int) == 1 && (sIx items.size items.size c - sIx items.size 0 b) == items.size)=true):=by
  intro q;rw[jb,jb]at q;have v:((sIx items.size 0 b:Nat):Int)=0:=eq_of_beq q.1.1;have x:sIx items.size items.size c - sIx items.size 0 b=items.size:=eq_of_beq q.2;exact r ⟨by omega,by omega⟩
 show wpAny _ _ (if (((sIx items.size 0 b:Nat):Int) == 0 && (1:Int) == 1 && (sIx items.size items.size c - sIx items.size 0 b) == items.size)=true then _ else _) _ _ s;rw[qa i,Gs]
 first
  |exact aa (m:=Builtin.Tuple.tupleExact _) (ue (ia ⟨_,rfl,ia h⟩) a)
  |exact aa (m:=Builtin.Tuple.tupleExact _) (ue (aa (ia (ia ⟨_,rfl,ia h⟩))) a)
  |exact aa (aa (m:=Builtin.Tuple.tupleExact _) (ue (ia (ia ⟨_,rfl,ia h⟩)) a))
  |exact aa (aa (m:=Builtin.Tuple.tupleExact _) (ue (ia ⟨_,rfl,ia h⟩) a))
end
end HT
namespace L2
open PySem PySem.Spec PyProof.Rows
abbrev TO:=St->Hp->(Option Int->Hp->Prop)->Prop
def PO(X:Cx)(e:Option Expr)(t:TO):Prop :=
 ∀(pins:List (Addr×Obj)) (s:Shared) (σ:St) (H:Hp) (Q:Option Int->Hp->Prop),aw X pins σ H s->t σ H Q →
  wpAny (model X.prog X.w) X.A (evalPart e X.env) (λu s'=>∃o H',aw X pins σ H' s'/\IsPart u o/\Q o H') X.xe s
def Gu:TO:=λ_ H Q=>Q none H
section
variable {X:Cx}{e:Expr}{te:TE}{lo hi:Option Expr}{tl th:TO}{pos p2:Pos}
theorem Gv:PO X none Gu:=by
 intro a s b H Q I h;rw[evalPart_none];exact ia ⟨none,H,I,.none,h⟩
def hA(X:Cx)(r:V->Option Int->Option Int->Hp->VK->Prop):Prop :=
 ∀(pins:List (Addr×Obj)) (s:Shared) (σ:St) (H:Hp) (x:V) (v a b:Value) (lo hi:Option Int) (sl:Addr) (Q:VK),aw X pins σ H s->bj x v->s.heap.IsSliceOf sl a b .none->IsPart a lo->IsPart b hi->r x lo hi H Q →
  ∃T id,typeLookup (.type T) "__getitem__" = pure (some (.builtin id))/\s.TypeIs v T/\wpAny (model X.prog X.w) X.A (getItem v (.ref sl)) (EP X pins σ Q) X.xe s
theorem hA.or{r i:V->Option Int->Option Int->Hp->VK->Prop}(h:hA X r)(h':hA X i):hA X (λx lo hi H Q=>r x lo hi H Q\/i x lo hi H Q):=by
 intro a s b H x v c d lo hi sl Q I e hs f g q;rcases q with q|q
 ·exact h a s b H x v c d lo hi sl Q I e hs f g q
 ·exact h' a s b H x v c d lo hi sl Q I e hs f g q
def Gw(r:V->Option Int->Option Int->Hp->VK->Prop)(te:TE)(tl th:TO):TE:=λσ H Q=>te σ H λx H1=>tl σ H1 λl H2=>th σ H2 λu a=>r x l u a Q
theorem Gx{r:V->Option Int->Option Int->Hp->VK->Prop}(O:hA X r)(P:PE X e te)(hl:PO X lo tl)(R:PO X hi th):PE X (.Subscript e (.Slice lo hi none p2) pos) (Gw r te tl th):=by
 intro a s d H Q I h;refine Subscript_ (aX (P a s d H _ I h) λv j ⟨x,m,n,o,p⟩=>?_);refine wpAny_Slice (aX (hl a j d m _ n p) λf y ⟨l,z,B,C,E⟩=>aX (R a y d z _ B E) λg c ⟨u,i,F,G,J⟩=>?_);rw[evalPart_none];refine ia ?_;have N:aw X a d i { c with heap:=c.heap.push { cls:=.type "slice",data:=.fields #[f,g,.none] } }:=F.kept (t':=c.toks) λb U q=>na _ q
 have⟨T,id,K,L,M⟩:=O a { c with heap:=c.heap.push { cls:=.type "slice",data:=.fields #[f,g,.none] } } d i x v f g l u c.heap.objs.size Q N o (Heap.IsSliceOf.new ..) C G J;show wpAny (model X.prog X.w) X.A (subscriptTail e (.Slice lo hi none p2) v (.ref c.heap.objs.size)) (EP X a d Q) X.xe { c with heap:=c.heap.push { cls:=.type "slice",data:=.fields #[f,g,.none] } };exact tail_any (ops:=[.ref c.heap.objs.size,v]) L K M (by with_unfolding_all rfl)
def jv(xs:List V)(lo hi:Option Int):List V:=(xs.drop (HT.sIx xs.length 0 lo)).take (HT.sIx xs.length xs.length hi - HT.sIx xs.length 0 lo)
theorem An(xs:List V)(a b:Option Int):(jv xs a b).length<=xs.length:=by
 unfold jv;rw[ae,kj];omega
def Gy(K:Fg1):V->Option Int->Option Int->Hp->VK->Prop:=λx lo hi H Q=>∃a xs,x=.ref a/\dJ K H a xs ∧
 ¬(HT.sIx xs.length 0 lo=0/\HT.sIx xs.length xs.length hi=xs.length)/\∀p,H p=none->Q (.ref p) (aG H p (.tup (jv xs lo hi)))
theorem Gz:hA X (Gy X.K):=by
 intro g s w H x v y z d e sl Q I j hs l m h;obtain⟨a,xs,rfl,n,p,q⟩:=h;cases j;have⟨f,r,i,hz⟩:=I.tuple n;have c:f.toArray.size=xs.length:=by rw[oa];exact r.length.symm
 refine⟨"tuple",_,we.lookup,i.typeIs,?_⟩;refine HT.getItem_tuple_cut i hs l m (by rw[c];exact p) ?_ (by rw[c];exact hz);rw[c];refine⟨.ref s.heap.objs.size,_,I.laid (t':=s.toks) (o:=.tup (jv xs d e)) (λb u q=>na _ q) (bb _) ?_,rfl,q _ (I.hok.fresh (bb _))⟩;exact⟨wd (An xs d e) hz,_,(r.drop (HT.sIx xs.length 0 d)).take (HT.sIx xs.length xs.length e - HT.sIx xs.length 0 d),IsTup.new _ _⟩
end
noncomputable def hG(n:Nat)(i:Int):Option Nat:=if 0<=i then (if i<n then some i.toNat else none) else if -(n:Int)<=i then some (i+n).toNat else none
def d8{α:Type}(xs:List α)(i:Int):Option α:=(hG xs.length i).bind λj=>xs[j]?
theorem Ao{n:Nat}{i:Int}{j:Nat}(h:hG n i=some j):seqIndex? i n=some j/\j<n /\ -(n:Int)<=i/\i<n:=by
 unfold hG at h;by_cases b:0<=i
 ·rw[da b]at h
  by_cases a:i<n
  ·rw[da a]at h
   have e:i.toNat=j:=lc h;exact⟨by rw[seqIndex_of b a,e],by omega,by omega,a⟩
  ·rw[qa a]at h;cases h
 ·rw[qa b]at h
  by_cases a:-(n:Int)<=i
  ·rw[da a]at h
   have e:(i+n).toNat=j:=lc h;exact⟨by rw[seqIndex_neg (by omega) a,e],by omega,a,by omega⟩
  ·rw[qa a]at h;cases h
theorem vB{a:Type}{xs:List a}{i:Int}{v:a}(h:d8 xs i=some v):∃j,seqIndex? i xs.length=some j/\xs[j]?=some v/\j<xs.length /\ -(xs.length:Int)<=i/\i<xs.length:=by
 unfold d8 at h
 cases e:hG xs.length i with
 |none=>rw[e]at h;cases h
 |some j =>
  rw[e]at h;have⟨b,c,d,f⟩:=Ao e;exact⟨j,b,h,c,d,f⟩
theorem lN{a:Type}{xs:List a}{j:Nat}{v:a}(h:xs[j]?=some v):d8 xs (j:Int)=some v:=by
 have b:j<xs.length:=(ya.mp h).1
 have e:hG xs.length (j:Int)=some j:=by
  unfold hG;rw[da (by omega),da (by omega)];simp
 unfold d8;rw[e];exact h
def Ap(b:Expr):Prop:=∀o i,subscripted b false o i=operate [o,i] (getItem o i)
def gF(X:Cx)(r:R2):Prop :=
 ∀(value a:Expr) (pins:List (Addr×Obj)) (s:Shared) (σ:St) (H:Hp) (x y:V) (v u:Value) (Q:VK),aw X pins σ H s->bj x v->bj y u->r x y H Q →
  subscripted a false v u=operate [v,u] (getItem v u)->wpAny (model X.prog X.w) X.A (subscriptTail value a v u) (EP X pins σ Q) X.xe s
def gG(X:Cx)(id:String)(r:V->List V->Hp->VK->Prop):Prop :=
 ∀(pins:List (Addr×Obj)) (s:Shared) (σ:St) (H:Hp) (x:V) (xs:List V) (v:Value) (a:List Value) (Q:VK),aw X pins σ H s->bj x v->bB xs a->r x xs H Q →
  wpAny (model X.prog X.w) X.A (call (.builtin id) (v::a)) (EP X pins σ Q) X.xe s
section
variable {X:Cx}{a b:Expr}{ta tb:TE}{pos:Pos}
theorem gF.or{r g:R2}(h:gF X r)(h':gF X g):gF X (λx y H Q=>r x y H Q\/g x y H Q):=by
 intro a b c s d H x y v u Q I e f q hs;rcases q with q|q
 ·exact h a b c s d H x y v u Q I e f q hs
 ·exact h' a b c s d H x y v u Q I e f q hs
theorem GA{r:R2}(l:gF X r)(m:PE X a ta)(n:PE X b tb)(hs:Ap b):PE X (.Subscript a b pos) (pS r ta tb):=by
 intro c s j H Q I h;exact Subscript_ (rY m n I h λv u d x y e f g i q=>l a b c d j e x y v u Q f g i q (hs _ _))
def GB(K:Fg1):R2:=λx y H Q=>∃p xs i v,x=.ref p/\y=.int i/\bJ K H p xs/\d8 xs i=some v/\Q v H
def GC(K:Fg1):R2:=λx y H Q=>∃p xs i v,x=.ref p/\y=.int i/\dJ K H p xs/\d8 xs i=some v/\Q v H
def GE:R2:=λx y H Q=>∃z i c,x=.str z/\y=.int i/\z.length<=sizeLine/\d8 z.cps.toList i=some c/\Q (.str ⟨#[c]⟩) H
theorem GF:gF X (GB X.K):=by
 intro d e a s n H x y v u Q I C E h hs;obtain⟨p,xs,i,z,rfl,rfl,F,G,q⟩:=h;cases C;obtain⟨t,rfl⟩:=E;have⟨f,r,g,hz⟩:=I.list F;have⟨j,c,J,N,L,M⟩:=vB G;have⟨w,o,l⟩:=r.get J;have hl:=r.length;have hn:=mC;have b:EP X a n Q w s:=⟨z,H,I,l,q⟩
 by_cases A:0<=i
 ·have m:i.toNat=j:=by
   rw[seqIndex_of A M]at c;exact lc c
  exact item_listR g.isList A (by omega) (by rw[m];simpa using o) b hs
 ·have m:(i+(f.toArray.size:Int)).toNat=j:=by
   rw[seqIndex_neg (by omega) L]at c;rw[oa,<-hl];exact lc c
  exact subscriptTail_builtinR (x:=w) g.isList.typeIs slot_list_getitem.lookup
   (wpAny_getItem_list_neg (Q:=λr B=>r=w/\EP X a n Q r B) g.isList (by omega) (by rw[oa] <;> omega) (by omega) (by rw[m];simpa using o) ⟨rfl,b⟩) hs
theorem GH:gF X (GC X.K):=by
 intro b c a s f H x y v u Q I m n h hs;obtain⟨p,xs,i,z,rfl,rfl,o,A,q⟩:=h;cases m;obtain⟨t,rfl⟩:=n;have⟨B,r,g,hz⟩:=I.tuple o;have⟨j,C,E,G,J,L⟩:=vB A;have⟨w,F,d⟩:=r.get E;have hl:=r.length;have hn:=mC;have e:EP X a f Q w s:=⟨z,H,I,d,q⟩
 exact subscriptTail_builtinR (x:=w) g.typeIs slot_tuple_getitem.lookup
  (getItem_tuple (j:=j) (Q:=λr l=>r=w/\EP X a f Q r l) g (by omega) (by omega) (by rw[oa,<-hl];exact C) (by simpa using F) ⟨rfl,e⟩) hs
theorem GJ:gF X GE:=by
 intro a b d s p H x y v u Q I f g h hs;obtain⟨z,i,c,rfl,rfl,hz,l,q⟩:=h;obtain⟨t,rfl⟩:=f;obtain⟨t',rfl⟩:=g;have⟨j,e,m,r,n,o⟩:=vB l;have hl:z.cps.toList.length=z.length:=by simp[Str.length]
 rw[hl]at e n o;have hn:=mC
 exact tail_any (typeIs_str s z t) slot_str_getitem.lookup (getItem_str (c:=c) (by
  have e1:decide (i < -(2 ^ 63:Int))=false:=nb (by omega);have e2:decide (i ≥ 2 ^ 63)=false:=nb (by omega);rw[e1,e2,Bool.or_false]) (by rw[e];simpa using m) ⟨.str ⟨#[c]⟩,H,I.tok _,⟨_,rfl⟩,q⟩) hs
theorem GK(a:List Value)(n j:Nat)(u:Value):Obj.mapSeq (·.setIfInBounds j u) { cls:=.type "list",data:=.seq a.toArray n }={ cls:=.type "list",data:=.seq (a.set j u).toArray n }:=by
 simp[Obj.mapSeq]
theorem aw.lst{b:List (Addr×Obj)}{c:St}{H:Hp}{s:Shared}{p:Addr}{xs:List V}(I:aw X b c H s)(h:H p=some (.lst xs)) :
  ∃(a:List Value) (n:Nat),bB xs a/\s.heap.get? p=some { cls:=.type "list",data:=.seq a.toArray n }/\xs.length<=sizeLine:=by
 have⟨z,a,n,r,e⟩:=I.hok p _ h;exact⟨a,n,r,e,z⟩
theorem aw.lstUpd{a:List (Addr×Obj)}{d:St}{H:Hp}{s:Shared}{p:Addr}{xs ys:List V}{c its':List Value}{n n':Nat}{f:Obj->Obj}(I:aw X a d H s)(h:H p=some (.lst xs))
  (j:s.heap.get? p=some { cls:=.type "list",data:=.seq c.toArray n }) (g:f { cls:=.type "list",data:=.seq c.toArray n }={ cls:=.type "list",data:=.seq its'.toArray n' }) (r:bB ys its') (hz:ys.length<=sizeLine) (t:Nat) :
  aw X a d (aG H p (.lst ys)) { s with heap:=s.heap.update p f,toks:=t }:=by
 have e:(s.heap.update p f).get? p=some { cls:=.type "list",data:=.seq its'.toArray n' }:=by
  rw[ce f j (by rw[g] <;> rfl),g]
 refine I.write (x:=p) (e:=p) (by rw[h];trivial) (.inl rfl) (λb u i q=>(cc _ _ (ve i)).trans q) ⟨_,e⟩ ?_;exact⟨hz,its',n',r,e⟩
def GL:V->V->V->Hp->(Hp->Prop)->Prop:=λo i v H Q=>∃p xs k j,o=.ref p/\i=.int k/\H p=some (.lst xs)/\hG xs.length k=some j/\Q (aG H p (.lst (xs.set j v)))
theorem GM:zX X GL:=by
 intro a s x H o i v C E u Q I y z A h;obtain⟨p,xs,k,j,rfl,rfl,f,B,q⟩:=h;cases y;obtain⟨t,rfl⟩:=z;have⟨b,n,r,d,hz⟩:=I.lst f;have⟨c,F,g,l⟩:=Ao B;have hl:=r.length;have hn:=mC
 have m:aw X a x (aG H p (.lst (xs.set j v))) { s with heap:=s.heap.update p (Obj.mapSeq (·.setIfInBounds j u)) } :=
  I.lstUpd f d (GK b n j u) (r.set A j) (by rw[List.length_set];exact hz) s.toks
 by_cases w:0<=k
 ·have e:k.toNat=j:=by
   rw[seqIndex_of w l]at c;exact lc c
  exact PySem.W.ki_setAt d w (by omega) (by rw[oa,<-hl];exact l) (by rw[e];exact⟨_,m,q⟩)
 ·have e:(k+(b.toArray.size:Int)).toNat=j:=by
   rw[seqIndex_neg (by omega) g]at c;rw[oa,<-hl];exact lc c
  exact PySem.W.ki_setBack d (by omega) (by rw[oa,<-hl];exact g) (by omega) (by rw[e];exact⟨_,m,q⟩)
theorem GO(a b:Option Int)(n:Nat):(sliceBounds a b none n).1=((HT.sIx n 0 a:Nat):Int)/\(sliceBounds a b none n).2.1=((HT.sIx n n b:Nat):Int)/\(sliceBounds a b none n).2.2=1:=by
 refine⟨?_,?_,rfl⟩
 ·cases a with
  |none=>simp[sliceBounds,HT.sIx]
  |some i =>
   simp only[sliceBounds,HT.sIx,Option.getD_none,show (1:Int) > 0 by decide,wm];by_cases h:i<0
   ·simp only[h,wm] <;> omega
   ·simp only[h,xi] <;> omega
 ·cases b with
  |none=>simp[sliceBounds,HT.sIx]
  |some i =>
   simp only[sliceBounds,HT.sIx,Option.getD_none,show (1:Int) > 0 by decide,wm];by_cases h:i<0
   ·simp only[h,wm] <;> omega
   ·simp only[h,xi] <;> omega
theorem GP(a:List Value)(b c:Option Int):slicePick a.toArray b c none=((a.drop (HT.sIx a.length 0 b)).take (HT.sIx a.length a.length c - HT.sIx a.length 0 b)).toArray:=by
 have⟨d,e,f⟩:=GO b c a.toArray.size;unfold slicePick;rw[d,e,f];simp only[sliceRange_one,pick_run,oa] <;> rfl
def GQ(K:Fg1):V->Option Int->Option Int->Hp->VK->Prop:=λx lo hi H Q=>∃a xs,x=.ref a/\bJ K H a xs/\∀p,H p=none->Q (.ref p) (aG H p (.lst (jv xs lo hi)))
theorem GR:hA X (GQ X.K):=by
 intro f s u H x v w y d e sl Q I i hs j l h;obtain⟨a,xs,rfl,m,q⟩:=h;cases i;have⟨n,r,g,hz⟩:=I.list m;have c:=r.length;refine⟨"list",_,slot_list_getitem.lookup,g.isList.typeIs,?_⟩;refine wpAny_getItem_list_slice g.isList hs j l .none (by simp) ?_ (by rw[oa] <;> omega);rw[GP,<-c];refine⟨.ref s.heap.objs.size,_,I.laid (t':=s.toks) (o:=.lst (jv xs d e)) (λb p q=>na _ q) (bb _) ?_,rfl,q _ (I.hok.fresh (bb _))⟩;exact⟨wd (An xs d e) hz,_,0,(r.drop (HT.sIx xs.length 0 d)).take (HT.sIx xs.length xs.length e - HT.sIx xs.length 0 d),zb _ rfl⟩
noncomputable def d9:V->Bool
 |.non=>true
 |.bl _=>true
 |.int _=>true
 |.str _=>true
 |_=>false
noncomputable def iO:V->V->Bool
 |.non,.non=>true
 |.bl a,.bl b=>a == b
 |.bl a,.int b=>(if a then 1 else 0) == b
 |.int a,.bl b=>a == (if b then 1 else 0)
 |.int a,.int b=>a == b
 |.str a,.str b=>a == b
 |_,_=>false
theorem Aq{A:Around}{s:Shared}{y x:V}{u v:Value}(d:bj y u)(c:bj x v)(f:d9 y=true)(e:d9 x=true):SeqAt.EqAt A s u v (iO y x):=by
 cases y with
 |non =>
  cases d
  cases x with
  |non=>cases c;exact bq _
  |bl b=>cases c;exact SeqAt.EqAt.none_bool b
  |int b=>obtain⟨t,rfl⟩:=c;exact SeqAt.EqAt.none_int b t
  |str b=>obtain⟨t,rfl⟩:=c;exact SeqAt.EqAt.none_str b t
  |_=>exact absurd (show false=true from e) ma
 |bl a =>
  cases d
  cases x with
  |non=>cases c;exact SeqAt.EqAt.bool_none a
  |bl b=>cases c;exact SeqAt.EqAt.bool_bool a b
  |int b=>obtain⟨t,rfl⟩:=c;exact SeqAt.EqAt.bool_int a b t
  |str b=>obtain⟨t,rfl⟩:=c;exact SeqAt.EqAt.bool_str a b t
  |_=>exact absurd (show false=true from e) ma
 |int a =>
  obtain⟨t',rfl⟩:=d
  cases x with
  |non=>cases c;exact SeqAt.EqAt.int_none a t'
  |bl b=>cases c;exact SeqAt.EqAt.int_bool a t' b
  |int b=>obtain⟨t,rfl⟩:=c;exact SeqAt.EqAt.int_int a t' b t
  |str b=>obtain⟨t,rfl⟩:=c;exact SeqAt.EqAt.int_str a t' b t
  |_=>exact absurd (show false=true from e) ma
 |str a =>
  obtain⟨t',rfl⟩:=d
  cases x with
  |non=>cases c;exact SeqAt.EqAt.str_none a t'
  |bl b=>cases c;exact SeqAt.EqAt.str_bool a t' b
  |int b=>obtain⟨t,rfl⟩:=c;exact SeqAt.EqAt.str_int a t' b t
  |str b=>obtain⟨t,rfl⟩:=c;exact SeqAt.EqAt.str_str a t' b t
  |_=>exact absurd (show false=true from e) ma
 |_=>exact absurd (show false=true from f) ma
theorem GT:d2 X (.builtin "len") (λxs H Q=>∃p ys,xs=[.ref p]/\(bJ X.K H p ys\/dJ X.K H p ys)/\Q (.int ys.length) H):=by
 intro e s g H xs i Q I r h;obtain⟨p,ys,rfl,hq,q⟩:=h;obtain⟨u,rfl,f⟩:=g8 r;cases f;have hn:=mC;rcases hq with hq|hq
 ·have⟨b,c,d,hz⟩:=I.list hq
  have a:=c.length;exact Calls.call_len_list d.isList (by simp only[oa] <;> omega) ⟨.int ys.length,H,I.tok _,⟨s.toks+1,by rw[oa,a]⟩,q⟩
 ·have⟨b,c,d,hz⟩:=I.tuple hq
  have a:=c.length;exact len_tuple d (by simp only[oa] <;> omega) ⟨.int ys.length,H,I.tok _,⟨s.toks+1,by rw[oa,a]⟩,q⟩
theorem GU:d2 X (.builtin "len") (λxs H Q=>∃z,xs=[.str z]/\z.length<=sizeLine/\Q (.int z.length) H):=by
 intro a s b H xs c Q I r h;obtain⟨z,rfl,hz,q⟩:=h;obtain⟨u,rfl,t,rfl⟩:=g8 r;have hn:=mC;exact len_str (by omega) ⟨.int z.length,H,I.tok _,⟨_,rfl⟩,q⟩
theorem d2.or{f:Value}{r d:List V->Hp->VK->Prop}(h:d2 X f r)(h':d2 X f d):d2 X f (λxs H Q=>r xs H Q\/d xs H Q):=by
 intro a s b H xs c Q I rs q;rcases q with q|q
 ·exact h a s b H xs c Q I rs q
 ·exact h' a s b H xs c Q I rs q
theorem GV:d2 X (.type "list") (λxs H Q=>∃p ys,xs=[.ref p]/\(bJ X.K H p ys\/dJ X.K H p ys)/\∀l,H l=none->Q (.ref l) (aG H l (.lst ys))):=by
 intro g s A H xs C Q I r h;obtain⟨p,ys,rfl,hq,q⟩:=h;obtain⟨u,rfl,B⟩:=g8 r;cases B
 have i:∀(a:List Value),bB ys a->ys.length<=sizeLine->∀(h':Heap) (d:Nat),(∀b z,s.heap.get? b=some z->h'.get? b=some z) →
   h'.get? s.heap.objs.size=some { cls:=.type "list",dict:=none,data:=.seq a.toArray d,slots:=#[] }->EP X g A Q (.ref s.heap.objs.size) { s with heap:=h' }:=λa c hz h' d f e =>
  ⟨.ref s.heap.objs.size,_,I.laid (t':=s.toks) f (bb _) (show cA X.prog X.w _ h' _ (.lst ys) from⟨hz,a,d,c,e⟩),rfl,q _ (I.hok.fresh (bb _))⟩
 rcases hq with hq|hq
 ·have⟨a,c,m,hz⟩:=I.list hq
  have j:=c.length;have⟨o,v,x,n,y⟩:=m.isList;exact call_list_seq p (.inl rfl) v x y (λh' d f e=>i a c hz h' d f e) (by simp only[oa] <;> omega)
 ·have⟨a,c,m,hz⟩:=I.tuple hq
  have j:=c.length;obtain⟨o,v,x,n,y⟩:=m;exact call_list_seq p (.inr rfl) v x y (λh' d f e=>i a c hz h' d f e) (by simp only[oa] <;> omega)
theorem GW:d2 X (.type "tuple") (λxs H Q=>∃p ys,xs=[.ref p]/\((bJ X.K H p ys/\∀l,H l=none->Q (.ref l) (aG H l (.tup ys)))\/(dJ X.K H p ys/\Q (.ref p) H))):=by
 intro a s i H xs y Q I r h;obtain⟨p,ys,rfl,h⟩:=h;obtain⟨u,rfl,v⟩:=g8 r;cases v;rcases h with⟨g,q⟩|⟨g,q⟩
 ·have⟨c,d,f,hz⟩:=I.list g
  have j:=d.length;refine call_tuple_list f.isList (λh' n=>?_) (by simp only[oa] <;> omega);have m:aw X a i H { s with heap:=h' }:=I.kept (t':=s.toks) n
  have x:aw X a i (aG H h'.objs.size (.tup ys)) { s with heap:=h'.push { cls:=.type "tuple",data:=.seq c.toArray } } :=
   m.laid (t':=s.toks) (λb o e=>na _ e) (bb _) (show cA X.prog X.w _ _ _ (.tup ys) from⟨hz,c,d,IsTup.new _ _⟩)
  exact⟨.ref h'.objs.size,_,x,rfl,q _ (m.hok.fresh (bb _))⟩
 ·have⟨c,d,f,hz⟩:=I.tuple g
  exact call_tuple_same f ⟨.ref p,H,I,rfl,q⟩
def sv(K:Fg1)(T:String)(x:V)(H:Hp):Prop:=match x with
 |.str _=>T = "str"
 |.int _=>T = "int"
 |.ref p=>(T = "list" /\ ∃xs,bJ K H p xs)\/(T = "tuple" /\ ∃o,K.lookup p=some o/\o.cls=.type "tuple" /\ o.dict=none) ∨
   (T = "dict" /\ ((∃kvs,H p=some (.dK kvs))\/∃kvs,H p=some (.dT kvs)))\/(T = "set" /\ ∃S n,H p=some (.set S n))
 |_=>False
theorem Ar{f:List (Addr×Obj)}{u:St}{H:Hp}{s:Shared}{T:String}{x:V}{v:Value}(I:aw X f u H s)(r:bj x v)(ty:sv X.K T x H) :
  s.TypeIs v T/\∀a,v=.ref a->∃j,s.heap.get? a=some j/\j.dict=none:=by
 cases x with
 |str z =>
  obtain⟨t,rfl⟩:=r
  cases (show T = "str" from ty)
  exact⟨typeIs_str s z t,λ_ e=>nomatch e⟩
 |int i =>
  obtain⟨t,rfl⟩:=r
  cases (show T = "int" from ty)
  exact⟨typeIs_int s i t,λ_ e=>nomatch e⟩
 |ref p =>
  cases r;rcases ty with⟨rfl,xs,m⟩|⟨rfl,o,b,q,g⟩|⟨rfl,b⟩|⟨rfl,S,n,b⟩
  ·have⟨l,_,h,_⟩:=I.list m
   refine⟨h.isList.typeIs,λa e=>?_⟩;cases e;obtain⟨o,n,e,c,g,_⟩:=h;exact⟨o,e,g⟩
  ·refine⟨⟨o,I.kIn p o b,q⟩,λa e=>?_⟩
   cases e;exact⟨o,I.kIn _ o b,g⟩
  ·have z:∃o,s.heap.get? p=some o/\o.ExactDict:=by
    rcases b with⟨kvs,b⟩|⟨kvs,b⟩
    ·have⟨_,_,_,_,o,_,_,e,d,_⟩:=I.hok p _ b
     exact⟨o,e,d⟩
    ·have⟨_,_,_,_,o,_,_,e,d,_⟩:=I.hok p _ b
     exact⟨o,e,d⟩
   obtain⟨o,e,d⟩:=z;refine⟨⟨o,e,d.1⟩,λa e2=>?_⟩;cases e2;exact⟨o,e,d.2.1⟩
  ·have⟨o,_,_,_,e,d,_⟩:=I.hok p _ b
   refine⟨⟨o,e,d.1⟩,λa e2=>?_⟩;cases e2;exact⟨o,e,d.2.1⟩
 |_=>exact False.elim ty
def GX(K:Fg1)(T:String)(r:V->List V->Hp->VK->Prop)(to:TE):TE:=λσ H Q=>to σ H λx H1=>sv K T x H1/\r x [] H1 Q
def GY(K:Fg1)(T:String)(r:V->List V->Hp->VK->Prop)(to:TE)(t:TA):TE:=λσ H Q=>to σ H λx H1=>sv K T x H1/\t σ H1 λxs H2=>r x xs H2 Q
variable {o e:Expr}{es:List Expr}{to:TE}{t:TA}{name:Str}{apos cpos:Pos}{T id:String}{r:V->List V->Hp->VK->Prop}
theorem GZ (q:PlainAttrs T) (d:Slot T name id) (e:typeOf (.builtin id)=pure (.type "method_descriptor")) (hm:gG X id r) (u:PE X o to)
  (b:attributeBase o name X.env (eval o X.env)=eval o X.env:=by rfl) (c:(apos.endLine == cpos.line)=true:=by rfl):PE X (.Call (.Attribute o name apos) [] [] cpos) (GX X.K T r to):=by
 intro a s i H Q I h;refine wpAny_Call_method0_late b c (aX (u a s i H _ I h) λv j ⟨x,l,f,g,ty,m⟩=>?_);have⟨n,p⟩:=Ar f g ty;exact⟨T,id,q,d,e,n,p,tj rfl (PySem.evalArgs_none (hm a j i l x [] v [] Q f g .nil m))⟩
theorem vC (G:PlainAttrs T) (f:Slot T name id) (j:typeOf (.builtin id)=pure (.type "method_descriptor")) (hm:gG X id r) (J:PE X o to) (L:PA X (e::es) t)
  (c:attributeBase o name X.env (eval o X.env)=eval o X.env:=by rfl)
  (g:((backTo cpos (starEach (e::es) X.env)).all (λ x=>!x.1) && (backToKw cpos (keywordEach [] X.env)).all (λ x=>x.1.isSome)
   && decide ((e::es).length+([]:List Keyword).length+(if ([]:List Keyword).isEmpty then 0 else 1)<30))=true:=by rfl)
  (d:(apos.endLine == cpos.line)=true:=by rfl) (hs:starEach (e::es) X.env=(false,eval e X.env)::starEach es X.env:=by rfl) (b:(backTo cpos (starEach es X.env)).any (·.1)=false:=by rfl) :
  PE X (.Call (.Attribute o name apos) (e::es) [] cpos) (GY X.K T r to t):=by
 intro a s i H Q I h;refine wpAny_Call_method_late c g d rfl (aX (J a s i H _ I h) λv p ⟨x,q,l,m,ty,u⟩=>?_);have⟨E,F⟩:=Ar l m ty;refine⟨T,id,G,f,j,E,F,?_⟩;have n:=L cpos a p i q _ l u;rw[hs]at n ⊢;refine tj (by show (false || (backTo cpos (starEach es X.env)).any (·.1))=false;rw[b] <;> rfl) (lm ?_);exact aX n λw y ⟨vs,z,A,B,C⟩=>hm a y i z x vs v w Q A m B C
end
def G0(X:Cx)(id:String)(r:V->List V->Hp->VK->Prop):Prop :=
 ∀(pins:List (Addr×Obj)) (s:Shared) (σ:St) (H:Hp) (x:V) (xs:List V) (v:Value) (a:List Value) (Q:VK),aw X pins σ H s->bj x v->bB xs a->r x xs H Q →
  wpAny (model X.prog X.w) X.A (call (.builtin id) (v::a)) (EP X pins σ Q) X.xe s
theorem bB.one:∀{x:V}{a:List Value},bB [x] a->∃u,a=[u]/\bj x u
 |_,_,.cons r .nil=>⟨_,rfl,r⟩
theorem bB.rep{xs:List V}{a:List Value}(h:bB xs a):∀k:Nat,bB (List.replicate k xs).flatten (List.replicate k a).flatten
 |0=>.nil
 |k+1=>by
  rw[ye,ye,ud,ud];exact bB.append h (bB.rep h k)
theorem As(a:List Value):∀(k:Nat) (b:List Value),
  List.foldl (λc d=>c++d) b.toArray (List.replicate k a.toArray)=(b++(List.replicate k a).flatten).toArray
 |0,b=>by simp
 |k+1,b=>by
  have e:b.toArray++a.toArray=(b++a).toArray:=by simp
  have e2:(b++a)++(List.replicate k a).flatten=b++(List.replicate (k+1) a).flatten:=by
   rw[ye,ud,qf]
  rw[<-e2,<-As a k (b++a),<-e,ye,kh]
section
variable {X:Cx}{pins:List (Addr×Obj)}{σ:St}{H:Hp}{s:Shared}{l b:Addr}{xs ys zs:List V}
theorem aw.lset{a its':List Value}{n:Nat}{f:Array Value->Array Value}{t':Nat}(I:aw X pins σ H s)(d:H l=some (.lst xs))
  (e:s.heap.get? l=some { cls:=.type "list",data:=.seq a.toArray n }) (g:f a.toArray=its'.toArray) (h:bB ys its') (hz:ys.length<=sizeLine) :
  aw X pins σ (aG H l (.lst ys)) { s with heap:=s.heap.update l (Obj.mapSeq f),toks:=t' }:=by
 have q:=PySem.IsL.update e f;rw[g]at q;refine I.write (x:=l) (e:=l) (by rw[d];exact trivial) (.inl rfl) (λi u b c=>(cc s.heap (Obj.mapSeq f) (ve b)).trans c) ⟨_,q⟩ ?_;exact⟨hz,its',_,h,q⟩
theorem aw.lnew{a:List Value}{t':Nat}(I:aw X pins σ H s)(b:bB ys a)(hz:ys.length<=sizeLine) :
  aw X pins σ (aG H s.heap.objs.size (.lst ys)) { s with heap:=s.heap.push { cls:=.type "list",data:=.seq a.toArray },toks:=t' } :=
 I.laid (λ_ _ q=>na _ q) (bb _) ⟨hz,a,0,b,zb _ rfl⟩
theorem aw.fresh(I:aw X pins σ H s):H s.heap.objs.size=none:=I.hok.fresh (bb _)
theorem aw.lstM(I:aw X pins σ H s)(b:H l=some (.lst xs)):xs.length<=sizeLine/\∃(a:List Value) (n:Nat),bB xs a/\xs.length=a.length/\s.heap.get? l=some { cls:=.type "list",data:=.seq a.toArray n }:=by
 have⟨z,a,n,r,e⟩:=I.hok l _ b;exact⟨z,a,n,r,r.length,e⟩
theorem G1{n:Nat}(h:n<=sizeLine):Builtin.List.listTooLong n=false:=by
 unfold Builtin.List.listTooLong;exact nb (by omega)
end
section
variable {X:Cx}
def Au:V->List V->Hp->VK->Prop:=λx vs H Q=>∃l xs y,x=.ref l/\vs=[y]/\H l=some (.lst xs)/\xs.length<sizeLine/\Q .non (aG H l (.lst (xs++[y])))
theorem G2:G0 X "list.append" Au:=by
 intro b s i H x vs v j Q I d f h;obtain⟨l,xs,y,rfl,rfl,c,hz,q⟩:=h;cases d;obtain⟨u,rfl,g⟩:=f.one;have⟨z,a,n,r,hl,e⟩:=I.lstM c;refine cm F.slot_list_append ⟨_,e,rfl⟩ F.entry_list_append (F.args_list_append_2 _ _) (PySem.list_append l a.toArray n u (by rw[oa];omega)) ⟨e,?_⟩;refine⟨.non,_,I.lset (its':=a++[u]) c e (by simp) (r.append (.cons g .nil)) ?_,rfl,q⟩;rw[wa,xb];omega
theorem Av{a:Type}(xs:List a)(k:Nat):(List.replicate k xs).flatten.length=k * xs.length:=by
 induction k with
 |zero=>simp
 |succ k b=>rw[ye,ud,wa,b,Nat.succ_mul,Nat.add_comm]
end
end L2
namespace Att
open PySem PySem.W PySem.Calls PyProof.Rows
theorem G3{P:Params}{h:Heap}:∀(ns:List Int) (vs:List Value),WellAll P h vs (ns.map WData.int)->IntsAre vs ns:=by
 intro ns
 induction ns with
 |nil =>
  intro vs w;rw[rg]at w;cases w;exact .nil
 |cons n ns c =>
  intro vs w;rw[ja]at w
  cases w with
  |cons a b =>
   cases a;exact .cons _ _ (c _ b)
theorem G4{l:OpenLaw}{n:Nat}(hn:l.most=some n){P:Params}{h:Heap}{args:List WData}{b:List Value}
  (c:l.row.toRowW.claim.pre args=true) (m:WellAll P h b args) :
  ∃a vs ns,b=[Value.ref a]/\args=[WData.list (ns.map WData.int)]/\h.get? a=some { cls:=.type "list",data:=.seq vs.toArray }/\IntsAre vs ns/\ns.length<=n:=by
 have j:WShape.hasAll [] args [.list .int]=true:=(pre_splitW c).1;have o:l.pre.holds [] { args:=args }=true:=(pre_splitW c).2;obtain⟨d,r,rfl,p,s⟩:=hasAllW_cons j;obtain rfl:=hasAllW_nil s;obtain⟨xs,rfl,u⟩:=hasW_list p;obtain⟨ns,rfl⟩:=items_int u
 have e:ns.length<=n:=by
  unfold OpenLaw.pre at o
  have g:(WTm.not (.lt (.lit (.int (n:Int))) (.len (.arg 0)))).holds [] { args:=[.list (ns.map .int)] }=true:=by
   have g:=(holds_andW o).1;rw[hn]at g;exact g
  have i:=condW_of g (w_not (w_lt w_lit (w_len_list (w_arg rfl))));rw[ba]at i;refine Nat.le_of_not_lt λq=>?_
  have v:(n:Int)<((ns.length:Nat):Int):=by omega
  first
   |(rw[za v]at i;exact absurd i (by decide))
   |(simp at i;omega)
 cases m with
 |cons w x =>
  cases x
  cases w with
  |list y f=>exact⟨_,_,ns,rfl,rfl,y,G3 ns _ f,e⟩
theorem G5(l:OpenLaw)(args:List WData):l.row.toRowW.claim.post args (.bool true) args=true :=
 postW_of (r:=l.row.toRowW) (X:=(true == true))
  (show WShape.has [] (.bool true) .bool=true by first|rfl|decide|simp[WShape.has,WShape.arms,WShape.armsAll])
  (show (WTm.eq .res (.lit (.bool true))).value [] { args:=args,res:=some (.bool true),after:=args }=some (.bool (true == true)) from w_eq_bool (w_res rfl) w_lit) rfl
theorem attach_call{l:OpenLaw}{n:Nat}{q:Program}{loose:List Str}{XP:(Str->Option Value)->Heap->Prop}{F:World->Heap->Prop}{d:DefRec}
  (hn:l.most=some n) (A:d.params.defaults=[])
  (call:∀ (w:World) (c b:Shared) (p u:Str->Option Value) (h:Addr) (o:Obj) (v s e:Value) (a:Addr) (vs:List Value) (ns:List Int),
   Ground q loose [] XP w c p u b.heap->F w b.heap →
   b.heap.get? h=some o->o.data=.func (docDef d.name d.params d.body d.scope v s e)->b.heap.CodeRec s d.name->p d.name=some (.ref h) →
   b.heap.get? a=some { cls:=.type "list",data:=.seq vs.toArray }->IntsAre vs ns->ns.length<=n->b.gens=#[] →
   codeAny (model l.prog w) callerA (.call (.ref h) ⟨[.ref a],[]⟩) (λr s'=>r=.ok (.ret (.bool true))/\OldK b.heap s'.heap/\s'.os=b.os/\AllBare s'.gens) b) :
  WalkO q loose XP F l.row.toRowW d [] (λf vs=>PySem.call f vs):=by
 intro w c b p u G Y h o v s e I kV J K x hD y L B C R i E M z N;obtain rfl:I=.none:=Dflts.none hD A;obtain rfl:kV=.none:=Dflts.noKw hD;obtain⟨a,vs,ns,rfl,rfl,j,g,m⟩:=G4 hn i z;refine enter_call (ik (call w c b p u h o v s e a vs ns G Y J (fd_plain K) x y j g m L) λr s' H=>?_);obtain⟨rfl,O,P,Q⟩:=H;exact⟨.inl ⟨.bool true,.bool true,[],rfl,λ_=>rfl,.bool true,G5 l _,λ_=>⟨rn,λ_ hm=>(nomatch hm)⟩⟩,O,P,Q⟩
end Att
namespace L2
open PySem PySem.Spec PyProof.Rows
theorem vD:∀{vs:List Value}{ns:List Int},IntsAre vs ns->bB (ns.map V.int) vs
 |_,_,.nil=>.nil
 |_,_,.cons n t h=>.cons ⟨t,rfl⟩ (vD h)
def vE(H:Hp):Prop:=∀b,H b=none\/∃o xs,H b=some (.frz o (.lst xs))
theorem G6{P:Program}{w:World}{K:Fg1}{E O:Str->Option Value}{CX:iN}{k:Nat}{Q a:Addr}{fd:FuncData}{x:Str}{sp:Sp}{s₁:Shared}{vs:List Value}{ns:List Int}
  (KX:K.In s₁.heap) (G:s₁.heap.Ns mainGlobals E) (f:s₁.heap.Ns builtinsNs O) (R:∀x:Str,x ≠ "__name__" -> O x=bootBuiltins x) (I:s₁.heap.NoLimit) (hg:s₁.gens=#[])
  (J:s₁.heap.get? a=some { cls:=.type "list",data:=.seq vs.toArray }) (hi:IntsAre vs ns) (hl:ns.length<=sizeLine) (hr:aM k callerA)
  (F:∀base:Heap,K.In base->base.Ns mainGlobals E->ax P w K E base CX k Q fd [x] sp) (j:∀(s:Shared) (u:Value),BindsTo s fd ⟨[u],[]⟩ [(x,u)])
  (T:∀H:Hp,vE H->bJ K H a (ns.map V.int)->sp [.ref a] H (λv _=>v=.bl true) λ_ _ _=>False)
  (U:∀H e s',CX [] H s₁ (λ_ _ _=>False) e s'->False) :
  codeAny (model P w) callerA (.call (.ref Q) ⟨[.ref a],[]⟩) (λr s'=>r=.ok (.ret (.bool true))/\OldK s₁.heap s'.heap/\s'.os=s₁.os/\AllBare s'.gens) s₁:=by
 have Z:=vD hi;have A:=hi.length
 have i:∀H:Hp,vE H->bJ K H a (ns.map V.int)->cJ P w H s₁.heap->(∀b,H b≠none->b=a)->(H a≠none->K.lookup a=none) →
   codeAny (model P w) callerA (.call (.ref Q) ⟨[.ref a],[]⟩) (λr s'=>r=.ok (.ret (.bool true))/\OldK s₁.heap s'.heap/\s'.os=s₁.os/\AllBare s'.gens) s₁:=by
  intro H X hS l Y hK;have c:∀{b:Addr} {o:Obj},s₁.heap.get? b=some o->H b=none->(kZ s₁.heap H).get? b=some o:=λe n=>E8 e n
  have L:∀{b:Addr} {o:Obj} {es:Array DictEntry} {ep:Nat},s₁.heap.get? b=some o->o.data=.dict es ep->H b=none:=λ{b o es ep} e d=>by
   cases q:H b with
   |none=>rfl
   |some u =>
    have M:b=a:=Y b (by rw[q];simp);subst M;rw[J]at e;cases e;have d':Data.seq vs.toArray _=Data.dict es ep:=d
    cases d'
  have g:∀{b:Addr} {m:Str->Option Value},s₁.heap.Ns b m->(kZ s₁.heap H).Ns b m:=λ{b m} ⟨o,es,ep,e,d,r⟩=>⟨o,es,ep,c e (L e d),d,r⟩
  have B:K.In (kZ s₁.heap H):=λ b o e=>c (KX b o e) (by
   cases q:H b with
   |none=>rfl
   |some u =>
    have M:b=a:=Y b (by rw[q];simp);subst M;rw[hK (by rw[q];simp)]at e;cases e)
  have hM:Mod K E (kZ s₁.heap H):=⟨B,g G,⟨O,g f,R⟩,let ⟨mc,h1,h2⟩:=I;⟨mc,g h1,h2⟩⟩
  have e0:eE P w K E (kZ s₁.heap H) callerA [] s₁ H:=⟨rfl,hM,λb o e=>E9 e,Nat.le_of_eq (E7 _ _),trivial,λb f=>absurd (show b∈([]:List Addr) from f) (by simp),l,.of_eq hg⟩
  refine ik ((F _ B (g G)).run callerA [] s₁ H ⟨[.ref a],[]⟩ [.ref a] [.ref a] _ _ hr e0 (j s₁ (.ref a)) (.cons rfl .nil) (T H X hS)) λr s' h=>?_
  cases r with
  |error e=>exact(U H e s' h).elim
  |ok fl =>
   cases fl with
   |next=>exact False.elim h
   |brk=>exact False.elim h
   |cont=>exact False.elim h
   |ret u =>
    obtain⟨v,H',os,p,un,y,r',q⟩:=h;have q':v=.bl true:=q;subst q';obtain rfl:u=Value.bool true:=r';refine⟨rfl,OldK.of_keep λb o e=>?_,os,p⟩
    cases q:H b with
    |none=>exact un.keep b o e q (by intro z;exact absurd (show b∈([]:List Addr) from z) (by simp)) (by simp)
    |some u =>
     rcases X b with z|⟨ob,xs,z⟩
     ·rw[q]at z;cases z
     ·have z2:=un.frzs b ob _ z
      have⟨e1,_⟩:=l b _ z;have⟨e2,_⟩:=y b _ z2;rw[e]at e1;cases e1;exact e2
 cases N:K.lookup a with
 |some o =>
  have e:=KX a o N;rw[J]at e;cases e;refine i (λ_=>none) (λ_=>.inl rfl) (.inr ⟨_,vs.toArray,_,N,rfl,rfl,rfl,by rw[oa,A];exact hl,by simpa using Z⟩) (λb u z=>by have C:(none:Option HO)=some u:=z;cases C) (λb z=>absurd rfl z) λz=>absurd rfl z
 |none =>
  refine i (λb=>if b=a then some (.frz { cls:=.type "list",data:=.seq vs.toArray } (.lst (ns.map V.int))) else none) (λb=>?_) (.inl (.inr ⟨{ cls:=.type "list",data:=.seq vs.toArray },da rfl⟩)) (λb u z=>?_) (λb z=>?_) λ_=>N
  ·by_cases f:b=a
   ·exact .inr ⟨_,_,da f⟩
   ·exact .inl (qa f)
  ·by_cases f:b=a
   ·have C:=(da f).symm.trans z
    cases C
    subst f;exact⟨J,by rw[ba];exact hl,vs,_,Z,J⟩
   ·have C:=(qa f).symm.trans z
    cases C
  ·by_cases f:b=a
   ·exact f
   ·exact absurd (qa f) z
theorem walk_of{l:PySem.W.OpenLaw}{n k:Nat}{q:Program}{loose:List Str}{XP:(Str->Option Value)->Heap->Prop}{L:World->Heap->Prop}{d:DefRec}{K:Params->Fg1}{CX:World->iN}{sp:World->Sp}{x:Str}
  (hn:l.most=some n) (A:n<=sizeLine) (B:d.params.defaults=[]) (X:aM k callerA)
  (Z:∀(w:World) (h:Heap),L w h->(K w.params).In h)
  (F:∀ (w:World) (j:Str->Option Value) (r:Addr) (h:Heap),(K w.params).In h->h.Ns mainGlobals j->j d.name=some (.ref r) →
   ∃fd:FuncData,(∀(s:Shared) (u:Value),BindsTo s fd ⟨[u],[]⟩ [(x,u)]) ∧
    ∀base:Heap,(K w.params).In base->base.Ns mainGlobals j->ax l.prog w (K w.params) j base (CX w) k r fd [x] (sp w))
  (C:∀(w:World) (H:Hp) (a:Addr) (ns:List Int),ns.length<=n->vE H->bJ (K w.params) H a (ns.map V.int)->sp w [.ref a] H (λv _=>v=.bl true) λ_ _ _=>False)
  (E:∀(w:World) (H:Hp) (s:Shared) (e:Value) (z:Shared),CX w [] H s (λ_ _ _=>False) e z->False) :
  PySem.W.WalkO q loose XP L l.row.toRowW d [] (λf vs=>PySem.call f vs):=by
 refine Att.attach_call hn B λw I m j mb r o pm cd M a vs ns G Y ho hd N y p i c O=>?_
 have J:=Z w _ Y;have⟨fd,R,U⟩:=F w j r _ J G.T.g y;exact G6 J G.T.g G.T.b G.T.builtins G.T.nolimit O p i (wd c A) X U R (λH P Q=>C w H a ns c P Q) λH e z=>E w H m e z
abbrev aQ:iN:=λ_ _ _ _ _ _=>False
abbrev E0:XK:=λ_ _ _=>False
theorem Aw{X:Cx}:ox aQ X E0:=λ_ _ _ _ _ _ _ h=>h.elim
structure ec(K:Fg1)(x qual:Str)(st:Stmt)(f:Addr)(fd:FuncData):Prop where
 ex:∃(oc:Value) (od:Option Addr) (kV doc pm:Value) (an:Option Addr) (cdv ct:Value) (osl:Array (Option Value)),
  fd=PySem.W.fnOf x qual (kY st) (e6 st) (bt st) .none kV doc pm an cdv ct/\K.lookup f=some ⟨oc,od,.func fd,osl⟩/\PySem.W.codeIn K cdv qual=true
 kp:PySem.W.keepIn K (.ref f)=true
section
variable {P:Program}{w:World}{K:Fg1}{mg:Str->Option Value}{base:Heap}
theorem ec.ok{x b:Str}{st:Stmt}{f:Addr}{i:FuncData}{N ps:List Str}{k:Nat}{sp:Sp}(F:ec K x b st f i)(S:ay N ps (bt st))(len:∀vs H Q E,sp vs H Q E->vs.length=ps.length)
  (d:∀ (c:Value) (A:Around) (a:List Env) (s:Shared) (H:Hp) (vs:List V) (Q:VK) (E:XK),aM k (A.deeper (envOfC b (bt st) s.heap.objs.size f c))->sp vs H Q E →
   ∃t,bT (cP aQ P w K mg base N b (bt st) f c A a s H E).nox (e6 st) t/\t { nx:=λ_ H'=>Q .non H',rt:=Q } (ju N vs) H):ax P w K mg base aQ (k+1) f i ps sp:=by
 obtain⟨o,p,kV,l,r,u,c,v,m,rfl,n,g⟩:=F.ex;refine Ai n g S len λA a s H vs Q E j e=>?_
 have⟨t,h,q⟩:=d c A a s H vs Q E j e;exact⟨t,h.nox,q⟩
theorem ec.binds{x a:Str}{st:Stmt}{f:Addr}{j:FuncData}{ps:List Str}(F:ec K x a st f j)
  (h:∀(kV b d:Value) (e:Option Addr) (c g:Value) (i:List Value),i.length=ps.length->bindArgs (PySem.W.fnOf x a (kY st) (e6 st) (bt st) .none kV b d e c g) ⟨i,[]⟩=pure (ps.zip i)):c9 K j ps []:=by
 obtain⟨n,o,kV,b,d,e,c,g,l,rfl,p,m⟩:=F.ex;exact .all (h kV b d e c g)
theorem hT{x a:Str}{st:Stmt}{f:Addr}{j:Value}{m g:Option Addr}{e:Array (Option Value)}{kV d h b i:Value}(l:K.lookup f=some ⟨j,m,.func (PySem.W.fnOf x a (kY st) (e6 st) (bt st) .none kV d h g b i),e⟩)
  (c:PySem.W.codeIn K b a=true) (k:PySem.W.keepIn K (.ref f)=true):ec K x a st f (PySem.W.fnOf x a (kY st) (e6 st) (bt st) .none kV d h g b i):=⟨⟨j,m,kV,d,h,g,b,i,e,rfl,l,c⟩,k⟩
end
def aS(H H':Hp):Prop:=∀b o,H b=some o->H' b=some o
theorem aS.refl(H:Hp):aS H H:=λ_ _ h=>h
theorem aS.trans{H d H2:Hp}(a:aS H d)(b:aS d H2):aS H H2:=λc o h=>b c o (a c o h)
theorem aS.free{H H':Hp}(e:aS H H'){l:Addr}(h:H' l=Option.none):H l=Option.none:=by
 cases q:H l with
 |none=>rfl
 |some o =>
  rw[e l o q]at h;cases h
theorem aS.seq{K:Fg1}{H H':Hp}{a:Addr}{xs:List V}(e:aS H H')(h:bJ K H a xs):bJ K H' a xs:=by
 rcases h with(h|⟨o,h⟩)|h
 ·exact .inl (.inl (e _ _ h))
 ·exact .inl (.inr ⟨o,e _ _ h⟩)
 ·exact .inr h
noncomputable def jQ(env:Env)(x:Str)(k:NameKind):NameKind:=if (k == NameKind.free && env.scope.kind == .function && env.kindOf x == some .cell)=true then NameKind.cell else k
theorem Ax:∀(a:List (Str×NameKind)) (x:Str),
  (a.map λ(n,k)=>if (k == NameKind.free && env.scope.kind == .function && env.kindOf n == some .cell) then (n,NameKind.cell) else (n,k)).lookup x=(a.lookup x).map (jQ env x)
 |[],_=>rfl
 |(n,k)::r,x=>by
  have d:=Ax (env:=env) r x;show List.lookup x ((if (k == NameKind.free && env.scope.kind == .function && env.kindOf n == some .cell)=true then (n,NameKind.cell) else (n,k))::_)=_
  cases c:x == n with
  |true =>
   have e:x=n:=by simpa using c
   subst e;by_cases b:(k == NameKind.free && env.scope.kind == .function && env.kindOf x == some .cell)=true
   ·rw[da b];simp only[af,c,ze,jQ,da b]
   ·rw[qa b];simp only[af,c,ze,jQ,qa b]
  |false =>
   by_cases b:(k == NameKind.free && env.scope.kind == .function && env.kindOf n == some .cell)=true
   ·rw[da b];simp only[af,c];exact d
   ·rw[qa b];simp only[af,c];exact d
theorem vF(a:Scope)(env:Env)(x:Str):(relabel a env).names.lookup x=(a.names.lookup x).map (jQ env x):=Ax _ _
noncomputable def hU(env:Env):List (Str×NameKind)->List (Str×Addr)->List (Str×Addr)
 |[],a=>a
 |(n,k)::r,a=>hU env r (if (k == NameKind.free)=true then (n,(env.cells.lookup n).getD 0)::a else a)
theorem vG(h:∀y∈scope.names,y.2=.free->∃c,env.cells.lookup y.1=some c):closureFor scope env=pure (hU env scope.names []):=by
 unfold closureFor;generalize scope.names=b at h
 have g:∀(b:List (Str×NameKind)) (cs:List (Str×Addr)),(∀y∈b,y.2=.free->∃c,env.cells.lookup y.1=some c) →
   (forIn b cs (λ(x:Str×NameKind) (r:List (Str×Addr))=>match x with|(name,d)=>(if (d == NameKind.free)=true then (do let a ← cellOf env name;pure (ForInStep.yield ((name,a)::r))) else pure (ForInStep.yield r):Sem (ForInStep (List (Str×Addr))))))=pure (hU env b cs):=by
  intro b
  induction b with
  |nil=>intro cs _;rfl
  |cons y r o =>
   intro cs f;obtain⟨n,k⟩:=y;rw[List.forIn_cons];by_cases m:k=.free
   ·subst m
    have⟨c,j⟩:=f (n,.free) va rfl;have e1:cellOf env n=pure c:=by unfold cellOf;rw[j]
    have e2:=o ((n,c)::cs) λz hz=>f z (la _ hz)
    have i:hU env ((n,NameKind.free)::r) cs=hU env r ((n,c)::cs):=by
     show hU env r (if (NameKind.free == NameKind.free)=true then (n,(env.cells.lookup n).getD 0)::cs else cs)=_;rw[da (show (NameKind.free == NameKind.free)=true by decide),show env.cells.lookup n=some c from j];rfl
    rw[i,<-e2];simp only[vo,wm,e1];rfl
   ·have l:(k == NameKind.free)=false:=by simpa using m
    have e2:=o cs λz hz=>f z (la _ hz)
    have i:hU env ((n,k)::r) cs=hU env r cs:=by
     show hU env r (if (k == NameKind.free)=true then (n,(env.cells.lookup n).getD 0)::cs else cs)=_;rw[qa (by rw[l];exact ma)]
    rw[i,<-e2];simp only[l,zd,xi];rfl
 have e:=g b [] h;refine Eq.trans ?_ (Eq.trans (de (λt:Sem (List (Str×Addr))=>t >>= λr=>pure r) e) ?_)
 ·rfl
 ·rfl
theorem vH:∀(b:List (Str×NameKind)) (g:List (Str×Addr)),(∀y∈b,y.2=.free->∃c,env.cells.lookup y.1=some c)->(∀x c,g.lookup x=some c->env.cells.lookup x=some c) →
  ∀x c,(hU env b g).lookup x=some c->env.cells.lookup x=some c
 |[],g,_,i,x,c,h=>i x c h
 |(n,k)::r,g,m,i,x,c,h=>by
  refine vH r _ (λz hz=>m z (la _ hz)) (λz d f=>?_) x c h;by_cases l:k=.free
  ·subst l
   have⟨a,j⟩:=m (n,.free) va rfl;rw[da (show (NameKind.free == NameKind.free)=true by decide),show env.cells.lookup n=some a from j]at f;rw[af]at f
   cases hz:z == n with
   |true =>
    have e:z=n:=by simpa using hz
    subst e;rw[hz]at f;rw[j];exact f
   |false=>rw[hz]at f;exact i z d f
  ·have o:(k == NameKind.free)=false:=by simpa using l
   rw[qa (by rw[o];exact ma)]at f;exact i z d f
theorem Ay:∀(a:List (Str×NameKind)) (e:List (Str×Addr)),(a.lookup x=some .free\/∃c,e.lookup x=some c)->∃c,(hU env a e).lookup x=some c
 |[],e,h=>by
  rcases h with h|h
  ·cases h
  ·exact h
 |(n,k)::r,e,h=>by
  refine Ay r _ ?_
  cases d:x == n with
  |true =>
   rcases h with h|⟨c,h⟩
   ·rw[af,d]at h
    cases h;refine .inr ⟨(env.cells.lookup n).getD 0,?_⟩
    rw[da (show (NameKind.free == NameKind.free)=true by decide),af,d]
   ·by_cases b:(k == NameKind.free)=true
    ·refine .inr ⟨(env.cells.lookup n).getD 0,?_⟩
     rw[da b,af,d]
    ·exact .inr ⟨c,by rw[qa b];exact h⟩
  |false =>
   rcases h with h|⟨c,h⟩
   ·rw[af,d]at h
    exact .inl h
   ·refine .inr ⟨c,?_⟩
    by_cases b:(k == NameKind.free)=true
    ·rw[da b,af,d];exact h
    ·rw[qa b];exact h
noncomputable def pT(X:Cx)(vars:List Str)(cap:List Nat):List Str:=vars++cap.map λi=>X.N.getD i ""
def fF(n:Nat)(cap:List Nat)(σ:St):St:=List.replicate n none++cap.map λi=>(σ[i]?).getD none
def cD(X:Cx)(scope:Scope)(C:Addr)(vars:List Str)(cap:List Nat)(s:Shared)(H:Hp)(ex:List Addr):Cx :=
 { X with N:=pT X vars cap,s₀:=s,H₀:=H,env:=compEnvC scope (hU X.env scope.names []) C X.env,outer:=X.stack,stack:=X.stack,ex:=ex,fn:=λ_=>false,xe:=λ_ _=>False }
structure cy(X:Cx)(scope:Scope):Prop where
 kind:scope.kind=.function
 cell:∀y∈scope.names,y.2≠.cell
 names:∀y∈scope.names,y.2=.local->scope.names.lookup y.1=some .local
 free:∀y∈scope.names,y.2=.free->X.env.kindOf y.1=some .cell\/X.env.kindOf y.1=some .free
section
variable {X:Cx}{pins:List (Addr×Obj)}{σ:St}{H:Hp}{s:Shared}
theorem cJ.track(x:cJ P w H h)(hn:H a=none)(new:cA P w (aG H a o) h a o):cJ P w (aG H a o) h:=λb u e=>by
 by_cases d:b=a
 ·subst d;rw[bi]at e;cases e;exact new
 ·rw[aK d]at e
  exact(x b u e).stay (λc v _ q=>q) (λc q=>by rw[aK (cC q hn)];exact q) λc xs q=>by rw[aK (cC q hn)];exact q
theorem Un.later(u:Un fs ex H H1 h h1)(hH:∀b o,H b=some o->b<h.objs.size)(k:∀b o,b<h.objs.size->h1.get? b=some o->h2.get? b=some o)(e:∀b,b<h.objs.size->H2 b=H1 b):Un fs ex H H2 h h2 where
 keep:=λb o q n hb hx=>k b o (ib q) (u.keep b o q n hb hx)
 slot:=λb o q n hb hx=>by
  have⟨sl,z⟩:=u.slot b o q n hb hx;exact⟨sl,k b _ (ib q) z⟩
 free:=λb o q n hx=>by rw[e b (ib q)];exact u.free b o q n hx
 there:=λb o q hx=>by
  have⟨o',z⟩:=u.there b o q hx;exact⟨o',k b o' (ib q) z⟩
 tups:=λb xs q=>by rw[e b (hH b _ q)];exact u.tups b xs q
 frzs:=λb o v q=>by rw[e b (hH b _ q)];exact u.frzs b o v q
 tbls:=λb ps q=>by
  have⟨m,z⟩:=u.tbls b ps q;exact⟨m,by rw[e b (hH b _ q)];exact z⟩
theorem cy.cells(S:cy X scope)(I:aw X pins σ H s):∀y∈scope.names,y.2=.free->∃c,X.env.cells.lookup y.1=some c:=λy a b=>I.ok.has y.1 (S.free y a b)
theorem sw{a:Type}:∀{l:List (Str×a)}{x:Str}{v:a},l.lookup x=some v->(x,v)∈l:=λh=>PySem.mem_of_lookup h
theorem G7 (S:cy X scope) (I:aw X pins σ H s) (A:∀i∈cap,i<X.N.length/\scope.names.lookup (X.N.getD i "")≠some .local)
  (w:∀b∈fp,js X pins H b) (T:∀b∈fp,b<s.heap.objs.size) (L:s.heap.objs.size<=C) (J:∀b o,s.heap.get? b=some o->h1.get? b=some o) (hn:h1.Ns C m) :
  aw (cD X scope C vars cap s H fp) pins (fF vars.length cap σ) H { s with heap:=h1,toks:=t' }:=by
 have g:=S.cells I;have snd:=vH (env:=X.env) scope.names [] g (λx c h=>by cases h);have hlt:∀b o,H b=some o->b<s.heap.objs.size:=λb o e=>I.hok.lt e
 have stk:∀b,b∈d7 X.stack->b<s.heap.objs.size:=λb f=>by
  rcases pb.mp (I.stkSub b f) with e|e
  ·rw[e];exact I.lt
  ·have⟨_,o,ho,_⟩:=I.ok.funs.mem e
   exact ub (ib ho) I.sz
 have B:∀x,((cD X scope C vars cap s H fp).env.kindOf x=some .cell\/(cD X scope C vars cap s H fp).env.kindOf x=some .free)->scope.names.lookup x=some .free:=λx h=>by
  have h':(scope.names.lookup x).map (jQ X.env x)=some .cell\/(scope.names.lookup x).map (jQ X.env x)=some .free:=by
   rw[<-vF scope X.env x];exact h
  cases e:scope.names.lookup x with
  |none=>rw[e]at h';rcases h' with z|z <;> cases z
  |some k =>
   have nc:k≠.cell:=S.cell (x,k) (sw e);rw[e]at h';unfold jQ at h'
   cases k <;> first|rfl|exact absurd rfl nc|(simp at h')
 have G:(cD X scope C vars cap s H fp).Ok:=by
  refine⟨I.ok.mod,S.kind,I.ok.glob,I.ok.blt,L,λ x y c h1 h2=>I.ok.inj x y c (snd x c h1) (snd y c h2),λ x hx=>Ay scope.names [] (.inl (B x hx)),λ x c h=>(Bool.false_ne_true h).elim,I.ok.hd,I.ok.frames,.inl rfl,
   λb f=>⟨?_,λx c h=>(w b f).2.2.2.2.1 x c (snd x c h)⟩,λb o e=>I.bs b o e,wd I.ok.bsz I.sz,λb o e f=>?_,λb f M=>?_,I.stack,I.stkFree⟩
  ·exact ic (ub (T b f) L)
  ·rcases(w b f).2.2.2.1 with z|z
   ·exact I.ok.noex b o e z
   ·exact absurd (ub (ib (I.ok.bs b o e).1) z) (qh _)
  ·rcases pb.mp (I.stkSub b M) with z|z
   ·exact(w b f).2.1 z
   ·exact(w b f).2.2.1 z
 refine⟨G,rfl,I.bare,Un.kept J,⟨m,hn,λi x v e1 e2 e3=>?_⟩,λx c e=>?_,I.hok.fresh L,λx c e=>I.freeC x c (snd x c e),λp hp=>?_,I.hok.kept J,?_⟩
 ·-- the names of around
  have e1:(pT X vars cap)[i]?=some x:=e1;have a:(relabel scope X.env).names.lookup x=some .local\/(relabel scope X.env).names.lookup x=some .cell\/(relabel scope X.env).names.lookup x=some .free:=e3;unfold fF at e2;by_cases hi:i<vars.length
  ·rw[cf (by simpa using hi),cg]at e2
   split at e2 <;> cases e2
  ·rw[sf (by simpa using hi),zj,ed]at e2
   unfold pT at e1;rw[sf (by omega),ed]at e1
   cases K:cap[i - vars.length]? with
   |none=>rw[K]at e1;cases e1
   |some j =>
    rw[K]at e1 e2;have hj:j<X.N.length:=(A j (je K)).1
    have eN:X.N[j]?=some x:=by
     have z:X.N.getD j "" = x:=lc e1;rw[gc]at z
     cases q:X.N[j]? with
     |none=>rw[List.getElem?_eq_none_iff]at q;omega
     |some y=>rw[q]at z;exact de some z
    have P:σ[j]?=some (some v):=by
     have z:(σ[j]?).getD none=some v:=lc e2
     cases q:σ[j]? with
     |none=>rw[q]at z;cases z
     |some y=>rw[q]at z;exact de some z
    rw[vF]at a
    cases E:scope.names.lookup x with
    |none=>rw[E]at a;rcases a with z|z|z <;> cases z
    |some k =>
     rw[E]at a
     have nl:k≠.local:=λz=>by
      have z0:X.N.getD j "" = x:=lc e1;exact(A j (je K)).2 (by rw[z0,E,z])
     have nc:k≠.cell:=S.cell (x,k) (sw E)
     have kf:k=.free:=by
      unfold jQ at a
      cases k <;> first|rfl|exact absurd rfl nc|exact absurd rfl nl|(simp at a)
     subst kf
     have Q:gB X.env.scope x:=by
      rcases S.free (x,.free) (sw E) rfl with z|z
      ·exact .inr (.inl z)
      ·exact .inr (.inr z)
     have⟨m0,hn0,O⟩:=I.loc;have⟨u,r,l⟩:=O j x v eN P Q;refine⟨u,r,.inr ?_⟩
     have Z:(cD X scope C vars cap s H fp).env.kindOf x=some .cell\/(cD X scope C vars cap s H fp).env.kindOf x=some .free:=by
      show (relabel scope X.env).names.lookup x=some .cell\/(relabel scope X.env).names.lookup x=some .free;rw[vF,E];show some (jQ X.env x .free)=some .cell\/some (jQ X.env x .free)=some .free;unfold jQ;split
      ·exact .inl rfl
      ·exact .inr rfl
     have⟨c,U⟩:=G.has x Z;refine⟨Z,c,U,?_⟩;have R:=snd x c U;rcases l with⟨Y,_⟩|⟨_,c2,F,z⟩
     ·rcases S.free (x,.free) (sw E) rfl with z|z
      ·have z:X.env.kindOf x=some .cell:=z
       rw[Y]at z;cases z
      ·have z:X.env.kindOf x=some .free:=z
       rw[Y]at z;cases z
     ·rw[R]at F;cases F
      exact Heap.IsCell.keeps z J
 ·have⟨v,z⟩:=I.cell x c (snd x c e)
  exact⟨v,Heap.IsCell.keeps z J⟩
 ·have⟨e,n,ne,nf,d⟩:=I.pin p hp
  refine⟨J _ _ e,n,ic (ub (ib e) L),λz=>?_,d⟩;rcases pb.mp (I.stkSub p.1 z) with q|q
  ·exact ne q
  ·exact nf q
 ·unfold fF
  show _=(pT X vars cap).length;unfold pT;simp
theorem aw.repin(I:aw X (pins++[(a,o)]) σ H s)(w:∀p∈X.pn++pins,p.1≠a)(y:a∈X.ex\/X.s₀.heap.objs.size<=a)(k:∀b u,b≠a->s.heap.get? b=some u->h'.get? b=some u)(e:h'.get? a=some o')(A:∀v,o'.data≠.cell v) :
  aw X (pins++[(a,o')]) σ H { s with heap:=h',toks:=t' }:=by
 obtain⟨h,l,d,i,n⟩:=I.pin (a,o) (by simp);have r:aw X pins σ H s:=I.unpinned
 have cne:∀x c,X.env.cells.lookup x=some c->c≠a:=λx c q z=>by
  subst z;have⟨v,B,f,j⟩:=I.cell x c q;have h:s.heap.get? c=some o:=h;rw[h]at f;cases f;exact n v j
 have m:aw X pins σ H { s with heap:=h',toks:=t' }:=r.turned (it:=a) k l d y cne w;refine m.pins_of λp g=>?_
 rcases yc.mp g with z|z
 ·exact m.pin p (qc _ z)
 ·have z:p=(a,o'):=by simpa using z
  subst z;exact⟨e,l,d,i,A⟩
theorem aw.pinnew(I:aw X pins σ H s)(e:s.heap.get? a=some o)(hn:H a=none)(c:a≠X.env.locals)(d:a ∉ X.fs)(f:∀v,o.data≠.cell v):aw X (pins++[(a,o)]) σ H s:=by
 refine I.pins_of λp b=>?_
 rcases yc.mp b with z|z
 ·exact I.pin p (qc _ z)
 ·have z:p=(a,o):=by simpa using z
  subst z;exact⟨e,hn,c,d,f⟩
def k4(X:Cx)(ifs:List Expr)(t:TT):Prop :=
 ∀(pins:List (Addr×Obj)) (s:Shared) (σ:St) (H:Hp) (Q:Bool->Hp->Prop),aw X pins σ H s->t σ H Q →
  wpAny (model X.prog X.w) X.A (forIn ifs true λc r=>if r=true then do let ok ← isTrue c X.env (eval c X.env);pure (ForInStep.yield ok) else pure (ForInStep.yield r)) (TP X pins σ Q) X.xe s
def G8:TT:=λ_ H Q=>Q true H
theorem G9:k4 X [] G8:=λa s b H Q I h=>wpAny_tests_nil ⟨H,I,h⟩
theorem Ha(h:PT X c t):k4 X [c] t:=λa s b H Q I d=>wpAny_tests_one (h a s b H Q I d)
theorem Hb(I:Nat->Shared->Prop)
  (turn:∀ n s,I n s->wpAny (model prog w) A (pyNext it) (λ r a=>match r with
   |none=>R (.ok .next) a
   | some v=>wpAny (model prog w) A (letOwnedTupleGo target it v) (λ _ b=>wpAny (model prog w) A (assign target env v) (λ _ e =>
     wpAny (model prog w) A (forIn ifs true λ c r=>if r=true then do let ok ← isTrue c env (eval c env);pure (ForInStep.yield ok) else pure (ForInStep.yield r)) (λ ok d =>
      if ok=true then wpAny (model prog w) A (eval elt env) (λ x f =>
       wpAny (model prog w) A (call (.builtin "list.append") [acc,x]) (λ_ g=>∃m,m<n/\I m g) (λ_ _=>False) f) (notedBy (model prog w) A env λx s'=>R (.error x) s') d
      else ∃m,m<n/\I m d) (λ_ _=>False) e) (λ_ _=>False) b) (λ_ _=>False) a) (λ_ _=>False) s)
  (n:Nat) (h:I n s) :
  codeAny (model prog w) A (.compLoop (.ListComp elt [⟨target,iter,ifs,0⟩] scope pos) 0 it acc env) R s:=by
 refine codeAny_loop rfl I (λn s u=>?_) n h;show wpAny _ A ((compTurn (.ListComp elt [⟨target,iter,ifs,0⟩] scope pos) 0 it acc env).onRaise (λx=>do noteFrame x env;theTreesLotGoes x)) _ _ s;refine wpAny_noted ?_;rw[compTurn_list];refine aa (yj (aa (re (turn n s u) (λr a i=>?_) λ_ _ h'=>h'.elim)))
 cases r with
 |none=>exact ia i
 |some v =>
  refine aa (re i (λ_ b l=>?_) λ_ _ h'=>h'.elim);refine aa (re l (λ_ e o=>aa (re o (λok d j=>?_) λ_ _ h'=>h'.elim)) λ_ _ h'=>h'.elim)
  cases ok with
  |false=>exact ia ⟨rfl,j⟩
  |true =>
   exact aa (aa (re j (λx f p=>aa (re p (λ_ g q=>ia (ia ⟨rfl,q⟩)) λ_ _ h'=>h'.elim)) λ_ _ h'=>h'))
end
def Az(σ a:St):Prop:=a.length=σ.length/\∀(i:Nat) v,σ[i]?=some (some v)->a[i]?=some (some v)
def sx(J:It)(g:TG)(tt:TT)(te:TE)(c:St)(Q:List V->Hp->Prop)(H1:Hp):Prop :=
 ∃W:Nat->Nat->List V->Hp->Prop,(∃m,W 0 m [] H1)/\∀i m ys H,W i m ys H →
  (J.stop i H/\Q ys H)\/(J.go i H/\ys.length<sizeLine/\∃ N:List V->Hp->Prop,(∀ d H',N d H'->∃ f,f<m/\W (i+1) f d H') ∧
   ∀x H',J.yld i H x H'->g x c H' λa H2=>Az c a/\tt a H2 λb e=>if b=true then te a e λy h=>N (ys++[y]) h else N ys e)
def vI(wi:TI)(g:TG)(tt:TT)(te:TE)(n:Nat)(cap:List Nat):TE:=λσ H Q=>wi σ H λJ H1 =>
 sx J g tt te (fF n cap σ) (λys H'=>ys.length<=sizeLine/\∀D,H' D=none->Q (.ref D) (aG H' D (.lst ys))) H1
noncomputable abbrev k6(a:List Value)(n:Nat):Obj:={ cls:=.type "list",data:=.seq a.toArray n }
section
variable {X:Cx}{elt iter tg:Expr}{ifs:List Expr}{scope:Scope}{pos:Pos}{wi:TI}{g:TG}{tt:TT}{te:TE}{vars:List Str}{cap:List Nat}
theorem vJ{f:List (Addr×Obj)}{σ:St}{H:Hp}{s:Shared}{it:Addr}{G:List Addr}{tn:Nat->Heap->Prop}{J:It}{Q:List V->Hp->Prop}{RR:Value->Addr->Result->Shared->Prop}{E:Value->Shared->Prop}{xc:Shared->Hp->Addr->List Addr->Value->Shared->Prop}
  (hc:X.calm=true) (S:cy X scope) (hcap:∀i∈cap,i<X.N.length/\scope.names.lookup (X.N.getD i "")≠some .local) (I:aw X f σ H s) (T:gD X.prog X.w X.K tg J G it tn) (st:tn 0 s.heap) (hf:∀b∈G,js X f H b)
  (hg:∀s H C ex,PG (cD X scope C vars cap s H ex) tg g) (ht:∀s H C ex,k4 (cD X scope C vars cap s H ex) ifs tt) (he:∀s H C ex,PE ((cD X scope C vars cap s H ex).wish (xc s H C ex)) elt te)
  (hx:∀D C v P,s.heap.objs.size<=C->xc s H C G v P->notedBy (model X.prog X.w) X.A (cD X scope C vars cap s H G).env (λx P=>RR (.ref D) C (.error x) P) v P) (hL:sx J g tt te (fF vars.length cap σ) (λys H'=>ys.length<=sizeLine/\Q ys H') H)
  (fin:∀ (D C:Addr) (ys:List V) (H':Hp) (P:Shared) (m:Str->Option Value),Q ys H'->H' D=none->aw X f σ (aG H' D (.lst ys)) P->P.heap.Ns C m->(aG H' D (.lst ys)) C=none->C≠X.env.locals->X.s₀.heap.objs.size<=C →
   (∀x c,X.env.cells.lookup x=some c->c≠C)->(∀p∈X.pn++f,p.1≠C)->RR (.ref D) C (.ok .next) P) :
  wpAny (model X.prog X.w) X.A (newList []) (λ acc s₃=>wpAny (model X.prog X.w) X.A (newFunctionEnv scope X.env.globals (hU X.env scope.names []) [] X.env.qual none .none (some X.env)) (λ cenv s₄ =>
   codeAny (model X.prog X.w) X.A (.compStart (.ListComp elt [⟨tg,iter,ifs,0⟩] scope pos) 0 (.ref it) acc { cenv with scope:=relabel scope X.env }) (RR acc cenv.locals) s₄) E s₃) E s:=by
 refine ue (wpAny_newFunctionEnv S.cell (by intro y hy;simp at hy) (λh₁ L l=>?_) S.kind);dsimp only at L l ⊢;generalize hH2:s.heap.push { cls:=.type "list",dict:=none,data:=.seq ([]:List Value).toArray }=H2 at L l ⊢;have hC:H2.objs.size=s.heap.objs.size+1:=by rw[<-hH2,Heap.size_push]
 generalize hCe:H2.objs.size=C at L l hC ⊢;generalize O:s.heap.objs.size=D at hC ⊢;have hDC:D≠C:=by rw[hC];exact ic (xo _)
 have j:∀b,b<s.heap.objs.size->b≠C/\b≠D:=λb B=>by
  rw[O]at B;exact⟨by rw[hC];exact ic (Nat.lt_succ_of_lt B),ic B⟩
 have old:∀b o,s.heap.get? b=some o->h₁.get? b=some o:=λb o e=>l.extBut b o (j b (ib e)).1 (na _ (hH2 ▸ na _ e))
 have hacc:h₁.get? D=some (k6 [] 0):=l.extBut _ _ hDC (na _ (by rw[<-hH2,<-O];exact zb _ rfl));have R:s.heap.objs.size<=C:=by rw[hC,<-O];exact zu _
 have hob:∀b∈G,b<s.heap.objs.size:=λb B=>by
  have⟨o,e,_⟩:=T.obj 0 _ st b B;exact ib e
 have I0:aw (cD X scope C vars cap s H G) f (fF vars.length cap σ) H { s with heap:=h₁,toks:=s.toks+([]:List (Str×Value)).length }:=G7 S I hcap hf hob R old L
 have stkb:∀b,b∈d7 X.stack->b<s.heap.objs.size:=λb B=>by
  rcases pb.mp (I.stkSub b B) with e|e
  ·rw[e];exact I.lt
  ·have⟨_,o,ho,_⟩:=I.ok.funs.mem e
   exact ub (ib ho) I.sz
 have snd:=vH (env:=X.env) scope.names [] (S.cells I) (λx c h=>by cases h);have hDfs:D ∉ (cD X scope C vars cap s H G).fs:=λz=>absurd (stkb D z) (by rw[O];exact qh _)
 have hHD:H D=none:=I.hok.fresh (by rw[O];exact bb _);have I1:=I0.pinnew (a:=D) hacc hHD hDC hDfs (λv z=>by cases z);have pnD:∀p∈(cD X scope C vars cap s H G).pn++f,p.1≠D:=λp hp=>ic (by rw[<-O];exact ib (I.pin p hp).1)
 have U:∀{M:List Value} {n:Nat} {H':Hp},(∀b∈G,H' b=none)->∀b∈G,js (cD X scope C vars cap s H G) (f++[(D,k6 M n)]) H' b:=λ{M n H'} hn b B=>by
  have⟨f0,f1,f2,f3,f4,f5⟩:=hf b B;refine⟨hn b B,(j b (hob b B)).1,λz=>?_,.inl B,λx c e=>f4 x c (snd x c e),λp hp=>?_⟩
  ·rcases pb.mp (I.stkSub b z) with q|q
   ·exact f1 q
   ·exact f2 q
  ·have hp:p∈X.pn++(f++[(D,k6 M n)]):=hp
   rw[<-qf]at hp;rcases yc.mp hp with q|q
   ·exact f5 p q
   ·have q:p=(D,k6 M n):=by simpa using q
    subst q;exact λz=>(j b (hob b B)).2 z.symm
 have st1:tn 0 h₁:=T.keep 0 _ _ st λb _ o e=>old b o e
 obtain⟨W,⟨m0,w0⟩,turn⟩:=hL
 have loop:∀s₃:Shared,s₃={ s with heap:=h₁,toks:=s.toks+([]:List (Str×Value)).length } →
   codeAny (model X.prog X.w) X.A (.compLoop (.ListComp elt [⟨tg,iter,ifs,0⟩] scope pos) 0 (.ref it) (.ref D) (compEnvC scope (hU X.env scope.names []) C X.env)) (RR (.ref D) C) s₃:=by
  rintro s₃ rfl
  refine Hb (env:=(cD X scope C vars cap s H G).env) (λn P=>∃i ys M k H',aw (cD X scope C vars cap s H G) (f++[(D,k6 M k)]) (fF vars.length cap σ) H' P/\bB ys M/\tn i P.heap/\(∀b∈G,H' b=none)/\W i n ys H') ?_ m0
   ⟨0,[],[],0,H,I1,.nil,st1,λb B=>(hf b B).1,w0⟩
  rintro n s3 ⟨i,ys,M,k,H3,I3,Z,gA,fr3,w3⟩;rcases turn i n ys H3 w3 with⟨stop,hz,qn⟩|⟨go,hz,N,hN,step⟩
  ·refine aX (T.done (cD X scope C vars cap s H G) rfl rfl rfl hc i _ s3 _ H3 (λ_ _=>False) I3 (U fr3) gA stop) λr s4 ⟨hr,I4⟩=>?_
   subst hr;obtain⟨eD,nD,_,_,_⟩:=I4.pin (D,k6 M k) (by simp);have⟨m4,ns4,_⟩:=id I4.loc;have hC3:H3 C=none:=I4.free;refine fin D C ys H3 s4 m4 qn nD ?_ ns4 (by rw[aK (ve hDC)];exact hC3) (ve (j _ I.lt).1) (wd I.sz R) (λx c e=>?_) (λp hp=>(j _ (ib (I.pin p hp).1)).1)
   ·refine I.call' (ch:=G) I4.os (Un.later I4.base (λb o e=>I.hok.lt e) (λb o _ q=>q) λb B=>by rw[aK (j b B).2]) ?_ I4.bare λb B=>?_
    ·exact I4.hok.track nD ⟨hz,M,k,Z,eD⟩
    ·have⟨f0,f1,f2,f3,f4,f5⟩:=hf b B
     exact⟨f3,f1,f4,f5⟩
   ·have⟨v,z⟩:=I.cell x c e
    exact(j _ z.lt).1
  ·refine aX (T.item (cD X scope C vars cap s H G) rfl rfl rfl hc i _ s3 _ H3 (λ_ _=>False) I3 (U fr3) gA go) λr s4 ⟨u,hr,h4⟩=>?_
   subst hr;refine aX h4 λ_ s5 ⟨x,H5,I5,r5,y5,st5,fr5⟩=>?_
   have I5':=I5.pinned (U fr5) (T.obj _ _ st5);refine aX (hg s H C G _ s5 _ H5 x u _ I5' r5 (step x H5 y5)) λ_ s6 ⟨σ6,H6,I6,sub6,q6⟩=>?_
   have Y:∀{σ7:St} {H7:Hp} {s7:Shared},aw (cD X scope C vars cap s H G) (f++[(D,k6 M k)]++pR G s5.heap) σ7 H7 s7->Az (fF vars.length cap σ) σ7 →
     aw (cD X scope C vars cap s H G) (f++[(D,k6 M k)]) (fF vars.length cap σ) H7 s7/\tn (i+1) s7.heap/\∀b∈G,H7 b=none:=λ{σ7 H7 s7} I7 sub7=>by
    refine⟨I7.unpinned.weak sub7.1.symm sub7.2,T.keep _ _ _ st5 λb B o e=>(I7.pin (b,o) (qc _ (qc _ (rX B e)))).1,λb B=>?_⟩;have⟨o,e,d⟩:=T.obj _ _ st5 b B;exact(I7.pin (b,o) (qc _ (qc _ (rX B e)))).2.1
   refine aX (ht s H C G _ s6 σ6 H6 _ I6 q6) λok s7 ⟨H7,I7,q7⟩=>?_
   cases ok with
   |false =>
    have⟨J7,st7,fr7⟩:=Y I7 sub6;have⟨m',hm,w7⟩:=hN _ _ q7;exact⟨m',hm,i+1,ys,M,k,H7,J7,Z,st7,fr7,w7⟩
   |true =>
    refine re (he s H C G _ s7 σ6 H7 _ (I7.wish _) q7) (λv s8 ⟨y,H8,I8,r8,q8⟩=>?_) λv s8 z=>hx D C v s8 R z
    have⟨J8,st8,fr8⟩:=Y I8.unwish sub6;have⟨m',hm,w8⟩:=hN _ _ q8;obtain⟨eD,nD,_,_,_⟩:=J8.pin (D,k6 M k) (by simp);have hlen:=Z.length;refine cm F.slot_list_append ⟨_,eD,rfl⟩ F.entry_list_append (F.args_list_append_2 _ _) (PySem.list_append D M.toArray k v (by rw[oa];omega)) ⟨eD,?_⟩;have q:=PySem.IsL.update eD (λxs=>xs.push v)
    have J9:aw (cD X scope C vars cap s H G) (f++[(D,_)]) (fF vars.length cap σ) H8 { s8 with heap:=s8.heap.update D (Obj.mapSeq λxs=>xs.push v),toks:=s8.toks } :=
     J8.repin pnD (.inr (show s.heap.objs.size<=D by rw[O];exact bb _)) (λb u B e=>(cc _ _ (ve B)).trans e) q (λv z=>by cases z)
    have e9:(M.toArray.push v)=(M++[v]).toArray:=by simp
    rw[e9]at J9;exact⟨m',hm,i+1,ys++[y],M++[v],_,H8,J9,Z.append (.cons r8 .nil),T.keep _ _ _ st8 λb B o e=>(cc _ _ (ve (j b (hob b B)).2)).trans e,fr8,w8⟩
 exact codeAny_compStart_list (loop _ rfl) (T.self X.A 0 _ _ _ st1 (loop _ rfl))
theorem Hc (U:X.calm=true) (S:cy X scope) (d:∀i∈cap,i<X.N.length/\scope.names.lookup (X.N.getD i "")≠some .local) (Y:PI X tg iter wi)
  (Z:∀s H C ex,PG (cD X scope C vars cap s H ex) tg g) (ht:∀s H C ex,k4 (cD X scope C vars cap s H ex) ifs tt) (he:∀s H C ex,PE (cD X scope C vars cap s H ex) elt te)
  (hs:∀x,foldedSetIterable iter X.env x=pure x:=by intro _;rfl):PE X (.ListComp elt [⟨tg,iter,ifs,0⟩] scope pos) (vI wi g tt te vars.length cap):=by
 intro a s r H Q I h;rw[eval_ListComp];refine jk (use:=none) rfl hs (vG (S.cells I)) S.kind S.names ?_;refine aX (Y a s r H _ I h) λv s1 u=>aX u λy s2 B=>?_
 obtain⟨it,fp,tn,J,H2,e,O,T,q,P,R⟩:=B;subst e;refine vJ (xc:=λ_ _ _ _ _ _=>False) (RR:=λf C=>compPost (model X.prog X.w) X.A X.xe none (EP X a r Q) f C) (Q:=λys H'=>∀D,H' D=none->Q (.ref D) (aG H' D (.lst ys))) U S d O T q P Z ht he (λ_ _ _ _ _ z=>z.elim) R ?_;intro D C ys H' G m K hD L hn M j l n p;refine⟨m,hn,λE c=>⟨.ref D,_,?_,rfl,K D hD⟩⟩;exact L.turned (it:=C) (t':=G.toks) (λb o F e=>c.extBut b o F e) M j (.inr l) n p
theorem Hd (hN:X.N.Nodup) (L:X.N[i]?=some x) (P:X.env.scope.names.lookup x=some .local) (hc:X.calm=true) (S:cy X scope) (p:∀i∈cap,i<X.N.length/\scope.names.lookup (X.N.getD i "")≠some .local) (hi:PI X tg iter wi)
  (hg:∀s H C ex,PG (cD X scope C vars cap s H ex) tg g) (ht:∀s H C ex,k4 (cD X scope C vars cap s H ex) ifs tt) (he:∀s H C ex,PE (cD X scope C vars cap s H ex) elt te)
  (M:swapsWith (.ListComp elt [⟨tg,iter,ifs,0⟩] scope pos) (some (.Name x pos')) spos.line X.env=pure true:=by rfl)
  (hs:∀x,foldedSetIterable iter X.env x=pure x:=by intro _;rfl):PS X (.Assign [.Name x pos'] (.ListComp elt [⟨tg,iter,ifs,0⟩] scope pos) spos) (vp (vI wi g tt te vars.length cap) (rW i)):=by
 intro c s O H D I h;rw[exec_Assign_Name_used _ _ _ _ M];refine aa (yj (aa ?_));show wpAny _ X.A (do let _ ← comprehension (.ListComp elt [⟨tg,iter,ifs,0⟩] scope pos) scope X.env _ (newList []) false (eval iter X.env) (some (assign (.Name x pos') X.env))) _ _ s;refine aa (re (jk (use:=some (assign (.Name x pos') X.env)) (Q:=λ_ f=>SP X c D .next f) rfl hs (vG (S.cells I)) S.kind S.names ?_) (λ_ f q=>ia (ia q)) λ_ _ e=>e);refine aX (hi c s O H _ I h) λv s1 R=>aX R λU s2 Y=>?_
 obtain⟨it,fp,tn,J,H2,e,I2,T,G,f2,q2⟩:=Y;subst e;refine vJ (xc:=λ_ _ _ _ _ _=>False) (RR:=λr C=>compPost (model X.prog X.w) X.A X.xe (some (assign (.Name x pos') X.env)) (λ_ f=>SP X c D .next f) r C) (Q:=λys H'=>∀d,H' d=none->rW i (.ref d) O (aG H' d (.lst ys)) D.nx) hc S p I2 T G f2 hg ht he (λ_ _ _ _ _ z=>z.elim) q2 ?_;intro d C ys H' f m q hD I' hn hC l E n F;show wpAny _ X.A (assign (.Name x pos') X.env (.ref d)) _ _ _;refine wpAny_assign_Name (zT I' hN L (.inl P) (v:=.ref d) rfl (λu y B=>?_) (.inr P));obtain⟨a,sb,ha⟩:=B
 have K:C≠a:=by
  rcases ha with z|z
  ·rw[z];exact l
  ·exact ve (n x a z)
 refine⟨m,hn.sameBut sb K,λZ j=>⟨_,_,?_,q d hD⟩⟩;exact y.turned (it:=C) (t':=u.toks) (λb o B e=>j.extBut b o B e) hC l (.inr E) n F
end
inductive D where
 |sc (v:V)|tup (ds:List D)|lst (ds:List D)|dk (ks:List aW) (ds:List D)|dt (ks:List (List aW)) (ds:List D)|er (n:Str) (ks:List Str) (ds:List D)
noncomputable def em{α β:Type}(f:α->β->Bool):List α->List β->Bool
 |[],[]=>true
 |a::as,b::bs=>f a b && em f as bs
 |_,_=>false
noncomputable def eP{α β:Type}(c lt:α->β->Bool):List α->List β->Bool
 |[],[]=>false
 |[],_::_=>true
 |_::_,[]=>false
 |a::as,b::bs=>if c a b=true then eP c lt as bs else lt a b
def HD(h:Heap):Nat->D->Value->Prop
 |0,d,u=>match d with|.sc v=>d9 v=true/\bj v u|_=>False
 |k+1,d,u=>match d with
  |.sc v=>d9 v=true/\bj v u
  |.tup ds=>∃a b,u=.ref a/\IsTup h a b.toArray/\Paired (HD h k) ds b
  |.lst ds=>∃a b,u=.ref a/\PlainL h a b.toArray/\Paired (HD h k) ds b
  |_=>False
def c6(K:Fg1)(H:Hp):Nat->D->V->Prop
 |0,d,x=>match d with|.sc v=>d9 v=true/\x=v|_=>False
 |k+1,d,x=>match d with
  |.sc v=>d9 v=true/\x=v
  |.tup ds=>∃a xs,x=.ref a/\dJ K H a xs/\Paired (c6 K H k) ds xs
  |.lst ds=>∃a xs,x=.ref a/\bJ K H a xs/\Paired (c6 K H k) ds xs
  |_=>False
def bw:Nat->D->D->Bool
 |0,d,e=>match d,e with|.sc a,.sc b=>iO a b|_,_=>false
 |k+1,d,e=>match d,e with
  |.sc a,.sc b=>iO a b
  |.tup ds,.tup es=>em (bw k) ds es
  |.lst ds,.lst es=>em (bw k) ds es
  |_,_=>false
noncomputable def sy:V->V->Bool
 |.int i,.int j=>decide (i<j)
 |.str x,.str y=>decide (x.cps.toList<y.cps.toList)
 |.bl a,.bl b=>decide (b2i a<b2i b)
 |_,_=>false
def dS:Nat->D->D->Bool
 |0,d,e=>match d,e with|.sc a,.sc b=>sy a b|_,_=>false
 |k+1,d,e=>match d,e with
  |.sc a,.sc b=>sy a b
  |.tup ds,.tup es=>eP (bw k) (dS k) ds es
  |.lst ds,.lst es=>eP (bw k) (dS k) ds es
  |_,_=>false
noncomputable def pU:V->V->Bool
 |.int _,.int _=>true
 |.str _,.str _=>true
 |.bl _,.bl _=>true
 |_,_=>false
def hV:Nat->D->D->Prop
 |0,d,e=>match d,e with|.sc a,.sc b=>pU a b=true|_,_=>False
 |k+1,d,e=>match d,e with
  |.sc a,.sc b=>pU a b=true
  |.tup ds,.tup es=>∀p∈ds.zip es,hV k p.1 p.2
  |.lst ds,.lst es=>∀p∈ds.zip es,hV k p.1 p.2
  |_,_=>False
theorem Paired.imp2{h i j:Type}{F:h->i->Prop}{G:j->i->Prop}{R:j->h->Prop}(f:∀a b c,F a b->R c a->G c b):∀{l₁:List h}{e:List i}{g:List j},Paired F l₁ e->Paired R g l₁->Paired G g e
 |_,_,_,.nil,.nil=>.nil
 |_,_,_,.cons a b,.cons c d=>.cons (f _ _ _ a c) (Paired.imp2 f b d)
section
variable {X:Cx}{pins:List (Addr×Obj)}{σ:St}{H:Hp}{s:Shared}
theorem aw.den(I:aw X pins σ H s):∀{k:Nat}{x:V}{d:D}{u:Value},c6 X.K H k d x->bj x u->HD s.heap k d u:=by
 intro k
 induction k with
 |zero =>
  intro x d u h r
  cases d with
  |sc v=>obtain⟨f,e⟩:=h;subst e;exact⟨f,r⟩
  |_=>exact h.elim
 |succ k j =>
  intro x d u h r
  cases d with
  |sc v=>obtain⟨f,e⟩:=h;subst e;exact⟨f,r⟩
  |tup ds =>
   obtain⟨a,xs,e,c,p⟩:=h;subst e;cases r;have⟨b,g,i,_⟩:=I.tuple c;exact⟨a,b,rfl,i,Paired.imp2 (F:=bj) (G:=HD s.heap k) (R:=c6 X.K H k) (λx u d r q=>j q r) g p⟩
  |lst ds =>
   obtain⟨a,xs,e,c,p⟩:=h;subst e;cases r;have⟨b,g,i,_⟩:=I.list c;exact⟨a,b,rfl,i,Paired.imp2 (F:=bj) (G:=HD s.heap k) (R:=c6 X.K H k) (λx u d r q=>j q r) g p⟩
  |_=>exact h.elim
end
theorem AB:∀{v:V},d9 v=true->iO v v=true
 |.non,_=>rfl
 |.bl b,_=>by simp[iO]
 |.int i,_=>by simp[iO]
 |.str x,_=>by simp[iO]
theorem sA(f:IsTup h a xs)(g:PlainL h a ys):False:=by
 obtain⟨o,e,c,_⟩:=f;have⟨i,b,d,_⟩:=g.isList;rw[e]at b;cases b;rw[c]at d;injection d with q;exact absurd q (by decide)
theorem AC{h:Heap}{a:Addr}{xs ys:List Value}(f:IsTup h a xs.toArray)(g:IsTup h a ys.toArray):xs=ys:=by
 obtain⟨o,e,c,n,d⟩:=f;obtain⟨i,b,j,n',d'⟩:=g;rw[e]at b;cases b;rw[d]at d';injection d' with q _
 simpa using q
theorem AD{h:Heap}{a:Addr}{xs ys:List Value}(f:PlainL h a xs.toArray)(g:PlainL h a ys.toArray):xs=ys:=by
 have⟨o,e,c,n,d⟩:=f.isList;have⟨i,b,j,n',d'⟩:=g.isList;rw[e]at b;cases b;rw[d]at d';injection d' with q _
 simpa using q
theorem vK(g:∀{d e:D}{u:Value},HD h k d u->HD h k e u->bw k d e=true):∀{ds es:List D}{f:List Value},Paired (HD h k) ds f->Paired (HD h k) es f->em (bw k) ds es=true
 |_,_,_,.nil,.nil=>rfl
 |_,_,_,.cons a b,.cons c d=>by
  show (bw k _ _ && em (bw k) _ _)=true;rw[g a c,vK g b d];rfl
theorem lO(f:d9 v=true)(r:bj v (.ref a)):False:=by
 cases v with
 |non=>cases r
 |bl b=>cases r
 |int i=>obtain⟨t,q⟩:=r;cases q
 |str x=>obtain⟨t,q⟩:=r;cases q
 |_=>cases f
theorem AE:∀{k:Nat}{d e:D}{u:Value},HD h k d u->HD h k e u->bw k d e=true:=by
 intro k
 induction k with
 |zero =>
  intro d e u c b
  cases d with
  |sc v =>
   cases e with
   |sc w =>
    obtain⟨f,r⟩:=c;obtain⟨s,m⟩:=b;have q:=r.inj m;subst q;exact AB f
   |_=>exact b.elim
  |_=>exact c.elim
 |succ k p =>
  intro d e u c b
  cases d with
  |sc v =>
   obtain⟨f,r⟩:=c
   cases e with
   |sc w =>
    obtain⟨s,m⟩:=b;have q:=r.inj m;subst q;exact AB f
   |tup es=>obtain⟨a,g,q,_⟩:=b;subst q;exact(lO f r).elim
   |lst es=>obtain⟨a,g,q,_⟩:=b;subst q;exact(lO f r).elim
   |_=>exact b.elim
  |tup ds =>
   obtain⟨a,g,q,j,n⟩:=c;subst q
   cases e with
   |sc w=>obtain⟨f,r⟩:=b;exact(lO f r).elim
   |tup es =>
    obtain⟨o,its',q,i,l⟩:=b;cases q;have q:=AC j i;subst q;exact vK p n l
   |lst es=>obtain⟨o,its',q,i,l⟩:=b;cases q;exact(sA j i).elim
   |_=>exact b.elim
  |lst ds =>
   obtain⟨a,g,q,j,n⟩:=c;subst q
   cases e with
   |sc w=>obtain⟨f,r⟩:=b;exact(lO f r).elim
   |lst es =>
    obtain⟨o,its',q,i,l⟩:=b;cases q;have q:=AD j i;subst q;exact vK p n l
   |tup es=>obtain⟨o,its',q,i,l⟩:=b;cases q;exact(sA i j).elim
   |_=>exact b.elim
  |_=>exact c.elim
noncomputable def bY{α β:Type}(f:α->β->Bool)(ds:List α)(es:List β)(j:Nat):Bool:=match ds[j]?,es[j]? with
 |some a,some b=>f a b
 |_,_=>false
theorem vL(f:α->β->Bool)(a:α)(b:β)(ds:List α)(es:List β)(j:Nat):bY f (a::ds) (b::es) (j+1)=bY f ds es j:=by
 unfold bY;simp
theorem mE(f:α->β->Bool):∀(ds:List α) (es:List β),ds.length=es.length->(List.range ds.length).all (bY f ds es)=em f ds es
 |[],[],_=>rfl
 |a::c,b::bs,h=>by
  have h':c.length=bs.length:=by simpa using h
  rw[wb,xp,zi,qu]
  have e:(bY f (a::c) (b::bs) ∘ Nat.succ)=bY f c bs:=by
   funext j;exact vL f a b c bs j
  rw[e,mE f c bs h'];rfl
 |[],_::_,h=>by simp at h
 |_::_,[],h=>by simp at h
theorem mF(f:α->β->Bool):∀{ds:List α}{es:List β},ds.length≠es.length->em f ds es=false
 |[],[],h=>absurd rfl h
 |a::c,b::bs,h=>by
  show (f a b && em f c bs)=false;rw[mF f (by simpa using h),Bool.and_false]
 |[],_::_,_=>rfl
 |_::_,[],_=>rfl
theorem f6:∀{l₁:List α}{c:List β}{j:Nat}{b:β},Paired F l₁ c->c[j]?=some b->∃a,l₁[j]?=some a/\F a b
 |_,_,_,_,.nil,e=>by simp at e
 |_,_,0,_,.cons r _,e=>by simp at e;subst e;exact⟨_,rfl,r⟩
 |_,_,j+1,_,.cons _ t,e=>by
  obtain⟨a,d,f⟩:=f6 (j:=j) t (by simpa using e);exact⟨a,by simpa using d,f⟩
section
variable {A:Around}{s:Shared}
theorem oy(l:∀{A:Around}{d e:D}{u v:Value},HD s.heap k d u->HD s.heap k e v->A.units+k<cLine->SeqAt.EqAt A s u v (bw k d e)){ds es:List D}{a its':List Value}(p:Paired (HD s.heap k) ds a)(m:Paired (HD s.heap k) es its')(n:A.units+(k+1)<cLine)
  (j:Nat) (b:j<a.toArray.size) (c:j<its'.toArray.size):SeqAt.EqAt A.in1 s a.toArray[j] its'.toArray[j] (bY (bw k) ds es j):=by
 have e1:a[j]?=some a.toArray[j]:=by simp at b;simp[b]
 have e2:its'[j]?=some its'.toArray[j]:=by simp at c;simp[c]
 have⟨d,f,g⟩:=f6 p e1;have⟨e,h,i⟩:=f6 m e2;have z:bY (bw k) ds es j=bw k d e:=by unfold bY;rw[f,h]
 rw[z];exact l g i (by show A.units+1+k<cLine;omega)
theorem k7:∀{k:Nat}{A:Around}{d e:D}{u v:Value},HD s.heap k d u->HD s.heap k e v->A.units+k<cLine->SeqAt.EqAt A s u v (bw k d e):=by
 intro k
 induction k with
 |zero =>
  intro A d e u v h g y
  cases d with
  |sc a =>
   cases e with
   |sc b=>exact Aq h.2 g.2 h.1 g.1
   |_=>exact g.elim
  |_=>exact h.elim
 |succ k E =>
  intro A d e u v h g y;have c:A.units<cLine:=by omega
  cases d with
  |sc a =>
   cases e with
   |sc b=>exact Aq h.2 g.2 h.1 g.1
   |tup es =>
    obtain⟨q,l,rfl,t,_⟩:=g;obtain⟨f,r⟩:=h;show SeqAt.EqAt A s u (.ref q) false
    cases a with
    |non=>cases r;exact SeqAt.EqAt.none_tuple t c
    |bl b=>cases r;exact SeqAt.EqAt.bool_tuple b t c
    |int i=>obtain⟨z,rfl⟩:=r;exact SeqAt.EqAt.int_tuple i z t c
    |str x=>obtain⟨z,rfl⟩:=r;exact SeqAt.EqAt.str_tuple x z t c
    |_=>cases f
   |lst es =>
    obtain⟨q,l,rfl,t,_⟩:=g;obtain⟨f,r⟩:=h;show SeqAt.EqAt A s u (.ref q) false
    cases a with
    |non=>cases r;exact SeqAt.EqAt.none_list t.isList c
    |bl b=>cases r;exact SeqAt.EqAt.bool_list b t.isList c
    |int i=>obtain⟨z,rfl⟩:=r;exact SeqAt.EqAt.int_list i z t.isList c
    |str x=>obtain⟨z,rfl⟩:=r;exact SeqAt.EqAt.str_list x z t.isList c
    |_=>cases f
   |_=>exact g.elim
  |tup ds =>
   cases e with
   |sc b =>
    obtain⟨q,l,rfl,t,_⟩:=h;obtain⟨f,r⟩:=g;show SeqAt.EqAt A s (.ref q) v false
    cases b with
    |non=>cases r;exact SeqAt.EqAt.tuple_none t c
    |bl b=>cases r;exact SeqAt.EqAt.tuple_bool b t c
    |int i=>obtain⟨z,rfl⟩:=r;exact SeqAt.EqAt.tuple_int i z t c
    |str x=>obtain⟨z,rfl⟩:=r;exact SeqAt.EqAt.tuple_str x z t c
    |_=>cases f
   |lst es =>
    obtain⟨q,l,rfl,t,_⟩:=h;obtain⟨m,its',rfl,t',_⟩:=g;exact SeqAt.EqAt.tuple_list t t'.isList c
   |tup es =>
    obtain⟨q,l,rfl,t,p⟩:=id h;obtain⟨m,its',rfl,t',n⟩:=id g;by_cases o:q=m
    ·subst o
     rw[AE h g];exact bq _
    ·refine SeqAt.EqAt.of_refs o ?_
     have z:=SeqAt.RcAt.tuples (e:=bY (bw k) ds es) t t' c λj h g=>oy E p n y j h g
     have B:=p.length;have C:=n.length
     have w:bw (k+1) (.tup ds) (.tup es)=((List.range (min l.toArray.size its'.toArray.size)).all (bY (bw k) ds es) && l.toArray.size == its'.toArray.size):=by
      show em (bw k) ds es=_;simp only[oa];rw[<-B,<-C];by_cases hl:ds.length=es.length
      ·rw[<-mE _ _ _ hl,hl,su]
       simp
      ·rw[mF _ hl]
       simp[hl]
     rw[w];exact z
   |_=>exact g.elim
  |lst ds =>
   cases e with
   |sc b =>
    obtain⟨q,l,rfl,t,_⟩:=h;obtain⟨f,r⟩:=g;show SeqAt.EqAt A s (.ref q) v false
    cases b with
    |non=>cases r;exact SeqAt.EqAt.list_none t.isList c
    |bl b=>cases r;exact SeqAt.EqAt.list_bool b t.isList c
    |int i=>obtain⟨z,rfl⟩:=r;exact SeqAt.EqAt.list_int i z t.isList c
    |str x=>obtain⟨z,rfl⟩:=r;exact SeqAt.EqAt.list_str x z t.isList c
    |_=>cases f
   |tup es =>
    obtain⟨q,l,rfl,t,_⟩:=h;obtain⟨m,its',rfl,t',_⟩:=g;exact SeqAt.EqAt.list_tuple t.isList t' c
   |lst es =>
    obtain⟨q,l,rfl,t,p⟩:=id h;obtain⟨m,its',rfl,t',n⟩:=id g;by_cases o:q=m
    ·subst o
     rw[AE h g];exact bq _
    ·refine SeqAt.EqAt.of_refs o ?_
     have B:=p.length;have C:=n.length;by_cases hl:ds.length=es.length
     ·have z:=SeqAt.RcAt.lists (e:=bY (bw k) ds es) t.isList t'.isList (by simp only[oa];omega) c λj h g=>oy E p n y j h g
      have w:bw (k+1) (.lst ds) (.lst es)=((List.range l.toArray.size).all (bY (bw k) ds es)):=by
       show em (bw k) ds es=_;simp only[oa];rw[<-B,<-mE _ _ _ hl]
      rw[w];exact z
     ·have w:bw (k+1) (.lst ds) (.lst es)=false:=mF _ hl
      rw[w];exact SeqAt.RcAt.lists_lengths t.isList t'.isList (by simp only[oa];simp;omega) c
   |_=>exact g.elim
  |_=>exact h.elim
end
end L2
namespace L2
open PySem PyProof.Rows
def mG(A:Around)(s:Shared)(y x:Value)(b:Bool):Prop :=
 ∀(prog:Program) (w:World) (E:Value->Shared->Prop) (Q:Value->Shared->Prop),Q (.bool b) s->wpAny (model prog w) A (richCompare .Lt y x) Q E s
noncomputable def fO(e c:Nat->Bool)(n m:Nat):Nat->Nat->Bool
 |0,_=>decide (n<m)
 |k+1,i=>if i<m then (if e i=true then fO e c n m k (i+1) else c i) else decide (n<m)
section
open PySem.SeqAt
open PySem.AutoSeq1 (wpAny_loadPart')
open PySem.MeetsSeq PySem.MeetsSeq2 PySem.MeetsSeq3
theorem He(l b:Addr)(items a:Array Value)(n E:Nat)(dd v:Option Addr)(sl x:Array (Option Value))(hsz:items.size=a.size)(e:Nat->Bool)(k:Nat) :
  ∀i:Nat,items.size - i=k->Meets (Builtin.«list.__eq__.loop» ⟨[.ref l,.ref b,rawInt i,rawInt 3],[]⟩)
   (λ A R s=>s.heap.get? l=some { cls:=.type "list",dict:=dd,data:=.seq items n,slots:=sl }/\s.heap.get? b=some { cls:=.type "list",dict:=v,data:=.seq a E,slots:=x } ∧
    (∀j (G:j<items.size) (H:j<a.size),EqAt A.in1 s items[j] a[j] (e j)) ∧
    R (.ok (.ret (.bool (!((List.range items.size).drop i).all e)))) s):=by
 induction k with
 |zero =>
  intro i y prog w A R s h;obtain⟨z,g,d,B,os⟩:=s;obtain⟨hl,p,r,h⟩:=h
  wp_walk using dc hl,dc p
  have c:items[((i:Nat):Int).toNat]?=none:=by simp;omega
  have f:a[((i:Nat):Int).toNat]?=none:=by simp;omega
  have u:(List.range items.size).drop i=[]:=by simp;omega
  rw[u]at h;rw[c,f]
  wp_walk using dc hl,dc p
  show R (.ok (.ret (.bool (items.size != a.size)))) _;rw[hsz]
  simpa using h
 |succ k F =>
  intro i y prog w A R s h;obtain⟨z,g,d,B,os⟩:=s;obtain⟨hl,p,r,h⟩:=h
  wp_walk using dc hl,dc p
  have o:i<items.size:=by omega
  have m:i<a.size:=by omega
  have c:items[((i:Nat):Int).toNat]?=some items[i]:=by simp[o]
  have f:a[((i:Nat):Int).toNat]?=some a[i]:=by simp[m]
  have u:(List.range items.size).drop i=i::(List.range items.size).drop (i+1):=by simp[jd,o]
  have C:((i:Int)+1)=((i+1:Nat):Int):=by push_cast;rfl
  rw[u,zi]at h;rw[c,f];refine aa (r i o m prog w _ _ ?_)
  cases q:e i with
  |true =>
   rw[q]at h
   wp_walk
   rw[C]
   exact⟨plainId_quiet plain_eq_loop _,codeAny_builtin entry_eq_loop (by
    rw[fg plain_eq_loop _];exact F (i+1) (by omega) prog w A R _ ⟨hl,p,r,by simpa using h⟩)⟩
  |false =>
   rw[q]at h
   wp_walk using dc hl,dc p
   rw[c,f]
   wp_walk
   simpa using h
theorem Hg(l b:Addr)(items a:Array Value)(n m:Nat)(dd c:Option Addr)(sl f:Array (Option Value))(hsz:items.size=a.size)(e:Nat->Bool) :
  Meets (Builtin.«list.__ne__» ⟨[.ref l,.ref b],[]⟩)
   (λ A R s=>s.heap.get? l=some { cls:=.type "list",dict:=dd,data:=.seq items n,slots:=sl }/\s.heap.get? b=some { cls:=.type "list",dict:=c,data:=.seq a m,slots:=f } ∧
    (∀j (v:j<items.size) (x:j<a.size),EqAt A.in1 s items[j] a[j] (e j)) ∧
    R (.ok (.ret (.bool (!(List.range items.size).all e)))) s):=by
 intro prog w A R s h;obtain⟨q,g,d,r,os⟩:=s;obtain⟨hl,i,o,h⟩:=h;have u:=il;have p:¬(items.size != a.size)=true:=by simp[hsz]
 wp_walk using dc hl,dc i
 exact⟨plainId_quiet plain_eq_loop _,codeAny_builtin entry_eq_loop (by
  rw[fg plain_eq_loop _];exact He l b items a n m dd c sl f hsz e _ 0 rfl prog w A R _ ⟨hl,i,o,by simpa using h⟩)⟩
theorem Hh(l b:Addr)(items a:Array Value)(n i:Nat)(dd c:Option Addr)(sl e:Array (Option Value))(j:(items.size != a.size)=true) :
  Meets (Builtin.«list.__ne__» ⟨[.ref l,.ref b],[]⟩)
   (λ _ R s=>s.heap.get? l=some { cls:=.type "list",dict:=dd,data:=.seq items n,slots:=sl }/\s.heap.get? b=some { cls:=.type "list",dict:=c,data:=.seq a i,slots:=e } ∧
    R (.ok (.ret (.bool true))) s) :=
 .of_wp λprog w A R s h=>by
  obtain⟨m,g,d,o,os⟩:=s;obtain⟨hl,f,h⟩:=h;have p:=il
  wp_walk using dc hl,dc f
  exact⟨_,rfl,h⟩
theorem Hi(l b:Addr)(items a:Array Value)(n H:Nat)(dd z:Option Addr)(sl B:Array (Option Value))(e c:Nat->Bool)(k:Nat) :
  ∀i:Nat,items.size - i=k->Meets (Builtin.«list.__eq__.loop» ⟨[.ref l,.ref b,rawInt i,rawInt 0],[]⟩)
   (λ A R s=>s.heap.get? l=some { cls:=.type "list",dict:=dd,data:=.seq items n,slots:=sl }/\s.heap.get? b=some { cls:=.type "list",dict:=z,data:=.seq a H,slots:=B } ∧
    (∀j (C:j<items.size) (E:j<a.size),EqAt A.in1 s items[j] a[j] (e j)/\(e j=false->mG A.in1 s items[j] a[j] (c j))) ∧
    R (.ok (.ret (.bool (fO e c items.size a.size k i)))) s):=by
 induction k with
 |zero =>
  intro i F prog w A R s h;obtain⟨u,g,d,v,os⟩:=s;obtain⟨hl,p,x,h⟩:=h
  wp_walk using dc hl,dc p
  have m:items[((i:Nat):Int).toNat]?=none:=by simp;omega
  rw[m]
  wp_walk using dc hl,dc p
  show R (.ok (.ret (.bool (decide (items.size<a.size))))) _
  simpa [fO] using h
 |succ k I =>
  intro i F prog w A R s h;obtain⟨u,g,d,v,os⟩:=s;obtain⟨hl,p,x,h⟩:=h
  wp_walk using dc hl,dc p
  have r:i<items.size:=by omega
  have m:items[((i:Nat):Int).toNat]?=some items[i]:=by simp[r]
  have G:((i:Int)+1)=((i+1:Nat):Int):=by push_cast;rfl
  rw[m];by_cases f:i<a.size
  ·have o:a[((i:Nat):Int).toNat]?=some a[i]:=by simp[f]
   rw[o];have h:R (.ok (.ret (.bool (if i<a.size then (if e i=true then fO e c items.size a.size k (i+1) else c i) else decide (items.size<a.size))))) ⟨u,g,d,v,os⟩:=h;rw[da f]at h;have⟨C,E⟩:=x i r f;refine aa (C prog w _ _ ?_)
   cases q:e i with
   |true =>
    rw[q,da rfl]at h
    wp_walk
    rw[G]
    exact⟨plainId_quiet plain_eq_loop _,codeAny_builtin entry_eq_loop (by
     rw[fg plain_eq_loop _];exact I (i+1) (by omega) prog w A R _ ⟨hl,p,x,h⟩)⟩
   |false =>
    rw[q,qa ma]at h;have y:=E q prog w
    wp_walk using dc hl,dc p
    rw[m,o]
    wp_walk using y
    exact h
  ·have o:a[((i:Nat):Int).toNat]?=none:=by simp;omega
   rw[o];have h:R (.ok (.ret (.bool (if i<a.size then (if e i=true then fO e c items.size a.size k (i+1) else c i) else decide (items.size<a.size))))) ⟨u,g,d,v,os⟩:=h;rw[qa f]at h
   wp_walk using dc hl,dc p
   exact h
theorem AF(l b:Addr)(items a:Array Value)(n o:Nat)(dd f:Option Addr)(sl i:Array (Option Value))(e c:Nat->Bool) :
  Meets (Builtin.«list.__lt__» ⟨[.ref l,.ref b],[]⟩)
   (λ A R s=>s.heap.get? l=some { cls:=.type "list",dict:=dd,data:=.seq items n,slots:=sl }/\s.heap.get? b=some { cls:=.type "list",dict:=f,data:=.seq a o,slots:=i } ∧
    (∀j (v:j<items.size) (x:j<a.size),EqAt A.in1 s items[j] a[j] (e j)/\(e j=false->mG A.in1 s items[j] a[j] (c j))) ∧
    R (.ok (.ret (.bool (fO e c items.size a.size items.size 0)))) s):=by
 intro prog w A R s h;obtain⟨q,g,d,r,os⟩:=s;obtain⟨hl,m,p,h⟩:=h;have u:=il
 wp_walk using dc hl,dc m
 exact⟨plainId_quiet plain_eq_loop _,codeAny_builtin entry_eq_loop (by
  rw[fg plain_eq_loop _];exact Hi l b items a n o dd f sl i e c _ 0 rfl prog w A R _ ⟨hl,m,p,h⟩)⟩
theorem Hj(l b:Addr)(items a:Array Value)(n M:Nat)(dd z:Option Addr)(sl B:Array (Option Value))(e:Nat->Bool) :
  Meets (Builtin.«tuple.__ne__» ⟨[.ref l,.ref b],[]⟩)
   (λ A R s=>s.heap.get? l=some { cls:=.type "tuple",dict:=dd,data:=.seq items n,slots:=sl }/\s.heap.get? b=some { cls:=.type "tuple",dict:=z,data:=.seq a M,slots:=B } ∧
    (∀j (G:j<items.size) (H:j<a.size),EqAt A.in1 s items[j] a[j] (e j)) ∧
    R (.ok (.ret (.bool (!((List.range (min items.size a.size)).all e && items.size == a.size))))) s) :=
 .of_wp λprog w A R s h=>by
  obtain⟨C,g,d,E,os⟩:=s;obtain⟨hl,I,J,h⟩:=h;have N:=AutoSeq1.sub_tuple_tuple;have F:(items.toList.zip a.toList).length=min items.size a.size:=by simp
  wp_walk using wpAny_loadPart' hl,wpAny_loadPart' I,wpAny_forIn_list _ (λ c b u=>b.1=none/\u=⟨C,g,d,E,os⟩/\∃ i,c=(items.toList.zip a.toList).drop i ∧
   R (.ok (.ret (.bool (!(((List.range (min items.size a.size)).drop i).all e && items.size == a.size))))) ⟨C,g,d,E,os⟩) _
  case turn =>
   rintro⟨y,x⟩ c b u ⟨m,rfl,i,hz,f⟩
   have q:i<(items.toList.zip a.toList).length:=by
    rcases zp i (items.toList.zip a.toList).length with h'|h'
    ·exact h'
    ·rw[oh h']at hz;cases hz
   have hm:i<min items.size a.size:=F ▸ q;have G:i<items.size:=ub hm (Nat.min_le_left _ _);have H:i<a.size:=ub hm (uo _ _);rw[jd q]at hz;injection hz with p o;have r:y=items[i]:=by have:=de Prod.fst p;simpa using this
   have K:x=a[i]:=by have:=de Prod.snd p;simpa using this
   subst r K;have L:(List.range (min items.size a.size)).drop i=i::(List.range (min items.size a.size)).drop (i+1):=by simp[jd,hm]
   rw[L,zi]at f;refine aa (J i G H prog w _ _ ?_)
   cases r:e i with
   |true =>
    rw[r]at f
    wp_walk
    exact⟨rfl,rfl,i+1,o,by simpa using f⟩
   |false =>
    rw[r]at f
    wp_walk
    exact⟨_,rfl,by simpa using f⟩
  case fin =>
   rintro⟨b1,b2⟩ u ⟨m,rfl,i,hz,f⟩;simp only at m;subst m
   have v:min items.size a.size<=i:=by
    rcases zp i (items.toList.zip a.toList).length with h'|h'
    ·rw[jd h']at hz;cases hz
    ·exact F ▸ h'
   rw[oh (by simpa using v)]at f
   wp_walk
   exact⟨_,rfl,by simpa [Builtin.Tuple.tupleCompareSizes,bne] using f⟩
  case h =>
   exact⟨rfl,rfl,0,rfl,by simpa using h⟩
theorem Hk(l b:Addr)(items a:Array Value)(n U:Nat)(dd F:Option Addr)(sl G:Array (Option Value))(e c:Nat->Bool) :
  Meets (Builtin.«tuple.__lt__» ⟨[.ref l,.ref b],[]⟩)
   (λ A R s=>s.heap.get? l=some { cls:=.type "tuple",dict:=dd,data:=.seq items n,slots:=sl }/\s.heap.get? b=some { cls:=.type "tuple",dict:=F,data:=.seq a U,slots:=G } ∧
    (∀j (z:j<items.size) (B:j<a.size),EqAt A.in1 s items[j] a[j] (e j)/\(e j=false->mG A.in1 s items[j] a[j] (c j))) ∧
    R (.ok (.ret (.bool (fO e c items.size a.size items.size 0)))) s) :=
 .of_wp λprog w A R s h=>by
  obtain⟨H,g,d,I,os⟩:=s;obtain⟨hl,M,N,h⟩:=h;have X:=AutoSeq1.sub_tuple_tuple;have J:(items.toList.zip a.toList).length=min items.size a.size:=by simp
  wp_walk using wpAny_loadPart' hl,wpAny_loadPart' M,wpAny_forIn_list _ (λ f b v=>b.1=none/\v=⟨H,g,d,I,os⟩/\∃ i,i<=items.size/\f=(items.toList.zip a.toList).drop i ∧
   R (.ok (.ret (.bool (fO e c items.size a.size (items.size - i) i)))) ⟨H,g,d,I,os⟩) _
  case turn =>
   rintro⟨y,x⟩ f b v ⟨o,rfl,i,L,hz,m⟩
   have r:i<(items.toList.zip a.toList).length:=by
    rcases zp i (items.toList.zip a.toList).length with h'|h'
    ·exact h'
    ·rw[oh h']at hz;cases hz
   have hm:i<min items.size a.size:=J ▸ r;have z:i<items.size:=ub hm (Nat.min_le_left _ _);have B:i<a.size:=ub hm (uo _ _);rw[jd r]at hz;injection hz with q p;have u:y=items[i]:=by have:=de Prod.fst q;simpa using this
   have Q:x=a[i]:=by have:=de Prod.snd q;simpa using this
   subst u Q;have K:items.size - i=(items.size - (i+1))+1:=by omega
   have C:fO e c items.size a.size (items.size - i) i=(if e i=true then fO e c items.size a.size (items.size - (i+1)) (i+1) else c i):=by
    rw[K];show (if i<a.size then _ else _)=_;rw[da B]
   rw[C]at m;have⟨O,P⟩:=N i z B;refine aa (O prog w _ _ ?_)
   cases u:e i with
   |true =>
    rw[u,da rfl]at m
    wp_walk
    exact⟨rfl,rfl,i+1,z,p,m⟩
   |false =>
    rw[u,qa ma]at m;have E:=P u prog w
    wp_walk using E
    exact⟨_,rfl,by simpa using m⟩
  case fin =>
   rintro⟨b1,b2⟩ v ⟨o,rfl,i,L,hz,m⟩;simp only at o;subst o
   have T:min items.size a.size<=i:=by
    rcases zp i (items.toList.zip a.toList).length with h'|h'
    ·rw[jd h']at hz;cases hz
    ·exact J ▸ h'
   have C:fO e c items.size a.size (items.size - i) i=decide (items.size<a.size):=by
    cases K:items.size - i with
    |zero=>rfl
    |succ k =>
     show (if i<a.size then _ else _)=_;rw[qa (by omega)]
   rw[C]at m
   wp_walk
   exact⟨_,rfl,by simpa [Builtin.Tuple.tupleCompareSizes] using m⟩
  case h =>
   exact⟨rfl,rfl,0,be _,rfl,by simpa using h⟩
end
end L2
namespace L2
open PySem PySem.Spec PyProof.Rows
theorem AG(f g:α->β->Bool):∀(ds:List α) (es:List β) (e c:Nat->Bool) (n m i:Nat),n=i+ds.length->m=i+es.length->(∀j,e (i+j)=bY f ds es j)->(∀j,c (i+j)=bY g ds es j)->fO e c n m ds.length i=eP f g ds es
 |[],[],e,c,n,m,i,hn,hm,_,_=>by
  show decide (n<m)=false;exact nb (by simp at hn hm;omega)
 |[],b::bs,e,c,n,m,i,hn,hm,_,_=>by
  show decide (n<m)=true;exact za (by simp at hn hm;omega)
 |a::d,[],e,c,n,m,i,hn,hm,_,_=>by
  show (if i<m then _ else decide (n<m))=false;rw[qa (by simp at hm;omega)];exact nb (by simp at hn hm;omega)
 |a::d,b::bs,e,c,n,m,i,hn,hm,l,o=>by
  show (if i<m then (if e i=true then fO e c n m d.length (i+1) else c i) else decide (n<m))=_;rw[da (by simp at hm;omega)];have p:e i=f a b:=by have:=l 0;simpa [bY] using this
  have q:c i=g a b:=by have:=o 0;simpa [bY] using this
  show _=if f a b=true then eP f g d bs else g a b
  rw[p,q];by_cases h:f a b=true
  ·rw[da h,da h]
   refine AG f g d bs e c n m (i+1) (by simp at hn;omega) (by simp at hm;omega) (λj=>?_) (λj=>?_)
   ·have:=l (j+1);rw[vL]at this;rw[<-this];congr 1;omega
   ·have:=o (j+1);rw[vL]at this;rw[<-this];congr 1;omega
  ·rw[qa h,qa h]
theorem vM(f g:α->β->Bool)(ds:List α)(es:List β):fO (bY f ds es) (bY g ds es) ds.length es.length ds.length 0=eP f g ds es :=
 AG f g ds es _ _ _ _ 0 (by simp) (by simp) (λj=>by rw[rf]) (λj=>by rw[rf])
section
variable {A:Around}{s:Shared}
theorem AH(ra:bj a u)(rb:bj b v)(h:pU a b=true):mG A s u v (sy a b):=by
 cases a with
 |int i =>
  cases b with
  |int j =>
   obtain⟨t,rfl⟩:=ra;obtain⟨t',rfl⟩:=rb;exact λprog w E Q q=>(lt_int q:wpAny (model prog w) A (compareOp .Lt (.int i t) (.int j t')) Q E s)
  |_=>cases h
 |str x =>
  cases b with
  |str y =>
   obtain⟨t,rfl⟩:=ra;obtain⟨t',rfl⟩:=rb;exact λprog w E Q q=>(lt_str q:wpAny (model prog w) A (compareOp .Lt (.str x t) (.str y t')) Q E s)
  |_=>cases h
 |bl x =>
  cases b with
  |bl y =>
   cases ra;cases rb
   exact λprog w E Q q=>(lt_bool q:wpAny (model prog w) A (compareOp .Lt (.bool x) (.bool y)) Q E s)
  |_=>cases h
 |_=>cases b <;> cases h
noncomputable def sB:D->D->Bool
 |.tup _,.tup _=>true
 |.lst _,.lst _=>true
 |_,_=>false
theorem vN:∀{ds:List α}{es:List β}{j:Nat}{a:α}{b:β},ds[j]?=some a->es[j]?=some b->(a,b)∈ds.zip es
 |[],_,_,_,_,h,_=>by simp at h
 |_::_,[],_,_,_,_,h=>by simp at h
 |d::ds,e::es,0,a,b,c,f=>by simp at c f;subst c f;simp
 |d::ds,e::es,j+1,a,b,c,f=>by
  have:=vN (ds:=ds) (es:=es) (j:=j) (a:=a) (b:=b) (by simpa using c) (by simpa using f)
  simp[this]
theorem sC:∀{k:Nat}{A:Around}{d e:D}{u v:Value},HD s.heap k d u->HD s.heap k e v->hV k d e->A.units+k<cLine->mG A s u v (dS k d e):=by
 intro k
 induction k with
 |zero =>
  intro A d e u v l m h hu
  cases d with
  |sc a =>
   cases e with
   |sc b=>exact AH l.2 m.2 h
   |_=>exact m.elim
  |_=>exact l.elim
 |succ k ih =>
  intro A d e u v l m h hu;have M:A.units<cLine:=by omega
  have items:∀{ds es:List D} {c its':List Value},Paired (HD s.heap k) ds c->Paired (HD s.heap k) es its'->(∀p∈ds.zip es,hV k p.1 p.2) →
    ∀j (l:j<c.toArray.size) (m:j<its'.toArray.size),SeqAt.EqAt A.in1 s c.toArray[j] its'.toArray[j] (bY (bw k) ds es j)/\(bY (bw k) ds es j=false->mG A.in1 s c.toArray[j] its'.toArray[j] (bY (dS k) ds es j)):=by
   intro ds es c its' p o r j Z j2;have e1:c[j]?=some c.toArray[j]:=by simp at Z;simp[Z]
   have e2:its'[j]?=some its'.toArray[j]:=by simp at j2;simp[j2]
   have⟨d,O,r1⟩:=f6 p e1;have⟨e,P,r2⟩:=f6 o e2;have z:bY (bw k) ds es j=bw k d e:=by unfold bY;rw[O,P]
   have z':bY (dS k) ds es j=dS k d e:=by unfold bY;rw[O,P]
   rw[z,z'];exact⟨k7 r1 r2 (by show A.units+1+k<cLine;omega),λ_=>ih r1 r2 (r (d,e) (vN O P)) (by show A.units+1+k<cLine;omega)⟩
  cases d with
  |sc a =>
   cases e with
   |sc b=>exact AH l.2 m.2 h
   |_=>exact h.elim
  |tup ds =>
   cases e with
   |tup es =>
    obtain⟨q,c,rfl,t,p⟩:=id l;obtain⟨R,its',rfl,t',o⟩:=id m;have X:=p.length;have Y:=o.length;have G:=items p o h;have⟨⟨T,dd,I,sl⟩,r,J,n,K⟩:=id t;have⟨⟨L,y,B,C⟩,f,g,U,i⟩:=id t';simp only at J K g i;subst J K g i;intro prog w E Q N
    have H:Q (.bool (fO (bY (bw k) ds es) (bY (dS k) ds es) c.toArray.size its'.toArray.size c.toArray.size 0)) s:=by
     simp only[oa];rw[<-X,<-Y,vM];exact N
    exact ph (op:=.Lt) ⟨_,r,rfl⟩ ⟨_,f,rfl⟩ PySem.F.slot_tuple_lt PySem.F.entry_tuple_lt (PySem.F.args_tuple_lt_2 _ _) (Hk q R c.toArray its'.toArray n U dd y sl C _ _)
     ⟨r,f,G,⟨(λx=>nomatch x),H⟩⟩ M
   |_=>exact h.elim
  |lst ds =>
   cases e with
   |lst es =>
    obtain⟨q,c,rfl,t,p⟩:=id l;obtain⟨R,its',rfl,t',o⟩:=id m;have X:=p.length;have Y:=o.length;have G:=items p o h;have⟨⟨T,dd,I,sl⟩,r,J,n,K⟩:=t.isList;have⟨⟨L,y,B,C⟩,f,g,U,i⟩:=t'.isList;simp only at J K g i;subst J K g i;intro prog w E Q N
    have H:Q (.bool (fO (bY (bw k) ds es) (bY (dS k) ds es) c.toArray.size its'.toArray.size c.toArray.size 0)) s:=by
     simp only[oa];rw[<-X,<-Y,vM];exact N
    exact ph (op:=.Lt) ⟨_,r,rfl⟩ ⟨_,f,rfl⟩ PySem.F.slot_list_lt PySem.F.entry_list_lt (PySem.F.args_list_lt_2 _ _) (AF q R c.toArray its'.toArray n U dd y sl C _ _)
     ⟨r,f,G,⟨(λx=>nomatch x),H⟩⟩ M
   |_=>exact h.elim
  |_=>exact l.elim
theorem Hl(c:HD s.heap (k+1) d u)(g:HD s.heap (k+1) e v)(l:sB d e=true)(n:A.units+(k+1)<cLine):SeqAt.RcAt A s u v (bw (k+1) d e):=by
 have f:A.units<cLine:=by omega
 cases d with
 |sc a=>cases e <;> cases l
 |tup ds =>
  cases e with
  |tup es =>
   obtain⟨q,b,rfl,t,p⟩:=id c;obtain⟨o,its',rfl,t',h⟩:=id g;have z:=SeqAt.RcAt.tuples (e:=bY (bw k) ds es) t t' f λj c g=>oy k7 p h n j c g
   have i:=p.length;have m:=h.length
   have w:bw (k+1) (.tup ds) (.tup es)=((List.range (min b.toArray.size its'.toArray.size)).all (bY (bw k) ds es) && b.toArray.size == its'.toArray.size):=by
    show em (bw k) ds es=_;simp only[oa];rw[<-i,<-m];by_cases hl:ds.length=es.length
    ·rw[<-mE _ _ _ hl,hl,su]
     simp
    ·rw[mF _ hl]
     simp[hl]
   rw[w];exact z
  |_=>cases l
 |lst ds =>
  cases e with
  |lst es =>
   obtain⟨q,b,rfl,t,p⟩:=id c;obtain⟨o,its',rfl,t',h⟩:=id g;have i:=p.length;have m:=h.length;by_cases hl:ds.length=es.length
   ·have z:=SeqAt.RcAt.lists (e:=bY (bw k) ds es) t.isList t'.isList (by simp only[oa];omega) f λj c g=>oy k7 p h n j c g
    have w:bw (k+1) (.lst ds) (.lst es)=((List.range b.toArray.size).all (bY (bw k) ds es)):=by
     show em (bw k) ds es=_;simp only[oa];rw[<-i,<-mE _ _ _ hl]
    rw[w];exact z
   ·have w:bw (k+1) (.lst ds) (.lst es)=false:=mF _ hl
    rw[w];exact SeqAt.RcAt.lists_lengths t.isList t'.isList (by simp only[oa];simp;omega) f
  |_=>cases l
 |_=>exact c.elim
theorem Hm(h:HD s.heap (k+1) d u)(m:HD s.heap (k+1) e v)(P:sB d e=true)(T:A.units+(k+1)<cLine)(B:Q (.bool (!bw (k+1) d e)) s) :
  wpAny (model prog w) A (compareOp .NotEq u v) Q E s:=by
 have y:A.units<cLine:=by omega
 cases d with
 |sc a=>cases e <;> cases P
 |tup ds =>
  cases e with
  |tup es =>
   obtain⟨q,b,rfl,t,p⟩:=id h;obtain⟨L,its',rfl,t',C⟩:=id m;have z:∀j (h:j<b.toArray.size) (m:j<its'.toArray.size),SeqAt.EqAt A.in1 s b.toArray[j] its'.toArray[j] (bY (bw k) ds es j):=λj h m=>oy k7 p C T j h m
   have O:=p.length;have R:=C.length
   have K:bw (k+1) (.tup ds) (.tup es)=((List.range (min b.toArray.size its'.toArray.size)).all (bY (bw k) ds es) && b.toArray.size == its'.toArray.size):=by
    show em (bw k) ds es=_;simp only[oa];rw[<-O,<-R];by_cases hl:ds.length=es.length
    ·rw[<-mE _ _ _ hl,hl,su]
     simp
    ·rw[mF _ hl]
     simp[hl]
   rw[K]at B;have⟨⟨N,dd,G,sl⟩,o,H,n,I⟩:=id t;have⟨⟨J,i,r,l⟩,c,f,M,g⟩:=id t';simp only at H I f g;subst H I f g
   exact ph (op:=.NotEq) ⟨_,o,rfl⟩ ⟨_,c,rfl⟩ PySem.F.slot_tuple_ne PySem.F.entry_tuple_ne (PySem.F.args_tuple_ne_2 _ _) (Hj q L b.toArray its'.toArray n M dd i sl l _)
    ⟨o,c,z,⟨(λx=>nomatch x),B⟩⟩ y
  |_=>cases P
 |lst ds =>
  cases e with
  |lst es =>
   obtain⟨q,b,rfl,t,p⟩:=id h;obtain⟨L,its',rfl,t',C⟩:=id m;have z:∀j (h:j<b.toArray.size) (m:j<its'.toArray.size),SeqAt.EqAt A.in1 s b.toArray[j] its'.toArray[j] (bY (bw k) ds es j):=λj h m=>oy k7 p C T j h m
   have O:=p.length;have R:=C.length;have⟨⟨N,dd,G,sl⟩,o,H,n,I⟩:=t.isList;have⟨⟨J,i,r,l⟩,c,f,M,g⟩:=t'.isList;simp only at H I f g;subst H I f g;by_cases hl:ds.length=es.length
   ·have K:bw (k+1) (.lst ds) (.lst es)=((List.range b.toArray.size).all (bY (bw k) ds es)):=by
     show em (bw k) ds es=_;simp only[oa];rw[<-O,<-mE _ _ _ hl]
    rw[K]at B
    exact ph (op:=.NotEq) ⟨_,o,rfl⟩ ⟨_,c,rfl⟩ PySem.F.slot_list_ne PySem.F.entry_list_ne (PySem.F.args_list_ne_2 _ _) (Hg q L b.toArray its'.toArray n M dd i sl l (by simp only[oa];omega) _)
     ⟨o,c,z,⟨(λx=>nomatch x),B⟩⟩ y
   ·have K:bw (k+1) (.lst ds) (.lst es)=false:=mF _ hl
    rw[K]at B
    exact ph (op:=.NotEq) ⟨_,o,rfl⟩ ⟨_,c,rfl⟩ PySem.F.slot_list_ne PySem.F.entry_list_ne (PySem.F.args_list_ne_2 _ _) (Hh q L b.toArray its'.toArray n M dd i sl l (by simp only[oa];simp;omega))
     ⟨o,c,⟨(λx=>nomatch x),B⟩⟩ y
  |_=>cases P
 |_=>exact h.elim
end
section
variable {X:Cx}
def vO(K:Fg1)(k:Nat):R2:=λx y H Q=>∃d e,c6 K H (k+1) d x/\c6 K H (k+1) e y/\sB d e=true/\Q (.bl (bw (k+1) d e)) H
def vP(K:Fg1)(k:Nat):R2:=λx y H Q=>∃d e,c6 K H (k+1) d x/\c6 K H (k+1) e y/\sB d e=true/\Q (.bl (!bw (k+1) d e)) H
def AI(K:Fg1)(k:Nat):R2:=λx y H Q=>∃d e,c6 K H (k+1) d x/\c6 K H (k+1) e y/\hV (k+1) d e/\Q (.bl (dS (k+1) d e)) H
theorem Ho(k:Nat)(j:X.A.units+(k+1)<cLine):bC X (compareOp .Eq) (vO X.K k):=by
 intro a s l H x y v u Q I b c h;obtain⟨d,e,f,g,i,q⟩:=h;exact Hl (I.den f b) (I.den g c) i j X.prog X.w X.xe _ ⟨.bl _,H,I,rfl,q⟩
theorem Hq(k:Nat)(j:X.A.units+(k+1)<cLine):bC X (compareOp .NotEq) (vP X.K k):=by
 intro a s l H x y v u Q I b c h;obtain⟨d,e,f,g,i,q⟩:=h;exact Hm (I.den f b) (I.den g c) i j ⟨.bl _,H,I,rfl,q⟩
theorem Hr(k:Nat)(j:X.A.units+(k+1)<cLine):bC X (compareOp .Lt) (AI X.K k):=by
 intro a s l H x y v u Q I b c h;obtain⟨d,e,f,g,i,q⟩:=h;exact sC (I.den f b) (I.den g c) i j X.prog X.w X.xe _ ⟨.bl _,H,I,rfl,q⟩
end
section
variable {X:Cx}
example (K:Fg1):PySem.W.kitOne K (.type "int") (.type "int")=some true:=by rfl
example (K:Fg1):PySem.W.kitOne K (.type "bool") (.type "int")=some true:=by rfl
example (K:Fg1):PySem.W.kitOne K (.type "int") (.type "bool")=some false:=by rfl
example (K:Fg1):PySem.W.kitOne K (.type "list") (.type "list")=some true:=by rfl
end
section
variable {X:Cx}{a b c e o:Expr}{ta tb tc te to:TE}{pos:Pos}
theorem PE.imp(h:PE X e t)(f:∀σ H Q,t' σ H Q->t σ H Q):PE X e t':=λa s σ H Q I q=>h a s σ H Q I (f σ H Q q)
theorem PT.imp(h:PT X e t)(f:∀σ H Q,t' σ H Q->t σ H Q):PT X e t':=λa s σ H Q I q=>h a s σ H Q I (f σ H Q q)
theorem bC.imp(h:bC X f r)(g:∀x y H Q,r' x y H Q->r x y H Q):bC X f r':=λa s b H x y v u Q I c d q=>h a s b H x y v u Q I c d (g x y H Q q)
theorem d2.imp(h:d2 X f r)(g:∀xs H Q,r' xs H Q->r xs H Q):d2 X f r':=λa s b H xs c Q I d q=>h a s b H xs c Q I d (g xs H Q q)
theorem gF.imp(h:gF X r)(g:∀x y H Q,r' x y H Q->r x y H Q):gF X r':=λa b c s d H x y v u Q I e f q hs=>h a b c s d H x y v u Q I e f (g x y H Q q) hs
theorem gG.imp{id:String}{r r':V->List V->Hp->VK->Prop}(h:gG X id r)(g:∀x xs H Q,r' x xs H Q->r x xs H Q):gG X id r':=λa s b H x xs v c Q I d e q=>h a s b H x xs v c Q I d e (g x xs H Q q)
theorem hA.imp(h:hA X r)(g:∀x lo hi H Q,r' x lo hi H Q->r x lo hi H Q):hA X r':=λa s b H x v c d lo hi sl Q I e hs f i q=>h a s b H x v c d lo hi sl Q I e hs f i (g x lo hi H Q q)
theorem PI.imp(h:PI X tg e wi)(g:∀σ H R,wi' σ H R->wi σ H R):PI X tg e wi':=λa s σ H R I q=>h a s σ H R I (g σ H R q)
theorem PG.imp(h:PG X tg t)(g:∀v σ H Q,t' v σ H Q->t v σ H Q):PG X tg t':=λa s σ H v u Q I r q=>h a s σ H v u Q I r (g v σ H Q q)
def k2(C:Int->Int->Prop)(g:Int->Int->V):R2:=λx y H Q=>match x,y with|.int i,.int j=>C i j/\Q (g i j) H|_,_=>False
def fG(g:Int->Int->V):R2:=λx y H Q=>match x,y with|.int i,.int j=>Q (g i j) H|_,_=>False
theorem vQ(h:bC X f (rI C g)):bC X f (k2 C g):=h.imp λx y H Q q=>by
 unfold k2 at q
 split at q
 ·exact⟨_,_,rfl,rfl,q⟩
 ·exact q.elim
theorem pV(h:bC X f (lM g)):bC X f (fG g):=h.imp λx y H Q q=>by
 unfold fG at q
 split at q
 ·exact⟨_,_,rfl,rfl,q⟩
 ·exact q.elim
theorem Hs:bC X (binaryOp .Add) (fG λi j=>.int (i+j)):=pV FP
theorem jw:bC X (binaryOp .FloorDiv) (k2 vw λi j=>.int (i / j)):=vQ FQ
theorem gH:bC X (binaryOp .Mod) (k2 (λ_ j=>0<j) λi j=>.int (i % j)):=vQ FR
theorem AJ:bC X (compareOp .Lt) (fG λi j=>.bl (decide (i<j))):=pV FY
theorem AK:bC X (compareOp .LtE) (fG λi j=>.bl (decide (i<=j))):=pV FZ
theorem lP:bC X (compareOp .Gt) (fG λi j=>.bl (decide (j<i))):=pV F2
theorem Ht:bC X (compareOp .GtE) (fG λi j=>.bl (decide (j<=i))):=pV F3
def k8(a:Bool):R2:=λx y H Q=>match x,y with
 |.int i,.int j=>Q (.bl (if a then !decide (i=j) else decide (i=j))) H
 |.str i,.str j=>Q (.bl (if a then !decide (i=j) else decide (i=j))) H
 |.bl i,.bl j=>Q (.bl (if a then !decide (i=j) else decide (i=j))) H
 |_,_=>False
theorem mH[Decidable p][Decidable q](h:p↔q):decide p=decide q:=by
 by_cases a:p
 ·rw[za a,za (h.mp a)]
 ·rw[nb a,nb λz=>a (h.mpr z)]
theorem Hu:bC X (compareOp .Eq) (k8 false):=FW.imp λx y H Q q=>by
 unfold k8 at q
 split at q
 ·exact⟨rfl,by rw[mH (q:=_=_) ⟨λz=>V.int.inj z,λz=>de V.int z⟩];exact q⟩
 ·exact⟨rfl,by rw[mH (q:=_=_) ⟨λz=>V.str.inj z,λz=>de V.str z⟩];exact q⟩
 ·exact⟨rfl,by rw[mH (q:=_=_) ⟨λz=>V.bl.inj z,λz=>de V.bl z⟩];exact q⟩
 ·exact q.elim
theorem Hv:bC X (compareOp .NotEq) (k8 true):=FX.imp λx y H Q q=>by
 unfold k8 at q
 split at q
 ·exact⟨rfl,by rw[mH (q:=_=_) ⟨λz=>V.int.inj z,λz=>de V.int z⟩];exact q⟩
 ·exact⟨rfl,by rw[mH (q:=_=_) ⟨λz=>V.str.inj z,λz=>de V.str z⟩];exact q⟩
 ·exact⟨rfl,by rw[mH (q:=_=_) ⟨λz=>V.bl.inj z,λz=>de V.bl z⟩];exact q⟩
 ·exact q.elim
def vR(t:TE):TT:=λσ H Q=>t σ H λx H'=>match x with|.bl k=>Q k H'|_=>False
theorem sE{x:V}{P:Bool->Prop}(q:match x with|.bl k=>P k|_=>False):∃k,x=.bl k/\P k:=by
 split at q
 ·exact⟨_,rfl,q⟩
 ·exact q.elim
theorem Hw{op:CmpOp}{r:R2}(p:bC X (compareOp op) r)(w:PE X a ta)(A:PE X b tb)(hm:behindInMarks op b=false):PT X (.Compare a [op] [b] pos) (vR (pS r ta tb)):=by
 intro c s o H Q I h;refine wpAny_isTrue_Compare1 (rY w A I h λv u d x y e f g i q=>aX (p c d o e x y v u _ f g i q) λz B ⟨C,j,l,m,n⟩=>?_) hm;obtain⟨k,rfl,q⟩:=sE n;cases m;exact ng ⟨j,l,q⟩
theorem Hx{t:TE}(h:PE X e t)(j:∀whole,isTrue e X.env whole=(do let v ← whole;standAt e.pos;holding [v] (truthy v)):=by intro _;rfl):PT X e (vR t):=by
 intro a s g H Q I i;refine isTrue_plain (aX (h a s g H _ I i) λv l ⟨x,b,c,d,f⟩=>?_) (j _);obtain⟨k,rfl,q⟩:=sE f;cases d;exact ng ⟨b,c,q⟩
def Hy(ta tb:TE):TE:=λσ H Q=>ta σ H λx H1=>match x with|.bl c=>if c=true then tb σ H1 Q else Q (.bl false) H1|_=>False
def Hz(ta tb:TE):TE:=λσ H Q=>ta σ H λx H1=>match x with|.bl c=>if c=true then Q (.bl true) H1 else tb σ H1 Q|_=>False
variable {rest:List Expr}
theorem HA(m:PE X a ta)(n:PE X (.BoolOp .And (b::rest) pos) tb):PE X (.BoolOp .And (a::b::rest) pos) (Hy ta tb):=by
 intro d s i H Q I h;refine BoolOp_and (aX (m d s i H _ I h) λv j ⟨x,f,g,l,e⟩=>?_);obtain⟨c,rfl,e⟩:=sE e;cases l;refine ng ?_
 cases c with
 |true=>exact n d j i f Q g e
 |false=>exact⟨.bl false,f,g,rfl,e⟩
theorem HB(m:PE X a ta)(n:PE X (.BoolOp .Or (b::rest) pos) tb):PE X (.BoolOp .Or (a::b::rest) pos) (Hz ta tb):=by
 intro d s i H Q I h;refine BoolOp_or (aX (m d s i H _ I h) λv j ⟨x,f,g,l,e⟩=>?_);obtain⟨c,rfl,e⟩:=sE e;cases l;refine ng ?_
 cases c with
 |false=>exact n d j i f Q g e
 |true=>exact⟨.bl true,f,g,rfl,e⟩
theorem HC(h:ot X (unaryOp .USub) (rU f)):ot X (unaryOp .USub) (λx H Q=>match x with|.int i=>Q (f i) H|_=>False):=λa s b H x v Q I c q=>h a s b H x v Q I c (by
 dsimp only at q
 split at q
 ·exact⟨_,rfl,q⟩
 ·exact q.elim)
theorem HE:ot X (unaryOp .USub) (λx H Q=>match x with|.int i=>Q (.int (-i)) H|_=>False):=HC FT
def vS(K:Fg1):R2:=λx y H Q=>match x,y with|.ref p,.int i=>∃xs v,bJ K H p xs/\d8 xs i=some v/\Q v H|_,_=>False
def vT(K:Fg1):R2:=λx y H Q=>match x,y with|.ref p,.int i=>∃xs v,dJ K H p xs/\d8 xs i=some v/\Q v H|_,_=>False
def vU:R2:=λx y H Q=>match x,y with|.str z,.int i=>z.length<=sizeLine/\∃c,d8 z.cps.toList i=some c/\Q (.str ⟨#[c]⟩) H|_,_=>False
theorem HF:gF X (vS X.K):=GF.imp λx y H Q q=>by
 unfold vS at q
 split at q
 ·obtain⟨xs,v,a,b,q⟩:=q;exact⟨_,xs,_,v,rfl,rfl,a,b,q⟩
 ·exact q.elim
theorem HH:gF X (vT X.K):=GH.imp λx y H Q q=>by
 unfold vT at q
 split at q
 ·obtain⟨xs,v,a,b,q⟩:=q;exact⟨_,xs,_,v,rfl,rfl,a,b,q⟩
 ·exact q.elim
theorem HI:gF X vU:=GJ.imp λx y H Q q=>by
 unfold vU at q
 split at q
 ·obtain⟨a,c,b,q⟩:=q;exact⟨_,_,c,rfl,rfl,a,b,q⟩
 ·exact q.elim
def HK(t:TE):TO:=λσ H Q=>t σ H λx H1=>match x with|.int i=>Q (some i) H1|_=>False
theorem HL{x:V}{P:Int->Prop}(q:match x with|.int k=>P k|_=>False):∃k,x=.int k/\P k:=by
 split at q
 ·exact⟨_,rfl,q⟩
 ·exact q.elim
theorem AL{x:V}{P:Addr->Prop}(q:match x with|.ref k=>P k|_=>False):∃k,x=.ref k/\P k:=by
 split at q
 ·exact⟨_,rfl,q⟩
 ·exact q.elim
theorem HM{x:V}{P:Str->Prop}(q:match x with|.str k=>P k|_=>False):∃k,x=.str k/\P k:=by
 split at q
 ·exact⟨_,rfl,q⟩
 ·exact q.elim
theorem HN(h:PE X e te):PO X (some e) (HK te):=by
 intro a s g H Q I j;rw[evalPart_some];refine aX (h a s g H _ I j) λu l ⟨x,b,c,d,f⟩=>?_
 obtain⟨i,rfl,q⟩:=HL f;obtain⟨t,rfl⟩:=d;exact⟨some i,b,c,.int i t,q⟩
def vV(K:Fg1):V->Option Int->Option Int->Hp->VK->Prop:=λx lo hi H Q=>match x with|.ref a=>∃xs,bJ K H a xs/\∀p,H p=none->Q (.ref p) (aG H p (.lst (jv xs lo hi)))|_=>False
theorem HP:hA X (vV X.K):=GR.imp λx b c H Q q=>by
 unfold vV at q;obtain⟨a,rfl,xs,h,q⟩:=AL q;exact⟨a,xs,rfl,h,q⟩
def vW:R2:=λx y H Q=>match x,y with|.str i,.str j=>i.length+j.length<=sizeLine/\Q (.str (i++j)) H|_,_=>False
theorem HQ:bC X (binaryOp .Add) vW:=F8.imp λx y H Q q=>by
 unfold vW at q
 split at q
 ·exact⟨_,_,rfl,rfl,q⟩
 ·exact q.elim
def k9(a:Bool):R2:=λx y H Q=>match x,y with|.str i,.str j=>Q (.bl (if a then !Txt.contains j i else Txt.contains j i)) H|_,_=>False
theorem HR:bC X (compareOp .In) (k9 false):=F4.imp λx y H Q q=>by
 unfold k9 at q
 split at q
 ·exact⟨_,_,rfl,rfl,q⟩
 ·exact q.elim
theorem HS:bC X (compareOp .NotIn) (k9 true):=F6.imp λx y H Q q=>by
 unfold k9 at q
 split at q
 ·exact⟨_,_,rfl,rfl,q⟩
 ·exact q.elim
def vX(K:Fg1):List V->Hp->VK->Prop:=λxs H Q=>match xs with|[.ref p]=>∃ys,(bJ K H p ys\/dJ K H p ys)/\Q (.int ys.length) H|_=>False
theorem HU:d2 X (.builtin "len") (vX X.K):=GT.imp λxs H Q q=>by
 unfold vX at q
 split at q
 ·obtain⟨ys,h,q⟩:=q;exact⟨_,ys,rfl,h,q⟩
 ·exact q.elim
def vY:List V->Hp->VK->Prop:=λxs H Q=>match xs with|[.str z]=>z.length<=sizeLine/\Q (.int z.length) H|_=>False
theorem HV:d2 X (.builtin "len") vY:=GU.imp λxs H Q q=>by
 unfold vY at q
 split at q
 ·exact⟨_,rfl,q⟩
 ·exact q.elim
def vZ(K:Fg1):List V->Hp->VK->Prop:=λxs H Q=>match xs with|[.ref p]=>∃ys,(bJ K H p ys\/dJ K H p ys)/\∀l,H l=none->Q (.ref l) (aG H l (.lst ys))|_=>False
theorem AM:d2 X (.type "list") (vZ X.K):=GV.imp λxs H Q q=>by
 unfold vZ at q
 split at q
 ·obtain⟨ys,h,q⟩:=q;exact⟨_,ys,rfl,h,q⟩
 ·exact q.elim
def AN:V->List V->Hp->VK->Prop:=λx vs H Q=>match x,vs with|.ref l,[y]=>∃xs,H l=some (.lst xs)/\xs.length<sizeLine/\Q .non (aG H l (.lst (xs++[y])))|_,_=>False
theorem AO:gG X "list.append" AN:=gG.imp (r:=Au) G2 λx vs H Q q=>by
 unfold AN at q
 split at q
 ·obtain⟨xs,a,b,q⟩:=q;exact⟨_,xs,_,rfl,rfl,a,b,q⟩
 ·exact q.elim
variable {tg l:Expr}{tl:TE}
def HW(ta:TA):TI:=λσ H R=>ta σ H λvs H1=>match vs with|[.int j] => -(2 ^ 62)<=j/\j<2 ^ 62/\R (pQ 0 j.toNat) H1|_=>False
def HX(ta:TA):TI:=λσ H R=>ta σ H λvs H1=>match vs with|[.int i,.int j]=>(-(2 ^ 62)<=i/\i<2 ^ 62 /\ -(2 ^ 62)<=j/\j<2 ^ 62)/\R (pQ i (j - i).toNat) H1|_=>False
theorem PA.imp(h:PA X es t)(f:∀σ H Q,t' σ H Q->t σ H Q):PA X es t':=λp a s σ H Q I q=>h p a s σ H Q I (f σ H Q q)
theorem HY {d:TA}{p:Pos} (j:Gl X "range") (hm:X.mg "range" = none) (l:PA X [a] d) (hs:starEach [a] X.env=[(false,eval a X.env)]:=by rfl):PI X tg (.Call (.Name "range" p) [a] [] pos) (HW d):=by
 intro c s g H R I h;refine Call_ (kw I j hm boot_range (kg (aX (l pos c s g H _ I h) λn o ⟨vs,u,e,f,b⟩=>?_) hs rfl));dsimp only at b
 split at b
 ·obtain⟨b,i,q⟩:=b
  cases f with
  |cons r m =>
   cases m;obtain⟨t,rfl⟩:=r
   exact call_range_1 (z5 e (by omega) (by omega) b i (by simpa using q))
 ·exact b.elim
theorem HZ {g:TA}{p:Pos} (u:Gl X "range") (hm:X.mg "range" = none) (v:PA X [a,b] g) (hs:starEach [a,b] X.env=[(false,eval a X.env),(false,eval b X.env)]:=by rfl) (e:starEach [b] X.env=[(false,eval b X.env)]:=by rfl) :
  PI X tg (.Call (.Name "range" p) [a,b] [] pos) (HX g):=by
 intro d s l H R I h;refine Call_ (kw I u hm boot_range (kg (aX (v pos d s l H _ I h) λx y ⟨vs,z,i,j,c⟩=>?_) (by rw[hs,e]) (by rw[e];rfl)));dsimp only at c
 split at c
 ·obtain⟨⟨c,m,n,o⟩,q⟩:=c
  cases j with
  |cons r f =>
   cases f with
   |cons w f =>
    cases f;obtain⟨t,rfl⟩:=r
    obtain⟨t',rfl⟩:=w;exact call_range_2 (z5 i c m n o q)
 ·exact c.elim
def AQ:iM:=λvs σ H Q=>match vs with|[]=>Q σ H|_=>False
def AR(t:TG)(u:iM):iM:=λvs σ H Q=>match vs with|v::r=>t v σ H λa H'=>u r a H' Q|[]=>False
theorem H9:gC X [] AQ:=λa s b H vs c Q I r h=>Fy a s b H vs c Q I r (by
 unfold AQ at h
 split at h
 ·exact⟨rfl,h⟩
 ·exact h.elim)
theorem Ia(d:PG X e t)(f:gC X es u)(hs:(assignEach (e::es) X.env).map (·.2)=assign e X.env::(assignEach es X.env).map (·.2):=by rfl):gC X (e::es) (AR t u) :=
 λ a s b H vs c Q I r h=>Fz d f hs a s b H vs c Q I r (by
  unfold AR at h
  split at h
  ·exact⟨_,_,rfl,h⟩
  ·exact h.elim)
def AS(K:Fg1)(n:Nat)(t:iM):TG:=λv σ H Q=>match v with|.ref a=>∃xs,dJ K H a xs/\xs.length=n/\t xs σ H Q|_=>False
theorem Ib{es:List Expr}{k:Nat}{t:iM}{n:Nat}(e:X.calm=true)(h:gC X es t)(hn:(assignEach es X.env).length=n:=by rfl)(b:(assignEach es X.env).findIdx? (·.1)=none:=by rfl):PG X (.Tuple es k pos) (AS X.K n t) :=
 (FB e h hn b).imp λv f H Q q=>by
  unfold AS at q;obtain⟨a,rfl,xs,c,d,q⟩:=AL q;exact⟨a,xs,rfl,c,d,q⟩
inductive gI {α:Type} (p:α->Prop):List α->Prop
 |nil:gI p []
 |cons {x:α} {l:List α}:p x->gI p l->gI p (x::l)
theorem gI.mem:∀{l:List α},gI p l->∀x∈l,p x
 |_,.nil,x,h=>by cases h
 |_,.cons a b,x,h=>by
  rcases pb.mp h with rfl|h
  ·exact a
  ·exact b.mem x h
theorem lh(L:List Str)(c:scope.kind=.function)(d:∀y∈scope.names,y.2≠.cell)(e:∀y∈scope.names,y.2=.local->scope.names.lookup y.1=some .local)(f:∀y∈scope.names,y.2=.free->y.1∈L)(g:gI (λx=>X.env.kindOf x=some .cell\/X.env.kindOf x=some .free) L):cy X scope :=
 ⟨c,d,e,λy a b=>g.mem y.1 (f y a b)⟩
theorem lp {a:Scope}{cap:List Nat} (h:gI (λi=>i<X.N.length/\a.names.lookup (X.N.getD i "")≠some .local) cap):∀i∈cap,i<X.N.length/\a.names.lookup (X.N.getD i "")≠some .local:=h.mem
structure Df(K:Fg1)(mg:Str->Option Value)(x:Str)(st:Stmt)(ps:List Str)(f:Addr)(fd:FuncData):Prop where
 F:ec K x x st f fd
 m:mg x=some (.ref f)
 b:c9 K fd ps []
theorem iP:bootBuiltins "len" = some (.builtin "len"):=by decide
theorem AT:bootBuiltins "isinstance" = some (.builtin "isinstance"):=by decide
theorem v0:bootBuiltins "sorted" = some (.builtin "sorted"):=by decide
theorem AU:bootBuiltins "min" = some (.builtin "min"):=by decide
theorem Ic:bootBuiltins "reversed" = some (.type "reversed"):=by decide
theorem AV:bootBuiltins "str" = some (.type "str"):=by decide
theorem v1:bootBuiltins "list" = some (.type "list"):=by decide
theorem Ie:bootBuiltins "tuple" = some (.type "tuple"):=by decide
theorem gJ{H:Hp}{p:Addr}{o:HO}(a:H p=none):aS H (aG H p o):=λb u e=>by rw[aK (cC e a)];exact e
theorem aS.seqT{K:Fg1}{H H':Hp}{a:Addr}{xs:List V}(e:aS H H')(h:dJ K H a xs):dJ K H' a xs:=by
 rcases h with(h|⟨o,h⟩)|h
 ·exact .inl (.inl (e _ _ h))
 ·exact .inl (.inr ⟨o,e _ _ h⟩)
 ·exact .inr h
end
end L2
set_option maxHeartbeats 1000000
namespace L2
open PySem PySem.Spec PyProof.Rows
noncomputable def S(l:List Nat):Str:=⟨l.toArray⟩
theorem jx(l:List Nat):(S l).cps.toList=l:=rfl
theorem kx(l:List Nat):(S l).length=l.length:=by simp[S,Str.length]
theorem v3:S l=S m↔l=m:=⟨λh=>by have:=de (λx:Str=>x.cps.toList) h;exact this,λh=>by rw[h]⟩
theorem Ig(x:Str):x=S x.cps.toList:=by cases x;simp[S]
theorem v4(l m:List Nat):S l++S m=S (l++m):=by
 show Str.mk (l.toArray++m.toArray)=Str.mk (l++m).toArray;simp
theorem Ih(l:List Nat)(c:Nat):Txt.contains (S l) (S [c])=decide (c∈l):=StrLaws.found_one (S l) c
noncomputable def di(c:Nat):List Nat->Nat
 |[]=>0
 |a::r=>if a=c then 0 else di c r+1
theorem sF(c:Nat):∀(l:List Nat),c∈l->l[di c l]?=some c/\∀k,k<di c l->l[k]?≠some c
 |[],h=>by cases h
 |a::r,h=>by
  unfold di;by_cases b:a=c
  ·rw[da b];exact⟨by simp[b],λk d=>by omega⟩
  ·rw[qa b]
   have g:c∈r:=by
    rcases pb.mp h with z|z
    ·exact absurd z.symm b
    ·exact z
   have⟨e,f⟩:=sF c r g;refine⟨by simpa using e,λk d=>?_⟩
   cases k with
   |zero=>simpa using b
   |succ k=>simpa using f k (by omega)
theorem AW(c:Nat)(l:List Nat)(h:c∈l):di c l<l.length:=by
 have:=(sF c l h).1
 exact(ya.mp this).1
theorem v6(l:List Nat)(c i:Nat):StrLaws.At (S l) (S [c]) (S l).length i↔l[i]?=some c:=StrLaws.subAt_one (S l) c i
theorem Ii(l:List Nat)(c a:Nat)(hl:1<=a)(h:c∈l):∃r,Builtin.Str.occurrences (S l) (S [c]) 0 (S l).length a=di c l::r:=by
 have⟨b,d⟩:=sF c l h;rcases StrLaws.occ_head (S l) (S [c]) a hl with⟨_,hn⟩|⟨i,r,e,f,g⟩
 ·exact absurd ((v6 l c _).mpr b) (hn _)
 ·have j:i=di c l:=by
   rcases vn i (di c l) with z|z|z
   ·exact absurd ((v6 l c i).mp f) (d i z)
   ·exact z
   ·exact absurd ((v6 l c _).mpr b) (g _ z)
  exact⟨r,by rw[e,j]⟩
theorem AX(h:∀c∈l,c<128):Txt.lower (S l)=S (l.map lo1):=by
 rw[lower_ascii (x:=S l) h];simp[S]
section
variable {X:Cx}{tg:Expr}
def sH(x:Str):It:=⟨λi _=>i<x.length,λi H v H'=>H'=H/\∃c,x.cps.toList[i]?=some c/\v=.str (S [c]),λi _=>x.length<=i⟩
theorem Ij{P:Program}{w:World}{K:Fg1}(x:Str)(t:Tok)(it:Addr):gD P w K tg (sH x) [it] it (λi h=>h.IsStrIter it "str_ascii_iterator" x t i) where
 mem:=by simp
 obj:=λi h st b hb=>by
  have e:b=it:=by simpa using hb
  subst e;obtain⟨o,e,c,d⟩:=st;exact⟨o,e,λv z=>by rw[d]at z;cases z⟩
 keep:=λi h h' st k=>by
  obtain⟨o,e,r⟩:=st;exact⟨o,k it (by simp) o e,r⟩
 item:=by
  intro X hP hw hK hc i pins s σ H E I hf st hg;subst hP hw hK;have hg:i<x.length:=hg;obtain⟨ch,hx⟩:∃ch,x.cps[i]?=some ch:=⟨_,xf (show i<x.cps.size from hg)⟩
  obtain⟨f0,f1,f2,f3,f4,f5⟩:=hf it (by simp);refine wpAny_pyNext_ascii_item st hx λh' st' sb=>?_
  have I1:aw X pins σ H { s with heap:=h',toks:=s.toks+1 }:=I.turned (λb o hb e=>(sb.2 b hb).trans e) f0 f1 f3 f4 f5;have⟨o,e,c,d⟩:=id st';exact⟨_,rfl,pP (s:={ s with heap:=h',toks:=s.toks+1 }) e c d (by decide) ⟨.str ⟨#[ch]⟩,H,I1,⟨_,rfl⟩,⟨rfl,ch,by simpa using hx,rfl⟩,st',λb hb=>(hf b hb).1⟩⟩
 done:=by
  intro X hP hw hK hc i pins s σ H E I hf st hg;subst hP hw hK;obtain⟨f0,f1,f2,f3,f4,f5⟩:=hf it (by simp);have hg:x.length<=i:=hg;exact wpAny_pyNext_ascii_end (I.ok.hd hc) st (by have:x.cps.size<=i:=hg;simp[this]) λh' eb=>⟨rfl,I.turned (t':=s.toks) (λb o hb e=>eb b o hb e) f0 f1 f3 f4 f5⟩
 self:=λ_ _ _ _ _ st h=>wpAny_pyIter_striter_ascii st h
theorem Ik{P:Program}{w:World}{K:Fg1}(x:Str)(t:Tok)(it:Addr):gD P w K tg (sH x) [it] it (λi h=>h.IsStrIter it "str_iterator" x t i) where
 mem:=by simp
 obj:=λi h st b hb=>by
  have e:b=it:=by simpa using hb
  subst e;obtain⟨o,e,c,d⟩:=st;exact⟨o,e,λv z=>by rw[d]at z;cases z⟩
 keep:=λi h h' st k=>by
  obtain⟨o,e,r⟩:=st;exact⟨o,k it (by simp) o e,r⟩
 item:=by
  intro X hP hw hK hc i pins s σ H E I hf st hg;subst hP hw hK;have hg:i<x.length:=hg;obtain⟨ch,hx⟩:∃ch,x.cps[i]?=some ch:=⟨_,xf (show i<x.cps.size from hg)⟩
  obtain⟨f0,f1,f2,f3,f4,f5⟩:=hf it (by simp);refine wpAny_pyNext_wide_item st hx λh' st' sb=>?_
  have I1:aw X pins σ H { s with heap:=h',toks:=s.toks+1 }:=I.turned (λb o hb e=>(sb.2 b hb).trans e) f0 f1 f3 f4 f5;have⟨o,e,c,d⟩:=id st';exact⟨_,rfl,pP (s:={ s with heap:=h',toks:=s.toks+1 }) e c d (by decide) ⟨.str ⟨#[ch]⟩,H,I1,⟨_,rfl⟩,⟨rfl,ch,by simpa using hx,rfl⟩,st',λb hb=>(hf b hb).1⟩⟩
 done:=by
  intro X hP hw hK hc i pins s σ H E I hf st hg;subst hP hw hK;obtain⟨f0,f1,f2,f3,f4,f5⟩:=hf it (by simp);have hg:x.length<=i:=hg;exact wpAny_pyNext_wide_end (I.ok.hd hc) st (by have:x.cps.size<=i:=hg;simp[this]) λh' eb=>⟨rfl,I.turned (t':=s.toks) (λb o hb e=>eb b o hb e) f0 f1 f3 f4 f5⟩
 self:=λ_ _ _ _ _ st h=>wpAny_pyIter_striter_wide st h
variable {l:Expr}{tl:TE}
end
section
variable {X:Cx}
def pW(C:Str->Prop)(f:Str->V):V->List V->Hp->VK->Prop:=λx vs H Q=>match x,vs with|.str z,[]=>C z/\Q (f z) H|_,_=>False
theorem Il{id:String}{C:Str->Prop}{f:Str->V}(h:∀(a:List (Addr×Obj)) (s:Shared) (b:St) (H:Hp) (z:Str) (t:Tok) (Q:VK),aw X a b H s->C z->Q (f z) H->wpAny (model X.prog X.w) X.A (call (.builtin id) [.str z t]) (EP X a b Q) X.xe s):gG X id (pW C f):=by
 intro a s b H x vs v g Q I d e q;unfold pW at q
 split at q
 ·obtain⟨c,q⟩:=q
  obtain⟨t,rfl⟩:=d;cases e;exact h a s b H _ t Q I c q
 ·exact q.elim
theorem Im:gG X "str.lower" (pW (λz=>Builtin.Str.tooLong (Txt.lower z).length=false) λz=>.str (Txt.lower z)) :=
 Il λa s b H z t Q I c q=>SC.lower c ⟨.str _,H,I.tok _,⟨_,rfl⟩,q⟩
def v7:V->List V->Hp->VK->Prop:=λx vs H Q=>match x,vs with|.str z,[.str y]=>∃i r,Builtin.Str.occurrences z y 0 z.length 1=i::r/\Q (.int i) H|_,_=>False
theorem Io:gG X "str.index" v7:=by
 intro a s f H x vs v g Q I b c q;unfold v7 at q
 split at q
 ·obtain⟨i,r,e,q⟩:=q
  obtain⟨t,rfl⟩:=b;obtain⟨u,rfl,d⟩:=c.one;obtain⟨t',rfl⟩:=d;exact SC.index e ⟨.int i,H,I.tok _,⟨_,rfl⟩,q⟩
 ·exact q.elim
theorem AY:∀{ys:List Str}{a:List Value},bB (ys.map V.str) a->StrsAre a ys
 |[],_,.nil=>.nil
 |y::r,_,.cons h t=>by
  obtain⟨b,rfl⟩:=h;exact .cons y b (AY t)
def v8(K:Fg1):V->List V->Hp->VK->Prop:=λx vs H Q=>match x,vs with
 |.str z,[.ref a]=>∃ys:List Str,bJ K H a (ys.map V.str)/\(ys.map (·.length)).sum+ys.length * z.length<=16777216/\Q (.str (Txt.join z ys)) H
 |_,_=>False
theorem Ip:gG X "str.join" (v8 X.K):=by
 intro a s h H x vs v i Q I b c q;unfold v8 at q
 split at q
 ·obtain⟨ys,d,hz,q⟩:=q
  obtain⟨t,rfl⟩:=b;obtain⟨u,rfl,e⟩:=c.one;cases e;have⟨f,r,g,_⟩:=I.list d;exact join_list g.isList (AY r) hz λt' k=>⟨.str _,H,I.tok _,⟨_,rfl⟩,q⟩
 ·exact q.elim
def v9:V->Option Int->Option Int->Hp->VK->Prop:=λx lo hi H Q=>match x with|.str z=>z.length<=sizeLine/\Q (.str (StrLaws.sliceText z lo hi)) H|_=>False
theorem Iq:hA X v9:=by
 intro b s j H x v m n r w sl Q I c hs d e h;unfold v9 at h;obtain⟨z,rfl,hz,q⟩:=HM h;obtain⟨t,rfl⟩:=c;refine⟨"str",_,PySem.F.slot_str_getitem.lookup,typeIs_str _ _ _,?_⟩
 have a:∀{v:Value} {o:Option Int},IsPart v o->∃l:Option (Int×Tok),partValue l=v/\l.map (·.1)=o:=λp=>by
  cases p with
  |none=>exact⟨none,rfl,rfl⟩
  |int i t=>exact⟨some (i,t),rfl,rfl⟩
 have⟨l,e1,e2⟩:=a d;have⟨u,f,g⟩:=a e;subst e1 e2 f g;refine wpAny_getItem_str_slice (l:=l) (u:=u) (st:=none) hs rfl ?_;refine post_val_or_str ⟨wd ?_ hz,λt' k=>⟨.str _,H,I.tok _,⟨_,rfl⟩,q⟩⟩;exact Txt.slice_le z _ _
end
theorem Ir(l:List Nat)(j:Nat):StrLaws.sliceText (S l) none (some (j:Int))=S (l.take j):=by
 by_cases h:j<=l.length
 ·rw[StrLaws.sliceText_to ⟨by omega,by rw[jx];omega⟩]
  simp[S]
 ·have e:StrLaws.sliceText (S l) none (some (j:Int))=StrLaws.sliceText (S l) none (some (l.length:Int)):=by
   unfold StrLaws.sliceText
   have e1:Builtin.Str.strSliceIndices none (some (j:Int)) 1 (S l).length=Builtin.Str.strSliceIndices none (some (l.length:Int)) 1 (S l).length:=by
    rw[kx];have a:min (j:Int) (l.length:Int)=(l.length:Int):=by omega
    have b:¬(j:Int)<0:=by omega
    have c:¬(l.length:Int)<0:=by omega
    simp[Builtin.Str.strSliceIndices,a,b,c]
   rw[e1]
  rw[e,StrLaws.sliceText_to ⟨by omega,by rw[jx];omega⟩];have e2:l.take j=l:=vf (by omega);rw[e2];simp[S]
theorem Iu(l:List Nat)(i:Nat)(h:i<=l.length):StrLaws.sliceText (S l) (some (i:Int)) none=S (l.drop i):=by
 rw[StrLaws.sliceText_from ⟨by omega,by rw[jx];omega⟩];rw[jx];have e:((l.length:Int) - (i:Int)).toNat=l.length - i:=by omega
 rw[e,lg];have e2:(l.drop i).take (l.length - i)=l.drop i:=vf (by simp);rw[e2];rfl
noncomputable def mI(a:List Nat):List (List Nat)->List Nat
 |[]=>[]
 |[x]=>x
 |x::y::r=>x++a++mI a (y::r)
theorem Iv(a:List Nat)(b:List (List Nat)):Txt.join (S a) (b.map S)=S (mI a b):=by
 show Builtin.Str.glued (S a) (b.map S)=_;rw[StrLaws.glued_eq_join]
 induction b with
 |nil=>rfl
 |cons x r c =>
  cases r with
  |nil=>rfl
  |cons y r =>
   show S x++S a++Str.join (S a) ((y::r).map S)=S (x++a++mI a (y::r));rw[c,v4,v4]
theorem AZ:∀(a:List (List Nat)),mI [] a=a.flatten
 |[]=>rfl
 |[x]=>by simp[mI]
 |x::y::r=>by
  show x++[]++mI [] (y::r)=_;rw[AZ (y::r)];simp
end L2
namespace L2
open PySem
noncomputable abbrev dN:List Value:=[.type "ValueError",.type "Exception",.type "BaseException",.type "object"]
structure XC(h:Heap)(nm:Str)(C P:Addr)(mN mP:Str->Option Value):Prop where
 cls:∃q N bs sn sub ab col dd k0 k1 k2 k3 k5,h.get? C=some (excClassObj nm q C N bs (.ref P::dN) true sn sub ab col dd k0 k1 k2 k3 k5 "ValueError.__new__")/\h.Ns N mN
 par:∃pn q N bs hd sn sub ab col dd k0 k1 k2 k3 k5,h.get? P=some (excClassObj pn q P N bs dN hd sn sub ab col dd k0 k1 k2 k3 k5 "ValueError.__new__")/\h.Ns N mP
theorem XC.keeps(x:XC h nm C P mN mP)(k:∀b o,h.get? b=some o->h'.get? b=some o):XC h' nm C P mN mP:=by
 obtain⟨⟨q,N,bs,d,a,e,c,dd,f,g,k2,i,j,l,m⟩,n,p,r,s,u,v,w,y,z,b0,b1,b2,b3,b4,A,B,E⟩:=x;exact⟨⟨q,N,bs,d,a,e,c,dd,f,g,k2,i,j,k _ _ l,m.keeps k⟩,n,p,r,s,u,v,w,y,z,b0,b1,b2,b3,b4,A,k _ _ B,E.keeps k⟩
section
variable {M:Model}{A:Around}{E:Value->Shared->Prop}{h:Heap}{g:Array GenState}{d:Drawn}{t:Nat}{os:OsState}
variable {nm:Str}{C P:Addr}{mN mP:Str->Option Value}
theorem lq (x:XC h nm C P mN mP) (o:mP name=none) (e:typeLookup (.type "ValueError") name=pure y) (a:Q (match mN name with|some v=>some v|none=>y) ⟨h,g,d,t,os⟩):wpAny M A (typeLookup (.ref C) name) Q E ⟨h,g,d,t,os⟩:=by
 obtain⟨⟨q,N,bs,p,f,r,i,dd,s,u,k2,w,z,b,j⟩,B,F,G,H,I,J,K,L,O,b0,b1,b2,b3,b4,R,l,m⟩:=x;have n:lookupAlong dN name=pure y:=by rw[typeLookup_eq,om.mroIs]at e;exact e
 rw[typeLookup_eq];refine aa (wpAny_mroOf_exc b ?_);rw[lookupAlong_cons];refine aa (wpAny_classOwn_exc b j ?_)
 cases c:mN name with
 |some v=>rw[c]at a;exact ia a
 |none =>
  rw[c]at a;show wpAny M A (lookupAlong (.ref P::dN) name) Q E _;rw[lookupAlong_cons];refine aa (wpAny_classOwn_cls l m ?_);rw[o,n];exact ia a
end
section
variable {prog:Program}{w:World}{A:Around}{E:Value->Shared->Prop}{h:Heap}{g:Array GenState}{d:Drawn}{t:Nat}{os:OsState}
variable {nm:Str}{C P:Addr}{mN mP:Str->Option Value}
theorem Iw (x:XC h nm C P mN mP) (l:mP "__init__" = none) (O:mN "__init__" = some (.ref fI)) (v:h.get? fI=some oI) (y:oI.cls=.type "function")
  (R:∀h' e,Heap.MadeExcOf h h' e (.ref C) rest->h.objs.size<=e->wpAny (model prog w) A (call (.ref fI) (.ref e::rest)) (λr s'=>r=.none/\Q (.done (.ret (.ref e))) s') E ⟨h',g,d,t,os⟩) (i:rest.length<=sizeLine) :
  wpAny (model prog w) A (Builtin.«type.__call__» ⟨.ref C::rest,[]⟩) Q E ⟨h,g,d,t,os⟩:=by
 have K:=x;obtain⟨⟨q,N,bs,U,F,X,G,dd,Y,Z,k2,k3,k5,j,hn⟩,a1,a2,a3,a4,a5,a6,a7,a8,a9,b0,b1,b2,b3,b4,b5,H,I⟩:=x;have m:=om;have T:OwnTail h dN (.ref P::dN):=.own H I l .base
 repeat (first|with_reducible refine vd j ?_|with_reducible refine a j ?_|wp_step)
 refine codeAny_call_builtin_code (cn _ m.quiet) (wpAny_check_new_subT m T j (codeAny_exc_new_subT m T j ?_ i));show wpAny _ _ _ _ _ _;generalize f:(h.push { cls:=.type "tuple",data:=.seq rest.toArray }).push { cls:=.ref C,data:=.fields #[.ref h.objs.size,.none,.none,.none,.bool false,.none] }=h';have n:∀b o,h.get? b=some o->h'.get? b=some o:=λb o z=>by rw[<-f];exact na _ (na _ z)
 have L:=K.keeps n;have p:=n _ _ j;have s:=n _ _ v;have c:h'.get? (h.objs.size+1)=some { cls:=.ref C,data:=.fields #[.ref h.objs.size,.none,.none,.none,.bool false,.none] }:=by rw[<-f];heap_get
 have M:h'.get? h.objs.size=some { cls:=.type "tuple",data:=.seq rest.toArray }:=by rw[<-f];exact na _ (Heap.get?_push_at rfl rfl)
 have u:(Value.ref C::(Value.ref P::dN)).contains (.ref C)=true:=by simp
 unfold isInstance
 repeat (first|with_reducible refine vd c ?_|(with_reducible refine vg p ?_;rw[u])|wp_step)
 show wpAny _ _ (typeLookup (.ref C) _) _ _ _;refine lq L l m.init.lookup ?_;rw[O];refine qe (aa ?_);unfold bindSpecial;refine aa (vm (T:="function") ⟨_,s,y⟩ ?_);rw[da (by decide)];refine ia (aa (re (R _ (h.objs.size+1) ⟨n,km (zu _),h.objs.size,c,km (bb _),M⟩ (zu _)) (λr s' B=>?_) λ_ _ z=>z));obtain⟨rfl,J⟩:=B
 wp_walk
 exact J
theorem Iy (x:XC h nm C P mN mP) (c:mP "__init__" = none) (n:mN "__init__" = some (.ref fI)) (f:h.get? fI=some oI) (i:oI.cls=.type "function")
  (o:∀h' e,Heap.MadeExcOf h h' e (.ref C) rest->h.objs.size<=e->wpAny (model prog w) (A.under (.builtin "type.__call__" ⟨.ref C::rest,[]⟩)) (call (.ref fI) (.ref e::rest)) (λr s'=>r=.none/\Q (.ref e) s') E ⟨h',g,d,t,os⟩) (a:rest.length<=sizeLine) :
  wpAny (model prog w) A (call (.ref C) rest) Q E ⟨h,g,d,t,os⟩:=by
 have m:=x;obtain⟨⟨q,N,bs,p,j,s,l,dd,u,v,k2,y,z,b,hn⟩,_⟩:=x;have B:=tc_lookup;have F:=tc_bind (.ref C);have G:(⟨h,g,d,t,os⟩:Shared).TypeIs (.ref C) "type":=⟨_,b,rfl⟩
 refine wk (codeAny_of_tree ?_);show wpAny _ _ (callAny (.ref C) _) _ _ _
 repeat (any_goals (first|assumption|with_reducible refine vd b ?_|wp_step))
 refine⟨rfl,codeAny_call_builtin_at (cn _ (by decide)) entry_typeCall (wpAny_check_type_call_sub b (Iw m c n f i (λh' e hm hs=>?_) a))⟩;exact o h' e hm hs
end
end L2
namespace L2
open PySem
open Builtin Builtin.ObjectAttr
section
variable {prog:Program}{w:World}{A:Around}{E:Value->Shared->Prop}{h:Heap}{g:Array GenState}{d:Drawn}{t:Nat}{os:OsState}
variable {nm:Str}{C P x:Addr}{mN mP mA:Str->Option Value}{name:Str}{v:Value}
theorem Iz (c:StoreFacts "ValueError" dN sa owner) (X:XC h nm C P mN mP) (n:h.get? x=some o) (r:o.cls=.ref C) (i:Q () ⟨h,g,d,t,os⟩) :
  wpAny M A (checkBuiltinCall sa ⟨[.ref x,nameV,v],[]⟩) Q E ⟨h,g,d,t,os⟩:=by
 obtain⟨⟨q,N,bs,s,j,u,l,dd,w,y,k2,z,B,m,hn⟩,_⟩:=X;have e:(Value.ref C::(Value.ref P::dN)).contains (.type owner)=true:=by rw[tf,tf,c.hasOwner,Bool.or_true,Bool.or_true]
 have f:=c.args (.ref x) nameV v;simp only[checkBuiltinCall,c.kind,c.split];refine aa ?_
 ·unfold isInstance
  repeat (first|(with_reducible refine vd n ?_;rw[r])|(with_reducible refine vg m ?_;rw[e])|wp_step)
  cases a:Manifest.signature? sa with
  |none=>exact ia i
  |some b =>
   simp only[argsOk,a]at f;have p:Bind.checkArgs sa b ⟨[.ref x,nameV,v],[]⟩=pure ():=f;show wpAny M A (Bind.checkArgs sa b ⟨[.ref x,nameV,v],[]⟩) Q E _;rw[p];exact ia i
theorem IA (SF:StoreFacts "ValueError" dN sa owner) (X:XC h nm C P mN mP) (hna:mN name=none) (Y:mP name=none) (hB:typeLookup (.type "ValueError") name=pure none) (I:h.Inst x C mA)
  (hq:∀ h' tk',h'.Inst x C (λ y=>if y=name then some v else mA y)->(∀ b o,b≠x->(∀ a dx,h.get? x=some a->a.dict=some dx->b≠dx)->h.get? b=some o->h'.get? b=some o) →
   (∀a,h.get? x=some a->∃f,h'.get? x=some f/\f.cls=a.cls/\f.data=a.data/\f.slots=a.slots/\∃dx,f.dict=some dx/\(a.dict=some dx\/(a.dict=none/\h.objs.size<=dx)))->Q (.done (.ret .none)) ⟨h',g,d,tk',os⟩) (hw:Within mA ns) (hsz:ns.length+1<=1000) :
  wpAny (model prog w) A (Builtin.«object.__setattr__» ⟨[.ref x,.str name tk,v],[]⟩) Q E ⟨h,g,d,t,os⟩:=by
 have X0:=X;obtain⟨⟨q,N,bs,sn,sub,ab,col,dd,k0,k1,k2,k3,k5,hC,hn⟩,_⟩:=X;obtain⟨o,m,O,p,hd⟩:=I;have B:=SF.passes (.ref x);have hz:ns.length+1<=sizeLine:=wd hsz (by decide);unfold Builtin.«object.__setattr__»
 repeat (first|rw[refuse_eq]|(rw[refuseLoop_ref,refuseLoop_ref,B])|(with_reducible refine vd m ?_;rw[O])|with_reducible refine i hC ?_|(with_reducible refine lq X0 Y hB ?_;rw[hna])|wp_step)
 rcases hd with⟨G,Z⟩|⟨dx,l,z,hns⟩
 ·rw[G,qa (by simp[typeHasDict])]
  split
  ·rename_i n
   cases n
  split
  ·rename_i c n
   exact absurd n (p c)
  ·have H:(h.push { cls:=.type "dict",data:=.dict #[] }).get? x=some o:=na _ m
   have F:x≠h.objs.size:=ic (ib m);refine aa (wpAny_alloc' (aa (wpAny_update' H (ia ?_))));generalize eh:((h.push { cls:=.type "dict",data:=.dict #[] }).update x λo=>{ cls:=o.cls,dict:=some h.objs.size,data:=o.data,slots:=o.slots })=h1;have hgd:h1.get? h.objs.size=some { cls:=.type "dict",data:=.dict #[] }:=by rw[<-eh];exact(Heap.get?_update_ne _ _ _ _ F.symm).trans (Heap.get?_push_at rfl rfl)
   have hnd:h1.Ns h.objs.size (λ_=>none):=⟨_,#[],_,hgd,rfl,λe he=>absurd he (by simp),λ_=>rfl⟩
   have hx2:h1.get? x=some { cls:=o.cls,dict:=some h.objs.size,data:=o.data,slots:=o.slots }:=by
    rw[<-eh];refine ce _ H ?_;have hfr:=(Heap.get?_some_iff.mp m).2;obtain⟨oc,od,R,osl⟩:=o
    cases R <;> first|rfl|exact hfr
   show wpAny _ _ (storeInDict h.objs.size (.str name tk) name v) _ _ _;unfold storeInDict newKeyGuard;refine aa (ia (aa (wpAny_nsSet1 (Heap.Ns1.of_empty hnd) λh' j hs=>?_)));have⟨oD,T,U,r,s,u⟩:=j.count (Within.cons name v Within.nil);refine aa (wpAny_lookBehind r (by rw[s];exact pastItsLine_dict (wd u (by rw[wb,md];omega))) ?_)
   wp_walk
   have J:h'.get? x=some { cls:=o.cls,dict:=some h.objs.size,data:=o.data,slots:=o.slots }:=(hs.2 x F).trans hx2;refine hq h' _ ⟨_,J,O,p,.inr ⟨h.objs.size,rfl,F.symm,?_⟩⟩ (λb ob L _ K=>?_) (λa h₀=>by obtain rfl:o=a:=lc (m.symm.trans h₀);exact⟨_,J,rfl,rfl,rfl,h.objs.size,rfl,.inr ⟨G,bb _⟩⟩)
   ·obtain⟨o',es,ep,e1,e2,e3,eu,e4⟩:=j
    exact⟨o',es,ep,e1,e2,e3,eu,λy=>by rw[e4 y];by_cases hy:y=name <;> simp[hy,Z]⟩
   ·refine(hs.2 b (ic (ib K))).trans ?_
    rw[<-eh];exact(Heap.get?_update_ne _ _ _ _ L).trans (na _ K)
 ·rw[l]
  refine ia ?_;show wpAny _ _ (storeInDict dx (.str name tk) name v) _ _ _;unfold storeInDict newKeyGuard;refine aa (ia (aa (wpAny_nsSet1 hns λh' j hs=>?_)));have⟨oD,T,U,r,s,u⟩:=j.count (Within.cons name v hw);refine aa (wpAny_lookBehind r (by rw[s];exact pastItsLine_dict (wd u (by rw[wb];omega))) ?_)
  wp_walk
  refine hq h' _ ⟨o,(hs.2 x z.symm).trans m,O,p,.inr ⟨dx,l,z,j⟩⟩ (λb ob _ M K=>(hs.2 b (M o dx m l)).trans K) (λa h₀=>by obtain rfl:o=a:=lc (m.symm.trans h₀);exact⟨o,(hs.2 x z.symm).trans h₀,rfl,rfl,rfl,dx,l,.inl l⟩)
theorem IB (e:StoreFacts "ValueError" dN sa owner) (X:XC h nm C P mN mP) (f:mN name=none) (i:mP name=none) (n:typeLookup (.type "ValueError") name=pure none) (I:h.Inst x C mA)
  (p:∀ h' j,h'.Inst x C (λ y=>if y=name then some v else mA y)->(∀ b o,b≠x->(∀ a dx,h.get? x=some a->a.dict=some dx->b≠dx)->h.get? b=some o->h'.get? b=some o) →
   (∀a,h.get? x=some a->∃c,h'.get? x=some c/\c.cls=a.cls/\c.data=a.data/\c.slots=a.slots/\∃dx,c.dict=some dx/\(a.dict=some dx\/(a.dict=none/\h.objs.size<=dx)))->R (.ok (.ret .none)) ⟨h',g,d,j,os⟩) (q:Within mA ns) (hsz:ns.length+1<=1000) :
  codeAny (model prog w) A (.call (.builtin sa) ⟨[.ref x,.str name tk,v],[]⟩) R ⟨h,g,d,t,os⟩:=by
 have⟨o,l,m,_⟩:=id I;exact bh e.slot.plain e.entry (Iz e X l m (IA e X f i n I p q hsz))
def A0(h:Heap)(x C:Addr)(mA:Str->Option Value)(name:Str)(v:Value)(h':Heap):Prop :=
 h'.Inst x C (λy=>if y=name then some v else mA y)/\(∀b o,b≠x->(∀a dx,h.get? x=some a->a.dict=some dx->b≠dx)->h.get? b=some o->h'.get? b=some o) ∧
 (∀a,h.get? x=some a->∃c,h'.get? x=some c/\c.cls=a.cls/\c.data=a.data/\c.slots=a.slots/\∃dx,c.dict=some dx/\(a.dict=some dx\/(a.dict=none/\h.objs.size<=dx)))
theorem IC (c:StoreFacts "ValueError" dN sa owner) (X:XC h nm C P mN mP) (e:mN "__setattr__" = none) (jO:mP "__setattr__" = none) (f:mN name=none) (i:mP name=none) (p:typeLookup (.type "ValueError") name=pure none) (I:h.Inst x C mA)
  (q:∀h' a,A0 h x C mA name v h'->Q () ⟨h',g,d,a,os⟩) (r:Within mA ns) (hsz:ns.length+1<=1000) :
  wpAny (model prog w) A (setAttr (.ref x) name v) Q E ⟨h,g,d,t,os⟩:=by
 have⟨o,m,n,_⟩:=id I;have s:=c.slot.bind (.ref x);unfold setAttr callSpecial? specialOf
 repeat (any_goals (first|assumption|(with_reducible refine vd m ?_;rw[n])|(with_reducible refine lq X jO c.slot.lookup ?_;rw[e])|wp_step))
 refine IB c X f i p I (λh' a j l b=>?_) r hsz
 repeat (any_goals (first|assumption|wp_step))
 exact q h' a ⟨j,l,b⟩
theorem A1 (X:XC h nm C P mN mP) (a:mN "__setattr__" = none) (jO:mP "__setattr__" = none) (b:mN name=none) (c:mP name=none) (f:typeLookup (.type "ValueError") name=pure none) (I:h.Inst x C mA)
  (i:∀h' e,A0 h x C mA name v h'->Q () ⟨h',g,d,e,os⟩) (j:Within mA ns) (hsz:ns.length+1<=1000):wpAny (model prog w) A (setAttr (.ref x) name v) Q E ⟨h,g,d,t,os⟩:=IC F.store_ValueError X a jO b c f I i j hsz
theorem ID (X:XC h nm C P mN mP) (hna:mN name=none) (hpa:mP name=none) (hB:typeLookup (.type "ValueError") name=pure none) (I:h.Inst x C mA) (hv:mA name=some v) (hq:Q (.done (.ret v)) ⟨h,g,d,t,os⟩) :
  wpAny (model prog w) A (Builtin.«object.__getattribute__» ⟨[.ref x,.str name tk],[]⟩) Q E ⟨h,g,d,t,os⟩:=by
 have X0:=X;obtain⟨⟨q,N,bs,sn,sub,ab,col,dd,k0,k1,k2,k3,k5,hC,hn⟩,_⟩:=X;obtain⟨o,hx,hc,hnc,hd⟩:=I;rcases hd with⟨_,hmA⟩|⟨dx,hdx,hne,hns⟩
 ·rw[hmA name]at hv;cases hv
 unfold Builtin.«object.__getattribute__»
 repeat (first|(with_reducible refine vd hx ?_;rw[hc])|(with_reducible refine lq X0 hpa hB ?_;rw[hna])|wp_step)
 split
 ·rename_i c hcd
  exact absurd hcd (hnc c)
 unfold instanceDict
 repeat (first|(with_reducible refine vd hx ?_;rw[hc])|with_reducible refine vd hC ?_|wp_step)
 rw[hdx]
 repeat (first|(with_reducible refine wpAny_nsGet hns.ns ?_;rw[hv])|wp_step)
 exact hq
theorem A2:typeLookup (.type "ValueError") "__getattr__" = pure none:=by rw[qk,ni];kernel_rfl
theorem A3(X:XC h nm C P mN mP)(f:h.get? x=some o)(j:o.cls=.ref C)(l:Q () ⟨h,g,d,t,os⟩):wpAny M A (checkBuiltinCall "BaseException.__getattribute__" ⟨[.ref x,nameV],[]⟩) Q E ⟨h,g,d,t,os⟩:=by
 obtain⟨⟨q,N,bs,m,b,n,c,dd,p,r,k2,s,u,e,hn⟩,_⟩:=X;have i:builtinKind "BaseException.__getattribute__" = some .slot:=by decide
 have hs:splitId "BaseException.__getattribute__" = some ("BaseException","__getattribute__"):=by decide
 have a:(Value.ref C::(Value.ref P::dN)).contains (.type "BaseException")=true:=by rw[tf,tf];simp
 have v:=F.args_bexc_ga (.ref x) nameV;simp only[checkBuiltinCall,i,hs];refine aa ?_
 ·unfold isInstance
  repeat (first|(with_reducible refine vd f ?_;rw[j])|(with_reducible refine vg e ?_;rw[a])|wp_step)
  exact l
theorem IE (X:XC h nm C P mN mP) (p:mN "__getattribute__" = none) (a:mP "__getattribute__" = none) (q:mN "__getattr__" = none) (c:mP "__getattr__" = none) (f:mN name=none) (i:mP name=none) (r:typeLookup (.type "ValueError") name=pure none) (I:h.Inst x C mA) (s:mA name=some v) (y:handedOut v=pure v) (z:Q v ⟨h,g,d,t+1,os⟩) :
  wpAny (model prog w) A (getAttr (.ref x) name expr) Q E ⟨h,g,d,t,os⟩:=by
 have b:=F.excAttr_ValueError;have⟨o,j,l,_⟩:=id I;have u:=b.ga.bind (.ref x);have m:(expr && onTheHeap (Value.builtin "BaseException.__getattribute__"))=false:=by cases expr <;> rfl
 have e:(Value.builtin "BaseException.__getattribute__" == Value.builtin "object.__getattribute__")=false:=by decide
 have n:(onTheHeap (Value.ref C) && Value.builtin "BaseException.__getattribute__" == Value.builtin "object.__getattribute__")=false:=by rw[e];rfl
 unfold getAttr getAttrBy
 repeat (any_goals (first|assumption|(with_reducible refine vd j ?_;rw[l])|(with_reducible refine lq X a b.ga.lookup ?_;rw[p])|(with_reducible refine lq X c A2 ?_;rw[q])|wp_step))
 refine bh b.ga.plain F.entry_bexc_ga (A3 X j l (ID X f i r I s ?_))
 repeat (any_goals (first|assumption|wp_step))
end
end L2
namespace L2
open PySem
section
variable {M:Model}{A:Around}{E:Value->Shared->Prop}{env:Env}{s:Shared}
variable {nm:Str}{C P:Addr}{mN mP:Str->Option Value}
theorem IF(o:A.handled=none)(h:wpAny M A x (λv a=>∃e c t0 sl,v=.ref e/\XC a.heap nm C P mN mP/\a.heap.get? e=some ⟨.ref C,c,.fields #[.ref t0,.none,.none,.none,.bool false,.none],sl⟩/\E (.ref e) a) E s):wpAny M A (raiseStmt env (some x) none) Q E s:=by
 have b:(Value.ref C::(Value.ref P::dN)).contains (.type "BaseException")=true:=by rw[tf,tf];simp
 unfold raiseStmt;refine aa (re h (λv a i=>?_) λ_ _ z=>z);obtain⟨e,c,t0,sl,rfl,X,j,l⟩:=i;obtain⟨⟨q,N,bs,p,m,r,n,dd,u,w,k2,y,B,f,hn⟩,_⟩:=X;obtain⟨F,g,d,G,os⟩:=a
 repeat (first|with_reducible refine vd j ?_|with_reducible refine vd f ?_|(with_reducible refine vg f ?_;rw[b])|wp_step)
 exact wpAny_raiseNew_none o l
theorem IG(c:A.handled=none)(h:wpAny M A (eval x env) (λv a=>∃e d t0 sl,v=.ref e/\XC a.heap nm C P mN mP/\a.heap.get? e=some ⟨.ref C,d,.fields #[.ref t0,.none,.none,.none,.bool false,.none],sl⟩/\E (.ref e) a) E s):wpAny M A (exec (.Raise (some x) none pos) env) Q E s:=by
 rw[arm_exec_Raise];exact aa (yj (IF c (aa (re h (λv a b=>aa (yj (ia b))) λ_ _ z=>z))))
end
def jy(h:Heap)(e:Addr):Prop:=∃a vs T b c,h.get? e=some a/\a.data=.fields vs/\vs[1]?=some (.ref T)/\T≠e/\h.get? T=some b/\b.data=.fields c/\c[3]?=some .none
structure pX(fs:List Addr)(e:Addr)(h h':Heap):Prop where
 trc:jy h' e
 exc:∀oe vs,h.get? e=some oe->oe.data=.fields vs->∃vs',h'.get? e=some { oe with data:=.fields vs' }
 keep:∀b o,b≠e->b ∉ fs->h.get? b=some o->h'.get? b=some o
 slot:∀b o,b∈fs->h.get? b=some o->∃sl,h'.get? b=some { o with slots:=sl }
theorem wh{o:Obj}{vs:Array Value}(a:o.data=.fields vs)(f:Array Value->Array Value):o.mapFields f={ o with data:=.fields (f vs) }:=by
 obtain⟨c,d,dt,sl⟩:=o;cases a;rfl
section
variable {M:Model}{A:Around}{E:Value->Shared->Prop}{s:Shared}
theorem IH{base:Heap}{env:Env}{d:List Env}{L e:Addr}{oe:Obj}{vs:Array Value}{i:Value}{N:Bool}{Q:Unit->Shared->Prop}(O:A.frames=some (env::d))(hl:s.heap.FunFrames base (env::d))(Z:env.frame=some L)
  (P:s.heap.get? e=some oe) (B:oe.data=.fields vs) (hsz:1<vs.size) (q:∀h',pX ((env::d).filterMap (·.frame)) e s.heap h'->Q () { s with heap:=h' }) :
  wpAny M A (do let a ← frameOf env;let C ← entryPlaceOf L N;let b ← EntryCells.newEntry i a .none (rawInt L) .none C;setField (.ref e) 1 b) (λ_ s'=>wpAny M A (setFlight (.ref e) none) Q E s') E s:=by
 have w:e ∉ (env::d).filterMap (·.frame):=λhm=>by
  have⟨_,o,R,H⟩:=hl.mem hm;rw[P]at R;cases R;exact H vs B
 refine aa (wpAny_frameOf_fun O hl Z λc F=>?_);refine aa (wpAny_entryPlaceOf λC G=>?_);unfold EntryCells.newEntry newFields;refine aa (ue ?_ (G.sizeOk5 _ _ _ _ _));have e1:c.get? e=some oe:=(F.2.1 e w).trans P;generalize y:({ cls:=.type "traceback",dict:=none,data:=.fields ([i,.ref L,.none,rawInt L,.none]++(if C.isEmpty then List.replicate 6 Value.none else C)).toArray }:Obj)=ob;have J:ob.isFreed=false:=by rw[<-y];rfl
 obtain⟨I,m,v⟩:∃I,ob.data=.fields I/\3<I.size:=⟨_,by rw[<-y],by simp only[oa,wa,wb,md];omega⟩
 have e2:=na (h:=c) ob e1;refine qg e2 B hsz ?_;have n:c.objs.size≠e:=gk (ib e1);have K:=me B (·.setIfInBounds 1 (Value.ref c.objs.size));have T:=ce (Obj.mapFields (·.setIfInBounds 1 (Value.ref c.objs.size))) e2 (ag K);have U:=(cc (c.push ob) (Obj.mapFields (·.setIfInBounds 1 (Value.ref c.objs.size))) (ve n)).trans (zb c J);unfold setFlight;refine aa (jg T K (x:=.ref c.objs.size) (by simp[hsz]) ?_);rw[da (show (Value.ref c.objs.size != Value.none)=true from by simp)];refine qg U m v (q _ ?_)
 have g:∀b o,b≠e->c.get? b=some o->((((c.push ob).update e (Obj.mapFields (·.setIfInBounds 1 (Value.ref c.objs.size)))).update c.objs.size (Obj.mapFields (·.setIfInBounds 3 ((none:Option Addr).elim Value.none λf=>rawInt f)))).get? b)=some o:=λb o j p=>by
  rw[cc _ _ (gk (ib p)),cc _ _ (ve j)];exact na _ p
 have X:(((c.push ob).update e (Obj.mapFields (·.setIfInBounds 1 (Value.ref c.objs.size)))).update c.objs.size (Obj.mapFields (·.setIfInBounds 3 ((none:Option Addr).elim Value.none λf=>rawInt f)))).get? e=some (oe.mapFields (·.setIfInBounds 1 (Value.ref c.objs.size))):=by
  rw[cc _ _ n];exact T
 refine⟨⟨_,_,c.objs.size,_,_,X,K,by simp[hsz],n,ce _ U (ag (me m _)),me m _,by simp[v]⟩,λo' Y r u=>?_,λb o j l p=>g b o j ((F.2.1 b l).trans p),λb o l p=>?_⟩
 ·rw[P]at r;cases r
  rw[B]at u;cases u;exact⟨_,by rw[X,wh B]⟩
 ·have⟨sl,hs⟩:=F.2.2 b o p
  exact⟨sl,g b _ (λz=>w (by rw[<-z];exact l)) hs⟩
theorem II{vs:Array Value}{i:Nat}{v:Value}(h:vs[i]?=some v):vs.setIfInBounds i v=vs:=by
 apply Array.ext_getElem?;intro j;rw[Array.getElem?_setIfInBounds];split
 ·rename_i e
  subst e;split
  ·exact h.symm
  ·rename_i hn
   rw[uj (by omega)]
 ·rfl
theorem wr{h:Heap}{T:Addr}{a:Obj}{f:Array Value}{i:Nat}{v:Value}(c:h.get? T=some a)(g:a.data=.fields f)(j:f[i]?=some v)(b:Addr):(h.update T (Obj.mapFields (·.setIfInBounds i v))).get? b=h.get? b:=by
 by_cases d:b=T
 ·subst d
  have e:a.mapFields (·.setIfInBounds i v)=a:=by rw[wh g,II j,<-g]
  rw[ce _ c (by rw[e];exact(Heap.get?_some_iff.mp c).2),e,c]
 ·exact cc _ _ (ve d)
theorem IJ{base:Heap}{env:Env}{c:List Env}{L e:Addr}{Q:Unit->Shared->Prop}(j:A.frames=some (env::c))(hl:s.heap.FunFrames base (env::c))(u:env.frame=some L)(y:jy s.heap e)
  (q:∀h',pX ((env::c).filterMap (·.frame)) e s.heap h'->Q () { s with heap:=h' }):wpAny M A (noteFrame (.ref e) env) (λ_ s'=>wpAny M A (setFlight (.ref e) none) Q E s') E s:=by
 obtain⟨l,vs,T,z,B,m,p,r,x,h,d,i⟩:=y;unfold noteFrame;simp only[u];refine aa (jg m p r ?_);rw[da (show (Value.ref T != Value.none)=true from by simp)];refine aa (jg h d i ?_);rw[qa (show ¬((Value.none == rawInt L)=true) from by simp[rawInt])];refine aa (qg h d (pd.mp i).1 ?_);have same:=wr h d i;refine IH (base:=base) j (hl.of_keeps λb o v _=>⟨o,(same b).trans v,rfl⟩) u ((same e).trans m) p (pd.mp r).1 λh' n=>q h' ⟨n.trc,λl vs a b=>n.exc l vs ((same e).trans a) b,λb o f g w=>n.keep b o f g ((same b).trans w),λb o f g=>n.slot b o f ((same b).trans g)⟩
end
end L2
namespace L2
open PySem PySem.Spec PyProof.Rows
section
variable {κ:Type}[DecidableEq κ]
noncomputable def dD(kvs:List (κ×V))(k:κ):Option V:=(kvs.find? λa=>decide (a.1=k)).map (·.2)
noncomputable def e7(kvs:List (κ×V))(k:κ)(v:V):List (κ×V) :=
 if (kvs.any λa=>decide (a.1=k))=true then kvs.map (λa=>if a.1=k then (a.1,v) else a) else kvs++[(k,v)]
theorem mJ{p:κ×V}{r:List (κ×V)}{k:κ}(e:p.1=k):dD (p::r) k=some p.2:=by simp[dD,jf,e]
theorem lQ{p:κ×V}{r:List (κ×V)}{k:κ}(e:¬p.1=k):dD (p::r) k=dD r k:=by simp[dD,jf,e]
theorem ws(k:κ):∀kvs:List (κ×V),(kvs.any λa=>decide (a.1=k))=(dD kvs k).isSome
 |[]=>rfl
 |p::r=>by
  rw[zg];by_cases e:p.1=k
  ·simp only[mJ e,za e,Bool.true_or,Option.isSome_some]
  ·rw[lQ e,nb e,Bool.false_or];exact ws k r
theorem wt(kvs:List (κ×V))(k:κ)(v:V):(e7 kvs k v).length<=kvs.length+1:=by
 unfold e7;split
 ·rw[ba];omega
 ·rw[wa,wb,md];omega
theorem ez.isSome_eq{o:Option V}{u:Option Value}(r:ez o u):o.isSome=u.isSome:=by
 cases o with
 |none=>cases u with
  |none=>rfl
  |some _=>exact(show False from r).elim
 |some _=>cases u with
  |none=>exact(show False from r).elim
  |some _=>rfl
theorem ez.getD{o:Option V}{u:Option Value}{d:V}{d':Value}(r:ez o u)(rd:bj d d'):bj (o.getD d) (u.getD d'):=by
 cases o with
 |none=>cases u with
  |none=>exact rd
  |some _=>exact(show False from r).elim
 |some _=>cases u with
  |none=>exact(show False from r).elim
  |some _=>exact r
theorem KV.val{kvs:List (κ×V)}{vs:List (κ×Value)}(r:KV kvs vs)(k:κ):ez (dD kvs k) (valueAt vs k):=by
 unfold KV at r
 induction r with
 |nil=>exact ug
 |@cons p q ps c h t g =>
  obtain⟨d,f⟩:=h;by_cases e:p.1=k
  ·have a:q.1=k:=d.symm.trans e
   have b:valueAt (q::c) k=some q.2:=by simp[valueAt,jf,a]
   rw[mJ e,b];exact f
  ·have a:¬q.1=k:=λz=>e (d.trans z)
   have b:valueAt (q::c) k=valueAt c k:=by simp[valueAt,jf,a]
   rw[lQ e,b];exact g
theorem KV.any{kvs:List (κ×V)}{vs:List (κ×Value)}(r:KV kvs vs)(k:κ):(kvs.any λa=>decide (a.1=k))=vs.any λa=>decide (a.1=k):=by
 unfold KV at r
 induction r with
 |nil=>rfl
 |cons h t b=>rw[zg,zg,b,h.1]
theorem KV.repl{kvs:List (κ×V)}{vs:List (κ×Value)}(r:KV kvs vs)(k:κ){y:V}{u:Value}(d:bj y u) :
  KV (kvs.map λa=>if a.1=k then (a.1,y) else a) (vs.map λa=>if a.1=k then (a.1,u) else a):=by
 unfold KV at r ⊢
 induction r with
 |nil=>exact .nil
 |@cons p q ps g h t f =>
  rw[ja,ja];refine .cons ?_ f;obtain⟨b,c⟩:=h;by_cases e:p.1=k
  ·rw[da e,da (b.symm.trans e)];exact⟨b,d⟩
  ·rw[qa e,qa (λz=>e (b.trans z))];exact⟨b,c⟩
theorem KV.put{kvs:List (κ×V)}{vs:List (κ×Value)}(r:KV kvs vs)(k:κ){y:V}{u:Value}(a:bj y u):KV (e7 kvs k y) (stored vs k u):=by
 unfold e7 stored;rw[r.any k];by_cases e:(vs.any λb=>decide (b.1=k))=true
 ·rw[da e,da e];exact r.repl k a
 ·rw[qa e,qa e];exact Paired.snoc r ⟨rfl,a⟩
theorem KV.length{kvs:List (κ×V)}{vs:List (κ×Value)}(r:KV kvs vs):kvs.length=vs.length:=Paired.length r
end
theorem oz{P:Program}{w:World}{k:aW}{u:Value}(r:bj (kV k) u):(fM P w).is k u=true:=by
 cases k with
 |inl i=>have⟨t,e⟩:=(show ∃t,u=Value.int i t from r);subst e;exact E5 P w i t
 |inr x=>have⟨t,e⟩:=(show ∃t,u=Value.str x t from r);subst e;exact E6 P w x t
theorem A4{P:Program}{w:World}:∀{ks:List aW}{a:List Value},bB (ks.map kV) a->ItemsAre (fM P w) ks a
 |[],_,r=>by rw[rg]at r;cases r;exact .nil
 |k::ks,_,r=>by
  rw[ja]at r
  cases r with
  |cons h t=>exact .cons (oz h) (A4 t)
abbrev KT(H:Hp):List (List aW×V)->List (List aW×Addr×Value)->Prop:=Paired λp q=>p.1=q.1/\H q.2.1=some (.tup (p.1.map kV))/\bj p.2 q.2.2
theorem KT.val{H:Hp}{kvs:List (List aW×V)}{xs:List (List aW×Addr×Value)}(r:KT H kvs xs)(k:List aW):ez (dD kvs k) ((atKey xs k).map (·.2)):=by
 induction r with
 |nil=>exact ug
 |@cons p q ps c h t g =>
  obtain⟨d,_,f⟩:=h;by_cases e:p.1=k
  ·have a:q.1=k:=d.symm.trans e
   have b:atKey (q::c) k=some q.2:=by simp[atKey,jf,a]
   rw[mJ e,b];exact f
  ·have a:¬q.1=k:=λz=>e (d.trans z)
   have b:atKey (q::c) k=atKey c k:=by simp[atKey,jf,a]
   rw[lQ e,b];exact g
theorem KT.repl{H:Hp}{kvs:List (List aW×V)}{xs:List (List aW×Addr×Value)}(r:KT H kvs xs)(k:List aW){y:V}{u:Value}(f:bj y u) :
  KT H (kvs.map λb=>if b.1=k then (b.1,y) else b) (xs.map (putAt k u)):=by
 induction r with
 |nil=>exact .nil
 |@cons p q ps i h t g =>
  rw[ja,ja];refine .cons ?_ g;obtain⟨a,c,d⟩:=h;unfold putAt;by_cases e:p.1=k
  ·rw[da e,da (a.symm.trans e)];exact⟨a,c,f⟩
  ·rw[qa e,qa (λz=>e (a.trans z))];exact⟨a,c,d⟩
theorem KT.put{H:Hp}{kvs:List (List aW×V)}{xs:List (List aW×Addr×Value)}(r:KT H kvs xs)(k:List aW){b:Addr}{y:V}{u:Value}(d:H b=some (.tup (k.map kV)))(a:bj y u) :
  KT H (e7 kvs k y) (storedH xs k b u):=by
 have e:(kvs.any λc=>decide (c.1=k))=(atKey xs k).isSome:=by
  rw[ws,(r.val k).isSome_eq,og]
 unfold e7 storedH;rw[e];by_cases q:(atKey xs k).isSome=true
 ·rw[da q,da q];exact r.repl k a
 ·rw[qa q,qa q];exact Paired.snoc r ⟨rfl,d,a⟩
theorem KT.keeps{H H':Hp}{kvs:List (List aW×V)}{xs:List (List aW×Addr×Value)}(r:KT H kvs xs)(a:∀b ys,H b=some (.tup ys)->H' b=some (.tup ys)):KT H' kvs xs :=
 Paired.mapP r λ_ _ z=>⟨z.1,a _ _ z.2.1,z.2.2⟩
section
variable {P:Program}{w:World}{H:Hp}{h:Heap}{a:Addr}
theorem A5{u:HO}(ok:cJ P w H h)(e:Rd H a u):cA P w H h a u:=e.ok ok
theorem lR{kvs:List (aW×V)}(ok:cJ P w H h)(e:Rd H a (.dK kvs)):kvs.length<=sizeLine/\(a == sysModules)=false/\∃vs,KV kvs vs/\h.DictOf (fM P w) a vs :=
 show cA P w H h a (.dK kvs) from A5 ok e
theorem IK{kvs:List (aW×V)}(ok:cJ P w H h)(e:H a=some (.dK kvs)):kvs.length<=sizeLine/\(a == sysModules)=false/\∃vs,KV kvs vs/\h.DictOf (fM P w) a vs:=lR ok (.inl e)
theorem mK{ks:List aW}(ok:cJ P w H h)(e:H a=some (.tup (ks.map kV))):(tupleKind (fM P w)).is h ks a:=by
 have⟨_,b,r,o,c,d,n,f⟩:=(show cA P w H h a (.tup (ks.map kV)) from ok a _ e)
 exact⟨o,b.toArray,n,c,d,f,by simpa using A4 r⟩
theorem mL{kvs:List (List aW×V)}(ok:cJ P w H h)(e:Rd H a (.dT kvs)):kvs.length<=sizeLine/\(a == sysModules)=false ∧
  ∃xs,KT H kvs xs/\h.DictOfH (tupleKind (fM P w)) a xs:=by
 have⟨z,y,xs,r,o,es,ep,c,d,f,g,i⟩:=(show cA P w H h a (.dT kvs) from A5 ok e)
 refine⟨z,y,xs,r,o,es,ep,c,d,f,g,λx hx=>?_,i⟩
 have all:∀{l:List (List aW×V)} {m:List (List aW×Addr×Value)},KT H l m->∀x∈m,(tupleKind (fM P w)).is h x.1 x.2.1:=by
  intro l m q
  induction q with
  |nil=>intro x hx;exact nomatch hx
  |@cons p q ps n b t j =>
   intro x hx;rcases pb.mp hx with e|hx
   ·subst e
    exact mK ok (by rw[<-b.1];exact b.2.1)
   ·exact j x hx
 exact all r x hx
theorem A6{kvs:List (List aW×V)}(ok:cJ P w H h)(e:H a=some (.dT kvs)):kvs.length<=sizeLine/\(a == sysModules)=false ∧
  ∃xs,KT H kvs xs/\h.DictOfH (tupleKind (fM P w)) a xs:=mL ok (.inl e)
end
def gK(H:Hp)(a:Addr)(y:V)(r:Option V):Prop :=
 (∃kvs k,Rd H a (.dK kvs)/\y=kV k/\r=dD kvs k)\/∃kvs k b,Rd H a (.dT kvs)/\y=.ref b/\H b=some (.tup (k.map kV))/\r=dD kvs k
def lS(H:Hp)(a:Addr)(y v:V)(H':Hp):Prop :=
 (∃kvs k,H a=some (.dK kvs)/\y=kV k/\kvs.length<sizeLine/\H'=aG H a (.dK (e7 kvs k v))) ∨
 ∃kvs k b,H a=some (.dT kvs)/\y=.ref b/\H b=some (.tup (k.map kV))/\kvs.length<sizeLine/\H'=aG H a (.dT (e7 kvs k v))
theorem gK.k{H:Hp}{a:Addr}{kvs:List (aW×V)}{k:aW}(e:H a=some (.dK kvs)):gK H a (kV k) (dD kvs k):=.inl ⟨kvs,k,.inl e,rfl,rfl⟩
theorem gK.t{H:Hp}{a b:Addr}{kvs:List (List aW×V)}{k:List aW}(e:H a=some (.dT kvs))(c:H b=some (.tup (k.map kV))):gK H a (.ref b) (dD kvs k):=.inr ⟨kvs,k,b,.inl e,rfl,c,rfl⟩
theorem lS.k{H:Hp}{a:Addr}{kvs:List (aW×V)}{k:aW}{v:V}(e:H a=some (.dK kvs))(hl:kvs.length<sizeLine):lS H a (kV k) v (aG H a (.dK (e7 kvs k v))):=.inl ⟨kvs,k,e,rfl,hl,rfl⟩
theorem lS.t{H:Hp}{a b:Addr}{kvs:List (List aW×V)}{k:List aW}{v:V}(e:H a=some (.dT kvs))(c:H b=some (.tup (k.map kV)))(hl:kvs.length<sizeLine) :
  lS H a (.ref b) v (aG H a (.dT (e7 kvs k v))):=.inr ⟨kvs,k,b,e,rfl,c,hl,rfl⟩
section
variable {X:Cx}{pins:List (Addr×Obj)}{σ:St}{H:Hp}{s:Shared}{a:Addr}{y v:V}{u r:Value}{o:Option V}{A:Around}{E:Value->Shared->Prop}
theorem aw.big(I:aw X pins σ H s):sysModules<s.heap.objs.size:=by
 have h:mainGlobals<s.heap.objs.size:=(I.mod.glob.keeps I.bk).lt;exact Nat.lt_trans (by decide) h
theorem IL{Q:Value->Shared->Prop}(B:A.units+1<cLine)(I:aw X pins σ H s)(g:gK H a y (some v))(n:bj y u)(h:∀f s',aw X pins σ H s'->bj v f->Q f s') :
  wpAny (model X.prog X.w) A (getItem (.ref a) u) Q E s:=by
 rcases g with⟨kvs,k,e,m,l⟩|⟨kvs,k,b,e,m,x,l⟩
 ·subst m
  have⟨z,q,vs,c,dd⟩:=lR I.hok e;obtain⟨f,i,d⟩:=ez.some_of (v:=v) (o:=valueAt vs k) (by rw[l];exact c.val k);exact wpAny_getItem_of (oz n) dd.mapOf i (h f _ (I.tok _) d)
 ·subst m
  cases (show u=Value.ref b from n)
  have⟨z,q,xs,c,dd⟩:=mL I.hok e;obtain⟨f,i,d⟩:=ez.some_of (v:=v) (o:=(atKey xs k).map (·.2)) (by rw[l];exact c.val k);have⟨p,r,j⟩:=lb.mp i;refine wpAny_getItem_heap (ci B) (mK I.hok x) dd r ?_;rw[j];exact h f _ (I.tok _) d
theorem IM{Q:Value->Shared->Prop}(m:A.units+1<cLine)(I:aw X pins σ H s)(g:gK H a y o)(i:bj y u)(h:∀s',aw X pins σ H s'->Q (.bool o.isSome) s') :
  wpAny (model X.prog X.w) A (compareOp .In u (.ref a)) Q E s:=by
 rcases g with⟨kvs,k,e,f,l⟩|⟨kvs,k,b,e,f,j,l⟩
 ·subst f
  have⟨z,d,vs,c,dd⟩:=lR I.hok e;refine wpAny_in_of (oz i) d dd.mapOf ?_;rw[<-(c.val k).isSome_eq,<-l];exact h _ (I.tok _)
 ·subst f
  cases (show u=Value.ref b from i)
  have⟨z,d,xs,c,dd⟩:=mL I.hok e;refine wpAny_in_heap (ci m) (mK I.hok j) d dd ?_;have q:=(c.val k).isSome_eq;rw[og]at q;rw[<-q,<-l];exact h _ (I.tok _)
theorem IN{Q:Value->Shared->Prop}(m:A.units+1<cLine)(I:aw X pins σ H s)(g:gK H a y o)(i:bj y u)(h:∀s',aw X pins σ H s'->Q (.bool (!o.isSome)) s') :
  wpAny (model X.prog X.w) A (compareOp .NotIn u (.ref a)) Q E s:=by
 rcases g with⟨kvs,k,e,f,l⟩|⟨kvs,k,b,e,f,j,l⟩
 ·subst f
  have⟨z,d,vs,c,dd⟩:=lR I.hok e;refine wpAny_notIn_of (oz i) d dd.mapOf ?_;rw[<-(c.val k).isSome_eq,<-l];exact h _ (I.tok _)
 ·subst f
  cases (show u=Value.ref b from i)
  have⟨z,d,xs,c,dd⟩:=mL I.hok e;refine wpAny_notIn_heap (ci m) (mK I.hok j) d dd ?_;have q:=(c.val k).isSome_eq;rw[og]at q;rw[<-q,<-l];exact h _ (I.tok _)
theorem wv{h':Heap}{t':Nat}{c:HO}(I:aw X pins σ H s)(f:pN (H a))(hs:Heap.SameBut a s.heap h')(g:∃q,h'.get? a=some q)(new:cA X.prog X.w (aG H a c) h' a c) :
  aw X pins σ (aG H a c) { s with heap:=h',toks:=t' } :=
 I.write (x:=a) (e:=a) f (.inl rfl) (λb q d z=>(hs.2 b d).trans z) g new
theorem IP{P:Program}{w:World}{H':Hp}{h':Heap}{kvs:List (aW×V)}{vs:List (aW×Value)}(z:kvs.length<=sizeLine)(c:(a == sysModules)=false)(b:KV kvs vs)(dd:h'.DictOf (fM P w) a vs) :
  cA P w H' h' a (.dK kvs):=⟨z,c,vs,b,dd⟩
theorem IQ{H':Hp}{Q:Unit->Shared->Prop}(L:A.units+1<cLine)(I:aw X pins σ H s)(g:lS H a y v H')(x:bj y u)(B:bj v r)(h:∀s',aw X pins σ H' s'->Q () s') :
  wpAny (model X.prog X.w) A (setItem (.ref a) u r) Q E s:=by
 rcases g with⟨kvs,k,e,m,l,n⟩|⟨kvs,k,b,e,m,p,l,n⟩
 ·subst m n
  have⟨z,j,vs,d,dd⟩:=IK I.hok e;have hz:vs.length<=sizeLine:=by rw[<-d.length];exact z
  have hl:(e7 kvs k v).length<=sizeLine:=by have:=wt kvs k v;omega
  refine wpAny_setItem_pairs (hsz:=hz) (oz x) dd λh' f hs=>h _ ?_
  have K:∃q,h'.get? a=some q:=let ⟨q,_,_,i,_⟩:=f;⟨q,i⟩
  exact wv I (by rw[e];exact ug) hs K (IP hl j (d.put k B) f)
 ·subst m n
  cases (show u=Value.ref b from x)
  have⟨z,j,xs,d,dd⟩:=A6 I.hok e;have hz:xs.length<=sizeLine:=by rw[<-Paired.length d];exact z
  have hl:(e7 kvs k v).length<=sizeLine:=by have:=wt kvs k v;omega
  refine wpAny_setItem_heap (hsz:=hz) (ci L) (mK I.hok p) dd λh' f hs=>h _ ?_
  obtain⟨q,es,ep,i,C,F,G,_,J⟩:=f;refine wv I (by rw[e];exact ug) hs ⟨q,i⟩ ⟨hl,j,_,(d.put k p B).keeps λc ys o=>?_,q,es,ep,i,C,F,G,J⟩;rw[aK (fZ o e (λz=>nomatch z))];exact o
end
def ww(i:Expr):Prop:=∀a b,subscripted i false a b=operate [a,b] (getItem a b)
theorem IR{prog:Program}{w:World}{A:Around}{E:Value->Shared->Prop}{s:Shared}{env:Env}{b a:Expr}{l:Pos}{T id:String}{Q:Value->Shared->Prop}
  (hl:typeLookup (.type T) "__getitem__" = pure (some (.builtin id))) (hs:ww a)
  (h:wpAny (model prog w) A (eval b env) (λo d=>wpAny (model prog w) A (eval a env) (λi s₂=>s₂.TypeIs o T/\wpAny (model prog w) A (getItem o i) Q E s₂) E d) E s) :
  wpAny (model prog w) A (eval (.Subscript b a l) env) Q E s:=by
 refine Subscript_ (re h (λo d g=>re g (λi s₂ c=>?_) λ_ _ x=>x) λ_ _ x=>x);obtain⟨m,c⟩:=c;unfold subscriptTail;refine aa ?_;rw[getitemInPython_of_ne m.not_modules];refine aa (rm m hl ?_)
 have f:wpAny (model prog w) A (subscripted a false o i) (λr e=>wpAny (model prog w) A (letTemporaryGo b o r >>= λ_=>pure r) Q E e) E s₂:=by
  rw[hs o i];exact wpAny_operating (re c (λr e j=>aa (wpAny_letTemporaryGo (ia j))) λ_ _ x=>x)
 first
  |exact ia (aa f)
  |exact aa (ia (aa f))
  |exact aa f
theorem IS{X:Cx}{c:List (Addr×Obj)}{d:St}{H:Hp}{s:Shared}{a:Addr}{y:V}{o:Option V}(I:aw X c d H s)(g:gK H a y o):s.TypeIs (.ref a) "dict":=by
 rcases g with⟨kvs,k,e,_,_⟩|⟨kvs,k,b,e,_,_,_⟩
 ·have⟨_,_,vs,_,dd⟩:=lR I.hok e
  exact dd.typeIs
 ·have⟨_,_,xs,_,dd⟩:=mL I.hok e
  exact dd.typeIs
def IT(td ty:TE):TE:=λσ H Q=>td σ H λx H1=>ty σ H1 λy H2=>∃a v,x=.ref a/\gK H2 a y (some v)/\Q v H2
def IU(td ty tv:TE):TS:=λD σ H=>tv σ H λv H1=>td σ H1 λx H2=>ty σ H2 λy c=>∃a b,x=.ref a/\lS c a y v b/\D.nx σ b
section
variable {X:Cx}{o i e value:Expr}{pos pos' tpos:Pos}{td ty tv:TE}
theorem IV(B:X.A.units+1<cLine)(C:PE X o td)(E:PE X i ty)(hs:ww i):PE X (.Subscript o i pos) (IT td ty):=by
 intro b s e H Q I h;refine IR PySem.F.slot_dict_getitem.lookup hs (aX (C b s e H _ I h) λu f ⟨x,j,l,m,n⟩=>aX (E b f e j _ l n) λG J ⟨y,p,d,q,a,v,r,g,w⟩=>?_);subst r;obtain rfl:u=Value.ref a:=m;exact⟨IS d g,IL B d g q λK L z c=>⟨v,p,z,c,w⟩⟩
theorem IW(J:X.A.units+1<cLine)(K:PE X o td)(L:PE X i ty)(M:PE X value tv)(hs:swapsWith value (some (.Subscript o i pos')) pos.line X.env=pure false) :
  PS X (.Assign [.Subscript o i pos'] value pos) (IU td ty tv):=by
 intro b s c H D I h;refine wpAny_Assign_Subscript (aX (M b s c H _ I h) λr d ⟨v,e,f,j,l⟩=>aX (K b d c e _ f l) λu m ⟨x,n,p,q,w⟩=>aX (L b m c n _ p w) λN O ⟨y,P,z,B,a,C,E,g,F⟩=>?_) hs;subst E;obtain rfl:u=Value.ref a:=q;exact IQ J z g B j λQ G=>⟨c,C,G,F⟩
end
theorem IZ{P:Program}{w:World}{H:Hp}(h:Heap)(a:sysModules<h.objs.size):cA P w H (h.push { cls:=.type "dict",data:=.dict #[] }) h.objs.size (.dK []) :=
 ⟨be _,aj.mpr (ve (ic a)),[],.nil,Heap.DictOf.new h⟩
theorem I9{P:Program}{w:World}{H:Hp}(h:Heap)(a:sysModules<h.objs.size):cA P w H (h.push { cls:=.type "dict",data:=.dict #[] }) h.objs.size (.dT []) :=
 ⟨be _,aj.mpr (ve (ic a)),[],.nil,_,#[],0,zb _ rfl,⟨rfl,rfl,rfl⟩,rfl,rfl,ji⟩
def Ja:TE:=λ_ H Q=>∀p,H p=none->Q (.ref p) (aG H p (.dK []))
def Jb:TE:=λ_ H Q=>∀p,H p=none->Q (.ref p) (aG H p (.dT []))
section
variable {X:Cx}{pos:Pos}
theorem Jc:PE X (.Dict [] [] pos) Ja:=λb s c H Q I h =>
 zo ⟨.ref s.heap.objs.size,_,I.laid (a:=s.heap.objs.size) (o:=.dK []) (t':=s.toks) (λ_ _ q=>na _ q) (bb _) (IZ s.heap I.big),rfl,h _ (I.hok.fresh (bb _))⟩
theorem A7:PE X (.Dict [] [] pos) Jb:=λb s c H Q I h =>
 zo ⟨.ref s.heap.objs.size,_,I.laid (a:=s.heap.objs.size) (o:=.dT []) (t':=s.toks) (λ_ _ q=>na _ q) (bb _) (I9 s.heap I.big),rfl,h _ (I.hok.fresh (bb _))⟩
end
structure M2(X:Cx)(o:Expr)(m:Str)(apos:Pos)(e f:Expr)(cpos:Pos):Prop where
 base:attributeBase o m X.env (eval o X.env)=eval o X.env
 few:((backTo cpos (starEach [e,f] X.env)).all (λ x=>!x.1) && (backToKw cpos (keywordEach [] X.env)).all (λ x=>x.1.isSome)
  && decide (([e,f]:List Expr).length+([]:List Keyword).length+(if ([]:List Keyword).isEmpty then 0 else 1)<30))=true
 line:(apos.endLine == cpos.line)=true
 trees:backTo cpos (starEach [e,f] X.env)=[(false,eval e X.env),(false,eval f X.env)]
def pY(H:Hp)(a:Addr):Prop:=(∃kvs,Rd H a (.dK kvs))\/∃kvs,Rd H a (.dT kvs)
theorem A8{X:Cx}{f:List (Addr×Obj)}{j:St}{H:Hp}{s:Shared}{a:Addr}(I:aw X f j H s)(d:pY H a) :
  s.TypeIs (.ref a) "dict" /\ (∀b,Value.ref a=.ref b->∃c,s.heap.get? b=some c/\c.dict=none)/\(a == sysModules)=false:=by
 rcases d with⟨kvs,e⟩|⟨kvs,e⟩
 ·have⟨_,g,vs,_,dd⟩:=lR I.hok e
  refine⟨dd.typeIs,λb q=>?_,g⟩;cases q;obtain⟨c,_,_,h,i,_⟩:=dd;exact⟨c,h,i.2.1⟩
 ·have⟨_,g,xs,_,dd⟩:=mL I.hok e
  refine⟨dd.typeIs,λb q=>?_,g⟩;cases q;obtain⟨c,_,_,h,i,_⟩:=dd;exact⟨c,h,i.2.1⟩
section
variable {X:Cx}{pins:List (Addr×Obj)}{σ:St}{H:Hp}{s:Shared}{a:Addr}{y d:V}{u r:Value}{o:Option V}{A:Around}{E:Value->Shared->Prop}
theorem Jd{Q:Value->Shared->Prop}(p:A.units+1<cLine)(I:aw X pins σ H s)(g:gK H a y o)(j:bj y u)(rd:bj d r)(h:∀m s',aw X pins σ H s'->bj (o.getD d) m->Q m s') :
  wpAny (model X.prog X.w) A (call (.builtin "dict.get") [.ref a,u,r]) Q E s:=by
 rcases g with⟨kvs,k,e,i,l⟩|⟨kvs,k,b,e,i,n,l⟩
 ·subst i
  have⟨z,f,vs,c,dd⟩:=lR I.hok e;refine call_meetsIn PySem.F.slot_dict_get dd.typeIs PySem.F.entry_dict_get (PySem.F.args_dict_get_3 _ _ _) (meets_dict_get_default (fM X.prog X.w) a (oz j) f r) ⟨_,dd.mapOf,h _ _ (I.tok _) ?_⟩;rw[l];exact(c.val k).getD rd
 ·subst i
  cases (show u=Value.ref b from j)
  have⟨z,f,xs,c,dd⟩:=mL I.hok e;refine call_meetsIn PySem.F.slot_dict_get dd.typeIs PySem.F.entry_dict_get (PySem.F.args_dict_get_3 _ _ _) (meetsH_dict_get_default (tupleKind (fM X.prog X.w)) a b f r) ⟨ci p,k,xs,mK I.hok n,dd,h _ _ (I.tok _) ?_⟩;rw[l];exact(c.val k).getD rd
end
def Je(td ty tx:TE):TE:=λσ H Q=>td σ H λx H1=>∃a,x=.ref a/\pY H1 a/\ty σ H1 λy H2=>tx σ H2 λz b=>∃o,gK b a y o/\Q (o.getD z) b
section
variable {X:Cx}{o e f:Expr}{apos cpos:Pos}{td ty tx:TE}
theorem Jf (P:X.A.units+1<cLine) (R:PE X o td) (T:PE X e ty) (U:PE X f tx) (m:M2 X o "get" apos e f cpos):PE X (.Call (.Attribute o "get" apos) [e,f] [] cpos) (Je td ty tx):=by
 intro b s i H Q I h;refine wpAny_Call_method m.base m.few m.line PySem.F.plainAttrs_dict PySem.F.slot_dict_get PySem.F.type_dict_get (aX (R b s i H _ I h) λu l ⟨x,n,j,p,a,q,d,r⟩=>?_);subst q;obtain rfl:u=Value.ref a:=p;have⟨N,O,_⟩:=A8 j d;refine⟨N,O,?_⟩;rw[m.trees]
 refine Calls.callWith_builtin rfl (Calls.evalArgs_plain (Calls.spliced_cons (aX (T b l i n _ j r) λ Y v ⟨y,w,B,C,E⟩ =>
  ai (aX (U b v i w _ B E) λZ s3 ⟨z,G,J,K,ov,g,L⟩=>ll ?_))))
 exact Jd P J g C K λw' s4 M c=>⟨_,G,M,c,L⟩
end
def gL(e C t0:Addr):Heap->Prop:=λh=>h.get? e=some ⟨.ref C,none,.fields #[.ref t0,.none,.none,.none,.bool false,.none],#[]⟩
def ky(e C dx t0:Addr):Heap->Prop:=λh=>h.get? e=some ⟨.ref C,some dx,.fields #[.ref t0,.none,.none,.none,.bool false,.none],#[]⟩
def dq(e C dx:Addr):Heap->Prop:=λh=>∃vs sl,h.get? e=some ⟨.ref C,some dx,.fields vs,sl⟩
def eF(dx:Addr)(fs:List (Str×V)):Heap->Prop:=λh=>∃mA,h.Ns1 dx mA/\(∀f,ez (fs.lookup f) (mA f))/\PySem.Within mA (fs.map (·.1))
section
variable {P:Program}{w:World}{H:Hp}{h:Heap}{e C dx t0:Addr}{fs:List (Str×V)}
theorem A9(x:gL e C t0 h):cA P w H h e (.ext (gL e C t0)):=⟨x,⟨_,x⟩,λ_ _ p k=>k _ p⟩
theorem Jg(x:ky e C dx t0 h):cA P w H h e (.ext (ky e C dx t0)):=⟨x,⟨_,x⟩,λ_ _ p k=>k _ p⟩
theorem wx(x:dq e C dx h):cA P w H h e (.ext (dq e C dx)):=⟨x,let ⟨_,_,z⟩:=x;⟨_,z⟩,λ_ _ ⟨vs,sl,p⟩ k=>⟨vs,sl,k _ p⟩⟩
theorem Ba(x:eF dx fs h):cA P w H h dx (.ext (eF dx fs)):=⟨x,let ⟨_,⟨o,_,_,z,_⟩,_⟩:=x;⟨o,z⟩,λ_ _ ⟨mA,p,r⟩ k=>⟨mA,p.at k,r⟩⟩
theorem cJ.ext(x:cJ P w H h)(e:H a=some (.ext φ)):φ h:=(x a _ e).1
end
noncomputable def jz:List Str:=["__setattr__","__getattribute__","__getattr__","__class__","path","first","last","goal","ring","at","row"]
def pZ(K:Fg1)(N:Addr)(a:Option Value):Prop:=∃c d es ep sl,K.lookup N=some ⟨c,d,.dict es ep,sl⟩/\(∀e∈es,∃n t,e.key=.str n t)/\(∀n∈jz,nsFind es n=none)/\nsFind es "__init__" = a
structure cU(K:Fg1)(nm:Str)(C P:Addr)(fI:Option Addr):Prop where
 cl:∃q N bs sn sub ab col dd k0 k1 k2 k3 k5,K.lookup C=some (excClassObj nm q C N bs (.ref P::dN) true sn sub ab col dd k0 k1 k2 k3 k5 "ValueError.__new__")/\pZ K N (fI.map Value.ref)
 pa:∃pn q N bs hd sn sub ab col dd k0 k1 k2 k3 k5,K.lookup P=some (excClassObj pn q P N bs dN hd sn sub ab col dd k0 k1 k2 k3 k5 "ValueError.__new__")/\pZ K N none
theorem pZ.ns{K:Fg1}{N:Addr}{ini:Option Value}(x:pZ K N ini){h:Heap}(X:K.In h):∃m,h.Ns N m/\(∀n∈jz,m n=none)/\m "__init__" = ini:=by
 obtain⟨c,d,es,ep,sl,a,b,e,f⟩:=x;exact⟨λn=>nsFind es n,⟨_,es,ep,X _ _ a,rfl,b,λ_=>rfl⟩,e,f⟩
theorem cU.at_{K:Fg1}{nm:Str}{C P:Addr}{c:Option Addr}(x:cU K nm C P c)(h:Heap)(X:K.In h):∃mN mP,XC h nm C P mN mP/\(∀n∈jz,mN n=none/\mP n=none)/\mN "__init__" = c.map Value.ref/\mP "__init__" = none:=by
 obtain⟨⟨q,N,bs,d,a,e,b,dd,f,g,k2,i,j,l,o⟩,p,r,s,u,v,w,y,z,A,b0,b1,b2,b3,b4,B,E,F⟩:=x;have⟨m,G,H,I⟩:=o.ns X;have⟨J,L,M,O⟩:=F.ns X;exact⟨m,J,⟨⟨q,N,bs,d,a,e,b,dd,f,g,k2,i,j,X _ _ l,G⟩,p,r,s,u,v,w,y,z,A,b0,b1,b2,b3,b4,B,X _ _ E,L⟩,λn hn=>⟨H n hn,M n hn⟩,I,O⟩
theorem Bb:∀n∈(["path","first","last","goal","ring","at","row"]:List Str),typeLookup (.type "ValueError") n=pure none:=by
 intro n hn;simp only[pb,ek,wu]at hn;rcases hn with rfl|rfl|rfl|rfl|rfl|rfl|rfl <;> (rw[qk,ni];kernel_rfl)
noncomputable abbrev gM:List Str:=["path","first","last","goal","ring","at","row"]
theorem Bc(h:n∈gM):n∈jz:=by
 unfold jz;simp only[pb,ek,wu]at h ⊢;rcases h with rfl|rfl|rfl|rfl|rfl|rfl|rfl <;> simp
section
variable {X:Cx}{pins:List (Addr×Obj)}{σ:St}{H:Hp}{s:Shared}{h':Heap}
theorem aw.xnew(I:aw X pins σ H s)(a:H e=some (.ext φ))(h:s.heap.objs.size<=dx)(k:∀b o,b≠e->s.heap.get? b=some o->h'.get? b=some o)(l:∀H',cA X.prog X.w H' h' e (.ext φ'))(p:∀H',cA X.prog X.w H' h' dx (.ext ψ)) :
  aw X pins σ (aG (aG H e (.ext φ')) dx (.ext ψ)) { s with heap:=h',toks:=t' }:=by
 have j:=I.hok.fresh h;have m:e≠dx:=cC a j;have f:∀{b:Addr} {u:HO},H b=some u->b≠e->aG (aG H e (.ext φ')) dx (.ext ψ) b=some u:=λ{b u} q n=>by rw[aK (cC q j),aK n];exact q
 refine I.un ⟨λb o q n hc i=>k b o (cC a n).symm q,λb o q n hc i=>⟨o.slots,k b o (cC a n).symm q⟩,λb o q n i=>?_,λb o q i=>?_,λb xs q=>f q (fZ q a λz=>nomatch z),λb o u q=>f q (fZ q a λz=>nomatch z),λb ps q=>⟨#[],by rw[f q (fZ q a λz=>nomatch z)];simp⟩⟩ λb u q=>?_
 ·rw[aK (ic (ub (ib q) h)),aK (cC a n).symm];exact n
 ·by_cases g:b=e
  ·subst g;exact(l H).2.1
  ·exact⟨o,k b o g q⟩
 ·by_cases g:b=dx
  ·subst g;rw[bi]at q;cases q;exact p _
  ·rw[aK g]at q
   by_cases d:b=e
   ·subst d;rw[bi]at q;cases q;exact l _
   ·rw[aK d]at q
    refine(I.hok b u q).stay (λc v hc z=>k c v ?_ z) (λc z=>f z (fZ z a λz=>nomatch z)) λc ys z=>f z (fZ z a λz=>nomatch z)
    rcases hc with rfl|hc
    ·exact d
    ·exact fZ hc a λz=>nomatch z
theorem Jh{fs:List (Str×V)}{mA:Str->Option Value}{f:Str}{v:V}{u:Value}(r:∀g,ez (fs.lookup g) (mA g))(hn:fs.lookup f=none)(c:bj v u):∀g,ez ((fs++[(f,v)]).lookup g) ((λy=>if y=f then some u else mA y) g):=λg=>by
 rw[List.lookup_append];by_cases b:g=f
 ·subst b
  show ez _ (if g=g then some u else mA g);rw[da rfl,hn]
  have:List.lookup g [(g,v)]=some v:=by simp[List.lookup]
  rw[this];exact c
 ·show ez _ (if g=f then some u else mA g)
  rw[qa b];have a:=r g
  cases e:fs.lookup g with
  |some z=>rw[e]at a;exact a
  |none =>
   rw[e]at a
   have:List.lookup g [(f,v)]=none:=by simp[List.lookup,beq_false_of_ne b]
   rw[this];exact a
theorem Ji{nm:Str}{C P e:Addr}{fI:Option Addr}{f:Str}{v:V}{u:Value}{A:Around}{E:Value->Shared->Prop}{Q:Unit->Shared->Prop}(I:aw X pins σ H s)(c:cU X.K nm C P fI)(hf:f∈gM)(rv:bj v u)
  (h:(∃ t0,H e=some (.ext (gL e C t0))/\∀ s' dx,H dx=none->dx≠e->aw X pins σ (aG (aG H e (.ext (ky e C dx t0))) dx (.ext (eF dx [(f,v)]))) s'->Q () s') ∨
   (∃dx t0 fs,H e=some (.ext (ky e C dx t0))/\H dx=some (.ext (eF dx fs))/\dx≠e/\fs.lookup f=none/\fs.length<=10/\∀s',aw X pins σ (aG H dx (.ext (eF dx (fs++[(f,v)])))) s'->Q () s')) :
  wpAny (model X.prog X.w) A (setAttr (.ref e) f u) Q E s:=by
 have⟨mN,mP,xc,hx,_,_⟩:=c.at_ s.heap I.kIn;have i:=hx f (Bc hf);have hs:=hx "__setattr__" (by simp[jz]);have hv:=Bb f hf;obtain⟨U,g,d,t,os⟩:=s;rcases h with⟨t0,M,q⟩|⟨dx,t0,fs,M,hd,hne,hn,hl,q⟩
 ·have l:U.get? e=some ⟨.ref C,none,.fields #[.ref t0,.none,.none,.none,.bool false,.none],#[]⟩:=I.hok.ext M
  refine A1 (mA:=λ_=>none) (ns:=[]) xc hs.1 hs.2 i.1 i.2 hv ⟨_,l,rfl,λc z=>(by cases z),.inl ⟨rfl,λ_=>rfl⟩⟩ (λh' m ⟨Z,i2,i3⟩=>?_) PySem.Within.nil (by simp);have⟨⟨oc,od,odt,osl⟩,r,B,F,G,dx,J,o6⟩:=i3 _ l
  have N:U.objs.size<=dx:=by
   rcases o6 with z|z
   ·cases z
   ·exact z.2
  simp only at B F G J;subst B F G J;have O:=I.hok.fresh N;refine q _ dx O (cC M O).symm (I.xnew (t':=m) M N (λb o hb z=>i2 b o hb (λn a p z2=>by rw[l]at p;cases p;cases z2) z) (λ_=>Jg r) λ_=>Ba ?_);obtain⟨o',L,_,_,j4⟩:=Z;rw[r]at L;cases L;rcases j4 with⟨j,_⟩|⟨a,j,_,Y⟩
  ·cases j
  ·cases j
   refine⟨_,Y,λg=>?_,?_⟩
   ·by_cases hg:g=f
    ·subst hg
     have:List.lookup g [(g,v)]=some v:=by simp[List.lookup]
     show ez _ (if g=g then some u else none);rw[this,da rfl];exact rv
    ·have:List.lookup g [(f,v)]=none:=by simp[List.lookup,beq_false_of_ne hg]
     show ez _ (if g=f then some u else none);rw[this,qa hg];trivial
   ·exact PySem.Within.cons f u PySem.Within.nil
 ·have l:U.get? e=some ⟨.ref C,some dx,.fields #[.ref t0,.none,.none,.none,.bool false,.none],#[]⟩:=I.hok.ext M
  have⟨mA,n1,n2,n3⟩:=I.hok.ext hd;refine A1 (mA:=mA) (ns:=fs.map (·.1)) xc hs.1 hs.2 i.1 i.2 hv ⟨_,l,rfl,λc z=>(by cases z),.inr ⟨dx,rfl,hne,n1⟩⟩ (λh' m ⟨Z,i2,i3⟩=>?_) n3 (by rw[ba];omega);have⟨⟨oc,od,odt,osl⟩,r,B,F,G,a,J,o6⟩:=i3 _ l;simp only at B F G J;subst B F G J
  have edx:dx=a:=by
   rcases o6 with z|z
   ·cases z;rfl
   ·cases z.1
  subst edx;obtain⟨o',L,_,_,j4⟩:=Z;rw[r]at L;cases L;rcases j4 with⟨j,_⟩|⟨a,j,_,Y⟩
  ·cases j
  ·cases j
   have hk:∀b o,b≠dx->U.get? b=some o->h'.get? b=some o:=λb o hb z=>by
    by_cases R:b=e
    ·subst R;rw[l]at z;cases z;exact r
    ·exact i2 b o R (λn a p z2=>by rw[l]at p;cases p;cases z2;exact hb) z
   refine q _ (I.write (t':=m) (x:=dx) (e:=dx) (by rw[hd];trivial) (.inl rfl) hk (let ⟨o,_,_,z,_⟩:=Y;⟨o,z⟩) (Ba ⟨_,Y,Jh n2 hn rv,?_⟩));rw[db];intro y hy;by_cases T:y=f
   ·subst T;simp
   ·have:mA y≠none:=by simpa [T] using hy
    exact bf _ (n3 y this)
theorem Jj{nm:Str}{C P e dx:Addr}{B:Option Addr}{f:Str}{v:V}{b:Bool}{fs:List (Str×V)}{A:Around}{E:Value->Shared->Prop}{Q:Value->Shared->Prop}(I:aw X pins σ H s)(c:cU X.K nm C P B)(p:f∈gM)(F:H e=some (.ext (dq e C dx)))(G:H dx=some (.ext (eF dx fs)))(j:dx≠e)(hl:fs.lookup f=some v)
  (h:∀u s',aw X pins σ H s'->bj v u->Q u s'):wpAny (model X.prog X.w) A (getAttr (.ref e) f b) Q E s:=by
 have⟨mN,mP,xc,i,_,_⟩:=c.at_ s.heap I.kIn;have a:=i f (Bc p);have m:=i "__getattribute__" (by simp[jz]);have n:=i "__getattr__" (by simp[jz]);have⟨vs,sl,q⟩:=I.hok.ext F;have⟨mA,r,x,J⟩:=I.hok.ext G;obtain⟨u,y,l⟩:=ez.some_of (v:=v) (o:=mA f) (by rw[<-hl];exact x f);obtain⟨L,g,d,t,os⟩:=s;exact IE xc m.1 m.2 n.1 n.2 a.1 a.2 (Bb f p) ⟨_,q,rfl,λc z=>(by cases z),.inr ⟨dx,rfl,j,r⟩⟩ y (PySem.W.handedOut_of (Gb l)) (h u _ (I.tok _) l)
end
def cG(P:Program)(w:World):iN:=λouter H s E v s'=>∃(e C dx:Addr) (fs:List (Str×V)) (H':Hp),v=.ref e/\s'.os=s.os/\AllBare s'.gens/\Un (d7 outer) [] H H' s.heap s'.heap/\cJ P w H' s'.heap/\jy s'.heap e/\H' e=some (.ext (dq e C dx))/\H' dx=some (.ext (eF dx fs))/\dx≠e/\E v (some dx) H'
section
variable {X:Cx}{pins:List (Addr×Obj)}{σ:St}{H:Hp}{s:Shared}{h':Heap}
theorem aw.noted(I:aw X pins σ H s)(a:H e=some (.ext φ))(n:pX (d7 X.stack) e s.heap h')(i:dq e C dx h'):aw X pins σ (aG H e (.ext (dq e C dx))) { s with heap:=h' }:=by
 have f:∀{b:Addr} {u:HO},H b=some u->b≠e->aG H e (.ext (dq e C dx)) b=some u:=λ{b u} q m=>by rw[aK m];exact q
 refine I.call (g':=s.gens) (t':=s.toks) (d':=s.drawn) (ch:=[]) ⟨λb o q m hc g=>n.keep b o (cC a m).symm hc q,λb o q m hc g=>n.slot b o hc q,λb o q m g=>?_,λb o q g=>?_,λb xs q=>f q (fZ q a λz=>nomatch z),λb o u q=>f q (fZ q a λz=>nomatch z),λb ps q=>⟨#[],by rw[f q (fZ q a λz=>nomatch z)];simp⟩⟩ (λb u q=>?_) I.bare (λ_ z=>nomatch z)
 ·rw[aK (cC a m).symm];exact m
 ·by_cases d:b=e
  ·subst d;obtain⟨vs,sl,z⟩:=i;exact⟨_,z⟩
  ·by_cases h:b∈d7 X.stack
   ·have⟨sl,z⟩:=n.slot b o h q;exact⟨_,z⟩
   ·exact⟨o,n.keep b o d h q⟩
 ·by_cases d:b=e
  ·subst d;rw[bi]at q;cases q;exact wx i
  ·rw[aK d]at q
   refine(I.hok b u q).stay (λc v hc z=>n.keep c v ?_ ?_ z) (λc z=>f z (fZ z a λz=>nomatch z)) λc ys z=>f z (fZ z a λz=>nomatch z)
   ·rcases hc with rfl|hc
    ·exact d
    ·exact fZ hc a λz=>nomatch z
   ·intro hm
    have:=I.stkFree c hm
    rcases hc with rfl|hc
    ·rw[q]at this;cases this
    ·rw[hc]at this;cases this
theorem Jk(n:pX fs e s.heap h')(c:dq e C dx s.heap):dq e C dx h':=by
 obtain⟨vs,sl,z⟩:=c;have⟨a,b⟩:=n.exc _ vs z rfl;exact⟨a,sl,b⟩
end
def sI(X:Cx)(W:XK):Prop:=∀(pins:List (Addr×Obj)) (σ:St) (H:Hp) (s:Shared) (e C dx t0:Addr) (fs:List (Str×V)),aw X pins σ H s->H e=some (.ext (ky e C dx t0))->H dx=some (.ext (eF dx fs))->dx≠e->W (.ref e) (some dx) (aG H e (.ext (dq e C dx)))->X.xe (.ref e) s
section
variable {P:Program}{w:World}{K:Fg1}{mg:Str->Option Value}{base:Heap}{N:List Str}{qual:Str}{scope:Scope}{f:Addr}{cd:Value}{A:Around}{outer:List Env}{s:Shared}{H:Hp}{E:XK}
theorem Jl(h:wpAny M A (noteFrame v env) (λ_ a=>wpAny M A (setFlight v none) Q E' a) E' s'):wpAny M A (leaving env v) Q E' s':=by
 unfold leaving;exact aa h
end
def Jm(K:Fg1)(i:Nat)(te:TE)(f:Str):TS:=λD σ H=>te σ H λu H=>∃e nm C P fI,σ[i]?=some (some (.ref e))/\cU K nm C P fI/\f∈gM ∧
 ((∃ t0,H e=some (.ext (gL e C t0))/\∀ dx,H dx=none->dx≠e->D.nx σ (aG (aG H e (.ext (ky e C dx t0))) dx (.ext (eF dx [(f,u)])))) ∨
  (∃dx t0 fs,H e=some (.ext (ky e C dx t0))/\H dx=some (.ext (eF dx fs))/\dx≠e/\fs.lookup f=none/\fs.length<=10/\D.nx σ (aG H dx (.ext (eF dx (fs++[(f,u)]))))))
section
variable {X:Cx}
theorem sJ (b:PE X ev te) (R:X.N[i]?=some x) (T:gB X.env.scope x) (U:(x == ("__debug__" : Str))=false) (n:(x == ("__classdict__" : Str))=false) (hs:swapsWith ev (some (.Attribute (.Name x p) f p1)) pos.line X.env=pure false) :
  PS X (.Assign [.Attribute (.Name x p) f p1] ev pos) (Jm X.K i te f):=by
 intro a s d H D I h;refine plainObj_wpAny_Assign_Attribute (aX (b a s d H _ I h) λY w ⟨u,o,y,z,e,nm,C,P,Z,A,c,B,q⟩=>aX ((fN R T U n) a w d o (λv r=>v=.ref e/\r=o) y ⟨_,A,rfl,rfl⟩) λE s2 ⟨v2,r,F,G,J,L⟩=>?_) hs;subst J L;obtain rfl:E=Value.ref e:=G;refine Ji F c B z ?_;rcases q with⟨j,b,q⟩|⟨dx,j,fs,b,l,m,hl,hn,q⟩
 ·exact .inl ⟨j,b,λM dx O Q g=>⟨d,_,g,q dx O Q⟩⟩
 ·exact .inr ⟨dx,j,fs,b,l,m,hl,hn,λM g=>⟨d,_,g,q⟩⟩
end
def mM(K:Fg1)(nm:Str)(fl:List Str):Sp:=λvs H Q _=>∃e a C P fI t0,vs=.ref e::a/\a.length=fl.length/\cU K nm C P fI/\H e=some (.ext (gL e C t0))/\∀dx,H dx=none->dx≠e->Q .non (aG (aG H e (.ext (ky e C dx t0))) dx (.ext (eF dx (fl.zip a))))
section
variable {P:Program}{w:World}{K:Fg1}{mg:Str->Option Value}{base:Heap}
theorem wy{nm x d j:Str}{st:Stmt}{f:Addr}{p:FuncData}{b a:Str}{L M N O:Pos}(F:ec K x d st f p)(S:ay [b,a] [b,a] (bt st))(l:j∈gM)(R:e6 st=[.Assign [.Attribute (.Name b L) j M] (.Name a N) O])
  (T:(bt st).names.lookup b=some .local) (g:(bt st).names.lookup a=some .local) (eg:(b == ("__debug__" : Str))=false:=by decide) (m:(b == ("__classdict__" : Str))=false:=by decide) (i6:(a == ("__debug__" : Str))=false:=by decide) (n:(a == ("__classdict__" : Str))=false:=by decide):ax P w K mg base aQ 1 f p [b,a] (mM K nm [j]):=by
 refine F.ok (k:=0) S (λvs H Q E ⟨e,o,_,_,_,_,g,r,_⟩=>by rw[g,wb,r];rfl) λv A h s H vs Q E U ⟨e,o,C,y,z,B,G,hl,c,I,q⟩=>?_
 match o,hl with
 |[u],_ =>
  subst G;rw[R];refine⟨_,g7 (sJ (fN (i:=1) rfl (cb g) i6 n) (i:=0) rfl (cb T) eg m rfl) n9,?_⟩;exact⟨u,rfl,e,nm,C,y,z,rfl,c,l,.inl ⟨B,I,λdx a J=>q dx a J⟩⟩
end
def e8(K:Fg1)(nm:Str)(C:Addr):Prop:=∃P fI,cU K nm C P fI/\PySem.W.nsIn K mainGlobals "PageError" = some (some (.ref P))/\PySem.W.nsIn K mainGlobals nm=some (some (.ref C))
def Jn(K:Fg1)(nm:Str)(sp:Sp)(W:XK)(t:TA):TS:=λ_ σ H=>t σ H λvs H1=>vs.length<=10/\∀e C P fI t0,H1 e=none->e8 K nm C->cU K nm C P fI->sp (.ref e::vs) (aG H1 e (.ext (gL e C t0))) (λv H2=>v=.non/\∃dx a fs,dx≠e/\H2 e=some (.ext (ky e C dx a))/\H2 dx=some (.ext (eF dx fs))/\W (.ref e) (some dx) (aG H2 e (.ext (dq e C dx)))) E0
section
variable {X:Cx}{k:Nat}{fI C P:Addr}{fd:FuncData}{ps:List Str}{x nm:Str}{p cp pos:Pos}{a:Expr}{as:List Expr}{t:TA}{W:XK}{sp:Sp}
theorem Bd (hc:X.calm=true) (c:cU X.K nm C P (some fI)) (hP:PySem.W.nsIn X.K mainGlobals "PageError" = some (some (.ref P))) (hCn:PySem.W.nsIn X.K mainGlobals nm=some (some (.ref C))) (hfn:∃o,X.K.lookup fI=some o/\o.cls=.type "function") (hkp:PySem.W.keepIn X.K (.ref C)=true) (F:ax X.prog X.w X.K X.mg X.base aQ k fI fd ps sp) (hr:aM (k+1) X.A) (hg:Gl X x) (hm:X.mg x=some (.ref C)) (hb:c9 X.K fd ps []) (hxe:sI X W)
  (ha:PA X (a::as) t) (hdb:(x == ("__debug__" : Str))=false:=by decide) (he:starEach (a::as) X.env=(false,eval a X.env)::starEach as X.env:=by rfl) (hpl:(backTo cp (starEach as X.env)).any (·.1)=false:=by rfl) :
  PS X (.Raise (some (.Call (.Name x p) (a::as) [] cp)) none pos) (Jn X.K nm sp W t):=by
 intro f s G H D I h;have⟨J,L,n,hx0,M,N⟩:=c.at_ X.base I.ok.mod.kin;refine IG (nm:=nm) (C:=C) (P:=P) (mN:=J) (mP:=L) (I.ok.hd hc) ?_;refine ef (mB I hg hm ?_ hdb);refine PySem.W.callWith_K (h₀:=X.base) I.ok.mod.kin hkp (aX (ha cp f s G H _ I h) λi s1 ⟨vs,H1,j,r,hl,q⟩=>⟨j.kIn,?_⟩) he hpl;have T:=n.keeps j.bk;have U:i.length<=10:=by rw[<-r.length];exact hl
 obtain⟨oI,y,O⟩:=hfn;have Y:=j.kIn _ _ y;rw[se];obtain⟨hh,g,d,tk,os⟩:=s1;refine Iy T N M Y O (λh' e l m=>?_) (wd U (by decide));have⟨t0,ht,_,_⟩:=l.there;have Z:H1 e=none:=j.hok.fresh m;have I2:aw X f G (aG H1 e (.ext (gL e C t0))) ⟨h',g,d,tk,os⟩:=j.laid (t':=tk) l.keeps m (A9 ht);have r2:bB (V.ref e::vs) (Value.ref e::i):=.cons rfl r;have hq:=q e C P (some fI) t0 Z ⟨P,some fI,c,hP,hCn⟩ c
 have E:(Value.ref e::i).length=ps.length:=by
  have e1:=r2.length;rw[F.len _ _ _ _ hq]at e1;exact e1.symm
 refine wk (ik (F.run _ X.stack _ _ ⟨Value.ref e::i,[]⟩ (Value.ref e::i) _ _ E0 (hr.make C i []) (I2.env0.make C i []) (by have:=hb _ (Value.ref e::i) I2.kIn (by simpa using E);simpa using this) r2 hq) λr s' b=>?_)
 cases r with
 |error z=>exact b.elim
 |ok fl' =>
  cases fl' with
  |ret u =>
   have⟨v,H',Q,rv,ev,dx,t1,fs,n2,B,R,w⟩:=I2.after b;subst ev;obtain rfl:u=Value.none:=rv;exact⟨rfl,e,some dx,t1,#[],rfl,n.keeps Q.bk,Q.hok.ext B,hxe f G _ s' e C dx t1 fs Q B R n2 w⟩
  |next=>exact False.elim b
  |brk=>exact False.elim b
  |cont=>exact False.elim b
end
noncomputable abbrev D.int(i:Int):D:=.sc (.int i)
noncomputable abbrev D.bl(b:Bool):D:=.sc (.bl b)
noncomputable abbrev D.non:D:=.sc .non
abbrev D.str(l:List Nat):D:=.sc (.str (S l))
theorem _root_.PySem.Paired.zmap{c d:Type}{F G:c->d->Prop}{l₁:List c}{l₂:List d}(h:Paired F l₁ l₂)(f:∀a b,F a b->G a b):Paired G l₁ l₂:=Paired.mapP h f
def gO(K:Fg1)(H:Hp)(a:Addr)(xs:List V):Prop:=H a=some (.tup xs)
theorem gO.toT{K:Fg1}{H:Hp}{a:Addr}{xs:List V}(h:gO K H a xs):dJ K H a xs:=.inl (.inl h)
theorem gO.of{K:Fg1}{H:Hp}{a:Addr}{xs:List V}(h:H a=some (.tup xs)):gO K H a xs:=h
theorem gO.same{K:Fg1}{H H':Hp}{a:Addr}{xs:List V}(h:gO K H a xs)(s:aS H H'):gO K H' a xs:=s _ _ h
def gP(K:Fg1)(H:Hp):Nat->D->V->Prop
 |0,d,x=>match d with|.sc v=>d9 v=true/\x=v|_=>False
 |k+1,d,x=>match d with
  |.sc v=>d9 v=true/\x=v
  |.tup ds=>∃a xs,x=.ref a/\gO K H a xs/\Paired (gP K H k) ds xs
  |.lst ds=>∃a xs,x=.ref a/\bJ K H a xs/\Paired (gP K H k) ds xs
  |.dk ks ds=>∃a kvs,x=.ref a/\H a=some (.dK kvs)/\kvs.map Prod.fst=ks/\Paired (gP K H k) ds (kvs.map Prod.snd)
  |.dt ks ds=>∃a kvs,x=.ref a/\H a=some (.dT kvs)/\kvs.map Prod.fst=ks/\Paired (gP K H k) ds (kvs.map Prod.snd)
  |.er n ks ds=>∃e C dx fs,x=.ref e/\H e=some (.ext (dq e C dx))/\e8 K n C/\dx≠e/\H dx=some (.ext (eF dx fs))/\fs.map Prod.fst=ks/\Paired (gP K H k) ds (fs.map Prod.snd)
theorem Jo{K:Fg1}{H:Hp}:∀{k:Nat}{d:D}{x:V},gP K H k d x->gP K H (k+1) d x:=by
 intro k
 induction k with
 |zero =>
  intro d x h
  cases d with
  |sc v=>exact h
  |_=>exact h.elim
 |succ k b =>
  intro d x h
  cases d with
  |sc v=>exact h
  |tup ds=>obtain⟨a,xs,e,q,p⟩:=h;exact⟨a,xs,e,q,p.zmap λ_ _=>b⟩
  |lst ds=>obtain⟨a,xs,e,q,p⟩:=h;exact⟨a,xs,e,q,p.zmap λ_ _=>b⟩
  |dk ks ds=>obtain⟨a,xs,e,q,c,p⟩:=h;exact⟨a,xs,e,q,c,p.zmap λ_ _=>b⟩
  |dt ks ds=>obtain⟨a,xs,e,q,c,p⟩:=h;exact⟨a,xs,e,q,c,p.zmap λ_ _=>b⟩
  |er n ks ds=>obtain⟨e,C,dx,fs,f,g,i,j,l,m,p⟩:=h;exact⟨e,C,dx,fs,f,g,i,j,l,m,p.zmap λ_ _=>b⟩
theorem Be{K:Fg1}{H:Hp}{j k:Nat}{d:D}{x:V}(h:gP K H j d x)(a:j<=k):gP K H k d x:=by
 induction a with
 |refl=>exact h
 |step _ b=>exact Jo b
theorem Bf{K:Fg1}{H H':Hp}(s:aS H H'):∀{k:Nat}{d:D}{x:V},gP K H k d x->gP K H' k d x:=by
 intro k
 induction k with
 |zero =>
  intro d x h
  cases d with
  |sc v=>exact h
  |_=>exact h.elim
 |succ k b =>
  intro d x h
  cases d with
  |sc v=>exact h
  |tup ds=>obtain⟨a,xs,e,q,p⟩:=h;exact⟨a,xs,e,q.same s,p.zmap λ_ _=>b⟩
  |lst ds=>obtain⟨a,xs,e,q,p⟩:=h;exact⟨a,xs,e,s.seq q,p.zmap λ_ _=>b⟩
  |dk ks ds=>obtain⟨a,xs,e,q,c,p⟩:=h;exact⟨a,xs,e,s _ _ q,c,p.zmap λ_ _=>b⟩
  |dt ks ds=>obtain⟨a,xs,e,q,c,p⟩:=h;exact⟨a,xs,e,s _ _ q,c,p.zmap λ_ _=>b⟩
  |er n ks ds=>obtain⟨e,C,dx,fs,f,g,i,j,l,m,p⟩:=h;exact⟨e,C,dx,fs,f,s _ _ g,i,j,s _ _ l,m,p.zmap λ_ _=>b⟩
def Dn(K:Fg1)(H:Hp)(d:D)(x:V):Prop:=∃k,gP K H k d x
abbrev aZ(K:Fg1)(H:Hp):List D->List V->Prop:=Paired (Dn K H)
section
variable {K:Fg1}{H H':Hp}
theorem Dn.same(h:Dn K H d x)(s:aS H H'):Dn K H' d x:=let ⟨k,h⟩:=h;⟨k,Bf s h⟩
theorem aZ.same{ds:List D}{xs:List V}(h:aZ K H ds xs)(s:aS H H'):aZ K H' ds xs:=h.zmap λ_ _ z=>z.same s
theorem aZ.level:∀{ds:List D}{xs:List V},aZ K H ds xs->∃k,Paired (gP K H k) ds xs
 |_,_,.nil=>⟨0,.nil⟩
 |_,_,.cons ⟨k,h⟩ t=>by
  have⟨j,q⟩:=aZ.level t;exact⟨max k j,.cons (Be h (Nat.le_max_left _ _)) (q.zmap λ_ _ z=>Be z (Nat.le_max_right _ _))⟩
theorem cE(h:d9 v=true):Dn K H (.sc v) v:=⟨0,h,rfl⟩
theorem Dn.sc(h:Dn K H (.sc v) x):d9 v=true/\x=v:=by
 obtain⟨k,h⟩:=h
 cases k <;> exact h
theorem oA(h:gO K H a xs)(p:aZ K H ds xs):Dn K H (.tup ds) (.ref a):=by
 have⟨k,q⟩:=p.level;exact⟨k+1,a,xs,rfl,h,q⟩
theorem hW(h:bJ K H a xs)(p:aZ K H ds xs):Dn K H (.lst ds) (.ref a):=by
 have⟨k,q⟩:=p.level;exact⟨k+1,a,xs,rfl,h,q⟩
theorem Dn.tupU{ds:List D}{x:V}(h:Dn K H (.tup ds) x):∃a xs,x=.ref a/\gO K H a xs/\aZ K H ds xs:=by
 obtain⟨k,h⟩:=h
 cases k with
 |zero=>exact h.elim
 |succ k=>obtain⟨a,xs,e,q,p⟩:=h;exact⟨a,xs,e,q,p.zmap λ_ _ z=>⟨k,z⟩⟩
theorem Dn.tup{ds:List D}{x:V}(h:Dn K H (.tup ds) x):∃a xs,x=.ref a/\dJ K H a xs/\aZ K H ds xs:=let ⟨a,xs,e,q,p⟩:=h.tupU;⟨a,xs,e,q.toT,p⟩
theorem Dn.lst{ds:List D}{x:V}(h:Dn K H (.lst ds) x):∃a xs,x=.ref a/\bJ K H a xs/\aZ K H ds xs:=by
 obtain⟨k,h⟩:=h
 cases k with
 |zero=>exact h.elim
 |succ k=>obtain⟨a,xs,e,q,p⟩:=h;exact⟨a,xs,e,q,p.zmap λ_ _ z=>⟨k,z⟩⟩
theorem Bg(h:H a=some (.dK kvs))(e:kvs.map Prod.fst=ks)(p:aZ K H ds (kvs.map Prod.snd)):Dn K H (.dk ks ds) (.ref a):=by
 have⟨k,q⟩:=p.level;exact⟨k+1,a,kvs,rfl,h,e,q⟩
theorem wz(h:H a=some (.dT kvs))(e:kvs.map Prod.fst=ks)(p:aZ K H ds (kvs.map Prod.snd)):Dn K H (.dt ks ds) (.ref a):=by
 have⟨k,q⟩:=p.level;exact⟨k+1,a,kvs,rfl,h,e,q⟩
theorem Dn.dk{ks:List aW}{ds:List D}{x:V}(h:Dn K H (.dk ks ds) x):∃a kvs,x=.ref a/\H a=some (.dK kvs)/\kvs.map Prod.fst=ks/\aZ K H ds (kvs.map Prod.snd):=by
 obtain⟨k,h⟩:=h
 cases k with
 |zero=>exact h.elim
 |succ k=>obtain⟨a,xs,e,q,b,p⟩:=h;exact⟨a,xs,e,q,b,p.zmap λ_ _ z=>⟨k,z⟩⟩
theorem Dn.dt{ks:List (List aW)}{ds:List D}{x:V}(h:Dn K H (.dt ks ds) x):∃a kvs,x=.ref a/\H a=some (.dT kvs)/\kvs.map Prod.fst=ks/\aZ K H ds (kvs.map Prod.snd):=by
 obtain⟨k,h⟩:=h
 cases k with
 |zero=>exact h.elim
 |succ k=>obtain⟨a,xs,e,q,b,p⟩:=h;exact⟨a,xs,e,q,b,p.zmap λ_ _ z=>⟨k,z⟩⟩
theorem Dn.int(h:Dn K H (.int i) x):x=.int i:=h.sc.2
theorem Dn.bl(h:Dn K H (.bl b) x):x=.bl b:=h.sc.2
theorem Dn.str(h:Dn K H (.sc (.str z)) x):x=.str z:=h.sc.2
end
theorem _root_.PySem.Paired.zget:∀{l₁:List α}{c:List β}{j:Nat}{a:α},Paired F l₁ c->l₁[j]?=some a->∃b,c[j]?=some b/\F a b
 |_,_,_,_,.nil,e=>by simp at e
 |_,_,0,_,.cons r _,e=>by simp at e;subst e;exact⟨_,rfl,r⟩
 |_,_,j+1,_,.cons _ t,e=>by
  obtain⟨a,d,f⟩:=PySem.Paired.zget (j:=j) t (by simpa using e);exact⟨a,by simpa using d,f⟩
theorem _root_.PySem.Paired.zsnoc:∀{l₁:List α}{c:List β}{a:α}{b:β},Paired F l₁ c->F a b->Paired F (l₁++[a]) (c++[b])
 |_,_,_,_,.nil,h=>.cons h .nil
 |_,_,_,_,.cons r t,h=>.cons r (PySem.Paired.zsnoc t h)
theorem _root_.PySem.Paired.zapp:∀{l₁ a:List α}{b c:List β},Paired F l₁ b->Paired F a c->Paired F (l₁++a) (b++c)
 |_,_,_,_,.nil,h=>h
 |_,_,_,_,.cons r t,h=>.cons r (PySem.Paired.zapp t h)
theorem _root_.PySem.Paired.ztake:∀{l₁:List α}{a:List β} (n:Nat),Paired F l₁ a->Paired F (l₁.take n) (a.take n)
 |_,_,0,_=>.nil
 |_,_,_+1,.nil=>.nil
 |_,_,n+1,.cons r t=>.cons r (PySem.Paired.ztake n t)
theorem _root_.PySem.Paired.zdrop:∀{l₁:List α}{a:List β} (n:Nat),Paired F l₁ a->Paired F (l₁.drop n) (a.drop n)
 |_,_,0,h=>h
 |_,_,_+1,.nil=>.nil
 |_,_,n+1,.cons r t=>PySem.Paired.zdrop n t
theorem _root_.PySem.Paired.zset{d e:Type}{F:d->e->Prop}{a:d}{b:e}(r:F a b):∀{l₁:List d}{c:List e} (i:Nat),Paired F l₁ c->Paired F (l₁.set i a) (c.set i b)
 |_,_,_,.nil=>.nil
 |_,_,0,.cons _ t=>.cons r t
 |_,_,i+1,.cons q t=>.cons q (PySem.Paired.zset r i t)
theorem _root_.PySem.Paired.zrev(h:Paired F l₁ l₂):Paired F l₁.reverse l₂.reverse:=by
 induction h with
 |nil=>exact .nil
 |cons r t a=>simp only[List.reverse_cons];exact a.zsnoc r
def kA(H:Hp)(b:Addr):Prop:=H b=none\/∃xs,H b=some (.tup xs)
theorem kA.no(h:kA H b)(e:H b=some o)(a:∀xs,o≠.tup xs):False:=by
 rcases h with h|⟨xs,h⟩
 ·rw[h]at e;cases e
 ·rw[h]at e;cases e;exact a xs rfl
theorem kA.back(h:kA H' b)(s:aS H H'):kA H b:=by
 cases e:H b with
 |none=>exact .inl e
 |some o =>
  rcases h with h|⟨xs,h⟩
  ·rw[s b o e]at h;cases h
  ·rw[s b o e]at h;cases h;exact .inr ⟨xs,e⟩
structure Ex(Hf H Hf' H':Hp):Prop where
 ff:aS Hf Hf'
 hh:aS H H'
 fh:aS Hf' H'
 nw:∀b,Hf' b≠none->Hf b≠none\/kA H b
 nf:∀b o u,Hf' b=some (.frz o u)->Hf b=some (.frz o u)
theorem Ex.refl(s:aS Hf H):Ex Hf H Hf H:=⟨aS.refl _,aS.refl _,s,λ_ h=>.inl h,λ_ _ _ h=>h⟩
theorem Ex.trans(a:Ex Hf H Hf1 H1)(b:Ex Hf1 H1 Hf2 H2):Ex Hf H Hf2 H2 :=
 ⟨a.ff.trans b.ff,a.hh.trans b.hh,b.fh,λc h=>(b.nw c h).elim (a.nw c) λz=>.inr (z.back a.hh),λc o u h=>a.nf c o u (b.nf c o u h)⟩
theorem Ex.new(s:aS Hf H)(c:H p=none)(f:∀x u,o≠.frz x u:=by intro x u z;cases z):Ex Hf H (aG Hf p o) (aG H p o):=by
 have d:Hf p=none:=s.free c;refine⟨gJ d,gJ c,λb u e=>?_,λb h=>?_,λb x u h=>?_⟩
 ·by_cases a:b=p
  ·subst a;rw[bi]at e ⊢;exact e
  ·rw[aK a]at e ⊢;exact s b u e
 ·by_cases a:b=p
  ·subst a;exact .inr (.inl c)
  ·rw[aK a]at h;exact .inl h
 ·by_cases a:b=p
  ·subst a;rw[bi]at h;cases h;exact absurd rfl (f x u)
  ·rw[aK a]at h;exact h
theorem Ex.made(s:aS Hf H)(a:H p=none):Ex Hf H Hf (aG H p o) :=
 ⟨aS.refl _,gJ a,s.trans (gJ a),λ_ h=>.inl h,λ_ _ _ h=>h⟩
inductive Sl where
 |sh (d:D)|ow (ds:List D)|dk (ks:List aW) (ds:List D)|dt (ks:List (List aW)) (ds:List D)
noncomputable abbrev ao:=List (Option Sl)
noncomputable def dG:Sl->Bool
 |.sh _=>false
 |_=>true
def jA(K:Fg1)(Hf H:Hp):Sl->V->Prop
 |.sh d,v=>Dn K Hf d v
 |.ow ds,v=>∃p xs,v=.ref p/\Hf p=none/\H p=some (.lst xs)/\aZ K Hf ds xs
 |.dk ks ds,v=>∃p xs,v=.ref p/\Hf p=none/\H p=some (.dK xs)/\xs.map Prod.fst=ks/\aZ K Hf ds (xs.map Prod.snd)
 |.dt ks ds,v=>∃p xs,v=.ref p/\Hf p=none/\H p=some (.dT xs)/\xs.map Prod.fst=ks/\aZ K Hf ds (xs.map Prod.snd)
theorem jA.ext{K:Fg1}{Hf H b H':Hp}{sl:Sl}{v:V}(h:jA K Hf H sl v)(e:Ex Hf H b H'):jA K b H' sl v:=by
 have i:∀{p:Addr} {o:HO},Hf p=none->H p=some o->(∀xs,o≠.tup xs)->b p=none:=λ{p o} c a j=>by
  cases q:b p with
  |none=>rfl
  |some u =>
   rcases e.nw p (by rw[q];exact λz=>nomatch z) with z|z
   ·exact absurd c z
   ·exact(z.no a j).elim
 cases sl with
 |sh d=>exact Dn.same h e.ff
 |ow ds=>obtain⟨p,xs,r,c,a,f⟩:=h;exact⟨p,xs,r,i c a (λ_ z=>nomatch z),e.hh _ _ a,aZ.same f e.ff⟩
 |dk ks ds=>obtain⟨p,xs,r,c,a,g,f⟩:=h;exact⟨p,xs,r,i c a (λ_ z=>nomatch z),e.hh _ _ a,g,aZ.same f e.ff⟩
 |dt ks ds=>obtain⟨p,xs,r,c,a,g,f⟩:=h;exact⟨p,xs,r,i c a (λ_ z=>nomatch z),e.hh _ _ a,g,aZ.same f e.ff⟩
structure Bs where
 f:Hp
 h:Hp
structure VI(K:Fg1)(B:Bs)(Hf:Hp)(ρ:ao)(σ:St)(H:Hp):Prop where
 ex:Ex B.f B.h Hf H
 len:ρ.length=σ.length
 ok:∀(i:Nat) sl,ρ[i]?=some (some sl)->∃v,σ[i]?=some (some v)/\jA K Hf H sl v
 own:∀(i:Nat) sl p,ρ[i]?=some (some sl)->dG sl=true->σ[i]?=some (some (.ref p))->B.h p=none
 dis:∀(i j:Nat) si sj p,ρ[i]?=some (some si)->ρ[j]?=some (some sj)->dG si=true->dG sj=true->σ[i]?=some (some (.ref p))->σ[j]?=some (some (.ref p))->i=j
section
variable {K:Fg1}{B:Bs}{Hf H Hf' H':Hp}{ρ:ao}{σ:St}
theorem VI.ext(I:VI K B Hf ρ σ H)(e:Ex Hf H Hf' H'):VI K B Hf' ρ σ H' :=
 ⟨I.ex.trans e,I.len,λi sl h=>let ⟨v,a,b⟩:=I.ok i sl h;⟨v,a,b.ext e⟩,I.own,I.dis⟩
theorem VI.fh(I:VI K B Hf ρ σ H):aS Hf H:=I.ex.fh
theorem VI.sh{i:Nat}{d:D}(I:VI K B Hf ρ σ H)(h:ρ[i]?=some (some (.sh d))):∃v,σ[i]?=some (some v)/\Dn K Hf d v:=I.ok i _ h
theorem VI.set(I:VI K B Hf ρ σ H)(h:Dn K Hf d v):VI K B Hf (ρ.set i (some (.sh d))) (σ.set i (some v)) H:=by
 have g:∀{j:Nat} {sl:Sl},(ρ.set i (some (.sh d)))[j]?=some (some sl)->(j=i/\sl=.sh d/\i<ρ.length)\/(j≠i/\ρ[j]?=some (some sl)):=λ{j sl} e=>by
  by_cases a:i=j
  ·subst a
   rw[yk]at e
   cases q:ρ[i]? with
   |none=>rw[q]at e;cases e
   |some z =>
    rw[q]at e;simp at e;exact .inl ⟨rfl,e.symm,(ya.mp q).1⟩
  ·rw[ua a]at e
   exact .inr ⟨λz=>a z.symm,e⟩
 refine⟨I.ex,by simp[I.len],λj sl e=>?_,λj sl p e o q=>?_,λj k m n p e1 e2 b c f l=>?_⟩
 ·rcases g e with⟨rfl,rfl,hl⟩|⟨a,e⟩
  ·refine⟨v,?_,h⟩
   rw[ac (by rw[<-I.len];exact hl)]
  ·have⟨u,r,s⟩:=I.ok j sl e
   exact⟨u,by rw[ua (λz=>a z.symm)];exact r,s⟩
 ·rcases g e with⟨rfl,rfl,hl⟩|⟨a,e⟩
  ·cases o
  ·rw[ua (λz=>a z.symm)]at q
   exact I.own j sl p e o q
 ·rcases g e1 with⟨rfl,rfl,hl⟩|⟨a,e1⟩
  ·cases b
  ·rcases g e2 with⟨rfl,rfl,hl⟩|⟨w,e2⟩
   ·cases c
   ·rw[ua (λz=>a z.symm)]at f
    rw[ua (λz=>w z.symm)]at l;exact I.dis j k m n p e1 e2 b c f l
end
def Jp(K:Fg1)(Hf H:Hp)(d:D)(x:V):Prop:=match d with
 |.lst ds=>∃p xs,x=.ref p/\H p=some (.lst xs)/\aZ K Hf ds xs
 |.dk ks ds=>∃p xs,x=.ref p/\H p=some (.dK xs)/\xs.map Prod.fst=ks/\aZ K Hf ds (xs.map Prod.snd)
 |.dt ks ds=>∃p xs,x=.ref p/\H p=some (.dT xs)/\xs.map Prod.fst=ks/\aZ K Hf ds (xs.map Prod.snd)
 |_=>False
def cK(K:Fg1)(Hf H:Hp)(d:D)(x:V):Prop:=Dn K Hf d x\/Jp K Hf H d x
abbrev p0(K:Fg1)(Hf H:Hp):List D->List V->Prop:=Paired (cK K Hf H)
section
variable {K:Fg1}{Hf H Hf' H':Hp}
theorem cK.ext(h:cK K Hf H d x)(e:Ex Hf H Hf' H'):cK K Hf' H' d x:=by
 rcases h with h|h
 ·exact .inl (h.same e.ff)
 ·refine .inr ?_
  cases d with
  |lst ds=>obtain⟨p,xs,a,b,c⟩:=h;exact⟨p,xs,a,e.hh _ _ b,c.same e.ff⟩
  |dk ks ds=>obtain⟨p,xs,a,b,f,c⟩:=h;exact⟨p,xs,a,e.hh _ _ b,f,c.same e.ff⟩
  |dt ks ds=>obtain⟨p,xs,a,b,f,c⟩:=h;exact⟨p,xs,a,e.hh _ _ b,f,c.same e.ff⟩
  |_=>exact h.elim
theorem cK.whole(h:cK K Hf H d x)(s:aS Hf H):Dn K H d x:=by
 rcases h with h|h
 ·exact h.same s
 ·cases d with
  |lst ds=>obtain⟨p,xs,rfl,a,b⟩:=h;exact hW (bJ.of a) (b.same s)
  |dk ks ds=>obtain⟨p,xs,rfl,a,c,b⟩:=h;exact Bg a c (b.same s)
  |dt ks ds=>obtain⟨p,xs,rfl,a,c,b⟩:=h;exact wz a c (b.same s)
  |_=>exact h.elim
theorem cK.sc(h:cK K Hf H (.sc v) x):d9 v=true/\x=v:=by
 rcases h with h|h
 ·exact h.sc
 ·exact h.elim
theorem cK.tup{ds:List D}{x:V}(h:cK K Hf H (.tup ds) x):∃a xs,x=.ref a/\dJ K Hf a xs/\aZ K Hf ds xs:=by
 rcases h with h|h
 ·exact h.tup
 ·exact h.elim
theorem cK.tupU(h:cK K Hf H (.tup ds) x):∃a xs,x=.ref a/\gO K Hf a xs/\aZ K Hf ds xs:=by
 rcases h with h|h
 ·exact h.tupU
 ·exact h.elim
theorem cK.lst{ds:List D}{x:V}(h:cK K Hf H (.lst ds) x)(s:aS Hf H):∃a xs,x=.ref a/\bJ K H a xs/\aZ K Hf ds xs:=by
 rcases h with h|⟨p,xs,b,d,f⟩
 ·have⟨a,xs,e,c,b⟩:=h.lst
  exact⟨a,xs,e,s.seq c,b⟩
 ·exact⟨p,xs,b,bJ.of d,f⟩
theorem cK.dk(h:cK K Hf H (.dk ks ds) x)(s:aS Hf H):∃a kvs,x=.ref a/\H a=some (.dK kvs)/\kvs.map Prod.fst=ks/\aZ K Hf ds (kvs.map Prod.snd):=by
 rcases h with h|⟨p,xs,c,f,b,g⟩
 ·have⟨a,xs,e,d,b,c⟩:=h.dk
  exact⟨a,xs,e,s _ _ d,b,c⟩
 ·exact⟨p,xs,c,f,b,g⟩
theorem cK.dt(h:cK K Hf H (.dt ks ds) x)(s:aS Hf H):∃a kvs,x=.ref a/\H a=some (.dT kvs)/\kvs.map Prod.fst=ks/\aZ K Hf ds (kvs.map Prod.snd):=by
 rcases h with h|⟨p,xs,c,f,b,g⟩
 ·have⟨a,xs,e,d,b,c⟩:=h.dt
  exact⟨a,xs,e,s _ _ d,b,c⟩
 ·exact⟨p,xs,c,f,b,g⟩
end
def eV(K:Fg1)(B:Bs)(f:ao->Option D):TE:=λσ H Q=>∃Hf ρ d,VI K B Hf ρ σ H/\f ρ=some d/\∀Hf' H' v,Ex Hf H Hf' H'->Dn K Hf' d v->Q v H'
def eB(K:Fg1)(B:Bs)(f:ao->Option D):TE:=λσ H Q=>∃Hf ρ d,VI K B Hf ρ σ H/\f ρ=some d/\∀Hf' H' v,Ex Hf H Hf' H'->cK K Hf' H' d v->Q v H'
def tV(K:Fg1)(B:Bs)(f:ao->Option Bool):TT:=λσ H Q=>∃Hf ρ b,VI K B Hf ρ σ H/\f ρ=some b/\∀Hf' H',Ex Hf H Hf' H'->Q b H'
def aV(K:Fg1)(B:Bs)(f:ao->Option (List D)):TA:=λσ H Q=>∃Hf ρ ds,VI K B Hf ρ σ H/\f ρ=some ds/\∀Hf' H' vs,Ex Hf H Hf' H'->aZ K Hf' ds vs->Q vs H'
def aB(K:Fg1)(B:Bs)(f:ao->Option (List D)):TA:=λσ H Q=>∃Hf ρ ds,VI K B Hf ρ σ H/\f ρ=some ds/\∀Hf' H' vs,Ex Hf H Hf' H'->p0 K Hf' H' ds vs->Q vs H'
def oV(K:Fg1)(B:Bs)(f:ao->Option (Option Int)):TO:=λσ H Q=>∃Hf ρ o,VI K B Hf ρ σ H/\f ρ=some o/\∀Hf' H',Ex Hf H Hf' H'->Q o H'
def eC(d:D):ao->Option D:=λ_=>some d
def au(i:Nat):ao->Option D:=λρ=>match ρ[i]? with|some (some (.sh d))=>some d|_=>none
def al(i:Nat):ao->Option D:=λρ=>match ρ[i]? with|some (some (.sh d))=>some d|some (some (.ow ds))=>some (.lst ds)|some (some (.dk ks ds))=>some (.dk ks ds)|some (some (.dt ks ds))=>some (.dt ks ds)|_=>none
def e1(g:D->Option D)(fa:ao->Option D):ao->Option D:=λρ=>(fa ρ).bind g
def e2(g:D->D->Option D)(fa fb:ao->Option D):ao->Option D:=λρ=>(fa ρ).bind λd=>(fb ρ).bind λe=>g d e
def eN(g:List D->Option D)(fa:ao->Option (List D)):ao->Option D:=λρ=>(fa ρ).bind g
def aN:ao->Option (List D):=λ_=>some []
def aC(fa:ao->Option D)(fr:ao->Option (List D)):ao->Option (List D):=λρ=>(fa ρ).bind λd=>(fr ρ).bind λds=>some (d::ds)
noncomputable def fP:D->Option Bool|.sc (.bl b)=>some b|_=>none
def tE(fa:ao->Option D):ao->Option Bool:=λρ=>(fa ρ).bind fP
def bV(fa fb:ao->Option Bool):ao->Option Bool:=λρ=>(fa ρ).bind λa=>if a=true then fb ρ else some false
def dA(fa fb:ao->Option Bool):ao->Option Bool:=λρ=>(fa ρ).bind λa=>if a=true then some true else fb ρ
def cL(fa:ao->Option Bool):ao->Option Bool:=λρ=>(fa ρ).bind λa=>some (!a)
def eT(ft:ao->Option Bool):ao->Option D:=λρ=>(ft ρ).bind λb=>some (.bl b)
theorem bind_some(h:o.bind f=some z):∃a,o=some a/\f a=some z:=by
 cases o with
 |none=>cases h
 |some a=>exact⟨a,rfl,h⟩
section
variable {X:Cx}{B:Bs}{e a b c:Expr}{es:List Expr}{f fa fb fc:ao->Option D}{ft fu:ao->Option Bool}{fr:ao->Option (List D)}{pos:Pos}
theorem az(h:PE X e (eV X.K B f)):PE X e (eB X.K B f):=h.imp λi H Q ⟨Hf,ρ,d,I,b,q⟩=>⟨Hf,ρ,d,I,b,λa H' v c g=>q a H' v c (.inl g)⟩
theorem Jq(h:PA X es (aV X.K B fr)):PA X es (aB X.K B fr):=h.imp λf H Q ⟨Hf,ρ,d,I,b,q⟩=>⟨Hf,ρ,d,I,b,λa H' v c e=>q a H' v c (e.zmap λ_ _ z=>.inl z)⟩
theorem p7(b:d9 v=true)(h:PE X e (tC v)):PE X e (eV X.K B (eC (.sc v))):=h.imp λc H Q ⟨Hf,ρ,d,I,a,q⟩=>by
 cases a;exact q Hf H v (.refl I.fh) (cE b)
theorem aH:PE X (.Constant (.int i) j pos) (eV X.K B (eC (.int i))):=p7 rfl Fc
theorem jR:PE X (.Constant (.bool i) j pos) (eV X.K B (eC (.bl i))):=p7 rfl zU
theorem sK:PE X (.Constant .none j pos) (eV X.K B (eC .non)):=p7 rfl Fd
theorem en(h:x=S l):PE X (.Constant (.str x) j pos) (eV X.K B (eC (.str l))):=by subst h;exact p7 rfl Fe
theorem aE (i:Nat) {x:Str}{b:Pos} (h:X.N[i]?=some x:=by rfl) (j:gB X.env.scope x:=by first|exact cb rfl|exact mf (cb rfl)|exact mf (mf rfl)) (a:(x == ("__debug__" : Str))=false:=by decide)
  (c:(x == ("__classdict__" : Str))=false:=by decide):PE X (.Name x b) (eV X.K B (au i)):=(fN h j a c).imp λl H Q ⟨Hf,ρ,d,I,a,q⟩=>by
 unfold au at a
 split at a
 ·rename_i d' e
  cases a;have⟨v,f,g⟩:=I.sh e
  exact⟨v,f,q Hf H v (.refl I.fh) g⟩
 ·cases a
theorem aA (i:Nat) {x:Str}{h:Pos} (l:X.N[i]?=some x:=by rfl) (m:gB X.env.scope x:=by first|exact cb rfl|exact mf (cb rfl)|exact mf (mf rfl)) (a:(x == ("__debug__" : Str))=false:=by decide)
  (j:(x == ("__classdict__" : Str))=false:=by decide):PE X (.Name x h) (eB X.K B (al i)):=(fN l m a j).imp λn H Q ⟨Hf,ρ,d,I,a,q⟩=>by
 unfold al at a
 split at a
 ·rename_i d' e
  cases a;have⟨v,b,g⟩:=I.sh e
  exact⟨v,b,q Hf H v (.refl I.fh) (.inl g)⟩
 ·rename_i ds e
  cases a;obtain⟨v,b,p,xs,rfl,g,c,f⟩:=I.ok i _ e
  exact⟨_,b,q Hf H _ (.refl I.fh) (.inr ⟨p,xs,rfl,c,f⟩)⟩
 ·rename_i ks ds e
  cases a;obtain⟨v,b,p,xs,rfl,g,c,f⟩:=I.ok i _ e
  exact⟨_,b,q Hf H _ (.refl I.fh) (.inr ⟨p,xs,rfl,c,f⟩)⟩
 ·rename_i ks ds e
  cases a;obtain⟨v,b,p,xs,rfl,g,c,f⟩:=I.ok i _ e
  exact⟨_,b,q Hf H _ (.refl I.fh) (.inr ⟨p,xs,rfl,c,f⟩)⟩
 ·cases a
def P2(K:Fg1)(r:R2)(g:D->D->Option D):Prop:=∀Hf H x y d e z (Q:VK),aS Hf H->cK K Hf H d x->cK K Hf H e y->g d e=some z->(∀Hf' H' v,Ex Hf H Hf' H'->Dn K Hf' z v->Q v H')->r x y H Q
theorem sL(u:P2 X.K r g){l:St}{H:Hp}{Q:VK}(h:eV X.K B (e2 g fa fb) l H Q):pS r (eB X.K B fa) (eB X.K B fb) l H Q:=by
 obtain⟨Hf,ρ,z,I,hz,q⟩:=h;have⟨d,p,hz⟩:=bind_some hz;have⟨e,s,hz⟩:=bind_some hz;exact⟨Hf,ρ,d,I,p,λc w x b dx=>⟨c,ρ,e,I.ext b,s,λf m y a n=>u f m x y d e z Q a.fh (dx.ext a) n hz λi H' v j o=>q i H' v ((b.trans a).trans j) o⟩⟩
theorem bI{op:Operator}{r:R2}{g:D->D->Option D}(c:bC X (binaryOp op) r)(d:P2 X.K r g)(e:PE X a (eB X.K B fa))(f:PE X b (eB X.K B fb)):PE X (.BinOp a op b pos) (eV X.K B (e2 g fa fb)) :=
 (FM c e f).imp λi H Q h=>sL d h
theorem mO(c:bC X (compareOp op) r)(d:P2 X.K r g)(e:PE X a (eB X.K B fa))(f:PE X b (eB X.K B fb))(hm:behindInMarks op b=false):PE X (.Compare a [op] [b] pos) (eV X.K B (e2 g fa fb)) :=
 (F7 c e f hm).imp λi H Q h=>sL d h
theorem Bh(j:∀R,eV X.K B f σ H R->t σ H R)(h:tV X.K B (tE f) σ H Q):vR t σ H Q:=by
 obtain⟨Hf,ρ,b,I,a,q⟩:=h;have⟨d,i,a⟩:=bind_some a;refine j _ ⟨Hf,ρ,d,I,i,λc H' v e g=>?_⟩;unfold fP at a
 split at a
 ·cases a
  rw[g.bl];exact q c H' e
 ·cases a
theorem cz(c:bC X (compareOp op) r)(d:P2 X.K r g)(e:PE X a (eB X.K B fa))(f:PE X b (eB X.K B fb))(hm:behindInMarks op b=false):PT X (.Compare a [op] [b] pos) (tV X.K B (tE (e2 g fa fb))) :=
 (Hw c e f hm).imp λi H Q h=>Bh (λR z=>sL d z) h
theorem dW(b:PE X a (eV X.K B fa))(c:∀whole,isTrue a X.env whole=(do let v ← whole;standAt a.pos;holding [v] (truthy v)):=by intro _;rfl):PT X a (tV X.K B (tE fa)) :=
 (Hx b c).imp λd H Q h=>Bh (λR z=>z) h
theorem jS(e:PT X a (tV X.K B ft)):PT X (.UnaryOp .Not a pos) (tV X.K B (cL ft)):=(Fl e).imp λf H Q ⟨Hf,ρ,z,I,hz,q⟩=>by
 have⟨x,d,hz⟩:=bind_some hz;cases hz;exact⟨Hf,ρ,x,I,d,λb H' c=>q b H' c⟩
variable {rest:List Expr}
theorem Jr(h:tV X.K B (bV ft fu) σ H Q):zV (tV X.K B ft) (tV X.K B fu) σ H Q:=by
 obtain⟨Hf,ρ,z,I,hz,q⟩:=h;have⟨x,f,hz⟩:=bind_some hz;refine⟨Hf,ρ,x,I,f,λb d a=>?_⟩
 cases x with
 |true=>rw[da rfl]at hz ⊢;exact⟨b,ρ,z,I.ext a,hz,λc H' e=>q c H' (a.trans e)⟩
 |false=>rw[qa ma]at hz ⊢;cases hz;exact q b d a
theorem Js(h:tV X.K B (dA ft fu) σ H Q):zW (tV X.K B ft) (tV X.K B fu) σ H Q:=by
 obtain⟨Hf,ρ,z,I,hz,q⟩:=h;have⟨x,f,hz⟩:=bind_some hz;refine⟨Hf,ρ,x,I,f,λb d a=>?_⟩
 cases x with
 |true=>rw[da rfl]at hz ⊢;cases hz;exact q b d a
 |false=>rw[qa ma]at hz ⊢;exact⟨b,ρ,z,I.ext a,hz,λc H' e=>q c H' (a.trans e)⟩
theorem PW.imp(h:PW X e t)(f:∀σ H Q,t' σ H Q->t σ H Q):PW X e t':=λb a s σ H Q I q=>h b a s σ H Q I (f σ H Q q)
theorem hY(b:PT X a (tV X.K B ft)):PW X (.BoolOp .And [a] pos) (tV X.K B ft):=Fh b
theorem sM(b:PT X a (tV X.K B ft)):PW X (.BoolOp .Or [a] pos) (tV X.K B ft):=Fi b
theorem f7(c:PT X a (tV X.K B ft))(d:PW X (.BoolOp .And (b::rest) pos) (tV X.K B fu)):PW X (.BoolOp .And (a::b::rest) pos) (tV X.K B (bV ft fu)):=(Fj c d).imp λe H Q h=>Jr h
theorem mQ(c:PT X a (tV X.K B ft))(d:PW X (.BoolOp .Or (b::rest) pos) (tV X.K B fu)):PW X (.BoolOp .Or (a::b::rest) pos) (tV X.K B (dA ft fu)):=(Fk c d).imp λe H Q h=>Js h
theorem wA(h:PE X a (eV X.K B fa)):PE X (.BoolOp op [a] pos) (eV X.K B fa):=Fm h
theorem Bi(s:PE X a (eV X.K B fa))(u:PE X (.BoolOp .And (b::rest) pos) (eV X.K B fb)):PE X (.BoolOp .And (a::b::rest) pos) (eV X.K B (eT (bV (tE fa) (tE fb)))):=(HA s u).imp λw H Q ⟨Hf,ρ,z,I,hz,q⟩=>by
 have⟨x,c,hz⟩:=bind_some hz;cases hz;have⟨y,f,c⟩:=bind_some c;have⟨d,r,f⟩:=bind_some f;refine⟨Hf,ρ,d,I,r,λg m v e n=>?_⟩;unfold fP at f
 split at f
 ·cases f
  rw[n.bl]
  cases y with
  |true =>
   rw[da rfl]at c;have⟨d',l,c⟩:=bind_some c;refine⟨g,ρ,d',I.ext e,l,λh o p i j=>?_⟩;unfold fP at c
   split at c
   ·cases c;exact q h o p (e.trans i) j
   ·cases c
  |false=>rw[qa ma]at c;cases c;exact q g m _ e (cE rfl)
 ·cases f
theorem Jt(s:PE X a (eV X.K B fa))(u:PE X (.BoolOp .Or (b::rest) pos) (eV X.K B fb)):PE X (.BoolOp .Or (a::b::rest) pos) (eV X.K B (eT (dA (tE fa) (tE fb)))):=(HB s u).imp λw H Q ⟨Hf,ρ,z,I,hz,q⟩=>by
 have⟨x,c,hz⟩:=bind_some hz;cases hz;have⟨y,f,c⟩:=bind_some c;have⟨d,r,f⟩:=bind_some f;refine⟨Hf,ρ,d,I,r,λg m v e n=>?_⟩;unfold fP at f
 split at f
 ·cases f
  rw[n.bl]
  cases y with
  |false =>
   rw[qa ma]at c;have⟨d',l,c⟩:=bind_some c;refine⟨g,ρ,d',I.ext e,l,λh o p i j=>?_⟩;unfold fP at c
   split at c
   ·cases c;exact q h o p (e.trans i) j
   ·cases c
  |true=>rw[da rfl]at c;cases c;exact q g m _ e (cE rfl)
 ·cases f
theorem aR:PA X [] (aV X.K B aN):=jt.imp λb H Q ⟨Hf,ρ,ds,I,a,q⟩=>by cases a;exact q Hf H [] (.refl I.fh) .nil
theorem aD(n:PE X e (eV X.K B fa))(o:PA X es (aV X.K B fr))(hs:starEach (e::es) X.env=(false,eval e X.env)::starEach es X.env:=by rfl):PA X (e::es) (aV X.K B (aC fa fr)):=(g9 n o hs).imp λp H Q ⟨Hf,ρ,ds,I,a,q⟩=>by
 have⟨d,l,a⟩:=bind_some a;have⟨r,m,a⟩:=bind_some a;cases a;exact⟨Hf,ρ,d,I,l,λf s v b i=>⟨f,ρ,r,I.ext b,m,λg j vs c h=>q g j _ (b.trans c) (.cons (i.same c.ff) h)⟩⟩
theorem dE:PA X [] (aB X.K B aN):=Jq aR
theorem dB(n:PE X e (eB X.K B fa))(o:PA X es (aB X.K B fr))(hs:starEach (e::es) X.env=(false,eval e X.env)::starEach es X.env:=by rfl):PA X (e::es) (aB X.K B (aC fa fr)):=(g9 n o hs).imp λp H Q ⟨Hf,ρ,ds,I,a,q⟩=>by
 have⟨d,l,a⟩:=bind_some a;have⟨r,m,a⟩:=bind_some a;cases a;exact⟨Hf,ρ,d,I,l,λf s v b i=>⟨f,ρ,r,I.ext b,m,λg j vs c h=>q g j _ (b.trans c) (.cons (i.ext c) h)⟩⟩
noncomputable def bP:List D->Option D:=λds=>if ds.length<=sizeLine then some (.tup ds) else none
noncomputable def dU:List D->Option D:=λds=>if ds.length<=sizeLine then some (.lst ds) else none
theorem cQ{x1}(h:PA X es (aV X.K B fr)):PE X (.Tuple es x1 pos) (eV X.K B (eN bP fr)):=(Gk h).imp λf H Q ⟨Hf,ρ,z,I,hz,q⟩=>by
 have⟨ds,e,hz⟩:=bind_some hz;unfold bP at hz
 split at hz
 ·rename_i hl
  cases hz;refine⟨Hf,ρ,ds,I,e,λc g vs b a=>⟨by rw[<-a.length];exact hl,λp d=>?_⟩⟩
  have e2:=Ex.new (o:=.tup vs) b.fh d;exact q _ _ _ (b.trans e2) (oA (gO.of bi) (a.same e2.ff))
 ·cases hz
theorem iQ(h:PA X es (aV X.K B fr)):PE X (.List es pos) (eV X.K B (eN dU fr)):=(r4 h).imp λf H Q ⟨Hf,ρ,z,I,hz,q⟩=>by
 have⟨ds,e,hz⟩:=bind_some hz;unfold dU at hz
 split at hz
 ·rename_i hl
  cases hz;refine⟨Hf,ρ,ds,I,e,λc g vs b a=>⟨by rw[<-a.length];exact hl,λp d=>?_⟩⟩
  have e2:=Ex.new (o:=.lst vs) b.fh d;exact q _ _ _ (b.trans e2) (hW (bJ.of bi) (a.same e2.ff))
 ·cases hz
end
section
variable {κ α:Type}[DecidableEq κ]
noncomputable def bF(m:List (κ×α))(k:κ):Option α:=(m.find? λa=>decide (a.1=k)).map (·.2)
noncomputable def eQ(m:List (κ×α))(k:κ)(v:α):List (κ×α) :=
 if (m.any λa=>decide (a.1=k))=true then m.map (λa=>if a.1=k then (a.1,v) else a) else m++[(k,v)]
abbrev eo(K:Fg1)(H:Hp):List (κ×D)->List (κ×V)->Prop:=Paired λa b=>a.1=b.1/\Dn K H a.2 b.2
variable {K:Fg1}{H:Hp}
theorem p8:∀{kvs:List (κ×V)}{ks:List κ}{ds:List D},kvs.map Prod.fst=ks->aZ K H ds (kvs.map Prod.snd)->eo K H (ks.zip ds) kvs
 |[],_,_,e,p=>by subst e;cases p;exact .nil
 |kv::r,_,_,e,p=>by
  subst e;rw[ja]at p
  cases p with
  |cons a b=>exact .cons ⟨rfl,a⟩ (p8 rfl b)
theorem eo.fst:∀{m:List (κ×D)}{kvs:List (κ×V)},eo K H m kvs->kvs.map Prod.fst=m.map Prod.fst
 |_,_,.nil=>rfl
 |_,_,.cons a b=>by rw[ja,ja,a.1,eo.fst b]
theorem eo.snd:∀{m:List (κ×D)}{kvs:List (κ×V)},eo K H m kvs->aZ K H (m.map Prod.snd) (kvs.map Prod.snd)
 |_,_,.nil=>.nil
 |_,_,.cons a b=>.cons a.2 (eo.snd b)
theorem eo.any:∀{m:List (κ×D)}{kvs:List (κ×V)} (k:κ),eo K H m kvs->(kvs.any λc=>decide (c.1=k))=m.any λc=>decide (c.1=k)
 |_,_,_,.nil=>rfl
 |_,_,k,.cons a b=>by rw[zg,zg,a.1,eo.any k b]
theorem eo.val:∀{m:List (κ×D)}{kvs:List (κ×V)} (k:κ),eo K H m kvs->(bF m k=none->dD kvs k=none)/\∀d,bF m k=some d->∃v,dD kvs k=some v/\Dn K H d v
 |_,_,k,.nil=>⟨λ_=>rfl,λd h=>by cases h⟩
 |a::m,b::kvs,k,.cons h t=>by
  have c:=eo.val k t;by_cases e:b.1=k
  ·have e2:a.1=k:=h.1.trans e
   refine⟨λz=>?_,λd z=>?_⟩
   ·simp[bF,jf,e2]at z
   ·simp[bF,jf,e2]at z
    subst z;exact⟨b.2,mJ e,h.2⟩
  ·have e2:¬a.1=k:=λz=>e (h.1.symm.trans z)
   have f:bF (a::m) k=bF m k:=by simp[bF,jf,e2]
   rw[f,lQ e];exact c
theorem eo.repl(k:κ)(f:Dn K H d v):∀{m:List (κ×D)}{kvs:List (κ×V)},eo K H m kvs->eo K H (m.map λc=>if c.1=k then (c.1,d) else c) (kvs.map λc=>if c.1=k then (c.1,v) else c)
 |_,_,.nil=>.nil
 |a::m,b::kvs,.cons h t=>by
  refine .cons ?_ (eo.repl k f t);by_cases e:b.1=k
  ·dsimp only;rw[da e,da (h.1.trans e)];exact⟨h.1,f⟩
  ·dsimp only;rw[qa e,qa (λz=>e (h.1.symm.trans z))];exact h
theorem eo.put(k:κ){m:List (κ×D)}{kvs:List (κ×V)}(h:eo K H m kvs)(a:Dn K H d v):eo K H (eQ m k d) (e7 kvs k v):=by
 unfold eQ e7;rw[eo.any k h];split
 ·exact eo.repl k a h
 ·exact h.zsnoc ⟨rfl,a⟩
end
def mR:D->Option aW
 |.sc (.int i)=>some (.inl i)
 |.sc (.str x)=>some (.inr x)
 |_=>none
def mS:List D->Option (List aW)
 |[]=>some []
 |d::r=>(mR d).bind λk=>(mS r).map (k::·)
def kB:D->Option (List aW)
 |.tup ds=>mS ds
 |_=>none
section
variable {K:Fg1}{Hf H:Hp}
theorem Ju(h:Dn K H d x)(e:mR d=some k):x=kV k:=by
 unfold mR at e
 split at e
 ·cases e;exact h.sc.2
 ·cases e;exact h.sc.2
 ·cases e
theorem Bj(h:cK K Hf H d x)(e:mR d=some k):x=kV k:=by
 unfold mR at e
 split at e
 ·cases e;exact h.sc.2
 ·cases e;exact h.sc.2
 ·cases e
theorem Bk:∀{ds:List D}{xs:List V}{ks:List aW},aZ K H ds xs->mS ds=some ks->xs=ks.map kV
 |_,_,_,.nil,e=>by cases e;rfl
 |_,_,_,.cons a b,e=>by
  unfold mS at e;have⟨k,d,e⟩:=bind_some e;rename_i r _ _
  cases c:mS r with
  |none=>rw[c]at e;cases e
  |some ks =>
   rw[c]at e;cases e;rw[ja,Ju a d,Bk b c]
theorem sN(h:cK K Hf H d x)(e:kB d=some k):∃b,x=.ref b/\Hf b=some (.tup (k.map kV)):=by
 unfold kB at e
 split at e
 ·obtain⟨a,xs,rfl,c,f⟩:=h.tupU
  have c:Hf a=some (.tup xs):=c;rw[Bk f e]at c;exact⟨a,rfl,c⟩
 ·cases e
end
def fH(d k:D):Option (Option D):=match d with
 |.dk ks ds=>(mR k).map λkey=>bF (ks.zip ds) key
 |.dt ks ds=>(kB k).map λkey=>bF (ks.zip ds) key
 |_=>none
theorem sO{K:Fg1}{Hf H:Hp}{d k:D}{x y:V}{o:Option D}(s:aS Hf H)(m:cK K Hf H d x)(n:cK K Hf H k y)(h:fH d k=some o):∃a r,x=.ref a/\pY H a/\gK H a y r/\(o=none->r=none)/\∀z,o=some z->∃v,r=some v/\Dn K Hf z v:=by
 unfold fH at h
 split at h
 ·have⟨c,g,i⟩:=lb.mp h
  obtain⟨a,kvs,rfl,f,j,l⟩:=m.dk s;have e:=Bj n g;subst e;have p:=(p8 j l).val c;rw[i]at p;exact⟨a,_,rfl,.inl ⟨kvs,.inl f⟩,gK.k f,p.1,p.2⟩
 ·have⟨c,g,i⟩:=lb.mp h
  obtain⟨a,kvs,rfl,f,j,l⟩:=m.dt s;obtain⟨b,rfl,q⟩:=sN n g;have p:=(p8 j l).val c;rw[i]at p;exact⟨a,_,rfl,.inr ⟨kvs,.inl f⟩,gK.t f (s _ _ q),p.1,p.2⟩
 ·cases h
def mT(b:Bool):R2:=λx y H Q=>∃a o,y=.ref a/\gK H a x o/\Q (.bl (if b then !o.isSome else o.isSome)) H
section
variable {X:Cx}
theorem Jv(h:X.A.units+1<cLine):bC X (compareOp .In) (mT false):=by
 intro b s j H x y v u Q I d f ⟨a,o,e,g,q⟩;subst e;obtain rfl:u=Value.ref a:=f;exact IM h I g d λi c=>⟨.bl o.isSome,H,c,rfl,q⟩
theorem Jw(h:X.A.units+1<cLine):bC X (compareOp .NotIn) (mT true):=by
 intro b s j H x y v u Q I d f ⟨a,o,e,g,q⟩;subst e;obtain rfl:u=Value.ref a:=f;exact IN h I g d λi c=>⟨.bl (!o.isSome),H,c,rfl,q⟩
end
section
variable {X:Cx}
def wB(K:Fg1):R2:=λx y H Q=>match x,y with|.ref l,.ref b=>∃xs zs,bJ K H l xs/\bJ K H b zs/\xs.length+zs.length<=sizeLine/\∀p,H p=none->Q (.ref p) (aG H p (.lst (xs++zs)))|_,_=>False
theorem Jx:bC X (binaryOp .Add) (wB X.K):=by
 intro o s P H x y v u Q I E G h;unfold wB at h
 split at h
 ·rename_i l b
  obtain⟨xs,R,hl,J,hz,q⟩:=h;cases E;cases G;have⟨c,r,L,_⟩:=I.list hl;have⟨a,p,g,_⟩:=I.list J;have T:=r.length;have U:=p.length;have⟨⟨M,dd,w,sl⟩,z,A,n,B⟩:=L.isList;have⟨⟨C,i,j,m⟩,d,e,N,f⟩:=g.isList;simp only at A B e f;subst A B e f;refine concat_meets ⟨_,z,rfl⟩ ⟨_,d,rfl⟩ noFill_list_add seq_list_add PySem.F.slot_list_add PySem.F.entry_list_add (PySem.F.args_list_add_2 _ _) (list_addW l b c.toArray a.toArray n N dd i sl m (by simp;omega)) ⟨z,d,?_⟩;have O:c.toArray++a.toArray=(c++a).toArray:=by simp
  rw[O];exact⟨.ref _,_,I.lnew (t':=s.toks) (r.append p) (by rw[wa];omega),rfl,q _ I.fresh⟩
 ·exact h.elim
mutual
noncomputable def bG:D->D->Bool
 |.sc a,.sc b=>iO a b
 |.tup ds,.tup es=>b9 ds es
 |.lst ds,.lst es=>b9 ds es
 |_,_=>false
noncomputable def b9:List D->List D->Bool
 |[],[]=>true
 |a::as,b::bs=>bG a b && b9 as bs
 |_,_=>false
end
theorem Bl:∀{k:Nat}{h:Heap}{d e:D}{u v:Value},HD h k d u->HD h k e v->bw k d e=bG d e:=by
 intro k
 induction k with
 |zero =>
  intro h d e u v c f
  cases d with
  |sc a =>
   cases e with
   |sc b=>rw[bG];rfl
   |_=>exact f.elim
  |_=>exact c.elim
 |succ k l =>
  intro h d e u v c f
  have all:∀{ds es:List D} {j vs:List Value},Paired (HD h k) ds j->Paired (HD h k) es vs->em (bw k) ds es=b9 ds es:=by
   intro ds es j vs p
   induction p generalizing es vs with
   |nil=>intro q;cases q <;> simp[em,b9]
   |cons a b i =>
    intro q
    cases q with
    |nil=>simp[em,b9]
    |cons m n =>
     rw[em,b9,l a m,i n]
  cases d with
  |sc a=>cases e <;> simp[bw,bG]
  |tup ds =>
   cases e with
   |tup es =>
    obtain⟨_,_,_,_,p⟩:=c;obtain⟨_,_,_,_,g⟩:=f;rw[bG];exact all p g
   |_=>simp[bw,bG]
  |lst ds =>
   cases e with
   |lst es =>
    obtain⟨_,_,_,_,p⟩:=c;obtain⟨_,_,_,_,g⟩:=f;rw[bG];exact all p g
   |_=>simp[bw,bG]
  |_=>exact c.elim
noncomputable def bE:Nat->D->Bool
 |_,.sc _=>true
 |0,_=>false
 |n+1,.tup ds=>ds.all (bE n)
 |n+1,.lst ds=>ds.all (bE n)
 |_+1,_=>false
theorem Dn.at{K:Fg1}{H:Hp}:∀{n:Nat}{d:D}{x:V},Dn K H d x->bE n d=true->c6 K H n d x:=by
 intro n
 induction n with
 |zero =>
  intro d x h c
  cases d with
  |sc v=>exact h.sc
  |_=>cases c
 |succ n j =>
  intro d x h c
  have i:∀{ds:List D} {xs:List V},aZ K H ds xs->ds.all (bE n)=true->Paired (c6 K H n) ds xs:=by
   intro ds xs p
   induction p with
   |nil=>intro _;exact .nil
   |cons a b g =>
    intro f;rw[zi,jb]at f;exact .cons (j a f.1) (g f.2)
  cases d with
  |sc v=>exact h.sc
  |tup ds=>have⟨a,xs,e,q,p⟩:=h.tup;exact⟨a,xs,e,q,i p c⟩
  |lst ds=>have⟨a,xs,e,q,p⟩:=h.lst;exact⟨a,xs,e,q,i p c⟩
  |_=>cases c
theorem Bm:∀{k:Nat}{d e:D}{u:Value},HD h k d u->HD h k e u->d=e:=by
 intro k
 induction k with
 |zero =>
  intro d e u g c
  cases d with
  |sc v =>
   cases e with
   |sc w=>obtain⟨f,r⟩:=g;obtain⟨z,s⟩:=c;rw[r.inj s]
   |_=>exact c.elim
  |_=>exact g.elim
 |succ k A =>
  intro d e u g c
  have all:∀{ds es:List D} {o:List Value},Paired (HD h k) ds o->Paired (HD h k) es o->ds=es:=by
   intro ds es o p
   induction p generalizing es with
   |nil=>intro q;cases q;rfl
   |cons a b y=>intro q;cases q with|cons m B=>rw[A a m,y B]
  cases d with
  |sc v =>
   obtain⟨f,r⟩:=g
   cases e with
   |sc w=>obtain⟨z,s⟩:=c;rw[r.inj s]
   |tup es=>obtain⟨a,i,q,_⟩:=c;subst q;exact(lO f r).elim
   |lst es=>obtain⟨a,i,q,_⟩:=c;subst q;exact(lO f r).elim
   |_=>exact c.elim
  |tup ds =>
   obtain⟨a,i,q,l,x⟩:=g;subst q
   cases e with
   |sc w=>obtain⟨f,r⟩:=c;exact(lO f r).elim
   |tup es=>obtain⟨m,its',q,j,n⟩:=c;cases q;have q:=AC l j;subst q;rw[all x n]
   |lst es=>obtain⟨m,its',q,j,n⟩:=c;cases q;exact(sA l j).elim
   |_=>exact c.elim
  |lst ds =>
   obtain⟨a,i,q,l,x⟩:=g;subst q
   cases e with
   |sc w=>obtain⟨f,r⟩:=c;exact(lO f r).elim
   |lst es=>obtain⟨m,its',q,j,n⟩:=c;cases q;have q:=AD l j;subst q;rw[all x n]
   |tup es=>obtain⟨m,its',q,j,n⟩:=c;cases q;exact(sA j l).elim
   |_=>exact c.elim
  |_=>exact g.elim
open Classical in
def eR(h:Heap)(k:Nat)(e:D)(w:Value):Bool:=if z:∃d,HD h k d w then bw k z.choose e else false
theorem p9(x:HD h k d w):eR h k e w=bw k d e:=by
 have z:∃d,HD h k d w:=⟨d,x⟩
 unfold eR;rw[dif_pos z,Bm z.choose_spec x]
def mU(K:Fg1)(k:Nat)(a:Bool):R2:=λx y H Q=>∃p xs ds e,y=.ref p/\(bJ K H p xs\/dJ K H p xs)/\c6 K H k e x/\Paired (c6 K H k) ds xs/\Q (.bl (if a then !(ds.any λd=>bw k d e) else ds.any λd=>bw k d e)) H
theorem qb:∀{ds:List D}{c:List Value},Paired (HD h k) ds c->c.any (eR h k e)=ds.any λd=>bw k d e
 |_,_,.nil=>rfl
 |_,_,.cons a b=>by rw[zg,zg,p9 a,qb b]
theorem mV(d:HD s.heap k e v)(c:A.units+k<cLine):∀{ds:List D}{f:List Value},Paired (HD s.heap k) ds f->∀u∈f,SeqAt.EqAt A s u v (eR s.heap k e u)
 |_,_,.nil=>λu c=>by cases c
 |_,_,.cons a b=>λu hm=>by
  rcases pb.mp hm with rfl|hm
  ·rw[p9 a];exact k7 a d c
  ·exact mV d c b u hm
theorem aw.dens(I:aw X pins σ H s){ds:List D}{xs:List V}{a:List Value}(p:Paired (c6 X.K H k) ds xs)(r:bB xs a):Paired (HD s.heap k) ds a :=
 Paired.imp2 (F:=bj) (G:=HD s.heap k) (R:=c6 X.K H k) (λx u d r q=>I.den q r) r p
theorem Jy(k:Nat)(o:X.A.units+(k+1)<cLine):bC X (compareOp .In) (mU X.K k false):=by
 intro f s n H x y v u Q I j l h;obtain⟨p,xs,ds,e,rfl,hq,m,g,q⟩:=h;cases l;have i:=I.den m j;rcases hq with hq|hq
 ·have⟨a,r,d,hz⟩:=I.list hq
  have b:=I.dens g r;refine SeqAt.in_listAt (eR s.heap k e) d.isList (λw c=>mV (A:=X.A.in1) i (by show X.A.units+1+k<cLine;omega) b w (by simpa using c)) ⟨.bl _,H,I,rfl,?_⟩;rw[show a.toArray.any (eR s.heap k e)=a.any (eR s.heap k e) by simp,qb b];exact q
 ·have⟨a,r,d,hz⟩:=I.tuple hq
  have b:=I.dens g r;refine SeqAt.in_tupleAt (eR s.heap k e) d (λw c=>mV (A:=X.A.in1) i (by show X.A.units+1+k<cLine;omega) b w (by simpa using c)) ⟨.bl _,H,I,rfl,?_⟩;rw[show a.toArray.any (eR s.heap k e)=a.any (eR s.heap k e) by simp,qb b];exact q
theorem Jz(k:Nat)(o:X.A.units+(k+1)<cLine):bC X (compareOp .NotIn) (mU X.K k true):=by
 intro f s n H x y v u Q I j l h;obtain⟨p,xs,ds,e,rfl,hq,m,g,q⟩:=h;cases l;have i:=I.den m j;rcases hq with hq|hq
 ·have⟨a,r,d,hz⟩:=I.list hq
  have b:=I.dens g r;refine SeqAt.notIn_listAt (eR s.heap k e) d.isList (λw c=>mV (A:=X.A.in1) i (by show X.A.units+1+k<cLine;omega) b w (by simpa using c)) ⟨.bl _,H,I,rfl,?_⟩;rw[show a.toArray.any (eR s.heap k e)=a.any (eR s.heap k e) by simp,qb b];exact q
 ·have⟨a,r,d,hz⟩:=I.tuple hq
  have b:=I.dens g r;refine SeqAt.notIn_tupleAt (eR s.heap k e) d (λw c=>mV (A:=X.A.in1) i (by show X.A.units+1+k<cLine;omega) b w (by simpa using c)) ⟨.bl _,H,I,rfl,?_⟩;rw[show a.toArray.any (eR s.heap k e)=a.any (eR s.heap k e) by simp,qb b];exact q
noncomputable abbrev LV:Nat:=9
theorem lr{K:Fg1}{H:Hp}:∀{k:Nat}{d e:D}{x y:V},c6 K H k d x->c6 K H k e y->bw k d e=bG d e:=by
 intro k
 induction k with
 |zero =>
  intro d e u v c f
  cases d with
  |sc a =>
   cases e with
   |sc b=>rw[bG];rfl
   |_=>exact f.elim
  |_=>exact c.elim
 |succ k j =>
  intro d e u v c f
  have all:∀{ds es:List D} {i vs:List V},Paired (c6 K H k) ds i->Paired (c6 K H k) es vs->em (bw k) ds es=b9 ds es:=by
   intro ds es i vs p
   induction p generalizing es vs with
   |nil=>intro q;cases q <;> simp[em,b9]
   |cons a b h =>
    intro q
    cases q with
    |nil=>simp[em,b9]
    |cons l m=>rw[em,b9,j a l,h m]
  cases d with
  |sc a=>cases e <;> simp[bw,bG]
  |tup ds =>
   cases e with
   |tup es=>obtain⟨_,_,_,_,p⟩:=c;obtain⟨_,_,_,_,g⟩:=f;rw[bG];exact all p g
   |_=>simp[bw,bG]
  |lst ds =>
   cases e with
   |lst es=>obtain⟨_,_,_,_,p⟩:=c;obtain⟨_,_,_,_,g⟩:=f;rw[bG];exact all p g
   |_=>simp[bw,bG]
  |_=>exact c.elim
noncomputable def jT:V->Nat
 |.int _=>1
 |.str _=>2
 |.bl _=>3
 |_=>0
def fw(d e:D):Option Bool:=match d,e with
 |.sc a,.sc b=>if jT a=jT b/\jT a≠0 then some (iO a b) else none
 |.tup ds,.tup es=>if bE LV (.tup ds) && bE LV (.tup es) then some (b9 ds es) else none
 |.lst ds,.lst es=>if bE LV (.lst ds) && bE LV (.lst es) then some (b9 ds es) else none
 |_,_=>none
def bR(d e:D):Option D:=(fw d e).map D.bl
def fQ(d e:D):Option D:=(fw d e).map λb=>D.bl (!b)
theorem oB[BEq α][LawfulBEq α](i j:α)[a:Decidable (i=j)]:decide (i=j)=(i == j):=by
 by_cases h:i=j
 ·simp[h]
 ·rw[nb h];exact(aj.mpr h).symm
theorem eG(a:aM n X.A):bC X (compareOp .Eq) (λx y H Q=>k8 false x y H Q\/vO X.K 8 x y H Q):=Hu.or (Ho 8 (by have:=a.units;omega))
theorem wC(a:aM n X.A):bC X (compareOp .NotEq) (λx y H Q=>k8 true x y H Q\/vP X.K 8 x y H Q):=Hv.or (Hq 8 (by have:=a.units;omega))
theorem Bn{K:Fg1}{Hf H:Hp}{a b x y:V}{c z:Bool}{Q:VK}(d:x=a)(e:y=b)(h:(if jT a=jT b/\jT a≠0 then some (iO a b) else none)=some z)(q:Q (.bl (if c then !z else z)) H):k8 c x y H Q:=by
 subst d e
 split at h
 ·rename_i hs
  cases h
  cases x with
  |bl i =>
   cases y with
   |bl j=>show Q (V.bl (if c=true then !decide (i=j) else decide (i=j))) H;rw[oB i j];exact q
   |_=>exact absurd hs.1 (by simp[jT])
  |int i =>
   cases y with
   |int j=>show Q (V.bl (if c=true then !decide (i=j) else decide (i=j))) H;rw[oB i j];exact q
   |_=>exact absurd hs.1 (by simp[jT])
  |str i =>
   cases y with
   |str j=>show Q (V.bl (if c=true then !decide (i=j) else decide (i=j))) H;rw[oB i j];exact q
   |_=>exact absurd hs.1 (by simp[jT])
  |_=>exact absurd rfl hs.2
 ·cases h
theorem eH{K:Fg1}:P2 K (λx y H Q=>k8 false x y H Q\/vO K 8 x y H Q) bR:=by
 intro Hf H x y d e z Q s h i hz q;unfold bR at hz
 cases a:fw d e with
 |none=>rw[a]at hz;cases hz
 |some b =>
  rw[a]at hz;have hz:D.bl b=z:=lc hz;subst hz;have q:=q Hf H (.bl b) (.refl s) (cE rfl);unfold fw at a
  split at a
  ·exact .inl (Bn (K:=K) (Hf:=Hf) h.sc.2 i.sc.2 a q)
  ·split at a
   ·rename_i c
    rw[jb]at c;cases a;have f:=(h.whole s).at c.1;have g:=(i.whole s).at c.2;refine .inr ⟨_,_,f,g,rfl,?_⟩;rw[lr f g,bG];exact q
   ·cases a
  ·split at a
   ·rename_i c
    rw[jb]at c;cases a;have f:=(h.whole s).at c.1;have g:=(i.whole s).at c.2;refine .inr ⟨_,_,f,g,rfl,?_⟩;rw[lr f g,bG];exact q
   ·cases a
  ·cases a
theorem wD{K:Fg1}:P2 K (λx y H Q=>k8 true x y H Q\/vP K 8 x y H Q) fQ:=by
 intro Hf H x y d e z Q s h i hz q;unfold fQ at hz
 cases a:fw d e with
 |none=>rw[a]at hz;cases hz
 |some b =>
  rw[a]at hz;have hz:D.bl (!b)=z:=lc hz;subst hz;have q:=q Hf H (.bl (!b)) (.refl s) (cE rfl);unfold fw at a
  split at a
  ·exact .inl (Bn (K:=K) (Hf:=Hf) h.sc.2 i.sc.2 a q)
  ·split at a
   ·rename_i c
    rw[jb]at c;cases a;have f:=(h.whole s).at c.1;have g:=(i.whole s).at c.2;refine .inr ⟨_,_,f,g,rfl,?_⟩;rw[lr f g,bG];exact q
   ·cases a
  ·split at a
   ·rename_i c
    rw[jb]at c;cases a;have f:=(h.whole s).at c.1;have g:=(i.whole s).at c.2;refine .inr ⟨_,_,f,g,rfl,?_⟩;rw[lr f g,bG];exact q
   ·cases a
  ·cases a
def iS(d e:D):Option Bool:=match e with
 |.sc (.str t)=>match d with|.sc (.str x)=>some (Txt.contains t x)|_=>none
 |.lst es=>if bE LV d && es.all (bE LV) then some (es.any λz=>bG z d) else none
 |.tup es=>if bE LV d && es.all (bE LV) then some (es.any λz=>bG z d) else none
 |.dk ks es=>(fH (.dk ks es) d).map Option.isSome
 |.dt ks es=>(fH (.dt ks es) d).map Option.isSome
 |_=>none
def ee(d e:D):Option D:=(iS d e).map D.bl
def dF(d e:D):Option D:=(iS d e).map λb=>D.bl (!b)
theorem qi(a:aM n X.A):bC X (compareOp .In) (λx y H Q=>k9 false x y H Q\/mU X.K 9 false x y H Q\/mT false x y H Q):=HR.or ((Jy 9 (by have:=a.units;omega)).or (Jv (by have:=a.units;omega)))
theorem ls(a:aM n X.A):bC X (compareOp .NotIn) (λx y H Q=>k9 true x y H Q\/mU X.K 9 true x y H Q\/mT true x y H Q):=HS.or ((Jz 9 (by have:=a.units;omega)).or (Jw (by have:=a.units;omega)))
theorem aZ.at{K:Fg1}{H:Hp}{n:Nat}:∀{ds:List D}{xs:List V},aZ K H ds xs->ds.all (bE n)=true->Paired (c6 K H n) ds xs
 |_,_,.nil,_=>.nil
 |_,_,.cons a b,h=>by
  rw[zi,jb]at h;exact .cons (a.at h.1) (aZ.at b h.2)
theorem wE{K:Fg1}{H:Hp}{k:Nat}{e:D}{y:V}(c:c6 K H k e y):∀{ds:List D}{xs:List V},Paired (c6 K H k) ds xs->(ds.any λd=>bw k d e)=ds.any λd=>bG d e
 |_,_,.nil=>rfl
 |_,_,.cons a b=>by rw[zg,zg,lr a c,wE c b]
theorem Bo{K:Fg1}{Hf H:Hp}{x y:V}{d e:D}{i b:Bool}{Q:VK}(s:aS Hf H)(l:cK K Hf H d x)(m:cK K Hf H e y)(c:iS d e=some b)(q:Q (.bl (if i then !b else b)) H):k9 i x y H Q\/mU K 9 i x y H Q\/mT i x y H Q:=by
 unfold iS at c
 split at c
 ·split at c
  ·cases c
   rw[l.sc.2,m.sc.2];exact .inl q
  ·cases c
 ·split at c
  ·rename_i es j
   rw[jb]at j;cases c;obtain⟨a,xs,rfl,n,hs⟩:=m.lst s;have f:=(l.whole s).at j.1;have h:=aZ.at (hs.same s) j.2;exact .inr (.inl ⟨a,xs,es,d,rfl,.inl n,f,h,by rw[wE f h];exact q⟩)
  ·cases c
 ·split at c
  ·rename_i es j
   rw[jb]at j;cases c;obtain⟨a,xs,rfl,n,hs⟩:=m.tup;have f:=(l.whole s).at j.1;have h:=aZ.at (hs.same s) j.2;exact .inr (.inl ⟨a,xs,es,d,rfl,.inr (s.seqT n),f,h,by rw[wE f h];exact q⟩)
  ·cases c
 ·have⟨o,f,h⟩:=lb.mp c
  obtain⟨a,r,rfl,_,g,p,u⟩:=sO s m l f;refine .inr (.inr ⟨a,r,rfl,g,?_⟩)
  have e:r.isSome=b:=by
   rw[<-h]
   cases o with
   |none=>rw[p rfl];rfl
   |some z=>have⟨v,e,_⟩:=u z rfl;rw[e];rfl
  rw[e];exact q
 ·have⟨o,f,h⟩:=lb.mp c
  obtain⟨a,r,rfl,_,g,p,u⟩:=sO s m l f;refine .inr (.inr ⟨a,r,rfl,g,?_⟩)
  have e:r.isSome=b:=by
   rw[<-h]
   cases o with
   |none=>rw[p rfl];rfl
   |some z=>have⟨v,e,_⟩:=u z rfl;rw[e];rfl
  rw[e];exact q
 ·cases c
theorem qj{K:Fg1}:P2 K (λx y H Q=>k9 false x y H Q\/mU K 9 false x y H Q\/mT false x y H Q) ee:=by
 intro Hf H x y d e z Q s c f hz q;unfold ee at hz
 cases a:iS d e with
 |none=>rw[a]at hz;cases hz
 |some b =>
  rw[a]at hz;have hz:D.bl b=z:=lc hz;subst hz;exact Bo s c f a (q Hf H (.bl b) (.refl s) (cE rfl))
theorem lu{K:Fg1}:P2 K (λx y H Q=>k9 true x y H Q\/mU K 9 true x y H Q\/mT true x y H Q) dF:=by
 intro Hf H x y d e z Q s c f hz q;unfold dF at hz
 cases a:iS d e with
 |none=>rw[a]at hz;cases hz
 |some b =>
  rw[a]at hz;have hz:D.bl (!b)=z:=lc hz;subst hz;exact Bo s c f a (q Hf H (.bl (!b)) (.refl s) (cE rfl))
end
section
variable {X:Cx}{B:Bs}{K:Fg1}
noncomputable def fy(h:Int->Int->V)(d e:D):Option D:=match d,e with|.sc (.int i),.sc (.int j)=>some (.sc (h i j))|_,_=>none
noncomputable def gQ(c:Int->Int->Bool)(h:Int->Int->V)(d e:D):Option D:=match d,e with|.sc (.int i),.sc (.int j)=>if c i j=true then some (.sc (h i j)) else none|_,_=>none
theorem qq(c:∀i j,d9 (h i j)=true):P2 K (fG h) (fy h):=by
 intro Hf H x y d e z Q s a b hz q;unfold fy at hz
 split at hz
 ·cases hz
  rw[a.sc.2,b.sc.2];exact q Hf H _ (.refl s) (cE (c _ _))
 ·cases hz
theorem wF(g:∀i j,c i j=true->C i j)(l:∀i j,d9 (h i j)=true):P2 K (k2 C h) (gQ c h):=by
 intro Hf H x y d e z Q s a b hz q;unfold gQ at hz
 split at hz
 ·split at hz
  ·rename_i f
   cases hz;rw[a.sc.2,b.sc.2]
   exact⟨g _ _ f,q Hf H _ (.refl s) (cE (l _ _))⟩
  ·cases hz
 ·cases hz
def wG:=fy λi j=>.bl (decide (i<=j))
def fA:=fy λi j=>.bl (decide (j<i))
def qs:=fy λi j=>.bl (decide (j<=i))
noncomputable def jB(a b:Int):Bool:=!(decide (Builtin.Int.intBits a > shortFactorBits) && decide (Builtin.Int.intBits b > shortFactorBits) && Builtin.Int.intTooBig (Builtin.Int.intBits a+Builtin.Int.intBits b))
theorem JA:bC X (binaryOp .Mult) (rI (λi j=>jB i j=true) λi j=>.int (i * j)):=vv λi j _ _ _ _ _ a q=>mul_int q (by unfold IntMulOk;intro h;unfold jB at a;rw[h]at a;cases a)
def jU:=gQ jB λi j=>.int (i * j)
def d3:=gQ (λi j=>decide (0<j/\j<1073741824)) λi j=>.int (i / j)
def dC:=gQ (λ_ j=>decide (0<j)) λi j=>.int (i % j)
theorem lT:P2 K (fG λi j=>.bl (decide (j<i))) fA:=qq λ_ _=>rfl
theorem JB:P2 K (fG λi j=>.bl (decide (j<=i))) qs:=qq λ_ _=>rfl
theorem sP:P2 K (k2 (λi j=>jB i j=true) λi j=>.int (i * j)) jU:=wF (λ_ _ h=>h) λ_ _=>rfl
theorem jC:P2 K (k2 vw λi j=>.int (i / j)) d3:=wF (λ_ _ h=>bc (p:=_/\_) h) λ_ _=>rfl
theorem gR:P2 K (k2 (λ_ j=>0<j) λi j=>.int (i % j)) dC:=wF (λ_ _ h=>bc h) λ_ _=>rfl
theorem qt:bC X (binaryOp .Mult) (k2 (λi j=>jB i j=true) λi j=>.int (i * j)):=vQ JA
noncomputable def bS(d e:D):Option D:=match d,e with
 |.sc (.int i),.sc (.int j)=>some (.int (i+j))
 |.sc (.str i),.sc (.str j)=>if i.length+j.length<=sizeLine then some (.sc (.str (i++j))) else none
 |.lst ds,.lst es=>if ds.length+es.length<=sizeLine then some (.lst (ds++es)) else none
 |_,_=>none
def Bp(K:Fg1):R2:=λx y H Q=>fG (λi j=>.int (i+j)) x y H Q\/vW x y H Q\/wB K x y H Q
theorem cV:bC X (binaryOp .Add) (Bp X.K):=Hs.or (HQ.or Jx)
theorem cW:P2 K (Bp K) bS:=by
 intro Hf H x y d e z Q s c f hz q;unfold bS at hz
 split at hz
 ·cases hz
  rw[c.sc.2,f.sc.2];exact .inl (q Hf H _ (.refl s) (cE rfl))
 ·split at hz
  ·rename_i g
   cases hz;rw[c.sc.2,f.sc.2]
   exact .inr (.inl ⟨g,q Hf H _ (.refl s) (cE rfl)⟩)
  ·cases hz
 ·split at hz
  ·rename_i g
   cases hz;obtain⟨a,xs,rfl,l,h⟩:=c.lst s
   obtain⟨b,ys,rfl,m,i⟩:=f.lst s;refine .inr (.inr ⟨xs,ys,l,m,by rw[<-h.length,<-i.length];exact g,λp j=>?_⟩);have e2:=Ex.new (o:=.lst (xs++ys)) s j;exact q _ _ _ e2 (hW (bJ.of bi) ((h.zapp i).zmap λ_ _ z=>z.same e2.ff))
  ·cases hz
 ·cases hz
mutual
noncomputable def bZ:D->D->Bool
 |.sc a,.sc b=>sy a b
 |.tup ds,.tup es=>cM ds es
 |.lst ds,.lst es=>cM ds es
 |_,_=>false
noncomputable def cM:List D->List D->Bool
 |[],[]=>false
 |[],_::_=>true
 |_::_,[]=>false
 |a::as,b::bs=>if bG a b=true then cM as bs else bZ a b
end
mutual
noncomputable def cN:D->D->Bool
 |.sc a,.sc b=>pU a b
 |.tup ds,.tup es=>fR ds es
 |.lst ds,.lst es=>fR ds es
 |_,_=>false
noncomputable def fR:List D->List D->Bool
 |a::as,b::bs=>cN a b && fR as bs
 |_,_=>true
end
theorem JC:∀{k:Nat}{d e:D}{x y:V},c6 K H k d x->c6 K H k e y->dS k d e=bZ d e/\(cN d e=true->hV k d e):=by
 intro k
 induction k with
 |zero =>
  intro d e u v c f
  cases d with
  |sc a =>
   cases e with
   |sc b=>rw[bZ,cN];exact⟨rfl,λh=>h⟩
   |_=>exact f.elim
  |_=>exact c.elim
 |succ k s =>
  intro d e u v c f
  have all:∀{ds es:List D} {j vs:List V},Paired (c6 K H k) ds j->Paired (c6 K H k) es vs->eP (bw k) (dS k) ds es=cM ds es/\(fR ds es=true->∀p∈ds.zip es,hV k p.1 p.2):=by
   intro ds es j vs p
   induction p generalizing es vs with
   |nil=>intro q;cases q <;> simp[eP,cM]
   |cons a b i =>
    intro q
    cases q with
    |nil=>simp[eP,cM]
    |cons l w =>
     have⟨m,n⟩:=i w;have⟨o,r⟩:=s a l;refine⟨?_,λh=>?_⟩
     ·rw[eP,cM,lr a l,m,o]
     ·rw[fR,jb]at h
      intro p hp;rw[bg]at hp;rcases pb.mp hp with rfl|hp
      ·exact r h.1
      ·exact n h.2 p hp
  cases d with
  |sc a =>
   cases e with
   |sc b=>rw[bZ,cN];exact⟨rfl,λh=>h⟩
   |_=>simp[dS,bZ,cN]
  |tup ds =>
   cases e with
   |tup es=>obtain⟨_,_,_,_,p⟩:=c;obtain⟨_,_,_,_,g⟩:=f;rw[bZ,cN];exact all p g
   |_=>simp[dS,bZ,cN]
  |lst ds =>
   cases e with
   |lst es=>obtain⟨_,_,_,_,p⟩:=c;obtain⟨_,_,_,_,g⟩:=f;rw[bZ,cN];exact all p g
   |_=>simp[dS,bZ,cN]
  |_=>exact c.elim
def qw(d e:D):Option D:=match d,e with
 |.sc (.int i),.sc (.int j)=>some (.bl (decide (i<j)))
 |d,e=>if (bE LV d && bE LV e && cN d e)=true then some (.bl (bZ d e)) else none
def Bq(K:Fg1):R2:=λx y H Q=>fG (λi j=>.bl (decide (i<j))) x y H Q\/AI K 8 x y H Q
theorem JD(a:aM n X.A):bC X (compareOp .Lt) (Bq X.K):=AJ.or (Hr 8 (by have:=a.units;omega))
theorem JE:P2 K (Bq K) qw:=by
 intro Hf H x y d e z Q s b c hz q;unfold qw at hz
 split at hz
 ·cases hz
  rw[b.sc.2,c.sc.2];exact .inl (q Hf H _ (.refl s) (cE rfl))
 ·split at hz
  ·rename_i a
   rw[jb,jb]at a;cases hz;have f:=(b.whole s).at a.1.1;have g:=(c.whole s).at a.1.2;have⟨h,i⟩:=JC f g;refine .inr ⟨_,_,f,g,i a.2,?_⟩;rw[h];exact q Hf H _ (.refl s) (cE rfl)
  ·cases hz
noncomputable def cv(d:D):Option D:=match d with|.sc (.int i)=>some (.int (-i))|_=>none
variable {a:Expr}{fa fb:ao->Option D}{pos:Pos}
theorem fB(h:PE X a (eV X.K B fa)):PE X (.UnaryOp .USub a pos) (eV X.K B (e1 cv fa)):=(FN HE h).imp λi H Q ⟨Hf,ρ,z,I,hz,q⟩=>by
 have⟨d,g,hz⟩:=bind_some hz;refine⟨Hf,ρ,d,I,g,λb e v c f=>?_⟩;unfold cv at hz
 split at hz
 ·cases hz
  rw[f.int];exact q b e _ c (cE rfl)
 ·cases hz
theorem Br{c d:Type}{F:c->d->Prop}{l:List c}{m:List d}{i:Int}{a:c}(p:Paired F l m)(h:d8 l i=some a):∃b,d8 m i=some b/\F a b:=by
 have e:=p.length;unfold d8 at h ⊢;rw[<-e]
 cases q:hG l.length i with
 |none=>rw[q]at h;cases h
 |some j =>
  rw[q]at h;have⟨b,f,g⟩:=p.zget (show l[j]?=some a from h);exact⟨b,f,g⟩
def aJ(d e:D):Option D:=match d,e with
 |.lst ds,.sc (.int i)=>d8 ds i
 |.tup ds,.sc (.int i)=>d8 ds i
 |.sc (.str z),.sc (.int i)=>if z.length<=sizeLine then (d8 z.cps.toList i).map λc=>.str [c] else none
 |_,_=>none
def Bt(K:Fg1):R2:=λx y H Q=>vS K x y H Q\/vT K x y H Q\/vU x y H Q
theorem JF:gF X (Bt X.K):=HF.or (HH.or HI)
theorem JG:P2 K (Bt K) aJ:=by
 intro Hf H x y d e z Q s b f hz q;unfold aJ at hz
 split at hz
 ·obtain⟨a,xs,rfl,g,h⟩:=b.lst s
  have⟨v,i,j⟩:=Br h hz;rw[f.sc.2];exact .inl ⟨xs,v,g,i,q Hf H v (.refl s) j⟩
 ·obtain⟨a,xs,rfl,g,h⟩:=b.tup
  have⟨v,i,j⟩:=Br h hz;rw[f.sc.2];exact .inr (.inl ⟨xs,v,s.seqT g,i,q Hf H v (.refl s) j⟩)
 ·split at hz
  ·rename_i l
   have⟨c,m,hz⟩:=lb.mp hz;subst hz;rw[b.sc.2,f.sc.2];exact .inr (.inr ⟨l,c,m,q Hf H _ (.refl s) (cE rfl)⟩)
  ·cases hz
 ·cases hz
theorem bz(c:PE X a (eB X.K B fa))(d:PE X b (eB X.K B fb))(hs:Ap b):PE X (.Subscript a b pos) (eV X.K B (e2 aJ fa fb)):=(GA JF c d hs).imp λe H Q h=>sL JG h
def dH{α:Type}(xs:List α)(lo hi:Option Int):List α:=(xs.drop (HT.sIx xs.length 0 lo)).take (HT.sIx xs.length xs.length hi - HT.sIx xs.length 0 lo)
theorem Bu(p:Paired F l m)(a b:Option Int):Paired F (dH l a b) (jv m a b):=by
 have e:=p.length;unfold dH jv;rw[<-e];exact(p.zdrop _).ztake _
def lw(d:D)(lo hi:Option Int):Option D:=match d with
 |.lst ds=>some (.lst (dH ds lo hi))
 |.tup ds=>some (.tup (dH ds lo hi))
 |.sc (.str z)=>if z.length<=sizeLine then some (.sc (.str (StrLaws.sliceText z lo hi))) else none
 |_=>none
def b6(fa:ao->Option D)(fl fh:ao->Option (Option Int)):ao->Option D:=λρ=>(fa ρ).bind λd=>(fl ρ).bind λlo=>(fh ρ).bind λhi=>lw d lo hi
def oN:ao->Option (Option Int):=λ_=>some none
noncomputable def jV:D->Option Int|.sc (.int i)=>some i|_=>none
def oS(fa:ao->Option D):ao->Option (Option Int):=λρ=>(fa ρ).bind λd=>(jV d).map some
theorem PO.imp(h:PO X e t)(f:∀σ H Q,t' σ H Q->t σ H Q):PO X e t':=λa s σ H Q I q=>h a s σ H Q I (f σ H Q q)
theorem f8:PO X none (oV X.K B oN):=Gv.imp λa H Q ⟨Hf,ρ,z,I,hz,q⟩=>by cases hz;exact q Hf H (.refl I.fh)
theorem eS(h:PE X a (eB X.K B fa)):PO X (some a) (oV X.K B (oS fa)):=(HN h).imp λi H Q ⟨Hf,ρ,z,I,hz,q⟩=>by
 have⟨d,g,hz⟩:=bind_some hz;refine⟨Hf,ρ,d,I,g,λb e v c f=>?_⟩;unfold jV at hz
 split at hz
 ·cases hz
  rw[f.sc.2];exact q b e c
 ·cases hz
def Bv(K:Fg1):V->Option Int->Option Int->Hp->VK->Prop:=λx lo hi H Q=>∃a xs,x=.ref a/\dJ K H a xs ∧
 ((HT.sIx xs.length 0 lo=0/\HT.sIx xs.length xs.length hi=xs.length/\Q (.ref a) H)\/(¬(HT.sIx xs.length 0 lo=0/\HT.sIx xs.length xs.length hi=xs.length)/\∀p,H p=none->Q (.ref p) (aG H p (.tup (jv xs lo hi)))))
end
end L2
namespace HT
open PySem PyProof.Rows
section
variable {prog:Program}{w:World}{A:Around}{E:Value->Shared->Prop}{s:Shared}
theorem getItem_tuple_all{t sl:Addr}{items:Array Value}{i j:Value}{a c:Option Int}{Q:Value->Shared->Prop}(b:IsTup s.heap t items)(hs:s.heap.IsSliceOf sl i j .none)(o:IsPart i a)(p:IsPart j c)
  (l:sIx items.size 0 a=0/\sIx items.size items.size c=items.size) (h:Q (.ref t) s):wpAny (model prog w) A (getItem (.ref t) (.ref sl)) Q E s:=by
 have⟨os,d,e,n⟩:=id hs;have f:s.TypeIs (.ref sl) "slice":=⟨os,d,e⟩
 unfold getItem
 try with_reducible refine qe ?_
 first|refine aa (ia ?_)|skip
 refine aa (wpAny_sequenceKey b.typeIs (by decide) ?_)
 refine wpAny_bind (wpAny_callSpecial?_slot (name:=Str.ofString "__getitem__") b.typeIs PyProof.Rows.slot_tuple_getitem
  (lj we b.typeIs entry_tuple_getitem ?_ (args_tuple_getitem _ _)))
 show wpAny _ _ (Builtin.Tuple.tupleItemsOf (.ref t) >>= _) _ _ s;refine aa (tupleItemsOf_ b ?_);refine aa (vm f ?_);rw[da (by decide)];refine aa (Am hs o p ?_)
 have g:(((sIx items.size 0 a:Nat):Int) == 0 && (1:Int) == 1 && (sIx items.size items.size c - sIx items.size 0 a) == items.size)=true:=by
  rw[l.1,l.2];simp
 show wpAny _ _ (if (((sIx items.size 0 a:Nat):Int) == 0 && (1:Int) == 1 && (sIx items.size items.size c - sIx items.size 0 a) == items.size)=true then _ else _) _ _ s;rw[da g];refine aa (m:=Builtin.Tuple.tupleIsExact _) (aa (vm b.typeIs (ia ?_)));rw[da (by decide)]
 first
  |exact aa (dm (ia ⟨_,rfl,ia h⟩))
  |exact aa (dm (aa (ia (ia ⟨_,rfl,ia h⟩))))
  |exact aa (aa (dm (ia (ia ⟨_,rfl,ia h⟩))))
  |exact aa (dm (aa (ia ⟨_,rfl,ia h⟩)))
end
end HT
namespace L2
open PySem PySem.Spec PyProof.Rows
section
variable {X:Cx}{B:Bs}{K:Fg1}
theorem JH:hA X (Bv X.K):=by
 intro b s m H x v n o p u sl Q I f hs g i h;obtain⟨a,xs,rfl,j,h⟩:=h;rcases h with⟨e,w,q⟩|⟨e,q⟩
 ·cases f
  have⟨d,r,l,hz⟩:=I.tuple j;have c:d.toArray.size=xs.length:=by rw[oa];exact r.length.symm
  refine⟨"tuple",_,we.lookup,l.typeIs,?_⟩;exact HT.getItem_tuple_all l hs g i (by rw[c];exact⟨e,w⟩) ⟨.ref a,H,I,rfl,q⟩
 ·exact Gz b s m H _ v n o p u sl Q I f hs g i ⟨a,xs,rfl,j,e,q⟩
def Bw(K:Fg1):V->Option Int->Option Int->Hp->VK->Prop:=λx lo hi H Q=>vV K x lo hi H Q\/Bv K x lo hi H Q\/v9 x lo hi H Q
theorem JI:hA X (Bw X.K):=HP.or (JH.or Iq)
theorem JJ{c:Type}{xs:List c}{a b:Option Int}(d:HT.sIx xs.length 0 a=0)(e:HT.sIx xs.length xs.length b=xs.length):dH xs a b=xs:=by
 unfold dH;rw[d,e];simp
theorem JK{Hf H:Hp}{x:V}{d z:D}{b c:Option Int}{Q:VK}(s:aS Hf H)(j:cK K Hf H d x)(hz:lw d b c=some z)(q:∀Hf' H' v,Ex Hf H Hf' H'->Dn K Hf' z v->Q v H'):Bw K x b c H Q:=by
 unfold lw at hz
 split at hz
 ·cases hz
  obtain⟨a,xs,rfl,h,f⟩:=j.lst s;refine .inl ⟨xs,h,λp i=>?_⟩;have e2:=Ex.new (o:=.lst (jv xs b c)) s i;exact q _ _ _ e2 (hW (bJ.of bi) ((Bu f b c).zmap λ_ _ z=>z.same e2.ff))
 ·cases hz
  obtain⟨a,xs,rfl,h,f⟩:=j.tupU;refine .inr (.inl ⟨a,xs,rfl,s.seqT h.toT,?_⟩);by_cases g:HT.sIx xs.length 0 b=0/\HT.sIx xs.length xs.length c=xs.length
  ·refine .inl ⟨g.1,g.2,q Hf H _ (.refl s) ?_⟩
   have e:=f.length;rw[JJ (by rw[e];exact g.1) (by rw[e];exact g.2)];exact oA h f
  ·refine .inr ⟨g,λp i=>?_⟩
   have e2:=Ex.new (o:=.tup (jv xs b c)) s i;exact q _ _ _ e2 (oA (gO.of bi) ((Bu f b c).zmap λ_ _ z=>z.same e2.ff))
 ·split at hz
  ·rename_i l
   cases hz;rw[j.sc.2]
   exact .inr (.inr ⟨l,q Hf H _ (.refl s) (cE rfl)⟩)
  ·cases hz
 ·cases hz
variable {a e:Expr}{es:List Expr}{fa fb:ao->Option D}{fr:ao->Option (List D)}{pos p2:Pos}{lo hi:Option Expr}{fl fh:ao->Option (Option Int)}
theorem fJ(u:PE X a (eB X.K B fa))(hl:PO X lo (oV X.K B fl))(m:PO X hi (oV X.K B fh)):PE X (.Subscript a (.Slice lo hi none p2) pos) (eV X.K B (b6 fa fl fh)):=(Gx JI u hl m).imp λw H Q ⟨Hf,ρ,z,I,hz,q⟩=>by
 have⟨d,s,hz⟩:=bind_some hz;have⟨l,hl,hz⟩:=bind_some hz;have⟨h,m,hz⟩:=bind_some hz
 exact⟨Hf,ρ,d,I,s,λ f x v b n=>⟨f,ρ,l,I.ext b,hl,λ g y c=>⟨g,ρ,h,(I.ext b).ext c,m,λ o A e =>
  JK e.fh ((n.ext c).ext e) hz λi H' p r j=>q i H' p (((b.trans c).trans e).trans r) j⟩⟩⟩
def PN(K:Fg1)(r:List V->Hp->VK->Prop)(g:List D->Option D):Prop:=∀Hf H xs ds z (Q:VK),aS Hf H->p0 K Hf H ds xs->g ds=some z->(∀Hf' H' v,Ex Hf H Hf' H'->Dn K Hf' z v->Q v H')->r xs H Q
theorem Bx(m:PN X.K r g){e:St}{H:Hp}{Q:VK}(h:eV X.K B (eN g fr) e H Q):sk r (aB X.K B fr) e H Q:=by
 obtain⟨Hf,ρ,z,I,hz,q⟩:=h;have⟨ds,l,hz⟩:=bind_some hz;exact⟨Hf,ρ,ds,I,l,λb f vs a c=>m b f vs ds z Q a.fh c hz λd H' v i j=>q d H' v (a.trans i) j⟩
theorem hZ {id:String}{r:List V->Hp->VK->Prop}{g:List D->Option D}{x:Str}{p:Pos} (c:d2 X (.builtin id) r) (d:PN X.K r g) (f:Gl X x) (hm:X.mg x=none) (i:bootBuiltins x=some (.builtin id)) (j:PA X (e::es) (aB X.K B fr)) (hn:x ≠ "__name__":=by decide) (a:(x == ("__debug__" : Str))=false:=by decide)
  (l:starEach (e::es) X.env=(false,eval e X.env)::starEach es X.env:=by rfl) (b:(backTo pos (starEach es X.env)).any (·.1)=false:=by rfl):PE X (.Call (.Name x p) (e::es) [] pos) (eV X.K B (eN g fr)) :=
 (ss c f hm i j hn a l b).imp λm H Q h=>Bx d h
theorem wH {id:String}{r:List V->Hp->VK->Prop}{g:List D->Option D}{x:Str}{p:Pos} (c:d2 X (.type id) r) (d:PN X.K r g) (f:Gl X x) (hm:X.mg x=none) (i:bootBuiltins x=some (.type id)) (j:PA X (e::es) (aB X.K B fr)) (hn:x ≠ "__name__":=by decide) (a:(x == ("__debug__" : Str))=false:=by decide)
  (l:starEach (e::es) X.env=(false,eval e X.env)::starEach es X.env:=by rfl) (b:(backTo pos (starEach es X.env)).any (·.1)=false:=by rfl):PE X (.Call (.Name x p) (e::es) [] pos) (eV X.K B (eN g fr)) :=
 (Aj c f hm i j hn a l b).imp λm H Q h=>Bx d h
theorem f9(h:p0 K Hf H [d] xs):∃x,xs=[x]/\cK K Hf H d x:=by
 cases h with|cons a b=>cases b;exact⟨_,rfl,a⟩
theorem JL{Hf H:Hp}{d e:D}{xs:List V}(h:p0 K Hf H [d,e] xs):∃x y,xs=[x,y]/\cK K Hf H d x/\cK K Hf H e y:=by
 cases h with|cons a b=>cases b with|cons b c=>cases c;exact⟨_,_,rfl,a,b⟩
noncomputable def cF:List D->Option D
 |[.lst ds]=>some (.int ds.length)
 |[.tup ds]=>some (.int ds.length)
 |[.sc (.str z)]=>if z.length<=sizeLine then some (.int z.length) else none
 |_=>none
def By(K:Fg1):List V->Hp->VK->Prop:=λxs H Q=>vX K xs H Q\/vY xs H Q
theorem iT:d2 X (.builtin "len") (By X.K):=HU.or HV
theorem iU:PN K (By K) cF:=by
 intro Hf H xs ds z Q s c hz q;unfold cF at hz
 split at hz
 ·cases hz
  obtain⟨x,rfl,b⟩:=f9 c;obtain⟨a,ys,rfl,d,e⟩:=b.lst s;exact .inl ⟨ys,.inl d,by rw[<-e.length];exact q Hf H _ (.refl s) (cE rfl)⟩
 ·cases hz
  obtain⟨x,rfl,b⟩:=f9 c;obtain⟨a,ys,rfl,d,e⟩:=b.tup;exact .inl ⟨ys,.inr (s.seqT d),by rw[<-e.length];exact q Hf H _ (.refl s) (cE rfl)⟩
 ·split at hz
  ·rename_i f
   cases hz;obtain⟨x,rfl,b⟩:=f9 c
   rw[b.sc.2];exact .inr ⟨f,q Hf H _ (.refl s) (cE rfl)⟩
  ·cases hz
 ·cases hz
noncomputable def wI:List D->Option D
 |[.lst ds]=>some (.lst ds)
 |[.tup ds]=>some (.lst ds)
 |_=>none
theorem JM:PN K (vZ K) wI:=by
 intro Hf H xs ds z Q s f hz q;unfold wI at hz
 split at hz
 ·cases hz
  obtain⟨x,rfl,c⟩:=f9 f;obtain⟨a,ys,rfl,d,e⟩:=c.lst s;refine⟨ys,.inl d,λp b=>?_⟩;have e2:=Ex.new (o:=.lst ys) s b;exact q _ _ _ e2 (hW (bJ.of bi) (e.same e2.ff))
 ·cases hz
  obtain⟨x,rfl,c⟩:=f9 f;obtain⟨a,ys,rfl,d,e⟩:=c.tup;refine⟨ys,.inr (s.seqT d),λp b=>?_⟩;have e2:=Ex.new (o:=.lst ys) s b;exact q _ _ _ e2 (hW (bJ.of bi) (e.same e2.ff))
 ·cases hz
noncomputable def wJ:List D->Option D
 |[.lst ds]=>some (.tup ds)
 |[.tup ds]=>some (.tup ds)
 |_=>none
theorem JN:PN K (λxs H Q=>∃p ys,xs=[.ref p]/\((bJ K H p ys/\∀l,H l=none->Q (.ref l) (aG H l (.tup ys)))\/(dJ K H p ys/\Q (.ref p) H))) wJ:=by
 intro Hf H xs ds z Q s e hz q;unfold wJ at hz
 split at hz
 ·cases hz
  obtain⟨x,rfl,c⟩:=f9 e;obtain⟨a,ys,rfl,b,d⟩:=c.lst s;refine⟨a,ys,rfl,.inl ⟨b,λp f=>?_⟩⟩;have e2:=Ex.new (o:=.tup ys) s f;exact q _ _ _ e2 (oA (gO.of bi) (d.same e2.ff))
 ·cases hz
  obtain⟨x,rfl,c⟩:=f9 e;obtain⟨a,ys,rfl,b,d⟩:=c.tupU;exact⟨a,ys,rfl,.inr ⟨s.seqT b.toT,q Hf H _ (.refl s) (oA b d)⟩⟩
 ·cases hz
noncomputable def eU:D->String
 |.sc .non => "NoneType"
 |.sc (.bl _) => "bool"
 |.sc (.int _) => "int"
 |.sc (.str _) => "str"
 |.sc _ => "?"
 |.tup _ => "tuple"
 |.lst _ => "list"
 |_ => "?"
noncomputable def wK(t n:String):Bool:=t == n || (t == "bool" && n == "int")
def Bz(n:String):Prop:=∀(K:Fg1) (d:D),eU d ≠ "?" -> PySem.W.kitOne K (.type (eU d)) (.type n)=some (wK (eU d) n)
end
section
variable {X:Cx}{B:Bs}{K:Fg1}
variable {a e o:Expr}{es:List Expr}{fa fb:ao->Option D}{fr:ao->Option (List D)}{pos p2 apos cpos:Pos}
def JO(K:Fg1):List V->Hp->VK->Prop:=λxs H Q=>∃x n t b,xs=[x,.ty n]/\(dM K H x t\/(t=.type "list" /\ ∃p ys,x=.ref p/\bJ K H p ys)\/(t=.type "tuple" /\ ∃p ys,x=.ref p/\dJ K H p ys))/\PySem.W.kitOne K t (.type n)=some b/\Q (.bl b) H
theorem JP:d2 X (.builtin "isinstance") (JO X.K):=by
 intro l s r H vs v Q I m h;obtain⟨x,n,t,b,rfl,ty,e,q⟩:=h;obtain⟨u,w,rfl,a,o⟩:=ou m;cases o;rcases ty with ty|⟨rfl,p,ys,rfl,i⟩|⟨rfl,p,ys,rfl,i⟩
 ·exact Gf I a ty e λj=>⟨.bl b,H,I.tok _,rfl,q⟩
 ·cases a
  have⟨c,_,⟨d,y,f,g,_⟩,_⟩:=I.list i;exact PySem.W.kia_one PySem.W.kitx_list I.kIn ⟨d,f,g⟩ e (λz=>nomatch z) λj=>⟨.bl b,H,I.tok _,rfl,q⟩
 ·cases a
  have⟨c,_,⟨d,f,g,_⟩,_⟩:=I.tuple i;exact PySem.W.kia_one PySem.W.kitx_tuple I.kIn ⟨d,f,g⟩ e (λz=>nomatch z) λj=>⟨.bl b,H,I.tok _,rfl,q⟩
theorem JQ:Bz "str":=λK d h=>by
 cases d with
 |sc v=>cases v <;> first|rfl|exact absurd rfl h
 |_=>first|rfl|exact absurd rfl h
def oC(n:String)(d:D):Option D:=if eU d = "?" then none else some (.bl (wK (eU d) n))
theorem JR (r:Bz n) (s:Gl X "isinstance") (hm:X.mg "isinstance" = none) (u:PE X (.Name x p') (tC (.ty n))) (y:PE X a (eB X.K B fa))
  (e:starEach [a,.Name x p'] X.env=(false,eval a X.env)::starEach [.Name x p'] X.env:=by rfl) (j:starEach [.Name x p'] X.env=[(false,eval (.Name x p') X.env)]:=by rfl) (l:(backTo pos (starEach [.Name x p'] X.env)).any (·.1)=false:=by rfl):PE X (.Call (.Name "isinstance" p) [a,.Name x p'] [] pos) (eV X.K B (e1 (oC n) fa)) :=
 (ss JP s hm AT (g9 y (g9 u jt j) e) (by decide) (by decide) e l).imp λA H Q ⟨Hf,ρ,z,I,hz,q⟩=>by
  have⟨d,o,hz⟩:=bind_some hz;unfold oC at hz
  split at hz
  ·cases hz
  ·rename_i h
   cases hz;refine⟨Hf,ρ,d,I,o,λf m v c g=>⟨v,n,.type (eU d),wK (eU d) n,rfl,?_,r _ d h,q f m _ c (cE rfl)⟩⟩
   cases d with
   |sc w =>
    rw[g.sc.2]
    cases w with
    |non=>exact .inl .non
    |bl b=>exact .inl (.bl b)
    |int b=>exact .inl (.int b)
    |str b=>exact .inl (.str b)
    |_=>exact absurd rfl h
   |tup ds=>obtain⟨a,ys,rfl,i,_⟩:=g.tup;exact .inr (.inr ⟨rfl,a,ys,rfl,c.fh.seqT i⟩)
   |lst ds=>obtain⟨a,ys,rfl,i,_⟩:=g.lst c.fh;exact .inr (.inl ⟨rfl,a,ys,rfl,i⟩)
   |_=>exact absurd rfl h
def PM(K:Fg1)(T:String)(r:V->List V->Hp->VK->Prop)(g:D->List D->Option D):Prop:=∀Hf H x xs d ds z (Q:VK),aS Hf H->cK K Hf H d x->p0 K Hf H ds xs->g d ds=some z->(∀Hf' H' v,Ex Hf H Hf' H'->Dn K Hf' z v->Q v H')->r x xs H Q
def eM(T:String)(g:D->List D->Option D)(fo:ao->Option D)(fr:ao->Option (List D)):ao->Option D:=λρ=>(fo ρ).bind λd=>(fr ρ).bind λds=>if eU d=T then g d ds else none
theorem BA (s:aS Hf H) (h:cK K Hf H d x) (e:eU d=T) (f:T ≠ "tuple"):T = "str" \/ T = "int" \/ T = "list" -> sv K T x H:=by
 intro b;subst e
 cases d with
 |sc v =>
  rw[h.sc.2]
  cases v with
  |str z=>rfl
  |int z=>rfl
  |_=>rcases b with z|z|z <;> exact absurd z (by simp[eU])
 |tup ds=>exact absurd rfl f
 |lst ds=>obtain⟨a,ys,rfl,c,_⟩:=h.lst s;exact .inl ⟨rfl,ys,c⟩
 |_=>rcases b with z|z|z <;> exact absurd z (by simp[eU])
theorem JS {T id:String}{name:Str}{r:V->List V->Hp->VK->Prop}{g:D->List D->Option D} (y:PlainAttrs T) (e:Slot T name id) (l:typeOf (.builtin id)=pure (.type "method_descriptor")) (hm:gG X id r) (A:PM X.K T r g) (C:PE X o (eB X.K B fa)) (n:(T = "str" \/ T = "int" \/ T = "list")/\T ≠ "tuple":=by decide)
  (b:attributeBase o name X.env (eval o X.env)=eval o X.env:=by rfl) (c:(apos.endLine == cpos.line)=true:=by rfl):PE X (.Call (.Attribute o name apos) [] [] cpos) (eV X.K B (eM T g fa aN)) :=
 (GZ y e l hm C b c).imp λE H Q ⟨Hf,ρ,z,I,hz,q⟩=>by
  have⟨d,x,hz⟩:=bind_some hz;have⟨ds,j,hz⟩:=bind_some hz;cases j
  split at hz
  ·rename_i w
   exact⟨Hf,ρ,d,I,x,λf p v a m=>⟨BA a.fh m w n.2 n.1,A f p v [] d [] z Q a.fh m .nil hz λh H' s u i=>q h H' s (a.trans u) i⟩⟩
  ·cases hz
theorem mW {T id:String}{name:Str}{r:V->List V->Hp->VK->Prop}{g:D->List D->Option D} (L:PlainAttrs T) (i:Slot T name id) (w:typeOf (.builtin id)=pure (.type "method_descriptor")) (hm:gG X id r) (M:PM X.K T r g) (N:PE X o (eB X.K B fa)) (O:PA X (e::es) (aB X.K B fr)) (A:(T = "str" \/ T = "int" \/ T = "list")/\T ≠ "tuple":=by decide)
  (f:attributeBase o name X.env (eval o X.env)=eval o X.env:=by rfl)
  (j:((backTo cpos (starEach (e::es) X.env)).all (λ x=>!x.1) && (backToKw cpos (keywordEach [] X.env)).all (λ x=>x.1.isSome)
   && decide ((e::es).length+([]:List Keyword).length+(if ([]:List Keyword).isEmpty then 0 else 1)<30))=true:=by rfl)
  (h:(apos.endLine == cpos.line)=true:=by rfl) (hs:starEach (e::es) X.env=(false,eval e X.env)::starEach es X.env:=by rfl) (a:(backTo cpos (starEach es X.env)).any (·.1)=false:=by rfl) :
  PE X (.Call (.Attribute o name apos) (e::es) [] cpos) (eV X.K B (eM T g fa fr)) :=
 (vC L i w hm N O f j h hs a).imp λP H Q ⟨Hf,ρ,z,I,hz,q⟩=>by
  have⟨d,J,hz⟩:=bind_some hz;have⟨ds,u,hz⟩:=bind_some hz
  split at hz
  ·rename_i G
   exact⟨Hf,ρ,d,I,J,λl R v b y=>⟨BA b.fh y G A.2 A.1,l,ρ,ds,I.ext b,u,λm C vs c n=>M m C v vs d ds z Q c.fh (y.ext c) n hz λp H' E F s=>q p H' E ((b.trans c).trans F) s⟩⟩
  ·cases hz
noncomputable def sQ(c:Str->Bool)(f:Str->V):D->List D->Option D:=λd ds=>match d,ds with|.sc (.str z),[]=>if c z=true then some (.sc (f z)) else none|_,_=>none
theorem JT(g:∀z,c z=true->C z)(h:∀z,d9 (f z)=true):PM K "str" (pW C f) (sQ c f):=by
 intro Hf H x xs d ds z Q s b a hz q;unfold sQ at hz
 split at hz
 ·split at hz
  ·rename_i e
   cases hz;cases a
   rw[b.sc.2];exact⟨g _ e,q Hf H _ (.refl s) (cE (h _))⟩
  ·cases hz
 ·cases hz
def sR:=sQ (λz=>!Builtin.Str.tooLong (Txt.lower z).length) λz=>.str (Txt.lower z)
theorem JU:PM K "str" (pW (λz=>Builtin.Str.tooLong (Txt.lower z).length=false) λz=>.str (Txt.lower z)) sR:=JT (λz h=>by simpa using h) λ_=>rfl
noncomputable def qx:D->List D->Option D:=λd ds=>match d,ds with|.sc (.str z),[.sc (.str y)]=>(Builtin.Str.occurrences z y 0 z.length 1).head?.map λi=>.int i|_,_=>none
theorem JV:PM K "str" v7 qx:=by
 intro Hf H x xs d ds z Q s e b hz q;unfold qx at hz
 split at hz
 ·have⟨i,a,hz⟩:=lb.mp hz
  subst hz;obtain⟨g,rfl,f⟩:=f9 b;rw[e.sc.2,f.sc.2]
  cases c:Builtin.Str.occurrences _ _ 0 _ 1 with
  |nil=>rw[c]at a;cases a
  |cons j r =>
   rw[c]at a;have a:j=i:=lc a;subst a;exact⟨j,r,c,q Hf H _ (.refl s) (cE rfl)⟩
 ·cases hz
noncomputable def oE:List D->Option (List Str)
 |[]=>some []
 |.sc (.str z)::r=>(oE r).map (z::·)
 |_=>none
theorem BB:∀{ds:List D}{xs:List V}{bs:List Str},aZ K Hf ds xs->oE ds=some bs->xs=bs.map V.str
 |[],_,bs,.nil,h=>by cases h;rfl
 |.sc (.str b)::r,_,bs,.cons p t,h=>by
  unfold oE at h;have⟨a,c,d⟩:=lb.mp h;subst d;rw[p.str,BB t c];rfl
 |.sc .non::r,_,bs,.cons p t,h=>by cases h
 |.sc (.int _)::r,_,bs,.cons p t,h=>by cases h
 |.sc (.bl _)::r,_,bs,.cons p t,h=>by cases h
 |.sc (.byt _)::r,_,bs,.cons p t,h=>by cases h
 |.sc (.flt _)::r,_,bs,.cons p t,h=>by cases h
 |.sc (.ref _)::r,_,bs,.cons p t,h=>by cases h
 |.sc (.ty _)::r,_,bs,.cons p t,h=>by cases h
 |.tup _::r,_,bs,.cons p t,h=>by cases h
 |.lst _::r,_,bs,.cons p t,h=>by cases h
def qy:D->List D->Option D:=λd ds=>match d,ds with
 |.sc (.str z),[.lst es]=>(oE es).bind λys=>if (ys.map (·.length)).sum+ys.length * z.length<=16777216 then some (.sc (.str (Txt.join z ys))) else none
 |_,_=>none
theorem JW:PM K "str" (v8 K) qy:=by
 intro Hf H x xs d ds z Q s e b hz q;unfold qy at hz
 split at hz
 ·have⟨ys,g,hz⟩:=bind_some hz
  split at hz
  ·rename_i f
   cases hz;obtain⟨j,rfl,h⟩:=f9 b
   obtain⟨a,l,rfl,c,i⟩:=h.lst s;rw[BB i g]at c;rw[e.sc.2];exact⟨ys,c,f,q Hf H _ (.refl s) (cE rfl)⟩
  ·cases hz
 ·cases hz
end
def kC(K:Fg1)(J:It)(c Hf:Hp)(ds:List D):Prop:=∀Hf' H',aS c H'->aS Hf Hf'->aS Hf' H'->∀i:Nat,
 (∀d,ds[i]?=some d->J.go i H'/\∀x b,J.yld i H' x b->∃a,Ex Hf' H' a b/\Dn K a d x)/\(ds.length<=i->J.stop i H')
def iV(K:Fg1)(B:Bs)(f:ao->Option (List D)):TI:=λσ H R=>∃Hf ρ ds,VI K B Hf ρ σ H/\f ρ=some ds/\∀J Hf' H',Ex Hf H Hf' H'->kC K J Hf' Hf' ds->R J H'
def iB(K:Fg1)(B:Bs)(f:ao->Option (List D)):TI:=λσ H R=>∃Hf ρ ds,VI K B Hf ρ σ H/\f ρ=some ds/\∀J Hf' H',Ex Hf H Hf' H'->kC K J H' Hf' ds->R J H'
section
variable {X:Cx}{B:Bs}{K:Fg1}{tg l:Expr}{tl:TE}{fa:ao->Option D}{fr:ao->Option (List D)}{pos:Pos}
theorem kC.weak(h:kC K J HJ Hf ds)(s:aS HJ HJ'):kC K J HJ' Hf ds:=λa H' b c d=>h a H' (s.trans b) c d
theorem JX(h:PI X tg e (iV X.K B fr)):PI X tg e (iB X.K B fr):=h.imp λd H R ⟨Hf,ρ,ds,I,c,q⟩=>⟨Hf,ρ,ds,I,c,λJ a H' b ok=>q J a H' b (ok.weak b.fh)⟩
def JY(K:Fg1)(tl:TE):TI:=λσ H R=>tl σ H λx H1=>(∃a xs,x=.ref a/\bJ K H1 a xs/\R (vr K a) H1)\/(∃a xs,x=.ref a/\dJ K H1 a xs/\R (vt K a) H1)\/∃z,x=.str z/\R (sH z) H1
theorem BC(hl:PE X l tl):PI X tg l (JY X.K tl):=by
 intro f s y H R I h;refine aX (hl f s y H _ I h) λv c ⟨x,g,d,m,w⟩=>?_
 rcases w with⟨a,xs,rfl,n,q⟩|⟨a,xs,rfl,n,q⟩|⟨z,rfl,q⟩
 ·cases m
  have⟨j,A,p,hz⟩:=d.list n;refine wpAny_pyIter_list p.isList ?_;refine⟨c.heap.objs.size,[c.heap.objs.size],_,_,g,rfl,d.kept (t':=c.toks) λb o e=>na _ e,FG a _,⟨_,zb _ rfl,rfl,rfl⟩,λb i=>?_,q⟩;have e:b=c.heap.objs.size:=by simpa using i
  subst e;exact d.fpOk (bb _) d.fresh
 ·cases m
  have⟨j,A,p,hz⟩:=d.tuple n;refine wpAny_pyIter_tuple (show c.heap.IsTuple a j.toArray from p) ?_;refine⟨c.heap.objs.size,[c.heap.objs.size],_,_,g,rfl,d.kept (t':=c.toks) λb o e=>na _ e,FH a _,⟨_,zb _ rfl,rfl,rfl⟩,λb i=>?_,q⟩;have e:b=c.heap.objs.size:=by simpa using i
  subst e;exact d.fpOk (bb _) d.fresh
 ·obtain⟨t,rfl⟩:=m
  have r:∀{h':Heap} {o:Obj},∀b∈[c.heap.objs.size],js X f g b:=λb i=>by
   have e:b=c.heap.objs.size:=by simpa using i
   subst e;exact d.fpOk (bb _) d.fresh
  cases u:z.cps.all (·<128) with
  |true =>
   exact wpAny_pyIter_ascii u ⟨c.heap.objs.size,[c.heap.objs.size],_,_,g,rfl,d.kept (t':=c.toks) λb o e=>na _ e,Ij z t _,⟨_,zb _ rfl,rfl,rfl⟩,r (h':=c.heap) (o:={ cls:=.none,data:=.fields #[] }),q⟩
  |false =>
   exact wpAny_pyIter_wide u ⟨c.heap.objs.size,[c.heap.objs.size],_,_,g,rfl,d.kept (t':=c.toks) λb o e=>na _ e,Ik z t _,⟨_,zb _ rfl,rfl,rfl⟩,r (h':=c.heap) (o:={ cls:=.none,data:=.fields #[] }),q⟩
noncomputable def jD:D->Option (List D)
 |.lst ds=>some ds
 |.tup ds=>some ds
 |.sc (.str z)=>some (z.cps.toList.map λc=>.str [c])
 |_=>none
def iE(fa:ao->Option D):ao->Option (List D):=λρ=>(fa ρ).bind jD
theorem BD(h:bJ K HJ a xs)(p:aZ K Hf ds xs):kC K (vr K a) HJ Hf ds:=λb H' j l m i=>by
 have f:=j.seq h;refine⟨λd n=>?_,λo=>⟨xs,f,by rw[<-p.length];exact o⟩⟩;have⟨x,g,c⟩:=p.zget n;refine⟨⟨xs,x,f,g⟩,λy q ⟨e,r⟩=>?_⟩;subst e
 have:=r xs f
 rw[g]at this;cases this;exact⟨b,.refl m,c.same l⟩
theorem BE(h:dJ K HJ a xs)(p:aZ K Hf ds xs):kC K (vt K a) HJ Hf ds:=λb H' j l m i=>by
 have f:=j.seqT h;refine⟨λd n=>?_,λo=>⟨xs,f,by rw[<-p.length];exact o⟩⟩;have⟨x,g,c⟩:=p.zget n;refine⟨⟨xs,x,f,g⟩,λy q ⟨e,r⟩=>?_⟩;subst e
 have:=r xs f
 rw[g]at this;cases this;exact⟨b,.refl m,c.same l⟩
theorem BF:kC K (sH z) HJ Hf (z.cps.toList.map λc=>.str [c]):=λb H' o p j i=>by
 refine⟨λd g=>?_,λl=>?_⟩
 ·rw[ed]at g
  obtain⟨c,h,rfl⟩:=lb.mp g;have f:i<z.cps.toList.length:=(ya.mp h).1;refine⟨by show i<z.length;simpa [Str.length] using f,λx m ⟨e,q,a,n⟩=>?_⟩;subst e;rw[h]at a
  cases a
  rw[n];exact⟨b,.refl j,cE rfl⟩
 ·show z.length<=i
  simpa [Str.length] using l
theorem gg(h:PE X l (eV X.K B fa)):PI X tg l (iV X.K B (iE fa)):=(BC h).imp λm H R ⟨Hf,ρ,ds,I,hz,q⟩=>by
 have⟨d,j,hz⟩:=bind_some hz;refine⟨Hf,ρ,d,I,j,λc f v b g=>?_⟩;unfold jD at hz
 split at hz
 ·cases hz
  obtain⟨a,xs,rfl,e,i⟩:=g.lst;exact .inl ⟨a,xs,rfl,b.fh.seq e,q _ c f b (BD e i)⟩
 ·cases hz
  obtain⟨a,xs,rfl,e,i⟩:=g.tup;exact .inr (.inl ⟨a,xs,rfl,b.fh.seqT e,q _ c f b (BE e i)⟩)
 ·cases hz
  rw[g.str];exact .inr (.inr ⟨_,rfl,q _ c f b BF⟩)
 ·cases hz
theorem lU(h:PE X l (eB X.K B fa)):PI X tg l (iB X.K B (iE fa)):=(BC h).imp λm H R ⟨Hf,ρ,ds,I,hz,q⟩=>by
 have⟨d,j,hz⟩:=bind_some hz;refine⟨Hf,ρ,d,I,j,λc f v b g=>?_⟩;unfold jD at hz
 split at hz
 ·cases hz
  obtain⟨a,xs,rfl,e,i⟩:=g.lst b.fh;exact .inl ⟨a,xs,rfl,e,q _ c f b (BD e i)⟩
 ·cases hz
  obtain⟨a,xs,rfl,e,i⟩:=g.tup;exact .inr (.inl ⟨a,xs,rfl,b.fh.seqT e,q _ c f b (BE (b.fh.seqT e) i)⟩)
 ·cases hz
  rw[g.sc.2];exact .inr (.inr ⟨_,rfl,q _ c f b BF⟩)
 ·cases hz
noncomputable def gj(lo:Int)(n:Nat):List D:=(List.range n).map λk=>.int (lo+(k:Nat))
theorem BG{h:Int}{n:Nat}{p Hf:Hp}:kC K (pQ h n) p Hf (gj h n):=λb H' q r j i=>by
 refine⟨λd f=>?_,λl=>?_⟩
 ·unfold gj at f
  rw[ed]at f;obtain⟨c,g,rfl⟩:=lb.mp f;have a:i<n:=by have:=(ya.mp g).1;simpa using this
  rw[List.getElem?_range a]at g;cases g;refine⟨a,λx m ⟨e,o⟩=>?_⟩;subst e;rw[o];exact⟨b,.refl j,cE rfl⟩
 ·show n<=i
  simpa [gj] using l
def lx:List D->Option (List D)|[.sc (.int j)]=>if -(2 ^ 62)<=j/\j<2 ^ 62 then some (gj 0 j.toNat) else none|_=>none
def lV:List D->Option (List D)|[.sc (.int i),.sc (.int j)]=>if -(2 ^ 62)<=i/\i<2 ^ 62 /\ -(2 ^ 62)<=j/\j<2 ^ 62 then some (gj i (j - i).toNat) else none|_=>none
def iR(g:List D->Option (List D))(fr:ao->Option (List D)):ao->Option (List D):=λρ=>(fr ρ).bind g
theorem wL (i:Gl X "range") (hm:X.mg "range" = none) (j:PA X [a] (aB X.K B fr)) (hs:starEach [a] X.env=[(false,eval a X.env)]:=by rfl):PI X tg (.Call (.Name "range" p) [a] [] pos) (iV X.K B (iR lx fr)):=(HY i hm j hs).imp λl H R ⟨Hf,ρ,ds,I,hz,q⟩=>by
 have⟨es,g,hz⟩:=bind_some hz;refine⟨Hf,ρ,es,I,g,λb f vs c d=>?_⟩;unfold lx at hz
 split at hz
 ·split at hz
  ·rename_i e
   cases hz;obtain⟨x,rfl,h⟩:=f9 d
   rw[h.sc.2];exact⟨e.1,e.2,q _ b f c BG⟩
  ·cases hz
 ·cases hz
theorem JZ (m:Gl X "range") (hm:X.mg "range" = none) (n:PA X [a,b] (aB X.K B fr)) (hs:starEach [a,b] X.env=[(false,eval a X.env),(false,eval b X.env)]:=by rfl) (g:starEach [b] X.env=[(false,eval b X.env)]:=by rfl):PI X tg (.Call (.Name "range" p) [a,b] [] pos) (iV X.K B (iR lV fr)):=(HZ m hm n hs g).imp λo H R ⟨Hf,ρ,ds,I,hz,q⟩=>by
 have⟨es,i,hz⟩:=bind_some hz;refine⟨Hf,ρ,es,I,i,λd h vs e f=>?_⟩;unfold lV at hz
 split at hz
 ·split at hz
  ·rename_i c
   cases hz;obtain⟨x,y,rfl,j,l⟩:=JL f
   rw[j.sc.2,l.sc.2];exact⟨⟨c.1,c.2.1,c.2.2.1,c.2.2.2⟩,q _ d h e BG⟩
  ·cases hz
 ·cases hz
def gV(K:Fg1)(B:Bs)(sl:List Nat)(g:D->ao->Option ao):TG:=λv σ H Q=>∃Hf ρ d ρ',VI K B Hf ρ σ H/\Dn K Hf d v/\g d ρ=some ρ'/\∀a,VI K B Hf ρ' a H->a.length=σ.length->(∀j:Nat,j ∉ sl->a[j]?=σ[j]?)->Q a H
def sS(K:Fg1)(B:Bs)(sl:List Nat)(g:List D->ao->Option ao):iM:=λvs σ H Q=>∃Hf ρ ds ρ',VI K B Hf ρ σ H/\aZ K Hf ds vs/\g ds ρ=some ρ'/\∀a,VI K B Hf ρ' a H->a.length=σ.length->(∀j:Nat,j ∉ sl->a[j]?=σ[j]?)->Q a H
def gN(i:Nat):D->ao->Option ao:=λd ρ=>some (ρ.set i (some (.sh d)))
theorem b7(f:X.N.Nodup)(g:X.N[i]?=some x)(h:jr X.env.scope x)(l:X.fn x=true\/X.env.scope.names.lookup x=some .local:=by first|exact .inl rfl|exact .inr rfl|assumption):PG X (.Name x pos) (gV X.K B [i] (gN i)):=(Fv f g h l).imp λv m H Q ⟨Hf,ρ,d,ρ',I,a,b,q⟩=>by
 cases b;refine q _ (I.set a) (by simp) λj c=>?_
 rw[ua];intro e;exact c (by simp[e])
def cX:List D->ao->Option ao:=λds ρ=>match ds with|[]=>some ρ|_=>none
def bA(g:D->ao->Option ao)(r:List D->ao->Option ao):List D->ao->Option ao:=λds ρ=>match ds with|d::ds=>(g d ρ).bind λρ1=>r ds ρ1|[]=>none
def gT(n:Nat)(r:List D->ao->Option ao):D->ao->Option ao:=λd ρ=>match d with|.tup ds=>if ds.length=n then r ds ρ else none|_=>none
theorem gC.imp(h:gC X ts t)(g:∀v σ H Q,t' v σ H Q->t v σ H Q):gC X ts t':=λa s σ H v u Q I r q=>h a s σ H v u Q I r (g v σ H Q q)
theorem lW:gC X [] (sS X.K B [] cX):=H9.imp λvs b H Q ⟨Hf,ρ,ds,ρ',I,c,a,q⟩=>by
 unfold cX at a
 split at a
 ·cases a
  cases c;exact q b I rfl λ_ _=>rfl
 ·cases a
theorem dX(s:PG X e (gV X.K B sl g))(u:gC X es (sS X.K B sr r))(hs:(assignEach (e::es) X.env).map (·.2)=assign e X.env::(assignEach es X.env).map (·.2):=by rfl):gC X (e::es) (sS X.K B (sl++sr) (bA g r)):=(Ia s u hs).imp λvs w H Q ⟨Hf,ρ,ds,ρ',I,h,a,q⟩=>by
 unfold bA at a
 split at a
 ·have⟨ρ1,c,d⟩:=bind_some a
  cases h with
  |cons v dr =>
   refine⟨Hf,ρ,_,ρ1,I,v,c,λi l m n=>⟨Hf,ρ1,_,ρ',l,dr,d,λb o p k2=>q b o (p.trans m) λj f=>?_⟩⟩;rw[k2 j λz=>f (qc _ z),n j λz=>f (bf _ z)]
 ·cases a
theorem lX(i:X.calm=true)(h:gC X es (sS X.K B sl r))(hn:(assignEach es X.env).length=n:=by rfl)(c:(assignEach es X.env).findIdx? (·.1)=none:=by rfl):PG X (.Tuple es k pos) (gV X.K B sl (gT n r)):=(Ib i h hn c).imp λv j H Q ⟨Hf,ρ,d,ρ',I,f,b,q⟩=>by
 unfold gT at b
 split at b
 ·split at b
  ·rename_i hl
   obtain⟨a,xs,rfl,g,e⟩:=f.tup;exact⟨xs,I.fh.seqT g,by rw[<-e.length];exact hl,Hf,ρ,_,ρ',I,e,b,q⟩
  ·cases b
 ·cases b
end
def gl(n:Nat)(cap:List Nat)(ρ:ao):ao:=List.replicate n none++cap.map λi=>(ρ[i]?).getD none
def eI(g:D->ao->Option ao)(tt:ao->Option Bool)(te:ao->Option D)(ρ:ao):List D->Option (List D)
 |[]=>some []
 |d::r=>(g d ρ).bind λρ1=>(tt ρ1).bind λb=>if b=true then (te ρ1).bind λy=>(eI g tt te ρ r).map (y::·) else eI g tt te ρ r
def dV(n:Nat)(cap:List Nat)(fi:ao->Option (List D))(g:D->ao->Option ao)(tt:ao->Option Bool)(te:ao->Option D):ao->Option (List D) :=
 λρ=>(fi ρ).bind λds=>if ds.length<=sizeLine then eI g tt te (gl n cap ρ) ds else none
def eW(K:Fg1)(B:Bs)(f:ao->Option (List D)):TE:=λσ H Q=>∃Hf ρ ds,VI K B Hf ρ σ H/\f ρ=some ds/\∀Hf' H' p xs,Ex Hf H Hf' H'->H p=none->Hf' p=none->H' p=some (.lst xs)->aZ K Hf' ds xs->Q (.ref p) H'
def eL(f:ao->Option (List D)):ao->Option D:=λρ=>(f ρ).map .lst
theorem Ex.frz{Hf H c H':Hp}{p:Addr}{o:HO}(e:Ex Hf H c H')(f:H p=none)(d:H' p=some o)(g:c p=none)(i:∀x u,o≠.frz x u:=by intro x u z;cases z):Ex Hf H (aG c p o) H':=by
 refine⟨e.ff.trans (gJ g),e.hh,λb u h=>?_,λb h=>?_,λb x u h=>?_⟩
 ·by_cases a:b=p
  ·subst a;rw[bi]at h;rw[d];exact h
  ·rw[aK a]at h;exact e.fh b u h
 ·by_cases a:b=p
  ·subst a;exact .inr (.inl f)
  ·rw[aK a]at h;exact e.nw b h
 ·by_cases a:b=p
  ·subst a;rw[bi]at h;cases h;exact absurd rfl (i x u)
  ·rw[aK a]at h;exact e.nf b x u h
section
variable {X:Cx}{B:Bs}{K:Fg1}{tg e iter elt:Expr}{ifs:List Expr}{fa:ao->Option D}{fr fi:ao->Option (List D)}{pos:Pos}{g:D->ao->Option ao}{tt:ao->Option Bool}{te:ao->Option D}
theorem BH{t:TE}{a:St}{H:Hp}{Q:VK}(i:∀R,eW K B fr a H R->t a H R)(h:eV K B (eL fr) a H Q):t a H Q:=by
 obtain⟨Hf,ρ,z,I,hz,q⟩:=h;have⟨ds,g,hz⟩:=lb.mp hz;subst hz;refine i Q ⟨Hf,ρ,ds,I,g,λd H' p xs e f c b dx=>?_⟩;have e2:=e.frz f b c;exact q _ H' _ e2 (hW (bJ.of bi) (dx.same (gJ c)))
theorem jW(h:PE X e (eW X.K B fr)):PE X e (eV X.K B (eL fr)):=h.imp λa H Q z=>BH (λR z=>z) z
theorem J0{cap:List Nat}(h:cap.Nodup){i j x:Nat}(e:cap[i]?=some x)(f:cap[j]?=some x):i=j:=by
 have⟨a,c⟩:=ya.mp e;have⟨b,d⟩:=ya.mp f;rcases vn i j with z|z|z
 ·exact absurd (c.trans d.symm) (yf.mp h i j a b z)
 ·exact z
 ·exact absurd (d.trans c.symm) (yf.mp h j i b a z)
theorem sT(h:(gl n cap ρ)[i]?=some (some sl)):∃c,n<=i/\cap[i - n]?=some c/\ρ[c]?=some (some sl):=by
 unfold gl at h;by_cases a:i<n
 ·rw[cf (by simpa using a),cg]at h
  split at h <;> cases h
 ·rw[sf (by simpa using a),zj,ed]at h
  have⟨c,b,h⟩:=lb.mp h;refine⟨c,by omega,b,?_⟩
  cases q:ρ[c]? with
  |none=>rw[q]at h;cases h
  |some z=>rw[q]at h;exact de some h
theorem BI(a:n<=i)(b:cap[i - n]?=some c):(fF n cap σ)[i]?=some ((σ[c]?).getD none):=by
 unfold fF;rw[sf (by simpa using a),zj,ed,b];rfl
theorem VI.comp{Hf H:Hp}{ρ:ao}{r:St}{n:Nat}{cap:List Nat}(I:VI K B Hf ρ r H)(b:cap.Nodup):VI K B Hf (gl n cap ρ) (fF n cap r) H:=by
 have back:∀{i c:Nat} {v:V},n<=i->cap[i - n]?=some c->(fF n cap r)[i]?=some (some v)->r[c]?=some (some v):=λ{i c v} a b e=>by
  rw[BI a b]at e
  cases q:r[c]? with
  |none=>rw[q]at e;cases e
  |some z=>rw[q]at e;exact e
 refine⟨I.ex,by simp[gl,fF],λi sl h=>?_,λi sl p h o q=>?_,λi j s u p f g w x y A=>?_⟩
 ·have⟨c,a,b,h⟩:=sT h
  have⟨v,f,g⟩:=I.ok c sl h;exact⟨v,by rw[BI a b,f];rfl,g⟩
 ·have⟨c,a,b,h⟩:=sT h
  exact I.own c sl p h o (back a b q)
 ·have⟨c,a,l,f⟩:=sT f
  have⟨d,C,m,g⟩:=sT g;have e:=I.dis c d s u p f g w x (back a l y) (back C m A);subst e
  have:=J0 b l m
  omega
theorem wM:∀{ds rs:List D},eI g tt te ρ ds=some rs->rs.length<=ds.length
 |[],rs,h=>by cases h;exact bb _
 |d::r,rs,h=>by
  unfold eI at h;have⟨ρ1,_,h⟩:=bind_some h;have⟨b,_,h⟩:=bind_some h
  split at h
  ·have⟨y,_,h⟩:=bind_some h
   have⟨a,c,e⟩:=lb.mp h;subst e
   have:=wM c
   simp;omega
  ·have:=wM h
   simp;omega
theorem J1(I:VI K B Hf ρ σc H)(hJ:kC K J H Hf ds)(hl:ds.length<=sizeLine)(hr:eI g tt te ρ ds=some rs)(hs:∀j∈sl,σc[j]?=some none)
  (q:∀Hf' H' ys,Ex Hf H Hf' H'->aZ K Hf' rs ys->Q ys H'):sx J (gV K B sl g) (tV K B tt) (eV K B te) σc Q H:=by
 refine⟨λi m ys H'=>m=ds.length - i/\i<=ds.length/\∃Hf' done h,Ex Hf H Hf' H'/\aZ K Hf' done ys/\done.length<=i/\eI g tt te ρ (ds.drop i)=some h/\rs=done++h,⟨ds.length,by simp,be _,Hf,[],rs,.refl I.fh,.nil,bb _,hr,rfl⟩,?_⟩;rintro i m ys H' ⟨rfl,hi,Hf',done,h,w,C,hdl,f,n⟩;have ok:=hJ Hf' H' w.hh w.ff w.fh i;by_cases p:i<ds.length
 ·obtain⟨go,M⟩:=ok.1 ds[i] (by simp[p])
  have hyl:=C.length;refine .inr ⟨go,by omega,λr A=>∃d a c,Ex Hf H d A/\aZ K d a r/\a.length<=i+1/\eI g tt te ρ (ds.drop (i+1))=some c/\rs=a++c,λr A ⟨d,a,c,E,F,R,T,U⟩=>⟨ds.length - (i+1),by omega,rfl,p,d,a,c,E,F,R,T,U⟩,λx A y=>?_⟩;have⟨d,o,dx⟩:=M x A y;rw[jd p]at f;unfold eI at f;have⟨ρ1,hg,f⟩:=bind_some f;have⟨b,hb,f⟩:=bind_some f;have e2:=w.trans o;refine⟨d,ρ,_,ρ1,I.ext e2,dx,hg,λX N G Y=>⟨⟨G,λj v O=>?_⟩,d,ρ1,b,N,hb,λs H3 l=>?_⟩⟩
  ·rw[Y j λz=>?_]
   ·exact O
   ·have:=hs j z
    rw[O]at this;cases this
  ·have P:=e2.trans l
   cases b with
   |true =>
    rw[da rfl]at f;show if true=true then _ else _
    rw[da rfl];have⟨y,hy,f⟩:=bind_some f;have⟨t',E,F⟩:=lb.mp f;subst F;refine⟨s,ρ1,y,N.ext l,hy,λL H4 v u Z=>⟨L,done++[y],t',P.trans u,?_,by simp;omega,E,by rw[n];simp⟩⟩;exact(C.same ((o.trans l).trans u).ff).zsnoc Z
   |false =>
    rw[qa ma]at f;show if false=true then _ else _
    rw[qa ma];exact⟨s,done,h,P,C.same (o.trans l).ff,by omega,f,n⟩
 ·have e:i=ds.length:=by omega
  subst e;refine .inl ⟨ok.2 (bb _),?_⟩;rw[xh]at f;unfold eI at f;cases f;rw[pc]at n;subst n;exact q Hf' H' ys w C
theorem mX:k4 X [] (tV X.K B λ_=>some true):=λa s c H Q I h=>G9 a s c H Q I (by
 obtain⟨Hf,ρ,b,d,e,q⟩:=h;cases e;exact q Hf H (.refl d.fh))
theorem BJ(h:PT X c (tV X.K B tt)):k4 X [c] (tV X.K B tt):=Ha h
variable {scope:Scope}{vars:List Str}{cap:List Nat}{sl:List Nat}
theorem BK(hn:cap.Nodup)(f:sl.all (·<vars.length)=true)(h:eW X.K B (dV vars.length cap fi g tt te) σ H Q) :
  vI (iB X.K B fi) (gV X.K B sl g) (tV X.K B tt) (eV X.K B te) vars.length cap σ H Q:=by
 obtain⟨Hf,ρ,rs,I,hz,q⟩:=h;have⟨ds,m,hz⟩:=bind_some hz
 split at hz
 ·rename_i hl
  refine⟨Hf,ρ,ds,I,m,λJ l r b ok=>J1 ((I.ext b).comp hn) ok hl hz (λj c=>?_) λd s ys a i=>⟨?_,λp e=>?_⟩⟩
  ·have c:=vc.mp f j c
   have c:j<vars.length:=by simpa using c
   unfold fF;rw[cf (by simpa using c),cg,da c]
  ·rw[<-i.length];exact wd (wM hz) hl
  ·have n:=(b.trans a).trans (Ex.made (o:=.lst ys) a.fh e)
   exact q d _ p ys n ((b.trans a).hh.free e) (a.fh.free e) bi i
 ·cases hz
theorem sU (c:X.calm=true) (S:cy X scope) (a:∀i∈cap,i<X.N.length/\scope.names.lookup (X.N.getD i "")≠some .local) (hn:cap.Nodup) (b:sl.all (·<vars.length)=true) (d:PI X tg iter (iB X.K B fi))
  (e:∀s H C ex,PG (cD X scope C vars cap s H ex) tg (gV X.K B sl g)) (f:∀s H C ex,k4 (cD X scope C vars cap s H ex) ifs (tV X.K B tt)) (j:∀s H C ex,PE (cD X scope C vars cap s H ex) elt (eV X.K B te))
  (hs:∀x,foldedSetIterable iter X.env x=pure x:=by intro _;rfl):PE X (.ListComp elt [⟨tg,iter,ifs,0⟩] scope pos) (eW X.K B (dV vars.length cap fi g tt te)) :=
 (Hc c S a d e f j hs).imp λl H Q h=>BK hn b h
variable {es:List Expr}
def gS(f:ao->Option (List D)):ao->Option (List D):=λρ=>(f ρ).bind λds=>if ds.length<=sizeLine then some ds else none
theorem mY(h:PA X es (aV X.K B fr)):PE X (.List es pos) (eW X.K B (gS fr)):=(r4 h).imp λf H Q ⟨Hf,ρ,z,I,hz,q⟩=>by
 have⟨ds,e,hz⟩:=bind_some hz
 split at hz
 ·rename_i hl
  cases hz;refine⟨Hf,ρ,_,I,e,λc g vs b a=>⟨by rw[<-a.length];exact hl,λp d=>?_⟩⟩
  exact q c _ p vs (b.trans (Ex.made (o:=.lst vs) b.fh d)) (b.hh.free d) (b.fh.free d) bi a
 ·cases hz
def wN(g:List D->Option (List D))(fr:ao->Option (List D)):ao->Option (List D):=λρ=>(fr ρ).bind g
end
inductive aT where
 |nx (ρ:ao)|bk (ρ:ao)|ct (ρ:ao)|rt (d:D)|rw (ds:List D)|bad
def gm(K:Fg1)(B:Bs)(a:Hp)(o:aT)(D:eA):Prop:=match o with
 |.nx ρ=>∀Hf σ H,aS a Hf->VI K B Hf ρ σ H->D.nx σ H
 |.bk ρ=>∀Hf σ H,aS a Hf->VI K B Hf ρ σ H->D.bk σ H
 |.ct ρ=>∀Hf σ H,aS a Hf->VI K B Hf ρ σ H->D.ct σ H
 |.rt d=>∀Hf H v,Ex B.f B.h Hf H->Dn K Hf d v->D.rt v H
 |.rw ds=>∀Hf H p xs,Ex B.f B.h Hf H->B.h p=none->Hf p=none->H p=some (.lst xs)->aZ K Hf ds xs->D.rt (.ref p) H
 |.bad=>False
def sV(K:Fg1)(B:Bs)(f:ao->aT):TS:=λD σ H=>∃Hf ρ,VI K B Hf ρ σ H/\gm K B Hf (f ρ) D
theorem gm.mono{K:Fg1}{B:Bs}{b c:Hp}{o:aT}{D:eA}(h:gm K B b o D)(s:aS b c):gm K B c o D:=by
 cases o with
 |nx ρ=>exact λHf a H z=>h Hf a H (s.trans z)
 |bk ρ=>exact λHf a H z=>h Hf a H (s.trans z)
 |ct ρ=>exact λHf a H z=>h Hf a H (s.trans z)
 |rt d=>exact h
 |rw d=>exact h
 |bad=>exact h
def bQ:ao->aT:=λρ=>.nx ρ
def aO(f g:ao->aT):ao->aT:=λρ=>match f ρ with|.nx ρ'=>g ρ'|o=>o
def bK(ft:ao->Option Bool)(f g:ao->aT):ao->aT:=λρ=>match ft ρ with|some true=>f ρ|some false=>g ρ|none=>.bad
def a0(i:Nat)(fe:ao->Option D):ao->aT:=λρ=>match fe ρ with|some d=>.nx (ρ.set i (some (.sh d)))|none=>.bad
def gq(i:Nat)(fe:ao->Option (List D)):ao->aT:=λρ=>match fe ρ with|some d=>.nx (ρ.set i (some (.ow d)))|none=>.bad
def iW(g:D->ao->Option ao)(fe:ao->Option D):ao->aT:=λρ=>match (fe ρ).bind λd=>g d ρ with|some ρ'=>.nx ρ'|none=>.bad
def fU(fe:ao->Option D):ao->aT:=λρ=>match fe ρ with|some _=>.nx ρ|none=>.bad
def bH(fe:ao->Option D):ao->aT:=λρ=>match fe ρ with|some d=>.rt d|none=>.bad
def mZ(fe:ao->Option (List D)):ao->aT:=λρ=>match fe ρ with|some d=>.rw d|none=>.bad
def m3(i:Nat):ao->aT:=λρ=>match ρ[i]? with|some (some (.ow ds))=>.rw ds|_=>.bad
def m5:ao->aT:=λ_=>.rt .non
def dY(i:Nat)(fe:ao->Option D):ao->aT:=λρ=>match ρ[i]? with
 |some (some (.ow ds))=>match fe ρ with|some d=>if ds.length<sizeLine then .nx (ρ.set i (some (.ow (ds++[d])))) else .bad|none=>.bad
 |_=>.bad
def fV(i:Nat)(f:ao->aT):ao->aT:=λρ=>match ρ[i]? with|some (some (.ow ds))=>f (ρ.set i (some (.sh (.lst ds))))|_=>f ρ
def dO(g:D->ao->Option ao)(f:ao->aT):List D->ao->aT
 |[],ρ=>.nx ρ
 |d::r,ρ=>match g d ρ with
  |none=>.bad
  |some ρ1=>match f ρ1 with
   |.nx a=>dO g f r a
   |.ct a=>dO g f r a
   |.bk a=>.nx a
   |o=>o
def d4(fi:ao->Option (List D))(g:D->ao->Option ao)(f:ao->aT):ao->aT:=λρ=>match fi ρ with|some ds=>dO g f ds ρ|none=>.bad
def eJ(ft:ao->Option Bool)(f:ao->aT):Nat->ao->aT
 |0,_=>.bad
 |n+1,ρ=>match ft ρ with
  |some true=>match f ρ with
   |.nx a=>eJ ft f n a
   |.ct a=>eJ ft f n a
   |.bk a=>.nx a
   |o=>o
  |some false=>.nx ρ
  |none=>.bad
def sW(a:ao->Nat)(ft:ao->Option Bool)(f:ao->aT):ao->aT:=λρ=>eJ ft f (a ρ) ρ
section
variable {X:Cx}{B:Bs}{K:Fg1}{st:Stmt}{rest sts:List Stmt}{tg e iter a:Expr}{f g h:ao->aT}{fe fa:ao->Option D}{fr fi:ao->Option (List D)}{ft:ao->Option Bool}{pos:Pos}{gt:D->ao->Option ao}{sl:List Nat}
theorem PS.imp(h:PS X st t)(k:∀D σ H,t' D σ H->t D σ H):PS X st t':=λa s σ H D I q=>h a s σ H D I (k D σ H q)
theorem bT.imp(h:bT X sts t)(k:∀D σ H,t' D σ H->t D σ H):bT X sts t':=λa s σ H D I q=>h a s σ H D I (k D σ H q)
theorem cY:bT X [] (sV X.K B bQ):=n9.imp λD a H ⟨Hf,ρ,I,q⟩=>q Hf a H (aS.refl _) I
theorem aU(h:PS X st (sV X.K B f))(i:bT X rest (sV X.K B g)):bT X (st::rest) (sV X.K B (aO f g)):=(g7 h i).imp λD j H ⟨Hf,ρ,I,q⟩=>by
 refine⟨Hf,ρ,I,?_⟩;unfold aO at q
 cases e:f ρ with
 |nx ρ'=>rw[e]at q;exact λa b H' z c=>⟨a,ρ',c,gm.mono q z⟩
 |bk ρ'=>rw[e]at q;exact q
 |ct ρ'=>rw[e]at q;exact q
 |rt d=>rw[e]at q;exact q
 |rw d=>rw[e]at q;exact q
 |bad=>rw[e]at q;exact q
theorem bx(a:PS X st (sV X.K B f)):bT X [st] (sV X.K B f):=pO a
theorem cR(h:PT X c (tV X.K B ft))(i:bT X as (sV X.K B f))(j:bT X bs (sV X.K B g)):PS X (.If c as bs pos) (sV X.K B (bK ft f g)):=(u9 h i j).imp λD l H ⟨Hf,ρ,I,q⟩=>by
 unfold bK at q
 cases e:ft ρ with
 |none=>rw[e]at q;exact q.elim
 |some b =>
  rw[e]at q;refine⟨Hf,ρ,b,I,e,λd m a=>?_⟩
  cases b with
  |true=>rw[da rfl];exact⟨d,ρ,I.ext a,gm.mono q a.ff⟩
  |false=>rw[qa ma];exact⟨d,ρ,I.ext a,gm.mono q a.ff⟩
theorem bO{i:Nat}{x:Str}{a:Pos}(h:X.N.Nodup)(j:X.N[i]?=some x)(l:jr X.env.scope x)(m:PE X e (eV X.K B fe))(hs:swapsWith e (some (.Name x a)) pos.line X.env=pure false:=by rfl)(n:X.fn x=true\/X.env.scope.names.lookup x=some .local:=by first|exact .inl rfl|exact .inr rfl|assumption):PS X (.Assign [.Name x a] e pos) (sV X.K B (a0 i fe)):=(lL h j l m hs n).imp λD o H ⟨Hf,ρ,I,q⟩=>by
 unfold a0 at q
 cases e:fe ρ with
 |none=>rw[e]at q;exact q.elim
 |some d=>rw[e]at q;exact⟨Hf,ρ,d,I,e,λc f v b g=>q c _ f b.ff ((I.ext b).set g)⟩
theorem VI.setO(I:VI K B Hf ρ σ H)(N:Ex Hf H Hf' H')(w:H p=none)(O:Hf' p=none)(C:H' p=some (.lst xs))(P:aZ K Hf' ds xs):VI K B Hf' (ρ.set i (some (.ow ds))) (σ.set i (some (.ref p))) H':=by
 have g:∀{j:Nat} {sl:Sl},(ρ.set i (some (.ow ds)))[j]?=some (some sl)->(j=i/\sl=.ow ds/\i<ρ.length)\/(j≠i/\ρ[j]?=some (some sl)):=λ{j sl} e=>by
  by_cases a:i=j
  ·subst a
   rw[yk]at e
   cases q:ρ[i]? with
   |none=>rw[q]at e;cases e
   |some z =>
    rw[q]at e;simp at e;exact .inl ⟨rfl,e.symm,(ya.mp q).1⟩
  ·rw[ua a]at e
   exact .inr ⟨λz=>a z.symm,e⟩
 have G:=I.ext N;have A:B.h p=none:=I.ex.hh.free w
 have b:∀{j:Nat} {sl:Sl},ρ[j]?=some (some sl)->dG sl=true->σ[j]?≠some (some (.ref p)):=λ{j sl} e o z=>by
  have⟨v,s,m⟩:=I.ok j sl e;rw[z]at s;cases s
  cases sl with
  |sh d=>cases o
  |ow d=>obtain⟨c,n,e1,_,e2,_⟩:=m;cases e1;rw[w]at e2;cases e2
  |dk ks d=>obtain⟨c,n,e1,_,e2,_⟩:=m;cases e1;rw[w]at e2;cases e2
  |dt ks d=>obtain⟨c,n,e1,_,e2,_⟩:=m;cases e1;rw[w]at e2;cases e2
 refine⟨G.ex,by simp[I.len],λj sl e=>?_,λj sl c e o q=>?_,λj k J L c e1 e2 E F l f=>?_⟩
 ·rcases g e with⟨rfl,rfl,hl⟩|⟨a,e⟩
  ·exact⟨.ref p,by rw[ac (by rw[<-I.len];exact hl)],p,xs,rfl,O,C,P⟩
  ·have⟨u,s,m⟩:=G.ok j sl e
   exact⟨u,by rw[ua (λz=>a z.symm)];exact s,m⟩
 ·rcases g e with⟨rfl,rfl,hl⟩|⟨a,e⟩
  ·rw[ac (by rw[<-I.len];exact hl)]at q
   cases q;exact A
  ·rw[ua (λz=>a z.symm)]at q
   exact I.own j sl c e o q
 ·rcases g e1 with⟨rfl,rfl,hl⟩|⟨a,e1⟩
  ·rcases g e2 with⟨rfl,rfl,r⟩|⟨x,e2⟩
   ·rfl
   ·rw[ac (by rw[<-I.len];exact hl)]at l
    cases l;rw[ua (λz=>x z.symm)]at f
    exact absurd f (b e2 F)
  ·rw[ua (λz=>a z.symm)]at l
   rcases g e2 with⟨y,M,r⟩|⟨x,e2⟩
   ·rw[y,ac (by rw[<-I.len];exact r)]at f
    cases f;exact absurd l (b e1 E)
   ·rw[ua (λz=>x z.symm)]at f
    exact I.dis j k J L c e1 e2 E F l f
theorem m6(l:X.N.Nodup)(m:X.N[i]?=some x)(n:jr X.env.scope x)(o:PE X e (eW X.K B fr))(hs:swapsWith e (some (.Name x pos')) pos.line X.env=pure false:=by rfl)(b:X.fn x=true\/X.env.scope.names.lookup x=some .local:=by first|exact .inl rfl|exact .inr rfl|assumption):PS X (.Assign [.Name x pos'] e pos) (sV X.K B (gq i fr)):=(lL l m n o hs b).imp λD r H ⟨Hf,ρ,I,q⟩=>by
 unfold gq at q
 cases e:fr ρ with
 |none=>rw[e]at q;exact q.elim
 |some d=>rw[e]at q;exact⟨Hf,ρ,d,I,e,λa g p xs f h b c j=>q a _ g f.ff (I.setO f h b c j)⟩
theorem sX{f:Expr}{h:List Expr}{a:Scope}{vars:List Str}{cap:List Nat}{g:D->ao->Option ao}{n:ao->Option Bool}{te:ao->Option D}{i:Nat}{x:Str}{b c:Pos}(A:X.N.Nodup)(o:X.N[i]?=some x)(E:X.env.scope.names.lookup x=some .local)
  (F:X.calm=true) (S:cy X a) (l:∀i∈cap,i<X.N.length/\a.names.lookup (X.N.getD i "")≠some .local) (hn:cap.Nodup) (p:sl.all (·<vars.length)=true) (G:PI X tg iter (iB X.K B fi))
  (J:∀s H C ex,PG (cD X a C vars cap s H ex) tg (gV X.K B sl g)) (L:∀s H C ex,k4 (cD X a C vars cap s H ex) h (tV X.K B n)) (M:∀s H C ex,PE (cD X a C vars cap s H ex) f (eV X.K B te))
  (r:swapsWith (.ListComp f [⟨tg,iter,h,0⟩] a pos) (some (.Name x b)) c.line X.env=pure true:=by rfl)
  (hs:∀x,foldedSetIterable iter X.env x=pure x:=by intro _;rfl):PS X (.Assign [.Name x b] (.ListComp f [⟨tg,iter,h,0⟩] a pos) c) (sV X.K B (a0 i (eL (dV vars.length cap fi g n te)))) :=
 (Hd A o E F S l G J L M r hs).imp λD u H ⟨Hf,ρ,I,q⟩=>by
  unfold a0 at q
  cases e:eL (dV vars.length cap fi g n te) ρ with
  |none=>rw[e]at q;exact q.elim
  |some d =>
   rw[e]at q;exact BH (λR z=>BK hn p z) (show eV X.K B _ u H _ from⟨Hf,ρ,d,I,e,λm w v j y=>q m _ w j.ff ((I.ext j).set y)⟩)
theorem J2(i:PE X e (eV X.K B fe))(j:PG X tg (gV X.K B sl gt))(hs:swapsWithSole [tg] e pos.line X.env=pure false:=by rfl)(l:swappedStores [tg] e X.env=pure none:=by rfl)(m:(assignEach [tg] X.env).map (·.2)=[assign tg X.env]:=by rfl):PS X (.Assign [tg] e pos) (sV X.K B (iW gt fe)):=(zY i j hs l m).imp λD n H ⟨Hf,ρ,I,q⟩=>by
 unfold iW at q
 cases e:fe ρ with
 |none=>rw[e]at q;exact q.elim
 |some d =>
  rw[e]at q
  cases e2:gt d ρ with
  |none=>simp only[xa,e2]at q;exact q.elim
  |some ρ' =>
   simp only[xa,e2]at q;exact⟨Hf,ρ,d,I,e,λa f v b g=>⟨a,ρ,d,ρ',I.ext b,g,e2,λc h _ _=>q a c f b.ff h⟩⟩
theorem wO(f:PE X e (eV X.K B fe))(hs:swapsWith e none pos.line X.env=pure false:=by rfl):PS X (.Expr e pos) (sV X.K B (fU fe)):=(oq f hs).imp λD g H ⟨Hf,ρ,I,q⟩=>by
 unfold fU at q
 cases e:fe ρ with
 |none=>rw[e]at q;exact q.elim
 |some d=>rw[e]at q;exact⟨Hf,ρ,d,I,e,λb c v a h=>q b _ c a.ff (I.ext a)⟩
theorem cu(g:PE X e (eV X.K B fe)):PS X (.Return (some e) pos) (sV X.K B (bH fe)):=(rV g).imp λD h H ⟨Hf,ρ,I,q⟩=>by
 unfold bH at q
 cases e:fe ρ with
 |none=>rw[e]at q;exact q.elim
 |some d=>rw[e]at q;exact⟨Hf,ρ,d,I,e,λa c v b f=>q a c v (I.ex.trans b) f⟩
theorem VI.mut(I:VI K B Hf ρ σ H)(f:ρ[i]?=some (some (.ow ds)))(r:σ[i]?=some (some (.ref p)))(R:aZ K Hf ds' xs'):VI K B Hf (ρ.set i (some (.ow ds'))) σ (aG H p (.lst xs')):=by
 have⟨v,l,a,xs,e1,L,T,_⟩:=I.ok i _ f;rw[r]at l;cases l;cases e1;have M:=I.own i _ p f rfl r;have A:i<ρ.length:=(ya.mp f).1
 have g:∀{j:Nat} {sl:Sl},(ρ.set i (some (.ow ds')))[j]?=some (some sl)->(j=i/\sl=.ow ds')\/(j≠i/\ρ[j]?=some (some sl)):=λ{j sl} e=>by
  by_cases c:i=j
  ·subst c
   rw[ac A]at e;cases e;exact .inl ⟨rfl,rfl⟩
  ·rw[ua c]at e
   exact .inr ⟨λz=>c z.symm,e⟩
 have fs:aS Hf (aG H p (.lst xs')):=λb o h=>by
  rw[aK (cC h L)];exact I.fh b o h
 refine⟨⟨I.ex.ff,λb o h=>?_,fs,I.ex.nw,I.ex.nf⟩,by simp[I.len],λj sl e=>?_,λj sl a e o q=>?_,λj k E F a e1 e2 G J x s=>?_⟩
 ·rw[aK (cC h M)];exact I.ex.hh b o h
 ·rcases g e with⟨rfl,rfl⟩|⟨c,e⟩
  ·exact⟨.ref p,r,p,xs',rfl,L,bi,R⟩
  ·have⟨u,l,w⟩:=I.ok j sl e
   refine⟨u,l,?_⟩
   have C:∀{a:Addr},dG sl=true->u=.ref a->a≠p:=λ{a} o N O=>by
    subst N O;exact c (I.dis j i sl _ _ e f o rfl l r)
   cases sl with
   |sh d=>exact w
   |ow d=>obtain⟨a,xs,e1,e2,m,n⟩:=w;exact⟨a,xs,e1,e2,by rw[aK (C rfl e1)];exact m,n⟩
   |dk ks d=>obtain⟨a,xs,e1,e2,m,n⟩:=w;exact⟨a,xs,e1,e2,by rw[aK (C rfl e1)];exact m,n⟩
   |dt ks d=>obtain⟨a,xs,e1,e2,m,n⟩:=w;exact⟨a,xs,e1,e2,by rw[aK (C rfl e1)];exact m,n⟩
 ·rcases g e with⟨rfl,rfl⟩|⟨c,e⟩
  ·rw[r]at q;cases q;exact M
  ·exact I.own j sl a e o q
 ·rcases g e1 with⟨rfl,rfl⟩|⟨c,e1⟩
  ·rcases g e2 with⟨rfl,rfl⟩|⟨P,e2⟩
   ·rfl
   ·exact I.dis _ k _ F a f e2 rfl J x s
  ·rcases g e2 with⟨y,Q⟩|⟨P,e2⟩
   ·rw[y]at s ⊢
    exact I.dis j _ E _ a e1 f G rfl x s
   ·exact I.dis j k E F a e1 e2 G J x s
theorem m7 (z:X.N[i]?=some x) (A:PE X a (eV X.K B fa)) (C:gB X.env.scope x:=by first|exact cb rfl|exact mf (cb rfl)|exact mf (mf rfl)) (l:(x == ("__debug__" : Str))=false:=by decide) (m:(x == ("__classdict__" : Str))=false:=by decide)
  (f:attributeBase (.Name x p1) "append" X.env (eval (.Name x p1) X.env)=eval (.Name x p1) X.env:=by rfl)
  (h:((backTo p3 (starEach [a] X.env)).all (λx=>!x.1) && (backToKw p3 (keywordEach [] X.env)).all (λx=>x.1.isSome) && decide ([a].length+([]:List Keyword).length+(if ([]:List Keyword).isEmpty then 0 else 1)<30))=true:=by rfl)
  (g:(p2.endLine == p3.line)=true:=by rfl) (hs:starEach [a] X.env=(false,eval a X.env)::starEach [] X.env:=by rfl) (c:(backTo p3 (starEach [] X.env)).any (·.1)=false:=by rfl) (n:swapsWith (.Call (.Attribute (.Name x p1) "append" p2) [a] [] p3) none pos.line X.env=pure false:=by rfl) :
  PS X (.Expr (.Call (.Attribute (.Name x p1) "append" p2) [a] [] p3) pos) (sV X.K B (dY i fa)) :=
 (oq (vC PySem.F.plainAttrs_list PySem.F.slot_list_append PySem.F.type_list_append AO (fN z C l m) (g9 A jt hs) f h g hs c) n).imp λD u H ⟨Hf,ρ,I,q⟩=>by
  unfold dY at q
  split at q
  ·rename_i ds e
   obtain⟨v,o,p,xs,rfl,G,r,s⟩:=I.ok i _ e;refine⟨_,o,.inl ⟨rfl,xs,bJ.of r⟩,?_⟩
   split at q
   ·rename_i d l
    split at q
    ·rename_i y
     refine⟨Hf,ρ,d,I,l,λj E v b w=>?_⟩;refine⟨xs,b.hh _ _ r,by rw[<-s.length];exact y,q j u _ b.ff ?_⟩;exact(I.ext b).mut e o ((s.same b.ff).zsnoc w)
    ·exact q.elim
   ·exact q.elim
  ·exact q.elim
theorem VI.frz{Hf H:Hp}{ρ:ao}{y:St}{i:Nat}{ds:List D}(I:VI K B Hf ρ y H)(g:ρ[i]?=some (some (.ow ds))):∃Hf',aS Hf Hf'/\VI K B Hf' (ρ.set i (some (.sh (.lst ds)))) y H:=by
 obtain⟨v,m,p,xs,rfl,c,J,L⟩:=I.ok i _ g;have M:=I.own i _ p g rfl m;have N:=I.ex.frz M J c;refine⟨aG Hf p (.lst xs),gJ c,N,by simp[I.len],λj sl e=>?_,λj sl a e o q=>?_,λj k z A a e1 e2 r s C E=>?_⟩
 ·by_cases b:i=j
  ·subst b
   rw[ac (ya.mp g).1]at e;cases e;exact⟨_,m,hW (bJ.of bi) (L.same (gJ c))⟩
  ·rw[ua b]at e
   have⟨u,w,l⟩:=I.ok j sl e;refine⟨u,w,?_⟩
   have n:∀{a:Addr},dG sl=true->u=.ref a->a≠p:=λ{a} o F G=>by
    subst F G;exact b (I.dis i j _ sl _ g e rfl o m w)
   cases sl with
   |sh d=>exact Dn.same l (gJ c)
   |ow d=>obtain⟨a,xs,e1,e2,h,f⟩:=l;exact⟨a,xs,e1,by rw[aK (n rfl e1)];exact e2,h,aZ.same f (gJ c)⟩
   |dk ks d=>obtain⟨a,xs,e1,e2,h,f⟩:=l;exact⟨a,xs,e1,by rw[aK (n rfl e1)];exact e2,h,f.1,aZ.same f.2 (gJ c)⟩
   |dt ks d=>obtain⟨a,xs,e1,e2,h,f⟩:=l;exact⟨a,xs,e1,by rw[aK (n rfl e1)];exact e2,h,f.1,aZ.same f.2 (gJ c)⟩
 ·by_cases b:i=j
  ·subst b
   rw[ac (ya.mp g).1]at e;cases e;cases o
  ·rw[ua b]at e
   exact I.own j sl a e o q
 ·by_cases b:i=j
  ·subst b
   rw[ac (ya.mp g).1]at e1;cases e1;cases r
  ·by_cases x:i=k
   ·subst x
    rw[ac (ya.mp g).1]at e2;cases e2;cases s
   ·rw[ua b]at e1
    rw[ua x]at e2;exact I.dis j k z A a e1 e2 r s C E
theorem oF(i:Nat)(h:bT X sts (sV X.K B f)):bT X sts (sV X.K B (fV i f)):=h.imp λD c H ⟨Hf,ρ,I,q⟩=>by
 unfold fV at q
 split at q
 ·rename_i ds e
  have⟨a,z,b⟩:=I.frz e;exact⟨a,_,b,gm.mono q z⟩
 ·exact⟨Hf,ρ,I,q⟩
theorem jE(U:PassesOwn (model X.prog X.w) X.A X.env X.xe)(Y:X.calm=true)(P:PI X tg iter (iV X.K B fi))(E:PG X tg (gV X.K B sl gt))(Z:bT X body (sV X.K B f))(hs:∀x,foldedSetIterable iter X.env x=pure x:=by intro _;rfl):PS X (.For tg iter body [] pos) (sV X.K B (d4 fi gt f)):=(vu U Y P E Z hs).imp λD N H ⟨Hf,ρ,I,q⟩=>by
 unfold d4 at q
 cases e:fi ρ with
 |none=>rw[e]at q;exact q.elim
 |some ds =>
  rw[e]at q;refine⟨Hf,ρ,ds,I,e,λJ b H1 v ok=>?_⟩;refine⟨λi m N H=>m=ds.length - i/\i<=ds.length/\∃j l,VI X.K B j l N H/\aS b j/\gm X.K B b (dO gt f (ds.drop i) l) D,⟨ds.length,by simp,be _,b,ρ,I.ext v,aS.refl _,gm.mono q v.ff⟩,?_⟩;rintro i m L O ⟨rfl,P,j,l,G,a,q⟩;have C:=ok j O (a.trans G.fh) a G.fh i;by_cases s:i<ds.length
  ·obtain⟨T,M⟩:=C.1 ds[i] (by simp[s])
   refine .inr ⟨T,λp H'=>∃n F,VI X.K B n F p H'/\aS b n/\gm X.K B b (dO gt f (ds.drop (i+1)) F) D,λp H' z=>⟨ds.length - (i+1),by omega,rfl,s,z⟩,λx Q y=>?_⟩;have⟨n,o,dx⟩:=M x Q y;rw[jd s]at q;unfold dO at q
   cases E:gt ds[i] l with
   |none=>rw[E]at q;exact q.elim
   |some ρ1 =>
    simp only[E]at q;refine⟨n,l,_,ρ1,G.ext o,dx,E,λp R _ _=>⟨n,ρ1,R,?_⟩⟩
    cases u:f ρ1 with
    |nx ρ'=>simp only[u]at q;exact λc g r z h=>⟨c,ρ',h,(a.trans o.ff).trans z,q⟩
    |ct ρ'=>simp only[u]at q;exact λc g r z h=>⟨c,ρ',h,(a.trans o.ff).trans z,q⟩
    |bk ρ'=>simp only[u]at q;exact λc g r z h=>q c g r ((a.trans o.ff).trans z) h
    |rt d=>simp only[u]at q;exact q
    |rw d=>simp only[u]at q;exact q
    |bad=>simp only[u]at q;exact q.elim
  ·have e:i=ds.length:=by omega
   subst e;rw[xh]at q;exact .inl ⟨C.2 (bb _),q j L O a G⟩
theorem BL(G:ao->Nat){c:Expr}{n:List Stmt}(J:PassesOwn (model X.prog X.w) X.A X.env X.xe)(L:PT X c (tV X.K B ft))(M:bT X n (sV X.K B f)):PS X (.While c n [] pos) (sV X.K B (sW G ft f)):=(FF J L M).imp λD E H ⟨Hf,ρ,I,q⟩=>by
 unfold sW at q;refine⟨λm E H=>∃l a,VI X.K B l a E H/\aS Hf l/\gm X.K B Hf (eJ ft f m a) D,⟨_,Hf,ρ,I,aS.refl _,q⟩,?_⟩;rintro m y N ⟨l,a,C,x,q⟩
 cases m with
 |zero=>exact q.elim
 |succ m =>
  unfold eJ at q
  cases e:ft a with
  |none=>rw[e]at q;exact q.elim
  |some b =>
   rw[e]at q;refine⟨l,a,b,C,e,λr F g=>?_⟩
   cases b with
   |false=>rw[qa ma];exact q r y F (x.trans g.ff) (C.ext g)
   |true =>
    rw[da rfl];refine⟨λs H'=>∃u v,VI X.K B u v s H'/\aS Hf u/\gm X.K B Hf (eJ ft f m v) D,λs H' z=>⟨m,xo _,z⟩,r,a,C.ext g,?_⟩
    cases p:f a with
    |nx ρ'=>simp only[p]at q;exact λh i o z j=>⟨h,ρ',j,(x.trans g.ff).trans z,q⟩
    |ct ρ'=>simp only[p]at q;exact λh i o z j=>⟨h,ρ',j,(x.trans g.ff).trans z,q⟩
    |bk ρ'=>simp only[p]at q;exact λh i o z j=>q h i o ((x.trans g.ff).trans z) j
    |rt d=>simp only[p]at q;exact q
    |rw d=>simp only[p]at q;exact q
    |bad=>simp only[p]at q;exact q.elim
end
def dP(n:Nat)(ds:List D):ao:=ds.map (λd=>some (.sh d))++List.replicate (n - ds.length) none
def bX(np n:Nat)(f:ao->aT)(ds:List D):Option D:=if ds.length=np then (match f (dP n ds) with|.rt d=>some d|.rw es=>some (.lst es)|.nx _=>some .non|_=>none) else none
def h9(np n:Nat)(f:ao->aT)(ds:List D):Option (List D):=if ds.length=np then (match f (dP n ds) with|.rw es=>some es|_=>none) else none
def aY(K:Fg1)(np:Nat)(F:List D->Option D):Sp:=λvs H Q _=>∃Hf ds d,aS Hf H/\aZ K Hf ds vs/\ds.length=np/\F ds=some d/\∀Hf' H' v,Ex Hf H Hf' H'->Dn K Hf' d v->Q v H'
def kD(K:Fg1)(np:Nat)(F:List D->Option (List D)):Sp:=λvs H Q _=>∃Hf ds rs,aS Hf H/\aZ K Hf ds vs/\ds.length=np/\F ds=some rs/\∀Hf' H' p xs,Ex Hf H Hf' H'->H p=none->Hf' p=none->H' p=some (.lst xs)->aZ K Hf' rs xs->Q (.ref p) H'
theorem VI.init{K:Fg1}{Hf H:Hp}{N:List Str}{vs:List V}{ds:List D}(s:aS Hf H)(h:aZ K Hf ds vs):VI K ⟨Hf,H⟩ Hf (dP N.length ds) (ju N vs) H:=by
 have hl:=h.length
 have a:∀{i:Nat} {sl:Sl},(dP N.length ds)[i]?=some (some sl)->∃d,ds[i]?=some d/\sl=.sh d:=λ{i sl} e=>by
  unfold dP at e;by_cases f:i<ds.length
  ·rw[cf (by simpa using f),ed]at e
   have⟨d,b,c⟩:=lb.mp e;exact⟨d,b,(lc c).symm⟩
  ·rw[sf (by simpa using f),cg]at e
   split at e <;> cases e
 refine⟨.refl s,by simp[dP,ju,hl],λi sl e=>?_,λi sl p e o=>?_,λi j m n p e1 e2 g=>?_⟩
 ·obtain⟨d,b,rfl⟩:=a e
  have⟨v,c,l⟩:=h.zget b;refine⟨v,?_,l⟩;have f:i<vs.length:=(ya.mp c).1;unfold ju;rw[cf (by simpa using f),ed,c];rfl
 ·obtain⟨d,b,rfl⟩:=a e
  cases o
 ·obtain⟨d,b,rfl⟩:=a e1
  cases g
section
variable {P:Program}{w:World}{K:Fg1}{mg:Str->Option Value}{base:Heap}
theorem J3{x c:Str}{st:Stmt}{f:Addr}{u:FuncData}{N ps:List Str}{k:Nat}{fs:ao->aT}(F:ec K x c st f u)(S:ay N ps (bt st))
  (j:∀(g:Value) (A:Around) (a:List Env) (s:Shared) (H:Hp) (E:XK) (B:Bs),aM k (A.deeper (envOfC c (bt st) s.heap.objs.size f g))->bT (cP aQ P w K mg base N c (bt st) f g A a s H E).nox (e6 st) (sV K B fs)):ax P w K mg base aQ (k+1) f u ps (aY K ps.length (bX ps.length N.length fs)):=by
 refine F.ok S (λvs H Q E h=>?_) (λg A a s H vs Q E y h=>?_)
 ·obtain⟨Hf,ds,d,_,n,o,_⟩:=h
  rw[<-o,n.length]
 ·obtain⟨Hf,ds,d,hs,n,o,b,q⟩:=h
  refine⟨_,j g A a s H E ⟨Hf,H⟩ y,Hf,dP N.length ds,VI.init hs n,?_⟩;unfold bX at b;rw[da o]at b
  cases e:fs (dP N.length ds) with
  |rt d'=>rw[e]at b;cases b;exact λi H' v l z=>q i H' v l z
  |rw es =>
   rw[e]at b;cases b;exact λi H' p xs l C r m G=>q _ H' _ (l.frz C m r) (hW (bJ.of bi) (G.same (gJ r)))
  |nx ρ'=>rw[e]at b;cases b;exact λi I H' _ J=>q i H' .non J.ex (cE rfl)
  |bk ρ'=>rw[e]at b;cases b
  |ct ρ'=>rw[e]at b;cases b
  |bad=>rw[e]at b;cases b
theorem J4{x c:Str}{st:Stmt}{f:Addr}{o:FuncData}{N ps:List Str}{k:Nat}{fs:ao->aT}(F:ec K x c st f o)(S:ay N ps (bt st))
  (i:∀(g:Value) (A:Around) (a:List Env) (s:Shared) (H:Hp) (E:XK) (B:Bs),aM k (A.deeper (envOfC c (bt st) s.heap.objs.size f g))->bT (cP aQ P w K mg base N c (bt st) f g A a s H E).nox (e6 st) (sV K B fs)):ax P w K mg base aQ (k+1) f o ps (kD K ps.length (h9 ps.length N.length fs)):=by
 refine F.ok S (λvs H Q E h=>?_) (λg A a s H vs Q E r h=>?_)
 ·obtain⟨Hf,ds,d,_,m,n,_⟩:=h
  rw[<-n,m.length]
 ·obtain⟨Hf,ds,d,hs,m,n,b,q⟩:=h
  refine⟨_,i g A a s H E ⟨Hf,H⟩ r,Hf,dP N.length ds,VI.init hs m,?_⟩;unfold h9 at b;rw[da n]at b
  cases e:fs (dP N.length ds) with
  |rw es=>rw[e]at b;cases b;exact λj H' p xs u v y l z=>q j H' p xs u v y l z
  |rt d'=>rw[e]at b;cases b
  |nx ρ'=>rw[e]at b;cases b
  |bk ρ'=>rw[e]at b;cases b
  |ct ρ'=>rw[e]at b;cases b
  |bad=>rw[e]at b;cases b
end
section
variable {X:Cx}{B:Bs}{k:Nat}{f:Addr}{fd:FuncData}{ps:List Str}{x:Str}{p pos:Pos}{e:Expr}{es:List Expr}{fr:ao->Option (List D)}{np:Nat}
def bv(np:Nat)(F:List D->Option D)(fr:ao->Option (List D)):ao->Option D:=λρ=>(fr ρ).bind λds=>if ds.length=np then F ds else none
def gu(np:Nat)(F:List D->Option (List D))(fr:ao->Option (List D)):ao->Option (List D):=λρ=>(fr ρ).bind λds=>if ds.length=np then F ds else none
theorem cw(G:ax X.prog X.w X.K X.mg X.base aQ k f fd ps (aY X.K np F))(n:aM k X.A)(o:Gl X x)(hm:X.mg x=some (.ref f))(r:PySem.W.keepIn X.K (.ref f)=true)(s:c9 X.K fd ps [])
  (u:PA X (e::es) (aV X.K B fr)) (g:(x == ("__debug__" : Str))=false:=by decide) (y:starEach (e::es) X.env=(false,eval e X.env)::starEach es X.env:=by rfl) (h:(backTo pos (starEach es X.env)).any (·.1)=false:=by rfl):PE X (.Call (.Name x p) (e::es) [] pos) (eV X.K B (bv np F fr)) :=
 (vy G n o hm r s .nil Aw u g y h).imp λC H Q ⟨Hf,ρ,z,I,hz,q⟩=>by
  have⟨ds,m,hz⟩:=bind_some hz
  split at hz
  ·rename_i hn
   refine⟨Hf,ρ,ds,I,m,λb i vs a c=>?_⟩;show aY X.K np F (vs++[]) i Q E0;rw[pc];exact⟨b,ds,z,a.fh,c,hn,hz,λd H' v j l=>q d H' v (a.trans j) l⟩
  ·cases hz
theorem sY(G:ax X.prog X.w X.K X.mg X.base aQ k f fd ps (kD X.K np F))(s:aM k X.A)(u:Gl X x)(hm:X.mg x=some (.ref f))(v:PySem.W.keepIn X.K (.ref f)=true)(y:c9 X.K fd ps [])
  (C:PA X (e::es) (aV X.K B fr)) (h:(x == ("__debug__" : Str))=false:=by decide) (E:starEach (e::es) X.env=(false,eval e X.env)::starEach es X.env:=by rfl) (i:(backTo pos (starEach es X.env)).any (·.1)=false:=by rfl):PE X (.Call (.Name x p) (e::es) [] pos) (eW X.K B (gu np F fr)) :=
 (vy G s u hm v y .nil Aw C h E i).imp λJ H Q ⟨Hf,ρ,z,I,hz,q⟩=>by
  have⟨ds,r,hz⟩:=bind_some hz
  split at hz
  ·rename_i hn
   refine⟨Hf,ρ,ds,I,r,λb j vs a c=>?_⟩;show kD X.K np F (vs++[]) j Q E0;rw[pc];exact⟨b,ds,z,a.fh,c,hn,hz,λd H' p xs l m n g o=>q d H' p xs (a.trans l) (a.hh.free m) n g o⟩
  ·cases hz
def m8(np:Nat)(F:List D->Option D)(fr:ao->Option (List D)):ao->Option D:=λρ=>(fr ρ).bind λds=>if ds.length=np then (F ds).bind λd=>match d with|.sc v=>some (.sc v)|_=>none else none
end
noncomputable def LF:List Nat:=[97,98,99,100,101,102,103,104,105,106,107,108,109,110,111,112,113,114,115,116,117,118,119,120,121,122,65,66,67,68,69,70,71,72,73,74,75,76,77,78,79,80,81,82,83,84,85,86,87,88,89,90,48,49,50,51,52,53,54,55,56,57]
noncomputable def SG:List Nat:=[97,98,99,100,101,102,103,104,105,106,107,108,109,110,111,112,113,114,115,116,117,118,119,120,121,122,65,66,67,68,69,70,71,72,73,74,75,76,77,78,79,80,81,82,83,84,85,86,87,88,89,90,48,49,50,51,52,53,54,55,56,57,45]
theorem cZ{P:Program}{w:World}{K:Fg1}{g:Str->Option Value}{base:Heap}{x a:Str}{st:Stmt}{f:Addr}{h:FuncData}{N ps:List Str}{k e nN:Nat}{fs:ao->aT}{i:List D->Option D}(j:i=bX e nN fs)(l:ps.length=e)(m:N.length=nN)(F:ec K x a st f h)(S:ay N ps (bt st))
  (b:∀(d:Value) (A:Around) (c:List Env) (s:Shared) (H:Hp) (E:XK) (B:Bs),aM k (A.deeper (envOfC a (bt st) s.heap.objs.size f d))->bT (cP aQ P w K g base N a (bt st) f d A c s H E).nox (e6 st) (sV K B fs)):ax P w K g base aQ (k+1) f h ps (aY K e i):=by
 subst j l m;exact J3 F S b
theorem BM{P:Program}{w:World}{K:Fg1}{g:Str->Option Value}{base:Heap}{x a:Str}{st:Stmt}{f:Addr}{h:FuncData}{N ps:List Str}{k e nN:Nat}{fs:ao->aT}{i:List D->Option (List D)}(j:i=h9 e nN fs)(l:ps.length=e)(m:N.length=nN)(F:ec K x a st f h)(S:ay N ps (bt st))
  (b:∀(d:Value) (A:Around) (c:List Env) (s:Shared) (H:Hp) (E:XK) (B:Bs),aM k (A.deeper (envOfC a (bt st) s.heap.objs.size f d))->bT (cP aQ P w K g base N a (bt st) f d A c s H E).nox (e6 st) (sV K B fs)):ax P w K g base aQ (k+1) f h ps (kD K e i):=by
 subst j l m;exact J4 F S b
section
variable {X:Cx}{B:Bs}{K:Fg1}{a b c:Expr}{fa fb fc:ao->Option D}{pos:Pos}
theorem J5 (h:x=S l) (a:Gl X n) (hm:X.mg n=some (.str x tk)) (b:(n == ("__debug__" : Str))=false:=by decide):PE X (.Name n pos) (eV X.K B (eC (.str l))):=by
 subst h;exact p7 rfl (rT (v:=.str (S l)) a hm ⟨tk,rfl⟩ b)
theorem wP:∀ns:List Int,aZ K H (ns.map D.int) (ns.map V.int)
 |[]=>.nil
 |n::r=>.cons (cE rfl) (wP r)
noncomputable def lY:D->Bool|.sc .non=>true|_=>false
def wQ(d e:D):Option D:=match e with|.sc .non=>some (.bl (lY d))|_=>none
theorem J6:bC X (compareOp .Is) (λx y H Q=>y=.non/\Q (.bl (decide (x=.non))) H):=F5
theorem Ka(s:aS Hf H)(h:cK K Hf H d x):decide (x=V.non)=lY d:=by
 cases d with
 |sc v=>rw[h.sc.2];cases v <;> simp[lY]
 |tup ds=>obtain⟨a,xs,rfl,_⟩:=h.tup;simp[lY]
 |lst ds=>obtain⟨a,xs,rfl,_⟩:=h.lst s;simp[lY]
 |dk ks ds=>obtain⟨a,xs,rfl,_⟩:=h.dk s;simp[lY]
 |dt ks ds=>obtain⟨a,xs,rfl,_⟩:=h.dt s;simp[lY]
 |er n ks ds =>
  rcases h with⟨k,h⟩|h
  ·cases k with
   |zero=>exact h.elim
   |succ k=>obtain⟨e,C,dx,fs,rfl,_⟩:=h;simp[lY]
  ·exact h.elim
theorem Kb:P2 K (λx y H Q=>y=.non/\Q (.bl (decide (x=.non))) H) wQ:=by
 intro Hf H x y d e z Q s a b hz q;unfold wQ at hz
 split at hz
 ·cases hz
  exact⟨b.sc.2,by rw[Ka s a];exact q Hf H _ (.refl s) (cE rfl)⟩
 ·cases hz
end
section
variable {M:Model}{A:Around}{E:Value->Shared->Prop}{h:Heap}{g:Array GenState}{d:Drawn}{t:Nat}{os:OsState}
variable {nm:Str}{C P:Addr}{mN mP:Str->Option Value}
theorem Kd(x:XC h nm C P mN mP)(m:h.get? e=some oe)(n:oe.cls=.ref C)(o:Q true ⟨h,g,d,t,os⟩):wpAny M A (excMatches (.ref e) (.ref P)) Q E ⟨h,g,d,t,os⟩:=by
 obtain⟨⟨q,N,bs,p,i,r,j,dd,s,u,k2,v,w,l,hn⟩,y,z,B,F,G,H,I,J,K,b0,b1,b2,b3,b4,L,c,O⟩:=x;have a:(Value.ref P::dN).contains (.type "BaseException")=true:=by rw[tf];simp
 have b:(Value.ref C::(Value.ref P::dN)).contains (.ref P)=true:=by simp
 have f:=tc_notTuple;unfold excMatches
 repeat (first|(with_reducible refine vd m ?_;rw[n])|with_reducible refine vd c ?_|(with_reducible refine vg c ?_;rw[a])|(with_reducible refine vg l ?_;rw[b])|wp_step)
 exact o
end
noncomputable def Cx.hdl(X:Cx)(v:Value):Cx:={ X with A:=X.A.mark (some v),calm:=false }
section
variable {X:Cx}{pins:List (Addr×Obj)}{σ:St}{H:Hp}{s:Shared}{v:Value}{h':Heap}
theorem aw.hdl(I:aw X pins σ H s):aw (X.hdl v) pins σ H s :=
 ⟨⟨I.ok.mod,I.ok.kind,I.ok.glob,I.ok.blt,I.ok.above,I.ok.inj,I.ok.has,I.ok.cab,(λz=>nomatch z),I.ok.frames,I.ok.stk,I.ok.exf,I.ok.bs,I.ok.bsz,I.ok.noex,I.ok.exfs,I.ok.funs,I.ok.frf⟩,I.os,I.bare,I.base,I.loc,I.cell,I.free,I.freeC,I.pin,I.hok,I.len⟩
theorem aw.unhdl(ok:X.Ok)(I:aw (X.hdl v) pins σ H s):aw X pins σ H s:=⟨ok,I.os,I.bare,I.base,I.loc,I.cell,I.free,I.freeC,I.pin,I.hok,I.len⟩
theorem aw.gone(I:aw X pins σ H s)(P:X.N.Nodup)(A:X.N[j]?=some n)(hm:s.heap.Ns X.env.locals m)(r:h'.Ns X.env.locals (λx=>if x=n then w else m x))(hs:Heap.SameBut X.env.locals s.heap h') :
  aw X pins (σ.set j none) H { s with heap:=h',toks:=t' }:=by
 have⟨G,h,hl⟩:=id I.loc;have O:G=m:=h.eq_nsMap.trans hm.eq_nsMap.symm;subst O;have cne:=I.cne;have f:j<σ.length:=by rw[I.len];exact(ya.mp A).1
 refine⟨I.ok,I.os,I.bare,⟨λb o e n g a=>?_,λb o e n g a=>?_,I.base.free,λb o e a=>?_,I.base.tups,I.base.frzs,I.base.tbls⟩,⟨_,r,λk y B e1 e2 C=>?_⟩,λy c e=>?_,I.free,I.freeC,λp E=>?_,λb F e=>?_,by simpa using I.len⟩
 ·exact(hs.2 b (ic (ub (ib e) I.ok.above))).trans (I.base.keep b o e n g a)
 ·have⟨sl,z⟩:=I.base.slot b o e n g a
  exact⟨sl,(hs.2 b (ic (ub (ib e) I.ok.above))).trans z⟩
 ·have⟨J,z⟩:=I.base.there b o e a
  exact⟨J,(hs.2 b (ic (ub (ib e) I.ok.above))).trans z⟩
 ·by_cases l:k=j
  ·subst l
   rw[ac f]at e2;cases e2
  ·rw[ua (ve l)]at e2
   have⟨K,L,q⟩:=hl k y B e1 e2 C;refine⟨K,L,?_⟩;rcases q with⟨i,e⟩|⟨i,c,e,z⟩
   ·refine .inl ⟨i,?_⟩
    have:y≠n:=λe=>l (u8 P e1 (e ▸ A))
    simp[this,e]
   ·exact .inr ⟨i,c,e,z.sameBut hs (cne y c e)⟩
 ·have⟨u,z⟩:=I.cell y c e
  exact⟨u,z.sameBut hs (cne y c e)⟩
 ·have⟨e,n,v,M,d⟩:=I.pin p E
  exact⟨(hs.2 p.1 v).trans e,n,v,M,d⟩
 ·refine(I.hok b F e).stay (λc u hc q=>(hs.2 c ?_).trans q) (λ_ q=>q) λ_ _ q=>q
  rintro rfl;rcases hc with rfl|hc
  ·rw[I.free]at e;cases e
  ·rw[I.free]at hc;cases hc
end
section
variable {X:Cx}
theorem Ke{D:eA}(I:aw X pins σ H s)(a:X.stack=X.env::X.outer/\X.env.frame=some X.env.locals)(G:X.N.Nodup)(hi:X.N[i]?=some told)(r:X.N[j]?=some n)
  (hl:X.env.scope.names.lookup told=some .local) (d:X.env.scope.names.lookup n=some .local) (hg:Gl X "PageError") (tr:jy s.heap e) (x:H e=some (.ext (dq e C dx))) (cl:e8 X.K nm C) (q:D.nx (((σ.set j (some (.ref e))).set i (some (.ref e))).set j none) H)
  (hd:(n == ("__debug__" : Str))=false:=by decide) (J:(n == ("__classdict__" : Str))=false:=by decide) (L:swapsWith (.Name n pn) (some (.Name told pt)) pa.line X.env=pure false:=by rfl) :
  wpAny (model X.prog X.w) X.A (noteFrame (.ref e) X.env) (λ_ Z=>wpAny (model X.prog X.w) X.A (setFlight (.ref e) none) (λ_ y=>wpAny (model X.prog X.w) X.A (handleBy (.ref e) X.env [.ExceptHandler (some (.Name "PageError" np)) (some n) [.Assign [.Name told pt] (.Name n pn) pa] hp]) (SP X pins D) X.xe y) X.xe Z) X.xe s:=by
 obtain⟨P,fI,c,hP,_⟩:=cl;have hm:X.mg "PageError" = some (.ref P):=PySem.W.mg_of I.ok.mod.kin I.ok.mod.glob hP;have⟨mN,mP,xc,_⟩:=c.at_ X.base I.ok.mod.kin;refine IJ (base:=X.base) (a.1 ▸ I.ok.frames) (a.1 ▸ I.stack) a.2 tr λh1 M=>?_
 have l:pX (d7 X.stack) e s.heap h1:=by rw[a.1];exact M
 have eq:aG H e (.ext (dq e C dx))=H:=by
  funext b
  by_cases Y:b=e
  ·subst Y;rw[bi,x]
  ·rw[aK Y]
 have p:aw X pins σ H { s with heap:=h1 }:=by
  have:=I.noted x l (Jk l (I.hok.ext x))
  rw[eq]at this;exact this
 refine wpAny_handleBy_cons (codeAny_handlers_test (mB (X:=X.hdl (.ref e)) p.hdl hg hm ?_)) (by intro z;cases z);have⟨vs,sl,F⟩:=p.hok.ext x;refine Kd (xc.keeps p.bk) F rfl ?_;refine codeAny_handlers_suite_as ?_;have⟨oe,us,T,oT,ts,t1,t2,t3,t4,O,Q,R⟩:=M.trc;refine wpAny_setFlight_none t1 t2 t3 O Q (pd.mp R).1 ?_;have I2:aw X pins σ H { s with heap:=h1.update T (Obj.mapFields (·.setIfInBounds 3 .none)) }:=p.kept (t':=s.toks) λb u z=>(wr O Q R b).trans z
 refine rS (v:=.ref e) I2 G r (cb d) rfl (λy I3=>?_) (.inr d);refine re ((g7 (X:=(X.hdl (.ref e)).nox) (lL (i:=i) G hi (cb hl) (fN (i:=j) r (cb d) hd J) L (.inr hl)) n9) pins y _ H ⟨λg H'=>g=(σ.set j (some (.ref e))).set i (some (.ref e))/\H'=H,λ_ _=>False,λ_ _=>False,λ_ _=>False⟩ (I3.hdl.wish _) ⟨.ref e,?_,rfl,rfl⟩) (λf s4 o=>?_) λ_ _ z=>z.elim
 ·rw[ac];rw[I.len];exact(ya.mp r).1
 ·cases f with
  |next =>
   obtain⟨g,H',I4,e1,e2⟩:=o;subst e1 e2;have U:aw X pins ((σ.set j (some (.ref e))).set i (some (.ref e))) H' s4:=I4.unwish.unhdl I.ok;have⟨m,h,_⟩:=id U.loc;refine wpAny_nameGoes_keeps d h (by rw[I.ok.kind];rfl) λh5 w B E=>⟨_,_,U.gone G r h B E,q⟩
  |brk=>obtain⟨_,_,_,z⟩:=o;exact z.elim
  |cont=>obtain⟨_,_,_,z⟩:=o;exact z.elim
  |ret u=>obtain⟨_,_,_,_,_,z⟩:=o;exact z.elim
end
section
variable {X:Cx}{CX:iN}{k:Nat}{f:Addr}{fd:FuncData}{ps:List Str}{sp sp0 sp1:Sp}{E:XK}
theorem BN(F:ax X.prog X.w X.K X.mg X.base CX k f fd ps sp)(c:aM k X.A)(d:c9 X.K fd ps [])(g:∀e s',CX X.stack H s E e s'->Ec e s')
  (I:aw X pins σ H s) (r:bB vs us) (h:sp vs H Q E):wpAny (model X.prog X.w) X.A (call (.ref f) us) (EP X pins σ Q) Ec s:=by
 have hl:(us++[]).length=ps.length:=by rw[pc,<-r.length];exact F.len _ _ _ _ h
 have b:=d s us I.kIn hl;rw[pc]at b;refine wk (ik (F.run X.A X.stack s H ⟨us,[]⟩ us vs Q E c I.env0 b r h) λr s' a=>?_)
 cases r with
 |error e=>exact g e s' a
 |ok i =>
  cases i with
  |ret u=>exact I.after a
  |next=>exact False.elim a
  |brk=>exact False.elim a
  |cont=>exact False.elim a
def Kf(K:Fg1)(W:Addr->Hp->Prop):XK:=λv _ H=>∃e nm C a,v=.ref e/\H e=some (.ext (dq e C a))/\e8 K nm C/\W e H
def wR(K:Fg1)(sp0 sp1:Sp)(i j:Nat)(g:V->St->St)(t:TA):TS:=λD σ H=>t σ H λvs H1=>sp0 vs H1 (λv H2=>D.nx (g v σ) H2) E0\/sp1 vs H1 (λ_ _=>False) (Kf K λe H2=>D.nx (((σ.set j (some (.ref e))).set i (some (.ref e))).set j none) H2)
variable {fx n told:Str}{i j:Nat}{p cp ep pos np pt pn pa hp:Pos}{a:Expr}{as:List Expr}{t:TA}
theorem Kg{D:eA}(F0:ax X.prog X.w X.K X.mg X.base aQ k f fd ps sp0)(F1:ax X.prog X.w X.K X.mg X.base (cG X.prog X.w) k f fd ps sp1)(F:aM k X.A)(hg:Gl X fx)(hm:X.mg fx=some (.ref f))(hk:PySem.W.keepIn X.K (.ref f)=true)(G:c9 X.K fd ps [])
  (ha:∀Ec,PA (X.wish Ec) (a::as) t) (I:aw X pins σ H s) (h:wR X.K sp0 sp1 i j g t D σ H) {Ec:Value->Shared->Prop} (hR:∀u v H2 b,aw X pins σ H2 b->bj v u->D.nx (g v σ) H2->R u b)
  (hE:∀e nm C dx H2 b,aw X pins σ H2 b->jy b.heap e->H2 e=some (.ext (dq e C dx))->e8 X.K nm C->D.nx (((σ.set j (some (.ref e))).set i (some (.ref e))).set j none) H2->Ec (.ref e) b) (x:(fx == ("__debug__" : Str))=false:=by decide) (he:starEach (a::as) X.env=(false,eval a X.env)::starEach as X.env:=by rfl) (y:(backTo cp (starEach as X.env)).any (·.1)=false:=by rfl) :
  wpAny (model X.prog X.w) X.A (eval (.Call (.Name fx p) (a::as) [] cp) X.env) R Ec s:=by
 refine ef (mB I hg hm ?_ x);refine PySem.W.callWith_K (h₀:=X.base) I.ok.mod.kin hk (aX (ha Ec cp pins s σ H _ (I.wish Ec) h) λus s1 ⟨vs,J,B,r,q⟩=>⟨B.kIn,?_⟩) he y;rw[se];have c:aw X pins σ J s1:=B.unwish;rcases q with q|q
 ·exact aX (BN F0 F G (λe s' z=>z.elim) c r q) λu b ⟨v,H2,l,E,m⟩=>hR u v H2 b l E m
 ·refine aX (BN (Ec:=Ec) F1 F G (λv s' z=>?_) c r q) λu b ⟨v,H2,l,E,m⟩=>m.elim
  obtain⟨e,C,dx,fs,H',L,os,d,un,n,M,N,O,P,e2,nm,Q,o,T,U,Y,Z⟩:=z;subst L;cases T;have l:aw X pins σ H' s':=c.call' (ch:=[]) os un n d (λ_ z=>nomatch z);exact hE e nm Q o H' s' l M U Y Z
theorem Kh (R:ax X.prog X.w X.K X.mg X.base aQ k f fd ps sp0) (T:ax X.prog X.w X.K X.mg X.base (cG X.prog X.w) k f fd ps sp1) (U:aM k X.A) (Y:Gl X fx) (hm:X.mg fx=some (.ref f)) (Z:PySem.W.keepIn X.K (.ref f)=true) (hb:c9 X.K fd ps []) (g:Gl X "PageError")
  (l:X.stack=X.env::X.outer/\X.env.frame=some X.env.locals) (J:X.N.Nodup) (hi:X.N[i]?=some told) (hj:X.N[j]?=some n) (hx:X.N[m]?=some x) (hl:X.env.scope.names.lookup told=some .local) (o:X.env.scope.names.lookup n=some .local) (b:X.env.scope.names.lookup x=some .local) (ha:∀Ec,PA (X.wish Ec) (a::as) t)
  (r:(fx == ("__debug__" : Str))=false:=by decide) (he:starEach (a::as) X.env=(false,eval a X.env)::starEach as X.env:=by rfl) (y:(backTo cp (starEach as X.env)).any (·.1)=false:=by rfl) (hd:(n == ("__debug__" : Str))=false:=by decide) (z:(n == ("__classdict__" : Str))=false:=by decide)
  (B:swapsWith (.Name n pn) (some (.Name told pt)) pa.line X.env=pure false:=by rfl) (E:swapsWith (.Call (.Name fx p) (a::as) [] cp) (some (.Name x px)) ep.line X.env=pure false:=by rfl) :
  PS X (.Try [.Assign [.Name x px] (.Call (.Name fx p) (a::as) [] cp) ep] [.ExceptHandler (some (.Name "PageError" np)) (some n) [.Assign [.Name told pt] (.Name n pn) pa] hp] [] [] pos) (wR X.K sp0 sp1 i j (λv σ=>σ.set m (some v)) t):=by
 intro G s σ H D I h;refine wpAny_Try_except (so (wpAny_Assign_Name (Kg R T U Y hm Z hb ha I h (λu v F L c M q=>rS c J hx (cb b) M (λs3 O=>wj (wj ⟨_,F,O,q⟩)) (.inr b)) (λe nm C dx F L c P d Q q=>?_) r he y) E));exact Ke c l J hi hj hl o g P d Q q hd z B
end
def Ki(h:Heap)(e L:Addr)(lo:Nat):Prop:=∃a vs T b c,h.get? e=some a/\a.data=.fields vs/\vs[1]?=some (.ref T)/\T≠e/\h.get? T=some b/\b.data=.fields c/\c[3]?=some (rawInt L)/\lo<=T
def qz(h:Heap)(e:Addr):Prop:=∃a vs,h.get? e=some a/\a.data=.fields vs/\vs[1]?=some .none
structure sZ(fs:List Addr)(e L:Addr)(h h':Heap):Prop where
 fl:Ki h' e L h.objs.size
 exc:∀oe vs,h.get? e=some oe->oe.data=.fields vs->∃vs',h'.get? e=some { oe with data:=.fields vs' }
 keep:∀b o,b≠e->b ∉ fs->h.get? b=some o->h'.get? b=some o
 slot:∀b o,b∈fs->h.get? b=some o->∃sl,h'.get? b=some { o with slots:=sl }
section
variable {M:Model}{A:Around}{E:Value->Shared->Prop}{s:Shared}
theorem wS{f:Value}{F:Bool}{Q:Unit->Shared->Prop}(G:A.frames=some (env::outer))(hl:s.heap.FunFrames base (env::outer))(T:env.frame=some L)
  (H:s.heap.get? e=some oe) (p:oe.data=.fields vs) (hsz:1<vs.size) (q:∀h',sZ ((env::outer).filterMap (·.frame)) e L s.heap h'->Q () { s with heap:=h' }) :
  wpAny M A (do let a ← frameOf env;let u ← entryPlaceOf L F;let b ← EntryCells.newEntry f a .none (rawInt L) .none u;setField (.ref e) 1 b) Q E s:=by
 have l:e ∉ (env::outer).filterMap (·.frame):=λhm=>by
  have⟨_,o,K,w⟩:=hl.mem hm;rw[H]at K;cases K;exact w vs p
 refine aa (wpAny_frameOf_fun G hl T λc r=>?_);refine aa (wpAny_entryPlaceOf λu v=>?_);unfold EntryCells.newEntry newFields;refine aa (ue ?_ (v.sizeOk5 _ _ _ _ _));have e1:c.get? e=some oe:=(r.2.1 e l).trans H;generalize n:({ cls:=.type "traceback",dict:=none,data:=.fields ([f,.ref L,.none,rawInt L,.none]++(if u.isEmpty then List.replicate 6 Value.none else u)).toArray }:Obj)=ob;have C:ob.isFreed=false:=by rw[<-n];rfl
 obtain⟨x,y,B⟩:∃x,ob.data=.fields x/\x[3]?=some (rawInt L):=⟨_,by rw[<-n],by simp⟩
 have e2:=na (h:=c) ob e1;refine qg e2 p hsz (q _ ?_);have m:c.objs.size≠e:=gk (ib e1);have N:=me p (·.setIfInBounds 1 (Value.ref c.objs.size));have O:=ce (Obj.mapFields (·.setIfInBounds 1 (Value.ref c.objs.size))) e2 (ag N);have R:=(cc (c.push ob) (Obj.mapFields (·.setIfInBounds 1 (Value.ref c.objs.size))) (ve m)).trans (zb c C)
 have d:∀b o,b≠e->c.get? b=some o->((c.push ob).update e (Obj.mapFields (·.setIfInBounds 1 (Value.ref c.objs.size)))).get? b=some o:=λb o g j=>by
  rw[cc _ _ (ve g)];exact na _ j
 refine⟨⟨_,_,c.objs.size,_,_,O,N,by simp[hsz],m,R,y,B,by rw[r.1];exact bb _⟩,λU P I J=>?_,λb o g i j=>d b o g ((r.2.1 b i).trans j),λb o i j=>?_⟩
 ·rw[H]at I;cases I
  rw[p]at J;cases J;exact⟨_,by rw[O,wh p]⟩
 ·have⟨sl,hs⟩:=r.2.2 b o j
  exact⟨sl,d b _ (λz=>l (by rw[<-z];exact i)) hs⟩
theorem Kj(h:A.frames=some (env::outer))(hl:s.heap.FunFrames base (env::outer))(r:env.frame=some L)(J:qz s.heap e\/jy s.heap e)
  (q:∀h',sZ ((env::outer).filterMap (·.frame)) e L s.heap h'->Q () { s with heap:=h' }):wpAny M A (noteFrame (.ref e) env) Q E s:=by
 unfold noteFrame;simp only[r];rcases J with⟨i,vs,d,f,g⟩|⟨i,vs,T,K,N,d,f,g,I,m,c,p⟩
 ·refine aa (jg d f g ?_)
  rw[qa (by decide)];exact wS h hl r d f (pd.mp g).1 q
 ·refine aa (jg d f g ?_)
  rw[da (show (Value.ref T != Value.none)=true from by simp)];refine aa (jg m c p ?_);rw[qa (show ¬((Value.none == rawInt L)=true) from by simp[rawInt])];refine aa (qg m c (pd.mp p).1 ?_);have same:=wr m c p;refine wS (base:=base) h (hl.of_keeps λb o u _=>⟨o,(same b).trans u,rfl⟩) r ((same e).trans d) f (pd.mp g).1 λh' n=>q h' ⟨?_,λi vs a b=>n.exc i vs ((same e).trans a) b,λb o j l v=>n.keep b o j l ((same b).trans v),λb o j l=>n.slot b o j ((same b).trans l)⟩
  have⟨w,x,y,z,B,b1,b2,b3,b4,C,F,G,H⟩:=n.fl;exact⟨w,x,y,z,B,b1,b2,b3,b4,C,F,G,by rw[<-Heap.size_after_update];exact H⟩
end
section
variable {X:Cx}{pins:List (Addr×Obj)}{σ:St}{H:Hp}{s:Shared}{h':Heap}
theorem aw.notedF(I:aw X pins σ H s)(d:H e=some (.ext (dq e C dx)))(n:sZ (d7 X.stack) e L s.heap h'):aw X pins σ H { s with heap:=h' }:=by
 have l:aG H e (.ext (dq e C dx))=H:=by
  funext b
  by_cases a:b=e
  ·subst a;rw[bi,d]
  ·rw[aK a]
 have h:dq e C dx h':=by
  have⟨vs,sl,z⟩:=I.hok.ext d;have⟨g,j⟩:=n.exc _ vs z rfl;exact⟨g,sl,j⟩
 refine I.call (g':=s.gens) (t':=s.toks) (d':=s.drawn) (ch:=[]) ⟨λb o q m hc f=>n.keep b o (cC d m).symm hc q,λb o q m hc f=>n.slot b o hc q,λb o q m f=>m,λb o q f=>?_,λb xs q=>q,λb o u q=>q,λb ps q=>⟨#[],by rw[q];simp⟩⟩ (λb u q=>?_) I.bare (λ_ z=>nomatch z)
 ·by_cases a:b=e
  ·subst a;obtain⟨vs,sl,z⟩:=h;exact⟨_,z⟩
  ·by_cases i:b∈d7 X.stack
   ·have⟨sl,z⟩:=n.slot b o i q;exact⟨_,z⟩
   ·exact⟨o,n.keep b o a i q⟩
 ·by_cases a:b=e
  ·subst a;rw[d]at q;cases q;exact wx h
  ·refine(I.hok b u q).stay (λc v hc z=>n.keep c v ?_ ?_ z) (λc z=>z) λc ys z=>z
   ·rcases hc with rfl|hc
    ·exact a
    ·exact fZ hc d λz=>nomatch z
   ·intro hm
    have:=I.stkFree c hm
    rcases hc with rfl|hc
    ·rw[q]at this;cases this
    ·rw[hc]at this;cases this
theorem aw.entry{e C dx T:Addr}{A:Obj}{F:Array Value}{v:Value}(I:aw X pins σ H s)(j:X.pn++pins=[])(g:s.heap.get? T=some A)(h:A.data=.fields F)(l:X.s₀.heap.objs.size<=T)(G:T ∉ d7 X.stack)(B:H T=none):aw X pins σ H { s with heap:=s.heap.update T (Obj.mapFields (·.setIfInBounds 3 v)) }:=by
 have d:∀b o,b≠T->s.heap.get? b=some o->(s.heap.update T (Obj.mapFields (·.setIfInBounds 3 v))).get? b=some o:=λb o i z=>(cc _ _ (ve i)).trans z
 have y:=ce (Obj.mapFields (·.setIfInBounds 3 v)) g (ag (me h _));refine I.step (g':=s.gens) (t':=s.toks) (d':=s.drawn) (ch:=[T]) (λb i=>?_) (λb o _ _ hc z _=>d b o (λw=>hc (by simp[w])) z) (λb o _ _ hc z _=>⟨o.slots,d b o (λw=>hc (by simp[w])) z⟩) (λb o _ _ m=>m) (λb o hc z=>⟨o,d b o (λw=>hc (by simp[w])) z⟩) (λb xs q=>q) (λb o u q=>q) (λb ps q=>⟨#[],by rw[q];simp⟩) (λm hm=>?_) (λb u q=>?_) I.bare
 ·rw[yb.mp i]
  refine⟨.inr l,λz=>?_,λx c hc z=>?_,λp n=>by rw[j]at n;cases n⟩
  ·have⟨m,⟨o,es,ep,f,a,_⟩,_⟩:=I.loc
   rw[<-z,g]at f;cases f;rw[h]at a;cases a
  ·have⟨w,o,f,a⟩:=I.cell x c hc
   rw[z,g]at f;cases f;rw[h]at a;cases a
 ·obtain⟨o,es,ep,f,r⟩:=hm
  refine⟨o,es,ep,d _ _ (λz=>?_) f,r⟩;rw[z,g]at f;cases f;rw[h]at r;cases r.1
 ·refine(I.hok b u q).stay (λc w hc z=>d c w (λE=>?_) z) (λc z=>z) λc ys z=>z
  subst E;rcases hc with rfl|hc
  ·rw[B]at q;cases q
  ·rw[B]at hc;cases hc
end
def oG(h:Heap)(e L T:Addr):Prop:=∃a vs b c,h.get? e=some a/\a.data=.fields vs/\vs[1]?=some (.ref T)/\T≠e/\h.get? T=some b/\b.data=.fields c/\c[3]?=some (rawInt L)
def oH(X:Cx)(W:XK):Value->Shared->Prop:=λv s'=>∃e C dx fs H1 a,v=.ref e/\aw X [] a H1 s'/\H1 e=some (.ext (dq e C dx))/\H1 dx=some (.ext (eF dx fs))/\dx≠e/\(qz s'.heap e\/jy s'.heap e\/∃T L,oG s'.heap e L T/\X.s₀.heap.objs.size<=T/\H1 T=none)/\W v (some dx) H1
section
variable {P:Program}{w:World}{K:Fg1}{mg:Str->Option Value}{base:Heap}{N:List Str}{qual:Str}{scope:Scope}{f:Addr}{cd:Value}{A:Around}{outer:List Env}{s:Shared}{H:Hp}{E:XK}
theorem s0(I:aw X pins σ H s):aw X [] σ H s:=I.pins_of λp a=>nomatch a
theorem BO{Y:Cx}{env0:Env}{out0:List Env}{h:Hp}{g:St}{Q:Unit->Shared->Prop}{U:Value->Shared->Prop}(a:Y.stack=env0::out0)(x:env0.frame=some L)(G:Y.pn=[])(I:aw Y [] g h s1)(Z:h e=some (.ext (dq e C dx)))(c:qz s1.heap e\/jy s1.heap e\/∃T u,oG s1.heap e u T/\Y.s₀.heap.objs.size<=T/\h T=none)
  (q:∀H T,aw Y [] g h H->oG H.heap e L T->Y.s₀.heap.objs.size<=T->h T=none->Q () H):wpAny (model Y.prog Y.w) Y.A (noteFrame (.ref e) env0) Q U s1:=by
 have p:∀b,aw Y [] g h b->∀h',sZ (d7 (env0::out0)) e L b.heap h'->Q () { b with heap:=h' }:=λb I h' n=>by
  have X:=I.notedF Z (a ▸ n);have⟨J,vs,T,K,y,i,j,l,B,d,f,m,M⟩:=n.fl;exact q _ T X ⟨J,vs,K,y,i,j,l,B,d,f,m⟩ (wd I.sz M) (I.hok.fresh M)
 have r:qz s1.heap e\/jy s1.heap e->wpAny (model Y.prog Y.w) Y.A (noteFrame (.ref e) env0) Q U s1:=λz=>Kj (base:=Y.base) (a ▸ I.ok.frames) (a ▸ I.stack) x z λh' n=>p s1 I h' n
 rcases c with z|z|⟨T,u,z,O,P⟩
 ·exact r (.inl z)
 ·exact r (.inr z)
 ·have⟨J,vs,K,y,i,j,l,B,d,f,m⟩:=id z
  by_cases s:u=L
  ·subst s
   exact wpAny_noteFrame_inFlight x i j l d f m (q _ T I z O P)
  ·unfold noteFrame
   simp only[x];refine aa (jg i j l ?_);rw[da (show (Value.ref T != Value.none)=true from by simp)];refine aa (jg d f m ?_);rw[qa (show ¬((rawInt u == rawInt L)=true) from λz=>s (by have z:=eq_of_beq z;exact Int.ofNat.inj (by simpa [rawInt] using z)))];refine aa (qg d f (pd.mp m).1 ?_)
   have F:T ∉ d7 Y.stack:=λhm=>by
    have⟨_,o,N,E⟩:=I.stack.mem hm;rw[d]at N;cases N;exact E y f
   have R:=I.entry (e:=e) (C:=C) (dx:=dx) (v:=.none) (by rw[G];rfl) d f O F P;exact wS (base:=Y.base) (a ▸ I.ok.frames) (a ▸ R.stack) x ((cc _ _ B).trans i) j (pd.mp l).1 λh' n=>p _ R h' n
theorem Kk{fs:List (Str×V)}{a:Hp}{b:St}{Q:Unit->Shared->Prop}{g:Value->Shared->Prop}(I:aw (cP (cG P w) P w K mg base N qual scope f cd A outer s H E) [] b a s1)(h:a e=some (.ext (dq e C dx)))(c:qz s1.heap e\/jy s1.heap e\/∃T i,oG s1.heap e i T/\((cP (cG P w) P w K mg base N qual scope f cd A outer s H E)).s₀.heap.objs.size<=T/\a T=none)
  (q:∀d T,aw (cP (cG P w) P w K mg base N qual scope f cd A outer s H E) [] b a d->oG d.heap e ((cP (cG P w) P w K mg base N qual scope f cd A outer s H E)).env.locals T->((cP (cG P w) P w K mg base N qual scope f cd A outer s H E)).s₀.heap.objs.size<=T->a T=none->Q () d):wpAny (model P w) ((cP (cG P w) P w K mg base N qual scope f cd A outer s H E)).A (noteFrame (.ref e) ((cP (cG P w) P w K mg base N qual scope f cd A outer s H E)).env) Q g s1:=BO rfl rfl rfl I h c q
theorem Kl(h:oH (cP (cG P w) P w K mg base N qual scope f cd A outer s H E) E v s1):((cP (cG P w) P w K mg base N qual scope f cd A outer s H E)).xe v s1:=by
 obtain⟨e,C,dx,fs,r,i,O,I,u,Q,j,c,q⟩:=h;subst O;refine Jl (Kk (fs:=fs) I u c λn T p z L M=>?_);have⟨R,vs,X,U,x,y,B,F,d,a,G⟩:=id z;refine wpAny_setFlight_none x y B d a (pd.mp G).1 ?_
 have m:T ∉ d7 ((cP (cG P w) P w K mg base N qual scope f cd A outer s H E)).stack:=λhm=>by
  have⟨_,o,J,l⟩:=p.stack.mem hm;rw[d]at J;cases J;exact l U a
 have g:aw (cP (cG P w) P w K mg base N qual scope f cd A outer s H E) [] i r { n with heap:=n.heap.update T (Obj.mapFields (·.setIfInBounds 3 .none)) }:=p.entry (e:=e) (C:=C) (dx:=dx) rfl d a L m M;have b:=ce (Obj.mapFields (·.setIfInBounds 3 Value.none)) d (ag (me a _));refine⟨e,C,dx,fs,r,rfl,g.os,g.bare,g.base,g.hok,⟨R,vs,T,_,_,(cc _ _ F).trans x,y,B,F,b,me a _,?_⟩,u,Q,j,q⟩
 have:=(pd.mp G).1
 simp[this]
theorem qA:sI (((cP (cG P w) P w K mg base N qual scope f cd A outer s H E)).wish (oH (cP (cG P w) P w K mg base N qual scope f cd A outer s H E) E)) E:=by
 intro a g i s1 e C dx j fs I h l c q;have d:s1.heap.get? e=some ⟨.ref C,some dx,.fields #[.ref j,.none,.none,.none,.bool false,.none],#[]⟩:=I.hok.ext h;have m:aw (cP (cG P w) P w K mg base N qual scope f cd A outer s H E) a g (aG i e (.ext (dq e C dx))) s1:=I.unwish.write (t':=s1.toks) (h':=s1.heap) (x:=e) (e:=e) (by rw[h];trivial) (.inl rfl) (λb u _ z=>z) ⟨_,d⟩ (wx ⟨_,_,d⟩);exact⟨e,C,dx,fs,_,g,rfl,s0 m,bi,by rw[aK c];exact l,c,.inl ⟨_,_,d,rfl,rfl⟩,q⟩
theorem Km:ox (cG P w) (((cP (cG P w) P w K mg base N qual scope f cd A outer s H E)).wish (oH (cP (cG P w) P w K mg base N qual scope f cd A outer s H E) E)) E:=by
 intro a g n o v s2 I ⟨e,C,dx,fs,H',h,os,b,un,c,i,j,l,d,q⟩;subst h;have m:aw (cP (cG P w) P w K mg base N qual scope f cd A outer s H E) a g H' s2:=I.unwish.call' (ch:=[]) os un c b (λ_ z=>nomatch z);exact⟨e,C,dx,fs,H',g,rfl,s0 m,j,l,d,.inr (.inl i),q⟩
end
section
variable {P:Program}{w:World}{K:Fg1}{mg:Str->Option Value}{base:Heap}
theorem ec.okX{x b:Str}{st:Stmt}{f:Addr}{l:FuncData}{N ps:List Str}{k:Nat}{sp:Sp}(F:ec K x b st f l)(S:ay N ps (bt st))(len:∀vs H Q E,sp vs H Q E->vs.length=ps.length)
  (d:∀ (c:Value) (A:Around) (a:List Env) (s:Shared) (H:Hp) (vs:List V) (Q:VK) (E:XK),aM k (A.deeper (envOfC b (bt st) s.heap.objs.size f c))->sp vs H Q E →
   ∃t,bT ((cP (cG P w) P w K mg base N b (bt st) f c A a s H E).wish (oH (cP (cG P w) P w K mg base N b (bt st) f c A a s H E) E)) (e6 st) t/\t { nx:=λ_ H'=>Q .non H',rt:=Q } (ju N vs) H):ax P w K mg base (cG P w) (k+1) f l ps sp:=by
 obtain⟨C,G,kV,u,J,L,c,M,v,rfl,y,j⟩:=F.ex;refine Ai y j S len λA a s H vs Q E m i=>?_
 have⟨t,h,q⟩:=d c A a s H vs Q E m i;refine⟨t,λg n o p D I r=>?_,q⟩;exact re (h g n o p D (I.wish _) r) (λ_ _ z=>z.unwish) λe B z=>Kl z
end
end L2
namespace L2
open PySem
section
variable {prog:Program}{w:World}{A:Around}{E:Value->Shared->Prop}{h:Heap}{g:Array GenState}{d:Drawn}{t:Nat}{os:OsState}
variable {nm:Str}{C P a:Addr}{o:Obj}{mN mP:Str->Option Value}
theorem Kn:typeLookup (.type "ValueError") "__class__" = pure (some (.builtin "object.__class__")):=by rw[qk,ni];kernel_rfl
theorem Ko(X:XC h nm C P mN mP)(e:h.get? a=some o)(f:o.cls=.ref C)(v:R (.ok (.ret (.ref C))) ⟨h,g,d,t,os⟩) :
  codeAny (model prog w) A (.call (.builtin "getset_descriptor.__get__") ⟨[.builtin "object.__class__",.ref a,.ref C],[]⟩) R ⟨h,g,d,t,os⟩:=by
 obtain⟨⟨q,N,bs,m,i,n,j,dd,p,r,k2,s,u,l,hn⟩,_⟩:=X;have b:(⟨h,g,d,t,os⟩:Shared).TypeIs (.builtin "object.__class__") "getset_descriptor":=wl;have c:(Value.ref C::(Value.ref P::dN)).contains (.type (".".intercalate ("object.__class__".cutAt '.').dropLast))=true:=by rw[F.owner_object_class,tf,tf];simp
 refine bh F.slot_gs_get.plain F.entry_gs_get (F.slot_gs_get.check _ _ _ _ _ _ _ _ b (F.args_gs_get _ _ _) ?_)
 repeat (any_goals (first|assumption|(with_reducible refine vd e ?_;rw[f])|(with_reducible refine vg l ?_;rw[c])|wp_step))
 refine⟨cn _ (by decide),mh F.entry_object_class ?_⟩
 repeat (any_goals (first|assumption|(with_reducible refine vd e ?_;rw[f])|wp_step))
theorem Kp (X:XC h nm C P mN mP) (c:mN "__class__" = none) (b:mP "__class__" = none) (e:h.get? a=some o) (f:o.cls=.ref C) (n:Q (.done (.ret (.ref C))) ⟨h,g,d,t,os⟩) :
  wpAny (model prog w) A (Builtin.«object.__getattribute__» ⟨[.ref a,.str "__class__" tk],[]⟩) Q E ⟨h,g,d,t,os⟩:=by
 have i:(⟨h,g,d,t,os⟩:Shared).TypeIs (.builtin "object.__class__") "getset_descriptor":=wl;have j:=wl;have l:=F.slot_gs_get.lookup;have m:=F.slot_gs_set.lookup
 repeat (any_goals (first|assumption|(with_reducible refine vd e ?_;rw[f])|(with_reducible refine lq X b Kn ?_;rw[c])|wp_step))
 refine Ko X e f ?_
 repeat (any_goals (first|assumption|wp_step))
theorem Kq (X:XC h nm C P mN mP) (p:mN "__getattribute__" = none) (c:mP "__getattribute__" = none) (q:mN "__getattr__" = none) (f:mP "__getattr__" = none) (j:mN "__class__" = none) (l:mP "__class__" = none) (b:h.get? a=some o) (m:o.cls=.ref C) (s:Q (some (.ref C)) ⟨h,g,d,t+1,os⟩) :
  wpAny (model prog w) A (getAttr? (.ref a) "__class__") Q E ⟨h,g,d,t,os⟩:=by
 have e:=F.excAttr_ValueError;have r:=e.ga.bind (.ref a);have i:(Value.builtin "BaseException.__getattribute__" == Value.builtin "object.__getattribute__")=false:=by decide
 have n:(onTheHeap (Value.ref C) && Value.builtin "BaseException.__getattribute__" == Value.builtin "object.__getattribute__")=false:=by rw[i];rfl
 unfold getAttr? getAttrBy?
 repeat (any_goals (first|assumption|(with_reducible refine vd b ?_;rw[m])|(with_reducible refine lq X c e.ga.lookup ?_;rw[p])|(with_reducible refine lq X f A2 ?_;rw[q])|wp_step))
 refine bh e.ga.plain F.entry_bexc_ga (A3 X b m (Kp X j l b m ?_))
 repeat (any_goals (first|assumption|wp_step))
end
end L2
namespace L2
open PySem PySem.Spec PyProof.Rows
section
variable {K:Fg1}{nm nm':Str}{C C' P e dx:Addr}{fI:Option Addr}
theorem Kr(c:cU K nm C P fI):PySem.W.KitX K (.ref e) (.ref C) (dq e C dx) where
 ty:=λM h X p=>by
  obtain⟨vs,sl,h1⟩:=p;exact(PySem.W.Looks.ld h1).andThen .now
 it:=λM h X p=>by
  have⟨q,N,bs,sn,sub,ab,col,dd,k0,k1,k2,k3,k5,h1,h2⟩:=c.cl;intro A' Q' E' s' k q;unfold isType loadHead;exact aa (wpAny_loadPart (k _ _ (X _ _ h1)) (ia q))
 ne:=λh tp dd its n sl X htp=>by
  have⟨q,N,bs,sn,sub,ab,col,dd,k0,k1,k2,k3,k5,h1,h2⟩:=c.cl;refine ge.mpr λq=>?_
  have e:C=tp:=Value.ref.inj (xk.mp q);subst e;rw[X _ _ h1]at htp
  have:=de (λo=>o.map (·.data)) htp
  simp at this
 ca:=λ{prog w A E Q s} X p k=>by
  have⟨mN,mP,xc,hx,_,_⟩:=c.at_ s.heap X;obtain⟨vs,sl,h1⟩:=p;have g1:=hx "__getattribute__" (by simp[jz]);have g2:=hx "__getattr__" (by simp[jz]);have g3:=hx "__class__" (by simp[jz]);obtain⟨hh,g,d,t,os⟩:=s;exact Kq xc g1.1 g1.2 g2.1 g2.2 g3.1 g3.2 h1 rfl k
theorem cU.clsIn(c:cU K nm C P fI):∃cd,PySem.W.clsIn K C=some cd/\cd.name=nm/\cd.mro=.ref C::.ref P::dN:=by
 have⟨q,N,bs,e,a,f,b,dd,g,h,k2,i,j,d,l⟩:=c.cl;exact⟨_,by unfold PySem.W.clsIn;rw[d],rfl,rfl⟩
theorem cU.parIn(c:cU K nm C P fI):∃cd,PySem.W.clsIn K P=some cd/\cd.mro=.ref P::dN:=by
 have⟨b,d,e,f,g,h,i,j,l,b0,b1,b2,b3,b4,m,a,n⟩:=c.pa;exact⟨_,by unfold PySem.W.clsIn;rw[a],rfl⟩
theorem cU.typ(c:cU K nm C P fI):PySem.W.typeIn K (.ref C)=some (.type "type"):=by
 have⟨q,N,bs,e,a,f,b,dd,g,h,k2,i,j,d,l⟩:=c.cl;show (K.lookup C).map (·.cls)=_;rw[d];rfl
theorem Ks(c:cU K nm C P fI)(v:Value):PySem.W.subIn K (.ref C) v=some ((Value.ref C::.ref P::dN).contains v):=by
 have⟨a,b,_,d⟩:=c.clsIn;show ((PySem.W.clsIn K C).bind λa=>if a.mro.isEmpty=true then none else some (a.mro.contains v))=_;rw[b];show (if a.mro.isEmpty then none else some (a.mro.contains v))=_;rw[d];rfl
theorem Kt(h:e8 K nm C)(h':e8 K nm' C'):PySem.W.kitOne K (.ref C) (.ref C')=some (decide (nm=nm')):=by
 obtain⟨P,s,c,o,p⟩:=h;obtain⟨u,q,e,m,n⟩:=h';rw[o]at m;cases m;unfold PySem.W.kitOne;by_cases l:nm=nm'
 ·subst l
  rw[p]at n;cases n;rw[da (vo _),za rfl]
 ·have d:C≠C':=λz=>by
   subst z;have⟨r,g,i,_⟩:=c.clsIn;have⟨b,a,f,_⟩:=e.clsIn;rw[g]at a;cases a;exact l (i.symm.trans f)
  have j:C'≠P:=λz=>by
   subst z;have⟨r,g,i⟩:=c.parIn;have⟨b,a,_,f⟩:=e.clsIn;rw[g]at a;cases a;rw[i]at f
   have:=de List.length f
   simp at this
  rw[qa (by simp[d]),nb l];unfold PySem.W.kitCls;have⟨b,a,_⟩:=e.clsIn;dsimp only;rw[da (by rw[a,e.typ];rfl),Ks c]
  have:(Value.ref C::.ref P::dN).contains (.ref C')=false:=by simp[d.symm,j]
  rw[this]
theorem Ku(h:e8 K nm C):PySem.W.kitOne K (.type "NoneType") (.ref C)=some false:=by
 obtain⟨P,d,c,e,f⟩:=h;unfold PySem.W.kitOne;rw[qa (by simp)];unfold PySem.W.kitCls;have⟨a,b,_⟩:=c.clsIn;dsimp only;rw[da (by rw[b,c.typ];rfl)];unfold PySem.W.subIn
 have:PySem.fastBuiltinMro "NoneType" = some [.type "NoneType",.type "object"]:=by decide
 dsimp only;rw[this];simp
end
def jX(K:Fg1)(np:Nat)(G:List D->Option D):Sp:=λvs H _ E=>∃Hf ds n ks es,aS Hf H/\aZ K Hf ds vs/\ds.length=np/\G ds=some (.er n ks es)/\∀Hf' H' e dx,Ex Hf H Hf' H'->Dn K Hf' (.er n ks es) (.ref e)->E (.ref e) (some dx) H'
def xV(K:Fg1)(B:Bs)(W:XK)(g:ao->Option D):TS:=λ_ σ H=>∃Hf ρ n ks es,VI K B Hf ρ σ H/\g ρ=some (.er n ks es)/\∀Hf' H' e dx,Ex B.f B.h Hf' H'->Dn K Hf' (.er n ks es) (.ref e)->W (.ref e) (some dx) H'
def eX(K:Fg1)(B:Bs)(W:XK)(g:ao->Option D):TE:=λσ H _=>∃Hf ρ n ks es,VI K B Hf ρ σ H/\g ρ=some (.er n ks es)/\∀Hf' H' e dx,Ex B.f B.h Hf' H'->Dn K Hf' (.er n ks es) (.ref e)->W (.ref e) (some dx) H'
def gv:ao->Option D:=λ_=>none
def qB(n:Str)(fl:List Str)(fr:ao->Option (List D)):ao->Option D:=λρ=>(fr ρ).bind λds=>if ds.length=fl.length then some (.er n fl ds) else none
def fC(f:ao->aT)(gs gr:ao->Option D):ao->Option D:=λρ=>match gs ρ with
 |some d=>some d
 |none=>match f ρ with|.nx ρ'=>gr ρ'|_=>none
def jY(ft:ao->Option Bool)(g1 g2:ao->Option D):ao->Option D:=λρ=>match ft ρ with|some true=>g1 ρ|some false=>g2 ρ|none=>none
def lZ(np:Nat)(G:List D->Option D)(fr:ao->Option (List D)):ao->Option D:=λρ=>(fr ρ).bind λds=>if ds.length=np then G ds else none
def m9(np n:Nat)(g:ao->Option D)(ds:List D):Option D:=if ds.length=np then g (dP n ds) else none
section
variable {X:Cx}{B:Bs}{W:XK}{st:Stmt}{rest sts:List Stmt}{tg e iter a:Expr}{as:List Expr}{f:ao->aT}{g g1 g2 gs gr gx:ao->Option D}{fr fi:ao->Option (List D)}{ft:ao->Option Bool}{pos p cp:Pos}{gt:D->ao->Option ao}{sl:List Nat}{x nm:Str}{fl:List Str}{k:Nat}{fI C P:Addr}{fd:FuncData}{ps:List Str}
theorem s9{dx e:Addr}(h:dx≠e):aG (aG H dx u) e v=aG (aG H e v) dx u:=by
 funext b
 by_cases a:b=e
 ·subst a;rw[bi,aK (ve h),bi]
 ·by_cases c:b=dx
  ·subst c;rw[aK a,bi,bi]
  ·rw[aK a,aK c,aK c,aK a]
theorem PS.or(h:PS X st t)(h':PS X st t'):PS X st (λD σ H=>t D σ H\/t' D σ H):=λa s σ H D I q=>q.elim (h a s σ H D I) (h' a s σ H D I)
theorem ly:PS X st (xV X.K B W gv):=λ_ _ _ _ _ _ ⟨_,_,_,_,_,_,h,_⟩=>nomatch h
theorem oJ:bT X sts (xV X.K B W gv):=λ_ _ _ _ _ _ ⟨_,_,_,_,_,_,h,_⟩=>nomatch h
theorem ti (N:X.calm=true) (c:cU X.K nm C P (some fI)) (O:PySem.W.nsIn X.K mainGlobals "PageError" = some (some (.ref P))) (l:PySem.W.nsIn X.K mainGlobals nm=some (some (.ref C))) (m:∃o,X.K.lookup fI=some o/\o.cls=.type "function") (r:PySem.W.keepIn X.K (.ref C)=true)
  (F:ax X.prog X.w X.K X.mg X.base aQ k fI fd ps (mM X.K nm fl)) (Q:aM (k+1) X.A) (h:Gl X x) (hm:X.mg x=some (.ref C)) (R:c9 X.K fd ps []) (s:sI X W) (T:fl.length<=10) (U:PA X (a::as) (aV X.K B fr)) (u:(x == ("__debug__" : Str))=false:=by decide)
  (i:starEach (a::as) X.env=(false,eval a X.env)::starEach as X.env:=by rfl) (v:(backTo cp (starEach as X.env)).any (·.1)=false:=by rfl):PS X (.Raise (some (.Call (.Name x p) (a::as) [] cp)) none pos) (xV X.K B W (qB nm fl fr)) :=
 (Bd N c O l m r F Q h hm R s U u i v).imp λD Y H ⟨Hf,ρ,n,ks,es,I,h,q⟩=>by
  have⟨ds,J,hz⟩:=bind_some h
  split at hz
  ·rename_i hl
   cases hz;refine⟨Hf,ρ,es,I,J,λE Z vs d f=>?_⟩
   have j:vs.length=fl.length:=by rw[<-f.length];exact hl
   refine⟨by omega,λe C P fI y i G c=>⟨e,vs,C,P,fI,y,rfl,j,c,bi,λdx g b=>⟨rfl,dx,y,_,b,by rw[aK (ve b),bi],bi,?_⟩⟩⟩;rw[aK b]at g;rw[n8,s9 b,n8];have e1:=Ex.new (o:=.ext (dq e C dx)) d.fh i;have e2:=Ex.new (o:=.ext (eF dx (fl.zip vs))) e1.fh (by rw[aK b];exact g);have⟨k,dk⟩:=f.level;have L:(fl.zip vs).map Prod.fst=fl:=List.map_fst_zip (by omega);have M:(fl.zip vs).map Prod.snd=vs:=List.map_snd_zip (by omega);exact q _ _ e dx (I.ex.trans (d.trans (e1.trans e2))) ⟨k+1,e,C,dx,fl.zip vs,rfl,by rw[aK b.symm,bi],G,b,bi,L,by rw[M];exact dk.zmap λ_ _ z=>Bf (e1.trans e2).ff z⟩
  ·cases hz
theorem iX(i:PS X st (sV X.K B f))(c:PS X st (xV X.K B W gs))(j:bT X rest (xV X.K B W gr)):bT X (st::rest) (xV X.K B W (fC f gs gr)):=(g7 (i.or c) j).imp λD l H ⟨Hf,ρ,n,ks,es,I,a,q⟩=>by
 unfold fC at a
 cases e:gs ρ with
 |some d=>rw[e]at a;cases a;exact .inr ⟨Hf,ρ,n,ks,es,I,e,q⟩
 |none =>
  rw[e]at a;dsimp only at a
  cases e2:f ρ with
  |nx ρ' =>
   rw[e2]at a;exact .inl ⟨Hf,ρ,I,by rw[e2];exact λb g H' z h=>⟨b,ρ',n,ks,es,h,a,q⟩⟩
  |_=>rw[e2]at a;cases a
theorem l3(a:PS X st (xV X.K B W gs)):bT X (st::rest) (xV X.K B W gs):=(g7 a (oJ (B:=B) (W:=W))).imp λD b H h=>h
theorem qC{c:Expr}{g bs:List Stmt}(h:PT X c (tV X.K B ft))(i:bT X g (xV X.K B W g1))(j:bT X bs (xV X.K B W g2)):PS X (.If c g bs pos) (xV X.K B W (jY ft g1 g2)):=(u9 h i j).imp λD l H ⟨Hf,ρ,n,ks,es,I,a,q⟩=>by
 unfold jY at a
 cases e:ft ρ with
 |none=>rw[e]at a;cases a
 |some b =>
  rw[e]at a;refine⟨Hf,ρ,b,I,e,λd m f=>?_⟩
  cases b with
  |true=>rw[da rfl];exact⟨d,ρ,n,ks,es,I.ext f,a,q⟩
  |false=>rw[qa ma];exact⟨d,ρ,n,ks,es,I.ext f,a,q⟩
theorem BP{h:Nat}{G:List D->Option D}{f:Addr}(F:ax X.prog X.w X.K X.mg X.base (cG X.prog X.w) k f fd ps (jX X.K h G))(s:aM k X.A)(u:Gl X x)(hm:X.mg x=some (.ref f))(v:PySem.W.keepIn X.K (.ref f)=true)(y:c9 X.K fd ps [])(z:ox (cG X.prog X.w) X W)
  (C:PA X (a::as) (aV X.K B fr)) (i:(x == ("__debug__" : Str))=false:=by decide) (E:starEach (a::as) X.env=(false,eval a X.env)::starEach as X.env:=by rfl) (j:(backTo pos (starEach as X.env)).any (·.1)=false:=by rfl):PE X (.Call (.Name x p) (a::as) [] pos) (eX X.K B W (lZ h G fr)) :=
 (vy F s u hm v y .nil z C i E j).imp λJ H Q ⟨Hf,ρ,n,ks,es,I,hz,q⟩=>by
  have⟨ds,r,hz⟩:=bind_some hz
  split at hz
  ·rename_i hn
   refine⟨Hf,ρ,ds,I,r,λc l vs b d=>?_⟩;show jX X.K h G (vs++[]) l Q W;rw[pc];exact⟨c,ds,n,ks,es,b.fh,d,hn,hz,λg H' e dx m o=>q g H' e dx (I.ex.trans (b.trans m)) o⟩
  ·cases hz
theorem Kv(a:PE X e (eX X.K B W g))(hs:swapsWith e none pos.line X.env=pure false:=by rfl):PS X (.Expr e pos) (xV X.K B W g):=(oq a hs).imp λD b H h=>h
theorem Kw(a:PE X e (eX X.K B W g)):PS X (.Return (some e) pos) (xV X.K B W g):=(rV a).imp λD b H h=>h
end
section
variable {P:Program}{w:World}{K:Fg1}{mg:Str->Option Value}{base:Heap}
theorem wT{x b:Str}{st:Stmt}{f:Addr}{l:FuncData}{N ps:List Str}{k:Nat}{gs:ao->Option D}(F:ec K x b st f l)(S:ay N ps (bt st))
  (d:∀(c:Value) (A:Around) (a:List Env) (s:Shared) (H:Hp) (E:XK) (B:Bs),aM k (A.deeper (envOfC b (bt st) s.heap.objs.size f c))->bT ((cP (cG P w) P w K mg base N b (bt st) f c A a s H E).wish (oH (cP (cG P w) P w K mg base N b (bt st) f c A a s H E) E)) (e6 st) (xV K B E gs)):ax P w K mg base (cG P w) (k+1) f l ps (jX K ps.length (m9 ps.length N.length gs)):=by
 refine F.okX S (λvs H Q E ⟨Hf,ds,n,ks,es,_,g,h,_⟩=>by rw[<-h,g.length]) λc A a s H vs Q E m ⟨Hf,ds,n,ks,es,hs,g,h,i,q⟩=>?_
 refine⟨_,d c A a s H E ⟨Hf,H⟩ m,Hf,dP N.length ds,n,ks,es,VI.init hs g,?_,λj H' e dx o p=>q j H' e dx o p⟩;unfold m9 at i;rw[da h]at i;exact i
end
def wU(ρ:ao)(j:Nat):Bool:=match ρ[j]? with|some none=>true|_=>false
theorem Kx(h:wU ρ j=true):ρ[j]?=some none:=by
 unfold wU at h
 split at h
 ·assumption
 ·cases h
def oK(m i j np:Nat)(F G:List D->Option D)(fr:ao->Option (List D)):ao->aT:=λρ=>match fr ρ with
 | some ds=>if ds.length=np/\wU ρ j=true/\i≠j then (match F ds with
  |some d=>.nx (ρ.set m (some (.sh d)))
  |none=>match G ds with|some (.er n ks es)=>.nx (ρ.set i (some (.sh (.er n ks es))))|_=>.bad) else .bad
 |none=>.bad
theorem VI.gone{K:Fg1}{B:Bs}{Hf H:Hp}{ρ:ao}{g:St}{i j:Nat}{d:D}{v:V}(I:VI K B Hf ρ g H)(E:ρ[j]?=some none)(n:i≠j)(h:Dn K Hf d v):VI K B Hf (ρ.set i (some (.sh d))) (((g.set j (some v)).set i (some v)).set j none) H:=by
 have c:=I.set (i:=i) h
 have a:∀{l:Nat} {sl:Sl},(ρ.set i (some (.sh d)))[l]?=some (some sl)->l≠j:=λ{l sl} e z=>by
  subst z;rw[ua n,E]at e;cases e
 have f:∀{l:Nat},l≠j->(((g.set j (some v)).set i (some v)).set j none)[l]?=(g.set i (some v))[l]?:=λ{l} hl=>by
  rw[ua (ve hl)];by_cases b:i=l
  ·subst b
   simp[List.getElem?_set]
  ·rw[ua b,ua b,ua (ve hl)]
 refine⟨c.ex,by simpa using c.len,λl sl e=>?_,λl sl p e o q=>?_,λl m sl w p e1 e2 x y r s=>?_⟩
 ·have⟨u,A,C⟩:=c.ok l sl e
  exact⟨u,by rw[f (a e)];exact A,C⟩
 ·rw[f (a e)]at q;exact c.own l sl p e o q
 ·rw[f (a e1)]at r
  rw[f (a e2)]at s;exact c.dis l m sl w p e1 e2 x y r s
theorem Ky{K:Fg1}{Hf H:Hp}{n:Str}{ks:List Str}{es:List D}{e:Addr}(s:aS Hf H)(h:Dn K Hf (.er n ks es) (.ref e)):∃C dx,H e=some (.ext (dq e C dx))/\e8 K n C:=by
 obtain⟨k,h⟩:=h
 cases k with
 |zero=>exact h.elim
 |succ k =>
  obtain⟨c,C,dx,fs,e1,a,b,_⟩:=h;cases e1;exact⟨C,dx,s _ _ a,b⟩
section
variable {X:Cx}{B:Bs}{k:Nat}{f:Addr}{fd:FuncData}{ps:List Str}{F G:List D->Option D}{np:Nat}{fr:ao->Option (List D)}
variable {fx n told:Str}{i j:Nat}{p cp ep pos np' pt pn pa hp:Pos}{a:Expr}{as:List Expr}
theorem Kz{D:eA}{l:St}{H:Hp}{g:V->St->St}{gρ:L2.D->ao->ao}{Hf:Hp}{ρ:ao}{ds:List L2.D}(I:VI X.K B Hf ρ l H)(e:fr ρ=some ds)(hn:ds.length=np)(w:ρ[j]?=some none)(o:i≠j)(x:∀Hf' H' d v,VI X.K B Hf' ρ l H'->Dn X.K Hf' d v->VI X.K B Hf' (gρ d ρ) (g v l) H')
  (q:(∃d,F ds=some d/\gm X.K B Hf (.nx (gρ d ρ)) D)\/(F ds=none/\∃n ks es,G ds=some (.er n ks es)/\gm X.K B Hf (.nx (ρ.set i (some (.sh (.er n ks es))))) D)):wR X.K (aY X.K np F) (jX X.K np G) i j g (aV X.K B fr) D l H:=by
 refine⟨Hf,ρ,ds,I,e,λc y vs a f=>?_⟩;rcases q with⟨d,s,q⟩|⟨_,n,ks,es,u,q⟩
 ·exact .inl ⟨c,ds,d,a.fh,f,hn,s,λHf' H' v b h=>q Hf' _ H' (a.ff.trans b.ff) (x Hf' H' d v ((I.ext a).ext b) h)⟩
 ·refine .inr ⟨c,ds,n,ks,es,a.fh,f,hn,u,λHf' H' e dx b h=>?_⟩
  have⟨C,m,p,r⟩:=Ky b.fh h;exact⟨e,n,C,m,rfl,p,r,q Hf' _ H' (a.ff.trans b.ff) (((I.ext a).ext b).gone w o h)⟩
theorem KA {m:Nat}{x:Str}{y:Pos} (J:ax X.prog X.w X.K X.mg X.base aQ k f fd ps (aY X.K np F)) (L:ax X.prog X.w X.K X.mg X.base (cG X.prog X.w) k f fd ps (jX X.K np G)) (M:aM k X.A) (O:Gl X fx) (hm:X.mg fx=some (.ref f)) (P:PySem.W.keepIn X.K (.ref f)=true) (Q:c9 X.K fd ps []) (c:Gl X "PageError")
  (g:X.stack=X.env::X.outer/\X.env.frame=some X.env.locals) (R:X.N.Nodup) (T:X.N[i]?=some told) (U:X.N[j]?=some n) (Y:X.N[m]?=some x) (hl:X.env.scope.names.lookup told=some .local) (h:X.env.scope.names.lookup n=some .local) (l:X.env.scope.names.lookup x=some .local) (Z:∀Ec,PA (X.wish Ec) (a::as) (aV X.K B fr))
  (o:(fx == ("__debug__" : Str))=false:=by decide) (he:starEach (a::as) X.env=(false,eval a X.env)::starEach as X.env:=by rfl) (r:(backTo cp (starEach as X.env)).any (·.1)=false:=by rfl) (hd:(n == ("__debug__" : Str))=false:=by decide) (s:(n == ("__classdict__" : Str))=false:=by decide)
  (u:swapsWith (.Name n pn) (some (.Name told pt)) pa.line X.env=pure false:=by rfl) (v:swapsWith (.Call (.Name fx p) (a::as) [] cp) (some (.Name x y)) ep.line X.env=pure false:=by rfl) :
  PS X (.Try [.Assign [.Name x y] (.Call (.Name fx p) (a::as) [] cp) ep] [.ExceptHandler (some (.Name "PageError" np')) (some n) [.Assign [.Name told pt] (.Name n pn) pa] hp] [] [] pos) (sV X.K B (oK m i j np F G fr)) :=
 (Kh J L M O hm P Q c g R T U Y hl h l Z o he r hd s u v).imp λD σ H ⟨Hf,ρ,I,q⟩=>by
  unfold oK at q
  cases e:fr ρ with
  |none=>rw[e]at q;exact q.elim
  |some ds =>
   rw[e]at q;dsimp only at q
   split at q
   ·rename_i b
    refine Kz (gρ:=λd ρ=>ρ.set m (some (.sh d))) I e b.1 (Kx b.2.1) b.2.2 (λ_ _ _ _ z C=>z.set C) ?_
    cases e2:F ds with
    |some d=>rw[e2]at q;exact .inl ⟨d,rfl,q⟩
    |none =>
     rw[e2]at q;refine .inr ⟨rfl,?_⟩;dsimp only at q
     split at q
     ·rename_i n ks es E;exact⟨n,ks,es,E,q⟩
     ·exact q.elim
   ·exact q.elim
end
noncomputable def iq(f:Str)(d:D):Option D:=match d with
 |.er _ ks ds=>(ks.zip ds).lookup f
 |_=>none
noncomputable def jF(n:Str)(d:D):Option D:=match d with
 |.er m _ _=>some (.bl (decide (m=n)))
 |.sc .non=>some (.bl false)
 |_=>none
theorem BQ{K:Fg1}{H:Hp}{k:Nat}{f:Str}{d:D}:∀{ks:List Str}{ds:List D}{fs:List (Str×V)},fs.map Prod.fst=ks->Paired (gP K H k) ds (fs.map Prod.snd)->(ks.zip ds).lookup f=some d->∃v,fs.lookup f=some v/\gP K H k d v
 |[],ds,fs,c,g,b=>by simp at b
 |kk::ks,ds,[],c,g,b=>by cases c
 |kk::ks,ds,(a,v)::fs,c,g,b=>by
  rw[ja]at c g
  cases g with
  |cons h i =>
   rename_i j r;have⟨e1,e2⟩:=fm c;have e1:a=kk:=e1;subst e1;rw[bg,af]at b;rw[af]
   cases e:(f == a) with
   |true=>rw[e]at b;cases b;exact⟨v,rfl,h⟩
   |false=>rw[e]at b;exact BQ e2 i b
section
variable {X:Cx}{B:Bs}{a e:Expr}{fa:ao->Option D}{pos p p':Pos}
theorem oM{f:Str}(M:f∈gM)(N:PE X e (eV X.K B fa))(O:attributeBase e f X.env (eval e X.env)=eval e X.env:=by rfl):PE X (.Attribute e f pos) (eV X.K B (e1 (iq f) fa)):=by
 intro h s p H Q I ⟨Hf,ρ,z,r,hz,q⟩;have⟨d,x,hz⟩:=bind_some hz;unfold iq at hz
 split at hz
 ·rename_i n ks ds
  refine Ge O (aX (N h s p H (λv b=>∃a,Ex Hf H a b/\Dn X.K a (.er n ks ds) v) I ⟨Hf,ρ,_,r,x,λa b v g i=>⟨a,g,i⟩⟩) λu R ⟨v,b,j,l,a,g,k,i⟩=>?_)
  cases k with
  |zero=>exact i.elim
  |succ k =>
   obtain⟨e',C,dx,fs,e1,y,⟨P,Y,c,_⟩,A,E,F,G⟩:=i;subst e1;obtain rfl:u=Value.ref e':=l;have⟨w,J,L⟩:=BQ F G hz;exact Jj j c M (g.fh _ _ y) (g.fh _ _ E) A J λT U m o=>⟨w,b,m,o,q a b w g ⟨k,L⟩⟩
 ·cases hz
def KB(K:Fg1):List V->Hp->VK->Prop:=λxs H Q=>∃x c u b,xs=[x,c]/\bj c u/\((∃e C dx nm P fI,x=.ref e/\H e=some (.ext (dq e C dx))/\cU K nm C P fI/\PySem.W.kitOne K (.ref C) u=some b)\/(x=.non/\PySem.W.kitOne K (.type "NoneType") u=some b))/\(c=.ty "ValueError" \/ ∃a,c=.ref a)/\Q (.bl b) H
theorem KC:d2 X (.builtin "isinstance") (KB X.K):=by
 intro f s y H vs A Q I m h;obtain⟨x,c,n,b,rfl,g,ty,o,q⟩:=h;obtain⟨u,p,rfl,i,j⟩:=ou m
 have w:p=n:=by
  rcases o with rfl|⟨a,rfl⟩
  ·cases g;cases j;rfl
  ·cases g;cases j;rfl
 subst w;rcases ty with⟨e,C,dx,nm,P,B,rfl,r,v,d⟩|⟨rfl,d⟩
 ·cases i
  exact PySem.W.kia_one (Kr v) I.kIn (I.hok.ext r) d (λz=>nomatch z) λl=>⟨.bl b,H,I.tok _,rfl,q⟩
 ·cases i
  exact PySem.W.kia_one PySem.W.kitx_none I.kIn ug d (λz=>nomatch z) λl=>⟨.bl b,H,I.tok _,rfl,q⟩
theorem KD (c:Gl X x) (hm:X.mg x=some (.ref C)) (a:(x == ("__debug__" : Str))=false:=by decide):PE X (.Name x p) (λ_ H Q=>Q (.ref C) H):=λb s d H Q I h=>mB I c hm ⟨.ref C,H,I,rfl,h⟩ a
theorem lz (w:e8 X.K n C) (F:Gl X "isinstance") (hm:X.mg "isinstance" = none) (i:Gl X n) (j:X.mg n=some (.ref C)) (G:PE X a (eV X.K B fa)) (l:(n == ("__debug__" : Str))=false:=by decide)
  (f:starEach [a,.Name n p'] X.env=(false,eval a X.env)::starEach [.Name n p'] X.env:=by rfl) (o:starEach [.Name n p'] X.env=[(false,eval (.Name n p') X.env)]:=by rfl) (r:(backTo pos (starEach [.Name n p'] X.env)).any (·.1)=false:=by rfl):PE X (.Call (.Name "isinstance" p) [a,.Name n p'] [] pos) (eV X.K B (e1 (jF n) fa)) :=
 (ss KC F hm AT (g9 G (g9 (KD i j l) jt o) f) (by decide) (by decide) f r).imp λJ H Q ⟨Hf,ρ,z,I,hz,q⟩=>by
  have⟨d,s,hz⟩:=bind_some hz;unfold jF at hz
  split at hz
  ·rename_i m ks ds
   cases hz;refine⟨Hf,ρ,_,I,s,λe h v b ⟨k,g⟩=>?_⟩
   cases k with
   |zero=>exact g.elim
   |succ k =>
    obtain⟨x,y,dx,fs,rfl,A,u,_⟩:=g;have⟨P,E,c,_⟩:=id u;exact⟨_,.ref C,.ref C,_,rfl,rfl,.inl ⟨x,y,dx,m,P,E,rfl,b.fh _ _ A,c,Kt u w⟩,.inr ⟨C,rfl⟩,q e h _ b (cE rfl)⟩
  ·cases hz
   refine⟨Hf,ρ,_,I,s,λe h v b g=>?_⟩;rw[g.sc.2];exact⟨_,.ref C,.ref C,_,rfl,rfl,.inr ⟨rfl,Ku w⟩,.inr ⟨C,rfl⟩,q e h _ b (cE rfl)⟩
  ·cases hz
end
noncomputable def tu(l:List DictEntry)(n:Str):Option Value:=(l.find? λe=>e.key.isStr n).map (·.val)
theorem BR(es:Array DictEntry)(n:Str):nsFind es n=tu es.toList n:=by unfold nsFind findBy tu;rw[<-Array.find?_toList]
def tw(K:Fg1)(N:Addr)(a:Option Value):Bool:=match K.lookup N with
 |some ⟨_,_,.dict es _,_⟩=>es.toList.all (λe=>match e.key with|.str _ _=>true|_=>false) && (jz.all λn=>(tu es.toList n).isNone) && (tu es.toList "__init__" == a)
 |_=>false
theorem BS{K:Fg1}{N:Addr}{ini:Option Value}(h:tw K N ini=true):pZ K N ini:=by
 unfold tw at h
 split at h
 ·rename_i c d es ep sl hl
  simp only[jb]at h;obtain⟨⟨f,g⟩,i⟩:=h;refine⟨c,d,es,ep,sl,hl,λe b=>?_,λn hn=>?_,by rw[BR];exact xk.mp i⟩
  ·have a:=vc.mp f e (kq.mpr b)
   cases j:e.key <;> rw[j]at a <;> first|exact⟨_,_,rfl⟩|cases a
  ·rw[BR];exact Option.isNone_iff_eq_none.mp (vc.mp g n hn)
 ·cases h
noncomputable def tz(o:Obj)(a:List Value):Option ClassData:=match o.data with
 |.cls cd=>if (o.cls == .type "type")=true/\(cd.mro == a)=true/\cd.hasDel=false/\o.slots.size=6/\(o.slots[4]? == some (some (.builtin "ValueError.__new__")))=true then some cd else none
 |_=>none
theorem BT(h:tz o (.ref C::bm)=some cd):∃q bs j a m b dd d e k2 f g,o=excClassObj cd.name q C cd.ns bs bm cd.hasDict j a m b dd d e k2 f g "ValueError.__new__":=by
 unfold tz at h;obtain⟨r,s,u,⟨l⟩⟩:=o;dsimp only at h
 split at h
 ·split at h
  ·rename_i p
   cases h;obtain⟨v,w,x,y,z⟩:=p
   obtain⟨d,e,k2,f,g,rfl⟩:=six_places (l:=l) (by simpa using y) (by simpa using xk.mp z);obtain rfl:r=.type "type":=xk.mp v;obtain⟨nm,bs,i,N,q,n,j,a,m,b,c⟩:=cd;obtain rfl:i=.ref C::bm:=xk.mp w;obtain rfl:c=false:=x;exact⟨q,bs,j,a,m,b,s,d,e,k2,f,g,rfl⟩
  ·cases h
 ·cases h
def jZ(K:Fg1)(nm:Str)(C P:Addr)(fI:Option Addr):Bool :=
 (match (K.lookup C).bind λo=>tz o (.ref C::.ref P::dN) with|some cd=>(cd.name == nm) && cd.hasDict && tw K cd.ns (fI.map Value.ref)|none=>false) &&
 (match (K.lookup P).bind λo=>tz o (.ref P::dN) with|some cd=>tw K cd.ns none|none=>false)
theorem lA{K:Fg1}{nm:Str}{C P:Addr}{fI:Option Addr}(h:jZ K nm C P fI=true):cU K nm C P fI:=by
 unfold jZ at h;rw[jb]at h;obtain⟨d,f⟩:=h;refine⟨?_,?_⟩
 ·split at d
  ·rename_i c e
   have⟨o,g,e⟩:=bind_some e;simp only[jb]at d;obtain⟨⟨r,s⟩,u⟩:=d;obtain⟨q,bs,i,a,j,b,dd,l,m,k2,n,p,rfl⟩:=BT e;refine⟨q,c.ns,bs,i,a,j,b,dd,l,m,k2,n,p,?_,BS u⟩;rw[g,s,xk.mp r]
  ·cases d
 ·split at f
  ·rename_i c e
   have⟨o,g,e⟩:=bind_some e;obtain⟨q,bs,i,a,j,b,dd,l,m,k2,n,p,rfl⟩:=BT e;exact⟨c.name,q,c.ns,bs,c.hasDict,i,a,j,b,dd,l,m,k2,n,p,g,BS f⟩
  ·cases f
theorem KF(h:f ρ=.nx ρ'):aO f g ρ=g ρ':=by unfold aO;rw[h]
theorem st(h:f ρ=.nx ρ')(k:g ρ'=o):aO f g ρ=o:=(KF h).trans k
theorem jG(h:f ρ=.rt d):aO f g ρ=.rt d:=by unfold aO;rw[h]
theorem eK(h:ft ρ=some true):bK ft f g ρ=f ρ:=by unfold bK;rw[h]
theorem cx(h:ft ρ=some false):bK ft f g ρ=g ρ:=by unfold bK;rw[h]
theorem bM(h:fe ρ=some d):a0 i fe ρ=.nx (ρ.set i (some (.sh d))):=by unfold a0;rw[h]
theorem dQ(h:fe ρ=some d):bH fe ρ=.rt d:=by unfold bH;rw[h]
theorem iu(h:fi ρ=some ds)(a:dO g f ds ρ=o):d4 fi g f ρ=o:=by unfold d4;rw[h];exact a
theorem cS(hl:ds.length=np)(h:f (dP n ds)=.rt d):bX np n f ds=some d:=by unfold bX;rw[da hl,h]
theorem BU(hl:ds.length=np)(h:f (dP n ds)=.rw d):h9 np n f ds=some d:=by unfold h9;rw[da hl,h]
theorem aI(a:fa ρ=some d)(b:fb ρ=some e)(c:g d e=some z):e2 g fa fb ρ=some z:=by unfold e2;rw[a,b];exact c
theorem bN(a:fr ρ=some ds)(b:g ds=some z):eN g fr ρ=some z:=by unfold eN;rw[a];exact b
theorem cB(a:fr ρ=some ds)(hn:ds.length=np)(b:F ds=some z):bv np F fr ρ=some z:=by unfold bv;rw[a];show (if ds.length=np then F ds else none)=_;rw[da hn];exact b
theorem tB(a:fr ρ=some ds)(b:g ds=some xs):iR g fr ρ=some xs:=by unfold iR;rw[a];exact b
theorem qD(a:fa ρ=some d)(b:jD d=some xs):iE fa ρ=some xs:=by unfold iE;rw[a];exact b
theorem iY(a:f ρ=some xs):eL f ρ=some (.lst xs):=by unfold eL;rw[a];rfl
theorem nn(a:fi ρ=some ds)(hl:ds.length<=sizeLine)(b:eI g tt te (gl n cap ρ) ds=some rs):dV n cap fi g tt te ρ=some rs:=by unfold dV;rw[a];show (if ds.length<=sizeLine then _ else _)=_;rw[da hl];exact b
theorem oO(a:fo ρ=some d)(b:fr ρ=some ds)(c:eU d=T)(e:g d ds=some z):eM T g fo fr ρ=some z:=by unfold eM;rw[a,b];show (if eU d=T then g d ds else none)=_;rw[da c];exact e
theorem gU(h:fw d e=some b):bR d e=some (.bl b):=by unfold bR;rw[h];rfl
theorem wV(h:fw d e=some b):fQ d e=some (.bl (!b)):=by unfold fQ;rw[h];rfl
theorem tD(h:iS d e=some b):ee d e=some (.bl b):=by unfold ee;rw[h];rfl
theorem tF(h:iS d e=some b):dF d e=some (.bl (!b)):=by unfold dF;rw[h];rfl
theorem aP(a:fa ρ=some d)(b:fr ρ=some ds):aC fa fr ρ=some (d::ds):=by unfold aC;rw[a,b];rfl
theorem BV(h:fa ρ=some true):dA fa fb ρ=some true:=by unfold dA;rw[h];rfl
theorem BW(h:fa ρ=some false)(a:fb ρ=some b):dA fa fb ρ=some b:=by unfold dA;rw[h];exact a
theorem oP(h:fa ρ=some false):bV fa fb ρ=some false:=by unfold bV;rw[h];rfl
theorem l4(h:fa ρ=some true)(a:fb ρ=some b):bV fa fb ρ=some b:=by unfold bV;rw[h];exact a
theorem nq(h:fa ρ=some b):cL fa ρ=some (!b):=by unfold cL;rw[h];rfl
theorem wW(h:fa ρ=some b):eT fa ρ=some (.bl b):=by unfold eT;rw[h];rfl
theorem bU(h:fa ρ=some (.bl b)):tE fa ρ=some b:=by unfold tE;rw[h];rfl
theorem tG(a:α->D){g:D->ao->Option ao}{c:ao->Option Bool}{te:ao->Option D}{ρ:ao}(p:α->Bool)(k:α->D):∀(xs:List α),(∀x∈xs,∃ρ1,g (a x) ρ=some ρ1/\c ρ1=some (p x)/\(p x=true->te ρ1=some (k x)))->eI g c te ρ (xs.map a)=some ((xs.filter p).map k)
 |[],_=>rfl
 |x::r,h=>by
  obtain⟨ρ1,e,f,i⟩:=h x (by simp);have j:=tG a p k r λy d=>h y (by simp[d])
  rw[ja,eI,e,xa,f,xa,j]
  cases b:p x with
  |true=>rw[da rfl,i b,ij b];rfl
  |false=>rw[qa ma,jj (by simp[b])]
theorem oQ(a:α->D){g:D->ao->Option ao}{b:ao->Option Bool}{te:ao->Option D}{ρ:ao}(k:α->D)(xs:List α)(h:∀x∈xs,∃ρ1,g (a x) ρ=some ρ1/\b ρ1=some true/\te ρ1=some (k x)):eI g b te ρ (xs.map a)=some (xs.map k):=by
 rw[tG a (λ_=>true) k xs λx c=>let ⟨ρ1,d,e,f⟩:=h x c;⟨ρ1,d,e,λ_=>f⟩]
 congr 1
 congr 1
 exact List.filter_eq_self.mpr λ_ _=>rfl
theorem KG(l:List Nat):jD (.sc (.str (S l)))=some (l.map λc=>.str [c]):=rfl
theorem gW(l m:List Nat)(h:l.length+m.length<=sizeLine):bS (.sc (.str (S l))) (.sc (.str (S m)))=some (.str (l++m)):=by
 unfold bS;dsimp only;rw[da (by rw[kx,kx];exact h),v4]
theorem wX(c:Nat)(l:List Nat):iS (.sc (.str (S [c]))) (.sc (.str (S l)))=some (decide (c∈l)):=by
 unfold iS;dsimp only;rw[Ih]
theorem KH(c:Nat)(l:List Nat)(h:c∈l):qx (.sc (.str (S l))) [.sc (.str (S [c]))]=some (.int (di c l)):=by
 have⟨r,e⟩:=Ii l c 1 (bb _) h;unfold qx;dsimp only;rw[e];rfl
theorem wY(l:List Nat)(j:Nat)(h:l.length<=sizeLine):lw (.sc (.str (S l))) none (some (j:Int))=some (.str (l.take j)):=by
 unfold lw;dsimp only;rw[da (by rw[kx];exact h),Ir]
theorem BX(l:List Nat)(i:Nat)(h:l.length<=sizeLine)(a:i<=l.length):lw (.sc (.str (S l))) (some (i:Int)) none=some (.str (l.drop i)):=by
 unfold lw;dsimp only;rw[da (by rw[kx];exact h),Iu _ _ a]
theorem BY:∀(a:List (List Nat)),oE (a.map D.str)=some (a.map S)
 |[]=>rfl
 |x::r=>by
  show (oE (r.map D.str)).map (S x::·)=_;rw[BY r];rfl
theorem KJ(a:List Nat)(b:List (List Nat))(h:(b.map List.length).sum+b.length * a.length<=16777216):qy (.sc (.str (S a))) [.lst (b.map D.str)]=some (.str (mI a b)):=by
 unfold qy;dsimp only;rw[BY,xa,da,Iv];rw[jc];have e:(λx:Str=>x.length) ∘ S=List.length:=by funext l;exact kx l
 show (b.map ((λx:Str=>x.length) ∘ S)).sum+_<=_;rw[e,ba,kx];exact h
theorem KL(h:c z=true):sQ c f (.sc (.str z)) []=some (.sc (f z)):=da h
theorem KM(h:∀c∈l,c<128)(hl:l.length<=sizeLine):sR (.sc (.str (S l))) []=some (.str (l.map lo1)):=by
 have e:=KL (c:=λ z=>!Builtin.Str.tooLong (Txt.lower z).length) (f:=λ z=>V.str (Txt.lower z)) (z:=S l) (by
  show (!Builtin.Str.tooLong (Txt.lower (S l)).length)=true;rw[AX h,kx,ba];unfold Builtin.Str.tooLong;simp;exact hl)
 unfold sR;rw[e];show some (D.sc (V.str (Txt.lower (S l))))=_;rw[AX h]
theorem jH(h:0<j/\j<1073741824):d3 (.int i) (.int j)=some (.int (i / j)):=by
 unfold d3 gQ;exact da (za h)
theorem gX(h:0<j):dC (.int i) (.int j)=some (.int (i % j)):=by
 unfold dC gQ;exact da (za h)
theorem tH(h:jB i j=true):jU (.int i) (.int j)=some (.int (i * j)):=by
 unfold jU gQ;exact da h
theorem BZ(h:IntMulOk i j):jB i j=true:=by
 unfold IntMulOk at h;unfold jB;rw[ak];exact ge.mpr h
theorem KN(h:-(2 ^ 64)<i/\i<2 ^ 64):jB i j=true:=BZ (r0.ok (.inl h))
theorem wZ(h:-(2 ^ 64)<j/\j<2 ^ 64):jB i j=true:=BZ (r0.ok (.inr h))
theorem kE:bS (.int i) (.int j)=some (.int (i+j)):=rfl
theorem KO:qw (.int i) (.int j)=some (.bl (decide (i<j))):=rfl
theorem B0:wG (.int i) (.int j)=some (.bl (decide (i<=j))):=rfl
theorem nr:fA (.int i) (.int j)=some (.bl (decide (j<i))):=rfl
theorem KP:qs (.int i) (.int j)=some (.bl (decide (j<=i))):=rfl
theorem l5:fw (.int i) (.int j)=some (decide (i=j)):=by
 unfold fw;dsimp only;rw[da ⟨rfl,by simp[jT]⟩,oB];rfl
theorem KQ:fw (.bl i) (.bl j)=some (i == j):=by
 unfold fw;dsimp only;rw[da ⟨rfl,by simp[jT]⟩];rfl
theorem KR(b:0<=i)(d:i<xs.length):∃c,c∈xs/\d8 xs i=some c:=by
 have a:i.toNat<xs.length:=by omega
 have e:((i.toNat:Nat):Int)=i:=by omega
 have h:=lN (xs:=xs) (j:=i.toNat) (v:=xs[i.toNat]) (by simp[a]);rw[e]at h;exact⟨xs[i.toNat],oj a,h⟩
theorem KS(hl:l.length<=sizeLine)(h:d8 l i=some c):aJ (.sc (.str (S l))) (.int i)=some (.str [c]):=by
 unfold aJ;dsimp only;rw[da (by rw[kx];exact hl),jx,h];rfl
theorem kF:aJ (.lst l) (.int i)=d8 l i:=rfl
theorem B1:aJ (.tup l) (.int i)=d8 l i:=rfl
theorem B2{n:Nat}{j:Int}(h:j=n)(hn:n<=1000000):lx [.int j]=some ((List.range n).map λk=>.int ((k:Nat):Int)):=by
 subst h;unfold lx;dsimp only;rw[da ⟨by omega,by omega⟩];unfold gj;simp
theorem KU(a:-1000000<=i)(b:i<=1000000)(c:-1000000<=j)(d:j<=1000000):lV [.int i,.int j]=some (gj i (j - i).toNat):=by
 unfold lV;dsimp only;rw[da ⟨by omega,by omega,by omega,by omega⟩]
theorem tI(xs:List α)(k:Nat):dH xs none (some (k:Int))=xs.take k:=by
 unfold dH;rw[HT.sIx_none,HT.sIx_nat,List.drop_zero,Nat.sub_zero];by_cases h:k<=xs.length
 ·rw[uk h]
 ·rw[am (by omega),List.take_length,vf (by omega)]
theorem w4(xs:List α)(k:Nat):dH xs (some (k:Int)) none=xs.drop k:=by
 unfold dH;rw[HT.sIx_none,HT.sIx_nat];by_cases h:k<=xs.length
 ·rw[uk h]
  exact vf (by simp)
 ·rw[am (by omega),xh,oh (by omega)]
  simp
theorem KW(xs:List α)(a b:Nat)(h:a<=b):dH xs (some (a:Int)) (some (b:Int))=(xs.drop a).take (b - a):=by
 unfold dH;rw[HT.sIx_nat,HT.sIx_nat];by_cases c:b<=xs.length
 ·rw[uk c,uk (by omega)]
 ·rw[am (by omega)]
  by_cases d:a<=xs.length
  ·rw[uk d,vf (by simp),vf (by simp;omega)]
  ·rw[am (by omega),xh,oh (by omega)];simp
theorem l6(f:α->β)(xs:List α)(a b:Option Int):dH (xs.map f) a b=(dH xs a b).map f:=by
 unfold dH;rw[ba,bo,List.map_drop]
theorem w5(h:ds.length+es.length<=sizeLine):bS (.lst ds) (.lst es)=some (.lst (ds++es)):=by
 unfold bS;exact da h
theorem B3(h:(bE LV (.tup ds) && bE LV (.tup es))=true):fw (.tup ds) (.tup es)=some (b9 ds es):=by
 unfold fw;exact da h
theorem B4(h:(bE LV (.lst ds) && bE LV (.lst es))=true):fw (.lst ds) (.lst es)=some (b9 ds es):=by
 unfold fw;exact da h
theorem tJ(l m:List Nat):bG (.str l) (.str m)=decide (l=m):=by
 rw[bG];show (S l == S m)=_;rw[<-oB (S l) (S m)];exact mH v3
theorem B5(l m:Int):bG (.int l) (.int m)=decide (l=m):=by
 rw[bG];show (l == m)=_;rw[<-oB l m]
theorem B6(l m:Bool):bG (.bl l) (.bl m)=(l == m):=by rw[bG];rfl
theorem sz(h:n<=100000):n<=sizeLine:=wd h (by decide)
theorem lB(h:n<=100000):n<sizeLine:=Nat.lt_of_le_of_lt h (by decide)
section
variable {K:Fg1}{B:Bs}
theorem jA.own(h:jA K Hf H sl v)(o:dG sl=true):∃p ob,v=.ref p/\Hf p=none/\H p=some ob:=by
 cases sl with
 |sh d=>cases o
 |ow ds=>obtain⟨p,xs,a,b,c,_⟩:=h;exact⟨p,_,a,b,c⟩
 |dk ks ds=>obtain⟨p,xs,a,b,c,_⟩:=h;exact⟨p,_,a,b,c⟩
 |dt ks ds=>obtain⟨p,xs,a,b,c,_⟩:=h;exact⟨p,_,a,b,c⟩
theorem jA.away(h:jA K Hf H sl v)(e:dG sl=true->v≠.ref p):jA K Hf (aG H p ob) sl v:=by
 cases sl with
 |sh d=>exact h
 |ow ds=>obtain⟨q,xs,rfl,a,b,c⟩:=h;exact⟨q,xs,rfl,a,by rw[aK (λz=>e rfl (by rw[z]))];exact b,c⟩
 |dk ks ds=>obtain⟨q,xs,rfl,a,b,c⟩:=h;exact⟨q,xs,rfl,a,by rw[aK (λz=>e rfl (by rw[z]))];exact b,c⟩
 |dt ks ds=>obtain⟨q,xs,rfl,a,b,c⟩:=h;exact⟨q,xs,rfl,a,by rw[aK (λz=>e rfl (by rw[z]))];exact b,c⟩
theorem VI.mutG(I:VI K B Hf ρ σ H)(d:ρ[i]?=some (some sl))(l:dG sl=true)(w:dG sl'=true)(m:σ[i]?=some (some (.ref p)))(ok:jA K Hf (aG H p ob) sl' (.ref p)):VI K B Hf (ρ.set i (some sl')) σ (aG H p ob):=by
 have F:=I.own i _ p d l m;have M:Hf p=none:=by have⟨q,_,e,h,_⟩:=ok.own w;cases e;exact h
 have v:i<ρ.length:=(ya.mp d).1
 have g:∀{j:Nat} {s:Sl},(ρ.set i (some sl'))[j]?=some (some s)->(j=i/\s=sl')\/(j≠i/\ρ[j]?=some (some s)):=λ{j s} e=>by
  by_cases a:i=j
  ·subst a
   rw[ac v]at e;cases e;exact .inl ⟨rfl,rfl⟩
  ·rw[ua a]at e
   exact .inr ⟨λz=>a z.symm,e⟩
 have fs:aS Hf (aG H p ob):=λb o h=>by
  rw[aK (cC h M)];exact I.fh b o h
 refine⟨⟨I.ex.ff,λb o h=>?_,fs,I.ex.nw,I.ex.nf⟩,by simp[I.len],λj s e=>?_,λj s c e o q=>?_,λj k x y c e1 e2 A C n f=>?_⟩
 ·rw[aK (cC h F)];exact I.ex.hh b o h
 ·rcases g e with⟨rfl,rfl⟩|⟨a,e⟩
  ·exact⟨.ref p,m,ok⟩
  ·have⟨u,E,G⟩:=I.ok j s e
   exact⟨u,E,G.away λo z=>a (by subst z;exact I.dis j i s _ _ e d o l E m)⟩
 ·rcases g e with⟨rfl,rfl⟩|⟨a,e⟩
  ·rw[m]at q;cases q;exact F
  ·exact I.own j s c e o q
 ·rcases g e1 with⟨rfl,rfl⟩|⟨a,e1⟩
  ·rcases g e2 with⟨rfl,rfl⟩|⟨J,e2⟩
   ·rfl
   ·exact I.dis _ k _ y c d e2 l C n f
  ·rcases g e2 with⟨r,L⟩|⟨J,e2⟩
   ·rw[r]at f ⊢
    exact I.dis j _ x _ c e1 d A l n f
   ·exact I.dis j k x y c e1 e2 A C n f
theorem VI.setG(I:VI K B Hf ρ σ H)(M:Ex Hf H Hf' H')(F:H p=none)(O:dG sl=true)(ok:jA K Hf' H' sl (.ref p)):VI K B Hf' (ρ.set i (some sl)) (σ.set i (some (.ref p))) H':=by
 have g:∀{j:Nat} {s:Sl},(ρ.set i (some sl))[j]?=some (some s)->(j=i/\s=sl/\i<ρ.length)\/(j≠i/\ρ[j]?=some (some s)):=λ{j s} e=>by
  by_cases a:i=j
  ·subst a
   rw[yk]at e
   cases q:ρ[i]? with
   |none=>rw[q]at e;cases e
   |some z =>
    rw[q]at e;simp at e;exact .inl ⟨rfl,e.symm,(ya.mp q).1⟩
  ·rw[ua a]at e
   exact .inr ⟨λz=>a z.symm,e⟩
 have E:=I.ext M;have x:B.h p=none:=I.ex.hh.free F
 have b:∀{j:Nat} {s:Sl},ρ[j]?=some (some s)->dG s=true->σ[j]?≠some (some (.ref p)):=λ{j s} e o z=>by
  have⟨v,l,n⟩:=I.ok j s e;rw[z]at l;cases l;have⟨q,N,e1,_,e2⟩:=n.own o;cases e1;rw[F]at e2;cases e2
 refine⟨E.ex,by simp[I.len],λj s e=>?_,λj s m e o q=>?_,λj k G J m e1 e2 y A d c=>?_⟩
 ·rcases g e with⟨rfl,rfl,hl⟩|⟨a,e⟩
  ·exact⟨.ref p,by rw[ac (by rw[<-I.len];exact hl)],ok⟩
  ·have⟨u,l,n⟩:=E.ok j s e
   exact⟨u,by rw[ua (λz=>a z.symm)];exact l,n⟩
 ·rcases g e with⟨rfl,rfl,hl⟩|⟨a,e⟩
  ·rw[ac (by rw[<-I.len];exact hl)]at q
   cases q;exact x
  ·rw[ua (λz=>a z.symm)]at q
   exact I.own j s m e o q
 ·rcases g e1 with⟨rfl,rfl,hl⟩|⟨a,C⟩
  ·rcases g e2 with⟨rfl,rfl,f⟩|⟨r,e2⟩
   ·rfl
   ·rw[ac (by rw[<-I.len];exact hl)]at d
    cases d;rw[ua (λz=>r z.symm)]at c
    exact absurd c (b e2 A)
  ·rw[ua (λz=>a z.symm)]at d
   rcases g e2 with⟨w,L,f⟩|⟨r,e2⟩
   ·subst w
    rw[ac (by rw[<-I.len];exact f)]at c;cases c;exact absurd d (b C y)
   ·rw[ua (λz=>r z.symm)]at c
    exact I.dis j k G J m C e2 y A d c
end
def oR(i:Nat)(sl:Sl):ao->aT:=λρ=>.nx (ρ.set i (some sl))
def jI(sl:Sl)(k d:D):Option Sl:=match sl with
 |.dk ks ds=>(mR k).bind λkey=>if ks.length<sizeLine then some (.dk ((eQ (ks.zip ds) key d).map Prod.fst) ((eQ (ks.zip ds) key d).map Prod.snd)) else none
 |.dt ks ds=>(kB k).bind λkey=>if ks.length<sizeLine then some (.dt ((eQ (ks.zip ds) key d).map Prod.fst) ((eQ (ks.zip ds) key d).map Prod.snd)) else none
 |_=>none
def jJ(i:Nat)(fk fv:ao->Option D):ao->aT:=λρ=>match ρ[i]? with
 |some (some sl)=>match (fv ρ).bind λd=>(fk ρ).bind λk=>jI sl k d with|some a=>.nx (ρ.set i (some a))|none=>.bad
 |_=>.bad
def c0(d k:D):Option D:=(fH d k).bind id
def j0(fo fk fz:ao->Option D):ao->Option D:=λρ=>(fo ρ).bind λd=>(fk ρ).bind λk=>(fz ρ).bind λz=>(fH d k).map λo=>o.getD z
section
variable {X:Cx}{B:Bs}{o e i f:Expr}{pos apos cpos:Pos}{fo fk fz fv:ao->Option D}
theorem KY(b:X.N.Nodup)(c:X.N[j]?=some x)(d:jr X.env.scope x)(hs:swapsWith (.Dict [] [] p2) (some (.Name x pos')) pos.line X.env=pure false:=by rfl)(e:X.fn x=true\/X.env.scope.names.lookup x=some .local:=by first|exact .inl rfl|exact .inr rfl|assumption):PS X (.Assign [.Name x pos'] (.Dict [] [] p2) pos) (sV X.K B (oR j (.dk [] []))) :=
 (lL b c d Jc hs e).imp λD f H ⟨Hf,ρ,I,q⟩=>λp a=>q Hf _ _ (aS.refl _) (I.setG (Ex.made I.fh a) a rfl ⟨p,[],rfl,I.fh.free a,bi,rfl,.nil⟩)
theorem w6(b:X.N.Nodup)(c:X.N[j]?=some x)(d:jr X.env.scope x)(hs:swapsWith (.Dict [] [] p2) (some (.Name x pos')) pos.line X.env=pure false:=by rfl)(e:X.fn x=true\/X.env.scope.names.lookup x=some .local:=by first|exact .inl rfl|exact .inr rfl|assumption):PS X (.Assign [.Name x pos'] (.Dict [] [] p2) pos) (sV X.K B (oR j (.dt [] []))) :=
 (lL b c d A7 hs e).imp λD f H ⟨Hf,ρ,I,q⟩=>λp a=>q Hf _ _ (aS.refl _) (I.setG (Ex.made I.fh a) a rfl ⟨p,[],rfl,I.fh.free a,bi,rfl,.nil⟩)
theorem tK (T:aM n X.A) (U:X.N[j]?=some x) (Y:PE X i (eB X.K B fk)) (Z:PE X value (eV X.K B fv)) (o:gB X.env.scope x:=by first|exact cb rfl|exact mf (cb rfl)|exact mf (mf rfl)) (hd:(x == ("__debug__" : Str))=false:=by decide) (F:(x == ("__classdict__" : Str))=false:=by decide)
  (hs:swapsWith value (some (.Subscript (.Name x p1) i pos')) pos.line X.env=pure false:=by rfl):PS X (.Assign [.Subscript (.Name x p1) i pos'] value pos) (sV X.K B (jJ j fk fv)) :=
 (IW (by have:=T.units;omega) (fN U o hd F) Y Z hs).imp λD G H ⟨Hf,ρ,I,q⟩=>by
  unfold jJ at q
  split at q
  ·rename_i sl e
   split at q
   ·rename_i M hz
    have⟨d,s,hz⟩:=bind_some hz;have⟨k,u,hz⟩:=bind_some hz;have⟨O,w,P⟩:=I.ok j _ e;refine⟨Hf,ρ,d,I,s,λr H1 v c J=>⟨O,w,r,ρ,k,I.ext c,u,λh H2 y a dk=>?_⟩⟩;have L:=(I.ext c).ext a;have l:=(P.ext c).ext a;unfold jI at hz
    split at hz
    ·have⟨g,z,hz⟩:=bind_some hz
     split at hz
     ·rename_i ks ds hl
      cases hz;obtain⟨p,kvs,rfl,C,E,e1,e2⟩:=l
      have R:=Bj dk z;subst R;have m:=(p8 e1 e2).put g (J.same a.ff);exact⟨p,_,rfl,lS.k E (by rw[<-ba (f:=Prod.fst),e1];exact hl),q h G _ (c.ff.trans a.ff) (L.mutG e rfl rfl w ⟨p,_,rfl,C,bi,m.fst,m.snd⟩)⟩
     ·cases hz
    ·have⟨g,z,hz⟩:=bind_some hz
     split at hz
     ·rename_i ks ds hl
      cases hz;obtain⟨p,kvs,rfl,C,E,e1,e2⟩:=l
      obtain⟨b,rfl,Q⟩:=sN dk z;have m:=(p8 e1 e2).put g (J.same a.ff);exact⟨p,_,rfl,lS.t E (a.fh _ _ Q) (by rw[<-ba (f:=Prod.fst),e1];exact hl),q h G _ (c.ff.trans a.ff) (L.mutG e rfl rfl w ⟨p,_,rfl,C,bi,m.fst,m.snd⟩)⟩
     ·cases hz
    ·cases hz
   ·exact q.elim
  ·exact q.elim
theorem kG(E:aM n X.A)(F:PE X o (eB X.K B fo))(G:PE X i (eB X.K B fk))(hs:ww i):PE X (.Subscript o i pos) (eV X.K B (e2 c0 fo fk)) :=
 (IV (by have:=E.units;omega) F G hs).imp λJ H Q ⟨Hf,ρ,z,I,hz,q⟩=>by
  have⟨d,m,hz⟩:=bind_some hz;have⟨k,p,hz⟩:=bind_some hz;refine⟨Hf,ρ,d,I,m,λe L x c dx=>⟨e,ρ,k,I.ext c,p,λf j y b l=>?_⟩⟩;unfold c0 at hz;have⟨s,u,h⟩:=bind_some hz;have h:s=some z:=h;subst h;obtain⟨a,r,rfl,_,g,_,w⟩:=sO b.fh (dx.ext b) l u;obtain⟨v,rfl,C⟩:=w z rfl;exact⟨a,v,rfl,g,q f j v (c.trans b) C⟩
theorem KZ{K:Fg1}{Hf H:Hp}{d k:D}{x:V}{r:Option D}(s:aS Hf H)(c:cK K Hf H d x)(h:fH d k=some r):∃a,x=.ref a/\pY H a:=by
 unfold fH at h
 split at h
 ·obtain⟨a,kvs,rfl,b,_⟩:=c.dk s;exact⟨a,rfl,.inl ⟨kvs,.inl b⟩⟩
 ·obtain⟨a,kvs,rfl,b,_⟩:=c.dt s;exact⟨a,rfl,.inr ⟨kvs,.inl b⟩⟩
 ·cases h
theorem tL {n:Nat} (T:aM n X.A) (U:PE X o (eB X.K B fo)) (Y:PE X e (eB X.K B fk)) (Z:PE X f (eV X.K B fz)) (m:M2 X o "get" apos e f cpos:=by exact⟨rfl,rfl,rfl,rfl⟩):PE X (.Call (.Attribute o "get" apos) [e,f] [] cpos) (eV X.K B (j0 fo fk fz)) :=
 (Jf (by have:=T.units;omega) U Y Z m).imp λσ H Q ⟨Hf,ρ,z,I,hz,q⟩=>by
  have⟨d,J,hz⟩:=bind_some hz;have⟨k,L,hz⟩:=bind_some hz;have⟨t,M,hz⟩:=bind_some hz;have⟨N,C,E⟩:=lb.mp hz;refine⟨Hf,ρ,d,I,J,λj H1 x b dx=>?_⟩;obtain⟨a,rfl,p⟩:=KZ b.fh dx C;refine⟨a,rfl,p,j,ρ,k,I.ext b,L,λl H2 y h F=>⟨l,ρ,t,(I.ext b).ext h,M,λi s u c G=>?_⟩⟩;have⟨a',r,e,_,g,O,P⟩:=sO c.fh ((dx.ext h).ext c) (F.ext c) C;cases e;refine⟨r,g,?_⟩
  cases N with
  |none=>subst E;rw[O rfl];exact q i s _ ((b.trans h).trans c) G
  |some w=>subst E;obtain⟨v,rfl,R⟩:=P w rfl;exact q i s v ((b.trans h).trans c) R
end
end L2
namespace L2
open PySem PySem.W PyProof.Rows
structure WO(lt:Nat->Nat->Bool):Prop where
 irr:∀a,lt a a=false
 nt:∀a b c,lt a c=true->lt a b=true\/lt b c=true
 asy:∀a b,lt a b=true->lt b a=false
def dR(lt:Nat->Nat->Bool)(n:Nat){α:Type}:KasT α->(α->Prop)->Prop
 |.ret a,Q=>Q a
 |.ask i j k,Q=>i<n/\j<n/\dR lt n (k (lt i j)) Q
section
variable {lt:Nat->Nat->Bool}{n:Nat}{α β:Type}
theorem dR.bind:∀(t:KasT α),dR lt n t (λa=>dR lt n (f a) Q)->dR lt n (t.bind f) Q
 |.ret a,h=>by rw[KasT.bind.eq_1];exact h
 |.ask i j k,h=>by rw[KasT.bind.eq_2];exact⟨h.1,h.2.1,dR.bind _ h.2.2⟩
theorem dR.mono(m:∀a,Q a->Q' a):∀{t:KasT α},dR lt n t Q->dR lt n t Q'
 |.ret a,h=>m a h
 |.ask i j k,h=>⟨h.1,h.2.1,dR.mono m h.2.2⟩
theorem dR.wp{b:Nat->Nat->(Bool->Shared->Prop)->Shared->Prop}{s:Shared}{Q:α->Prop}{G:α->Shared->Prop}(c:∀i j C,i<n->j<n->C (lt i j) s->b i j C s)(d:∀a,Q a->G a s):∀{t:KasT α},dR lt n t Q->KasT.kasWp b t G s
 |.ret a,h=>by rw[KasT.kasWp.eq_1];exact d a h
 |.ask i j k,h=>by rw[KasT.kasWp.eq_2];exact c i j _ h.1 h.2.1 (dR.wp c d h.2.2)
end
noncomputable abbrev gp(p:Array Nat)(i:Nat):Nat:=p.getD i 0
theorem l7(p:Array Nat)(i:Nat):gp p i=(p[i]?).getD 0:=by simp[gp,Array.getD_eq_getD_getElem?]
def Ix(n:Nat)(p:Array Nat):Prop:=p.toList.Perm (List.range n)
section
variable {lt:Nat->Nat->Bool}{n:Nat}{p q:Array Nat}
theorem Ix.size(h:Ix n p):p.size=n:=by have:=h.length_eq;simpa using this
theorem Ix.bd(h:Ix n p)(hn:0<n)(i:Nat):gp p i<n:=by
 rw[l7]
 cases e:p[i]? with
 |none=>exact hn
 |some x =>
  have:x∈p.toList:=by
   obtain⟨a,rfl⟩:=pd.mp e;simp
  exact dh.mp (h.mem_iff.mp this)
theorem Ix.of(h:Ix n p)(a:q.Perm p):Ix n q:=(Array.perm_iff_toList_perm.mp a).trans h
def Up(lt:Nat->Nat->Bool)(p:Array Nat)(k:Nat):Prop:=∀i j,i<=j->j<k->lt (gp p j) (gp p i)=false
def Dw(lt:Nat->Nat->Bool)(p:Array Nat)(k:Nat):Prop:=∀i j,i<=j->j<k->lt (gp p i) (gp p j)=false
theorem WO.le(w:WO lt){a b c:Nat}(d:lt b a=false)(e:lt c b=false):lt c a=false:=by
 cases h:lt c a with
 |false=>rfl
 |true =>
  rcases w.nt c b a h with z|z
  ·rw[e]at z;cases z
  ·rw[d]at z;cases z
theorem Up.snoc(w:WO lt){k:Nat}(h:Up lt p k)(d:0<k)(b:lt (gp p k) (gp p (k - 1))=false):Up lt p (k+1):=λi j a c=>by
 by_cases e:j=k
 ·subst e
  by_cases e2:i=j
  ·subst e2;exact w.irr _
  ·exact w.le (h i (j - 1) (by omega) (by omega)) b
 ·exact h i j a (by omega)
theorem Dw.snoc(w:WO lt){k:Nat}(h:Dw lt p k)(d:0<k)(b:lt (gp p (k - 1)) (gp p k)=false):Dw lt p (k+1):=λi j a c=>by
 by_cases e:j=k
 ·subst e
  by_cases e2:i=j
  ·subst e2;exact w.irr _
  ·exact w.le b (h i (j - 1) (by omega) (by omega))
 ·exact h i j a (by omega)
theorem w9(w:WO lt)(hn:0<n)(b:Ix n p):∀(f x:Nat),1<=x->Up lt p x->dR lt n (kas_asc p f x) λm=>x<=m/\m<=x+f/\Up lt p m/\(m<x+f->lt (gp p m) (gp p (m - 1))=true)
 |0,x,e,h=>by rw[kas_asc.eq_1];exact⟨bb _,bb _,h,λz=>absurd z (qh _)⟩
 |f+1,x,e,h=>by
  rw[kas_asc.eq_2];refine⟨b.bd hn x,b.bd hn (x - 1),?_⟩;dsimp only;split
  ·rename_i a;exact⟨bb _,by omega,h,λ_=>a⟩
  ·rename_i a
   have a:lt (gp p x) (gp p (x - 1))=false:=ge.mpr a;exact(w9 w hn b f (x+1) (by omega) (h.snoc w (by omega) a)).mono λm ⟨g,i,c,d⟩=>⟨by omega,by omega,c,λz=>d (by omega)⟩
theorem xq(a:Ix n p){i j:Nat}(b:j<=n)(k:Nat):gp (kas_rev p i j) k=if i<=k/\k<j then gp p (i+j - 1 - k) else gp p k:=by
 rw[l7,show kas_rev p i j=mirror p i j ((j - i) / 2) from rfl,getElem?_mirror_all (by rw[a.size];exact b)]
 split <;> rw[l7]
theorem Ix.rev(a:Ix n p)(i j:Nat):Ix n (kas_rev p i j):=a.of (mirror_perm p i j _)
def B7(lt:Nat->Nat->Bool)(p q:Array Nat):Prop:=∀k,lt (gp p k) (gp q k)=false/\lt (gp q k) (gp p k)=false
theorem Dw.alk(w:WO lt){k:Nat}(h:Dw lt p k)(a:B7 lt p q):Dw lt q k:=λi j b c=>w.le (w.le (a j).1 (h i j b c)) (a i).2
theorem xr(w:WO lt)(d:Ix n p){i j:Nat}(e:j<=n)(c:∀a b,i<=a->a<j->i<=b->b<j->lt (gp p a) (gp p b)=false):B7 lt p (kas_rev p i j):=λk=>by
 rw[xq d e];split
 ·rename_i h;exact⟨c _ _ (by omega) (by omega) (by omega) (by omega),c _ _ (by omega) (by omega) (by omega) (by omega)⟩
 ·exact⟨w.irr _,w.irr _⟩
theorem tM(w:WO lt)(hn:0<n):∀(f:Nat) (p:Array Nat) (i e:Nat),Ix n p->1<=i->i+f<=n->e+1<=i->Dw lt p i->(∀a b,i - (e+1)<=a->a<i->i - (e+1)<=b->b<i->lt (gp p a) (gp p b)=false) →
  dR lt n (kas_desc f p i e) λr=>Ix n r.1/\i<=r.2.1/\r.2.1<=i+f/\r.2.2+1<=r.2.1/\Dw lt r.1 r.2.1/\(∀a b,r.2.1 - (r.2.2+1)<=a->a<r.2.1->r.2.1 - (r.2.2+1)<=b->b<r.2.1->lt (gp r.1 a) (gp r.1 b)=false)
 |0,p,i,e,c,C,E,s,o,h=>by rw[kas_desc.eq_1];exact⟨c,bb _,bb _,s,o,h⟩
 |f+1,p,i,e,c,C,E,s,o,h=>by
  rw[kas_desc.eq_2];refine⟨c.bd hn i,c.bd hn (i - 1),?_⟩;dsimp only;split
  ·rename_i g
   have A:lt (gp p (i - 1)) (gp p i)=false:=w.asy _ _ g;have d:=o.snoc w (by omega) A;split
   ·have B:=xr w c (i:=i - (e+1)) (j:=i) (by omega) h
    exact (tM w hn f _ (i+1) 0 (c.rev _ _) (by omega) (by omega) (by omega) (d.alk w B) (λ a b y z g d=>by
     have:a=b:=by omega
     rw[this];exact w.irr _)).mono λr ⟨l,u,v,m⟩=>⟨l,by omega,by omega,m⟩
   ·exact (tM w hn f _ (i+1) 0 c (by omega) (by omega) (by omega) d (λ a b y z g d=>by
     have:a=b:=by omega
     rw[this];exact w.irr _)).mono λr ⟨l,u,v,m⟩=>⟨l,by omega,by omega,m⟩
  ·rename_i g
   have g:lt (gp p i) (gp p (i - 1))=false:=ge.mpr g;refine⟨c.bd hn (i - 1),c.bd hn i,?_⟩;dsimp only;split
   ·exact⟨c,bb _,by show i<=i+(f+1);omega,s,o,h⟩
   ·rename_i d
    have d:lt (gp p (i - 1)) (gp p i)=false:=ge.mpr d;refine(tM w hn f p (i+1) (e+1) c (by omega) (by omega) (by omega) (o.snoc w (by omega) d) λa b F G b1 b2=>?_).mono λr ⟨l,u,v,m⟩=>⟨l,by omega,by omega,m⟩
    by_cases x:a=i
    ·by_cases q:b=i
     ·rw[x,q];exact w.irr _
     ·rw[x];exact w.le (h (i - 1) b (by omega) (by omega) (by omega) (by omega)) g
    ·by_cases q:b=i
     ·rw[q];exact w.le d (h a (i - 1) (by omega) (by omega) (by omega) (by omega))
     ·exact h a b (by omega) (by omega) (by omega) (by omega)
theorem Dw.turn(a:Ix n p){k:Nat}(b:k<=n)(h:Dw lt p k):Up lt (kas_rev p 0 k) k:=λi j c d=>by
 rw[xq a b,xq a b,da ⟨by omega,d⟩,da ⟨by omega,by omega⟩];exact h _ _ (by omega) (by omega)
theorem B8(w:WO lt)(hn:0<n)(a:Ix n p){k:Nat}(c:1<=k)(d:k<=n)(h:Dw lt p k):dR lt n (kas_tail3 k n p) λr=>Ix n r.2/\r.1<=n/\1<=r.1/\Up lt r.2 r.1:=by
 unfold kas_tail3;refine dR.bind _ ((w9 w hn (a.rev 0 k) (n - k) k c (h.turn a d)).mono λm ⟨e,f,b,_⟩=>?_);exact⟨a.rev 0 k,by omega,by omega,b⟩
theorem B9(w:WO lt)(hn:0<n)(f:Ix n p){k:Nat}(s:1<=k)(u:k+1<=n)(h:Dw lt p (k+1)):dR lt n (kas_descPart k n p) λr=>Ix n r.2/\r.1<=n/\1<=r.1/\Up lt r.2 r.1:=by
 unfold kas_descPart
 refine dR.bind _ ((tM w hn (n - (k+1)) p (k+1) 0 f (by omega) (by omega) (by omega) h (λ a b g i j l=>by
  have:a=b:=by omega
  rw[this];exact w.irr _)).mono λr ⟨c,m,o,q,d,e⟩=>?_)
 split
 ·exact B8 w hn (c.rev _ _) (by omega) (by omega) (d.alk w (xr w c (by omega) e))
 ·exact B8 w hn c (by omega) (by omega) d
theorem K0(w:WO lt)(hn:0<n)(c:Ix n p):dR lt n (kas_count n p) λr=>Ix n r.2/\r.1<=n/\1<=r.1/\Up lt r.2 r.1:=by
 rw[kas_count.eq_1]
 have u:Up lt p 1:=λi j d g=>by
  have:i=j:=by omega
  rw[this];exact w.irr _
 refine dR.bind _ ((w9 w hn c (n - 1) 1 (by omega) u).mono λm ⟨x,y,f,q⟩=>?_);split
 ·rename_i hm
  have:m=n:=by simpa using hm
  exact⟨c,by omega,by omega,f⟩
 ·rename_i hm
  have hm:m≠n:=by simpa using hm
  have l:=q (by omega);have o:lt (gp p (m - 1)) (gp p m)=false:=w.asy _ _ l;split
  ·refine⟨c.bd hn _,c.bd hn _,?_⟩
   dsimp only;split
   ·exact⟨c,by omega,by omega,f⟩
   ·rename_i h
    have h:lt (gp p 0) (gp p (m - 1))=false:=ge.mpr h
    have e:∀a b,0<=a->a<m->0<=b->b<m->lt (gp p a) (gp p b)=false:=λa b _ s _ z =>
     w.le (w.le (f b (m - 1) (by omega) (by omega)) h) (f 0 a (by omega) s)
    have v:Dw lt p m:=λi j d g=>e i j (by omega) (by omega) (by omega) g
    exact B9 w hn (c.rev 0 m) (by omega) (by omega) ((v.snoc w (by omega) o).alk w (xr w c (by omega) e))
  ·have:m=1:=by omega
   subst this
   exact B9 w hn c (by omega) (by omega) (Dw.snoc w (λ i j d g=>by
    have:i=j:=by omega
    rw[this];exact w.irr _) (by omega) o)
theorem xt(w:WO lt)(hn:0<n)(c:Ix n p){k:Nat}(d:Up lt p k):∀(f l r:Nat),l<=r->r<=k->r - l<=f->(∀a,a<l->lt (gp p k) (gp p a)=false)->(∀a,r<=a->a<k->lt (gp p k) (gp p a)=true) →
  dR lt n (kas_place p k f l r) λm=>m<=k/\(∀a,a<m->lt (gp p k) (gp p a)=false)/\∀a,m<=a->a<k->lt (gp p k) (gp p a)=true
 |0,l,r,i,j,q,e,g=>by
  rw[kas_place.eq_1]
  have:l=r:=by omega
  subst this;exact⟨by omega,e,g⟩
 |f+1,l,r,i,j,q,e,g=>by
  rw[kas_place.eq_2];split
  ·have:l=r:=by omega
   subst this;exact⟨by omega,e,g⟩
  ·refine⟨c.bd hn _,c.bd hn _,?_⟩
   dsimp only;split
   ·rename_i b
    refine xt w hn c d f l _ (by omega) (by omega) (by omega) e λa o h=>?_
    rcases w.nt _ (gp p a) _ b with z|z
    ·exact z
    ·rw[d _ a (by omega) h]at z;cases z
   ·rename_i b
    have b:lt (gp p k) (gp p ((l+r) / 2))=false:=ge.mpr b;refine xt w hn c d f _ r (by omega) j (by omega) (λa o=>?_) g;exact w.le (d a ((l+r) / 2) (by omega) (by omega)) b
theorem Ca(w:WO lt)(hn:0<n):∀(f:Nat) (p:Array Nat) (x:Nat),Ix n p->1<=x->x+f=n->Up lt p x->dR lt n (kas_bin f p x) λq=>Ix n q/\Up lt q n
 |0,p,x,d,e,v,b=>by
  rw[kas_bin.eq_1];have:x=n:=by omega
  subst this;exact⟨d,b⟩
 |f+1,p,x,d,e,v,b=>by
  rw[kas_bin.eq_2];refine dR.bind _ ((xt w hn d b x 0 x (by omega) (by omega) (by omega) (λa r=>absurd r (by omega)) (λa e y=>absurd e (by omega))).mono λm ⟨z,s,u⟩=>?_)
  have at_:∀k,gp (bubble p x (x - m)) k=if k=m then gp p x else if m<k/\k<=x then gp p (k - 1) else gp p k:=λk=>by
   rw[l7,getElem?_bubble (by rw[d.size];omega) (x - m) (by omega),show x - (x - m)=m by omega];split
   ·rw[l7]
   ·split <;> rw[l7]
  refine Ca w hn f _ (x+1) (d.of (bubble_perm _ _ _)) (by omega) (by omega) λi j g A=>?_
  rw[at_,at_];by_cases o:j=m
  ·rw[da o]
   by_cases c:i=m
   ·rw[da c];exact w.irr _
   ·rw[qa c,qa (by omega)];exact s i (by omega)
  ·rw[qa o]
   by_cases c:i=m
   ·rw[da c,da ⟨by omega,by omega⟩];exact w.asy _ _ (u (j - 1) (by omega) (by omega))
   ·rw[qa c]
    by_cases h:m<j
    ·rw[da ⟨h,by omega⟩]
     by_cases l:m<i
     ·rw[da ⟨l,by omega⟩];exact b _ _ (by omega) (by omega)
     ·rw[qa (by omega)];exact b _ _ (by omega) (by omega)
    ·rw[qa (by omega),qa (by omega)];exact b _ _ g (by omega)
theorem K1(w:WO lt)(hn:0<n):dR lt n (kas_sort n) λq=>Ix n q/\Up lt q n:=by
 unfold kas_sort;have d:Ix n (List.range n).toArray:=by unfold Ix;exact ki _
 refine dR.bind _ ((K0 w hn d).mono λr ⟨b,e,c,a⟩=>?_);split
 ·rw[show max r.1 1=r.1 by omega]
  exact Ca w hn _ _ _ b c (by omega) a
 ·have:r.1=n:=by omega
  rw[this]at a;exact⟨b,a⟩
end
end L2
namespace L2
open PySem PySem.Spec PyProof.Rows
noncomputable def oU(x:Int):List Int->List Int
 |[]=>[x]
 |y::r=>if x<=y then x::y::r else y::oU x r
def lC:List Int->List Int
 |[]=>[]
 |x::r=>oU x (lC r)
theorem xv(x:Int):∀l,(oU x l).Perm (x::l)
 |[]=>ki _
 |y::r=>by
  unfold oU;split
  ·exact ki _
  ·exact((xv x r).cons y).trans (uq x y r)
theorem qE:∀l,(lC l).Perm l
 |[]=>ki _
 |x::r=>(xv x _).trans ((qE r).cons x)
theorem Cb(x:Int):∀{l:List Int},l.Pairwise (·<=·)->(oU x l).Pairwise (·<=·)
 |[],_=>jo _ _
 |y::r,h=>by
  unfold oU;split
  ·rename_i a
   refine gf.mpr ⟨λz hz=>?_,h⟩;rcases pb.mp hz with rfl|hz
   ·exact a
   ·exact Int.le_trans a ((gf.mp h).1 z hz)
  ·rename_i a
   refine gf.mpr ⟨λz hz=>?_,Cb x (gf.mp h).2⟩;rcases pb.mp ((xv x r).mem_iff.mp hz) with rfl|hz
   ·omega
   ·exact(gf.mp h).1 z hz
theorem Cc:∀l,(lC l).Pairwise (·<=·)
 |[]=>rn
 |x::r=>Cb x (Cc r)
theorem K2{a b:List Int}(e:a.Perm b)(f:a.Pairwise (·<=·))(g:b.Pairwise (·<=·)):a=b :=
 e.eq_of_pairwise (λx y _ _ c d=>Int.le_antisymm c d) f g
theorem Cd:∀(ns:List Int) (a:List Value),a.length=ns.length->(∀(j:Nat) (v:Value),a[j]?=some v->∃i,ns[j]?=some i/\∃t:Tok,v=Value.int i t)->IntsAre a ns
 |[],[],_,_=>.nil
 |[],_::_,h,_=>by simp at h
 |_::_,[],h,_=>by simp at h
 |n::ns,u::a,h,f=>by
  obtain⟨i,b,t,rfl⟩:=f 0 u rfl;cases b;exact .cons _ t (Cd ns a (by simpa using h) λj v e=>f (j+1) v (by simpa using e))
theorem KV.fst:∀{kvs:List (κ×V)}{vs:List (κ×Value)},KV kvs vs->vs.map Prod.fst=kvs.map Prod.fst
 |_,_,.nil=>rfl
 |_,_,.cons a b=>by rw[ja,ja,a.1,KV.fst b]
theorem KV.len(h:KV kvs vs):kvs.length=vs.length:=Paired.length h
def K3:List V->Hp->VK->Prop:=λxs H Q=>∃a kvs ns,xs=[.ref a]/\Rd H a (.dK kvs)/\kvs.map Prod.fst=ns.map Sum.inl/\ns.length<64/\∀p,H p=none->Q (.ref p) (aG H p (.lst ((lC ns).map V.int)))
section
variable {X:Cx}
theorem K4(hc:X.calm=true):d2 X (.builtin "sorted") K3:=by
 intro p s T H xs us Q I U h;obtain⟨a,kvs,ns,rfl,Y,J,B,q⟩:=h;obtain⟨u,rfl,Z⟩:=g8 U;cases Z;have⟨z,hd,vs,r,dd⟩:=lR I.hok Y;have⟨ep,C⟩:=dd.dictAt;have g:vs.length=ns.length:=by rw[<-KV.len r,<-ba (f:=Prod.fst),J,ba]
 refine PySem.Calls.call_function_entry kind_sorted plain_sorted entry_sorted (args_sorted1 _) ?_
 unfold Builtin.«sorted»;refine aa (m:=checkCount "sorted" 1 1 _) (ia ?_);refine aa (PySem.W.kdu_collect (A:=X.A.in1) (PySem.W.kdl_dict (knd:=fM X.prog X.w) (kvs:=vs) (ep:=ep) hd) (I.ok.hd hc) C (by rw[g];exact sz (by omega)) λh' G c l d=>?_);have n:c.toList.length=ns.length:=by rw[pf,<-g];exact d.1
 have hI:IntsAre c.toList ns:=Cd ns _ n λj v e=>by
  obtain⟨k,x,e1,e2⟩:=d.2 j v (by rw[<-wg];exact e);have L:(vs.map Prod.fst)[j]?=some k:=by rw[ed,e1];rfl
  rw[KV.fst r,J,ed]at L;have⟨i,h1,h2⟩:=lb.mp L;subst h2;rcases ku (show mz (Sum.inl i) v=true from e2) with⟨i',t,E,K⟩|⟨x',t,E,K⟩
  ·cases E;exact⟨i,h1,t,K⟩
  ·cases E
 refine aa (wpAny_newList ?_ (by rw[n];exact sz (by omega)));have o:(h'.push (seqObj "list" c.toList.toArray 0)).get? h'.objs.size=some (seqObj "list" c.toList.toArray 0):=zb _ rfl;refine aa (qe (lj slot_list_sort ⟨_,o,rfl⟩ entry_list_sort (list_sort_tree o hI (by rw[n];exact B) λout N O P R=>⟨_,rfl,?_⟩) (args_list_sort _)));refine ia ⟨_,rfl,?_⟩;have⟨e,he⟩:=sortedHeap_at (out:=out) o;have M:aw X p T H { s with heap:=h',toks:=G }:=I.kept l;have e2:=K2 (P.trans (qE ns).symm) R (Cc ns);subst e2;refine⟨.ref h'.objs.size,aG H h'.objs.size (.lst ((lC ns).map V.int)),M.laid (t':=G) (λb ob y=>?_) (bb _) ?_,rfl,q _ (M.hok.fresh (bb _))⟩
 ·have y:h'.get? b=some ob:=y
  have F:b<h'.objs.size:=ib y;rw[sortedHeap_old (ic F) (by rw[size_push'];exact Nat.lt_succ_of_lt F),Heap.get?_push_ne _ _ _ (ic F)];exact y
 ·refine⟨by rw[ba,(qE ns).length_eq];exact sz (by omega),out.toList,e,vD O,?_⟩
  simpa using he
def oW:List aW->Option (List Int)
 |[]=>some []
 |.inl i::r=>(oW r).map (i::·)
 |.inr _::_=>none
theorem Cf:∀{ks:List aW}{ns:List Int},oW ks=some ns->ks=ns.map Sum.inl
 |[],_,h=>by cases h;rfl
 |.inl i::r,ns,h=>by
  unfold oW at h;have⟨m,a,b⟩:=lb.mp h;subst b;rw[Cf a];rfl
 |.inr _::_,_,h=>by cases h
theorem K5(ns:List Int):oW (ns.map Sum.inl)=some ns:=by
 induction ns with
 |nil=>rfl
 |cons a r b=>rw[ja,oW,b];rfl
def qF:List D->Option (List D)
 |[.dk ks _]=>(oW ks).bind λns=>if ns.length<64 then some ((lC ns).map D.int) else none
 |_=>none
variable {B:Bs}{a:Expr}{fr:ao->Option (List D)}{pos:Pos}
theorem K6 (n:X.calm=true) (r:Gl X "sorted") (hm:X.mg "sorted" = none) (s:PA X [a] (aB X.K B fr)) (u:starEach [a] X.env=[(false,eval a X.env)]:=by rfl):PE X (.Call (.Name "sorted" p) [a] [] pos) (eW X.K B (wN qF fr)) :=
 (ss (K4 n) r hm v0 s (by decide) (by decide) u rfl).imp λv H Q ⟨Hf,ρ,z,I,hz,q⟩=>by
  have⟨ds,h,hz⟩:=bind_some hz;refine⟨Hf,ρ,ds,I,h,λd w vs c e=>?_⟩;unfold qF at hz
  split at hz
  ·have⟨ns,i,hz⟩:=bind_some hz
   split at hz
   ·rename_i g
    cases hz;obtain⟨x,rfl,j⟩:=f9 e
    obtain⟨b,kvs,rfl,l,m,_⟩:=j.dk c.fh;exact⟨b,kvs,ns,rfl,.of l,by rw[m];exact Cf i,g,λp f=>q d _ p _ (c.trans (Ex.made (o:=.lst ((lC ns).map V.int)) c.fh f)) (c.hh.free f) (c.fh.free f) bi (wP _)⟩
   ·cases hz
  ·cases hz
end
noncomputable def qG:Sl->D
 |.sh d=>d
 |.ow ds=>.lst ds
 |.dk ks ds=>.dk ks ds
 |.dt ks ds=>.dt ks ds
section
variable {X:Cx}{B:Bs}{K:Fg1}{sts:List Stmt}{f:ao->aT}
theorem VI.frzG(I:VI K B Hf ρ σ H)(A:ρ[i]?=some (some sl))(r:dG sl=true):∃Hf',aS Hf Hf'/\VI K B Hf' (ρ.set i (some (.sh (qG sl)))) σ H:=by
 have⟨v,C,f⟩:=I.ok i _ A;obtain⟨p,w,rfl,N,b⟩:=f.own r;have Y:=I.own i _ p A r C;have hs:=gJ (o:=w) N
 have Z:Dn K (aG Hf p w) (qG sl) (.ref p):=by
  cases sl with
  |sh d=>cases r
  |ow ds=>obtain⟨q,xs,e,_,c,m⟩:=f;cases e;rw[c]at b;cases b;exact hW (bJ.of bi) (aZ.same m hs)
  |dk ks ds=>obtain⟨q,xs,e,_,c,m,E⟩:=f;cases e;rw[c]at b;cases b;exact Bg bi m (aZ.same E hs)
  |dt ks ds=>obtain⟨q,xs,e,_,c,m,E⟩:=f;cases e;rw[c]at b;cases b;exact wz bi m (aZ.same E hs)
 have F:=(ya.mp A).1
 have g:∀{j:Nat} {s:Sl},(ρ.set i (some (.sh (qG sl))))[j]?=some (some s)->(j=i/\s=.sh (qG sl))\/(j≠i/\ρ[j]?=some (some s)):=λ{j s} e=>by
  by_cases l:i=j
  ·subst l
   rw[ac F]at e;cases e;exact .inl ⟨rfl,rfl⟩
  ·rw[ua l]at e
   exact .inr ⟨λz=>l z.symm,e⟩
 have G:∀x u,w≠.frz x u:=λx u z=>by
  subst z
  cases sl with
  |sh d=>cases r
  |ow ds=>obtain⟨q,xs,e,_,c,_⟩:=f;cases e;rw[c]at b;cases b
  |dk ks ds=>obtain⟨q,xs,e,_,c,_⟩:=f;cases e;rw[c]at b;cases b
  |dt ks ds=>obtain⟨q,xs,e,_,c,_⟩:=f;cases e;rw[c]at b;cases b
 refine⟨aG Hf p w,hs,I.ex.frz Y b N G,by simp[I.len],λj s e=>?_,λj s a e o q=>?_,λj k P Q a e1 e2 L M R T=>?_⟩
 ·rcases g e with⟨rfl,rfl⟩|⟨l,e⟩
  ·exact⟨_,C,Z⟩
  ·have⟨u,O,y⟩:=I.ok j s e
   refine⟨u,O,?_⟩
   have J:∀{a:Addr},dG s=true->u=.ref a->a≠p:=λ{a} o U X=>by
    subst U X;exact l (I.dis j i s _ _ e A o r O C)
   cases s with
   |sh d=>exact Dn.same y hs
   |ow d=>obtain⟨a,xs,e1,e2,n,h⟩:=y;exact⟨a,xs,e1,by rw[aK (J rfl e1)];exact e2,n,aZ.same h hs⟩
   |dk ks d=>obtain⟨a,xs,e1,e2,n,h⟩:=y;exact⟨a,xs,e1,by rw[aK (J rfl e1)];exact e2,n,h.1,aZ.same h.2 hs⟩
   |dt ks d=>obtain⟨a,xs,e1,e2,n,h⟩:=y;exact⟨a,xs,e1,by rw[aK (J rfl e1)];exact e2,n,h.1,aZ.same h.2 hs⟩
 ·rcases g e with⟨rfl,rfl⟩|⟨l,e⟩
  ·cases o
  ·exact I.own j s a e o q
 ·rcases g e1 with⟨rfl,rfl⟩|⟨l,e1⟩
  ·cases L
  ·rcases g e2 with⟨rfl,rfl⟩|⟨hk,e2⟩
   ·cases M
   ·exact I.dis j k P Q a e1 e2 L M R T
def qH(i:Nat)(f:ao->aT):ao->aT:=λρ=>match ρ[i]? with
 |some (some sl)=>if dG sl=true then f (ρ.set i (some (.sh (qG sl)))) else f ρ
 |_=>f ρ
theorem xw(i:Nat)(h:bT X sts (sV X.K B f)):bT X sts (sV X.K B (qH i f)):=h.imp λD d H ⟨Hf,ρ,I,q⟩=>by
 unfold qH at q
 split at q
 ·rename_i sl e
  split at q
  ·rename_i b
   have⟨a,z,c⟩:=I.frzG e b;exact⟨a,_,c,gm.mono q z⟩
  ·exact⟨Hf,ρ,I,q⟩
 ·exact⟨Hf,ρ,I,q⟩
def qI(ds:List D)(k d:D):Option (List D):=(jV k).bind λn=>(hG ds.length n).map λj=>ds.set j d
def oX(i:Nat)(fk fv:ao->Option D):ao->aT:=λρ=>match ρ[i]? with
 |some (some (.ow ds))=>match (fv ρ).bind λd=>(fk ρ).bind λk=>qI ds k d with|some ds'=>.nx (ρ.set i (some (.ow ds')))|none=>.bad
 |_=>.bad
variable {fk fv:ao->Option D}{pos:Pos}{ix:Expr}
theorem K7 (F:X.N[j]?=some x) (G:PE X ix (eB X.K B fk)) (J:PE X value (eV X.K B fv)) (e:gB X.env.scope x:=by first|exact cb rfl|exact mf (cb rfl)|exact mf (mf rfl)) (L:(x == ("__debug__" : Str))=false:=by decide) (r:(x == ("__classdict__" : Str))=false:=by decide)
  (M:∀ v,assign (.Subscript (.Name x p1) ix pos') X.env v=(do
   let f ← holding [v] (eval (.Name x p1) X.env)
   let o ← holding [v,f] (eval ix X.env)
   standAt pos'
   holding [v,f,o] (setItem f o v)
   release [v,f,o] []):=by intro _;rfl)
  (hs:swapsWithSole [.Subscript (.Name x p1) ix pos'] value pos.line X.env=pure false:=by rfl) (O:swappedStores [.Subscript (.Name x p1) ix pos'] value X.env=pure none:=by rfl) (P:(assignEach [.Subscript (.Name x p1) ix pos'] X.env).map (·.2)=[assign (.Subscript (.Name x p1) ix pos') X.env]:=by rfl) :
  PS X (.Assign [.Subscript (.Name x p1) ix pos'] value pos) (sV X.K B (oX j fk fv)) :=
 (zY J (FD (fN F e L r) G GM M) hs O P).imp λD w H ⟨Hf,ρ,I,q⟩=>by
  unfold oX at q
  split at q
  ·rename_i ds c
   split at q
   ·rename_i ds' hz
    have⟨d,i,hz⟩:=bind_some hz;have⟨k,l,hz⟩:=bind_some hz;have⟨n,hn,hz⟩:=bind_some hz;have⟨m,hm,hz⟩:=lb.mp hz;subst hz;have⟨A,s,C⟩:=I.ok j _ c;refine⟨Hf,ρ,d,I,i,λg Q v a z=>⟨A,s,g,ρ,k,I.ext a,l,λh R y b dk=>?_⟩⟩;obtain⟨p,xs,rfl,T,E,u⟩:=(jA.ext C a).ext b;unfold jV at hn
    split at hn
    ·cases hn
     refine⟨p,xs,_,m,rfl,dk.sc.2,E,by rw[<-u.length];exact hm,q h w _ (a.ff.trans b.ff) ?_⟩;exact((I.ext a).ext b).mut c s (u.zset (z.same b.ff) m)
    ·cases hn
   ·exact q.elim
  ·exact q.elim
end
noncomputable def qJ:List D->Option D
 |[.sc (.int i)]=>if i.natAbs.log2<1920 then some (.sc (.str (toString i:String))) else none
 |_=>none
theorem K8{K:Fg1}:PN K (λxs H Q=>∃i,xs=[.int i]/\i.natAbs.log2<1920/\Q (.str (toString i:String)) H) qJ:=by
 intro Hf H xs ds z Q s a hz q;unfold qJ at hz
 split at hz
 ·split at hz
  ·rename_i b
   cases hz;obtain⟨x,rfl,c⟩:=f9 a
   rw[c.sc.2];exact⟨_,rfl,b,q Hf H _ (.refl s) (cE rfl)⟩
  ·cases hz
 ·cases hz
def K9:=fy λi j=>.bl (decide (i<j))
theorem La:typeLookup (.type "list_reverseiterator") "__len__" = pure none:=by rw[qk,ni];kernel_rfl
theorem Lb:typeLookup (.type "list_reverseiterator") "__length_hint__" = pure (some (.builtin "list_reverseiterator.__length_hint__")):=by rw[qk,ni];kernel_rfl
section
variable {prog:Program}{w:World}{A:Around}{E:Value->Shared->Prop}{s:Shared}
theorem Lc(a:s.heap.IsRevIter I l i)(h:Q false s):wpAny (model prog w) A (Builtin.List.listLengthHint (.ref I)) Q E s:=by
 unfold Builtin.List.listLengthHint;refine aa (rm a.typeIs La ?_);show wpAny _ A (specialOf (Value.ref I) (Str.ofString "__length_hint__") >>= _) _ _ _;refine aa (rm a.typeIs Lb ?_);generalize c:("list_reverseiterator.__length_hint__" : String)=id0
 wp_delta
 rw[show splitId id0=some ("list_reverseiterator","__length_hint__") from by subst c;decide];subst c;refine aa (bp (T:="list_reverseiterator") (b:=true) a.typeIs (by rw[isSubtype_type];kernel_rfl) ?_);exact ia h
theorem Ld(O:A.handled=none)(p:s.heap.IsRevIter I l ((items.size:Int) - 1))(hl:s.heap.IsList l items)(H:l≠I)(hn:items.size<=sizeLine)
  (P:∀h' tk q c,(∀b o,b≠I->s.heap.get? b=some o->h'.get? b=some o)->h'.get? s.heap.objs.size=some { cls:=.type "list",dict:=none,data:=.seq q c,slots:=#[] }->ItemsOf (λi v=>items[items.size - 1 - i]?=some v) q items.size->Q (.ref s.heap.objs.size) { s with heap:=h',toks:=tk }) :
  wpAny (model prog w) A (call (.type "list") [.ref I]) Q E s:=by
 have z:I<s.heap.objs.size:=by obtain⟨o,y,_⟩:=p;exact ib y
 have K:l<s.heap.objs.size:=by obtain⟨o,y,_⟩:=hl;exact ib y
 refine callType_codes (Q₁:=λh d=>h=.ref s.heap.objs.size/\d={ s with heap:=s.heap.push { cls:=.type "list",data:=.seq #[] } }) PySem.F.called_list (PySem.F.typeCall_list_1 _) PySem.F.entry_list_init (code_list_new _ ⟨rfl,rfl⟩) λh d j=>?_
 obtain⟨rfl,rfl⟩:=j;have r:(s.heap.push { cls:=.type "list",data:=.seq #[] }).get? s.heap.objs.size=some { cls:=.type "list",data:=.seq #[] }:=zb _ rfl;refine⟨⟨_,r,rfl⟩,PySem.F.args_list_init_2 _ _,?_⟩;show wpAny _ _ (do let B ← Builtin.List.listItems (.ref s.heap.objs.size);Builtin.List.listUpdate (.ref s.heap.objs.size) (λ_=>#[]);letGo B.toList.reverse;Builtin.List.listExtendWith (.ref s.heap.objs.size) (.ref I) .none) _ _ _;refine aa (listItems_at r rfl ?_);refine aa (im r rfl ?_ (be _) (be _));refine aa (zk ?_);have f:=ce (Obj.mapSeq (λ_=>(#[]:Array Value))) r rfl;have g:∀b o,b≠s.heap.objs.size->s.heap.get? b=some o->((s.heap.push { cls:=.type "list",data:=.seq #[] }).update s.heap.objs.size (Obj.mapSeq (λ_=>(#[]:Array Value)))).get? b=some o:=λb o u e=>(cc _ _ (ve u)).trans (na _ e)
 have a:=p.at (h':=(s.heap.push { cls:=.type "list",data:=.seq #[] }).update s.heap.objs.size (Obj.mapSeq (λ_=>(#[]:Array Value)))) λo e=>g I o (ic z) e
 have C:=hl.at (h':=(s.heap.push { cls:=.type "list",data:=.seq #[] }).update s.heap.objs.size (Obj.mapSeq (λ_=>(#[]:Array Value)))) λo e=>g l o (ic K) e
 have W:=Walks.listRev (prog:=prog) (w:=w) (A:=A.in1.in1) O I l H items;have N:Builtin.List.listSameRef (.ref s.heap.objs.size) (.ref I)=false:=by simp[Builtin.List.listSameRef,gk z]
 have G:s.heap.objs.size ∉ [I,l]:=by simp only[pb,ek,wu,not_or];exact⟨gk z,gk K⟩
 unfold Builtin.List.listExtendWith;refine aa (vm (T:="list_reverseiterator") a.typeIs ?_);rw[qa (by rw[N];decide)];refine aa (wpAny_pyIter_revIter a ?_);refine aa (qe (Lc a ?_));rw[qa (by decide)];refine ia ⟨uh PySem.F.plain_extend_loop _,codeAny_extend_loopS W.toS hn _ G _ items.size 0 _ #[] _ rfl (be _) ⟨be _,by simpa using a,C⟩ f (ItemsOf.nil _) λJ m L hm x n=>?_⟩;rw[Moved.eq_with hm];refine⟨rfl,P J.heap J.toks m L (λb o u e=>hm.heap b o (λhmem=>?_) (g b o (ic (ib e)) e)) x n⟩;rcases pb.mp hmem with M|hmem
 ·exact absurd (ib e) (by rw[M];exact qh _)
 ·exact u (yb.mp hmem)
end
noncomputable def tN:List D->Option (List D)
 |[.lst ds]=>some ds.reverse
 |_=>none
section
variable {X:Cx}{B:Bs}{a:Expr}{fr:ao->Option (List D)}{pos:Pos}
theorem Le(r:bB ys its){a:Array Value}(h:ItemsOf (λi v=>its.toArray[its.toArray.size - 1 - i]?=some v) a its.toArray.size):bB ys.reverse a.toList:=by
 have e:a.toList=its.reverse:=by
  apply ol;intro i;obtain⟨b,c⟩:=h;have b:a.size=its.length:=b.trans (by simp);by_cases d:i<a.size
  ·have e1:a[i]?=some a[i]:=xf d
   have:=c i _ e1
   rw[wg,e1,<-this,List.getElem?_reverse (by omega)];simp
  ·rw[wg,uj (by omega),xl (by rw[um];omega)]
 rw[e];exact Paired.zrev r
def Lf(K:Fg1):List V->Hp->VK->Prop:=λxs H Q=>∃p ys,xs=[.ref p]/\bJ K H p ys/\∀l,H l=none->Q (.ref l) (aG H l (.lst ys.reverse))
theorem Lg (hc:X.calm=true) (hg:Gl X "list") (hm:X.mg "list" = none) (E:Gl X "reversed") (F:X.mg "reversed" = none) (ha:PA X [a] t) (he:starEach [a] X.env=[(false,eval a X.env)]:=by rfl)
  (y:starEach [.Call (.Name "reversed" p2) [a] [] pos2] X.env=[(false,eval (.Call (.Name "reversed" p2) [a] [] pos2) X.env)]:=by rfl):PE X (.Call (.Name "list" p) [.Call (.Name "reversed" p2) [a] [] pos2] [] pos) (sk (Lf X.K) t):=by
 intro m s L H Q I h;refine ef (kw I hg hm v1 ?_ (by decide) (by decide));refine kg ?_ y rfl;rw[y];show wpAny _ _ (spliced [(false,eval (.Call (.Name "reversed" p2) [a] [] pos2) X.env)]) _ _ s;refine ai (ef (kw I E F Ic ?_ (by decide) (by decide)));refine kg (aX (ha pos2 m s L H _ I h) λus f ⟨vs,G,z,N,g,ys,e,O,q⟩=>?_) he rfl;subst e;obtain⟨u,rfl,R⟩:=g8 N;cases R;have⟨d,r,A,hz⟩:=z.list O;have e:d.toArray.size=ys.length:=by rw[oa];exact r.length.symm
 have B:g<f.heap.objs.size:=by have⟨_,T,_⟩:=A.isList;exact ib T
 refine call_reversed_list A.isList (ll ?_);have M:aw X m L G { f with heap:=f.heap.push (revObj g ((d.toArray.size:Int) - 1)) }:=z.kept (t':=f.toks) λb o e=>na _ e
 have l2:({ f with heap:=f.heap.push (revObj g ((d.toArray.size:Int) - 1)) }:Shared).heap.IsList g d.toArray:=A.isList.push _;refine Ld (l:=g) (I:=f.heap.objs.size) (items:=d.toArray) (I.ok.hd hc) ⟨_,zb _ rfl,rfl,rfl⟩ l2 (ic B) (by rw[e];exact hz) λh' J j c v hl w=>?_
 have n:=Le r w;have fp:=z.fpOk (H':=G) (bb f.heap.objs.size) (z.hok.fresh (bb _));obtain⟨U,Y,f2,Z,f4,f5⟩:=fp;have C:(f.heap.push (revObj g ((d.toArray.size:Int) - 1))).objs.size=f.heap.objs.size+1:=size_push' _ _
 have I3:=M.laid (a:=(f.heap.push (revObj g ((d.toArray.size:Int) - 1))).objs.size) (o:=.lst ys.reverse) (t':=J) (h':=(f.heap.push (revObj g ((d.toArray.size:Int) - 1))).push { cls:=.type "list",dict:=none,data:=.seq j c,slots:=#[] }) (λb ob i=>na _ i) (bb _)
  ⟨by rw[um];exact hz,j.toList,c,n,zb _ rfl⟩
 have I4:=I3.turned (t':=J) (it:=f.heap.objs.size) (h':=h') (λ b ob P i=>by
  by_cases x:b=(f.heap.push (revObj g ((d.toArray.size:Int) - 1))).objs.size
  ·subst x
   have i:((f.heap.push (revObj g ((d.toArray.size:Int) - 1))).push { cls:=.type "list",dict:=none,data:=.seq j c,slots:=#[] }).get? (f.heap.push (revObj g ((d.toArray.size:Int) - 1))).objs.size=some ob:=i;rw[zb _ rfl]at i;cases i;exact hl
  ·have i:((f.heap.push (revObj g ((d.toArray.size:Int) - 1))).push { cls:=.type "list",dict:=none,data:=.seq j c,slots:=#[] }).get? b=some ob:=i
   rw[Heap.get?_push_ne _ _ _ x]at i;exact v b ob P i) (by rw[aK (by rw[C];exact ic (xo _))];exact U) Y Z f4 f5
 exact⟨.ref _,_,I4,rfl,q _ (M.hok.fresh (bb _))⟩
theorem Lh (r:X.calm=true) (s:Gl X "list") (hm:X.mg "list" = none) (f:Gl X "reversed") (g:X.mg "reversed" = none) (u:PA X [a] (aB X.K B fr)) (v:starEach [a] X.env=[(false,eval a X.env)]:=by rfl)
  (h:starEach [.Call (.Name "reversed" p2) [a] [] pos2] X.env=[(false,eval (.Call (.Name "reversed" p2) [a] [] pos2) X.env)]:=by rfl):PE X (.Call (.Name "list" p) [.Call (.Name "reversed" p2) [a] [] pos2] [] pos) (eW X.K B (wN tN fr)) :=
 (Lg r s hm f g u v h).imp λw H Q ⟨Hf,ρ,z,I,hz,q⟩=>by
  have⟨ds,i,hz⟩:=bind_some hz;refine⟨Hf,ρ,ds,I,i,λd y vs c e=>?_⟩;unfold tN at hz
  split at hz
  ·cases hz
   obtain⟨x,rfl,j⟩:=f9 e;obtain⟨b,ys,rfl,m,n⟩:=j.lst c.fh;exact⟨b,ys,rfl,m,λl hl=>q d _ l ys.reverse (c.trans (Ex.made (o:=.lst ys.reverse) c.fh hl)) (c.hh.free hl) (c.fh.free hl) bi n.zrev⟩
  ·cases hz
end
section
variable {prog:Program}{w:World}{A:Around}{E:Value->Shared->Prop}{s:Shared}
theorem Li(p:Paired (HD s.heap k) ds its)(o:Paired (HD s.heap k) es its')(r:∀q∈ds.zip es,hV k q.1 q.2)(g:A.units+k<cLine)(j:Nat)(h:j<its.toArray.size)(i:j<its'.toArray.size) :
  SeqAt.EqAt A s its.toArray[j] its'.toArray[j] (bY (bw k) ds es j)/\(bY (bw k) ds es j=false->mG A s its.toArray[j] its'.toArray[j] (bY (dS k) ds es j)):=by
 have l:its[j]?=some its.toArray[j]:=by simp at h;simp[h]
 have m:its'[j]?=some its'.toArray[j]:=by simp at i;simp[i]
 have⟨d,a,c⟩:=f6 p l;have⟨e,b,f⟩:=f6 o m;have z:bY (bw k) ds es j=bw k d e:=by unfold bY;rw[a,b]
 have n:bY (dS k) ds es j=dS k d e:=by unfold bY;rw[a,b]
 rw[z,n];exact⟨k7 c f g,λ_=>sC c f (r (d,e) (vN a b)) g⟩
theorem Cg(H:HD s.heap (k+1) (.lst ds) u)(I:HD s.heap (k+1) (.lst es) v)(J:hV (k+1) (.lst ds) (.lst es))(K:A.units+(k+1)<cLine)(q:Q (dS (k+1) (.lst ds) (.lst es)) s):wpAny (model prog w) A (oneLt' true u v) Q E s:=by
 obtain⟨a,b,rfl,t,p⟩:=H;obtain⟨x,its',rfl,t',j⟩:=I;have B:=p.length;have C:=j.length;have⟨⟨y,dd,l,sl⟩,e,m,n,o⟩:=t.isList;have⟨⟨r,f,g,h⟩,i,c,z,d⟩:=t'.isList;simp only at m o c d;subst m o c d
 have G:Q (fO (bY (bw k) ds es) (bY (dS k) ds es) b.toArray.size its'.toArray.size b.toArray.size 0) s:=by
  simp only[oa];rw[<-B,<-C,vM];exact q
 rw[oneLt'_eq];simp only[wm];refine aa (wpAny_cRoomFor_or (.inr (by omega)) ?_);refine aa (wpAny_callSpecialIfBound?_slot (name:=Str.ofString "__lt__") ⟨_,e,rfl⟩ PySem.F.slot_list_lt (cm PySem.F.slot_list_lt ⟨_,e,rfl⟩ PySem.F.entry_list_lt (PySem.F.args_list_lt_2 _ _) (AF a x b.toArray its'.toArray n z dd f sl h _ _) ⟨e,i,Li p j J (by show A.units+1+k<cLine;omega),?_⟩));exact ng G
noncomputable def iw:D->Bool|.lst _=>true|_=>false
theorem Ch(h:A.units+(k+1)<cLine):∀{ds es:List D}{g its':List Value} (i:Nat),Paired (HD s.heap (k+1)) ds g->Paired (HD s.heap (k+1)) es its'->(∀q∈ds.zip es,hV (k+1) q.1 q.2) →
  (i=0->(ds.head?.map iw).getD true=true/\(es.head?.map iw).getD true=true)->fin=decide (ds.length<es.length)->Q (eP (bw (k+1)) (dS (k+1)) ds es) s->PySem.W.KatLex prog w A true fin Q (g.zip its') i s
 |[],[],_,_,i,.nil,.nil,_,_,c,q=>by subst c;exact PySem.W.kat_nil (by simpa [eP] using q)
 |[],_::_,_,_,i,.nil,.cons _ _,_,_,c,q=>by subst c;exact PySem.W.kat_nil (by simpa [eP] using q)
 |_::_,[],_,_,i,.cons _ _,.nil,_,_,c,q=>by subst c;exact PySem.W.kat_nil (by simpa [eP] using q)
 |d::ds,e::es,_,_,i,.cons a b,.cons m v,o,x,c,q=>by
  rw[bg];have l:∀q∈ds.zip es,hV (k+1) q.1 q.2:=λq p=>o q (by rw[bg];exact la _ p)
  have f:=o (d,e) (by rw[bg];exact va);refine PySem.W.kat_cons (k7 a m h prog w _ _ (PySem.W.kat_go (λj=>PySem.W.kat_yes ?_) λj=>PySem.W.kat_no ?_))
  ·refine Ch h (i+1) b v l (λz=>by omega) (by rw[c];simp) ?_
   rw[eP,da j]at q;exact q
  ·rw[eP,qa (by rw[j];exact ma)]at q
   by_cases n:i=0
   ·subst n
    have⟨r,u⟩:=x rfl
    cases d with
    |lst ds' =>
     cases e with
     |lst y=>exact Cg a m f h q
     |_=>cases u
    |_=>cases r
   ·have:(true && (i == 0))=false:=by simp[n]
    rw[this];exact PySem.W.kat_one _ _ (sC a m f h prog w _ _ q)
noncomputable def nv:D->Bool
 |.lst _=>true
 |.tup (.lst _::_)=>true
 |_=>false
theorem Lj(j:HD s.heap (k+2) d u)(l:HD s.heap (k+2) e v)(m:hV (k+2) d e)(B:A.units+(k+2)<cLine)
  (C:(κ=oneType'/\iw d=true/\iw e=true)\/(κ=tuples' true/\iw d=false/\iw e=false/\nv d=true/\nv e=true)) (q:Q (dS (k+2) d e) s):wpAny (model prog w) A (keyLt' κ u v) Q E s:=by
 rcases C with⟨rfl,g,h⟩|⟨rfl,g,h,b,c⟩
 ·cases d with
  |lst ds =>
   cases e with
   |lst es=>rw[keyLt'_oneType];exact Cg j l m B q
   |_=>cases h
  |_=>cases g
 ·cases d with
  |tup ds =>
   cases e with
   |tup es =>
    obtain⟨a,o,rfl,t,p⟩:=j;obtain⟨H,its',rfl,t',i⟩:=l;obtain⟨I,r,J,n,x⟩:=t;obtain⟨K,y,z,L,f⟩:=t';refine PySem.W.kat_lt r x y f (Ch (k:=k) (by omega) 0 p i m (λ_=>?_) ?_ q)
    ·cases ds with
     |nil=>cases b
     |cons F ds =>
      cases es with
      |nil=>cases c
      |cons G es =>
       refine⟨?_,?_⟩
       ·cases F <;> first|rfl|cases b
       ·cases G <;> first|rfl|cases c
    ·rw[oa,oa,<-p.length,<-i.length]
   |sc _=>cases c
   |lst _=>cases h
   |dk _ _=>cases c
   |dt _ _=>cases c
   |er _ _ _=>cases c
  |sc _=>cases b
  |lst _=>cases g
  |dk _ _=>cases b
  |dt _ _=>cases b
  |er _ _ _=>cases b
end
theorem Ci:∀{k:Nat}{d e:D}{u v:Value},HD h k d u->HD h k e v->dS k d e=bZ d e/\(cN d e=true->hV k d e):=by
 intro k
 induction k with
 |zero =>
  intro d e u v c f
  cases d with
  |sc a =>
   cases e with
   |sc b=>rw[bZ,cN];exact⟨rfl,λh=>h⟩
   |_=>exact f.elim
  |_=>exact c.elim
 |succ k s =>
  intro d e u v c f
  have all:∀{ds es:List D} {j vs:List Value},Paired (HD h k) ds j->Paired (HD h k) es vs->eP (bw k) (dS k) ds es=cM ds es/\(fR ds es=true->∀p∈ds.zip es,hV k p.1 p.2):=by
   intro ds es j vs p
   induction p generalizing es vs with
   |nil=>intro q;cases q <;> simp[eP,cM]
   |cons a b i =>
    intro q
    cases q with
    |nil=>simp[eP,cM]
    |cons l w =>
     have⟨m,n⟩:=i w;have⟨o,r⟩:=s a l;refine⟨?_,λh=>?_⟩
     ·rw[eP,cM,Bl a l,m,o]
     ·rw[fR,jb]at h
      intro p hp;rw[bg]at hp;rcases pb.mp hp with rfl|hp
      ·exact r h.1
      ·exact n h.2 p hp
  cases d with
  |sc a =>
   cases e with
   |sc b=>rw[bZ,cN];exact⟨rfl,λh=>h⟩
   |_=>simp[dS,bZ,cN]
  |tup ds =>
   cases e with
   |tup es=>obtain⟨_,_,_,_,p⟩:=c;obtain⟨_,_,_,_,g⟩:=f;rw[bZ,cN];exact all p g
   |_=>simp[dS,bZ,cN]
  |lst ds =>
   cases e with
   |lst es=>obtain⟨_,_,_,_,p⟩:=c;obtain⟨_,_,_,_,g⟩:=f;rw[bZ,cN];exact all p g
   |_=>simp[dS,bZ,cN]
  |_=>exact c.elim
noncomputable def atObj(a:Addr)(o:Obj):HO:=.ext λh=>h.get? a=some o
structure j3(rs:List D)(lt:Nat->Nat->Bool):Prop where
 wo:WO lt
 ok:∀r∈rs,bE LV r=true
 kd:(∀r∈rs,iw r=true)\/∀r∈rs,iw r=false/\nv r=true
 lo:∀(i j:Nat) (r t:D),rs[i]?=some r->rs[j]?=some t->cN r t=true/\lt i j=bZ r t
section
variable {X:Cx}{pins:List (Addr×Obj)}{σ:St}{H Hf:Hp}{s:Shared}{a kS f:Addr}{e1:Nat}{E:Value->Shared->Prop}{P:PySem.Fin->Shared->Prop}{A:Around}
theorem Ll{P:Program}{w:World}{H:Hp}{h:Heap}{a:Addr}{o:Obj}(e:h.get? a=some o):cA P w H h a (atObj a o):=⟨e,⟨o,e⟩,λ_ _ p k=>k o p⟩
theorem aw.atObj(I:aw X pins σ H s)(h:H a=some (atObj a o)):s.heap.get? a=some o:=(show cA X.prog X.w H s.heap a (L2.atObj a o) from I.hok a _ h).1
theorem Lm (I:aw X pins σ H s) (m:H kS=some (.lst ks)) (p:H a=some (atObj a (seqObj "list" #[] e1))) (g:kS≠a) (B:(arrOf st').map (·.2)=out.toArray) (C:failedOf st'=none) (r:bB ys out) (hz:out.length<=1000)
  (q:∀s',aw X pins σ (aG (aG H kS (.lst [])) a (.lst ys)) s'->P (.done (.ret .none)) s'):wpAny (model X.prog X.w) A (ksk_tail a false e1 (.ref kS) st') P E s:=by
 have⟨h,n,rk,f,i⟩:=I.lst m;have j:=I.atObj p;have y:aw X pins σ (aG H kS (.lst [])) { s with heap:=s.heap.update kS (Obj.mapSeq λ_=>(#[]:Array Value)),toks:=s.toks }:=I.lstUpd (its':=[]) (n':=if (#[]:Array Value).size == h.toArray.size then n else n+1) m f rfl .nil (be _) s.toks;have c:(s.heap.update kS (Obj.mapSeq λ_=>(#[]:Array Value))).get? a=some (seqObj "list" #[] e1):=(cc _ _ g).trans j;have d:=get?_update_seq c (λ_=>out.toArray);have l:(aG H kS (.lst [])) a=some (atObj a (seqObj "list" #[] e1)):=by rw[aK g.symm];exact p
 have z:=y.write (x:=a) (e:=a) (o:=.lst ys) (t':=s.toks) (h':=(s.heap.update kS (Obj.mapSeq λ_=>(#[]:Array Value))).update a (Obj.mapSeq λ_=>out.toArray)) (by rw[l];trivial) (.inl rfl) (λb u v e=>(cc _ _ (ve v)).trans e) ⟨_,d⟩
  ⟨by rw[r.length];exact sz (by omega),out,_,r,d⟩
 unfold ksk_tail;dsimp only;refine aa (im f rfl ?_ (by rw[oa,<-rk.length];exact i) (be _));refine aa (zk ?_);refine aa (seqEpoch_at c rfl ?_);rw[B];refine aa (im c rfl ?_ (be _) (by show out.toArray.size<=_;rw[oa];exact wn (sz (by omega))));rw[C];simp only[bne_self_eq_false,zd,xi];exact ia (q _ z)
theorem xx(I:aw X pins σ H s)(fh:aS Hf H)(a:Dn X.K Hf r k)(o:bE LV r=true)(rl:bj k u):HD s.heap LV r u:=I.den ((a.same fh).at o) rl
theorem Cj:∀{rs:List D}{e:List Value},Paired (HD h LV) rs e->(∀r∈rs,iw r=false/\nv r=true)->∃fs,PySem.W.KatTups h e fs/\fs.length=e.length/\∀v∈fs,∃b o,v=.ref b/\h.get? b=some o/\o.cls=.type "list"
 |_,_,.nil,_=>⟨[],.nil,rfl,λv hv=>by cases hv⟩
 |r::rs,u::e,.cons a b,s=>by
  have⟨fs,t,l,g⟩:=Cj b λx w=>s x (la _ w)
  have⟨y,d⟩:=s r va
  cases r with
  |tup ds =>
   cases ds with
   |nil=>cases d
   |cons H ds =>
    cases H with
    |lst es =>
     obtain⟨c,z,rfl,A,p⟩:=a;obtain⟨o,B,C,n,E⟩:=A
     cases p with
     |cons I J =>
      obtain⟨i,q,rfl,F,_⟩:=I;have⟨G,j,m,_⟩:=F.isList;refine⟨.ref i::fs,.cons (f:=.ref i) B C E (by simp) t,by simp[l],λv hv=>?_⟩;rcases pb.mp hv with rfl|hv
      ·exact⟨i,G,rfl,j,m⟩
      ·exact g v hv
    |sc _=>cases d
    |tup _=>cases d
    |dk _ _=>cases d
    |dt _ _=>cases d
    |er _ _ _=>cases d
  |lst _=>cases y
  |sc _=>cases d
  |dk _ _=>cases d
  |dt _ _=>cases d
  |er _ _ _=>cases d
theorem Ck(a:h.get? b=some o)(c:o.cls=T):PySem.W.Looks M h (typeOf (.ref b)) T:=by
 subst c;exact(PySem.W.Looks.ld a).andThen .now
def qK(_:Nat->Nat->Bool)(n:Nat):Prop:=n<64/\n<=1000
theorem Ln{rs:List D}{l vs:List Value}{lt:Nat->Nat->Bool}{f:Nat}{d:Value}(B:Paired (HD s.heap LV) rs l)(ord:j3 rs lt)(hl:l.length=vs.length)(R:qK lt vs.length)(hu:A.units+LV<cLine)
  (p:∀(m:SortSt) (n:Array Nat),Ix vs.length n->Up lt n vs.length->(arrOf m).map (·.2)=(n.toList.map λi=>vs.getD i Value.none).toArray->failedOf m=none->wpAny (model X.prog X.w) A (ksk_tail a false f d m) P E s) :
  wpAny (model X.prog X.w) A (ksk_end a false vs.toArray f d l.toArray) P E s:=by
 have h6:=R.1;unfold ksk_end;dsimp only;simp only[zd,xi];have hrl:=B.length;by_cases q:vs.toArray.size<2
 ·rw[da q,da q]
  refine aa (ia ?_);rw[StateT.run_pure];refine aa (ia ?_);dsimp only;rw[oa]at q;refine p _ (List.range vs.length).toArray (ki _) (λi j hij hj=>?_) ?_ rfl
  ·have:i=j:=by omega
   rw[this];exact ord.wo.irr _
  ·show ((l.toArray.zip vs.toArray)).map (·.2)=_
   have e1:(l.toArray.zip vs.toArray).map (·.2)=vs.toArray:=by
    apply Array.ext';simp[List.map_snd_zip,hl]
   rw[e1]
   congr 1
   apply ol;intro i;by_cases u:i<vs.length
   ·simp[u]
   ·simp[u]
 ·rw[qa q,qa q]
  rw[oa]at q
  have run:∀κ:SortKind,((κ=oneType'/\∀r∈rs,iw r=true)\/(κ=tuples' true/\∀r∈rs,iw r=false/\nv r=true))->wpAny (model X.prog X.w) A (sortRuns'.run (SortSt.mk' κ (l.toArray.zip vs.toArray) #[] 7 none) >>= λx=>ksk_tail a false f d x.2) P E s:=by
   intro κ K;refine aa (PySem.W.kat_run (ks:=l) (vs:=vs) (Q:=λm F=>wpAny (model X.prog X.w) A (ksk_tail a false f d m) P E F) (G:=λn F=>F=s/\Ix vs.length n/\Up lt n vs.length) hl (by omega) h6 (λn m F hs H hf ⟨e,g1,g2⟩=>?_) ?_)
   ·subst e
    exact p m n g1 g2 (PySem.W.kat_snds hl H) hf
   ·refine dR.wp (λi j C u hj hC=>?_) (λn I=>⟨rfl,I⟩) (K1 ord.wo (by omega))
    unfold PySem.W.kas_ask;have y:i<l.length:=by omega
    have z:j<l.length:=by omega
    obtain⟨ri,U,Y⟩:=f6 B (show l[i]?=some l[i] by simp[y]);obtain⟨rj,Z,dj⟩:=f6 B (show l[j]?=some l[j] by simp[z]);have ei:l.getD i Value.none=l[i]:=by simp[y]
    have ej:l.getD j Value.none=l[j]:=by simp[z]
    rw[ei,ej];have⟨o1,o2⟩:=ord.lo i j ri rj U Z;have N:=je U;have O:=je Z;have lo:=Ci Y dj;refine Lj (k:=7) Y dj (lo.2 o1) (by omega) ?_ (by rw[lo.1,<-o2];exact hC);rcases K with⟨rfl,h⟩|⟨rfl,h⟩
    ·exact .inl ⟨rfl,h _ N,h _ O⟩
    ·exact .inr ⟨rfl,(h _ N).1,(h _ O).1,(h _ N).2,(h _ O).2⟩
  rcases ord.kd with hk|hk
  ·refine aa (PySem.W.kas_kind (T:=.type "list") (by omega) (λv J=>?_) rfl rfl (run _ (.inl ⟨rfl,hk⟩)))
   have⟨i,u⟩:=pq J;have⟨r,qr,dr⟩:=f6 B u
   have:=hk r (je qr)
   cases r with
   |lst es =>
    obtain⟨c,its,rfl,pl,_⟩:=dr;have⟨o,L,M,_⟩:=pl.isList;exact Ck L M
   |_=>cases this
  ·have⟨fs,t,lf,g⟩:=Cj B hk
   refine aa (PySem.W.kat_kind (T:=.type "list") t (by omega) (λv J=>?_) rfl (run _ (.inr ⟨rfl,hk⟩)));obtain⟨b,o,rfl,L,M⟩:=g v J;exact Ck L M
end
section
variable {X:Cx}{pins:List (Addr×Obj)}{σ:St}{H Hf:Hp}{s:Shared}{a kS f:Addr}{e1 k:Nat}{E:Value->Shared->Prop}{P:PySem.Fin->Shared->Prop}{fd:FuncData}{p:Str}{F:List D->Option D}
theorem Lo(G:ax X.prog X.w X.K X.mg X.base aQ k f fd [p] sp)(c:aM k X.A.in1.in1)(d:c9 X.K fd [p] [])(I:aw X pins σ H s)(r:bj v u)(h:sp [v] H Q E0):wpAny (model X.prog X.w) X.A.in1.in1 (call (.ref f) [u]) (EP X pins σ Q) (λ_ _=>False) s:=by
 have b:BindsTo s fd ⟨[u],[]⟩ ([p].zip [u]):=by have:=d s [u] I.kIn rfl;rwa [pc]at this
 refine wk (ik (G.run X.A.in1.in1 X.stack s H ⟨[u],[]⟩ [u] [v] Q E0 c I.env0.in1.in1 b (.cons r .nil) h) λr i a=>?_)
 cases r with
 |error e=>exact a.elim
 |ok g =>
  cases g with
  |ret u=>exact I.after a
  |next=>exact False.elim a
  |brk=>exact False.elim a
  |cont=>exact False.elim a
structure KI(X:Cx)(pins:List (Addr×Obj))(σ:St)(Hf H:Hp)(a kS:Addr)(o:Obj)(rs:List D)(s:Shared)(Hf' H':Hp)(ks:List V):Prop where
 inv:aw X pins σ H' s
 st:H' kS=some (.lst ks)
 at_:H' a=some (atObj a o)
 fr:∀b ob,b≠kS->H b=some ob->H' b=some ob
 ff:aS Hf Hf'
 fh:aS Hf' H'
 nw:∀b,Hf' b≠none->Hf b≠none\/kA H b
 nf:∀b o u,Hf' b=some (.frz o u)->Hf b=some (.frz o u)
 dn:aZ X.K Hf' rs ks
theorem Lp(G:ax X.prog X.w X.K X.mg X.base aQ k f fd [p] (aY X.K 1 F))(hr:aM k X.A.in1.in1)(J:c9 X.K fd [p] [])
  (I:aw X pins σ H s) (Y:H kS=some (.lst [])) (ha:H a=some (atObj a (seqObj "list" #[] e1))) (Z:kS≠a) (hfk:Hf kS=none) (fh:aS Hf H) (hd:aZ X.K Hf ds xs) (rv:bB xs vs)
  (hF:∀(i:Nat) d,ds[i]?=some d->∃r,rs[i]?=some r/\F [d]=some r) (hl:rs.length=ds.length) (M:qK lt ds.length) (ord:j3 rs lt)
  (q:∀Hf' H' ks s' (L:Array Nat) B ys,KI X pins σ Hf H a kS (seqObj "list" #[] e1) rs s' Hf' H' ks->Ix ds.length L->Up lt L ds.length->ys=L.toList.map (λi=>xs.getD i V.non)->aw X pins σ (aG (aG H' kS (.lst [])) a (.lst ys)) B->P (.done (.ret .none)) B) :
  wpAny (model X.prog X.w) X.A.in1.in1 (ksk_rest a (.ref f) false vs.toArray e1 (.ref kS)) P E s:=by
 have l1:ds.length=xs.length:=hd.length;have l2:xs.length=vs.length:=rv.length;have h6:=M.2;unfold ksk_rest;refine aa (dm ?_);rw[List.forIn_toArray];refine aa (ksk_fold (λi s'=>∃Hf' H' ks,KI X pins σ Hf H a kS (seqObj "list" #[] e1) (rs.take i) s' Hf' H' ks) vs 0 s ⟨Hf,H,[],⟨I,Y,ha,λ_ _ _ h=>h,aS.refl _,fh,λ_ h=>.inl h,λ_ _ _ h=>h,by rw[List.take_zero];exact .nil⟩⟩ ?step ?done)
 case step =>
  rintro j x s' hx ⟨Hf',H',ks,K⟩;simp only[rf]at K ⊢;have hj:j<vs.length:=(ya.mp hx).1;have⟨v,qv,rx⟩:=f6 rv hx;have⟨d,qd,dd⟩:=f6 hd qv;have⟨r,qr,hr'⟩:=hF j d qd;have hkl:ks.length<=1000:=by rw[<-K.dn.length,ae];omega
  refine aa (wpAny_attempt (re (Lo (Q:=λv N=>∃g,Ex Hf' H' g N/\Dn X.K g r v) G hr J K.inv rx ⟨Hf',[d],r,K.fh,.cons (dd.same K.ff) .nil,rfl,hr',λg N v m dv=>⟨g,m,dv⟩⟩) (λu B he=>?_) λ_ _ h=>h.elim));obtain⟨w,N,I2,rw_,g,m,dw⟩:=he;dsimp only;have O:N kS=some (.lst ks):=m.hh _ _ K.st;have⟨its,n,rk,C,hkz⟩:=I2.lst O
  have R:g kS=none:=by
   cases z:g kS with
   |none=>rfl
   |some o =>
    rcases m.nw kS (by rw[z];exact λz=>nomatch z) with y|y
    ·rcases K.nw kS y with y|y
     ·exact absurd hfk y
     ·exact(y.no Y (λ_ z=>nomatch z)).elim
    ·exact(y.no K.st (λ_ z=>nomatch z)).elim
  have I3:aw X pins σ (aG N kS (.lst (ks++[w]))) { B with heap:=B.heap.update kS (Obj.mapSeq (·.push u)),toks:=B.toks }:=I2.lstUpd (its':=its++[u]) (n':=if (its.toArray.push u).size == its.toArray.size then n else n+1) O C (by show Obj.mk _ _ _ _=_;simp[Obj.mapSeq]) (rk.append (.cons rw_ .nil)) (by rw[wa,xb];exact sz (by omega)) B.toks;have T:=rk.length;refine aa (im C rfl ?_ (by rw[oa,<-T];exact sz (by omega)) (by show (its.toArray.push u).size<=_;rw[Array.size_push,oa,<-T];exact wn (sz (by omega))));refine ia ⟨rfl,g,aG N kS (.lst (ks++[w])),ks++[w],⟨I3,bi,by rw[aK Z.symm];exact m.hh _ _ K.at_,λb ob J e=>by rw[aK J];exact m.hh _ _ (K.fr b ob J e),K.ff.trans m.ff,λb ob e=>?_,λb h=>?_,λb o u h=>K.nf b o u (m.nf b o u h),?_⟩⟩
  ·rw[aK (cC e R)];exact m.fh b ob e
  ·rcases m.nw b h with y|y
   ·exact K.nw b y
   ·by_cases J:b=kS
    ·subst J;exact(y.no K.st (λ_ z=>nomatch z)).elim
    ·cases z:H b with
     |none=>exact .inr (.inl z)
     |some o =>
      rcases y with y|⟨xs,y⟩
      ·rw[K.fr b o J z]at y;cases y
      ·rw[K.fr b o J z]at y;cases y;exact .inr (.inr ⟨xs,z⟩)
  ·have:rs.take (j+1)=rs.take j++[r]:=by rw[List.take_add_one,qr];rfl
   rw[this];exact(K.dn.same m.ff).zsnoc dw
 case done =>
  rintro s' ⟨Hf',H',ks,K⟩;rw[rf,vf (by omega)]at K;have⟨its,n,rk,C,hkz⟩:=K.inv.lst K.st;refine aa (listItems_at C rfl ?_)
  have hp:Paired (HD s'.heap LV) rs its:=by
   have all:∀{rs:List D} {ks:List V} {us:List Value},aZ X.K Hf' rs ks->bB ks us->(∀r∈rs,bE LV r=true)->Paired (HD s'.heap LV) rs us:=by
    intro rs ks us d
    induction d generalizing us with
    |nil=>intro v _;cases v;exact .nil
    |cons a b ih=>intro v o;cases v with|cons c e=>exact .cons (xx K.inv K.fh a (o _ va) c) (ih e λr h=>o r (la _ h))
   exact all K.dn rk ord.ok
  have hil:its.length=vs.length:=by rw[<-hp.length];omega
  refine Ln (vs:=vs) hp ord hil (by rw[<-l2,<-l1];exact M) (by have:=hr.units;show _+9<cLine;omega) λst' L h1 h2 h3 h4=>?_
  have hn:vs.length=ds.length:=by omega
  rw[hn]at h1 h2;refine Lm (ys:=L.toList.map λi=>xs.getD i V.non) K.inv K.st K.at_ Z h3 h4 ?_ (by rw[ba,pf,h1.size];exact M.2) λB I2=>q Hf' H' ks s' L B _ K h1 h2 rfl I2
  have bd:∀i∈L.toList,i<ds.length:=λi hi=>dh.mp (h1.mem_iff.mp hi)
  have U:∀l:List Nat,(∀i∈l,i<ds.length)->bB (l.map λi=>xs.getD i V.non) (l.map λi=>vs.getD i Value.none):=by
   intro l
   induction l with
   |nil=>intro _;exact .nil
   |cons i r ih =>
    intro h;have hi:=h i va;refine .cons ?_ (ih λj hj=>h j (la _ hj));have hiv:i<vs.length:=by omega
    have ev:vs[i]?=some vs[i]:=zc hiv;have⟨v,qv,rx⟩:=f6 rv ev;show bj (xs.getD i V.non) (vs.getD i Value.none);rw[gc,qv,gc,ev];exact rx
  exact U _ bd
end
section
variable {X:Cx}{pins:List (Addr×Obj)}{σ:St}{H Hf:Hp}{s:Shared}{a f:Addr}{k:Nat}{E:Value->Shared->Prop}{P:PySem.Fin->Shared->Prop}{fd:FuncData}{p:Str}{F:List D->Option D}
structure xy(X:Cx)(pins:List (Addr×Obj))(σ:St)(Hf H:Hp)(a:Addr)(xs:List V)(n:Nat)(lt:Nat->Nat->Bool)(s:Shared)(Hf' H':Hp)(π:Array Nat):Prop where
 inv:aw X pins σ H' s
 at_:H' a=some (.lst (π.toList.map λi=>xs.getD i V.non))
 fa:Hf' a=none
 ff:aS Hf Hf'
 fh:aS Hf' H'
 fr:∀b ob,b≠a->H b=some ob->H' b=some ob
 nw:∀b,Hf' b≠none->Hf b≠none\/kA H b
 nf:∀b o u,Hf' b=some (.frz o u)->Hf b=some (.frz o u)
 ix:Ix n π
 up:Up lt π n
theorem Lq(G:ax X.prog X.w X.K X.mg X.base aQ k f fd [p] (aY X.K 1 F))(hr:aM k X.A.in1.in1)(N:c9 X.K fd [p] [])
  (I:aw X pins σ H s) (ha:H a=some (.lst xs)) (L:Hf a=none) (fh:aS Hf H) (hd:aZ X.K Hf ds xs)
  (hF:∀(i:Nat) d,ds[i]?=some d->∃r,rs[i]?=some r/\F [d]=some r) (hl:rs.length=ds.length) (M:qK lt ds.length) (ord:j3 rs lt)
  (q:∀Hf' H' s' (O:Array Nat),xy X pins σ Hf H a xs ds.length lt s' Hf' H' O->P (.done (.ret .none)) s') :
  wpAny (model X.prog X.w) X.A.in1.in1 (ksk_tree a (.ref f) false) P E s:=by
 have⟨vs,n,Z,U,hz⟩:=I.lst ha;have lv:=Z.length;have ld:=hd.length;have h6:=M.2;have g:=get?_update_seq U (λ_=>(#[]:Array Value));generalize he1:(if (#[]:Array Value).size == vs.toArray.size then n else n+1)=e1 at g;have I1:aw X pins σ (aG H a (atObj a (seqObj "list" #[] e1))) { s with heap:=s.heap.update a (Obj.mapSeq λ_=>(#[]:Array Value)),toks:=s.toks }:=I.write (x:=a) (e:=a) (by rw[ha];trivial) (.inl rfl) (λb u N e=>(cc _ _ (ve N)).trans e) ⟨_,g⟩ (Ll g);have I2:aw X pins σ (aG H a (atObj a (seqObj "list" #[] e1))) { s with heap:=(s.heap.update a (Obj.mapSeq λ_=>(#[]:Array Value))).push (seqObj "tuple" vs.toArray 0),toks:=s.toks }:=I1.kept λb o e=>na _ e
 have I3:=I2.laid (a:=((s.heap.update a (Obj.mapSeq λ_=>(#[]:Array Value))).push (seqObj "tuple" vs.toArray 0)).objs.size) (o:=.lst []) (t':=s.toks) (h':=((s.heap.update a (Obj.mapSeq λ_=>(#[]:Array Value))).push (seqObj "tuple" vs.toArray 0)).push (seqObj "list" #[] 0)) (λb o e=>na _ e) (bb _) ⟨be _,[],0,.nil,zb _ rfl⟩;have c:(aG H a (atObj a (seqObj "list" #[] e1))) ((s.heap.update a (Obj.mapSeq λ_=>(#[]:Array Value))).push (seqObj "tuple" vs.toArray 0)).objs.size=none:=I2.hok.fresh (bb _);unfold ksk_tree;refine aa (listItems_at U rfl ?_);refine aa (im U rfl ?_ (by rw[oa,<-lv];exact hz) (be _));refine aa (seqEpoch_at g rfl ?_);refine aa (wpAny_newTuple ?_ (by show vs.length<=_;rw[<-lv];exact hz));refine aa (wpAny_newList ?_ (be _));refine qe ?_;generalize hkS:((s.heap.update a (Obj.mapSeq λ_=>(#[]:Array Value))).push (seqObj "tuple" vs.toArray 0)).objs.size=kS at I3 c;have j:kS≠a:=λz=>by subst z;rw[bi]at c;cases c
 have C:H kS=none:=by rw[aK j]at c;exact c
 have m:Hf kS=none:=fh.free C
 have Y:aS Hf (aG (aG H a (atObj a (seqObj "list" #[] e1))) kS (.lst [])):=λb o e=>by
  rw[aK (cC e m),aK (cC e L)];exact fh b o e
 have h3:∀{b:Addr},b≠a->b≠kS->(aG (aG H a (atObj a (seqObj "list" #[] e1))) kS (.lst [])) b=H b:=λ{b} B l=>by rw[aK l,aK B]
 refine Lp (kS:=kS) G hr N I3 bi (by rw[aK j.symm,bi]) j m Y hd Z hF hl M ord λHf' H' ks s' O s2 ys K Q R T I4=>q Hf' (aG (aG H' kS (.lst [])) a (.lst ys)) s2 O ?_
 have v:Hf' a=none:=by
  cases z:Hf' a with
  |none=>rfl
  |some o =>
   rcases K.nw a (by rw[z];exact λz=>nomatch z) with y|y
   ·exact absurd L y
   ·exact(y.no (by rw[aK j.symm,bi]) (λ_ z=>by unfold atObj at z;cases z)).elim
 have J:Hf' kS=none:=by
  cases z:Hf' kS with
  |none=>rfl
  |some o =>
   rcases K.nw kS (by rw[z];exact λz=>nomatch z) with y|y
   ·exact absurd m y
   ·exact(y.no bi (λ_ z=>nomatch z)).elim
 subst T;refine⟨I4,bi,v,K.ff,λb o e=>?_,λb ob B e=>?_,λb h=>?_,K.nf,Q,R⟩
 ·rw[aK (cC e v),aK (cC e J)];exact K.fh b o e
 ·have l:b≠kS:=λz=>by subst z;rw[C]at e;cases e
  rw[aK B,aK l];exact K.fr b ob l (by rw[h3 B l];exact e)
 ·rcases K.nw b h with y|y
  ·exact .inl y
  ·have B:b≠a:=λz=>by subst z;exact h v
   have l:b≠kS:=λz=>by subst z;exact h J
   unfold kA at y;rw[h3 B l]at y;exact .inr y
theorem Cl(G:ax X.prog X.w X.K X.mg X.base aQ k f fd [p] (aY X.K 1 F))(M:aM k X.A.in1.in1)(N:c9 X.K fd [p] [])
  (I:aw X pins σ H s) (fh:aS Hf H) (C:aZ X.K Hf ds xs)
  (n:∀R:List Value->Shared->Prop,(∀h' tk vs,(∀b o,s.heap.get? b=some o->h'.get? b=some o)->bB xs vs->R vs { s with heap:=h',toks:=tk })->wpAny (model X.prog X.w) X.A.in1 (collect u) R X.xe s)
  (O:∀(i:Nat) d,ds[i]?=some d->∃r,rs[i]?=some r/\F [d]=some r) (hl:rs.length=ds.length) (v:qK lt ds.length) (ord:j3 rs lt)
  (q:∀Hf' H' l (j:Array Nat),Ex Hf H Hf' H'->H l=none->Hf' l=none->H' l=some (.lst (j.toList.map λi=>xs.getD i V.non))->Ix ds.length j->Up lt j ds.length->Q (.ref l) H') :
  wpAny (model X.prog X.w) X.A (call (.builtin "sorted") [u] [(Str.ofString "key",.ref f)]) (EP X pins σ Q) X.xe s:=by
 have T:=C.length;have U:=v.2;refine call_function_entry_kw kind_sorted plain_sorted entry_sorted (ksk_s1 _ _) ?_
 unfold Builtin.«sorted»;refine aa (m:=checkCount "sorted" 1 1 _) (ia ?_);refine aa (n _ λh' tk vs g z=>?_);have E:=z.length;refine aa (wpAny_newList ?_ (by rw[<-E];exact sz (by omega)));have B:aw X pins σ H { s with heap:=h',toks:=tk }:=I.kept g;have J:=B.laid (a:=h'.objs.size) (o:=.lst xs) (t':=tk) (h':=h'.push (seqObj "list" vs.toArray 0)) (λb o e=>na _ e) (bb _) ⟨sz (by omega),vs,0,z,zb _ rfl⟩;have c:H h'.objs.size=none:=B.hok.fresh (bb _);have x:(h'.push (seqObj "list" vs.toArray 0)).get? h'.objs.size=some (seqObj "list" vs.toArray 0):=zb _ rfl;refine aa (qe (wpAny_call_entry_kw slot_list_sort ⟨_,x,rfl⟩ entry_list_sort ?body (ksk_l1 _ _)))
 case body =>
  have L:=ksk_t1 f h'.objs.size;show wpAny (model X.prog X.w) X.A.in1.in1 (Builtin.«list.sort» ⟨[.ref h'.objs.size],[(Str.ofString "key",.ref f)]⟩) _ _ _;rw[L];refine Lq G M N J bi (fh.free c) (fh.trans (gJ c)) C O hl v ord λHf' H' P j K=>?_
  refine⟨_,rfl,ia ⟨_,rfl,.ref h'.objs.size,H',K.inv,rfl,q Hf' H' _ j ⟨K.ff,λb o e=>?_,K.fh,λb h=>?_,K.nf⟩ c K.fa K.at_ K.ix K.up⟩⟩
  ·have hn:b≠h'.objs.size:=cC e c
   exact K.fr b o hn (by rw[aK hn];exact e)
  ·rcases K.nw b h with y|y
   ·exact .inl y
   ·by_cases hn:b=h'.objs.size
    ·subst hn;exact .inr (.inl c)
    ·unfold kA at y;rw[aK hn]at y;exact .inr y
end
def iZ(h:Heap)(d:Addr)(es:Array DictEntry)(ep:Nat):Prop:=∃o,h.get? d=some o/\o.ExactDict/\o.data=.dict es ep
section
variable {prog:Program}{w:World}{A:Around}{E:Value->Shared->Prop}{s:Shared}{d it:Addr}{es:Array DictEntry}{ep i:Nat}
theorem iZ.ty(x:iZ s.heap d es ep):s.TypeIs (.ref d) "dict":=let ⟨o,a,b,_⟩:=x;⟨o,a,b.1⟩
theorem iZ.at(x:iZ h d es ep)(e:∀o,h.get? d=some o->h'.get? d=some o):iZ h' d es ep:=let ⟨o,a,r⟩:=x;⟨o,e _ a,r⟩
theorem iZ.lt(x:iZ h d es ep):d<h.objs.size:=let ⟨_,a,_⟩:=x;ib a
theorem Lr (c:(d == sysModules)=false) (hm:iZ s.heap d es ep) (e:Q (.ref s.heap.objs.size) { s with heap:=s.heap.push { cls:=.type "dict_keyiterator",data:=.fields #[.ref d,.int 0 0,.int es.size 0,.int ep 0] } }):wpAny (model prog w) A (pyIter (.ref d)) Q E s:=by
 have⟨o,b,f,a⟩:=id hm;refine wpAny_pyIter_slot hm.ty PySem.F.slot_dict_iter (lj PySem.F.slot_dict_iter hm.ty PySem.F.entry_dict_iter ?_ (PySem.F.args_dict_iter_1 _));unfold Builtin.«dict.__iter__»;refine aa ?_;unfold Builtin.Dict.dictSlotNone;refine aa (wpAny_notOrdered_dict hm.ty ?_);show wpAny _ _ (pure (Value.ref d)) _ _ s;refine ia ?_;show wpAny _ _ (Builtin.Dict.showsAll d >>= _) _ _ s;unfold Builtin.Dict.showsAll;rw[qa (by rw[c];exact ma)];refine aa (ia ?_);refine aa (ql b a ?_);refine aa (cq b a ?_);refine aa (ue (ia ⟨_,rfl,"dict_keyiterator",_,⟨_,zb _ rfl,rfl⟩,PySem.F.slot_dict_keyiterator_next.lookup,?_⟩));simpa [rawInt] using e
theorem Ls(a:s.heap.IsKeyIter it d i es.size ep)(hm:iZ s.heap d es ep)(m:i<es.size)(n:∀h',h'.IsKeyIter it d (i+1) es.size ep->Heap.SameBut it s.heap h'->Q (some es[i].key) { s with heap:=h' }):wpAny (model prog w) A (pyNext (.ref it)) Q E s:=by
 have⟨o,h,j,c⟩:=id a;have⟨p,e,l,f⟩:=id hm;unfold pyNext;refine aa (wpAny_attempt (fj (name:=Str.ofString "__next__") a.typeIs PySem.F.slot_dict_keyiterator_next (lj PySem.F.slot_dict_keyiterator_next a.typeIs PySem.F.entry_dict_keyiterator_next ?_ (PySem.F.args_dict_keyiterator_next_1 _))));refine aa (ia ?_);refine aa ?_;refine aa ?_
 first|refine aa (ah a.typeIs (ia ?_));refine aa (gn h c ?_)|refine aa (yi a.typeIs (ia ?_));refine aa (gn h c ?_)
 have g:Builtin.Dict_items.ownsTuple "dict_keyiterator" = false:=by decide
 simp only[g,zd,xi];show wpAny _ _ (if (Value.ref d == Value.none)=true then _ else _) _ _ s;rw[qa (show ¬((Value.ref d == Value.none)=true) from ma)];refine aa (ia ?_);refine aa (ql e f ?_);rw[qa (by simp)];refine aa (ia ?_);refine aa (cq e f ?_);rw[qa (by simp)];refine ia ?_;simp only[show ¬((i:Int)<0) from by omega,xi,lg,xf m];refine aa ?_
 first|refine aa (ah a.typeIs (ia ?_));refine aa (yl a.typeIs ?_)|refine aa (yi a.typeIs (ia ?_));refine aa (yl a.typeIs ?_)
 show wpAny _ _ (setField (.ref it) 1 (rawInt ((i:Int)+1)) >>= _) _ _ s;refine aa (qg h c (by simp) ?_);have b:(s.heap.update it (Obj.mapFields (·.setIfInBounds 1 (rawInt ((i:Int)+1))))).IsKeyIter it d (i+1) es.size ep:=⟨_,ce _ h (ag (me c _)),(Obj.cls_mapFields ..).trans j,by rw[me c];simp[rawInt]⟩
 refine aa (qe ?_);refine aa (yl (s:={ s with heap:=s.heap.update it (Obj.mapFields (·.setIfInBounds 1 (rawInt ((i:Int)+1)))) }) b.typeIs ?_);show wpAny _ _ (pure es[i].key) _ _ _;exact ia (ia ⟨_,rfl,ia (n _ b (cj ..))⟩)
theorem Lu(n:A.handled=none)(c:s.heap.IsKeyIter it d i es.size ep)(hm:iZ s.heap d es ep)(p:es.size<=i)(q:∀h',Heap.ExtBut it s.heap h'->Q none { s with heap:=h' }):wpAny (model prog w) A (pyNext (.ref it)) Q E s:=by
 have⟨o,h,r,j⟩:=id c;have⟨u,e,l,f⟩:=id hm;unfold pyNext;refine aa (wpAny_attempt (fj (name:=Str.ofString "__next__") c.typeIs PySem.F.slot_dict_keyiterator_next (lj PySem.F.slot_dict_keyiterator_next c.typeIs PySem.F.entry_dict_keyiterator_next ?_ (PySem.F.args_dict_keyiterator_next_1 _))));refine aa (ia ?_);refine aa ?_;refine aa ?_
 first|refine aa (ah c.typeIs (ia ?_));refine aa (gn h j ?_)|refine aa (yi c.typeIs (ia ?_));refine aa (gn h j ?_)
 have g:Builtin.Dict_items.ownsTuple "dict_keyiterator" = false:=by decide
 simp only[g,zd,xi];show wpAny _ _ (if (Value.ref d == Value.none)=true then _ else _) _ _ s;rw[qa (show ¬((Value.ref d == Value.none)=true) from ma)];refine aa (ia ?_);refine aa (ql e f ?_);rw[qa (by simp)];refine aa (ia ?_);refine aa (cq e f ?_);rw[qa (by simp)];refine ia ?_;simp only[show ¬((i:Int)<0) from by omega,xi,lg,uj p];refine aa ?_
 first|refine aa (ah c.typeIs (ia ?_));show wpAny _ _ (setField (.ref it) 0 .none >>= _) _ _ s|refine aa (yi c.typeIs (ia ?_));show wpAny _ _ (setField (.ref it) 0 .none >>= _) _ _ s
 refine aa (qg h j (by simp) ?_);show wpAny _ _ (newExc (.type "StopIteration") [] >>= _) _ _ _;refine aa ?_;simp only[newExc,newTuple];refine aa (ue ?_ (by size_fits));refine aa (m:=firstArgMember _ _) (vq (a:=Value.none) (by first|rfl|(simp only[firstArgMember];rfl)) ?_);refine ue ?_ (by size_fits);simp only[raiseNew];refine aa (wpAny_handled ?_);rw[show A.in1.handled=none from n];refine aa (ia (wpAny_throw ?_));refine aa (bp (T:="StopIteration") (b:=true) ⟨_,zb _ rfl,rfl⟩ isSubtype_stop ?_);exact ia (q _ (((cj ..).extBut.push _).push _))
theorem Lv(hh:A.handled=none)(I d:Addr)(hne:d≠I)(es:Array DictEntry)(ep:Nat):Walks prog w A I [I,d] [I] es.size (λi v=>∃e,es[i]?=some e/\v=e.key) (λi h=>h.IsKeyIter I d i es.size ep/\iZ h d es ep) where
 sub:=λb hb=>by simp at hb;simp[hb]
 frame:=λ_ _ _ x hk=>⟨x.1.at λo e=>hk I (by simp) o e,x.2.at λo e=>hk d (by simp) o e⟩
 item:=λi s Q E hi x hQ=>Ls x.1 x.2 hi λh' hit' hs'=>hQ _ h' s.toks ⟨es[i],by simp[hi],rfl⟩ ⟨hit',x.2.at λo e=>(hs'.2 d hne).trans e⟩ λb o hb e=>hs'.extBut b o (λz=>hb (by simp[z])) e
 done:=λs Q E x hQ=>Lu hh x.1 x.2 (bb _) λh' he'=>hQ h' s.toks λb o hb e=>he' b o (λz=>hb (by simp[z])) e
 self:=λ_ _ _ _ x hQ=>wpAny_pyIter_keyiter x.1 hQ
theorem Lw(lo:(d == sysModules)=false):PySem.W.KdlSrc prog w "dict" d d es.size (λi v=>∃e,es[i]?=some e/\v=e.key) (λh=>iZ h d es ep) where
 type:=λ_ x=>x.ty
 there:=λ_ x=>⟨x.lt,x.lt⟩
 keep:=λ_ _ x hk=>x.at λo e=>hk d (.inl rfl) o e
 notList:=by decide
 notTuple:=by decide
 hint:=λ_ _ _ _ x hq=>PySem.W.kdl_hint_dict x.ty hq
 iter:=λ_ _ hh x=>⟨_,_,(λ_ _ hq=>Lr lo x hq),Lv hh _ d (ic x.lt) es ep,⟨⟨_,zb _ rfl,rfl,rfl⟩,x.at λo e=>na _ e⟩⟩
theorem Cm(n:A.handled=none)(p:(d == sysModules)=false)(x:iZ s.heap d es ep)(hn:es.size<=sizeLine)(h:∀h' tk,(∀b o,s.heap.get? b=some o->h'.get? b=some o)->R (es.toList.map (·.key)) { s with heap:=h',toks:=tk }):wpAny (model prog w) A (collect (.ref d)) R E s:=by
 refine PySem.W.kdu_collect (Lw (es:=es) (ep:=ep) p) n x hn λh' tk a c f=>?_
 have e:a.toList=es.toList.map (·.key):=by
  apply ol;intro i;obtain⟨q,j⟩:=f;by_cases g:i<a.size
  ·have⟨e,l,m⟩:=j i _ (xf g)
   rw[wg,xf g,m,ed,wg,l];rfl
  ·rw[wg,uj (by omega),xl (by rw[ba,pf];omega)]
 rw[e];exact h h' tk c
end
noncomputable def ny:D->Bool|.sc (.str _)=>true|_=>false
def qL:Nat->D->Bool
 |0,.sc (.int _)=>true
 |1,.sc (.bl _)=>true
 |2,.tup ds=>ds.all ny
 |_,_=>false
def j5:List Nat->List D->Bool
 |[],[]=>true
 |n::ns,d::ds=>qL n d && j5 ns ds
 |_,_=>false
def gw(sg:List Nat):D->Bool
 |.tup ds=>j5 sg ds
 |_=>false
mutual
noncomputable def et:D->Bool
 |.sc (.int _)=>true
 |.sc (.bl _)=>true
 |.sc (.str _)=>true
 |.tup ds=>jK ds
 |_=>false
noncomputable def jK:List D->Bool
 |[]=>true
 |d::ds=>et d && jK ds
end
mutual
noncomputable def hD(w:World):D->Int
 |.sc (.int i)=>hashInt i
 |.sc (.bl b)=>if b then 1 else 0
 |.sc (.str x)=>hashStr w x
 |.tup ds=>reduceHash (Builtin.Tuple.tupleHashOf (qM w ds))
 |_=>0
noncomputable def qM(w:World):List D->List Int
 |[]=>[]
 |d::ds=>hD w d::qM w ds
end
mutual
noncomputable def dr:D->Nat
 |.tup ds=>qN ds+1
 |_=>1
noncomputable def qN:List D->Nat
 |[]=>0
 |d::ds=>dr d+qN ds
end
section
variable {prog:Program}{w:World}{E:Value->Shared->Prop}
theorem Cn(g:∀{s:Shared}{d:D}{u:Value}{Q:Int->Shared->Prop},HD s.heap k d u->et d=true->Q (hD w d) { s with toks:=s.toks+dr d }->wpAny (model prog w) A (pyHash u) Q E s) :
  ∀{ds:List D} {c:List Value} {s:Shared} {b:Array Int} {Q:Array Int->Shared->Prop},Paired (HD s.heap k) ds c->jK ds=true->(∀e:Array Int,e.toList=b.toList++qM w ds->Q e { s with toks:=s.toks+qN ds }) →
  wpAny (model prog w) A (forIn c b λx r=>do let h ← pyHash x;pure PUnit.unit;pure (ForInStep.yield (r.push h))) Q E s
 |_,_,s,b,Q,.nil,_,h=>by rw[List.forIn_nil];exact ia (by have:=h b (by simp[qM]);simpa [qN] using this)
 |d::ds,u::c,s,b,Q,.cons a r,f,h=>by
  rw[jK,jb]at f;rw[List.forIn_cons];refine aa (aa (g a f.1 ?_));refine aa (ia (ia ?_));refine Cn g (s:={ s with toks:=s.toks+dr d }) r f.2 λe i=>?_
  have:=h e (by rw[i,qM];simp)
  rw[qN]at this
  simpa [Nat.add_assoc] using this
theorem Lx:∀{k:Nat}{A:Around}{s:Shared}{d:D}{u:Value}{Q:Int->Shared->Prop},HD s.heap k d u->et d=true->A.units+k<cLine->Q (hD w d) { s with toks:=s.toks+dr d }->wpAny (model prog w) A (pyHash u) Q E s:=by
 intro k
 induction k with
 |zero =>
  intro A s d u Q h c y q
  cases d with
  |sc v =>
   obtain⟨_,r⟩:=h
   cases v with
   |int i=>obtain⟨t,rfl⟩:=r;exact oo q
   |str x=>obtain⟨t,rfl⟩:=r;exact qo q
   |bl b =>
    cases r;refine PySem.W.pyHash_slot (T:="bool") rfl PySem.F.slot_bool_hash entry_int_hash (args_int_hash _) (ip _) (.inr (by omega)) ?_
    cases b
    ·exact(show wpAny _ _ (do ret (← mkInt 0)) _ _ s from aa (yn (ia ⟨_,_,rfl,q⟩)))
    ·exact(show wpAny _ _ (do ret (← mkInt 1)) _ _ s from aa (yn (ia ⟨_,_,rfl,q⟩)))
   |_=>cases c
  |_=>exact h.elim
 |succ k G =>
  intro A s d u Q h c y q
  cases d with
  |sc v =>
   obtain⟨_,r⟩:=h
   cases v with
   |int i=>obtain⟨t,rfl⟩:=r;exact oo q
   |str x=>obtain⟨t,rfl⟩:=r;exact qo q
   |bl b =>
    cases r;refine PySem.W.pyHash_slot (T:="bool") rfl PySem.F.slot_bool_hash entry_int_hash (args_int_hash _) (ip _) (.inr (by omega)) ?_
    cases b
    ·exact(show wpAny _ _ (do ret (← mkInt 0)) _ _ s from aa (yn (ia ⟨_,_,rfl,q⟩)))
    ·exact(show wpAny _ _ (do ret (← mkInt 1)) _ _ s from aa (yn (ia ⟨_,_,rfl,q⟩)))
   |_=>cases c
  |tup ds =>
   obtain⟨a,z,rfl,t,p⟩:=h;obtain⟨o,e,B,n,C⟩:=t;rw[et]at c;refine PySem.W.pyHash_slot (T:="tuple") ⟨_,e,B⟩ PySem.F.slot_tuple_hash PySem.F.entry_tuple_hash (PySem.F.args_tuple_hash_1 _) (ip _) (.inr (by omega)) ?_;show wpAny _ _ (Builtin.Tuple.tupleItemsOf (.ref a) >>= _) _ _ s;refine aa (wpAny_tupleItemsOf e C ?_);refine aa ?_;rw[<-Array.forIn_toList];refine Cn (A:=A.in1) (k:=k) (λ{s d u Q} f g j=>G f g (by show A.units+1+k<cLine;omega) j) p c λl m=>?_
   show wpAny _ _ (retInt (Builtin.Tuple.tupleHashOf l.toList)) _ _ _;rw[m];refine aa (yn (ia ⟨_,_,rfl,?_⟩));rw[hD,dr]at q
   simpa [Nat.add_assoc] using q
  |_=>cases c
theorem Ly:∀{k n:Nat}{A:Around}{s:Shared}{d:D}{u:Value}{Q:Bool->Shared->Prop},HD s.heap k d u->et d=true->k<=n->Q true s->wpAny (model prog w) A (eqIsQuiet n u) Q E s:=by
 have f:∀{n:Nat} {A:Around} {s:Shared} {v:V} {u:Value} {Q:Bool->Shared->Prop},bj v u->et (.sc v)=true->Q true s->wpAny (model prog w) A (eqIsQuiet n u) Q E s:=by
  intro n A s v u Q r e q
  have H:carriedByValue u=true:=by
   cases v with
   |int i=>obtain⟨t,rfl⟩:=r;rfl
   |str x=>obtain⟨t,rfl⟩:=r;rfl
   |bl b=>cases r;rfl
   |_=>cases e
  rw[eqIsQuiet_byValue n H];exact ia q
 intro k
 induction k with
 |zero =>
  intro n A s d u Q h e hn q
  cases d with
  |sc v=>exact f h.2 e q
  |_=>exact h.elim
 |succ k I =>
  intro n A s d u Q h e hn q
  cases d with
  |sc v=>exact f h.2 e q
  |tup ds =>
   obtain⟨a,y,rfl,t,p⟩:=h;obtain⟨o,z,B,m,G⟩:=t;rw[et]at e;obtain⟨n',rfl⟩:∃n',n=n'+1:=⟨n - 1,by omega⟩
   unfold eqIsQuiet;refine aa (rm (T:="tuple") ⟨_,z,B⟩ PySem.F.slot_tuple_eq.lookup ?_);show wpAny _ _ (isInstance (.ref a) (.type "tuple") >>= _) _ _ s;refine aa (bp (T:="tuple") ⟨_,z,B⟩ isSubtype_tuple_tuple ?_);simp only[vh,zd,xi];refine aa (kn z G ?_);refine aa ?_;show wpAny _ _ (forIn y.toArray _ _) _ _ s;rw[<-Array.forIn_toList];refine yo _ (λc r g=>r.1=none/\g=s/\∃es,Paired (HD s.heap k) es c/\jK es=true) _ ?_ ?_ _ _ ⟨rfl,rfl,ds,p,e⟩
   ·rintro v c r g ⟨j,rfl,es,C,l⟩
    cases C with
    |cons J b1 =>
     rw[jK,jb]at l;refine aa (I J l.1 (by omega) ?_);simp only[vh,zd,xi];exact ia ⟨rfl,rfl,_,b1,l.2⟩
   ·rintro⟨K,L⟩ g ⟨j,rfl,_⟩
    simp only at j;subst j;exact ia q
  |_=>cases e
theorem Lz(r:h.get? c=some o)(s:o.data=.dict es ep)(hs:Heap.SameBut c h h'):∀{k:Nat}{d:D}{u:Value},HD h k d u->HD h' k d u:=by
 intro k
 induction k with
 |zero=>intro d u x;cases d <;> exact x
 |succ k q =>
  intro d u x
  have m:∀{b:Addr} {f:Obj} {xs:Array Value} {n:Nat},h.get? b=some f->f.data=.seq xs n->b≠c:=λ{b f xs n} e1 e2 z=>by
   subst z;rw[r]at e1;cases e1;rw[s]at e2;cases e2
  cases d with
  |sc v=>exact x
  |tup ds =>
   obtain⟨a,g,e,⟨f,j,l,n,i⟩,p⟩:=x;exact⟨a,g,e,⟨f,(hs.2 a (m j i)).trans j,l,n,i⟩,p.zmap λ_ _=>q⟩
  |lst ds =>
   obtain⟨a,g,e,⟨f,n,j,l,i⟩,p⟩:=x;exact⟨a,g,e,⟨f,n,(hs.2 a (m j (by first|exact i.2.1|exact i.2|exact i.2.2))).trans j,l,i⟩,p.zmap λ_ _=>q⟩
  |_=>exact x.elim
end
theorem Co:∀{ds es:List D},ds.all ny=true->es.all ny=true->(b9 ds es=true↔ds=es)
 |[],[],_,_=>by simp[b9]
 |[],_::_,_,_=>by simp[b9]
 |_::_,[],_,_=>by simp[b9]
 |d::ds,e::es,c,f=>by
  rw[zi,jb]at c f;have g:=Co c.2 f.2
  cases d with
  |sc a =>
   cases a with
   |str x =>
    cases e with
    |sc b =>
     cases b with
     |str y=>rw[b9,jb,g,bG];simp[iO]
     |_=>cases f.1
    |_=>cases f.1
   |_=>cases c.1
  |_=>cases c.1
theorem LA(a:qL n d=true)(b:qL n e=true):bG d e=true↔d=e:=by
 match n,d,e,a,b with
 |0,.sc (.int i),.sc (.int j),_,_=>rw[bG];simp[iO]
 |1,.sc (.bl i),.sc (.bl j),_,_=>rw[bG];simp[iO]
 |2,.tup ds,.tup es,a,b=>rw[bG,Co a b];simp
theorem Cp:∀{sg:List Nat}{ds es:List D},j5 sg ds=true->j5 sg es=true->(b9 ds es=true↔ds=es)
 |[],[],[],_,_=>by simp[b9]
 |n::sg,d::ds,e::es,a,b=>by
  rw[j5,jb]at a b;rw[b9,jb,LA a.1 b.1,Cp a.2 b.2];simp
theorem LB(h:qL n d=true):et d=true:=by
 match n,d,h with
 |0,.sc (.int i),_=>simp[et]
 |1,.sc (.bl i),_=>simp[et]
 |2,.tup ds,h =>
  rw[et]
  have:∀l:List D,l.all ny=true->jK l=true:=by
   intro l
   induction l with
   |nil=>intro _;simp[jK]
   |cons a r b =>
    intro h;rw[zi,jb]at h;rw[jK,b h.2]
    cases a with
    |sc v=>cases v <;> first|(simp[et];done)|cases h.1
    |_=>cases h.1
  exact this ds h
theorem Cq:∀{sg:List Nat}{ds:List D},j5 sg ds=true->jK ds=true
 |[],[],_=>by simp[jK]
 |n::sg,d::ds,h=>by
  rw[j5,jb]at h;rw[jK,LB h.1,Cq h.2];rfl
theorem Cr(h:gw sg d=true):et d=true:=by
 cases d with
 |tup ds=>rw[et];exact Cq h
 |_=>cases h
theorem Cs(a:gw sg d=true)(b:gw sg e=true):bG d e=true↔d=e:=by
 cases d with
 |tup ds =>
  cases e with
  |tup es=>rw[bG,Cp a b];simp
  |_=>cases b
 |_=>cases a
open Classical in
def tO(prog:Program)(w:World)(sg:List Nat):HeapKind prog w D where
 is:=λh d a=>gw sg d=true/\HD h 3 d (.ref a)
 hash:=hD w
 draws:=dr
 room:=λA=>A.units+3<cLine
 inj:=λh1 h2=>Bm h1.2 h2.2
 keeps:=λh ho hd hs=>⟨h.1,Lz ho hd hs h.2⟩
 pyHash:=λhu hk h=>Lx hk.2 (Cr hk.1) hu h
 eqBool:=λ{A E s x y a b Q} hu hx hy h=>by
  refine k7 hx.2 hy.2 hu prog w E Q ?_;rw[Bl hx.2 hy.2]
  have:bG x y=decide (x=y):=by
   by_cases e:x=y
   ·rw[za e];exact(Cs hx.1 hy.1).mpr e
   ·rw[nb e];exact ge.mpr λz=>e ((Cs hx.1 hy.1).mp z)
  rw[this];exact h
 quiet:=λhk h=>Ly hk.2 (Cr hk.1) (by omega) h
noncomputable def oY(lt:D->D->Bool)(x:D):List D->List D
 |[]=>[x]
 |y::r=>if lt x y=true then x::y::r else y::oY lt x r
def fW(lt:D->D->Bool):List D->List D
 |[]=>[]
 |x::r=>oY lt x (fW lt r)
structure qO(lt:D->D->Bool)(S:List D):Prop where
 tr:∀a∈S,∀b∈S,∀c∈S,lt a b=true->lt b c=true->lt a c=true
 tot:∀a∈S,∀b∈S,a=b\/lt a b=true\/lt b a=true
 as:∀a∈S,∀b∈S,lt a b=true->lt b a=false
theorem xz(lt:D->D->Bool)(x:D):∀l,(oY lt x l).Perm (x::l)
 |[]=>ki _
 |y::r=>by
  unfold oY;split
  ·exact ki _
  ·exact((xz lt x r).cons y).trans (uq x y r)
theorem kH(lt:D->D->Bool):∀l,(fW lt l).Perm l
 |[]=>ki _
 |x::r=>(xz lt x _).trans ((kH lt r).cons x)
theorem Ct{lt:D->D->Bool}{S:List D}(T:qO lt S){x:D}(d:x∈S):∀{l:List D},(∀y∈l,y∈S)->x ∉ l->l.Pairwise (λa b=>lt a b=true)->(oY lt x l).Pairwise (λa b=>lt a b=true)
 |[],_,_,_=>jo _ _
 |y::r,f,hn,h=>by
  have g:=f y va;unfold oY;split
  ·rename_i c
   refine gf.mpr ⟨λz hz=>?_,h⟩;rcases pb.mp hz with rfl|hz
   ·exact c
   ·exact T.tr x d y g z (f z (la _ hz)) c ((gf.mp h).1 z hz)
  ·rename_i c
   refine gf.mpr ⟨λz hz=>?_,Ct T d (λz hz=>f z (la _ hz)) (λz=>hn (la _ z)) (gf.mp h).2⟩;rcases pb.mp ((xz lt x r).mem_iff.mp hz) with rfl|hz
   ·rcases T.tot _ d y g with e|e|e
    ·exact absurd (e ▸ va) hn
    ·exact absurd e c
    ·exact e
   ·exact(gf.mp h).1 z hz
theorem tP{lt:D->D->Bool}{S:List D}(T:qO lt S):∀{l:List D},(∀y∈l,y∈S)->l.Nodup->(fW lt l).Pairwise (λa b=>lt a b=true)
 |[],_,_=>rn
 |x::r,d,hn=>by
  have hn:=uf.mp hn;exact Ct T (d x va) (λy c=>d y (la _ ((kH lt r).mem_iff.mp c))) (λz=>hn.1 ((kH lt r).mem_iff.mp z)) (tP T (λy c=>d y (la _ c)) hn.2)
theorem Cu(T:qO lt l)(hn:l.Nodup)(m:out.Perm l)(r:out.Pairwise λa b=>lt b a=false):out=fW lt l:=by
 have c:=kH lt l
 have q:(fW lt l).Pairwise λa b=>lt b a=false:=by
  have h:=tP T (λy n=>n) hn;rw[yf]at h ⊢;intro i j f g d;exact T.as _ (c.mem_iff.mp (oj f)) _ (c.mem_iff.mp (oj g)) (h i j f g d)
 refine(m.trans c.symm).eq_of_pairwise (λa b o p e1 e2=>?_) r q;rcases T.tot a (m.mem_iff.mp o) b (c.mem_iff.mp p) with e|e|e
 ·exact e
 ·rw[e]at e2;cases e2
 ·rw[e]at e1;cases e1
noncomputable def rk(F:List D->Option D)(d:D):D:=(F [d]).getD .non
def dZ(F:List D->Option D)(d e:D):Bool:=bZ (rk F d) (rk F e)
structure gY(F:List D->Option D)(ks:List D):Prop where
 ex:∀d∈ks,∃r,F [d]=some r/\bE LV r=true
 kd:(∀d∈ks,iw (rk F d)=true)\/∀d∈ks,iw (rk F d)=false/\nv (rk F d)=true
 ok:∀d∈ks,∀e∈ks,cN (rk F d) (rk F e)=true
 lt:qO (dZ F) ks
 nd:ks.Nodup
 sm:(ks.length<64\/False)/\ks.length<=1000
open Classical in
def kI(F:List D->Option D)(ks:List D):Option (List D):=if gY F ks then some (fW (dZ F) ks) else none
theorem gy(h:F [d]=some r):rk F d=r:=by unfold rk;rw[h];rfl
def nz(F:List D->Option D)(ks:List D)(i j:Nat):Bool:=dZ F (ks.getD (min i (ks.length - 1)) .non) (ks.getD (min j (ks.length - 1)) .non)
theorem gY.irr(h:gY F ks){d:D}(a:d∈ks):dZ F d d=false:=by
 cases e:dZ F d d with
 |false=>rfl
 |true=>have:=h.lt.as d a d a e;rw[e]at this;cases this
theorem gY.wo(h:gY F ks)(hn:0<ks.length):WO (nz F ks):=by
 have m:∀i,ks.getD (min i (ks.length - 1)) .non∈ks:=λi=>by
  have g:min i (ks.length - 1)<ks.length:=by omega
  rw[gc,zc g];exact oj g
 refine⟨λa=>h.irr (m a),λa b c d=>?_,λa b f=>h.lt.as _ (m a) _ (m b) f⟩;unfold nz at d ⊢;rcases h.lt.tot _ (m a) _ (m b) with e|e|e
 ·rw[<-e];exact .inr d
 ·exact .inl e
 ·exact .inr (h.lt.tr _ (m b) _ (m a) _ (m c) e d)
theorem gY.sz(h:gY F ks):qK (if 0<ks.length then nz F ks else λ_ _=>false) ks.length:=⟨h.sm.1.resolve_right id,h.sm.2⟩
theorem gY.ord(h:gY F ks):j3 (ks.map (rk F)) (if 0<ks.length then nz F ks else λ_ _=>false):=by
 refine⟨?_,λr b=>?_,?_,λi j r t f g=>?_⟩
 ·split
  ·rename_i hn;exact h.wo hn
  ·exact⟨λ_=>rfl,(λ_ _ _ z=>nomatch z),(λ_ _ z=>nomatch z)⟩
 ·obtain⟨d,a,rfl⟩:=gb.mp b
  have⟨r,l,m⟩:=h.ex d a;rw[gy l];exact m
 ·rcases h.kd with k|k
  ·exact .inl λr b=>by obtain⟨d,a,rfl⟩:=gb.mp b;exact k d a
  ·exact .inr λr b=>by obtain⟨d,a,rfl⟩:=gb.mp b;exact k d a
 ·rw[ed]at f g
  obtain⟨d,a,rfl⟩:=lb.mp f;obtain⟨e,c,rfl⟩:=lb.mp g;have n:=(ya.mp a).1;have o:=(ya.mp c).1;refine⟨h.ok d (je a) e (je c),?_⟩;rw[da (by omega)];unfold nz dZ;rw[show min i (ks.length - 1)=i by omega,show min j (ks.length - 1)=j by omega,gc,a,gc,c];rfl
theorem gY.out(h:gY F ks){a:Array Nat}(c:Ix ks.length a)(d:Up (if 0<ks.length then nz F ks else λ_ _=>false) a ks.length):a.toList.map (λi=>ks.getD i .non)=fW (dZ F) ks:=by
 have hsz:=c.size;have bd:∀i∈a.toList,i<ks.length:=λi b=>dh.mp (c.mem_iff.mp b)
 refine Cu h.lt h.nd ?_ ?_
 ·have e:(List.range ks.length).map (λi=>ks.getD i D.non)=ks:=by
   apply ol;intro i;by_cases b:i<ks.length
   ·simp[b]
   ·simp[b]
  have:=c.map λi=>ks.getD i D.non
  rwa [e]at this
 ·rw[yf]
  intro i j b f g;rw[ba,pf]at b f;have u:=d i j (by omega) (by omega);rw[da (by omega)]at u;have l:gp a i=a[i]:=by rw[l7];simp[b]
  have m:gp a j=a[j]:=by rw[l7];simp[f]
  have n:=bd a[i] (by simp);have o:=bd a[j] (by simp);unfold nz at u;rw[l,m,show min a[i] (ks.length - 1)=a[i] by omega,show min a[j] (ks.length - 1)=a[j] by omega]at u
  simpa using u
noncomputable abbrev i0:DecidableEq D:=λa b=>Classical.propDecidable (a=b)
def kJ(prog:Program)(w:World)(sg:List Nat)(p:Addr)(xs:List (D×Addr×Value)):HO:=.ext λh=>(p == sysModules)=false/\∃o es ep,h.get? p=some o/\o.ExactDict/\o.data=.dict es ep/\es.toList=xs.map (@entryOfKey prog w D i0 (tO prog w sg))/\(xs.map (·.1)).Nodup
def qP(K:Fg1)(Hf:Hp)(sg:List Nat)(xs:List (D×Addr×Value)):Prop:=∀x∈xs,gw sg x.1=true/\Dn K Hf x.1 (.ref x.2.1)/\x.2.2=.bool true
open Classical in
noncomputable def d1(ks:List D)(d:D):List D:=if d∈ks then ks else ks++[d]
section
variable {X:Cx}{pins:List (Addr×Obj)}{σ:St}{H Hf:Hp}{s:Shared}{sg:List Nat}{p:Addr}{xs:List (D×Addr×Value)}
theorem LC(b:φ h)(c:∃o,h.get? a=some o)(d:∀b c:Heap,φ b->(∀o,b.get? a=some o->c.get? a=some o)->φ c):cA P w H h a (.ext φ):=⟨b,c,d⟩
theorem Cv(d:(p == sysModules)=false){o:Obj}{es:Array DictEntry}{ep:Nat}(a:h.get? p=some o)(e:o.ExactDict)(f:o.data=.dict es ep)(g:es.toList=xs.map (@entryOfKey P w D i0 (tO P w sg)))(hn:(xs.map (·.1)).Nodup):cA P w H h p (kJ P w sg p xs) :=
 LC ⟨d,o,es,ep,a,e,f,g,hn⟩ ⟨o,a⟩ λ_ _ ⟨b,o,es,ep,c,r⟩ k=>⟨b,o,es,ep,k o c,r⟩
theorem aw.ndict(I:aw X pins σ H s)(h:H p=some (kJ X.prog X.w sg p xs)):(p == sysModules)=false/\∃o es ep,s.heap.get? p=some o/\o.ExactDict/\o.data=.dict es ep/\es.toList=xs.map (@entryOfKey X.prog X.w D i0 (tO X.prog X.w sg))/\(xs.map (·.1)).Nodup :=
 (show cA X.prog X.w H s.heap p (kJ X.prog X.w sg p xs) from I.hok p _ h).1
theorem LD(h:ny x=true):bE 1 x=true:=by
 cases x with
 |sc v=>rfl
 |_=>cases h
theorem LE(h:gw sg d=true):bE 3 d=true:=by
 cases d with
 |tup ds =>
  have str:∀l:List D,l.all ny=true->l.all (bE 1)=true:=λl h=>vc.mpr λx a=>(LD (vc.mp h x a))
  have one:∀(n:Nat) (d:D),qL n d=true->bE 2 d=true:=λn d h=>by
   match n,d,h with
   |0,.sc (.int i),_=>rfl
   |1,.sc (.bl i),_=>rfl
   |2,.tup ds,h=>exact str ds h
  have all:∀{sg:List Nat} {ds:List D},j5 sg ds=true->ds.all (bE 2)=true:=by
   intro sg
   induction sg with
   |nil=>intro ds h;cases ds with|nil=>rfl|cons _ _=>cases h
   |cons n sg b =>
    intro ds h
    cases ds with
    |nil=>cases h
    |cons d ds =>
     rw[j5,jb]at h;rw[zi,one n d h.1,b h.2];rfl
  exact all h
 |_=>cases h
theorem Cw(I:aw X pins σ H s)(fh:aS Hf H){d:D}{a:Addr}(b:gw sg d=true)(c:Dn X.K Hf d (.ref a)):gw sg d=true/\HD s.heap 3 d (.ref a):=⟨b,I.den ((c.same fh).at (LE b)) rfl⟩
theorem Cy{xs:List (D×Addr×Value)}{K:Fg1}(f:qP K Hf sg xs){d:D}{a:Addr}(g:gw sg d=true)(i:Dn K Hf d (.ref a)):qP K Hf sg (@storedH D i0 xs d a (.bool true))/\(@storedH D i0 xs d a (.bool true)).map (·.1)=d1 (xs.map (·.1)) d:=by
 unfold storedH d1;by_cases h:d∈xs.map (·.1)
 ·have c:(@atKey D i0 xs d).isSome=true:=by
   unfold atKey;rw[og,List.find?_isSome];have⟨x,hx1,b⟩:=gb.mp h;exact⟨x,hx1,@za _ (i0 _ _) b⟩
  rw[da c,da h]
  have e:xs.map (@putAt D i0 d (.bool true))=xs:=by
   refine(zf λx hx1=>?_).trans (av _);show @putAt D i0 d (.bool true) x=x;unfold putAt;split
   ·rw[<-(f x hx1).2.2]
   ·rfl
  rw[e];exact⟨f,rfl⟩
 ·have c:¬(@atKey D i0 xs d).isSome=true:=λz=>by
   unfold atKey at z;rw[og,List.find?_isSome]at z;obtain⟨x,hx1,b⟩:=z;exact h (gb.mpr ⟨x,hx1,@bc _ (i0 _ _) b⟩)
  rw[qa c,qa h];refine⟨λx hx1=>?_,by rw[db];rfl⟩;rcases yc.mp hx1 with hx1|hx1
  ·exact f x hx1
  ·rw[yb.mp hx1];exact⟨g,i,rfl⟩
theorem LG(O:X.A.units+4<cLine)(I:aw X pins σ H s)(fh:aS Hf H)(h:H p=some (kJ X.prog X.w sg p xs))(i:qP X.K Hf sg xs)(hl:xs.length<=100000)(L:gw sg d=true)(M:Dn X.K Hf d (.ref a))
  (q:∀s',aw X pins σ (aG H p (kJ X.prog X.w sg p (@storedH D i0 xs d a (.bool true)))) s'->Q () s'):wpAny (model X.prog X.w) X.A (setItem (.ref p) (.ref a) (.bool true)) Q E s:=by
 have⟨l,o,es,ep,m,n,r,v,y⟩:=I.ndict h;refine@wpAny_setItem_heap X.prog X.w D i0 (tO X.prog X.w sg) X.A E s p a d xs (.bool true) Q (show X.A.units+1+3<cLine by omega) (Cw I fh L M) ⟨o,es,ep,m,n,r,v,λx c=>Cw I fh (i x c).1 (i x c).2.1,y⟩ (λh' f hs=>q _ ?_) (sz hl);obtain⟨N,z,B,g,C,F,G,_,J⟩:=f;exact I.write (x:=p) (e:=p) (by rw[h];trivial) (.inl rfl) (λb u j e=>(hs.2 b j).trans e) ⟨_,g⟩ (Cv l g C F G J)
end
structure NS(X:Cx)(B:Bs)(sg:List Nat)(j:Nat)(Hf:Hp)(ρ:ao)(σ:St)(H:Hp)(ks:List D):Prop where
 vi:VI X.K B Hf ρ σ H
 nj:ρ[j]?=some none
 ex:∃p xs,σ[j]?=some (some (.ref p))/\Hf p=none/\B.h p=none/\H p=some (kJ X.prog X.w sg p xs)/\xs.map (·.1)=ks/\qP X.K Hf sg xs
abbrev GN:=ao->List D->Option (ao×List D)
def oZ(X:Cx)(B:Bs)(sg:List Nat)(j:Nat)(g:GN):TS:=λD σ H=>∃Hf ρ ks ρ' a,NS X B sg j Hf ρ σ H ks/\g ρ ks=some (ρ',a)/\∀Hf' b H',aS Hf Hf'->NS X B sg j Hf' ρ' b H' a->D.nx b H'
def nA(sg:List Nat)(fk:ao->Option D):GN:=λρ ks=>(fk ρ).bind λd=>if gw sg d=true/\ks.length<=100000 then some (ρ,d1 ks d) else none
def i1(gt:D->ao->Option ao)(f:GN):List D->GN
 |[],ρ,ks=>some (ρ,ks)
 |d::r,ρ,ks=>(gt d ρ).bind λρ1=>(f ρ1 ks).bind λz=>i1 gt f r z.1 z.2
def fD(fi:ao->Option (List D))(gt:D->ao->Option ao)(f:GN):GN:=λρ ks=>(fi ρ).bind λds=>i1 gt f ds ρ ks
theorem xA(e:Ex Hf H Hf' H')(a:Hf p=none)(b:H p=some o)(c:∀xs,o≠.tup xs:=by intro xs z;cases z):Hf' p=none:=by
 cases z:Hf' p with
 |none=>rfl
 |some u =>
  rcases e.nw p (by rw[z];exact λz=>nomatch z) with y|y
  ·exact absurd a y
  ·exact(y.no b c).elim
section
variable {X:Cx}{B:Bs}{sg:List Nat}{j:Nat}{Hf Hf' H H':Hp}{ρ:ao}{σ:St}{ks:List D}{K:Fg1}
theorem NS.ext(I:NS X B sg j Hf ρ σ H ks)(e:Ex Hf H Hf' H'):NS X B sg j Hf' ρ σ H' ks :=
 ⟨I.vi.ext e,I.nj,let ⟨p,xs,d,f,g,c,h,b⟩:=I.ex;⟨p,xs,d,xA e f c (λ_ z=>nomatch z),g,e.hh _ _ c,h,λx a=>⟨(b x a).1,(b x a).2.1.same e.ff,(b x a).2.2⟩⟩⟩
theorem VI.setU(I:VI K B Hf ρ σ H)(n:ρ[j]?=some none):VI K B Hf ρ (σ.set j x) H:=by
 have c:∀{i:Nat} {sl:Sl},ρ[i]?=some (some sl)->j≠i:=λ{i sl} h z=>by subst z;rw[n]at h;cases h
 refine⟨I.ex,by simp[I.len],λi sl h=>?_,λi sl p h o q=>?_,λi k f g p a b l m d e=>?_⟩
 ·have⟨v,a,b⟩:=I.ok i sl h
  exact⟨v,by rw[ua (c h)];exact a,b⟩
 ·rw[ua (c h)]at q;exact I.own i sl p h o q
 ·rw[ua (c a)]at d
  rw[ua (c b)]at e;exact I.dis i k f g p a b l m d e
theorem VI.offE(I:VI K B Hf ρ σ H)(j:Hf p=none)(l:B.h p=none)(f:H p=some (.ext φ)):VI K B Hf ρ σ (aG H p o):=by
 refine⟨⟨I.ex.ff,λb u h=>?_,λb u h=>?_,I.ex.nw,I.ex.nf⟩,I.len,λi sl h=>?_,I.own,I.dis⟩
 ·rw[aK (cC h l)];exact I.ex.hh b u h
 ·rw[aK (cC h j)];exact I.fh b u h
 ·have⟨v,g,c⟩:=I.ok i sl h
  refine⟨v,g,c.away λo z=>?_⟩;subst z
  cases sl with
  |sh d=>cases o
  |ow ds=>obtain⟨q,xs,e,_,a,_⟩:=c;cases e;rw[f]at a;cases a
  |dk ks ds=>obtain⟨q,xs,e,_,a,_⟩:=c;cases e;rw[f]at a;cases a
  |dt ks ds=>obtain⟨q,xs,e,_,a,_⟩:=c;cases e;rw[f]at a;cases a
variable {fk:ao->Option D}{pos:Pos}{key:Expr}
theorem Cz (hr:aM n X.A) (hN:X.N[j]?=some x) (hk:PE X key (eV X.K B fk)) (L:gB X.env.scope x:=by first|exact cb rfl|exact mf (cb rfl)|exact mf (mf rfl)) (hd:(x == ("__debug__" : Str))=false:=by decide) (T:(x == ("__classdict__" : Str))=false:=by decide)
  (hs:swapsWith (.Constant (.bool true) kk cp) (some (.Subscript (.Name x p1) key pos')) pos.line X.env=pure false:=by rfl):PS X (.Assign [.Subscript (.Name x p1) key pos'] (.Constant (.bool true) kk cp) pos) (oZ X B sg j (nA sg fk)):=by
 intro c s m H D I h;obtain⟨Hf,ρ,ks,ρ',ks',N,C,q⟩:=h;have⟨d,eg,C⟩:=bind_some C
 split at C
 ·rename_i o
  cases C;have⟨p,xs,E,hf,U,Y,F,l⟩:=N.ex
  refine wpAny_Assign_Subscript (aX (zU c s m H (λv M=>v=.bl true/\M=H) I ⟨rfl,rfl⟩) λr s1 ⟨v,M,I1,rv,e1,e2⟩=>?_) hs;subst e1 e2;cases rv;refine aX (fN hN L hd T c s1 m M (λv O=>v=.ref p/\O=M) I1 ⟨_,E,rfl,rfl⟩) λu s2 ⟨v,O,I2,ru,e1,e2⟩=>?_
  subst e1 e2;cases ru;refine aX (hk c s2 m O (λv P=>∃b,Ex Hf O b P/\Dn X.K b d v) I2 ⟨Hf,ρ,d,N.vi,eg,λb P v i dv=>⟨b,i,dv⟩⟩) λiv s3 ⟨y,P,I3,ry,b,i,Q⟩=>?_
  have Z:=N.ext i
  obtain⟨a,rfl⟩:∃a,y=.ref a:=by
   cases d with
   |tup ds=>have⟨a,_,e,_⟩:=Q.tupU;exact⟨a,e⟩
   |_=>cases o.1
  cases ry;have G:P p=some (kJ X.prog X.w sg p xs):=i.hh _ _ Y
  have J:=xA i hf Y (λ_ z=>nomatch z);have g:qP X.K b sg xs:=λx R=>⟨(l x R).1,(l x R).2.1.same i.ff,(l x R).2.2⟩
  refine LG (by have:=hr.units;omega) I3 i.fh G g (by rw[<-ba (f:=(·.1)),F];exact o.2) o.1 Q λs4 I4=>⟨m,_,I4,q b m _ i.ff ⟨Z.vi.offE J U G,Z.nj,p,_,E,J,U,bi,?_,(Cy g o.1 Q).1⟩⟩
  rw[(Cy g o.1 Q).2,F]
 ·cases C
variable {tg iter:Expr}{fi:ao->Option (List D)}{gt:D->ao->Option ao}{sl:List Nat}{g:GN}
theorem tQ(hp:PassesOwn (model X.prog X.w) X.A X.env X.xe)(hc:X.calm=true)(hi:PI X tg iter (iV X.K B fi))(hg:PG X tg (gV X.K B sl gt))(hj:j ∉ sl)(T:∀d ρ ρ1,gt d ρ=some ρ1->ρ1[j]?=ρ[j]?)(hb:bT X body (oZ X B sg j g))(hs:∀x,foldedSetIterable iter X.env x=pure x:=by intro _;rfl):PS X (.For tg iter body [] pos) (oZ X B sg j (fD fi gt g)):=(vu hp hc hi hg hb hs).imp λD U H ⟨Hf,ρ,ks,ρ',v,N,n,q⟩=>by
 have⟨ds,e,n⟩:=bind_some n;refine⟨Hf,ρ,ds,N.vi,e,λJ o H1 C ok=>?_⟩;refine⟨λi m U H=>m=ds.length - i/\i<=ds.length/\∃a f h,NS X B sg j a f U H h/\aS o a/\i1 gt g (ds.drop i) f h=some (ρ',v),⟨ds.length,by simp,be _,o,ρ,ks,N.ext C,aS.refl _,n⟩,?_⟩;rintro i m P Z ⟨rfl,hi,a,f,h,M,l,c⟩;have G:=ok a Z (l.trans M.vi.fh) l M.vi.fh i;by_cases u:i<ds.length
 ·obtain⟨go,Q⟩:=G.1 ds[i] (by simp[u])
  refine .inr ⟨go,λs H'=>∃b I L,NS X B sg j b I s H' L/\aS o b/\i1 gt g (ds.drop (i+1)) I L=some (ρ',v),λs H' z=>⟨ds.length - (i+1),by omega,rfl,u,z⟩,λx H3 y=>?_⟩;have⟨b,E,dx⟩:=Q x H3 y;rw[jd u]at c;unfold i1 at c;have⟨ρ1,F,c⟩:=bind_some c;have⟨z,hz,c⟩:=bind_some c;have R:=M.ext E;refine⟨b,f,_,ρ1,R.vi,dx,F,λs I' _ hk=>⟨b,ρ1,h,z.1,z.2,⟨I',(T _ _ _ F).trans R.nj,?_⟩,hz,λO Y H'' sm N'=>⟨O,z.1,z.2,N',(l.trans E.ff).trans sm,c⟩⟩⟩;have⟨p,xs,h1,r⟩:=R.ex;exact⟨p,xs,(hk j hj).trans h1,r⟩
 ·have e:i=ds.length:=by omega
  subst e;rw[xh]at c;unfold i1 at c;cases c;exact .inl ⟨G.2 (bb _),q a P Z (C.ff.trans l) M⟩
theorem tR{st:Stmt}(h:PS X st (oZ X B sg j g)):bT X [st] (oZ X B sg j g):=pO h
end
section
variable {X:Cx}{B:Bs}{sg:List Nat}{j k:Nat}{g:GN}{F:List D->Option D}{f:Addr}{fd:FuncData}{p:Str}{pos:Pos}
theorem LH(sg:List Nat):PE X (.Dict [] [] pos) (λ_ H Q=>∀p,H p=none->Q (.ref p) (aG H p (kJ X.prog X.w sg p []))):=λb s c H Q I h =>
 zo ⟨.ref s.heap.objs.size,_,I.laid (a:=s.heap.objs.size) (o:=kJ X.prog X.w sg s.heap.objs.size []) (t':=s.toks) (λ_ _ q=>na _ q) (bb _) (Cv (aj.mpr (ve (ic I.big))) (es:=#[]) (ep:=0) (zb _ rfl) ⟨rfl,rfl,rfl⟩ rfl rfl ji),rfl,h _ (I.hok.fresh (bb _))⟩
def LI(X:Cx)(B:Bs)(sg:List Nat)(j:Nat)(F:List D->Option D):TE:=λσ H Q=>∃Hf ρ ks,NS X B sg j Hf ρ σ H ks/\gY F ks/\∀Hf' H' l ys,Ex Hf H Hf' H'->H l=none->Hf' l=none->H' l=some (.lst ys)->aZ X.K Hf' (fW (dZ F) ks) ys->Q (.ref l) H'
theorem LJ (hc:X.calm=true) (G:ax X.prog X.w X.K X.mg X.base aQ k f fd [p] (aY X.K 1 F)) (hr:aM k X.A.in1.in1) (hg:Gl X "sorted") (hm:X.mg "sorted" = none) (hgf:Gl X fn) (hmf:X.mg fn=some (.ref f)) (hb:c9 X.K fd [p] []) (hN:X.N[j]?=some x)
  (E:gB X.env.scope x:=by first|exact cb rfl|exact mf (cb rfl)|exact mf (mf rfl)) (M:(x == ("__debug__" : Str))=false:=by decide) (hcd:(x == ("__classdict__" : Str))=false:=by decide) (hfd:(fn == ("__debug__" : Str))=false:=by decide) :
  PE X (.Call (.Name "sorted" p1) [.Name x p2] [⟨some "key",.Name fn p3,p4⟩] pos) (LI X B sg j F):=by
 intro b s σ H Q I h;obtain⟨Hf,ρ,ks,N,ok,q⟩:=h;have⟨a,xs,hσ,hf,hB,hp,n,hxs⟩:=N.ex;refine ef (kw I hg hm v0 ?_ (by decide) (by decide));refine callWith_kw (aX ((g9 (fN hN E M hcd) jt (by rfl)) pos b s σ H (λvs L=>vs=[.ref a]/\L=H) I ⟨_,hσ,rfl,rfl⟩) λus s1 ⟨vs,L,I1,O,e1,e2⟩=>?_) (by rfl) (by rfl) (by rfl) (by rfl);subst e1 e2;obtain⟨u,rfl,ru⟩:=g8 O;cases ru;refine aX ((vA (rT (v:=.ref f) hgf hmf rfl hfd) vz) pos b s1 σ L (λvs H2=>vs=[.ref f]/\H2=L) I1 ⟨rfl,rfl⟩) λus s2 ⟨vs,H2,I2,O,e1,e2⟩=>?_
 subst e1 e2;obtain⟨u,rfl,ru⟩:=g8 O;cases ru;show wpAny (model X.prog X.w) X.A (call (.builtin "sorted") [.ref a] [(Str.ofString "key",.ref f)]) _ _ _;have⟨h0,o,es,ep,h1,h2,h3,h4,h5⟩:=I2.ndict hp;have hl:xs.length=ks.length:=by rw[<-n,ba]
 have hsm:=ok.sm.2
 have dn:aZ X.K Hf ks (xs.map λx=>V.ref x.2.1):=by
  rw[<-n]
  have:∀l:List (D×Addr×Value),(∀x∈l,x∈xs)->aZ X.K Hf (l.map (·.1)) (l.map λx=>V.ref x.2.1):=by
   intro l
   induction l with
   |nil=>intro _;exact .nil
   |cons y r J=>intro m;exact .cons (hxs y (m y va)).2.1 (J λz hz=>m z (la _ hz))
  exact this xs λx hx=>hx
 have hes:es.toList.map (·.key)=xs.map λx=>Value.ref x.2.1:=by rw[h4,jc];rfl
 have hsz:es.size=xs.length:=by rw[<-pf,h4,ba]
 refine Cl (rs:=ks.map (rk F)) G hr hb I2 N.vi.fh dn (λR hR=>Cm (A:=X.A.in1) (I.ok.hd hc) h0 ⟨o,h1,h2,h3⟩ (by rw[hsz];exact sz (by omega)) λh' tk e=>?_) (λi d M=>?_) (by rw[ba]) ok.sz ok.ord λc H' l π ex P T U g Y=>q c H' l _ ex P T U ?_
 ·rw[hes]
  refine hR h' tk _ e ?_
  have:∀l:List (D×Addr×Value),bB (l.map λx=>V.ref x.2.1) (l.map λx=>Value.ref x.2.1):=by
   intro l
   induction l with
   |nil=>exact .nil
   |cons y r J=>exact .cons rfl J
  exact this xs
 ·have⟨r,e1,_⟩:=ok.ex d (je M)
  exact⟨r,by rw[ed,M];show some (rk F d)=_;rw[gy e1],e1⟩
 ·rw[<-ok.out g Y]
  have dn':=dn.same ex.ff
  have C:∀l:List Nat,(∀i∈l,i<ks.length)->aZ X.K c (l.map λi=>ks.getD i D.non) (l.map λi=>(xs.map λx=>V.ref x.2.1).getD i V.non):=by
   intro l
   induction l with
   |nil=>intro _;exact .nil
   |cons i r J =>
    intro m;refine .cons ?_ (J λz hz=>m z (la _ hz));have Z:=m i va;have e1:ks[i]?=some ks[i]:=zc Z;have⟨v,e2,dv⟩:=dn'.zget e1;show Dn X.K c (ks.getD i D.non) ((xs.map λx=>V.ref x.2.1).getD i V.non);rw[gc,e1,gc,e2];exact dv
  exact C _ λi Z=>dh.mp (g.mem_iff.mp Z)
def l8(j:Nat)(g:GN)(F:List D->Option D):ao->aT:=λρ=>match ρ[j]? with
 |some none=>(match g ρ [] with|some z=>(match kI F z.2 with|some out=>.rw out|none=>.bad)|none=>.bad)
 |_=>.bad
theorem CA (sg:List Nat) (v:X.N.Nodup) (M:X.N[j]?=some x) (d:jr X.env.scope x) (Y:PS X s2 (oZ X B sg j g)) (Z:X.calm=true) (G:ax X.prog X.w X.K X.mg X.base aQ k f fd [p] (aY X.K 1 F)) (hr:aM k X.A.in1.in1) (hg:Gl X "sorted") (hm:X.mg "sorted" = none) (y:Gl X fn) (C:X.mg fn=some (.ref f)) (hb:c9 X.K fd [p] [])
  (hs:swapsWith (.Dict [] [] q1) (some (.Name x q2)) q3.line X.env=pure false:=by rfl) (hf:X.fn x=true\/X.env.scope.names.lookup x=some .local:=by first|exact .inl rfl|exact .inr rfl|assumption)
  (c:gB X.env.scope x:=by first|exact cb rfl|exact mf (cb rfl)|exact mf (mf rfl)) (hd:(x == ("__debug__" : Str))=false:=by decide) (E:(x == ("__classdict__" : Str))=false:=by decide) (J:(fn == ("__debug__" : Str))=false:=by decide) :
  bT X [.Assign [.Name x q2] (.Dict [] [] q1) q3,s2,.Return (some (.Call (.Name "sorted" p1) [.Name x p2] [⟨some "key",.Name fn p3,p4⟩] pos)) pos'] (sV X.K B (l8 j g F)) :=
 (g7 (lL v M d (LH sg) hs hf) (g7 Y (pO (rV (LJ (B:=B) (sg:=sg) Z G hr hg hm y C hb M c hd E J))))).imp λD L H ⟨Hf,ρ,I,q⟩=>by
  unfold l8 at q
  split at q
  ·rename_i r
   split at q
   ·rename_i z hz
    split at q
    ·rename_i out b
     intro a s
     have ok:gY F z.2:=by
      unfold kI at b
      split at b
      ·assumption
      ·cases b
     have T:out=fW (dZ F) z.2:=by
      unfold kI at b;rw[da ok]at b;exact(lc b).symm
     have u:j<L.length:=by rw[<-I.len];exact(ya.mp r).1
     have U:VI X.K B Hf ρ (L.set j (some (.ref a))) (aG H a (kJ X.prog X.w sg a [])):=(I.setU r).ext (Ex.made I.fh s);refine⟨Hf,ρ,[],z.1,z.2,⟨U,r,a,[],by rw[ac u],I.fh.free s,I.ex.hh.free s,bi,rfl,λx d=>by cases d⟩,hz,λe O H' sm h=>⟨e,z.1,z.2,h,ok,λi P l ys Q m n o R=>?_⟩⟩;exact q i P l ys (h.vi.ex.trans Q) (h.vi.ex.hh.free m) n o (by rw[T];exact R)
    ·exact q.elim
   ·exact q.elim
  ·exact q.elim
end
theorem aM.in2(h:aM (k+1) A):aM k A.in1.in1:=⟨h.hd,by have:=h.dp;show A.depth+3 * k+5<_;omega,by have:=h.un;show A.units+1+1+16 * k+200<_;omega⟩
def HG(j:Nat)(r:List D->ao->Option ao):Prop:=∀ds ρ ρ1,r ds ρ=some ρ1->ρ1[j]?=ρ[j]?
theorem iy(h:i≠j):∀d ρ ρ1,gN i d ρ=some ρ1->ρ1[j]?=ρ[j]?:=λd ρ ρ1 e=>by cases e;exact ua h
theorem xB:HG j cX:=λds ρ ρ1 e=>by
 unfold cX at e
 split at e
 ·cases e;rfl
 ·cases e
theorem kK(b:∀d ρ ρ1,g d ρ=some ρ1->ρ1[j]?=ρ[j]?)(c:HG j r):HG j (bA g r):=λds ρ ρ1 e=>by
 unfold bA at e
 split at e
 ·have⟨a,e1,e2⟩:=bind_some e
  exact(c _ _ _ e2).trans (b _ _ _ e1)
 ·cases e
theorem xC(h:HG j r):∀d ρ ρ1,gT n r d ρ=some ρ1->ρ1[j]?=ρ[j]?:=λd ρ ρ1 e=>by
 unfold gT at e
 split at e
 ·split at e
  ·exact h _ _ _ e
  ·cases e
 ·cases e
end L2
namespace L2
open PySem PyProof.Rows
noncomputable def iz(es:List D)(i j:Nat):Bool:=bZ (es.getD i (.sc .non)) (es.getD j (.sc .non))
variable {X:Cx}
def o0:List D->Option D:=λl=>match l with
 |[.lst es]=>if es≠[]/\es.all (bE LV)=true/\(∀d∈es,∀e∈es,cN d e=true) then es[argBest (iz es) (es.length - 1)]? else none
 |_=>none
theorem xD(a:Nat->Nat->Bool):∀k,argBest a k<=k
 |0=>bb _
 |k+1=>by rw[argBest];have:=xD a k;split <;> omega
variable {K:Fg1}
end L2
namespace L2
open PySem PySem.Spec PyProof.Rows
section
variable {X:Cx}
def xE(K:Fg1):R2:=λx y H Q=>match x,y with|.ref l,.int k=>∃xs,bJ K H l xs /\ -(2 ^ 63)<=k/\k<2 ^ 63/\xs.length * k.toNat<=sizeLine/\∀p,H p=none->Q (.ref p) (aG H p (.lst (List.replicate k.toNat xs).flatten))|_,_=>False
theorem LK:bC X (binaryOp .Mult) (xE X.K):=by
 intro w s R H x y v u Q I E G h;unfold xE at h
 split at h
 ·rename_i l k
  obtain⟨xs,hl,J,L,hz,q⟩:=h;cases E;obtain⟨t,rfl⟩:=G;have⟨b,r,M,_⟩:=I.list hl;have O:=r.length;obtain⟨⟨N,dd,z,sl⟩,n,e,A,d,B⟩:=M;simp only at A B d;subst A B d;have f:b.toArray.size * k.toNat<=sizeLine:=by rw[oa,<-O];exact hz
  have g:¬b.toArray.size * k.toNat > (2 ^ 63 - 1) / 8:=by have:(sizeLine:Nat)<=(2 ^ 63 - 1) / 8:=(by decide);omega
  have i:¬(!Builtin.List.listFitsIndex k)=true:=by rw[fitsIndex_both J L];exact ma
  have c:¬Builtin.List.listTooLong (b.toArray.size * k.toNat)=true:=by rw[G1 f];exact ma
  have j:List.foldl (λo p=>o++p) #[] (List.replicate (if b.toArray.isEmpty=true then 0 else k.toNat) b.toArray)=(List.replicate k.toNat b).flatten.toArray:=by
   have P:∀m:Nat,List.foldl (λo p=>o++p) #[] (List.replicate m b.toArray)=(List.replicate m b).flatten.toArray:=λm=>by have:=As b m [];rw[se]at this;exact this
   rw[P];cases b with
   |nil=>simp
   |cons a Y=>rw[qa (by simp)]
  refine wpAny_binaryOp_repeat_ref (T:="list") (U:="int") (by decide) ⟨_,e,rfl⟩ (λC=>typeIs_int C k t) noFill_list_mul F.fills_int_mul F.slot_int_rmul repeat_list F.slot_int_index.lookup (cm F.slot_int_rmul (typeIs_int s k t) F.entry_int_rmul (F.args_int_rmul_2 _ _) (lm_int_rmul_list_any k t l b.toArray n none sl) ⟨e,rfl,⟨_,e,rfl⟩,cm F.slot_list_mul ⟨_,e,rfl⟩ F.entry_list_mul (F.args_list_mul_2 _ _) (lm_list_mul_any l b.toArray n none sl k t i g c) ⟨e,?_⟩⟩);rw[j];exact⟨.ref _,_,I.lnew (t':=s.toks) (r.rep k.toNat) (by rw[Av,Nat.mul_comm];exact hz),rfl,q _ I.fresh⟩
 ·exact h.elim
noncomputable def l9(x:Str)(n:Nat):Str:=⟨(List.replicate n x.cps.toList).flatten.toArray⟩
theorem CB(a:Array Nat):∀(k:Nat) (b:List Nat),List.foldl (λc d=>c++d) b.toArray (List.replicate k a)=(b++(List.replicate k a.toList).flatten).toArray
 |0,b=>by simp
 |k+1,b=>by
  rw[ye,ye,kh,show b.toArray++a=(b++a.toList).toArray by simp,CB a k,ud,qf]
def xF:R2:=λx y H Q=>match x,y with|.str z,.int k => -(2 ^ 63)<=k/\k<2 ^ 62/\z.length * k.toNat<=sizeLine/\Q (.str (l9 z k.toNat)) H|_,_=>False
theorem LL(k:Nat):(List.replicate k ([]:List Nat)).flatten=[]:=by induction k with|zero=>rfl|succ k a=>rw[ye,ud,a];rfl
theorem LM:bC X (binaryOp .Mult) xF:=by
 intro i s B H x y v u Q I l m h;unfold xF at h
 split at h
 ·rename_i z k
  obtain⟨C,p,hz,q⟩:=h;obtain⟨t,rfl⟩:=l;obtain⟨t',rfl⟩:=m
  have d:∀n:Int,1<=n->n<2 ^ 62->z.length * n.toNat<=sizeLine->¬((z.length:Int) > (2 ^ 63 - 1) / n):=λn w A j=>by
   have E:(z.length:Int) * n<=(sizeLine:Nat):=by
    have:((z.length * n.toNat:Nat):Int)<=(sizeLine:Nat):=Int.ofNat_le.mpr j
    rw[Int.natCast_mul,Int.toNat_of_nonneg (by omega)]at this;exact this
   have F:((sizeLine:Nat):Int)<=2 ^ 63 - 1:=by decide
   have G:=(Int.le_ediv_iff_mul_le (a:=(z.length:Int)) (b:=2 ^ 63 - 1) (show (0:Int)<n by omega)).mpr (by omega);omega
  refine PySem.P.mul_str (by rw[nb (by omega),nb (by omega)];rfl) (λg _=>d k (by omega) p hz) (λ_ _=>nb (by omega)) ?_
  have f:(l9 z k.toNat).length<=sizeLine:=by
   show (List.replicate k.toNat z.cps.toList).flatten.toArray.size<=_;rw[oa,Av,Nat.mul_comm];exact hz
  split
  ·rename_i hk
   have e:l9 z k.toNat=Str.empty:=by rw[show k.toNat=0 by omega];rfl
   rw[e]at q;exact⟨by decide,⟨.str Str.empty,H,I.tok _,⟨_,rfl⟩,q⟩⟩
  ·split
   ·rename_i o hk
    have e:l9 z k.toNat=z:=by
     rcases(Bool.or_eq_true _ _).mp hk with hk|hk
     ·have:k=1:=by simpa using hk
      subst this;show (⟨([z.cps.toList].flatten).toArray⟩:Str)=z;simp
     ·have c:z.cps.toList=[]:=by
       have:z.length=0:=by simpa using hk
       have:z.cps.size=0:=this
       simpa using this
      unfold l9;rw[c,LL]
      cases z with|mk r=>simp at c;subst c;rfl
    rw[e]at q;exact⟨.str z,H,I,⟨_,rfl⟩,q⟩
   ·have e:(⟨(List.replicate k.toNat z.cps).foldl (·++·) #[]⟩:Str)=l9 z k.toNat:=by
     have:=CB z.cps k.toNat []
     rw[se]at this;exact de Str.mk this
    rw[e];exact⟨f,⟨.str (l9 z k.toNat),H,I.tok _,⟨_,rfl⟩,q⟩⟩
 ·exact h.elim
end
def xG(d e:D):Option D:=match d,e with
 |.sc (.int i),.sc (.int j)=>if jB i j=true then some (.int (i * j)) else none
 |.sc (.str z),.sc (.int k)=>if -(2 ^ 63)<=k/\k<2 ^ 62/\z.length * k.toNat<=sizeLine then some (.sc (.str (l9 z k.toNat))) else none
 |.lst ds,.sc (.int k)=>if -(2 ^ 63)<=k/\k<2 ^ 63/\ds.length * k.toNat<=sizeLine then some (.lst (List.replicate k.toNat ds).flatten) else none
 |_,_=>none
def CC(K:Fg1):R2:=λx y H Q=>k2 (λi j=>jB i j=true) (λi j=>.int (i * j)) x y H Q\/xF x y H Q\/xE K x y H Q
theorem LN:bC X (binaryOp .Mult) (CC X.K):=qt.or (LM.or LK)
theorem aZ.rep{K:Fg1}{H:Hp}{ds:List D}{xs:List V}(h:aZ K H ds xs):∀k:Nat,aZ K H (List.replicate k ds).flatten (List.replicate k xs).flatten
 |0=>.nil
 |k+1=>by rw[ye,ye,ud,ud];exact h.zapp (aZ.rep h k)
theorem LO{K:Fg1}:P2 K (CC K) xG:=by
 intro Hf H x y d e z Q s c f hz q;unfold xG at hz
 split at hz
 ·split at hz
  ·rename_i b
   cases hz;rw[c.sc.2,f.sc.2]
   exact .inl ⟨b,q Hf H _ (.refl s) (cE rfl)⟩
  ·cases hz
 ·split at hz
  ·rename_i b
   cases hz;rw[c.sc.2,f.sc.2]
   exact .inr (.inl ⟨b.1,b.2.1,b.2.2,q Hf H _ (.refl s) (cE rfl)⟩)
  ·cases hz
 ·split at hz
  ·rename_i b
   cases hz;obtain⟨a,xs,rfl,j,g⟩:=c.lst s
   rw[f.sc.2];refine .inr (.inr ⟨xs,j,b.1,b.2.1,by rw[<-g.length];exact b.2.2,λp h=>?_⟩);rename_i i;have e2:=Ex.new (o:=.lst (List.replicate i.toNat xs).flatten) s h;exact q _ _ _ e2 (hW (bJ.of bi) ((aZ.rep g _).zmap λ_ _ z=>z.same e2.ff))
  ·cases hz
 ·cases hz
section
variable {X:Cx}{B:Bs}{a b c d:Expr}{fa fb fc fd:ao->Option D}{pos:Pos}
def CD(r i a:R2)(ta tb tc td:TE):TE:=λσ H Q=>ta σ H λx H1=>tb σ H1 λy H2=>r x y H2 λz b=>∃k,z=.bl k ∧
 (if k=true then tc σ b λc e=>i y c e λf d=>∃k2,f=.bl k2/\(if k2=true then td σ d λg h=>a c g h Q else Q (.bl false) d) else Q (.bl false) b)
def qQ(g g' a:D->D->Option D)(fa fb fc fd:ao->Option D):ao->Option D:=λρ=>(fa ρ).bind λd=>(fb ρ).bind λe=>(g d e).bind λz=>(fP z).bind λk=>if k=true then (fc ρ).bind λw=>(g' e w).bind λb=>(fP b).bind λk2=>if k2=true then (fd ρ).bind λu=>a w u else some (.bl false) else some (.bl false)
theorem LP(hf:∀i j,d9 (h i j)=true)(Z:∀i j,d9 (h' i j)=true)(s:∀i j,d9 (h'' i j)=true){K:Fg1}{σ:St}{H:Hp}{Q:VK}(hh:eV K B (qQ (fy h) (fy h') (fy h'') fa fb fc fd) σ H Q):CD (fG h) (fG h') (fG h'') (eB K B fa) (eB K B fb) (eB K B fc) (eB K B fd) σ H Q:=by
 obtain⟨Hf,ρ,z,I,hz,q⟩:=hh;have⟨d,hd,hz⟩:=bind_some hz;have⟨e,he,hz⟩:=bind_some hz;have⟨k,hk,hz⟩:=bind_some hz;have⟨m,hm,A⟩:=bind_some hz;clear hz;refine⟨Hf,ρ,d,I,hd,λC H1 x l dx=>⟨C,ρ,e,I.ext l,he,λE H2 y c dy=>?_⟩⟩;have T:=dy;refine(qq (K:=K) hf) E H2 x y d e k _ c.fh (dx.ext c) dy hk λn H3 v o dv=>?_
 unfold fP at hm
 split at hm
 ·cases hm
  refine⟨m,dv.bl,?_⟩;have U:=(l.trans c).trans o
  cases m with
  |true =>
   rw[da rfl]at A ⊢;have⟨w,hw,hz⟩:=bind_some A;have⟨k2,P,hz⟩:=bind_some hz;have⟨m2,a,b⟩:=bind_some hz;clear hz;refine⟨n,ρ,w,I.ext U,hw,λF H4 u f du=>?_⟩;have X:=du;refine(qq (K:=K) Z) F H4 y u e w k2 _ f.fh ((T.ext o).ext f) du P λp H5 v5 r G=>?_
   unfold fP at a
   split at a
   ·cases a
    refine⟨m2,G.bl,?_⟩;have Y:=(U.trans f).trans r
    cases m2 with
    |true =>
     rw[da rfl]at b ⊢;have⟨w2,R,hz⟩:=bind_some b;exact⟨p,ρ,w2,I.ext Y,R,λJ H6 u6 g L=>(qq (K:=K) s) J H6 u u6 w w2 z Q g.fh ((X.ext r).ext g) L hz λM H' v' N O=>q M H' v' ((Y.trans g).trans N) O⟩
    |false=>rw[qa ma]at b ⊢;cases b;exact q p H5 _ Y (cE rfl)
   ·cases a
  |false=>rw[qa ma]at A ⊢;cases A;exact q n H3 _ U (cE rfl)
 ·cases hm
theorem LQ{g g' b:D->D->Option D}{ρ:ao}{x y z w:D}{a k2 c:Bool}(d:fa ρ=some x)(e:fb ρ=some y)(f:g x y=some (.bl a))(h:a=true->fc ρ=some z)(i:a=true->g' y z=some (.bl k2))(j:a=true->k2=true->fd ρ=some w)(l:a=true->k2=true->b z w=some (.bl c)):qQ g g' b fa fb fc fd ρ=some (.bl (a && (k2 && c))):=by
 unfold qQ;rw[d,e,xa,xa,f,xa]
 cases a with
 |false=>rfl
 |true =>
  show ((fc ρ).bind _)=_;rw[h rfl,xa,i rfl,xa]
  cases k2 with
  |false=>rfl
  |true=>show ((fd ρ).bind _)=_;rw[j rfl rfl,xa,l rfl rfl];rfl
end
theorem o3:∀d ρ ρ1,gN i d ρ=some ρ1->(∀(k:Nat) s,ρ[k]?=some (some s)->dG s=false)->∀(k:Nat) s,ρ1[k]?=some (some s)->dG s=false:=λd ρ ρ1 e h k s q=>by
 cases e;by_cases a:i=k
 ·subst a
  rw[List.getElem?_set]at q
  split at q
  ·split at q
   ·cases q;rfl
   ·cases q
  ·exact h _ s q
 ·rw[ua a]at q;exact h k s q
def NG(r:List D->ao->Option ao):Prop:=∀ds ρ ρ1,r ds ρ=some ρ1->(∀(k:Nat) s,ρ[k]?=some (some s)->dG s=false)->∀(k:Nat) s,ρ1[k]?=some (some s)->dG s=false
theorem LR:NG cX:=λds ρ ρ1 e h=>by
 unfold cX at e
 split at e
 ·cases e;exact h
 ·cases e
theorem xH(b:∀d ρ ρ1,g d ρ=some ρ1->(∀(k:Nat) s,ρ[k]?=some (some s)->dG s=false)->∀(k:Nat) s,ρ1[k]?=some (some s)->dG s=false)(c:NG r):NG (bA g r):=λds ρ ρ1 e h=>by
 unfold bA at e
 split at e
 ·have⟨a,e1,e2⟩:=bind_some e
  exact c _ _ _ e2 (b _ _ _ e1 h)
 ·cases e
theorem LS(h:NG r):∀d ρ ρ1,gT n r d ρ=some ρ1->(∀(k:Nat) s,ρ[k]?=some (some s)->dG s=false)->∀(k:Nat) s,ρ1[k]?=some (some s)->dG s=false:=λd ρ ρ1 e a=>by
 unfold gT at e
 split at e
 ·split at e
  ·exact h _ _ _ e a
  ·cases e
 ·cases e
def jn(A C:Hp):Hp:=λb=>match A b with|some o=>some o|none=>C b
section
variable {A C H:Hp}
theorem xI:aS A (jn A C):=λb u h=>by unfold jn;rw[h]
theorem CF(a:aS A H)(c:aS C H):aS (jn A C) H:=λb u h=>by
 unfold jn at h
 cases e:A b with
 |some o=>rw[e]at h;cases h;exact a b _ e
 |none=>rw[e]at h;exact c b u h
theorem CG(a:aS A H)(c:aS C H):aS C (jn A C):=λb u h=>by
 unfold jn
 cases e:A b with
 |some o =>
  have z:=a b o e;rw[c b u h]at z;exact z.symm
 |none=>exact h
def iA(C:Hp):Hp:=λb=>match C b with|some (.frz _ _)=>none|x=>x
theorem CH:aS (iA C) C:=λb u h=>by
 unfold iA at h
 split at h
 ·cases h
 ·exact h
theorem LT(h:iA C b≠none):C b≠none:=λz=>h (by unfold iA;rw[z])
theorem LU(h:C b=some (.lst xs)):iA C b=some (.lst xs):=by unfold iA;rw[h]
theorem LW(h:C b=some (.dT xs)):iA C b=some (.dT xs):=by unfold iA;rw[h]
theorem LX(h:jn A (iA C) b=some (.frz o u)):A b=some (.frz o u):=by
 unfold jn at h
 cases e:A b with
 |some x=>rw[e]at h;exact h
 |none =>
  rw[e]at h;have h:iA C b=some (.frz o u):=h;unfold iA at h
  split at h
  ·cases h
  ·rename_i n;exact absurd h (n o u)
theorem CI(h:jn A C b≠none):A b≠none\/C b≠none:=by
 unfold jn at h
 cases e:A b with
 |some o=>exact .inl λz=>nomatch z
 |none=>rw[e]at h;exact .inr h
end
def xJ:Hp:=λ_=>none
theorem LY(h:H p=some o):aS (aG xJ p o) H:=λb u e=>by
 by_cases a:b=p
 ·subst a;rw[bi]at e;cases e;exact h
 ·rw[aK a]at e;cases e
theorem LZ(h:aG xJ p o b≠none):b=p:=by
 by_cases a:b=p
 ·exact a
 ·rw[aK a]at h;exact absurd rfl h
theorem VI.offH{K:Fg1}{B:Bs}{Hf H:Hp}{ρ:ao}{a:St}{p:Addr}{o:HO}(I:VI K B Hf ρ a H)(no:∀(i:Nat) sl,ρ[i]?=some (some sl)->dG sl=true->a[i]?≠some (some (.ref p)))(e:Hf p=none)(f:B.h p=none):VI K B Hf ρ a (aG H p o):=by
 refine⟨⟨I.ex.ff,λb u h=>?_,λb u h=>?_,I.ex.nw,I.ex.nf⟩,I.len,λi sl h=>?_,I.own,I.dis⟩
 ·rw[aK (cC h f)];exact I.ex.hh b u h
 ·rw[aK (cC h e)];exact I.fh b u h
 ·have⟨v,c,d⟩:=I.ok i sl h
  exact⟨v,c,d.away λo z=>no i sl h o (by rw[c,z])⟩
section
variable {X:Cx}{B:Bs}{a b c d:Expr}{fa fb fc fd:ao->Option D}{pos:Pos}
theorem L0(ho:bC X (compareOp op) r)(n:bC X (compareOp j) r')(l:bC X (compareOp g) m)(ha:PE X a ta)(hb:PE X b tb)(hc:PE X c tc)(hd:PE X d td)
  (hm:lastMarks [op,j,g] [b,c,d]=false:=by with_unfolding_all rfl):PE X (.Compare a [op,j,g] [b,c,d] pos) (CD r r' m ta tb tc td):=by
 intro f s i H Q I h;refine Compare_chain (aX (ha f s i H _ I h) λv J ⟨x,K,L,M,N⟩=>chain_link (aX (hb f J i K _ L N) λu O ⟨y,P,R,o,T⟩=>aX (ho f O i P x y v u _ R M o T) λd U ⟨z,p,q,Y,k,e,w⟩=>?_)) hm;subst e;cases Y;refine ng ?_
 cases k with
 |false=>exact ite_ff ⟨.bl false,p,q,rfl,w⟩
 |true =>
  refine ite_tt (chain_link (aX (hc f U i p _ q w) λA Z ⟨B,H4,I4,C,q4⟩=>aX (n f Z i H4 y B u A _ I4 o C q4) λd' s5 ⟨z2,E,F,r5,k2,e2,G⟩=>?_));subst e2;cases r5;refine ng ?_
  cases k2 with
  |false=>exact ite_ff ⟨.bl false,E,F,rfl,G⟩
  |true=>exact ite_tt (chain_last (aX (hd f s5 i E _ F G) λw2 s6 ⟨z3,H6,I6,r6,q6⟩=>l f s6 i H6 B z3 A w2 Q I6 C r6 q6))
theorem L1(p:bC X (compareOp op) (fG h))(n:bC X (compareOp f) (fG h'))(l:bC X (compareOp e) (fG g))(q:PE X a (eB X.K B fa))(r:PE X b (eB X.K B fb))(s:PE X c (eB X.K B fc))(u:PE X d (eB X.K B fd))(v:∀i j,d9 (h i j)=true:=by exact λ_ _=>rfl)(o:∀i j,d9 (h' i j)=true:=by exact λ_ _=>rfl)(m:∀i j,d9 (g i j)=true:=by exact λ_ _=>rfl)
  (hm:lastMarks [op,f,e] [b,c,d]=false:=by with_unfolding_all rfl):PE X (.Compare a [op,f,e] [b,c,d] pos) (eV X.K B (qQ (fy h) (fy h') (fy g) fa fb fc fd)):=(L0 p n l q r s u hm).imp λw H Q z=>LP v o m z
end
def j6:ao->aT:=λ_=>.bad
theorem lD{X:Cx}{B:Bs}{st:Stmt}:PS X st (sV X.K B j6):=(Fu (X:=X) (st:=st)).imp λD a H ⟨Hf,ρ,I,q⟩=>q
end L2
namespace L2
open PySem
theorem lE(h:fa ρ=some a)(c:a=true->fb ρ=some b):bV fa fb ρ=some (a && b):=by
 cases a with
 |false=>exact oP h
 |true=>exact l4 h (c rfl)
theorem qR(h:fa ρ=some a)(c:a=false->fb ρ=some b):dA fa fb ρ=some (a || b):=by
 cases a with
 |false=>exact BW h (c rfl)
 |true=>exact BV h
theorem iC(a:g x ρ=some ρ1)(b:f ρ1=.nx ρ2):dO g f (x::r) ρ=dO g f r ρ2:=by
 rw[dO,a];dsimp only;rw[b]
theorem CJ(a:g x ρ=some ρ1)(b:f ρ1=.rt v):dO g f (x::r) ρ=.rt v:=by
 rw[dO,a];dsimp only;rw[b]
theorem gz(a:fa ρ=some d)(b:g d=some z):e1 g fa ρ=some z:=by unfold e1;rw[a];exact b
theorem lF(a:ρ[i]?=some (some (.ow ds)))(b:fe ρ=some d)(c:ds.length<=100000):dY i fe ρ=.nx (ρ.set i (some (.ow (ds++[d])))):=by
 unfold dY;rw[a];dsimp only;rw[b];dsimp only;rw[da (lB c)]
theorem L3(h:fe ρ=some d)(a:g d ρ=some ρ1):iW g fe ρ=.nx ρ1:=by unfold iW;rw[h];simp only[xa,a]
theorem L4{l:List Int}:cF [.lst (l.map D.int)]=some (.int l.length):=by unfold cF;dsimp only;rw[ba]
noncomputable def nB(l:List Int)(i:Nat):Int:=l.getD i 0
theorem L5(h:i<l.length):aJ (.lst (l.map D.int)) (.int (i:Nat))=some (.int (nB l i)):=by
 refine lN ?_;rw[ed];simp[nB,h]
theorem o4:cv (.int i)=some (.int (-i)):=rfl
end L2
namespace L2
open PySem PySem.Spec PyProof.Rows
theorem mi:("path" : Str)∈gM:=by simp[gM]
theorem CK:("goal" : Str)∈gM:=by simp[gM]
theorem CL:("ring" : Str)∈gM:=by simp[gM]
section
variable {P:Program}{w:World}{K:Fg1}{mg:Str->Option Value}{base:Heap}
theorem L6{nm x g h l:Str}{st:Stmt}{f:Addr}{N:FuncData}{a b d:Str}{Y Z p3 p4 q1 q2 q3 q4:Pos}(F:ec K x g st f N)(S:ay [a,b,d] [a,b,d] (bt st))(r:h∈gM)(v:l∈gM)(hb:e6 st=[.Assign [.Attribute (.Name a Y) h Z] (.Name b p3) p4,.Assign [.Attribute (.Name a q1) l q2] (.Name d q3) q4])
  (O:(bt st).names.lookup a=some .local) (m:(bt st).names.lookup b=some .local) (n:(bt st).names.lookup d=some .local) (eg:(a == ("__debug__" : Str))=false:=by decide) (j:(a == ("__classdict__" : Str))=false:=by decide) (i6:(b == ("__debug__" : Str))=false:=by decide) (y:(b == ("__classdict__" : Str))=false:=by decide) (z:(d == ("__debug__" : Str))=false:=by decide) (B:(d == ("__classdict__" : Str))=false:=by decide) (G:(l == h)=false:=by decide):ax P w K mg base aQ 1 f N [a,b,d] (mM K nm [h,l]):=by
 refine F.ok (k:=0) S (λvs H Q E ⟨e,I,_,_,_,_,m,n,_⟩=>by rw[m,wb,n];rfl) λR A o s H vs Q E hr ⟨e,I,C,J,L,M,T,hl,c,U,q⟩=>?_
 match I,hl with
 |[u,u2],_ =>
  subst T;rw[hb];refine⟨_,g7 (sJ (fN (i:=1) rfl (cb m) i6 y) (i:=0) rfl (cb O) eg j rfl) (g7 (sJ (fN (i:=2) rfl (cb n) z B) (i:=0) rfl (cb O) eg j rfl) n9),?_⟩;refine⟨u,rfl,e,nm,C,J,L,rfl,c,r,.inl ⟨M,U,λdx X p=>?_⟩⟩;refine⟨u2,rfl,e,nm,C,J,L,rfl,c,v,.inr ⟨dx,M,[(h,u)],by rw[aK (ve p),bi],bi,p,by simp[List.lookup,G],by simp,?_⟩⟩;rw[n8];exact q dx X p
end
end L2
namespace L2
open PySem PySem.Spec PyProof.Rows
open Sem (wp)
section
variable {prog:Program}{w:World}{K:Type}[DecidableEq K]{knd:HeapKind prog w K}{A:Around}{E:Value->Shared->Prop}{s:Shared}{d a:Addr}{k:K}{xs:List (K×Addr×Value)}
theorem L7{b:Value}{Q:Value->Shared->Prop}(u:knd.room A)(et:knd.is s.heap k a)(hm:s.heap.DictOfH knd d xs)
  (c:∀p,atKey xs k=some p->Q p.2 { s with toks:=s.toks+knd.draws k })
  (m:atKey xs k=none->∀h',h'.DictOfH knd d (xs++[(k,a,b)])->Heap.SameBut d s.heap h'->Q b { s with heap:=h',toks:=s.toks+knd.draws k })
  (hsz:xs.length<=sizeLine) :
  wpAny (model prog w) A (dictSetDefault d (.ref a) b) Q E s:=by
 obtain⟨o,es,ep,g,v,f,n,i,hn⟩:=hm;unfold dictSetDefault
 try with_reducible refine qe ?_
 refine aa (knd.pyHash u et ?_);refine aa (wpAny_dictFind_heap (s:={ s with toks:=s.toks+knd.draws k }) u et g f n i hn ?_ ?_)
 ·intro h
  have l:k ∉ xs.map (·.1):=not_mem_keys_of_get h
  refine wpAny_bind (wpAny_rule (wpAny_bind (wpAny_updateDictKeys (hz:=by have e:=size_of_entries n;omega) (s:={ s with toks:=s.toks+knd.draws k }) g f (wpAny_pure (m (atKey_none_of_get h) _ ⟨_,_,ep+1,Heap.get?_update_self _ g (Obj.isFreed_of_dict (Obj.data_mapDictKeys f _)),
   v.mapDictKeys _,Obj.data_mapDictKeys f _,?_,?_,?_⟩ (cj ..))))))
  ·simp[n,entryOfKey]
  ·intro x hx
   rcases yc.mp hx with hx|hx
   ·exact knd.keeps (i x hx) g f (cj ..)
   ·simp only[yb]at hx
    subst hx;exact knd.keeps et g f (cj ..)
  ·rw[db,ke]
   refine⟨hn,by simp,?_⟩;intro x hx y q;simp only[ja,rg,yb]at q;subst q;exact λe=>l (e ▸ hx)
 ·intro j p r
  refine aa (ql (s:={ s with toks:=s.toks+knd.draws k }) g f ?_);rw[entry_at n j,r];exact aa (dm (ia (c _ (atKey_of_get hn r))))
theorem L8(j:(d == sysModules)=false)(b:Value) :
  MeetsIn prog w (Builtin.«dict.setdefault» ⟨[.ref d,.ref a,b],[]⟩) (λ A R s=>knd.room A.in1/\∃ k xs,knd.is s.heap k a/\s.heap.DictOfH knd d xs/\xs.length<=sizeLine ∧
   (∀p,atKey xs k=some p->R (.ok (.ret p.2)) { s with toks:=s.toks+knd.draws k }) ∧
   (atKey xs k=none->∀h',h'.DictOfH knd d (xs++[(k,a,b)])->Heap.SameBut d s.heap h'->R (.ok (.ret b)) { s with heap:=h',toks:=s.toks+knd.draws k })) :=
 .of_wp λA R s ⟨f,k,xs,et,hm,hz,g,h⟩=>by
  unfold Builtin.«dict.setdefault»;refine aa ?_;unfold Builtin.Dict.keyAndDefault;refine aa (wpAny_notOrdered_dict hm.typeIs ?_);show wpAny _ _ (pure (d,Value.ref a,some b)) _ _ s;refine ia ?_;show wpAny _ _ (if (d == sysModules)=true then _ else (dictSetDefault d (.ref a) b >>= _)) _ _ s;rw[qa (by rw[j];exact ma)];exact aa (L7 f et hm (λp i=>ia ⟨p.2,rfl,g p i⟩) (λhn h' c e=>ia ⟨b,rfl,h hn h' c e⟩) hz)
end
end L2
namespace L2
open PySem PySem.Spec PyProof.Rows
def kL(H:Hp):Hp:=λb=>match H b with|some (.tup xs)=>some (.tup xs)|_=>none
theorem CM:aS (kL H) H:=λb u h=>by
 unfold kL at h
 split at h
 ·rename_i e;cases h;exact e
 ·cases h
theorem L9(h:H b=some (.tup xs)):kL H b=some (.tup xs):=by unfold kL;rw[h]
theorem Ex.tups(s:aS Hf H):Ex Hf H (jn Hf (kL H)) H:=by
 refine⟨xI,aS.refl _,CF s CM,λb a=>?_,λb o u h=>?_⟩;rcases CI a with z|z
 ·exact .inl z
 ·unfold kL at z
  split at z
  ·rename_i xs e;exact .inr (.inr ⟨xs,e⟩)
  ·exact absurd rfl z
 ·unfold jn at h
  cases e:Hf b with
  |some x=>rw[e]at h;exact h
  |none =>
   rw[e]at h;have h:kL H b=some (.frz o u):=h;unfold kL at h
   split at h <;> cases h
def CN:aW->D
 |.inl i=>.int i
 |.inr x=>.sc (.str x)
theorem xK{K:Fg1}{H:Hp}:∀ks:List aW,aZ K H (ks.map CN) (ks.map kV)
 |[]=>.nil
 |.inl i::r=>.cons (cE rfl) (xK r)
 |.inr x::r=>.cons (cE rfl) (xK r)
def i4(ks:List aW):D:=.tup (ks.map CN)
def CO(F:List D->Option D)(fa:ao->Option D):ao->Option (List D):=λρ=>(fa ρ).bind λd=>match d with
 |.dt ks _=>kI F (ks.map i4)
 |_=>none
section
variable {X:Cx}{B:Bs}{k:Nat}{F:List D->Option D}{f:Addr}{fd:FuncData}{p:Str}{pos:Pos}{a:Expr}{fa:ao->Option D}
theorem Ma (hc:X.calm=true) (G:ax X.prog X.w X.K X.mg X.base aQ k f fd [p] (aY X.K 1 F)) (hr:aM k X.A.in1.in1) (hg:Gl X "sorted") (hm:X.mg "sorted" = none) (hgf:Gl X fn) (hmf:X.mg fn=some (.ref f)) (hb:c9 X.K fd [p] []) (ha:PE X a (eB X.K B fa))
  (hfd:(fn == ("__debug__" : Str))=false:=by decide) (hs0:starEach [a] X.env=(false,eval a X.env)::starEach [] X.env:=by rfl)
  (e:backTo pos (starEach [a] X.env)=(false,eval a X.env)::backTo pos (starEach [] X.env):=by rfl) (g:((backTo pos (starEach [a] X.env)).any λx=>x.1)=false:=by rfl) :
  PE X (.Call (.Name "sorted" p1) [a] [⟨some "key",.Name fn p3,p4⟩] pos) (eW X.K B (CO F fa)):=by
 intro j s σ H Q I h;obtain⟨Hf,ρ,out,N,hz,q⟩:=h;have⟨d,eg,hz⟩:=bind_some hz
 split at hz
 ·rename_i ks dvs
  unfold kI at hz
  split at hz
  ·rename_i ok
   cases hz;refine ef (kw I hg hm v0 ?_ (by decide) (by decide))
   refine callWith_kw (aX ((g9 ha jt hs0) pos j s σ H (λvs C=>∃b v,vs=[v]/\Ex Hf H b C/\cK X.K b C (.dt ks dvs) v) I ⟨Hf,ρ,_,N,eg,λb C v T J=>⟨b,v,rfl,T,J⟩⟩) λus s1 ⟨vs,C,I1,U,b,v,e1,c,J⟩=>?_) (by first|exact e|exact g|rfl) (by first|exact e|exact g|rfl) (by first|exact e|exact g|rfl) (by first|exact e|exact g|rfl);subst e1;obtain⟨u,rfl,ru⟩:=g8 U;obtain⟨ad,kvs,rfl,h3,h4,h5⟩:=J.dt c.fh;cases ru;refine aX ((vA (rT (v:=.ref f) hgf hmf rfl hfd) vz) pos j s1 σ C (λvs E=>vs=[.ref f]/\E=C) I1 ⟨rfl,rfl⟩) λus s2 ⟨vs,E,I2,U,e1,e2⟩=>?_
   subst e1 e2;obtain⟨u,rfl,ru⟩:=g8 U;cases ru;show wpAny (model X.prog X.w) X.A (call (.builtin "sorted") [.ref ad] [(Str.ofString "key",.ref f)]) _ _ _;have⟨z1,h0,xs,rel,o,es,ep,g1,g2,g3,g4,g5⟩:=(show cA X.prog X.w E s2.heap ad (.dT kvs) from I2.hok ad _ h3)
   have ext:=Ex.tups c.fh
   have dn:aZ X.K (jn b (kL E)) (ks.map i4) (xs.map λx=>V.ref x.2.1):=by
    rw[<-h4]
    have:∀{l:List (List aW×V)} {m:List (List aW×Addr×Value)},Paired (λ(p:List aW×V) (q:List aW×Addr×Value)=>p.1=q.1/\E q.2.1=some (.tup (p.1.map kV))/\bj p.2 q.2.2) l m->aZ X.K (jn b (kL E)) ((l.map Prod.fst).map i4) (m.map λx=>V.ref x.2.1):=by
     intro l m pr
     induction pr with
     |nil=>exact .nil
     |cons r t P=>exact .cons (oA (gO.of (CG c.fh CM _ _ (L9 r.2.1))) (xK _)) P
    exact this rel
   have hl:xs.length=(ks.map i4).length:=by rw[dn.length,ba]
   have hes:es.toList.map (·.key)=xs.map λx=>Value.ref x.2.1:=by rw[g4,jc];rfl
   have hsz:es.size=xs.length:=by rw[<-pf,g4,ba]
   have hsm:=ok.sm.2;refine Cl (rs:=(ks.map i4).map (rk F)) G hr hb I2 ext.fh dn (λR hR=>Cm (A:=X.A.in1) (I.ok.hd hc) h0 ⟨o,g1,g2,g3⟩ (by rw[hsz];exact sz (by omega)) λh' tk L=>?_) (λi d hd=>?_) (by rw[ba]) ok.sz ok.ord λn H' l π T Y Z hl3 M hup=>q n H' l _ (c.trans (ext.trans T)) (c.hh.free Y) Z hl3 ?_
   ·rw[hes]
    refine hR h' tk _ L ?_
    have:∀l:List (List aW×Addr×Value),bB (l.map λx=>V.ref x.2.1) (l.map λx=>Value.ref x.2.1):=by
     intro l
     induction l with
     |nil=>exact .nil
     |cons y r P=>exact .cons rfl P
    exact this xs
   ·have⟨r,e1,_⟩:=ok.ex d (je hd)
    exact⟨r,by rw[ed,hd];show some (rk F d)=_;rw[gy e1],e1⟩
   ·rw[<-ok.out M hup]
    have dn':=dn.same T.ff
    have O:∀l:List Nat,(∀i∈l,i<(ks.map i4).length)->aZ X.K n (l.map λi=>(ks.map i4).getD i D.non) (l.map λi=>(xs.map λx=>V.ref x.2.1).getD i V.non):=by
     intro l
     induction l with
     |nil=>intro _;exact .nil
     |cons i r P =>
      intro hh;refine .cons ?_ (P λz hz=>hh z (la _ hz));have hi:=hh i va;have e1:(ks.map i4)[i]?=some (ks.map i4)[i]:=zc hi;have⟨v,e2,J⟩:=dn'.zget e1;show Dn X.K n ((ks.map i4).getD i D.non) ((xs.map λx=>V.ref x.2.1).getD i V.non);rw[gc,e1,gc,e2];exact J
    exact O _ λi hi=>dh.mp (M.mem_iff.mp hi)
  ·cases hz
 ·cases hz
end
section
variable {X:Cx}{pins:List (Addr×Obj)}{σ:St}{H:Hp}{s:Shared}{a b:Addr}{v:V}{r:Value}{A:Around}{E:Value->Shared->Prop}{kvs:List (List aW×V)}{k:List aW}
theorem Mb(K:A.units+1<cLine)(I:aw X pins σ H s)(e:H a=some (.dT kvs))(u:H b=some (.tup (k.map kV)))(hl:kvs.length<sizeLine)(rd:bj v r)
  (L:∀g x s',dD kvs k=some g->bj g x->aw X pins σ H s'->Q x s') (M:dD kvs k=none->∀s',aw X pins σ (aG H a (.dT (e7 kvs k v))) s'->Q r s') :
  wpAny (model X.prog X.w) A (call (.builtin "dict.setdefault") [.ref a,.ref b,r]) Q E s:=by
 have⟨z,m,xs,f,dd⟩:=A6 I.hok e;have hz:xs.length<=sizeLine:=by rw[<-Paired.length f];exact z
 have d:=f.val k;refine call_meetsIn PySem.F.slot_dict_setdefault dd.typeIs PySem.F.entry_dict_setdefault (PySem.F.args_dict_setdefault_3 _ _ _) (L8 (knd:=tupleKind (fM X.prog X.w)) m r) ⟨ci K,k,xs,mK I.hok u,dd,hz,λp y=>?_,λhn h' h hs=>?_⟩
 ·rw[y]at d
  cases l:dD kvs k with
  |none=>rw[l]at d;exact d.elim
  |some g=>rw[l]at d;exact L g p.2 _ l d (I.tok _)
 ·rw[hn]at d
  cases l:dD kvs k with
  |some g=>rw[l]at d;exact d.elim
  |none =>
   refine M l _ ?_;have o:=f.put k u rd;rw[storedH_new hn]at o;have i:(e7 kvs k v).length<=sizeLine:=by have:=wt kvs k v;omega
   obtain⟨q,es,ep,n,B,C,G,_,J⟩:=h;refine wv I (by rw[e];exact ug) hs ⟨q,n⟩ ⟨i,m,_,o.keeps λc ys j=>?_,q,es,ep,n,B,C,G,J⟩;rw[aK (fZ j e (λz=>nomatch z))];exact j
end
def Mc(td ty tx:TE):TE:=λσ H Q=>td σ H λx H1=>∃a,x=.ref a/\pY H1 a/\ty σ H1 λy H2=>tx σ H2 λz c=>∃b kvs k,y=.ref b/\c a=some (.dT kvs)/\c b=some (.tup (k.map kV))/\kvs.length<sizeLine ∧
 (∀w,dD kvs k=some w->Q w c)/\(dD kvs k=none->Q z (aG c a (.dT (e7 kvs k z))))
section
variable {X:Cx}{o e f:Expr}{apos cpos:Pos}{td ty tx:TE}
theorem CP (hu:X.A.units+1<cLine) (ho:PE X o td) (he:PE X e ty) (hf:PE X f tx) (m:M2 X o "setdefault" apos e f cpos):PE X (.Call (.Attribute o "setdefault" apos) [e,f] [] cpos) (Mc td ty tx):=by
 intro c s j H Q I h;refine wpAny_Call_method m.base m.few m.line PySem.F.plainAttrs_dict PySem.F.slot_dict_setdefault PySem.F.type_dict_setdefault (aX (ho c s j H _ I h) λu r ⟨x,v,n,w,a,B,d,C⟩=>?_);subst B;obtain rfl:u=Value.ref a:=w;have⟨t1,t2,_⟩:=A8 n d;refine⟨t1,t2,?_⟩;rw[m.trees]
 refine Calls.callWith_builtin rfl (Calls.evalArgs_plain (Calls.spliced_cons (aX (he c r j v _ n C) λ E G ⟨y,J,K,L,M⟩ =>
  ai (aX (hf c G j J _ K M) λfv s3 ⟨z,N,O,p,b,kvs,k,P,R,T,hl,U,Y⟩=>ll ?_))))
 subst P;obtain rfl:E=Value.ref b:=L;exact Mb hu O R T hl p (λq u' Z l g i=>⟨q,N,i,g,U q l⟩) λl Z i=>⟨z,_,i,p,Y l⟩
end
abbrev GD:=List (List aW×List D)
structure GS(X:Cx)(B:Bs)(j:Nat)(Hf:Hp)(ρ:ao)(σ:St)(H:Hp)(gd:GD)(Hn:Hp):Prop where
 vi:VI X.K B Hf ρ σ H
 nj:ρ[j]?=some none
 nh:aS Hn H
 nt:∀b xs,Hn b≠some (.tup xs)
 fr:∀b,Hn b≠none->Hf b=none/\B.h b=none
 no:∀(i:Nat) sl,ρ[i]?=some (some sl)->dG sl=false
 ex:∃p kvs,σ[j]?=some (some (.ref p))/\Hn p=some (.dT kvs)/\kvs.map Prod.fst=gd.map Prod.fst/\(kvs.map Prod.snd).Nodup/\Paired (λds v=>∃l xs,v=.ref l/\Hn l=some (.lst xs)/\aZ X.K Hf ds xs) (gd.map Prod.snd) (kvs.map Prod.snd)
section
variable {X:Cx}{B:Bs}{j:Nat}{Hf Hf' H H' Hn:Hp}{ρ:ao}{σ:St}{gd:GD}
theorem GS.ext(I:GS X B j Hf ρ σ H gd Hn)(e:Ex Hf H Hf' H'):GS X B j Hf' ρ σ H' gd Hn:=by
 refine⟨I.vi.ext e,I.nj,I.nh.trans e.hh,I.nt,λb a=>⟨?_,(I.fr b a).2⟩,I.no,?_⟩
 ·cases z:Hn b with
  |none=>exact absurd z a
  |some o=>exact xA e (I.fr b a).1 (I.nh b o z) (λxs c=>I.nt b xs (by rw[z,c]))
 ·have⟨p,kvs,h,i,m,n,q⟩:=I.ex
  exact⟨p,kvs,h,i,m,n,q.zmap λ_ _ ⟨l,xs,d,f,g⟩=>⟨l,xs,d,f,g.same e.ff⟩⟩
end
abbrev GG:=ao->GD->Option (ao×GD)
def sG(X:Cx)(B:Bs)(j:Nat)(g:GG):TS:=λD σ H=>∃Hf ρ gd Hn ρ' a,GS X B j Hf ρ σ H gd Hn/\g ρ gd=some (ρ',a)/\∀Hf' b H' c,aS Hf Hf'->GS X B j Hf' ρ' b H' a c->D.nx b H'
def eY(gd:GD)(k:List aW):GD:=if (bF gd k).isSome=true then gd else gd++[(k,[])]
def iD(k:List aW)(d:D):GD->GD
 |[]=>[]
 |x::r=>if x.1=k then (x.1,x.2++[d])::r else x::iD k d r
theorem xL(k:List aW)(d:D):∀gd:GD,(iD k d gd).map Prod.fst=gd.map Prod.fst
 |[]=>rfl
 |x::r=>by
  unfold iD;split
  ·rfl
  ·rw[ja,xL k d r];rfl
theorem CQ{gd:GD}{k:List aW}:∀{kvs:List (List aW×V)},kvs.map Prod.fst=gd.map Prod.fst->(dD kvs k).isSome=(bF gd k).isSome:=by
 induction gd with
 |nil=>intro kvs h;cases kvs with|nil=>rfl|cons _ _=>simp at h
 |cons x r b =>
  intro kvs h
  cases kvs with
  |nil=>simp at h
  |cons y m =>
   simp only[ja,vk]at h;by_cases e:y.1=k
   ·have a:x.1=k:=by rw[<-h.1];exact e
    simp[dD,bF,jf,e,a]
   ·have a:¬x.1=k:=by rw[<-h.1];exact e
    rw[lQ e,b h.2];simp[bF,jf,a]
theorem CS{kvs:List (List aW×V)}{k:List aW}{v:V}(h:dD kvs k=none):e7 kvs k v=kvs++[(k,v)]:=by
 unfold e7;rw[ws,h];rfl
section
variable {K:Fg1}{Hf Hn:Hp}
theorem Md(F:Hn l=some (.lst xs))(G:Dn K Hf d y):∀{gd:GD}{kvs:List (List aW×V)},kvs.map Prod.fst=gd.map Prod.fst->(kvs.map Prod.snd).Nodup->dD kvs k=some (.ref l)->Paired (λds v=>∃l xs,v=.ref l/\Hn l=some (.lst xs)/\aZ K Hf ds xs) (gd.map Prod.snd) (kvs.map Prod.snd) →
  Paired (λds v=>∃f c,v=.ref f/\aG Hn l (.lst (xs++[y])) f=some (.lst c)/\aZ K Hf ds c) ((iD k d gd).map Prod.snd) (kvs.map Prod.snd):=by
 intro gd
 induction gd with
 |nil=>intro kvs h _ g _;cases kvs with|nil=>cases g|cons _ _=>simp at h
 |cons x r H =>
  intro kvs h n g A
  cases kvs with
  |nil=>simp at h
  |cons z m =>
   simp only[ja,vk]at h;rw[ja,uf]at n;rw[ja,ja]at A
   cases A with
   |cons C E =>
    have j:∀{a:List (List D)} {b:List V},(.ref l) ∉ b->Paired (λds v=>∃l xs,v=.ref l/\Hn l=some (.lst xs)/\aZ K Hf ds xs) a b->Paired (λds v=>∃f c,v=.ref f/\aG Hn l (.lst (xs++[y])) f=some (.lst c)/\aZ K Hf ds c) a b:=by
     intro a b B q
     induction q with
     |nil=>exact .nil
     |cons I J u =>
      obtain⟨f,c,e1,e2,i⟩:=I;refine .cons ⟨f,c,e1,?_,i⟩ (u λw=>B (la _ w));rw[aK (λw=>B (by rw[e1,w];exact va))];exact e2
    unfold iD;by_cases e:x.1=k
    ·have s:z.1=k:=by rw[h.1];exact e
     rw[mJ s]at g;have hz:z.2=.ref l:=lc g;rw[da e,ja,ja];obtain⟨f,c,e1,e2,i⟩:=C;rw[hz]at e1;cases e1;rw[F]at e2;cases e2;refine .cons ⟨l,_,hz,bi,i.zsnoc G⟩ (j (by rw[<-hz];exact n.1) E)
    ·have s:¬z.1=k:=by rw[h.1];exact e
     rw[lQ s]at g;rw[qa e,ja,ja];obtain⟨f,c,e1,e2,i⟩:=C
     have hm:(.ref l)∈m.map Prod.snd:=by
      unfold dD at g;have⟨w,o,p⟩:=lb.mp g;rw[<-p];exact ar (mn o)
     refine .cons ⟨f,c,e1,?_,i⟩ (H h.2 n.2 g E);rw[aK (λw=>n.1 (by rw[e1,w];exact hm))];exact e2
end
section
variable {X:Cx}{B:Bs}{j:Nat}{Hf Hf' H H' Hn:Hp}{ρ:ao}{σ:St}{gd:GD}
theorem GS.app(I:GS X B j Hf ρ σ H gd Hn)(e:σ[j]?=some (some (.ref p)))(f:Hn p=some (.dT kvs))(x:dD kvs k=some (.ref l))(m:Hn l=some (.lst xs))(A:Dn X.K Hf d y):GS X B j Hf ρ σ (aG H l (.lst (xs++[y]))) (iD k d gd) (aG Hn l (.lst (xs++[y]))):=by
 have hn:Hn l≠none:=by rw[m];exact λz=>nomatch z
 have g:p≠l:=λz=>by rw[z,m]at f;cases f
 refine⟨I.vi.offH (λi sl h o z=>by have:=I.no i sl h;rw[o]at this;cases this) (I.fr l hn).1 (I.fr l hn).2,I.nj,λb u z=>?_,λb ys z=>?_,λb a=>?_,I.no,?_⟩
 ·by_cases a:b=l
  ·subst a;rw[bi]at z ⊢;exact z
  ·rw[aK a]at z ⊢;exact I.nh b u z
 ·by_cases a:b=l
  ·subst a;rw[bi]at z;cases z
  ·rw[aK a]at z;exact I.nt b ys z
 ·by_cases c:b=l
  ·rw[c];exact I.fr l hn
  ·rw[aK c]at a;exact I.fr b a
 ·have⟨C,n,q,r,s,v,w⟩:=I.ex
  rw[e]at q;cases q;rw[f]at r;cases r;exact⟨p,kvs,e,by rw[aK g];exact f,by rw[xL];exact s,v,Md m A s v x w⟩
theorem GS.new(I:GS X B j Hf ρ σ H gd Hn)(s:σ[j]?=some (some (.ref p)))(x:Hn p=some (.dT kvs))(hl:H l=none):GS X B j Hf ρ σ (aG (aG H l (.lst [])) p (.dT (kvs++[(k,.ref l)]))) (gd++[(k,[])]) (aG (aG Hn l (.lst [])) p (.dT (kvs++[(k,.ref l)]))):=by
 have hn:Hn p≠none:=by rw[x];exact λz=>nomatch z
 have y:p≠l:=λz=>by have:=I.nh p _ x;rw[z,hl]at this;cases this
 have n:Hn l=none:=I.nh.free hl;have O:=I.ext (Ex.made (o:=.lst []) I.vi.fh hl);refine⟨O.vi.offH (λi sl h o z=>by have:=I.no i sl h;rw[o]at this;cases this) (I.fr p hn).1 (I.fr p hn).2,I.nj,λb u z=>?_,λb ys z=>?_,λb g=>?_,I.no,?_⟩
 ·by_cases g:b=p
  ·subst g;rw[bi]at z ⊢;exact z
  ·rw[aK g]at z ⊢
   by_cases d:b=l
   ·subst d;rw[bi]at z ⊢;exact z
   ·rw[aK d]at z ⊢;exact I.nh b u z
 ·by_cases g:b=p
  ·subst g;rw[bi]at z;cases z
  ·rw[aK g]at z
   by_cases d:b=l
   ·subst d;rw[bi]at z;cases z
   ·rw[aK d]at z;exact I.nt b ys z
 ·by_cases r:b=p
  ·rw[r];exact I.fr p hn
  ·rw[aK r]at g
   by_cases d:b=l
   ·rw[d];exact⟨I.vi.fh.free hl,I.vi.ex.hh.free hl⟩
   ·rw[aK d]at g;exact I.fr b g
 ·have⟨R,C,E,F,M,N,G⟩:=I.ex
  rw[s]at E;cases E;rw[x]at F;cases F
  have hm:∀v∈kvs.map Prod.snd,∃f c,v=.ref f/\Hn f=some (.lst c):=by
   have:∀{a:List (List D)} {b:List V},Paired (λds v=>∃l xs,v=.ref l/\Hn l=some (.lst xs)/\aZ X.K Hf ds xs) a b->∀v∈b,∃f c,v=.ref f/\Hn f=some (.lst c):=by
    intro a b q
    induction q with
    |nil=>intro v hv;cases hv
    |cons P T Q =>
     intro v hv;obtain⟨f,c,e1,e2,_⟩:=P;rcases pb.mp hv with rfl|hv
     ·exact⟨f,c,e1,e2⟩
     ·exact Q v hv
   exact this G
  refine⟨p,_,s,bi,by rw[db,db,M];rfl,?_,?_⟩
  ·rw[db,ke]
   refine⟨N,by simp,λv hv w A e=>?_⟩;have⟨f,c,e1,e2⟩:=hm v hv;simp at A;rw[e,A]at e1;cases e1;rw[n]at e2;cases e2
  ·rw[db,db]
   refine(G.zmap λds v ⟨f,c,J,m,L⟩=>⟨f,c,J,?_,L⟩).zsnoc ⟨l,[],rfl,by rw[aK y.symm,bi],.nil⟩;rw[aK (λw=>by rw[w,x]at m;cases m),aK (λw=>by rw[w,n]at m;cases m)];exact m
end
def j7(gd:GD)(k:List aW)(d:D):GD:=iD k d (eY gd k)
def nC(fk:ao->Option D):GG:=λρ gd=>(fk ρ).bind λa=>(kB a).bind λk=>if gd.length<100000 then some (ρ,eY gd k) else none
def jL(fk fv:ao->Option D):GG:=λρ gd=>(fk ρ).bind λa=>(kB a).bind λk=>(fv ρ).bind λd=>if gd.length<100000/\(gd.all λx=>decide (x.2.length<100000))=true then some (ρ,j7 gd k d) else none
def tS(i:Nat)(fe:ao->Option D):GG:=λρ gd=>(fe ρ).map λd=>(ρ.set i (some (.sh d)),gd)
def o5:GG:=λρ gd=>some (ρ,gd)
def o7(g h:GG):GG:=λρ gd=>(g ρ gd).bind λz=>h z.1 z.2
def o8(ft:ao->Option Bool)(g h:GG):GG:=λρ gd=>(ft ρ).bind λb=>if b=true then g ρ gd else h ρ gd
def jM(gt:D->ao->Option ao)(f:GG):List D->GG
 |[],ρ,gd=>some (ρ,gd)
 |d::r,ρ,gd=>(gt d ρ).bind λρ1=>(f ρ1 gd).bind λz=>jM gt f r z.1 z.2
def j8(fi:ao->Option (List D))(gt:D->ao->Option ao)(f:GG):GG:=λρ gd=>(fi ρ).bind λds=>jM gt f ds ρ gd
theorem CT:∀{l:List α}{r:List β},Paired F l r->∀y∈r,∃x∈l,F x y
 |_,_,.nil,y,h=>by cases h
 |_,_,.cons p q,y,h=>by
  rcases pb.mp h with rfl|h
  ·exact⟨_,va,p⟩
  ·have⟨x,a,b⟩:=CT q y h
   exact⟨x,la _ a,b⟩
theorem Me{kvs:List (List aW×V)}{k:List aW}{v:V}(h:dD kvs k=some v):v∈kvs.map Prod.snd:=by
 unfold dD at h;have⟨w,a,b⟩:=lb.mp h;rw[<-b];exact ar (mn a)
theorem Mf{kvs:List (List aW×V)}{k:List aW}{v:V}(h:dD kvs k=none):dD (kvs++[(k,v)]) k=some v:=by
 induction kvs with
 |nil=>exact mJ rfl
 |cons x r a =>
  by_cases e:x.1=k
  ·rw[mJ e]at h;cases h
  ·rw[lQ e]at h
   rw[wf,lQ e];exact a h
section
variable {X:Cx}{B:Bs}{j:Nat}{pos:Pos}{key v:Expr}{fk fv:ao->Option D}
theorem Mg (T:aM n X.A) (U:X.N[j]?=some x) (Y:PE X key (eB X.K B fk)) (m:M2 X (.Name x p1) "setdefault" p2 key (.List [] p3) p4) (r:gB X.env.scope x:=by first|exact cb rfl|exact mf (cb rfl)|exact mf (mf rfl)) (Z:(x == ("__debug__" : Str))=false:=by decide) (F:(x == ("__classdict__" : Str))=false:=by decide)
  (hs:swapsWith (.Call (.Attribute (.Name x p1) "setdefault" p2) [key,.List [] p3] [] p4) none pos.line X.env=pure false:=by rfl) :
  PS X (.Expr (.Call (.Attribute (.Name x p1) "setdefault" p2) [key,.List [] p3] [] p4) pos) (sG X B j (nC fk)) :=
 (oq (CP (by have:=T.units;omega) (fN U r Z F) Y (r4 jt) m) hs).imp λD G H ⟨Hf,ρ,gd,L,ρ',M,N,d,q⟩=>by
  have⟨Q,v,d⟩:=bind_some d;have⟨k,z,d⟩:=bind_some d
  split at d
  ·rename_i I
   cases d;have⟨p,kvs,h,C,J,h4,h5⟩:=N.ex
   refine⟨_,h,p,rfl,.inr ⟨kvs,.inl (N.nh _ _ C)⟩,Hf,ρ,Q,N.vi,v,λg O y a P=>⟨be _,λl hl=>?_⟩⟩;have u:=N.ext a;obtain⟨b,rfl,R⟩:=sN P z;have i:O p=some (.dT kvs):=u.nh _ _ C;have o:=a.fh _ _ R;have E:kvs.length=gd.length:=by rw[<-ba (f:=Prod.fst),J,ba]
   have c:=CQ (k:=k) J;refine⟨b,kvs,k,rfl,by rw[aK (cC i hl)];exact i,by rw[aK (cC o hl)];exact o,by rw[E];exact lB (by omega),λw s=>?_,λs=>?_⟩
   ·rw[s]at c
    have e:eY gd k=gd:=by unfold eY;exact da c.symm
    rw[e]at q;exact q g G _ L a.ff (u.ext (Ex.made u.vi.fh hl))
   ·rw[s]at c
    have e:eY gd k=gd++[(k,[])]:=by unfold eY;rw[qa (by rw[<-c];decide)]
    rw[e]at q;rw[CS s];exact q g G _ _ a.ff (u.new h C hl)
  ·cases d
theorem CU {n:Nat}{x:Str}{M O P Q p5 R:Pos} (hr:aM n X.A) (hN:X.N[j]?=some x) (hk:PE X key (eB X.K B fk)) (hv:PE X v (eV X.K B fv)) (m:M2 X (.Name x M) "setdefault" O key (.List [] P) Q) (Z:gB X.env.scope x:=by first|exact cb rfl|exact mf (cb rfl)|exact mf (mf rfl)) (hd:(x == ("__debug__" : Str))=false:=by decide) (hcd:(x == ("__classdict__" : Str))=false:=by decide)
  (J:attributeBase (.Call (.Attribute (.Name x M) "setdefault" O) [key,.List [] P] [] Q) "append" X.env (eval (.Call (.Attribute (.Name x M) "setdefault" O) [key,.List [] P] [] Q) X.env)=eval (.Call (.Attribute (.Name x M) "setdefault" O) [key,.List [] P] [] Q) X.env:=by rfl)
  (hfew:((backTo R (starEach [v] X.env)).all (λx=>!x.1) && (backToKw R (keywordEach [] X.env)).all (λx=>x.1.isSome) && decide ([v].length+([]:List Keyword).length+(if ([]:List Keyword).isEmpty then 0 else 1)<30))=true:=by rfl)
  (L:(p5.endLine == R.line)=true:=by rfl) (hst:starEach [v] X.env=(false,eval v X.env)::starEach [] X.env:=by rfl) (r:(backTo R (starEach [] X.env)).any (·.1)=false:=by rfl)
  (hs:swapsWith (.Call (.Attribute (.Call (.Attribute (.Name x M) "setdefault" O) [key,.List [] P] [] Q) "append" p5) [v] [] R) none pos.line X.env=pure false:=by rfl) :
  PS X (.Expr (.Call (.Attribute (.Call (.Attribute (.Name x M) "setdefault" O) [key,.List [] P] [] Q) "append" p5) [v] [] R) pos) (sG X B j (jL fk fv)) :=
 (oq (vC PySem.F.plainAttrs_list PySem.F.slot_list_append PySem.F.type_list_append AO (CP (by have:=hr.units;omega) (fN hN Z hd hcd) hk (r4 jt) m) (g9 hv jt hst) J hfew L hst r) hs).imp λD σ H ⟨Hf,ρ,gd,Hn,ρ',gd',N,c,q⟩=>by
  have⟨kd,hk0,c⟩:=bind_some c;have⟨k,hk1,c⟩:=bind_some c;have⟨d,eg,c⟩:=bind_some c
  split at c
  ·rename_i hc
   cases c;have⟨p,kvs,h,hp,h3,h4,h5⟩:=N.ex
   refine⟨_,h,p,rfl,.inr ⟨kvs,.inl (N.nh _ _ hp)⟩,Hf,ρ,kd,N.vi,hk0,λT H1 y g dy=>⟨be _,λl hl=>?_⟩⟩;have N1:=N.ext g;obtain⟨b,rfl,hb⟩:=sN dy hk1;have G:H1 p=some (.dT kvs):=N1.nh _ _ hp;have U:=g.fh _ _ hb;have hkl:kvs.length=gd.length:=by rw[<-ba (f:=Prod.fst),h3,ba]
   have i:=CQ (k:=k) h3;refine⟨b,kvs,k,rfl,by rw[aK (cC G hl)];exact G,by rw[aK (cC U hl)];exact U,by rw[hkl];exact lB (by omega),λw s=>?_,λs=>?_⟩
   ·rw[s]at i
    have e:eY gd k=gd:=by unfold eY;exact da i.symm
    unfold j7 at q;rw[e]at q;have I:=N1.ext (Ex.made (o:=.lst []) N1.vi.fh hl);obtain⟨ds,hds,l',xs,rfl,E,dx⟩:=CT h5 w (Me s);refine⟨.inl ⟨rfl,xs,bJ.of (I.nh _ _ E)⟩,T,ρ,d,I.vi,eg,λu H2 y a C=>?_⟩;have Y:=I.ext a;refine⟨xs,Y.nh _ _ E,?_,q u σ _ _ (g.ff.trans a.ff) (Y.app h hp s E C)⟩;obtain⟨z,hz,rfl⟩:=gb.mp hds
    have:=bc (vc.mp hc.2 z hz)
    rw[<-dx.length];exact lB (by omega)
   ·rw[s]at i
    have e:eY gd k=gd++[(k,[])]:=by unfold eY;rw[qa (by rw[<-i];decide)]
    unfold j7 at q;rw[e]at q;rw[CS s];have I:=N1.new (k:=k) h hp hl;have hpl:p≠l:=cC G hl;have E:(aG (aG Hn l (.lst [])) p (.dT (kvs++[(k,.ref l)]))) l=some (.lst []):=by rw[aK hpl.symm,bi]
    refine⟨.inl ⟨rfl,[],bJ.of (I.nh _ _ E)⟩,T,ρ,d,I.vi,eg,λu H2 y a C=>?_⟩;have Y:=I.ext a;exact⟨[],Y.nh _ _ E,lB (by decide),q u σ _ _ (g.ff.trans a.ff) (Y.app h bi (Mf s) E C)⟩
  ·cases c
variable {g h:GG}{st:Stmt}{rest as bs:List Stmt}{ft:ao->Option Bool}{fe:ao->Option D}
theorem tT(h:PS X st (sG X B j g)):bT X [st] (sG X B j g):=pO h
theorem Mh:bT X [] (sG X B j o5):=n9.imp λD a H ⟨Hf,ρ,gd,b,ρ',c,N,d,q⟩=>by
 cases d;exact q Hf a H b (aS.refl _) N
theorem CV(u:PS X st (sG X B j g))(v:bT X rest (sG X B j h)):bT X (st::rest) (sG X B j (o7 g h)):=(g7 u v).imp λD w H ⟨Hf,ρ,gd,l,ρ',a,N,b,q⟩=>by
 have⟨z,hz,b⟩:=bind_some b;exact⟨Hf,ρ,gd,l,z.1,z.2,N,hz,λc m x d n o=>⟨c,z.1,z.2,d,ρ',a,o,b,λe f p i r s=>q e f p i (n.trans r) s⟩⟩
theorem Mi(v:PT X c (tV X.K B ft))(w:bT X as (sG X B j g))(x:bT X bs (sG X B j h)):PS X (.If c as bs pos) (sG X B j (o8 ft g h)):=(u9 v w x).imp λD y H ⟨Hf,ρ,gd,s,ρ',l,N,i,q⟩=>by
 have⟨b,r,i⟩:=bind_some i;refine⟨Hf,ρ,b,N.vi,r,λm z a=>?_⟩;have u:=N.ext a
 cases b with
 |true =>
  rw[da rfl]at i;show if true=true then _ else _
  rw[da rfl];exact⟨m,ρ,gd,s,ρ',l,u,i,λd e n f o p=>q d e n f (a.ff.trans o) p⟩
 |false =>
  rw[qa ma]at i;show if false=true then _ else _
  rw[qa ma];exact⟨m,ρ,gd,s,ρ',l,u,i,λd e n f o p=>q d e n f (a.ff.trans o) p⟩
theorem GS.set(N:GS X B j Hf ρ σ H gd Hn)(a:i≠j)(c:Dn X.K Hf d w):GS X B j Hf (ρ.set i (some (.sh d))) (σ.set i (some w)) H gd Hn:=by
 refine⟨N.vi.set c,by rw[ua a];exact N.nj,N.nh,N.nt,N.fr,o3 (i:=i) d ρ _ rfl N.no,?_⟩
 ·have⟨p,kvs,b,r⟩:=N.ex
  exact⟨p,kvs,by rw[ua a];exact b,r⟩
theorem Mj(f:i≠j)(g:X.N.Nodup)(o:X.N[i]?=some y)(p:jr X.env.scope y)(r:PE X e (eV X.K B fe))(hs:swapsWith e (some (.Name y pos')) pos.line X.env=pure false:=by rfl)(s:X.fn y=true\/X.env.scope.names.lookup y=some .local:=by first|exact .inl rfl|exact .inr rfl|assumption):PS X (.Assign [.Name y pos'] e pos) (sG X B j (tS i fe)):=(lL g o p r hs s).imp λD u H ⟨Hf,ρ,gd,h,ρ',l,N,b,q⟩=>by
 have⟨d,eg,b⟩:=lb.mp b;cases b;exact⟨Hf,ρ,d,N.vi,eg,λc m w a n=>q c _ m h a.ff ((N.ext a).set f n)⟩
variable {tg iter:Expr}{fi:ao->Option (List D)}{gt:D->ao->Option ao}{sl:List Nat}
theorem xM(hp:PassesOwn (model X.prog X.w) X.A X.env X.xe)(hc:X.calm=true)(hi:PI X tg iter (iV X.K B fi))(hg:PG X tg (gV X.K B sl gt))(hj:j ∉ sl)(Z:∀d ρ ρ1,gt d ρ=some ρ1->ρ1[j]?=ρ[j]?)(hno:∀d ρ ρ1,gt d ρ=some ρ1->(∀(i:Nat) s,ρ[i]?=some (some s)->dG s=false)->∀(i:Nat) s,ρ1[i]?=some (some s)->dG s=false)(hb:bT X body (sG X B j g))(hs:∀x,foldedSetIterable iter X.env x=pure x:=by intro _;rfl):PS X (.For tg iter body [] pos) (sG X B j (j8 fi gt g)):=(vu hp hc hi hg hb hs).imp λD σ H ⟨Hf,ρ,gd,Hn,ρ',G,N,o,q⟩=>by
 have⟨ds,e,o⟩:=bind_some o;refine⟨Hf,ρ,ds,N.vi,e,λJ u H1 I ok=>?_⟩;refine⟨λi m σ H=>m=ds.length - i/\i<=ds.length/\∃a f h l,GS X B j a f σ H h l/\aS u a/\jM gt g (ds.drop i) f h=some (ρ',G),⟨ds.length,by simp,be _,u,ρ,gd,Hn,N.ext I,aS.refl _,o⟩,?_⟩;rintro i m U H2 ⟨rfl,hi,a,f,h,l,Q,n,c⟩;have M:=ok a H2 (n.trans Q.vi.fh) n Q.vi.fh i;by_cases F:i<ds.length
 ·obtain⟨go,Y⟩:=M.1 ds[i] (by simp[F])
  refine .inr ⟨go,λv H'=>∃b O P Hn3,GS X B j b O v H' P Hn3/\aS u b/\jM gt g (ds.drop (i+1)) O P=some (ρ',G),λv H' z=>⟨ds.length - (i+1),by omega,rfl,F,z⟩,λx H3 y=>?_⟩;have⟨b,L,dx⟩:=Y x H3 y;rw[jd F]at c;unfold jM at c;have⟨ρ1,C,c⟩:=bind_some c;have⟨z,hz,c⟩:=bind_some c;have E:=Q.ext L;refine⟨b,f,_,ρ1,E.vi,dx,C,λv I' _ hk=>⟨b,ρ1,h,l,z.1,z.2,⟨I',(Z _ _ _ C).trans E.nj,E.nh,E.nt,E.fr,hno _ _ _ C E.no,?_⟩,hz,λR σ'' H'' T sm N'=>⟨R,z.1,z.2,T,N',(n.trans L.ff).trans sm,c⟩⟩⟩;have⟨p,xs,h1,r⟩:=E.ex;exact⟨p,xs,(hk j hj).trans h1,r⟩
 ·have e:i=ds.length:=by omega
  subst e;rw[xh]at c;unfold jM at c;cases c;exact .inl ⟨M.2 (bb _),q a U H2 l (I.ff.trans n) Q⟩
def mj(j:Nat)(g:GG):ao->aT:=λρ=>match ρ[j]? with
 |some none=>if (ρ.all λs=>match s with|some sl=>!dG sl|none=>true)=true then (match g ρ [] with|some z=>.rt (.dt (z.2.map Prod.fst) (z.2.map λx=>.lst x.2))|none=>.bad) else .bad
 |_=>.bad
theorem CW(hNd:X.N.Nodup)(hN:X.N[j]?=some x)(hx:jr X.env.scope x)(h2:PS X s2 (sG X B j g))
  (hs:swapsWith (.Dict [] [] q1) (some (.Name x q2)) q3.line X.env=pure false:=by rfl) (hf:X.fn x=true\/X.env.scope.names.lookup x=some .local:=by first|exact .inl rfl|exact .inr rfl|assumption)
  (hvis:gB X.env.scope x:=by first|exact cb rfl|exact mf (cb rfl)|exact mf (mf rfl)) (hd:(x == ("__debug__" : Str))=false:=by decide) (hcd:(x == ("__classdict__" : Str))=false:=by decide) :
  bT X [.Assign [.Name x q2] (.Dict [] [] q1) q3,s2,.Return (some (.Name x p2)) pos'] (sV X.K B (mj j g)) :=
 (g7 (lL hNd hN hx A7 hs hf) (g7 h2 (pO (rV (fN hN hvis hd hcd))))).imp λD σ H ⟨Hf,ρ,I,q⟩=>by
  unfold mj at q
  split at q
  ·rename_i hj
   split at q
   ·rename_i hall
    split at q
    ·rename_i z hz
     intro a ha;have hjl:j<σ.length:=by rw[<-I.len];exact(ya.mp hj).1
     have I1:VI X.K B Hf ρ (σ.set j (some (.ref a))) (aG H a (.dT [])):=(I.setU hj).ext (Ex.made I.fh ha)
     have hno:∀(i:Nat) sl,ρ[i]?=some (some sl)->dG sl=false:=λi sl h=>by
      have:=vc.mp hall _ (je h)
      simpa using this
     refine⟨Hf,ρ,[],aG xJ a (.dT []),z.1,z.2,⟨I1,hj,LY bi,λb xs h=>?_,λb hb=>?_,hno,a,[],by rw[ac hjl],bi,rfl,ji,.nil⟩,hz,λHf' σ' H' Hn' sm N'=>?_⟩
     ·by_cases hb:b=a
      ·subst hb;rw[bi]at h;cases h
      ·rw[aK hb]at h;cases h
     ·rw[LZ hb];exact⟨I.fh.free ha,I.ex.hh.free ha⟩
     ·have⟨p,kvs,h1,h2,h3,h4,h5⟩:=N'.ex
      have jr0:=CG N'.vi.fh (CH.trans N'.nh);have jl:∀b xs,Hn' b=some (.lst xs)->jn Hf' (iA Hn') b=some (.lst xs):=λb xs e=>jr0 _ _ (LU e)
      refine⟨_,h1,q (jn Hf' (iA Hn')) H' _ ⟨N'.vi.ex.ff.trans xI,N'.vi.ex.hh,CF N'.vi.fh (CH.trans N'.nh),λb hb=>?_,λb o u h=>N'.vi.ex.nf b o u (LX h)⟩ ?_⟩
      ·rcases CI hb with w|w
       ·exact N'.vi.ex.nw b w
       ·exact .inr (.inl (N'.fr b (LT w)).2)
      ·refine wz (jr0 _ _ (LW h2)) h3 ?_
       have:∀{a:List (List L2.D)} {b:List V},Paired (λds v=>∃l xs,v=.ref l/\Hn' l=some (.lst xs)/\aZ X.K Hf' ds xs) a b->aZ X.K (jn Hf' (iA Hn')) (a.map L2.D.lst) b:=by
        intro a b pr
        induction pr with
        |nil=>exact .nil
        |cons r t ih =>
         obtain⟨l,xs,rfl,e2,e3⟩:=r;exact .cons (hW (bJ.of (jl _ _ e2)) (e3.same xI)) ih
       have e:=this h5;rw[jc]at e;exact e
    ·exact q.elim
   ·exact q.elim
  ·exact q.elim
end
noncomputable def kM(e:D):List D->Nat->Option Nat
 |[],_=>none
 |d::r,n=>if bG d e=true then some n else kM e r (n+1)
theorem CY:∀{ds:List D}{n j:Nat},kM e ds n=some j->n<=j/\(∃d,ds[j - n]?=some d/\bG d e=true)/\∀m d,m<j - n->ds[m]?=some d->bG d e=false
 |[],n,j,h=>by cases h
 |d::r,n,j,h=>by
  unfold kM at h
  split at h
  ·rename_i b
   cases h;exact⟨bb _,⟨d,by rw[vj];rfl,b⟩,λm d' hm=>by omega⟩
  ·rename_i b
   have⟨l,⟨c,f,g⟩,i⟩:=CY h;refine⟨by omega,⟨c,?_,g⟩,λm d' hm a=>?_⟩
   ·rw[show j - n=(j - (n+1))+1 by omega,wc];exact f
   ·cases m with
    |zero=>cases a;exact ge.mpr b
    |succ m=>rw[wc]at a;exact i m d' (by omega) a
def CZ(K:Fg1)(k:Nat):V->List V->Hp->VK->Prop:=λx vs H Q=>∃p xs ds e y j,x=.ref p/\vs=[y]/\bJ K H p xs/\c6 K H k e y/\Paired (c6 K H k) ds xs/\(∃d,ds[j]?=some d/\bw k d e=true)/\(∀m d,m<j->ds[m]?=some d->bw k d e=false)/\Q (.int ((j:Nat):Int)) H
section
variable {X:Cx}{B:Bs}
theorem o9:∀{l:List α}{r:List β},Paired F l r->∀{j:Nat}{a:α},l[j]?=some a->∃b,r[j]?=some b/\F a b
 |_,_,.nil,j,a,e=>by simp at e
 |_,_,.cons p q,0,a,e=>by simp at e;subst e;exact⟨_,rfl,p⟩
 |_,_,.cons p q,j+1,a,e=>by
  rw[wc]at e;have⟨b,c,d⟩:=o9 q e;exact⟨b,by rw[wc];exact c,d⟩
theorem tU(k:Nat){n:Nat}(hr:aM n X.A)(hk:k<=9):gG X "list.index" (CZ X.K k):=by
 intro G s σ H x vs v us Q I O P h;obtain⟨p,xs,ds,e,y,j,rfl,rfl,R,T,U,⟨d0,Y,Z⟩,h3,q⟩:=h;cases O;obtain⟨u,rfl,ru⟩:=P.one;have⟨a,r,pl,hz⟩:=I.list R;have l:=I.dens U r;have hv:=I.den T ru;have hu:=hr.units;have⟨w0,b,z⟩:=o9 l Y;have C:j<a.length:=(ya.mp b).1;have hl:a.length=xs.length:=r.length.symm;have hsz:=mC;have⟨⟨cls,dd,J,sl⟩,L,M,c,d⟩:=pl.isList;simp only at M d;subst M d;refine cm PySem.F.slot_list_index ⟨_,L,rfl⟩ PySem.F.entry_list_index (PySem.F.args_list_index_2 _ _) (SeqAt.list_indexAt p a.toArray c dd sl u (eR s.heap k e) j (by simpa using C) (by omega) ?_ λm hm o=>?_) ⟨L,λw N=>mV (A:=X.A.in1) hv (by show X.A.units+1+k<cLine;omega) l w (by simpa using N),.int ((j:Nat):Int),H,I.tok _,⟨_,rfl⟩,q⟩
 ·have E:a.toArray[j]'(by simpa using C)=w0:=by
   have:=zc C
   rw[this]at b
   simpa using b
  rw[E,p9 z];exact Z
 ·have g:m<a.length:=by simpa using hm
  have i:m<ds.length:=by rw[l.length];exact g
  have⟨w1,f,B⟩:=o9 l (zc i)
  have E:a.toArray[m]=w1:=by
   have:=zc g
   rw[this]at f
   simpa using f
  rw[E,p9 B];exact h3 m _ o (zc i)
def fK(d:D)(es:List D):Option D:=match d,es with
 |.lst ds,[e]=>if bE LV e && ds.all (bE LV) then (kM e ds 0).map λj=>.int ((j:Nat):Int) else none
 |_,_=>none
theorem tW{K:Fg1}:PM K "list" (CZ K LV) fK:=by
 intro Hf H x xs d ds z Q s c f hz q;unfold fK at hz
 split at hz
 ·rename_i es e
  split at hz
  ·rename_i g
   rw[jb]at g
   cases i:kM e es 0 with
   |none=>rw[i]at hz;cases hz
   |some j =>
    rw[i]at hz;cases hz;obtain⟨y,rfl,a⟩:=f9 f;obtain⟨p,ys,rfl,n,b⟩:=c.lst s;have a:=(a.whole s).at g.1;have b:=(b.same s).at g.2;have⟨_,⟨o,l,r⟩,u⟩:=CY i;refine⟨p,ys,es,e,y,j,rfl,rfl,n,a,b,⟨o,l,?_⟩,λm d hm c=>?_,q Hf H _ (.refl s) (cE rfl)⟩
    ·have⟨v,_,h⟩:=o9 b l
     rw[lr h a];exact r
    ·have⟨v,_,h⟩:=o9 b c
     rw[lr h a];exact u m d (by omega) c
  ·cases hz
 ·cases hz
end
def C0(K:Fg1)(k:Nat):V->List V->Hp->VK->Prop:=λx vs H Q=>∃p xs ds e y,x=.ref p/\vs=[y]/\bJ K H p xs/\c6 K H k e y/\Paired (c6 K H k) ds xs/\Q (.int ((ds.countP λd=>bw k d e:Nat):Int)) H
theorem C1{c d:Type}{F:c->d->Prop}{f:c->Bool}{g:d->Bool}(h:∀a b,F a b->g b=f a):∀{l:List c}{r:List d},Paired F l r->r.countP g=l.countP f
 |_,_,.nil=>rfl
 |_,_,.cons p q=>by rw[List.countP_cons,List.countP_cons,C1 h q,h _ _ p]
section
variable {X:Cx}{B:Bs}
theorem Ml(k:Nat){n:Nat}(T:aM n X.A)(hk:k<=9):gG X "list.count" (C0 X.K k):=by
 intro l s U H x vs v Y Q I C E h;obtain⟨p,xs,ds,e,y,rfl,rfl,G,J,L,q⟩:=h;cases C;obtain⟨u,rfl,M⟩:=E.one;have⟨f,r,N,hz⟩:=I.list G;have z:=I.dens L r;have P:=I.den J M;have Z:=T.units;have R:(f.countP (eR s.heap k e))=ds.countP λd=>bw k d e:=C1 (λa b j=>p9 j) z
 have⟨⟨O,dd,m,sl⟩,o,g,c,i⟩:=N.isList;simp only at g i;subst g i;refine cm PySem.F.slot_list_count ⟨_,o,rfl⟩ PySem.F.entry_list_count (PySem.F.args_list_count_2 _ _) (SeqAt.list_countAt p f.toArray c dd sl u (eR s.heap k e)) ⟨o,λw B=>mV (A:=X.A.in1) P (by show X.A.units+1+k<cLine;omega) z w (by simpa using B),.int ((f.countP (eR s.heap k e):Nat):Int),H,I.tok _,⟨_,rfl⟩,by rw[R];exact q⟩
def tX(d:D)(es:List D):Option D:=match d,es with
 |.lst ds,[e]=>if bE LV e && ds.all (bE LV) then some (.int ((ds.countP λd=>bG d e:Nat):Int)) else none
 |_,_=>none
theorem Mm{K:Fg1}:PM K "list" (C0 K LV) tX:=by
 intro Hf H x xs d ds z Q s c f hz q;unfold tX at hz
 split at hz
 ·rename_i es e
  split at hz
  ·rename_i g
   rw[jb]at g;cases hz;obtain⟨y,rfl,a⟩:=f9 f;obtain⟨p,ys,rfl,j,b⟩:=c.lst s;have a:=(a.whole s).at g.1;have b:=(b.same s).at g.2;refine⟨p,ys,es,e,y,rfl,rfl,j,a,b,?_⟩
   have h:(es.countP λd=>bw LV d e)=es.countP λd=>bG d e:=List.countP_congr λd c=>by
    have⟨i,l⟩:=pq c;have⟨v,_,m⟩:=o9 b l;rw[lr m a]
   rw[h];exact q Hf H _ (.refl s) (cE rfl)
  ·cases hz
 ·cases hz
end
def xN(Y:Cx)(W:XK):Value->Shared->Prop:=λv s'=>∃e C dx fs H1 a,v=.ref e/\aw Y [] a H1 s'/\H1 e=some (.ext (dq e C dx))/\H1 dx=some (.ext (eF dx fs))/\dx≠e/\jy s'.heap e/\W v (some dx) H1
def C2(X:Cx)(W:XK):Prop:=∀e C dx fs H1 a s',aw X [] a H1 s'->H1 e=some (.ext (dq e C dx))->H1 dx=some (.ext (eF dx fs))->dx≠e->(jy s'.heap e\/∃T L,oG s'.heap e L T/\X.s₀.heap.objs.size<=T/\H1 T=none)->W (.ref e) (some dx) H1->X.xe (.ref e) s'
theorem Mn{Y:Cx}{W:XK}:ox (cG Y.prog Y.w) (Y.wish (xN Y W)) W:=by
 intro d f l m v n I ⟨e,C,dx,fs,H',g,os,a,un,b,h,i,j,c,q⟩;subst g;exact⟨e,C,dx,fs,H',f,rfl,s0 (I.unwish.call' (ch:=[]) os un b a (λ_ z=>nomatch z)),i,j,c,h,q⟩
theorem Mo{P:Program}{w:World}{K:Fg1}{i:Str->Option Value}{base:Heap}{N:List Str}{d:Str}{a:Scope}{f:Addr}{j:Value}{A:Around}{b:List Env}{s:Shared}{H:Hp}{E:XK}:C2 ((cP (cG P w) P w K i base N d a f j A b s H E).wish (oH (cP (cG P w) P w K i base N d a f j A b s H E) E)) E :=
 λe C dx fs l g o I m n h c q=>⟨e,C,dx,fs,l,g,rfl,I.unwish,m,n,h,.inr c,q⟩
def j9(g:D->ao->Option ao)(te gx:ao->Option D)(ρ:ao):List D->Option D
 |[]=>none
 |d::r=>(g d ρ).bind λρ1=>match gx ρ1 with|some z=>some z|none=>(te ρ1).bind λ_=>j9 g te gx ρ r
def xO(n:Nat)(cap:List Nat)(fi:ao->Option (List D))(g:D->ao->Option ao)(te gx:ao->Option D):ao->Option D :=
 λρ=>(fi ρ).bind λds=>if ds.length<=sizeLine then j9 g te gx (gl n cap ρ) ds else none
section
variable {X:Cx}{B:Bs}{W:XK}{tg iter elt:Expr}{scope:Scope}{vars:List Str}{cap sl:List Nat}{fi:ao->Option (List D)}{g:D->ao->Option ao}{te gx:ao->Option D}{pos:Pos}
theorem PE.or(h:PE X e t)(h':PE X e t'):PE X e (λσ H Q=>t σ H Q\/t' σ H Q):=λa s σ H Q I q=>q.elim (h a s σ H Q I) (h' a s σ H Q I)
theorem Mp (a:X.calm=true) (hst:X.stack=X.env::X.outer/\X.env.frame=some X.env.locals) (hpn:X.pn=[]) (hX:C2 X W) (S:cy X scope) (hcap:∀i∈cap,i<X.N.length/\scope.names.lookup (X.N.getD i "")≠some .local) (hn:cap.Nodup) (hsl:sl.all (·<vars.length)=true) (hi:PI X tg iter (iB X.K B fi))
  (hg:∀s H C ex,PG (cD X scope C vars cap s H ex) tg (gV X.K B sl g)) (he:∀s H C ex,PE (cD X scope C vars cap s H ex) elt (eV X.K B te)) (hx:∀s H C ex,PE ((cD X scope C vars cap s H ex).wish (xN (cD X scope C vars cap s H ex) W)) elt (eX X.K B W gx))
  (hs:∀x,foldedSetIterable iter X.env x=pure x:=by intro _;rfl):PE X (.ListComp elt [⟨tg,iter,[],0⟩] scope pos) (eX X.K B W (xO vars.length cap fi g te gx)):=by
 intro l s F H Q I ⟨Hf,ρ,n,ks,es,V,hz,q⟩;have⟨ds,hd,hz⟩:=bind_some hz
 split at hz
 ·rename_i hl
  rw[eval_ListComp];refine jk (use:=none) rfl hs (vG (S.cells I)) S.kind S.names ?_;refine aX (hi l s F H (λJ E=>sx J (gV X.K B sl g) (tV X.K B λ_=>some true) (λF H Q=>eV X.K B te F H Q\/eX X.K B W gx F H Q) (fF vars.length cap F) (λys H'=>ys.length<=sizeLine/\False) E) I ⟨Hf,ρ,ds,V,hd,λJ G E ex1 ok=>?_⟩) λv s1 Z=>aX Z λitv s2 h2=>?_
  ·have V1:=(V.ext ex1).comp (n:=vars.length) hn
   refine⟨λi m ys H'=>m=ds.length - i/\i<=ds.length/\ys.length<=i/\∃O,Ex G E O H'/\j9 g te gx (gl vars.length cap ρ) (ds.drop i)=some (.er n ks es),⟨ds.length,by simp,be _,bb _,G,.refl V1.fh,hz⟩,?_⟩;rintro i m ys H' ⟨rfl,hi,hyl,O,ex,a⟩;have ok:=ok O H' ex.hh ex.ff ex.fh i;by_cases U:i<ds.length
   ·obtain⟨go,yld⟩:=ok.1 ds[i] (by simp[U])
    refine .inr ⟨go,by omega,λys' H2=>ys'.length<=i+1/\∃r,Ex G E r H2/\j9 g te gx (gl vars.length cap ρ) (ds.drop (i+1))=some (.er n ks es),λys' H2 z=>⟨ds.length - (i+1),by omega,rfl,U,z⟩,λx H2 y=>?_⟩;have⟨r,ex2,dx⟩:=yld x H2 y;rw[jd U]at a;unfold j9 at a;have⟨ρ1,hg,a⟩:=bind_some a;have e2:=ex.trans ex2;refine⟨r,_,_,ρ1,V1.ext e2,dx,hg,λσ' I' hle hk=>⟨⟨hle,λj v hv=>?_⟩,r,ρ1,true,I',rfl,λHf3 H3 L=>?_⟩⟩
    ·rw[hk j λz=>?_]
     ·exact hv
     ·have hj:=vc.mp hsl j z
      have hj:j<vars.length:=by simpa using hj
      unfold fF at hv;rw[cf (by simpa using hj),cg,da hj]at hv;cases hv
    ·show if true=true then _ else _
     rw[da rfl]
     cases hx:gx ρ1 with
     |some z=>rw[hx]at a;cases a;exact .inr ⟨Hf3,ρ1,n,ks,es,I'.ext L,hx,q⟩
     |none =>
      rw[hx]at a;have⟨y,hy,a⟩:=bind_some a;exact .inl ⟨Hf3,ρ1,y,I'.ext L,hy,λHf4 H4 v ex4 dv=>⟨by simp;omega,Hf4,(e2.trans L).trans ex4,a⟩⟩
   ·have e:i=ds.length:=by omega
    subst e;rw[xh]at a;cases a
  ·obtain⟨it,fp,tn,J,H2,e,P,T,st2,f2,q2⟩:=h2
   subst e;refine vJ (xc:=λs H C ex=>xN (cD X scope C vars cap s H ex) W) (RR:=λacc C=>compPost (model X.prog X.w) X.A X.xe none (EP X l F Q) acc C) (Q:=λ_ _=>False) a S hcap P T st2 f2 hg (λ_ _ _ _=>mX) (λs H C ex=>PE.or ((he s H C ex).nox) (hx s H C ex)) ?_ q2 (λ_ _ _ _ _ _ z=>z.elim);rintro D C v s' hC ⟨e,Ce,dx,fs,E,σ1,rfl,I1,Z,h2,hne,tr,w⟩;refine BO (Y:=cD X scope C vars cap s2 H2 fp) (env0:=X.env) (out0:=X.outer) hst.1 hst.2 hpn I1 Z (.inr (.inl tr)) λs3 T M z z2 z3=>?_
   have⟨m,hm,_⟩:=id M.loc;refine⟨m,hm,λh' hh h _=>?_⟩;obtain⟨oe,vs,oT,ts,a1,a2,a3,a4,a5,R,a7⟩:=z;have lt:∀b o,s2.heap.get? b=some o->b≠C:=λb o z=>ic (ub (ib z) hC)
   have IX:aw X l F E s3:=P.call' (ch:=fp) M.os M.base M.hok M.bare λb hb=>by
    have⟨f0,f1,f2,f3,f4,f5⟩:=f2 b hb;exact⟨f3,f1,f4,f5⟩
   have hCe:e≠C:=λz=>by rw[z,show E C=none from M.free]at Z;cases Z
   have hCT:T≠C:=λz=>by
    obtain⟨o,_,_,ho,hdd,_⟩:=hm;rw[z]at a5;rw[show s3.heap.get? C=some o from ho]at a5;cases a5;rw[R]at hdd;cases hdd
   have IY:=s0 (IX.turned (it:=C) (t':=s3.toks) (λb o hb e=>hh.extBut b o hb e) M.free (ve (ic (ub P.lt hC))) (.inr (wd P.sz hC)) (λx c e=>by have⟨v,z⟩:=P.cell x c e;exact ic (ub z.lt hC)) λp hp=>lt _ _ (P.pin p hp).1);have b1:=hh.extBut _ _ hCe a1;have b5:=hh.extBut _ _ hCT a5;unfold PySem.passOn;refine aa (jg b1 a2 a3 ?_);rw[qa (by simp)];unfold setFlight;refine aa (aa (jg b1 a2 a3 ?_));rw[da (show (Value.ref T != Value.none)=true from by simp)];have h3:=(pd.mp a7).1;refine qg b5 R h3 ?_;have d:=ce (Obj.mapFields (·.setIfInBounds 3 (h.frame.elim Value.none λf=>rawInt f))) b5 (ag (me R _));have u:=(cc h' (Obj.mapFields (·.setIfInBounds 3 (h.frame.elim Value.none λf=>rawInt f))) a4).trans b1;have hlo:=wd P.sz z2;refine wpAny_throw (hX e Ce dx fs E F _ (IY.entry (e:=e) (C:=Ce) (dx:=dx) (by rw[hpn];rfl) b5 R hlo (λhm=>?_) z3) Z h2 hne ?_ w)
   ·have⟨_,o,ho,hnf⟩:=IY.stack.mem hm
    rw[show h'.get? T=some o from ho]at b5;cases b5;exact hnf ts R
   ·cases hf:h.frame with
    |none=>rw[hf]at d u;exact .inl ⟨oe,vs,T,_,_,u,a2,a3,a4,d,me R _,by simp[h3]⟩
    |some f'=>rw[hf]at d u;exact .inr ⟨T,f',⟨oe,vs,_,_,u,a2,a3,a4,d,me R _,by simp[h3]⟩,hlo,z3⟩
 ·cases hz
end
noncomputable def qS(K:Fg1)(P:Addr):Bool:=PySem.W.specialIn K (.ref P) "__getattribute__" == some (some (.builtin "type.__getattribute__")) && PySem.W.readsIn K P (.type "type") && (match PySem.W.findCls K (.ref P) (.type "type") "__init__" with|some (.val v)=>v == .builtin "ValueError.__init__" | _=>false)
section
variable {X:Cx}{P:Addr}{a:Expr}{as:List Expr}{t:TA}{q1 q2 pos:Pos}
theorem Mq{a:List (Addr×Obj)}{l:St}{H:Hp}{s:Shared}{nm:Str}{C P e n:Addr}{M:Option Addr}{u:Value}{A:Around}{E:Value->Shared->Prop}{Q:Value->Shared->Prop}(I:aw X a l H s)(c:cU X.K nm C P M)(p:H e=some (.ext (gL e C n)))(q:∀O s',aw X a l (aG H e (.ext (gL e C O))) s'->Q .none s') :
  wpAny (model X.prog X.w) A (call (.builtin "ValueError.__init__") [.ref e,u]) Q E s:=by
 have⟨mN,mP,xc,_,_,v⟩:=c.at_ s.heap I.kIn;obtain⟨⟨R,N,bs,U,y,Y,B,dd,Z,k1,k2,k3,k5,F,hn⟩,a1,a2,a3,a4,a5,a6,a7,a8,a9,b0,b1,b2,b3,b4,b5,G,J⟩:=xc;have j:=om;have T:OwnTail s.heap dN (.ref P::dN):=.own G J v .base;have m:s.heap.get? e=some ⟨.ref C,none,.fields #[.ref n,.none,.none,.none,.bool false,.none],#[]⟩:=I.hok.ext p;obtain⟨f,g,d,i,os⟩:=s;refine wk (bh j.init.plain j.initEntry (wpAny_check_init_subT j T F m rfl ?_));unfold Builtin.«BaseException.__init__»;dsimp only;rw[qa (by simp)];unfold newTuple Builtin.BaseException.bexcPut;have e1:=na (h:=f) { cls:=.type "tuple",data:=.seq #[u] } m;refine aa (ue ?_);refine aa (aa (jg e1 rfl rfl (aa (qg e1 rfl (Nat.zero_lt_succ _) (zk (ia ?_))))));have L:aw X a l H ⟨f.push { cls:=.type "tuple",data:=.seq #[u] },g,d,i,os⟩:=I.kept (t':=i) λb o z=>na _ z
 have e2:=ce (Obj.mapFields (·.setIfInBounds 0 (Value.ref f.objs.size))) e1 rfl;exact q f.objs.size _ (L.write (t':=i) (x:=e) (e:=e) (by rw[p];trivial) (.inl rfl) (λb o r z=>(cc _ _ (ve r)).trans z) ⟨_,e2⟩ (A9 e2))
theorem Mr (z:Gl X "PageError") (hm:X.mg "PageError" = some (.ref P)) (g:qS X.K P=true) (A:PA X (a::as) t) (hl:(q2.endLine == pos.line)=true) (i:methodCallForm (a::as).length (backTo pos (starEach (a::as) X.env)) (backToKw pos (keywordEach [] X.env))=true)
  (B:starEach (a::as) X.env=(false,eval a X.env)::starEach as X.env) (j:(backTo pos (starEach as X.env)).any (·.1)=false) :
  PE X (.Call (.Attribute (.Name "PageError" q1) "__init__" q2) (a::as) [] pos) (λσ H Q=>t σ H λvs H1=>∃e v nm C P fI t0,vs=[.ref e,v]/\cU X.K nm C P fI/\H1 e=some (.ext (gL e C t0))/\∀f,Q .non (aG H1 e (.ext (gL e C f)))):=by
 intro b s σ H Q I h;unfold qS at g;rw[jb,jb]at g;obtain⟨⟨u,w⟩,d⟩:=g
 split at d
 ·rename_i v p
  have d:=xk.mp d;subst d;rw[arm_eval_Call];refine aa (mB I z hm (aa (yj ?_)));unfold methodCall;rw[show methodCallForm ((a::as).length+([]:List Keyword).length) (backTo pos (starEach (a::as) X.env)) (backToKw pos (keywordEach [] X.env))=true from i];refine aa (qe (PySem.W.method_cls I.kIn (xk.mp u) (PySem.W.cls_value I.kIn w p rfl ?_)));refine aa (vq (show methodCallPos true (.Name "PageError" q1) X.env q2 pos=pure pos by unfold methodCallPos;simp[hl]) ?_);have y:aw X b σ H { s with toks:=s.toks+1 }:=I.tok _;refine zl (aX (A pos b _ σ H _ y h) λE F ⟨vs,H1,l,r,e,v,nm,C,P,fI,t0,m,c,n,q⟩=>?_) B j;subst m;obtain⟨J,L,rfl,x,M⟩:=ou r;cases x;exact Mq l c n λf G o=>⟨.non,_,o,rfl,q f⟩
 ·cases d
end
def xP(K:Fg1)(nm f:Str):Sp:=λvs H Q _=>∃e a ys C P fI t0,vs=[.ref e,.ref a]/\bJ K H a ys/\cU K nm C P fI/\H e=some (.ext (gL e C t0))/\∀b l dx c,H b=none->b≠e->H l=none->l≠e->l≠b->H dx=none->dx≠e->dx≠l->dx≠b->Q .non (aG (aG (aG (aG (aG H b (.lst ys)) e (.ext (gL e C c))) l (.lst ys)) e (.ext (ky e C dx c))) dx (.ext (eF dx [(f,.ref l)])))
section
variable {P:Program}{w:World}{K:Fg1}{mg:Str->Option Value}{base:Heap}
theorem Ms {nm x j R:Str}{st:Stmt}{f Pa:Addr}{fd:FuncData}{d g:Str}{p1 p2 B G I p6 q1 q2 q3 q4 q5 q6 q7 q8:Pos} (hm:mg "PageError" = some (.ref Pa)) (ri:qS K Pa=true) (T:mg "list" = none) (F:ec K x j st f fd) (S:ay [d,g] [d,g] (bt st)) (U:R∈gM) (hb:e6 st=[.Expr (.Call (.Attribute (.Name "PageError" q1) "__init__" q2) [.Name d q3,.Call (.Name "list" q4) [.Name g q5] [] q6] [] q7) q8,.Assign [.Attribute (.Name d p1) R p2] (.Call (.Name "list" B) [.Name g G] [] I) p6])
  (h0:(bt st).names.lookup d=some .local) (L:(bt st).names.lookup g=some .local) (X:(bt st).names.lookup ("PageError" : Str)=some .globalImplicit) (Y:(bt st).names.lookup ("list" : Str)=some .globalImplicit) (hl:(q2.endLine == q7.line)=true) (eg:(d == ("__debug__" : Str))=false:=by decide) (y:(d == ("__classdict__" : Str))=false:=by decide) (i6:(g == ("__debug__" : Str))=false:=by decide) (Z:(g == ("__classdict__" : Str))=false:=by decide):ax P w K mg base aQ 1 f fd [d,g] (xP K nm R):=by
 refine F.ok (k:=0) S (λvs H Q E ⟨e,a,_,_,_,_,_,L,_⟩=>by rw[L];rfl) λM A m s H vs Q E hr ⟨e,a,ys,C,P',fI,t0,ev,hq,c,N,q⟩=>?_
 subst ev;rw[hb];have pl:∀{B G I:Pos},PE (cP aQ P w K mg base [d,g] j (bt st) f M A m s H E).nox (.Call (.Name "list" B) [.Name g G] [] I) _:=λ{B G I}=>Aj AM Y T v1 (g9 (fN (i:=1) rfl (cb L) i6 Z) jt rfl) (by decide) (by decide) rfl rfl
 refine⟨_,g7 (oq (Mr X hm ri (g9 (fN (i:=0) rfl (cb h0) eg y) (g9 pl jt rfl) rfl) hl rfl rfl rfl) rfl) (g7 (sJ pl (i:=0) rfl (cb h0) eg y rfl) n9),?_⟩;refine⟨.ref e,rfl,.ref a,rfl,ys,.inl hq,λp d=>?_⟩;have v:=cC N d;refine⟨e,.ref p,nm,C,P',fI,t0,rfl,c,by rw[aK v];exact N,λJ=>?_⟩;have up:∀{b:Addr} {u:HO},H b=some u->(∀φ,u≠.ext φ)->aG (aG H p (.lst ys)) e (.ext (gL e C J)) b=some u:=λ{b u} z hu=>by rw[aK (fZ z N (hu _)),aK (cC z d)];exact z
 have O:bJ K (aG (aG H p (.lst ys)) e (.ext (gL e C J))) a ys:=by
  rcases hq with(z|⟨o,z⟩)|z
  ·exact .inl (.inl (up z λ_ z=>nomatch z))
  ·exact .inl (.inr ⟨o,up z λ_ z=>nomatch z⟩)
  ·exact .inr z
 refine⟨.ref a,rfl,ys,.inl O,λl h=>⟨e,nm,C,P',fI,rfl,c,U,.inl ⟨J,?_,λdx n r=>?_⟩⟩⟩
 ·rw[aK (λz=>?_),bi]
  rw[<-z,bi]at h;cases h
 ·have g:l≠e:=λz=>by rw[z,bi]at h;cases h
  rw[aK g]at h;have n2:l≠p:=λz=>by rw[z,bi]at h;cases h
  rw[aK n2]at h;have n3:dx≠l:=λz=>by rw[z,bi]at n;cases n
  rw[aK n3,aK r]at n;have n4:dx≠p:=λz=>by rw[z,bi]at n;cases n
  rw[aK n4]at n;exact q p l dx J d (ve v) h g n2 n r n3 n4
end
def xQ(nm f:Str)(fr:ao->Option (List D)):ao->Option D:=λρ=>(fr ρ).bind λds=>match ds with|[.lst es]=>some (.er nm [f] [.lst es])|_=>none
theorem Mt {X:Cx}{B:Bs}{W:XK}{a:Expr}{j:List Expr}{Y:ao->Option (List D)}{z p Z:Pos}{x nm f:Str}{k:Nat}{i C P:Addr}{fd:FuncData}{ps:List Str} (hc:X.calm=true) (c:cU X.K nm C P (some i)) (hP:PySem.W.nsIn X.K mainGlobals "PageError" = some (some (.ref P))) (E:PySem.W.nsIn X.K mainGlobals nm=some (some (.ref C))) (G:∃o,X.K.lookup i=some o/\o.cls=.type "function") (J:PySem.W.keepIn X.K (.ref C)=true)
  (F:ax X.prog X.w X.K X.mg X.base aQ k i fd ps (xP X.K nm f)) (hr:aM (k+1) X.A) (s:Gl X x) (hm:X.mg x=some (.ref C)) (hb:c9 X.K fd ps []) (L:sI X W) (ha:PA X (a::j) (aV X.K B Y)) (M:(x == ("__debug__" : Str))=false:=by decide)
  (m:starEach (a::j) X.env=(false,eval a X.env)::starEach j X.env:=by rfl) (N:(backTo Z (starEach j X.env)).any (·.1)=false:=by rfl):PS X (.Raise (some (.Call (.Name x p) (a::j) [] Z)) none z) (xV X.K B W (xQ nm f Y)) :=
 (Bd hc c hP E G J F hr s hm hb L ha M m N).imp λD σ H ⟨Hf,ρ,n,ks,es,I,s,q⟩=>by
  have⟨ds,hd,hz⟩:=bind_some s
  split at hz
  ·rename_i ds
   cases hz;refine⟨Hf,ρ,_,I,hd,λh H1 vs d u=>?_⟩
   obtain⟨x,rfl,hx⟩:∃x,vs=[x]/\Dn X.K h (.lst ds) x:=by
    cases u with
    |cons a b=>cases b;exact⟨_,rfl,a⟩
   obtain⟨a,ys,rfl,h1,h2⟩:=hx.lst;refine⟨by show 1<=10;decide,λe C P i t0 m cl c=>⟨e,a,ys,C,P,i,t0,rfl,aS.seq (Ex.made d.fh m).fh h1,c,bi,λl0 l dx t1 O v Q r a5 R g T a9=>⟨rfl,dx,t1,_,g,by rw[aK (ve g),bi],bi,?_⟩⟩⟩;rw[aK v]at O;rw[aK r]at Q;rw[aK g]at R;rw[s9 g,n8,s9 r,n8,s9 v,n8];have e1:=Ex.new (o:=.ext (dq e C dx)) d.fh m;have e2:=Ex.made (o:=.lst ys) e1.fh (by rw[aK v];exact O);have y:=Ex.new (o:=.lst ys) e2.fh (p:=l) (by rw[aK a5,aK r];exact Q);have U:=Ex.new (o:=.ext (eF dx [(f,.ref l)])) y.fh (p:=dx) (by rw[aK T,aK a9,aK g];exact R);have dl:aZ X.K (aG (aG (aG h e (.ext (dq e C dx))) l (.lst ys)) dx (.ext (eF dx [(f,.ref l)]))) [.lst ds] [.ref l]:=.cons (hW (bJ.of (by rw[aK (ve T),bi])) (h2.same (e1.trans (e2.trans (y.trans U))).ff)) .nil;have⟨k,dk⟩:=dl.level;exact q _ _ e dx (I.ex.trans (d.trans (e1.trans (e2.trans (y.trans U))))) ⟨k+1,e,C,dx,[(f,.ref l)],rfl,by rw[aK (ve g),aK (ve r),bi],cl,g,bi,rfl,dk⟩
  ·cases hz
theorem Ex.put(e:Ex Hf H Hf' H')(a:H c=none)(d:Hf' c=none):Ex Hf H Hf' (aG H' c o) :=
 ⟨e.ff,λb u z=>by rw[aK (cC z a)];exact e.hh b u z,λb u z=>by rw[aK (cC z d)];exact e.fh b u z,e.nw,e.nf⟩
theorem Ex.stays(e:Ex Hf H Hf' H')(h:H c=some o)(a:∀xs,o≠.tup xs)(b:Hf c=none):Hf' c=none:=by
 cases z:Hf' c with
 |none=>rfl
 |some u =>
  rcases e.nw c (by rw[z];exact λz=>nomatch z) with y|y
  ·exact absurd b y
  ·exact(y.no h a).elim
theorem Mu(a v:Value):argsOk "min" ⟨[a],[(Str.ofString "key",v)]⟩:=by unfold argsOk;kernel_rfl
section
variable {X:Cx}{pins:List (Addr×Obj)}{σ:St}{Hf H:Hp}{p S it:Addr}{ys:List V}{rs:List D}{κ:Value}{R:Result->Shared->Prop}
def tY(p:Addr)(j:Nat)(o:Obj):Prop:=o.cls=.type "list_iterator" /\ o.data=.fields #[.ref p,.int j 0]
structure MI(X:Cx)(pins:List (Addr×Obj))(σ:St)(Hf H:Hp)(p S it:Addr)(ys:List V)(rs:List D)(j b:Nat)(s:Shared)(Hf' H':Hp)(v r:V)(o:Obj):Prop where
 inv:aw X (pins++[(it,o)]) σ H' s
 ex:Ex Hf H Hf' H'
 st:H' S=some (.lst [v,r])
 fS:Hf' S=none
 li:tY p j o
 vb:ys[b]?=some v
 rb:Dn X.K Hf' (rs.getD b (.sc .non)) r
def C3(X:Cx)(pins:List (Addr×Obj))(σ:St)(rs:List D)(i:Nat)(Hf' H':Hp)(w:Value)(b:Shared):Prop:=∃r a H2,aw X pins σ H2 b/\bj r w/\Ex Hf' H' a H2/\Dn X.K a (rs.getD i (.sc .non)) r
def Kc(X:Cx)(σ:St)(Hf H:Hp)(ys:List V)(rs:List D)(κ:Value):Prop:=∀pins i x u Hf' H' s,ys[i]?=some x->bj x u->Ex Hf H Hf' H'->aw X pins σ H' s →
 (κ=.none/\C3 X pins σ rs i Hf' H' u s)\/(∃f,κ=.ref f/\wpAny (model X.prog X.w) X.A.in1 (call κ [u]) (C3 X pins σ rs i Hf' H') (λ_ _=>False) s)
theorem C4(B:X.calm=true)(C:bJ X.K H p ys)(d:p≠it)(f:js X pins H0 it)(F:Ex Hf H Hf' H')(I:aw X (pins++[(it,o)]) σ H' s)(G:tY p j o)(J:j<ys.length){Q:Option Value->Shared->Prop}{E:Value->Shared->Prop}
  (q:∀x u s' o',ys[j]?=some x->bj x u->aw X (pins++[(it,o')]) σ H' s'->tY p (j+1) o'->Q (some u) s'):wpAny (model X.prog X.w) X.A.in1 (pyNext (.ref it)) Q E s:=by
 have⟨a,r,l,_⟩:=I.list (aS.seq F.hh C);have c:j<a.toArray.size:=by rw[oa,<-r.length];exact J
 refine(Walks.list (A:=X.A.in1) (I.ok.hd B) it p d a.toArray).item j s _ _ c ⟨⟨o,(I.pin (it,o) (by simp)).1,G⟩,l.isList⟩ λv h' L g st h=>?_
 have⟨o',m,e⟩:=st.1;obtain⟨x,n,y⟩:=f6 r (show a[j]?=some v by simpa using g);exact q x v _ o' n y (I.repin f.2.2.2.2.2 f.2.2.2.1 (λb u i z=>h b u (by simpa using i) z) m λv z=>by rw[e.2]at z;cases z) e
theorem tZ(hc:X.calm=true)(hu:X.A.units+1+9<cLine)(hS:H S=none)(O:S≠it)(P:p≠it)(Q:js X pins H0 it)(hq:bJ X.K H p ys)(hn:rs.length=ys.length)(T:∀r∈rs,bE LV r=true)(hlt:∀d∈rs,∀e∈rs,cN d e=true)(kc:Kc X σ Hf H ys rs κ)
  (fin:∀v u s' Hf' H',Ex Hf H Hf' H'->aw X pins σ H' s'->bj v u->ys[argBest (iz rs) (ys.length - 1)]?=some v->R (.ok (.ret u)) s') :
  ∀(k j:Nat) (s:Shared) Hf' H' v r o,ys.length - (j+1)=k->j+1<=ys.length->MI X pins σ Hf H p S it ys rs (j+1) (argBest (iz rs) j) s Hf' H' v r o->codeAny (model X.prog X.w) X.A (.builtin "min.loop" ⟨[.ref it,κ,.ref S],[]⟩) R s:=by
 have L:(toString "min" ++ toString ".loop" : String) = "min.loop":=by decide
 intro k
 induction k with
 |zero =>
  intro j s Hf' H' v r o hk hj M;have N:j+1=ys.length:=by omega
  have⟨its,n,rv,B,_⟩:=M.inv.lst M.st;obtain⟨a,b,rfl,ra,rb⟩:=ou rv;refine mh PySem.F.entry_min_loop ?_;rw[fg PySem.F.plain_min_loop _];show wpAny _ X.A.in1 (seqItems? (.ref S) >>= _) _ _ s;refine aa (kn B rfl ?_);have⟨its',r',pl,_⟩:=M.inv.list (aS.seq M.ex.hh hq);show wpAny _ X.A.in1 (tryCatch (pyNext (.ref it)) _ >>= _) _ _ s;have pn:=M.inv.pin (it,o) (by simp);refine aa (ck ((Walks.list (A:=X.A.in1) (M.inv.ok.hd hc) it p P its'.toArray).done s _ _ ⟨⟨o,pn.1,by rw[oa,<-r'.length,<-N];exact M.li⟩,pl.isList⟩ λh' tk Y=>?_));have Z:aw X pins σ H' { s with heap:=h',toks:=tk }:=M.inv.unpinned.turned (λb u g z=>Y b u (by simpa using g) z) pn.2.1 Q.2.1 Q.2.2.2.1 Q.2.2.2.2.1 Q.2.2.2.2.2;show wpAny _ X.A.in1 (updateSeq S (λ_=>#[]) >>= _) _ _ _;refine aa ?_;refine fq (Y S _ (by simpa using O) B) rfl (aa (zk (ia ?_)));exact fin v a _ Hf' _ (M.ex.put hS M.fS) (Z.lstUpd (ys:=[]) (its':=[]) (n':=_) M.st (Y S _ (by simpa using O) B) (by show Obj.mk _ _ _ _=_;rfl) .nil (be _) tk) ra (by rw[<-N];exact M.vb)
 |succ k ih =>
  intro j s Hf' H' v r o hk hj M;have lt:j+1<ys.length:=by omega
  have⟨its,n,rv,B,_⟩:=M.inv.lst M.st;obtain⟨a,b,rfl,ra,rb⟩:=ou rv;refine mh PySem.F.entry_min_loop ?_;rw[fg PySem.F.plain_min_loop _];show wpAny _ X.A.in1 (seqItems? (.ref S) >>= _) _ _ s;refine aa (kn B rfl ?_);show wpAny _ X.A.in1 (tryCatch (pyNext (.ref it)) _ >>= _) _ _ s;refine aa (ck (C4 hc hq P Q M.ex M.inv M.li lt λx u s1 o1 hx rx Z q=>?_));rcases kc _ _ _ _ _ _ _ hx rx M.ex Z with⟨rfl,U⟩|⟨f,rfl,U⟩
  case' inl =>
   obtain⟨w,ew⟩:∃w,w=u:=⟨u,rfl⟩
   obtain⟨y,es⟩:∃y,y=s1:=⟨s1,rfl⟩
   subst ew es
  case' inr=>refine aa (ck (qe (re U (λw y U=>?_) λ_ _ z=>z.elim)))
  all_goals
   obtain⟨rr,C,H2,E,G,c,I⟩:=U;have l:=c.hh _ _ M.st;have⟨its2,n2,rv2,J,_⟩:=E.lst l;obtain⟨a2,b2,rfl,_,_⟩:=ou rv2;have m:=c.stays M.st (λ_ z=>nomatch z) M.fS
   have mem:∀i,i<ys.length->rs.getD i (.sc .non)∈rs:=λi h=>by
    have h:i<rs.length:=by omega
    rw[gc,zc h];exact oj h
   have m1:=mem (j+1) lt;have m2:=mem (argBest (iz rs) j) (by have:=xD (iz rs) j;omega);have x1:=xx E c.fh I (T _ m1) G;have x2:=xx E c.fh (M.rb.same c.ff) (T _ m2) rb;have⟨j1,j2⟩:=Ci x1 x2;have z:=sC (A:=X.A.in1) x1 x2 (j2 (hlt _ m1 _ m2)) hu;rw[j1]at z;show wpAny _ X.A.in1 (tryCatch (holding [_,w] (richCompare .Lt w b >>= _)) _ >>= _) _ _ y;refine aa (ck (qe (aa (z _ _ _ _ ?_))));refine aa (qe (ng ?_));refine aa (zk (ia ?_))
   cases g:iz rs (j+1) (argBest (iz rs) j) with
   |true =>
    rw[show bZ (rs.getD (j+1) (.sc .non)) (rs.getD (argBest (iz rs) j) (.sc .non))=true from g];simp only[wm];refine aa ?_;refine fq J rfl (aa (zk ?_));rw[L];exact ia ⟨uh PySem.F.plain_min_loop _,ih (j+1) _ C _ x rr o1 (by omega) lt ⟨E.lstUpd (ys:=[x,rr]) (its':=[_,w]) (n':=_) l J (by show Obj.mk _ _ _ _=_;rfl) (.cons rx (.cons G .nil)) (sz (by simp)) y.toks,(M.ex.trans c).put hS m,bi,m,q,by simp only[argBest,g,wm];exact hx,by simp only[argBest,g,wm];exact I⟩⟩
   |false =>
    rw[show bZ (rs.getD (j+1) (.sc .non)) (rs.getD (argBest (iz rs) j) (.sc .non))=false from g];simp only[zd,xi];refine aa (zk ?_);rw[L];exact ia ⟨uh PySem.F.plain_min_loop _,ih (j+1) _ C _ v r o1 (by omega) lt ⟨E,M.ex.trans c,l,m,q,by simp only[argBest,g,zd,xi];exact M.vb,by simp only[argBest,g,zd,xi];exact M.rb.same c.ff⟩⟩
theorem C5(hc:X.calm=true)(hu:X.A.units+1+9<cLine)(hq:bJ X.K H p ys)(hn:rs.length=ys.length)(M:ys≠[])(hok:∀r∈rs,bE LV r=true)(hlt:∀d∈rs,∀e∈rs,cN d e=true)(kc:Kc X σ Hf H ys rs κ)(fh:aS Hf H)(I:aw X pins σ H s){E:Value->Shared->Prop}{R:Result->Shared->Prop}
  (c:∀v u s' Hf' H',Ex Hf H Hf' H'->aw X pins σ H' s'->bj v u->ys[argBest (iz rs) (ys.length - 1)]?=some v->R (.ok (.ret u)) s') :
  wpAny (model X.prog X.w) X.A.in1 (do let it ← pyIter (.ref p);again (.builtin (toString "min" ++ toString ".loop") ⟨[it,κ,<-newList []],[]⟩)) (λc s'=>match c with|.done f=>R (.ok f) s'|.again c'=>c'.quiet=true/\codeAny (model X.prog X.w) X.A c' R s') E s:=by
 have m:(toString "min" ++ toString ".loop" : String) = "min.loop":=by decide
 have⟨P,r,pl,_⟩:=I.list hq;have q:p<s.heap.objs.size:=by have⟨_,e,_⟩:=pl.isList;exact ib e
 refine aa (wpAny_pyIter_list pl.isList ?_);refine aa (ue ?_);rw[m];refine ia ⟨uh PySem.F.plain_min_loop _,?_⟩;generalize i:({ cls:=.type "list_iterator",data:=.fields #[.ref p,.int 0 0] }:Obj)=io;have Z:tY p 0 io:=by rw[<-i];exact⟨rfl,rfl⟩
 have gi:(s.heap.push io).get? s.heap.objs.size=some io:=zb _ (by rw[<-i];rfl);have y:H s.heap.objs.size=none:=I.hok.fresh (bb _);have J:=I.fpOk (bb _) y;have I0:aw X pins σ H { s with heap:=s.heap.push io }:=I.kept (t':=s.toks) λb u z=>na _ z
 have N:=I0.pinnew gi y J.2.1 J.2.2.1 λv z=>by rw[<-i]at z;cases z
 have L:H (s.heap.push io).objs.size=none:=I0.hok.fresh (bb _);have hne:(s.heap.push io).objs.size≠s.heap.objs.size:=by show (s.heap.objs.push io).size≠_;rw[Array.size_push];omega
 have I2:aw X (pins++[(s.heap.objs.size,io)]) σ (aG H (s.heap.push io).objs.size (.lst [])) { s with heap:=(s.heap.push io).push { cls:=.type "list",data:=.seq #[] } }:=N.laid (t':=s.toks) (λb u z=>na _ z) (bb _) ⟨be _,[],0,.nil,zb _ rfl⟩;have B:p≠s.heap.objs.size:=ic q;have h:=Ex.made (o:=.lst []) fh L;have M:0<ys.length:=br.mpr M;show codeAny (model X.prog X.w) X.A (.builtin "min.loop" ⟨[.ref s.heap.objs.size,κ,.ref (s.heap.push io).objs.size],[]⟩) R { s with heap:=(s.heap.push io).push { cls:=.type "list",data:=.seq #[] } };generalize (s.heap.push io).objs.size=S at *;generalize s.heap.objs.size=it at *;generalize ({ s with heap:=(s.heap.push io).push { cls:=.type "list",data:=.seq #[] } }:Shared)=s2 at *;have⟨P,n,rv,ho,_⟩:=I2.lst (xs:=[]) bi;cases rv;refine mh PySem.F.entry_min_loop ?_;rw[fg PySem.F.plain_min_loop _];show wpAny _ X.A.in1 (seqItems? (.ref S) >>= _) _ _ s2;refine aa (kn ho rfl ?_);show wpAny _ X.A.in1 (tryCatch (pyNext (.ref it)) _ >>= _) _ _ s2;refine aa (ck (C4 hc hq B J h I2 Z M λx u s1 o1 hx rx N O=>?_));rcases kc _ _ _ _ _ _ _ hx rx h N with⟨rfl,G⟩|⟨f,rfl,G⟩
 case' inl =>
  obtain⟨w,ew⟩:∃w,w=u:=⟨u,rfl⟩
  obtain⟨j,es⟩:∃j,j=s1:=⟨s1,rfl⟩
  subst ew es
 case' inr=>refine aa (ck (qe (re G (λw j G=>?_) λ_ _ z=>z.elim)))
 all_goals
  obtain⟨rr,Q,H3,I3,T,g,U⟩:=G;have gA:=g.hh _ _ (bi (H:=H) (a:=S));have⟨its3,n3,Y,l,_⟩:=I3.lst gA;cases Y;have C:=g.stays bi (λ_ z=>nomatch z) (fh.free L);show wpAny _ X.A.in1 (updateSeq S (λ_=>#[_,w]) >>= _) _ _ j;refine aa ?_;refine fq l rfl ?_;rw[m];exact ia ⟨uh PySem.F.plain_min_loop _,tZ hc hu L hne B J hq hn hok hlt kc c _ 0 _ Q _ x rr o1 rfl M ⟨I3.lstUpd (ys:=[x,rr]) (its':=[_,w]) (n':=_) gA l (by show Obj.mk _ _ _ _=_;rfl) (.cons rx (.cons T .nil)) (sz (by simp)) j.toks,(h.trans g).put L C,bi,C,O,hx,U⟩⟩
theorem C6{id:String}{b:Builtin}{a:List Value}{d:List (Str×Value)}{M:Program}{w:World}{A:Around}{E:Value->Shared->Prop}{Q:Value->Shared->Prop}(j:builtinKind id=none)(l:plainId id=true)(m:entryFor table id=some b)(i:argsOk id ⟨a,d⟩)
  (h:wpAny (model M w) A.in1 (b ⟨a,d⟩) (λg s'=>match g with|.done f=>(λr s'=>match r with|.ok (.ret v)=>Q v s'|.ok _=>False|.error e=>E e s':Result->Shared->Prop) (.ok f) s'|.again c=>c.quiet=true/\codeAny (model M w) A c (λr s'=>match r with|.ok (.ret v)=>Q v s'|.ok _=>False|.error e=>E e s') s') E s):wpAny (model M w) A (call (.builtin id) a d) Q E s:=by
 refine wk (bh l m ?_);unfold checkBuiltinCall;rw[j]
 cases hs:Manifest.signature? id with
 |none=>exact ia h
 |some sg =>
  unfold argsOk at i;rw[hs]at i;show wpAny _ A.in1 (Bind.checkArgs id sg ⟨a,d⟩) _ _ s;rw[show Bind.checkArgs id sg ⟨a,d⟩=pure () from i];exact ia h
def C7(K:Fg1):List V->Hp->VK->Prop:=λxs H Q=>∃p ys ds Hf,xs=[.ref p]/\bJ K H p ys/\aS Hf H/\aZ K Hf ds ys/\ds≠[]/\(∀d∈ds,bE LV d=true)/\(∀d∈ds,∀e∈ds,cN d e=true)/\∀x Hf' H',Ex Hf H Hf' H'->ys[argBest (iz ds) (ds.length - 1)]?=some x->Q x H'
theorem Mv{K:Fg1}{ds:List D}(h:aZ K Hf ds ys)(c:ys[i]?=some x):Dn K Hf (ds.getD i (.sc .non)) x:=by
 have⟨d,a,b⟩:=f6 h c;rw[gc,a];exact b
theorem Mw(E:X.calm=true)(G:aM k X.A):d2 X (.builtin "min") (C7 X.K):=by
 intro a s w H xs J Q I f h;obtain⟨p,ys,ds,Hf,rfl,y,fh,l,B,g,j,q⟩:=h;obtain⟨u,rfl,C⟩:=g8 f;cases C;have hl:=l.length
 have:=G.units
 refine C6 PySem.F.kind_min PySem.F.plain_min PySem.F.entry_min (PySem.F.args_min1 _) ?_;show wpAny _ X.A.in1 (Builtin.Builtins.bindParams "min" ["key","default"] 0 ⟨[],[]⟩ >>= _) _ _ s;refine aa (vq (show Builtin.Builtins.bindParams "min" ["key","default"] 0 ⟨[],[]⟩=pure [none,none] from rfl) ?_);refine aa (ia ?_);refine C5 (R:=λr d=>match r with|.ok (.ret v)=>EP X a w Q v d|.ok _=>False|.error e=>X.xe e d) (κ:=.none) (rs:=ds) E (by omega) y hl (λz=>B (ko.mp (by rw[hl,z];rfl))) g j (λa i x u b H' s m n c I=>.inl ⟨rfl,x,b,H',I,n,.refl c.fh,(Mv l m).same c.ff⟩) fh I λv u d b H' c I f o=>⟨v,H',I,f,q v b H' c (by rw[hl];exact o)⟩
theorem Mx{K:Fg1}:PN K (C7 K) o0:=by
 intro Hf H xs ds z Q s b hz q;unfold o0 at hz
 split at hz
 ·split at hz
  ·rename_i es f
   obtain⟨x,rfl,e⟩:=f9 b;obtain⟨a,ys,rfl,j,h⟩:=e.lst s;refine⟨a,ys,es,Hf,rfl,j,s,h,f.1,λd b=>vc.mp f.2.1 d b,f.2.2,λx c H' g e=>?_⟩;have⟨m,i,l⟩:=h.zget hz;rw[e]at i;cases i;exact q c H' _ g (l.same g.ff)
  ·cases hz
 ·cases hz
open Classical in
def t5(F:List D->Option D)(ds:List D):Option D:=if ds≠[]/\(∀d∈ds,∃r,F [d]=some r/\bE LV r=true)/\(∀d∈ds,∀e∈ds,cN ((F [d]).getD .non) ((F [e]).getD .non)=true) then ds[argBest (iz (ds.map λd=>(F [d]).getD .non)) (ds.length - 1)]? else none
def xR(F:List D->Option D)(fa:ao->Option D):ao->Option D:=λρ=>(fa ρ).bind λd=>match d with|.lst ds=>t5 F ds|_=>none
theorem My {B:Bs}{F:List D->Option D}{f:Addr}{fd:FuncData}{pn U:Str}{p1 p3 p4 h:Pos}{a:Expr}{fa:ao->Option D} (hc:X.calm=true) (G:ax X.prog X.w X.K X.mg X.base aQ k f fd [pn] (aY X.K 1 F)) (E:aM k X.A.in1) (hg:Gl X "min") (hm:X.mg "min" = none) (hgf:Gl X U) (hmf:X.mg U=some (.ref f)) (hb:c9 X.K fd [pn] []) (ha:PE X a (eV X.K B fa))
  (hfd:(U == ("__debug__" : Str))=false:=by decide) (hs0:starEach [a] X.env=(false,eval a X.env)::starEach [] X.env:=by rfl)
  (m:backTo h (starEach [a] X.env)=(false,eval a X.env)::backTo h (starEach [] X.env):=by rfl) (n:((backTo h (starEach [a] X.env)).any λx=>x.1)=false:=by rfl) :
  PE X (.Call (.Name "min" p1) [a] [⟨some "key",.Name U p3,p4⟩] h) (eV X.K B (xR F fa)):=by
 intro b s Z H Q I ⟨Hf,ρ,z,N,hz,q⟩;have⟨d,eg,hz⟩:=bind_some hz
 split at hz
 ·rename_i ds
  unfold t5 at hz
  split at hz
  ·rename_i ok
   refine ef (kw I hg hm AU ?_ (by decide) (by decide));refine callWith_kw (aX ((g9 ha jt hs0) h b s Z H (λvs J=>∃c v,vs=[v]/\Ex Hf H c J/\Dn X.K c (.lst ds) v) I ⟨Hf,ρ,_,N,eg,λc J v j L=>⟨c,v,rfl,j,L⟩⟩) λus s1 ⟨vs,J,I1,M,c,v,e1,o,L⟩=>?_) (by first|exact m|exact n|rfl) (by first|exact m|exact n|rfl) (by first|exact m|exact n|rfl) (by first|exact m|exact n|rfl);subst e1;obtain⟨u,rfl,ru⟩:=g8 M;obtain⟨p,ys,rfl,h3,h4⟩:=L.lst;cases ru;refine aX ((vA (rT (v:=.ref f) hgf hmf rfl hfd) vz) h b s1 Z J (λvs C=>vs=[.ref f]/\C=J) I1 ⟨rfl,rfl⟩) λus s2 ⟨vs,C,Y,M,e1,e2⟩=>?_
   subst e1 e2;obtain⟨u,rfl,ru⟩:=g8 M;cases ru;have hl:=h4.length
   have:=E.units
   have e1:X.A.in1.units=X.A.units+1:=rfl;show wpAny (model X.prog X.w) X.A (call (.builtin "min") [.ref p] [(Str.ofString "key",.ref f)]) _ _ _;refine C6 PySem.F.kind_min PySem.F.plain_min PySem.F.entry_min (Mu _ _) ?_;show wpAny _ X.A.in1 (Builtin.Builtins.bindParams "min" ["key","default"] 0 ⟨[],[(Str.ofString "key",.ref f)]⟩ >>= _) _ _ s2;refine aa (vq (show Builtin.Builtins.bindParams "min" ["key","default"] 0 ⟨[],[(Str.ofString "key",.ref f)]⟩=pure [some (.ref f),none] from rfl) ?_);refine aa (ia ?_);refine C5 (R:=λr P=>match r with|.ok (.ret v)=>EP X b Z Q v P|.ok _=>False|.error e=>X.xe e P) (κ:=.ref f) (rs:=ds.map λd=>(F [d]).getD .non) (Hf:=c) hc (by omega) (aS.seq o.fh h3) (by rw[ba];exact hl) (λz=>ok.1 (ko.mp (by rw[hl,z];rfl))) (λr E=>?_) (λr E e he=>?_) (λb i x u l H' s hx rx j I=>.inr ⟨f,rfl,?_⟩) o.fh Y λv u P l H' j I M hv=>⟨v,H',I,M,?_⟩
   ·obtain⟨d,hd,rfl⟩:=gb.mp E
    have⟨r,T,h2⟩:=ok.2.1 d hd;rw[T];exact h2
   ·obtain⟨d,hd,rfl⟩:=gb.mp E
    obtain⟨e',he',rfl⟩:=gb.mp he;exact ok.2.2 d hd e' he'
   ·have⟨d,T,h2⟩:=f6 h4 hx
    have⟨r,h5,h6⟩:=ok.2.1 d (je T);have e3:(ds.map λd=>(F [d]).getD .non).getD i (.sc .non)=r:=by rw[gc,ed,T];show (F [d]).getD .non=r;rw[h5];rfl
    have hbb:BindsTo s fd ⟨[u],[]⟩ ([pn].zip [u]):=by have:=hb s [u] I.kIn rfl;rwa [pc]at this
    refine wk (ik (G.run X.A.in1 X.stack s H' ⟨[u],[]⟩ [u] [x] (λv C=>∃g,Ex l H' g C/\Dn X.K g r v) E0 E I.env0.in1 hbb (.cons rx .nil) ⟨l,[d],r,j.fh,.cons (h2.same j.ff) .nil,rfl,h5,λg C v j L=>⟨g,j,L⟩⟩) λr' P O=>?_)
    cases r' with
    |error e=>exact O.elim
    |ok fl =>
     cases fl with
     |ret u =>
      have⟨w,C,Y,rw_,g,ex2,dw⟩:=I.after O;exact⟨w,g,C,Y,rw_,ex2,by rw[e3];exact dw⟩
     |next=>exact False.elim O
     |brk=>exact False.elim O
     |cont=>exact False.elim O
   ·have⟨y,g1,g2⟩:=h4.zget hz
    rw[<-hl,g1]at hv;cases hv;exact q l H' _ (o.trans j) (g2.same j.ff)
  ·cases hz
 ·cases hz
end
end L2
namespace L2
open PySem
structure cH(C:D->Prop):Prop where
 eq:∀a b,C a->C b->(bG a b=true↔a=b)
 ok:∀a b,C a->C b->cN a b=true
 tr:∀a b c,C a->C b->C c->bZ a b=true->bZ b c=true->bZ a c=true
 tot:∀a b,C a->C b->a=b\/bZ a b=true\/bZ b a=true
 as:∀a b,C a->C b->bZ a b=true->bZ b a=false
theorem cH.irr{C:D->Prop}(T:cH C){a:D}(h:C a):bZ a a=false:=by
 cases e:bZ a a with
 |false=>rfl
 |true=>rw[T.as a a h h e]at e;cases e
def xS(d:D):Prop:=∃i:Int,d=.int i
def xT(d:D):Prop:=∃b:Bool,d=.bl b
def xU(d:D):Prop:=∃l:List Nat,d=.str l
theorem t6(i j:Int):bZ (.int i) (.int j)=decide (i<j):=by rw[bZ];rfl
theorem C8:cH xS where
 eq:=λa b ⟨i,x⟩ ⟨j,y⟩=>by subst x y;rw[B5];simp
 ok:=λa b ⟨i,x⟩ ⟨j,y⟩=>by subst x y;rw[cN];rfl
 tr:=λa b c ⟨i,x⟩ ⟨j,y⟩ ⟨k,z⟩ h1 h2=>by
  subst x y z;rw[t6]at *
  have:=bc h1
  have:=bc h2
  exact za (by omega)
 tot:=λa b ⟨i,x⟩ ⟨j,y⟩=>by
  subst x y;rw[t6,t6];rcases Int.lt_trichotomy i j with h|h|h
  ·exact .inr (.inl (za h))
  ·exact .inl (by rw[h])
  ·exact .inr (.inr (za h))
 as:=λa b ⟨i,x⟩ ⟨j,y⟩ h=>by
  subst x y;rw[t6]at *
  have:=bc h
  exact nb (by omega)
theorem t7(i j:Bool):bZ (.bl i) (.bl j)=(!i && j):=by rw[bZ];cases i <;> cases j <;> rfl
theorem C9:cH xT where
 eq:=λa b ⟨i,x⟩ ⟨j,y⟩=>by subst x y;rw[B6];cases i <;> cases j <;> simp
 ok:=λa b ⟨i,x⟩ ⟨j,y⟩=>by subst x y;rw[cN];rfl
 tr:=λa b c ⟨i,x⟩ ⟨j,y⟩ ⟨k,z⟩ h1 h2=>by
  subst x y z;rw[t7]at *
  cases i <;> cases j <;> cases k <;> simp_all
 tot:=λa b ⟨i,x⟩ ⟨j,y⟩=>by
  subst x y;rw[t7,t7]
  cases i <;> cases j <;> simp
 as:=λa b ⟨i,x⟩ ⟨j,y⟩ h=>by
  subst x y;rw[t7]at *
  cases i <;> cases j <;> simp_all
theorem t8(l m:List Nat):bZ (.str l) (.str m)=decide (l<m):=by rw[bZ];rfl
theorem Da{i j:List Nat}(h:D.str i=D.str j):i=j:=by
 have a:S i=S j:=V.str.inj (D.sc.inj h);have b:i.toArray=j.toArray:=Str.mk.inj a
 simpa using b
theorem Db:cH xU where
 eq:=λa b ⟨i,x⟩ ⟨j,y⟩=>by subst x y;rw[tJ];exact⟨λh=>by rw[bc h],λh=>za (Da h)⟩
 ok:=λa b ⟨i,x⟩ ⟨j,y⟩=>by subst x y;rw[cN];rfl
 tr:=λa b c ⟨i,x⟩ ⟨j,y⟩ ⟨k,z⟩ h1 h2=>by
  subst x y z;rw[t8]at *;exact za (List.lt_trans (bc h1) (bc h2))
 tot:=λa b ⟨i,x⟩ ⟨j,y⟩=>by
  subst x y;rw[t8,t8];by_cases h:i<j
  ·exact .inr (.inl (za h))
  ·by_cases h':j<i
   ·exact .inr (.inr (za h'))
   ·exact .inl (by rw[List.le_antisymm (List.not_lt.mp h') (List.not_lt.mp h)])
 as:=λa b ⟨i,x⟩ ⟨j,y⟩ h=>by
  subst x y;rw[t8]at *;exact nb (List.lt_asymm (bc h))
def gZ(C:Nat->D->Prop):List D->Prop
 |[]=>True
 |d::r=>C 0 d/\gZ (λi=>C (i+1)) r
theorem t9:∀{C:Nat->D->Prop},(∀i,cH (C i))->∀as bs,gZ C as->gZ C bs->(b9 as bs=true↔as=bs)
 |C,T,[],[],_,_=>by simp[b9]
 |C,T,[],_::_,_,_=>by simp[b9]
 |C,T,_::_,[],_,_=>by simp[b9]
 |C,T,a::as,b::bs,c,d=>by
  rw[b9,jb,(T 0).eq a b c.1 d.1,t9 (λi=>T (i+1)) as bs c.2 d.2];simp
theorem xW:∀{C:Nat->D->Prop},(∀i,cH (C i))->∀as bs,gZ C as->gZ C bs->fR as bs=true
 |C,T,[],[],_,_=>by simp[fR]
 |C,T,[],_::_,_,_=>by simp[fR]
 |C,T,_::_,[],_,_=>by simp[fR]
 |C,T,a::as,b::bs,c,d=>by rw[fR,(T 0).ok a b c.1 d.1,xW (λi=>T (i+1)) as bs c.2 d.2];rfl
theorem xX:∀{C:Nat->D->Prop},(∀i,cH (C i))->∀as bs,gZ C as->gZ C bs->as=bs\/cM as bs=true\/cM bs as=true
 |C,T,[],[],_,_=>.inl rfl
 |C,T,[],_::_,_,_=>.inr (.inl (by rw[cM]))
 |C,T,_::_,[],_,_=>.inr (.inr (by rw[cM]))
 |C,T,a::as,b::bs,c,d=>by
  by_cases e:a=b
  ·subst e
   have h:=((T 0).eq a a c.1 c.1).mpr rfl;rw[cM,cM,h,da rfl,da rfl];rcases xX (λi=>T (i+1)) as bs c.2 d.2 with z|z|z
   ·exact .inl (by rw[z])
   ·exact .inr (.inl z)
   ·exact .inr (.inr z)
  ·have f:¬bG a b=true:=λz=>e (((T 0).eq a b c.1 d.1).mp z)
   have g:¬bG b a=true:=λz=>e (((T 0).eq b a d.1 c.1).mp z).symm
   rw[cM,cM,qa f,qa g];rcases(T 0).tot a b c.1 d.1 with z|z|z
   ·exact absurd z e
   ·exact .inr (.inl z)
   ·exact .inr (.inr z)
theorem xY:∀{C:Nat->D->Prop},(∀i,cH (C i))->∀as bs,gZ C as->gZ C bs->cM as bs=true->cM bs as=false
 |C,T,[],[],_,_,h=>by rw[cM]at h;cases h
 |C,T,[],_::_,_,_,_=>by rw[cM]
 |C,T,_::_,[],_,_,h=>by rw[cM]at h;cases h
 |C,T,a::as,b::bs,c,d,h=>by
  by_cases e:a=b
  ·subst e
   have f:=((T 0).eq a a c.1 c.1).mpr rfl;rw[cM,f,da rfl]at h ⊢;exact xY (λi=>T (i+1)) as bs c.2 d.2 h
  ·have g:¬bG a b=true:=λz=>e (((T 0).eq a b c.1 d.1).mp z)
   have j:¬bG b a=true:=λz=>e (((T 0).eq b a d.1 c.1).mp z).symm
   rw[cM,qa g]at h;rw[cM,qa j];exact(T 0).as a b c.1 d.1 h
open Classical in
theorem xZ:∀{C:Nat->D->Prop},(∀i,cH (C i))->∀as bs f,gZ C as->gZ C bs->gZ C f->cM as bs=true->cM bs f=true->cM as f=true
 |C,T,as,[],f,_,_,_,h,h'=>by cases as <;> (rw[cM]at h;cases h)
 |C,T,as,b::bs,[],_,_,_,h,h'=>by rw[cM]at h';cases h'
 |C,T,[],b::bs,c::f,_,_,_,h,h'=>by rw[cM]
 |C,T,a::as,b::bs,c::f,g,j,l,h,h'=>by
  have d:∀x y,C 0 x->C 0 y->∀p q:Bool,(if bG x y=true then p else q)=if x=y then p else q:=λx y n o p q=>by
   by_cases e:x=y
   ·rw[da (((T 0).eq x y n o).mpr e),da e]
   ·rw[qa (λz=>e (((T 0).eq x y n o).mp z)),qa e]
  rw[cM,d a b g.1 j.1]at h;rw[cM,d b c j.1 l.1]at h';rw[cM,d a c g.1 l.1];by_cases e1:a=b
  ·subst e1
   rw[da rfl]at h;by_cases e2:a=c
   ·subst e2
    rw[da rfl]at h' ⊢;exact xZ (λi=>T (i+1)) as bs f g.2 j.2 l.2 h h'
   ·rw[qa e2]at h' ⊢;exact h'
  ·rw[qa e1]at h
   by_cases e2:b=c
   ·subst e2
    rw[qa e1];exact h
   ·rw[qa e2]at h'
    have m:=(T 0).tr a b c g.1 j.1 l.1 h h';by_cases r:a=c
    ·subst r;rw[(T 0).irr g.1]at m;cases m
    ·rw[qa r];exact m
def Dc(C:Nat->D->Prop)(d:D):Prop:=∃ds,d=.lst ds/\gZ C ds
def nF(C:Nat->D->Prop)(d:D):Prop:=∃ds,d=.tup ds/\gZ C ds
theorem Mz{C:Nat->D->Prop}(T:∀i,cH (C i)):cH (Dc C) where
 eq:=λa b ⟨i,x,p⟩ ⟨j,y,q⟩=>by subst x y;rw[bG,t9 T i j p q];simp
 ok:=λa b ⟨i,x,p⟩ ⟨j,y,q⟩=>by subst x y;rw[cN];exact xW T i j p q
 tr:=λa b c ⟨i,x,p⟩ ⟨j,y,q⟩ ⟨k,z,r⟩ h1 h2=>by subst x y z;rw[bZ]at *;exact xZ T i j k p q r h1 h2
 tot:=λa b ⟨i,x,p⟩ ⟨j,y,q⟩=>by
  subst x y;rw[bZ,bZ];rcases xX T i j p q with z|z
  ·exact .inl (by rw[z])
  ·exact .inr z
 as:=λa b ⟨i,x,p⟩ ⟨j,y,q⟩ h=>by subst x y;rw[bZ]at *;exact xY T i j p q h
theorem uc{C:Nat->D->Prop}(T:∀i,cH (C i)):cH (nF C) where
 eq:=λa b ⟨i,x,p⟩ ⟨j,y,q⟩=>by subst x y;rw[bG,t9 T i j p q];simp
 ok:=λa b ⟨i,x,p⟩ ⟨j,y,q⟩=>by subst x y;rw[cN];exact xW T i j p q
 tr:=λa b c ⟨i,x,p⟩ ⟨j,y,q⟩ ⟨k,z,r⟩ h1 h2=>by subst x y z;rw[bZ]at *;exact xZ T i j k p q r h1 h2
 tot:=λa b ⟨i,x,p⟩ ⟨j,y,q⟩=>by
  subst x y;rw[bZ,bZ];rcases xX T i j p q with z|z
  ·exact .inl (by rw[z])
  ·exact .inr z
 as:=λa b ⟨i,x,p⟩ ⟨j,y,q⟩ h=>by subst x y;rw[bZ]at *;exact xY T i j p q h
theorem Dd{C:D->Prop}:∀{ds:List D},(∀d∈ds,C d)->gZ (λ_=>C) ds
 |[],_=>ug
 |d::r,h=>⟨h d va,Dd λe a=>h e (la _ a)⟩
end L2
namespace K22
open PySem L2
def f_q1e:ao->aT :=
  (aO (bK (tE (e2 dF (eC (.str [124])) (al 0))) (bH (au 0)) bQ)
  (aO (a0 1 (eM "str" qx (al 0) (aC (eC (.str [124])) aN)))
  (bH (e2 bS (e2 bS (b6 (al 0) (oS (e2 bS (al 1) (eC (.int 1)))) oN) (eC (.str [44,32]))) (b6 (al 0) oN (oS (al 1)))))))
def nG:List D->Option D:=bX 1 2 f_q1e
def f_q1c:ao->aT :=
  (bH (eM "str" sR (eM "str" qy (eC (.str [])) (aC (eL (dV 1 [] (iE (bv 1 nG (aC (au 0) aN))) (gN 0) (tE (e2 ee (al 0) (eC (.str LF)))) (au 0))) aN)) aN))
def qT:List D->Option D:=bX 1 1 f_q1c
def f_q21:ao->aT :=
  (bH (eL (dV 1 [] (iE (al 0)) (gN 0) (λ_=>some true) (eN bP (aC (bv 1 qT (aC (au 0) aN)) (aC (bv 1 nG (aC (au 0) aN)) aN))))))
def d5:List D->Option D:=bX 1 1 f_q21
def f_q1f:ao->aT :=
  (bH (qQ wG wG K9 (eC (.int 0)) (e2 aJ (al 0) (eC (.int 1))) (e2 aJ (al 0) (eC (.int 2))) (al 1)))
def qU:List D->Option D:=bX 2 2 f_q1f
def f_q1a:ao->aT :=
  (bH (eN wJ (aC (eN wI (aC (al 0) aN)) aN)))
def kN:List D->Option D:=bX 1 1 f_q1a
def f_q11:ao->aT :=
  (bH (eN bP (aC (bv 1 d5 (aC (e2 aJ (al 0) (eC (.int 0))) aN)) (aC (e2 aJ (al 0) (eC (.int 1))) (aC (e2 aJ (al 0) (eC (.int 2))) (aC (e2 aJ (al 0) (eC (.int 3))) aN))))))
def kl:List D->Option D:=bX 1 1 f_q11
def f_q1b:ao->aT :=
  (l8 1 (fD (iE (au 0)) (gN 2) (fD (iE (au 2)) (gT 4 (bA (gN 3) (bA (gN 4) (bA (gN 5) (bA (gN 6) cX))))) (nA [2,0,0,1] (eN bP (aC (bv 1 kN (aC (au 3) aN)) (aC (au 4) (aC (au 5) (aC (au 6) aN)))))))) kl)
def qV:List D->Option (List D):=h9 1 7 f_q1b
def f_q14:ao->aT :=
  (bH (eN bP (aC (bv 1 d5 (aC (e2 aJ (al 0) (eC (.int 0))) aN)) (aC (e2 aJ (al 0) (eC (.int 2))) (aC (bv 1 d5 (aC (e2 aJ (al 0) (eC (.int 1))) aN)) aN)))))
def kO:List D->Option D:=bX 1 1 f_q14
def f_q8:ao->aT :=
  (l8 1 (fD (iE (au 0)) (gN 2) (fD (iE (au 2)) (gT 3 (bA (gN 3) (bA (gN 4) (bA (gN 5) cX)))) (nA [2,2,1] (eN bP (aC (bv 1 kN (aC (au 3) aN)) (aC (bv 1 kN (aC (au 4) aN)) (aC (au 5) aN))))))) kO)
def i5:List D->Option (List D):=h9 1 6 f_q8
def f_q1:ao->aT :=
  (mj 1 (j8 (iE (au 0)) (gT 3 (bA (gN 2) (bA (gN 3) (bA (gN 4) cX)))) (o8 (cL (tE (au 4))) (jL (al 2) (au 3)) o5)))
def nH:List D->Option D:=bX 1 5 f_q1
def f_q3:ao->aT :=
  (aO (oR 1 (.dt [] []))
  (aO (d4 (iE (au 0)) (gT 2 (bA (gN 2) (bA (gN 3) cX))) (jJ 1 (al 2) (e2 fA (eN cF (aC (al 3) aN)) (eC (.int 0)))))
  (qH 1 (bH (au 1)))))
def nI:List D->Option D:=bX 1 4 f_q3
def f_qc:ao->aT :=
  (aO (a0 1 (eM "list" fK (al 0) (aC (xR d5 (au 0)) aN)))
  (bH (e2 bS (b6 (al 0) (oS (al 1)) oN) (b6 (al 0) oN (oS (al 1))))))
def nJ:List D->Option D:=bX 1 2 f_qc
def f_q5:ao->aT :=
  (aO (bK (tE (e2 bR (al 1) (al 0))) j6 bQ)
  (aO (bK (bV (cL (tE (au 2))) (tE (j0 (al 3) (al 0) (eC (.bl false))))) j6 bQ)
  (bK (bV (cL (tE (au 2))) (tE (e2 fA (eN cF (aC (e2 c0 (al 4) (al 0)) aN)) (eC (.int 1))))) j6 bQ)))
def ml:List D->Option D:=bX 5 5 f_q5
def De:ao->Option D :=
  (fC (bK (tE (e2 bR (al 1) (al 0))) j6 bQ) (jY (tE (e2 bR (al 1) (al 0))) (qB "SentHere" ["path"] (aC (au 0) aN)) gv)
  (fC (bK (bV (cL (tE (au 2))) (tE (j0 (al 3) (al 0) (eC (.bl false))))) j6 bQ) (jY (bV (cL (tE (au 2))) (tE (j0 (al 3) (al 0) (eC (.bl false))))) (qB "Both" ["path"] (aC (au 0) aN)) gv)
  (jY (bV (cL (tE (au 2))) (tE (e2 fA (eN cF (aC (e2 c0 (al 4) (al 0)) aN)) (eC (.int 1))))) (qB "TwoWays" ["path"] (aC (au 0) aN)) gv)))
def pe:List D->Option D:=m9 5 5 De
def f_q19:ao->aT :=
  (bH (b6 (al 0) (oS (eM "list" fK (al 0) (aC (e2 aJ (al 0) (e1 cv (eC (.int 1)))) aN))) (oS (e1 cv (eC (.int 1))))))
def kP:List D->Option D:=bX 1 1 f_q19
def f_q7:ao->aT :=
  (aO (gq 2 (gS (aC (au 0) aN)))
  (aO (oR 3 (.dt [] []))
  (aO (sW (λ _=>1000) (bV (tE (e2 ee (e2 aJ (al 2) (e1 cv (eC (.int 1)))) (al 1))) (tE (e2 dF (e2 aJ (al 2) (e1 cv (eC (.int 1)))) (al 3)))) (aO (jJ 3 (e2 aJ (al 2) (e1 cv (eC (.int 1)))) (eC (.bl true)))
  (dY 2 (e2 aJ (e2 c0 (al 1) (e2 aJ (al 2) (e1 cv (eC (.int 1))))) (eC (.int 0))))))
  (fV 2 (bH (au 2))))))
def nK:List D->Option D:=bX 2 4 f_q7
def f_qd:ao->aT :=
  (aO (a0 3 (e2 aJ (al 0) (eC (.int 0))))
  (aO (a0 4 (e2 aJ (al 0) (eC (.int 1))))
  (aO (a0 5 (e2 aJ (al 0) (eC (.int 2))))
  (aO (fU (bv 5 ml (aC (au 3) (aC (au 4) (aC (au 5) (aC (au 1) (aC (au 2) aN)))))))
  (aO (a0 6 (bv 2 nK (aC (au 4) (aC (au 2) aN))))
  (aO (a0 7 (bv 1 kP (aC (au 6) aN)))
  (aO (bK (tE (e2 fA (eN cF (aC (al 7) aN)) (eC (.int 0)))) j6 bQ)
  (aO (a0 8 (e2 aJ (al 6) (e1 cv (eC (.int 1)))))
  (aO (bK (dA (tE (e2 dF (al 8) (al 1))) (dA (bV (tE (au 5)) (tE (e2 dF (al 3) (al 1)))) (tE (e2 bR (al 8) (al 3))))) j6 bQ)
  (bH (eN bP (aC (au 3) (aC (au 4) (aC (au 5) (aC (au 8) (aC (eN cF (aC (al 6) aN)) aN))))))))))))))))
def kr:List D->Option D:=bX 3 9 f_qd
def Dg:ao->Option D :=
  (fC (a0 3 (e2 aJ (al 0) (eC (.int 0)))) gv
  (fC (a0 4 (e2 aJ (al 0) (eC (.int 1)))) gv
  (fC (a0 5 (e2 aJ (al 0) (eC (.int 2)))) gv
  (fC (fU (bv 5 ml (aC (au 3) (aC (au 4) (aC (au 5) (aC (au 1) (aC (au 2) aN))))))) (lZ 5 pe (aC (au 3) (aC (au 4) (aC (au 5) (aC (au 1) (aC (au 2) aN))))))
  (fC (a0 6 (bv 2 nK (aC (au 4) (aC (au 2) aN)))) gv
  (fC (a0 7 (bv 1 kP (aC (au 6) aN))) gv
  (fC (bK (tE (e2 fA (eN cF (aC (al 7) aN)) (eC (.int 0)))) j6 bQ) (jY (tE (e2 fA (eN cF (aC (al 7) aN)) (eC (.int 0)))) (xQ "Ring" "ring" (aC (bv 1 nJ (aC (au 7) aN)) aN)) gv)
  (fC (a0 8 (e2 aJ (al 6) (e1 cv (eC (.int 1))))) gv
  (jY (dA (tE (e2 dF (al 8) (al 1))) (dA (bV (tE (au 5)) (tE (e2 dF (al 3) (al 1)))) (tE (e2 bR (al 8) (al 3))))) (qB "Nowhere" ["path","goal"] (aC (au 3) (aC (au 4) aN))) gv)))))))))
def nL:List D->Option D:=m9 3 9 Dg
def f_q20:ao->aT :=
  (aO (a0 2 (eL (gu 1 i5 (aC (eN dU (aC (au 1) aN)) aN))))
  (aO (a0 3 (bv 1 nI (aC (au 0) aN)))
  (aO (a0 4 (bv 1 nH (aC (au 2) aN)))
  (bH (eL (dV 1 [3,4] (iE (al 2)) (gN 0) (λ_=>some true) (bv 3 kr (aC (au 0) (aC (au 1) (aC (au 2) aN))))))))))
def mq:List D->Option D:=bX 2 5 f_q20
def Dh:ao->Option D :=
  (fC (a0 2 (eL (gu 1 i5 (aC (eN dU (aC (au 1) aN)) aN)))) gv
  (fC (a0 3 (bv 1 nI (aC (au 0) aN))) gv
  (fC (a0 4 (bv 1 nH (aC (au 2) aN))) gv
  (xO 1 [3,4] (iE (al 2)) (gN 0) (bv 3 kr (aC (au 0) (aC (au 1) (aC (au 2) aN)))) (lZ 3 nL (aC (au 0) (aC (au 1) (aC (au 2) aN))))))))
def nM:List D->Option D:=m9 2 5 Dh
def f_q1d:ao->aT :=
  (aO (gq 3 (gS aN))
  (aO (a0 4 (au 2))
  (aO (a0 5 (eC (.int 0)))
  (aO (d4 (iE (au 0)) (gN 6) (aO (bK (bV (tE (e2 fA (al 5) (eC (.int 0)))) (dA (tE (au 6)) (tE (e2 qs (al 5) (al 1))))) (aO (a0 4 (e2 bS (al 4) (eC (.int 1))))
  (a0 5 (eC (.int 0)))) bQ)
  (aO (a0 5 (e2 bS (al 5) (eC (.int 1))))
  (dY 3 (au 4)))))
  (fV 3 (bH (au 3)))))))
def ur:List D->Option D:=bX 3 7 f_q1d
def f_q18:ao->aT :=
  (bH (eT (bV (tE (e2 bR (e2 bS (e2 aJ (al 0) (eC (.int 1))) (eC (.int 1))) (al 1))) (tE (e2 bR (e2 aJ (al 0) (eC (.int 2))) (al 2))))))
def pk:List D->Option D:=bX 3 3 f_q18
def f_q0:ao->aT :=
  (aO (oR 2 (.dk [] []))
  (aO (d4 (iE (au 1)) (gT 4 (bA (gN 3) (bA (gN 4) (bA (gN 5) (bA (gN 6) cX))))) (d4 (iE (b6 (al 0) (oS (al 4)) (oS (e2 bS (al 5) (eC (.int 1)))))) (gN 7) (jJ 2 (al 7) (eT (dA (tE (au 6)) (tE (j0 (al 2) (al 7) (eC (.bl false)))))))))
  (qH 2 (bH (au 2)))))
def ut:List D->Option D:=bX 2 8 f_q0
def f_qe:ao->aT :=
  (aO (a0 2 (bv 2 ut (aC (au 0) (aC (au 1) aN))))
  (aO (gq 3 (gS aN))
  (aO (d4 (iE (eL (wN qF (aC (al 2) aN)))) (gN 4) (bK (bV (tE (e2 fA (eN cF (aC (al 3) aN)) (eC (.int 0)))) (tE (bv 3 pk (aC (e2 aJ (al 3) (e1 cv (eC (.int 1)))) (aC (au 4) (aC (e2 c0 (al 2) (al 4)) aN)))))) (oX 3 (e1 cv (eC (.int 1))) (eN bP (aC (e2 aJ (e2 aJ (al 3) (e1 cv (eC (.int 1)))) (eC (.int 0))) (aC (au 4) (aC (e2 c0 (al 2) (al 4)) aN))))) (dY 3 (eN bP (aC (au 4) (aC (au 4) (aC (e2 c0 (al 2) (al 4)) aN)))))))
  (fV 3 (bH (au 3))))))
def uu:List D->Option D:=bX 2 5 f_qe
def f_q2:ao->aT :=
  (mj 1 (j8 (iE (au 0)) (gN 2) (o7 (tS 3 (e2 aJ (al 2) (eC (.int 0))))
  (o7 (j8 (iR lV (aC (eC (.int 1)) (aC (eN cF (aC (al 3) aN)) aN))) (gN 4) (nC (b6 (al 3) oN (oS (al 4)))))
  (jL (al 3) (au 2))))))
def uv:List D->Option D:=bX 1 5 f_q2
def f_q4:ao->aT :=
  (d4 (iE (au 0)) (gN 2) (bK (cL (tE (bv 2 qU (aC (au 2) (aC (au 1) aN))))) j6 bQ))
def uw:List D->Option D:=bX 2 3 f_q4
def f_q16:ao->aT :=
  (aO (a0 4 (eL (gu 1 qV (aC (eN dU (aC (au 3) aN)) aN))))
  (aO (fU (bv 2 uw (aC (au 4) (aC (eN cF (aC (al 0) aN)) aN))))
  (aO (a0 5 (bv 3 ur (aC (au 0) (aC (au 1) (aC (au 2) aN)))))
  (aO (a0 6 (bv 1 uv (aC (au 4) aN)))
  (bH (eL (dV 1 [5,6] (iE (eL (CO d5 (al 6)))) (gN 0) (λ_=>some true) (eN bP (aC (au 0) (aC (bv 2 uu (aC (au 1) (aC (e2 c0 (al 2) (al 0)) aN))) aN))))))))))
def ux:List D->Option D:=bX 4 7 f_q16
def f_q6:ao->aT :=
  (aO (bK (tE (e2 qw (al 1) (eN cF (aC (al 0) aN)))) (bH (e2 aJ (al 0) (al 1))) bQ)
  (bH (eC (.int 0))))
def nP:List D->Option D:=bX 2 2 f_q6
def f_q9:ao->aT :=
  (aO (a0 2 (eC (.str SG)))
  (aO (a0 3 (eC (.str [])))
  (aO (d4 (iR lx (aC (e2 bS (eC (.int 1)) (e2 dC (al 0) (eC (.int 3)))) aN)) (gN 4) (a0 3 (e2 bS (al 3) (e2 aJ (al 2) (e2 dC (e2 bS (e2 d3 (al 0) (e2 bS (al 4) (eC (.int 5)))) (e2 jU (e2 jU (eC (.int 7)) (al 4)) (al 4))) (eC (.int 63)))))))
  (aO (a0 5 (e2 dC (e2 d3 (al 0) (eC (.int 15))) (e2 bS (eN cF (aC (al 3) aN)) (eC (.int 1)))))
  (aO (a0 6 (e2 bS (e2 bS (b6 (al 3) oN (oS (al 5))) (eN qJ (aC (e2 d3 (al 1) (eC (.int 2))) aN))) (b6 (al 3) (oS (al 5)) oN)))
  (aO (a0 7 (e2 dC (e2 bS (e2 d3 (al 0) (eC (.int 240))) (e2 d3 (al 1) (eC (.int 2)))) (eC (.int 6))))
  (aO (bK (tE (e2 bR (al 7) (eC (.int 1)))) (a0 6 (e2 bS (e2 bS (al 6) (eC (.str [124]))) (al 3))) bQ)
  (aO (bK (tE (e2 bR (al 7) (eC (.int 5)))) (a0 6 (e2 bS (e2 bS (e2 bS (e2 bS (al 6) (eC (.str [124]))) (b6 (al 3) oN (oS (eC (.int 3))))) (eC (.str [32]))) (b6 (al 3) oN (oS (eC (.int 3)))))) bQ)
  (aO (bK (tE (e2 bR (al 7) (eC (.int 2)))) (a0 6 (e2 bS (e2 bS (al 3) (eC (.str [32]))) (al 6))) bQ)
  (aO (bK (tE (e2 bR (al 7) (eC (.int 3)))) (a0 6 (e2 bS (eC (.str [45])) (al 6))) bQ)
  (aO (bK (tE (e2 bR (e2 dC (al 1) (eC (.int 2))) (eC (.int 1)))) (bH (e2 bS (al 6) (eC (.str [45])))) bQ)
  (bH (au 6)))))))))))))
def pu:List D->Option D:=bX 2 8 f_q9
def f_qf:ao->aT :=
  (aO (a0 1 (eL (dV 1 [0] (iR lx (aC (eC (.int 5)) aN)) (gN 0) (λ _=>some true) (bv 2 pu (aC (au 1) (aC (au 0) aN))))))
  (aO (a0 2 (eN dU (aC (eN bP (aC (e2 aJ (al 1) (eC (.int 0))) aN)) (aC (eN bP (aC (e2 aJ (al 1) (eC (.int 1))) aN)) (aC (eN bP (aC (e2 aJ (al 1) (eC (.int 0))) (aC (e2 aJ (al 1) (eC (.int 1))) aN))) (aC (eN bP (aC (e2 aJ (al 1) (eC (.int 2))) aN)) (aC (eN bP (aC (e2 aJ (al 1) (eC (.int 2))) (aC (e2 aJ (al 1) (eC (.int 0))) aN))) (aC (eN bP (aC (e2 aJ (al 1) (eC (.int 3))) aN)) aN))))))))
  (bH (e2 bS (al 2) (eN dU (aC (eN bP (aC (e2 aJ (al 1) (eC (.int 1))) (aC (e2 aJ (al 1) (eC (.int 3))) (aC (e2 aJ (al 1) (eC (.int 1))) aN)))) (aC (eN bP (aC (e2 aJ (al 1) (eC (.int 0))) (aC (e2 aJ (al 1) (eC (.int 2))) aN))) (aC (eN bP (aC (e2 aJ (al 1) (eC (.int 4))) aN)) (aC (eN bP (aC (e2 aJ (al 1) (eC (.int 3))) (aC (e2 aJ (al 1) (eC (.int 4))) aN))) aN)))))))))
def uy:List D->Option D:=bX 1 3 f_qf
def f_q13:ao->aT :=
  (aO (gq 3 (gS aN))
  (aO (d4 (iE (b6 (al 0) oN (oS (al 2)))) (gN 4) (aO (a0 5 (e2 dC (e2 jU (al 4) (eC (.int 1583458089))) (eC (.int 2147483647))))
  (dY 3 (eN bP (aC (e2 aJ (al 1) (e2 dC (al 5) (eC (.int 10)))) (aC (e2 aJ (al 1) (e2 dC (e2 d3 (al 5) (eC (.int 10))) (eC (.int 10)))) (aC (e2 bR (e2 dC (e2 d3 (al 5) (eC (.int 100))) (eC (.int 3))) (eC (.int 0))) aN)))))))
  (fV 3 (bH (au 3)))))
def uz:List D->Option D:=bX 3 6 f_q13
def f_qa:ao->aT :=
  (aO (oR 1 (.dt [] []))
  (aO (d4 (iE (au 0)) (gT 3 (bA (gN 2) (bA (gN 3) (bA (gN 4) cX)))) (bK (bV (cL (tE (au 4))) (tE (e2 dF (al 2) (al 1)))) (jJ 1 (al 2) (au 3)) bQ))
  (qH 1 (bH (au 1)))))
def qW:List D->Option D:=bX 1 5 f_qa
def f_q17:ao->aT :=
  (aO (d4 (iE (au 1)) (gT 3 (bA (gN 2) (bA (gN 3) (bA (gN 4) cX)))) (bK (bV (cL (tE (au 4))) (bV (cL (tE (e2 aJ (al 0) (eC (.int 2))))) (bV (tE (e2 bR (al 2) (e2 aJ (al 0) (eC (.int 0))))) (tE (e2 fQ (al 3) (e2 aJ (al 0) (eC (.int 1)))))))) (bH (eC (.bl true))) bQ))
  (bH (eC (.bl false))))
def qX:List D->Option D:=bX 2 5 f_q17
def f_q12:ao->aT :=
  (aO (a0 2 (b6 (al 0) (oS (eM "list" fK (al 0) (aC (al 1) aN))) oN))
  (aO (a0 3 (eL (dV 1 [] (iE (al 2)) (gN 0) (λ _=>some true) (bv 1 d5 (aC (au 0) aN)))))
  (aO (a0 4 (eM "list" fK (al 3) (aC (eN o0 (aC (al 3) aN)) aN)))
  (bH (eN bP (aC (eC (.str [114,105,110,103])) (aC (e2 bS (b6 (al 2) (oS (al 4)) oN) (b6 (al 2) oN (oS (al 4)))) aN)))))))
def qY:List D->Option D:=bX 2 5 f_q12
def f_q15:ao->aT :=
  (aO (iW (gT 3 (bA (gN 4) (bA (gN 5) (bA (gN 6) cX)))) (au 0))
  (aO (bK (tE (e2 bR (al 4) (al 5))) (bH (eN bP (aC (eC (.str [104,101,114,101])) (aC (au 4) aN)))) bQ)
  (aO (bK (bV (cL (tE (au 6))) (tE (e2 ee (al 4) (al 3)))) (bH (eN bP (aC (eC (.str [98,111,116,104])) (aC (au 4) aN)))) bQ)
  (aO (bK (tE (bv 2 qX (aC (au 0) (aC (au 1) aN)))) (bH (eN bP (aC (eC (.str [116,119,111])) (aC (au 4) aN)))) bQ)
  (aO (a0 7 (bv 1 qW (aC (au 1) aN)))
  (aO (gq 8 (gS (aC (au 5) aN)))
  (aO (sW (λ _=>1000) (tE (e2 ee (e2 aJ (al 8) (e1 cv (eC (.int 1)))) (al 7))) (aO (bK (tE (e2 ee (e2 c0 (al 7) (e2 aJ (al 8) (e1 cv (eC (.int 1))))) (al 8))) (fV 8 (bH (bv 2 qY (aC (au 8) (aC (e2 c0 (al 7) (e2 aJ (al 8) (e1 cv (eC (.int 1))))) aN))))) bQ)
  (dY 8 (e2 c0 (al 7) (e2 aJ (al 8) (e1 cv (eC (.int 1))))))))
  (aO (bK (dA (tE (e2 dF (e2 aJ (al 8) (e1 cv (eC (.int 1)))) (al 2))) (dA (bV (tE (au 6)) (tE (e2 dF (al 4) (al 2)))) (tE (e2 bR (e2 aJ (al 8) (e1 cv (eC (.int 1)))) (al 4))))) (bH (eN bP (aC (eC (.str [110,111,119,104,101,114,101])) (aC (au 4) (aC (au 5) aN))))) bQ)
  (bH (eN bP (aC (au 4) (aC (au 5) (aC (au 6) (aC (e2 aJ (al 8) (e1 cv (eC (.int 1)))) (aC (eN cF (aC (al 8) aN)) aN)))))))))))))))
def nQ:List D->Option D:=bX 4 9 f_q15
def f_qb:ao->aT :=
  (aO (a0 2 (eC .non))
  (aO (a0 3 (eC .non))
  (aO (oK 3 2 4 2 mq nM (aC (au 0) (aC (au 1) aN)))
  (aO (bK (tE (e2 wQ (al 2) (eC .non))) (bH (au 3)) bQ)
  (aO (a0 5 (eN dU (aC (e1 (jF "Both") (au 2)) (aC (e1 (jF "Nowhere") (au 2)) (aC (e1 (jF "Ring") (au 2)) (aC (e1 (jF "SentHere") (au 2)) aN))))))
  (aO (a0 5 (e2 bS (al 5) (eN dU (aC (e1 (jF "TwoWays") (au 2)) (aC (e1 (jF "NoMark") (au 2)) (aC (e1 (jF "NoRow") (au 2)) aN))))))
  (aO (bK (tE (e2 fQ (eM "list" tX (e2 bS (al 5) (eN dU (aC (e1 (jF "NoText") (au 2)) (aC (e1 (jF "OutOfBook") (au 2)) aN)))) (aC (eC (.bl true)) aN)) (eC (.int 1)))) (bH (eC .non)) bQ)
  (aO (bK (tE (e2 aJ (al 5) (eC (.int 0)))) (bH (eN bP (aC (eC (.str [98,111,116,104])) (aC (e1 (iq "path") (au 2)) aN)))) bQ)
  (aO (bK (tE (e2 aJ (al 5) (eC (.int 1)))) (bH (eN bP (aC (eC (.str [110,111,119,104,101,114,101])) (aC (e1 (iq "path") (au 2)) (aC (e1 (iq "goal") (au 2)) aN))))) bQ)
  (aO (bK (tE (e2 aJ (al 5) (eC (.int 2)))) (bH (eN bP (aC (eC (.str [114,105,110,103])) (aC (e1 (iq "ring") (au 2)) aN)))) bQ)
  (aO (bK (tE (e2 aJ (al 5) (eC (.int 3)))) (bH (eN bP (aC (eC (.str [104,101,114,101])) (aC (e1 (iq "path") (au 2)) aN)))) bQ)
  (bH (eN bP (aC (eC (.str [116,119,111])) (aC (e1 (iq "path") (au 2)) aN)))))))))))))))
def mr:List D->Option D:=bX 2 6 f_qb
def f_q10:ao->aT :=
  (aO (a0 2 (eL (dV 1 [] (iE (al 0)) (gN 0) (λ _=>some true) (e2 aJ (al 0) (eC (.int 0))))))
  (aO (a0 3 (eL (dV 1 [] (iE (al 0)) (gN 0) (tE (e2 fQ (e2 aJ (al 0) (eC (.int 1))) (eN dU aN))) (e2 aJ (al 0) (eC (.int 0))))))
  (aO (a0 4 (eL (gu 1 i5 (aC (eN dU (aC (au 1) aN)) aN))))
  (aO (gq 5 (gS aN))
  (aO (d4 (iE (au 4)) (gN 6) (aO (a0 7 (bv 4 nQ (aC (au 6) (aC (au 4) (aC (au 2) (aC (au 3) aN))))))
  (aO (bK (tE (e1 (oC "str") (e2 aJ (al 7) (eC (.int 0))))) (bH (e2 bR (bv 2 mr (aC (au 0) (aC (au 1) aN))) (al 7))) bQ)
  (dY 5 (au 7)))))
  (bH (e2 bR (bv 2 mr (aC (au 0) (aC (au 1) aN))) (al 5))))))))
def pv:List D->Option D:=bX 2 8 f_q10
def f_q22:ao->aT :=
  (aO (a0 1 (bv 2 nP (aC (au 0) (aC (eC (.int 0)) aN))))
  (aO (a0 2 (bv 1 uy (aC (au 1) aN)))
  (aO (a0 3 (bv 2 nP (aC (au 0) (aC (eC (.int 1)) aN))))
  (aO (gq 4 (gS aN))
  (aO (d4 (iR lx (aC (e2 bS (eC (.int 1)) (e2 dC (al 3) (eC (.int 5)))) aN)) (gN 5) (dY 4 (eN bP (aC (e2 aJ (al 2) (e2 dC (e2 bS (e2 d3 (al 3) (eC (.int 5))) (e2 jU (eC (.int 3)) (al 5))) (eC (.int 8)))) (aC (au 5) (aC (au 5) (aC (e2 bR (e2 dC (e2 d3 (al 3) (eC (.int 40))) (eC (.int 2))) (eC (.int 1))) aN)))))))
  (fV 4 (aO (a0 6 (bv 4 ux (aC (e2 xG (eN dU (aC (eC (.bl false)) aN)) (eC (.int 5))) (aC (eC (.int 2)) (aC (eC (.int 7)) (aC (au 4) aN))))))
  (aO (a0 7 (bv 3 uz (aC (b6 (al 0) (oS (eC (.int 2))) oN) (aC (au 2) (aC (e2 aJ (eN dU (aC (eC (.int 14)) (aC (eC (.int 1)) (aC (eC (.int 2)) (aC (eC (.int 3)) (aC (eC (.int 4)) (aC (eC (.int 6)) aN))))))) (e2 dC (e2 d3 (al 3) (eC (.int 7))) (eC (.int 6)))) aN)))))
  (aO (bK (tE (e2 bR (e2 dC (e2 d3 (al 3) (eC (.int 11))) (eC (.int 4))) (eC (.int 1)))) (a0 7 (e2 bS (eN dU (aC (eN bP (aC (e2 aJ (e2 aJ (al 4) (eC (.int 0))) (eC (.int 0))) (aC (e2 aJ (al 2) (eC (.int 9))) (aC (eC (.bl true)) aN)))) (aC (eN bP (aC (e2 aJ (al 2) (eC (.int 9))) (aC (e2 aJ (e2 aJ (al 4) (eC (.int 0))) (eC (.int 0))) (aC (eC (.bl false)) aN)))) aN))) (b6 (al 7) oN (oS (eC (.int 2)))))) bQ)
  (aO (bK (tE (e2 bR (e2 dC (e2 d3 (al 3) (eC (.int 3))) (eC (.int 2))) (eC (.int 1)))) (a0 7 (eL (wN tN (aC (al 7) aN)))) bQ)
  (bH (eT (bV (tE (bv 2 pv (aC (au 6) (aC (au 7) aN)))) (tE (bv 2 pv (aC (au 6) (aC (b6 (al 7) oN (oS (e1 cv (eC (.int 1))))) aN)))))))))))))))))
def pw:List D->Option D:=bX 1 8 f_q22
end K22
namespace K22
open PySem L2
open PyProof.Rows (lo1)
noncomputable abbrev sh(d:D):Option Sl:=some (.sh d)
theorem x0(p:Int)(n:Nat):gj p (n+1)=.int p::gj (p+1) n:=by
 unfold gj;rw[xp,ja,jc];refine congr (de _ ?_) (zf λk _=>?_)
 ·show D.int (p+((0:Nat):Int))=_;rw[show p+((0:Nat):Int)=p by omega]
 ·show D.int (p+((k+1:Nat):Int))=_;rw[show p+((k+1:Nat):Int)=p+1+(k:Int) by omega]
def eZ(l:List Nat):List Nat:=if 124∈l then l.drop (di 124 l+1)++[44,32]++l.take (di 124 l) else l
theorem Di(l:List Nat)(h:l.length<=1000):nG [.str l]=some (.str (eZ l)):=by
 unfold nG f_q1e eZ;have hz:l.length<=sizeLine:=sz (by omega);by_cases a:124∈l
 ·have b:=AW 124 l a
  have e1:bS (D.int (di 124 l)) (D.int 1)=some (.int ((di 124 l+1:Nat):Int)):=rfl;simp only[bX,h9,dP,aO,bK,a0,gq,iW,fU,bH,mZ,m3,m5,dY,fV,d4,bQ,eC,au,al,L2.e1,L2.e2,eN,aN,aC,tE,bV,dA,cL,eT,b6,oN,oS,jV,fP,eM,eU,bv,m8,gu,eL,gS,wN,dV,gl,iE,iR,gN,gT,bA,cX,ee,dF,bR,fQ,fy,gQ,cF,dU,bP,ja,rg,wb,md,wf,se,List.replicate,vj,Nat.reduceAdd,Nat.reduceSub,Nat.reduceLeDiff,rf,xg,yg,ie,wc,xa,yh,ze,pi,zh,da,qp,xm,reduceIte,vh,pj,zd,reduceCtorEq,pc,jx,jD,wX,a,decide_true,KH 124 l a,e1,BX l _ hz b,wY l _ hz];rw[gW _ _ (sz (by simp;omega))];simp only[bX,h9,dP,aO,bK,a0,gq,iW,fU,bH,mZ,m3,m5,dY,fV,d4,bQ,eC,au,al,L2.e1,L2.e2,eN,aN,aC,tE,bV,dA,cL,eT,b6,oN,oS,jV,fP,eM,eU,bv,m8,gu,eL,gS,wN,dV,gl,iE,iR,gN,gT,bA,cX,ee,dF,bR,fQ,fy,gQ,cF,dU,bP,ja,rg,wb,md,wf,se,List.replicate,vj,Nat.reduceAdd,Nat.reduceSub,Nat.reduceLeDiff,rf,xg,yg,ie,wc,xa,yh,ze,pi,zh,da,qp,xm,reduceIte,vh,pj,zd,reduceCtorEq,pc,jx,jD];rw[gW _ _ (sz (by simp;omega))]
 ·simp only[bX,h9,dP,aO,bK,a0,gq,iW,fU,bH,mZ,m3,m5,dY,fV,d4,bQ,eC,au,al,L2.e1,L2.e2,eN,aN,aC,tE,bV,dA,cL,eT,b6,oN,oS,jV,fP,eM,eU,bv,m8,gu,eL,gS,wN,dV,gl,iE,iR,gN,gT,bA,cX,ee,dF,bR,fQ,fy,gQ,cF,dU,bP,ja,rg,wb,md,wf,se,List.replicate,vj,Nat.reduceAdd,Nat.reduceSub,Nat.reduceLeDiff,rf,xg,yg,ie,wc,xa,yh,ze,pi,zh,da,qp,xm,reduceIte,vh,pj,zd,reduceCtorEq,pc,jx,jD,wX,a,decide_false]
def asc(l:List Nat):Prop:=∀c∈l,c<128
theorem MA{l:List Nat}(h:asc l):asc (eZ l):=by
 unfold eZ;split
 ·intro c hc
  simp only[yc]at hc;rcases hc with(hc|hc)|hc
  ·exact h c (ui hc)
  ·simp at hc;omega
  ·exact h c (ig hc)
 ·exact h
theorem MB{l:List Nat}:(eZ l).length<=l.length+2:=by
 unfold eZ;split
 ·simp;omega
 ·omega
def x3(l:List Nat):List Nat:=((eZ l).filter λc=>decide (c∈LF)).map lo1
theorem MC(l:List Nat):((l.map λc=>[c]).map List.length).sum=l.length:=by
 induction l with
 |nil=>rfl
 |cons a r b=>simp only[ja,List.sum_cons,b,wb,md];omega
theorem MD(l:List Nat):(l.map λc=>[c]).flatten=l:=by
 induction l with
 |nil=>rfl
 |cons a r b=>simp[b]
theorem ME(l:List Nat)(d:asc l)(h:l.length<=1000):qT [.str l]=some (.str (x3 l)):=by
 unfold qT f_q1c x3;have hs:=MB (l:=l)
 have a:eI (gN 0) (tE (e2 ee (al 0) (eC (.str LF)))) (au 0) [none] ((eZ l).map λc=>.str [c])=some (((eZ l).filter λc=>decide (c∈LF)).map λc=>D.str [c]) :=
  tG (λc=>D.str [c]) (λc=>decide (c∈LF)) (λc=>D.str [c]) (eZ l) λc b=>⟨_,rfl,by simp only[bX,h9,dP,aO,bK,a0,gq,iW,fU,bH,mZ,m3,m5,dY,fV,d4,bQ,eC,au,al,L2.e1,L2.e2,eN,aN,aC,tE,bV,dA,cL,eT,b6,oN,oS,jV,fP,eM,eU,bv,m8,gu,eL,gS,wN,dV,gl,iE,iR,gN,gT,bA,cX,ee,dF,bR,fQ,fy,gQ,cF,dU,bP,ja,rg,wb,md,wf,se,List.replicate,vj,Nat.reduceAdd,Nat.reduceSub,Nat.reduceLeDiff,rf,xg,yg,ie,wc,xa,yh,ze,pi,zh,da,qp,xm,reduceIte,vh,pj,zd,reduceCtorEq,pc,jx,jD,wX],λ_=>by simp only[bX,h9,dP,aO,bK,a0,gq,iW,fU,bH,mZ,m3,m5,dY,fV,d4,bQ,eC,au,al,L2.e1,L2.e2,eN,aN,aC,tE,bV,dA,cL,eT,b6,oN,oS,jV,fP,eM,eU,bv,m8,gu,eL,gS,wN,dV,gl,iE,iR,gN,gT,bA,cX,ee,dF,bR,fQ,fy,gQ,cF,dU,bP,ja,rg,wb,md,wf,se,List.replicate,vj,Nat.reduceAdd,Nat.reduceSub,Nat.reduceLeDiff,rf,xg,yg,ie,wc,xa,yh,ze,pi,zh,da,qp,xm,reduceIte,vh,pj,zd,reduceCtorEq,pc,jx,jD]⟩
 have f:((eZ l).filter λc=>decide (c∈LF)).length<=l.length+2:=wd (List.length_filter_le _ _) hs;simp only[bX,h9,dP,aO,bK,a0,gq,iW,fU,bH,mZ,m3,m5,dY,fV,d4,bQ,eC,au,al,L2.e1,L2.e2,eN,aN,aC,tE,bV,dA,cL,eT,b6,oN,oS,jV,fP,eM,eU,bv,m8,gu,eL,gS,wN,dV,gl,iE,iR,gN,gT,bA,cX,ee,dF,bR,fQ,fy,gQ,cF,dU,bP,ja,rg,wb,md,wf,se,List.replicate,vj,Nat.reduceAdd,Nat.reduceSub,Nat.reduceLeDiff,rf,xg,yg,ie,wc,xa,yh,ze,pi,zh,da,qp,xm,reduceIte,vh,pj,zd,reduceCtorEq,pc,jx,jD,Di l h,KG,ba,sz (show (eZ l).length<=100000 by omega),a];have e:(List.map (λc=>D.str [c]) (List.filter (λc=>decide (c∈LF)) (eZ l)))=((List.filter (λc=>decide (c∈LF)) (eZ l)).map λc=>[c]).map D.str:=by rw[jc];rfl
 rw[e,KJ,AZ,MD]
 ·simp only[bX,h9,dP,aO,bK,a0,gq,iW,fU,bH,mZ,m3,m5,dY,fV,d4,bQ,eC,au,al,L2.e1,L2.e2,eN,aN,aC,tE,bV,dA,cL,eT,b6,oN,oS,jV,fP,eM,eU,bv,m8,gu,eL,gS,wN,dV,gl,iE,iR,gN,gT,bA,cX,ee,dF,bR,fQ,fy,gQ,cF,dU,bP,ja,rg,wb,md,wf,se,List.replicate,vj,Nat.reduceAdd,Nat.reduceSub,Nat.reduceLeDiff,rf,xg,yg,ie,wc,xa,yh,ze,pi,zh,da,qp,xm,reduceIte,vh,pj,zd,reduceCtorEq,pc,jx,jD]
  rw[KM]
  ·intro c b
   exact MA d c (jh.mp b).1
  ·exact sz (by omega)
 ·rw[MC]
  simp;omega
theorem Dj:∀c∈SG,c<128/\c≠44/\c≠124/\c≠32:=by decide
theorem Dk:SG.length=63:=rfl
def gd(c:Nat):Prop:=c∈SG\/c=32\/c=124
theorem MF{c:Nat}(h:gd c):c<128:=by
 rcases h with h|h|h
 ·exact(Dj c h).1
 ·omega
 ·omega
theorem MG{c:Nat}(h:gd c):c≠44:=by
 rcases h with h|h|h
 ·exact(Dj c h).2.1
 ·omega
 ·omega
structure uA(l:List Nat):Prop where
 g:∀c∈l,gd c
 len:l.length<=60
 pos:1<=l.length
noncomputable def iF(i:Int):List Nat:=(Str.ofString (toString i)).cps.toList
def Dl(n:Nat):Bool:=(iF (n:Int)).all (λc=>decide (c∈SG)) && decide ((iF (n:Int)).length<=3) && decide (1<=(iF (n:Int)).length)
theorem MH:∀n,n<500->Dl n=true:=by decide
theorem Dm{k:Int}(a:0<=k)(b:k<1000):(∀c∈iF (k / 2),c∈SG)/\(iF (k / 2)).length<=3/\1<=(iF (k / 2)).length:=by
 obtain⟨n,hn⟩:=dg (show 0<=k / 2 by omega);rw[hn]
 have:=MH n (by omega)
 unfold Dl at this;simp only[jb,gh,vc]at this;exact⟨this.1.1,this.1.2,this.2⟩
theorem MJ(i:Int)(h:i.natAbs.log2<1920):qJ [.int i]=some (.str (iF i)):=by
 unfold qJ;dsimp only;rw[da h];show some (D.sc (.str _))=some (D.sc (.str (S (Str.ofString (toString i)).cps.toList)));rw[<-Ig]
def iG(c:Int)(n:Nat):List Nat:=(List.range n).map λ(j:Nat)=>SG.getD ((c / ((j:Int)+5)+7 * (j:Int) * (j:Int)) % 63).toNat 0
def eg(c k:Int)(b:List Nat):List Nat:=b.take (c / 15 % ((b.length:Nat)+1)).toNat++iF (k / 2)++b.drop (c / 15 % ((b.length:Nat)+1)).toNat
noncomputable def i6(c k:Int)(b h:List Nat):List Nat:=if (c / 240+k / 2) % 6=1 then h++[124]++b else if (c / 240+k / 2) % 6=5 then h++[124]++b.take 3++[32]++b.take 3 else if (c / 240+k / 2) % 6=2 then b++[32]++h else if (c / 240+k / 2) % 6=3 then [45]++h else h
def b8(c k:Int):List Nat:=if k % 2=1 then i6 c k (iG c (1+c % 3).toNat) (eg c k (iG c (1+c % 3).toNat))++[45] else i6 c k (iG c (1+c % 3).toNat) (eg c k (iG c (1+c % 3).toNat))
theorem x4(c:Int)(n:Nat):(iG c n).length=n:=by unfold iG;rw[ba,xn]
theorem MK(c:Int)(n:Nat):∀z∈iG c n,z∈SG:=λz hz=>by
 obtain⟨j,_,rfl⟩:=gb.mp hz;have b:=xj (c / ((j:Int)+5)+7 * (j:Int) * (j:Int)) (show (63:Int)≠0 by decide);have d:=ii (c / ((j:Int)+5)+7 * (j:Int) * (j:Int)) (show (0:Int)<63 by decide);generalize (c / ((j:Int)+5)+7 * (j:Int) * (j:Int)) % 63=i at b d;have a:i.toNat<SG.length:=by rw[Dk];omega
 rw[gc,zc a];exact oj a
def ML:ao->aT:=a0 3 (e2 bS (al 3) (e2 aJ (al 2) (e2 dC (e2 bS (e2 d3 (al 0) (e2 bS (al 4) (eC (.int 5)))) (e2 jU (e2 jU (eC (.int 7)) (al 4)) (al 4))) (eC (.int 63)))))
theorem Do(c:Int)(b:Option Sl):∀(n m:Nat) (z:Option Sl),m+n<=1000->∃a,dO (gN 4) ML (gj ((m:Nat):Int) n) [sh (.int c),b,sh (.str SG),sh (.str (iG c m)),z,none,none,none]=.nx [sh (.int c),b,sh (.str SG),sh (.str (iG c (m+n))),a,none,none,none]
 |0,m,z,_=>⟨z,rfl⟩
 |n+1,m,z,h=>by
  obtain⟨a,e⟩:=Do c b n (m+1) (sh (.int (m:Nat))) (by omega);refine⟨a,?_⟩;rw[x0,show ((m:Nat):Int)+1=((m+1:Nat):Int) by omega,show m+(n+1)=m+1+n by omega];refine(iC rfl ?_).trans e;have d:=xj (c / ((m:Int)+5)+7 * (m:Int) * (m:Int)) (show (63:Int)≠0 by decide);have f:=ii (c / ((m:Int)+5)+7 * (m:Int) * (m:Int)) (show (0:Int)<63 by decide)
  have g:iG c (m+1)=iG c m++[SG.getD ((c / ((m:Int)+5)+7 * (m:Int) * (m:Int)) % 63).toNat 0]:=by
   unfold iG;rw[List.range_succ,db];rfl
  have l:aJ (.str SG) (.int ((c / ((m:Int)+5)+7 * (m:Int) * (m:Int)) % 63))=some (.str [SG.getD ((c / ((m:Int)+5)+7 * (m:Int) * (m:Int)) % 63).toNat 0]):=by
   generalize (c / ((m:Int)+5)+7 * (m:Int) * (m:Int)) % 63=i at d f;obtain⟨j,rfl⟩:=dg d;refine KS (sz (by decide)) (lN ?_);have o:j<SG.length:=by rw[Dk];omega
   rw[lg,gc,zc o];rfl
  refine(bM (aI rfl (aI rfl (aI (aI (aI rfl (aI rfl rfl kE) (jH (by omega))) (aI (aI rfl rfl (tH (wZ ⟨by omega,by omega⟩))) rfl (tH (wZ ⟨by omega,by omega⟩))) kE) rfl (gX (by decide))) l) (gW _ _ (sz (by rw[x4];simp;omega))))).trans ?_;rw[g];rfl
theorem Dp{n:Nat}(h:n<=1000000):lx [.int (n:Nat)]=some (gj ((0:Nat):Int) n):=by
 rw[B2 rfl h];unfold gj;refine de some (zf λk _=>?_);show D.int _=D.int _;rw[show ((0:Nat):Int)+(k:Nat)=((k:Nat):Int) by omega]
theorem Dq{b d:List Nat}(n:Nat):(b.take n++d++b.drop n).length=b.length+d.length:=by
 rw[wa,wa,ae,kj];omega
theorem MM(c k:Int)(I:0<=k)(J:k<1000):pu [.int c,.int k]=some (.str (b8 c k)):=by
 have N:=xj c (show (3:Int)≠0 by decide);have O:=ii c (show (0:Int)<3 by decide);obtain⟨n,hn⟩:=dg (show 0<=1+c % 3 by omega);unfold b8;rw[hn,lg];have A:n<=16:=by omega
 obtain⟨r,z⟩:=Do c (sh (.int k)) n 0 none (by omega);rw[rf]at z;have bl:=x4 c n;generalize U:iG c n=b at *;have⟨K,L,M⟩:=Dm I J;have G:=xj (c / 15) (show (((b.length:Nat):Int)+1)≠0 by omega);have P:=ii (c / 15) (show (0:Int)<((b.length:Nat):Int)+1 by omega);unfold eg;have⟨a,s⟩:=dg G;rw[s,lg];have y:a<=b.length:=by omega
 have u:(k / 2).natAbs.log2<1920:=by
  by_cases hz:k / 2=0
  ·rw[hz];decide
  ·exact ub ((Nat.log2_lt (by omega)).mpr (show (k / 2).natAbs<2 ^ 10 by omega)) (by decide)
 have Q:=Dq (b:=b) (d:=iF (k / 2)) a;refine cS rfl (st rfl (st rfl (st (iu (tB (ds:=[.int (n:Nat)]) (aP (aI rfl (aI rfl rfl (gX (by decide))) (kE.trans (by rw[hn]))) rfl) (Dp (by omega))) z) ?_)));refine st (bM (d:=.int (a:Nat)) (aI (aI rfl rfl (jH (by decide))) (aI (bN rfl (show cF [.str b]=some (.int (b.length:Nat)) by unfold cF;dsimp only;rw[kx,da (sz (by omega))])) rfl kE) ((gX (by omega)).trans (by rw[s])))) ?_;refine st (bM (d:=.str (b.take a++iF (k / 2)++b.drop a)) (aI (aI (wY b a (sz (by omega))) (bN (aP (aI rfl rfl (jH (by decide))) rfl) (MJ _ u)) (gW _ _ (sz (by rw[ae];omega)))) (BX b a (sz (by omega)) y) (gW _ _ (sz (by rw[wa,ae,kj];omega))))) ?_;generalize b.take a++iF (k / 2)++b.drop a=h at *;have R:=xj (c / 240+k / 2) (show (6:Int)≠0 by decide);have T:=ii (c / 240+k / 2) (show (0:Int)<6 by decide);refine st (bM (aI (aI (aI rfl rfl (jH (by decide))) (aI rfl rfl (jH (by decide))) kE) rfl (gX (by decide)))) ?_;unfold i6;generalize (c / 240+k / 2) % 6=w at *;have B:∀(x:Int) (e:List Nat),tE (e2 bR (al 7) (eC (.int x))) [sh (.int c),sh (.int k),sh (.str SG),sh (.str b),r,sh (.int (a:Nat)),sh (.str e),sh (.int w)]=some (decide (w=x)):=λx e=>bU (aI rfl rfl (gU l5))
 have H:∀e:List Nat,tE (e2 bR (e2 dC (al 1) (eC (.int 2))) (eC (.int 1))) [sh (.int c),sh (.int k),sh (.str SG),sh (.str b),r,sh (.int (a:Nat)),sh (.str e),sh (.int w)]=some (decide (k % 2=1)):=λe=>bU (aI (aI rfl rfl (gX (by decide))) rfl (gU l5))
 have g:∀e:List Nat,e.length<=1000->aO (bK (tE (e2 bR (e2 dC (al 1) (eC (.int 2))) (eC (.int 1)))) (bH (e2 bS (al 6) (eC (.str [45])))) bQ) (bH (au 6)) [sh (.int c),sh (.int k),sh (.str SG),sh (.str b),r,sh (.int (a:Nat)),sh (.str e),sh (.int w)]=.rt (.str (if k % 2=1 then e++[45] else e)):=λe hl=>by
  have q:=H e;by_cases j:k % 2=1
  ·rw[za j]at q
   rw[da j];exact jG ((eK q).trans (dQ (aI rfl rfl (gW e [45] (sz (by simp;omega))))))
  ·rw[nb j]at q
   rw[qa j];exact st ((cx q).trans rfl) rfl
 have no:∀(x:Int) (e:List Nat) (f:ao->aT),w≠x->bK (tE (e2 bR (al 7) (eC (.int x)))) f bQ [sh (.int c),sh (.int k),sh (.str SG),sh (.str b),r,sh (.int (a:Nat)),sh (.str e),sh (.int w)]=.nx [sh (.int c),sh (.int k),sh (.str SG),sh (.str b),r,sh (.int (a:Nat)),sh (.str e),sh (.int w)]:=λx e f v=>by
  have q:=B x e;rw[nb v]at q;exact(cx q).trans rfl
 have b3:(b.take 3).length<=3:=by rw[ae];omega
 have i:∀(x:Int) (f:ao->aT) (ρ:ao),w=x->f [sh (.int c),sh (.int k),sh (.str SG),sh (.str b),r,sh (.int (a:Nat)),sh (.str h),sh (.int w)]=.nx ρ->bK (tE (e2 bR (al 7) (eC (.int x)))) f bQ [sh (.int c),sh (.int k),sh (.str SG),sh (.str b),r,sh (.int (a:Nat)),sh (.str h),sh (.int w)]=.nx ρ:=λx f ρ E F=>by
  have q:=B x h;rw[za E]at q;exact(eK q).trans F
 by_cases l:w=1
 ·rw[da l]
  refine st (i 1 _ _ l (bM (d:=.str (h++[124]++b)) (aI (aI rfl rfl (gW h [124] (sz (by simp;omega)))) rfl (gW _ b (sz (by simp;omega)))))) ?_;exact st (no 5 _ _ (by omega)) (st (no 2 _ _ (by omega)) (st (no 3 _ _ (by omega)) (g _ (by simp;omega))))
 ·rw[qa l]
  refine st (no 1 _ _ l) ?_;by_cases m:w=5
  ·rw[da m]
   have C:b6 (al 3) oN (oS (eC (.int 3))) [sh (.int c),sh (.int k),sh (.str SG),sh (.str b),r,sh (.int (a:Nat)),sh (.str h),sh (.int w)]=some (.str (b.take 3)):=wY b 3 (sz (by omega));refine st (i 5 _ _ m (bM (d:=.str (h++[124]++b.take 3++[32]++b.take 3)) (aI (aI (aI (aI rfl rfl (gW h [124] (sz (by simp;omega)))) C (gW _ _ (sz (by simp;omega)))) rfl (gW _ [32] (sz (by simp;omega)))) C (gW _ _ (sz (by simp;omega)))))) ?_;exact st (no 2 _ _ (by omega)) (st (no 3 _ _ (by omega)) (g _ (by simp;omega)))
  ·rw[qa m]
   refine st (no 5 _ _ m) ?_;by_cases o:w=2
   ·rw[da o]
    refine st (i 2 _ _ o (bM (d:=.str (b++[32]++h)) (aI (aI rfl rfl (gW b [32] (sz (by simp;omega)))) rfl (gW _ h (sz (by simp;omega)))))) ?_;exact st (no 3 _ _ (by omega)) (g _ (by simp;omega))
   ·rw[qa o]
    refine st (no 2 _ _ o) ?_;by_cases p:w=3
    ·rw[da p]
     exact st (i 3 _ _ p (bM (d:=.str ([45]++h)) (aI rfl rfl (gW [45] h (sz (by simp;omega)))))) (g _ (by simp;omega))
    ·rw[qa p]
     exact st (no 3 _ _ p) (g _ (by omega))
theorem Dr{l:List Nat}(h:∀z∈l,z∈SG):∀z∈l,gd z:=λz hz=>.inl (h z hz)
theorem jN{a b:List Nat}(c:∀z∈a,gd z)(d:∀z∈b,gd z):∀z∈a++b,gd z:=λz hz=>(yc.mp hz).elim (c z) (d z)
theorem x5{c:Nat}(h:gd c):∀z∈[c],gd z:=λz hz=>by rw[yb.mp hz];exact h
theorem qZ(c k:Int)(l:0<=k)(m:k<1000):uA (b8 c k):=by
 have q:=xj c (show (3:Int)≠0 by decide);have s:=ii c (show (0:Int)<3 by decide);obtain⟨n,hn⟩:=dg (show 0<=1+c % 3 by omega);unfold b8 eg;rw[hn,lg];have bl:=x4 c n;have bs:=Dr (MK c n);generalize iG c n=b at *;have⟨j,o,p⟩:=Dm l m;generalize (c / 15 % ((b.length:Nat)+1)).toNat=at';have u:=Dq (b:=b) (d:=iF (k / 2)) at';have e:∀z∈b.take at'++iF (k / 2)++b.drop at',gd z:=jN (jN (λz hz=>bs z (ig hz)) (Dr j)) λz hz=>bs z (ui hz)
 generalize b.take at'++iF (k / 2)++b.drop at'=h at *;have i:∀z∈b.take 3,gd z:=λz hz=>bs z (ig hz)
 have v:(b.take 3).length<=3:=by rw[ae];omega
 have a:=x5 (c:=124) (.inr (.inr rfl));have f:=x5 (c:=32) (.inr (.inl rfl));have g:=x5 (c:=45) (.inl (by decide))
 have r:(∀z∈i6 c k b h,gd z)/\(i6 c k b h).length<=55/\1<=(i6 c k b h).length:=by
  unfold i6;split
  ·exact⟨jN (jN e a) bs,by simp;omega,by simp;omega⟩
  ·split
   ·exact⟨jN (jN (jN (jN e a) i) f) i,by simp;omega,by simp;omega⟩
   ·split
    ·exact⟨jN (jN bs f) e,by simp;omega,by simp;omega⟩
    ·split
     ·exact⟨jN g e,by simp;omega,by simp⟩
     ·exact⟨e,by omega,by omega⟩
 split
 ·exact⟨jN r.1 g,by simp;omega,by simp⟩
 ·exact⟨r.1,by omega,r.2.2⟩
theorem MN{l:List Nat}(h:uA l):asc l:=λc a=>MF (h.g c a)
theorem MO{l:List Nat}(h:uA l):44 ∉ l:=λa=>MG (h.g 44 a) rfl
theorem x6{c:Nat}:∀{a r:List Nat},c ∉ a->di c (a++c::r)=a.length
 |[],r,_=>by simp[di]
 |x::a,r,h=>by
  have b:¬x=c:=λe=>h (by simp[e])
  have d:=x6 (c:=c) (a:=a) (r:=r) (λz=>h (la _ z));show (if x=c then 0 else di c (a++c::r)+1)=a.length+1;rw[qa b,d]
theorem Ds{c:Nat}{l:List Nat}(h:c∈l):l=l.take (di c l)++c::l.drop (di c l+1):=by
 have⟨b,_⟩:=sF c l h;have a:=AW c l h;have e:=jd a
 have e2:l[di c l]=c:=by
  rw[zc a]at b;exact lc b
 rw[e2]at e;rw[<-e,jq]
theorem MP{l m:List Nat}(hl:44 ∉ l)(hm:44 ∉ m)(h:eZ l=eZ m):l=m:=by
 unfold eZ at h;have c:∀{x y:List Nat},44 ∉ x->124∈y->44 ∉ y->x=y.drop (di 124 y+1)++[44,32]++y.take (di 124 y)->False:=λ{x y} d _ _ e=>d (by rw[e];simp)
 by_cases b:124∈l
 ·by_cases a:124∈m
  ·rw[da b,da a]at h
   have i:44 ∉ l.drop (di 124 l+1):=λz=>hl (ui z)
   have j:44 ∉ m.drop (di 124 m+1):=λz=>hm (ui z)
   have e1:=x6 (r:=32::l.take (di 124 l)) i;have e2:=x6 (r:=32::m.take (di 124 m)) j;have h':l.drop (di 124 l+1)++44::32::l.take (di 124 l)=m.drop (di 124 m+1)++44::32::m.take (di 124 m):=by simpa using h
   rw[h',e2]at e1;have⟨f,g⟩:=List.append_inj h' e1.symm;have n:l.take (di 124 l)=m.take (di 124 m):=by simpa using g
   rw[Ds b,Ds a,f,n]
  ·rw[da b,qa a]at h
   exact(c hm b hl h.symm).elim
 ·by_cases a:124∈m
  ·rw[qa b,da a]at h
   exact(c hl a hm h).elim
  ·rw[qa b,qa a]at h
   exact h
def dL(l:List Nat):D:=.tup [.str (x3 l),.str (eZ l)]
theorem MQ(a b c d:List Nat):b9 [.str a,.str b] [.str c,.str d]=(decide (a=c) && decide (b=d)):=by
 simp only[b9,tJ,jm]
theorem MR{l m:List Nat}(hl:44 ∉ l)(hm:44 ∉ m):bG (dL l) (dL m)=decide (l=m):=by
 unfold dL;rw[bG,MQ];by_cases h:l=m
 ·subst h;simp
 ·have:¬eZ l=eZ m:=λz=>h (MP hl hm z)
  simp[h,this]
theorem x8:∀{c bs:List (List Nat)},(∀a∈c,44 ∉ a)->(∀b∈bs,44 ∉ b)->b9 (c.map dL) (bs.map dL)=decide (c=bs)
 |[],[],_,_=>by simp[b9]
 |[],b::bs,_,_=>by simp[b9]
 |a::c,[],_,_=>by simp[b9]
 |a::c,b::bs,f,g=>by
  simp only[ja,b9];rw[MR (f a (by simp)) (g b (by simp)),x8 (λx d=>f x (by simp[d])) (λx d=>g x (by simp[d]))];by_cases e:a=b <;> simp[e]
theorem x9:∀(c bs:List (List Nat)),b9 (c.map D.str) (bs.map D.str)=decide (c=bs)
 |[],[]=>by simp[b9]
 |[],b::bs=>by simp[b9]
 |a::c,[]=>by simp[b9]
 |a::c,b::bs=>by
  simp only[ja,b9];rw[tJ,x9 c bs];by_cases e:a=b <;> simp[e]
theorem yp:∀(c bs:List (List Nat)),fR (c.map dL) (bs.map dL)=true
 |[],_=>by simp[fR]
 |_::_,[]=>by simp[fR]
 |a::c,b::bs=>by
  simp only[ja,fR,yp c bs,jm];unfold dL;rw[cN];simp only[fR,cN,pU,jm]
theorem q0(a:List (List Nat)):bE LV (.lst (a.map dL))=true:=by
 show (a.map dL).all (bE 8)=true;rw[qu,vc];intro x _;rfl
theorem q9(a:List (List Nat)):bE LV (.tup (a.map D.str))=true:=by
 show (a.map D.str).all (bE 8)=true;rw[qu,vc];intro x _;rfl
theorem uB(hs:List (List Nat))(b:∀h∈hs,asc h/\h.length<=1000)(hn:hs.length<=1000):d5 [.tup (hs.map D.str)]=some (.lst (hs.map dL)):=by
 refine cS rfl (dQ (iY (nn (ds:=hs.map D.str) rfl (by rw[ba];exact sz (by omega)) ?_)));exact oQ D.str dL hs λh a=>⟨_,rfl,rfl,bN (aP (cB rfl rfl (ME h (b h a).1 (b h a).2)) (aP (cB rfl rfl (Di h (b h a).2)) rfl)) rfl⟩
theorem Dt(ns:List Int)(k:Nat):nP [.lst (ns.map D.int),.int (k:Nat)]=some (.int (nB ns k)):=by
 have q:tE (e2 qw (al 1) (eN cF (aC (al 0) aN))) [sh (.lst (ns.map D.int)),sh (.int (k:Nat))]=some (decide (((k:Nat):Int)<(ns.length:Nat))):=bU (aI rfl (bN rfl L4) KO)
 cases a:decide (((k:Nat):Int)<(ns.length:Nat)) with
 |true =>
  rw[a]at q;exact cS rfl (jG ((eK q).trans (dQ (aI rfl rfl (L5 (by have:=bc a;omega))))))
 |false =>
  rw[a]at q;refine cS rfl (st ((cx q).trans rfl) (dQ ?_))
  have:nB ns k=0:=by
   unfold nB
   have:=of_decide_eq_false a
   rw[gc,xl (by omega)];rfl
  rw[this];rfl
structure bL(hs:List (List Nat)):Prop where
 g:∀h∈hs,uA h
 len:hs.length<=6
 pos:1<=hs.length
noncomputable def lG(hs:List (List Nat))(f l:Int)(m:Bool):D:=.tup [.tup (hs.map D.str),.int f,.int l,.bl m]
def py(d:D):Prop:=∃hs f l m,bL hs/\d=lG hs f l m
theorem bL.asc{hs:List (List Nat)}(h:bL hs):∀l∈hs,asc l/\l.length<=1000:=λl hl=>⟨MN (h.g l hl),wd (h.g l hl).len (by decide)⟩
theorem bL.nc{hs:List (List Nat)}(h:bL hs):∀l∈hs,44 ∉ l:=λl hl=>MO (h.g l hl)
theorem nR{hs:List (List Nat)}(h:bL hs)(f l:Int)(m:Bool):kl [lG hs f l m]=some (.tup [.lst (hs.map dL),.int f,.int l,.bl m]) :=
 cS rfl (dQ (bN (aP (cB (aP (aI rfl rfl rfl) rfl) rfl (uB hs h.asc (wd h.len (by decide)))) (aP (aI rfl rfl rfl) (aP (aI rfl rfl rfl) (aP (aI rfl rfl rfl) rfl)))) rfl))
abbrev rc:D->Prop:=Dc λ_=>nF λ_=>xU
theorem nT:cH rc:=Mz λ_=>uc λ_=>Db
theorem i7(hs:List (List Nat)):rc (.lst (hs.map dL)):=⟨_,rfl,Dd λd a=>by
 obtain⟨l,_,rfl⟩:=gb.mp a;exact⟨_,rfl,⟨_,rfl⟩,⟨_,rfl⟩,ug⟩⟩
noncomputable def Du:Nat->D->Prop|0=>rc|1=>xS|2=>xS|_=>xT
theorem MS:cH (nF Du):=uc λi=>match i with|0=>nT|1=>C8|2=>C8|_+3=>C9
theorem uC{hs gs:List (List Nat)}(h:bL hs)(g:bL gs)(e:hs.map dL=gs.map dL):hs=gs:=by
 have a:=x8 h.nc g.nc;rw[<-e]at a;have⟨ds,e1,e2⟩:=i7 hs;have e1:hs.map dL=ds:=D.lst.inj e1;have b:=(t9 (C:=λ_=>nF λ_=>xU) (λ_=>uc λ_=>Db) (hs.map dL) (hs.map dL) (by rw[e1];exact e2) (by rw[e1];exact e2)).mpr rfl;rw[b]at a;exact bc a.symm
structure pz(F:List D->Option D)(C Gd:D->Prop):Prop where
 T:cH C
 ex:∀d,Gd d->F [d]=some (rk F d)
 cl:∀d,Gd d->C (rk F d)
 dk:∀d,Gd d->bE LV (rk F d)=true
 kb:∀d,Gd d->iw (rk F d)=false/\nv (rk F d)=true
 inj:∀d e,Gd d->Gd e->rk F d=rk F e->d=e
theorem Dv:pz kl (nF Du) py where
 T:=MS
 ex:=λd ⟨hs,f,l,m,h,e⟩=>by subst e;rw[gy (nR h f l m)];exact nR h f l m
 cl:=λd ⟨hs,f,l,m,h,e⟩=>by subst e;rw[gy (nR h f l m)];exact⟨_,rfl,i7 hs,⟨_,rfl⟩,⟨_,rfl⟩,⟨_,rfl⟩,ug⟩
 dk:=λd ⟨hs,f,l,m,h,e⟩=>by subst e;rw[gy (nR h f l m)];simp[bE,LV,dL]
 kb:=λd ⟨hs,f,l,m,h,e⟩=>by subst e;rw[gy (nR h f l m)];exact⟨rfl,rfl⟩
 inj:=λd e ⟨hs,f,l,m,h,e1⟩ ⟨gs,f',l',m',h',e2⟩ z=>by
  subst e1 e2;rw[gy (nR h f l m),gy (nR h' f' l' m')]at z;have z:=D.tup.inj z;simp only[vk,D.lst.injEq]at z;obtain⟨z1,z2,z3,z4,_⟩:=z
  have:=uC h h' z1
  subst this;unfold lG;rw[z2,z3,z4]
section
variable {F:List D->Option D}{C Gd:D->Prop}(R:pz F C Gd)
include R
theorem pz.ltT{ks:List D}(hg:∀d∈ks,Gd d):qO (dZ F) ks where
 tr:=λa ha b hb c hc h1 h2=>R.T.tr _ _ _ (R.cl a (hg a ha)) (R.cl b (hg b hb)) (R.cl c (hg c hc)) h1 h2
 tot:=λa ha b hb=>by
  rcases R.T.tot _ _ (R.cl a (hg a ha)) (R.cl b (hg b hb)) with z|z
  ·exact .inl (R.inj a b (hg a ha) (hg b hb) z)
  ·exact .inr z
 as:=λa ha b hb h=>R.T.as _ _ (R.cl a (hg a ha)) (R.cl b (hg b hb)) h
theorem pz.kok{ks:List D}(hg:∀d∈ks,Gd d)(nd:ks.Nodup)(sm:ks.length<64):gY F ks where
 ex:=λd hd=>⟨_,R.ex d (hg d hd),R.dk d (hg d hd)⟩
 kd:=.inr λd hd=>R.kb d (hg d hd)
 ok:=λd hd e he=>R.T.ok _ _ (R.cl d (hg d hd)) (R.cl e (hg e he))
 lt:=R.ltT hg
 nd:=nd
 sm:=⟨.inl (by omega),by omega⟩
end
def dd(l:List D):List D:=l.foldl d1 []
theorem yq:∀(l c:List D),c.Nodup->(l.foldl d1 c).Nodup/\∀d,d∈l.foldl d1 c↔d∈c\/d∈l
 |[],c,h=>⟨h,λd=>by simp⟩
 |x::r,c,h=>by
  rw[kh]
  have g:(d1 c x).Nodup/\∀d,d∈d1 c x↔d∈c\/d=x:=by
   unfold d1;split
   ·rename_i f;exact⟨h,λd=>⟨.inl,λz=>z.elim id λe=>by rw[e];exact f⟩⟩
   ·rename_i f;exact⟨ke.mpr ⟨h,by simp,λa i b j e=>f (by rw[yb.mp j]at e;rw[<-e];exact i)⟩,λd=>by simp⟩
  have⟨m,n⟩:=yq r (d1 c x) g.1;refine⟨m,λd=>?_⟩;rw[n,g.2,pb,or_assoc]
theorem kt(l:List D):(dd l).Nodup:=(yq l [] ji).1
theorem g0{l:List D}{d:D}:d∈dd l↔d∈l:=by
 have:=(yq l [] ji).2 d
 simpa [dd] using this
theorem uD:∀{l m:List D},l.Nodup->(∀d∈l,d∈m)->l.length<=m.length
 |[],m,_,_=>be _
 |x::r,m,h,hs=>by
  have h':=uf.mp h;have⟨c,f,e⟩:=List.append_of_mem (hs x va)
  have:=uD (m:=c++f) h'.2 λd b=>by
   have h1:=hs d (la _ b);rw[e]at h1;have a:d≠x:=λz=>h'.1 (by rw[<-z];exact b)
   simp only[yc,pb]at h1 ⊢;rcases h1 with h1|h1|h1
   ·exact .inl h1
   ·exact absurd h1 a
   ·exact .inr h1
  rw[e];simp at this ⊢;omega
theorem MT{F:List D->Option D}{C c:D->Prop}(R:pz F C c){l m:List D}(n:∀d∈l,c d)(h:∀d,d∈l↔d∈m):fW (dZ F) (dd m)=fW (dZ F) (dd l):=by
 have g:∀d∈dd m,c d:=λd e=>n d ((h d).mpr (g0.mp e))
 have i:∀d∈dd l,c d:=λd e=>n d (g0.mp e)
 have T:=R.ltT i;refine Cu T (kt l) ?_ ?_
 ·refine(kH _ _).trans ((List.perm_ext_iff_of_nodup (kt m) (kt l)).mpr λd=>?_)
  rw[g0,g0,h]
 ·have j:=R.ltT g
  have r:=tP j (l:=dd m) (λy o=>o) (kt m);refine List.Pairwise.imp_of_mem (λ{a b} p q f=>?_) r;exact j.as a ((kH _ _).mem_iff.mp p) b ((kH _ _).mem_iff.mp q) f
theorem yr(hs:List (List Nat)):kN [.tup (hs.map D.str)]=some (.tup (hs.map D.str)):=cS rfl (dQ (bN (aP (bN rfl rfl) rfl) rfl))
theorem uE(ks:List D)(d:D):(d1 ks d).length<=ks.length+1:=by unfold d1;split <;> simp
theorem yt(hs:List (List Nat)):(hs.map D.str).all ny=true:=vc.mpr λd a=>by obtain⟨l,_,rfl⟩:=gb.mp a;rfl
theorem MU(hs:List (List Nat))(f l:Int)(m:Bool):gw [2,0,0,1] (lG hs f l m)=true:=by
 simp only[gw,lG,j5,jb,jm];exact⟨yt hs,rfl,rfl,rfl⟩
abbrev ro:D->ao->Option ao:=gT 4 (bA (gN 3) (bA (gN 4) (bA (gN 5) (bA (gN 6) cX))))
abbrev rp:GN:=nA [2,0,0,1] (eN bP (aC (bv 1 kN (aC (au 3) aN)) (aC (au 4) (aC (au 5) (aC (au 6) aN)))))
theorem uF{b:D->ao->Option ao}{f:GN}{d:D}{r:List D}{ρ ρ1 a:ao}{ks ks2:List D}(c:b d ρ=some ρ1)(e:f ρ1 ks=some (a,ks2)):i1 b f (d::r) ρ ks=i1 b f r a ks2:=by
 rw[i1,c,xa,e,xa]
theorem Dx{sg:List Nat}{fk:ao->Option D}{ρ:ao}{ks:List D}{d:D}(h:fk ρ=some d)(a:gw sg d=true)(b:ks.length<=100000):nA sg fk ρ ks=some (ρ,d1 ks d):=by
 unfold nA;rw[h,xa,da ⟨a,b⟩]
theorem Dy(a b:Option Sl):∀(h ks:List D) (c g i j:Option Sl),(∀d∈h,py d)->ks.length+h.length<=100000->∃n o p q,i1 ro rp h [a,none,b,c,g,i,j] ks=some ([a,none,b,n,o,p,q],h.foldl d1 ks)
 |[],ks,c,g,i,j,_,_=>⟨c,g,i,j,rfl⟩
 |d::r,ks,c,g,i,j,s,hl=>by
  obtain⟨hs,f,l,m,_,rfl⟩:=s _ va;rw[wb]at hl;have w:=uE ks (lG hs f l m);obtain⟨n,o,p,q,v⟩:=Dy a b r (d1 ks (lG hs f l m)) (sh (.tup (hs.map D.str))) (sh (.int f)) (sh (.int l)) (sh (.bl m)) (λe u=>s e (la _ u)) (by omega);exact⟨n,o,p,q,(uF rfl (Dx (bN (aP (cB rfl rfl (yr hs)) (aP rfl (aP rfl (aP rfl rfl)))) rfl) (MU hs f l m) (by omega))).trans v⟩
theorem Dz(a:Option Sl):∀(hs:List (List D)) (ks:List D) (b e f g i:Option Sl),(∀d∈hs.flatten,py d)->ks.length+hs.flatten.length<=100000->∃B m n o p,i1 (gN 2) (fD (iE (au 2)) ro rp) (hs.map D.lst) [a,none,b,e,f,g,i] ks=some ([a,none,B,m,n,o,p],hs.flatten.foldl d1 ks)
 |[],ks,b,e,f,g,i,_,_=>⟨b,e,f,g,i,rfl⟩
 |h::r,ks,b,e,f,g,i,q,hl=>by
  rw[ud,wa]at hl
  have z:∀(l c:List D),(l.foldl d1 c).length<=c.length+l.length:=λl=>by
   induction l with
   |nil=>intro c;simp
   |cons x l C=>intro c;rw[kh,wb];have:=C (d1 c x);have:=uE c x;omega
  have A:=z h ks;obtain⟨m,n,o,p,e1⟩:=Dy a (sh (.lst h)) h ks e f g i (λd j=>q d (by rw[ud];exact bf _ j)) (by omega);obtain⟨s,u,v,w,y,e2⟩:=Dz a r (h.foldl d1 ks) (sh (.lst h)) m n o p (λd j=>q d (by rw[ud];exact qc _ j)) (by omega);refine⟨s,u,v,w,y,?_⟩;rw[ja,ud,List.foldl_append,<-e2];refine uF rfl ?_;show fD (iE (au 2)) ro rp [a,none,sh (.lst h),e,f,g,i] ks=_;unfold fD;exact e1
theorem MV{hs:List (List D)}(a:∀d∈hs.flatten,py d)(hl:hs.flatten.length<=10000)(l:(dd hs.flatten).length<64):qV [.lst (hs.map D.lst)]=some (fW (dZ kl) (dd hs.flatten)):=by
 obtain⟨c,f,g,h,i,e⟩:=Dz (sh (.lst (hs.map D.lst))) hs [] none none none none none a (by rw[md];omega);refine BU rfl ?_;have ok:=Dv.kok (λd b=>a d (g0.mp b)) (kt hs.flatten) l;have j:fD (iE (au 0)) (gN 2) (fD (iE (au 2)) ro rp) [sh (.lst (hs.map D.lst)),none,none,none,none,none,none] []=some ([sh (.lst (hs.map D.lst)),none,c,f,g,h,i],dd hs.flatten):=e;show l8 1 (fD (iE (au 0)) (gN 2) (fD (iE (au 2)) ro rp)) kl [sh (.lst (hs.map D.lst)),none,none,none,none,none,none]=_;unfold l8;simp only[wc,ie];rw[j];dsimp only;unfold kI;rw[da ok]
theorem uG:∀{l:List D},(∀d∈l,bG d d=true)->b9 l l=true
 |[],_=>by simp[b9]
 |d::r,h=>by rw[b9,h d va,uG λe a=>h e (la _ a)];rfl
theorem uH{a:Nat}{F:List D->Option (List D)}{b:ao->Option (List D)}{ρ:ao}{ds:List D}{z:List D}(c:b ρ=some ds)(hn:ds.length=a)(d:F ds=some z):gu a F b ρ=some z:=by unfold gu;rw[c];show (if ds.length=a then F ds else none)=_;rw[da hn];exact d
section
variable {κ α:Type}[DecidableEq κ]
theorem el(a:κ×α)(m:List (κ×α))(k:κ):bF (a::m) k=if a.1=k then some a.2 else bF m k:=by
 unfold bF;rw[jf];by_cases h:a.1=k
 ·rw[da h,za h];rfl
 ·rw[qa h,nb h]
theorem uI{m:List (κ×α)}{k:κ}(h:k ∉ m.map Prod.fst):bF m k=none:=by
 induction m with
 |nil=>rfl
 |cons a r b =>
  rw[ja,pb]at h;rw[el,qa (λz=>h (.inl z.symm)),b λz=>h (.inr z)]
theorem rz{m:List (κ×α)}{k:κ}(h:k∈m.map Prod.fst):∃v,bF m k=some v:=by
 induction m with
 |nil=>simp at h
 |cons a r b =>
  rw[el];by_cases e:a.1=k
  ·exact⟨_,da e⟩
  ·rw[qa e]
   rw[ja,pb]at h;exact b (h.resolve_left λz=>e z.symm)
theorem DA(m:List (κ×α))(k:κ):(m.any λb=>decide (b.1=k))=decide (k∈m.map Prod.fst):=by
 induction m with
 |nil=>simp
 |cons a r c =>
  rw[zg,c,ja];by_cases e:a.1=k
  ·simp[e]
  ·have e2:¬k=a.1:=λz=>e z.symm
   simp[e,e2]
theorem lH{m:List (κ×α)}{k:κ}(v:α)(h:k ∉ m.map Prod.fst):eQ m k v=m++[(k,v)]:=by
 unfold eQ;rw[DA,nb h,qa ma]
theorem uJ{m:List (κ×α)}{k:κ}(v:α)(h:k∈m.map Prod.fst):eQ m k v=m.map λkv=>if kv.1=k then (kv.1,v) else kv:=by
 unfold eQ;rw[DA,za h,da rfl]
theorem yu(m:List (κ×α))(k:κ)(v:α):(eQ m k v).map Prod.fst=if k∈m.map Prod.fst then m.map Prod.fst else m.map Prod.fst++[k]:=by
 by_cases h:k∈m.map Prod.fst
 ·rw[uJ v h,da h,jc]
  refine zf λa _=>?_
  show (if a.1=k then (a.1,v) else a).1=a.1
  split <;> rfl
 ·rw[lH v h,qa h,db];rfl
theorem yv(m:List (κ×α))(k k':κ)(v:α):bF (eQ m k v) k'=if k'=k then some v else bF m k':=by
 by_cases h:k∈m.map Prod.fst
 ·rw[uJ v h]
  induction m with
  |nil=>simp at h
  |cons a r f =>
   rw[ja,el,el];by_cases e:a.1=k
   ·rw[da e]
    by_cases e2:a.1=k'
    ·rw[da e2,da (e2.symm.trans e)]
    ·rw[qa e2,qa e2,qa (λz=>e2 (e.trans z.symm))]
     have:∀l:List (κ×α),¬k'=k->bF (l.map λd=>if d.1=k then (d.1,v) else d) k'=bF l k':=by
      intro l i
      induction l with
      |nil=>rfl
      |cons b l g =>
       rw[ja,el,el,g];by_cases c:b.1=k
       ·rw[da c,qa (λz=>i (z.symm.trans c)),qa (λz=>i (z.symm.trans c))]
       ·rw[qa c]
     exact this r λz=>e2 (e.trans z.symm)
   ·rw[qa e]
    rw[ja,pb]at h;by_cases e2:a.1=k'
    ·rw[da e2,qa (λz=>e (e2.trans z)),da e2]
    ·rw[qa e2,qa e2,f (h.resolve_left λz=>e z.symm)]
 ·rw[lH v h]
  induction m with
  |nil =>
   rw[se,el];by_cases e:k=k'
   ·rw[da e,da e.symm]
   ·rw[qa e,qa (λz=>e z.symm)]
  |cons a r f =>
   rw[ja,pb]at h;rw[wf,el,el,f λz=>h (.inr z)];by_cases e2:a.1=k'
   ·rw[da e2,da e2,qa (λz=>h (.inl (z.symm.trans e2.symm)))]
   ·rw[qa e2,qa e2]
end
def kz(m:List (Int×Bool)):List aW:=m.map λp=>Sum.inl p.1
noncomputable def dz(m:List (Int×Bool)):List D:=m.map λp=>D.bl p.2
def lI(p:Int×Bool):aW×D:=(Sum.inl p.1,D.bl p.2)
theorem DB(m:List (Int×Bool)):(kz m).zip (dz m)=m.map lI:=by
 induction m with
 |nil=>rfl
 |cons a r b=>show (_::_)=_;rw[ja];exact de _ b
theorem DC(m:List (Int×Bool)):(m.map lI).map Prod.fst=kz m:=by rw[jc];rfl
theorem MW(m:List (Int×Bool)):(m.map lI).map Prod.snd=dz m:=by rw[jc];rfl
theorem DD(m:List (Int×Bool)):kz m=(m.map Prod.fst).map Sum.inl:=by rw[jc];rfl
theorem DE{m:List (Int×Bool)}{k:Int}:(Sum.inl k:aW)∈(m.map lI).map Prod.fst↔k∈m.map Prod.fst:=by
 rw[DC,DD,gb];exact⟨λ⟨x,a,b⟩=>by cases b;exact a,λh=>⟨k,h,rfl⟩⟩
theorem MX(m:List (Int×Bool))(k:Int):bF (m.map lI) (Sum.inl k)=(bF m k).map D.bl:=by
 induction m with
 |nil=>rfl
 |cons a r b =>
  rw[ja,el,el,b];by_cases e:a.1=k
  ·rw[da e,da (by show Sum.inl a.1=Sum.inl k;rw[e])];rfl
  ·rw[qa e,qa (by show ¬Sum.inl a.1=Sum.inl k;exact λz=>e (xu z))]
theorem MY(m:List (Int×Bool))(k:Int)(b:Bool):eQ (m.map lI) (Sum.inl k) (D.bl b)=(eQ m k b).map lI:=by
 by_cases h:k∈m.map Prod.fst
 ·rw[uJ _ (DE.mpr h),uJ _ h,jc,jc]
  refine zf λa _=>?_
  show (if (Sum.inl a.1:aW)=Sum.inl k then ((Sum.inl a.1:aW),D.bl b) else lI a)=lI (if a.1=k then (a.1,b) else a);by_cases e:a.1=k
  ·rw[da e,da (by rw[e])];rfl
  ·rw[qa e,qa (λz=>e (xu z))]
 ·rw[lH _ (λz=>h (DE.mp z)),lH _ h,db];rfl
theorem DF(m:List (Int×Bool))(k:Int):fH (.dk (kz m) (dz m)) (.int k)=some ((bF m k).map D.bl):=by
 unfold fH;show some (bF ((kz m).zip (dz m)) (Sum.inl k))=_;rw[DB,MX]
theorem DG{m:List (Int×Bool)}{k:Int}{b:Bool}(h:bF m k=some b):c0 (.dk (kz m) (dz m)) (.int k)=some (.bl b):=by
 unfold c0;rw[DF,h];rfl
theorem MZ{m:List (Int×Bool)}(k:Int)(b:Bool)(h:m.length<=100000):jI (.dk (kz m) (dz m)) (.int k) (.bl b)=some (.dk (kz (eQ m k b)) (dz (eQ m k b))):=by
 unfold jI;show (if (kz m).length<sizeLine then some (Sl.dk _ _) else none)=_;rw[da (by unfold kz;rw[ba];exact lB h),DB,MY,DC,MW]
theorem DH:∀{l m:List Int},l.Nodup->(∀x∈l,x∈m)->l.length<=m.length
 |[],_,_,_=>be _
 |a::l,m,hn,hs=>by
  have c:=hs a (by simp);have hn:=uf.mp hn
  have:=DH (l:=l) (m:=m.erase a) hn.2 λx b=>(List.mem_erase_of_ne (λz:x=a=>hn.1 (z ▸ b))).mpr (hs x (la _ b))
  rw[List.length_erase_of_mem c]at this;have d:=List.length_pos_of_mem c;rw[wb];omega
structure dI(pg:List Int)(m:List (Int×Bool)):Prop where
 nd:(m.map Prod.fst).Nodup
 sub:∀x∈m.map Prod.fst,x∈pg
theorem dI.len{pg:List Int}{m:List (Int×Bool)}(h:dI pg m):m.length<=pg.length:=by
 have:=DH h.nd h.sub
 rwa [ba]at this
theorem dI.put{pg:List Int}{m:List (Int×Bool)}(h:dI pg m){k:Int}(c:k∈pg)(b:Bool):dI pg (eQ m k b):=by
 constructor
 ·rw[yu]
  split
  ·exact h.nd
  ·rename_i hn
   exact List.nodup_append.mpr ⟨h.nd,by simp,λ x hx y a z=>by
    rw[yb]at a;subst a z;exact hn hx⟩
 ·rw[yu]
  split
  ·exact h.sub
  ·intro x hx
   rcases yc.mp hx with hx|hx
   ·exact h.sub x hx
   ·rw[yb.mp hx];exact c
theorem DI{fo fk fz:ao->Option D}{ρ:ao}{d k z:D}{o:Option D}(a:fo ρ=some d)(b:fk ρ=some k)(c:fz ρ=some z)(e:fH d k=some o):j0 fo fk fz ρ=some (o.getD z):=by
 unfold j0;rw[a,b,c];show (fH d k).map _=_;rw[e];rfl
theorem uK{i:Nat}{fk b:ao->Option D}{ρ:ao}{sl a:Sl}{d k:D}(c:ρ[i]?=some (some sl))(e:b ρ=some d)(f:fk ρ=some k)(g:jI sl k d=some a):jJ i fk b ρ=.nx (ρ.set i (some a)):=by
 unfold jJ;rw[c];dsimp only;rw[e,f];show (match jI sl k d with|some a=>aT.nx (ρ.set i (some a))|none=>aT.bad)=_;rw[g]
theorem M0{i:Nat}{fk a:ao->Option D}{ρ:ao}{ds ds':List D}{d k:D}(b:ρ[i]?=some (some (.ow ds)))(c:a ρ=some d)(e:fk ρ=some k)(f:qI ds k d=some ds'):oX i fk a ρ=.nx (ρ.set i (some (.ow ds'))):=by
 unfold oX;rw[b];dsimp only;rw[c,e];show (match qI ds k d with|some ds'=>aT.nx (ρ.set i (some (.ow ds')))|none=>aT.bad)=_;rw[f]
noncomputable abbrev Mk:=Nat×Nat×Bool
def mt(p:D)(m:Mk):D:=.tup [p,.int (m.1:Nat),.int (m.2.1:Nat),.bl m.2.2]
def kQ(most:Bool)(m:List (Int×Bool))(a:Int):List (Int×Bool):=eQ m a (most || (bF m a).getD false)
def i8(pg:List Int)(k:Mk):List Int:=(pg.drop k.1).take (k.2.1+1 - k.1)
def eO(pg:List Int)(a:List Mk):List (Int×Bool):=a.foldl (λm k=>(i8 pg k).foldl (kQ k.2.2) m) []
theorem yw{pg:List Int}{k:Mk}{x:Int}(h:x∈i8 pg k):x∈pg:=ui (ig h)
theorem dI.stps{pg:List Int}{most:Bool}:∀{ps:List Int}{m:List (Int×Bool)},dI pg m->(∀x∈ps,x∈pg)->dI pg (ps.foldl (kQ most) m)
 |[],_,h,_=>h
 |x::r,m,h,hs=>dI.stps (ps:=r) (h.put (hs x (by simp)) _) λy a=>hs y (la _ a)
theorem DJ(pg:List Int):∀(a:List Mk) (m:List (Int×Bool)),dI pg m->dI pg (a.foldl (λm k=>(i8 pg k).foldl (kQ k.2.2) m) m)
 |[],_,h=>h
 |k::r,m,h=>DJ pg r _ (h.stps λ_ b=>yw b)
theorem DK(pg:List Int)(a:List Mk):dI pg (eO pg a):=DJ pg a [] ⟨ji,λx b=>by simp at b⟩
def DL:ao->aT:=jJ 2 (al 7) (eT (dA (tE (au 6)) (tE (j0 (al 2) (al 7) (eC (.bl false))))))
theorem DM{pg:List Int}(h:pg.length<=1000)(a b c d e:Option Sl)(most:Bool):∀(ps:List Int) (m:List (Int×Bool)) (z:Option Sl),dI pg m->(∀x∈ps,x∈pg) →
  ∃f,dO (gN 7) DL (ps.map D.int) [a,b,some (.dk (kz m) (dz m)),c,d,e,sh (.bl most),z]=.nx [a,b,some (.dk (kz (ps.foldl (kQ most) m)) (dz (ps.foldl (kQ most) m))),c,d,e,sh (.bl most),f]
 |[],m,z,_,_=>⟨z,rfl⟩
 |x::r,m,z,hm,hs=>by
  obtain⟨f,j⟩:=DM h a b c d e most r (kQ most m x) (sh (.int x)) (hm.put (hs x (by simp)) _) λy i=>hs y (la _ i)
  refine⟨f,?_⟩;rw[ja,kh,<-j];refine iC rfl ?_;have hl:m.length<=100000:=wd hm.len (by omega)
  have g:tE (j0 (al 2) (al 7) (eC (.bl false))) [a,b,some (.dk (kz m) (dz m)),c,d,e,sh (.bl most),sh (.int x)]=some ((bF m x).getD false):=by
   refine bU ((DI (z:=.bl false) rfl rfl rfl (DF m x)).trans ?_)
   cases bF m x <;> rfl
  have l:eT (dA (tE (au 6)) (tE (j0 (al 2) (al 7) (eC (.bl false))))) [a,b,some (.dk (kz m) (dz m)),c,d,e,sh (.bl most),sh (.int x)]=some (.bl (most || (bF m x).getD false)):=by
   refine wW ?_
   cases most with
   |true=>exact BV rfl
   |false=>exact BW rfl g
  exact(uK rfl l rfl (MZ x _ hl)).trans rfl
def M1:ao->aT:=d4 (iE (b6 (al 0) (oS (al 4)) (oS (e2 bS (al 5) (eC (.int 1)))))) (gN 7) DL
theorem DN{pg:List Int}(g:pg.length<=1000)(p:D)(b:Option Sl):∀(a:List Mk) (m:List (Int×Bool)) (c d e f z:Option Sl),dI pg m->(∀k∈a,k.1<=k.2.1) →
  ∃i d' l n o,dO (gT 4 (bA (gN 3) (bA (gN 4) (bA (gN 5) (bA (gN 6) cX))))) M1 (a.map (mt p)) [sh (.lst (pg.map D.int)),b,some (.dk (kz m) (dz m)),c,d,e,f,z] =
   .nx [sh (.lst (pg.map D.int)),b,some (.dk (kz (a.foldl (λm k=>(i8 pg k).foldl (kQ k.2.2) m) m)) (dz (a.foldl (λm k=>(i8 pg k).foldl (kQ k.2.2) m) m))),i,d',l,n,o]
 |[],m,c,d,e,f,z,_,_=>⟨c,d,e,f,z,rfl⟩
 |k::r,m,c,d,e,f,z,hm,q=>by
  have⟨u,v⟩:=DM g (sh (.lst (pg.map D.int))) b (sh p) (sh (.int (k.1:Nat))) (sh (.int (k.2.1:Nat))) k.2.2 (i8 pg k) m z hm λx h=>yw h
  have⟨i,d',l,n,o,w⟩:=DN g p b r _ (sh p) (sh (.int (k.1:Nat))) (sh (.int (k.2.1:Nat))) (sh (.bl k.2.2)) u (hm.stps (most:=k.2.2) λx h=>yw h) λj s=>q j (la _ s)
  refine⟨i,d',l,n,o,?_⟩;rw[ja,kh,<-w];refine iC (ρ1:=[sh (.lst (pg.map D.int)),b,some (.dk (kz m) (dz m)),sh p,sh (.int (k.1:Nat)),sh (.int (k.2.1:Nat)),sh (.bl k.2.2),z]) rfl ?_;refine iu (ds:=(i8 pg k).map D.int) (qD (d:=.lst ((i8 pg k).map D.int)) ?_ rfl) v
  have y:dH (pg.map D.int) (some ((k.1:Nat):Int)) (some ((k.2.1:Nat)+1:Int))=(i8 pg k).map D.int:=by
   have A:((k.2.1:Nat)+1:Int)=((k.2.1+1:Nat):Int):=by omega
   rw[A,l6,KW _ _ _ (by have:=q k (by simp);omega)];rfl
  show (lw (.lst (pg.map D.int)) (some ((k.1:Nat):Int)) (some ((k.2.1:Nat)+1:Int)))=_;unfold lw;dsimp only;rw[y]
theorem M3{pg:List Int}(b:pg.length<=1000)(p:D)(a:List Mk)(i:∀k∈a,k.1<=k.2.1):ut [.lst (pg.map D.int),.lst (a.map (mt p))]=some (.dk (kz (eO pg a)) (dz (eO pg a))):=by
 obtain⟨c,d,e,f,z,h⟩:=DN b p (sh (.lst (a.map (mt p)))) a [] none none none none none ⟨ji,λx g=>by simp at g⟩ i;exact cS rfl (st rfl (st (iu (qD rfl rfl) h) rfl))
noncomputable abbrev Td:=Int×Int×Bool
def c7(t:Td):D:=.tup [.int t.1,.int t.2.1,.bl t.2.2]
theorem M5(t:Td)(a:Int)(s:Bool):pk [c7 t,.int a,.bl s]=some (.bl (decide (t.2.1+1=a) && (t.2.2 == s))):=by
 refine cS rfl (dQ (wW ?_));have b:tE (e2 bR (e2 bS (e2 aJ (al 0) (eC (.int 1))) (eC (.int 1))) (al 1)) (dP 3 [c7 t,.int a,.bl s])=some (decide (t.2.1+1=a)):=bU (aI (d:=.int (t.2.1+1)) rfl rfl (gU l5));have c:tE (e2 bR (e2 aJ (al 0) (eC (.int 2))) (al 2)) (dP 3 [c7 t,.int a,.bl s])=some (t.2.2 == s):=bU (aI (d:=.bl t.2.2) rfl rfl (gU KQ))
 cases h:decide (t.2.1+1=a) with
 |false=>rw[h]at b;exact oP b
 |true=>rw[h]at b;exact l4 b c
def fX(a b:Int)(t:Bool):List (Int×Bool)->List Td
 |[]=>[(a,b,t)]
 |(c,s)::r=>if b+1=c/\t=s then fX a c s r else (a,b,t)::fX c c s r
def iH:List (Int×Bool)->List Td
 |[]=>[]
 |(a,s)::r=>fX a a s r
theorem yx(a b:Int)(t:Bool):∀(r:List (Int×Bool)),(fX a b t r).length<=r.length+1
 |[]=>by simp[fX]
 |(c,s)::r=>by
  unfold fX;split
  ·have:=yx a c s r;simp;omega
  ·have:=yx c c s r;simp;omega
theorem M6(r:List (Int×Bool)):(iH r).length<=r.length:=by
 cases r with
 |nil=>simp[iH]
 |cons x r=>have:=yx x.1 x.1 x.2 r;unfold iH;simp;omega
def DO:ao->aT:=bK (bV (tE (e2 fA (eN cF (aC (al 3) aN)) (eC (.int 0)))) (tE (bv 3 pk (aC (e2 aJ (al 3) (e1 cv (eC (.int 1)))) (aC (au 4) (aC (e2 c0 (al 2) (al 4)) aN)))))) (oX 3 (e1 cv (eC (.int 1))) (eN bP (aC (e2 aJ (e2 aJ (al 3) (e1 cv (eC (.int 1)))) (eC (.int 0))) (aC (au 4) (aC (e2 c0 (al 2) (al 4)) aN))))) (dY 3 (eN bP (aC (au 4) (aC (au 4) (aC (e2 c0 (al 2) (al 4)) aN)))))
theorem nU{a:Type}(l:List a)(x:a):d8 (l++[x]) (-1)=some x:=by
 unfold d8
 have e:hG (l++[x]).length (-1)=some l.length:=by
  unfold hG;rw[qa (by omega),da (by simp;omega)]
  congr 1
  simp;omega
 rw[e];show (l++[x])[l.length]?=_;simp
theorem M7(l:List D)(x d:D):qI (l++[x]) (.int (-1)) d=some (l++[d]):=by
 unfold qI
 have e:hG (l++[x]).length (-1)=some l.length:=by
  unfold hG;rw[qa (by omega),da (by simp;omega)]
  congr 1
  simp;omega
 show (hG (l++[x]).length (-1)).map _=_;rw[e];show some ((l++[x]).set l.length d)=_
 congr 1
 simp
theorem yy{m:List (Int×Bool)}(n k:Option Sl):∀(r:List (Int×Bool)) (init:List Td) (a b:Int) (t:Bool) (z:Option Sl),(∀x∈r,bF m x.1=some x.2)->init.length+r.length<=50000 →
  ∃f,dO (gN 4) DO (r.map λx=>D.int x.1) [n,k,sh (.dk (kz m) (dz m)),some (.ow ((init++[(a,b,t)]).map c7)),z]=.nx [n,k,sh (.dk (kz m) (dz m)),some (.ow ((init++fX a b t r).map c7)),f]
 |[],init,a,b,t,z,_,_=>⟨z,rfl⟩
 |(c,s)::r,init,a,b,t,z,v,hl=>by
  have e:c0 (.dk (kz m) (dz m)) (.int c)=some (.bl s):=DG (v (c,s) (by simp));have g:∀x∈r,bF m x.1=some x.2:=λx w=>v x (la _ w)
  rw[wb]at hl;have o:∀(x:Td),(init++[x]).map c7=init.map c7++[c7 x]:=λx=>by rw[db];rfl
  have h:d8 ((init++[(a,b,t)]).map c7) (-1)=some (c7 (a,b,t)):=by rw[o];exact nU _ _
  have u:tE (e2 fA (eN cF (aC (al 3) aN)) (eC (.int 0))) [n,k,sh (.dk (kz m) (dz m)),some (.ow ((init++[(a,b,t)]).map c7)),sh (.int c)]=some true:=by
   refine bU (aI (bN (z:=.int ((init++[(a,b,t)]).map c7).length) rfl rfl) rfl ?_);rw[nr]
   congr 2
   exact za (by rw[ba,wa,xb];omega)
  have j:tE (bv 3 pk (aC (e2 aJ (al 3) (e1 cv (eC (.int 1)))) (aC (au 4) (aC (e2 c0 (al 2) (al 4)) aN)))) [n,k,sh (.dk (kz m) (dz m)),some (.ow ((init++[(a,b,t)]).map c7)),sh (.int c)]=some (decide (b+1=c) && (t == s)) :=
   bU (cB (aP (aI rfl rfl h) (aP rfl (aP (aI rfl rfl e) rfl))) rfl (M5 (a,b,t) c s))
  by_cases i:b+1=c/\t=s
  ·have p:(decide (b+1=c) && (t == s))=true:=by rw[za i.1,i.2];simp
   rw[p]at j;obtain⟨f,l⟩:=yy n k r init a c s (sh (.int c)) g (by omega);refine⟨f,?_⟩;have q:fX a b t ((c,s)::r)=fX a c s r:=by rw[fX,da i]
   rw[q,<-l];refine iC rfl ((eK (l4 u j)).trans ?_);refine(M0 (ds':=(init++[(a,c,s)]).map c7) rfl (bN (ds:=[.int a,.int c,.bl s]) (aP (aI (aI rfl rfl h) rfl rfl) (aP rfl (aP (aI rfl rfl e) rfl))) rfl) rfl ?_).trans rfl;rw[o,o];exact M7 _ _ _
  ·have p:(decide (b+1=c) && (t == s))=false:=by
    cases y:decide (b+1=c) with
    |false=>rfl
    |true =>
     cases A:t == s with
     |false=>rfl
     |true=>exact absurd ⟨bc y,by simpa using A⟩ i
   rw[p]at j;obtain⟨f,l⟩:=yy n k r (init++[(a,b,t)]) c c s (sh (.int c)) g (by rw[wa,xb];omega);refine⟨f,?_⟩;have q:init++fX a b t ((c,s)::r)=init++[(a,b,t)]++fX c c s r:=by rw[fX,qa i,qf];rfl
   rw[q,<-l];refine iC rfl ((cx (l4 u j)).trans ?_);refine(lF (ds:=(init++[(a,b,t)]).map c7) (d:=c7 (c,c,s)) rfl (bN (ds:=[.int c,.int c,.bl s]) (aP rfl (aP rfl (aP (aI rfl rfl e) rfl))) rfl) (by simp;omega)).trans ?_;show aT.nx [n,k,sh (.dk (kz m) (dz m)),some (.ow ((init++[(a,b,t)]).map c7++[c7 (c,c,s)])),sh (.int c)]=_;simp only[db,ja,rg]
def e5(m:List (Int×Bool)):List (Int×Bool):=(lC (m.map Prod.fst)).map λk=>(k,(bF m k).getD false)
theorem M8(m:List (Int×Bool)):(e5 m).map (λx=>D.int x.1)=(lC (m.map Prod.fst)).map D.int:=by unfold e5;rw[jc];rfl
theorem M9{m:List (Int×Bool)}{x:Int×Bool}(h:x∈e5 m):bF m x.1=some x.2:=by
 obtain⟨k,a,rfl⟩:=gb.mp h;have⟨v,b⟩:=rz ((qE _).mem_iff.mp a);show bF m k=some ((bF m k).getD false);rw[b];rfl
theorem yz(m:List (Int×Bool)):(e5 m).length=m.length:=by unfold e5;rw[ba,(qE _).length_eq,ba]
theorem Na{m:List (Int×Bool)}(n k:Option Sl)(hl:m.length<=1000):∃c,dO (gN 4) DO ((e5 m).map λx=>D.int x.1) [n,k,sh (.dk (kz m) (dz m)),some (.ow []),none]=.nx [n,k,sh (.dk (kz m) (dz m)),some (.ow ((iH (e5 m)).map c7)),c]:=by
 have f:∀x∈e5 m,bF m x.1=some x.2:=λx e=>M9 e
 have b:=yz m
 cases i:e5 m with
 |nil=>exact⟨none,rfl⟩
 |cons x r =>
  rw[i]at f b;obtain⟨a,s⟩:=x;rw[wb]at b;have g:c0 (.dk (kz m) (dz m)) (.int a)=some (.bl s):=DG (f (a,s) (by simp));obtain⟨c,h⟩:=yy n k r [] a a s (sh (.int a)) (λx e=>f x (la _ e)) (by simp;omega);refine⟨c,?_⟩;show _=aT.nx [n,k,_,some (.ow (([]++fX a a s r).map c7)),c];rw[<-h];refine iC rfl ((cx (oP (bU (aI (bN rfl rfl) rfl nr)))).trans ?_);exact(lF (ds:=[]) (d:=c7 (a,a,s)) rfl (bN (ds:=[.int a,.int a,.bl s]) (aP rfl (aP rfl (aP (aI rfl rfl g) rfl))) rfl) (by simp)).trans rfl
theorem Nb{pg:List Int}(c:pg.length<=62)(p:D)(a:List Mk)(e:∀k∈a,k.1<=k.2.1):uu [.lst (pg.map D.int),.lst (a.map (mt p))]=some (.lst ((iH (e5 (eO pg a))).map c7)):=by
 have b:=DK pg a;have hl:=b.len;obtain⟨z,h⟩:=Na (m:=eO pg a) (sh (.lst (pg.map D.int))) (sh (.lst (a.map (mt p)))) (by omega);refine cS rfl (st (bM (cB rfl rfl (M3 (by omega) p a e))) (st rfl (st (iu (ds:=(e5 (eO pg a)).map λx:Int×Bool=>D.int x.1) (qD (d:=.lst ((e5 (eO pg a)).map λx:Int×Bool=>D.int x.1)) (iY ?_) rfl) h) rfl)));show qF [.dk (kz (eO pg a)) (dz (eO pg a))]=_;unfold qF;dsimp only;rw[DD,K5,M8];show (if ((eO pg a).map Prod.fst).length<64 then some _ else none)=_;rw[da (by rw[ba];omega)]
def DP:ao->aT:=(aO (bK (bV (tE (e2 fA (al 5) (eC (.int 0)))) (dA (tE (au 6)) (tE (e2 qs (al 5) (al 1))))) (aO (a0 4 (e2 bS (al 4) (eC (.int 1))))
  (a0 5 (eC (.int 0)))) bQ)
  (aO (a0 5 (e2 bS (al 5) (eC (.int 1))))
  (dY 3 (au 4))))
theorem Nc(a c:Option Sl)(most h g:Int)(i:List Int)(b:Bool)(hl:i.length<=1000):∃p f,DP [a,sh (.int most),c,some (.ow (i.map D.int)),sh (.int h),sh (.int g),sh (.bl b)]=.nx [a,sh (.int most),c,some (.ow ((i++[p]).map D.int)),sh (.int p),sh (.int f),sh (.bl b)]:=by
 have q:bV (tE (e2 fA (al 5) (eC (.int 0)))) (dA (tE (au 6)) (tE (e2 qs (al 5) (al 1)))) [a,sh (.int most),c,some (.ow (i.map D.int)),sh (.int h),sh (.int g),sh (.bl b)]=some (decide (0<g) && (b || decide (most<=g))):=lE (bU (aI rfl rfl nr)) λ_=>qR (bU rfl) λ_=>bU (aI rfl rfl KP)
 have hz:(i.map D.int).length<=100000:=by rw[ba];omega
 cases e:(decide (0<g) && (b || decide (most<=g))) with
 |true =>
  rw[e]at q;refine⟨h+1,0+1,st ((eK q).trans (st (bM (aI rfl rfl kE)) (bM rfl))) (st (bM (aI rfl rfl kE)) ((lF (ds:=i.map D.int) (d:=.int (h+1)) rfl rfl hz).trans ?_))⟩;rw[db];rfl
 |false =>
  rw[e]at q;refine⟨h,g+1,st ((cx q).trans rfl) (st (bM (aI rfl rfl kE)) ((lF (ds:=i.map D.int) (d:=.int h) rfl rfl hz).trans ?_))⟩;rw[db];rfl
theorem DQ(a c:Option Sl)(most:Int):∀(r:List Bool) (g:List Int) (h d:Int) (z:Option Sl),g.length+r.length<=1000->∃(pg:List Int) (p f y:Option Sl),pg.length=g.length+r.length/\dO (gN 6) DP (r.map D.bl) [a,sh (.int most),c,some (.ow (g.map D.int)),sh (.int h),sh (.int d),z]=.nx [a,sh (.int most),c,some (.ow (pg.map D.int)),p,f,y]
 |[],g,h,d,z,_=>⟨g,_,_,_,rfl,rfl⟩
 |b::r,g,h,d,z,hl=>by
  rw[wb]at hl;obtain⟨p,f,e⟩:=Nc a c most h d g b (by omega);obtain⟨pg,i,j,y,l,m⟩:=DQ a c most r (g++[p]) p f (sh (.bl b)) (by rw[wa,xb];omega);refine⟨pg,i,j,y,by rw[l,wa,xb,wb];omega,?_⟩;rw[ja,<-m];exact iC rfl e
theorem Nd(bs:List Bool)(hl:bs.length<=1000)(most first:Int):∃pg:List Int,pg.length=bs.length/\ur [.lst (bs.map D.bl),.int most,.int first]=some (.lst (pg.map D.int)):=by
 obtain⟨pg,p,f,y,a,b⟩:=DQ (sh (.lst (bs.map D.bl))) (sh (.int first)) most bs [] first 0 none (by rw[md];omega)
 refine⟨pg,by rw[a,md];omega,cS rfl (st rfl (st (bM rfl) (st (bM rfl) (st (iu rfl b) rfl))))⟩
noncomputable abbrev aF:=List (List Nat)
abbrev M4:=aF×Nat×Nat×Bool
def bD(x:M4):D:=lG x.1 ((x.2.1:Nat):Int) ((x.2.2.1:Nat):Int) x.2.2.2
structure nV(n:Nat)(x:M4):Prop where
 p:bL x.1
 lo:x.2.1<=x.2.2.1
 hi:x.2.2.1<n
theorem Nf{x:M4}{n:Nat}(h:nV n x):qU [bD x,.int (n:Nat)]=some (.bl true):=by
 refine cS rfl (dQ ?_);have a:=h.lo;have b:=h.hi;refine(LQ (x:=.int 0) (y:=.int ((x.2.1:Nat):Int)) (z:=.int ((x.2.2.1:Nat):Int)) (w:=.int (n:Nat)) rfl (aI rfl rfl rfl) B0 (λ_=>aI rfl rfl rfl) (λ_=>B0) (λ_ _=>rfl) (λ_ _=>rfl)).trans ?_;rw[za (show (0:Int)<=((x.2.1:Nat):Int) by omega),za (show ((x.2.1:Nat):Int)<=((x.2.2.1:Nat):Int) by omega),za (show ((x.2.2.1:Nat):Int)<((n:Nat):Int) by omega)];rfl
theorem DR{a n:Nat}{f:ao->aT}{ds:List D}{ρ:ao}(hl:ds.length=a)(h:f (dP n ds)=.nx ρ):bX a n f ds=some .non:=by unfold bX;rw[da hl,h]
theorem Ng{os:List M4}{n:Nat}(h:∀x∈os,nV n x):uw [.lst (os.map bD),.int (n:Nat)]=some .non:=by
 have c:∀(r:List M4) (a z:Option Sl),(∀x∈r,nV n x)->∃y,dO (gN 2) (bK (cL (tE (bv 2 qU (aC (au 2) (aC (au 1) aN))))) j6 bQ) (r.map bD) [a,sh (.int (n:Nat)),z]=.nx [a,sh (.int (n:Nat)),y]:=by
  intro r
  induction r with
  |nil=>intro a z _;exact⟨z,rfl⟩
  |cons x r g =>
   intro a z d;have⟨y,e⟩:=g a (sh (bD x)) λw f=>d w (la _ f)
   refine⟨y,?_⟩;rw[ja,<-e];exact iC rfl ((cx (nq (b:=true) (bU (cB rfl rfl (Nf (d x va)))))).trans rfl)
 have⟨y,e⟩:=c os (sh (.lst (os.map bD))) none h;exact DR rfl (iu rfl e)
theorem Nh{x:M4}(h:bL x.1):py (bD x):=⟨_,_,_,_,h,rfl⟩
theorem yA{a b:Type}{f:a->b}{ms:List a}:∀(l:List b),(∀d∈l,d∈ms.map f)->∃os:List a,l=os.map f/\∀x∈os,x∈ms
 |[],_=>⟨[],rfl,λx c=>by cases c⟩
 |d::r,h=>by
  have⟨x,i,j⟩:=gb.mp (h d va);have⟨os,m,n⟩:=yA r λe g=>h e (la _ g)
  refine⟨x::os,by rw[ja,j,<-m],λy hy=>?_⟩;rcases pb.mp hy with rfl|hy
  ·exact i
  ·exact n y hy
theorem Ni{ms:List M4}(h:∀x∈ms,bL x.1)(hl:ms.length<=60):∃os:List M4,qV [.lst [.lst (ms.map bD)]]=some (os.map bD)/\(∀x∈os,x∈ms)/\os.length<=ms.length/\(ms≠[]->os≠[])/\os.Pairwise λa b=>dZ kl (bD a) (bD b)=true:=by
 have p:∀d∈[ms.map bD].flatten,py d:=λd c=>by
  rw[ud,jp,pc]at c;obtain⟨x,i,rfl⟩:=gb.mp c;exact Nh (h x i)
 have g:[ms.map bD].flatten=ms.map bD:=by rw[ud,jp,pc]
 have c:(dd [ms.map bD].flatten).length<=ms.length:=by
  have:=uD (kt [ms.map bD].flatten) λd c=>g0.mp c
  rw[g,ba]at this;rw[g];exact this
 have e:=MV (hs:=[ms.map bD]) p (by rw[g,ba];omega) (by omega);have o:=kH (dZ kl) (dd [ms.map bD].flatten)
 obtain⟨os,j,u⟩:=yA (f:=bD) (ms:=ms) (fW (dZ kl) (dd [ms.map bD].flatten)) λd c=>by
  have:=g0.mp (o.mem_iff.mp c)
  rw[g]at this;exact this
 refine⟨os,by rw[<-j];exact e,u,?_,λm n=>?_,?_⟩
 ·have:=de List.length j
  rw[o.length_eq,ba]at this;omega
 ·obtain⟨x,r,rfl⟩:=zm m
  have i:bD x∈fW (dZ kl) (dd [(x::r).map bD].flatten):=o.mem_iff.mpr (g0.mpr (by rw[g];exact gb.mpr ⟨x,va,rfl⟩));rw[j,n]at i;cases i
 ·have q:=tP (Dv.ltT λd c=>p d (g0.mp c)) (l:=dd [ms.map bD].flatten) (λy s=>s) (kt _)
  rw[j]at q;exact ul.mp q
abbrev pD(p:aF):D:=.tup (p.map D.str)
def pK(p:aF):List aW:=p.map λl=>Sum.inr (S l)
theorem v3{i j:List Nat}(h:S i=S j):i=j:=Da (show D.str i=D.str j by unfold D.str;rw[h])
theorem mu:∀{p q:aF},pK p=pK q->p=q
 |[],[],_=>rfl
 |a::p,b::q,h=>by
  have h:(Sum.inr (S a):aW)::pK p=Sum.inr (S b)::pK q:=h;have⟨c,d⟩:=fm h;rw[v3 (Sum.inr.inj c),mu d]
 |[],_::_,h=>by cases h
 |_::_,[],h=>by cases h
theorem DS:∀p:aF,mS (p.map D.str)=some (pK p)
 |[]=>rfl
 |a::p=>by
  rw[ja,mS,DS p];rfl
theorem kR(p:aF):kB (pD p)=some (pK p):=DS p
theorem yB{p q:aF}(h:pD p=pD q):p=q:=by
 have a:=kR p;rw[h,kR]at a;exact mu (lc a.symm)
theorem Nj(p:aF):i4 (pK p)=pD p:=by
 unfold i4 pK;rw[jc];rfl
theorem yC{c d:Type}(b:c->d)(p:aF):∀m:List (aF×c),bF (m.map λe=>(pK e.1,b e.2)) (pK p)=(bF m p).map b
 |[]=>rfl
 |a::m=>by
  rw[ja,el,el,yC b p m];by_cases e:a.1=p
  ·rw[da e,da (by rw[e])];rfl
  ·rw[qa e,qa (λz=>e (mu z))]
theorem rA{c:Type}(b:c->D):∀m:List (aF×c),(m.map λe=>pK e.1).zip (m.map λe=>b e.2)=m.map λe=>(pK e.1,b e.2)
 |[]=>rfl
 |a::m=>by rw[ja,ja,bg,rA b m,ja]
theorem rB{b:Type}(a:b->D)(m:List (aF×b))(p:aF):fH (.dt (m.map λe=>pK e.1) (m.map λe=>a e.2)) (pD p)=some ((bF m p).map a):=by
 unfold fH;show (kB (pD p)).map _=_;rw[kR,ze,rA,yC]
theorem uL{g:Type}:∀{l m:List g},l.Nodup->(∀d∈l,d∈m)->l.length<=m.length
 |[],m,_,_=>be _
 |x::r,m,h,hs=>by
  have h':=uf.mp h;have⟨c,f,e⟩:=List.append_of_mem (hs x va)
  have:=uL (m:=c++f) h'.2 λd b=>by
   have h1:=hs d (la _ b);rw[e]at h1;have a:d≠x:=λz=>h'.1 (by rw[<-z];exact b)
   simp only[yc,pb]at h1 ⊢;rcases h1 with h1|h1|h1
   ·exact .inl h1
   ·exact absurd h1 a
   ·exact .inr h1
  rw[e];simp at this ⊢;omega
def kT(ms:List M4):List aF:=ms.flatMap λx=>(List.range x.1.length).map λk=>x.1.take (k+1)
theorem DT{ms:List M4}{x:M4}(a:x∈ms){k:Nat}(b:1<=k)(c:k<=x.1.length):x.1.take k∈kT ms :=
 List.mem_flatMap.mpr ⟨x,a,gb.mpr ⟨k - 1,dh.mpr (by omega),by rw[show k - 1+1=k by omega]⟩⟩
theorem Nk{ms:List M4}(h:∀x∈ms,bL x.1){p:aF}(e:p∈kT ms):bL p:=by
 have⟨x,c,d⟩:=List.mem_flatMap.mp e;obtain⟨k,a,rfl⟩:=gb.mp d;have g:=h x c;have a:=dh.mp a
 have:=g.len
 exact⟨λy b=>g.g y (ig b),by rw[ae];omega,by rw[ae];omega⟩
theorem yD:∀{ms:List M4},(∀x∈ms,bL x.1)->(kT ms).length<=6 * ms.length
 |[],_=>be _
 |x::ms,h=>by
  have b:=yD (ms:=ms) λy a=>h y (la _ a)
  have:=(h x va).len
  unfold kT at b ⊢;rw[List.flatMap_cons,wa,ba,xn,wb];omega
def gE(e:aF×List M4):List aW×List D:=(pK e.1,e.2.map bD)
structure MI(ms:List M4)(N:Nat)(m:List (aF×List M4)):Prop where
 nd:(m.map Prod.fst).Nodup
 sub:∀e∈m,e.1∈kT ms
 mm:∀e∈m,∀x∈e.2,x.1=e.1/\x∈ms
 ln:∀e∈m,e.2.length<=N
theorem MI.len{ms:List M4}{N:Nat}{m:List (aF×List M4)}(h:MI ms N m)(c:∀x∈ms,bL x.1):m.length<=6 * ms.length:=by
 have:=uL h.nd (m:=kT ms) λp a=>by
  obtain⟨e,b,rfl⟩:=gb.mp a;exact h.sub e b
 rw[ba]at this;exact wd this (yD c)
def sd(m:List (aF×List M4))(p:aF):List (aF×List M4):=if (bF m p).isSome=true then m else m++[(p,[])]
theorem DU(m:List (aF×List M4))(p:aF):eY (m.map gE) (pK p)=(sd m p).map gE:=by
 unfold eY sd
 have:bF (m.map gE) (pK p)=(bF m p).map (List.map bD):=yC (List.map bD) p m
 rw[this,og];split
 ·rfl
 ·rw[db];rfl
theorem yE{a:Type}{m:List (aF×a)}{p:aF}:(bF m p).isSome=true↔p∈m.map Prod.fst:=by
 constructor
 ·intro h
  refine Classical.byContradiction λz=>?_
  rw[uI z]at h;cases h
 ·intro h
  have⟨v,e⟩:=rz h;rw[e];rfl
theorem MI.sd{ms:List M4}{N:Nat}{m:List (aF×List M4)}(h:MI ms N m){p:aF}(g:p∈kT ms):MI ms N (K22.sd m p)/\p∈(K22.sd m p).map Prod.fst:=by
 unfold K22.sd;split
 ·rename_i hs
  exact⟨h,yE.mp hs⟩
 ·rename_i hs
  have hn:p ∉ m.map Prod.fst:=λz=>hs (yE.mpr z)
  refine⟨⟨?_,λe he=>?_,λe he=>?_,λe he=>?_⟩,by simp⟩
  ·rw[db]
   exact List.nodup_append.mpr ⟨h.nd,by simp,λ a c b d z=>hn (by
    have:b=p:=by simpa using d
    rw[<-this,<-z];exact c)⟩
  ·rcases yc.mp he with he|he
   ·exact h.sub e he
   ·rw[yb.mp he];exact g
  ·rcases yc.mp he with he|he
   ·exact h.mm e he
   ·rw[yb.mp he];intro x f;cases f
  ·rcases yc.mp he with he|he
   ·exact h.ln e he
   ·rw[yb.mp he];exact be _
def ap(p:aF)(x:M4):List (aF×List M4)->List (aF×List M4)
 |[]=>[]
 |e::r=>if e.1=p then (e.1,e.2++[x])::r else e::ap p x r
theorem DV(p:aF)(x:M4):∀m:List (aF×List M4),iD (pK p) (bD x) (m.map gE)=(ap p x m).map gE
 |[]=>rfl
 |e::r=>by
  rw[ja,iD,ap];by_cases h:e.1=p
  ·rw[da h,da (show (gE e).1=pK p by rw[<-h];rfl),ja]
   refine de (·::_) ?_;show (pK e.1,e.2.map bD++[bD x])=(pK e.1,(e.2++[x]).map bD);rw[db];rfl
  ·rw[qa h,qa (show ¬(gE e).1=pK p from λz=>h (mu z)),ja,DV p x r]
theorem DW(p:aF)(x:M4):∀m:List (aF×List M4),(ap p x m).map Prod.fst=m.map Prod.fst
 |[]=>rfl
 |e::r=>by
  rw[ap];split
  ·rfl
  ·rw[ja,ja,DW p x r]
theorem uM{p:aF}{x:M4}{e:aF×List M4}:∀{m:List (aF×List M4)},e∈ap p x m->e∈m\/∃f∈m,f.1=p/\e=(f.1,f.2++[x])
 |[],h=>by cases h
 |f::r,h=>by
  rw[ap]at h
  split at h
  ·rename_i a
   rcases pb.mp h with rfl|h
   ·exact .inr ⟨f,va,a,rfl⟩
   ·exact .inl (la _ h)
  ·rcases pb.mp h with rfl|h
   ·exact .inl va
   ·rcases uM h with h|⟨g,b,c⟩
    ·exact .inl (la _ h)
    ·exact .inr ⟨g,la _ b,c⟩
theorem MI.ap{ms:List M4}{N:Nat}{m:List (aF×List M4)}(h:MI ms N m){x:M4}(hx:x∈ms):MI ms (N+1) (K22.ap x.1 x m) where
 nd:=by rw[DW];exact h.nd
 sub:=λe he=>by
  rcases uM he with he|⟨f,h1,_,rfl⟩
  ·exact h.sub e he
  ·exact h.sub f h1
 mm:=λe he y hy=>by
  rcases uM he with he|⟨f,h1,h2,rfl⟩
  ·exact h.mm e he y hy
  ·rcases yc.mp hy with hy|hy
   ·exact h.mm f h1 y hy
   ·rw[yb.mp hy];exact⟨h2.symm,hx⟩
 ln:=λe he=>by
  rcases uM he with he|⟨f,h1,_,rfl⟩
  ·exact wn (h.ln e he)
  ·have:=h.ln f h1
   show (f.2++[x]).length<=_;rw[wa,xb];omega
def NE(m:List (aF×List M4)):Prop:=∃e∈m,e.2≠[]
theorem NE.sd{m:List (aF×List M4)}(h:NE m)(p:aF):NE (K22.sd m p):=by
 obtain⟨e,a,b⟩:=h;unfold K22.sd;split
 ·exact⟨e,a,b⟩
 ·exact⟨e,bf _ a,b⟩
theorem DX{p:aF}{x:M4}:∀{m:List (aF×List M4)},p∈m.map Prod.fst->∃f∈ap p x m,f.2≠[]
 |[],h=>by cases h
 |f::r,h=>by
  rw[ap];split
  ·exact⟨_,va,by simp⟩
  ·rename_i a
   rw[ja,pb]at h;have⟨g,b,c⟩:=DX (x:=x) (h.resolve_left λz=>a z.symm);exact⟨g,la _ b,c⟩
theorem yF{a:D->ao->Option ao}{f:GG}{d:D}{r:List D}{ρ ρ1:ao}{gd:GD}{z:ao×GD}(b:a d ρ=some ρ1)(c:f ρ1 gd=some z):jM a f (d::r) ρ gd=jM a f r z.1 z.2:=by
 rw[jM,b,xa,c,xa]
theorem Nl{fk:ao->Option D}{ρ:ao}{m:List (aF×List M4)}{p:aF}(h:fk ρ=some (pD p))(hl:m.length<100000):nC fk ρ (m.map gE)=some (ρ,(sd m p).map gE):=by
 unfold nC;rw[h,xa,kR,xa,da (by rw[ba];exact hl),DU]
theorem Nm{fk a:ao->Option D}{ρ:ao}{m:List (aF×List M4)}{p:aF}{x:M4}(h:fk ρ=some (pD p))(f:a ρ=some (bD x))(hl:m.length<100000)(hn:∀e∈m,e.2.length<100000):jL fk a ρ (m.map gE)=some (ρ,(ap p x (sd m p)).map gE):=by
 unfold jL
 have d:(m.map gE).length<100000/\((m.map gE).all λx=>decide (x.2.length<100000))=true:=by
  refine⟨by rw[ba];exact hl,vc.mpr λy b=>?_⟩;obtain⟨e,c,rfl⟩:=gb.mp b;refine za ?_;show (e.2.map bD).length<_;rw[ba];exact hn e c
 rw[h,xa,kR,xa,f,xa,da d,j7,DU,DV]
abbrev DY:ao->Option D:=b6 (al 3) oN (oS (al 4))
theorem DZ{ms:List M4}(d:∀x∈ms,bL x.1)(hm:ms.length<=60){x:M4}(f:x∈ms){N:Nat}(a b:Option Sl):∀(n k:Nat) (m:List (aF×List M4)) (z:Option Sl),1<=k->k+n<=x.1.length->MI ms N m →
  ∃c y,jM (gN 4) (nC DY) (gj ((k:Nat):Int) n) [a,none,b,sh (pD x.1),z] (m.map gE)=some ([a,none,b,sh (pD x.1),y],c.map gE)/\MI ms N c/\(NE m->NE c)
 |0,k,m,z,_,_,h=>⟨m,z,rfl,h,id⟩
 |n+1,k,m,z,l,o,h=>by
  have j:=(h.sd (DT f l (by omega))).1;obtain⟨c,y,e,g,i⟩:=DZ d hm f a b n (k+1) (sd m (x.1.take k)) (sh (.int (k:Nat))) (by omega) (by omega) j;refine⟨c,y,?_,g,λz=>i (z.sd _)⟩;rw[x0,<-e]
  have hs:DY [a,none,b,sh (pD x.1),sh (.int (k:Nat))]=some (pD (x.1.take k)):=by
   show some (D.tup (dH (x.1.map D.str) none (some ((k:Nat):Int))))=_;rw[tI,<-bo]
  have:=h.len d
  exact yF rfl (Nl hs (by omega))
def rC:GG:=(o7 (tS 3 (e2 aJ (al 2) (eC (.int 0))))
  (o7 (j8 (iR lV (aC (eC (.int 1)) (aC (eN cF (aC (al 3) aN)) aN))) (gN 4) (nC (b6 (al 3) oN (oS (al 4)))))
  (jL (al 3) (au 2))))
theorem D0{ms:List M4}(i:∀x∈ms,bL x.1)(hm:ms.length<=60)(a:Option Sl):∀(os:List M4) (m:List (aF×List M4)) (N:Nat) (n f b:Option Sl),(∀x∈os,x∈ms)->N+os.length<=1000->MI ms N m →
  ∃d ρ',jM (gN 2) rC (os.map bD) [a,none,n,f,b] (m.map gE)=some (ρ',d.map gE)/\MI ms (N+os.length) d/\(NE m\/os≠[]->NE d)
 |[],m,N,n,f,b,_,_,h=>⟨m,_,rfl,h,λz=>z.resolve_right λz=>z rfl⟩
 |x::os,m,N,n,f,b,hs,C,h=>by
  rw[wb]at C;have g:=hs x va;have gx:=i x g;have E:=gx.len;have gp:=gx.pos;obtain⟨c,y,e1,j,_⟩:=DZ i hm g a (sh (bD x)) (x.1.length - 1) 1 m b (bb _) (by omega) h
  have u:x.1∈kT ms:=by
   have:=DT g gp (bb _)
   rwa [List.take_length]at this
  have⟨q,l⟩:=j.sd u;obtain⟨d,ρ',e,r,s⟩:=D0 i hm a os (ap x.1 x (sd c x.1)) (N+1) (sh (bD x)) (sh (pD x.1)) y (λy o=>hs y (la _ o)) (by omega) (q.ap g);refine⟨d,ρ',?_,by rw[wb,show N+(os.length+1)=N+1+os.length by omega];exact r,λ_=>s (.inl (DX l))⟩;rw[ja,<-e];refine yF (ρ1:=[a,none,sh (bD x),f,b]) (z:=([a,none,sh (bD x),sh (pD x.1),y],(ap x.1 x (sd c x.1)).map gE)) rfl ?_;have v:tS 3 (e2 aJ (al 2) (eC (.int 0))) [a,none,sh (bD x),f,b] (m.map gE)=some ([a,none,sh (bD x),sh (pD x.1),b],m.map gE):=rfl
  have w:iR lV (aC (eC (.int 1)) (aC (eN cF (aC (al 3) aN)) aN)) [a,none,sh (bD x),sh (pD x.1),b]=some (gj ((1:Nat):Int) (x.1.length - 1)):=by
   refine tB (ds:=[.int 1,.int ((x.1.length:Nat):Int)]) (aP rfl (aP (bN rfl ?_) rfl)) ?_
   ·show some (D.int (((x.1.map D.str).length:Nat):Int))=_
    rw[ba]
   ·refine(KU (by decide) (by decide) (by omega) (by omega)).trans ?_
    rw[show (((x.1.length:Nat):Int) - 1).toNat=x.1.length - 1 by omega];rfl
  have A:j8 (iR lV (aC (eC (.int 1)) (aC (eN cF (aC (al 3) aN)) aN))) (gN 4) (nC (b6 (al 3) oN (oS (al 4)))) [a,none,sh (bD x),sh (pD x.1),b] (m.map gE)=some ([a,none,sh (bD x),sh (pD x.1),y],c.map gE):=by
   unfold j8;rw[w,xa];exact e1
  have B:jL (al 3) (au 2) [a,none,sh (bD x),sh (pD x.1),y] (c.map gE)=some ([a,none,sh (bD x),sh (pD x.1),y],(ap x.1 x (sd c x.1)).map gE):=by
   have:=j.len i
   exact Nm rfl rfl (by omega) λe p=>by have:=j.ln e p;omega
  show rC _ _=_;unfold rC o7;rw[v,xa];dsimp only;rw[A,xa];exact B
def D1(m:List (aF×List M4)):D:=.dt (m.map λe=>pK e.1) (m.map λe=>.lst (e.2.map bD))
theorem Nn{ms os:List M4}(d:∀x∈ms,bL x.1)(hm:ms.length<=60)(hs:∀x∈os,x∈ms)(hl:os.length<=60):∃m,uv [.lst (os.map bD)]=some (D1 m)/\MI ms os.length m/\(os≠[]->NE m):=by
 obtain⟨m,ρ',e,h,b⟩:=D0 d hm (sh (.lst (os.map bD))) os [] 0 none none none hs (by omega) ⟨ji,(λe a=>nomatch a),(λe a=>nomatch a),(λe a=>nomatch a)⟩;rw[rf]at h;refine⟨m,cS rfl ?_,h,λz=>b (.inr z)⟩;show mj 1 (j8 (iE (au 0)) (gN 2) rC) [sh (.lst (os.map bD)),none,none,none,none]=_;unfold mj;have c:j8 (iE (au 0)) (gN 2) rC [sh (.lst (os.map bD)),none,none,none,none] []=some (ρ',m.map gE):=e;simp only[wc,ie];refine(da rfl).trans ?_;rw[c];dsimp only;rw[jc,jc];rfl
theorem nW{p:aF}(h:bL p):d5 [pD p]=some (.lst (p.map dL)):=uB p h.asc (wd h.len (by decide))
theorem No{ks:List aF}(v:∀p∈ks,bL p)(y:ks.Nodup)(B:ks.length<64):gY d5 (ks.map pD):=by
 have f:∀d∈ks.map pD,∃p,bL p/\d=pD p/\rk d5 d=.lst (p.map dL):=λd i=>by
  obtain⟨p,s,rfl⟩:=gb.mp i;exact⟨p,v p s,rfl,gy (nW (v p s))⟩
 refine⟨λd i=>?_,.inl λd i=>?_,λd i e w=>?_,⟨λa j b l c x n o=>?_,λa j b l=>?_,λa j b l h=>?_⟩,?_,by rw[ba];exact⟨.inl (by omega),by omega⟩⟩
 ·obtain⟨p,g,rfl,_⟩:=f d i
  exact⟨_,nW g,q0 p⟩
 ·obtain⟨p,g,rfl,e⟩:=f d i
  rw[e];rfl
 ·obtain⟨p,g,rfl,e1⟩:=f d i
  obtain⟨q,m,rfl,e2⟩:=f e w;rw[e1,e2];exact nT.ok _ _ (i7 p) (i7 q)
 ·obtain⟨p,g,rfl,e1⟩:=f a j
  obtain⟨q,m,rfl,e2⟩:=f b l;obtain⟨r,A,rfl,u⟩:=f c x;unfold dZ at n o ⊢;rw[e1,e2]at n;rw[e2,u]at o;rw[e1,u];exact nT.tr _ _ _ (i7 p) (i7 q) (i7 r) n o
 ·obtain⟨p,g,rfl,e1⟩:=f a j
  obtain⟨q,m,rfl,e2⟩:=f b l;unfold dZ;rw[e1,e2];rcases nT.tot _ _ (i7 p) (i7 q) with z|z
  ·exact .inl (by rw[uC g m (D.lst.inj z)])
  ·exact .inr z
 ·obtain⟨p,g,rfl,e1⟩:=f a j
  obtain⟨q,m,rfl,e2⟩:=f b l;unfold dZ at h ⊢;rw[e1,e2]at h;rw[e1,e2];exact nT.as _ _ (i7 p) (i7 q) h
 ·exact ul.mpr (List.Pairwise.imp (λ{a b} h e=>h (yB e)) y)
theorem Np{i o:Type}{f:i->o}{l m:List o}(h:l.Perm m):∀{ks:List i},m=ks.map f->∃c:List i,l=c.map f/\c.Perm ks:=by
 induction h with
 |nil =>
  intro ks e
  cases ks with
  |nil=>exact⟨[],rfl,.refl _⟩
  |cons a r=>cases e
 |cons x _ w =>
  intro ks e
  cases ks with
  |nil=>cases e
  |cons a r =>
   have⟨e1,e2⟩:=fm e;have⟨p,d,g⟩:=w e2;exact⟨a::p,by rw[ja,e1,d],g.cons a⟩
 |swap x y l =>
  intro ks e
  match ks,e with
  |[],e=>cases e
  |[a],e=>cases e
  |a::b::r,e =>
   have⟨e1,e2⟩:=fm e;have⟨e2,q⟩:=fm e2;exact⟨b::a::r,by rw[ja,ja,e1,e2,q],uq a b r⟩
 |trans _ _ j n =>
  intro ks e;have⟨k2,d,g⟩:=n e;have⟨s,u,v⟩:=j d;exact⟨s,u,v.trans g⟩
theorem Nq{ks:List aF}(d:∀p∈ks,bL p)(e:ks.Nodup)(f:ks.length<64):∃a:List aF,kI d5 (ks.map pD)=some (a.map pD)/\a.Perm ks:=by
 have⟨a,b,c⟩:=Np (kH (dZ d5) (ks.map pD)) rfl;refine⟨a,?_,c⟩;unfold kI;rw[da (No d e f),b]
theorem D2{b:Type}{p:aF}{v:b}:∀{m:List (aF×b)},bF m p=some v->(p,v)∈m
 |[],h=>by cases h
 |a::m,h=>by
  rw[el]at h
  split at h
  ·rename_i e
   cases h;rw[<-e];exact va
  ·exact la _ (D2 h)
theorem Nr{a:Type}(m:List (Int×a))(k:Int)(v:a):eQ m k v≠[]:=by
 intro z
 have:=de (List.map Prod.fst) z
 rw[yu]at this
 split at this
 ·rename_i h;rw[this]at h;cases h
 ·simp at this
theorem yG{most:Bool}:∀(ps:List Int) (m:List (Int×Bool)),m≠[]\/ps≠[]->ps.foldl (kQ most) m≠[]
 |[],m,h=>h.resolve_right λz=>z rfl
 |x::r,m,_=>yG r _ (.inl (Nr _ _ _))
theorem D3{pg:List Int}:∀(a:List Mk) (m:List (Int×Bool)),m≠[]->a.foldl (λm k=>(i8 pg k).foldl (kQ k.2.2) m) m≠[]
 |[],m,h=>h
 |k::r,m,h=>D3 r _ (yG _ _ (.inl h))
theorem Nt{pg:List Int}{k:Mk}{r:List M4}(h:i8 pg k≠[]){p:aF}:eO pg (((p,k)::r).map (·.2))≠[]:=by
 unfold eO;rw[ja,kh];exact D3 _ _ (yG _ _ (.inr h))
theorem D4(a b:Int)(t:Bool):∀r:List (Int×Bool),fX a b t r≠[]
 |[]=>by unfold fX;simp
 |x::r=>by
  unfold fX;split
  ·exact D4 _ _ _ r
  ·simp
theorem Nu{m:List (Int×Bool)}(h:m≠[]):iH m≠[]:=by
 cases m with
 |nil=>exact absurd rfl h
 |cons x r=>unfold iH;exact D4 _ _ _ r
def c8(e:aF×List Td):D:=.tup [pD e.1,.lst (e.2.map c7)]
structure Nv(ms:List M4)(E:List (aF×List Td)):Prop where
 nd:(E.map Prod.fst).Nodup
 sub:∀e∈E,e.1∈kT ms
 ln:∀e∈E,e.2.length<=62
theorem D5{a:ao->Option D}{ρ:ao}{d:D}(h:a ρ=some d):fU a ρ=.nx ρ:=by unfold fU;rw[h]
theorem Nw{ms:List M4}(bs:List Bool)(hb:bs.length<=62)(u:∀x∈ms,nV bs.length x)(hm:ms.length<=10)(most first:Int):∃E,ux [.lst (bs.map D.bl),.int most,.int first,.lst (ms.map bD)]=some (.lst (E.map c8))/\Nv ms E/\(ms≠[]->∃e∈E,e.2≠[]):=by
 have s:∀x∈ms,bL x.1:=λx f=>(u x f).p
 obtain⟨os,e1,L,X,P⟩:=Ni s (by omega);have e2:=Ng (os:=os) λx f=>u x (L x f)
 obtain⟨pg,Y,Q⟩:=Nd bs (by omega) most first
 obtain⟨m,R,M,A⟩:=Nn s (by omega) L (by omega);have Z:=M.len s
 obtain ⟨ks,T,q⟩:=Nq (ks:=m.map Prod.fst) (λ p b=>by
  obtain⟨e,g,rfl⟩:=gb.mp b;exact Nk s (M.sub e g)) M.nd (by rw[ba];omega)
 have U:=q.length_eq;rw[ba]at U
 have G:∀p∈ks,∃xs,bF m p=some xs/\(p,xs)∈m:=λp b=>by
  have⟨xs,f⟩:=rz (q.mem_iff.mp b);exact⟨xs,f,D2 f⟩
 refine⟨ks.map λp=>(p,iH (e5 (eO pg (((bF m p).getD []).map (·.2))))),?_,⟨?_,λe g=>?_,λe g=>?_⟩,λv=>?_⟩
 ·refine cS rfl (st (bM (iY (uH (aP (bN rfl rfl) rfl) rfl e1))) (st (D5 (cB (ds:=[.lst (os.map bD),.int ((bs.length:Nat):Int)]) (aP rfl (aP (bN rfl ?_) rfl)) rfl e2)) (st (bM (cB rfl rfl Q)) (st (bM (cB rfl rfl R)) (dQ ?_)))))
  ·show some (D.int (((bs.map D.bl).length:Nat):Int))=_
   rw[ba]
  ·refine(iY (nn (ds:=ks.map pD) (qD (d:=.lst (ks.map pD)) (iY ?_) rfl) (sz (by rw[ba];omega)) (oQ pD (λp=>c8 (p,iH (e5 (eO pg (((bF m p).getD []).map (·.2)))))) ks λp b=>⟨_,rfl,rfl,?_⟩))).trans ?_
   ·show kI d5 ((m.map λe=>pK e.1).map i4)=_
    rw[<-T,jc,jc];exact de _ (zf λe _=>Nj e.1)
   ·have⟨xs,f,h⟩:=G p b
    rw[f]
    have w:∀k∈xs.map (·.2),k.1<=k.2.1:=λk w=>by
     obtain⟨x,i,rfl⟩:=gb.mp w;exact(u x (M.mm _ h x i).2).lo
    have hs:=Nb (pg:=pg) (by omega) (pD p) (xs.map (·.2)) w
    have g:(xs.map (·.2)).map (mt (pD p))=xs.map bD:=by
     rw[jc];refine zf λx i=>?_
     show mt (pD p) x.2=bD x;unfold mt bD lG;rw[(M.mm _ h x i).1]
    rw[g]at hs;refine bN (ds:=[pD p,.lst ((iH (e5 (eO pg (xs.map (·.2))))).map c7)]) (aP rfl (aP (cB (ds:=[.lst (pg.map D.int),.lst (xs.map bD)]) (aP rfl (aP (aI (d:=D1 m) (e:=pD p) rfl rfl ?_) rfl)) rfl hs) rfl)) rfl;unfold c0
    have:=rB (λxs:List M4=>D.lst (xs.map bD)) m p
    rw[f]at this;show (fH (.dt (m.map λe=>pK e.1) (m.map λe=>D.lst (e.2.map bD))) (pD p)).bind id=_;rw[this];rfl
   ·rw[jc];rfl
 ·rw[jc]
  have:(ks.map (Prod.fst ∘ λp=>(p,iH (e5 (eO pg (((bF m p).getD []).map (·.2)))))))=ks:=by
   have:(Prod.fst ∘ λp:aF=>(p,iH (e5 (eO pg (((bF m p).getD []).map (·.2))))))=id:=rfl
   rw[this,av]
  rw[this];exact q.nodup_iff.mpr M.nd
 ·obtain⟨p,b,rfl⟩:=gb.mp g
  have⟨xs,_,h⟩:=G p b;exact M.sub _ h
 ·obtain⟨p,b,rfl⟩:=gb.mp g
  have j:=M6 (e5 (eO pg (((bF m p).getD []).map (·.2))));rw[yz]at j;have B:=(DK pg (((bF m p).getD []).map (·.2))).len;show (iH _).length<=62;omega
 ·have⟨e,g,hn⟩:=A (P.1 v)
  have n:e.1∈ks:=q.mem_iff.mpr (gb.mpr ⟨e,g,rfl⟩);refine⟨_,gb.mpr ⟨e.1,n,rfl⟩,?_⟩
  have H:bF m e.1=some e.2:=by
   have⟨xs,j,B⟩:=G e.1 n;rw[j]
   have:(e.1,xs)=e:=by
    have I:=M.nd;rw[List.nodup_iff_pairwise_ne,ul]at I;rcases rq.mp B with⟨a,N,C⟩;rcases rq.mp g with⟨c,O,F⟩
    have J:a=c:=by
     rcases vn a c with z|z|z
     ·exact absurd (show m[a].1=m[c].1 by rw[C,F]) (yf.mp I a c N O z)
     ·exact z
     ·exact absurd (show m[c].1=m[a].1 by rw[C,F]) (yf.mp I c a O N z)
    subst J;rw[<-C,F]
   rw[<-this]
  rw[H];show iH (e5 (eO pg (e.2.map (·.2))))≠[];have⟨x,r,l⟩:=zm hn;have f:=M.mm e g x (by rw[l];exact va);have gx:=u x f.2
  have o:i8 pg x.2≠[]:=by
   unfold i8;intro z
   have:=de List.length z
   rw[ae,kj,md]at this;have j:=gx.lo;have B:=gx.hi;omega
  have K:eO pg (e.2.map (·.2))≠[]:=by
   rw[l];exact Nt o
  intro z
  have:=Nu (m:=e5 (eO pg (e.2.map (·.2)))) (λ y=>K (by
   have j:=de List.length y;rw[yz,md]at j;exact List.eq_nil_of_length_eq_zero j))
  exact this z
noncomputable def mv(hs gs:List (List Nat))(a:Bool):D:=.tup [.tup (hs.map D.str),.tup (gs.map D.str),.bl a]
def pA(d:D):Prop:=∃hs gs a,bL hs/\bL gs/\d=mv hs gs a
theorem nX{hs gs:List (List Nat)}(h:bL hs)(b:bL gs)(a:Bool):kO [mv hs gs a]=some (.tup [.lst (hs.map dL),.bl a,.lst (gs.map dL)]) :=
 cS rfl (dQ (bN (aP (cB (aP (aI rfl rfl rfl) rfl) rfl (uB hs h.asc (wd h.len (by decide)))) (aP (aI rfl rfl rfl) (aP (cB (aP (aI rfl rfl rfl) rfl) rfl (uB gs b.asc (wd b.len (by decide)))) rfl))) rfl))
noncomputable def D6:Nat->D->Prop|0=>rc|1=>xT|_=>rc
theorem Ny:cH (nF D6):=uc λi=>match i with|0=>nT|1=>C9|_+2=>nT
theorem D7:pz kO (nF D6) pA where
 T:=Ny
 ex:=λd ⟨hs,gs,a,h,g,e⟩=>by subst e;rw[gy (nX h g a)];exact nX h g a
 cl:=λd ⟨hs,gs,a,h,g,e⟩=>by subst e;rw[gy (nX h g a)];exact⟨_,rfl,i7 hs,⟨_,rfl⟩,i7 gs,ug⟩
 dk:=λd ⟨hs,gs,a,h,g,e⟩=>by subst e;rw[gy (nX h g a)];simp[bE,LV,dL]
 kb:=λd ⟨hs,gs,a,h,g,e⟩=>by subst e;rw[gy (nX h g a)];exact⟨rfl,rfl⟩
 inj:=λd e ⟨hs,gs,a,h,g,e1⟩ ⟨hs',gs',a',h',g',e2⟩ z=>by
  subst e1 e2;rw[gy (nX h g a),gy (nX h' g' a')]at z;have z:=D.tup.inj z;simp only[vk,D.lst.injEq]at z;obtain⟨z1,z2,z3,_⟩:=z;have e1:=uC h h' z1;have e2:=uC g g' z3;subst e1 e2;unfold mv;rw[z2]
theorem Nz(hs gs:List (List Nat))(a:Bool):gw [2,2,1] (mv hs gs a)=true:=by
 simp only[gw,mv,j5,jb,jm];exact⟨yt hs,yt gs,rfl⟩
abbrev rD:D->ao->Option ao:=gT 3 (bA (gN 3) (bA (gN 4) (bA (gN 5) cX)))
abbrev rE:GN:=nA [2,2,1] (eN bP (aC (bv 1 kN (aC (au 3) aN)) (aC (bv 1 kN (aC (au 4) aN)) (aC (au 5) aN))))
theorem D8(a b:Option Sl):∀(h ks:List D) (c f g:Option Sl),(∀d∈h,pA d)->ks.length+h.length<=100000->∃i j l,i1 rD rE h [a,none,b,c,f,g] ks=some ([a,none,b,i,j,l],h.foldl d1 ks)
 |[],ks,c,f,g,_,_=>⟨c,f,g,rfl⟩
 |d::r,ks,c,f,g,n,hl=>by
  obtain⟨hs,gs,m,_,_,rfl⟩:=n _ va;rw[wb]at hl;have q:=uE ks (mv hs gs m);obtain⟨i,j,l,p⟩:=D8 a b r (d1 ks (mv hs gs m)) (sh (.tup (hs.map D.str))) (sh (.tup (gs.map D.str))) (sh (.bl m)) (λe o=>n e (la _ o)) (by omega);exact⟨i,j,l,(uF rfl (Dx (bN (aP (cB rfl rfl (yr hs)) (aP (cB rfl rfl (yr gs)) (aP rfl rfl))) rfl) (Nz hs gs m) (by omega))).trans p⟩
theorem D9(a:Option Sl):∀(hs:List (List D)) (ks:List D) (b e f g:Option Sl),(∀d∈hs.flatten,pA d)->ks.length+hs.flatten.length<=100000->∃y j m n,i1 (gN 2) (fD (iE (au 2)) rD rE) (hs.map D.lst) [a,none,b,e,f,g] ks=some ([a,none,y,j,m,n],hs.flatten.foldl d1 ks)
 |[],ks,b,e,f,g,_,_=>⟨b,e,f,g,rfl⟩
 |h::r,ks,b,e,f,g,o,hl=>by
  rw[ud,wa]at hl
  have v:∀(l c:List D),(l.foldl d1 c).length<=c.length+l.length:=λl=>by
   induction l with
   |nil=>intro c;simp
   |cons x l z=>intro c;rw[kh,wb];have:=z (d1 c x);have:=uE c x;omega
  have w:=v h ks;obtain⟨j,m,n,e1⟩:=D8 a (sh (.lst h)) h ks e f g (λd i=>o d (by rw[ud];exact bf _ i)) (by omega);obtain⟨p,q,s,u,e2⟩:=D9 a r (h.foldl d1 ks) (sh (.lst h)) j m n (λd i=>o d (by rw[ud];exact qc _ i)) (by omega);refine⟨p,q,s,u,?_⟩;rw[ja,ud,List.foldl_append,<-e2];refine uF rfl ?_;show fD (iE (au 2)) rD rE [a,none,sh (.lst h),e,f,g] ks=_;unfold fD;exact e1
theorem NA{hs:List (List D)}(a:∀d∈hs.flatten,pA d)(hl:hs.flatten.length<=10000)(j:(dd hs.flatten).length<64):i5 [.lst (hs.map D.lst)]=some (fW (dZ kO) (dd hs.flatten)):=by
 obtain⟨c,f,g,h,e⟩:=D9 (sh (.lst (hs.map D.lst))) hs [] none none none none a (by rw[md];omega);refine BU rfl ?_;have ok:=D7.kok (λd b=>a d (g0.mp b)) (kt hs.flatten) j;have i:fD (iE (au 0)) (gN 2) (fD (iE (au 2)) rD rE) [sh (.lst (hs.map D.lst)),none,none,none,none,none] []=some ([sh (.lst (hs.map D.lst)),none,c,f,g,h],dd hs.flatten):=e;show l8 1 (fD (iE (au 0)) (gN 2) (fD (iE (au 2)) rD rE)) kO [sh (.lst (hs.map D.lst)),none,none,none,none,none]=_;unfold l8;simp only[wc,ie];rw[i];dsimp only;unfold kI;rw[da ok]
abbrev En:=List (aF×List Td)
abbrev bu:=aF×aF×Bool
def aL(s:bu):D:=mv s.1 s.2.1 s.2.2
theorem pB(a b:aF):fw (pD a) (pD b)=some (decide (a=b)):=by
 show fw (.tup (a.map D.str)) (.tup (b.map D.str))=_;rw[B3 (by rw[q9,q9];rfl),x9]
theorem NB(c:List Td):fw (.lst (c.map c7)) (.lst [])=some c.isEmpty:=by
 have f:bE LV (.lst (c.map c7))=true:=by
  rw[show LV=8+1 from rfl,bE];exact vc.mpr λd e=>by obtain⟨t,_,rfl⟩:=gb.mp e;simp[c7,bE]
 have g:bE LV (.lst [])=true:=by rw[show LV=8+1 from rfl,bE];rfl
 rw[B4 (by rw[f,g];rfl)]
 cases c with
 |nil=>rw[rg,b9];rfl
 |cons t r =>
  rw[ja,b9]
  ·rfl
  ·intro h;cases h
  ·intro a i b bs _ h;cases h
def fY(E:En):List aF:=(E.filter λe=>!e.2.isEmpty).map Prod.fst
theorem NC{s t:bu}(h:aL s=aL t):s=t:=by
 have h:D.tup [pD s.1,pD s.2.1,.bl s.2.2]=D.tup [pD t.1,pD t.2.1,.bl t.2.2]:=h;have h:=D.tup.inj h;simp only[vk]at h;obtain⟨b,c,a,_⟩:=h;have a:s.2.2=t.2.2:=by injection a with a;injection a
 exact wq (yB b) (wq (yB c) a)
theorem Ea{s:bu}{A:List bu}:aL s∈A.map aL↔s∈A:=by
 rw[gb];exact⟨λ⟨t,a,b⟩=>by rw[<-NC b];exact a,λh=>⟨s,h,rfl⟩⟩
theorem ND{s:bu}(a:bL s.1)(b:bL s.2.1):pA (aL s):=⟨_,_,_,a,b,rfl⟩
theorem NF{A:List bu}(q:∀s∈A,bL s.1/\bL s.2.1)(hl:A.length<64):∃O:List bu,(∀s,s∈O↔s∈A)/\O.Nodup/\O.length<=A.length/\∀H:List bu,(∀s,s∈H↔s∈A)->H.length<=5000->i5 [.lst [.lst (H.map aL)]]=some (O.map aL):=by
 have g:∀d∈A.map aL,pA d:=λd c=>by obtain⟨s,hs,rfl⟩:=gb.mp c;exact ND (q s hs).1 (q s hs).2
 have j:=kH (dZ kO) (dd (A.map aL));have⟨O,i,u⟩:=yA (f:=aL) (ms:=A) (fW (dZ kO) (dd (A.map aL))) λd c=>g0.mp (j.mem_iff.mp c)
 have p:(dd (A.map aL)).length<=A.length:=by
  have:=uD (kt (A.map aL)) λd c=>g0.mp c
  rwa [ba]at this
 refine⟨O,λs=>⟨u s,λhs=>?_⟩,?_,?_,λH o r=>?_⟩
 ·have:aL s∈fW (dZ kO) (dd (A.map aL)):=j.mem_iff.mpr (g0.mpr (Ea.mpr hs))
  rw[i]at this;exact Ea.mp this
 ·have:(O.map aL).Nodup:=by rw[<-i];exact j.nodup_iff.mpr (kt _)
  exact List.Pairwise.imp (λh e=>h (by rw[e])) (ul.mp this)
 ·have:=de List.length i
  rw[j.length_eq,ba]at this;omega
 ·have hm:∀d,d∈A.map aL↔d∈H.map aL:=λd=>by
   rw[gb,gb];exact⟨λ⟨s,a,b⟩=>⟨s,(o s).mpr a,b⟩,λ⟨s,a,b⟩=>⟨s,(o s).mp a,b⟩⟩
  have l:[H.map aL].flatten=H.map aL:=by rw[ud,jp,pc]
  have n:(dd (H.map aL)).length<64:=by
   have:=uD (kt (H.map aL)) (m:=dd (A.map aL)) λd c=>g0.mpr ((hm d).mpr (g0.mp c))
   omega
  have e:=NA (hs:=[H.map aL]) (by rw[l];exact λd c=>g d ((hm d).mpr c)) (by rw[l,ba];omega) (by rw[l];exact n);rw[l]at e;refine e.trans ?_;rw[MT D7 g hm,i]
abbrev d6(E:En):D:=.dt (E.map λe=>pK e.1) (E.map λe=>.bl (!e.2.isEmpty))
def jO(E:En):Sl:=.dt (E.map λe=>pK e.1) (E.map λe=>.bl (!e.2.isEmpty))
theorem NH{E:En}{p:aF}{a:List Td}(h:p ∉ E.map Prod.fst)(hl:E.length<=1000):jI (jO E) (pD p) (.bl (!a.isEmpty))=some (jO (E++[(p,a)])):=by
 unfold jI jO;dsimp only;rw[kR,xa,da (by rw[ba];exact lB (by omega)),rA (λa:List Td=>D.bl (!a.isEmpty)),lH]
 ·rw[db,db,jc,jc,db,db];rfl
 ·intro z
  rw[jc]at z;have⟨e,b,c⟩:=gb.mp z;exact h (gb.mpr ⟨e,b,mu c⟩)
theorem Eb(a:Option Sl):∀(E b:En) (c d:Option Sl),((b++E).map Prod.fst).Nodup->b.length+E.length<=1000->∃f g,dO (gT 2 (bA (gN 2) (bA (gN 3) cX))) (jJ 1 (al 2) (e2 fA (eN cF (aC (al 3) aN)) (eC (.int 0)))) (E.map c8) [a,some (jO b),c,d]=.nx [a,some (jO (b++E)),f,g]
 |[],b,c,d,_,_=>⟨c,d,by rw[pc];rfl⟩
 |e::E,b,c,d,hn,hl=>by
  rw[wb]at hl;obtain⟨f,g,h⟩:=Eb a E (b++[e]) (sh (pD e.1)) (sh (.lst (e.2.map c7))) (by rw[qf];exact hn) (by rw[wa,xb];omega);refine⟨f,g,?_⟩;rw[qf]at h;rw[ja,<-(show (b++([e]++E))=b++e::E from rfl),<-h]
  have i:e.1 ∉ b.map Prod.fst:=λz=>by
   rw[db]at hn;exact(ke.mp hn).2.2 e.1 z e.1 (by simp) rfl
  have j:e2 fA (eN cF (aC (al 3) aN)) (eC (.int 0)) [a,some (jO b),sh (pD e.1),sh (.lst (e.2.map c7))]=some (.bl (!e.2.isEmpty)):=by
   refine(aI (bN (z:=.int ((e.2.length:Nat):Int)) rfl (by show some (D.int (((e.2.map c7).length:Nat):Int))=_;rw[ba])) rfl nr).trans ?_
   cases e.2 with
   |nil=>rfl
   |cons t r=>rw[za (by rw[wb];omega)];rfl
  exact iC (ρ1:=[a,some (jO b),sh (pD e.1),sh (.lst (e.2.map c7))]) rfl (uK (sl:=jO b) rfl j rfl (NH i (by omega)))
theorem Ed{E:En}(a:(E.map Prod.fst).Nodup)(hl:E.length<=100):nI [.lst (E.map c8)]=some (d6 E):=by
 obtain⟨b,c,e⟩:=Eb (sh (.lst (E.map c8))) E [] none none a (by rw[md];omega);exact cS rfl (st rfl (st (iu rfl e) rfl))
abbrev Sq:=List (aF×Bool)
def g6(m:Sq):Sl:=.dt (m.map λe=>pK e.1) (m.map λe=>.bl e.2)
abbrev NJ(m:Sq):D:=.dt (m.map λe=>pK e.1) (m.map λe=>.bl e.2)
theorem NK{m:Sq}{p:aF}(h:p ∉ m.map Prod.fst)(hl:m.length<=1000):jI (g6 m) (pD p) (.bl true)=some (g6 (m++[(p,true)])):=by
 unfold jI g6;dsimp only;rw[kR,xa,da (by rw[ba];exact lB (by omega)),rA D.bl,lH]
 ·rw[db,db,jc,jc,db,db];rfl
 ·intro z
  rw[jc]at z;have⟨e,a,b⟩:=gb.mp z;exact h (gb.mpr ⟨e,a,mu b⟩)
theorem uN{b:Type}(a:b->D)(m:List (aF×b))(p:aF):iS (pD p) (.dt (m.map λe=>pK e.1) (m.map λe=>a e.2))=some (decide (p∈m.map Prod.fst)):=by
 show (fH _ (pD p)).map Option.isSome=_;rw[rB a m p,ze,og];by_cases h:p∈m.map Prod.fst
 ·rw[za h,yE.mpr h]
 ·rw[nb h,uI h];rfl
abbrev uO:ao->Option D:=e2 aJ (al 2) (e1 cv (eC (.int 1)))
theorem uP{a b d:Option Sl}{l:List aF}{c:aF}:uO [a,b,some (.ow ((l++[c]).map pD)),d]=some (pD c):=by
 refine aI (d:=.lst ((l++[c]).map pD)) (e:=.int (-1)) rfl (gz rfl o4) ?_;rw[kF,db];exact nU (l.map pD) (pD c)
def pC:ao->Option Bool:=bV (tE (e2 ee (e2 aJ (al 2) (e1 cv (eC (.int 1)))) (al 1))) (tE (e2 dF (e2 aJ (al 2) (e1 cv (eC (.int 1)))) (al 3)))
def uQ:ao->aT:=(aO (jJ 3 (e2 aJ (al 2) (e1 cv (eC (.int 1)))) (eC (.bl true)))
  (dY 2 (e2 aJ (e2 c0 (al 1) (e2 aJ (al 2) (e1 cv (eC (.int 1))))) (eC (.int 0)))))
theorem rF(a b:aF):bG (pD a) (pD b)=decide (a=b):=by rw[bG,x9]
theorem yH(k b:List aW)(d:D):∀gd:GD,bF (iD k d gd) b=if b=k then (bF gd k).map (·++[d]) else bF gd b
 |[]=>by
  rw[iD]
  split <;> rfl
 |x::r=>by
  have c:=yH k b d r;rw[iD];by_cases h:x.1=k
  ·rw[da h,el]
   by_cases a:b=k
   ·rw[da (by rw[a];exact h),da a,el,da h];rfl
   ·rw[qa (λz=>a (z.symm.trans h)),qa a,el,qa (λz=>a (z.symm.trans h))]
  ·rw[qa h,el,c,el,el]
   by_cases a:b=k
   ·subst a
    rw[qa h,da rfl,da rfl,qa h]
   ·rw[qa a,qa a]
theorem NL(gd:GD)(k k':List aW)(d:D):bF (j7 gd k d) k'=if k'=k then some ((bF gd k).getD []++[d]) else bF gd k':=by
 cases e:bF gd k with
 |some v =>
  have hs:eY gd k=gd:=by unfold eY;rw[e];rfl
  rw[j7,hs,yH,e];rfl
 |none =>
  have b:k ∉ gd.map Prod.fst:=λz=>by
   have⟨v,h⟩:=rz z;rw[e]at h;cases h
  have hs:eY gd k=eQ gd k []:=by unfold eY;rw[e,lH [] b];rfl
  rw[j7,hs,yH,yv,yv,da rfl];by_cases a:k'=k
  ·rw[da a,da a];rfl
  ·rw[qa a,qa a,qa a]
theorem Ee{k:List aW}{d:D}{n:Nat}:∀{gd:GD},(∀x∈gd,x.2.length<=n)->∀x∈iD k d gd,x.2.length<=n+1
 |[],_,x,h=>nomatch h
 |y::r,hn,x,h=>by
  rw[iD]at h
  split at h
  ·rcases pb.mp h with rfl|h
   ·have:=hn y va
    show (y.2++[d]).length<=n+1;rw[wa,xb];omega
   ·have:=hn x (la _ h);omega
  ·rcases pb.mp h with rfl|h
   ·have:=hn x va;omega
   ·exact Ee (λz hz=>hn z (la _ hz)) x h
def cI(O:List bu)(p:aF):List aF:=(O.filter λs=>!s.2.2 && decide (s.1=p)).map λs=>s.2.1
theorem uR(O:List bu)(s:bu)(p:aF):cI (O++[s]) p=cI O p++if s.2.2=false/\s.1=p then [s.2.1] else []:=by
 unfold cI;rw[List.filter_append,db]
 congr 1
 by_cases h:s.2.2=false/\s.1=p
 ·rw[da h,ij (by rw[h.1,za h.2];rfl)];rfl
 ·rw[qa h,jj (λz=>h ?_)]
  ·rfl
  ·rw[jb,ak,gh]at z;exact z
structure GI(gd:GD)(O:List bu):Prop where
 v:∀p,bF gd (pK p)=if cI O p=[] then none else some ((cI O p).map pD)
 l:gd.length<=O.length
 n:∀x∈gd,x.2.length<=O.length
theorem GI.skip{gd:GD}{O:List bu}{s:bu}(h:GI gd O)(hs:s.2.2=true):GI gd (O++[s]):=by
 have e:∀p,cI (O++[s]) p=cI O p:=λp=>by rw[uR,qa (by rw[hs];exact λz=>nomatch z.1),pc]
 exact⟨λp=>by rw[e];exact h.v p,by rw[wa];have:=h.l;omega,λx a=>by rw[wa];have:=h.n x a;omega⟩
theorem GI.add{gd:GD}{O:List bu}{s:bu}(h:GI gd O)(hs:s.2.2=false):GI (j7 gd (pK s.1) (pD s.2.1)) (O++[s]):=by
 refine⟨λp=>?_,?_,λx b=>?_⟩
 ·rw[NL]
  by_cases e:s.1=p
  ·subst e
   have a:cI (O++[s]) s.1=cI O s.1++[s.2.1]:=by rw[uR,da ⟨hs,rfl⟩]
   rw[da rfl,a,qa (by simp),h.v];by_cases z:cI O s.1=[]
   ·rw[da z,z];rfl
   ·rw[qa z,db];rfl
  ·have a:cI (O++[s]) p=cI O p:=by rw[uR,qa (λz=>e z.2),pc]
   rw[qa (λz=>e (mu z).symm),a];exact h.v p
 ·have:(j7 gd (pK s.1) (pD s.2.1)).length<=gd.length+1:=by
   have e:=de List.length (xL (pK s.1) (pD s.2.1) (eY gd (pK s.1)));rw[ba,ba]at e;unfold j7;rw[e];unfold eY;split
   ·omega
   ·rw[wa,xb];omega
  have:=h.l
  rw[wa,xb];omega
 ·rw[wa,xb]
  refine Ee (n:=O.length) (gd:=eY gd (pK s.1)) (λy hy=>?_) x b;unfold eY at hy
  split at hy
  ·exact h.n y hy
  ·rcases yc.mp hy with hy|hy
   ·exact h.n y hy
   ·rw[yb.mp hy];exact be _
theorem Ef(a:Option Sl):∀(O P:List bu) (gd:GD) (g i j:Option Sl),GI gd P->P.length+O.length<=1000->∃ρ' c,jM (gT 3 (bA (gN 2) (bA (gN 3) (bA (gN 4) cX)))) (o8 (cL (tE (au 4))) (jL (al 2) (au 3)) o5) (O.map aL) [a,none,g,i,j] gd=some (ρ',c)/\GI c (P++O)
 |[],P,gd,g,i,j,h,_=>⟨_,gd,rfl,by rw[pc];exact h⟩
 |s::O,P,gd,g,i,j,h,hl=>by
  rw[wb]at hl
  have step:∃b,o8 (cL (tE (au 4))) (jL (al 2) (au 3)) o5 [a,none,sh (pD s.1),sh (pD s.2.1),sh (.bl s.2.2)] gd=some ([a,none,sh (pD s.1),sh (pD s.2.1),sh (.bl s.2.2)],b)/\GI b (P++[s]):=by
   by_cases e:s.2.2=true
   ·refine⟨gd,?_,h.skip e⟩
    show (if (!s.2.2)=true then _ else _)=_;rw[qa (by rw[e];exact ma)];rfl
   ·have e:s.2.2=false:=ge.mpr e
    refine⟨_,?_,h.add e⟩;show (if (!s.2.2)=true then _ else _)=_;rw[da (by rw[e];rfl)];unfold jL;show ((kB (pD s.1)).bind λk=>(some (pD s.2.1)).bind λd=>if gd.length<100000/\(gd.all λx=>decide (x.2.length<100000))=true then some ([a,none,sh (pD s.1),sh (pD s.2.1),sh (.bl s.2.2)],j7 gd k d) else none)=_
    have:=h.l
    rw[kR,xa,xa,da ⟨by omega,vc.mpr λx o=>za (by have:=h.n x o;omega)⟩]
  obtain⟨b,e1,p⟩:=step;obtain⟨ρ',c,f,m⟩:=Ef a O (P++[s]) b (sh (pD s.1)) (sh (pD s.2.1)) (sh (.bl s.2.2)) p (by rw[wa,xb];omega);refine⟨ρ',c,?_,by rw[qf]at m;exact m⟩;rw[ja,<-f];exact yF (ρ1:=[a,none,sh (pD s.1),sh (pD s.2.1),sh (.bl s.2.2)]) (z:=(_,b)) rfl e1
abbrev sD(gd:GD):D:=.dt (gd.map Prod.fst) (gd.map λx=>.lst x.2)
theorem Eg{O:List bu}(hl:O.length<=100):∃gd,nH [.lst (O.map aL)]=some (sD gd)/\GI gd O:=by
 obtain⟨ρ',gd,e,g⟩:=Ef (sh (.lst (O.map aL))) O [] [] none none none ⟨λp=>rfl,bb _,λx a=>nomatch a⟩ (by rw[md];omega);rw[se]at g;refine⟨gd,cS rfl ?_,g⟩;show mj 1 (j8 (iE (au 0)) (gT 3 (bA (gN 2) (bA (gN 3) (bA (gN 4) cX)))) (o8 (cL (tE (au 4))) (jL (al 2) (au 3)) o5)) [sh (.lst (O.map aL)),none,none,none,none]=_;unfold mj;have b:j8 (iE (au 0)) (gT 3 (bA (gN 2) (bA (gN 3) (bA (gN 4) cX)))) (o8 (cL (tE (au 4))) (jL (al 2) (au 3)) o5) [sh (.lst (O.map aL)),none,none,none,none] []=some (ρ',gd):=e;simp only[wc,ie];refine(da rfl).trans ?_;rw[b]
theorem Eh(gd:GD)(p:aF):fH (sD gd) (pD p)=some ((bF gd (pK p)).map D.lst):=by
 have hz:∀gd:GD,(gd.map Prod.fst).zip (gd.map λx=>D.lst x.2)=gd.map λx=>(x.1,D.lst x.2):=λgd=>by
  induction gd with
  |nil=>rfl
  |cons x r a=>rw[ja,ja,bg,a];rfl
 have b:∀gd:GD,bF (gd.map λx=>(x.1,D.lst x.2)) (pK p)=(bF gd (pK p)).map D.lst:=λgd=>by
  induction gd with
  |nil=>rfl
  |cons x r a=>rw[ja,el,el,a];split <;> rfl
 show ((kB (pD p)).map λk=>bF ((gd.map Prod.fst).zip (gd.map λx=>D.lst x.2)) k)=_;rw[kR,ze,hz,b]
theorem NM{gd:GD}{O:List bu}(h:GI gd O)(p:aF):iS (pD p) (sD gd)=some (decide (cI O p≠[])):=by
 show (fH _ (pD p)).map Option.isSome=_;rw[Eh,ze,og,h.v];by_cases z:cI O p=[]
 ·rw[da z,nb (λw=>w z)];rfl
 ·rw[qa z,za z];rfl
theorem Ei{gd:GD}{O:List bu}(h:GI gd O){p:aF}(a:cI O p≠[]):c0 (sD gd) (pD p)=some (.lst ((cI O p).map pD)):=by
 unfold c0;rw[Eh,h.v,qa a];rfl
abbrev Nx:=List (aF×aF)
def kU(N:Nx):Sl:=.dt (N.map λe=>pK e.1) (N.map λe=>pD e.2)
abbrev fE(N:Nx):D:=.dt (N.map λe=>pK e.1) (N.map λe=>pD e.2)
def ey(O:List bu)(p:aF):Option aF:=(cI O p).head?
theorem NN{N:Nx}{p g:aF}(h:p ∉ N.map Prod.fst)(hl:N.length<=1000):jI (kU N) (pD p) (pD g)=some (kU (N++[(p,g)])):=by
 unfold jI kU;dsimp only;rw[kR,xa,da (by rw[ba];exact lB (by omega)),rA pD,lH]
 ·rw[db,db,jc,jc,db,db];rfl
 ·intro z
  rw[jc]at z;have⟨e,a,b⟩:=gb.mp z;exact h (gb.mpr ⟨e,a,mu b⟩)
def Ej:ao->aT:=bK (bV (cL (tE (au 4))) (tE (e2 dF (al 2) (al 1)))) (jJ 1 (al 2) (au 3)) bQ
structure NI(N:Nx)(O:List bu):Prop where
 v:∀p,bF N p=ey O p
 l:N.length<=O.length
theorem NO(O:List bu)(s:bu)(p:aF):ey (O++[s]) p=if s.2.2=false/\s.1=p/\ey O p=none then some s.2.1 else ey O p:=by
 unfold ey;rw[uR];by_cases h:s.2.2=false/\s.1=p
 ·rw[da h]
  cases e:cI O p with
  |nil=>rw[da ⟨h.1,h.2,rfl⟩];rfl
  |cons x r=>rw[qa (λz=>nomatch z.2.2)];rfl
 ·rw[qa h,pc,qa (λz=>h ⟨z.1,z.2.1⟩)]
theorem yI{N:Nx}{O:List bu}(h:NI N O)(p:aF):p∈N.map Prod.fst↔ey O p≠none:=by
 rw[<-h.v];refine⟨λz w=>?_,λz=>?_⟩
 ·have⟨v,e⟩:=rz z
  rw[w]at e;cases e
 ·by_cases a:p∈N.map Prod.fst
  ·exact a
  ·exact absurd (uI a) z
theorem Ek(a:Option Sl):∀(O P:List bu) (N:Nx) (c g i:Option Sl),NI N P->P.length+O.length<=1000->∃f j m n,dO (gT 3 (bA (gN 2) (bA (gN 3) (bA (gN 4) cX)))) Ej (O.map aL) [a,some (kU N),c,g,i]=.nx [a,some (kU f),j,m,n]/\NI f (P++O)
 |[],P,N,c,g,i,h,_=>⟨N,c,g,i,rfl,by rw[pc];exact h⟩
 |s::O,P,N,c,g,i,h,hl=>by
  rw[wb]at hl;have B:=h.l
  have q:bV (cL (tE (au 4))) (tE (e2 dF (al 2) (al 1))) [a,some (kU N),sh (pD s.1),sh (pD s.2.1),sh (.bl s.2.2)]=some (!s.2.2 && !decide (s.1∈N.map Prod.fst)) :=
   lE (nq (bU rfl)) λ_=>bU (aI (e:=fE N) rfl rfl (tF (uN pD N s.1)))
  have step:∃d,Ej [a,some (kU N),sh (pD s.1),sh (pD s.2.1),sh (.bl s.2.2)]=.nx [a,some (kU d),sh (pD s.1),sh (pD s.2.1),sh (.bl s.2.2)]/\NI d (P++[s]):=by
   have u:=NO P s;by_cases b:s.2.2=false/\s.1 ∉ N.map Prod.fst
   ·rw[b.1,nb b.2]at q
    rw[b.1];refine⟨N++[(s.1,s.2.1)],(eK q).trans (uK (sl:=kU N) rfl rfl rfl (NN b.2 (by omega))),λp=>?_,by rw[wa,wa,xb,xb];omega⟩;have hn:ey P s.1=none:=by rw[<-h.v];exact uI b.2
    rw[<-lH s.2.1 b.2,yv,u,h.v];by_cases e:p=s.1
    ·subst e;rw[da rfl,da ⟨b.1,rfl,hn⟩]
    ·rw[qa e,qa (λz=>e z.2.1.symm)]
   ·have y:(!s.2.2 && !decide (s.1∈N.map Prod.fst))=false:=by
     cases A:s.2.2 with
     |true=>rfl
     |false=>rw[za (show s.1∈N.map Prod.fst from by by_cases z:s.1∈N.map Prod.fst;exact z;exact absurd ⟨A,z⟩ b)];rfl
    rw[y]at q;refine⟨N,(cx q).trans rfl,λp=>?_,by rw[wa];omega⟩;rw[h.v,u,qa];rintro⟨w,rfl,c⟩;exact b ⟨w,λz=>(yI h _).mp z c⟩
  obtain⟨d,e1,x⟩:=step;obtain⟨f,j,m,n,o,r⟩:=Ek a O (P++[s]) d (sh (pD s.1)) (sh (pD s.2.1)) (sh (.bl s.2.2)) x (by rw[wa,xb];omega);refine⟨f,j,m,n,?_,by rw[qf]at r;exact r⟩;rw[ja,<-o];exact iC (ρ1:=[a,some (kU N),sh (pD s.1),sh (pD s.2.1),sh (.bl s.2.2)]) rfl e1
theorem NP{O:List bu}(hl:O.length<=100):∃N,qW [.lst (O.map aL)]=some (fE N)/\NI N O:=by
 obtain⟨N,a,b,c,e,g⟩:=Ek (sh (.lst (O.map aL))) O [] [] none none none ⟨λp=>rfl,bb _⟩ (by rw[md];omega);exact⟨N,cS rfl (st rfl (st (iu rfl e) rfl)),g⟩
def iI(O:List bu)(s:bu):Bool:=O.any λt=>!t.2.2 && (!s.2.2 && (decide (t.1=s.1) && !decide (t.2.1=s.2.1)))
def yJ:ao->aT:=bK (bV (cL (tE (au 4))) (bV (cL (tE (e2 aJ (al 0) (eC (.int 2))))) (bV (tE (e2 bR (al 2) (e2 aJ (al 0) (eC (.int 0))))) (tE (e2 fQ (al 3) (e2 aJ (al 0) (eC (.int 1)))))))) (bH (eC (.bl true))) bQ
theorem El(s:bu)(a:Option Sl):∀(O:List bu) (c d h:Option Sl),(iI O s=true/\dO (gT 3 (bA (gN 2) (bA (gN 3) (bA (gN 4) cX)))) yJ (O.map aL) [sh (aL s),a,c,d,h]=.rt (.bl true))\/(iI O s=false/\∃l m n,dO (gT 3 (bA (gN 2) (bA (gN 3) (bA (gN 4) cX)))) yJ (O.map aL) [sh (aL s),a,c,d,h]=.nx [sh (aL s),a,l,m,n])
 |[],c,d,h=>.inr ⟨rfl,c,d,h,rfl⟩
 |t::O,c,d,h=>by
  have q:bV (cL (tE (au 4))) (bV (cL (tE (e2 aJ (al 0) (eC (.int 2))))) (bV (tE (e2 bR (al 2) (e2 aJ (al 0) (eC (.int 0))))) (tE (e2 fQ (al 3) (e2 aJ (al 0) (eC (.int 1))))))) [sh (aL s),a,sh (pD t.1),sh (pD t.2.1),sh (.bl t.2.2)]=some (!t.2.2 && (!s.2.2 && (decide (t.1=s.1) && !decide (t.2.1=s.2.1)))) :=
   lE (nq (bU rfl)) λ_=>lE (nq (bU (b:=s.2.2) (aI rfl rfl rfl))) λ_=>lE (bU (aI (e:=pD s.1) rfl (aI rfl rfl rfl) (gU (pB t.1 s.1)))) λ_=>bU (aI (e:=pD s.2.1) rfl (aI rfl rfl rfl) (wV (pB t.2.1 s.2.1)))
  have j:iI (t::O) s=((!t.2.2 && (!s.2.2 && (decide (t.1=s.1) && !decide (t.2.1=s.2.1)))) || iI O s):=rfl
  cases i:(!t.2.2 && (!s.2.2 && (decide (t.1=s.1) && !decide (t.2.1=s.2.1)))) with
  |true =>
   rw[i]at q;exact .inl ⟨by rw[j,i];rfl,CJ (ρ1:=[sh (aL s),a,sh (pD t.1),sh (pD t.2.1),sh (.bl t.2.2)]) rfl ((eK q).trans rfl)⟩
  |false =>
   rw[i]at q;have e:=iC (r:=O.map aL) (g:=gT 3 (bA (gN 2) (bA (gN 3) (bA (gN 4) cX)))) (f:=yJ) (x:=aL t) (ρ:=[sh (aL s),a,c,d,h]) (ρ1:=[sh (aL s),a,sh (pD t.1),sh (pD t.2.1),sh (.bl t.2.2)]) rfl ((cx q).trans rfl);rw[ja,e,j,i,Bool.false_or];exact El s a O _ _ _
theorem NQ(O:List bu)(s:bu):qX [aL s,.lst (O.map aL)]=some (.bl (iI O s)):=by
 rcases El s (sh (.lst (O.map aL))) O none none none with⟨h,e⟩|⟨h,a,b,c,e⟩
 ·rw[h];exact cS rfl (jG (iu rfl e))
 ·rw[h];exact cS rfl (st (iu rfl e) rfl)
theorem NR{O:List bu}(o:O.Nodup){s:bu}(hs:s∈O)(i:s.2.2=false):decide (1<(cI O s.1).length)=iI O s:=by
 have hm:∀t,t∈O.filter (λt=>!t.2.2 && decide (t.1=s.1))↔t∈O/\t.2.2=false/\t.1=s.1:=λt=>by
  rw[jh,jb,ak,gh]
 have b:=o.filter (λt:bu=>!t.2.2 && decide (t.1=s.1));have hl:(cI O s.1).length=(O.filter λt=>!t.2.2 && decide (t.1=s.1)).length:=by unfold cI;rw[ba]
 rw[hl];generalize q:O.filter (λt=>!t.2.2 && decide (t.1=s.1))=l at hm b;have d:=(hm s).mpr ⟨hs,i,rfl⟩
 cases m:iI O s with
 |true =>
  have⟨t,c,a⟩:=List.any_eq_true.mp m;simp only[jb,ak,gh,mo]at a;have e:=(hm t).mpr ⟨c,a.1,a.2.2.1⟩;have f:t≠s:=λz=>a.2.2.2 (by rw[z])
  refine za ?_
  match l,b,d,e with
  |[],_,h,_=>cases h
  |[x],_,p,g=>exact absurd ((yb.mp g).trans (yb.mp p).symm) f
  |x::y::r,_,_,_=>simp
 |false =>
  refine nb λz=>?_
  have all:∀t∈l,t=s:=λt h=>by
   have⟨c,a,j⟩:=(hm t).mp h
   have:=on.mp m t c
   rw[a,i,za j]at this;have n:t.2.1=s.2.1:=by simpa using this
   exact wq j (wq n (a.trans i.symm))
  match l,b,all,z with
  |[],_,_,z=>simp at z
  |[x],_,_,z=>simp at z
  |x::y::r,b,all,_ =>
   have:=all x va
   have g:=all y (la _ va);exact(uf.mp b).1 (by rw[this,<-g];exact va)
inductive Rn
 |fin (w:List aF)
 |ring (w:List aF) (g:aF)
def run(O:List bu):Nat->List aF->aF->Rn
 |0,l,c=>.fin (l++[c])
 |n+1,l,c=>match ey O c with
  |none=>.fin (l++[c])
  |some g=>if g∈l++[c] then .ring (l++[c]) g else run O n (l++[c]) g
theorem yK{O:List bu}{p:aF}:ey O p=none↔cI O p=[]:=by
 unfold ey
 cases cI O p <;> simp
theorem NT{O:List bu}{p:aF}(h:ey O p≠none):p∈O.map Prod.fst:=by
 have h:cI O p≠[]:=λz=>h (yK.mpr z)
 have⟨g,b⟩:=List.exists_mem_of_ne_nil _ h;have⟨s,hs,_⟩:=gb.mp b;have⟨c,a⟩:=jh.mp hs;rw[jb,gh]at a;exact gb.mpr ⟨s,c,a.2⟩
theorem few{O:List bu}{l:List aF}(c:O.length<=100)(b:l.Nodup)(h:∀x∈l,ey O x≠none):l.length<=100:=by
 have:=uL b λx a=>NT (h x a)
 rw[ba]at this;omega
theorem uS{l:List aF}{c:aF}(a:(l++[c]).Nodup):l.Nodup/\c ∉ l:=⟨(ke.mp a).1,λz=>(ke.mp a).2.2 c z c (yb.mpr rfl) rfl⟩
theorem yL{l:List aF}{g:aF}(c:l.Nodup)(h:g ∉ l):(l++[g]).Nodup:=ke.mpr ⟨c,by simp,λx a y b z=>h (by rw[<-yb.mp b,<-z];exact a)⟩
abbrev sq(l:List aF):Sq:=l.map λp=>(p,true)
theorem Em(l:List aF):(sq l).map Prod.fst=l:=by rw[jc];exact av l
theorem NU{gd:GD}{O:List bu}(h:GI gd O)(I:O.length<=100)(a:Option Sl):∀(n:Nat) (l:List aF) (c:aF) (b:Nat),(l++[c]).Nodup->l.length+n=200->(∀x∈l,ey O x≠none)->n+1<b →
  ∃(i:List aF) (C:Option Sl),eJ pC uQ b [a,sh (sD gd),some (.ow ((l++[c]).map pD)),some (g6 (sq l))]=.nx [a,sh (sD gd),some (.ow (i.map pD)),C]/\(match run O n l c with|.fin w=>i=w|.ring w g=>i=w++[g]):=by
 intro n
 induction n with
 |zero =>
  intro l c b s hl y
  have:=few I (uS s).1 y
  omega
 |succ n J =>
  intro l c b s hl y K;obtain⟨b,rfl⟩:∃f,b=f+1:=⟨b - 1,by omega⟩
  have u:∀{l:List aF} {c:aF} {z:Option Sl},tE (e2 ee uO (al 1)) [a,sh (sD gd),some (.ow ((l++[c]).map pD)),z]=some (decide (cI O c≠[])):=λ{l c z}=>bU (aI (e:=sD gd) uP rfl (tD (NM h c)))
  have E:∀{l m:List aF} {c:aF},tE (e2 dF uO (al 3)) [a,sh (sD gd),some (.ow ((l++[c]).map pD)),some (g6 (sq m))]=some (!decide (c∈m)):=λ{l m c}=>by
   have:=bU (aI (fb:=al 3) (ρ:=[a,sh (sD gd),some (.ow ((l++[c]).map pD)),some (g6 (sq m))]) (e:=NJ (sq m)) uP rfl (tF (uN D.bl (sq m) c)))
   rw[Em]at this;exact this
  unfold run
  cases o:ey O c with
  |none =>
   refine⟨l++[c],some (g6 (sq l)),?_,rfl⟩;unfold eJ;rw[show pC _=some false from oP (u.trans (by rw[nb λz=>z (yK.mp o)]))]
  |some g =>
   have p:cI O c≠[]:=λz=>by rw[yK.mpr z]at o;cases o
   have q:=(uS s).2
   have A:e2 aJ (e2 c0 (al 1) uO) (eC (.int 0)) [a,sh (sD gd),some (.ow ((l++[c]).map pD)),some (g6 (sq (l++[c])))]=some (pD g):=by
    refine aI (d:=.lst ((cI O c).map pD)) (aI (d:=sD gd) rfl uP (Ei h p)) rfl ?_;unfold ey at o
    obtain⟨r,G⟩:∃r,cI O c=g::r:=by
     cases e:cI O c with
     |nil=>rw[e]at o;cases o
     |cons x r=>rw[e]at o;cases o;exact⟨r,rfl⟩
    rw[G];exact kF.trans (lN (j:=0) rfl)
   have B:sq l++[(c,true)]=sq (l++[c]):=by show _=List.map _ _;rw[db];rfl
   have v:uQ [a,sh (sD gd),some (.ow ((l++[c]).map pD)),some (g6 (sq l))]=.nx [a,sh (sD gd),some (.ow ((l++[c]++[g]).map pD)),some (g6 (sq (l++[c])))]:=by
    refine st ((uK (sl:=g6 (sq l)) rfl rfl uP (NK (by rw[Em];exact q) (by rw[ba];omega))).trans (by rw[B];rfl)) ((lF (ds:=(l++[c]).map pD) (d:=pD g) rfl A (by rw[ba,wa,xb];omega)).trans ?_);rw[db (l₁:=l++[c])];rfl
   have H:eJ pC uQ (b+1) [a,sh (sD gd),some (.ow ((l++[c]).map pD)),some (g6 (sq l))]=eJ pC uQ b [a,sh (sD gd),some (.ow ((l++[c]++[g]).map pD)),some (g6 (sq (l++[c])))]:=by
    rw[eJ,show pC [a,sh (sD gd),some (.ow ((l++[c]).map pD)),some (g6 (sq l))]=some true from l4 (u.trans (by rw[za p])) (E.trans (by rw[nb q];rfl))];dsimp only;rw[v]
   rw[H];dsimp only;by_cases hm:g∈l++[c]
   ·rw[da hm]
    obtain⟨b,rfl⟩:∃f,b=f+1:=⟨b - 1,by omega⟩
    refine⟨l++[c]++[g],some (g6 (sq (l++[c]))),?_,rfl⟩;unfold eJ;have F:=E (l:=l++[c]) (m:=l++[c]) (c:=g);rw[za hm]at F
    rw[show pC _=some false from by
     cases v:decide (cI O g≠[]) with
     |true=>exact l4 (u.trans (by rw[v])) F
     |false=>exact oP (u.trans (by rw[v]))]
   ·rw[qa hm]
    refine J (l++[c]) g b (yL s hm) (by rw[wa,xb];omega) (λx hxx=>?_) (by omega);rcases yc.mp hxx with hxx|hxx
    ·exact y x hxx
    ·rw[yb.mp hxx,o];exact λz=>nomatch z
theorem yM{O:List bu}:∀(n:Nat) (l:List aF) (c:aF),(l++[c]).Nodup->(match run O n l c with|.fin w=>w.Nodup/\w≠[]|.ring w g=>w.Nodup/\g∈w)
 |0,l,c,a=>⟨a,by simp⟩
 |n+1,l,c,a=>by
  unfold run
  cases b:ey O c with
  |none=>exact⟨a,by simp⟩
  |some g =>
   dsimp only;by_cases hm:g∈l++[c]
   ·rw[da hm];exact⟨a,hm⟩
   ·rw[qa hm];exact yM n (l++[c]) g (yL a hm)
theorem Eo{O:List bu}{p g:aF}(h:ey O p=some g):∃s∈O,s.2.1=g:=by
 unfold ey at h;have a:g∈cI O p:=List.mem_of_head? h;have⟨s,hs,e⟩:=gb.mp a;exact⟨s,(jh.mp hs).1,e⟩
theorem Ep{O:List bu}(a:∀s∈O,bL s.1/\bL s.2.1):∀(n:Nat) (l:List aF) (c:aF),(∀p∈l++[c],bL p)->(match run O n l c with|.fin w=>∀p∈w,bL p|.ring w _=>∀p∈w,bL p)
 |0,l,c,h=>h
 |n+1,l,c,h=>by
  unfold run
  cases b:ey O c with
  |none=>exact h
  |some g =>
   dsimp only;by_cases hm:g∈l++[c]
   ·rw[da hm];exact h
   ·rw[qa hm]
    have⟨s,hs,e⟩:=Eo b
    exact Ep a n (l++[c]) g λp hp=>by
     rcases yc.mp hp with hp|hp
     ·exact h p hp
     ·rw[yb.mp hp,<-e];exact(a s hs).2
theorem Es{O:List bu}:∀(n:Nat) (l:List aF) (c:aF),(match run O n l c with|.fin w=>w.length<=l.length+n+1|.ring w _=>w.length<=l.length+n+1)
 |0,l,c=>by show (l++[c]).length<=_;simp
 |n+1,l,c=>by
  unfold run
  cases a:ey O c with
  |none=>show (l++[c]).length<=_;simp
  |some g =>
   dsimp only;by_cases hm:g∈l++[c]
   ·rw[da hm];show (l++[c]).length<=_;simp
   ·rw[qa hm]
    have:=Es (O:=O) n (l++[c]) g
    rw[wa,xb]at this
    split at this <;> omega
theorem NV{gd:GD}{O:List bu}(h:GI gd O)(f:O.length<=100)(g:aF):∃a:List aF,nK [pD g,sD gd]=some (.lst (a.map pD))/\(match run O 200 [] g with|.fin w=>a=w|.ring w g'=>a=w++[g']):=by
 obtain⟨a,c,e,d⟩:=NU h f (sh (pD g)) 200 [] g 1000 (by simp) rfl (λx b=>nomatch b) (by omega);exact⟨a,cS rfl (st rfl (st rfl (st e rfl))),d⟩
theorem yN{c:Type}{f:c->D}{g:c}{b:List c}:∀{a:List c}{n:Nat},(∀x∈a,bG (f x) (f g)=false)->bG (f g) (f g)=true->kM (f g) ((a++g::b).map f) n=some (n+a.length)
 |[],n,_,h=>by show kM (f g) (f g::b.map f) n=_;rw[kM,da h];rfl
 |x::r,n,d,h=>by
  show kM (f g) (f x::(r++g::b).map f) n=_;rw[kM,qa (by rw[d x va];exact ma),yN (λy e=>d y (la _ e)) h,wb]
  congr 1
  omega
theorem Et(l:List aF):(l.map pD).all (bE LV)=true:=vc.mpr λd a=>by obtain⟨p,_,rfl⟩:=gb.mp a;exact q9 p
theorem uT{a b:List aF}{g:aF}(h:g ∉ a):fK (.lst ((a++g::b).map pD)) [pD g]=some (.int ((a.length:Nat):Int)):=by
 unfold fK;dsimp only;rw[show bE LV (pD g)=true from q9 g,Et];refine(da rfl).trans ?_;rw[yN (f:=pD) (λx c=>by rw[rF,nb λz=>h (by rw[<-z];exact c)]) (by rw[rF,za rfl]),rf];rfl
theorem Eu{b:Type}{xs:List b}{i:Nat}(h:i<xs.length):dH xs (some (i:Int)) (some (-1))=(xs.drop i).take (xs.length - 1 - i):=by
 unfold dH;rw[HT.sIx_nat]
 have a:HT.sIx xs.length xs.length (some (-1))=xs.length - 1:=by
  unfold HT.sIx;dsimp only;rw[da (by decide)];omega
 rw[a,show min i xs.length=i by omega]
abbrev fL(p:aF):D:=.lst (p.map dL)
def iJ(r:List aF):Nat:=argBest (iz (r.map fL)) (r.length - 1)
def mw(r:List aF):List aF:=r.drop (iJ r)++r.take (iJ r)
theorem NW{w:List aF}{c:aF}(b:(w++[c]).Nodup):kP [.lst ((w++[c]).map pD)]=some (.lst []):=by
 have a:eM "list" fK (al 0) (aC (e2 aJ (al 0) (e1 cv (eC (.int 1)))) aN) [sh (.lst ((w++[c]).map pD))]=some (.int ((w.length:Nat):Int)) :=
  oO (d:=.lst ((w++[c]).map pD)) (ds:=[pD c]) rfl (aP (aI (d:=.lst ((w++[c]).map pD)) (e:=.int (-1)) rfl (gz rfl o4) (by rw[kF,db];exact nU (w.map pD) (pD c))) rfl) rfl (uT (uS b).2)
 refine cS rfl (dQ ?_);show b6 (al 0) (oS (eM "list" fK (al 0) (aC (e2 aJ (al 0) (e1 cv (eC (.int 1)))) aN))) (oS (e1 cv (eC (.int 1)))) [sh (.lst ((w++[c]).map pD))]=_;unfold b6 oS;rw[a];show some (D.lst (dH ((w++[c]).map pD) (some ((w.length:Nat):Int)) (some (-1))))=_;rw[l6,Eu (by simp),show (w++[c]).length - 1 - w.length=0 by simp,List.take_zero];rfl
theorem NX{a b:List aF}{g:aF}(h:g ∉ a):kP [.lst ((a++g::b++[g]).map pD)]=some (.lst ((g::b).map pD)):=by
 have c:eM "list" fK (al 0) (aC (e2 aJ (al 0) (e1 cv (eC (.int 1)))) aN) [sh (.lst ((a++g::b++[g]).map pD))]=some (.int ((a.length:Nat):Int)) :=
  oO (d:=.lst ((a++g::b++[g]).map pD)) (ds:=[pD g]) rfl (aP (aI (d:=.lst ((a++g::b++[g]).map pD)) (e:=.int (-1)) rfl (gz rfl o4) (by rw[kF,db];exact nU ((a++g::b).map pD) (pD g))) rfl) rfl (by rw[qf];exact uT (b:=b++[g]) h)
 refine cS rfl (dQ ?_);show b6 (al 0) (oS (eM "list" fK (al 0) (aC (e2 aJ (al 0) (e1 cv (eC (.int 1)))) aN))) (oS (e1 cv (eC (.int 1)))) [sh (.lst ((a++g::b++[g]).map pD))]=_;unfold b6 oS;rw[c];show some (D.lst (dH ((a++g::b++[g]).map pD) (some ((a.length:Nat):Int)) (some (-1))))=_;rw[l6,Eu (by simp),show (a++g::b++[g]).length - 1 - a.length=(g::b).length by simp,qf,List.drop_left,List.take_left]
theorem pE{r:List aF}(h:r≠[]):iJ r<r.length:=by
 have:=xD (iz (r.map fL)) (r.length - 1)
 have:=br.mpr h
 unfold iJ;omega
theorem Ev{r:List aF}{k:Nat}(a:r.Nodup)(h:k<r.length):r=r.take k++r[k]::r.drop (k+1)/\(r.take k).length=k/\r[k] ∉ r.take k:=by
 have e:r=r.take k++r[k]::r.drop (k+1):=by rw[<-jd h,jq]
 refine⟨e,by rw[ae];omega,λz=>?_⟩;rw[e]at a;exact(ke.mp a).2.2 _ z _ va rfl
theorem Ew{a b:Option Sl}{ρ:ao}{i j:Nat}{r:List aF}{k:Nat}(d:al i ρ=some (.lst (r.map pD)))(e:al j ρ=some (.int ((k:Nat):Int)))(hl:r.length<=1000):e2 bS (b6 (al i) (oS (al j)) oN) (b6 (al i) oN (oS (al j))) ρ=some (.lst ((r.drop k++r.take k).map pD)):=by
 have e1:b6 (al i) (oS (al j)) oN ρ=some (.lst ((r.drop k).map pD)):=by
  unfold b6 oS;rw[d,e];show some (D.lst (dH (r.map pD) (some ((k:Nat):Int)) none))=_;rw[l6,w4]
 have c:b6 (al i) oN (oS (al j)) ρ=some (.lst ((r.take k).map pD)):=by
  unfold b6 oS;rw[d,e];show some (D.lst (dH (r.map pD) none (some ((k:Nat):Int))))=_;rw[l6,tI]
 refine(aI e1 c (w5 (sz (by rw[ba,ba,kj,ae];omega)))).trans ?_;rw[db]
theorem NY{r:List aF}(b:∀p∈r,bL p)(h:r≠[]):t5 d5 (r.map pD)=some (pD (r[iJ r]'(pE h))):=by
 unfold t5
 have e:(r.map pD).map (λd=>(d5 [d]).getD .non)=r.map fL:=by
  rw[jc];exact zf λp a=>by show (d5 [pD p]).getD .non=_;rw[nW (b p a)];rfl
 refine(da ⟨λz=>h (cr.mp z),λd c=>?_,λd c e f=>?_⟩).trans ?_
 ·have i:=pE h
  rw[e,ba];show (r.map pD)[iJ r]?=_;rw[ed,zc i];rfl
 ·obtain⟨p,a,rfl⟩:=gb.mp c
  exact⟨_,nW (b p a),q0 p⟩
 ·obtain⟨p,a,rfl⟩:=gb.mp c
  obtain⟨q,g,rfl⟩:=gb.mp f;rw[nW (b p a),nW (b q g)];show cN (.lst (p.map dL)) (.lst (q.map dL))=true;rw[cN,yp]
theorem NZ{r:List aF}(hg:∀p∈r,bL p)(h:r≠[])(nd:r.Nodup)(hl:r.length<=1000):nJ [.lst (r.map pD)]=some (.lst ((mw r).map pD)):=by
 have hb:=pE h;have⟨e1,e2',e3⟩:=Ev nd hb
 have hi:eM "list" fK (al 0) (aC (xR d5 (au 0)) aN) [sh (.lst (r.map pD)),none]=some (.int ((iJ r:Nat):Int)):=by
  refine oO (d:=.lst (r.map pD)) (ds:=[pD (r[iJ r]'hb)]) rfl (aP (NY hg h) rfl) rfl ?_
  have:=uT (b:=r.drop (iJ r+1)) e3
  rw[<-e1,e2']at this;exact this
 exact cS rfl (st (bM hi) (dQ (Ew (a:=none) (b:=none) rfl rfl hl)))
theorem N0{a b:List aF}{g:aF}(c:∀p∈a++g::b,bL p)(h:g ∉ a):fK (.lst ((a++g::b).map fL)) [fL g]=some (.int ((a.length:Nat):Int)):=by
 have m:=(c g (by simp)).nc;unfold fK;dsimp only;rw[show bE LV (fL g)=true from q0 g,show ((a++g::b).map fL).all (bE LV)=true from vc.mpr λd j=>by obtain⟨p,_,rfl⟩:=gb.mp j;exact q0 p];refine(da rfl).trans ?_;have i:∀p,bL p->bG (fL p) (fL g)=decide (p=g):=λp l=>by rw[bG,x8 l.nc m]
 rw[yN (f:=fL) (λx e=>by rw[i x (c x (bf _ e)),nb λz=>h (by rw[<-z];exact e)]) (by rw[i g (c g (by simp)),za rfl]),rf];rfl
theorem N2{r:List aF}(h:r≠[]):o0 [.lst (r.map fL)]=some (fL (r[iJ r]'(pE h))):=by
 unfold o0;dsimp only;refine(da ⟨λz=>h (cr.mp z),vc.mpr λd a=>?_,λd a e b=>?_⟩).trans ?_
 ·have c:=pE h
  rw[ba];show (r.map fL)[iJ r]?=_;rw[ed,zc c];rfl
 ·obtain⟨p,_,rfl⟩:=gb.mp a;exact q0 p
 ·obtain⟨p,f,rfl⟩:=gb.mp a
  obtain⟨q,g,rfl⟩:=gb.mp b;rw[cN,yp]
noncomputable def uU:List Nat:=[114,105,110,103]
theorem N3{a b:List aF}{g:aF}(hg:∀p∈a++g::b,bL p)(nd:(a++g::b).Nodup)(hl:(a++g::b).length<=1000):qY [.lst ((a++g::b).map pD),pD g]=some (.tup [.str uU,.lst ((mw (g::b)).map pD)]):=by
 have h:g ∉ a:=λz=>(ke.mp nd).2.2 g z g va rfl
 have nd2:(g::b).Nodup:=(ke.mp nd).2.1;have hg2:∀p∈g::b,bL p:=λp hp=>hg p (qc _ hp)
 have hl2:(g::b).length<=1000:=by rw[wa]at hl;omega
 generalize hr:g::b=r at *;have hne:r≠[]:=by rw[<-hr];simp
 have hb:=pE hne;have⟨e1,e2',e3⟩:=Ev nd2 hb
 have s2:b6 (al 0) (oS (eM "list" fK (al 0) (aC (al 1) aN))) oN [sh (.lst ((a++r).map pD)),sh (pD g),none,none,none]=some (.lst (r.map pD)):=by
  have hi:eM "list" fK (al 0) (aC (al 1) aN) [sh (.lst ((a++r).map pD)),sh (pD g),none,none,none]=some (.int ((a.length:Nat):Int)):=oO (d:=.lst ((a++r).map pD)) (ds:=[pD g]) rfl rfl rfl (by rw[<-hr];exact uT h);unfold b6 oS;rw[hi];show some (D.lst (dH ((a++r).map pD) (some ((a.length:Nat):Int)) none))=_;rw[l6,w4,List.drop_left]
 have s3:eL (dV 1 [] (iE (al 2)) (gN 0) (λ_=>some true) (bv 1 d5 (aC (au 0) aN))) [sh (.lst ((a++r).map pD)),sh (pD g),sh (.lst (r.map pD)),none,none]=some (.lst (r.map fL)) :=
  iY (nn (ds:=r.map pD) rfl (sz (by rw[ba];omega)) (oQ pD fL r λp hp=>⟨_,rfl,rfl,cB rfl rfl (nW (hg2 p hp))⟩))
 have s4:eM "list" fK (al 3) (aC (eN o0 (aC (al 3) aN)) aN) [sh (.lst ((a++r).map pD)),sh (pD g),sh (.lst (r.map pD)),sh (.lst (r.map fL)),none]=some (.int ((iJ r:Nat):Int)):=by
  refine oO (d:=.lst (r.map fL)) (ds:=[fL (r[iJ r]'hb)]) rfl (aP (bN rfl (N2 hne)) rfl) rfl ?_
  have:=N0 (b:=r.drop (iJ r+1)) (by rw[<-e1];exact hg2) e3
  rw[<-e1,e2']at this;exact this
 exact cS rfl (st (bM s2) (st (bM s3) (st (bM s4) (dQ (bN (aP rfl (aP (Ew (a:=none) (b:=none) rfl rfl hl2) rfl)) rfl)))))
def nY(w:List aF)(g:aF):List aF:=mw (w.dropWhile λx=>!decide (x=g))
theorem Ey{a b:List aF}{g:aF}(h:g ∉ a):(a++g::b).dropWhile (λx=>!decide (x=g))=g::b:=by
 induction a with
 |nil=>rw[se,ir,qa (by simp)]
 |cons x r c=>rw[wf,ir,da (by simp only[ak,mo];exact λz=>h (by rw[z];exact va)),c λz=>h (la _ z)]
abbrev rG:ao->Option D:=e2 aJ (al 8) (e1 cv (eC (.int 1)))
theorem rH{a b c d e f g h:Option Sl}{l:List aF}{x:aF}:rG [a,b,c,d,e,f,g,h,some (.ow ((l++[x]).map pD))]=some (pD x):=by
 refine aI (d:=.lst ((l++[x]).map pD)) (e:=.int (-1)) rfl (gz rfl o4) ?_;rw[kF,db];exact nU (l.map pD) (pD x)
def rJ:ao->Option Bool:=tE (e2 ee (e2 aJ (al 8) (e1 cv (eC (.int 1)))) (al 7))
def pF:ao->aT:=(aO (bK (tE (e2 ee (e2 c0 (al 7) (e2 aJ (al 8) (e1 cv (eC (.int 1))))) (al 8))) (fV 8 (bH (bv 2 qY (aC (au 8) (aC (e2 c0 (al 7) (e2 aJ (al 8) (e1 cv (eC (.int 1))))) aN))))) bQ)
  (dY 8 (e2 c0 (al 7) (e2 aJ (al 8) (e1 cv (eC (.int 1)))))))
theorem yO(p:aF)(l:List aF):iS (pD p) (.lst (l.map pD))=some (decide (p∈l)):=by
 show (if bE LV (pD p) && (l.map pD).all (bE LV) then some ((l.map pD).any λz=>bG z (pD p)) else none)=_;rw[show bE LV (pD p)=true from q9 p,Et,Bool.and_self,da rfl,List.any_map]
 congr 1
 rw[nk,List.any_eq_true,gh];exact⟨λ⟨x,b,a⟩=>by rw[<-show x=p from by have a:bG (pD x) (pD p)=true:=a;rw[rF,gh]at a;exact a];exact b,λh=>⟨p,h,by show bG (pD p) (pD p)=true;rw[rF,za rfl]⟩⟩
theorem N4{N:Nx}{O:List bu}(h:NI N O)(I:∀s∈O,bL s.1/\bL s.2.1)(J:O.length<=100)(a b c d e f g:Option Sl):∀(n:Nat) (l:List aF) (x:aF) (i:Nat),(l++[x]).Nodup->l.length+n=200->(∀y∈l,ey O y≠none)->(∀y∈l++[x],bL y)->n<i →
  (match run O n l x with
   |.fin w=>eJ rJ pF i [a,b,c,d,e,f,g,sh (fE N),some (.ow ((l++[x]).map pD))]=.nx [a,b,c,d,e,f,g,sh (fE N),some (.ow (w.map pD))]
   |.ring w y=>eJ rJ pF i [a,b,c,d,e,f,g,sh (fE N),some (.ow ((l++[x]).map pD))]=.rt (.tup [.str uU,.lst ((nY w y).map pD)])):=by
 intro n
 induction n with
 |zero =>
  intro l x i o hl r
  have:=few J (uS o).1 r
  omega
 |succ n K =>
  intro l x i o hl r j L;obtain⟨i,rfl⟩:∃f,i=f+1:=⟨i - 1,by omega⟩
  have p:rJ [a,b,c,d,e,f,g,sh (fE N),some (.ow ((l++[x]).map pD))]=some (decide (x∈N.map Prod.fst)):=bU (aI (e:=fE N) rH rfl (tD (uN pD N x)));unfold run
  cases hn:ey O x with
  |none =>
   show eJ _ _ _ _=_;rw[eJ,p,nb λz=>(yI h x).mp z hn]
  |some y =>
   have B:x∈N.map Prod.fst:=(yI h x).mpr (by rw[hn];exact λz=>nomatch z);rw[za B]at p
   have m:∀{z:Option Sl},z=some (.ow ((l++[x]).map pD))->e2 c0 (al 7) rG [a,b,c,d,e,f,g,sh (fE N),z]=some (pD y):=λ{z} hz=>by
    subst hz;refine aI (d:=fE N) rfl rH ?_;unfold c0;rw[rB pD N x,h.v,hn];rfl
   have q:tE (e2 ee (e2 c0 (al 7) rG) (al 8)) [a,b,c,d,e,f,g,sh (fE N),some (.ow ((l++[x]).map pD))]=some (decide (y∈l++[x])):=bU (aI (e:=.lst ((l++[x]).map pD)) (m rfl) rfl (tD (yO y (l++[x]))));dsimp only;by_cases hm:y∈l++[x]
   ·rw[da hm]
    rw[za hm]at q;have⟨F,u,e1,A⟩:=bn hm;have E:=N3 (a:=F) (b:=u) (g:=y) (by rw[<-e1];exact j) (by rw[<-e1];exact o) (by rw[<-e1,wa,xb];omega);have G:nY (l++[x]) y=mw (y::u):=by unfold nY;rw[e1,Ey A]
    rw[<-e1]at E;show eJ _ _ _ _=_;rw[eJ,p,G];dsimp only
    have C:pF [a,b,c,d,e,f,g,sh (fE N),some (.ow ((l++[x]).map pD))]=.rt (.tup [.str uU,.lst ((mw (y::u)).map pD)]):=by
     refine jG ((eK q).trans ?_);show bH _ [a,b,c,d,e,f,g,sh (fE N),sh (.lst ((l++[x]).map pD))]=_;refine dQ (cB (ds:=[.lst ((l++[x]).map pD),pD y]) (aP rfl (aP ?_ rfl)) rfl E);refine aI (d:=fE N) (e:=pD x) rfl ?_ ?_
     ·refine aI (d:=.lst ((l++[x]).map pD)) (e:=.int (-1)) rfl (gz rfl o4) ?_
      rw[kF,db];exact nU (l.map pD) (pD x)
     ·unfold c0
      rw[rB pD N x,h.v,hn];rfl
    rw[C]
   ·rw[qa hm]
    rw[nb hm]at q
    have C:pF [a,b,c,d,e,f,g,sh (fE N),some (.ow ((l++[x]).map pD))]=.nx [a,b,c,d,e,f,g,sh (fE N),some (.ow ((l++[x]++[y]).map pD))]:=by
     refine st ((cx q).trans rfl) ((lF (ds:=(l++[x]).map pD) (d:=pD y) rfl (m rfl) (by rw[ba,wa,xb];omega)).trans ?_);rw[db (l₁:=l++[x])];rfl
    have H:eJ rJ pF (i+1) [a,b,c,d,e,f,g,sh (fE N),some (.ow ((l++[x]).map pD))]=eJ rJ pF i [a,b,c,d,e,f,g,sh (fE N),some (.ow ((l++[x]++[y]).map pD))]:=by
     rw[eJ,p];dsimp only;rw[C]
    rw[H];have⟨s,hs,es⟩:=Eo hn;refine K (l++[x]) y i (yL o hm) (by rw[wa,xb];omega) (λz hz=>?_) (λz hz=>?_) (by omega)
    ·rcases yc.mp hz with hz|hz
     ·exact r z hz
     ·rw[yb.mp hz,hn];exact λz=>nomatch z
    ·rcases yc.mp hz with hz|hz
     ·exact j z hz
     ·rw[yb.mp hz,<-es];exact(I s hs).2
theorem c5{f:ao->aT}{gs a:ao->Option D}{ρ ρ':ao}(b:gs ρ=none)(h:f ρ=.nx ρ'):fC f gs a ρ=a ρ':=by unfold fC;rw[b];dsimp only;rw[h]
theorem uV{f:ao->aT}{gs a:ao->Option D}{ρ:ao}{d:D}(b:gs ρ=some d):fC f gs a ρ=some d:=by unfold fC;rw[b]
theorem rK{a:ao->Option Bool}{f g:ao->Option D}{ρ:ao}(h:a ρ=some true):jY a f g ρ=f ρ:=by unfold jY;rw[h]
theorem lJ{a:ao->Option Bool}{f g:ao->Option D}{ρ:ao}(h:a ρ=some false):jY a f g ρ=g ρ:=by unfold jY;rw[h]
theorem nZ{a n:Nat}{f:ao->aT}{ds:List D}(h:ds.length=a)(b:f (dP n ds)=.bad):bX a n f ds=none:=by unfold bX;rw[da h,b]
theorem lK{a n:Nat}{g:ao->Option D}{ds:List D}{o:Option D}(h:ds.length=a)(b:g (dP n ds)=o):m9 a n g ds=o:=by unfold m9;rw[da h,b]
theorem rL{f g:ao->aT}{ρ:ao}(h:f ρ=.bad):aO f g ρ=.bad:=by unfold aO;rw[h]
theorem uW{a:Nat}{G:List D->Option D}{b:ao->Option (List D)}{ρ:ao}{ds:List D}{o:Option D}(h:b ρ=some ds)(hn:ds.length=a)(c:G ds=o):lZ a G b ρ=o:=by unfold lZ;rw[h,xa,da hn,c]
theorem Ez{b:Nat}{F:List D->Option D}{a:ao->Option (List D)}{ρ:ao}{ds:List D}(h:a ρ=some ds)(c:F ds=none):bv b F a ρ=none:=by
 unfold bv;rw[h,xa];split
 ·exact c
 ·rfl
theorem N5{a:ao->Option D}{ρ:ao}(h:a ρ=none):fU a ρ=.bad:=by unfold fU;rw[h]
noncomputable abbrev Er:=Str×List Str×List D
def yP(e:Er):D:=.er e.1 e.2.1 e.2.2
noncomputable def N6:List Nat:=[104,101,114,101]
noncomputable def N7:List Nat:=[98,111,116,104]
noncomputable def N8:List Nat:=[116,119,111]
noncomputable def N9:List Nat:=[110,111,119,104,101,114,101]
def gA(O:List bu)(E:En)(s:bu):Option (List Nat×Str) :=
 if s.2.1=s.1 then some (N6,"SentHere") else if (!s.2.2 && decide (s.1∈fY E))=true then some (N7,"Both") else if iI O s=true then some (N8,"TwoWays") else none
theorem Oa{E:En}(g:(E.map Prod.fst).Nodup)(p:aF):((bF E p).map λc=>!c.isEmpty).getD false=decide (p∈fY E):=by
 unfold fY
 induction E with
 |nil=>rfl
 |cons e r i =>
  have b:=uf.mp g;rw[el];by_cases h:e.1=p
  ·subst h
   rw[da rfl]
   have hn:e.1 ∉ (r.filter λe=>!e.2.isEmpty).map Prod.fst:=λz=>by
    have⟨x,d,f⟩:=gb.mp z;exact b.1 (gb.mpr ⟨x,(jh.mp d).1,f⟩)
   cases a:e.2.isEmpty with
   |true=>rw[jj (by rw[a];exact ma),nb hn];show (!e.2.isEmpty)=false;rw[a];rfl
   |false=>rw[ij (by rw[a];rfl),za (by simp)];show (!e.2.isEmpty)=true;rw[a];rfl
  ·rw[qa h,i b.2]
   by_cases a:(!e.2.isEmpty)=true
   ·rw[ij (p:=λe:aF×List Td=>!e.2.isEmpty) a,ja]
    refine pp.mpr ⟨λz=>la _ z,λz=>?_⟩;rcases pb.mp z with z|z
    ·exact absurd z.symm h
    ·exact z
   ·rw[jj (p:=λe:aF×List Td=>!e.2.isEmpty) a]
section
variable {E:En}{O:List bu}{gd:GD}(nE:(E.map Prod.fst).Nodup)(nO:O.Nodup)(h:GI gd O){s:bu}(hs:s∈O)
abbrev r5(E:En)(gd:GD)(s:bu):ao:=[sh (pD s.1),sh (pD s.2.1),sh (.bl s.2.2),sh (d6 E),sh (sD gd)]
theorem Ob:tE (e2 bR (al 1) (al 0)) (r5 E gd s)=some (decide (s.2.1=s.1)):=bU (aI rfl rfl (gU (pB s.2.1 s.1)))
include nE in
theorem Oc:bV (cL (tE (au 2))) (tE (j0 (al 3) (al 0) (eC (.bl false)))) (r5 E gd s)=some (!s.2.2 && decide (s.1∈fY E)):=by
 refine lE (nq (bU rfl)) λ_=>?_
 have e:=DI (fo:=al 3) (fk:=al 0) (fz:=eC (.bl false)) (ρ:=r5 E gd s) (d:=d6 E) (k:=pD s.1) (z:=.bl false) rfl rfl rfl (rB (λa:List Td=>D.bl (!a.isEmpty)) E s.1);refine bU (e.trans ?_);rw[<-Oa nE s.1]
 cases bF E s.1 <;> rfl
include nO h hs in
theorem Od:bV (cL (tE (au 2))) (tE (e2 fA (eN cF (aC (e2 c0 (al 4) (al 0)) aN)) (eC (.int 1)))) (r5 E gd s)=some (iI O s):=by
 have b:cL (tE (au 2)) (r5 E gd s)=some (!s.2.2):=nq (bU rfl)
 cases a:s.2.2 with
 |true =>
  rw[a]at b;rw[show iI O s=false from on.mpr λt _=>by rw[a];simp];exact oP b
 |false =>
  rw[a]at b
  have c:cI O s.1≠[]:=λz=>by
   have:s.2.1∈cI O s.1:=gb.mpr ⟨s,jh.mpr ⟨hs,by rw[a,za rfl];rfl⟩,rfl⟩
   rw[z]at this;cases this
  refine l4 b (bU ((aI (bN (z:=.int (((cI O s.1).length:Nat):Int)) (aP (aI rfl rfl (Ei h c)) rfl) (by show some (D.int ((((cI O s.1).map pD).length:Nat):Int))=_;rw[ba])) rfl nr).trans ?_));rw[<-NR nO hs a,pp.mpr (show ((1:Int)<(((cI O s.1).length:Nat):Int)↔1<(cI O s.1).length) by omega)]
include nE nO h hs in
theorem Oe:match gA O E s with
  |none=>ml [pD s.1,pD s.2.1,.bl s.2.2,d6 E,sD gd]=some .non/\pe [pD s.1,pD s.2.1,.bl s.2.2,d6 E,sD gd]=none
  |some x=>ml [pD s.1,pD s.2.1,.bl s.2.2,d6 E,sD gd]=none/\pe [pD s.1,pD s.2.1,.bl s.2.2,d6 E,sD gd]=some (.er x.2 ["path"] [pD s.1]):=by
 have a:=Ob (E:=E) (gd:=gd) (s:=s);have b:=Oc (gd:=gd) (s:=s) nE;have c:=Od (E:=E) nO h hs;unfold gA;by_cases d:s.2.1=s.1
 ·rw[da d]
  rw[za d]at a;exact⟨nZ rfl (rL ((eK a).trans rfl)),lK rfl (uV ((rK a).trans rfl))⟩
 ·rw[qa d]
  rw[nb d]at a;by_cases e:(!s.2.2 && decide (s.1∈fY E))=true
  ·rw[da e]
   rw[e]at b;exact⟨nZ rfl (st ((cx a).trans rfl) (rL ((eK b).trans rfl))),lK rfl ((c5 ((lJ a).trans rfl) ((cx a).trans rfl)).trans (uV ((rK b).trans rfl)))⟩
  ·rw[qa e]
   rw[ge.mpr e]at b;by_cases f:iI O s=true
   ·rw[da f]
    rw[f]at c;exact⟨nZ rfl (st ((cx a).trans rfl) (st ((cx b).trans rfl) ((eK c).trans rfl))),lK rfl ((c5 ((lJ a).trans rfl) ((cx a).trans rfl)).trans ((c5 ((lJ b).trans rfl) ((cx b).trans rfl)).trans ((rK c).trans rfl)))⟩
   ·rw[qa f]
    rw[ge.mpr f]at c;exact⟨DR rfl (st ((cx a).trans rfl) (st ((cx b).trans rfl) ((cx c).trans rfl))),lK rfl ((c5 ((lJ a).trans rfl) ((cx a).trans rfl)).trans ((c5 ((lJ b).trans rfl) ((cx b).trans rfl)).trans ((lJ c).trans rfl)))⟩
end
def n0(E:En)(s:bu)(e:aF):Bool:=!decide (e∈E.map Prod.fst) || ((s.2.2 && !decide (s.1∈E.map Prod.fst)) || decide (e=s.1))
def res(O:List bu)(E:En)(s:bu):D×Option Er :=
 match gA O E s with
 |some x=>(.tup [.str x.1,pD s.1],some (x.2,["path"],[pD s.1]))
 |none=>match run O 200 [] s.2.1 with
  |.ring w g=>(.tup [.str uU,.lst ((nY w g).map pD)],some ("Ring",["ring"],[.lst ((nY w g).map pD)]))
  |.fin w=>if n0 E s (w.getLastD [])=true then (.tup [.str N9,pD s.1,pD s.2.1],some ("Nowhere",["path","goal"],[pD s.1,pD s.2.1])) else (.tup [pD s.1,pD s.2.1,.bl s.2.2,pD (w.getLastD []),.int ((w.length:Nat):Int)],none)
abbrev r9(s:bu)(E:En)(gd:GD)(a b c d e f:Option Sl):ao:=[sh (aL s),sh (d6 E),sh (sD gd),a,b,c,d,e,f]
theorem yQ{E:En}{O:List bu}{gd:GD}(X:(E.map Prod.fst).Nodup)(Y:O.Nodup)(Z:O.length<=100)(M:∀s∈O,bL s.1/\bL s.2.1)(h:GI gd O){s:bu}(hs:s∈O) :
  match (res O E s).2 with
  |none=>kr [aL s,d6 E,sD gd]=some (res O E s).1/\nL [aL s,d6 E,sD gd]=none
  |some e=>kr [aL s,d6 E,sD gd]=none/\nL [aL s,d6 E,sD gd]=some (yP e):=by
 have C:=Oe X Y h hs;have j:a0 3 (e2 aJ (al 0) (eC (.int 0))) (r9 s E gd none none none none none none)=.nx (r9 s E gd (sh (pD s.1)) none none none none none):=bM (aI rfl rfl rfl);have m:a0 4 (e2 aJ (al 0) (eC (.int 1))) (r9 s E gd (sh (pD s.1)) none none none none none)=.nx (r9 s E gd (sh (pD s.1)) (sh (pD s.2.1)) none none none none):=bM (aI rfl rfl rfl);have n:a0 5 (e2 aJ (al 0) (eC (.int 2))) (r9 s E gd (sh (pD s.1)) (sh (pD s.2.1)) none none none none)=.nx (r9 s E gd (sh (pD s.1)) (sh (pD s.2.1)) (sh (.bl s.2.2)) none none none):=bM (aI rfl rfl rfl);unfold res
 cases B:gA O E s with
 |some x =>
  rw[B]at C;obtain⟨I,J⟩:=C;exact⟨nZ rfl (st j (st m (st n (rL (N5 (Ez rfl I)))))),lK rfl ((c5 rfl j).trans ((c5 rfl m).trans ((c5 rfl n).trans (uV (uW rfl rfl J)))))⟩
 |none =>
  rw[B]at C;obtain⟨I,J⟩:=C;have⟨a,P,f⟩:=NV h Z s.2.1;have b:=yM (O:=O) 200 [] s.2.1 (by simp);have d:=Ep M 200 [] s.2.1 (λp H=>by rw[yb.mp H];exact(M s hs).2);have y:=Es (O:=O) 200 [] s.2.1;have q:fU (bv 5 ml (aC (au 3) (aC (au 4) (aC (au 5) (aC (au 1) (aC (au 2) aN)))))) (r9 s E gd (sh (pD s.1)) (sh (pD s.2.1)) (sh (.bl s.2.2)) none none none)=.nx (r9 s E gd (sh (pD s.1)) (sh (pD s.2.1)) (sh (.bl s.2.2)) none none none):=D5 (cB rfl rfl I);have b4:lZ 5 pe (aC (au 3) (aC (au 4) (aC (au 5) (aC (au 1) (aC (au 2) aN))))) (r9 s E gd (sh (pD s.1)) (sh (pD s.2.1)) (sh (.bl s.2.2)) none none none)=none:=uW rfl rfl J;have r:a0 6 (bv 2 nK (aC (au 4) (aC (au 2) aN))) (r9 s E gd (sh (pD s.1)) (sh (pD s.2.1)) (sh (.bl s.2.2)) none none none)=.nx (r9 s E gd (sh (pD s.1)) (sh (pD s.2.1)) (sh (.bl s.2.2)) (sh (.lst (a.map pD))) none none):=bM (cB rfl rfl P)
  cases L:run O 200 [] s.2.1 with
  |ring w g =>
   rw[L]at f b d y;have f:a=w++[g]:=f;have b:w.Nodup/\g∈w:=b;have d:∀p∈w,bL p:=d;have y:w.length<=0+200+1:=y;have⟨a',i,e1,v⟩:=bn b.2;subst f;have Q:nY w g=mw (g::i):=by unfold nY;rw[e1,Ey v]
   have R:kP [.lst ((w++[g]).map pD)]=some (.lst ((g::i).map pD)):=by rw[e1];exact NX v
   have T:nJ [.lst ((g::i).map pD)]=some (.lst ((mw (g::i)).map pD)):=NZ (λp H=>d p (by rw[e1];exact qc _ H)) (by simp) (by rw[e1]at b;exact(ke.mp b.1).2.1) (by rw[e1,wa]at y;omega);have o:a0 7 (bv 1 kP (aC (au 6) aN)) (r9 s E gd (sh (pD s.1)) (sh (pD s.2.1)) (sh (.bl s.2.2)) (sh (.lst ((w++[g]).map pD))) none none)=.nx (r9 s E gd (sh (pD s.1)) (sh (pD s.2.1)) (sh (.bl s.2.2)) (sh (.lst ((w++[g]).map pD))) (sh (.lst ((g::i).map pD))) none):=bM (cB rfl rfl R);have t:tE (e2 fA (eN cF (aC (al 7) aN)) (eC (.int 0))) (r9 s E gd (sh (pD s.1)) (sh (pD s.2.1)) (sh (.bl s.2.2)) (sh (.lst ((w++[g]).map pD))) (sh (.lst ((g::i).map pD))) none)=some true:=(bU (aI (bN rfl rfl) rfl nr)).trans (by rw[za (by simp)]);have z:aC (bv 1 nJ (aC (au 7) aN)) aN (r9 s E gd (sh (pD s.1)) (sh (pD s.2.1)) (sh (.bl s.2.2)) (sh (.lst ((w++[g]).map pD))) (sh (.lst ((g::i).map pD))) none)=some [.lst ((mw (g::i)).map pD)]:=aP (cB rfl rfl T) rfl;dsimp only;rw[Q];exact⟨nZ rfl (st j (st m (st n (st q (st r (st o (rL ((eK t).trans rfl)))))))),lK rfl ((c5 rfl j).trans ((c5 rfl m).trans ((c5 rfl n).trans ((c5 b4 q).trans ((c5 rfl r).trans ((c5 rfl o).trans (uV ((rK t).trans (by unfold xQ;rw[z];rfl)))))))))⟩
  |fin w =>
   rw[L]at f b y;have f:a=w:=f;have b:w.Nodup/\w≠[]:=b;subst f;obtain⟨l,c,rfl⟩:∃l c,a=l++[c]:=⟨a.dropLast,a.getLast b.2,(qm b.2).symm⟩
   have K:(l++[c]).getLastD []=c:=by simp
   have o:a0 7 (bv 1 kP (aC (au 6) aN)) (r9 s E gd (sh (pD s.1)) (sh (pD s.2.1)) (sh (.bl s.2.2)) (sh (.lst ((l++[c]).map pD))) none none)=.nx (r9 s E gd (sh (pD s.1)) (sh (pD s.2.1)) (sh (.bl s.2.2)) (sh (.lst ((l++[c]).map pD))) (sh (.lst [])) none):=bM (cB rfl rfl (NW b.1));have t:tE (e2 fA (eN cF (aC (al 7) aN)) (eC (.int 0))) (r9 s E gd (sh (pD s.1)) (sh (pD s.2.1)) (sh (.bl s.2.2)) (sh (.lst ((l++[c]).map pD))) (sh (.lst [])) none)=some false:=(bU (aI (bN rfl rfl) rfl nr)).trans rfl;have U:aJ (.lst ((l++[c]).map pD)) (.int (-1))=some (pD c):=by rw[kF,db];exact nU (l.map pD) (pD c)
   have F:a0 8 (e2 aJ (al 6) (e1 cv (eC (.int 1)))) (r9 s E gd (sh (pD s.1)) (sh (pD s.2.1)) (sh (.bl s.2.2)) (sh (.lst ((l++[c]).map pD))) (sh (.lst [])) none)=.nx (r9 s E gd (sh (pD s.1)) (sh (pD s.2.1)) (sh (.bl s.2.2)) (sh (.lst ((l++[c]).map pD))) (sh (.lst [])) (sh (pD c))):=bM (aI rfl (gz rfl o4) U);have A:∀p:aF,dF (pD p) (d6 E)=some (.bl (!decide (p∈E.map Prod.fst))):=λp=>tF (uN (λN:List Td=>D.bl (!N.isEmpty)) E p)
   have u:dA (tE (e2 dF (al 8) (al 1))) (dA (bV (tE (au 5)) (tE (e2 dF (al 3) (al 1)))) (tE (e2 bR (al 8) (al 3)))) (r9 s E gd (sh (pD s.1)) (sh (pD s.2.1)) (sh (.bl s.2.2)) (sh (.lst ((l++[c]).map pD))) (sh (.lst [])) (sh (pD c)))=some (n0 E s c) :=
    qR (bU (aI rfl rfl (A c))) λ_=>qR (lE (bU rfl) λ_=>bU (aI rfl rfl (A s.1))) λ_=>bU (aI rfl rfl (gU (pB c s.1)))
   dsimp only;rw[K];by_cases G:n0 E s c=true
   ·rw[da G]
    rw[G]at u;exact⟨nZ rfl (st j (st m (st n (st q (st r (st o (st ((cx t).trans rfl) (st F (rL ((eK u).trans rfl)))))))))),lK rfl ((c5 rfl j).trans ((c5 rfl m).trans ((c5 rfl n).trans ((c5 b4 q).trans ((c5 rfl r).trans ((c5 rfl o).trans ((c5 ((lJ t).trans rfl) ((cx t).trans rfl)).trans ((c5 rfl F).trans ((rK u).trans rfl)))))))))⟩
   ·rw[qa G]
    rw[ge.mpr G]at u;have hl:cF [.lst ((l++[c]).map pD)]=some (.int (((l++[c]).length:Nat):Int)):=by show some (D.int ((((l++[c]).map pD).length:Nat):Int))=_;rw[ba]
    exact⟨cS rfl (st j (st m (st n (st q (st r (st o (st ((cx t).trans rfl) (st F (st ((cx u).trans rfl) (dQ (bN (aP rfl (aP rfl (aP rfl (aP rfl (aP (bN rfl hl) rfl))))) rfl))))))))))),lK rfl ((c5 rfl j).trans ((c5 rfl m).trans ((c5 rfl n).trans ((c5 b4 q).trans ((c5 rfl r).trans ((c5 rfl o).trans ((c5 ((lJ t).trans rfl) ((cx t).trans rfl)).trans ((c5 rfl F).trans ((lJ u).trans rfl)))))))))⟩
abbrev rd(E:En)(A B c d e f g:Option Sl):ao:=[A,B,sh (.lst ((E.map Prod.fst).map pD)),sh (.lst ((fY E).map pD)),c,d,e,f,g]
theorem Of{E:En}{O:List bu}(H:O.length<=100)(I:∀s∈O,bL s.1/\bL s.2.1){s:bu}(hs:s∈O):nQ [aL s,.lst (O.map aL),.lst ((E.map Prod.fst).map pD),.lst ((fY E).map pD)]=some (res O E s).1:=by
 have⟨N,K,L⟩:=NP H;generalize C:some (Sl.sh (aL s))=A;generalize F:some (Sl.sh (.lst (O.map aL)))=B;have f:iW (gT 3 (bA (gN 4) (bA (gN 5) (bA (gN 6) cX)))) (au 0) (rd E A B none none none none none)=.nx (rd E A B (sh (pD s.1)) (sh (pD s.2.1)) (sh (.bl s.2.2)) none none):=by rw[<-C];exact L3 (d:=aL s) rfl rfl
 have a:tE (e2 bR (al 4) (al 5)) (rd E A B (sh (pD s.1)) (sh (pD s.2.1)) (sh (.bl s.2.2)) none none)=some (decide (s.2.1=s.1)):=(bU (aI rfl rfl (gU (pB s.1 s.2.1)))).trans (by rw[pp.mpr ⟨Eq.symm,Eq.symm⟩]);have b:bV (cL (tE (au 6))) (tE (e2 ee (al 4) (al 3))) (rd E A B (sh (pD s.1)) (sh (pD s.2.1)) (sh (.bl s.2.2)) none none)=some (!s.2.2 && decide (s.1∈fY E)):=lE (nq (bU rfl)) λ_=>bU (aI rfl rfl (tD (yO s.1 (fY E))))
 have i:tE (bv 2 qX (aC (au 0) (aC (au 1) aN))) (rd E A B (sh (pD s.1)) (sh (pD s.2.1)) (sh (.bl s.2.2)) none none)=some (iI O s):=by rw[<-C,<-F];exact bU (cB rfl rfl (NQ O s))
 have j:∀{d:D},f_q15 (rd E A B none none none none none)=.rt d->nQ [aL s,.lst (O.map aL),.lst ((E.map Prod.fst).map pD),.lst ((fY E).map pD)]=some d:=λ{d} e=>by rw[<-C,<-F]at e;exact cS rfl e
 unfold res gA;by_cases r:s.2.1=s.1
 ·rw[da r]
  rw[za r]at a;exact j (st f (jG ((eK a).trans (dQ (bN rfl rfl)))))
 ·rw[qa r]
  rw[nb r]at a;by_cases u:(!s.2.2 && decide (s.1∈fY E))=true
  ·rw[da u]
   rw[u]at b;exact j (st f (st ((cx a).trans rfl) (jG ((eK b).trans (dQ (bN rfl rfl))))))
  ·rw[qa u]
   rw[ge.mpr u]at b;by_cases v:iI O s=true
   ·rw[da v]
    rw[v]at i;exact j (st f (st ((cx a).trans rfl) (st ((cx b).trans rfl) (jG ((eK i).trans (dQ (bN rfl rfl)))))))
   ·rw[qa v]
    rw[ge.mpr v]at i;have y:a0 7 (bv 1 qW (aC (au 1) aN)) (rd E A B (sh (pD s.1)) (sh (pD s.2.1)) (sh (.bl s.2.2)) none none)=.nx (rd E A B (sh (pD s.1)) (sh (pD s.2.1)) (sh (.bl s.2.2)) (sh (fE N)) none):=by rw[<-F];exact bM (cB rfl rfl K)
    have m:=N4 L I H A B (sh (.lst ((E.map Prod.fst).map pD))) (sh (.lst ((fY E).map pD))) (sh (pD s.1)) (sh (pD s.2.1)) (sh (.bl s.2.2)) 200 [] s.2.1 1000 (by simp) rfl (λ_ h=>nomatch h) (λp J=>by rw[yb.mp J];exact(I s hs).2) (by omega);have n:=yM (O:=O) 200 [] s.2.1 (by simp);dsimp only
    cases G:run O 200 [] s.2.1 with
    |ring w g =>
     rw[G]at m;exact j (st f (st ((cx a).trans rfl) (st ((cx b).trans rfl) (st ((cx i).trans rfl) (st y (st rfl (jG m)))))))
    |fin w =>
     rw[G]at m n;have n:w.Nodup/\w≠[]:=n;obtain⟨l,c,rfl⟩:∃l c,w=l++[c]:=⟨w.dropLast,w.getLast n.2,(qm n.2).symm⟩
     have z:(l++[c]).getLastD []=c:=by simp
     have o:∀p:aF,dF (pD p) (.lst ((E.map Prod.fst).map pD))=some (.bl (!decide (p∈E.map Prod.fst))):=λp=>tF (yO p _)
     have q:dA (tE (e2 dF rG (al 2))) (dA (bV (tE (au 6)) (tE (e2 dF (al 4) (al 2)))) (tE (e2 bR rG (al 4)))) (rd E A B (sh (pD s.1)) (sh (pD s.2.1)) (sh (.bl s.2.2)) (sh (fE N)) (some (.ow ((l++[c]).map pD))))=some (n0 E s c) :=
      qR (bU (aI rH rfl (o c))) λ_=>qR (lE (bU rfl) λ_=>bU (aI rfl rfl (o s.1))) λ_=>bU (aI rH rfl (gU (pB c s.1)))
     dsimp only;rw[z];by_cases x:n0 E s c=true
     ·rw[da x]
      rw[x]at q;exact j (st f (st ((cx a).trans rfl) (st ((cx b).trans rfl) (st ((cx i).trans rfl) (st y (st rfl (st m (jG ((eK q).trans (dQ (bN rfl rfl)))))))))))
     ·rw[qa x]
      rw[ge.mpr x]at q;have hl:cF [.lst ((l++[c]).map pD)]=some (.int (((l++[c]).length:Nat):Int)):=by show some (D.int ((((l++[c]).map pD).length:Nat):Int))=_;rw[ba]
      exact j (st f (st ((cx a).trans rfl) (st ((cx b).trans rfl) (st ((cx i).trans rfl) (st y (st rfl (st m (st ((cx q).trans rfl) (dQ (bN (aP rfl (aP rfl (aP rfl (aP rH (aP (bN rfl hl) rfl))))) rfl))))))))))
abbrev pG(E:En)(H:List bu)(a b c:Option Sl):ao:=[sh (.lst (E.map c8)),sh (.lst (H.map aL)),a,b,c]
theorem EA{g:D->ao->Option ao}{te:ao->Option D}{ρ:ao}{s:bu}{Q:List bu}(h:∃ρ1,g (aL s) ρ=some ρ1/\te ρ1=none):∀P:List bu,eI g (λ_=>some true) te ρ ((P++s::Q).map aL)=none
 |[]=>by
  obtain⟨ρ1,a,b⟩:=h;show eI g _ te ρ (aL s::Q.map aL)=none;rw[eI,a,xa,xa,da rfl,b];rfl
 |p::P=>by
  show eI g _ te ρ (aL p::(P++s::Q).map aL)=none;rw[eI,EA h P]
  cases g (aL p) ρ with
  |none=>rfl
  |some ρ1 =>
   rw[xa,xa,da rfl]
   cases te ρ1 <;> rfl
theorem EB{g:D->ao->Option ao}{te gx:ao->Option D}{ρ:ao}{s:bu}{Q:List bu}{z:D}(h:∃ρ1,g (aL s) ρ=some ρ1/\gx ρ1=some z):∀P:List bu,(∀p∈P,∃ρ1 y,g (aL p) ρ=some ρ1/\gx ρ1=none/\te ρ1=some y)->j9 g te gx ρ ((P++s::Q).map aL)=some z
 |[],_=>by
  obtain⟨ρ1,a,b⟩:=h;show j9 g te gx ρ (aL s::Q.map aL)=some z;rw[j9,a,xa,b]
 |p::P,c=>by
  have⟨ρ1,y,a,b,e⟩:=c p va;show j9 g te gx ρ (aL p::(P++s::Q).map aL)=some z;rw[j9,a,xa,b];show (te ρ1).bind _=_;rw[e,xa];exact EB h P λq d=>c q (la _ d)
section
variable {E:En}{O H:List bu}(nE:(E.map Prod.fst).Nodup)(hE:E.length<=100)(nO:O.Nodup)(hO:O.length<=100)(hg:∀s∈O,bL s.1/\bL s.2.1)(hp:i5 [.lst [.lst (H.map aL)]]=some (O.map aL))
include nE hE nO hO hg hp
theorem Og(c:∀s∈O,(res O E s).2=none):mq [.lst (E.map c8),.lst (H.map aL)]=some (.lst (O.map λs=>(res O E s).1)):=by
 have⟨gd,a,b⟩:=Eg hO;refine cS rfl (st (bM (iY (uH (aP (bN rfl rfl) rfl) rfl hp))) (st (bM (cB rfl rfl (Ed nE hE))) (st (bM (cB rfl rfl a)) (dQ (iY (nn (ds:=O.map aL) rfl (sz (by rw[ba];omega)) (oQ aL (λs=>(res O E s).1) O λs hs=>⟨[sh (aL s),sh (d6 E),sh (sD gd)],rfl,rfl,?_⟩)))))))
 have:=yQ nE nO hO hg b hs
 rw[c s hs]at this;exact cB rfl rfl this.1
theorem Oh{P Q:List bu}{s:bu}{e:Er}(hs:O=P++s::Q)(m:∀t∈P,(res O E t).2=none)(hn:(res O E s).2=some e):mq [.lst (E.map c8),.lst (H.map aL)]=none/\nM [.lst (E.map c8),.lst (H.map aL)]=some (yP e):=by
 have⟨gd,l,f⟩:=Eg hO;have h:a0 2 (eL (gu 1 i5 (aC (eN dU (aC (au 1) aN)) aN))) (pG E H none none none)=.nx (pG E H (sh (.lst (O.map aL))) none none):=bM (iY (uH (aP (bN rfl rfl) rfl) rfl hp));have i:a0 3 (bv 1 nI (aC (au 0) aN)) (pG E H (sh (.lst (O.map aL))) none none)=.nx (pG E H (sh (.lst (O.map aL))) (sh (d6 E)) none):=bM (cB rfl rfl (Ed nE hE));have j:a0 4 (bv 1 nH (aC (au 2) aN)) (pG E H (sh (.lst (O.map aL))) (sh (d6 E)) none)=.nx (pG E H (sh (.lst (O.map aL))) (sh (d6 E)) (sh (sD gd))):=bM (cB rfl rfl l);have a:=yQ nE nO hO hg f (s:=s) (by rw[hs];simp);rw[hn]at a;have hz:(O.map aL).length<=sizeLine:=sz (by rw[ba];omega);refine⟨nZ rfl (st h (st i (st j ?_))),lK rfl ((c5 rfl h).trans ((c5 rfl i).trans ((c5 rfl j).trans ?_)))⟩
 ·unfold bH eL dV
  show (match ((some (O.map aL)).bind λds=>if ds.length<=sizeLine then eI (gN 0) (λ_=>some true) (bv 3 kr (aC (au 0) (aC (au 1) (aC (au 2) aN)))) [none,sh (d6 E),sh (sD gd)] ds else none).map D.lst with|some d=>aT.rt d|none=>.bad)=_
  have:=EA (g:=gN 0) (te:=bv 3 kr (aC (au 0) (aC (au 1) (aC (au 2) aN)))) (ρ:=[none,sh (d6 E),sh (sD gd)]) (s:=s) (Q:=Q) ⟨[sh (aL s),sh (d6 E),sh (sD gd)],rfl,Ez rfl a.1⟩ P
  rw[<-hs]at this;rw[xa,da hz,this];rfl
 ·unfold xO
  show ((some (O.map aL)).bind λds=>if ds.length<=sizeLine then j9 (gN 0) (bv 3 kr (aC (au 0) (aC (au 1) (aC (au 2) aN)))) (lZ 3 nL (aC (au 0) (aC (au 1) (aC (au 2) aN)))) [none,sh (d6 E),sh (sD gd)] ds else none)=_
  have:=EB (g:=gN 0) (te:=bv 3 kr (aC (au 0) (aC (au 1) (aC (au 2) aN)))) (gx:=lZ 3 nL (aC (au 0) (aC (au 1) (aC (au 2) aN)))) (ρ:=[none,sh (d6 E),sh (sD gd)]) (s:=s) (Q:=Q) ⟨[sh (aL s),sh (d6 E),sh (sD gd)],rfl,uW rfl rfl a.2⟩ P λt c=>by
   have b:=yQ nE nO hO hg f (s:=t) (by rw[hs];exact bf _ c);rw[m t c]at b;exact⟨[sh (aL t),sh (d6 E),sh (sD gd)],_,rfl,uW rfl rfl b.2,cB rfl rfl b.1⟩
  rw[<-hs]at this;rw[xa,da hz,this]
end
def Oi:ao->aT:=(aO (bK (tE (e2 aJ (al 5) (eC (.int 0)))) (bH (eN bP (aC (eC (.str [98,111,116,104])) (aC (e1 (iq "path") (au 2)) aN)))) bQ)
  (aO (bK (tE (e2 aJ (al 5) (eC (.int 1)))) (bH (eN bP (aC (eC (.str [110,111,119,104,101,114,101])) (aC (e1 (iq "path") (au 2)) (aC (e1 (iq "goal") (au 2)) aN))))) bQ)
  (aO (bK (tE (e2 aJ (al 5) (eC (.int 2)))) (bH (eN bP (aC (eC (.str [114,105,110,103])) (aC (e1 (iq "ring") (au 2)) aN)))) bQ)
  (aO (bK (tE (e2 aJ (al 5) (eC (.int 3)))) (bH (eN bP (aC (eC (.str [104,101,114,101])) (aC (e1 (iq "path") (au 2)) aN)))) bQ)
  (bH (eN bP (aC (eC (.str [116,119,111])) (aC (e1 (iq "path") (au 2)) aN))))))))
theorem rM{R H:D}{n:Str}{ks:List Str}{es:List D}{b0 b1 b2 b3 b4:Bool}{d:D}(hF:mq [R,H]=none)(hR:nM [R,H]=some (.er n ks es))(hr:Oi [sh R,sh H,sh (.er n ks es),sh .non,none,sh (.lst [.bl b0,.bl b1,.bl b2,.bl b3,.bl b4,.bl false,.bl false])]=.rt d)
  (h0:decide (n = "Both")=b0:=by decide) (h1:decide (n = "Nowhere")=b1:=by decide) (h2:decide (n = "Ring")=b2:=by decide) (h3:decide (n = "SentHere")=b3:=by decide) (h4:decide (n = "TwoWays")=b4:=by decide) (h5:decide (n = "NoMark")=false:=by decide) (h6:decide (n = "NoRow")=false:=by decide) (h7:decide (n = "NoText")=false:=by decide) (h8:decide (n = "OutOfBook")=false:=by decide) (hc:tX (.lst [.bl b0,.bl b1,.bl b2,.bl b3,.bl b4,.bl false,.bl false,.bl false,.bl false]) [.bl true]=some (.int 1):=by rfl):mr [R,H]=some d:=by
 have g:∀{m:Str} {b:Bool},decide (n=m)=b->jF m (.er n ks es)=some (.bl b):=λ{m b} h=>by rw[<-h];rfl
 have tr:oK 3 2 4 2 mq nM (aC (au 0) (aC (au 1) aN)) [sh R,sh H,sh .non,sh .non,none,none]=.nx [sh R,sh H,sh (.er n ks es),sh .non,none,none]:=by
  unfold oK;rw[show aC (au 0) (aC (au 1) aN) [sh R,sh H,sh .non,sh .non,none,none]=some [R,H] from rfl];dsimp only;rw[da ⟨rfl,rfl,by decide⟩,hF];dsimp only;rw[hR];rfl
 refine cS rfl (st (bM (d:=.non) rfl) (st (bM (d:=.non) rfl) (st tr (st ((cx (bU (aI rfl rfl rfl))).trans rfl) (st (bM (d:=.lst [.bl b0,.bl b1,.bl b2,.bl b3]) (bN (aP (gz rfl (g h0)) (aP (gz rfl (g h1)) (aP (gz rfl (g h2)) (aP (gz rfl (g h3)) rfl)))) rfl)) (st (bM (d:=.lst [.bl b0,.bl b1,.bl b2,.bl b3,.bl b4,.bl false,.bl false]) (aI rfl (bN (aP (gz rfl (g h4)) (aP (gz rfl (g h5)) (aP (gz rfl (g h6)) rfl))) rfl) rfl)) (st ((cx ?_).trans rfl) hr)))))));exact bU (aI (oO (d:=.lst [.bl b0,.bl b1,.bl b2,.bl b3,.bl b4,.bl false,.bl false,.bl false,.bl false]) (aI rfl (bN (aP (gz rfl (g h7)) (aP (gz rfl (g h8)) rfl)) rfl) rfl) rfl rfl hc) rfl ((wV l5).trans (by rw[za rfl];rfl)))
theorem Oj{O:List bu}{E:En}{R H:D}{s:bu}{e:Er}(hn:(res O E s).2=some e)(hF:mq [R,H]=none)(hR:nM [R,H]=some (yP e)):mr [R,H]=some (res O E s).1:=by
 unfold res at hn ⊢;unfold gA at hn ⊢;by_cases c1:s.2.1=s.1
 ·rw[da c1]at hn ⊢
  cases hn;exact rM (n:="SentHere") (b0:=false) (b1:=false) (b2:=false) (b3:=true) (b4:=false) hF hR rfl
 ·rw[qa c1]at hn ⊢
  by_cases c2:(!s.2.2 && decide (s.1∈fY E))=true
  ·rw[da c2]at hn ⊢
   cases hn;exact rM (n:="Both") (b0:=true) (b1:=false) (b2:=false) (b3:=false) (b4:=false) hF hR rfl
  ·rw[qa c2]at hn ⊢
   by_cases c3:iI O s=true
   ·rw[da c3]at hn ⊢
    cases hn;exact rM (n:="TwoWays") (b0:=false) (b1:=false) (b2:=false) (b3:=false) (b4:=true) hF hR rfl
   ·rw[qa c3]at hn ⊢
    dsimp only at hn ⊢
    cases hr:run O 200 [] s.2.1 with
    |ring w g =>
     rw[hr]at hn;cases hn;exact rM (n:="Ring") (b0:=false) (b1:=false) (b2:=true) (b3:=false) (b4:=false) hF hR rfl
    |fin w =>
     rw[hr]at hn;dsimp only at hn ⊢;by_cases c4:n0 E s (w.getLastD [])=true
     ·rw[da c4]at hn ⊢
      cases hn;exact rM (n:="Nowhere") (b0:=false) (b1:=true) (b2:=false) (b3:=false) (b4:=false) hF hR rfl
     ·rw[qa c4]at hn;cases hn
theorem EC(p:aF):bG (pD p) (pD p)=true:=by rw[rF,za rfl]
theorem ED(p:aF)(n:Nat):bE (n+1) (pD p)=true:=by
 rw[bE];exact vc.mpr λd a=>by obtain⟨t,_,rfl⟩:=gb.mp a;rw[bE]
def Lk(d:D):Prop:=bG d d=true/\∀n,bE (n+2) d=true
theorem pH(p:aF):Lk (pD p):=⟨EC p,λn=>ED p (n+1)⟩
theorem yR(l:List Nat):Lk (.str l):=⟨by rw[tJ,za rfl],λn=>by rw[bE]⟩
theorem Ol(b:Bool):Lk (.bl b):=⟨by rw[B6,vo],λn=>by rw[bE]⟩
theorem Om(i:Int):Lk (.int i):=⟨by rw[B5,za rfl],λn=>by rw[bE]⟩
theorem On(l:List aF):Lk (.lst (l.map pD)):=by
 refine⟨?_,λn=>?_⟩
 ·rw[bG,uG λd a=>by obtain⟨p,_,rfl⟩:=gb.mp a;exact EC p]
 ·rw[bE]
  exact vc.mpr λd a=>by obtain⟨p,_,rfl⟩:=gb.mp a;exact ED p n
theorem yS{l:List D}(h:∀d∈l,Lk d):bG (.tup l) (.tup l)=true/\∀n,bE (n+3) (.tup l)=true:=by
 refine⟨?_,λn=>?_⟩
 ·rw[bG,uG λd a=>(h d a).1]
 ·rw[bE]
  exact vc.mpr λd a=>(h d a).2 n
theorem uX(O:List bu)(E:En)(s:bu):∃x ds,(res O E s).1=.tup (x::ds)/\(∀d∈x::ds,Lk d)/\oC "str" x=some (.bl (res O E s).2.isSome):=by
 have c:∀{a b:D},Lk a->Lk b->∀d∈[a,b],Lk d:=λ{a b} e f d hd=>by
  rcases pb.mp hd with rfl|hd
  ·exact e
  ·rw[yb.mp hd];exact f
 unfold res
 cases gA O E s with
 |some x=>exact⟨_,_,rfl,c (yR _) (pH _),rfl⟩
 |none =>
  dsimp only
  cases run O 200 [] s.2.1 with
  |ring w g=>exact⟨_,_,rfl,c (yR _) (On _),rfl⟩
  |fin w =>
   dsimp only;by_cases h:n0 E s (w.getLastD [])=true
   ·rw[da h]
    refine⟨_,_,rfl,λd hd=>?_,rfl⟩;rcases pb.mp hd with rfl|hd
    ·exact yR _
    ·exact c (pH _) (pH _) d hd
   ·rw[qa h]
    refine⟨_,_,rfl,λd hd=>?_,rfl⟩;rcases pb.mp hd with rfl|hd
    ·exact pH _
    rcases pb.mp hd with rfl|hd
    ·exact pH _
    rcases pb.mp hd with rfl|hd
    ·exact Ol _
    ·exact c (pH _) (Om _) d hd
theorem Oo(O:List bu)(E:En)(s:bu):bR (res O E s).1 (res O E s).1=some (.bl true):=by
 have⟨x,ds,e,h,_⟩:=uX O E s;rw[e];have⟨a,b⟩:=yS h;have c:bE LV (.tup (x::ds))=true:=b 6;refine gU ((B3 (by rw[c];rfl)).trans ?_);rw[bG]at a;rw[a]
theorem Op(O:List bu)(E:En):bR (.lst (O.map λs=>(res O E s).1)) (.lst (O.map λs=>(res O E s).1))=some (.bl true):=by
 have b:bE LV (.lst (O.map λs=>(res O E s).1))=true:=by
  rw[show LV=8+1 from rfl,bE]
  exact vc.mpr λd a=>by
   obtain⟨s,_,rfl⟩:=gb.mp a;have⟨x,ds,e,h,_⟩:=uX O E s;show bE 8 (res O E s).1=true;rw[e];exact(yS h).2 5
 refine gU ((B4 (by rw[b];rfl)).trans ?_)
 rw[uG λ d a=>by
  obtain⟨s,_,rfl⟩:=gb.mp a;have⟨x,ds,e,h,_⟩:=uX O E s;show bG (res O E s).1 (res O E s).1=true;rw[e];exact(yS h).1]
abbrev rh(E:En)(O H:List bu)(a b c:Option Sl):ao:=[sh (.lst (E.map c8)),sh (.lst (H.map aL)),sh (.lst ((E.map Prod.fst).map pD)),sh (.lst ((fY E).map pD)),sh (.lst (O.map aL)),a,b,c]
def yT:ao->aT:=(aO (a0 7 (bv 4 nQ (aC (au 6) (aC (au 4) (aC (au 2) (aC (au 3) aN))))))
  (aO (bK (tE (e1 (oC "str") (e2 aJ (al 7) (eC (.int 0))))) (bH (e2 bR (bv 2 mr (aC (au 0) (aC (au 1) aN))) (al 7))) bQ)
  (dY 5 (au 7))))
section
variable {E:En}{O H:List bu}(nE:(E.map Prod.fst).Nodup)(hE:E.length<=100)(nO:O.Nodup)(hO:O.length<=100)(hg:∀s∈O,bL s.1/\bL s.2.1)(hp:i5 [.lst [.lst (H.map aL)]]=some (O.map aL))
include nE hE nO hO hg hp
theorem EE:∀(Q P:List bu) (c a:Option Sl),O=P++Q->(∀t∈P,(res O E t).2=none) →
  dO (gN 6) yT (Q.map aL) (rh E O H (some (.ow (P.map λs=>(res O E s).1))) c a)=.rt (.bl true) ∨
  ((∀t∈O,(res O E t).2=none)/\∃q r,dO (gN 6) yT (Q.map aL) (rh E O H (some (.ow (P.map λs=>(res O E s).1))) c a)=.nx (rh E O H (some (.ow (O.map λs=>(res O E s).1))) q r))
 |[],P,c,a,e,f=>by
  rw[pc]at e;subst e;exact .inr ⟨f,c,a,rfl⟩
 |s::Q,P,c,a,e,f=>by
  have hs:s∈O:=by rw[e];simp
  have n:=Of (E:=E) hO hg hs;have⟨x,ds,h,_,i⟩:=uX O E s;have g:a0 7 (bv 4 nQ (aC (au 6) (aC (au 4) (aC (au 2) (aC (au 3) aN))))) (rh E O H (some (.ow (P.map λs=>(res O E s).1))) (sh (aL s)) a)=.nx (rh E O H (some (.ow (P.map λs=>(res O E s).1))) (sh (aL s)) (sh (res O E s).1)):=bM (cB rfl rfl n);have t:tE (e1 (oC "str") (e2 aJ (al 7) (eC (.int 0)))) (rh E O H (some (.ow (P.map λs=>(res O E s).1))) (sh (aL s)) (sh (res O E s).1))=some (res O E s).2.isSome:=bU (gz (aI rfl rfl (by rw[h];exact B1.trans (lN (j:=0) rfl))) i)
  cases b:(res O E s).2 with
  |some u =>
   rw[b]at t;have⟨l,m⟩:=Oh nE hE nO hO hg hp e f b;exact .inl (CJ rfl (st g (jG ((eK t).trans (dQ (aI (cB rfl rfl (Oj b l m)) rfl (Oo O E s)))))))
  |none =>
   rw[b]at t
   have hl:P.length<=100:=by
    have:=de List.length e
    rw[wa]at this;omega
   have o:=EE Q (P++[s]) (sh (aL s)) (sh (res O E s).1) (by rw[e];simp) λt ht=>by
    rcases yc.mp ht with ht|ht
    ·exact f t ht
    ·rw[yb.mp ht];exact b
   have p:yT (rh E O H (some (.ow (P.map λs=>(res O E s).1))) (sh (aL s)) a)=.nx (rh E O H (some (.ow ((P++[s]).map λs=>(res O E s).1))) (sh (aL s)) (sh (res O E s).1)):=by
    refine st g (st ((cx t).trans rfl) ((lF (ds:=P.map λs=>(res O E s).1) (d:=(res O E s).1) rfl rfl (by rw[ba];omega)).trans ?_));rw[db];rfl
   rw[ja,iC (ρ1:=(rh E O H (some (.ow (P.map λs=>(res O E s).1))) (sh (aL s)) a)) rfl p];exact o
theorem Oq:pv [.lst (E.map c8),.lst (H.map aL)]=some (.bl true):=by
 have b:eL (dV 1 [] (iE (al 0)) (gN 0) (λ_=>some true) (e2 aJ (al 0) (eC (.int 0)))) [sh (.lst (E.map c8)),sh (.lst (H.map aL)),none,none,none,none,none,none]=some (.lst ((E.map Prod.fst).map pD)) :=
  (iY (nn (ds:=E.map c8) rfl (sz (by rw[ba];omega)) (oQ c8 (λe=>pD e.1) E λe _=>⟨_,rfl,rfl,aI rfl rfl rfl⟩))).trans (by rw[jc];rfl)
 have c:eL (dV 1 [] (iE (al 0)) (gN 0) (tE (e2 fQ (e2 aJ (al 0) (eC (.int 1))) (eN dU aN))) (e2 aJ (al 0) (eC (.int 0)))) [sh (.lst (E.map c8)),sh (.lst (H.map aL)),sh (.lst ((E.map Prod.fst).map pD)),none,none,none,none,none]=some (.lst ((fY E).map pD)) :=
  (iY (nn (ds:=E.map c8) rfl (sz (by rw[ba];omega)) (tG c8 (λe=>!e.2.isEmpty) (λe=>pD e.1) E λe _=>⟨[sh (c8 e)],rfl,bU (aI (d:=.lst (e.2.map c7)) (e:=.lst []) (aI rfl rfl rfl) (bN rfl rfl) (wV (NB e.2))),λ_=>aI rfl rfl rfl⟩))).trans (by unfold fY;rw[jc];rfl)
 have f:eL (gu 1 i5 (aC (eN dU (aC (au 1) aN)) aN)) [sh (.lst (E.map c8)),sh (.lst (H.map aL)),sh (.lst ((E.map Prod.fst).map pD)),sh (.lst ((fY E).map pD)),none,none,none,none]=some (.lst (O.map aL)):=iY (uH (aP (bN rfl rfl) rfl) rfl hp);rcases EE nE hE nO hO hg hp O [] none none rfl (λ_ h=>nomatch h) with l|⟨g,i,j,l⟩
 ·exact cS rfl (st (bM b) (st (bM c) (st (bM f) (st rfl (jG (iu rfl l))))))
 ·have w:=Og nE hE nO hO hg hp g
  have a:mr [.lst (E.map c8),.lst (H.map aL)]=some (.lst (O.map λs=>(res O E s).1)):=by
   refine cS rfl (st (bM (d:=.non) rfl) (st (bM (d:=.non) rfl) (st (ρ':=[sh (.lst (E.map c8)),sh (.lst (H.map aL)),sh .non,sh (.lst (O.map λs=>(res O E s).1)),none,none]) ?_ (jG ((eK (bU (aI rfl rfl rfl))).trans (dQ rfl))))));unfold oK;rw[show aC (au 0) (aC (au 1) aN) (List.set (List.set (dP 6 [D.lst (E.map c8),.lst (H.map aL)]) 2 (some (Sl.sh .non))) 3 (some (Sl.sh .non)))=some [.lst (E.map c8),.lst (H.map aL)] from rfl];dsimp only;rw[da ⟨rfl,rfl,by decide⟩,w];rfl
  exact cS rfl (st (bM b) (st (bM c) (st (bM f) (st rfl (st (iu rfl l) (dQ (aI (cB rfl rfl a) rfl (Op O E))))))))
end
theorem EF{E:En}(e:(E.map Prod.fst).Nodup)(f:E.length<=100){H:List bu}(a:∀s∈H,bL s.1/\bL s.2.1)(hl:H.length<=60):pv [.lst (E.map c8),.lst (H.map aL)]=some (.bl true):=by
 obtain⟨O,b,c,g,d⟩:=NF a (by omega);exact Oq e f c (by omega) (λs hs=>a s ((b s).mp hs)) (d H (λs=>Iff.rfl) (by omega))
def iK(y:Int):List aF:=[[b8 y 0],[b8 y 1],[b8 y 0,b8 y 1],[b8 y 2],[b8 y 2,b8 y 0],[b8 y 3],[b8 y 1,b8 y 3,b8 y 1],[b8 y 0,b8 y 2],[b8 y 4],[b8 y 3,b8 y 4]]
theorem uY(y:Int):∀p∈iK y,bL p:=by
 have c:=qZ y 0 (by decide) (by decide);have d:=qZ y 1 (by decide) (by decide);have e:=qZ y 2 (by decide) (by decide);have f:=qZ y 3 (by decide) (by decide);have g:=qZ y 4 (by decide) (by decide);intro p b;simp only[iK,pb,ek,wu]at b;rcases b with rfl|rfl|rfl|rfl|rfl|rfl|rfl|rfl|rfl|rfl <;> refine⟨λh a=>?_,by simp,by simp⟩ <;> simp only[pb,ek,wu]at a <;> (try rcases a with rfl|rfl|rfl) <;> (try rcases a with rfl|rfl) <;> (try subst a) <;> assumption
theorem Os(y:Int):uy [.int y]=some (.lst ((iK y).map pD)):=by
 have d:eL (dV 1 [0] (iR lx (aC (eC (.int 5)) aN)) (gN 0) (λ_=>some true) (bv 2 pu (aC (au 1) (aC (au 0) aN)))) [sh (.int y),none,none]=some (.lst [.str (b8 y 0),.str (b8 y 1),.str (b8 y 2),.str (b8 y 3),.str (b8 y 4)]):=by
  refine(iY (nn (tB (ds:=[.int ((5:Nat):Int)]) rfl (B2 (n:=5) rfl (by omega))) (sz (by rw[ba,xn];omega)) (oQ (λk:Nat=>D.int ((k:Nat):Int)) (λj:Nat=>D.str (b8 y ((j:Nat):Int))) (List.range 5) λj b=>⟨[sh (.int ((j:Nat):Int)),sh (.int y)],rfl,rfl,cB (F:=pu) (ds:=[.int y,.int ((j:Nat):Int)]) rfl rfl (MM y ((j:Nat):Int) (by omega) (by have:=dh.mp b;omega))⟩))).trans ?_;rfl
 have a:∀{ρ:ao} {k:Nat} {l:List Nat},al 1 ρ=some (.lst [.str (b8 y 0),.str (b8 y 1),.str (b8 y 2),.str (b8 y 3),.str (b8 y 4)])->[b8 y 0,b8 y 1,b8 y 2,b8 y 3,b8 y 4][k]?=some l->e2 aJ (al 1) (eC (.int ((k:Nat):Int))) ρ=some (.str l):=λ{ρ k l} h c =>
  aI h rfl (kF.trans (lN (j:=k) (by rw[show ([.str (b8 y 0),.str (b8 y 1),.str (b8 y 2),.str (b8 y 3),.str (b8 y 4)]:List D)=[b8 y 0,b8 y 1,b8 y 2,b8 y 3,b8 y 4].map D.str from rfl,ed,c];rfl)))
 refine cS rfl (st (bM d) (st (bM (bN (aP (bN (aP (a (k:=0) rfl rfl) rfl) rfl) (aP (bN (aP (a (k:=1) rfl rfl) rfl) rfl) (aP (bN (aP (a (k:=0) rfl rfl) (aP (a (k:=1) rfl rfl) rfl)) rfl) (aP (bN (aP (a (k:=2) rfl rfl) rfl) rfl) (aP (bN (aP (a (k:=2) rfl rfl) (aP (a (k:=0) rfl rfl) rfl)) rfl) (aP (bN (aP (a (k:=3) rfl rfl) rfl) rfl) rfl)))))) rfl)) (dQ (aI rfl (bN (aP (bN (aP (a (k:=1) rfl rfl) (aP (a (k:=3) rfl rfl) (aP (a (k:=1) rfl rfl) rfl))) rfl) (aP (bN (aP (a (k:=0) rfl rfl) (aP (a (k:=2) rfl rfl) rfl)) rfl) (aP (bN (aP (a (k:=4) rfl rfl) rfl) rfl) (aP (bN (aP (a (k:=3) rfl rfl) (aP (a (k:=4) rfl rfl) rfl)) rfl) rfl)))) rfl) (w5 (sz (by simp)))))))
theorem uZ(y i:Int)(n:Int)(h:i=n % 10\/i=n % 8):∃p∈iK y,aJ (.lst ((iK y).map pD)) (.int i)=some (pD p):=by
 obtain⟨d,a,e⟩:=KR (xs:=(iK y).map pD) (i:=i) (by omega) (by rw[ba];show i<((10:Nat):Int);omega);obtain⟨p,b,rfl⟩:=gb.mp a;exact⟨p,b,kF.trans e⟩
def Ot:ao->aT:=dY 4 (eN bP (aC (e2 aJ (al 2) (e2 dC (e2 bS (e2 d3 (al 3) (eC (.int 5))) (e2 jU (eC (.int 3)) (al 5))) (eC (.int 8)))) (aC (au 5) (aC (au 5) (aC (e2 bR (e2 dC (e2 d3 (al 3) (eC (.int 40))) (eC (.int 2))) (eC (.int 1))) aN)))))
theorem tZ(y c:Int)(a b:Option Sl):∀(n k:Nat) (ms:List M4) (g:Option Sl),k+n<=5->ms.length=k->(∀x∈ms,nV 5 x)->∃(e:List M4) (h:Option Sl),dO (gN 5) Ot (gj ((k:Nat):Int) n) [a,b,sh (.lst ((iK y).map pD)),sh (.int c),some (.ow (ms.map bD)),g,none,none]=.nx [a,b,sh (.lst ((iK y).map pD)),sh (.int c),some (.ow (e.map bD)),h,none,none]/\e.length=k+n/\∀x∈e,nV 5 x
 |0,k,ms,g,_,hl,i=>⟨ms,g,rfl,hl,i⟩
 |n+1,k,ms,g,r,hl,i=>by
  have⟨p,j,l⟩:=uZ y ((c / 5+3 * ((k:Nat):Int)) % 8) (c / 5+3 * ((k:Nat):Int)) (.inr rfl);generalize f:(p,k,k,decide (c / 40 % 2=1))=x;have gx:nV 5 x:=by rw[<-f];exact⟨uY y p j,bb _,by show k<5;omega⟩
  obtain⟨e,h,m,q,o⟩:=tZ y c a b n (k+1) (ms++[x]) (sh (.int (k:Nat))) (by omega) (by rw[wa,xb,hl]) λz hz=>by
   rcases yc.mp hz with hz|hz
   ·exact i z hz
   ·rw[yb.mp hz];exact gx
  refine⟨e,h,?_,by omega,o⟩;rw[x0,<-m];refine iC rfl ((lF (ds:=ms.map bD) (d:=bD x) rfl ?_ (by rw[ba];omega)).trans ?_)
  ·rw[<-f]
   exact bN (aP (aI rfl (aI (aI (aI rfl rfl (jH (by decide))) (aI rfl rfl (tH (KN ⟨by decide,by decide⟩))) kE) rfl (gX (by decide))) l) (aP rfl (aP rfl (aP (aI (aI (aI rfl rfl (jH (by decide))) rfl (gX (by decide))) rfl (gU l5)) rfl)))) rfl
  ·rw[db];rfl
def Ou:ao->aT:=(aO (a0 5 (e2 dC (e2 jU (al 4) (eC (.int 1583458089))) (eC (.int 2147483647))))
  (dY 3 (eN bP (aC (e2 aJ (al 1) (e2 dC (al 5) (eC (.int 10)))) (aC (e2 aJ (al 1) (e2 dC (e2 d3 (al 5) (eC (.int 10))) (eC (.int 10)))) (aC (e2 bR (e2 dC (e2 d3 (al 5) (eC (.int 100))) (eC (.int 3))) (eC (.int 0))) aN))))))
def kW(H:List bu):Prop:=∀s∈H,bL s.1/\bL s.2.1
theorem kW.app{A B:List bu}(a:kW A)(b:kW B):kW (A++B):=λs hs=>(yc.mp hs).elim (a s) (b s)
theorem EG(y:Int)(a b:Option Sl):∀(f:List Int) (H:List bu) (i j:Option Sl),kW H->H.length+f.length<=100->∃H' l n,dO (gN 4) Ou (f.map D.int) [a,sh (.lst ((iK y).map pD)),b,some (.ow (H.map aL)),i,j]=.nx [a,sh (.lst ((iK y).map pD)),b,some (.ow (H'.map aL)),l,n]/\kW H'/\H'.length=H.length+f.length
 |[],H,i,j,h,_=>⟨H,i,j,rfl,h,rfl⟩
 |c::f,H,i,j,h,hl=>by
  rw[wb]at hl;generalize hm:c * 1583458089 % 2147483647=m;have⟨p,o,q⟩:=uZ y (m % 10) m (.inl rfl);have⟨g,r,u⟩:=uZ y (m / 10 % 10) (m / 10) (.inl rfl);obtain⟨H',l,n,e,v,w⟩:=EG y a b f (H++[(p,g,decide (m / 100 % 3=0))]) (sh (.int c)) (sh (.int m)) (h.app λs hs=>by rw[yb.mp hs];exact⟨uY y p o,uY y g r⟩) (by rw[wa,xb];omega);refine⟨H',l,n,?_,v,by rw[w,wa,xb,wb];omega⟩;rw[ja,<-e];refine iC rfl (st (bM (d:=.int m) ((aI (aI rfl rfl (tH (wZ ⟨by decide,by decide⟩))) rfl (gX (by decide))).trans (by rw[hm]))) ((lF (ds:=H.map aL) (d:=aL (p,g,decide (m / 100 % 3=0))) rfl (bN (aP (aI rfl (aI rfl rfl (gX (by decide))) q) (aP (aI rfl (aI (aI rfl rfl (jH (by decide))) rfl (gX (by decide))) u) (aP (aI (aI (aI rfl rfl (jH (by decide))) rfl (gX (by decide))) rfl (gU l5)) rfl))) rfl) (by rw[ba];omega)).trans ?_));rw[db];rfl
theorem Ov(y:Int)(a:List Int)(m:Nat)(hm:m<=14):∃H,uz [.lst (a.map D.int),.lst ((iK y).map pD),.int ((m:Nat):Int)]=some (.lst (H.map aL))/\kW H/\H.length<=14:=by
 obtain⟨H,f,g,e,b,c⟩:=EG y (sh (.lst (a.map D.int))) (sh (.int ((m:Nat):Int))) (a.take m) [] none none (λ_ h=>nomatch h) (by rw[md,ae];omega);refine⟨H,cS rfl (st rfl (st (iu (qD (d:=.lst ((a.take m).map D.int)) ?_ rfl) e) rfl)),b,by rw[c,md,ae];omega⟩;show some (D.lst (dH (a.map D.int) none (some ((m:Nat):Int))))=_;rw[tI,bo]
abbrev rl(ns:List Int)(y c:Int)(a b d e:Option Sl):ao:=[sh (.lst (ns.map D.int)),sh (.int y),sh (.lst ((iK y).map pD)),sh (.int c),a,b,d,e]
theorem Ow(ns:List Int)(hl:ns.length<=63):pw [.lst (ns.map D.int)]=some (.bl true):=by
 generalize hy:nB ns 0=y;generalize hc:nB ns 1=c;have r1:nP [.lst (ns.map D.int),.int 0]=some (.int y):=by rw[<-hy];exact Dt ns 0
 have r3:nP [.lst (ns.map D.int),.int 1]=some (.int c):=by rw[<-hc];exact Dt ns 1
 obtain⟨n,hn⟩:=dg (show 0<=1+c % 5 by omega);have hn5:n<=5/\1<=n:=by omega
 obtain⟨ms,b,T,U,J⟩:=tZ y c (sh (.lst (ns.map D.int))) (sh (.int y)) n 0 [] none (by omega) rfl λx v=>nomatch v
 have O:∀x∈ms,bL x.1:=λx v=>(J x v).p
 obtain⟨E,X,u,_⟩:=Nw [false,false,false,false,false] (by decide) J (by omega) 2 7
 have P:E.length<=100:=by
  have:=uL u.nd (m:=kT ms) λp w=>by
   obtain⟨e,Y,rfl⟩:=gb.mp w;exact u.sub e Y
  rw[ba]at this
  have:=yD O
  omega
 have hm:∃m:Nat,m<=14/\aJ (.lst [.int 14,.int 1,.int 2,.int 3,.int 4,.int 6]) (.int (c / 7 % 6))=some (.int ((m:Nat):Int)):=by
  have:c / 7 % 6=0\/c / 7 % 6=1\/c / 7 % 6=2\/c / 7 % 6=3\/c / 7 % 6=4\/c / 7 % 6=5:=by omega
  rcases this with h|h|h|h|h|h <;> rw[h]
  ·exact⟨14,by omega,rfl⟩
  ·exact⟨1,by omega,rfl⟩
  ·exact⟨2,by omega,rfl⟩
  ·exact⟨3,by omega,rfl⟩
  ·exact⟨4,by omega,rfl⟩
  ·exact⟨6,by omega,rfl⟩
 obtain⟨m,A,B⟩:=hm;have⟨l,Z,K,l0⟩:=Ov y (ns.drop 2) m A
 have sl:b6 (al 0) (oS (eC (.int 2))) oN (rl ns y c (sh (.lst (ms.map bD))) b (sh (.lst (E.map c8))) none)=some (.lst ((ns.drop 2).map D.int)):=by
  show some (D.lst (dH (ns.map D.int) (some ((2:Nat):Int)) none))=_;rw[l6,w4]
 obtain⟨x,xs,o⟩:∃x xs,ms=x::xs:=by
  cases ms with
  |nil=>rw[md]at U;omega
  |cons x xs=>exact⟨x,xs,rfl⟩
 have G:∃q∈iK y,aJ (.lst ((iK y).map pD)) (.int 9)=some (pD q):=uZ y 9 9 (.inl rfl);obtain⟨q,hq,r⟩:=G
 have g:∃f,kW f/\f.length<=16/\bK (tE (e2 bR (e2 dC (e2 d3 (al 3) (eC (.int 11))) (eC (.int 4))) (eC (.int 1)))) (a0 7 (e2 bS (eN dU (aC (eN bP (aC (e2 aJ (e2 aJ (al 4) (eC (.int 0))) (eC (.int 0))) (aC (e2 aJ (al 2) (eC (.int 9))) (aC (eC (.bl true)) aN)))) (aC (eN bP (aC (e2 aJ (al 2) (eC (.int 9))) (aC (e2 aJ (e2 aJ (al 4) (eC (.int 0))) (eC (.int 0))) (aC (eC (.bl false)) aN)))) aN))) (b6 (al 7) oN (oS (eC (.int 2)))))) bQ (rl ns y c (sh (.lst (ms.map bD))) b (sh (.lst (E.map c8))) (sh (.lst (l.map aL))))=.nx (rl ns y c (sh (.lst (ms.map bD))) b (sh (.lst (E.map c8))) (sh (.lst (f.map aL)))):=by
  have t:tE (e2 bR (e2 dC (e2 d3 (al 3) (eC (.int 11))) (eC (.int 4))) (eC (.int 1))) (rl ns y c (sh (.lst (ms.map bD))) b (sh (.lst (E.map c8))) (sh (.lst (l.map aL))))=some (decide (c / 11 % 4=1)):=bU (aI (aI (aI rfl rfl (jH (by decide))) rfl (gX (by decide))) rfl (gU l5));by_cases h:c / 11 % 4=1
  ·rw[za h]at t
   have gx:=O x (by rw[o];exact va);have Q:∀ρ:ao,al 4 ρ=some (.lst (ms.map bD))->e2 aJ (e2 aJ (al 4) (eC (.int 0))) (eC (.int 0)) ρ=some (pD x.1):=λρ z=>aI (d:=bD x) (aI z rfl (by rw[o];exact kF.trans (lN (j:=0) rfl))) rfl (B1.trans (lN (j:=0) rfl))
   refine⟨[(x.1,q,true),(q,x.1,false)]++l.take 2,kW.app (λs hs=>?_) (λs hs=>K s (ig hs)),by rw[wa,ae];show 2+_<=16;omega,(eK t).trans (bM ((aI (e:=.lst ((l.take 2).map aL)) (bN (aP (bN (aP (Q _ rfl) (aP (aI rfl rfl r) rfl)) rfl) (aP (bN (aP (aI rfl rfl r) (aP (Q _ rfl) rfl)) rfl) rfl)) rfl) ?_ (w5 (sz (by rw[ba,ae];show 2+_<=_;omega)))).trans ?_))⟩
   ·have R:=uY y q hq
    rcases pb.mp hs with rfl|hs
    ·exact⟨gx,R⟩
    ·rw[yb.mp hs];exact⟨R,gx⟩
   ·show some (D.lst (dH (l.map aL) none (some ((2:Nat):Int))))=_
    rw[tI,bo]
   ·rw[db];rfl
  ·rw[nb h]at t
   exact⟨l,K,by omega,(cx t).trans rfl⟩
 obtain⟨f,L,M,C⟩:=g
 have i:∃a,kW a/\a.length<=16/\bK (tE (e2 bR (e2 dC (e2 d3 (al 3) (eC (.int 3))) (eC (.int 2))) (eC (.int 1)))) (a0 7 (eL (wN tN (aC (al 7) aN)))) bQ (rl ns y c (sh (.lst (ms.map bD))) b (sh (.lst (E.map c8))) (sh (.lst (f.map aL))))=.nx (rl ns y c (sh (.lst (ms.map bD))) b (sh (.lst (E.map c8))) (sh (.lst (a.map aL)))):=by
  have t:tE (e2 bR (e2 dC (e2 d3 (al 3) (eC (.int 3))) (eC (.int 2))) (eC (.int 1))) (rl ns y c (sh (.lst (ms.map bD))) b (sh (.lst (E.map c8))) (sh (.lst (f.map aL))))=some (decide (c / 3 % 2=1)):=bU (aI (aI (aI rfl rfl (jH (by decide))) rfl (gX (by decide))) rfl (gU l5));by_cases h:c / 3 % 2=1
  ·rw[za h]at t
   refine⟨f.reverse,λs hs=>L s (List.mem_reverse.mp hs),by rw[um];exact M,(eK t).trans (bM ?_)⟩;show some (D.lst (f.map aL).reverse)=_;rw[List.map_reverse]
  ·rw[nb h]at t
   exact⟨f,L,M,(cx t).trans rfl⟩
 obtain⟨a,N,l2,F⟩:=i;have h1:=EF u.nd P N (by omega);have h2:=EF u.nd P (H:=a.take (a.length - 1)) (λs hs=>N s (ig hs)) (by rw[ae];omega)
 have I:b6 (al 7) oN (oS (e1 cv (eC (.int 1)))) (rl ns y c (sh (.lst (ms.map bD))) b (sh (.lst (E.map c8))) (sh (.lst (a.map aL))))=some (.lst ((a.take (a.length - 1)).map aL)):=by
  show some (D.lst (dH (a.map aL) none (some (-1))))=_;rw[l6]
  congr 3
  unfold dH;have q1:HT.sIx a.length 0 none=0:=rfl
  have q2:HT.sIx a.length a.length (some (-1))=a.length - 1:=by
   unfold HT.sIx;dsimp only;rw[da (by decide)];omega
  rw[q1,q2,List.drop_zero,Nat.sub_zero]
 refine cS rfl (st (bM (cB rfl rfl r1)) (st (bM (cB rfl rfl (Os y))) (st (bM (cB rfl rfl r3)) (st rfl (st (iu (tB (ds:=[.int (n:Nat)]) (aP ((aI rfl (aI rfl rfl (gX (by decide))) kE).trans (by rw[hn])) rfl) (Dp (by omega))) T) ?_)))));show fV 4 _ (rl ns y c (some (.ow (ms.map bD))) b none none)=_;exact st (bM (cB (aP (aI (bN rfl rfl) rfl rfl) (aP rfl (aP rfl (aP rfl rfl)))) rfl X)) (st (bM (cB (aP sl (aP rfl (aP (aI (bN rfl rfl) (aI (aI rfl rfl (jH (by decide))) rfl (gX (by decide))) B) rfl))) rfl Z)) (st C (st F (dQ ((wW (l4 (bU (cB rfl rfl h1)) (bU (cB (aP rfl (aP I rfl)) rfl h2)))).trans rfl)))))
end K22
set_option maxHeartbeats 4000000
namespace K22
open PySem L2
abbrev yU:Stmt:=bW 13
abbrev yV:Stmt:=bW 14
abbrev yW:Stmt:=bW 15
abbrev yX:Stmt:=bW 17
abbrev yY:Stmt:=bW 18
abbrev yZ:Stmt:=bW 19
abbrev y0:Stmt:=bW 20
abbrev y1:Stmt:=bW 21
abbrev y2:Stmt:=bW 22
abbrev y3:Stmt:=bW 24
abbrev y4:Stmt:=bW 25
abbrev y6:Stmt:=bW 26
abbrev y7:Stmt:=bW 27
abbrev y8:Stmt:=bW 28
abbrev y9:Stmt:=bW 29
abbrev zn:Stmt:=bW 30
abbrev zq:Stmt:=bW 31
abbrev zr:Stmt:=bW 33
abbrev zt:Stmt:=bW 35
abbrev zv:Stmt:=bW 36
abbrev zw:Stmt:=bW 37
abbrev zx:Stmt:=bW 39
abbrev zy:Stmt:=bW 40
abbrev zz:Stmt:=bW 41
abbrev zA:Stmt:=bW 43
abbrev zB:Stmt:=bW 44
abbrev zC:Stmt:=bW 45
abbrev zD:Stmt:=bW 46
abbrev zE:Stmt:=bW 47
abbrev zF:Stmt:=bW 48
abbrev zG:Stmt:=bW 49
abbrev zH:Stmt:=bW 50
abbrev zI:Stmt:=bW 51
abbrev zJ:Stmt:=bW 52
abbrev pI:Stmt:=bW 53
theorem EH:ay ["head","bar"] ["head"] (bt yU):=‹0›
theorem Ox:ay ["head"] ["head"] (bt yV):=‹0›
theorem Oy:ay ["path"] ["path"] (bt yW):=‹0›
theorem Oz:ay ["mark","many"] ["mark","many"] (bt yX):=‹0›
theorem n5:ay ["hands","found","hand","path","first","last","most"] ["hands"] (bt yY):=‹0›
theorem pJ:ay ["hands","found","hand","path","goal","also"] ["hands"] (bt yZ):=‹0›
theorem OA:ay ["path"] ["path"] (bt y0):=‹0›
theorem OB:ay ["mark"] ["mark"] (bt y1):=‹0›
theorem OC:ay ["see"] ["see"] (bt y2):=‹0›
theorem mx:ay ["rows","sees","ordered","has_pages","sent"] ["rows","sees"] (bt y3):=‹0›
theorem u0:ay ["rows","has_pages","path","found"] ["rows"] (bt y4):=‹0›
theorem rN:ay ["ordered","sent","path","goal","also"] ["ordered"] (bt y6):=‹0›
theorem iL:ay ["see","has_pages","sent","path","goal","also","come","ring","end"] ["see","has_pages","sent"] (bt y7):=‹0›
theorem EI:ay ["path","goal","also","has_pages","sent"] ["path","goal","also","has_pages","sent"] (bt y8):=‹0›
theorem zK:ay ["goal","sent","come","seen"] ["goal","sent"] (bt y9):=‹0›
theorem OD:ay ["come"] ["come"] (bt zn):=‹0›
theorem EJ:ay ["ring","start"] ["ring"] (bt zq):=‹0›
theorem my:ay ["book","most","first","told","page","filled","new"] ["book","most","first"] (bt zr):=‹0›
theorem u1:ay ["numbers","marks","strong","told","page"] ["numbers","marks"] (bt zt):=‹0›
theorem n6:ay ["numbers","marks","strong","path","first","last","most","page"] ["numbers","marks"] (bt zv):=‹0›
theorem OE:ay ["stretch","page","is_strong"] ["stretch","page","is_strong"] (bt zw):=‹0›
theorem u3:ay ["book","most","first","marks","ordered","numbers","found"] ["book","most","first","marks"] (bt zx):=‹0›
theorem EK:ay ["ordered","many","mark"] ["ordered","many"] (bt zy):=‹0›
theorem rO:ay ["ordered","found","mark","path","many"] ["ordered"] (bt zz):=‹0›
theorem OF:ay ["_law_script","_law_k"] ["_law_script","_law_k"] (bt zA):=‹0›
theorem jP:ay ["_law_cell","_law_k","_law_signs","_law_base","_law_j","_law_at","_law_head","_law_way"] ["_law_cell","_law_k"] (bt zB):=‹0›
theorem zL:ay ["_law_by","_law_heads","_law_some"] ["_law_by"] (bt zC):=‹0›
theorem u4:ay ["_law_cells","_law_paths_here","_law_most","_law_sees_here","_law_cell","_law_number"] ["_law_cells","_law_paths_here","_law_most"] (bt zD):=‹0›
theorem rP:ay ["_law_sees_here","_law_onward_here","_law_path","_law_goal","_law_also"] ["_law_sees_here"] (bt zE):=‹0›
theorem u5:ay ["_law_see","_law_sees_here","_law_path","_law_goal","_law_also"] ["_law_see","_law_sees_here"] (bt zF):=‹0›
theorem u7:ay ["_law_way","_law_goal","_law_ring","_law_ranks","_law_at"] ["_law_way","_law_goal"] (bt zG):=‹0›
theorem pL:ay ["_law_see","_law_sees_here","_law_there","_law_full","_law_path","_law_goal","_law_also","_law_onward_here","_law_way"] ["_law_see","_law_sees_here","_law_there","_law_full"] (bt zH):=‹0›
theorem pM:ay ["_law_rows","_law_sees_here","_law_told","_law_found","e","_law_some"] ["_law_rows","_law_sees_here"] (bt zI):=‹0›
theorem n7:ay ["_law_rows","_law_sees_here","_law_there","_law_full","_law_some","_law_due_here","_law_see","_law_row"] ["_law_rows","_law_sees_here"] (bt zJ):=‹0›
theorem kX:ay ["_law_script","_law_by","_law_paths_here","_law_cell","_law_marks","_law_k","_law_rows","_law_sees_here"] ["_law_script"] (bt pI):=‹0›
noncomputable abbrev zM:Str:="abcdefghijklmnopqrstuvwxyzABCDEFGHIJKLMNOPQRSTUVWXYZ0123456789"
abbrev zN:Stmt:=(i9 (bW 4)).getD 0 (.Pass ⟨0,0,0,0⟩)
theorem OG:ay ["self","path"] ["self","path"] (bt zN):=‹0›
abbrev zO:Stmt:=(i9 (bW 7)).getD 0 (.Pass ⟨0,0,0,0⟩)
theorem OH:ay ["self","path","goal"] ["self","path","goal"] (bt zO):=‹0›
abbrev EL:Stmt:=(i9 (bW 2)).getD 0 (.Pass ⟨0,0,0,0⟩)
abbrev zP:Stmt:=(i9 (bW 6)).getD 0 (.Pass ⟨0,0,0,0⟩)
theorem OI:ay ["self","ring"] ["self","ring"] (bt zP):=‹0›
abbrev zQ:Stmt:=(i9 (bW 3)).getD 0 (.Pass ⟨0,0,0,0⟩)
theorem OJ:ay ["self","path"] ["self","path"] (bt zQ):=‹0›
abbrev zR:Stmt:=(i9 (bW 5)).getD 0 (.Pass ⟨0,0,0,0⟩)
theorem OK:ay ["self","path"] ["self","path"] (bt zR):=‹0›
structure Adr where
 f_q1e:Addr
 fd_q1e:FuncData
 f_q1c:Addr
 fd_q1c:FuncData
 f_q21:Addr
 fd_q21:FuncData
 f_q1f:Addr
 fd_q1f:FuncData
 f_q1b:Addr
 fd_q1b:FuncData
 f_q8:Addr
 fd_q8:FuncData
 f_q1a:Addr
 fd_q1a:FuncData
 f_q11:Addr
 fd_q11:FuncData
 f_q14:Addr
 fd_q14:FuncData
 f_q20:Addr
 fd_q20:FuncData
 f_q3:Addr
 fd_q3:FuncData
 f_q1:Addr
 fd_q1:FuncData
 f_qd:Addr
 fd_qd:FuncData
 f_q5:Addr
 fd_q5:FuncData
 f_q7:Addr
 fd_q7:FuncData
 f_q19:Addr
 fd_q19:FuncData
 f_qc:Addr
 fd_qc:FuncData
 f_q1d:Addr
 fd_q1d:FuncData
 f_qe:Addr
 fd_qe:FuncData
 f_q0:Addr
 fd_q0:FuncData
 f_q18:Addr
 fd_q18:FuncData
 f_q16:Addr
 fd_q16:FuncData
 f_q4:Addr
 fd_q4:FuncData
 f_q2:Addr
 fd_q2:FuncData
 f_q6:Addr
 fd_q6:FuncData
 f_q9:Addr
 fd_q9:FuncData
 f_qf:Addr
 fd_qf:FuncData
 f_q13:Addr
 fd_q13:FuncData
 f_qa:Addr
 fd_qa:FuncData
 f_q17:Addr
 fd_q17:FuncData
 f_q12:Addr
 fd_q12:FuncData
 f_q15:Addr
 fd_q15:FuncData
 f_qb:Addr
 fd_qb:FuncData
 f_q10:Addr
 fd_q10:FuncData
 f_q22:Addr
 fd_q22:FuncData
 tk_LETTERS_AND_FIGURES:Tok
 c_Both:Addr
 fi_Both:Addr
 fdi_Both:FuncData
 c_NoMark:Addr
 fo_NoMark:Option Addr
 c_NoRow:Addr
 fo_NoRow:Option Addr
 c_NoText:Addr
 fo_NoText:Option Addr
 c_Nowhere:Addr
 fi_Nowhere:Addr
 fdi_Nowhere:FuncData
 c_OutOfBook:Addr
 fi_OutOfBook:Addr
 fdi_OutOfBook:FuncData
 c_PageError:Addr
 c_Ring:Addr
 fi_Ring:Addr
 fdi_Ring:FuncData
 c_SentHere:Addr
 fi_SentHere:Addr
 fdi_SentHere:FuncData
 c_TwoWays:Addr
 fi_TwoWays:Addr
 fdi_TwoWays:FuncData
structure Txt(K:Fg1)(mg:Str->Option Value)(t:Adr):Prop where
 d_q1e:Df K mg "shown" yU ["head"] t.f_q1e t.fd_q1e
 d_q1c:Df K mg "key_of" yV ["head"] t.f_q1c t.fd_q1c
 d_q21:Df K mg "rank" yW ["path"] t.f_q21 t.fd_q21
 d_q1f:Df K mg "fits" yX ["mark","many"] t.f_q1f t.fd_q1f
 d_q1b:Df K mg "poured" yY ["hands"] t.f_q1b t.fd_q1b
 d_q8:Df K mg "poured_sees" yZ ["hands"] t.f_q8 t.fd_q8
 d_q1a:Df K mg "copied" y0 ["path"] t.f_q1a t.fd_q1a
 d_q11:Df K mg "mark_rank" y1 ["mark"] t.f_q11 t.fd_q11
 d_q14:Df K mg "see_rank" y2 ["see"] t.f_q14 t.fd_q14
 d_q20:Df K mg "ways" y3 ["rows","sees"] t.f_q20 t.fd_q20
 d_q3:Df K mg "pages_by_path" y4 ["rows"] t.f_q3 t.fd_q3
 d_q1:Df K mg "goals_by_path" y6 ["ordered"] t.f_q1 t.fd_q1
 d_qd:Df K mg "way_of_see" y7 ["see","has_pages","sent"] t.f_qd t.fd_qd
 d_q5:Df K mg "refuse_start" y8 ["path","goal","also","has_pages","sent"] t.f_q5 t.fd_q5
 d_q7:Df K mg "way_of_goal" y9 ["goal","sent"] t.f_q7 t.fd_q7
 d_q19:Df K mg "ring_in" zn ["come"] t.f_q19 t.fd_q19
 d_qc:Df K mg "from_least" zq ["ring"] t.f_qc t.fd_qc
 d_q1d:Df K mg "pages" zr ["book","most","first"] t.f_q1d t.fd_q1d
 d_qe:Df K mg "stretches" zt ["numbers","marks"] t.f_qe t.fd_qe
 d_q0:Df K mg "strong_by_page" zv ["numbers","marks"] t.f_q0 t.fd_q0
 d_q18:Df K mg "goes_on" zw ["stretch","page","is_strong"] t.f_q18 t.fd_q18
 d_q16:Df K mg "entries" zx ["book","most","first","marks"] t.f_q16 t.fd_q16
 d_q4:Df K mg "refuse_unfit" zy ["ordered","many"] t.f_q4 t.fd_q4
 d_q2:Df K mg "marks_by_path" zz ["ordered"] t.f_q2 t.fd_q2
 d_q6:Df K mg "_law_cell_at" zA ["_law_script","_law_k"] t.f_q6 t.fd_q6
 d_q9:Df K mg "_law_head_by" zB ["_law_cell","_law_k"] t.f_q9 t.fd_q9
 d_qf:Df K mg "_law_paths" zC ["_law_by"] t.f_qf t.fd_qf
 d_q13:Df K mg "_law_sees" zD ["_law_cells","_law_paths_here","_law_most"] t.f_q13 t.fd_q13
 d_qa:Df K mg "_law_onward" zE ["_law_sees_here"] t.f_qa t.fd_qa
 d_q17:Df K mg "_law_two" zF ["_law_see","_law_sees_here"] t.f_q17 t.fd_q17
 d_q12:Df K mg "_law_round" zG ["_law_way","_law_goal"] t.f_q12 t.fd_q12
 d_q15:Df K mg "_law_due" zH ["_law_see","_law_sees_here","_law_there","_law_full"] t.f_q15 t.fd_q15
 d_qb:Df K mg "_law_answer" zI ["_law_rows","_law_sees_here"] t.f_qb t.fd_qb
 d_q10:Df K mg "_law_holds" zJ ["_law_rows","_law_sees_here"] t.f_q10 t.fd_q10
 d_q22:Df K mg "law" pI ["_law_script"] t.f_q22 t.fd_q22
 isinstance:mg "isinstance" = none
 len:mg "len" = none
 list:mg "list" = none
 min:mg "min" = none
 range:mg "range" = none
 reversed:mg "reversed" = none
 sorted:mg "sorted" = none
 str:mg "str" = none
 tuple:mg "tuple" = none
 ri:qS K t.c_PageError=true
 c_LETTERS_AND_FIGURES:mg "LETTERS_AND_FIGURES" = some (.str zM t.tk_LETTERS_AND_FIGURES)
 n_Both:PySem.W.nsIn K mainGlobals "Both" = some (some (.ref t.c_Both))
 m_Both:mg "Both" = some (.ref t.c_Both)
 x_Both:cU K "Both" t.c_Both t.c_PageError (some t.fi_Both)
 lo_Both:∃o,K.lookup t.fi_Both=some o/\o.cls=.type "function"
 kp_Both:PySem.W.keepIn K (.ref t.c_Both)=true
 fu_Both:ec K "__init__" "Both.__init__" zN t.fi_Both t.fdi_Both
 bi_Both:c9 K t.fdi_Both ["self","path"] []
 n_NoMark:PySem.W.nsIn K mainGlobals "NoMark" = some (some (.ref t.c_NoMark))
 m_NoMark:mg "NoMark" = some (.ref t.c_NoMark)
 x_NoMark:cU K "NoMark" t.c_NoMark t.c_PageError t.fo_NoMark
 n_NoRow:PySem.W.nsIn K mainGlobals "NoRow" = some (some (.ref t.c_NoRow))
 m_NoRow:mg "NoRow" = some (.ref t.c_NoRow)
 x_NoRow:cU K "NoRow" t.c_NoRow t.c_PageError t.fo_NoRow
 n_NoText:PySem.W.nsIn K mainGlobals "NoText" = some (some (.ref t.c_NoText))
 m_NoText:mg "NoText" = some (.ref t.c_NoText)
 x_NoText:cU K "NoText" t.c_NoText t.c_PageError t.fo_NoText
 n_Nowhere:PySem.W.nsIn K mainGlobals "Nowhere" = some (some (.ref t.c_Nowhere))
 m_Nowhere:mg "Nowhere" = some (.ref t.c_Nowhere)
 x_Nowhere:cU K "Nowhere" t.c_Nowhere t.c_PageError (some t.fi_Nowhere)
 lo_Nowhere:∃o,K.lookup t.fi_Nowhere=some o/\o.cls=.type "function"
 kp_Nowhere:PySem.W.keepIn K (.ref t.c_Nowhere)=true
 fu_Nowhere:ec K "__init__" "Nowhere.__init__" zO t.fi_Nowhere t.fdi_Nowhere
 bi_Nowhere:c9 K t.fdi_Nowhere ["self","path","goal"] []
 n_OutOfBook:PySem.W.nsIn K mainGlobals "OutOfBook" = some (some (.ref t.c_OutOfBook))
 m_OutOfBook:mg "OutOfBook" = some (.ref t.c_OutOfBook)
 x_OutOfBook:cU K "OutOfBook" t.c_OutOfBook t.c_PageError (some t.fi_OutOfBook)
 lo_OutOfBook:∃o,K.lookup t.fi_OutOfBook=some o/\o.cls=.type "function"
 kp_OutOfBook:PySem.W.keepIn K (.ref t.c_OutOfBook)=true
 fu_OutOfBook:ec K "__init__" "OutOfBook.__init__" EL t.fi_OutOfBook t.fdi_OutOfBook
 bi_OutOfBook:c9 K t.fdi_OutOfBook ["self","path","first","last"] []
 n_PageError:PySem.W.nsIn K mainGlobals "PageError" = some (some (.ref t.c_PageError))
 m_PageError:mg "PageError" = some (.ref t.c_PageError)
 n_Ring:PySem.W.nsIn K mainGlobals "Ring" = some (some (.ref t.c_Ring))
 m_Ring:mg "Ring" = some (.ref t.c_Ring)
 x_Ring:cU K "Ring" t.c_Ring t.c_PageError (some t.fi_Ring)
 lo_Ring:∃o,K.lookup t.fi_Ring=some o/\o.cls=.type "function"
 kp_Ring:PySem.W.keepIn K (.ref t.c_Ring)=true
 fu_Ring:ec K "__init__" "Ring.__init__" zP t.fi_Ring t.fdi_Ring
 bi_Ring:c9 K t.fdi_Ring ["self","ring"] []
 n_SentHere:PySem.W.nsIn K mainGlobals "SentHere" = some (some (.ref t.c_SentHere))
 m_SentHere:mg "SentHere" = some (.ref t.c_SentHere)
 x_SentHere:cU K "SentHere" t.c_SentHere t.c_PageError (some t.fi_SentHere)
 lo_SentHere:∃o,K.lookup t.fi_SentHere=some o/\o.cls=.type "function"
 kp_SentHere:PySem.W.keepIn K (.ref t.c_SentHere)=true
 fu_SentHere:ec K "__init__" "SentHere.__init__" zQ t.fi_SentHere t.fdi_SentHere
 bi_SentHere:c9 K t.fdi_SentHere ["self","path"] []
 n_TwoWays:PySem.W.nsIn K mainGlobals "TwoWays" = some (some (.ref t.c_TwoWays))
 m_TwoWays:mg "TwoWays" = some (.ref t.c_TwoWays)
 x_TwoWays:cU K "TwoWays" t.c_TwoWays t.c_PageError (some t.fi_TwoWays)
 lo_TwoWays:∃o,K.lookup t.fi_TwoWays=some o/\o.cls=.type "function"
 kp_TwoWays:PySem.W.keepIn K (.ref t.c_TwoWays)=true
 fu_TwoWays:ec K "__init__" "TwoWays.__init__" zR t.fi_TwoWays t.fdi_TwoWays
 bi_TwoWays:c9 K t.fdi_TwoWays ["self","path"] []
section
variable {P:Program}{w:World}{K:Fg1}{mg:Str->Option Value}{base:Heap}{t:Adr}
theorem Txt.cl_Both(T:Txt K mg t):e8 K "Both" t.c_Both:=⟨_,_,T.x_Both,T.n_PageError,T.n_Both⟩
theorem OL(T:Txt K mg t):ax P w K mg base aQ 1 t.fi_Both t.fdi_Both ["self","path"] (mM K "Both" ["path"]):=wy T.fu_Both OG mi rfl rfl rfl
theorem Txt.cl_NoMark(T:Txt K mg t):e8 K "NoMark" t.c_NoMark:=⟨_,_,T.x_NoMark,T.n_PageError,T.n_NoMark⟩
theorem Txt.cl_NoRow(T:Txt K mg t):e8 K "NoRow" t.c_NoRow:=⟨_,_,T.x_NoRow,T.n_PageError,T.n_NoRow⟩
theorem Txt.cl_NoText(T:Txt K mg t):e8 K "NoText" t.c_NoText:=⟨_,_,T.x_NoText,T.n_PageError,T.n_NoText⟩
theorem Txt.cl_Nowhere(T:Txt K mg t):e8 K "Nowhere" t.c_Nowhere:=⟨_,_,T.x_Nowhere,T.n_PageError,T.n_Nowhere⟩
theorem OM(T:Txt K mg t):ax P w K mg base aQ 1 t.fi_Nowhere t.fdi_Nowhere ["self","path","goal"] (mM K "Nowhere" ["path","goal"]):=L6 T.fu_Nowhere OH mi CK rfl rfl rfl rfl
theorem Txt.cl_OutOfBook(T:Txt K mg t):e8 K "OutOfBook" t.c_OutOfBook:=⟨_,_,T.x_OutOfBook,T.n_PageError,T.n_OutOfBook⟩
theorem Txt.cl_Ring(T:Txt K mg t):e8 K "Ring" t.c_Ring:=⟨_,_,T.x_Ring,T.n_PageError,T.n_Ring⟩
theorem ON(T:Txt K mg t):ax P w K mg base aQ 1 t.fi_Ring t.fdi_Ring ["self","ring"] (xP K "Ring" "ring"):=Ms T.m_PageError T.ri T.list T.fu_Ring OI CL rfl rfl rfl rfl rfl rfl
theorem Txt.cl_SentHere(T:Txt K mg t):e8 K "SentHere" t.c_SentHere:=⟨_,_,T.x_SentHere,T.n_PageError,T.n_SentHere⟩
theorem OO(T:Txt K mg t):ax P w K mg base aQ 1 t.fi_SentHere t.fdi_SentHere ["self","path"] (mM K "SentHere" ["path"]):=wy T.fu_SentHere OJ mi rfl rfl rfl
theorem Txt.cl_TwoWays(T:Txt K mg t):e8 K "TwoWays" t.c_TwoWays:=⟨_,_,T.x_TwoWays,T.n_PageError,T.n_TwoWays⟩
theorem OP(T:Txt K mg t):ax P w K mg base aQ 1 t.fi_TwoWays t.fdi_TwoWays ["self","path"] (mM K "TwoWays" ["path"]):=wy T.fu_TwoWays OK mi rfl rfl rfl
theorem EM(T:Txt K mg t):ax P w K mg base aQ 1 t.f_q1e t.fd_q1e ["head"] (aY K 1 nG):=by
 exact cZ (k:=0) (fs:=f_q1e) rfl rfl rfl T.d_q1e.F EH λ b A a s H E B c=>(@aU _ _ _ _ _ _ (cR (cz (ls c) lu (az (en (l:=[124]) (by decide))) (aA 0) (by with_unfolding_all rfl)) (bx (cu (aE 0))) cY)
   (@aU _ _ _ _ _ _ (@bO _ _ _ _ _ 1 _ _ EH.nd rfl (Or.inl rfl) (mW PySem.F.plainAttrs_str PySem.F.slot_str_index PySem.F.type_str_index Io JV (aA 0) (dB (az (en (l:=[124]) (by decide))) dE)) rfl (.inl rfl))
   (bx (cu (bI cV cW (az (bI cV cW (az (fJ (aA 0) (eS (az (bI cV cW (aA 1) (az aH)))) f8)) (az (en (l:=[44,32]) (by decide))))) (az (fJ (aA 0) f8 (eS (aA 1)))))))))
theorem OQ(T:Txt K mg t):ax P w K mg base aQ 2 t.f_q1c t.fd_q1c ["head"] (aY K 1 qT):=by
 have a:ax P w K mg base aQ 1 t.f_q1e t.fd_q1e ["head"] (aY K 1 nG):=EM T;exact cZ (k:=1) (fs:=f_q1c) rfl rfl rfl T.d_q1c.F Ox λe A c s H E B d=>(bx (cu (JS PySem.F.plainAttrs_str PySem.F.slot_str_lower PySem.F.type_str_lower Im JU (az (mW PySem.F.plainAttrs_str PySem.F.slot_str_join PySem.F.type_str_join Ip JW (az (en (l:=[]) (by decide))) (dB (az (jW (sU rfl (vars:=["sign"]) (cap:=[]) (lh [] rfl (by decide) (by decide) (by decide) .nil) (lp .nil) (by decide) (by decide) (lU (az (cw a (d.mono (by decide)) (by rfl) T.d_q1e.m T.d_q1e.F.kp T.d_q1e.b (aD (aE 0) aR)))) (λ_ _ _ _=>(b7 (i:=0) (show List.Nodup (["sign"]:List Str) by decide) rfl (cb rfl))) (λ_ _ _ _=>(BJ (cz (qi d) qj (aA 0) (az (J5 (x:=zM) (l:=LF) (by decide) (by rfl) T.c_LETTERS_AND_FIGURES)) (by with_unfolding_all rfl)))) (λ_ _ _ _=>(aE 0))))) dE))))))
theorem rQ(T:Txt K mg t):ax P w K mg base aQ 3 t.f_q21 t.fd_q21 ["path"] (aY K 1 d5):=by
 have a:ax P w K mg base aQ 2 t.f_q1c t.fd_q1c ["head"] (aY K 1 qT):=OQ T;have c:ax P w K mg base aQ 1 t.f_q1e t.fd_q1e ["head"] (aY K 1 nG):=EM T;exact cZ (k:=2) (fs:=f_q21) rfl rfl rfl T.d_q21.F Oy λf A d s H E B e=>(bx (cu (jW (sU rfl (vars:=["head"]) (cap:=[]) (lh [] rfl (by decide) (by decide) (by decide) .nil) (lp .nil) (by decide) (by decide) (lU (aA 0)) (λ_ _ _ _=>(b7 (i:=0) (show List.Nodup (["head"]:List Str) by decide) rfl (cb rfl))) (λ_ _ _ _=>mX) (λ_ _ _ _=>(cQ (aD (cw a (e.mono (by decide)) (by rfl) T.d_q1c.m T.d_q1c.F.kp T.d_q1c.b (aD (aE 0) aR)) (aD (cw c (e.mono (by decide)) (by rfl) T.d_q1e.m T.d_q1e.F.kp T.d_q1e.b (aD (aE 0) aR)) aR))))))))
theorem OR(T:Txt K mg t):ax P w K mg base aQ 1 t.f_q1f t.fd_q1f ["mark","many"] (aY K 2 qU):=by
 exact cZ (k:=0) (fs:=f_q1f) rfl rfl rfl T.d_q1f.F Oz λb A a s H E B c=>(bx (cu (L1 AK AK AJ (az aH) (az (bz (aA 0) (az aH) (λ_ _=>rfl))) (az (bz (aA 0) (az aH) (λ_ _=>rfl))) (aA 1))))
theorem EN(T:Txt K mg t):ax P w K mg base aQ 1 t.f_q1a t.fd_q1a ["path"] (aY K 1 kN):=by
 exact cZ (k:=0) (fs:=f_q1a) rfl rfl rfl T.d_q1a.F OA λb A a s H E B c=>(bx (cu (wH GW JN (by rfl) T.tuple Ie (dB (az (wH AM JM (by rfl) T.list v1 (dB (aA 0) dE))) dE))))
theorem OS(T:Txt K mg t):ax P w K mg base aQ 4 t.f_q11 t.fd_q11 ["mark"] (aY K 1 kl):=by
 have a:ax P w K mg base aQ 3 t.f_q21 t.fd_q21 ["path"] (aY K 1 d5):=rQ T;exact cZ (k:=3) (fs:=f_q11) rfl rfl rfl T.d_q11.F OB λd A c s H E B e=>(bx (cu (cQ (aD (cw a (e.mono (by decide)) (by rfl) T.d_q21.m T.d_q21.F.kp T.d_q21.b (aD (bz (aA 0) (az aH) (λ_ _=>rfl)) aR)) (aD (bz (aA 0) (az aH) (λ_ _=>rfl)) (aD (bz (aA 0) (az aH) (λ_ _=>rfl)) (aD (bz (aA 0) (az aH) (λ_ _=>rfl)) aR)))))))
theorem OT(T:Txt K mg t):ax P w K mg base aQ 6 t.f_q1b t.fd_q1b ["hands"] (kD K 1 qV):=by
 have a:ax P w K mg base aQ 1 t.f_q1a t.fd_q1a ["path"] (aY K 1 kN):=EN T;have c:ax P w K mg base aQ 4 t.f_q11 t.fd_q11 ["mark"] (aY K 1 kl):=OS T;exact BM (k:=5) (fs:=f_q1b) rfl rfl rfl T.d_q1b.F n5 λf A d s H E B e=>(CA (j:=1) [2,0,0,1] n5.nd rfl (cb rfl) (tQ yd rfl (gg (aE 0)) (b7 (i:=2) n5.nd rfl (cb rfl)) (by decide) (iy (by decide)) (tR (tQ yd rfl (gg (aE 2)) (lX rfl (dX (b7 (i:=3) n5.nd rfl (cb rfl)) (dX (b7 (i:=4) n5.nd rfl (cb rfl)) (dX (b7 (i:=5) n5.nd rfl (cb rfl)) (dX (b7 (i:=6) n5.nd rfl (cb rfl)) lW))))) (by decide) (xC (kK (iy (by decide)) (kK (iy (by decide)) (kK (iy (by decide)) (kK (iy (by decide)) xB))))) (tR (Cz e rfl (cQ (aD (cw a (e.mono (by decide)) (by rfl) T.d_q1a.m T.d_q1a.F.kp T.d_q1a.b (aD (aE 3) aR)) (aD (aE 4) (aD (aE 5) (aD (aE 6) aR)))))))))) rfl c (e.mono (by decide)).in2 (by rfl) T.sorted (by rfl) T.d_q11.m T.d_q11.b)
theorem OU(T:Txt K mg t):ax P w K mg base aQ 4 t.f_q14 t.fd_q14 ["see"] (aY K 1 kO):=by
 have a:ax P w K mg base aQ 3 t.f_q21 t.fd_q21 ["path"] (aY K 1 d5):=rQ T;exact cZ (k:=3) (fs:=f_q14) rfl rfl rfl T.d_q14.F OC λe A c s H E B d=>(bx (cu (cQ (aD (cw a (d.mono (by decide)) (by rfl) T.d_q21.m T.d_q21.F.kp T.d_q21.b (aD (bz (aA 0) (az aH) (λ_ _=>rfl)) aR)) (aD (bz (aA 0) (az aH) (λ_ _=>rfl)) (aD (cw a (d.mono (by decide)) (by rfl) T.d_q21.m T.d_q21.F.kp T.d_q21.b (aD (bz (aA 0) (az aH) (λ_ _=>rfl)) aR)) aR))))))
theorem zS(T:Txt K mg t):ax P w K mg base aQ 6 t.f_q8 t.fd_q8 ["hands"] (kD K 1 i5):=by
 have a:ax P w K mg base aQ 1 t.f_q1a t.fd_q1a ["path"] (aY K 1 kN):=EN T;have c:ax P w K mg base aQ 4 t.f_q14 t.fd_q14 ["see"] (aY K 1 kO):=OU T;exact BM (k:=5) (fs:=f_q8) rfl rfl rfl T.d_q8.F pJ λf A e s H E B d=>(CA (j:=1) [2,2,1] pJ.nd rfl (cb rfl) (tQ yd rfl (gg (aE 0)) (b7 (i:=2) pJ.nd rfl (cb rfl)) (by decide) (iy (by decide)) (tR (tQ yd rfl (gg (aE 2)) (lX rfl (dX (b7 (i:=3) pJ.nd rfl (cb rfl)) (dX (b7 (i:=4) pJ.nd rfl (cb rfl)) (dX (b7 (i:=5) pJ.nd rfl (cb rfl)) lW)))) (by decide) (xC (kK (iy (by decide)) (kK (iy (by decide)) (kK (iy (by decide)) xB)))) (tR (Cz d rfl (cQ (aD (cw a (d.mono (by decide)) (by rfl) T.d_q1a.m T.d_q1a.F.kp T.d_q1a.b (aD (aE 3) aR)) (aD (cw a (d.mono (by decide)) (by rfl) T.d_q1a.m T.d_q1a.F.kp T.d_q1a.b (aD (aE 4) aR)) (aD (aE 5) aR))))))))) rfl c (d.mono (by decide)).in2 (by rfl) T.sorted (by rfl) T.d_q14.m T.d_q14.b)
theorem EO(T:Txt K mg t):ax P w K mg base aQ 1 t.f_q1 t.fd_q1 ["ordered"] (aY K 1 nH):=by
 exact cZ (k:=0) (fs:=f_q1) rfl rfl rfl T.d_q1.F rN λ b A a s H E B c=>(CW (j:=1) rN.nd rfl (Or.inl rfl) (xM PassesOwn.never rfl (gg (aE 0)) (lX rfl (dX (b7 (i:=2) rN.nd rfl (Or.inl rfl)) (dX (b7 (i:=3) rN.nd rfl (Or.inl rfl)) (dX (b7 (i:=4) rN.nd rfl (Or.inl rfl)) lW)))) (by decide) (xC (kK (iy (by decide)) (kK (iy (by decide)) (kK (iy (by decide)) xB)))) (LS (xH o3 (xH o3 (xH o3 LR))))
   (tT (Mi (jS (dW (aE 4))) (tT (CU c rfl (aA 2) (aE 3) ⟨rfl,rfl,rfl,rfl⟩)) Mh))))
theorem EQ(T:Txt K mg t):ax P w K mg base aQ 1 t.f_q3 t.fd_q3 ["rows"] (aY K 1 nI):=by
 exact cZ (k:=0) (fs:=f_q3) rfl rfl rfl T.d_q3.F u0 λ b A a s H E B c=>(@aU _ _ _ _ _ _ (w6 (j:=1) u0.nd rfl (Or.inl rfl))
   (@aU _ _ _ _ _ _ (jE PassesOwn.never rfl (gg (aE 0)) (lX rfl (dX (b7 (i:=2) u0.nd rfl (Or.inl rfl)) (dX (b7 (i:=3) u0.nd rfl (Or.inl rfl)) lW))) (bx (tK (j:=1) c rfl (aA 2) (mO lP lT (az (hZ iT iU (by rfl) T.len iP (dB (aA 3) dE))) (az aH) (cO _)))))
   (xw 1 (bx (cu (aE 1))))))
theorem ER(T:Txt K mg t):ax P w K mg base aQ 5 t.f_qc t.fd_qc ["ring"] (aY K 1 nJ):=by
 have a:ax P w K mg base aQ 3 t.f_q21 t.fd_q21 ["path"] (aY K 1 d5):=rQ T
 exact cZ (k:=4) (fs:=f_qc) rfl rfl rfl T.d_qc.F EJ λ e A c s H E B d=>(@aU _ _ _ _ _ _ (@bO _ _ _ _ _ 1 _ _ EJ.nd rfl (Or.inl rfl) (mW PySem.F.plainAttrs_list PySem.F.slot_list_index PySem.F.type_list_index (tU LV d (by decide)) tW (aA 0) (dB (az (My rfl a (d.mono (by decide)).in1 (by rfl) T.min (by rfl) T.d_q21.m T.d_q21.b (aE 0))) dE)) rfl (.inl rfl))
   (bx (cu (bI cV cW (az (fJ (aA 0) (eS (aA 1)) f8)) (az (fJ (aA 0) f8 (eS (aA 1))))))))
theorem ES(T:Txt K mg t):ax P w K mg base aQ 3 t.f_q5 t.fd_q5 ["path","goal","also","has_pages","sent"] (aY K 5 ml):=by
 exact cZ (k:=2) (fs:=f_q5) rfl rfl rfl T.d_q5.F EI λ c A a s H E B b=>(@aU _ _ _ _ _ _ (cR (cz (eG b) eH (aA 1) (aA 0) (cO _)) (bx lD) cY)
   (@aU _ _ _ _ _ _ (cR (PW.pt (f7 (jS (dW (aE 2))) (hY (dW (tL b (aA 3) (aA 0) jR))))) (bx lD) cY)
   (bx (cR (PW.pt (f7 (jS (dW (aE 2))) (hY (cz lP lT (az (hZ iT iU (by rfl) T.len iP (dB (az (kG b (aA 4) (aA 0) (λ_ _=>rfl))) dE))) (az aH) (cO _))))) (bx lD) cY))))
theorem OV(T:Txt K mg t):ax P w K mg base (cG P w) 3 t.f_q5 t.fd_q5 ["path","goal","also","has_pages","sent"] (jX K 5 pe):=by
 exact wT (k:=2) (gs:=De) T.d_q5.F EI λ c A b s H E B a=>(iX (cR (cz (eG a) eH (aA 1) (aA 0) (cO _)) (bx lD) cY) (qC (cz (eG a) eH (aA 1) (aA 0) (cO _)) (l3 (ti rfl T.x_SentHere T.n_PageError T.n_SentHere T.lo_SentHere T.kp_SentHere (OO T) (a.mono (by decide)) (by rfl) T.m_SentHere T.bi_SentHere qA (by decide) (aD (aE 0) aR))) oJ)
   (iX (cR (PW.pt (f7 (jS (dW (aE 2))) (hY (dW (tL a (aA 3) (aA 0) jR))))) (bx lD) cY) (qC (PW.pt (f7 (jS (dW (aE 2))) (hY (dW (tL a (aA 3) (aA 0) jR))))) (l3 (ti rfl T.x_Both T.n_PageError T.n_Both T.lo_Both T.kp_Both (OL T) (a.mono (by decide)) (by rfl) T.m_Both T.bi_Both qA (by decide) (aD (aE 0) aR))) oJ)
   (l3 (qC (PW.pt (f7 (jS (dW (aE 2))) (hY (cz lP lT (az (hZ iT iU (by rfl) T.len iP (dB (az (kG a (aA 4) (aA 0) (λ_ _=>rfl))) dE))) (az aH) (cO _))))) (l3 (ti rfl T.x_TwoWays T.n_PageError T.n_TwoWays T.lo_TwoWays T.kp_TwoWays (OP T) (a.mono (by decide)) (by rfl) T.m_TwoWays T.bi_TwoWays qA (by decide) (aD (aE 0) aR))) oJ))))
theorem ET(T:Txt K mg t):ax P w K mg base aQ 1 t.f_q19 t.fd_q19 ["come"] (aY K 1 kP):=by
 exact cZ (k:=0) (fs:=f_q19) rfl rfl rfl T.d_q19.F OD λb A a s H E B c=>(bx (cu (fJ (aA 0) (eS (az (mW PySem.F.plainAttrs_list PySem.F.slot_list_index PySem.F.type_list_index (tU LV c (by decide)) tW (aA 0) (dB (az (bz (aA 0) (az (fB aH)) (λ_ _=>rfl))) dE)))) (eS (az (fB aH))))))
theorem EU(T:Txt K mg t):ax P w K mg base aQ 1 t.f_q7 t.fd_q7 ["goal","sent"] (aY K 2 nK):=by
 exact cZ (k:=0) (fs:=f_q7) rfl rfl rfl T.d_q7.F zK λ c A b s H E B a=>(@aU _ _ _ _ _ _ (m6 (i:=2) zK.nd rfl (Or.inl rfl) (mY (aD (aE 0) aR)))
   (@aU _ _ _ _ _ _ (w6 (j:=3) zK.nd rfl (Or.inl rfl))
   (@aU _ _ _ _ _ _ (BL (λ _=>1000) PassesOwn.never (PW.pt (f7 (cz (qi a) qj (az (bz (aA 2) (az (fB aH)) (λ _ _=>rfl))) (aA 1) (by with_unfolding_all rfl)) (hY (cz (ls a) lu (az (bz (aA 2) (az (fB aH)) (λ _ _=>rfl))) (aA 3) (by with_unfolding_all rfl))))) (@aU _ _ _ _ _ _ (tK (j:=3) a rfl (az (bz (aA 2) (az (fB aH)) (λ _ _=>rfl))) jR)
   (bx (m7 (i:=2) rfl (bz (az (kG a (aA 1) (az (bz (aA 2) (az (fB aH)) (λ_ _=>rfl))) (λ_ _=>rfl))) (az aH) (λ_ _=>rfl))))))
   (oF 2 (bx (cu (aE 2)))))))
theorem EV(T:Txt K mg t):ax P w K mg base aQ 6 t.f_qd t.fd_qd ["see","has_pages","sent"] (aY K 3 kr):=by
 have g:ax P w K mg base aQ 5 t.f_qc t.fd_qc ["ring"] (aY K 1 nJ):=ER T;have d:ax P w K mg base aQ 3 t.f_q5 t.fd_q5 ["path","goal","also","has_pages","sent"] (aY K 5 ml):=ES T;have a:ax P w K mg base aQ 1 t.f_q19 t.fd_q19 ["come"] (aY K 1 kP):=ET T;have e:ax P w K mg base aQ 1 t.f_q7 t.fd_q7 ["goal","sent"] (aY K 2 nK):=EU T
 exact cZ (k:=5) (fs:=f_qd) rfl rfl rfl T.d_qd.F iL λ h A f s H E B c=>(@aU _ _ _ _ _ _ (@bO _ _ _ _ _ 3 _ _ iL.nd rfl (Or.inl rfl) (bz (aA 0) (az aH) (λ _ _=>rfl)) rfl (.inl rfl))
   (@aU _ _ _ _ _ _ (@bO _ _ _ _ _ 4 _ _ iL.nd rfl (Or.inl rfl) (bz (aA 0) (az aH) (λ _ _=>rfl)) rfl (.inl rfl))
   (@aU _ _ _ _ _ _ (@bO _ _ _ _ _ 5 _ _ iL.nd rfl (Or.inl rfl) (bz (aA 0) (az aH) (λ _ _=>rfl)) rfl (.inl rfl))
   (@aU _ _ _ _ _ _ (wO (cw d (c.mono (by decide)) (by rfl) T.d_q5.m T.d_q5.F.kp T.d_q5.b (aD (aE 3) (aD (aE 4) (aD (aE 5) (aD (aE 1) (aD (aE 2) aR)))))))
   (@aU _ _ _ _ _ _ (@bO _ _ _ _ _ 6 _ _ iL.nd rfl (Or.inl rfl) (cw e (c.mono (by decide)) (by rfl) T.d_q7.m T.d_q7.F.kp T.d_q7.b (aD (aE 4) (aD (aE 2) aR))) rfl (.inl rfl))
   (@aU _ _ _ _ _ _ (@bO _ _ _ _ _ 7 _ _ iL.nd rfl (Or.inl rfl) (cw a (c.mono (by decide)) (by rfl) T.d_q19.m T.d_q19.F.kp T.d_q19.b (aD (aE 6) aR)) rfl (.inl rfl))
   (@aU _ _ _ _ _ _ (cR (cz lP lT (az (hZ iT iU (by rfl) T.len iP (dB (aA 7) dE))) (az aH) (cO _)) (bx lD) cY)
   (@aU _ _ _ _ _ _ (@bO _ _ _ _ _ 8 _ _ iL.nd rfl (Or.inl rfl) (bz (aA 6) (az (fB aH)) (λ _ _=>rfl)) rfl (.inl rfl))
   (@aU _ _ _ _ _ _ (cR (PW.pt (mQ (cz (ls c) lu (aA 8) (aA 1) (by with_unfolding_all rfl)) (mQ (PW.pt (f7 (dW (aE 5)) (hY (cz (ls c) lu (aA 3) (aA 1) (by with_unfolding_all rfl))))) (sM (cz (eG c) eH (aA 8) (aA 3) (cO _)))))) (bx lD) cY)
   (bx (cu (cQ (aD (aE 3) (aD (aE 4) (aD (aE 5) (aD (aE 8) (aD (hZ iT iU (by rfl) T.len iP (dB (aA 6) dE)) aR)))))))))))))))))
theorem OW(T:Txt K mg t):ax P w K mg base (cG P w) 6 t.f_qd t.fd_qd ["see","has_pages","sent"] (jX K 3 nL):=by
 have G_qc:ax P w K mg base aQ 5 t.f_qc t.fd_qc ["ring"] (aY K 1 nJ):=ER T;have G_q5:ax P w K mg base aQ 3 t.f_q5 t.fd_q5 ["path","goal","also","has_pages","sent"] (aY K 5 ml):=ES T;have G_q19:ax P w K mg base aQ 1 t.f_q19 t.fd_q19 ["come"] (aY K 1 kP):=ET T;have G_q7:ax P w K mg base aQ 1 t.f_q7 t.fd_q7 ["goal","sent"] (aY K 2 nK):=EU T;have GX_q5:ax P w K mg base (cG P w) 3 t.f_q5 t.fd_q5 ["path","goal","also","has_pages","sent"] (jX K 5 pe):=OV T
 exact wT (k:=5) (gs:=Dg) T.d_qd.F iL λ cdv A outer s H E B hr=>(iX (@bO _ _ _ _ _ 3 _ _ iL.nd rfl (Or.inl rfl) (bz (aA 0) (az aH) (λ _ _=>rfl)) rfl (.inl rfl)) ly
   (iX (@bO _ _ _ _ _ 4 _ _ iL.nd rfl (Or.inl rfl) (bz (aA 0) (az aH) (λ _ _=>rfl)) rfl (.inl rfl)) ly
   (iX (@bO _ _ _ _ _ 5 _ _ iL.nd rfl (Or.inl rfl) (bz (aA 0) (az aH) (λ _ _=>rfl)) rfl (.inl rfl)) ly
   (iX (wO (cw G_q5 (hr.mono (by decide)) (by rfl) T.d_q5.m T.d_q5.F.kp T.d_q5.b (aD (aE 3) (aD (aE 4) (aD (aE 5) (aD (aE 1) (aD (aE 2) aR))))))) (Kv (BP GX_q5 (hr.mono (by decide)) (by rfl) T.d_q5.m T.d_q5.F.kp T.d_q5.b Km (aD (aE 3) (aD (aE 4) (aD (aE 5) (aD (aE 1) (aD (aE 2) aR)))))))
   (iX (@bO _ _ _ _ _ 6 _ _ iL.nd rfl (Or.inl rfl) (cw G_q7 (hr.mono (by decide)) (by rfl) T.d_q7.m T.d_q7.F.kp T.d_q7.b (aD (aE 4) (aD (aE 2) aR))) rfl (.inl rfl)) ly
   (iX (@bO _ _ _ _ _ 7 _ _ iL.nd rfl (Or.inl rfl) (cw G_q19 (hr.mono (by decide)) (by rfl) T.d_q19.m T.d_q19.F.kp T.d_q19.b (aD (aE 6) aR)) rfl (.inl rfl)) ly
   (iX (cR (cz lP lT (az (hZ iT iU (by rfl) T.len iP (dB (aA 7) dE))) (az aH) (cO _)) (bx lD) cY) (qC (cz lP lT (az (hZ iT iU (by rfl) T.len iP (dB (aA 7) dE))) (az aH) (cO _)) (l3 (Mt rfl T.x_Ring T.n_PageError T.n_Ring T.lo_Ring T.kp_Ring (ON T) (hr.mono (by decide)) (by rfl) T.m_Ring T.bi_Ring qA (aD (cw G_qc (hr.mono (by decide)) (by rfl) T.d_qc.m T.d_qc.F.kp T.d_qc.b (aD (aE 7) aR)) aR))) oJ)
   (iX (@bO _ _ _ _ _ 8 _ _ iL.nd rfl (Or.inl rfl) (bz (aA 6) (az (fB aH)) (λ _ _=>rfl)) rfl (.inl rfl)) ly
   (l3 (qC (PW.pt (mQ (cz (ls hr) lu (aA 8) (aA 1) (by with_unfolding_all rfl)) (mQ (PW.pt (f7 (dW (aE 5)) (hY (cz (ls hr) lu (aA 3) (aA 1) (by with_unfolding_all rfl))))) (sM (cz (eG hr) eH (aA 8) (aA 3) (cO _)))))) (l3 (ti rfl T.x_Nowhere T.n_PageError T.n_Nowhere T.lo_Nowhere T.kp_Nowhere (OM T) (hr.mono (by decide)) (by rfl) T.m_Nowhere T.bi_Nowhere qA (by decide) (aD (aE 3) (aD (aE 4) aR)))) oJ))))))))))
theorem OX(T:Txt K mg t):ax P w K mg base aQ 7 t.f_q20 t.fd_q20 ["rows","sees"] (aY K 2 mq):=by
 have a:ax P w K mg base aQ 1 t.f_q1 t.fd_q1 ["ordered"] (aY K 1 nH):=EO T;have c:ax P w K mg base aQ 1 t.f_q3 t.fd_q3 ["rows"] (aY K 1 nI):=EQ T;have d:ax P w K mg base aQ 6 t.f_q8 t.fd_q8 ["hands"] (kD K 1 i5):=zS T;have e:ax P w K mg base aQ 6 t.f_qd t.fd_qd ["see","has_pages","sent"] (aY K 3 kr):=EV T
 exact cZ (k:=6) (fs:=f_q20) rfl rfl rfl T.d_q20.F mx λ h A g s H E B f=>(@aU _ _ _ _ _ _ (@bO _ _ _ _ _ 2 _ _ mx.nd rfl (Or.inl rfl) (jW (sY d (f.mono (by decide)) (by rfl) T.d_q8.m T.d_q8.F.kp T.d_q8.b (aD (@iQ _ _ _ _ _ (aD (aE 1) aR)) aR))) rfl (.inl rfl))
   (@aU _ _ _ _ _ _ (@bO _ _ _ _ _ 3 _ _ mx.nd rfl (Or.inr rfl) (cw c (f.mono (by decide)) (by rfl) T.d_q3.m T.d_q3.F.kp T.d_q3.b (aD (aE 0) aR)) rfl (.inl rfl))
   (@aU _ _ _ _ _ _ (@bO _ _ _ _ _ 4 _ _ mx.nd rfl (Or.inr rfl) (cw a (f.mono (by decide)) (by rfl) T.d_q1.m T.d_q1.F.kp T.d_q1.b (aD (aE 2) aR)) rfl (.inl rfl))
   (bx (cu (jW (sU rfl (vars:=["see"]) (cap:=[3,4]) (lh ["has_pages","sent"] rfl (by decide) (by decide) (by decide) (.cons (cb rfl) (.cons (cb rfl) .nil))) (lp (.cons (⟨bc (by rfl),bc (by rfl)⟩) (.cons (⟨bc (by rfl),bc (by rfl)⟩) .nil))) (by decide) (by decide) (lU (aA 2)) (λ_ _ _ _=>(b7 (i:=0) (show List.Nodup (["see","has_pages","sent"]:List Str) by decide) rfl (cb rfl))) (λ_ _ _ _=>mX) (λ_ _ _ _=>(cw e (f.mono (by decide)) (by rfl) T.d_qd.m T.d_qd.F.kp T.d_qd.b (aD (aE 0) (aD (aE 1) (aD (aE 2) aR))))))))))))
theorem OY(T:Txt K mg t):ax P w K mg base (cG P w) 7 t.f_q20 t.fd_q20 ["rows","sees"] (jX K 2 nM):=by
 have d:ax P w K mg base aQ 1 t.f_q1 t.fd_q1 ["ordered"] (aY K 1 nH):=EO T;have e:ax P w K mg base aQ 1 t.f_q3 t.fd_q3 ["rows"] (aY K 1 nI):=EQ T;have f:ax P w K mg base aQ 6 t.f_q8 t.fd_q8 ["hands"] (kD K 1 i5):=zS T;have g:ax P w K mg base aQ 6 t.f_qd t.fd_qd ["see","has_pages","sent"] (aY K 3 kr):=EV T;have a:ax P w K mg base (cG P w) 6 t.f_qd t.fd_qd ["see","has_pages","sent"] (jX K 3 nL):=OW T
 exact wT (k:=6) (gs:=Dh) T.d_q20.F mx λ j A h s H E B c=>(iX (@bO _ _ _ _ _ 2 _ _ mx.nd rfl (Or.inl rfl) (jW (sY f (c.mono (by decide)) (by rfl) T.d_q8.m T.d_q8.F.kp T.d_q8.b (aD (@iQ _ _ _ _ _ (aD (aE 1) aR)) aR))) rfl (.inl rfl)) ly
   (iX (@bO _ _ _ _ _ 3 _ _ mx.nd rfl (Or.inr rfl) (cw e (c.mono (by decide)) (by rfl) T.d_q3.m T.d_q3.F.kp T.d_q3.b (aD (aE 0) aR)) rfl (.inl rfl)) ly
   (iX (@bO _ _ _ _ _ 4 _ _ mx.nd rfl (Or.inr rfl) (cw d (c.mono (by decide)) (by rfl) T.d_q1.m T.d_q1.F.kp T.d_q1.b (aD (aE 2) aR)) rfl (.inl rfl)) ly
   (l3 (Kw (Mp rfl ⟨rfl,rfl⟩ rfl Mo (vars:=["see"]) (cap:=[3,4]) (lh ["has_pages","sent"] rfl (by decide) (by decide) (by decide) (.cons (cb rfl) (.cons (cb rfl) .nil))) (lp (.cons (⟨bc (by rfl),bc (by rfl)⟩) (.cons (⟨bc (by rfl),bc (by rfl)⟩) .nil))) (by decide) (by decide) (lU (aA 2)) (λ_ _ _ _=>(b7 (i:=0) (show List.Nodup (["see","has_pages","sent"]:List Str) by decide) rfl (cb rfl))) (λ_ _ _ _=>(cw g (c.mono (by decide)) (by rfl) T.d_qd.m T.d_qd.F.kp T.d_qd.b (aD (aE 0) (aD (aE 1) (aD (aE 2) aR))))) (λ_ _ _ _=>(BP a (c.mono (by decide)) (by rfl) T.d_qd.m T.d_qd.F.kp T.d_qd.b Mn (aD (aE 0) (aD (aE 1) (aD (aE 2) aR)))))))))))
theorem OZ(T:Txt K mg t):ax P w K mg base aQ 1 t.f_q1d t.fd_q1d ["book","most","first"] (aY K 3 ur):=by
 exact cZ (k:=0) (fs:=f_q1d) rfl rfl rfl T.d_q1d.F my λ b A a s H E B c=>(@aU _ _ _ _ _ _ (m6 (i:=3) my.nd rfl (Or.inl rfl) (mY aR))
   (@aU _ _ _ _ _ _ (@bO _ _ _ _ _ 4 _ _ my.nd rfl (Or.inl rfl) (aE 2) rfl (.inl rfl))
   (@aU _ _ _ _ _ _ (@bO _ _ _ _ _ 5 _ _ my.nd rfl (Or.inl rfl) aH rfl (.inl rfl))
   (@aU _ _ _ _ _ _ (jE PassesOwn.never rfl (gg (aE 0)) (b7 (i:=6) my.nd rfl (Or.inl rfl)) (@aU _ _ _ _ _ _ (cR (PW.pt (f7 (cz lP lT (aA 5) (az aH) (cO _)) (hY (PW.pt (mQ (dW (aE 6)) (sM (cz Ht JB (aA 5) (aA 1) (cO _)))))))) (@aU _ _ _ _ _ _ (@bO _ _ _ _ _ 4 _ _ my.nd rfl (Or.inl rfl) (bI cV cW (aA 4) (az aH)) rfl (.inl rfl))
   (bx (@bO _ _ _ _ _ 5 _ _ my.nd rfl (cb rfl) aH rfl (.inl rfl)))) cY)
   (@aU _ _ _ _ _ _ (@bO _ _ _ _ _ 5 _ _ my.nd rfl (Or.inl rfl) (bI cV cW (aA 5) (az aH)) rfl (.inl rfl))
   (bx (m7 (i:=3) rfl (aE 4))))))
   (oF 3 (bx (cu (aE 3))))))))
theorem O0(T:Txt K mg t):ax P w K mg base aQ 1 t.f_q18 t.fd_q18 ["stretch","page","is_strong"] (aY K 3 pk):=by
 exact cZ (k:=0) (fs:=f_q18) rfl rfl rfl T.d_q18.F OE λc A a s H E B b=>(bx (cu (Bi (mO (eG b) eH (az (bI cV cW (az (bz (aA 0) (az aH) (λ_ _=>rfl))) (az aH))) (aA 1) (cO _)) (wA (mO (eG b) eH (az (bz (aA 0) (az aH) (λ_ _=>rfl))) (aA 2) (cO _))))))
theorem O1(T:Txt K mg t):ax P w K mg base aQ 1 t.f_q0 t.fd_q0 ["numbers","marks"] (aY K 2 ut):=by
 exact cZ (k:=0) (fs:=f_q0) rfl rfl rfl T.d_q0.F n6 λ c A a s H E B b=>(@aU _ _ _ _ _ _ (KY (j:=2) n6.nd rfl (Or.inl rfl))
   (@aU _ _ _ _ _ _ (jE PassesOwn.never rfl (gg (aE 1)) (lX rfl (dX (b7 (i:=3) n6.nd rfl (Or.inl rfl)) (dX (b7 (i:=4) n6.nd rfl (Or.inl rfl)) (dX (b7 (i:=5) n6.nd rfl (Or.inl rfl)) (dX (b7 (i:=6) n6.nd rfl (Or.inl rfl)) lW))))) (bx (jE PassesOwn.never rfl (gg (fJ (aA 0) (eS (aA 4)) (eS (az (bI cV cW (aA 5) (az aH)))))) (b7 (i:=7) n6.nd rfl (Or.inl rfl)) (bx (tK (j:=2) b rfl (aA 7) (Jt (aE 6) (wA (tL b (aA 2) (aA 7) jR))))))))
   (xw 2 (bx (cu (aE 2))))))
theorem O2(T:Txt K mg t):ax P w K mg base aQ 2 t.f_qe t.fd_qe ["numbers","marks"] (aY K 2 uu):=by
 have a:ax P w K mg base aQ 1 t.f_q18 t.fd_q18 ["stretch","page","is_strong"] (aY K 3 pk):=O0 T;have d:ax P w K mg base aQ 1 t.f_q0 t.fd_q0 ["numbers","marks"] (aY K 2 ut):=O1 T
 exact cZ (k:=1) (fs:=f_qe) rfl rfl rfl T.d_qe.F u1 λ f A e s H E B c=>(@aU _ _ _ _ _ _ (@bO _ _ _ _ _ 2 _ _ u1.nd rfl (Or.inl rfl) (cw d (c.mono (by decide)) (by rfl) T.d_q0.m T.d_q0.F.kp T.d_q0.b (aD (aE 0) (aD (aE 1) aR))) rfl (.inl rfl))
   (@aU _ _ _ _ _ _ (m6 (i:=3) u1.nd rfl (Or.inl rfl) (mY aR))
   (@aU _ _ _ _ _ _ (jE PassesOwn.never rfl (gg (jW (K6 rfl (by rfl) T.sorted (dB (aA 2) dE)))) (b7 (i:=4) u1.nd rfl (Or.inl rfl)) (bx (cR (PW.pt (f7 (cz lP lT (az (hZ iT iU (by rfl) T.len iP (dB (aA 3) dE))) (az aH) (cO _)) (hY (dW (cw a (c.mono (by decide)) (by rfl) T.d_q18.m T.d_q18.F.kp T.d_q18.b (aD (bz (aA 3) (az (fB aH)) (λ _ _=>rfl)) (aD (aE 4) (aD (kG c (aA 2) (aA 4) (λ _ _=>rfl)) aR)))))))) (bx (K7 (j:=3) rfl (az (fB aH)) (cQ (aD (bz (az (bz (aA 3) (az (fB aH)) (λ _ _=>rfl))) (az aH) (λ _ _=>rfl)) (aD (aE 4) (aD (kG c (aA 2) (aA 4) (λ _ _=>rfl)) aR)))))) (bx (m7 (i:=3) rfl (cQ (aD (aE 4) (aD (aE 4) (aD (kG c (aA 2) (aA 4) (λ _ _=>rfl)) aR)))))))))
   (oF 3 (bx (cu (aE 3)))))))
theorem O3(T:Txt K mg t):ax P w K mg base aQ 1 t.f_q2 t.fd_q2 ["ordered"] (aY K 1 uv):=by
 exact cZ (k:=0) (fs:=f_q2) rfl rfl rfl T.d_q2.F rO λ c A a s H E B b=>(CW (j:=1) rO.nd rfl (Or.inl rfl) (xM PassesOwn.never rfl (gg (aE 0)) (b7 (i:=2) rO.nd rfl (Or.inl rfl)) (by decide) (iy (by decide)) o3
   (CV (Mj (i:=3) (by decide) rO.nd rfl (Or.inl rfl) (bz (aA 2) (az aH) (λ _ _=>rfl)))
   (CV (xM PassesOwn.never rfl (JZ (by rfl) T.range (dB (az aH) (dB (az (hZ iT iU (by rfl) T.len iP (dB (aA 3) dE))) dE))) (b7 (i:=4) rO.nd rfl (Or.inl rfl)) (by decide) (iy (by decide)) o3
   (tT (Mg b rfl (az (fJ (aA 3) f8 (eS (aA 4)))) ⟨rfl,rfl,rfl,rfl⟩)))
   (tT (CU b rfl (aA 3) (aE 2) ⟨rfl,rfl,rfl,rfl⟩))))))
theorem O4(T:Txt K mg t):ax P w K mg base aQ 3 t.f_q4 t.fd_q4 ["ordered","many"] (aY K 2 uw):=by
 have a:ax P w K mg base aQ 1 t.f_q1f t.fd_q1f ["mark","many"] (aY K 2 qU):=OR T;exact cZ (k:=2) (fs:=f_q4) rfl rfl rfl T.d_q4.F EK λd A c s H E B e=>(bx (jE yd rfl (gg (aE 0)) (b7 (i:=2) EK.nd rfl (cb rfl)) (bx (cR (jS (dW (cw a (e.mono (by decide)) (by rfl) T.d_q1f.m T.d_q1f.F.kp T.d_q1f.b (aD (aE 2) (aD (aE 1) aR))))) (bx lD) cY))))
theorem O5(T:Txt K mg t):ax P w K mg base aQ 8 t.f_q16 t.fd_q16 ["book","most","first","marks"] (aY K 4 ux):=by
 have f:ax P w K mg base aQ 1 t.f_q2 t.fd_q2 ["ordered"] (aY K 1 uv):=O3 T;have c:ax P w K mg base aQ 1 t.f_q1d t.fd_q1d ["book","most","first"] (aY K 3 ur):=OZ T;have d:ax P w K mg base aQ 6 t.f_q1b t.fd_q1b ["hands"] (kD K 1 qV):=OT T;have e:ax P w K mg base aQ 3 t.f_q21 t.fd_q21 ["path"] (aY K 1 d5):=rQ T;have g:ax P w K mg base aQ 3 t.f_q4 t.fd_q4 ["ordered","many"] (aY K 2 uw):=O4 T;have h:ax P w K mg base aQ 2 t.f_qe t.fd_qe ["numbers","marks"] (aY K 2 uu):=O2 T
 exact cZ (k:=7) (fs:=f_q16) rfl rfl rfl T.d_q16.F u3 λ l A j s H E B a=>(@aU _ _ _ _ _ _ (@bO _ _ _ _ _ 4 _ _ u3.nd rfl (Or.inl rfl) (jW (sY d (a.mono (by decide)) (by rfl) T.d_q1b.m T.d_q1b.F.kp T.d_q1b.b (aD (@iQ _ _ _ _ _ (aD (aE 3) aR)) aR))) rfl (.inl rfl))
   (@aU _ _ _ _ _ _ (wO (cw g (a.mono (by decide)) (by rfl) T.d_q4.m T.d_q4.F.kp T.d_q4.b (aD (aE 4) (aD (hZ iT iU (by rfl) T.len iP (dB (aA 0) dE)) aR))))
   (@aU _ _ _ _ _ _ (@bO _ _ _ _ _ 5 _ _ u3.nd rfl (Or.inr rfl) (cw c (a.mono (by decide)) (by rfl) T.d_q1d.m T.d_q1d.F.kp T.d_q1d.b (aD (aE 0) (aD (aE 1) (aD (aE 2) aR)))) rfl (.inl rfl))
   (@aU _ _ _ _ _ _ (@bO _ _ _ _ _ 6 _ _ u3.nd rfl (Or.inr rfl) (cw f (a.mono (by decide)) (by rfl) T.d_q2.m T.d_q2.F.kp T.d_q2.b (aD (aE 4) aR)) rfl (.inl rfl))
   (bx (cu (jW (sU rfl (vars:=["path"]) (cap:=[5,6]) (lh ["numbers","found"] rfl (by decide) (by decide) (by decide) (.cons (cb rfl) (.cons (cb rfl) .nil))) (lp (.cons (⟨bc (by rfl),bc (by rfl)⟩) (.cons (⟨bc (by rfl),bc (by rfl)⟩) .nil))) (by decide) (by decide) (lU (az (jW (Ma rfl e (a.mono (by decide)).in2 (by rfl) T.sorted (by rfl) T.d_q21.m T.d_q21.b (aA 6))))) (λ_ _ _ _=>(b7 (i:=0) (show List.Nodup (["path","numbers","found"]:List Str) by decide) rfl (cb rfl))) (λ_ _ _ _=>mX) (λ_ _ _ _=>(cQ (aD (aE 0) (aD (cw h (a.mono (by decide)) (by rfl) T.d_qe.m T.d_qe.F.kp T.d_qe.b (aD (aE 1) (aD (kG a (aA 2) (aA 0) (λ_ _=>rfl)) aR))) aR))))))))))))
theorem O6(T:Txt K mg t):ax P w K mg base aQ 1 t.f_q6 t.fd_q6 ["_law_script","_law_k"] (aY K 2 nP):=by
 exact cZ (k:=0) (fs:=f_q6) rfl rfl rfl T.d_q6.F OF λ b A a s H E B c=>(@aU _ _ _ _ _ _ (cR (cz (JD c) JE (aA 1) (az (hZ iT iU (by rfl) T.len iP (dB (aA 0) dE))) (cO _)) (bx (cu (bz (aA 0) (aA 1) (λ _ _=>rfl)))) cY)
   (bx (cu aH)))
theorem O7(T:Txt K mg t):ax P w K mg base aQ 1 t.f_q9 t.fd_q9 ["_law_cell","_law_k"] (aY K 2 pu):=by
 exact cZ (k:=0) (fs:=f_q9) rfl rfl rfl T.d_q9.F jP λ c A b s H E B a=>(@aU _ _ _ _ _ _ (@bO _ _ _ _ _ 2 _ _ jP.nd rfl (Or.inl rfl) (en (l:=SG) (by decide)) rfl (.inl rfl))
   (@aU _ _ _ _ _ _ (@bO _ _ _ _ _ 3 _ _ jP.nd rfl (Or.inl rfl) (en (l:=[]) (by decide)) rfl (.inl rfl))
   (@aU _ _ _ _ _ _ (jE PassesOwn.never rfl (wL (by rfl) T.range (dB (az (bI cV cW (az aH) (az (bI gH gR (aA 0) (az aH))))) dE)) (b7 (i:=4) jP.nd rfl (Or.inl rfl)) (bx (@bO _ _ _ _ _ 3 _ _ jP.nd rfl (Or.inl rfl) (bI cV cW (aA 3) (az (bz (aA 2) (az (bI gH gR (az (bI cV cW (az (bI jw jC (aA 0) (az (bI cV cW (aA 4) (az aH))))) (az (bI qt sP (az (bI qt sP (az aH) (aA 4))) (aA 4))))) (az aH))) (λ _ _=>rfl)))) rfl (.inl rfl))))
   (@aU _ _ _ _ _ _ (@bO _ _ _ _ _ 5 _ _ jP.nd rfl (Or.inl rfl) (bI gH gR (az (bI jw jC (aA 0) (az aH))) (az (bI cV cW (az (hZ iT iU (by rfl) T.len iP (dB (aA 3) dE))) (az aH)))) rfl (.inl rfl))
   (@aU _ _ _ _ _ _ (@bO _ _ _ _ _ 6 _ _ jP.nd rfl (Or.inl rfl) (bI cV cW (az (bI cV cW (az (fJ (aA 3) f8 (eS (aA 5)))) (az (wH F9 K8 (by rfl) T.str AV (dB (az (bI jw jC (aA 1) (az aH))) dE))))) (az (fJ (aA 3) (eS (aA 5)) f8))) rfl (.inl rfl))
   (@aU _ _ _ _ _ _ (@bO _ _ _ _ _ 7 _ _ jP.nd rfl (Or.inl rfl) (bI gH gR (az (bI cV cW (az (bI jw jC (aA 0) (az aH))) (az (bI jw jC (aA 1) (az aH))))) (az aH)) rfl (.inl rfl))
   (@aU _ _ _ _ _ _ (cR (cz (eG a) eH (aA 7) (az aH) (cO _)) (bx (@bO _ _ _ _ _ 6 _ _ jP.nd rfl (Or.inl rfl) (bI cV cW (az (bI cV cW (aA 6) (az (en (l:=[124]) (by decide))))) (aA 3)) rfl (.inl rfl))) cY)
   (@aU _ _ _ _ _ _ (cR (cz (eG a) eH (aA 7) (az aH) (cO _)) (bx (@bO _ _ _ _ _ 6 _ _ jP.nd rfl (Or.inl rfl) (bI cV cW (az (bI cV cW (az (bI cV cW (az (bI cV cW (aA 6) (az (en (l:=[124]) (by decide))))) (az (fJ (aA 3) f8 (eS (az aH)))))) (az (en (l:=[32]) (by decide))))) (az (fJ (aA 3) f8 (eS (az aH))))) rfl (.inl rfl))) cY)
   (@aU _ _ _ _ _ _ (cR (cz (eG a) eH (aA 7) (az aH) (cO _)) (bx (@bO _ _ _ _ _ 6 _ _ jP.nd rfl (Or.inl rfl) (bI cV cW (az (bI cV cW (aA 3) (az (en (l:=[32]) (by decide))))) (aA 6)) rfl (.inl rfl))) cY)
   (@aU _ _ _ _ _ _ (cR (cz (eG a) eH (aA 7) (az aH) (cO _)) (bx (@bO _ _ _ _ _ 6 _ _ jP.nd rfl (Or.inl rfl) (bI cV cW (az (en (l:=[45]) (by decide))) (aA 6)) rfl (.inl rfl))) cY)
   (@aU _ _ _ _ _ _ (cR (cz (eG a) eH (az (bI gH gR (aA 1) (az aH))) (az aH) (cO _)) (bx (cu (bI cV cW (aA 6) (az (en (l:=[45]) (by decide)))))) cY)
   (bx (cu (aE 6))))))))))))))
theorem O8(T:Txt K mg t):ax P w K mg base aQ 2 t.f_qf t.fd_qf ["_law_by"] (aY K 1 uy):=by
 have a:ax P w K mg base aQ 1 t.f_q9 t.fd_q9 ["_law_cell","_law_k"] (aY K 2 pu):=O7 T
 exact cZ (k:=1) (fs:=f_qf) rfl rfl rfl T.d_qf.F zL λ d A c s H E B e=>(@aU _ _ _ _ _ _ (sX (i:=1) zL.nd rfl rfl rfl (vars:=["_law_k"]) (cap:=[0]) (lh ["_law_by"] rfl (by decide) (by decide) (by decide) (.cons (Or.inl rfl) .nil)) (lp (.cons (⟨of_decide_eq_true (by rfl),of_decide_eq_true (by rfl)⟩) .nil)) (by decide) (by decide) (JX (wL (by rfl) T.range (dB (az aH) dE))) (λ _ _ _ _=>(b7 (i:=0) (show List.Nodup (["_law_k","_law_by"]:List Str) by decide) rfl (Or.inl rfl))) (λ _ _ _ _=>mX) (λ _ _ _ _=>(cw a (e.mono (by decide)) (by rfl) T.d_q9.m T.d_q9.F.kp T.d_q9.b (aD (aE 1) (aD (aE 0) aR)))))
   (@aU _ _ _ _ _ _ (@bO _ _ _ _ _ 2 _ _ zL.nd rfl (Or.inl rfl) (@iQ _ _ _ _ _ (aD (cQ (aD (bz (aA 1) (@az _ _ _ _ aH) (λ _ _=>rfl)) aR)) (aD (cQ (aD (bz (aA 1) (@az _ _ _ _ aH) (λ _ _=>rfl)) aR)) (aD (cQ (aD (bz (aA 1) (@az _ _ _ _ aH) (λ _ _=>rfl)) (aD (bz (aA 1) (@az _ _ _ _ aH) (λ _ _=>rfl)) aR))) (aD (cQ (aD (bz (aA 1) (@az _ _ _ _ aH) (λ _ _=>rfl)) aR)) (aD (cQ (aD (bz (aA 1) (@az _ _ _ _ aH) (λ _ _=>rfl)) (aD (bz (aA 1) (@az _ _ _ _ aH) (λ _ _=>rfl)) aR))) (aD (cQ (aD (bz (aA 1) (@az _ _ _ _ aH) (λ _ _=>rfl)) aR)) aR))))))) rfl (.inl rfl))
   (@bx _ _ _ _ (@cu _ _ _ _ _ (@bI _ _ _ _ _ _ _ _ _ _ cV cW (aA 2) (@az _ _ _ _ (@iQ _ _ _ _ _ (aD (cQ (aD (bz (aA 1) (@az _ _ _ _ aH) (λ_ _=>rfl)) (aD (bz (aA 1) (@az _ _ _ _ aH) (λ_ _=>rfl)) (aD (bz (aA 1) (@az _ _ _ _ aH) (λ_ _=>rfl)) aR)))) (aD (cQ (aD (bz (aA 1) (@az _ _ _ _ aH) (λ_ _=>rfl)) (aD (bz (aA 1) (@az _ _ _ _ aH) (λ_ _=>rfl)) aR))) (aD (cQ (aD (bz (aA 1) (@az _ _ _ _ aH) (λ_ _=>rfl)) aR)) (aD (cQ (aD (bz (aA 1) (@az _ _ _ _ aH) (λ_ _=>rfl)) (aD (bz (aA 1) (@az _ _ _ _ aH) (λ_ _=>rfl)) aR))) aR)))))))))))
theorem O9(T:Txt K mg t):ax P w K mg base aQ 1 t.f_q13 t.fd_q13 ["_law_cells","_law_paths_here","_law_most"] (aY K 3 uz):=by
 exact cZ (k:=0) (fs:=f_q13) rfl rfl rfl T.d_q13.F u4 λ b A a s H E B c=>(@aU _ _ _ _ _ _ (m6 (i:=3) u4.nd rfl (Or.inl rfl) (mY aR))
   (@aU _ _ _ _ _ _ (jE PassesOwn.never rfl (gg (fJ (aA 0) f8 (eS (aA 2)))) (b7 (i:=4) u4.nd rfl (Or.inl rfl)) (@aU _ _ _ _ _ _ (@bO _ _ _ _ _ 5 _ _ u4.nd rfl (Or.inl rfl) (bI gH gR (az (bI qt sP (aA 4) (az aH))) (az aH)) rfl (.inl rfl))
   (bx (m7 (i:=3) rfl (cQ (aD (bz (aA 1) (az (bI gH gR (aA 5) (az aH))) (λ_ _=>rfl)) (aD (bz (aA 1) (az (bI gH gR (az (bI jw jC (aA 5) (az aH))) (az aH))) (λ_ _=>rfl)) (aD (mO (eG c) eH (az (bI gH gR (az (bI jw jC (aA 5) (az aH))) (az aH))) (az aH) (cO _)) aR))))))))
   (oF 3 (bx (cu (aE 3))))))
theorem Pb(T:Txt K mg t):ax P w K mg base aQ 1 t.f_qa t.fd_qa ["_law_sees_here"] (aY K 1 qW):=by
 exact cZ (k:=0) (fs:=f_qa) rfl rfl rfl T.d_qa.F rP λ c A a s H E B b=>(@aU _ _ _ _ _ _ (w6 (j:=1) rP.nd rfl (Or.inl rfl))
   (@aU _ _ _ _ _ _ (jE PassesOwn.never rfl (gg (aE 0)) (lX rfl (dX (b7 (i:=2) rP.nd rfl (Or.inl rfl)) (dX (b7 (i:=3) rP.nd rfl (Or.inl rfl)) (dX (b7 (i:=4) rP.nd rfl (Or.inl rfl)) lW)))) (bx (cR (PW.pt (f7 (jS (dW (aE 4))) (hY (cz (ls b) lu (aA 2) (aA 1) (by with_unfolding_all rfl))))) (bx (tK (j:=1) b rfl (aA 2) (aE 3))) cY)))
   (xw 1 (bx (cu (aE 1))))))
theorem Pc(T:Txt K mg t):ax P w K mg base aQ 1 t.f_q17 t.fd_q17 ["_law_see","_law_sees_here"] (aY K 2 qX):=by
 exact cZ (k:=0) (fs:=f_q17) rfl rfl rfl T.d_q17.F u5 λ c A a s H E B b=>(@aU _ _ _ _ _ _ (jE PassesOwn.never rfl (gg (aE 1)) (lX rfl (dX (b7 (i:=2) u5.nd rfl (Or.inl rfl)) (dX (b7 (i:=3) u5.nd rfl (Or.inl rfl)) (dX (b7 (i:=4) u5.nd rfl (Or.inl rfl)) lW)))) (bx (cR (PW.pt (f7 (jS (dW (aE 4))) (f7 (jS (dW (bz (aA 0) (az aH) (λ _ _=>rfl)))) (f7 (cz (eG b) eH (aA 2) (az (bz (aA 0) (az aH) (λ _ _=>rfl))) (cO _)) (hY (cz (wC b) wD (aA 3) (az (bz (aA 0) (az aH) (λ _ _=>rfl))) (cO _))))))) (bx (cu jR)) cY)))
   (bx (cu jR)))
theorem Pd(T:Txt K mg t):ax P w K mg base aQ 4 t.f_q12 t.fd_q12 ["_law_way","_law_goal"] (aY K 2 qY):=by
 have a:ax P w K mg base aQ 3 t.f_q21 t.fd_q21 ["path"] (aY K 1 d5):=rQ T
 exact cZ (k:=3) (fs:=f_q12) rfl rfl rfl T.d_q12.F u7 λ e A d s H E B c=>(@aU _ _ _ _ _ _ (@bO _ _ _ _ _ 2 _ _ u7.nd rfl (Or.inl rfl) (fJ (aA 0) (eS (az (mW PySem.F.plainAttrs_list PySem.F.slot_list_index PySem.F.type_list_index (tU LV c (by decide)) tW (aA 0) (dB (aA 1) dE)))) f8) rfl (.inl rfl))
   (@aU _ _ _ _ _ _ (sX (i:=3) u7.nd rfl rfl rfl (vars:=["_law_path"]) (cap:=[]) (lh [] rfl (by decide) (by decide) (by decide) .nil) (lp .nil) (by decide) (by decide) (lU (aA 2)) (λ _ _ _ _=>(b7 (i:=0) (show List.Nodup (["_law_path"]:List Str) by decide) rfl (Or.inl rfl))) (λ _ _ _ _=>mX) (λ _ _ _ _=>(cw a (c.mono (by decide)) (by rfl) T.d_q21.m T.d_q21.F.kp T.d_q21.b (aD (aE 0) aR))))
   (@aU _ _ _ _ _ _ (@bO _ _ _ _ _ 4 _ _ u7.nd rfl (Or.inl rfl) (mW PySem.F.plainAttrs_list PySem.F.slot_list_index PySem.F.type_list_index (tU LV c (by decide)) tW (aA 3) (dB (az (hZ (Mw rfl c) Mx (by rfl) T.min AU (dB (aA 3) dE))) dE)) rfl (.inl rfl))
   (bx (cu (cQ (aD (en (l:=[114,105,110,103]) (by decide)) (aD (bI cV cW (az (fJ (aA 2) (eS (aA 4)) f8)) (az (fJ (aA 2) f8 (eS (aA 4))))) aR))))))))
theorem Pe(T:Txt K mg t):ax P w K mg base aQ 5 t.f_q15 t.fd_q15 ["_law_see","_law_sees_here","_law_there","_law_full"] (aY K 4 nQ):=by
 have e:ax P w K mg base aQ 1 t.f_qa t.fd_qa ["_law_sees_here"] (aY K 1 qW):=Pb T;have c:ax P w K mg base aQ 4 t.f_q12 t.fd_q12 ["_law_way","_law_goal"] (aY K 2 qY):=Pd T;have d:ax P w K mg base aQ 1 t.f_q17 t.fd_q17 ["_law_see","_law_sees_here"] (aY K 2 qX):=Pc T
 exact cZ (k:=4) (fs:=f_q15) rfl rfl rfl T.d_q15.F pL λ g A f s H E B a=>(@aU _ _ _ _ _ _ (J2 (aE 0) (lX rfl (dX (b7 (i:=4) pL.nd rfl (Or.inl rfl)) (dX (b7 (i:=5) pL.nd rfl (Or.inl rfl)) (dX (b7 (i:=6) pL.nd rfl (Or.inl rfl)) lW)))))
   (@aU _ _ _ _ _ _ (cR (cz (eG a) eH (aA 4) (aA 5) (cO _)) (bx (cu (cQ (aD (en (l:=[104,101,114,101]) (by decide)) (aD (aE 4) aR))))) cY)
   (@aU _ _ _ _ _ _ (cR (PW.pt (f7 (jS (dW (aE 6))) (hY (cz (qi a) qj (aA 4) (aA 3) (by with_unfolding_all rfl))))) (bx (cu (cQ (aD (en (l:=[98,111,116,104]) (by decide)) (aD (aE 4) aR))))) cY)
   (@aU _ _ _ _ _ _ (cR (dW (cw d (a.mono (by decide)) (by rfl) T.d_q17.m T.d_q17.F.kp T.d_q17.b (aD (aE 0) (aD (aE 1) aR)))) (bx (cu (cQ (aD (en (l:=[116,119,111]) (by decide)) (aD (aE 4) aR))))) cY)
   (@aU _ _ _ _ _ _ (@bO _ _ _ _ _ 7 _ _ pL.nd rfl (Or.inl rfl) (cw e (a.mono (by decide)) (by rfl) T.d_qa.m T.d_qa.F.kp T.d_qa.b (aD (aE 1) aR)) rfl (.inl rfl))
   (@aU _ _ _ _ _ _ (m6 (i:=8) pL.nd rfl (Or.inl rfl) (mY (aD (aE 5) aR)))
   (@aU _ _ _ _ _ _ (BL (λ _=>1000) PassesOwn.never (cz (qi a) qj (az (bz (aA 8) (az (fB aH)) (λ _ _=>rfl))) (aA 7) (by with_unfolding_all rfl)) (@aU _ _ _ _ _ _ (cR (cz (qi a) qj (az (kG a (aA 7) (az (bz (aA 8) (az (fB aH)) (λ _ _=>rfl))) (λ _ _=>rfl))) (aA 8) (by with_unfolding_all rfl)) (oF 8 (bx (cu (cw c (a.mono (by decide)) (by rfl) T.d_q12.m T.d_q12.F.kp T.d_q12.b (aD (aE 8) (aD (kG a (aA 7) (az (bz (aA 8) (az (fB aH)) (λ _ _=>rfl))) (λ _ _=>rfl)) aR)))))) cY)
   (bx (m7 (i:=8) rfl (kG a (aA 7) (az (bz (aA 8) (az (fB aH)) (λ_ _=>rfl))) (λ_ _=>rfl))))))
   (@aU _ _ _ _ _ _ (cR (PW.pt (mQ (cz (ls a) lu (az (bz (aA 8) (az (fB aH)) (λ _ _=>rfl))) (aA 2) (by with_unfolding_all rfl)) (mQ (PW.pt (f7 (dW (aE 6)) (hY (cz (ls a) lu (aA 4) (aA 2) (by with_unfolding_all rfl))))) (sM (cz (eG a) eH (az (bz (aA 8) (az (fB aH)) (λ _ _=>rfl))) (aA 4) (cO _)))))) (bx (cu (cQ (aD (en (l:=[110,111,119,104,101,114,101]) (by decide)) (aD (aE 4) (aD (aE 5) aR)))))) cY)
   (bx (cu (cQ (aD (aE 4) (aD (aE 5) (aD (aE 6) (aD (bz (aA 8) (az (fB aH)) (λ_ _=>rfl)) (aD (hZ iT iU (by rfl) T.len iP (dB (aA 8) dE)) aR))))))))))))))))
theorem Pf(T:Txt K mg t):ax P w K mg base aQ 8 t.f_qb t.fd_qb ["_law_rows","_law_sees_here"] (aY K 2 mr):=by
 have G_q20:ax P w K mg base aQ 7 t.f_q20 t.fd_q20 ["rows","sees"] (aY K 2 mq):=OX T;have GX_q20:ax P w K mg base (cG P w) 7 t.f_q20 t.fd_q20 ["rows","sees"] (jX K 2 nM):=OY T
 exact cZ (k:=7) (fs:=f_qb) rfl rfl rfl T.d_qb.F pM λ cdv A outer s H E B hr=>(@aU _ _ _ _ _ _ (@bO _ _ _ _ _ 2 _ _ pM.nd rfl (Or.inl rfl) sK rfl (.inl rfl))
   (@aU _ _ _ _ _ _ (@bO _ _ _ _ _ 3 _ _ pM.nd rfl (Or.inl rfl) sK rfl (.inl rfl))
   (@aU _ _ _ _ _ _ (KA (m:=3) (i:=2) (j:=4) G_q20 GX_q20 (hr.mono (by decide)) (by rfl) T.d_q20.m T.d_q20.F.kp T.d_q20.b (by rfl) ⟨rfl,rfl⟩ pM.nd rfl rfl rfl rfl rfl rfl (λ _=>(aD (aE 0) (aD (aE 1) aR))))
   (@aU _ _ _ _ _ _ (cR (cz J6 Kb (aA 2) (az sK) (cO _)) (bx (cu (aE 3))) cY)
   (@aU _ _ _ _ _ _ (@bO _ _ _ _ _ 5 _ _ pM.nd rfl (Or.inl rfl) (@iQ _ _ _ _ _ (aD (lz T.cl_Both (by rfl) T.isinstance (by rfl) T.m_Both (aE 2)) (aD (lz T.cl_Nowhere (by rfl) T.isinstance (by rfl) T.m_Nowhere (aE 2)) (aD (lz T.cl_Ring (by rfl) T.isinstance (by rfl) T.m_Ring (aE 2)) (aD (lz T.cl_SentHere (by rfl) T.isinstance (by rfl) T.m_SentHere (aE 2)) aR))))) rfl (.inl rfl))
   (@aU _ _ _ _ _ _ (@bO _ _ _ _ _ 5 _ _ pM.nd rfl (Or.inl rfl) (@bI _ _ _ _ _ _ _ _ _ _ cV cW (aA 5) (@az _ _ _ _ (@iQ _ _ _ _ _ (aD (lz T.cl_TwoWays (by rfl) T.isinstance (by rfl) T.m_TwoWays (aE 2)) (aD (lz T.cl_NoMark (by rfl) T.isinstance (by rfl) T.m_NoMark (aE 2)) (aD (lz T.cl_NoRow (by rfl) T.isinstance (by rfl) T.m_NoRow (aE 2)) aR)))))) rfl (.inl rfl))
   (@aU _ _ _ _ _ _ (cR (cz (wC hr) wD (@az _ _ _ _ (mW PySem.F.plainAttrs_list PySem.F.slot_list_count PySem.F.type_list_count (Ml LV hr (by decide)) Mm (@az _ _ _ _ (@bI _ _ _ _ _ _ _ _ _ _ cV cW (aA 5) (@az _ _ _ _ (@iQ _ _ _ _ _ (aD (lz T.cl_NoText (by rfl) T.isinstance (by rfl) T.m_NoText (aE 2)) (aD (lz T.cl_OutOfBook (by rfl) T.isinstance (by rfl) T.m_OutOfBook (aE 2)) aR)))))) (dB (@az _ _ _ _ jR) dE))) (@az _ _ _ _ aH) (cO _)) (@bx _ _ _ _ (@cu _ _ _ _ _ sK)) cY)
   (@aU _ _ _ _ _ _ (cR (dW (bz (aA 5) (az aH) (λ _ _=>rfl))) (bx (cu (cQ (aD (en (l:=[98,111,116,104]) (by decide)) (aD (oM mi (aE 2)) aR))))) cY)
   (@aU _ _ _ _ _ _ (cR (dW (bz (aA 5) (az aH) (λ _ _=>rfl))) (bx (cu (cQ (aD (en (l:=[110,111,119,104,101,114,101]) (by decide)) (aD (oM mi (aE 2)) (aD (oM CK (aE 2)) aR)))))) cY)
   (@aU _ _ _ _ _ _ (cR (dW (bz (aA 5) (az aH) (λ _ _=>rfl))) (bx (cu (cQ (aD (en (l:=[114,105,110,103]) (by decide)) (aD (oM CL (aE 2)) aR))))) cY)
   (@aU _ _ _ _ _ _ (cR (dW (bz (aA 5) (az aH) (λ _ _=>rfl))) (bx (cu (cQ (aD (en (l:=[104,101,114,101]) (by decide)) (aD (oM mi (aE 2)) aR))))) cY)
   (bx (cu (cQ (aD (en (l:=[116,119,111]) (by decide)) (aD (oM mi (aE 2)) aR))))))))))))))))
theorem Pg(T:Txt K mg t):ax P w K mg base aQ 9 t.f_q10 t.fd_q10 ["_law_rows","_law_sees_here"] (aY K 2 pv):=by
 have a:ax P w K mg base aQ 8 t.f_qb t.fd_qb ["_law_rows","_law_sees_here"] (aY K 2 mr):=Pf T;have d:ax P w K mg base aQ 5 t.f_q15 t.fd_q15 ["_law_see","_law_sees_here","_law_there","_law_full"] (aY K 4 nQ):=Pe T;have e:ax P w K mg base aQ 6 t.f_q8 t.fd_q8 ["hands"] (kD K 1 i5):=zS T
 exact cZ (k:=8) (fs:=f_q10) rfl rfl rfl T.d_q10.F n7 λ g A f s H E B c=>(@aU _ _ _ _ _ _ (sX (i:=2) n7.nd rfl rfl rfl (vars:=["_law_row"]) (cap:=[]) (lh [] rfl (by decide) (by decide) (by decide) .nil) (lp .nil) (by decide) (by decide) (lU (aA 0)) (λ _ _ _ _=>(b7 (i:=0) (show List.Nodup (["_law_row"]:List Str) by decide) rfl (Or.inl rfl))) (λ _ _ _ _=>mX) (λ _ _ _ _=>(bz (aA 0) (az aH) (λ _ _=>rfl))))
   (@aU _ _ _ _ _ _ (sX (i:=3) n7.nd rfl rfl rfl (vars:=["_law_row"]) (cap:=[]) (lh [] rfl (by decide) (by decide) (by decide) .nil) (lp .nil) (by decide) (by decide) (lU (aA 0)) (λ _ _ _ _=>(b7 (i:=0) (show List.Nodup (["_law_row"]:List Str) by decide) rfl (Or.inl rfl))) (λ _ _ _ _=>(BJ (cz (wC c) wD (@az _ _ _ _ (bz (aA 0) (@az _ _ _ _ aH) (λ _ _=>rfl))) (@az _ _ _ _ (@iQ _ _ _ _ _ aR)) (cO _)))) (λ _ _ _ _=>(bz (aA 0) (@az _ _ _ _ aH) (λ _ _=>rfl))))
   (@aU _ _ _ _ _ _ (@bO _ _ _ _ _ 4 _ _ n7.nd rfl (Or.inl rfl) (jW (sY e (c.mono (by decide)) (by rfl) T.d_q8.m T.d_q8.F.kp T.d_q8.b (aD (@iQ _ _ _ _ _ (aD (aE 1) aR)) aR))) rfl (.inl rfl))
   (@aU _ _ _ _ _ _ (m6 (i:=5) n7.nd rfl (Or.inl rfl) (mY aR))
   (@aU _ _ _ _ _ _ (jE PassesOwn.never rfl (gg (aE 4)) (b7 (i:=6) n7.nd rfl (Or.inl rfl)) (@aU _ _ _ _ _ _ (@bO _ _ _ _ _ 7 _ _ n7.nd rfl (Or.inl rfl) (cw d (c.mono (by decide)) (by rfl) T.d_q15.m T.d_q15.F.kp T.d_q15.b (aD (aE 6) (aD (aE 4) (aD (aE 2) (aD (aE 3) aR))))) rfl (.inl rfl))
   (@aU _ _ _ _ _ _ (cR (dW (JR JQ (by rfl) T.isinstance (Ff (v:=.ty "str") (by rfl) T.str AV rfl) (az (bz (aA 7) (az aH) (λ _ _=>rfl))))) (bx (cu (mO (eG c) eH (az (cw a (c.mono (by decide)) (by rfl) T.d_qb.m T.d_qb.F.kp T.d_qb.b (aD (aE 0) (aD (aE 1) aR)))) (aA 7) (cO _)))) cY)
   (bx (m7 (i:=5) rfl (aE 7))))))
   (bx (cu (mO (eG c) eH (az (cw a (c.mono (by decide)) (by rfl) T.d_qb.m T.d_qb.F.kp T.d_qb.b (aD (aE 0) (aD (aE 1) aR)))) (aA 5) (cO _)))))))))
theorem Ph(T:Txt K mg t):ax P w K mg base aQ 10 t.f_q22 t.fd_q22 ["_law_script"] (aY K 1 pw):=by
 have d:ax P w K mg base aQ 1 t.f_q6 t.fd_q6 ["_law_script","_law_k"] (aY K 2 nP):=O6 T;have a:ax P w K mg base aQ 9 t.f_q10 t.fd_q10 ["_law_rows","_law_sees_here"] (aY K 2 pv):=Pg T;have g:ax P w K mg base aQ 2 t.f_qf t.fd_qf ["_law_by"] (aY K 1 uy):=O8 T;have e:ax P w K mg base aQ 1 t.f_q13 t.fd_q13 ["_law_cells","_law_paths_here","_law_most"] (aY K 3 uz):=O9 T;have f:ax P w K mg base aQ 8 t.f_q16 t.fd_q16 ["book","most","first","marks"] (aY K 4 ux):=O5 T
 exact cZ (k:=9) (fs:=f_q22) rfl rfl rfl T.d_q22.F kX λ j A h s H E B c=>(@aU _ _ _ _ _ _ (@bO _ _ _ _ _ 1 _ _ kX.nd rfl (Or.inl rfl) (cw d (c.mono (by decide)) (by rfl) T.d_q6.m T.d_q6.F.kp T.d_q6.b (aD (aE 0) (aD aH aR))) rfl (.inl rfl))
   (@aU _ _ _ _ _ _ (@bO _ _ _ _ _ 2 _ _ kX.nd rfl (Or.inl rfl) (cw g (c.mono (by decide)) (by rfl) T.d_qf.m T.d_qf.F.kp T.d_qf.b (aD (aE 1) aR)) rfl (.inl rfl))
   (@aU _ _ _ _ _ _ (@bO _ _ _ _ _ 3 _ _ kX.nd rfl (Or.inl rfl) (cw d (c.mono (by decide)) (by rfl) T.d_q6.m T.d_q6.F.kp T.d_q6.b (aD (aE 0) (aD aH aR))) rfl (.inl rfl))
   (@aU _ _ _ _ _ _ (m6 (i:=4) kX.nd rfl (Or.inl rfl) (mY aR))
   (@aU _ _ _ _ _ _ (jE PassesOwn.never rfl (wL (by rfl) T.range (dB (az (bI cV cW (az aH) (az (bI gH gR (aA 3) (az aH))))) dE)) (b7 (i:=5) kX.nd rfl (Or.inl rfl)) (bx (m7 (i:=4) rfl (cQ (aD (bz (aA 2) (az (bI gH gR (az (bI cV cW (az (bI jw jC (aA 3) (az aH))) (az (bI qt sP (az aH) (aA 5))))) (az aH))) (λ _ _=>rfl)) (aD (aE 5) (aD (aE 5) (aD (mO (eG c) eH (az (bI gH gR (az (bI jw jC (aA 3) (az aH))) (az aH))) (az aH) (cO _)) aR))))))))
   (oF 4 (@aU _ _ _ _ _ _ (@bO _ _ _ _ _ 6 _ _ kX.nd rfl (Or.inl rfl) (cw f (c.mono (by decide)) (by rfl) T.d_q16.m T.d_q16.F.kp T.d_q16.b (aD (@bI _ _ _ _ _ _ _ _ _ _ LN LO (@az _ _ _ _ (@iQ _ _ _ _ _ (aD jR aR))) (@az _ _ _ _ aH)) (aD aH (aD aH (aD (aE 4) aR))))) rfl (.inl rfl))
   (@aU _ _ _ _ _ _ (@bO _ _ _ _ _ 7 _ _ kX.nd rfl (Or.inl rfl) (cw e (c.mono (by decide)) (by rfl) T.d_q13.m T.d_q13.F.kp T.d_q13.b (aD (fJ (aA 0) (eS (@az _ _ _ _ aH)) f8) (aD (aE 2) (aD (bz (@az _ _ _ _ (@iQ _ _ _ _ _ (aD aH (aD aH (aD aH (aD aH (aD aH (aD aH aR)))))))) (@az _ _ _ _ (@bI _ _ _ _ _ _ _ _ _ _ gH gR (@az _ _ _ _ (@bI _ _ _ _ _ _ _ _ _ _ jw jC (aA 3) (@az _ _ _ _ aH))) (@az _ _ _ _ aH))) (λ _ _=>rfl)) aR)))) rfl (.inl rfl))
   (@aU _ _ _ _ _ _ (cR (cz (eG c) eH (@az _ _ _ _ (@bI _ _ _ _ _ _ _ _ _ _ gH gR (@az _ _ _ _ (@bI _ _ _ _ _ _ _ _ _ _ jw jC (aA 3) (@az _ _ _ _ aH))) (@az _ _ _ _ aH))) (@az _ _ _ _ aH) (cO _)) (@bx _ _ _ _ (@bO _ _ _ _ _ 7 _ _ kX.nd rfl (Or.inl rfl) (@bI _ _ _ _ _ _ _ _ _ _ cV cW (@az _ _ _ _ (@iQ _ _ _ _ _ (aD (cQ (aD (bz (@az _ _ _ _ (bz (aA 4) (@az _ _ _ _ aH) (λ _ _=>rfl))) (@az _ _ _ _ aH) (λ _ _=>rfl)) (aD (bz (aA 2) (@az _ _ _ _ aH) (λ _ _=>rfl)) (aD jR aR)))) (aD (cQ (aD (bz (aA 2) (@az _ _ _ _ aH) (λ _ _=>rfl)) (aD (bz (@az _ _ _ _ (bz (aA 4) (@az _ _ _ _ aH) (λ _ _=>rfl))) (@az _ _ _ _ aH) (λ _ _=>rfl)) (aD jR aR)))) aR)))) (@az _ _ _ _ (fJ (aA 7) f8 (eS (@az _ _ _ _ aH))))) rfl (.inl rfl))) cY)
   (@aU _ _ _ _ _ _ (cR (cz (eG c) eH (az (bI gH gR (az (bI jw jC (aA 3) (az aH))) (az aH))) (az aH) (cO _)) (bx (@bO _ _ _ _ _ 7 _ _ kX.nd rfl (Or.inl rfl) (jW (Lh rfl (by rfl) T.list (by rfl) T.reversed (dB (aA 7) dE))) rfl (.inl rfl))) cY)
   (bx (cu (Bi (cw a (c.mono (by decide)) (by rfl) T.d_q10.m T.d_q10.F.kp T.d_q10.b (aD (aE 6) (aD (aE 7) aR))) (wA (cw a (c.mono (by decide)) (by rfl) T.d_q10.m T.d_q10.F.kp T.d_q10.b (aD (aE 6) (aD (fJ (aA 7) f8 (eS (az (fB aH)))) aR)))))))))))))))))
end
theorem Pi{K:Fg1}{H:Hp}{a:Addr}{ns:List Int}{E:XK}{Q:VK}(hl:ns.length<=63)(d:bJ K H a (ns.map V.int))(q:∀H',Q (.bl true) H'):aY K 1 pw [.ref a] H Q E:=by
 refine⟨H,[.lst (ns.map D.int)],.bl true,aS.refl _,.cons (hW d (wP ns)) .nil,rfl,Ow ns hl,λb H' v _ c=>?_⟩;rw[c.bl];exact q H'
abbrev fT(K:Fg1)(x:String)(s:Stmt)(f:Addr)(a:Value):Prop:=PySem.W.nsIn K mainGlobals x=some (some (.ref f))/\K.lookup f=some (Zf x x s a (.ref (f - 1)))/\PySem.W.codeIn K (.ref (f - 1)) x=true/\PySem.W.keepIn K (.ref f)=true
abbrev nN(K:Fg1)(x:String):Prop:=PySem.W.nsIn K mainGlobals x=some none
abbrev nS(K:Fg1)(x:String)(f:Addr):Prop:=PySem.W.nsIn K mainGlobals x=some (some (.ref f))
theorem bd{K:Fg1}{x q:Str}{st:Stmt}{f:Addr}{d:FuncData}{ps:List Str}(F:ec K x q st f d)(h:∀(kV b e:Value) (g:Option Addr) (c i:Value) (a:List Value),a.length=ps.length->bindArgs (PySem.W.fnOf x q (kY st) (e6 st) (bt st) .none kV b e g c i) ⟨a,[]⟩=pure (ps.zip a):=by intro _ _ _ _ _ _ a hl;repeat (rcases a with _|⟨_,a⟩;(focus first|rfl|(simp at hl;done));try (focus (simp at hl;done)))):c9 K d ps []:=F.binds h
theorem df{K:Fg1}{e:Str->Option Value}{h:Heap}{x:String}{s:Stmt}{f:Addr}{m:Value}{ps:List Str}(X:K.In h)(G:h.Ns mainGlobals e)(t:fT K x s f m)(b:∀(kV c g:Value) (i:Option Addr) (d j:Value) (a:List Value),a.length=ps.length->bindArgs (PySem.W.fnOf x x (kY s) (e6 s) (bt s) .none kV c g i d j) ⟨a,[]⟩=pure (ps.zip a):=by intro _ _ _ _ _ _ a hl;repeat (rcases a with _|⟨_,a⟩;(focus first|rfl|(simp at hl;done));try (focus (simp at hl;done)))):Df K e x s ps f (PySem.W.fnOf x x (kY s) (e6 s) (bt s) .none .none .none m none (.ref (f - 1)) .none):=⟨hT t.2.1 t.2.2.1 t.2.2.2,PySem.W.mg_of X G t.1,(hT t.2.1 t.2.2.1 t.2.2.2).binds b⟩
def EW(K:Fg1):Prop:=fT K "shown" yU 198 Z2 ∧
 fT K "key_of" yV 203 Z2 ∧
 fT K "rank" yW 208 Z2 ∧
 fT K "fits" yX 215 Z3 ∧
 fT K "poured" yY 222 Z3 ∧
 fT K "poured_sees" yZ 229 Z3 ∧
 fT K "copied" y0 236 Z3 ∧
 fT K "mark_rank" y1 243 Z3 ∧
 fT K "see_rank" y2 250 Z3 ∧
 fT K "ways" y3 255 Z4 ∧
 fT K "pages_by_path" y4 262 Z4 ∧
 fT K "goals_by_path" y6 269 Z4 ∧
 fT K "way_of_see" y7 276 Z4 ∧
 fT K "refuse_start" y8 283 Z4 ∧
 fT K "way_of_goal" y9 290 Z4 ∧
 fT K "ring_in" zn 297 Z4 ∧
 fT K "from_least" zq 304 Z4 ∧
 fT K "pages" zr 311 Z5 ∧
 fT K "stretches" zt 318 Z6 ∧
 fT K "strong_by_page" zv 325 Z6 ∧
 fT K "goes_on" zw 332 Z6 ∧
 fT K "entries" zx 337 Z7 ∧
 fT K "refuse_unfit" zy 344 Z7 ∧
 fT K "marks_by_path" zz 351 Z7 ∧
 fT K "_law_cell_at" zA 358 Zm ∧
 fT K "_law_head_by" zB 365 Zm ∧
 fT K "_law_paths" zC 370 Zm ∧
 fT K "_law_sees" zD 377 Zm ∧
 fT K "_law_onward" zE 384 Zm ∧
 fT K "_law_two" zF 391 Zm ∧
 fT K "_law_round" zG 396 Zm ∧
 fT K "_law_due" zH 403 Zm ∧
 fT K "_law_answer" zI 410 Zm ∧
 fT K "_law_holds" zJ 415 Zm ∧
 fT K "law" pI 422 Zm ∧
 nN K "isinstance" ∧
 nN K "len" ∧
 nN K "list" ∧
 nN K "min" ∧
 nN K "range" ∧
 nN K "reversed" ∧
 nN K "sorted" ∧
 nN K "str" ∧
 nN K "tuple" ∧
 nS K "PageError" 24 ∧
 qS K 24=true ∧
 nS K "Both" 82 ∧
 jZ K "Both" 82 24 (some 79)=true ∧
 K.lookup 79=some (Zf "__init__" "Both.__init__" zN Z1 (.ref 78)) ∧
 PySem.W.codeIn K (.ref 78) "Both.__init__" = true ∧
 PySem.W.keepIn K (.ref 79)=true ∧
 PySem.W.keepIn K (.ref 82)=true ∧
 nS K "NoMark" 170 ∧
 jZ K "NoMark" 170 24 none=true ∧
 nS K "NoRow" 158 ∧
 jZ K "NoRow" 158 24 (some 155)=true ∧
 nS K "NoText" 189 ∧
 jZ K "NoText" 189 24 (some 186)=true ∧
 nS K "Nowhere" 139 ∧
 jZ K "Nowhere" 139 24 (some 136)=true ∧
 K.lookup 136=some (Zf "__init__" "Nowhere.__init__" zO Z1 (.ref 135)) ∧
 PySem.W.codeIn K (.ref 135) "Nowhere.__init__" = true ∧
 PySem.W.keepIn K (.ref 136)=true ∧
 PySem.W.keepIn K (.ref 139)=true ∧
 nS K "OutOfBook" 44 ∧
 jZ K "OutOfBook" 44 24 (some 41)=true ∧
 K.lookup 41=some (Zf "__init__" "OutOfBook.__init__" EL Z1 (.ref 40)) ∧
 PySem.W.codeIn K (.ref 40) "OutOfBook.__init__" = true ∧
 PySem.W.keepIn K (.ref 41)=true ∧
 PySem.W.keepIn K (.ref 44)=true ∧
 nS K "Ring" 120 ∧
 jZ K "Ring" 120 24 (some 117)=true ∧
 K.lookup 117=some (Zf "__init__" "Ring.__init__" zP Z1 (.ref 116)) ∧
 PySem.W.codeIn K (.ref 116) "Ring.__init__" = true ∧
 PySem.W.keepIn K (.ref 117)=true ∧
 PySem.W.keepIn K (.ref 120)=true ∧
 nS K "SentHere" 63 ∧
 jZ K "SentHere" 63 24 (some 60)=true ∧
 K.lookup 60=some (Zf "__init__" "SentHere.__init__" zQ Z1 (.ref 59)) ∧
 PySem.W.codeIn K (.ref 59) "SentHere.__init__" = true ∧
 PySem.W.keepIn K (.ref 60)=true ∧
 PySem.W.keepIn K (.ref 63)=true ∧
 nS K "TwoWays" 101 ∧
 jZ K "TwoWays" 101 24 (some 98)=true ∧
 K.lookup 98=some (Zf "__init__" "TwoWays.__init__" zR Z1 (.ref 97)) ∧
 PySem.W.codeIn K (.ref 97) "TwoWays.__init__" = true ∧
 PySem.W.keepIn K (.ref 98)=true ∧
 PySem.W.keepIn K (.ref 101)=true ∧
 PySem.W.nsIn K mainGlobals "LETTERS_AND_FIGURES" = some (some (.str zM 431))
theorem fts(w:World):EW (KK w.params):=by unfold EW;and_intros <;> kernel_rfl
theorem all_mk {l:PySem.W.OpenLaw}{w:World}{h:Heap}{mg:Str->Option Value}{fa:Addr} (X:(KK w.params).In h) (G:h.Ns mainGlobals mg) (hfa:mg "law" = some (.ref fa)) :
  ∃fd:FuncData,(∀(s:Shared) (v:Value),BindsTo s fd ⟨[v],[]⟩ [("_law_script",v)])/\∀base:Heap,(KK w.params).In base->base.Ns mainGlobals mg->ax l.prog w (KK w.params) mg base aQ 10 fa fd ["_law_script"] (aY (KK w.params) 1 pw):=by
 have ⟨h_q1e,h_q1c,h_q21,h_q1f,h_q1b,h_q8,h_q1a,h_q11,h_q14,h_q20,h_q3,h_q1,h_qd,h_q5,h_q7,h_q19,h_qc,h_q1d,h_qe,h_q0,h_q18,h_q16,h_q4,h_q2,h_q6,h_q9,h_qf,h_q13,h_qa,h_q17,h_q12,h_q15,h_qb,h_q10,h_q22,z_isinstance,z_len,z_list,z_min,z_range,z_reversed,z_sorted,z_str,z_tuple,n_PageError,ri_K,n_Both,x_Both,li_Both,ci_Both,ki_Both,kp_Both,n_NoMark,x_NoMark,n_NoRow,x_NoRow,n_NoText,x_NoText,n_Nowhere,x_Nowhere,li_Nowhere,ci_Nowhere,ki_Nowhere,kp_Nowhere,n_OutOfBook,x_OutOfBook,li_OutOfBook,ci_OutOfBook,ki_OutOfBook,kp_OutOfBook,n_Ring,x_Ring,li_Ring,ci_Ring,ki_Ring,kp_Ring,n_SentHere,x_SentHere,li_SentHere,ci_SentHere,ki_SentHere,kp_SentHere,n_TwoWays,x_TwoWays,li_TwoWays,ci_TwoWays,ki_TwoWays,kp_TwoWays,y_LETTERS_AND_FIGURES⟩:=fts w;generalize KK w.params=K at *;have e:=hfa.symm.trans (PySem.W.mg_of X G h_q22.1);cases e;have T:Txt K mg ⟨198,_,203,_,208,_,215,_,222,_,229,_,236,_,243,_,250,_,255,_,262,_,269,_,276,_,283,_,290,_,297,_,304,_,311,_,318,_,325,_,332,_,337,_,344,_,351,_,358,_,365,_,370,_,377,_,384,_,391,_,396,_,403,_,410,_,415,_,422,_,431,82,79,_,170,none,158,(some 155),189,(some 186),139,136,_,44,41,_,24,120,117,_,63,60,_,101,98,_⟩:=⟨df X G h_q1e,df X G h_q1c,df X G h_q21,df X G h_q1f,df X G h_q1b,df X G h_q8,df X G h_q1a,df X G h_q11,df X G h_q14,df X G h_q20,df X G h_q3,df X G h_q1,df X G h_qd,df X G h_q5,df X G h_q7,df X G h_q19,df X G h_qc,df X G h_q1d,df X G h_qe,df X G h_q0,df X G h_q18,df X G h_q16,df X G h_q4,df X G h_q2,df X G h_q6,df X G h_q9,df X G h_qf,df X G h_q13,df X G h_qa,df X G h_q17,df X G h_q12,df X G h_q15,df X G h_qb,df X G h_q10,df X G h_q22,PySem.W.mg_none_of X G z_isinstance,PySem.W.mg_none_of X G z_len,PySem.W.mg_none_of X G z_list,PySem.W.mg_none_of X G z_min,PySem.W.mg_none_of X G z_range,PySem.W.mg_none_of X G z_reversed,PySem.W.mg_none_of X G z_sorted,PySem.W.mg_none_of X G z_str,PySem.W.mg_none_of X G z_tuple,ri_K,PySem.W.mg_of X G y_LETTERS_AND_FIGURES,n_Both,PySem.W.mg_of X G n_Both,lA x_Both,⟨_,li_Both,rfl⟩,kp_Both,hT li_Both ci_Both ki_Both,bd (hT li_Both ci_Both ki_Both),n_NoMark,PySem.W.mg_of X G n_NoMark,lA x_NoMark,n_NoRow,PySem.W.mg_of X G n_NoRow,lA x_NoRow,n_NoText,PySem.W.mg_of X G n_NoText,lA x_NoText,n_Nowhere,PySem.W.mg_of X G n_Nowhere,lA x_Nowhere,⟨_,li_Nowhere,rfl⟩,kp_Nowhere,hT li_Nowhere ci_Nowhere ki_Nowhere,bd (hT li_Nowhere ci_Nowhere ki_Nowhere),n_OutOfBook,PySem.W.mg_of X G n_OutOfBook,lA x_OutOfBook,⟨_,li_OutOfBook,rfl⟩,kp_OutOfBook,hT li_OutOfBook ci_OutOfBook ki_OutOfBook,bd (hT li_OutOfBook ci_OutOfBook ki_OutOfBook),n_PageError,PySem.W.mg_of X G n_PageError,n_Ring,PySem.W.mg_of X G n_Ring,lA x_Ring,⟨_,li_Ring,rfl⟩,kp_Ring,hT li_Ring ci_Ring ki_Ring,bd (hT li_Ring ci_Ring ki_Ring),n_SentHere,PySem.W.mg_of X G n_SentHere,lA x_SentHere,⟨_,li_SentHere,rfl⟩,kp_SentHere,hT li_SentHere ci_SentHere ki_SentHere,bd (hT li_SentHere ci_SentHere ki_SentHere),n_TwoWays,PySem.W.mg_of X G n_TwoWays,lA x_TwoWays,⟨_,li_TwoWays,rfl⟩,kp_TwoWays,hT li_TwoWays ci_TwoWays ki_TwoWays,bd (hT li_TwoWays ci_TwoWays ki_TwoWays)⟩
 exact⟨PySem.W.fnOf "law" "law" (kY pI) (e6 pI) (bt pI) .none .none .none Zm none (.ref 421) .none,λs v=>.of_eq rfl,λbase _ _=>Ph T⟩
theorem walk{l:PySem.W.OpenLaw}{q:Program}{loose:List Str}{XP:(Str->Option Value)->Heap->Prop}{e:World->Heap->Prop}{d:DefRec}{K:Params->Fg1}(hn:l.most=some 63)(c:d.params.defaults=[])
  (j:∀(w:World) (h:Heap),e w h->(K w.params).In h)
  (F:∀ (w:World) (b:Str->Option Value) (g:Addr) (h:Heap),(K w.params).In h->h.Ns mainGlobals b->b d.name=some (.ref g) →
   ∃fd:FuncData,(∀(s:Shared) (u:Value),BindsTo s fd ⟨[u],[]⟩ [("_law_script",u)])/\∀base:Heap,(K w.params).In base->base.Ns mainGlobals b->ax l.prog w (K w.params) b base aQ 10 g fd ["_law_script"] (aY (K w.params) 1 pw)) :
  PySem.W.WalkO q loose XP e l.row.toRowW d [] (λf vs=>PySem.call f vs) :=
 L2.walk_of (n:=63) (k:=10) (x:="_law_script") (CX:=λ_=>aQ) (sp:=λw=>aY (K w.params) 1 pw) hn (by decide) c ⟨rfl,by decide,by decide⟩ j F (λ_ H a ns hl m i=>Pi hl i λ_=>rfl) λ_ _ _ _ _ z=>z
end K22
open PySem PySem.W PyProof.Rows
set_option maxRecDepth 100000 in
set_option maxHeartbeats 0 in
theorem PySem.Challenge.cw_pageback_k22_the_first_not_right_holds : PySem.Challenge.rw_pageback_k22_the_first_not_right.Holds := by
 w_on;o_law
 refine PySem.W.holds_open (q:=K22.VV) (loose:=[]) (XP:=PySem.W.XL K22.VV []) (kwd:=[]) K22.hl (PySem.W.kHook K22.KK K22.AA K22.ka).of (PySem.W.kHook K22.KK K22.AA K22.ka).keeps (λs e=>PySem.W.xl_of s (tq.mp e).left) PySem.W.XL.keeps (by rfl) (by rfl) (by rfl) (λs e=>PySem.W.recFacts_of (tq.mp e).right) (by rfl) ?said (by decide) ⟨rfl,rfl,rfl,rfl,rfl,by decide⟩ ?hw ?hc
 case said=>assumption
 case hw=>w_witness2
 refine K22.walk (l:=PySem.Challenge.rw_pageback_k22_the_first_not_right) rfl rfl (λw h Y=>PySem.W.kIn_of Y) ?F
 case F =>
  intro w c d h b G a;exact K22.all_mk b G a
end
