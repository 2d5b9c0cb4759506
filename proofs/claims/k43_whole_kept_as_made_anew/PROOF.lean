import PyProof.Rows.All
import KE.KDictOf
import KE.KDictSum
import KE.KEqDict
import KE.KFromBytes
import KE.KIntText
import KE.KIsAll
import KE.KRevIter
import KE.KSortTup
import KE.LcSums
import PySem.Challenge.RW_pageback_k43_whole_kept_as_made_anew
abbrev Fg2:=PySem.Challenge.pw_pageback_k43_whole_kept_as_made_anew
abbrev Fg3:=PySem.Challenge.rw_pageback_k43_whole_kept_as_made_anew
abbrev Fg1:=PySem.W.Frag
local macro_rules|`(‹0›)=>`(⟨rfl,rfl,rfl,by decide,rfl,by decide,by decide⟩)
local macro_rules|`(tactic|decide)=>`(tactic|decide +kernel)
def hPt:Nat->Lean.Term->Lean.MacroM (Lean.TSyntax `rcasesPat)
 |0,_=>Lean.Macro.throwUnsupported
 |n+1,x=>match x with
  |`(⟨$y,*⟩)=>do
   let p ← y.getElems.mapM λx=>do
    let p ← hPt n x
    `(Lean.Parser.Tactic.rcasesPatLo|$p:rcasesPat)
   `(rcasesPat|⟨$p,*⟩)
  |`($i:ident)=>`(rcasesPat|$i:ident)
  |_=>`(rcasesPat|_)
local macro_rules|`(tactic|have⟨$x,*⟩:=$e)=>do
 let p ← hPt 9 (← `(⟨$x,*⟩))
 `(tactic|obtain $p:rcasesPat:=$e)
abbrev U1:=List (PySem.Addr×PySem.Obj)
abbrev U2:=PySem.Value->PySem.Shared->Prop
abbrev U3:=List (Int×Bool)
abbrev U7:=List Nat
abbrev U8:=List PySem.Str
abbrev U9:=List PySem.Value
abbrev Y0:=Option PySem.Value
abbrev Y2:=Option Int
abbrev Y3:=Option Bool
abbrev Y4:=Array PySem.Value
abbrev Y5:=List PySem.Expr
abbrev Y6:=List Bool
abbrev Y7:=List Int
abbrev Y8:=List PySem.Addr
abbrev Y9:=Option PySem.Addr
abbrev Yb:=List PySem.Env
abbrev Yc:=List PySem.Stmt
local macro_rules|`('g')=>`(("__debug__" : PySem.Str))
local macro_rules|`('c')=>`(("__classdict__" : PySem.Str))
local macro_rules|`('s')=>`(by simp;omega)
local macro_rules|`('d')=>`(by decide)
local macro_rules|`('o')=>`(by omega)
local macro_rules|`('r')=>`(by rfl)
local macro_rules|`('m')=>`(by simp)
local macro_rules|`('i')=>`((Or.inl rfl))
local macro_rules|`('j')=>`((.inl rfl))
local macro_rules|`('k')=>`((λ _ _=>rfl))
local macro_rules|`('e')=>`((if ([]:List PySem.Keyword).isEmpty then 0 else 1))
set_option compiler.extract_closed false
open List (Nodup filter length map map_take mem_cons nodup_append range' replicate)
open PySem (Within mem_of_lookup)
open Nat (reduceAdd reduceLeDiff reduceSub)
open PySem.Str (empty ofString)
open PySem.W (InstAt KatLex KdlSrc KeqHits LeftO Looks XL callWith_K cellsFrom_some codeIn emptyDict findIn fnOf handedIn hasDictIn instObj isFn kHook kIn_of kas_ask kas_kind kat_go kat_lt kat_nil kat_no kat_run kat_snds kdu_collect keepIn kia_one kitOne kitx_dict kitx_list kitx_tuple lookIn makesIn methodCall_KW methodObj mg_none_of mg_of mroIn nsIn openEnds openGood openSeen plainGet plainGet_of plainOver pyHash_slot recOk takerIn typeIn xlAt xl_of)
open PySem.Obj (mapSeq)
open Prod (fst snd)
open False (elim)
open PySem.F (args_list_lt_2 args_list_ne_2 entry_dict_get entry_list_lt entry_list_ne plainAttrs_dict plainAttrs_list plainAttrs_str slot_bool_hash slot_dict_eq slot_dict_get slot_dict_iter slot_dict_keyiterator_next slot_dict_pop slot_list_lt slot_list_ne type_dict_get)
noncomputable section
def aa:=@List.length_map
def ba:=@PySem.wpAny_bind
def ca:=@List.getElem?_set_ne
def ma:=@List.map_cons
def ua:=@List.mem_cons_of_mem
def wa:=@PySem.wpAny_pure
def ya:=@if_pos
def ab:=@List.getElem?_set_self
def bb:=@Bool.false_ne_true
def cb:=@Option.bind_some
def ub:=@List.mem_map
def wb:=@List.getElem?_eq_some_iff
def ac:=@Or.inl
def bc:=@List.size_toArray
def cc:=@List.mem_cons_self
def dc:=@Nat.le_refl
def gc:=@List.length_cons
def ic:=@if_neg
def jc:=@PySem.Heap.get?_push_of_some
def kc:=@of_decide_eq_true
def lc:=@List.all_eq_true
def pc:=@Option.map_eq_some_iff
def qc:=@decide_eq_true
def rc:=@List.length_append
def uc:=@Bool.and_eq_true
def vc:=@List.getElem?_eq_getElem
def wc:=@mem_cons
def yc:=@List.length_singleton
def zc:=@List.append_nil
def ed:=@List.getD_eq_getElem?_getD
def jd:=@List.map_append
def md:=@List.map_map
def pd:=@PySem.Heap.get?_push_size
def ud:=@Or.inr
def vd:=@Nat.lt_of_lt_of_le
def wd:=@List.mem_singleton
def yd:=@List.mem_append
def zd:=@PySem.Heap.lt_size
def ae:=@Option.some.inj
def be:=@decide_eq_false
def ce:=@PySem.wpAny_loadPart'
def de:=@List.getElem?_map
def ee:=@List.mem_of_getElem?
def ie:=@Nat.zero_le
def je:=@Bool.false_eq_true
def ke:=@List.drop_eq_getElem_cons
def me:=@PySem.PassesOwn.never
def oe:=@List.mem_append_right
def qe:=@List.length_nil
def re:=@Nat.le_trans
def se:=@List.length_take
def ue:=@Ne.symm
def ve:=@List.flatten_cons
def we:=@List.find?_cons
def ze:=@List.getElem?_cons_succ
def af:=@Nat.ne_of_lt
def bf:=@PySem.Heap.get?_update_other
def cf:=@Int.eq_ofNat_of_zero_le
def ef:=@congrArg
def gf:=@List.all_cons
def jf:=@Int.emod_lt_of_pos
def mf:=@List.getElem?_append_left
def qf:=@Array.length_toList
def rf:=@List.getElem_mem
def sf:=@List.length_set
def uf:=@Int.emod_nonneg
def vf:=@List.getElem?_cons_zero
def wf:=@Array.getElem?_eq_getElem
def xf:=@List.lookup_cons
def yf:=@List.nodup_cons
def zf:=@List.take_of_length_le
def ag:=@PyProof.Rows.slot_tuple_getitem
def bg:=@List.getElem?_append_right
def cg:=@List.getElem?_replicate
def dg:=@List.flatten_nil
def fg:=@PySem.wpAny_holding
def gg:=@List.pairwise_cons
def ig:=@List.mem_map_of_mem
def jg:=@Array.getElem?_toList
def kg:=@True.intro
def lg:=@Bool.eq_false_iff
def ng:=@PySem.wpAny_dictEntries
def og:=@nodup_append
def qg:=@PySem.tupleKind_room_in1
def rg:=@List.zip_cons_cons
def ug:=@List.mem_range
def vg:=@List.map_nil
def wg:=@Nat.zero_add
def xg:=@beq_eq_false_iff_ne
def yg:=@List.map_congr_left
def zg:=@PySem.wpAny_truthy_bool
def ah:=@List.length_replicate
def bh:=@Nat.le_of_ble_eq_true
def dh:=@List.mem_filter
def gh:=@Option.map_some
def jh:=@List.filter_cons_of_neg
def kh:=@List.filter_cons_of_pos
def mh:=@List.length_drop
def oh:=@List.cons_append
def ph:=@PySem.Calls.callWith_builtin
def qh:=@Int.toNat_natCast
def rh:=@PySem.wpAny_newObj_type
def uh:=@List.Perm.refl
def vh:=@PySem.wpAny_mono
def xh:=@PySem.Heap.SameBut.update
def yh:=@List.length_filter_le
def zh:=@PySem.Calls.spliced_cons
def ai:=@PySem.wpAny_Call_Name_kw
def ci:=@List.set_cons_zero
def ii:=@List.set_cons_succ
def ji:=@PySem.wpAny_call_entry
def ki:=@List.drop_length
def li:=@List.any_cons
def oi:=@Bool.not_true
def pi:=@PySem.wpAny_typeNameOfWhole_keyiter
def ui:=@List.nodup_nil
def xi:=@if_false
def yi:=@List.append_assoc
def zi:=@List.nil_append
def aj:=@List.drop_of_length_le
def cj:=@PySem.richCompare_meets_room
def fj:=@Option.bind_none
def ij:=@Option.getD_some
def jj:=@List.pairwise_iff_getElem
def kj:=@Option.map_none
def lj:=@PySem.Calls.evalArgs_plain
def oj:=@List.mem_of_mem_drop
def pj:=@List.mem_of_mem_take
def tj:=@Option.isSome_map
def uj:=@List.getElem?_set
def vj:=@List.length_range
def wj:=@PySem.wpAny_typeNameOf_keyiter
def xj:=@List.Pairwise.imp_of_mem
def yj:=@Nat.lt_irrefl
def zj:=@PySem.wpAny_callSpecial?_slot
def ak:=@List.mem_flatMap
def ck:=@Bool.not_false
def ik:=@PySem.Heap.get?_update_self
def qk:=@PySem.wpAny_notOrdered_dict
def uk:=@PyProof.Rows.callWith_type1
def vk:=@PySem.Calls.spliced_nil
def wk:=@List.ext_getElem?
def zk:=@List.pairwise_map
def il:=@List.mem_append_left
def ll:=@PySem.Around.under_plainId
def ol:=@PySem.Obj.data_mapDictKeys
def ql:=@List.any_eq_true
def wl:=@Nat.sub_self
def xl:=@List.mem_of_find?_eq_some
def yl:=@List.getElem_of_mem
def zl:=@PyProof.Rows.listUpdate_at
def am:=@Bool.true_and
def bm:=@PySem.wpAny_passesOwn
def cm:=@Nat.min_eq_left
def dm:=@PySem.wpAny_dictEpoch
def im:=@PySem.size_of_entries
def km:=@PySem.wpAny_rule
def om:=@List.getElem?_set_self'
def qm:=@PySem.AutoSeq1.sub_list_list
def rm:=@Array.getElem?_eq_none
def tm:=@Nat.lt_of_succ_lt_succ
def um:=@PySem.wpAny_Call_method
def vm:=@Nat.le_succ_of_le
def wm:=@Bool.and_false
def ym:=@Nat.lt_or_ge
def zm:=@PySem.call_meetsIn
def bn:=@PySem.wpAny_isOneOf_keyiter
def cn:=@List.getElem?_eq_none
def gn:=@List.eraseIdx_sublist
def kn:=@PySem.wpAny_forIn_list
def mn:=@Nat.min_eq_right
def on:=@PySem.wpAny_newList
def rn:=@List.cons.inj
def sn:=@Bool.eq_iff_iff
def wn:=@List.of_mem_zip
def yn:=@PySem.codeAny_builtin
def zn:=@PyProof.Rows.get?_update_seq
def ao:=@List.cons.injEq
def bo:=@List.foldl_cons
def jo:=@List.filterMap_cons
def ko:=@PySem.wpAny_dictFind_heap
def qo:=@List.filter_sublist
def so:=@PySem.codeAny_mono
def uo:=@ite_false
def yo:=@PySem.Calls.Name_function_global
def zo:=@List.perm_ext_iff_of_nodup
def bp:=@List.mem_filterMap
def jp:=@Nat.lt_of_le_of_lt
def vp:=@Bool.false_and
def yp:=@PySem.wpAny_fieldsOf
def zp:=@beq_iff_eq
def aq:=@Classical.byContradiction
def cq:=@List.Pairwise.nil
def dq:=@List.Pairwise.imp
def gq:=@PySem.wpAny_mkInt
def lq:=@List.filterMap_cons_none
def mq:=@List.filterMap_cons_some
def nq:=@PySem.wpAny_standAt
def oq:=@PySem.plainId_quiet
def qq:=@List.pairwise_singleton
def rq:=@List.eraseIdx_cons_succ
def sq:=@decide_eq_false_iff_not
def tq:=@PySem.wpAny_pyHash_int
def uq:=@PySem.wpAny_pyHash_str
def vq:=@Nat.lt_succ_self
def wq:=@Nat.min_le_right
def xq:=@PySem.wpAny_Dict_empty
def yq:=@Nat.le_max_right
def zq:=@List.map_snd_zip
def ar:=@PySem.wpAny_isInstance
def br:=@PySem.beq_builtin_none
def gr:=@ite_true
def jr:=@List.range_succ_eq_map
def lr:=@if_true
def mr:=@PySem.wpAny_execs_nil
def ur:=@PySem.SeqAt.EqAt.same
def wr:=@Nat.le_max_left
def bt:=@List.getElem?_of_mem
def ot:=@Bool.or_eq_false_iff
def qt:=@Bool.and_eq_true_iff
def vt:=@PySem.Heap.size_push
def wt:=@List.Perm.swap
def cu:=@List.filter_eq_self
def gu:=@List.length_pos_iff
def yu:=@PySem.call_meets
def vv:=@Nat.le_of_lt
def wv:=@Nat.ne_of_gt
def aw:=@List.all_map
def bw:=@Nat.min_self
def jw:=@List.set_set
def lw:=@Sum.inl.inj
def sw:=@List.map_id
set_option Elab.async false
set_option linter.all false
set_option maxRecDepth 100000
set_option maxHeartbeats 4000000
namespace L2
open PySem
noncomputable def lF(s:Stmt):Arguments:=match s with
 |.FunctionDef _ a _ _ _ _ _ _ _ _=>a
 |_=>{ posonlyargs:=[],args:=[],vararg:=none,kwonlyargs:=[],kw_defaults:=[],kwarg:=none,defaults:=[] }
noncomputable def fq(s:Stmt):Yc:=match s with
 |.FunctionDef _ _ b _ _ _ _ _ _ _=>b
 |_=>[]
noncomputable def bj(s:Stmt):Scope:=match s with
 |.FunctionDef _ _ _ _ _ _ sc _ _ _=>sc
 |_=>{ kind:=.function,names:=[],isGenerator:=false,isCoroutine:=false }
noncomputable def mu(s:Stmt):Yc:=match s with
 |.ClassDef _ _ _ b _ _ _ _ _ _ _=>b
 |_=>[]
end L2
namespace K43
open PySem L2
noncomputable def b6(i:Nat):Stmt:=Fg2.main.body.getD i (.Pass ⟨0,0,0,0⟩)
noncomputable abbrev Zs(x:String)(t:Tok):Value:=.str (ofString x) t
abbrev Ze(P:Params)(x:String)(t:Tok)(v:Value):DictEntry:=⟨PyData.keyHash P (ofString x),Zs x t,v⟩
noncomputable abbrev Zt(a:Y4):Obj:=⟨.type "tuple",none,.seq a,#[]⟩
noncomputable abbrev Zc(a:Y4):Obj:=⟨.type "code",none,.fields a,#[]⟩
noncomputable abbrev Zd(a:Array DictEntry)(n:Nat):Obj:=⟨.type "dict",none,.dict a n,#[]⟩
abbrev Zf(n q:String)(s:Stmt)(a b:Value):Obj:=⟨.type "function",none,.func (fnOf (ofString n) (ofString q) (lF s) (fq s) (bj s) .none .none .none a none b .none),#[]⟩
abbrev Zk(n q:String)(a b c:Tok)(l k:Int)(r f:Addr)(x y z:Value)(m:Addr)(d e:Nat):Obj:=Zc #[Zs n a,Zs q b,Zs "/claim/cut.py" c,.int l 0,.int k 0,.int 0 0,.int 0 0,.int 3 0,.ref r,.bool true,.int 181 0,.ref f,x,y,z,.ref m,.int d 0,.int l 0,Zs "/claim/cut.py" e]
abbrev Zm:Value:=Zs "law_pageback_k43_whole_kept_as_made_anew" 562
abbrev Z1:Value:=Zs "pageback.book" 187
abbrev Z2:Value:=Zs "pageback.errors" 202
abbrev Z3:Value:=Zs "pageback.heads" 292
abbrev Z4:Value:=Zs "pageback.marks" 316
abbrev Z5:Value:=Zs "pageback.stretches" 353
abbrev Z6:Value:=Zs "pageback.entries" 389
abbrev Z7:Value:=Zs "pageback.moving" 417
abbrev Z8:Value:=Zs "pageback.keeper" 470
abbrev Zg(x:String)(i:Nat)(m:Value)(f:Addr):Obj:=Zf x x (b6 i) m (.ref (f - 1))
noncomputable abbrev Zx(n:String)(c k:Addr)(s:Array Y0):Obj:=Obj.mk (.type "type") none (Data.cls (ClassData.mk (ofString n) [.ref 31] [.ref c,.ref 31,.type "ValueError",.type "Exception",.type "BaseException",.type "object"] k (ofString n) true [] [] false none false)) s
abbrev Zy(P:Params)(a:Tok)(v:Value)(b:Tok)(i:Int)(c d:Tok)(f:Addr)(e:Tok)(g:Addr)(h:Tok):Obj:=Zd #[Ze P "__module__" a v,Ze P "__firstlineno__" b (.int i c),Ze P "__init__" d (.ref f),Ze P "__static_attributes__" e (.ref g),Ze P "__doc__" h .none] 2
abbrev Zl(n:String)(a b c:Tok)(l k:Int)(r f:Addr)(x y z:Value)(m:Addr)(d e:Nat):Obj:=Zk n n a b c l k r f x y z m d e
abbrev zB(i j:Nat):Stmt:=(mu (b6 i)).getD j (.Pass ⟨0,0,0,0⟩)
def KK(P:Params):Fg1 :=
 [(3,Zd #[Ze P "__name__" 165 Zm,Ze P "__doc__" 166 .none,Ze P "__package__" 167 .none,Ze P "__loader__" 168 (.builtin "__main__.__loader__#opaque"),Ze P "__spec__" 169 .none,Ze P "__annotations__" 170 (.ref 6),Ze P "__builtins__" 171 (.ref 4),Ze P "__file__" 173 (Zs "/claim/cut.py" 172),Ze P "__cached__" 174 .none,Ze P "pages" 201 (.ref 21),Ze P "PageError" 221 (.ref 31),Ze P "OutOfBook" 250 (.ref 51),Ze P "NoRow" 275 (.ref 70),Ze P "NoMark" 291 (.ref 82),Ze P "LETTERS_AND_FIGURES" 295 (Zs "abcdefghijklmnopqrstuvwxyzABCDEFGHIJKLMNOPQRSTUVWXYZ0123456789" 294),Ze P "shown" 303 (.ref 91),Ze P "key_of" 309 (.ref 96),Ze P "rank" 315 (.ref 101),Ze P "fits" 325 (.ref 108),Ze P "poured" 338 (.ref 115),Ze P "copied" 345 (.ref 122),Ze P "mark_rank" 352 (.ref 129),Ze P "stretches" 365 (.ref 136),Ze P "strong_by_page" 379 (.ref 143),Ze P "goes_on" 388 (.ref 150),Ze P "entries" 396 (.ref 155),Ze P "refuse_unfit" 405 (.ref 162),Ze P "marks_by_path" 416 (.ref 169),Ze P "deed_fits" 427 (.ref 176),Ze P "moved_book" 436 (.ref 183),Ze P "moved_marks" 445 (.ref 190),Ze P "behind_put" 451 (.ref 195),Ze P "behind_cut" 457 (.ref 200),Ze P "changes" 463 (.ref 205),Ze P "copied_stretches" 469 (.ref 210),Ze P "Keeper" 561 (.ref 274),Ze P "_law_cell_at" 571 (.ref 285),Ze P "_law_head_by" 585 (.ref 292),Ze P "_law_path_by" 591 (.ref 297),Ze P "_law_fresh" 603 (.ref 304),Ze P "_law_sees" 619 (.ref 311),Ze P "_law_book" 625 (.ref 316),Ze P "_law_settings" 633 (.ref 323),Ze P "_law_marks" 647 (.ref 330),Ze P "_law_deed_by" 655 (.ref 337),Ze P "_law_as_dict" 665 (.ref 344),Ze P "_law_leads" 671 (.ref 349),Ze P "_law_copies" 682 (.ref 356),Ze P "_law_spoil" 691 (.ref 363),Ze P "_law_step" 697 (.ref 368),Ze P "_law_looked_at" 711 (.ref 375),Ze P "law" 735 (.ref 382)] 52),
  (20,Zl "pages" 189 190 191 2 3 15 16 (.none) (.ref 17) (.ref 18) 19 199 200),
  (21,Zg "pages" 1 Z1 21),
  (30,Zd #[Ze P "__module__" 211 Z2,Ze P "__firstlineno__" 215 (.int 14 214),Ze P "__static_attributes__" 216 (.ref 29),Ze P "__weakref__" 218 (.ref 32),Ze P "__doc__" 219 .none] 3),
  (31,Obj.mk (.type "type") none (Data.cls (ClassData.mk (ofString "PageError") [.type "ValueError"] [.ref 31,.type "ValueError",.type "Exception",.type "BaseException",.type "object"] 30 (ofString "PageError") true [] [.ref 51,.ref 70,.ref 82] false none false)) #[some (.ref 22),none,some (Zs "PageError" 204),some (Zs "PageError" 212),some (.builtin "ValueError.__new__"),some (.bool true)]),
  (50,Zy P 229 Z2 233 16 232 243 48 247 49 248),
  (51,Zx "OutOfBook" 51 50 #[some (.ref 35),none,some (Zs "OutOfBook" 222),some (Zs "OutOfBook" 230),some (.builtin "ValueError.__new__"),some (.bool true)]),
  (69,Zy P 258 Z2 262 22 261 270 67 272 68 273),
  (70,Zx "NoRow" 70 69 #[some (.ref 54),none,some (Zs "NoRow" 251),some (Zs "NoRow" 259),some (.builtin "ValueError.__new__"),some (.bool true)]),
  (81,Zd #[Ze P "__module__" 283 Z2,Ze P "__firstlineno__" 287 (.int 26 286),Ze P "__static_attributes__" 288 (.ref 80),Ze P "__doc__" 289 .none] 2),
  (82,Zx "NoMark" 82 81 #[some (.ref 73),none,some (Zs "NoMark" 276),some (Zs "NoMark" 284),some (.builtin "ValueError.__new__"),some (.bool true)]),
  (90,Zl "shown" 296 297 298 30 1 85 86 (.none) (.ref 87) (.ref 88) 89 301 302),
  (91,Zg "shown" 9 Z3 91),
  (95,Zl "key_of" 304 305 306 35 1 92 93 .none .none .none 94 307 308),
  (96,Zg "key_of" 10 Z3 96),
  (100,Zl "rank" 310 311 312 37 1 97 98 .none .none .none 99 313 314),
  (101,Zg "rank" 11 Z3 101),
  (107,Zl "fits" 318 319 320 40 2 102 103 (.none) (.ref 104) (.ref 105) 106 323 324),
  (108,Zg "fits" 13 Z4 108),
  (114,Zl "poured" 326 327 328 42 1 109 110 (.none) (.ref 111) (.ref 112) 113 336 337),
  (115,Zg "poured" 14 Z4 115),
  (121,Zl "copied" 339 340 341 48 1 116 117 (.none) (.ref 118) (.ref 119) 120 343 344),
  (122,Zg "copied" 15 Z4 122),
  (128,Zl "mark_rank" 346 347 348 50 1 123 124 (.none) (.ref 125) (.ref 126) 127 350 351),
  (129,Zg "mark_rank" 16 Z4 129),
  (135,Zl "stretches" 355 356 357 53 2 130 131 (.none) (.ref 132) (.ref 133) 134 363 364),
  (136,Zg "stretches" 18 Z5 136),
  (142,Zl "strong_by_page" 366 367 368 62 2 137 138 (.none) (.ref 139) (.ref 140) 141 377 378),
  (143,Zg "strong_by_page" 19 Z5 143),
  (149,Zl "goes_on" 380 381 382 68 3 144 145 (.none) (.ref 146) (.ref 147) 148 386 387),
  (150,Zg "goes_on" 20 Z5 150),
  (154,Zl "entries" 391 392 393 71 4 151 152 .none .none .none 153 394 395),
  (155,Zg "entries" 22 Z6 155),
  (161,Zl "refuse_unfit" 397 398 399 77 2 156 157 (.none) (.ref 158) (.ref 159) 160 403 404),
  (162,Zg "refuse_unfit" 23 Z6 162),
  (168,Zl "marks_by_path" 406 407 408 81 1 163 164 (.none) (.ref 165) (.ref 166) 167 414 415),
  (169,Zg "marks_by_path" 24 Z6 169),
  (175,Zl "deed_fits" 419 420 421 90 2 170 171 (.none) (.ref 172) (.ref 173) 174 425 426),
  (176,Zg "deed_fits" 26 Z7 176),
  (182,Zl "moved_book" 428 429 430 93 2 177 178 (.none) (.ref 179) (.ref 180) 181 434 435),
  (183,Zg "moved_book" 27 Z7 183),
  (189,Zl "moved_marks" 437 438 439 98 2 184 185 (.none) (.ref 186) (.ref 187) 188 443 444),
  (190,Zg "moved_marks" 28 Z7 190),
  (194,Zl "behind_put" 446 447 448 101 2 191 192 .none .none .none 193 449 450),
  (195,Zg "behind_put" 29 Z7 195),
  (199,Zl "behind_cut" 452 453 454 103 2 196 197 .none .none .none 198 455 456),
  (200,Zg "behind_cut" 30 Z7 200),
  (204,Zl "changes" 458 459 460 105 2 201 202 .none .none .none 203 461 462),
  (205,Zg "changes" 31 Z7 205),
  (209,Zl "copied_stretches" 464 465 466 110 1 206 207 .none .none .none 208 467 468),
  (210,Zg "copied_stretches" 32 Z7 210),
  (223,Zk "__init__" "Keeper.__init__" 484 485 486 118 5 218 219 (.none) (.ref 220) (.ref 221) 222 492 493),
  (224,Zf "__init__" "Keeper.__init__" (zB 34 0) Z8 (.ref 223)),
  (230,Zk "do" "Keeper.do" 495 496 497 125 2 225 226 (.none) (.ref 227) (.ref 228) 229 500 501),
  (231,Zf "do" "Keeper.do" (zB 34 1) Z8 (.ref 230)),
  (237,Zk "put_in" "Keeper.put_in" 503 504 505 130 2 232 233 (.none) (.ref 234) (.ref 235) 236 508 509),
  (238,Zf "put_in" "Keeper.put_in" (zB 34 2) Z8 (.ref 237)),
  (242,Zk "take_out" "Keeper.take_out" 511 512 513 133 2 239 240 .none .none .none 241 514 515),
  (243,Zf "take_out" "Keeper.take_out" (zB 34 3) Z8 (.ref 242)),
  (249,Zk "go_on" "Keeper.go_on" 517 518 519 138 3 244 245 (.none) (.ref 246) (.ref 247) 248 525 526),
  (250,Zf "go_on" "Keeper.go_on" (zB 34 4) Z8 (.ref 249)),
  (256,Zk "rows" "Keeper.rows" 528 529 530 146 1 251 252 (.none) (.ref 253) (.ref 254) 255 532 533),
  (257,Zf "rows" "Keeper.rows" (zB 34 5) Z8 (.ref 256)),
  (263,Zk "marks_now" "Keeper.marks_now" 535 536 537 149 1 258 259 (.none) (.ref 260) (.ref 261) 262 539 540),
  (264,Zf "marks_now" "Keeper.marks_now" (zB 34 6) Z8 (.ref 263)),
  (270,Zk "entries_now" "Keeper.entries_now" 542 543 544 152 1 265 266 (.none) (.ref 267) (.ref 268) 269 546 547),
  (271,Zf "entries_now" "Keeper.entries_now" (zB 34 7) Z8 (.ref 270)),
  (273,Zd #[Ze P "__module__" 479 Z8,Ze P "__firstlineno__" 483 (.int 116 482),Ze P "__init__" 494 (.ref 224),Ze P "do" 502 (.ref 231),Ze P "put_in" 510 (.ref 238),Ze P "take_out" 516 (.ref 243),Ze P "go_on" 527 (.ref 250),Ze P "rows" 534 (.ref 257),Ze P "marks_now" 541 (.ref 264),Ze P "entries_now" 548 (.ref 271),Ze P "__static_attributes__" 554 (.ref 272),Ze P "__dict__" 556 (.ref 275),Ze P "__weakref__" 558 (.ref 276),Ze P "__doc__" 559 .none] 4),
  (274,Obj.mk (.type "type") none (Data.cls (ClassData.mk (ofString "Keeper") [.type "object"] [.ref 274,.type "object"] 273 (ofString "Keeper") true [] [] false none false)) #[none,none,some (Zs "Keeper" 472),some (Zs "Keeper" 480),some (.builtin "object.__new__"),some (.bool true)]),
  (284,Zl "_law_cell_at" 564 565 566 155 2 279 280 (.none) (.ref 281) (.ref 282) 283 569 570),
  (285,Zg "_law_cell_at" 36 Zm 285),
  (291,Zl "_law_head_by" 572 573 574 159 2 286 287 (.none) (.ref 288) (.ref 289) 290 583 584),
  (292,Zg "_law_head_by" 37 Zm 292),
  (296,Zl "_law_path_by" 586 587 588 178 2 293 294 .none .none .none 295 589 590),
  (297,Zg "_law_path_by" 38 Zm 297),
  (315,Zl "_law_book" 620 621 622 206 1 312 313 .none .none .none 314 623 624),
  (316,Zg "_law_book" 41 Zm 316),
  (322,Zl "_law_settings" 626 627 628 208 1 317 318 (.none) (.ref 319) (.ref 320) 321 631 632),
  (323,Zg "_law_settings" 42 Zm 323),
  (329,Zl "_law_marks" 634 635 636 211 3 324 325 (.none) (.ref 326) (.ref 327) 328 645 646),
  (330,Zg "_law_marks" 43 Zm 330),
  (336,Zl "_law_deed_by" 648 649 650 220 2 331 332 (.none) (.ref 333) (.ref 334) 335 653 654),
  (337,Zg "_law_deed_by" 44 Zm 337),
  (343,Zl "_law_as_dict" 656 657 658 224 1 338 339 (.none) (.ref 340) (.ref 341) 342 663 664),
  (344,Zg "_law_as_dict" 45 Zm 344),
  (348,Zl "_law_leads" 666 667 668 229 3 345 346 .none .none .none 347 669 670),
  (349,Zg "_law_leads" 46 Zm 349),
  (355,Zl "_law_copies" 672 673 674 242 1 350 351 (.none) (.ref 352) (.ref 353) 354 680 681),
  (356,Zg "_law_copies" 47 Zm 356),
  (362,Zl "_law_spoil" 683 684 685 250 1 357 358 (.none) (.ref 359) (.ref 360) 361 689 690),
  (363,Zg "_law_spoil" 48 Zm 363),
  (367,Zl "_law_step" 692 693 694 255 5 364 365 .none .none .none 366 695 696),
  (368,Zg "_law_step" 49 Zm 368),
  (374,Zl "_law_looked_at" 698 699 700 269 5 369 370 (.none) (.ref 371) (.ref 372) 373 709 710),
  (375,Zg "_law_looked_at" 50 Zm 375),
  (381,Zl "law" 712 713 714 282 1 376 377 (.none) (.ref 378) (.ref 379) 380 733 734),
  (382,Zg "law" 51 Zm 382)]
noncomputable def AA:Y8:=[3,20,21,30,31,50,51,69,70,81,82,90,91,95,96,100,101,107,108,114,115,121,122,128,129,135,136,142,143,149,150,154,155,161,162,168,169,175,176,182,183,189,190,194,195,199,200,204,205,209,210,223,224,230,231,237,238,242,243,249,250,256,257,263,264,270,271,273,274,284,285,291,292,296,297,315,316,322,323,329,330,336,337,343,344,348,349,355,356,362,363,367,368,374,375,381,382]
def VV:Program:={ Fg2 with main:={ Fg2.main with body:=[1,3,4,5,6,8,9,10,11,13,14,15,16,18,19,20,22,23,24,26,27,28,29,30,31,32,34,36,37,38,39,40,41,42,43,44,45,46,47,48,49,50,51].map b6 } }
theorem ka(P:Params):AA=map (λx=>x.fst) (KK P):=by kernel_rfl
theorem hm(w:World):(openEnds treeTable Fg2 w 5276).map (λs=>(openSeen VV [] (importedModules Fg2.main.body) (λs=>xlAt VV [] s && recOk Fg3.row.records s) true s).2)=some (openGood VV []).2:=by kernel_rfl
theorem hn(w:World):(openEnds treeTable Fg2 w 5276).map (λs=>((openSeen VV [] (importedModules Fg2.main.body) (λs=>xlAt VV [] s && recOk Fg3.row.records s) true s).1,(kHook KK AA ka).obs s))=some ((openGood VV []).1,(kHook KK AA ka).val w):=by kernel_rfl
def ws:Fg3.wellSaid=true:=by kernel_rfl
theorem hl:LeftO Fg2 VV [] (λs=>xlAt VV [] s && recOk Fg3.row.records s) (kHook KK AA ka).obs (kHook KK AA ka).val 5276:=λw=>by
 have⟨s,a,b⟩:=pc.mp (hm w);have⟨z,c,d⟩:=pc.mp (hn w);have e:s=z:=ae (a.symm.trans c);subst e;rw[a];have⟨f,g⟩:=Prod.mk.inj d;exact ef some (congr (ef Prod.mk (Prod.ext f b)) g)
end K43
namespace L2
open PySem PySem.Spec PyProof.Rows
noncomputable abbrev aQ:=Sum Int Str
def oE:aQ->Value->Bool
 |.inl k,v=>Value.isInt k v
 |.inr x,v=>Value.isStrOf x v
def JZ(w:World):aQ->Int
 |.inl k=>hashInt k
 |.inr x=>hashStr w x
theorem lG:∀{k:aQ}{v:Value},oE k v=true->(∃i t,k=Sum.inl i/\v=Value.int i t)\/(∃x t,k=Sum.inr x/\v=Value.str x t)
 |.inl i,v,h=>by
  have⟨t,e⟩:=Value.isInt_shape (k:=i) (v:=v) h;exact .inl ⟨i,t,rfl,e⟩
 |.inr x,v,h=>by
  have⟨t,e⟩:=Value.isStrOf_shape (x:=x) (v:=v) h;exact .inr ⟨x,t,rfl,e⟩
def J0(i:Int)(t:Tok):oE (.inl i) (.int i t)=true:=by simp[oE,Value.isInt]
def J1(x:Str)(t:Tok):oE (.inr x) (.str x t)=true:=by simp[oE,Value.isStrOf]
def J2(a b:Int):decide ((Sum.inl a:aQ)=Sum.inl b)=(a == b):=by
 by_cases e:a=b
 ·subst e;simp
 ·have h:¬(Sum.inl a:aQ)=Sum.inl b:=λq=>e (lw q)
  rw[be h];exact(xg.mpr e).symm
def J3(a b:Str):decide ((Sum.inr a:aQ)=Sum.inr b)=decide (a=b):=by
 by_cases e:a=b
 ·subst e;simp
 ·have h:¬(Sum.inr a:aQ)=Sum.inr b:=λq=>e (Sum.inr.inj q)
  rw[be h,be e]
def J4(a:Int)(b:Str):decide ((Sum.inl a:aQ)=Sum.inr b)=false:=be (λq=>nomatch q)
def J5(a:Str)(b:Int):decide ((Sum.inr a:aQ)=Sum.inl b)=false:=be (λq=>nomatch q)
def fK(prog:Program)(w:World):PySem.KeyKind prog w aQ where
 is:=oE
 hash:=JZ w
 inj:=λv a b ha hb=>by
  rcases lG ha with⟨i,t,rfl,rfl⟩|⟨x,t,rfl,rfl⟩
  ·rcases lG hb with⟨j,u,rfl,e⟩|⟨y,u,rfl,e⟩
   ·injection e with e1 _;rw[e1]
   ·exact nomatch e
  ·rcases lG hb with⟨j,u,rfl,e⟩|⟨y,u,rfl,e⟩
   ·exact nomatch e
   ·injection e with e1 _;rw[e1]
 byValue:=λk v h=>by
  rcases lG h with⟨i,t,rfl,rfl⟩|⟨x,t,rfl,rfl⟩ <;> rfl
 pyHash:=λhv h=>by
  rcases lG hv with⟨i,t,rfl,rfl⟩|⟨x,t,rfl,rfl⟩
  ·exact tq h
  ·exact uq h
 eqBool:=λhu hv h=>by
  rcases lG hu with⟨i,t,rfl,rfl⟩|⟨x,t,rfl,rfl⟩
  ·rcases lG hv with⟨j,u,rfl,rfl⟩|⟨y,u,rfl,rfl⟩
   ·rw[J2]at h;exact wpAny_eqBool_int h
   ·rw[J4]at h;exact SeqAt.EqAt.int_str i t y u _ _ _ _ h
  ·rcases lG hv with⟨j,u,rfl,rfl⟩|⟨y,u,rfl,rfl⟩
   ·rw[J5]at h;exact SeqAt.EqAt.str_int x t j u _ _ _ _ h
   ·rw[J3]at h;exact wpAny_eqBool_str h
 «strs»:=λk x t v h=>by
  rcases lG h with⟨i,u,rfl,e⟩|⟨y,u,rfl,e⟩
  ·exact nomatch e
  ·injection e with e1 _
   subst e1
   cases v <;> rfl
def J6(prog:Program)(w:World)(i:Int)(t:Tok):(fK prog w).is (.inl i) (.int i t)=true:=J0 i t
def Ka(prog:Program)(w:World)(x:Str)(t:Tok):(fK prog w).is (.inr x) (.str x t)=true:=J1 x t
inductive V where
 |non|bl (b:Bool)|int (i:Int)|str (x:Str)|byt (b:Array UInt8)|flt (b:UInt64)|ref (a:Addr)|ty (n:String)
 deriving DecidableEq
abbrev U6:=List V
def bu:V->Value->Prop
 |.non,u=>u=Value.none
 |.bl b,u=>u=Value.bool b
 |.int i,u=>∃t,u=Value.int i t
 |.str x,u=>∃t,u=Value.str x t
 |.byt b,u=>∃t,u=Value.bytes b t
 |.flt b,u=>∃t,u=Value.float b t
 |.ref a,u=>u=Value.ref a
 |.ty n,u=>u=Value.type n
abbrev bC:U6->U9->Prop:=Paired bu
theorem bC.length(r:bC xs us):xs.length=us.length:=Paired.length r
theorem bC.get:∀{xs:U6}{us:U9}{i:Nat}{x:V},bC xs us->xs[i]?=some x->∃u,us[i]?=some u/\bu x u
 |_,_,_,_,.nil,e=>by simp at e
 |_,_,0,_,.cons r _,e=>by simp at e;subst e;exact⟨_,rfl,r⟩
 |_,_,i+1,x,.cons _ t,e=>by
  obtain⟨u,a,b⟩:=bC.get (i:=i) (x:=x) t (by simpa using e);exact⟨u,by simpa using a,b⟩
theorem bC.set(r:bu x u):∀{xs:U6}{us:U9} (i:Nat),bC xs us->bC (xs.set i x) (us.set i u)
 |_,_,_,.nil=>.nil
 |_,_,0,.cons _ t=>.cons r t
 |_,_,i+1,.cons q t=>.cons q (bC.set r i t)
theorem bC.append:∀{xs ys:U6}{us a:U9},bC xs us->bC ys a->bC (xs++ys) (us++a)
 |_,_,_,_,.nil,s=>s
 |_,_,_,_,.cons r t,s=>.cons r (bC.append t s)
theorem bC.take:∀{xs:U6}{us:U9} (n:Nat),bC xs us->bC (xs.take n) (us.take n)
 |_,_,0,_=>.nil
 |_,_,_+1,.nil=>.nil
 |_,_,n+1,.cons r t=>.cons r (bC.take n t)
theorem bC.drop:∀{xs:U6}{us:U9} (n:Nat),bC xs us->bC (xs.drop n) (us.drop n)
 |_,_,0,r=>r
 |_,_,_+1,.nil=>.nil
 |_,_,n+1,.cons _ t=>bC.drop n t
def gw:Option V->Y0->Prop
 |some v,some u=>bu v u
 |none,none=>True
 |_,_=>False
def KV{κ:Type}:List (κ×V)->List (κ×Value)->Prop:=Paired λ(p:κ×V) (q:κ×Value)=>p.1=q.1/\bu p.2 q.2
def kV:aQ->V
 |.inl i=>.int i
 |.inr x=>.str x
inductive HO where
 |lst (xs:U6)
 |tup (xs:U6)
 |dK (kvs:List (aQ×V))|dT (kvs:List (List aQ×V))
 |set (S:Int->Bool) (n:Nat)
 |ins (C dx:Addr) (fs:List (Str×V))
 |own (x:Addr)
 |xd (fs:List (Str×V))
 |met (f x:Addr)
 |rng (lo hi:Int)
 |frz (o:Obj) (u:HO)
 |tbl (ps:Y4)
 |ext (φ:Heap->Prop)
noncomputable abbrev Hp:=Addr->Option HO
def aF(H:Hp)(a:Addr)(o:HO):Hp:=λb=>if b=a then some o else H b
def aT:aF H a o a=some o:=by unfold aF;rw[ya rfl]
def aI(h:b≠a):aF H a o b=H b:=by unfold aF;rw[ic h]
def yR{H:Hp}(h:H a=some o)(h':H b=some u)(d:o≠u):a≠b:=by
 intro e;subst e;rw[h]at h';exact d (ae h')
def dP{H:Hp}(h:H a=some o)(h':H b=none):a≠b:=by
 intro e;subst e;rw[h]at h';cases h'
section
variable (P:Program)(w:World)
def cF(H:Hp)(h:Heap)(a:Addr):HO->Prop
 |.lst xs=>xs.length<=sizeLine/\∃(b:U9) (n:Nat),bC xs b/\h.get? a=some { cls:=.type "list",data:=.seq b.toArray n }
 |.tup xs=>xs.length<=sizeLine/\∃b:U9,bC xs b/\IsTup h a b.toArray
 |.dK kvs=>kvs.length<=sizeLine/\(a == sysModules)=false/\∃vs,KV kvs vs/\h.DictOf (fK P w) a vs
 |.dT kvs=>kvs.length<=sizeLine/\(a == sysModules)=false/\∃xs:List (List aQ×Addr×Value),
   Paired (λ(p:List aQ×V) (q:List aQ×Addr×Value)=>p.1=q.1/\H q.2.1=some (.tup (p.1.map kV))/\bu p.2 q.2.2) kvs xs ∧
   ∃o es ep,h.get? a=some o/\o.ExactDict/\o.data=.dict es ep/\es.toList=xs.map (entryOfKey (tupleKind (fK P w)))/\(xs.map (·.1)).Nodup
 |.set S n=>h.SetOf (intKind P w) a S n
 |.ins C dx fs=>H dx=some (.own a)/\fs.length<=1000/\dx≠a/\h.get? a=some (instObj C dx) ∧
   ∃mA,h.Ns1 dx mA/\(∀f,gw (fs.lookup f) (mA f))/\Within mA (fs.map (·.1))
 |.own _=>∃o,h.get? a=some o
 |.xd fs=>∃mA,h.Ns1 a mA/\∀f,gw (fs.lookup f) (mA f)
 |.rng lo hi=>∃t u v,h.get? a=some { cls:=.type "range",data:=.fields #[.int lo t,.int hi u,.int 1 v] }
 |.frz o u=>h.get? a=some o/\cF H h a u
 |.tbl ps=>h.get? a=some { cls:=.none,data:=.fields ps }
 |.met f x=>h.get? a=some (methodObj (.ref f) (.ref x))
 |.ext c=>c h/\(∃o,h.get? a=some o)/\∀h1 h2:Heap,c h1->(∀o,h1.get? a=some o->h2.get? a=some o)->c h2
def dl(H:Hp)(h:Heap):Prop:=∀a o,H a=some o->cF P w H h a o
end
section
variable {h h':Heap}
theorem cF.lt(x:cF P w H h a o):a<h.objs.size:=by
 cases o with
 |lst xs=>obtain⟨_,_,_,_,e⟩:=x;exact zd e
 |tup xs=>obtain⟨_,_,_,p⟩:=x;exact p.lt
 |dK kvs=>obtain⟨_,_,_,_,o,_,_,e,_⟩:=x;exact zd e
 |dT kvs=>obtain⟨_,_,_,_,o,_,_,e,_⟩:=x;exact zd e
 |set S n=>obtain⟨o,_,_,_,e,_⟩:=x;exact zd e
 |ins C b fs=>obtain⟨_,_,_,e,_⟩:=x;exact zd e
 |own y=>obtain⟨_,e⟩:=x;exact zd e
 |xd fs=>obtain⟨_,⟨_,_,_,e,_⟩,_⟩:=x;exact zd e
 |rng c g=>obtain⟨_,_,_,e⟩:=x;exact zd e
 |frz ob u=>obtain⟨e,_⟩:=x;exact zd e
 |tbl ps=>exact zd (show h.get? a=some _ from x)
 |met f y=>exact zd (show h.get? a=some _ from x)
 |ext i=>obtain⟨_,⟨_,e⟩,_⟩:=x;exact zd e
theorem Paired.mapP{g h:Type}{F G:g->h->Prop}:∀{c:List g}{e:List h},Paired F c e->(∀a b,F a b->G a b)->Paired G c e
 |_,_,.nil,_=>.nil
 |_,_,.cons r t,f=>.cons (f _ _ r) (Paired.mapP t f)
theorem cF.stay(x:cF P w H h a o)(k:∀b u,(b=a\/H b=some (.own a))->h.get? b=some u->h'.get? b=some u)(m:∀b,H b=some (.own a)->H' b=some (.own a))(s:∀b xs,H b=some (.tup xs)->H' b=some (.tup xs)):cF P w H' h' a o:=by
 induction o with
 |lst xs=>obtain⟨z,g,n,r,e⟩:=x;exact⟨z,g,n,r,k _ _ 'j' e⟩
 |tup xs=>obtain⟨z,g,r,ob,e,c⟩:=x;exact⟨z,g,r,ob,k _ _ 'j' e,c⟩
 |dK kvs=>obtain⟨z,y,vs,r,ob,es,ep,e,c⟩:=x;exact⟨z,y,vs,r,ob,es,ep,k _ _ 'j' e,c⟩
 |dT kvs =>
  obtain⟨z,y,xs,r,ob,es,ep,e,c⟩:=x;exact⟨z,y,xs,Paired.mapP r λp q z=>⟨z.1,s _ _ z.2.1,z.2.2⟩,ob,es,ep,k _ _ 'j' e,c⟩
 |set S n=>obtain⟨ob,es,ep,t,e,c⟩:=x;exact⟨ob,es,ep,t,k _ _ 'j' e,c⟩
 |ins C B fs =>
  obtain⟨d,z,l,e,i,⟨j,es,ep,e2,c⟩,r⟩:=x;exact⟨m _ d,z,l,k _ _ 'j' e,i,⟨j,es,ep,k _ _ (.inr d) e2,c⟩,r⟩
 |own y=>obtain⟨ob,e⟩:=x;exact⟨ob,k _ _ 'j' e⟩
 |xd fs=>obtain⟨i,⟨j,es,ep,e,c⟩,r⟩:=x;exact⟨i,⟨j,es,ep,k _ _ 'j' e,c⟩,r⟩
 |rng E F=>obtain⟨t,u,v,e⟩:=x;exact⟨t,u,v,k _ _ 'j' e⟩
 |frz ob u A=>obtain⟨e,q⟩:=x;exact⟨k _ _ 'j' e,A q⟩
 |tbl ps =>
  have e:h.get? a=some { cls:=.none,data:=.fields ps }:=x;show h'.get? a=some { cls:=.none,data:=.fields ps };exact k a _ 'j' e
 |met f y =>
  have e:h.get? a=some (methodObj (.ref f) (.ref y)):=x;show h'.get? a=some (methodObj (.ref f) (.ref y));exact k a _ 'j' e
 |ext G=>obtain⟨p,⟨o,e⟩,st⟩:=x;exact⟨st _ _ p λo q=>k _ _ 'j' q,⟨o,k _ _ 'j' e⟩,st⟩
theorem dl.lt(x:dl P w H h)(e:H a=some o):a<h.objs.size:=(x a o e).lt
theorem dl.fresh(x:dl P w H h)(e:h.objs.size<=a):H a=none:=by
 cases q:H a with
 |none=>rfl
 |some u=>exact absurd (vd (x.lt q) e) (yj _)
def dl.kept(x:dl P w H h)(k:∀b u,h.get? b=some u->h'.get? b=some u):dl P w H h':=λa o e =>
 (x a o e).stay (λb u _ q=>k b u q) (λ_ q=>q) λ_ _ q=>q
def dl.laid(x:dl P w H h)(k:∀b u,h.get? b=some u->h'.get? b=some u)(g:h.objs.size<=a)(new:cF P w (aF H a o) h' a o):dl P w (aF H a o) h':=λb u e=>by
 have hn:=x.fresh g;by_cases f:b=a
 ·subst f;rw[aT]at e;cases e;exact new
 ·rw[aI f]at e
  exact(x b u e).stay (λc v _ q=>k c v q) (λc q=>by rw[aI (dP q hn)];exact q) λc xs q=>by rw[aI (dP q hn)];exact q
end
def Rd(H:Hp)(a:Addr)(u:HO):Prop:=H a=some u\/∃o,H a=some (.frz o u)
def Rd.of(h:H a=some u):Rd H a u:=.inl h
def Rd.ok(r:Rd H a u)(x:dl P w H h):cF P w H h a u:=by
 rcases r with r|⟨o,r⟩
 ·exact x a u r
 ·have⟨_,q⟩:=x a _ r
  exact q
def sD:Option HO->Prop
 |some (.lst _)=>True
 |some (.dK _)=>True
 |some (.dT _)=>True
 |some (.set _ _)=>True
 |some (.ins _ _ _)=>True
 |some (.ext _)=>True
 |_=>False
section
variable {h h':Heap}
def dl.write(ok:dl P w H h)(j:sD (H x))(n:e=x\/H e=some (.own x))(k:∀b u,b≠e->h.get? b=some u->h'.get? b=some u)(l:∃u,h'.get? e=some u)(new:cF P w (aF H x o') h' x o'):dl P w (aF H x o') h':=λb u q=>by
 have f:∀c y,H c=some (.own y)->c≠x:=λc y r z=>by subst z;rw[r]at j;exact j
 have g:∀c xs,H c=some (.tup xs)->c≠x:=λc xs r z=>by subst z;rw[r]at j;exact j
 by_cases i:b=x
 ·subst i;rw[aT]at q;cases q;exact new
 ·rw[aI i]at q
  by_cases a:b=e
  ·have m:H b=some (.own x):=by
    rcases n with z|z
    ·exact absurd (a.trans z) i
    ·rw[a];exact z
   rw[q]at m;cases m;obtain⟨v,o⟩:=l;exact⟨v,by rw[a];exact o⟩
  ·refine(ok b u q).stay (λc v hc r=>k c v ?_ r) (λc r=>by rw[aI (f c b r)];exact r) λc xs r=>by rw[aI (g c xs r)];exact r
   rcases hc with rfl|hc
   ·exact a
   ·rintro rfl
    rcases n with z|z
    ·exact f c b hc z
    ·rw[hc]at z;cases z;exact i rfl
end
structure Un(fs ex:Y8)(H H':Hp)(h h':Heap):Prop where
 keep:∀b o,h.get? b=some o->H b=none->b ∉ fs->b ∉ ex->h'.get? b=some o
 slot:∀b o,h.get? b=some o->H b=none->b∈fs->b ∉ ex->∃sl,h'.get? b=some { o with slots:=sl }
 free:∀b o,h.get? b=some o->H b=none->b ∉ ex->H' b=none
 there:∀b o,h.get? b=some o->b ∉ ex->∃o',h'.get? b=some o'
 tups:∀b xs,H b=some (.tup xs)->H' b=some (.tup xs)
 frzs:∀b o u,H b=some (.frz o u)->H' b=some (.frz o u)
 tbls:∀b ps,H b=some (.tbl ps)->∃more,H' b=some (.tbl (ps++more))
section
variable {fs ex:Y8}{H:Hp}{h h1 h':Heap}
def Un.any(u:Un fs ex H H1 h h1)(q:h.get? b=some ob)(n:H b=none)(c:b ∉ ex):∃sl,h1.get? b=some { ob with slots:=sl }:=by
 by_cases a:b∈fs
 ·exact u.slot b ob q n a c
 ·exact⟨ob.slots,u.keep b ob q n a c⟩
def Un.kept(k:∀b u,h.get? b=some u->h'.get? b=some u):Un fs ex H H h h' :=
 ⟨λb ob q _ _ _=>k b ob q,λb ob q _ _ _=>⟨ob.slots,k b ob q⟩,λ_ _ _ n _=>n,λb ob q _=>⟨ob,k b ob q⟩,λ_ _ q=>q,λ_ _ _ q=>q,λ_ ps q=>⟨#[],by rw[q];simp⟩⟩
def Un.refl:Un fs ex H H h h:=Un.kept λ_ _ q=>q
def Un.laid(k:∀b u,h.get? b=some u->h'.get? b=some u)(hp:h.objs.size<=a)(hn:H a=none):Un fs ex H (aF H a o) h h' where
 keep:=λb u q _ _ _=>k b u q
 slot:=λb u q _ _ _=>⟨u.slots,k b u q⟩
 free:=λb u q n _=>by rw[aI (af (vd (zd q) hp))];exact n
 there:=λb u q _=>⟨u,k b u q⟩
 tups:=λb xs q=>by rw[aI (dP q hn)];exact q
 frzs:=λb u xs q=>by rw[aI (dP q hn)];exact q
 tbls:=λb ps q=>⟨#[],by rw[aI (dP q hn),q];simp⟩
def Un.write(c:sD (H x))(l:e=x\/H e=some (.own x))(k:∀b u,b≠e->h.get? b=some u->h'.get? b=some u)(f:∃u,h'.get? e=some u):Un fs ex H (aF H x o) h h':=by
 have g:∀b,H b=none->b≠x:=λb n z=>by subst z;rw[n]at c;exact c
 have i:∀b,H b=none->b≠e:=λb n z=>by
  subst z;rcases l with r|r
  ·exact g b n r
  ·rw[n]at r;cases r
 have hm:∀b u,H b=some u->¬sD (some u)->b≠x:=λb u q j z=>by subst z;rw[q]at c;exact j c
 refine⟨λ b u q n _ _=>k b u (i b n) q,λ b u q n _ _=>⟨u.slots,k b u (i b n) q⟩,λ b u q n _=>by rw[aI (g b n)];exact n,λ b u q _=>?_,
  λb xs q=>by rw[aI (hm b _ q λz=>z)];exact q,λb u xs q=>by rw[aI (hm b _ q λz=>z)];exact q,λb ps q=>⟨#[],by rw[aI (hm b _ q λz=>z),q];simp⟩⟩
 by_cases a:b=e
 ·subst a;exact f
 ·exact⟨u,k b u a q⟩
end
def vz(h:Heap)(H:Hp):Y8:=(List.range h.objs.size).filter λa=>(H a).isSome
def mv(h:Heap)(H:Hp):Heap:=PySem.W.hideAll h (vz h H)
def Kb(h:Heap)(H:Hp):(mv h H).objs.size=h.objs.size:=PySem.W.hideAll_size _ _
def Kc(e:h.get? b=some o)(n:H b=none):(mv h H).get? b=some o :=
 PySem.W.hideAll_get _ e λhm=>by
  have q:(H b).isSome=true:=(dh.mp hm).2;rw[n]at q;simp at q
theorem Kd(e:(mv h H).get? b=some o):h.get? b=some o/\H b=none:=by
 have a:h.get? b=some o:=PySem.W.of_hideAll (vz h H) e;refine⟨a,?_⟩
 cases q:H b with
 |none=>rfl
 |some x =>
  have hm:b∈vz h H:=dh.mpr ⟨ug.mpr (zd a),by simp[q]⟩;have z:(mv h H).get? b=none:=PySem.W.hideAll_none (vz h H) hm;rw[z]at e;cases e
structure Mod(K:Fg1)(mg:Str->Y0)(base:Heap):Prop where
 kin:K.In base
 glob:base.Ns mainGlobals mg
 blt:∃mb,base.Ns builtinsNs mb/\∀x:Str,x ≠ "__name__" -> mb x=bootBuiltins x
 nolimit:base.NoLimit
structure Cx where
 prog:Program
 w:World
 K:Fg1
 mg:Str->Y0
 base:Heap
 A:Around
 N:U8
 s₀:Shared
 H₀:Hp
 env:Env
 outer:Yb
 stack:Yb
 ex:Y8
 fn:Str->Bool
 calm:Bool
 pn:U1
 xe:U2
noncomputable def jB(l:Yb):Y8:=l.filterMap (·.frame)
abbrev Cx.fs(X:Cx):Y8:=jB X.outer
def cZ(sc:Scope)(x:Str):Prop:=sc.names.lookup x=some .local\/sc.names.lookup x=some .cell\/sc.names.lookup x=some .free
def dQ(sc:Scope)(x:Str):Prop:=sc.names.lookup x=some .local\/sc.names.lookup x=some .cell
def Ke(env:Env)(h:Heap)(m:Str->Y0)(x:Str)(u:Value):Prop :=
 (env.kindOf x=some .local/\m x=some u)\/((env.kindOf x=some .cell\/env.kindOf x=some .free)/\∃c,env.cells.lookup x=some c/\h.IsCell c (some u))
structure Cx.Ok(X:Cx):Prop where
 mod:Mod X.K X.mg X.base
 kind:X.env.scope.kind=.function
 glob:X.env.globals=mainGlobals
 blt:X.env.builtins=builtinsNs
 above:X.s₀.heap.objs.size<=X.env.locals
 inj:∀x y c,X.env.cells.lookup x=some c->X.env.cells.lookup y=some c->x=y
 has:∀x,(X.env.kindOf x=some .cell\/X.env.kindOf x=some .free)->∃c,X.env.cells.lookup x=some c
 cab:∀x c,X.fn x=true->X.env.cells.lookup x=some c->X.s₀.heap.objs.size<=c
 hd:X.calm=true->X.A.handled=none
 frames:X.A.frames=some X.stack
 stk:X.stack=X.outer\/(X.stack=X.env::X.outer/\X.env.frame=some X.env.locals)
 exf:∀b∈X.ex,b≠X.env.locals/\∀x c,X.env.cells.lookup x=some c->c≠b
 bs:∀b o,X.base.get? b=some o->X.s₀.heap.get? b=some o/\X.H₀ b=none
 bsz:X.base.objs.size<=X.s₀.heap.objs.size
 noex:∀b o,X.base.get? b=some o->b ∉ X.ex
 exfs:∀b∈X.ex,b ∉ X.fs
 funs:X.s₀.heap.FunFrames X.base X.outer
 frf:∀b∈X.fs,X.H₀ b=none
structure az(X:Cx)(pins:U1)(σ:List (Option V))(H:Hp)(s:Shared):Prop where
 ok:X.Ok
 os:s.os=X.s₀.os
 bare:AllBare s.gens
 base:Un X.fs X.ex X.H₀ H X.s₀.heap s.heap
 loc:∃m,s.heap.Ns X.env.locals m/\∀(i:Nat) (x:Str) (v:V),X.N[i]?=some x->σ[i]?=some (some v)->cZ X.env.scope x->∃u,bu v u/\Ke X.env s.heap m x u
 cell:∀x c,X.env.cells.lookup x=some c->∃v,s.heap.IsCell c v
 free:H X.env.locals=none
 freeC:∀x c,X.env.cells.lookup x=some c->H c=none
 pin:∀p∈X.pn++pins,s.heap.get? p.1=some p.2/\H p.1=none/\p.1≠X.env.locals/\p.1 ∉ X.fs/\∀v,p.2.data≠.cell v
 hok:dl X.prog X.w H s.heap
 len:σ.length=X.N.length
section
variable {X:Cx}{σ:List (Option V)}{s:Shared}{h':Heap}
def Cx.Ok.nofr(ok:X.Ok)(e:X.base.get? b=some o):b ∉ X.fs:=λa=>by
 have:=(ok.funs.mem a).1
 rw[e]at this;cases this
theorem az.bs(I:az X pins σ H s):∀b o,X.base.get? b=some o->s.heap.get? b=some o/\H b=none:=λb o e =>
 ⟨I.base.keep b o (I.ok.bs b o e).1 (I.ok.bs b o e).2 (I.ok.nofr e) (I.ok.noex b o e),I.base.free b o (I.ok.bs b o e).1 (I.ok.bs b o e).2 (I.ok.noex b o e)⟩
def az.bk(I:az X pins σ H s):∀b o,X.base.get? b=some o->s.heap.get? b=some o:=λb o e=>(I.bs b o e).1
theorem az.mod(I:az X pins σ H s):Mod X.K X.mg X.base:=I.ok.mod
def az.kIn(I:az X pins σ H s):X.K.In s.heap:=I.ok.mod.kin.keeps I.bk
theorem az.lt(I:az X pins σ H s):X.env.locals<s.heap.objs.size:=let ⟨_,hn,_⟩:=I.loc;hn.lt
def az.sz(I:az X pins σ H s):X.s₀.heap.objs.size<=s.heap.objs.size:=re I.ok.above (vv I.lt)
def az.nofs(I:az X pins σ H s)(h:s.heap.objs.size<=a):a ∉ X.fs:=λb=>by
 have⟨_,o,c,_⟩:=I.ok.funs.mem b
 exact absurd (vd (zd c) (re I.sz h)) (yj _)
def az.cne(I:az X pins σ H s):∀x c,X.env.cells.lookup x=some c->c≠X.env.locals:=λx c e z=>by
 have⟨v,o,f,g⟩:=I.cell x c e;have⟨m,⟨h,es,ep,a,b,_⟩,_⟩:=I.loc;rw[z,a]at f;cases f;rw[b]at g;cases g
theorem az.funs(I:az X pins σ H s):s.heap.FunFrames X.base X.outer:=by
 have all:∀(l:Yb),(∀b∈jB l,b∈X.fs)->X.s₀.heap.FunFrames X.base l->s.heap.FunFrames X.base l:=by
  intro l
  induction l with
  |nil=>intro _ _;trivial
  |cons env r m =>
   intro hs hl;obtain⟨g,⟨L,o,c,hn,h,i⟩,j⟩:=hl;have f:L∈X.fs:=hs L (by unfold jB;rw[jo,c];exact cc);have⟨sl,e⟩:=I.base.slot L o h (I.ok.frf L f) f λz=>I.ok.exfs L z f
   exact⟨g,⟨L,_,c,hn,e,i⟩,m (λb a=>hs b (by unfold jB;rw[jo,c];exact ua _ a)) j⟩
 exact all X.outer (λ_ a=>a) I.ok.funs
theorem az.stack(I:az X pins σ H s):s.heap.FunFrames X.base X.stack:=by
 rcases I.ok.stk with e|⟨e,a⟩
 ·rw[e];exact I.funs
 ·rw[e]
  have⟨m,hn,_⟩:=I.loc;refine .cons (by rw[I.ok.kind];decide) a hn ?_ I.funs
  exact Heap.get?_none_of_le (re I.ok.bsz I.ok.above)
def az.stkSub(I:az X pins σ H s):∀b∈jB X.stack,b∈X.env.locals::X.fs:=λb a=>by
 rcases I.ok.stk with e|⟨e,c⟩
 ·rw[e]at a;exact ua _ a
 ·rw[e]at a
  unfold jB at a;rw[jo,c]at a;exact a
def az.stkFree(I:az X pins σ H s):∀b∈jB X.stack,H b=none:=λb hb=>by
 rcases wc.mp (I.stkSub b hb) with e|hb
 ·rw[e];exact I.free
 ·have⟨_,o,a,_⟩:=I.ok.funs.mem hb
  exact I.base.free b o a (I.ok.frf b hb) λz=>I.ok.exfs b z hb
def az.step{g':Array GenState}{t':Nat}{d':Drawn}{ch:Y8}(I:az X pins σ H s)
  (h:∀b∈ch,(b∈X.ex\/X.s₀.heap.objs.size<=b)/\b≠X.env.locals/\(∀x c,X.env.cells.lookup x=some c->c≠b)/\∀p∈X.pn++pins,p.1≠b)
  (j:∀b o,b≠X.env.locals->b ∉ X.fs->b ∉ ch->s.heap.get? b=some o->H b=none->h'.get? b=some o)
  (A:∀b o,b≠X.env.locals->b∈X.fs->b ∉ ch->s.heap.get? b=some o->H b=none->∃sl,h'.get? b=some { o with slots:=sl }) (free:∀b o,b ∉ ch->s.heap.get? b=some o->H b=none->H' b=none)
  (there:∀b o,b ∉ ch->s.heap.get? b=some o->∃o',h'.get? b=some o')
  (tups:∀b xs,H b=some (.tup xs)->H' b=some (.tup xs)) (F:∀b o u,H b=some (.frz o u)->H' b=some (.frz o u)) (G:∀b ps,H b=some (.tbl ps)->∃J,H' b=some (.tbl (ps++J)))
  (U:∀m,s.heap.Ns X.env.locals m->h'.Ns X.env.locals m) (L:dl X.prog X.w H' h') (Y:AllBare g') :
  az X pins σ H' { s with heap:=h',gens:=g',drawn:=d',toks:=t' }:=by
 have E:∀b o,X.s₀.heap.get? b=some o->b≠X.env.locals:=λb o e=>af (vd (zd e) I.ok.above)
 have y:∀b o,X.s₀.heap.get? b=some o->b ∉ X.ex->b ∉ ch:=λb o e a B=>by
  rcases(h b B).1 with z|z
  ·exact a z
  ·exact absurd (vd (zd e) z) (yj _)
 have f:∀x c,X.env.cells.lookup x=some c->∀v,s.heap.IsCell c v->h'.IsCell c v:=λx c e v ⟨o,C,K⟩=>by
  have g:c ∉ ch:=λz=>(h c z).2.2.1 x c e rfl
  by_cases P:c∈X.fs
  ·have⟨sl,q⟩:=A c o (I.cne x c e) P g C (I.freeC x c e)
   exact⟨_,q,K⟩
  ·exact⟨o,j c o (I.cne x c e) P g C (I.freeC x c e),K⟩
 refine⟨I.ok,I.os,Y,⟨λb o e n B a=>?_,λb o e n B a=>?_,λb o e n a=>?_,λb o e a=>?_,λb xs e=>tups b xs (I.base.tups b xs e),λb o xs e=>F b o xs (I.base.frzs b o xs e),λb ps e=>?_⟩,?_,λx c e=>?_,?_,λx c e=>?_,λp M=>?_,L,I.len⟩
 ·exact j b o (E b o e) B (y b o e a) (I.base.keep b o e n B a) (I.base.free b o e n a)
 ·have⟨sl,e1⟩:=I.base.slot b o e n B a
  have⟨sl',e2⟩:=A b _ (E b o e) B (y b o e a) e1 (I.base.free b o e n a);exact⟨sl',e2⟩
 ·have⟨o',e1⟩:=I.base.there b o e a
  exact free b o' (y b o e a) e1 (I.base.free b o e n a)
 ·have⟨o',e1⟩:=I.base.there b o e a
  exact there b o' (y b o e a) e1
 ·have⟨R,e1⟩:=I.base.tbls b ps e
  have⟨T,e2⟩:=G b _ e1;exact⟨R++T,by rw[e2,Array.append_assoc]⟩
 ·have⟨m,hn,hl⟩:=I.loc
  refine⟨m,U m hn,λi x v e1 e2 Q=>?_⟩;have⟨u,r,l⟩:=hl i x v e1 e2 Q;refine⟨u,r,?_⟩;rcases l with l|⟨k,c,e,z⟩
  ·exact .inl l
  ·exact .inr ⟨k,c,e,f x c e _ z⟩
 ·have⟨v,z⟩:=I.cell x c e
  exact⟨v,f x c e v z⟩
 ·have⟨m,⟨o,_,_,C,_⟩,_⟩:=I.loc
  exact free _ o (λz=>(h _ z).2.1 rfl) C I.free
 ·have⟨v,o,C,K⟩:=I.cell x c e
  exact free c o (λz=>(h c z).2.2.1 x c e rfl) C (I.freeC x c e)
 ·have⟨e,n,N,O,d⟩:=I.pin p M
  have g:p.1 ∉ ch:=λz=>(h p.1 z).2.2.2 p M rfl
  exact⟨j p.1 p.2 N O g e n,free p.1 p.2 g e n,N,O,d⟩
def az.un(I:az X pins σ H s)(u:Un X.fs [] H H' s.heap h')(h:dl X.prog X.w H' h'):az X pins σ H' { s with heap:=h',toks:=t' }:=by
 have⟨m,⟨o,es,ep,i,r⟩,_⟩:=id I.loc;obtain⟨sl,j⟩:=u.any i I.free 'm'
 exact I.step (g':=s.gens) (d':=s.drawn) (ch:=[]) (λ _ z=>nomatch z) (λ b o _ c _ e n=>u.keep b o e n c 'm') (λ b o _ c _ e n=>u.slot b o e n c 'm') (λ b o _ e n=>u.free b o e n 'm') (λ b o _ e=>u.there b o e 'm') u.tups u.frzs u.tbls (λ p hm=>by
  obtain⟨q,f,g,a,l⟩:=hm;rw[i]at a;cases a;exact⟨_,f,g,j,l⟩) h I.bare
def az.call(I:az X pins σ H s)(u:Un (jB X.stack) ch H H' s.heap h')(l:dl X.prog X.w H' h')(A:AllBare g')(g:∀b∈ch,(b∈X.ex\/X.s₀.heap.objs.size<=b)/\b≠X.env.locals/\(∀x c,X.env.cells.lookup x=some c->c≠b)/\∀p∈X.pn++pins,p.1≠b) :
  az X pins σ H' { s with heap:=h',gens:=g',drawn:=d',toks:=t' }:=by
 have⟨m,⟨o,es,ep,q,r⟩,_⟩:=id I.loc;have⟨sl,h⟩:=u.any q I.free λz=>(g _ z).2.1 rfl
 exact I.step (ch:=ch) g (λ b o h v a e n=>u.keep b o e n (λ z=>(mem_cons.mp (I.stkSub b z)).elim h v) a) (λ b o _ _ a e n=>u.any e n a) (λ b o a e n=>u.free b o e n a) (λ b o a e=>u.there b o e a) u.tups u.frzs u.tbls (λ B hm=>by
  obtain⟨C,i,j,f,y⟩:=hm;rw[q]at f;cases f;exact⟨_,i,j,h,y⟩) l A
def az.turned(I:az X pins σ H s)(k:∀b o,b≠it->s.heap.get? b=some o->h'.get? b=some o)(hn:H it=none)(g:it≠X.env.locals)(j:it∈X.ex\/X.s₀.heap.objs.size<=it)(l:∀x c,X.env.cells.lookup x=some c->c≠it)(w:∀p∈X.pn++pins,p.1≠it):az X pins σ H { s with heap:=h',toks:=t' }:=by
 have f:∀b u,H b=some u->b≠it:=λb u e z=>by rw[z,hn]at e;cases e
 refine I.step (g':=s.gens) (d':=s.drawn) (ch:=[it]) (λb h=>?_) (λb o _ _ a e _=>k b o (λz=>a (by simp[z])) e) (λb o _ _ a e _=>⟨o.slots,k b o (λz=>a (by simp[z])) e⟩) (λ_ _ _ _ n=>n)
  (λb o a e=>⟨o,k b o (λz=>a (by simp[z])) e⟩) (λ_ _ e=>e) (λ_ _ _ e=>e) (λb ps e=>⟨#[],by rw[e];simp⟩) (λm hm=>?_) (λb u e=>?_) I.bare
 ·have e:b=it:=by simpa using h
  subst e;exact⟨j,g,l,w⟩
 ·obtain⟨o,es,ep,i,r⟩:=hm
  exact⟨o,es,ep,k _ o (ue g) i,r⟩
 ·refine(I.hok b u e).stay (λc v a q=>k c v ?_ q) (λ_ q=>q) λ_ _ q=>q
  rcases a with z|z
  ·rw[z];exact f b u e
  ·exact f c _ z
def az.tok(I:az X pins σ H s)(t:Nat):az X pins σ H { s with toks:=t }:=I.un (h':=s.heap) (t':=t) Un.refl I.hok
theorem az.kept(I:az X pins σ H s)(k:∀b u,s.heap.get? b=some u->h'.get? b=some u):az X pins σ H { s with heap:=h',toks:=t' }:=I.un (Un.kept k) (I.hok.kept k)
theorem az.laid(I:az X pins σ H s)(k:∀b u,s.heap.get? b=some u->h'.get? b=some u)(c:s.heap.objs.size<=a)(new:cF X.prog X.w (aF H a o) h' a o) :
  az X pins σ (aF H a o) { s with heap:=h',toks:=t' }:=I.un (Un.laid k c (I.hok.fresh c)) (I.hok.laid k c new)
theorem az.write(I:az X pins σ H s)(c:sD (H x))(f:e=x\/H e=some (.own x))(k:∀b u,b≠e->s.heap.get? b=some u->h'.get? b=some u)(a:∃u,h'.get? e=some u)(new:cF X.prog X.w (aF H x o) h' x o):az X pins σ (aF H x o) { s with heap:=h',toks:=t' }:=I.un (Un.write c f k a) (I.hok.write c f k a new)
def az.weak(I:az X pins σ H s)(hl:a.length=σ.length)(w:∀(i:Nat) v,a[i]?=some (some v)->σ[i]?=some (some v)):az X pins a H s :=
 ⟨I.ok,I.os,I.bare,I.base,let ⟨m,hn,b⟩:=I.loc;⟨m,hn,λi x v e1 e2 c=>b i x v e1 (w i v e2) c⟩,I.cell,I.free,I.freeC,I.pin,I.hok,hl.trans I.len⟩
def az.pins_of(I:az X pins σ H s)(h:∀p∈a,s.heap.get? p.1=some p.2/\H p.1=none/\p.1≠X.env.locals/\p.1 ∉ X.fs/\∀v,p.2.data≠.cell v):az X a σ H s :=
 ⟨I.ok,I.os,I.bare,I.base,I.loc,I.cell,I.free,I.freeC,λp b=>(yd.mp b).elim (λz=>I.pin p (il _ z)) (h p),I.hok,I.len⟩
def CU{N:U8}(c:N.Nodup){i j:Nat}(a:N[i]?=some x)(b:N[j]?=some x):i=j:=by
 have⟨e,e1⟩:=wb.mp a;have⟨f,e2⟩:=wb.mp b;exact(List.getElem_inj c).mp (e1.trans e2.symm)
abbrev W0(X:Cx)(e:Expr)(t:Option Expr)(p:Pos):Prop:=swapsWith e t p.line X.env=pure false
abbrev W1(X:Cx)(a:Y5)(e:Expr)(b:Y5):Prop:=starEach a X.env=(false,eval e X.env)::starEach b X.env
abbrev W2(X:Cx)(p:Pos)(a:Y5):Prop:=(backTo p (starEach a X.env)).any (·.1)=false
abbrev W3(X:Cx)(x:Str):Prop:=X.fn x=true\/X.env.scope.names.lookup x=some .local
def CV(I:az X pins σ H s)(hN:X.N.Nodup)(R:X.N[i]?=some x)(g:dQ X.env.scope x)(r:bu v u)(h:∀s',az X pins (σ.set i (some v)) H s'->(∃a,Heap.SameBut a s.heap s'.heap/\(a=X.env.locals\/X.env.cells.lookup x=some a))->Q () s')(hf:W3 X x:=by first|exact .inl rfl|exact .inr rfl|assumption):wpAny M A (storeName X.env x u) Q E s:=by
 have⟨m,hn,hl⟩:=id I.loc;have O:(X.env.scope.kind == .class || (X.env.scope.kind == .module && X.env.locals != X.env.globals))=false:=by rw[I.ok.kind];rfl
 have B:i<σ.length:=by rw[I.len];exact(wb.mp R).1
 have cne:=I.cne
 have f:∀{a:Addr} {h':Heap},(∃o,s.heap.get? a=some o/\H a=none)->Heap.SameBut a s.heap h'->dl X.prog X.w H h':=λ{a h'} ha hs b ob e=>by
  obtain⟨_,_,l⟩:=ha;refine(I.hok b ob e).stay (λc T hc q=>(hs.2 c ?_).trans q) (λ_ q=>q) λ_ _ q=>q
  rintro rfl;rcases hc with rfl|hc
  ·rw[l]at e;cases e
  ·rw[l]at hc;cases hc
 rcases g with hk|hk
 ·refine wpAny_storeName_local hk hn (λh' Z hs=>?_) O
  have⟨oL,_,_,hoL,_⟩:=id hn;refine h _ ⟨I.ok,I.os,I.bare,⟨λb o e n C g=>?_,λb o e n C g=>?_,I.base.free,λb o e g=>?_,I.base.tups,I.base.frzs,I.base.tbls⟩,⟨_,Z,λj y v' e1 e2 e3=>?_⟩,λy c e=>?_,I.free,I.freeC,λp hp=>?_,f ⟨oL,hoL,I.free⟩ hs,by simpa using I.len⟩ ⟨_,hs,.inl rfl⟩
  ·exact(hs.2 b (af (vd (zd e) I.ok.above))).trans (I.base.keep b o e n C g)
  ·have⟨sl,e1⟩:=I.base.slot b o e n C g
   exact⟨sl,(hs.2 b (af (vd (zd e) I.ok.above))).trans e1⟩
  ·have⟨o',e1⟩:=I.base.there b o e g
   exact⟨o',(hs.2 b (af (vd (zd e) I.ok.above))).trans e1⟩
  ·by_cases G:j=i
   ·subst G
    rw[R]at e1;cases e1;rw[ab B]at e2;cases e2;exact⟨u,r,.inl ⟨hk,'m'⟩⟩
   ·rw[ca (ue G)]at e2
    have⟨u',r',q⟩:=hl j y v' e1 e2 e3;refine⟨u',r',?_⟩;rcases q with⟨k,e⟩|⟨k,c,e,z⟩
    ·refine .inl ⟨k,?_⟩
     have:y≠x:=λe=>G (CU hN e1 (e ▸ R))
     simp[this,e]
    ·exact .inr ⟨k,c,e,z.sameBut hs (cne y c e)⟩
  ·have⟨T,z⟩:=I.cell y c e
   exact⟨T,z.sameBut hs (cne y c e)⟩
  ·have⟨e,n,Y,nf,d⟩:=I.pin p hp
   exact⟨(hs.2 p.1 Y).trans e,n,Y,nf,d⟩
 ·have F:X.fn x=true:=by
   rcases hf with z|z
   ·exact z
   ·rw[z]at hk;cases hk
  have⟨c,hc⟩:=I.ok.has x (.inl hk);have⟨T,z⟩:=I.cell x c hc;refine wpAny_storeName_cell I.ok.kind hk hc z (λh' J hs=>?_);have⟨oc,K,L⟩:=id z;refine h { s with heap:=h' } ⟨I.ok,I.os,I.bare,⟨λb o e n C g=>?_,λb o e n C g=>?_,I.base.free,λb o e g=>?_,I.base.tups,I.base.frzs,I.base.tbls⟩,⟨m,hn.sameBut hs (ue (cne x c hc)),λj y v' e1 e2 e3=>?_⟩,λy U e=>?_,I.free,I.freeC,λp hp=>?_,f ⟨oc,K,I.freeC x c hc⟩ hs,by simpa using I.len⟩ ⟨c,hs,.inr hc⟩
  ·exact(hs.2 b (af (vd (zd e) (I.ok.cab x c F hc)))).trans (I.base.keep b o e n C g)
  ·have⟨sl,e1⟩:=I.base.slot b o e n C g
   exact⟨sl,(hs.2 b (af (vd (zd e) (I.ok.cab x c F hc)))).trans e1⟩
  ·have⟨o',e1⟩:=I.base.there b o e g
   exact⟨o',(hs.2 b (af (vd (zd e) (I.ok.cab x c F hc)))).trans e1⟩
  ·by_cases G:j=i
   ·subst G
    rw[R]at e1;cases e1;rw[ab B]at e2;cases e2;exact⟨u,r,.inr ⟨.inl hk,c,hc,J⟩⟩
   ·rw[ca (ue G)]at e2
    have⟨u',r',q⟩:=hl j y v' e1 e2 e3;refine⟨u',r',?_⟩;rcases q with q|⟨k,U,e,z'⟩
    ·exact .inl q
    ·refine .inr ⟨k,U,e,z'.sameBut hs ?_⟩
     rintro rfl;exact G (CU hN e1 (I.ok.inj _ _ _ e hc ▸ R))
  ·by_cases P:U=c
   ·subst P;exact⟨_,J⟩
   ·have⟨w2,z2⟩:=I.cell y U e
    exact⟨w2,z2.sameBut hs P⟩
  ·have⟨e,n,Y,nf,d⟩:=I.pin p hp
   refine⟨(hs.2 p.1 ?_).trans e,n,Y,nf,d⟩;intro q;rw[q,K]at e;have q':oc=p.2:=ae e;exact d T (by rw[<-q'];exact L)
def CW(I:az X pins σ H s)(b:X.N.Nodup)(c:X.N[i]?=some x)(e:dQ X.env.scope x)(r:bu v u)(h:∀s',az X pins (σ.set i (some v)) H s'->Q () s')(f:W3 X x:=by first|exact .inl rfl|exact .inr rfl|assumption):wpAny M A (storeName X.env x u) Q E s :=
 CV I b c e r (λs' a _=>h s' a) f
def az.call'(I:az X pins σ H s)(h:s'.os=s.os)(u:Un (jB X.stack) ch H H' s.heap s'.heap)(a:dl X.prog X.w H' s'.heap)(i:AllBare s'.gens)(f:∀b∈ch,(b∈X.ex\/X.s₀.heap.objs.size<=b)/\b≠X.env.locals/\(∀x c,X.env.cells.lookup x=some c->c≠b)/\∀p∈X.pn++pins,p.1≠b):az X pins σ H' s':=by
 obtain⟨h',g',d',t',g⟩:=s';have e:g=s.os:=h;subst e;exact I.call (g':=g') (t':=t') (d':=d') u a i f
end
abbrev XK:=Value->Y9->Hp->Prop
noncomputable abbrev St:=List (Option V)
abbrev VK:=V->Hp->Prop
abbrev TE:=St->Hp->VK->Prop
abbrev TT:=St->Hp->(Bool->Hp->Prop)->Prop
abbrev TA:=St->Hp->(U6->Hp->Prop)->Prop
structure iD where
 nx:St->Hp->Prop
 rt:VK
 bk:St->Hp->Prop:=λ_ _=>False
 ct:St->Hp->Prop:=λ_ _=>False
abbrev TS:=iD->St->Hp->Prop
def EP(X:Cx)(pins:U1)(σ:St)(Q:VK)(u:Value)(s':Shared):Prop:=∃v H',az X pins σ H' s'/\bu v u/\Q v H'
def TP(X:Cx)(pins:U1)(σ:St)(Q:Bool->Hp->Prop)(b:Bool)(s':Shared):Prop:=∃H',az X pins σ H' s'/\Q b H'
def AP(X:Cx)(pins:U1)(σ:St)(Q:U6->Hp->Prop)(us:U9)(s':Shared):Prop:=∃vs H',az X pins σ H' s'/\bC vs us/\Q vs H'
def SP(X:Cx)(pins:U1)(D:iD)(f:Flow)(s':Shared):Prop :=
 match f with
 |.next=>∃a H',az X pins a H' s'/\D.nx a H'
 |.brk=>∃a H',az X pins a H' s'/\D.bk a H'
 |.cont=>∃a H',az X pins a H' s'/\D.ct a H'
 |.ret u=>∃v a H',az X pins a H' s'/\bu v u/\D.rt v H'
def PE(X:Cx)(e:Expr)(t:TE):Prop :=
 ∀(pins:U1) (s:Shared) (σ:St) (H:Hp) (Q:VK),az X pins σ H s->t σ H Q->wpAny (model X.prog X.w) X.A (eval e X.env) (EP X pins σ Q) X.xe s
def PT(X:Cx)(e:Expr)(t:TT):Prop :=
 ∀(pins:U1) (s:Shared) (σ:St) (H:Hp) (Q:Bool->Hp->Prop),az X pins σ H s->t σ H Q->wpAny (model X.prog X.w) X.A (isTrue e X.env (eval e X.env)) (TP X pins σ Q) X.xe s
def PW(X:Cx)(e:Expr)(t:TT):Prop :=
 ∀(whole:Sem Value) (pins:U1) (s:Shared) (σ:St) (H:Hp) (Q:Bool->Hp->Prop),az X pins σ H s->t σ H Q->wpAny (model X.prog X.w) X.A (isTrue e X.env whole) (TP X pins σ Q) X.xe s
def PW.pt(h:PW X e t):PT X e t:=h _
def PA(X:Cx)(es:Y5)(t:TA):Prop :=
 ∀(pos:Pos) (pins:U1) (s:Shared) (σ:St) (H:Hp) (Q:U6->Hp->Prop),az X pins σ H s->t σ H Q->wpAny (model X.prog X.w) X.A (spliced (backTo pos (starEach es X.env))) (AP X pins σ Q) X.xe s
def PS(X:Cx)(st:Stmt)(t:TS):Prop :=
 ∀(pins:U1) (s:Shared) (σ:St) (H:Hp) (D:iD),az X pins σ H s->t D σ H->wpAny (model X.prog X.w) X.A (exec st X.env) (SP X pins D) X.xe s
def bv(X:Cx)(st:Yc)(t:TS):Prop :=
 ∀(pins:U1) (s:Shared) (σ:St) (H:Hp) (D:iD),az X pins σ H s->t D σ H->wpAny (model X.prog X.w) X.A (execs st X.env) (SP X pins D) X.xe s
def aW(h:wpAny M A t Q E s)(e:∀a s,Q a s->c a s):wpAny M A t c E s:=vh h e λ_ _ x=>x
section
variable {X:Cx}
def vA(i:Nat):TE:=λσ H Q=>∃v,σ[i]?=some (some v)/\Q v H
def tC(v:V):TE:=λ_ H Q=>Q v H
def cR(q:X.N[i]?=some x)(w:cZ X.env.scope x)(j:(x == 'g')=false:=by decide)(n:(x == 'c')=false:=by decide):PE X (.Name x g) (vA i):=by
 intro f s p H Q I h;obtain⟨v,e,h⟩:=h;have⟨m,hn,hl⟩:=I.loc;have⟨u,r,l⟩:=hl i x v q e w;have b:EP X f p Q u s:=⟨v,H,I,r,h⟩
 rcases l with⟨hk,hm⟩|⟨hk,c,o,a⟩
 ·exact wpAny_Name (wpAny_loadName_local I.ok.kind hk hn hm b) j
 ·rcases hk with hk|hk
  ·exact wpAny_Name (wpAny_loadName_cell I.ok.kind hk o a b) j
  ·exact wpAny_Name (wpAny_loadName_free I.ok.kind hk o a b n) j
def CY{i j pos}:PE X (.Constant (.int i) j pos) (tC (.int i)):=λ_ _ _ H _ I h=>wpAny_Constant_int ⟨.int i,H,I.tok _,⟨_,rfl⟩,h⟩
def CZ{b j pos}:PE X (.Constant (.bool b) j pos) (tC (.bl b)):=λ_ _ _ H _ I h=>Constant_bool ⟨.bl b,H,I,rfl,h⟩
def C0{j pos}:PE X (.Constant .none j pos) (tC .non):=λ_ _ _ H _ I h=>Constant_none ⟨.non,H,I,rfl,h⟩
def yS{x j pos}:PE X (.Constant (.str x) j pos) (tC (.str x)):=λ_ _ _ H _ I h=>Calls.Constant_str ⟨.str x,H,I.tok _,⟨_,rfl⟩,h⟩
def Gl(X:Cx)(x:Str):Prop:=X.env.kindOf x=some .globalImplicit
def yT(I:az X a c H s)(e:Gl X x)(hm:X.mg x=some u)(h:Q u s)(f:(x == 'g')=false:=by decide):wpAny (model X.prog X.w) X.A (eval (.Name x b) X.env) Q E s :=
 yo I.ok.kind e (Calls.loadGlobal_global (by rw[I.ok.glob];exact I.mod.glob.keeps I.bk) hm h) f
def ny(I:az X a f H s)(g:Gl X x)(hm:X.mg x=none)(i:bootBuiltins x=some u)(h:Q u s)(hn:x ≠ "__name__":=by decide)(j:(x == 'g')=false:=by decide):wpAny (model X.prog X.w) X.A (eval (.Name x b) X.env) Q E s:=by
 have⟨l,c,e⟩:=I.mod.blt;exact yo I.ok.kind g (Calls.loadGlobal_builtin (by rw[I.ok.glob];exact I.mod.glob.keeps I.bk) hm (by rw[I.ok.blt];exact c.keeps I.bk) ((e x hn).trans i) h) j
def vB(b:Gl X x)(hm:X.mg x=some u)(r:bu v u)(c:(x == 'g')=false:=by decide):PE X (.Name x a) (tC v) :=
 λ_ _ _ H _ I h=>yT I b hm ⟨v,H,I,r,h⟩ c
def C1(b:Gl X x)(hm:X.mg x=none)(c:bootBuiltins x=some u)(r:bu v u)(hn:x ≠ "__name__":=by decide)(e:(x == 'g')=false:=by decide):PE X (.Name x a) (tC v) :=
 λ_ _ _ H _ I h=>ny I b hm c ⟨v,H,I,r,h⟩ hn e
def C2(t u:TT):TT:=λσ H Q=>t σ H λc H1=>if c=true then u σ H1 Q else Q false H1
def C3(t u:TT):TT:=λσ H Q=>t σ H λc H1=>if c=true then Q true H1 else u σ H1 Q
def Kf(t:TT):TT:=λσ H Q=>t σ H λc H1=>Q (!c) H1
theorem Kg(g:PT X a tA):PW X (.BoolOp .And [a] pos) tA:=by
 intro j b s f H Q I h;refine isTrue_and (aW (g b s f H Q I h) λc i e=>?_)
 cases c with
 |true=>exact isTrue_and_nil e
 |false=>exact e
theorem Kh(g:PT X a tA):PW X (.BoolOp .Or [a] pos) tA:=by
 intro j b s f H Q I h;refine isTrue_or (aW (g b s f H Q I h) λc i e=>?_)
 cases c with
 |false=>exact isTrue_or_nil e
 |true=>exact e
theorem Ki(n:PT X a tA)(o:PW X (.BoolOp .And (b::rest) pos) tB'):PW X (.BoolOp .And (a::b::rest) pos) (C2 tA tB'):=by
 intro m e s j H Q I h;refine isTrue_and (aW (n e s j H _ I h) λc l ⟨f,g,i⟩=>?_)
 cases c with
 |true=>exact o m e l j f Q g i
 |false=>exact⟨f,g,i⟩
theorem Kj(n:PT X a tA)(o:PW X (.BoolOp .Or (b::rest) pos) tB'):PW X (.BoolOp .Or (a::b::rest) pos) (C3 tA tB'):=by
 intro m e s j H Q I h;refine isTrue_or (aW (n e s j H _ I h) λc l ⟨f,g,i⟩=>?_)
 cases c with
 |true=>exact⟨f,g,i⟩
 |false=>exact o m e l j f Q g i
def Kk(g:PT X a tA):PT X (.UnaryOp .Not a pos) (Kf tA):=by
 intro b s f H Q I h;exact isTrue_not (g b s f H (λc e=>Q (!c) e) I h)
def Kl{op}(h:PE X a t):PE X (.BoolOp op [a] pos) t:=λb s c H Q I e=>BoolOp_one (h b s c H Q I e)
def Km(t:TT)(ta tb:TE):TE:=λσ H Q=>t σ H λc H1=>if c=true then ta σ H1 Q else tb σ H1 Q
theorem Kn(m:PT X c tA)(n:PE X a ta)(o:PE X b tb):PE X (.IfExp c a b pos) (Km tA ta tb):=by
 intro e s f H Q I h;refine wpAny_IfExp (aW (m e s f H _ I h) λd g ⟨i,j,l⟩=>?_)
 cases d with
 |true=>exact n e g f i Q j l
 |false=>exact o e g f i Q j l
end
def bA(K:Fg1)(H:Hp)(a:Addr)(xs:U6):Prop :=
 Rd H a (.lst xs) ∨
  ∃(o:Obj) (b:Y4) (n:Nat),K.lookup a=some o/\o.cls=.type "list" /\ o.dict=none/\o.data=.seq b n/\b.size<=sizeLine/\bC xs b.toList
def cT(K:Fg1)(H:Hp)(a:Addr)(xs:U6):Prop :=
 Rd H a (.tup xs) ∨
  ∃(o:Obj) (b:Y4) (n:Nat),K.lookup a=some o/\o.cls=.type "tuple" /\ o.data=.seq b n/\b.size<=sizeLine/\bC xs b.toList
noncomputable def Ko:Value->Option V
 |.none=>some .non
 |.bool b=>some (.bl b)
 |.int i _=>some (.int i)
 |.str x _=>some (.str x)
 |.bytes b _=>some (.byt b)
 |.float b _=>some (.flt b)
 |.ref a=>some (.ref a)
 |.type n=>some (.ty n)
 |_=>none
theorem bu.abs(r:bu x u):Ko u=some x:=by
 cases x with
 |non=>cases r;rfl
 |bl _=>cases r;rfl
 |int _=>obtain⟨t,rfl⟩:=r;rfl
 |str _=>obtain⟨t,rfl⟩:=r;rfl
 |byt _=>obtain⟨t,rfl⟩:=r;rfl
 |flt _=>obtain⟨t,rfl⟩:=r;rfl
 |ref _=>cases r;rfl
 |ty _=>cases r;rfl
def bu.inj(r:bu x u)(q:bu y u):x=y:=ae (r.abs.symm.trans q.abs)
theorem bC.inj:∀{xs ys:U6}{us:U9},bC xs us->bC ys us->xs=ys
 |_,_,_,.nil,.nil=>rfl
 |_,_,_,.cons r t,.cons a t'=>by rw[r.inj a,bC.inj t t']
section
variable {X:Cx}{s:Shared}{xs:U6}
def bA.of{K:Fg1}(h:H a=some (.lst xs)):bA K H a xs:=.inl (.inl h)
def cT.of{K:Fg1}(h:H a=some (.tup xs)):cT K H a xs:=.inl (.inl h)
def az.list(I:az X pins σ H s)(h:bA X.K H a xs):∃b:U9,bC xs b/\PlainL s.heap a b.toArray/\xs.length<=sizeLine:=by
 rcases h with h|⟨o,b,n,c,f,g,hs,hz,r⟩
 ·have⟨z,b,n,r,e⟩:=h.ok I.hok
  exact⟨b,r,⟨_,n,e,rfl,rfl,rfl⟩,z⟩
 ·refine⟨b.toList,r,⟨o,n,I.kIn a o c,f,g,by simpa using hs⟩,?_⟩
  have e:=r.length;simp only[qf]at e;omega
def az.tuple(I:az X pins σ H s)(h:cT X.K H a xs):∃b:U9,bC xs b/\IsTup s.heap a b.toArray/\xs.length<=sizeLine:=by
 rcases h with h|⟨o,b,n,c,f,hs,hz,r⟩
 ·have⟨z,b,r,p⟩:=h.ok I.hok
  exact⟨b,r,p,z⟩
 ·refine⟨b.toList,r,⟨o,I.kIn a o c,f,n,by simpa using hs⟩,?_⟩
  have e:=r.length;simp only[qf]at e;omega
def az.list_inj(I:az X pins σ H s)(h:bA X.K H a xs)(h':bA X.K H a ys):xs=ys:=by
 have⟨b,r,⟨o,n,e,_,_,d⟩,_⟩:=I.list h;have⟨its',f,⟨i,n',c,_,_,d'⟩,_⟩:=I.list h';rw[e]at c;cases c;rw[d]at d';injection d' with g _
 have:b=its':=by simpa using ef Array.toList g
 subst this;exact r.inj f
def az.tuple_inj(I:az X pins σ H s)(h:cT X.K H a xs)(h':cT X.K H a ys):xs=ys:=by
 have⟨b,r,⟨o,e,_,n,d⟩,_⟩:=I.tuple h;have⟨its',f,⟨i,c,_,n',d'⟩,_⟩:=I.tuple h';rw[e]at c;cases c;rw[d]at d';injection d' with g _
 have:b=its':=by simpa using ef Array.toList g
 subst this;exact r.inj f
end
noncomputable abbrev Cx.wish(X:Cx)(E:U2):Cx:={ X with xe:=E }
noncomputable abbrev Cx.nox(X:Cx):Cx:=X.wish λ_ _=>False
theorem Cx.Ok.wish{X:Cx}(ok:X.Ok)(E:U2):(X.wish E).Ok :=
 ⟨ok.mod,ok.kind,ok.glob,ok.blt,ok.above,ok.inj,ok.has,ok.cab,ok.hd,ok.frames,ok.stk,ok.exf,ok.bs,ok.bsz,ok.noex,ok.exfs,ok.funs,ok.frf⟩
def Cx.Ok.unwish{X:Cx}(ok:(X.wish E).Ok):X.Ok :=
 ⟨ok.mod,ok.kind,ok.glob,ok.blt,ok.above,ok.inj,ok.has,ok.cab,ok.hd,ok.frames,ok.stk,ok.exf,ok.bs,ok.bsz,ok.noex,ok.exfs,ok.funs,ok.frf⟩
section
variable {X:Cx}
theorem az.wish(I:az X pins σ H s)(E:U2):az (X.wish E) pins σ H s:=⟨I.ok.wish E,I.os,I.bare,I.base,I.loc,I.cell,I.free,I.freeC,I.pin,I.hok,I.len⟩
theorem az.unwish(I:az (X.wish E) pins σ H s):az X pins σ H s:=⟨I.ok.unwish,I.os,I.bare,I.base,I.loc,I.cell,I.free,I.freeC,I.pin,I.hok,I.len⟩
theorem SP.unwish(h:SP (X.wish E) pins D f s'):SP X pins D f s':=by
 cases f with
 |next=>obtain⟨a,b,I,q⟩:=h;exact⟨a,b,I.unwish,q⟩
 |brk=>obtain⟨a,b,I,q⟩:=h;exact⟨a,b,I.unwish,q⟩
 |cont=>obtain⟨a,b,I,q⟩:=h;exact⟨a,b,I.unwish,q⟩
 |ret u=>obtain⟨v,a,b,I,r,q⟩:=h;exact⟨v,a,b,I.unwish,r,q⟩
theorem bv.nox{st:Yc}(h:bv X.nox st t):bv X st t:=λa s b H D I c =>
 vh (h a s b H D (I.wish _) c) (λ_ _ q=>q.unwish) λ_ _ z=>elim z
end
section
variable {X:Cx}{st:Stmt}
def Kq:TS:=λD σ H=>D.nx σ H
def Kr(t u:TS):TS:=λD σ H=>t { D with nx:=u D } σ H
def vC:bv X [] Kq:=λ_ _ a H _ I h=>mr ⟨a,H,I,h⟩
theorem dR(j:PS X st t)(l:bv X rest u):bv X (st::rest) (Kr t u):=by
 intro a s e H D I h;refine wpAny_execs_cons (aW (j a s e H { D with nx:=u D } I h) λf c q=>?_)
 cases f with
 |next =>
  obtain⟨b,g,i,q⟩:=q;exact l a c b g D i q
 |ret v=>exact q
 |brk=>exact q
 |cont=>exact q
theorem g9(c:PS X st t):bv X [st] t:=by
 intro a s b H D I h;refine wpAny_execs_cons (aW (c a s b H D I h) λf e q=>?_)
 cases f with
 |next=>exact mr q
 |ret v=>exact q
 |brk=>exact q
 |cont=>exact q
def az.quiet(I:az X a b H s):interactive X.env=false:=by simp[interactive,I.ok.kind]
def Ks(te:TE):TS:=λD σ H=>te σ H λ_ H1=>D.nx σ H1
def kG(i:PE X e te)(hs:W0 X e none pos:=by rfl):PS X (.Expr e pos) (Ks te):=by
 intro a s b H D I h;exact wpAny_Expr_any (aW (i a s b H _ I h) λv j ⟨x,c,f,l,g⟩=>⟨b,c,f,g⟩) I.quiet hs
def Kt(te:TE):TS:=λD σ H=>te σ H D.rt
def mw(j:PE X e te):PS X (.Return (some e) pos) (Kt te):=by
 intro a s b H D I h;exact wpAny_Return_some (aW (j a s b H _ I h) λv l ⟨x,c,f,g,i⟩=>⟨x,b,c,f,g,i⟩)
def Ku(c:TT)(t u:TS):TS:=λD σ H=>c σ H λb H1=>if b=true then t D σ H1 else u D σ H1
theorem sJ(n:PT X c m)(o:bv X a t)(p:bv X b u):PS X (.If c a b pos) (Ku m t u):=by
 intro e s f H D I h;refine wpAny_If (aW (n e s f H _ I h) λd g ⟨i,j,l⟩=>?_)
 cases d with
 |true=>exact o e g f i D j l
 |false=>exact p e g f i D j l
def Kv:TS:=λ_ _ _=>False
def Kw:PS X st Kv:=λ_ _ _ _ _ _ h=>h.elim
end
abbrev TG:=V->St->Hp->(St->Hp->Prop)->Prop
abbrev jC:=U6->St->Hp->(St->Hp->Prop)->Prop
def PG(X:Cx)(a:Expr)(t:TG):Prop :=
 ∀(pins:U1) (s:Shared) (σ:St) (H:Hp) (v:V) (u:Value) (Q:St->Hp->Prop),az X pins σ H s->bu v u->t v σ H Q →
  wpAny (model X.prog X.w) X.A (assign a X.env u) (λ_ s'=>∃b H',az X pins b H' s'/\Q b H') X.xe s
def iF(X:Cx)(ts:Y5)(t:jC):Prop :=
 ∀(pins:U1) (s:Shared) (σ:St) (H:Hp) (vs:U6) (us:U9) (Q:St->Hp->Prop),az X pins σ H s->bC vs us->t vs σ H Q →
  wpAny (model X.prog X.w) X.A (assignInOrder ((assignEach ts X.env).map (·.2)) us) (λ_ s'=>∃a H',az X pins a H' s'/\Q a H') X.xe s
abbrev yU:=V->V->V->Hp->(Hp->Prop)->Prop
def C4(X:Cx)(t:yU):Prop :=
 ∀(pins:U1) (s:Shared) (σ:St) (H:Hp) (o i v:V) (a b u:Value) (Q:Hp->Prop),az X pins σ H s->bu o a->bu i b->bu v u->t o i v H Q →
  wpAny (model X.prog X.w) X.A (setItem a b u) (λ_ s'=>∃H',az X pins σ H' s'/\Q H') X.xe s
section
variable {X:Cx}{pos:Pos}
def sK(i:Nat):TG:=λv σ H Q=>Q (σ.set i (some v)) H
def lH(c:X.N.Nodup)(e:X.N[i]?=some x)(f:dQ X.env.scope x)(g:W3 X x:=by first|exact .inl rfl|exact .inr rfl|assumption):PG X (.Name x pos) (sK i):=by
 intro a s l H v u Q I r h;exact wpAny_assign_Name (CW I c e f r (λj b=>⟨_,H,b,h⟩) g)
def Kx:jC:=λvs σ H Q=>vs=[]/\Q σ H
def Ky(t:TG)(u:jC):jC:=λvs σ H Q=>∃v r,vs=v::r/\t v σ H λa H'=>u r a H' Q
def yV:iF X [] Kx:=by
 intro a s b H vs us Q I r h;obtain⟨e,h⟩:=h;subst e;cases r;exact assignInOrder_nil ⟨b,H,I,h⟩
theorem qb(l:PG X e t)(m:iF X es u)(hs:(assignEach (e::es) X.env).map (·.2)=assign e X.env::(assignEach es X.env).map (·.2):=by rfl):iF X (e::es) (Ky t u):=by
 intro a s j H vs us Q I r h;obtain⟨v,o,e1,h⟩:=h;subst e1
 cases r with
 |cons r n =>
  rw[hs];refine assignInOrder_cons (aW (l a s j H _ _ _ I r h) λ_ c ⟨b,f,g,i⟩=>?_);exact m a c b f _ _ Q g n i
def Kz(K:Fg1)(n:Nat)(t:jC):TG:=λv σ H Q=>∃a xs,v=.ref a/\cT K H a xs/\xs.length=n/\t xs σ H Q
def yW(x:X.calm=true)(h:iF X es t)(hn:(assignEach es X.env).length=n:=by rfl)(g:(assignEach es X.env).findIdx? (·.1)=none:=by rfl):PG X (.Tuple es k pos) (Kz X.K n t):=by
 intro c s i H v u Q I r f;obtain⟨a,xs,e1,m,hl,f⟩:=f;subst e1;cases r;have⟨p,j,q,hz⟩:=I.tuple m;refine assign_Tuple_tuple (I.ok.hd x) q (by simp[hn,<-hl,j.length]) g λh' l=>?_
 have w:az X c i H { s with heap:=h' }:=I.kept (t':=s.toks) λb o e=>l b o (af (zd e)) e
 exact h c _ i H xs _ Q w (by simpa using j) f
def KA(to b:TE)(t:yU):TG:=λv σ H Q=>to σ H λo H1=>b σ H1 λi H2=>t o i v H2 λa=>Q σ a
def KB(G:PE X o f)(J:PE X i g)(hs:C4 X t)(K:∀ v,assign (.Subscript o i pos) X.env v=(do
   let b ← holding [v] (eval o X.env)
   let c ← holding [v,b] (eval i X.env)
   standAt pos
   holding [v,b,c] (setItem b c v)
   release [v,b,c] []):=by intro _;rfl):PG X (.Subscript o i pos) (KA f g t):=by
 intro a s e H v u Q I r h;rw[K];refine ba (fg (aW (G a s e H _ I h) λb j ⟨x,l,m,n,p⟩=>?_));refine ba (fg (aW (J a j e l _ m p) λc q ⟨y,w,z,A,B⟩=>?_));refine ba (nq (ba (fg (aW (hs a q e w x y v b c u _ z n A r B) λ_ L ⟨C,E,F⟩=>?_))));exact wpAny_release ⟨e,C,E,F⟩
def yX(te:TE)(g:TG):TS:=λD σ H=>te σ H λx H1=>g x σ H1 D.nx
def yY(o:PE X e f)(p:PG X b g)(hs:swapsWithSole [b] e pos.line X.env=pure false:=by rfl)(r:swappedStores [b] e X.env=pure none:=by rfl)(u:(assignEach [b] X.env).map (·.2)=[assign b X.env]:=by rfl):PS X (.Assign [b] e pos) (yX f g):=by
 intro a s c H D I h;refine wpAny_Assign_stores (aW (o a s c H _ I h) λv i ⟨x,j,l,m,n⟩=>?_) hs r;rw[u];exact aW (p a i c j x v _ l m n) λ_ w q=>q
def iG(o:X.N.Nodup)(p:X.N[i]?=some x)(q:dQ X.env.scope x)(r:PE X e c)(hs:W0 X e (some (.Name x a)) pos:=by rfl)(u:W3 X x:=by first|exact .inl rfl|exact .inr rfl|assumption) :
  PS X (.Assign [.Name x a] e pos) (yX c (sK i)):=by
 intro b s n H D I h;refine wpAny_Assign_Name (aW (r b s n H _ I h) λv w ⟨y,f,g,j,l⟩=>?_) hs;exact CW g o p q j (λz m=>⟨_,f,m,l⟩) u
end
structure It where
 go:Nat->Hp->Prop
 yld:Nat->Hp->V->Hp->Prop
 stop:Nat->Hp->Prop
def lI(X:Cx)(pins:U1)(H:Hp)(b:Addr):Prop :=
 H b=none/\b≠X.env.locals/\b ∉ X.fs/\(b∈X.ex\/X.s₀.heap.objs.size<=b)/\(∀x c,X.env.cells.lookup x=some c->c≠b)/\∀p∈X.pn++pins,p.1≠b
def az.fpOk(I:az X a i H s)(f:s.heap.objs.size<=b)(hn:g b=none):lI X a g b:=by
 refine⟨hn,wv (vd I.lt f),I.nofs f,.inr (re I.sz f),λx c e z=>?_,λp h z=>?_⟩
 ·have⟨v,q⟩:=I.cell x c e
  exact absurd (vd q.lt (by rw[z];exact f)) (yj _)
 ·exact absurd (vd (zd (I.pin p h).1) (by rw[z];exact f)) (yj _)
structure gH(P:Program)(w:World)(K:Fg1)(tg:Expr)(J:It)(fp:Y8)(it:Addr)(tn:Nat->Heap->Prop):Prop where
 mem:it∈fp
 obj:∀i h,tn i h->∀b∈fp,∃o,h.get? b=some o/\∀v,o.data≠.cell v
 keep:∀i h h',tn i h->(∀b∈fp,∀o,h.get? b=some o->h'.get? b=some o)->tn i h'
 item:∀(X:Cx),X.prog=P->X.w=w->X.K=K->X.calm=true->∀(i:Nat) (pins:U1) (s:Shared) (σ:St) (H:Hp) (E:U2),az X pins σ H s->(∀b∈fp,lI X pins H b)->tn i s.heap->J.go i H →
  wpAny (model P w) X.A (pyNext (.ref it)) (λ r s1=>∃ u,r=some u ∧
   wpAny (model P w) X.A (letOwnedTupleGo tg (.ref it) u) (λ_ s2=>∃x H',az X pins σ H' s2/\bu x u/\J.yld i H x H'/\tn (i+1) s2.heap/\∀b∈fp,H' b=none) E s1) E s
 done:∀(X:Cx),X.prog=P->X.w=w->X.K=K->X.calm=true->∀(i:Nat) (pins:U1) (s:Shared) (σ:St) (H:Hp) (E:U2),az X pins σ H s->(∀b∈fp,lI X pins H b)->tn i s.heap->J.stop i H →
  wpAny (model P w) X.A (pyNext (.ref it)) (λr s1=>r=none/\az X pins σ H s1) E s
 self:∀(A:Around) (i:Nat) (s:Shared) (Q:U2) (E:U2),tn i s.heap->Q (.ref it) s->wpAny (model P w) A (pyIter (.ref it)) Q E s
abbrev TI:=St->Hp->(It->Hp->Prop)->Prop
def C5(X:Cx)(pins:U1)(σ:St)(tg:Expr)(R:It->Hp->Prop)(a:Value)(c:Shared):Prop :=
 ∃(it:Addr) (e:Y8) (f:Nat->Heap->Prop) (J:It) (H':Hp),a=.ref it/\az X pins σ H' c/\gH X.prog X.w X.K tg J e it f/\f 0 c.heap/\(∀b∈e,lI X pins H' b)/\R J H'
def PI(X:Cx)(tg iter:Expr)(wi:TI):Prop :=
 ∀(pins:U1) (s:Shared) (σ:St) (H:Hp) (R:It->Hp->Prop),az X pins σ H s->wi σ H R →
  wpAny (model X.prog X.w) X.A (eval iter X.env) (λv a=>wpAny (model X.prog X.w) X.A (pyIter v) (C5 X pins σ tg R) X.xe a) X.xe s
def qu(c:s.heap.get? it=some o)(e:o.cls=.type n)(f:o.data=.fields vs)(hn:["enumerate","zip","dict_itemiterator","dict_reverseitemiterator","odict_iterator","itertools.zip_longest","itertools.pairwise"].contains n=false)(a:Q () s):wpAny M A (letOwnedTupleGo b (.ref it) u) Q E s:=by
 unfold letOwnedTupleGo
 cases b <;> first
  |exact wa a
  | (cases u <;> first
    |exact wa a
    | (refine wpAny_bind (wpAny_load c ?_)
       rw[e,f];show wpAny M A (if (["enumerate","zip","dict_itemiterator","dict_reverseitemiterator","odict_iterator","itertools.zip_longest","itertools.pairwise"].contains n && vs[0]? == some (rawInt _))=true then _ else _) Q E s;rw[ic (by intro h;rw[hn,vp]at h;cases h)];exact wa a))
noncomputable def vE(K:Fg1)(a:Addr):It :=
 ⟨λi H=>∃xs x,bA K H a xs/\xs[i]?=some x,λi H x H'=>H'=H/\∀xs,bA K H a xs->xs[i]?=some x,λi H=>∃xs,bA K H a xs/\xs.length<=i⟩
noncomputable def vF(K:Fg1)(a:Addr):It :=
 ⟨λi H=>∃xs x,cT K H a xs/\xs[i]?=some x,λi H x H'=>H'=H/\∀xs,cT K H a xs->xs[i]?=some x,λi H=>∃xs,cT K H a xs/\xs.length<=i⟩
noncomputable def sL(lo:Int)(n:Nat):It:=⟨λi _=>i<n,λi H x H'=>H'=H/\x=.int (lo+i),λi _=>n<=i⟩
def C6{K:Fg1}(a it:Addr):gH P w K tg (vE K a) [it] it (λi h=>h.IsListIter it a i) where
 mem:=by simp
 obj:=λi h st b hb=>by
  have e:b=it:=by simpa using hb
  subst e;obtain⟨o,e,c,d⟩:=st;exact⟨o,e,λv z=>by rw[d]at z;cases z⟩
 keep:=λi h h' st k=>st.at λo e=>k it 'm' o e
 item:=by
  intro X hP hw hK hc i pins s σ H E I hf st hg;subst hP hw hK;obtain⟨xs,x,hq,hx⟩:=hg;have⟨its,rv,p,hz⟩:=I.list hq;have⟨u,hu,ru⟩:=rv.get hx;obtain⟨f0,f1,f2,f3,f4,f5⟩:=hf it 'm';refine wpAny_pyNext_list_item st p.isList (x:=u) (by simpa using hu) λh' st' sb=>?_
  have I1:az X pins σ H { s with heap:=h' }:=I.turned (t':=s.toks) (λb o hb e=>(sb.2 b hb).trans e) f0 f1 f3 f4 f5;have⟨o,e,c,d⟩:=id st';exact⟨u,rfl,qu (s:={ s with heap:=h' }) e c d 'd' ⟨x,H,I1,ru,⟨rfl,λys hy=>by rw[I.list_inj hy hq];exact hx⟩,st',λb hb=>(hf b hb).1⟩⟩
 done:=by
  intro X hP hw hK hc i pins s σ H E I hf st hg;subst hP hw hK;obtain⟨xs,hq,hx⟩:=hg;have⟨its,rv,p,hz⟩:=I.list hq;obtain⟨f0,f1,f2,f3,f4,f5⟩:=hf it 'm';have hl:=rv.length;exact wpAny_pyNext_list_end (I.ok.hd hc) st p.isList 's' λh' eb=>⟨rfl,I.turned (t':=s.toks) (λb o hb e=>eb b o hb e) f0 f1 f3 f4 f5⟩
 self:=λ_ _ _ _ _ st h=>wpAny_pyIter_listiter st h
def C7{K:Fg1}(a it:Addr):gH P w K tg (vF K a) [it] it (λi h=>h.IsTupleIter it a i) where
 mem:=by simp
 obj:=λi h st b hb=>by
  have e:b=it:=by simpa using hb
  subst e;obtain⟨o,e,c,d⟩:=st;exact⟨o,e,λv z=>by rw[d]at z;cases z⟩
 keep:=λi h h' st k=>st.at λo e=>k it 'm' o e
 item:=by
  intro X hP hw hK hc i pins s σ H E I hf st hg;subst hP hw hK;obtain⟨xs,x,hq,hx⟩:=hg;have⟨its,rv,p,hz⟩:=I.tuple hq;have⟨u,hu,ru⟩:=rv.get hx;obtain⟨f0,f1,f2,f3,f4,f5⟩:=hf it 'm';refine wpAny_pyNext_tuple_item st (show s.heap.IsTuple a its.toArray from p) (x:=u) (by simpa using hu) λh' st' sb=>?_
  have I1:az X pins σ H { s with heap:=h' }:=I.turned (t':=s.toks) (λb o hb e=>(sb.2 b hb).trans e) f0 f1 f3 f4 f5;have⟨o,e,c,d⟩:=id st';exact⟨u,rfl,qu (s:={ s with heap:=h' }) e c d 'd' ⟨x,H,I1,ru,⟨rfl,λys hy=>by rw[I.tuple_inj hy hq];exact hx⟩,st',λb hb=>(hf b hb).1⟩⟩
 done:=by
  intro X hP hw hK hc i pins s σ H E I hf st hg;subst hP hw hK;obtain⟨xs,hq,hx⟩:=hg;have⟨its,rv,p,hz⟩:=I.tuple hq;obtain⟨f0,f1,f2,f3,f4,f5⟩:=hf it 'm';have hl:=rv.length;exact wpAny_pyNext_tuple_end (I.ok.hd hc) st (show s.heap.IsTuple a its.toArray from p) 's' λh' eb=>⟨rfl,I.turned (t':=s.toks) (λb o hb e=>eb b o hb e) f0 f1 f3 f4 f5⟩
 self:=λ_ _ _ _ _ st h=>wpAny_pyIter_tupleiter st h
def KC{K:Fg1}(it:Addr)(lo:Int)(n:Nat):gH P w K tg (sL lo n) [it] it (λi h=>IsRangeIter h it (lo+(i:Nat) * 1) ((n:Int) - (i:Nat)) 1) where
 mem:=by simp
 obj:=λi h st b hb=>by
  have e:b=it:=by simpa using hb
  subst e
  exact⟨_,st,λ v z=>by
   have z':Data.fields _=Data.cell v:=z
   cases z'⟩
 keep:=λi h h' st k=>k it 'm' _ st
 item:=by
  intro X hP hw hK hc i pins s σ H E I hf st hg;subst hP hw hK;obtain⟨f0,f1,f2,f3,f4,f5⟩:=hf it 'm';have W:=Walks.range (prog:=X.prog) (w:=X.w) (I.ok.hd hc) it lo 1 n;refine W.item i s _ _ hg st λv h' tk hv st' kk=>?_
  obtain⟨t,rfl⟩:=hv;have I1:az X pins σ H { s with heap:=h',toks:=tk }:=I.turned (λb o hb e=>kk b o (by simpa using hb) e) f0 f1 f3 f4 f5;refine⟨_,rfl,qu (s:={ s with heap:=h',toks:=tk }) (n:="range_iterator") st' rfl rfl 'd' ⟨.int (lo+i),H,I1,⟨t,?_⟩,⟨rfl,rfl⟩,st',λb hb=>(hf b hb).1⟩⟩;rw[Int.mul_one]
 done:=by
  intro X hP hw hK hc i pins s σ H E I hf st hg;subst hP hw hK;obtain⟨f0,f1,f2,f3,f4,f5⟩:=hf it 'm';exact wpAny_pyNext_range_end (I.ok.hd hc) st (by have:n<=i:=hg;omega) λh' eb=>⟨rfl,I.turned (t':=s.toks) (λb o hb e=>eb b o hb e) f0 f1 f3 f4 f5⟩
 self:=λ_ _ _ _ _ st h=>wpAny_pyIter_rangeiter st h
section
variable {X:Cx}
def C8(I:az X f h H s)(l:-(2 ^ 62)<=a)(m:a<2 ^ 62)(n:-(2 ^ 62)<=c)(p:c<2 ^ 62)(q:R (sL a (c - a).toNat) H):wpAny (model X.prog X.w) X.A (pyIter (.ref s.heap.objs.size)) (C5 X f h tg R) E { s with heap:=s.heap.push { cls:=.type "range",data:=.fields #[.int a t,.int c u,.int 1 v] },toks:=i }:=by
 refine wpAny_pyIter_range (IsRange.new ..) (small_one l m n p) ?_;have g:az X f h H { s with heap:=s.heap.push { cls:=.type "range",data:=.fields #[.int a t,.int c u,.int 1 v] },toks:=i }:=I.kept λb o e=>jc _ e
 refine⟨(s.heap.push { cls:=.type "range",data:=.fields #[.int a t,.int c u,.int 1 v] }).objs.size,[(s.heap.push { cls:=.type "range",data:=.fields #[.int a t,.int c u,.int 1 v] }).objs.size],_,_,H,rfl,
  g.kept (t':=i) λb o e=>jc _ e,KC _ a (c - a).toNat,?_,λb j=>?_,q⟩
 ·have e1:a+((0:Nat):Int) * 1=a:=by simp
  have e2:(((c - a).toNat:Nat):Int) - ((0:Nat):Int)=Builtin.Range.rangeSize a c 1:=by rw[rangeSize_one];split <;> omega
  show IsRangeIter _ _ (a+((0:Nat):Int) * 1) ((((c - a).toNat:Nat):Int) - ((0:Nat):Int)) 1;rw[e1,e2];exact pd _ rfl
 ·have e:b=(s.heap.push { cls:=.type "range",data:=.fields #[.int a t,.int c u,.int 1 v] }).objs.size:=by simpa using j
  subst e;exact g.fpOk (dc _) (g.hok.fresh (dc _))
def KD(wi:TI)(g:TG)(tb:TS):TS:=λD σ H=>wi σ H λJ H1=>∃W:Nat->Nat->St->Hp->Prop,(∃m,W 0 m σ H1)/\∀i m σ H,W i m σ H →
 (J.stop i H/\D.nx σ H)\/(J.go i H/\∃N:St->Hp->Prop,(∀a H',N a H'->∃c,c<m/\W (i+1) c a H')/\∀x H',J.yld i H x H'->g x σ H' λb H2=>tb { D with nx:=N,ct:=N,bk:=D.nx } b H2)
noncomputable def sO(a:Y8)(h:Heap):U1:=a.filterMap λb=>(h.get? b).map λo=>(b,o)
def vG(c:b∈a)(e:h.get? b=some o):(b,o)∈sO a h:=bp.mpr ⟨b,c,by rw[e];rfl⟩
theorem KG(g:p∈sO a h):p.1∈a/\h.get? p.1=some p.2:=by
 have⟨b,c,e⟩:=bp.mp g
 cases q:h.get? b with
 |none=>rw[q]at e;cases e
 |some o =>
  rw[q]at e;have f:(b,o)=p:=ae e;subst f;exact⟨c,q⟩
def az.pinned(I:az X a h H s)(n:∀b∈c,lI X a H b)(q:∀b∈c,∃o,s.heap.get? b=some o/\∀v,o.data≠.cell v):az X (a++sO c s.heap) h H s :=
 I.pins_of λp i=>(yd.mp i).elim (λz=>I.pin p (oe _ z)) λz=>by
  have⟨f,e⟩:=KG z;have⟨j,l,m,_⟩:=n p.1 f;have⟨o,g,d⟩:=q p.1 f;rw[e]at g;cases g;exact⟨e,j,l,m,d⟩
def az.unpinned(I:az X (a++pl) b H s):az X a b H s:=I.pins_of λp c=>I.pin p (oe _ (il _ c))
def oF(Q:PassesOwn (model X.prog X.w) X.A X.env X.xe)(hc:X.calm=true)(hi:PI X tg B wi)(hg:PG X tg g)(j:bv X F tb)(hs:∀x,foldedSetIterable B X.env x=pure x:=by intro _;rfl):PS X (.For tg B F [] pos) (KD wi g tb):=by
 intro c s σ H D I h;refine wpAny_For (aW (hi c s σ H _ I h) λv s1 h1=>aW h1 λitv s2 h2=>?_) hs;obtain⟨it,O,tn,J,H2,e,I2,T,st2,f2,W,⟨m0,w0⟩,turn⟩:=h2;subst e;have y:∀{H':Hp},(∀b∈O,H' b=none)->∀b∈O,lI X c H' b:=λhn b j=>⟨hn b j,(f2 b j).2⟩
 refine codeAny_forLoop_any (λn s'=>∃i C H',az X c C H' s'/\tn i s'.heap/\(∀b∈O,H' b=none)/\W i n C H') ?_ m0 ⟨0,σ,H2,I2,st2,λb j=>(f2 b j).1,w0⟩;rintro n s3 ⟨i,q,R,I3,L,M,w3⟩;rcases turn i n q R w3 with⟨P,qn⟩|⟨go,N,hN,step⟩
 ·refine bm Q (aW (T.done X rfl rfl rfl hc i c s3 q R X.xe I3 (y M) L P) λr s4 ⟨U,I4⟩=>?_)
  subst U;exact mr ⟨q,R,I4,qn⟩
 ·refine bm Q (aW (T.item X rfl rfl rfl hc i c s3 q R X.xe I3 (y M) L go) λr s4 ⟨u,U,h4⟩=>?_)
  subst U;refine bm Q (aW h4 λ_ s5 ⟨x,H5,I5,r5,y5,G,Y⟩=>?_);have I5':=I5.pinned (y Y) (T.obj _ _ G);refine bm Q (aW (hg _ s5 q H5 x u _ I5' r5 (step x H5 y5)) λ_ s6 ⟨Z,H6,I6,q6⟩=>?_);refine bm Q (aW (j _ s6 Z H6 _ I6 q6) λf s7 E=>?_)
  have z:∀{a:St} {l:Hp},az X (c++sO O s5.heap) a l s7->N a l->∃m,m<n/\∃i C H',az X c C H' s7/\tn i s7.heap/\(∀b∈O,H' b=none)/\W i m C H':=λ{a l} p K=>by
   have⟨m',hm,w7⟩:=hN a l K;refine⟨m',hm,i+1,a,l,p.unpinned,T.keep _ _ _ G λb j o e=>(p.pin (b,o) (oe _ (oe _ (vG j e)))).1,λb j=>?_,w7⟩;have⟨o,e,d⟩:=T.obj _ _ G b j;exact(p.pin (b,o) (oe _ (oe _ (vG j e)))).2.1
  cases f with
  |next=>obtain⟨a,l,p,K⟩:=E;exact z p K
  |cont=>obtain⟨a,l,p,K⟩:=E;exact z p K
  |brk=>obtain⟨a,l,p,E⟩:=E;exact⟨a,l,p.unpinned,E⟩
  |ret v=>obtain⟨x7,a,l,p,r7,E⟩:=E;exact⟨x7,a,l,p.unpinned,r7,E⟩
end
abbrev R2:=V->V->Hp->VK->Prop
def bx(X:Cx)(f:Value->Value->Sem Value)(r:R2):Prop :=
 ∀(pins:U1) (s:Shared) (σ:St) (H:Hp) (x y:V) (v u:Value) (Q:VK),az X pins σ H s->bu x v->bu y u->r x y H Q →
  wpAny (model X.prog X.w) X.A (f v u) (EP X pins σ Q) X.xe s
def qw(X:Cx)(f:Value->Sem Value)(r:V->Hp->VK->Prop):Prop :=
 ∀(pins:U1) (s:Shared) (σ:St) (H:Hp) (x:V) (v:Value) (Q:VK),az X pins σ H s->bu x v->r x H Q →
  wpAny (model X.prog X.w) X.A (f v) (EP X pins σ Q) X.xe s
def d7(X:Cx)(f:Value)(r:U6->Hp->VK->Prop):Prop :=
 ∀(pins:U1) (s:Shared) (σ:St) (H:Hp) (xs:U6) (us:U9) (Q:VK),az X pins σ H s->bC xs us->r xs H Q →
  wpAny (model X.prog X.w) X.A (call f us) (EP X pins σ Q) X.xe s
def oG(r:R2)(ta tb:TE):TE:=λσ H Q=>ta σ H λx H1=>tb σ H1 λy H2=>r x y H2 Q
def KH(r:V->Hp->VK->Prop)(ta:TE):TE:=λσ H Q=>ta σ H λx H1=>r x H1 Q
def rI(C:Int->Int->Prop)(g:Int->Int->V):R2:=λx y H Q=>∃i j,x=.int i/\y=.int j/\C i j/\Q (g i j) H
def mx(g:Int->Int->V):R2:=λx y H Q=>∃i j,x=.int i/\y=.int j/\Q (g i j) H
def rU(g:Int->V):V->Hp->VK->Prop:=λx H Q=>∃i,x=.int i/\Q (g i) H
section
variable {X:Cx}
def vH(z:PE X a ta)(B:PE X b tb){c:U1}{R:V->V->Hp->Prop}(I:az X c e H s)(h:ta e H λx H1=>tb e H1 λy H2=>R x y H2){f:Value->Value->Sem Value}(C:∀v u j x y H2,az X c e H2 j->bu x v->bu y u->R x y H2->wpAny (model X.prog X.w) X.A (f v u) Q X.xe j) :
  wpAny (model X.prog X.w) X.A (eval a X.env) (λv g=>wpAny (model X.prog X.w) X.A (eval b X.env) (λu i=>wpAny (model X.prog X.w) X.A (f v u) Q X.xe i) X.xe g) X.xe s:=by
 refine aW (z c s e H _ I h) λv l ⟨x,H1,m,n,o⟩=>?_
 refine aW (B c l e H1 _ m o) λu j ⟨y,H2,p,q,r⟩=>?_
 exact C v u j x y H2 p n q r
def C9(m:bx X (binaryOp op) r)(n:PE X a ta)(o:PE X b tb):PE X (.BinOp a op b pos) (oG r ta tb):=by
 intro c s l H Q I h;exact wpAny_BinOp (vH n o I h λv u e x y f g i j q=>m c e l f x y v u Q g i j q)
def KJ(l:qw X (unaryOp op) r)(m:PE X a ta):PE X (.UnaryOp op a pos) (KH r ta):=by
 intro b s c H Q I h;exact UnaryOp_ (aW (m b s c H _ I h) λv e ⟨x,f,g,i,j⟩=>l b e c f x v Q g i j)
def vI{f:Value->Value->Sem Value}{C:Int->Int->Prop}{g:Int->Int->Int}(a:∀(i j:Int) (t u:Tok) (s:Shared) (Q:U2) (E:U2),C i j->Q (.int (g i j) s.toks) { s with toks:=s.toks+1 }->wpAny (model X.prog X.w) X.A (f (.int i t) (.int j u)) Q E s) :
  bx X f (rI C λi j=>.int (g i j)):=by
 intro b s m H x y v u Q I c e h;obtain⟨i,j,rfl,rfl,l,q⟩:=h;obtain⟨t,rfl⟩:=c;obtain⟨t',rfl⟩:=e;exact a i j t t' s _ _ l ⟨.int (g i j),H,I.tok _,⟨_,rfl⟩,q⟩
def Da{f:Value->Value->Sem Value}{g:Int->Int->Int}(a:∀(i j:Int) (t u:Tok) (s:Shared) (Q:U2) (E:U2),Q (.int (g i j) s.toks) { s with toks:=s.toks+1 }->wpAny (model X.prog X.w) X.A (f (.int i t) (.int j u)) Q E s) :
  bx X f (mx λi j=>.int (g i j)):=by
 intro b s l H x y v u Q I c e h;obtain⟨i,j,rfl,rfl,q⟩:=h;obtain⟨t,rfl⟩:=c;obtain⟨t',rfl⟩:=e;exact a i j t t' s _ _ ⟨.int (g i j),H,I.tok _,⟨_,rfl⟩,q⟩
def vJ{f:Value->Value->Sem Value}{g:Int->Int->Bool}(a:∀(i j:Int) (t u:Tok) (s:Shared) (Q:U2) (E:U2),Q (.bool (g i j)) s->wpAny (model X.prog X.w) X.A (f (.int i t) (.int j u)) Q E s) :
  bx X f (mx λi j=>.bl (g i j)):=by
 intro b s l H x y v u Q I c e h;obtain⟨i,j,rfl,rfl,q⟩:=h;obtain⟨t,rfl⟩:=c;obtain⟨t',rfl⟩:=e;exact a i j t t' s _ _ ⟨.bl (g i j),H,I,rfl,q⟩
def yZ(i j:Int):Prop:=0<j/\j<1073741824
def y6(i j:Int):Prop:=0<=j/\j<=1000000/\i.natAbs<2 ^ 64
def vK(i j:Int):Prop:=(-(2 ^ 64)<i/\i<2 ^ 64)\/(-(2 ^ 64)<j/\j<2 ^ 64)
def vK.ok(h:vK i j):IntMulOk i j:=by
 rcases h with⟨a,b⟩|⟨a,b⟩
 ·exact .of_left (intBits_le_64 a b)
 ·exact .of_right (intBits_le_64 a b)
def KL:bx X (binaryOp .Add) (mx λi j=>.int (i+j)):=Da λ_ _ _ _ _ _ _ q=>add_int q
def KM:bx X (binaryOp .Sub) (mx λi j=>.int (i - j)):=Da λ_ _ _ _ _ _ _ q=>sub_int q
def KN:bx X (binaryOp .FloorDiv) (rI yZ λi j=>.int (i / j)):=vI λi j _ _ _ _ _ a q=>by
 have b:(0:Int)<j:=a.1;have c:j<1073741824:=a.2;exact floordiv_int 'o' (by rw[Int.fdiv_eq_ediv_of_nonneg i 'o'];exact q) (.inl (PyProof.noPylong_small 'o'))
def KO:bx X (binaryOp .Mod) (rI (λ_ j=>0<j) λi j=>.int (i % j)):=vI λi j _ _ _ _ _ a q=>by
 have b:(0:Int)<j:=a;exact mod_int' 'o' (by rw[Int.fmod_eq_emod_of_nonneg i 'o'];exact q)
def KP:bx X (binaryOp .Pow) (rI y6 λi j=>.int (i ^ j.toNat)):=vI λ_ _ _ _ _ _ _ a q=>pow_int_small a.1 a.2.1 a.2.2 q
def KQ{f:Value->Sem Value}{g:Int->Int}(a:∀(i:Int) (t:Tok) (s:Shared) (Q:U2) (E:U2),Q (.int (g i) s.toks) { s with toks:=s.toks+1 }->wpAny (model X.prog X.w) X.A (f (.int i t)) Q E s) :
  qw X f (rU λi=>.int (g i)):=by
 intro b s e H x v Q I c h;obtain⟨i,rfl,q⟩:=h;obtain⟨t,rfl⟩:=c;exact a i t s _ _ ⟨.int (g i),H,I.tok _,⟨_,rfl⟩,q⟩
def KR:qw X (unaryOp .USub) (rU λi=>.int (-i)):=KQ λ_ _ _ _ _ q=>neg_int q
end
noncomputable def Db:V->V->Bool
 |.non,.non=>true|.non,.int _=>true|.int _,.non=>true|.non,.bl _=>true|.bl _,.non=>true|.non,.str _=>true|.str _,.non=>true
 |.int _,.int _=>true|.bl _,.bl _=>true|.str _,.str _=>true|.byt _,.byt _=>true
 |.int _,.str _=>true|.str _,.int _=>true|.bl _,.str _=>true|.str _,.bl _=>true
 |_,_=>false
def KU:R2:=λx y H Q=>Db x y=true/\Q (.bl (decide (x=y))) H
def KW:R2:=λx y H Q=>Db x y=true/\Q (.bl (!decide (x=y))) H
def Dc:decide (V.int i=V.int j)=(i == j):=by
 rw[sn];simp
def De:decide (V.bl i=V.bl j)=(i == j):=by
 rw[sn];simp
def Dg:decide (V.str i=V.str j)=(i == j):=by
 rw[sn];simp
def Dh:decide (V.byt i=V.byt j)=(i.toList == j.toList):=by
 rw[sn];cases i;cases j;simp
section
variable {X:Cx}{a b c:Expr}
def c6{a:U1}{b:St}{c:Bool}(I:az X a b H s)(q:Q (.bl k) H)(e:k=c):EP X a b Q (.bool c) s:=by
 subst e;exact⟨.bl k,H,I,rfl,q⟩
theorem KY:bx X (compareOp .Eq) KU:=by
 intro c s e H x y v u Q I b a h;obtain⟨hs,q⟩:=h
 cases x with
 |non =>
  cases b
  cases y with
  |non=>cases a;exact PySem.EqNone.eq_none_none (c6 I q 'm')
  |bl j=>cases a;exact PySem.EqNone.eq_none_bool (c6 I q 'm')
  |int j=>obtain⟨t',rfl⟩:=a;exact PySem.EqNone.eq_none_int (c6 I q 'm')
  |str j=>obtain⟨t',rfl⟩:=a;exact PySem.EqNone.eq_none_str (c6 I q 'm')
  |_=>exact absurd (show false=true from hs) bb
 |bl i =>
  cases b
  cases y with
  |non=>cases a;exact PySem.EqNone.eq_bool_none (c6 I q 'm')
  |bl j=>cases a;exact eq_bool (c6 I q De)
  |str j=>obtain⟨t',rfl⟩:=a;exact PySem.EqMixed.eq_bool_str (c6 I q 'm')
  |_=>exact absurd (show false=true from hs) bb
 |int i =>
  obtain⟨t,rfl⟩:=b
  cases y with
  |non=>cases a;exact PySem.EqNone.eq_int_none (c6 I q 'm')
  |int j=>obtain⟨t',rfl⟩:=a;exact eq_int (c6 I q Dc)
  |str j=>obtain⟨t',rfl⟩:=a;exact PySem.EqMixed.eq_int_str (c6 I q 'm')
  |_=>exact absurd (show false=true from hs) bb
 |str i =>
  obtain⟨t,rfl⟩:=b
  cases y with
  |non=>cases a;exact PySem.EqNone.eq_str_none (c6 I q 'm')
  |bl j=>cases a;exact PySem.EqMixed.eq_str_bool (c6 I q 'm')
  |int j=>obtain⟨t',rfl⟩:=a;exact PySem.EqMixed.eq_str_int (c6 I q 'm')
  |str j=>obtain⟨t',rfl⟩:=a;exact eq_str (c6 I q Dg)
  |_=>exact absurd (show false=true from hs) bb
 |byt i =>
  obtain⟨t,rfl⟩:=b
  cases y with
  |byt j=>obtain⟨t',rfl⟩:=a;exact PySem.W.eq_bytes (c6 I q Dh)
  |_=>exact absurd (show false=true from hs) bb
 |_=>cases y <;> exact absurd (show false=true from hs) bb
theorem KZ:bx X (compareOp .NotEq) KW:=by
 intro c s e H x y v u Q I b a h;obtain⟨hs,q⟩:=h
 cases x with
 |non =>
  cases b
  cases y with
  |non=>cases a;exact PySem.EqNone.ne_none_none (c6 I q 'm')
  |bl j=>cases a;exact PySem.EqNone.ne_none_bool (c6 I q 'm')
  |int j=>obtain⟨t',rfl⟩:=a;exact PySem.EqNone.ne_none_int (c6 I q 'm')
  |str j=>obtain⟨t',rfl⟩:=a;exact PySem.EqNone.ne_none_str (c6 I q 'm')
  |_=>exact absurd (show false=true from hs) bb
 |bl i =>
  cases b
  cases y with
  |non=>cases a;exact PySem.EqNone.ne_bool_none (c6 I q 'm')
  |bl j=>cases a;exact ne_bool (c6 I q (ef not De))
  |str j=>obtain⟨t',rfl⟩:=a;exact PySem.EqMixed.ne_bool_str (c6 I q 'm')
  |_=>exact absurd (show false=true from hs) bb
 |int i =>
  obtain⟨t,rfl⟩:=b
  cases y with
  |non=>cases a;exact PySem.EqNone.ne_int_none (c6 I q 'm')
  |int j=>obtain⟨t',rfl⟩:=a;exact ne_int (c6 I q (ef not Dc))
  |str j=>obtain⟨t',rfl⟩:=a;exact PySem.EqMixed.ne_int_str (c6 I q 'm')
  |_=>exact absurd (show false=true from hs) bb
 |str i =>
  obtain⟨t,rfl⟩:=b
  cases y with
  |non=>cases a;exact PySem.EqNone.ne_str_none (c6 I q 'm')
  |bl j=>cases a;exact PySem.EqMixed.ne_str_bool (c6 I q 'm')
  |int j=>obtain⟨t',rfl⟩:=a;exact PySem.EqMixed.ne_str_int (c6 I q 'm')
  |str j=>obtain⟨t',rfl⟩:=a;exact ne_str (c6 I q (ef not Dg))
  |_=>exact absurd (show false=true from hs) bb
 |byt i =>
  obtain⟨t,rfl⟩:=b
  cases y with
  |byt j=>obtain⟨t',rfl⟩:=a;exact PySem.W.ne_bytes (c6 I q (ef not Dh))
  |_=>exact absurd (show false=true from hs) bb
 |_=>cases y <;> exact absurd (show false=true from hs) bb
def K0:bx X (compareOp .Lt) (mx λi j=>.bl (decide (i<j))):=vJ λ_ _ _ _ _ _ _ q=>lt_int q
def K1:bx X (compareOp .LtE) (mx λi j=>.bl (decide (i<=j))):=vJ λ_ _ _ _ _ _ _ q=>le_int q
def K4:bx X (compareOp .Gt) (mx λi j=>.bl (decide (j<i))):=vJ λ_ _ _ _ _ _ _ q=>gt_int q
def K5:bx X (compareOp .GtE) (mx λi j=>.bl (decide (j<=i))):=vJ λ_ _ _ _ _ _ _ q=>ge_int q
def K6:bx X (compareOp .In) (λx y H Q=>∃i j,x=.str i/\y=.str j/\Q (.bl (!(Builtin.Str.occurrences j i 0 j.length 1).isEmpty)) H):=by
 intro a s e H x y v u Q I b c h;obtain⟨i,j,rfl,rfl,q⟩:=h;obtain⟨t,rfl⟩:=b;obtain⟨t',rfl⟩:=c;exact in_str (c6 I q rfl)
def K7:bx X (compareOp .Is) (λx y H Q=>y=.non/\Q (.bl (decide (x=.non))) H):=by
 intro a s e H x y v u Q I b c h;obtain⟨rfl,q⟩:=h;cases c;refine is_none_gen (c6 I q ?_)
 cases x <;> first
  |(cases b;rfl)
  |(obtain⟨t,rfl⟩:=b;rfl)
def K8:bx X (compareOp .IsNot) (λx y H Q=>y=.non/\Q (.bl (!decide (x=.non))) H):=by
 intro a s e H x y v u Q I b c h;obtain⟨rfl,q⟩:=h;cases c;refine isnot_none_gen (c6 I q ?_)
 cases x <;> first
  |(cases b;rfl)
  |(obtain⟨t,rfl⟩:=b;rfl)
def K9:bx X (compareOp .NotIn) (λx y H Q=>∃i j,x=.str i/\y=.str j/\Q (.bl (!(!(Builtin.Str.occurrences j i 0 j.length 1).isEmpty))) H):=by
 intro a s e H x y v u Q I b c h;obtain⟨i,j,rfl,rfl,q⟩:=h;obtain⟨t,rfl⟩:=b;obtain⟨t',rfl⟩:=c;exact notIn_str (c6 I q rfl)
def bx.or(h:bx X f r)(h':bx X f g):bx X f (λx y H Q=>r x y H Q\/g x y H Q):=by
 intro a s b H x y v u Q I c e q;rcases q with q|q
 ·exact h a s b H x y v u Q I c e q
 ·exact h' a s b H x y v u Q I c e q
def bV(b:Expr)(h:op≠.In:=by decide)(a:op≠.NotIn:=by decide):behindInMarks op b=false:=by
 have e1:(op == CmpOp.In)=false:=by cases op <;> first|rfl|exact absurd rfl h
 have e2:(op == CmpOp.NotIn)=false:=by cases op <;> first|rfl|exact absurd rfl a
 cases b <;> simp[behindInMarks,e1,e2]
def La(m:bx X (compareOp op) r)(n:PE X a ta)(o:PE X b tb)(hm:behindInMarks op b=false):PE X (.Compare a [op] [b] pos) (oG r ta tb):=by
 intro c s l H Q I h;exact wpAny_Compare1 (vH n o I h λv u e x y f g i j q=>m c e l f x y v u Q g i j q) hm
def Di(t:TE):TT:=λσ H Q=>t σ H λx H'=>∃k,x=.bl k/\Q k H'
def Dj(G:bx X (compareOp op) r)(J:PE X a ta)(K:PE X b tb)(hm:behindInMarks op b=false):PT X (.Compare a [op] [b] pos) (Di (oG r ta tb)):=by
 intro f s g H Q I h
 refine wpAny_isTrue_Compare1 (aW (J f s g H _ I h) λ v i ⟨x,j,l,m,n⟩=>aW (K f i g j _ l n) λ u o ⟨y,p,q,w,A⟩ =>
  aW (G f o g p x y v u _ q m w A) λc L ⟨z,B,C,E,k,e,F⟩=>?_) hm
 subst e;cases E;exact zg ⟨B,C,F⟩
def Dk(r e:R2)(ta tb tc:TE):TE:=λσ H Q=>ta σ H λx H1=>tb σ H1 λy H2=>r x y H2 λz a=>∃k,z=.bl k ∧
 (if k=true then tc σ a λb c=>e y b c Q else Q (.bl false) a)
theorem Lb(Y:bx X (compareOp op) r)(j:bx X (compareOp g) p)(Z:PE X a ta)(hb:PE X b tb)(hc:PE X c tc)(hm:lastMarks [op,g] [b,c]=false:=by with_unfolding_all rfl):PE X (.Compare a [op,g] [b,c] pos) (Dk r p ta tb tc):=by
 intro f s i H Q I h
 refine Compare_chain (aW (Z f s i H _ I h) λ v q ⟨x,w,A,B,C⟩=>chain_link (aW (hb f q i w _ A C) λ u E ⟨y,F,G,l,J⟩ =>
  aW (Y f E i F x y v u _ G B l J) λd K ⟨z,m,n,L,k,e,o⟩=>?_)) hm
 subst e;cases L;refine zg ?_
 cases k with
 |false=>exact ite_ff ⟨.bl false,m,n,rfl,o⟩
 |true=>exact ite_tt (chain_last (aW (hc f K i m _ n o) λM N ⟨O,P,R,T,U⟩=>j f N i P y O u M Q R l T U))
def qx:(sizeLine:Nat)<2 ^ 63:=by rw[sizeLine_eq];decide
def Lc:bx X (binaryOp .Add) (λx y H Q=>∃i j,x=.str i/\y=.str j/\i.length+j.length<=sizeLine/\Q (.str (i++j)) H):=by
 intro a s f H x y v u Q I b c h;obtain⟨i,j,rfl,rfl,hz,q⟩:=h;obtain⟨t,rfl⟩:=b;obtain⟨t',rfl⟩:=c;exact add_str (λt' e=>⟨.str (i++j),H,I.tok _,⟨_,rfl⟩,q⟩) hz
theorem hE(r:bC [x] us):∃u,us=[u]/\bu x u:=by
 cases r with
 |cons a b=>cases b;exact⟨_,rfl,a⟩
theorem Dl(r:bC [x,y] us):∃u w',us=[u,w']/\bu x u/\bu y w':=by
 cases r with
 |cons a b =>
  cases b with
  |cons c e=>cases e;exact⟨_,_,rfl,a,c⟩
def Ld(c:X.calm=true):d7 X (.builtin "min") (λxs H Q=>∃i j,xs=[.int i,.int j]/\Q (.int (if j<i then j else i)) H):=by
 intro b s f H xs us Q I r h;obtain⟨i,j,rfl,q⟩:=h;obtain⟨u,g,rfl,⟨t,rfl⟩,⟨t',rfl⟩⟩:=Dl r;refine min_two_ints (I.ok.hd c) λh' e k=>⟨_,H,I.kept k,?_,q⟩
 by_cases a:j<i
 ·rw[ya a,ya a];exact⟨_,rfl⟩
 ·rw[ic a,ic a];exact⟨_,rfl⟩
def Le:d7 X (.type "int") (λxs H Q=>(∃i,xs=[.int i]/\Q (.int i) H)\/∃k,xs=[.bl k]/\Q (.int (if k then 1 else 0)) H):=by
 intro a s c H xs us Q I r h;rcases h with⟨i,rfl,q⟩|⟨k,rfl,q⟩
 ·obtain⟨u,rfl,t,rfl⟩:=hE r
  exact call_int_int ⟨.int i,H,I,⟨_,rfl⟩,q⟩
 ·obtain⟨u,rfl,b⟩:=hE r
  cases b;exact call_int_bool ⟨.int (if k then 1 else 0),H,I.tok _,⟨_,rfl⟩,q⟩
def Lf:d7 X (.type "str") (λxs H Q=>∃i,xs=[.int i]/\i.natAbs.log2<1920/\Q (.str (toString i)) H):=by
 intro a s b H xs us Q I r h;obtain⟨i,rfl,hz,q⟩:=h;obtain⟨u,rfl,t,rfl⟩:=hE r;exact PySem.P.str_of_int hz ⟨.str _,H,I.tok _,⟨_,rfl⟩,q⟩
end
structure iH(h:Heap)(x dx C:Addr)(mA:Str->Y0):Prop where
 obj:h.get? x=some (instObj C dx)
 ns:h.Ns1 dx mA
 ne:dx≠x
def Lg{h:Heap}(n:h.Ns1 b c):∃f,h.get? b=some f/\∀name,lookIn name f=some (c name):=by
 obtain⟨o,es,ep,i,j,l,_,hm⟩:=n;refine⟨o,i,λname=>?_⟩;have e:=hm name;unfold nsFind findBy at e;rw[<-Array.find?_toList]at e;unfold lookIn;rw[j];dsimp only;split
 ·rename_i y q
  rw[q]at e;exact ef some e
 ·rename_i q
  rw[q]at e
  have a:es.toList.any (·.refKey)=false:=by
   rw[List.any_eq_false];intro y g;have⟨z,t,d5⟩:=l y (Array.mem_toList_iff.mp g);simp[DictEntry.refKey,d5]
  have m:¬es.toList.any (·.refKey)=true:=by rw[a];exact bb
  rw[ic m];exact ef some e
def iH.look(I:iH h x b C c):∃a,InstAt h x (instObj C b) C (some a)/\∀name,lookIn name a=some (c name) :=
 let ⟨a,e,hl⟩:=Lg I.ns
 ⟨a,⟨I.obj,rfl,rfl,e⟩,hl⟩
section
variable {A:Around}{s:Shared}{K:Fg1}
def Lh(X:K.In s.heap)(I:iH s.heap x dx C mA)(c:plainGet K C name=true)(e:hasDictIn K C=true)(f:findIn K (.ref C) name=some none)(g:mA name=some v)(b:handedIn v=true)(h:Q v { s with toks:=s.toks+1 }) :
  wpAny (model prog w) A (getAttr (.ref x) name a) Q E s:=by
 have⟨i,J,hl⟩:=I.look;exact PySem.W.get_value X J (plainGet_of c).1 (PySem.W.findObj_own e f rfl (by rw[hl,g])) b h
def Li(X:K.In s.heap)(I:iH s.heap x dx C mA)(a:plainGet K C name=true)(c:findIn K (.ref C) name=some (some (.ref f)))(e:isFn K (.ref f)=true)(g:mA name=none)(h:Q (.ref f,[.ref x]) s) :
  wpAny (model prog w) A (getMethod (.ref x) name pl) Q E s:=by
 have⟨b,J,hl⟩:=I.look;exact PySem.W.method_fn X J (plainGet_of a).1 (plainGet_of a).2 c (zp.mp e) (by show (lookIn name b).map (·.isSome)=some false;rw[hl,g];rfl) h
def Lj(X:K.In s.heap)(I:iH s.heap x dx C mA)(hs:findIn K (.ref C) "__setattr__" = some (some (.builtin "object.__setattr__")))(p:plainOver K C=true)(q:takerIn K C name=some none)(u:hasDictIn K C=true)(z:Within mA j)(hsz:j.length<=sizeLine)(h:∀h',iH h' x dx C (λy=>if y=name then some v else mA y)->Heap.SameBut dx s.heap h'->Q () { s with heap:=h',toks:=s.toks+2 }) :
  wpAny (model prog w) A (setAttr (.ref x) name v) Q E s:=by
 have⟨B,J,hl⟩:=I.look;refine PySem.W.set_plain X J hs (PySem.W.osa_open (s:={ s with toks:=s.toks+1 }) (r:=none) X J p q λb=>?_);have⟨F,l,f⟩:=PySem.W.any_some u;have o:s.heap.get? x=some ⟨.ref C,some dx,.plain,#[]⟩:=I.obj;refine ba (wa (ba (ba (wpAny_loadPart o (ba (Looks.here (s:={ s with toks:=s.toks+1 }) (PySem.W.looks_clsIn X l) ?_))))));rw[f];refine wa (a:=some dx) (ba (wa (ba ?_)));refine wpAny_nsSet1 (s:={ s with toks:=s.toks+1 }) I.ns λh' c e=>?_
 have⟨G,m,n,g,mt,i⟩:=c.count (Within.cons name v z);refine ba (wpAny_lookBehind g (by rw[mt];exact pastItsLine_dict (re i (by rw[gc];omega))) ?_);exact wa (h _ ⟨(e.2 _ (ue I.ne)).trans I.obj,c,I.ne⟩ e)
def Lk(X:K.In s.heap)(hm:makesIn K C=true)(c:findIn K (.ref C) "__init__" = some (some (.ref f)))(e:typeIn K (.ref f)=some (.type "function"))(h:codeAny (model prog w) (A.under (.builtin "type.__call__" ⟨.ref C::vs,b⟩)) (.call (.ref f) ⟨.ref (s.heap.objs.size+1)::vs,b⟩) (PySem.W.InitBack (s.heap.objs.size+1) R)
   { s with heap:=(s.heap.push emptyDict).push (instObj C s.heap.objs.size) }) :
  codeAny (model prog w) A (.call (.ref C) ⟨vs,b⟩) R s:=by
 obtain⟨i,g,d,t,os⟩:=s;exact PySem.W.make_core (PySem.W.makes_of X hm) (PySem.W.looks_findIn X c) (λa=>PySem.W.bind_fn X a e) 'j' h
end
noncomputable def cS(f:Str)(v:V):List (Str×V)->List (Str×V)
 |[]=>[(f,v)]
 |(g,x)::r=>if g=f then (g,v)::r else (g,x)::cS f v r
theorem Dm(f g:Str)(v:V):∀fs:List (Str×V),(cS f v fs).lookup g=if g=f then some v else fs.lookup g
 |[]=>by
  show List.lookup g [(f,v)]=_;by_cases h:g=f
  ·have a:(g == f)=true:=zp.mpr h
   simp only[List.lookup,a,ya h]
  ·have a:(g == f)=false:=xg.mpr h
   simp only[List.lookup,a,ic h]
 |(k,x)::r=>by
  have c:=Dm f g v r;rw[show cS f v ((k,x)::r)=(if k=f then (k,v)::r else (k,x)::cS f v r) from rfl];by_cases b:k=f
  ·rw[ya b]
   by_cases h:g=k
   ·have a:(g == k)=true:=zp.mpr h
    simp only[List.lookup,a,ya (h.trans b)]
   ·have a:(g == k)=false:=xg.mpr h
    simp only[List.lookup,a,ic (λe:g=f=>h (e.trans b.symm))]
  ·rw[ic b]
   by_cases h:g=k
   ·have a:(g == k)=true:=zp.mpr h
    simp only[List.lookup,a,ic (λe:g=f=>b (h.symm.trans e))]
   ·have a:(g == k)=false:=xg.mpr h
    simp only[List.lookup,a];exact c
theorem y7(f:Str)(v:V):∀fs:List (Str×V),f∈(cS f v fs).map (·.1)/\∀g,g∈fs.map (·.1)->g∈(cS f v fs).map (·.1)
 |[]=>⟨by simp[cS],λg h=>by simp at h⟩
 |(k,x)::r=>by
  have⟨b,c⟩:=y7 f v r;rw[show cS f v ((k,x)::r)=(if k=f then (k,v)::r else (k,x)::cS f v r) from rfl];by_cases a:k=f
  ·rw[ya a]
   subst a;exact⟨'m',λg h=>by simpa using h⟩
  ·rw[ic a]
   refine⟨?_,λg h=>?_⟩
   ·rw[ma]
    exact ua _ b
   ·rw[ma]at h ⊢
    rcases wc.mp h with e|e
    ·exact wc.mpr (.inl e)
    ·exact ua _ (c g e)
theorem y8(f:Str)(v:V):∀fs:List (Str×V),(cS f v fs).length<=fs.length+1
 |[]=>by simp[cS]
 |(k,x)::r=>by
  have b:=y8 f v r;rw[show cS f v ((k,x)::r)=(if k=f then (k,v)::r else (k,x)::cS f v r) from rfl];by_cases a:k=f
  ·rw[ya a,gc,gc];omega
  ·rw[ic a,gc,gc];omega
theorem gw.some_of(r:gw (some v) o):∃u,o=some u/\bu v u:=by
 cases o with
 |none=>exact(show False from r).elim
 |some u=>exact⟨u,rfl,r⟩
theorem gw.none_of(r:gw none o):o=none:=by
 cases o with
 |none=>rfl
 |some u=>exact(show False from r).elim
theorem Ll(r:bu v u):handedIn u=true:=by
 cases v with
 |non=>cases (show u=Value.none from r);rfl
 |bl b=>cases (show u=Value.bool b from r);rfl
 |int i=>have⟨t,e⟩:=(show ∃t,u=Value.int i t from r);cases e;rfl
 |str x=>have⟨t,e⟩:=(show ∃t,u=Value.str x t from r);cases e;rfl
 |byt b=>have⟨t,e⟩:=(show ∃t,u=Value.bytes b t from r);cases e;rfl
 |flt b=>have⟨t,e⟩:=(show ∃t,u=Value.float b t from r);cases e;rfl
 |ref a=>cases (show u=Value.ref a from r);rfl
 |ty n=>cases (show u=Value.type n from r);rfl
section
variable {fs:List (Str×V)}
def vL(b:dl P w H h)(e:H a=some (.ins C dx fs)):∃mA,iH h a dx C mA/\(∀f,gw (fs.lookup f) (mA f))/\Within mA (fs.map (·.1))/\fs.length<=1000/\H dx=some (.own a):=by
 have⟨d,z,c,ob,mA,n,r,q⟩:=(show cF P w H h a (.ins C dx fs) from b a _ e)
 exact⟨mA,⟨ob,n,c⟩,r,q,z,d⟩
end
structure gI(K:Fg1)(C:Addr):Prop where
 pg:plainGet K C empty=true
 hd:hasDictIn K C=true
 po:plainOver K C=true
 sa:findIn K (.ref C) "__setattr__" = some (some (.builtin "object.__setattr__"))
def gI.get{K:Fg1}(c:gI K C)(f:Str):plainGet K C f=true:=c.pg
def gx(K:Fg1)(C:Addr)(f:Str):Prop:=findIn K (.ref C) f=some none
def gx.taker{K:Fg1}(n:gx K C f):takerIn K C f=some none:=by
 unfold takerIn;rw[show findIn K (.ref C) f=some none from n];rfl
structure dW(K:Fg1)(C:Addr)(m:Str)(f:Addr):Prop where
 at_:findIn K (.ref C) m=some (some (.ref f))
 fn:isFn K (.ref f)=true
 kp:keepIn K (.ref f)=true
section
variable {X:Cx}{s:Shared}{fs:List (Str×V)}
def Lm(I:az X pins σ H s)(e:H a=some (.ins C dx fs))(c:gI X.K C)(n:gx X.K C f)(l:fs.lookup f=some v)(h:∀u s',az X pins σ H s'->bu v u->Q u s'):wpAny (model X.prog X.w) A (getAttr (.ref a) f b) Q E s:=by
 have⟨i,O,r,_,_,_⟩:=vL I.hok e;obtain⟨u,j,g⟩:=gw.some_of (v:=v) (o:=i f) (by rw[<-l];exact r f);exact Lh I.kIn O (c.get f) c.hd n j (Ll g) (h u _ (I.tok _) g)
def Do(I:az X pins σ H s)(e:H a=some (.ins C dx fs))(c:gI X.K C)(k:dW X.K C m g)(l:fs.lookup m=none)(h:Q (.ref g,[.ref a]) s):wpAny (model X.prog X.w) A (getMethod (.ref a) m pl) Q E s:=by
 have⟨b,O,r,_,_,_⟩:=vL I.hok e;have hn:b m=none:=gw.none_of (by rw[<-l];exact r m);exact Li I.kIn O (c.get m) k.at_ k.fn hn h
def Ln(I:az X pins σ H s)(e:H a=some (.ins C dx fs))(c:gI X.K C)(n:gx X.K C f)(hl:fs.length<1000)(J:bu y u)(h:∀s',az X pins σ (aF H a (.ins C dx (cS f y fs))) s'->Q () s'):wpAny (model X.prog X.w) A (setAttr (.ref a) f u) Q E s:=by
 have⟨j,O,r,l,_,m⟩:=vL I.hok e;have hz:(fs.map (·.1)).length<=sizeLine:=by rw[aa,sizeLine_eq];omega
 refine Lj I.kIn O c.sa c.po n.taker c.hd l hz λh' i p=>h _ ?_
 have G:∃o,h'.get? dx=some o:=let ⟨o,_,_,F,_⟩:=i.ns;⟨o,F⟩
 refine I.write (x:=a) (e:=dx) (by rw[e];exact kg) (.inr m) (λb q v z=>(p.2 b v).trans z) G ?_;refine⟨by rw[aI O.ne];exact m,?_,O.ne,i.obj,_,i.ns,λg=>?_,λg B=>?_⟩
 ·have:=y8 f y fs;omega
 ·show gw ((cS f y fs).lookup g) (if g=f then some u else j g)
  rw[Dm];by_cases q:g=f
  ·rw[ya q,ya q];exact J
  ·rw[ic q,ic q];exact r g
 ·by_cases q:g=f
  ·rw[q];exact(y7 f y fs).1
  ·refine(y7 f y fs).2 g (l g λz=>B ?_)
   show (if g=f then some u else j g)=none;rw[ic q];exact z
def az.made(I:az X pins σ H s):az X pins σ (aF (aF H s.heap.objs.size (.own (s.heap.objs.size+1))) (s.heap.objs.size+1) (.ins C s.heap.objs.size []))
  { s with heap:=(s.heap.push emptyDict).push (instObj C s.heap.objs.size) }:=by
 have e1:(s.heap.push emptyDict).get? s.heap.objs.size=some emptyDict:=pd s.heap rfl
 have e2:((s.heap.push emptyDict).push (instObj C s.heap.objs.size)).get? (s.heap.objs.size+1)=some (instObj C s.heap.objs.size):=by
  have:=pd (s.heap.push emptyDict) (o:=instObj C s.heap.objs.size) rfl
  rwa [vt]at this
 have h:(s.heap.push emptyDict).Ns s.heap.objs.size (λ_=>none):=⟨emptyDict,#[],_,e1,rfl,(λe f=>absurd f 'm'),λ_=>rfl⟩
 have i:=I.laid (a:=s.heap.objs.size) (o:=.own (s.heap.objs.size+1)) (h':=s.heap.push emptyDict) (t':=s.toks) (λb u q=>jc _ q) (dc _) ⟨_,e1⟩;refine i.laid (a:=s.heap.objs.size+1) (o:=.ins C s.heap.objs.size []) (t':=s.toks) (λb u q=>jc _ q) (Nat.le_of_eq (vt _ _)) ?_;have c:s.heap.objs.size≠s.heap.objs.size+1:=af (vq _);refine⟨by rw[aI c,aT],ie _,c,e2,λ_=>none,(Heap.Ns1.of_empty h).at λo q=>jc _ q,λ_=>kg,λy g=>absurd rfl g⟩
def Lo(c:attributeBase e f env (eval e env)=eval e env)(h:wpAny (model prog w) A (eval e env) (λo a=>wpAny (model prog w) A (getAttr o f true) Q E a) E s):wpAny (model prog w) A (eval (.Attribute e f b) env) Q E s :=
 Attribute_any_ h (by rw[arm_eval_Attribute,c])
end
def Lp(K:Fg1)(ta:TE)(f:Str):TE:=λσ H Q=>ta σ H λx H1=>∃a C dx fs v,x=.ref a/\H1 a=some (.ins C dx fs)/\gI K C/\gx K C f/\fs.lookup f=some v/\Q v H1
def Lq(K:Fg1)(ta tv:TE)(f:Str):TS:=λD σ H=>tv σ H λy H1=>ta σ H1 λx H2=>∃a C dx fs,x=.ref a/\H2 a=some (.ins C dx fs)/\gI K C/\gx K C f/\fs.length<1000 ∧
 D.nx σ (aF H2 a (.ins C dx (cS f y fs)))
section
variable {X:Cx}
def Lr(y:PE X e ta)(z:attributeBase e f X.env (eval e X.env)=eval e X.env):PE X (.Attribute e f pos) (Lp X.K ta f):=by
 intro b s w H Q I h;refine Lo z (aW (y b s w H _ I h) λu A ⟨x,g,i,j,a,C,B,fs,v,m,o,c,n,l,q⟩=>?_);subst m;obtain rfl:u=Value.ref a:=j;exact Lm i o c n l λE F p r=>⟨v,g,p,r,q⟩
def qy(E:PE X o ta)(F:PE X value tv)(hs:W0 X value (some (.Attribute o f pos')) pos):PS X (.Assign [.Attribute o f pos'] value pos) (Lq X.K ta tv f):=by
 intro b s e H D I h;refine plainObj_wpAny_Assign_Attribute (aW (F b s e H _ I h) λu g ⟨y,i,j,m,q⟩=>aW (E b g e i _ j q) λp G ⟨x,J,r,v,a,C,L,fs,w,z,c,n,l,A⟩=>?_) hs;subst w;obtain rfl:p=Value.ref a:=v;exact Ln r z c n l m λM B=>⟨e,_,B,A⟩
end
section
variable {X:Cx}{H:Hp}
inductive dX (K:Fg1) (H:Hp):V->Value->Prop where
 |non:dX K H .non (.type "NoneType")
 |bl (x:Bool):dX K H (.bl x) (.type "bool")
 |int (i:Int):dX K H (.int i) (.type "int")
 |str (x:Str):dX K H (.str x) (.type "str")
 |flt (x:UInt64):dX K H (.flt x) (.type "float")
 |lst {a:Addr} {xs:U6} (e:H a=some (.lst xs)):dX K H (.ref a) (.type "list")
 |frz {a:Addr} {o:Obj} {xs:U6} (e:H a=some (.frz o (.lst xs))):dX K H (.ref a) (.type "list")
 |tup {a:Addr} {xs:U6} (e:H a=some (.tup xs)):dX K H (.ref a) (.type "tuple")
 |dK {a:Addr} {kvs:List (aQ×V)} (e:H a=some (.dK kvs)):dX K H (.ref a) (.type "dict")
 |dT {a:Addr} {kvs:List (List aQ×V)} (e:H a=some (.dT kvs)):dX K H (.ref a) (.type "dict")
 |ins {a C dx:Addr} {fs:List (Str×V)} (e:H a=some (.ins C dx fs)) (cl:gI K C) (ha:findIn K (.ref C) "__class__" = some (some (.builtin "object.__class__")))
   (hn:PySem.W.specialIn K (.builtin "object.__class__") "__get__" = some (some (.builtin "getset_descriptor.__get__"))) (htk:PySem.W.takesIn K (.builtin "object.__class__")=some true)
   (hm:mroIn K C (.type "object")=some true):dX K H (.ref a) (.ref C)
theorem Ls(I:az X pins σ H s)(rx:bu x u)(ty:dX X.K H x t)(e:kitOne X.K t c=some b)(h:∀tk,Q (.bool b) { s with toks:=tk }) :
  wpAny (model X.prog X.w) A (call (.builtin "isinstance") [u,c]) Q E s:=by
 cases ty with
 |non=>cases (show u=Value.none from rx);exact kia_one PySem.W.kitx_none I.kIn kg e (λz=>nomatch z) h
 |bl y=>cases (show u=Value.bool y from rx);exact kia_one PySem.W.kitx_bool I.kIn kg e (λz=>nomatch z) h
 |int i=>have⟨t,q⟩:=(show ∃t,u=Value.int i t from rx);cases q;exact kia_one PySem.W.kitx_int I.kIn kg e (λz=>nomatch z) h
 |str y=>have⟨t,q⟩:=(show ∃t,u=Value.str y t from rx);cases q;exact kia_one PySem.W.kitx_str I.kIn kg e (λz=>nomatch z) h
 |flt y=>have⟨t,q⟩:=(show ∃t,u=Value.float y t from rx);cases q;exact kia_one PySem.W.kitx_float I.kIn kg e (λz=>nomatch z) h
 |@lst a xs ea =>
  cases (show u=Value.ref a from rx)
  have⟨_,_,n,_,h1⟩:=(show cF X.prog X.w H s.heap a (.lst xs) from I.hok a _ ea)
  exact kia_one kitx_list I.kIn ⟨_,h1,rfl⟩ e (λz=>nomatch z) h
 |@frz a ob xs ea =>
  cases (show u=Value.ref a from rx)
  have⟨_,_,_,n,_,h1⟩:=(show cF X.prog X.w H s.heap a (.frz ob (.lst xs)) from I.hok a _ ea)
  exact kia_one kitx_list I.kIn ⟨_,h1,rfl⟩ e (λz=>nomatch z) h
 |@tup a xs ea =>
  cases (show u=Value.ref a from rx)
  have⟨_,_,_,p⟩:=(show cF X.prog X.w H s.heap a (.tup xs) from I.hok a _ ea)
  obtain⟨o,h1,h2,_⟩:=p;exact kia_one kitx_tuple I.kIn ⟨o,h1,h2⟩ e (λz=>nomatch z) h
 |@dK a kvs ea =>
  cases (show u=Value.ref a from rx)
  have⟨_,_,vs,_,p⟩:=(show cF X.prog X.w H s.heap a (.dK kvs) from I.hok a _ ea)
  obtain⟨o,es,ep,h1,h2,_⟩:=p;exact kia_one kitx_dict I.kIn ⟨o,h1,h2.1⟩ e (λz=>nomatch z) h
 |@dT a kvs ea =>
  cases (show u=Value.ref a from rx)
  have⟨_,_,xs,_,o,es,ep,h1,h2,_⟩:=(show cF X.prog X.w H s.heap a (.dT kvs) from I.hok a _ ea)
  exact kia_one kitx_dict I.kIn ⟨o,h1,h2.1⟩ e (λz=>nomatch z) h
 |@ins a C dx fs ea cl ha hn htk hm =>
  cases (show u=Value.ref a from rx)
  have⟨mA,O,_⟩:=vL I.hok ea;have⟨od,J,_⟩:=O.look;exact kia_one (PySem.W.kitx_own (cl.get _) cl.hd ha hn htk hm) I.kIn J e (λz=>nomatch z) h
end
structure aK(k:Nat)(A:Around):Prop where
 hd:A.handled=none
 dp:A.depth+3 * k+5<recursionLimit
 un:A.units+16 * k+200<cLine
def aK.mono(r:aK k A)(h:j<=k):aK j A:=⟨r.hd,by have:=r.dp;omega,by have:=r.un;omega⟩
theorem aK.deeper(r:aK (k+1) A)(env:Env):aK k (A.deeper env) :=
 ⟨r.hd,by have:=r.dp;show A.depth+1+3 * k+5<_;omega,by have:=r.un;show A.units+3+16 * k+200<_;omega⟩
def Lu{A:Around}:(A.under (.builtin "type.__call__" ⟨.ref C::us,a⟩)).depth=A.depth+1:=by
 first|rfl|simp[Around.under,Code.weight,Code.isCreation,Code.isGuard,Code.isCaller,Code.frames,Code.isFrame,guardIds]
def Lv{A:Around}:(A.under (.builtin "type.__call__" ⟨.ref C::us,a⟩)).units=A.units+1:=by
 first|rfl|simp[Around.under,Code.cUnits,Code.frames,Code.isFrame]
def aK.make(r:aK (k+1) A)(C:Addr)(us:U9)(a:List (Str×Value)):aK k (A.under (.builtin "type.__call__" ⟨.ref C::us,a⟩)) :=
 ⟨r.hd,by have:=r.dp;rw[Lu];omega,by have:=r.un;rw[Lv];omega⟩
theorem aK.depth(r:aK k A):A.depth<recursionLimit:=by have:=r.dp;omega
theorem aK.units(r:aK k A):A.units+64<cLine:=by have:=r.un;omega
def y9:TA:=λ_ H Q=>Q [] H
def Dp(ta:TE)(a:TA):TA:=λσ H Q=>ta σ H λx H1=>a σ H1 λxs H2=>Q (x::xs) H2
section
def fL:PA X [] y9:=λ_ _ _ _ H Q I h=>vk ⟨[],H,I,.nil,h⟩
def el(q:PE X e te)(r:PA X es t)(hs:W1 X (e::es) e es:=by rfl):PA X (e::es) (Dp te t):=by
 intro b a s c H Q I h;rw[hs];show wpAny _ _ (spliced ((false,eval e X.env)::backTo b (starEach es X.env))) _ _ s;refine zh (aW (q a s c H _ I h) λu f ⟨x,g,i,j,l⟩=>?_);exact aW (r b a f c g _ i l) λus v ⟨xs,m,n,o,p⟩=>⟨x::xs,m,n,.cons j o,p⟩
def Lw(t:TA):TE:=λσ H Q=>t σ H λxs H1=>xs.length<=sizeLine/\∀p,H1 p=none->Q (.ref p) (aF H1 p (.tup xs))
def Lx(t:TA):TE:=λσ H Q=>t σ H λxs H1=>xs.length<=sizeLine/\∀p,H1 p=none->Q (.ref p) (aF H1 p (.lst xs))
def za{x1}(h:PA X es t):PE X (.Tuple es x1 pos) (Lw t):=by
 intro a s i H Q I j;refine wpAny_Tuple_spliced (aW (h pos a s i H _ I j) λus c ⟨xs,f,g,r,z,q⟩=>⟨by rw[<-r.length];exact z,?_⟩);have l:f c.heap.objs.size=none:=g.hok.fresh (dc _);refine⟨.ref c.heap.objs.size,aF f c.heap.objs.size (.tup xs),g.laid (t':=c.toks) (λb u e=>jc _ e) (dc _) ?_,rfl,q _ l⟩;exact⟨z,us,r,⟨_,pd _ rfl,rfl,_,rfl⟩⟩
def sQ(h:PA X es t):PE X (.List es pos) (Lx t):=by
 intro a s i H Q I j;refine wpAny_List_spliced (aW (h pos a s i H _ I j) λus c ⟨xs,f,g,r,z,q⟩=>⟨by rw[<-r.length];exact z,?_⟩);have l:f c.heap.objs.size=none:=g.hok.fresh (dc _);refine⟨.ref c.heap.objs.size,aF f c.heap.objs.size (.lst xs),g.laid (t':=c.toks) (λb u e=>jc _ e) (dc _) ?_,rfl,q _ l⟩;exact⟨z,us,0,r,pd _ rfl⟩
end
abbrev Sp:=U6->Hp->VK->XK->Prop
abbrev kH:=Yb->Hp->Shared->XK->Value->Shared->Prop
structure fA(P:Program)(w:World)(K:Fg1)(mg:Str->Y0)(base:Heap)(A:Around)(outer:Yb)(s:Shared)(H:Hp):Prop where
 frames:A.frames=some outer
 mod:Mod K mg base
 bs:∀b o,base.get? b=some o->s.heap.get? b=some o/\H b=none
 bsz:base.objs.size<=s.heap.objs.size
 funs:s.heap.FunFrames base outer
 frf:∀b∈jB outer,H b=none
 hok:dl P w H s.heap
 bare:AllBare s.gens
def CE(a:Yb)(P:Program)(w:World)(H:Hp)(s:Shared)(Q:VK)(u:Value)(s':Shared):Prop :=
 ∃v H',s'.os=s.os/\AllBare s'.gens/\Un (jB a) [] H H' s.heap s'.heap/\dl P w H' s'.heap/\bu v u/\Q v H'
def CR(CX:kH)(a:Yb)(P:Program)(w:World)(H:Hp)(s:Shared)(Q:VK)(E:XK)(r:Result)(s':Shared):Prop :=
 match r with
 |.ok (.ret u)=>CE a P w H s Q u s'
 |.ok _=>False
 |.error e=>CX a H s E e s'
structure aG(P:Program)(w:World)(K:Fg1)(mg:Str->Y0)(base:Heap)(CX:kH)(k:Nat)(f:Addr)(fd:FuncData)(ps:U8)(sp:Sp):Prop where
 len:∀vs H Q E,sp vs H Q E->vs.length=ps.length
 run:∀(A:Around) (outer:Yb) (s:Shared) (H:Hp) (args:Args) (us:U9) (vs:U6) (Q:VK) (E:XK),aK k A->fA P w K mg base A outer s H->BindsTo s fd args (ps.zip us)->bC vs us->sp vs H Q E →
  codeAny (model P w) A (.call (.ref f) args) (CR CX outer P w H s Q E) s
def fA.make{K:Fg1}{A:Around}(e:fA P w K c b A a s H)(C:Addr)(us:U9)(f:List (Str×Value)) :
  fA P w K c b (A.under (.builtin "type.__call__" ⟨.ref C::us,f⟩)) a s H:=⟨by first|exact e.frames|(simpa [Around.under,Code.envs,Code.isFrame,pushEnvs] using e.frames),e.mod,e.bs,e.bsz,e.funs,e.frf,e.hok,e.bare⟩
theorem fA.in1{K:Fg1}{A:Around}(e:fA P w K c b A a s H) :
  fA P w K c b A.in1 a s H:=⟨e.frames,e.mod,e.bs,e.bsz,e.funs,e.frf,e.hok,e.bare⟩
section
variable {X:Cx}
def az.env0(I:az X pins σ H s):fA X.prog X.w X.K X.mg X.base X.A X.stack s H :=
 ⟨I.ok.frames,I.ok.mod,I.bs,re I.ok.bsz I.sz,I.stack,I.stkFree,I.hok,I.bare⟩
def az.after(I:az X pins σ H s)(h:CE X.stack X.prog X.w H s Q u s'):EP X pins σ Q u s':=by
 obtain⟨v,f,os,a,un,c,r,q⟩:=h;obtain⟨i,g,d,t,e⟩:=s';obtain rfl:e=s.os:=os;exact⟨v,f,I.call (h':=i) (g':=g) (d':=d) (t':=t) (ch:=[]) un c a (λb z=>absurd z 'm'),r,q⟩
end
def Ly(sp:Sp)(dvs:U6)(E:XK)(t:TA):TE:=λσ H Q=>t σ H λvs H1=>sp (vs++dvs) H1 Q E
def Dq(C:Addr)(m:Str)(sp:Sp)(dvs:U6)(E:XK)(ta:TE)(t:TA):TE:=λσ H Q=>ta σ H λx H1=>∃a dx fs,x=.ref a/\H1 a=some (.ins C dx fs)/\fs.lookup m=none ∧
 t σ H1 λvs H2=>sp (x::(vs++dvs)) H2 Q E
def Lz(C:Addr)(sp:Sp)(dvs:U6)(E:XK)(t:TA):TE:=λσ H Q=>t σ H λvs H1=>∀x dx,H1 x=none->H1 dx=none->dx≠x →
 sp (.ref x::(vs++dvs)) (aF (aF H1 dx (.own x)) x (.ins C dx [])) (λv H2=>v=.non/\Q (.ref x) H2) E
def cB(K:Fg1)(fd:FuncData)(ps:U8)(ds:U9):Prop :=
 ∀(s:Shared) (us:U9),K.In s.heap->(us++ds).length=ps.length->BindsTo s fd ⟨us,[]⟩ (ps.zip (us++ds))
def cB.all{K:Fg1}{ps:U8}(h:∀us:U9,us.length=ps.length->bindArgs a ⟨us,[]⟩=pure (ps.zip us)):cB K a ps []:=λs us _ hl=>by
 rw[zc]at hl ⊢;exact .of_eq (h us hl)
def oH(CX:kH)(X:Cx)(E:XK):Prop:=∀(pins:U1) (σ:St) (H:Hp) (s:Shared) (e:Value) (s':Shared),az X pins σ H s->CX X.stack H s E e s'->X.xe e s'
section
variable {X:Cx}{f C:Addr}{apos:Pos}
theorem zb(F:aG X.prog X.w X.K X.mg X.base CX k f fd ps sp)(j:aK k X.A)(l:cB X.K fd ps ds)(m:bC dvs ds)(n:oH CX X E)(I:az X a c H s)(r:bC vs us)(h:sp (vs++dvs) H Q E):wpAny (model X.prog X.w) X.A (call (.ref f) us) (EP X a c Q) X.xe s:=by
 have g:bC (vs++dvs) (us++ds):=r.append m;have hl:(us++ds).length=ps.length:=by rw[<-g.length];exact F.len _ _ _ _ h
 refine wpAny_call (so (F.run X.A X.stack s H ⟨us,[]⟩ (us++ds) (vs++dvs) Q E j I.env0 (l s us I.kIn hl) g h) λr i b=>?_)
 cases r with
 |error e=>exact n a c H s e i I b
 |ok fl =>
  cases fl with
  |ret u=>exact I.after b
  |next=>exact elim b
  |brk=>exact elim b
  |cont=>exact elim b
def kI(F:aG X.prog X.w X.K X.mg X.base CX k f fd ps sp)(j:aK k X.A)(l:Gl X x)(hm:X.mg x=some (.ref f))(m:keepIn X.K (.ref f)=true)(n:cB X.K fd ps ds)(o:bC dvs ds)(u:oH CX X E)(v:PA X (e::es) t)(b:(x == 'g')=false:=by decide)(y:W1 X (e::es) e es:=by rfl)(c:W2 X pos es:=by rfl) :
  PE X (.Call (.Name x p) (e::es) [] pos) (Ly sp dvs E t):=by
 intro a s i H Q I h;refine ai (yT I l hm ?_ b);refine callWith_K (h₀:=X.base) I.ok.mod.kin m (aW (v pos a s i H _ I h) λus z ⟨vs,B,g,r,q⟩=>⟨g.kIn,?_⟩) y c;exact zb F j n o u g r q
def LA(M:PE X o ta)(c:gI X.K C)(hm:dW X.K C m f)(F:aG X.prog X.w X.K X.mg X.base CX k f fd ps sp)(N:aK k X.A)(O:cB X.K fd ps ds)(P:bC dvs ds)(R:oH CX X E)(T:PA X (e::es) t)(g:W1 X (e::es) e es:=by rfl)(i:W2 X pos es:=by rfl)(U:eval (.Call (.Attribute o m apos) (e::es) [] pos) X.env=(do
   let v ← eval o X.env
   standAt apos.atName
   let (f,first) ← holding [v] (getMethod v m pl)
   callWith pos f first (backTo pos (starEach (e::es) X.env)) (backToKw pos (keywordEach [] X.env))):=by rfl) :
  PE X (.Call (.Attribute o m apos) (e::es) [] pos) (Dq C m sp dvs E ta t):=by
 intro b s p H Q I h;refine methodCall_KW (pl:=pl) (aW (M b s p H _ I h) λu y ⟨x,z,j,B,a,Y,fs,G,J,l,q⟩=>?_) U;subst G;obtain rfl:u=Value.ref a:=B;refine Do j J c hm l ?_;refine callWith_K (first:=[.ref a]) (h₀:=X.base) I.ok.mod.kin hm.kp (aW (T pos b y p z _ j q) λus Z ⟨vs,H2,n,r,L⟩=>⟨n.kIn,?_⟩) g i;exact zb (us:=.ref a::us) (vs:=.ref a::vs) F N O P R n (.cons rfl r) L
def Dr(r:PE X o ta)(c:gI X.K C)(hm:dW X.K C m f)(F:aG X.prog X.w X.K X.mg X.base CX k f fd ps sp)(v:aK k X.A)(y:cB X.K fd ps ds)(z:bC dvs ds)(B:oH CX X E)(G:eval (.Call (.Attribute o m apos) [] [] pos) X.env=(do
   let g ← eval o X.env
   standAt apos.atName
   let (f,first) ← holding [g] (getMethod g m pl)
   callWith pos f first (backTo pos (starEach [] X.env)) (backToKw pos (keywordEach [] X.env))):=by rfl) :
  PE X (.Call (.Attribute o m apos) [] [] pos) (Dq C m sp dvs E ta y9):=by
 intro b s p H Q I h;refine methodCall_KW (pl:=pl) (aW (r b s p H _ I h) λu J ⟨x,L,e,i,a,M,fs,j,n,l,q⟩=>?_) G;subst j;obtain rfl:u=Value.ref a:=i;refine Do e n c hm l ?_;exact PySem.W.callWith_K0 (first:=[.ref a]) e.kIn hm.kp (zb (us:=[.ref a]) (vs:=[.ref a]) F v y z B e (.cons rfl .nil) q)
structure Mk(K:Fg1)(C f:Addr):Prop where
 makes:makesIn K C=true
 init:findIn K (.ref C) "__init__" = some (some (.ref f))
 fn:isFn K (.ref f)=true
 kp:keepIn K (.ref C)=true
theorem LB(M:Mk X.K C f)(F:aG X.prog X.w X.K X.mg X.base CX k f fd ps sp)(y:aK (k+1) X.A)(z:cB X.K fd ps ds)(B:bC dvs ds)(G:oH CX X E)(I:az X b g H s)(r:bC vs us)(h:∀x dx,H x=none->H dx=none->dx≠x->sp (.ref x::(vs++dvs)) (aF (aF H dx (.own x)) x (.ins C dx [])) (λv H2=>v=.non/\Q (.ref x) H2) E) :
  wpAny (model X.prog X.w) X.A (call (.ref C) us) (EP X b g Q) X.xe s:=by
 have i:=h (s.heap.objs.size+1) s.heap.objs.size (I.hok.fresh (Nat.le_succ _)) (I.hok.fresh (dc _)) (af (vq _));have c:=az.made (C:=C) I;have j:bC (V.ref (s.heap.objs.size+1)::(vs++dvs)) (Value.ref (s.heap.objs.size+1)::(us++ds)):=.cons rfl (r.append B)
 have hl:(Value.ref (s.heap.objs.size+1)::us++ds).length=ps.length:=by
  have e:=j.length;rw[F.len _ _ _ _ i]at e;exact e.symm
 refine wpAny_call (Lk (f:=f) I.kIn M.makes M.init (beq_iff_eq.mp M.fn) (codeAny_mono (F.run _ X.stack _ _ ⟨Value.ref (s.heap.objs.size+1)::us,[]⟩ (Value.ref (s.heap.objs.size+1)::(us++ds)) _ _ E (y.make C us [])
  (c.env0.make C us []) (z _ (Value.ref (s.heap.objs.size+1)::us) c.kIn hl) j i) λr l a=>?_))
 cases r with
 |error e=>exact G b g _ _ e l c a
 |ok fl =>
  cases fl with
  |ret u =>
   have⟨v,m,n,o,p,q⟩:=c.after a;subst p;exact⟨o,⟨V.ref (s.heap.objs.size+1),m,n,rfl,q⟩⟩
  |next=>exact elim a
  |brk=>exact elim a
  |cont=>exact elim a
def LC(M:Mk X.K C f)(F:aG X.prog X.w X.K X.mg X.base CX k f fd ps sp)(j:aK (k+1) X.A)(l:Gl X x)(hm:X.mg x=some (.ref C))(m:cB X.K fd ps ds)(n:bC dvs ds)(o:oH CX X E)(u:PA X (e::es) t)(b:(x == 'g')=false:=by decide)(v:W1 X (e::es) e es:=by rfl)(c:W2 X pos es:=by rfl) :
  PE X (.Call (.Name x p) (e::es) [] pos) (Lz C sp dvs E t):=by
 intro a s i H Q I h;refine ai (yT I l hm ?_ b);refine callWith_K (h₀:=X.base) I.ok.mod.kin M.kp (aW (u pos a s i H _ I h) λus y ⟨vs,z,g,r,q⟩=>⟨g.kIn,?_⟩) v c;exact LB M F j m n o g r q
end
def PK(X:Cx)(kws:List Keyword)(t:TA):Prop :=
 ∀(pos:Pos) (pins:U1) (s:Shared) (σ:St) (H:Hp) (Q:U6->Hp->Prop),az X pins σ H s->t σ H Q->wpAny (model X.prog X.w) X.A (evalAll ((backToKw pos (keywordEach kws X.env)).map (·.2))) (AP X pins σ Q) X.xe s
section
def zr:PK X [] y9:=λ_ _ _ _ H Q I h=>wpAny_evalAll_nil ⟨[],H,I,.nil,h⟩
def zt(q:PE X e te)(r:PK X kws t):PK X (⟨nm,e,kpos⟩::kws) (Dp te t):=by
 intro b a s c H Q I h;show wpAny _ _ (evalAll ((do let v ← eval e X.env;standAt b;pure v)::(backToKw b (keywordEach kws X.env)).map (·.2))) _ _ s;refine wpAny_evalAll_cons (ba (aW (q a s c H _ I h) λu f ⟨x,g,i,j,l⟩=>ba (nq (wa ?_))));exact aW (r b a f c g _ i l) λus w ⟨xs,m,n,o,p⟩=>⟨x::xs,m,n,.cons j o,p⟩
end
structure ax(N P:U8)(sc:Scope):Prop where
 kind:sc.kind=.function
 co:sc.isCoroutine=false
 gen:sc.isGenerator=false
 nd:N.Nodup
 pre:N.take P.length=P
 par:∀x∈P,sc.names.lookup x=some .local\/sc.names.lookup x=some .cell
 nofree:∀y∈sc.names,y.2≠.free
theorem Ds:∀{binds:List (Str×Value)}{m:Str->Y0},(∀v,(x,v) ∉ binds)->bindL a binds m x=m x
 |[],_,_=>rfl
 |(n,v)::r,m,h=>by
  unfold bindL;rw[Ds λw b=>h w (ua _ b)];split
  ·have:x≠n:=by rintro rfl;exact h v cc
   simp[this]
  ·rfl
theorem Dt:∀{binds:List (Str×Value)}{m:Str->Y0},(∀v,(x,v) ∉ binds)->bindC a binds m x=m x
 |[],_,_=>rfl
 |(n,v)::r,m,h=>by
  unfold bindC;rw[Dt λw b=>h w (ua _ b)];split
  ·rfl
  ·have:x≠n:=by rintro rfl;exact h v cc
   simp[this]
theorem Du:∀{P:U8}{vs:U9}{i:Nat}{m:Str->Y0},P.Nodup->P[i]?=some x->vs[i]?=some v->a x=some .local →
  bindL a (P.zip vs) m x=some v
 |[],_,_,_,_,h,_,_=>by simp at h
 |_::_,[],_,_,_,_,h,_=>by simp at h
 |p::P,w::vs,0,m,e,b,c,f=>by
  simp at b c;subst b;subst c;show bindL a ((p,w)::P.zip vs) m p=_;unfold bindL;rw[Ds λv g=>(yf.mp e).1 (wn g).1,ya f];simp
 |p::P,w::vs,i+1,m,e,b,c,f=>by
  show bindL a ((p,w)::P.zip vs) m x=_;unfold bindL;exact Du (i:=i) (yf.mp e).2 (by simpa using b) (by simpa using c) f
theorem Dv:∀{P:U8}{vs:U9}{i:Nat}{m:Str->Y0},P.Nodup->P[i]?=some x->vs[i]?=some v->a x≠some .local →
  bindC a (P.zip vs) m x=some v
 |[],_,_,_,_,h,_,_=>by simp at h
 |_::_,[],_,_,_,_,h,_=>by simp at h
 |p::P,w::vs,0,m,e,b,c,f=>by
  simp at b c;subst b;subst c;show bindC a ((p,w)::P.zip vs) m p=_;unfold bindC;rw[Dt λv g=>(yf.mp e).1 (wn g).1,ic f];simp
 |p::P,w::vs,i+1,m,e,b,c,f=>by
  show bindC a ((p,w)::P.zip vs) m x=_;unfold bindC;exact Dv (i:=i) (yf.mp e).2 (by simpa using b) (by simpa using c) f
def hG(N:U8)(vs:U6):St:=vs.map some++replicate (N.length - vs.length) none
def gJ(CX:kH)(P:Program)(w:World)(K:Fg1)(mg:Str->Y0)(base:Heap)(N:U8)(qual:Str)(scope:Scope)(f:Addr)(cd:Value)(A:Around)(outer:Yb)(s:Shared)(H:Hp)(E:XK):Cx where
 prog:=P
 w:=w
 K:=K
 mg:=mg
 base:=base
 A:=A.deeper (envOfC qual scope s.heap.objs.size f cd)
 N:=N
 s₀:=s
 H₀:=H
 env:=envOfC qual scope s.heap.objs.size f cd
 outer:=outer
 stack:=envOfC qual scope s.heap.objs.size f cd::outer
 ex:=[]
 calm:=true
 fn:=λ_=>true
 pn:=[]
 xe:=λe s'=>wpAny (model P w) (A.deeper (envOfC qual scope s.heap.objs.size f cd)) (leaving (envOfC qual scope s.heap.objs.size f cd) e) (λ_ s''=>CX outer H s E e s'') (λe' s''=>CX outer H s E e' s'') s'
def Dx{sc:Scope}(h:sc.names.lookup x=some .cell):∃c,(cellsFrom n sc.names []).lookup x=some c:=by
 have q:=cellsFrom_some sc.names n [] (.inl h);exact Option.isSome_iff_exists.mp q
def LD{K:Fg1}{ps:U8}{g:Scope}{A:Around}{s:Shared}{vs:U6}(S:ax N ps g)(X:A.handled=none)(B:fA P w K M o A j s H)(hl:vs.length=ps.length)(r:bC vs us)(x:InCallC s s.heap.objs.size (bindL (envOfC l g s.heap.objs.size f L).kindOf (ps.zip us) λ_=>none) (cellsFrom (s.heap.objs.size+1) g.names []) (bindC (envOfC l g s.heap.objs.size f L).kindOf (ps.zip us) λ_=>none) s1) :
  az (gJ CX P w K M o N l g f L A j s H E) [] (hG N vs) H s1:=by
 have T:ps.length<=N.length:=by have:=ef length S.pre;rw[se]at this;omega
 obtain⟨I,Z,rfl,O⟩:=x.done;have C:∀b:Addr,b ∉ (gJ CX P w K M o N l g f L A j s H E).ex:=λb z=>absurd (show b∈([]:Y8) from z) 'm'
 refine⟨⟨B.mod,S.kind,rfl,rfl,Nat.le_refl _,λ y z c I m=>?_,λ y hy=>?_,λ y c _ h=>?_,λ _=>X,Around.frames_deeper B.frames,.inr ⟨rfl,rfl⟩,λ b z=>absurd z (C b),B.bs,B.bsz,λ b _ _=>C b,λ b z=>absurd z (C b),B.funs,B.frf⟩,
  rfl,B.bare,Un.kept O,⟨_,x.toInCall.ns,λi y v I m Y=>?_⟩,λy c h=>⟨_,x.cell y c h⟩,B.hok.fresh (dc _),λy c h=>?_,λp F=>absurd (show p∈([]:U1) from F) 'm',B.hok.kept O,?_⟩
 ·exact name_of_addr x.apart (mem_of_lookup I) (mem_of_lookup m)
 ·have hy:g.names.lookup y=some .cell\/g.names.lookup y=some .free:=hy
  rcases hy with hy|hy
  ·exact Dx hy
  ·exact absurd rfl (S.nofree _ (mem_of_lookup hy))
 ·exact vv (x.above y c (mem_of_lookup h))
 ·have J:i<vs.length:=by
   unfold hG at m;by_cases J:i<vs.length
   ·exact J
   ·rw[bg (by simpa using J)]at m
    rw[cg]at m
    split at m <;> cases m
  have U:vs[i]?=some v:=by
   unfold hG at m;rw[mf (by simpa using J),de]at m
   cases e:vs[i]? with
   |none=>rw[e]at m;cases m
   |some a=>rw[e]at m;cases m;rfl
  have⟨u,Q,R⟩:=r.get U
  have F:ps[i]?=some y:=by
   rw[<-S.pre,List.getElem?_take_of_lt 'o'];exact I
  have G:ps.Nodup:=by rw[<-S.pre];exact S.nd.sublist (List.take_sublist _ _)
  refine⟨u,R,?_⟩;rcases S.par y (ee F) with k|k
  ·exact .inl ⟨k,Du G F Q k⟩
  ·have⟨c,e⟩:=Dx (n:=s.heap.objs.size+1) k
   refine .inr ⟨.inl k,c,e,?_⟩;have q:=x.cell y c e;rw[Dv G F Q (by show g.names.lookup y≠_;rw[k];decide)]at q;exact q
 ·exact B.hok.fresh (vv (x.above y c (mem_of_lookup h)))
 ·unfold hG
  show _=N.length;rw[rc,aa,ah];omega
theorem LE{K:Fg1}{kV:Value}{ps:U8}(lk:K.lookup f=some ⟨oc,od,.func (fnOf name g j l a dV kV G pm an h ct),U⟩)(X:codeIn K h g=true)(S:ax N ps a)(len:∀vs H Q E,sp vs H Q E->vs.length=ps.length)(z:∀ (A:Around) (c:Yb) (s:Shared) (H:Hp) (vs:U6) (Q:VK) (E:XK),aK k (A.deeper (envOfC g a s.heap.objs.size f h))->sp vs H Q E →
   ∃t,bv (gJ CX P w K L i N g a f h A c s H E) l t/\t { nx:=λ_ H'=>Q .non H',rt:=Q } (hG N vs) H) :
  aG P w K L i CX (k+1) f (fnOf name g j l a dV kV G pm an h ct) ps sp:=by
 refine⟨len,λA c s H Y us vs Q E M B hb r C=>?_⟩;have hl:=len _ _ _ _ C;have Z:K.In s.heap:=B.mod.kin.keeps λb o e=>(B.bs b o e).1
 have T:s.heap.NoLimit:=B.mod.nolimit.keeps λb o e=>(B.bs b o e).1
 have p:∀y∈ps.zip us,a.names.lookup y.1=some .local\/(a.names.lookup y.1=some .cell/\((cellsFrom (s.heap.objs.size+1) a.names []).lookup y.1).isSome=true):=λ⟨n,v⟩ hy=>by
  rcases S.par n (wn hy).1 with q|q
  ·exact .inl q
  ·exact .inr ⟨q,cellsFrom_some _ _ _ (.inl q)⟩
 refine codeAny_call_function M.depth (Z _ _ lk) rfl S.co S.gen rfl (PySem.W.codeRec_of Z X) (hb _ _ _ _ ?_)
 refine wpAny_newFunctionEnv_cells S.kind p λenv he s1 x=>?_
 subst he;refine⟨T.keeps x.toInCall.keep,codeAny_func ?_⟩;have⟨t,ht,hq⟩:=z A c s H vs Q E (M.deeper _) C;have I:az (gJ CX P w K L i N g a f h A c s H E) [] (hG N vs) H s1:=LD S M.hd B hl r x;refine vh (ht [] s1 (hG N vs) H _ I hq) (λfl O hs=>?_) λe O hs=>hs
 have F:∀{m:St} {H':Hp} {v:V} {u:Value},az (gJ CX P w K L i N g a f h A c s H E) [] m H' O->bu v u->Q v H'->CE c P w H s Q u O :=
  λ{m H' v u} J R q=>⟨v,H',J.os,J.bare,J.base,J.hok,R,q⟩
 cases fl with
 |ret u =>
  obtain⟨v,m,H',J,R,q⟩:=hs;exact F J R q
 |next =>
  obtain⟨m,H',J,q⟩:=hs;exact F (v:=V.non) (u:=Value.none) J rfl q
 |brk =>
  obtain⟨_,_,_,q⟩:=hs;exact elim q
 |cont =>
  obtain⟨_,_,_,q⟩:=hs;exact elim q
section
variable {X:Cx}{id:String}
def zu(r:U6->Hp->VK->Prop)(t:TA):TE:=λσ H Q=>t σ H λvs H1=>r vs H1 Q
def vM(n:d7 X (.builtin id) r)(o:Gl X x)(hm:X.mg x=none)(q:bootBuiltins x=some (.builtin id))(u:PA X (e::es) t)(hn:x ≠ "__name__":=by decide)(b:(x == 'g')=false:=by decide)(v:W1 X (e::es) e es:=by rfl)(c:W2 X pos es:=by rfl):PE X (.Call (.Name x p) (e::es) [] pos) (zu r t):=by
 intro a s f H Q I h;refine ai (ny I o hm q ?_ hn b);exact PyProof.Rows.callWith_builtin1 (aW (u pos a s f H _ I h) λus g ⟨vs,i,j,l,m⟩=>n a g f i vs us Q j l m) v c
def zv(n:d7 X (.type T) r)(o:Gl X x)(hm:X.mg x=none)(q:bootBuiltins x=some (.type T))(u:PA X (e::es) t)(hn:x ≠ "__name__":=by decide)(b:(x == 'g')=false:=by decide)(v:W1 X (e::es) e es:=by rfl)(c:W2 X pos es:=by rfl):PE X (.Call (.Name x p) (e::es) [] pos) (zu r t):=by
 intro a s f H Q I h;refine ai (ny I o hm q ?_ hn b);exact uk (aW (u pos a s f H _ I h) λus g ⟨vs,i,j,l,m⟩=>n a g f i vs us Q j l m) v c
end
end L2
namespace HT
open PySem PyProof.Rows
section
open PySem.SeqAt
open PySem.AutoSeq1 (wpAny_loadPart')
open PySem.MeetsSeq PySem.MeetsSeq2 PySem.MeetsSeq3
end
section
variable {s:Shared}
noncomputable def sIx(n d:Nat):Y2->Nat
 |none=>d
 |some v=>if v<0 then (v+(n:Int)).toNat else min v.toNat n
def sIx_none(n d:Nat):sIx n d none=d:=rfl
def sIx_nat(n d k:Nat):sIx n d (some (k:Int))=min k n:=by
 show (if (k:Int)<0 then ((k:Int)+(n:Int)).toNat else min (k:Int).toNat n)=min k n;rw[ic 'o',qh]
theorem LG(n d:Nat)(b:d<=n)(o:Y2):sIx n d o<=n:=by
 cases o with
 |none=>exact b
 |some v =>
  show (if v<0 then (v+(n:Int)).toNat else min v.toNat n)<=n;by_cases a:v<0
  ·rw[ya a];omega
  ·rw[ic a];exact wq _ _
def Dy(v:Int)(n d:Nat):(if v<0 then max (v+(n:Int)) 0 else min v (n:Int))=((sIx n d (some v):Nat):Int):=by
 show (if v<0 then max (v+(n:Int)) 0 else min v (n:Int))=(((if v<0 then (v+(n:Int)).toNat else min v.toNat n):Nat):Int);by_cases a:v<0
 ·simp only[ya a];omega
 ·simp only[ic a];omega
def LH(a b:Y2)(n:Nat):Builtin.Slice.sliceAdjust a b 1 (n:Int)=(((sIx n 0 a:Nat):Int),((sIx n n b:Nat):Int)):=by
 have c:¬((1:Int)<0):=by omega
 unfold Builtin.Slice.sliceAdjust;simp only[c,xi];refine Prod.ext ?_ ?_
 ·cases a with
  |none=>rfl
  |some v=>exact Dy v n 0
 ·cases b with
  |none=>rfl
  |some v=>exact Dy v n n
def LI(i j:Nat):Builtin.Slice.slicePlaces (i:Int) (j:Int) 1=j - i:=by
 unfold Builtin.Slice.slicePlaces;have a:(1:Int) > 0:=by omega
 simp only[a,lr,Int.ediv_one]
 split <;> omega
theorem Dz(p:IsPart v o)(h:Q o s):wpAny (model prog w) A (Builtin.Slice.slicePartIndex v) Q E s:=by
 cases p with
 |none=>exact slicePart_none h
 |int i t=>exact slicePart_int h
def DA{Q:Int×Int×Nat->Shared->Prop}(hs:s.heap.IsSliceOf sl f g .none)(pl:IsPart f a)(j:IsPart g e)(h:Q (((sIx n 0 a:Nat):Int),1,sIx n n e - sIx n 0 a) s):wpAny (model prog w) A (Builtin.Slice.sliceApplied (.ref sl) (pure (n:Int))) Q E s:=by
 have⟨os,b,i,c⟩:=id hs;unfold Builtin.Slice.sliceApplied Builtin.Slice.sliceFields;refine ba (ba (wpAny_field b c (x:=f) rfl (ba (wpAny_field b c (x:=g) rfl (ba (wpAny_field b c (x:=.none) rfl (wa ?_)))))));refine ba (slicePart_none ?_);show wpAny _ _ (if ((1:Int) == 0)=true then _ else _) _ _ s;rw[ic 'd'];refine ba (Dz pl (ba (Dz j (ba (wa ?_)))));show wpAny _ _ (match Builtin.Slice.sliceAdjust a e 1 (n:Int) with|(a,e)=>pure (a,(1:Int),Builtin.Slice.slicePlaces a e 1)) _ _ s;rw[LH a e n];show wpAny _ _ (pure (((sIx n 0 a:Nat):Int),(1:Int),Builtin.Slice.slicePlaces ((sIx n 0 a:Nat):Int) ((sIx n n e:Nat):Int) 1)) _ _ s;rw[LI];exact wa h
def LJ(xs:Y4)(i k:Nat):((List.range k).filterMap λ(m:Nat)=>xs[((i:Int)+(m:Int) * 1).toNat]?).toArray=((xs.toList.drop i).take k).toArray:=by
 have e:(λ(m:Nat)=>xs[((i:Int)+(m:Int) * 1).toNat]?)=λm=>xs[i+m]?:=by
  funext m
  have:((i:Int)+(m:Int) * 1).toNat=i+m:=by omega
  rw[this]
 rw[e]
 have:=pick_run xs i k
 rw[List.filterMap_map]at this;have e2:((λx=>xs[x]?) ∘ λx=>i+x)=λm=>xs[i+m]?:=rfl
 rw[e2]at this;rw[this]
def getItem_tuple_cut(f:IsTup s.heap t a)(hs:s.heap.IsSliceOf sl n o .none)(pl:IsPart n c)(r:IsPart o e)(u:¬(sIx a.size 0 c=0/\sIx a.size a.size e=a.size))(h:Q (.ref s.heap.objs.size) { s with heap:=s.heap.push { cls:=.type "tuple",data:=.seq ((a.toList.drop (sIx a.size 0 c)).take (sIx a.size a.size e - sIx a.size 0 c)).toArray } })(hsz:a.size<=sizeLine):wpAny (model prog w) A (getItem (.ref t) (.ref sl)) Q E s:=by
 have b:sizeOk (.seq ((a.toList.drop (sIx a.size 0 c)).take (sIx a.size a.size e - sIx a.size 0 c)).toArray):=by
  show ((a.toList.drop (sIx a.size 0 c)).take (sIx a.size a.size e - sIx a.size 0 c)).toArray.size<=sizeLine;rw[bc,se,mh,qf];omega
 have v:sIx a.size a.size e<=a.size:=LG _ _ (dc _) e;have⟨os,g,i,p⟩:=id hs;have j:s.TypeIs (.ref sl) "slice":=⟨os,g,i⟩
 unfold getItem
 try with_reducible refine fg ?_
 first|refine ba (wa ?_)|skip
 refine ba (wpAny_sequenceKey f.typeIs 'd' ?_)
 refine wpAny_bind (wpAny_callSpecial?_slot (name:=ofString "__getitem__") f.typeIs PyProof.Rows.slot_tuple_getitem
  (ji ag f.typeIs entry_tuple_getitem ?_ (args_tuple_getitem _ _)))
 show wpAny _ _ (Builtin.Tuple.tupleItemsOf (.ref t) >>= _) _ _ s;refine ba (tupleItemsOf_ f ?_);refine ba (wpAny_typeOf j ?_);rw[ya 'd'];refine ba (DA hs pl r ?_)
 have l:¬((((sIx a.size 0 c:Nat):Int) == 0 && (1:Int) == 1 && (sIx a.size a.size e - sIx a.size 0 c) == a.size)=true):=by
  intro q;rw[uc,uc]at q;have x:((sIx a.size 0 c:Nat):Int)=0:=eq_of_beq q.1.1;have y:sIx a.size a.size e - sIx a.size 0 c=a.size:=eq_of_beq q.2;exact u ⟨'o','o'⟩
 show wpAny _ _ (if (((sIx a.size 0 c:Nat):Int) == 0 && (1:Int) == 1 && (sIx a.size a.size e - sIx a.size 0 c) == a.size)=true then _ else _) _ _ s;rw[ic l,LJ]
 first
  |exact ba (m:=Builtin.Tuple.tupleExact _) (rh (wa ⟨_,rfl,wa h⟩) b)
  |exact ba (m:=Builtin.Tuple.tupleExact _) (rh (ba (wa (wa ⟨_,rfl,wa h⟩))) b)
  |exact ba (ba (m:=Builtin.Tuple.tupleExact _) (rh (wa (wa ⟨_,rfl,wa h⟩)) b))
  |exact ba (ba (m:=Builtin.Tuple.tupleExact _) (rh (wa ⟨_,rfl,wa h⟩) b))
end
end HT
namespace L2
open PySem PySem.Spec PyProof.Rows
abbrev TO:=St->Hp->(Y2->Hp->Prop)->Prop
def PO(X:Cx)(e:Option Expr)(t:TO):Prop :=
 ∀(pins:U1) (s:Shared) (σ:St) (H:Hp) (Q:Y2->Hp->Prop),az X pins σ H s->t σ H Q →
  wpAny (model X.prog X.w) X.A (evalPart e X.env) (λu s'=>∃o H',az X pins σ H' s'/\IsPart u o/\Q o H') X.xe s
def LK:TO:=λ_ H Q=>Q none H
def LL(t:TE):TO:=λσ H Q=>t σ H λx H1=>∃i,x=.int i/\Q (some i) H1
section
variable {X:Cx}{lo hi:Option Expr}
def DB:PO X none LK:=by
 intro a s b H Q I h;rw[evalPart_none];exact wa ⟨none,H,I,.none,h⟩
def LM(h:PE X e te):PO X (some e) (LL te):=by
 intro a s j H Q I l;rw[evalPart_some];refine aW (h a s j H _ I l) λu m ⟨x,b,c,f,g⟩=>?_
 obtain⟨i,rfl,q⟩:=g;obtain⟨t,rfl⟩:=f;exact⟨some i,b,c,.int i t,q⟩
def iI(X:Cx)(r:V->Y2->Y2->Hp->VK->Prop):Prop :=
 ∀(pins:U1) (s:Shared) (σ:St) (H:Hp) (x:V) (v a b:Value) (lo hi:Y2) (sl:Addr) (Q:VK),az X pins σ H s->bu x v->s.heap.IsSliceOf sl a b .none->IsPart a lo->IsPart b hi->r x lo hi H Q →
  ∃T id,typeLookup (.type T) "__getitem__" = pure (some (.builtin id))/\s.TypeIs v T/\wpAny (model X.prog X.w) X.A (getItem v (.ref sl)) (EP X pins σ Q) X.xe s
def iI.or(h:iI X r)(h':iI X i):iI X (λx lo hi H Q=>r x lo hi H Q\/i x lo hi H Q):=by
 intro a s b H x v c e lo hi sl Q I f hs pl g q;rcases q with q|q
 ·exact h a s b H x v c e lo hi sl Q I f hs pl g q
 ·exact h' a s b H x v c e lo hi sl Q I f hs pl g q
def LN(r:V->Y2->Y2->Hp->VK->Prop)(te:TE)(tl th:TO):TE:=λσ H Q=>te σ H λx H1=>tl σ H1 λl H2=>th σ H2 λu a=>r x l u a Q
def DC(O:iI X r)(P:PE X e te)(hl:PO X lo tl)(R:PO X hi th):PE X (.Subscript e (.Slice lo hi none p2) pos) (LN r te tl th):=by
 intro a s f H Q I h;refine Subscript_ (aW (P a s f H _ I h) λv m ⟨x,n,o,p,y⟩=>?_);refine wpAny_Slice (aW (hl a m f n _ o y) λg z ⟨l,B,C,pl,E⟩=>aW (R a z f B _ C E) λi c ⟨u,j,F,G,J⟩=>?_);rw[evalPart_none];refine wa ?_;have N:az X a f j { c with heap:=c.heap.push { cls:=.type "slice",data:=.fields #[g,i,.none] } }:=F.kept (t':=c.toks) λb ob q=>jc _ q
 have⟨T,id,K,L,M⟩:=O a { c with heap:=c.heap.push { cls:=.type "slice",data:=.fields #[g,i,.none] } } f j x v g i l u c.heap.objs.size Q N p (Heap.IsSliceOf.new ..) pl G J;show wpAny (model X.prog X.w) X.A (subscriptTail e (.Slice lo hi none p2) v (.ref c.heap.objs.size)) (EP X a f Q) X.xe { c with heap:=c.heap.push { cls:=.type "slice",data:=.fields #[g,i,.none] } };exact tail_any (ops:=[.ref c.heap.objs.size,v]) L K M (by with_unfolding_all rfl)
def iJ(xs:U6)(lo hi:Y2):U6:=(xs.drop (HT.sIx xs.length 0 lo)).take (HT.sIx xs.length xs.length hi - HT.sIx xs.length 0 lo)
def DD(xs:U6)(a b:Y2):(iJ xs a b).length<=xs.length:=by
 unfold iJ;rw[se,mh];omega
def LO(K:Fg1):V->Y2->Y2->Hp->VK->Prop:=λx lo hi H Q=>∃a xs,x=.ref a/\cT K H a xs ∧
 ¬(HT.sIx xs.length 0 lo=0/\HT.sIx xs.length xs.length hi=xs.length)/\∀p,H p=none->Q (.ref p) (aF H p (.tup (iJ xs lo hi)))
def DE:iI X (LO X.K):=by
 intro i s u H x v w y e f sl Q I l hs pl m h;obtain⟨a,xs,rfl,n,p,q⟩:=h;cases l;have⟨g,r,j,hz⟩:=I.tuple n;have c:g.toArray.size=xs.length:=by rw[bc];exact r.length.symm
 refine⟨"tuple",_,ag.lookup,j.typeIs,?_⟩;refine HT.getItem_tuple_cut j hs pl m (by rw[c];exact p) ?_ (by rw[c];exact hz);rw[c];refine⟨.ref s.heap.objs.size,_,I.laid (t':=s.toks) (o:=.tup (iJ xs e f)) (λb ob q=>jc _ q) (dc _) ?_,rfl,q _ (I.hok.fresh (dc _))⟩;exact⟨re (DD xs e f) hz,_,(r.drop (HT.sIx xs.length 0 e)).take (HT.sIx xs.length xs.length f - HT.sIx xs.length 0 e),IsTup.new _ _⟩
end
noncomputable def iK(n:Nat)(i:Int):Option Nat:=if 0<=i then (if i<n then some i.toNat else none) else if -(n:Int)<=i then some (i+n).toNat else none
def eK{α:Type}(xs:List α)(i:Int):Option α:=(iK xs.length i).bind λj=>xs[j]?
def DF(h:iK n i=some j):seqIndex? i n=some j/\j<n /\ -(n:Int)<=i/\i<n:=by
 unfold iK at h;by_cases b:0<=i
 ·rw[ya b]at h
  by_cases a:i<n
  ·rw[ya a]at h
   have e:i.toNat=j:=ae h;exact⟨by rw[seqIndex_of b a,e],'o','o',a⟩
  ·rw[ic a]at h;cases h
 ·rw[ic b]at h
  by_cases a:-(n:Int)<=i
  ·rw[ya a]at h
   have e:(i+n).toNat=j:=ae h;exact⟨by rw[seqIndex_neg 'o' a,e],'o',a,'o'⟩
  ·rw[ic a]at h;cases h
theorem zw(h:eK xs i=some v):∃j,seqIndex? i xs.length=some j/\xs[j]?=some v/\j<xs.length /\ -(xs.length:Int)<=i/\i<xs.length:=by
 unfold eK at h
 cases e:iK xs.length i with
 |none=>rw[e]at h;cases h
 |some j =>
  rw[e]at h;have⟨b,c,f,g⟩:=DF e;exact⟨j,b,h,c,f,g⟩
def zx{j:Nat}(h:xs[j]?=some v):eK xs (j:Int)=some v:=by
 have b:j<xs.length:=(wb.mp h).1
 have e:iK xs.length (j:Int)=some j:=by
  unfold iK;rw[ya 'o',ya 'o'];simp
 unfold eK;rw[e];exact h
def DG(b:Expr):Prop:=∀o i,subscripted b false o i=operate [o,i] (getItem o i)
def iL(X:Cx)(r:R2):Prop :=
 ∀(value a:Expr) (pins:U1) (s:Shared) (σ:St) (H:Hp) (x y:V) (v u:Value) (Q:VK),az X pins σ H s->bu x v->bu y u->r x y H Q →
  subscripted a false v u=operate [v,u] (getItem v u)->wpAny (model X.prog X.w) X.A (subscriptTail value a v u) (EP X pins σ Q) X.xe s
def jD(X:Cx)(id:String)(r:V->U6->Hp->VK->Prop):Prop :=
 ∀(pins:U1) (s:Shared) (σ:St) (H:Hp) (x:V) (xs:U6) (v:Value) (us:U9) (Q:VK),az X pins σ H s->bu x v->bC xs us->r x xs H Q →
  wpAny (model X.prog X.w) X.A (call (.builtin id) (v::us)) (EP X pins σ Q) X.xe s
section
variable {X:Cx}{a b:Expr}
def iL.or(h:iL X r)(h':iL X i):iL X (λx y H Q=>r x y H Q\/i x y H Q):=by
 intro a b c s e H x y v u Q I f g q hs;rcases q with q|q
 ·exact h a b c s e H x y v u Q I f g q hs
 ·exact h' a b c s e H x y v u Q I f g q hs
def LP(m:iL X r)(n:PE X a ta)(o:PE X b tb)(hs:DG b):PE X (.Subscript a b pos) (oG r ta tb):=by
 intro c s l H Q I h;exact Subscript_ (vH n o I h λv u e x y f g i j q=>m a b c e l f x y v u Q g i j q (hs _ _))
def LQ(K:Fg1):R2:=λx y H Q=>∃p xs i v,x=.ref p/\y=.int i/\bA K H p xs/\eK xs i=some v/\Q v H
def LR(K:Fg1):R2:=λx y H Q=>∃p xs i v,x=.ref p/\y=.int i/\cT K H p xs/\eK xs i=some v/\Q v H
def LS:R2:=λx y H Q=>∃z i c,x=.str z/\y=.int i/\z.length<=sizeLine/\eK z.cps.toList i=some c/\Q (.str ⟨#[c]⟩) H
def LT:iL X (LQ X.K):=by
 intro e f a s n H x y v u Q I C E h hs;obtain⟨p,xs,i,z,rfl,rfl,F,G,q⟩:=h;cases C;obtain⟨t,rfl⟩:=E;have⟨g,r,pl,hz⟩:=I.list F;have⟨j,c,J,N,L,M⟩:=zw G;have⟨w,o,l⟩:=r.get J;have hl:=r.length;have hn:=qx;have b:EP X a n Q w s:=⟨z,H,I,l,q⟩
 by_cases A:0<=i
 ·have m:i.toNat=j:=by
   rw[seqIndex_of A M]at c;exact ae c
  exact item_listR pl.isList A 'o' (by rw[m];simpa using o) b hs
 ·have m:(i+(g.toArray.size:Int)).toNat=j:=by
   rw[seqIndex_neg 'o' L]at c;rw[bc,<-hl];exact ae c
  exact subscriptTail_builtinR (x:=w) pl.isList.typeIs slot_list_getitem.lookup
   (wpAny_getItem_list_neg (Q:=λr B=>r=w/\EP X a n Q r B) pl.isList 'o' (by rw[bc] <;> omega) 'o' (by rw[m];simpa using o) ⟨rfl,b⟩) hs
def LU:iL X (LR X.K):=by
 intro b c a s g H x y v u Q I m n h hs;obtain⟨p,xs,i,z,rfl,rfl,o,A,q⟩:=h;cases m;obtain⟨t,rfl⟩:=n;have⟨B,r,pl,hz⟩:=I.tuple o;have⟨j,C,E,G,J,L⟩:=zw A;have⟨w,F,e⟩:=r.get E;have hl:=r.length;have hn:=qx;have f:EP X a g Q w s:=⟨z,H,I,e,q⟩
 exact subscriptTail_builtinR (x:=w) pl.typeIs slot_tuple_getitem.lookup
  (getItem_tuple (j:=j) (Q:=λr l=>r=w/\EP X a g Q r l) pl 'o' 'o' (by rw[bc,<-hl];exact C) (by simpa using F) ⟨rfl,f⟩) hs
def LW:iL X LS:=by
 intro a b e s r H x y v u Q I g l h hs;obtain⟨z,i,c,rfl,rfl,hz,m,q⟩:=h;obtain⟨t,rfl⟩:=g;obtain⟨t',rfl⟩:=l;have⟨j,f,n,w,o,p⟩:=zw m;have hl:z.cps.toList.length=z.length:=by simp[Str.length]
 rw[hl]at f o p;have hn:=qx
 exact tail_any (typeIs_str s z t) slot_str_getitem.lookup (getItem_str (c:=c) (by
  have e1:decide (i < -(2 ^ 63:Int))=false:=be 'o';have e2:decide (i ≥ 2 ^ 63)=false:=be 'o';rw[e1,e2,Bool.or_false]) (by rw[f];simpa using n) ⟨.str ⟨#[c]⟩,H,I.tok _,⟨_,rfl⟩,q⟩) hs
def LX(a:U9)(n j:Nat)(u:Value):mapSeq (·.setIfInBounds j u) { cls:=.type "list",data:=.seq a.toArray n }={ cls:=.type "list",data:=.seq (a.set j u).toArray n }:=by
 simp[mapSeq]
theorem az.lst{b:U1}{c:St}{H:Hp}{s:Shared}{p:Addr}{xs:U6}(I:az X b c H s)(h:H p=some (.lst xs)) :
  ∃(a:U9) (n:Nat),bC xs a/\s.heap.get? p=some { cls:=.type "list",data:=.seq a.toArray n }/\xs.length<=sizeLine:=by
 have⟨z,a,n,r,e⟩:=I.hok p _ h;exact⟨a,n,r,e,z⟩
def az.lstUpd{a:U1}{s:Shared}{ys:U6}{c its':U9}(I:az X a g H s)(h:H p=some (.lst xs))(l:s.heap.get? p=some { cls:=.type "list",data:=.seq c.toArray n })(i:f { cls:=.type "list",data:=.seq c.toArray n }={ cls:=.type "list",data:=.seq its'.toArray n' })(r:bC ys its')(hz:ys.length<=sizeLine)(t:Nat) :
  az X a g (aF H p (.lst ys)) { s with heap:=s.heap.update p f,toks:=t }:=by
 have e:(s.heap.update p f).get? p=some { cls:=.type "list",data:=.seq its'.toArray n' }:=by
  rw[ik f l (by rw[i] <;> rfl),i]
 refine I.write (x:=p) (e:=p) (by rw[h];trivial) 'j' (λb u j q=>(bf _ _ (ue j)).trans q) ⟨_,e⟩ ?_;exact⟨hz,its',n',r,e⟩
def LY:V->V->V->Hp->(Hp->Prop)->Prop:=λo i v H Q=>∃p xs k j,o=.ref p/\i=.int k/\H p=some (.lst xs)/\iK xs.length k=some j/\Q (aF H p (.lst (xs.set j v)))
def LZ:C4 X LY:=by
 intro a s y H o i v E F u Q I z A B h;obtain⟨p,xs,k,j,rfl,rfl,g,C,q⟩:=h;cases z;obtain⟨t,rfl⟩:=A;have⟨b,n,r,e,hz⟩:=I.lst g;have⟨c,G,l,m⟩:=DF C;have hl:=r.length;have hn:=qx
 have w:az X a y (aF H p (.lst (xs.set j v))) { s with heap:=s.heap.update p (mapSeq (·.setIfInBounds j u)) } :=
  I.lstUpd g e (LX b n j u) (r.set B j) (by rw[sf];exact hz) s.toks
 by_cases x:0<=k
 ·have f:k.toNat=j:=by
   rw[seqIndex_of x m]at c;exact ae c
  exact PySem.W.ki_setAt e x 'o' (by rw[bc,<-hl];exact m) (by rw[f];exact⟨_,w,q⟩)
 ·have f:(k+(b.toArray.size:Int)).toNat=j:=by
   rw[seqIndex_neg 'o' l]at c;rw[bc,<-hl];exact ae c
  exact PySem.W.ki_setBack e 'o' (by rw[bc,<-hl];exact l) 'o' (by rw[f];exact⟨_,w,q⟩)
def L0(a b:Y2)(n:Nat):(sliceBounds a b none n).1=((HT.sIx n 0 a:Nat):Int)/\(sliceBounds a b none n).2.1=((HT.sIx n n b:Nat):Int)/\(sliceBounds a b none n).2.2=1:=by
 refine⟨?_,?_,rfl⟩
 ·cases a with
  |none=>simp[sliceBounds,HT.sIx]
  |some i =>
   simp only[sliceBounds,HT.sIx,Option.getD_none,show (1:Int) > 0 by decide,lr];by_cases h:i<0
   ·simp only[h,lr] <;> omega
   ·simp only[h,xi] <;> omega
 ·cases b with
  |none=>simp[sliceBounds,HT.sIx]
  |some i =>
   simp only[sliceBounds,HT.sIx,Option.getD_none,show (1:Int) > 0 by decide,lr];by_cases h:i<0
   ·simp only[h,lr] <;> omega
   ·simp only[h,xi] <;> omega
def L1(a:U9)(b c:Y2):slicePick a.toArray b c none=((a.drop (HT.sIx a.length 0 b)).take (HT.sIx a.length a.length c - HT.sIx a.length 0 b)).toArray:=by
 have⟨e,f,g⟩:=L0 b c a.toArray.size;unfold slicePick;rw[e,f,g];simp only[sliceRange_one,pick_run,bc] <;> rfl
def L3(K:Fg1):V->Y2->Y2->Hp->VK->Prop:=λx lo hi H Q=>∃a xs,x=.ref a/\bA K H a xs/\∀p,H p=none->Q (.ref p) (aF H p (.lst (iJ xs lo hi)))
def L4:iI X (L3 X.K):=by
 intro g s p H x v u w e f sl Q I j hs pl l h;obtain⟨a,xs,rfl,m,q⟩:=h;cases j;have⟨n,r,i,hz⟩:=I.list m;have c:=r.length;refine⟨"list",_,slot_list_getitem.lookup,i.isList.typeIs,?_⟩;refine wpAny_getItem_list_slice i.isList hs pl l .none 'm' ?_ (by rw[bc] <;> omega);rw[L1,<-c];refine⟨.ref s.heap.objs.size,_,I.laid (t':=s.toks) (o:=.lst (iJ xs e f)) (λb ob q=>jc _ q) (dc _) ?_,rfl,q _ (I.hok.fresh (dc _))⟩;exact⟨re (DD xs e f) hz,_,0,(r.drop (HT.sIx xs.length 0 e)).take (HT.sIx xs.length xs.length f - HT.sIx xs.length 0 e),pd _ rfl⟩
noncomputable def dL:V->Bool
 |.non=>true
 |.bl _=>true
 |.int _=>true
 |.str _=>true
 |_=>false
noncomputable def jE:V->V->Bool
 |.non,.non=>true
 |.bl a,.bl b=>a == b
 |.bl a,.int b=>(if a then 1 else 0) == b
 |.int a,.bl b=>a == (if b then 1 else 0)
 |.int a,.int b=>a == b
 |.str a,.str b=>a == b
 |_,_=>false
theorem DH(e:bu y u)(c:bu x v)(g:dL y=true)(f:dL x=true):SeqAt.EqAt A s u v (jE y x):=by
 cases y with
 |non =>
  cases e
  cases x with
  |non=>cases c;exact ur _
  |bl b=>cases c;exact SeqAt.EqAt.none_bool b
  |int b=>obtain⟨t,rfl⟩:=c;exact SeqAt.EqAt.none_int b t
  |str b=>obtain⟨t,rfl⟩:=c;exact SeqAt.EqAt.none_str b t
  |_=>exact absurd (show false=true from f) bb
 |bl a =>
  cases e
  cases x with
  |non=>cases c;exact SeqAt.EqAt.bool_none a
  |bl b=>cases c;exact SeqAt.EqAt.bool_bool a b
  |int b=>obtain⟨t,rfl⟩:=c;exact SeqAt.EqAt.bool_int a b t
  |str b=>obtain⟨t,rfl⟩:=c;exact SeqAt.EqAt.bool_str a b t
  |_=>exact absurd (show false=true from f) bb
 |int a =>
  obtain⟨t',rfl⟩:=e
  cases x with
  |non=>cases c;exact SeqAt.EqAt.int_none a t'
  |bl b=>cases c;exact SeqAt.EqAt.int_bool a t' b
  |int b=>obtain⟨t,rfl⟩:=c;exact SeqAt.EqAt.int_int a t' b t
  |str b=>obtain⟨t,rfl⟩:=c;exact SeqAt.EqAt.int_str a t' b t
  |_=>exact absurd (show false=true from f) bb
 |str a =>
  obtain⟨t',rfl⟩:=e
  cases x with
  |non=>cases c;exact SeqAt.EqAt.str_none a t'
  |bl b=>cases c;exact SeqAt.EqAt.str_bool a t' b
  |int b=>obtain⟨t,rfl⟩:=c;exact SeqAt.EqAt.str_int a t' b t
  |str b=>obtain⟨t,rfl⟩:=c;exact SeqAt.EqAt.str_str a t' b t
  |_=>exact absurd (show false=true from f) bb
 |_=>exact absurd (show false=true from g) bb
def L5:d7 X (.builtin "len") (λxs H Q=>∃p ys,xs=[.ref p]/\(bA X.K H p ys\/cT X.K H p ys)/\Q (.int ys.length) H):=by
 intro e s g H xs us Q I r h;obtain⟨p,ys,rfl,hq,q⟩:=h;obtain⟨u,rfl,f⟩:=hE r;cases f;have hn:=qx;rcases hq with hq|hq
 ·have⟨b,c,pl,hz⟩:=I.list hq
  have a:=c.length;exact Calls.call_len_list pl.isList (by simp only[bc] <;> omega) ⟨.int ys.length,H,I.tok _,⟨s.toks+1,by rw[bc,a]⟩,q⟩
 ·have⟨b,c,pl,hz⟩:=I.tuple hq
  have a:=c.length;exact len_tuple pl (by simp only[bc] <;> omega) ⟨.int ys.length,H,I.tok _,⟨s.toks+1,by rw[bc,a]⟩,q⟩
def L6:d7 X (.builtin "len") (λxs H Q=>∃z,xs=[.str z]/\z.length<=sizeLine/\Q (.int z.length) H):=by
 intro a s b H xs us Q I r h;obtain⟨z,rfl,hz,q⟩:=h;obtain⟨u,rfl,t,rfl⟩:=hE r;have hn:=qx;exact len_str 'o' ⟨.int z.length,H,I.tok _,⟨_,rfl⟩,q⟩
def d7.or(h:d7 X f r)(h':d7 X f c):d7 X f (λxs H Q=>r xs H Q\/c xs H Q):=by
 intro a s b H xs us Q I rs q;rcases q with q|q
 ·exact h a s b H xs us Q I rs q
 ·exact h' a s b H xs us Q I rs q
def L7:d7 X (.type "list") (λxs H Q=>∃p ys,xs=[.ref p]/\(bA X.K H p ys\/cT X.K H p ys)/\∀l,H l=none->Q (.ref l) (aF H l (.lst ys))):=by
 intro i s A H xs us Q I r h;obtain⟨p,ys,rfl,hq,q⟩:=h;obtain⟨u,rfl,B⟩:=hE r;cases B
 have j:∀(a:U9),bC ys a->ys.length<=sizeLine->∀(h':Heap) (f:Nat),(∀b z,s.heap.get? b=some z->h'.get? b=some z) →
   h'.get? s.heap.objs.size=some { cls:=.type "list",dict:=none,data:=.seq a.toArray f,slots:=#[] }->EP X i A Q (.ref s.heap.objs.size) { s with heap:=h' }:=λa c hz h' f g e =>
  ⟨.ref s.heap.objs.size,_,I.laid (t':=s.toks) g (dc _) (show cF X.prog X.w _ h' _ (.lst ys) from⟨hz,a,f,c,e⟩),rfl,q _ (I.hok.fresh (dc _))⟩
 rcases hq with hq|hq
 ·have⟨a,c,pl,hz⟩:=I.list hq
  have m:=c.length;have⟨o,v,x,n,y⟩:=pl.isList;exact call_list_seq p 'j' v x y (λh' f g e=>j a c hz h' f g e) (by simp only[bc] <;> omega)
 ·have⟨a,c,pl,hz⟩:=I.tuple hq
  have m:=c.length;obtain⟨o,v,x,n,y⟩:=pl;exact call_list_seq p (.inr rfl) v x y (λh' f g e=>j a c hz h' f g e) (by simp only[bc] <;> omega)
def DJ:d7 X (.type "tuple") (λxs H Q=>∃p ys,xs=[.ref p]/\((bA X.K H p ys/\∀l,H l=none->Q (.ref l) (aF H l (.tup ys)))\/(cT X.K H p ys/\Q (.ref p) H))):=by
 intro a s i H xs us Q I r h;obtain⟨p,ys,rfl,h⟩:=h;obtain⟨u,rfl,v⟩:=hE r;cases v;rcases h with⟨g,q⟩|⟨g,q⟩
 ·have⟨c,f,pl,hz⟩:=I.list g
  have j:=f.length;refine call_tuple_list pl.isList (λh' n=>?_) (by simp only[bc] <;> omega);have m:az X a i H { s with heap:=h' }:=I.kept (t':=s.toks) n
  have x:az X a i (aF H h'.objs.size (.tup ys)) { s with heap:=h'.push { cls:=.type "tuple",data:=.seq c.toArray } } :=
   m.laid (t':=s.toks) (λb o e=>jc _ e) (dc _) (show cF X.prog X.w _ _ _ (.tup ys) from⟨hz,c,f,IsTup.new _ _⟩)
  exact⟨.ref h'.objs.size,_,x,rfl,q _ (m.hok.fresh (dc _))⟩
 ·have⟨c,f,pl,hz⟩:=I.tuple g
  exact call_tuple_same pl ⟨.ref p,H,I,rfl,q⟩
def vN(K:Fg1)(T:String)(x:V)(H:Hp):Prop:=match x with
 |.str _=>T = "str"
 |.int _=>T = "int"
 |.ref p=>(T = "list" /\ ∃xs,bA K H p xs)\/(T = "tuple" /\ ∃o,K.lookup p=some o/\o.cls=.type "tuple" /\ o.dict=none) ∨
   (T = "dict" /\ ((∃kvs,H p=some (.dK kvs))\/∃kvs,H p=some (.dT kvs)))\/(T = "set" /\ ∃S n,H p=some (.set S n))
 |_=>False
theorem DK(I:az X g q H s)(r:bu x v)(ty:vN X.K T x H) :
  s.TypeIs v T/\∀a,v=.ref a->∃ob,s.heap.get? a=some ob/\ob.dict=none:=by
 cases x with
 |str z =>
  obtain⟨t,rfl⟩:=r
  cases (show T = "str" from ty)
  exact⟨typeIs_str s z t,λ_ e=>nomatch e⟩
 |int i =>
  obtain⟨t,rfl⟩:=r
  cases (show T = "int" from ty)
  exact⟨typeIs_int s i t,λ_ e=>nomatch e⟩
 |ref p =>
  cases r;rcases ty with⟨rfl,xs,l⟩|⟨rfl,o,b,m,h⟩|⟨rfl,b⟩|⟨rfl,S,n,b⟩
  ·have⟨j,_,pl,_⟩:=I.list l
   refine⟨pl.isList.typeIs,λa e=>?_⟩;cases e;obtain⟨o,n,e,c,h,_⟩:=pl;exact⟨o,e,h⟩
  ·refine⟨⟨o,I.kIn p o b,m⟩,λa e=>?_⟩
   cases e;exact⟨o,I.kIn _ o b,h⟩
  ·have z:∃o,s.heap.get? p=some o/\o.ExactDict:=by
    rcases b with⟨kvs,b⟩|⟨kvs,b⟩
    ·have⟨_,_,_,_,o,_,_,e,f,_⟩:=I.hok p _ b
     exact⟨o,e,f⟩
    ·have⟨_,_,_,_,o,_,_,e,f,_⟩:=I.hok p _ b
     exact⟨o,e,f⟩
   obtain⟨o,e,f⟩:=z;refine⟨⟨o,e,f.1⟩,λa e2=>?_⟩;cases e2;exact⟨o,e,f.2.1⟩
  ·have⟨o,_,_,_,e,f,_⟩:=I.hok p _ b
   refine⟨⟨o,e,f.1⟩,λa e2=>?_⟩;cases e2;exact⟨o,e,f.2.1⟩
 |_=>exact elim ty
def L8(K:Fg1)(T:String)(r:V->U6->Hp->VK->Prop)(to:TE):TE:=λσ H Q=>to σ H λx H1=>vN K T x H1/\r x [] H1 Q
def L9(K:Fg1)(T:String)(r:V->U6->Hp->VK->Prop)(to:TE)(t:TA):TE:=λσ H Q=>to σ H λx H1=>vN K T x H1/\t σ H1 λxs H2=>r x xs H2 Q
variable {apos cpos:Pos}{id:String}
def DL(u:PlainAttrs T)(e:Slot T name id)(f:typeOf (.builtin id)=pure (.type "method_descriptor"))(hm:jD X id r)(w:PE X o to)(b:attributeBase o name X.env (eval o X.env)=eval o X.env:=by rfl)(c:(apos.endLine == cpos.line)=true:=by rfl):PE X (.Call (.Attribute o name apos) [] [] cpos) (L8 X.K T r to):=by
 intro a s j H Q I h;refine wpAny_Call_method0_late b c (aW (w a s j H _ I h) λv l ⟨x,m,g,i,ty,n⟩=>?_);have⟨p,q⟩:=DK g i ty;exact⟨T,id,u,e,f,p,q,ph rfl (PySem.evalArgs_none (hm a l j m x [] v [] Q g i .nil n))⟩
def qz(G:PlainAttrs T)(g:Slot T name id)(l:typeOf (.builtin id)=pure (.type "method_descriptor"))(hm:jD X id r)(J:PE X o to)(L:PA X (e::es) t)(c:attributeBase o name X.env (eval o X.env)=eval o X.env:=by rfl)(i:((backTo cpos (starEach (e::es) X.env)).all (λ x=>!x.1) && (backToKw cpos (keywordEach [] X.env)).all (λ x=>x.1.isSome)
   && decide ((e::es).length+([]:List Keyword).length+'e'<30))=true:=by rfl)(f:(apos.endLine == cpos.line)=true:=by rfl)(hs:W1 X (e::es) e es:=by rfl)(b:W2 X cpos es:=by rfl) :
  PE X (.Call (.Attribute o name apos) (e::es) [] cpos) (L9 X.K T r to t):=by
 intro a s j H Q I h;refine wpAny_Call_method_late c i f rfl (aW (J a s j H _ I h) λv q ⟨x,u,m,n,ty,w⟩=>?_);have⟨E,F⟩:=DK m n ty;refine⟨T,id,G,g,l,E,F,?_⟩;have p:=L cpos a q j u _ m w;rw[hs]at p ⊢;refine ph (by show (false || (backTo cpos (starEach es X.env)).any (·.1))=false;rw[b] <;> rfl) (lj ?_);exact aW p λus y ⟨vs,z,A,B,C⟩=>hm a y j z x vs v us Q A n B C
end
def DM(X:Cx)(id:String)(r:V->U6->Hp->VK->Prop):Prop :=
 ∀(pins:U1) (s:Shared) (σ:St) (H:Hp) (x:V) (xs:U6) (v:Value) (us:U9) (Q:VK),az X pins σ H s->bu x v->bC xs us->r x xs H Q →
  wpAny (model X.prog X.w) X.A (call (.builtin id) (v::us)) (EP X pins σ Q) X.xe s
theorem bC.one:∀{x:V}{us:U9},bC [x] us->∃u,us=[u]/\bu x u
 |_,_,.cons r .nil=>⟨_,rfl,r⟩
theorem bC.zero:∀{us:U9},bC [] us->us=[]
 |_,.nil=>rfl
section
variable {s:Shared}{xs ys:U6}
def az.lset{a its':U9}(I:az X pins σ H s)(g:H l=some (.lst xs))(e:s.heap.get? l=some { cls:=.type "list",data:=.seq a.toArray n })(h:f a.toArray=its'.toArray)(i:bC ys its')(hz:ys.length<=sizeLine) :
  az X pins σ (aF H l (.lst ys)) { s with heap:=s.heap.update l (mapSeq f),toks:=t' }:=by
 have q:=PySem.IsL.update e f;rw[h]at q;refine I.write (x:=l) (e:=l) (by rw[g];exact trivial) 'j' (λj u b c=>(bf s.heap (mapSeq f) (ue b)).trans c) ⟨_,q⟩ ?_;exact⟨hz,its',_,i,q⟩
def az.lnew(I:az X pins σ H s)(b:bC ys a)(hz:ys.length<=sizeLine) :
  az X pins σ (aF H s.heap.objs.size (.lst ys)) { s with heap:=s.heap.push { cls:=.type "list",data:=.seq a.toArray },toks:=t' } :=
 I.laid (λ_ _ q=>jc _ q) (dc _) ⟨hz,a,0,b,pd _ rfl⟩
theorem az.fresh(I:az X pins σ H s):H s.heap.objs.size=none:=I.hok.fresh (dc _)
def az.lstM(I:az X pins σ H s)(b:H l=some (.lst xs)):xs.length<=sizeLine/\∃(a:U9) (n:Nat),bC xs a/\xs.length=a.length/\s.heap.get? l=some { cls:=.type "list",data:=.seq a.toArray n }:=by
 have⟨z,a,n,r,e⟩:=I.hok l _ b;exact⟨z,a,n,r,r.length,e⟩
end
section
def DN:V->U6->Hp->VK->Prop:=λx vs H Q=>∃l xs y,x=.ref l/\vs=[y]/\H l=some (.lst xs)/\xs.length<sizeLine/\Q .non (aF H l (.lst (xs++[y])))
def Ma:DM X "list.append" DN:=by
 intro b s j H x vs v us Q I f g h;obtain⟨l,xs,y,rfl,rfl,c,hz,q⟩:=h;cases f;obtain⟨u,rfl,i⟩:=g.one;have⟨z,a,n,r,hl,e⟩:=I.lstM c;refine yu F.slot_list_append ⟨_,e,rfl⟩ F.entry_list_append (F.args_list_append_2 _ _) (PySem.list_append l a.toArray n u (by rw[bc];omega)) ⟨e,?_⟩;refine⟨.non,_,I.lset (its':=a++[u]) c e 'm' (r.append (.cons i .nil)) ?_,rfl,q⟩;rw[rc,yc];omega
def Mb:V->U6->Hp->VK->Prop:=λx vs H Q=>∃l xs,x=.ref l/\vs=[]/\H l=some (.lst xs)/\Q .non (aF H l (.lst []))
def Mc:DM X "list.clear" Mb:=by
 intro c s j H x vs v us Q I g i h;obtain⟨l,xs,rfl,rfl,f,q⟩:=h;cases g;have b:=i.zero;subst b;have⟨z,a,n,r,hl,e⟩:=I.lstM f;refine yu F.slot_list_clear ⟨_,e,rfl⟩ F.entry_list_clear (F.args_list_clear_1 _) (AutoSeq1.list_clear_list_0 l a.toArray n (by rw[bc];omega)) ⟨e,?_⟩;exact⟨.non,_,I.lset (its':=[]) (ys:=[]) f e rfl .nil (ie _),rfl,q⟩
end
end L2
namespace Att
open PySem PySem.W PySem.Calls PyProof.Rows
theorem Md:∀(ns:Y7) (vs:U9),WellAll P h vs (ns.map WData.int)->IntsAre vs ns:=by
 intro ns
 induction ns with
 |nil =>
  intro vs w;rw[vg]at w;cases w;exact .nil
 |cons n ns c =>
  intro vs w;rw[ma]at w
  cases w with
  |cons a b =>
   cases a;exact .cons _ _ (c _ b)
theorem Me{l:OpenLaw}(hn:l.most=some n){h:Heap}(e:l.row.toRowW.claim.pre args=true)(o:WellAll P h c args) :
  ∃a vs b,c=[Value.ref a]/\args=[WData.list (b.map WData.int)]/\h.get? a=some { cls:=.type "list",data:=.seq vs.toArray }/\IntsAre vs b/\b.length<=n:=by
 have m:WShape.hasAll [] args [.list .int]=true:=(pre_splitW e).1;have p:l.pre.holds [] { args:=args }=true:=(pre_splitW e).2;obtain⟨d,r,rfl,s,u⟩:=hasAllW_cons m;obtain rfl:=hasAllW_nil u;obtain⟨xs,rfl,v⟩:=hasW_list s;obtain⟨b,rfl⟩:=items_int v
 have f:b.length<=n:=by
  unfold OpenLaw.pre at p
  have i:(WTm.not (.lt (.lit (.int (n:Int))) (.len (.arg 0)))).holds [] { args:=[.list (b.map .int)] }=true:=by
   have i:=(holds_andW p).1;rw[hn]at i;exact i
  have j:=condW_of i (w_not (w_lt w_lit (w_len_list (w_arg rfl))));rw[aa]at j;refine Nat.le_of_not_lt λq=>?_
  have w:(n:Int)<((b.length:Nat):Int):=by omega
  first
   |(rw[qc w]at j;exact absurd j 'd')
   |(simp at j;omega)
 cases o with
 |cons x y =>
  cases y
  cases x with
  |list z g=>exact⟨_,_,b,rfl,rfl,z,Md b _ g,f⟩
def Mf(l:OpenLaw)(args:List WData):l.row.toRowW.claim.post args (.bool true) args=true :=
 postW_of (r:=l.row.toRowW) (X:=(true == true))
  (show WShape.has [] (.bool true) .bool=true by first|rfl|decide|simp[WShape.has,WShape.arms,WShape.armsAll])
  (show (WTm.eq .res (.lit (.bool true))).value [] { args:=args,res:=some (.bool true),after:=args }=some (.bool (true == true)) from w_eq_bool (w_res rfl) w_lit) rfl
def attach_call{l:OpenLaw}{d:DefRec}(hn:l.most=some n)(B:d.params.defaults=[])(call:∀ (w:World) (c b:Shared) (p v:Str->Y0) (h:Addr) (o:Obj) (x s e:Value) (a:Addr) (vs:U9) (u:Y7),
   Ground q loose [] XP w c p v b.heap->H w b.heap →
   b.heap.get? h=some o->o.data=.func (docDef d.name d.params d.body d.scope x s e)->b.heap.CodeRec s d.name->p d.name=some (.ref h) →
   b.heap.get? a=some { cls:=.type "list",data:=.seq vs.toArray }->IntsAre vs u->u.length<=n->b.gens=#[] →
   codeAny (model l.prog w) callerA (.call (.ref h) ⟨[.ref a],[]⟩) (λr s'=>r=.ok (.ret (.bool true))/\OldK b.heap s'.heap/\s'.os=b.os/\AllBare s'.gens) b) :
  WalkO q loose XP H l.row.toRowW d [] (λf vs=>PySem.call f vs):=by
 intro w c b p v G Y h o x s e J kV K L y hD z M C E T i F N A O;obtain rfl:J=.none:=Dflts.none hD B;obtain rfl:kV=.none:=Dflts.noKw hD;obtain⟨a,vs,u,rfl,rfl,j,g,m⟩:=Me hn i A;refine enter_call (so (call w c b p v h o x s e a vs u G Y K (fd_plain L) y z j g m M) λr s' I=>?_);obtain⟨rfl,P,Q,R⟩:=I;exact⟨.inl ⟨.bool true,.bool true,[],rfl,λ_=>rfl,.bool true,Mf l _,λ_=>⟨cq,λ_ hm=>(nomatch hm)⟩⟩,P,Q,R⟩
end Att
namespace L2
open PySem PySem.Spec PyProof.Rows
theorem zy:∀{vs:U9}{a:Y7},IntsAre vs a->bC (a.map V.int) vs
 |_,_,.nil=>.nil
 |_,_,.cons n t h=>.cons ⟨t,rfl⟩ (zy h)
def zA(H:Hp):Prop:=∀b,H b=none\/∃o xs,H b=some (.frz o (.lst xs))
theorem Mg{K:Fg1}{s₁:Shared}{vs:U9}{G:Y7}(KX:K.In s₁.heap)(I:s₁.heap.Ns mainGlobals E)(f:s₁.heap.Ns builtinsNs Q)(T:∀x:Str,x ≠ "__name__" -> Q x=bootBuiltins x)(J:s₁.heap.NoLimit)(hg:s₁.gens=#[])(L:s₁.heap.get? a=some { cls:=.type "list",data:=.seq vs.toArray })(hi:IntsAre vs G)(hl:G.length<=sizeLine)(hr:aK k callerA)(F:∀base:Heap,K.In base->base.Ns mainGlobals E->aG P w K E base CX k R fd [x] sp)(j:∀(s:Shared) (u:Value),BindsTo s fd ⟨[u],[]⟩ [(x,u)])(U:∀H:Hp,zA H->bA K H a (G.map V.int)->sp [.ref a] H (λv _=>v=.bl true) λ_ _ _=>False)(X:∀H e s',CX [] H s₁ (λ_ _ _=>False) e s'->False) :
  codeAny (model P w) callerA (.call (.ref R) ⟨[.ref a],[]⟩) (λr s'=>r=.ok (.ret (.bool true))/\OldK s₁.heap s'.heap/\s'.os=s₁.os/\AllBare s'.gens) s₁:=by
 have rv:=zy hi;have A:=hi.length
 have i:∀H:Hp,zA H->bA K H a (G.map V.int)->dl P w H s₁.heap->(∀b,H b≠none->b=a)->(H a≠none->K.lookup a=none) →
   codeAny (model P w) callerA (.call (.ref R) ⟨[.ref a],[]⟩) (λr s'=>r=.ok (.ret (.bool true))/\OldK s₁.heap s'.heap/\s'.os=s₁.os/\AllBare s'.gens) s₁:=by
  intro H Y hS l Z hK;have c:∀{b:Addr} {o:Obj},s₁.heap.get? b=some o->H b=none->(mv s₁.heap H).get? b=some o:=λe n=>Kc e n
  have M:∀{b:Addr} {o:Obj} {es:Array DictEntry} {ep:Nat},s₁.heap.get? b=some o->o.data=.dict es ep->H b=none:=λ{b o es ep} e d=>by
   cases q:H b with
   |none=>rfl
   |some u =>
    have N:b=a:=Z b (by rw[q];simp);subst N;rw[L]at e;cases e;have d':Data.seq vs.toArray _=Data.dict es ep:=d
    cases d'
  have g:∀{b:Addr} {m:Str->Y0},s₁.heap.Ns b m->(mv s₁.heap H).Ns b m:=λ{b m} ⟨o,es,ep,e,d,r⟩=>⟨o,es,ep,c e (M e d),d,r⟩
  have B:K.In (mv s₁.heap H):=λ b o e=>c (KX b o e) (by
   cases q:H b with
   |none=>rfl
   |some u =>
    have N:b=a:=Z b (by rw[q];simp);subst N;rw[hK (by rw[q];simp)]at e;cases e)
  have hM:Mod K E (mv s₁.heap H):=⟨B,g I,⟨Q,g f,T⟩,let ⟨mc,h1,h2⟩:=J;⟨mc,g h1,h2⟩⟩
  have e0:fA P w K E (mv s₁.heap H) callerA [] s₁ H:=⟨rfl,hM,λb o e=>Kd e,Nat.le_of_eq (Kb _ _),trivial,λb f=>absurd (show b∈([]:Y8) from f) 'm',l,.of_eq hg⟩
  refine so ((F _ B (g I)).run callerA [] s₁ H ⟨[.ref a],[]⟩ [.ref a] [.ref a] _ _ hr e0 (j s₁ (.ref a)) (.cons rfl .nil) (U H Y hS)) λr s' h=>?_
  cases r with
  |error e=>exact(X H e s' h).elim
  |ok fl =>
   cases fl with
   |next=>exact elim h
   |brk=>exact elim h
   |cont=>exact elim h
   |ret u =>
    obtain⟨v,H',os,p,un,y,r',q⟩:=h;have q':v=.bl true:=q;subst q';obtain rfl:u=Value.bool true:=r';refine⟨rfl,OldK.of_keep λb o e=>?_,os,p⟩
    cases q:H b with
    |none=>exact un.keep b o e q (by intro z;exact absurd (show b∈([]:Y8) from z) 'm') 'm'
    |some u =>
     rcases Y b with z|⟨ob,xs,z⟩
     ·rw[q]at z;cases z
     ·have z2:=un.frzs b ob _ z
      have⟨e1,_⟩:=l b _ z;have⟨e2,_⟩:=y b _ z2;rw[e]at e1;cases e1;exact e2
 cases O:K.lookup a with
 |some o =>
  have e:=KX a o O;rw[L]at e;cases e;refine i (λ_=>none) (λ_=>.inl rfl) (.inr ⟨_,vs.toArray,_,O,rfl,rfl,rfl,by rw[bc,A];exact hl,by simpa using rv⟩) (λb u z=>by have C:(none:Option HO)=some u:=z;cases C) (λb z=>absurd rfl z) λz=>absurd rfl z
 |none =>
  refine i (λb=>if b=a then some (.frz { cls:=.type "list",data:=.seq vs.toArray } (.lst (G.map V.int))) else none) (λb=>?_) (.inl (.inr ⟨{ cls:=.type "list",data:=.seq vs.toArray },ya rfl⟩)) (λb u z=>?_) (λb z=>?_) λ_=>O
  ·by_cases f:b=a
   ·exact .inr ⟨_,_,ya f⟩
   ·exact .inl (ic f)
  ·by_cases f:b=a
   ·have C:=(ya f).symm.trans z
    cases C
    subst f;exact⟨L,by rw[aa];exact hl,vs,_,rv,L⟩
   ·have C:=(ic f).symm.trans z
    cases C
  ·by_cases f:b=a
   ·exact f
   ·exact absurd (ic f) z
def walk_of{l:PySem.W.OpenLaw}{M:World->Heap->Prop}{d:DefRec}{K:Params->Fg1}{CX:World->kH}{sp:World->Sp}(hn:l.most=some n)(B:n<=sizeLine)(C:d.params.defaults=[])(Z:aK k callerA)(hY:∀(w:World) (h:Heap),M w h->(K w.params).In h)(F:∀ (w:World) (j:Str->Y0) (r:Addr) (h:Heap),(K w.params).In h->h.Ns mainGlobals j->j d.name=some (.ref r) →
   ∃fd:FuncData,(∀(s:Shared) (u:Value),BindsTo s fd ⟨[u],[]⟩ [(x,u)]) ∧
    ∀base:Heap,(K w.params).In base->base.Ns mainGlobals j->aG l.prog w (K w.params) j base (CX w) k r fd [x] (sp w))(E:∀(w:World) (H:Hp) (a:Addr) (y:Y7),y.length<=n->zA H->bA (K w.params) H a (y.map V.int)->sp w [.ref a] H (λv _=>v=.bl true) λ_ _ _=>False)(I:∀(w:World) (H:Hp) (s:Shared) (e:Value) (A:Shared),CX w [] H s (λ_ _ _=>False) e A->False) :
  PySem.W.WalkO q loose XP M l.row.toRowW d [] (λf vs=>PySem.call f vs):=by
 refine Att.attach_call hn C λw J m j mb r o pm cd N a vs y G Y ho hd O z p i c P=>?_
 have L:=hY w _ Y;have⟨fd,U,X⟩:=F w j r _ L G.T.g z;exact Mg L G.T.g G.T.b G.T.builtins G.T.nolimit P p i (re c B) Z X U (λH Q R=>E w H a y c Q R) λH e A=>I w H m e A
abbrev aZ:kH:=λ_ _ _ _ _ _=>False
abbrev E0:XK:=λ_ _ _=>False
def iM:oH aZ X E0:=λ_ _ _ _ _ _ _ h=>h.elim
structure d8(K:Fg1)(x qual:Str)(st:Stmt)(f:Addr)(fd:FuncData):Prop where
 ex:∃(oc:Value) (od:Y9) (kV doc pm:Value) (an:Y9) (cdv ct:Value) (osl:Array Y0),
  fd=fnOf x qual (lF st) (fq st) (bj st) .none kV doc pm an cdv ct/\K.lookup f=some ⟨oc,od,.func fd,osl⟩/\codeIn K cdv qual=true
 kp:keepIn K (.ref f)=true
section
variable {K:Fg1}
def d8.ok{st:Stmt}{ps:U8}(F:d8 K x b st f j)(S:ax N ps (bj st))(len:∀vs H Q E,sp vs H Q E->vs.length=ps.length)(e:∀ (c:Value) (A:Around) (a:Yb) (s:Shared) (H:Hp) (vs:U6) (Q:VK) (E:XK),aK k (A.deeper (envOfC b (bj st) s.heap.objs.size f c))->sp vs H Q E →
   ∃t,bv (gJ aZ P w K mg base N b (bj st) f c A a s H E).nox (fq st) t/\t { nx:=λ_ H'=>Q .non H',rt:=Q } (hG N vs) H):aG P w K mg base aZ (k+1) f j ps sp:=by
 obtain⟨p,r,kV,m,u,v,c,y,n,rfl,o,i⟩:=F.ex;refine LE o i S len λA a s H vs Q E l g=>?_
 have⟨t,h,q⟩:=e c A a s H vs Q E l g;exact⟨t,h.nox,q⟩
def d8.binds{st:Stmt}{ps:U8}(F:d8 K x a st f j)(h:∀(kV b e:Value) (g:Y9) (c i:Value) (us:U9),us.length=ps.length->bindArgs (fnOf x a (lF st) (fq st) (bj st) .none kV b e g c i) ⟨us,[]⟩=pure (ps.zip us)):cB K j ps []:=by
 obtain⟨n,o,kV,b,e,g,c,i,l,rfl,p,m⟩:=F.ex;exact .all (h kV b e g c i)
def zC{st:Stmt}{kV:Value}(l:K.lookup f=some ⟨m,n,.func (fnOf x a (lF st) (fq st) (bj st) .none kV e i h b j),g⟩)(c:codeIn K b a=true)(k:keepIn K (.ref f)=true):d8 K x a st f (fnOf x a (lF st) (fq st) (bj st) .none kV e i h b j):=⟨⟨m,n,kV,e,i,h,b,j,g,rfl,l,c⟩,k⟩
end
def aH(H H':Hp):Prop:=∀b o,H b=some o->H' b=some o
def aH.refl(H:Hp):aH H H:=λ_ _ h=>h
def aH.trans(a:aH H e)(b:aH e H2):aH H H2:=λc o h=>b c o (a c o h)
theorem aH.free(e:aH H a)(h:a l=Option.none):H l=Option.none:=by
 cases q:H l with
 |none=>rfl
 |some o =>
  rw[e l o q]at h;cases h
def aH.seq{K:Fg1}(e:aH H b)(h:bA K H a xs):bA K b a xs:=by
 rcases h with(h|⟨o,h⟩)|h
 ·exact .inl (.inl (e _ _ h))
 ·exact .inl (.inr ⟨o,e _ _ h⟩)
 ·exact .inr h
noncomputable def kJ(env:Env)(x:Str)(k:NameKind):NameKind:=if (k == NameKind.free && env.scope.kind == .function && env.kindOf x == some .cell)=true then NameKind.cell else k
theorem DO:∀(a:List (Str×NameKind)) (x:Str),
  (a.map λ(n,k)=>if (k == NameKind.free && env.scope.kind == .function && env.kindOf n == some .cell) then (n,NameKind.cell) else (n,k)).lookup x=(a.lookup x).map (kJ env x)
 |[],_=>rfl
 |(n,k)::r,x=>by
  have f:=DO (env:=env) r x;show List.lookup x ((if (k == NameKind.free && env.scope.kind == .function && env.kindOf n == some .cell)=true then (n,NameKind.cell) else (n,k))::_)=_
  cases c:x == n with
  |true =>
   have e:x=n:=by simpa using c
   subst e;by_cases b:(k == NameKind.free && env.scope.kind == .function && env.kindOf x == some .cell)=true
   ·rw[ya b];simp only[xf,c,gh,kJ,ya b]
   ·rw[ic b];simp only[xf,c,gh,kJ,ic b]
  |false =>
   by_cases b:(k == NameKind.free && env.scope.kind == .function && env.kindOf n == some .cell)=true
   ·rw[ya b];simp only[xf,c];exact f
   ·rw[ic b];simp only[xf,c];exact f
def zD(a:Scope)(env:Env)(x:Str):(relabel a env).names.lookup x=(a.names.lookup x).map (kJ env x):=DO _ _
noncomputable def iZ(env:Env):List (Str×NameKind)->List (Str×Addr)->List (Str×Addr)
 |[],a=>a
 |(n,k)::r,a=>iZ env r (if (k == NameKind.free)=true then (n,(env.cells.lookup n).getD 0)::a else a)
def DP(h:∀y∈scope.names,y.2=.free->∃c,env.cells.lookup y.1=some c):closureFor scope env=pure (iZ env scope.names []):=by
 unfold closureFor;generalize scope.names=b at h
 have i:∀(b:List (Str×NameKind)) (cs:List (Str×Addr)),(∀y∈b,y.2=.free->∃c,env.cells.lookup y.1=some c) →
   (forIn b cs (λ(x:Str×NameKind) (r:List (Str×Addr))=>match x with|(name,f)=>(if (f == NameKind.free)=true then (do let a ← cellOf env name;pure (ForInStep.yield ((name,a)::r))) else pure (ForInStep.yield r):Sem (ForInStep (List (Str×Addr))))))=pure (iZ env b cs):=by
  intro b
  induction b with
  |nil=>intro cs _;rfl
  |cons y r p =>
   intro cs g;obtain⟨n,k⟩:=y;rw[List.forIn_cons];by_cases o:k=.free
   ·subst o
    have⟨c,l⟩:=g (n,.free) cc rfl;have e1:cellOf env n=pure c:=by unfold cellOf;rw[l]
    have e2:=p ((n,c)::cs) λz hz=>g z (ua _ hz)
    have j:iZ env ((n,NameKind.free)::r) cs=iZ env r ((n,c)::cs):=by
     show iZ env r (if (NameKind.free == NameKind.free)=true then (n,(env.cells.lookup n).getD 0)::cs else cs)=_;rw[ya (show (NameKind.free == NameKind.free)=true by decide),show env.cells.lookup n=some c from l];rfl
    rw[j,<-e2];simp only[beq_self_eq_true,lr,e1];rfl
   ·have m:(k == NameKind.free)=false:=by simpa using o
    have e2:=p cs λz hz=>g z (ua _ hz)
    have j:iZ env ((n,k)::r) cs=iZ env r cs:=by
     show iZ env r (if (k == NameKind.free)=true then (n,(env.cells.lookup n).getD 0)::cs else cs)=_;rw[ic (by rw[m];exact bb)]
    rw[j,<-e2];simp only[m,je,xi];rfl
 have e:=i b [] h;refine Eq.trans ?_ (Eq.trans (ef (λt:Sem (List (Str×Addr))=>t >>= λr=>pure r) e) ?_)
 ·rfl
 ·rfl
theorem zE:∀(b:List (Str×NameKind)) (g:List (Str×Addr)),(∀y∈b,y.2=.free->∃c,env.cells.lookup y.1=some c)->(∀x c,g.lookup x=some c->env.cells.lookup x=some c) →
  ∀x c,(iZ env b g).lookup x=some c->env.cells.lookup x=some c
 |[],g,_,i,x,c,h=>i x c h
 |(n,k)::r,g,m,i,x,c,h=>by
  refine zE r _ (λz hz=>m z (ua _ hz)) (λz d f=>?_) x c h;by_cases l:k=.free
  ·subst l
   have⟨a,j⟩:=m (n,.free) cc rfl;rw[ya (show (NameKind.free == NameKind.free)=true by decide),show env.cells.lookup n=some a from j]at f;rw[xf]at f
   cases hz:z == n with
   |true =>
    have e:z=n:=by simpa using hz
    subst e;rw[hz]at f;rw[j];exact f
   |false=>rw[hz]at f;exact i z d f
  ·have o:(k == NameKind.free)=false:=by simpa using l
   rw[ic (by rw[o];exact bb)]at f;exact i z d f
theorem DQ:∀(a:List (Str×NameKind)) (f:List (Str×Addr)),(a.lookup x=some .free\/∃c,f.lookup x=some c)->∃c,(iZ env a f).lookup x=some c
 |[],f,h=>by
  rcases h with h|h
  ·cases h
  ·exact h
 |(n,k)::r,f,h=>by
  refine DQ r _ ?_
  cases e:x == n with
  |true =>
   rcases h with h|⟨c,h⟩
   ·rw[xf,e]at h
    cases h;refine .inr ⟨(env.cells.lookup n).getD 0,?_⟩
    rw[ya (show (NameKind.free == NameKind.free)=true by decide),xf,e]
   ·by_cases b:(k == NameKind.free)=true
    ·refine .inr ⟨(env.cells.lookup n).getD 0,?_⟩
     rw[ya b,xf,e]
    ·exact .inr ⟨c,by rw[ic b];exact h⟩
  |false =>
   rcases h with h|⟨c,h⟩
   ·rw[xf,e]at h
    exact .inl h
   ·refine .inr ⟨c,?_⟩
    by_cases b:(k == NameKind.free)=true
    ·rw[ya b,xf,e];exact h
    ·rw[ic b];exact h
noncomputable def sS(X:Cx)(vars:U8)(cap:U7):U8:=vars++cap.map λi=>X.N.getD i ""
def gy(n:Nat)(cap:U7)(σ:St):St:=replicate n none++cap.map λi=>(σ[i]?).getD none
def cK(X:Cx)(scope:Scope)(C:Addr)(vars:U8)(cap:U7)(s:Shared)(H:Hp)(ex:Y8):Cx :=
 { X with N:=sS X vars cap,s₀:=s,H₀:=H,env:=compEnvC scope (iZ X.env scope.names []) C X.env,outer:=X.stack,stack:=X.stack,ex:=ex,fn:=λ_=>false,xe:=λ_ _=>False }
structure bZ(X:Cx)(scope:Scope):Prop where
 kind:scope.kind=.function
 cell:∀y∈scope.names,y.2≠.cell
 names:∀y∈scope.names,y.2=.local->scope.names.lookup y.1=some .local
 free:∀y∈scope.names,y.2=.free->X.env.kindOf y.1=some .cell\/X.env.kindOf y.1=some .free
section
variable {X:Cx}{pins:U1}{σ:St}{H:Hp}{s:Shared}
def dl.track(x:dl P w H h)(hn:H a=none)(new:cF P w (aF H a o) h a o):dl P w (aF H a o) h:=λb u e=>by
 by_cases f:b=a
 ·subst f;rw[aT]at e;cases e;exact new
 ·rw[aI f]at e
  exact(x b u e).stay (λc v _ q=>q) (λc q=>by rw[aI (dP q hn)];exact q) λc xs q=>by rw[aI (dP q hn)];exact q
def Un.later(u:Un fs ex H H1 h h1)(hH:∀b o,H b=some o->b<h.objs.size)(k:∀b o,b<h.objs.size->h1.get? b=some o->h2.get? b=some o)(e:∀b,b<h.objs.size->H2 b=H1 b):Un fs ex H H2 h h2 where
 keep:=λb o q n hb hx=>k b o (zd q) (u.keep b o q n hb hx)
 slot:=λb o q n hb hx=>by
  have⟨sl,z⟩:=u.slot b o q n hb hx;exact⟨sl,k b _ (zd q) z⟩
 free:=λb o q n hx=>by rw[e b (zd q)];exact u.free b o q n hx
 there:=λb o q hx=>by
  have⟨o',z⟩:=u.there b o q hx;exact⟨o',k b o' (zd q) z⟩
 tups:=λb xs q=>by rw[e b (hH b _ q)];exact u.tups b xs q
 frzs:=λb o v q=>by rw[e b (hH b _ q)];exact u.frzs b o v q
 tbls:=λb ps q=>by
  have⟨m,z⟩:=u.tbls b ps q;exact⟨m,by rw[e b (hH b _ q)];exact z⟩
theorem bZ.cells(S:bZ X scope)(I:az X pins σ H s):∀y∈scope.names,y.2=.free->∃c,X.env.cells.lookup y.1=some c:=λy a b=>I.ok.has y.1 (S.free y a b)
def vO{a:Type}:∀{l:List (Str×a)}{x:Str}{v:a},l.lookup x=some v->(x,v)∈l:=λh=>mem_of_lookup h
def Mh(S:bZ X scope)(I:az X pins σ H s)(A:∀i∈cap,i<X.N.length/\scope.names.lookup (X.N.getD i "")≠some .local)(w:∀b∈fp,lI X pins H b)(T:∀b∈fp,b<s.heap.objs.size)(L:s.heap.objs.size<=C)(J:∀b o,s.heap.get? b=some o->h1.get? b=some o)(hn:h1.Ns C m) :
  az (cK X scope C vars cap s H fp) pins (gy vars.length cap σ) H { s with heap:=h1,toks:=t' }:=by
 have g:=S.cells I;have s7:=zE (env:=X.env) scope.names [] g (λx c h=>by cases h);have hlt:∀b o,H b=some o->b<s.heap.objs.size:=λb o e=>I.hok.lt e
 have stk:∀b,b∈jB X.stack->b<s.heap.objs.size:=λb f=>by
  rcases wc.mp (I.stkSub b f) with e|e
  ·rw[e];exact I.lt
  ·have⟨_,o,ho,_⟩:=I.ok.funs.mem e
   exact vd (zd ho) I.sz
 have B:∀x,((cK X scope C vars cap s H fp).env.kindOf x=some .cell\/(cK X scope C vars cap s H fp).env.kindOf x=some .free)->scope.names.lookup x=some .free:=λx h=>by
  have h':(scope.names.lookup x).map (kJ X.env x)=some .cell\/(scope.names.lookup x).map (kJ X.env x)=some .free:=by
   rw[<-zD scope X.env x];exact h
  cases e:scope.names.lookup x with
  |none=>rw[e]at h';rcases h' with z|z <;> cases z
  |some k =>
   have nc:k≠.cell:=S.cell (x,k) (vO e);rw[e]at h';unfold kJ at h'
   cases k <;> first|rfl|exact absurd rfl nc|(simp at h')
 have G:(cK X scope C vars cap s H fp).Ok:=by
  refine⟨I.ok.mod,S.kind,I.ok.glob,I.ok.blt,L,λ x y c h1 h2=>I.ok.inj x y c (s7 x c h1) (s7 y c h2),λ x hx=>DQ scope.names [] (.inl (B x hx)),λ x c h=>(Bool.false_ne_true h).elim,I.ok.hd,I.ok.frames,.inl rfl,
   λb f=>⟨?_,λx c h=>(w b f).2.2.2.2.1 x c (s7 x c h)⟩,λb o e=>I.bs b o e,re I.ok.bsz I.sz,λb o e f=>?_,λb f M=>?_,I.stack,I.stkFree⟩
  ·exact af (vd (T b f) L)
  ·rcases(w b f).2.2.2.1 with z|z
   ·exact I.ok.noex b o e z
   ·exact absurd (vd (zd (I.ok.bs b o e).1) z) (yj _)
  ·rcases wc.mp (I.stkSub b M) with z|z
   ·exact(w b f).2.1 z
   ·exact(w b f).2.2.1 z
 refine⟨G,rfl,I.bare,Un.kept J,⟨m,hn,λi x v e1 e2 e3=>?_⟩,λx c e=>?_,I.hok.fresh L,λx c e=>I.freeC x c (s7 x c e),λp hp=>?_,I.hok.kept J,?_⟩
 ·-- the names of around
  have e1:(sS X vars cap)[i]?=some x:=e1;have a:(relabel scope X.env).names.lookup x=some .local\/(relabel scope X.env).names.lookup x=some .cell\/(relabel scope X.env).names.lookup x=some .free:=e3;unfold gy at e2;by_cases hi:i<vars.length
  ·rw[mf (by simpa using hi),cg]at e2
   split at e2 <;> cases e2
  ·rw[bg (by simpa using hi),ah,de]at e2
   unfold sS at e1;rw[bg 'o',de]at e1
   cases K:cap[i - vars.length]? with
   |none=>rw[K]at e1;cases e1
   |some j =>
    rw[K]at e1 e2;have hj:j<X.N.length:=(A j (ee K)).1
    have eN:X.N[j]?=some x:=by
     have z:X.N.getD j "" = x:=ae e1;rw[ed]at z
     cases q:X.N[j]? with
     |none=>rw[List.getElem?_eq_none_iff]at q;omega
     |some y=>rw[q]at z;exact ef some z
    have P:σ[j]?=some (some v):=by
     have z:(σ[j]?).getD none=some v:=ae e2
     cases q:σ[j]? with
     |none=>rw[q]at z;cases z
     |some y=>rw[q]at z;exact ef some z
    rw[zD]at a
    cases E:scope.names.lookup x with
    |none=>rw[E]at a;rcases a with z|z|z <;> cases z
    |some k =>
     rw[E]at a
     have nl:k≠.local:=λz=>by
      have z0:X.N.getD j "" = x:=ae e1;exact(A j (ee K)).2 (by rw[z0,E,z])
     have nc:k≠.cell:=S.cell (x,k) (vO E)
     have kf:k=.free:=by
      unfold kJ at a
      cases k <;> first|rfl|exact absurd rfl nc|exact absurd rfl nl|(simp at a)
     subst kf
     have Q:cZ X.env.scope x:=by
      rcases S.free (x,.free) (vO E) rfl with z|z
      ·exact .inr (.inl z)
      ·exact .inr (.inr z)
     have⟨m0,hn0,O⟩:=I.loc;have⟨u,r,l⟩:=O j x v eN P Q;refine⟨u,r,.inr ?_⟩
     have Z:(cK X scope C vars cap s H fp).env.kindOf x=some .cell\/(cK X scope C vars cap s H fp).env.kindOf x=some .free:=by
      show (relabel scope X.env).names.lookup x=some .cell\/(relabel scope X.env).names.lookup x=some .free;rw[zD,E];show some (kJ X.env x .free)=some .cell\/some (kJ X.env x .free)=some .free;unfold kJ;split
      ·exact .inl rfl
      ·exact .inr rfl
     have⟨c,U⟩:=G.has x Z;refine⟨Z,c,U,?_⟩;have R:=s7 x c U;rcases l with⟨Y,_⟩|⟨_,c2,F,z⟩
     ·rcases S.free (x,.free) (vO E) rfl with z|z
      ·have z:X.env.kindOf x=some .cell:=z
       rw[Y]at z;cases z
      ·have z:X.env.kindOf x=some .free:=z
       rw[Y]at z;cases z
     ·rw[R]at F;cases F
      exact Heap.IsCell.keeps z J
 ·have⟨v,z⟩:=I.cell x c (s7 x c e)
  exact⟨v,Heap.IsCell.keeps z J⟩
 ·have⟨e,n,ne,nf,d⟩:=I.pin p hp
  refine⟨J _ _ e,n,af (vd (zd e) L),λz=>?_,d⟩;rcases wc.mp (I.stkSub p.1 z) with q|q
  ·exact ne q
  ·exact nf q
 ·unfold gy
  show _=(sS X vars cap).length;unfold sS;simp
def az.repin(I:az X (pins++[(a,o)]) σ H s)(y:∀p∈X.pn++pins,p.1≠a)(A:a∈X.ex\/X.s₀.heap.objs.size<=a)(k:∀b u,b≠a->s.heap.get? b=some u->h'.get? b=some u)(e:h'.get? a=some o')(B:∀v,o'.data≠.cell v) :
  az X (pins++[(a,o')]) σ H { s with heap:=h',toks:=t' }:=by
 obtain⟨i,m,f,j,r⟩:=I.pin (a,o) 'm';have w:az X pins σ H s:=I.unpinned
 have cne:∀x c,X.env.cells.lookup x=some c->c≠a:=λx c q z=>by
  subst z;have⟨v,ob,g,l⟩:=I.cell x c q;have i:s.heap.get? c=some o:=i;rw[i]at g;cases g;exact r v l
 have n:az X pins σ H { s with heap:=h',toks:=t' }:=w.turned (it:=a) k m f A cne y;refine n.pins_of λp h=>?_
 rcases yd.mp h with z|z
 ·exact n.pin p (oe _ z)
 ·have z:p=(a,o'):=by simpa using z
  subst z;exact⟨e,m,f,j,B⟩
def az.pinnew(I:az X pins σ H s)(e:s.heap.get? a=some o)(hn:H a=none)(c:a≠X.env.locals)(f:a ∉ X.fs)(g:∀v,o.data≠.cell v):az X (pins++[(a,o)]) σ H s:=by
 refine I.pins_of λp b=>?_
 rcases yd.mp b with z|z
 ·exact I.pin p (oe _ z)
 ·have z:p=(a,o):=by simpa using z
  subst z;exact⟨e,hn,c,f,g⟩
def kK(X:Cx)(ifs:Y5)(t:TT):Prop :=
 ∀(pins:U1) (s:Shared) (σ:St) (H:Hp) (Q:Bool->Hp->Prop),az X pins σ H s->t σ H Q →
  wpAny (model X.prog X.w) X.A (forIn ifs true λc r=>if r=true then do let ok ← isTrue c X.env (eval c X.env);pure (ForInStep.yield ok) else pure (ForInStep.yield r)) (TP X pins σ Q) X.xe s
def Mi:TT:=λ_ H Q=>Q true H
def Mj:kK X [] Mi:=λa s b H Q I h=>wpAny_tests_nil ⟨H,I,h⟩
def DR(h:PT X c t):kK X [c] t:=λa s b H Q I e=>wpAny_tests_one (h a s b H Q I e)
theorem Ml(I:Nat->Shared->Prop)(turn:∀ n s,I n s->wpAny (model prog w) A (pyNext it) (λ r a=>match r with
   |none=>R (.ok .next) a
   | some v=>wpAny (model prog w) A (letOwnedTupleGo target it v) (λ _ b=>wpAny (model prog w) A (assign target env v) (λ _ f =>
     wpAny (model prog w) A (forIn ifs true λ c r=>if r=true then do let ok ← isTrue c env (eval c env);pure (ForInStep.yield ok) else pure (ForInStep.yield r)) (λ ok e =>
      if ok=true then wpAny (model prog w) A (eval elt env) (λ x g =>
       wpAny (model prog w) A (call (.builtin "list.append") [acc,x]) (λ_ i=>∃m,m<n/\I m i) (λ_ _=>False) g) (notedBy (model prog w) A env λx s'=>R (.error x) s') e
      else ∃m,m<n/\I m e) (λ_ _=>False) f) (λ_ _=>False) b) (λ_ _=>False) a) (λ_ _=>False) s)(n:Nat)(h:I n s) :
  codeAny (model prog w) A (.compLoop (.ListComp elt [⟨target,iter,ifs,0⟩] scope pos) 0 it acc env) R s:=by
 refine codeAny_loop rfl I (λn s y=>?_) n h;show wpAny _ A ((compTurn (.ListComp elt [⟨target,iter,ifs,0⟩] scope pos) 0 it acc env).onRaise (λx=>do noteFrame x env;theTreesLotGoes x)) _ _ s;refine wpAny_noted ?_;rw[compTurn_list];refine ba (nq (ba (vh (turn n s y) (λr a j=>?_) λ_ _ h'=>h'.elim)))
 cases r with
 |none=>exact wa j
 |some v =>
  refine ba (vh j (λ_ b o=>?_) λ_ _ h'=>h'.elim);refine ba (vh o (λ_ f p=>ba (vh p (λok e l=>?_) λ_ _ h'=>h'.elim)) λ_ _ h'=>h'.elim)
  cases ok with
  |false=>exact wa ⟨rfl,l⟩
  |true =>
   exact ba (ba (vh l (λx g q=>ba (vh q (λ_ i u=>wa (wa ⟨rfl,u⟩)) λ_ _ h'=>h'.elim)) λ_ _ h'=>h'))
end
def Sub(σ a:St):Prop:=a.length=σ.length/\∀(i:Nat) v,σ[i]?=some (some v)->a[i]?=some (some v)
def Sub.refl(σ:St):Sub σ σ:=⟨rfl,λ_ _ h=>h⟩
theorem Sub.set(h:Sub σ σ')(b:σ[i]?=some none):Sub σ (σ'.set i o):=by
 refine⟨by rw[sf];exact h.1,λj v e=>?_⟩;by_cases a:i=j
 ·subst a;rw[b]at e;cases e
 ·rw[ca a];exact h.2 j v e
def vP(J:It)(g:TG)(tt:TT)(te:TE)(c:St)(Q:U6->Hp->Prop)(H1:Hp):Prop :=
 ∃W:Nat->Nat->U6->Hp->Prop,(∃m,W 0 m [] H1)/\∀i m ys H,W i m ys H →
  (J.stop i H/\Q ys H)\/(J.go i H/\ys.length<sizeLine/\∃ N:U6->Hp->Prop,(∀ e H',N e H'->∃ h,h<m/\W (i+1) h e H') ∧
   ∀x H',J.yld i H x H'->g x c H' λa H2=>Sub c a/\tt a H2 λb f=>if b=true then te a f λy j=>N (ys++[y]) j else N ys f)
def zF(wi:TI)(g:TG)(tt:TT)(te:TE)(n:Nat)(cap:U7):TE:=λσ H Q=>wi σ H λJ H1 =>
 vP J g tt te (gy n cap σ) (λys H'=>ys.length<=sizeLine/\∀D,H' D=none->Q (.ref D) (aF H' D (.lst ys))) H1
noncomputable abbrev my(us:U9)(n:Nat):Obj:={ cls:=.type "list",data:=.seq us.toArray n }
section
variable {X:Cx}{scope:Scope}{vars:U8}
def DS{s:Shared}{tn:Nat->Heap->Prop}{Q:U6->Hp->Prop}{RR:Value->Addr->Result->Shared->Prop}{xc:Shared->Hp->Addr->Y8->Value->Shared->Prop}(hc:X.calm=true)(S:bZ X scope)(hcap:∀i∈cap,i<X.N.length/\scope.names.lookup (X.N.getD i "")≠some .local)(I:az X f σ H s)(T:gH X.prog X.w X.K tg J G it tn)(st:tn 0 s.heap)(hf:∀b∈G,lI X f H b)(hg:∀s H C ex,PG (cK X scope C vars cap s H ex) tg g)(ht:∀s H C ex,kK (cK X scope C vars cap s H ex) ifs tt)(he:∀s H C ex,PE ((cK X scope C vars cap s H ex).wish (xc s H C ex)) elt te)(hx:∀D C v P,s.heap.objs.size<=C->xc s H C G v P->notedBy (model X.prog X.w) X.A (cK X scope C vars cap s H G).env (λx P=>RR (.ref D) C (.error x) P) v P)(hL:vP J g tt te (gy vars.length cap σ) (λys O=>ys.length<=sizeLine/\Q ys O) H)(fin:∀ (D C:Addr) (ys:U6) (O:Hp) (P:Shared) (m:Str->Y0),Q ys O->O D=none->az X f σ (aF O D (.lst ys)) P->P.heap.Ns C m->(aF O D (.lst ys)) C=none->C≠X.env.locals->X.s₀.heap.objs.size<=C →
   (∀x c,X.env.cells.lookup x=some c->c≠C)->(∀p∈X.pn++f,p.1≠C)->RR (.ref D) C (.ok .next) P) :
  wpAny (model X.prog X.w) X.A (newList []) (λ acc s₃=>wpAny (model X.prog X.w) X.A (newFunctionEnv scope X.env.globals (iZ X.env scope.names []) [] X.env.qual none .none (some X.env)) (λ cenv s₄ =>
   codeAny (model X.prog X.w) X.A (.compStart (.ListComp elt [⟨tg,iter,ifs,0⟩] scope pos) 0 (.ref it) acc { cenv with scope:=relabel scope X.env }) (RR acc cenv.locals) s₄) E s₃) E s:=by
 refine rh (wpAny_newFunctionEnv S.cell (by intro y hy;simp at hy) (λh₁ L l=>?_) S.kind);dsimp only at L l ⊢;generalize hH2:s.heap.push { cls:=.type "list",dict:=none,data:=.seq ([]:U9).toArray }=H2 at L l ⊢;have hC:H2.objs.size=s.heap.objs.size+1:=by rw[<-hH2,vt]
 generalize hCe:H2.objs.size=C at L l hC ⊢;generalize M:s.heap.objs.size=D at hC ⊢;have hDC:D≠C:=by rw[hC];exact af (vq _)
 have j:∀b,b<s.heap.objs.size->b≠C/\b≠D:=λb B=>by
  rw[M]at B;exact⟨by rw[hC];exact af (Nat.lt_succ_of_lt B),af B⟩
 have old:∀b o,s.heap.get? b=some o->h₁.get? b=some o:=λb o e=>l.extBut b o (j b (zd e)).1 (jc _ (hH2 ▸ jc _ e))
 have hacc:h₁.get? D=some (my [] 0):=l.extBut _ _ hDC (jc _ (by rw[<-hH2,<-M];exact pd _ rfl));have R:s.heap.objs.size<=C:=by rw[hC,<-M];exact Nat.le_succ _
 have hob:∀b∈G,b<s.heap.objs.size:=λb B=>by
  have⟨o,e,_⟩:=T.obj 0 _ st b B;exact zd e
 have I0:az (cK X scope C vars cap s H G) f (gy vars.length cap σ) H { s with heap:=h₁,toks:=s.toks+([]:List (Str×Value)).length }:=Mh S I hcap hf hob R old L
 have stkb:∀b,b∈jB X.stack->b<s.heap.objs.size:=λb B=>by
  rcases wc.mp (I.stkSub b B) with e|e
  ·rw[e];exact I.lt
  ·have⟨_,o,ho,_⟩:=I.ok.funs.mem e
   exact vd (zd ho) I.sz
 have s7:=zE (env:=X.env) scope.names [] (S.cells I) (λx c h=>by cases h);have hDfs:D ∉ (cK X scope C vars cap s H G).fs:=λz=>absurd (stkb D z) (by rw[M];exact yj _)
 have hHD:H D=none:=I.hok.fresh (by rw[M];exact dc _);have I1:=I0.pinnew (a:=D) hacc hHD hDC hDfs (λv z=>by cases z);have pnD:∀p∈(cK X scope C vars cap s H G).pn++f,p.1≠D:=λp hp=>af (by rw[<-M];exact zd (I.pin p hp).1)
 have U:∀{us:U9} {n:Nat} {O:Hp},(∀b∈G,O b=none)->∀b∈G,lI (cK X scope C vars cap s H G) (f++[(D,my us n)]) O b:=λ{us n O} hn b B=>by
  have⟨f0,f1,f2,f3,f4,f5⟩:=hf b B;refine⟨hn b B,(j b (hob b B)).1,λz=>?_,.inl B,λx c e=>f4 x c (s7 x c e),λp hp=>?_⟩
  ·rcases wc.mp (I.stkSub b z) with q|q
   ·exact f1 q
   ·exact f2 q
  ·have hp:p∈X.pn++(f++[(D,my us n)]):=hp
   rw[<-yi]at hp;rcases yd.mp hp with q|q
   ·exact f5 p q
   ·have q:p=(D,my us n):=by simpa using q
    subst q;exact λz=>(j b (hob b B)).2 z.symm
 have st1:tn 0 h₁:=T.keep 0 _ _ st λb _ o e=>old b o e
 obtain⟨W,⟨m0,w0⟩,turn⟩:=hL
 have loop:∀s₃:Shared,s₃={ s with heap:=h₁,toks:=s.toks+([]:List (Str×Value)).length } →
   codeAny (model X.prog X.w) X.A (.compLoop (.ListComp elt [⟨tg,iter,ifs,0⟩] scope pos) 0 (.ref it) (.ref D) (compEnvC scope (iZ X.env scope.names []) C X.env)) (RR (.ref D) C) s₃:=by
  rintro s₃ rfl
  refine Ml (env:=(cK X scope C vars cap s H G).env) (λn P=>∃i ys us k O,az (cK X scope C vars cap s H G) (f++[(D,my us k)]) (gy vars.length cap σ) O P/\bC ys us/\tn i P.heap/\(∀b∈G,O b=none)/\W i n ys O) ?_ m0
   ⟨0,[],[],0,H,I1,.nil,st1,λb B=>(hf b B).1,w0⟩
  rintro n s3 ⟨i,ys,us,k,H3,I3,Z,st3,fr3,w3⟩;rcases turn i n ys H3 w3 with⟨stop,hz,qn⟩|⟨go,hz,N,hN,step⟩
  ·refine aW (T.done (cK X scope C vars cap s H G) rfl rfl rfl hc i _ s3 _ H3 (λ_ _=>False) I3 (U fr3) st3 stop) λr s4 ⟨hr,I4⟩=>?_
   subst hr;obtain⟨eD,nD,_,_,_⟩:=I4.pin (D,my us k) 'm';have⟨m4,ns4,_⟩:=id I4.loc;have hC3:H3 C=none:=I4.free;refine fin D C ys H3 s4 m4 qn nD ?_ ns4 (by rw[aI (ue hDC)];exact hC3) (ue (j _ I.lt).1) (re I.sz R) (λx c e=>?_) (λp hp=>(j _ (zd (I.pin p hp).1)).1)
   ·refine I.call' (ch:=G) I4.os (Un.later I4.base (λb o e=>I.hok.lt e) (λb o _ q=>q) λb B=>by rw[aI (j b B).2]) ?_ I4.bare λb B=>?_
    ·exact I4.hok.track nD ⟨hz,us,k,Z,eD⟩
    ·have⟨f0,f1,f2,f3,f4,f5⟩:=hf b B
     exact⟨f3,f1,f4,f5⟩
   ·have⟨v,z⟩:=I.cell x c e
    exact(j _ z.lt).1
  ·refine aW (T.item (cK X scope C vars cap s H G) rfl rfl rfl hc i _ s3 _ H3 (λ_ _=>False) I3 (U fr3) st3 go) λr s4 ⟨u,hr,h4⟩=>?_
   subst hr;refine aW h4 λ_ s5 ⟨x,H5,I5,r5,y5,st5,fr5⟩=>?_
   have I5':=I5.pinned (U fr5) (T.obj _ _ st5);refine aW (hg s H C G _ s5 _ H5 x u _ I5' r5 (step x H5 y5)) λ_ s6 ⟨σ6,H6,I6,sub6,q6⟩=>?_
   have Y:∀{σ7:St} {H7:Hp} {s7:Shared},az (cK X scope C vars cap s H G) (f++[(D,my us k)]++sO G s5.heap) σ7 H7 s7->Sub (gy vars.length cap σ) σ7 →
     az (cK X scope C vars cap s H G) (f++[(D,my us k)]) (gy vars.length cap σ) H7 s7/\tn (i+1) s7.heap/\∀b∈G,H7 b=none:=λ{σ7 H7 s7} I7 sub7=>by
    refine⟨I7.unpinned.weak sub7.1.symm sub7.2,T.keep _ _ _ st5 λb B o e=>(I7.pin (b,o) (oe _ (oe _ (vG B e)))).1,λb B=>?_⟩;have⟨o,e,d⟩:=T.obj _ _ st5 b B;exact(I7.pin (b,o) (oe _ (oe _ (vG B e)))).2.1
   refine aW (ht s H C G _ s6 σ6 H6 _ I6 q6) λok s7 ⟨H7,I7,q7⟩=>?_
   cases ok with
   |false =>
    have⟨J7,st7,fr7⟩:=Y I7 sub6;have⟨m',hm,w7⟩:=hN _ _ q7;exact⟨m',hm,i+1,ys,us,k,H7,J7,Z,st7,fr7,w7⟩
   |true =>
    refine vh (he s H C G _ s7 σ6 H7 _ (I7.wish _) q7) (λv s8 ⟨y,H8,I8,r8,q8⟩=>?_) λv s8 z=>hx D C v s8 R z
    have⟨J8,st8,fr8⟩:=Y I8.unwish sub6;have⟨m',hm,w8⟩:=hN _ _ q8;obtain⟨eD,nD,_,_,_⟩:=J8.pin (D,my us k) 'm';have hlen:=Z.length;refine yu F.slot_list_append ⟨_,eD,rfl⟩ F.entry_list_append (F.args_list_append_2 _ _) (PySem.list_append D us.toArray k v (by rw[bc];omega)) ⟨eD,?_⟩;have q:=PySem.IsL.update eD (λxs=>xs.push v)
    have J9:az (cK X scope C vars cap s H G) (f++[(D,_)]) (gy vars.length cap σ) H8 { s8 with heap:=s8.heap.update D (mapSeq λxs=>xs.push v),toks:=s8.toks } :=
     J8.repin pnD (.inr (show s.heap.objs.size<=D by rw[M];exact dc _)) (λb u B e=>(bf _ _ (ue B)).trans e) q (λv z=>by cases z)
    have e9:(us.toArray.push v)=(us++[v]).toArray:=by simp
    rw[e9]at J9;exact⟨m',hm,i+1,ys++[y],us++[v],_,H8,J9,Z.append (.cons r8 .nil),T.keep _ _ _ st8 λb B o e=>(bf _ _ (ue (j b (hob b B)).2)).trans e,fr8,w8⟩
 exact codeAny_compStart_list (loop _ rfl) (T.self X.A 0 _ _ _ st1 (loop _ rfl))
def zG(Z:X.calm=true)(S:bZ X scope)(f:∀i∈cap,i<X.N.length/\scope.names.lookup (X.N.getD i "")≠some .local)(hi:PI X tg iter wi)(hg:∀s H C ex,PG (cK X scope C vars cap s H ex) tg g)(ht:∀s H C ex,kK (cK X scope C vars cap s H ex) ifs tt)(he:∀s H C ex,PE (cK X scope C vars cap s H ex) elt te)(hs:∀x,foldedSetIterable iter X.env x=pure x:=by intro _;rfl):PE X (.ListComp elt [⟨tg,iter,ifs,0⟩] scope pos) (zF wi g tt te vars.length cap):=by
 intro a s y H Q I h;rw[eval_ListComp];refine wpAny_comprehension_free (use:=none) rfl hs (DP (S.cells I)) S.kind S.names ?_;refine aW (hi a s y H _ I h) λv s1 B=>aW B λE s2 F=>?_
 obtain⟨it,fp,tn,J,H2,e,R,T,u,U,Y⟩:=F;subst e;refine DS (xc:=λ_ _ _ _ _ _=>False) (RR:=λj C=>compPost (model X.prog X.w) X.A X.xe none (EP X a y Q) j C) (Q:=λys l=>∀D,l D=none->Q (.ref D) (aF l D (.lst ys))) Z S f R T u U hg ht he (λ_ _ _ _ _ z=>z.elim) Y ?_;intro D C ys l L m M hD O hn P n p q r;refine⟨m,hn,λG c=>⟨.ref D,_,?_,rfl,M D hD⟩⟩;exact O.turned (it:=C) (t':=L.toks) (λb o K e=>c.extBut b o K e) P n (.inr p) q r
def Mm(hN:X.N.Nodup)(O:X.N[i]?=some x)(U:X.env.scope.names.lookup x=some .local)(hc:X.calm=true)(S:bZ X scope)(q:∀i∈cap,i<X.N.length/\scope.names.lookup (X.N.getD i "")≠some .local)(hi:PI X tg iter wi)(hg:∀s H C ex,PG (cK X scope C vars cap s H ex) tg g)(ht:∀s H C ex,kK (cK X scope C vars cap s H ex) ifs tt)(he:∀s H C ex,PE (cK X scope C vars cap s H ex) elt te)(P:swapsWith (.ListComp elt [⟨tg,iter,ifs,0⟩] scope pos) (some (.Name x pos')) spos.line X.env=pure true:=by rfl)(hs:∀x,foldedSetIterable iter X.env x=pure x:=by intro _;rfl):PS X (.Assign [.Name x pos'] (.ListComp elt [⟨tg,iter,ifs,0⟩] scope pos) spos) (yX (zF wi g tt te vars.length cap) (sK i)):=by
 intro c s R H D I h;rw[exec_Assign_Name_used _ _ _ _ P];refine ba (nq (ba ?_));show wpAny _ X.A (do let _ ← comprehension (.ListComp elt [⟨tg,iter,ifs,0⟩] scope pos) scope X.env _ (newList []) false (eval iter X.env) (some (assign (.Name x pos') X.env))) _ _ s;refine ba (vh (wpAny_comprehension_free (use:=some (assign (.Name x pos') X.env)) (Q:=λ_ j=>SP X c D .next j) rfl hs (DP (S.cells I)) S.kind S.names ?_) (λ_ j r=>wa (wa r)) λ_ _ e=>e);refine aW (hi c s R H _ I h) λv s1 Y=>aW Y λZ s2 h2=>?_
 obtain⟨it,fp,tn,J,H2,e,I2,T,L,f2,q2⟩:=h2;subst e;refine DS (xc:=λ_ _ _ _ _ _=>False) (RR:=λu C=>compPost (model X.prog X.w) X.A X.xe (some (assign (.Name x pos') X.env)) (λ_ j=>SP X c D .next j) u C) (Q:=λys y=>∀f,y f=none->sK i (.ref f) R (aF y f (.lst ys)) D.nx) hc S q I2 T L f2 hg ht he (λ_ _ _ _ _ z=>z.elim) q2 ?_;intro f C ys y j m r hD I' hn hC n G p K;show wpAny _ X.A (assign (.Name x pos') X.env (.ref f)) _ _ _;refine wpAny_assign_Name (CV I' hN O (.inl U) (v:=.ref f) rfl (λB E F=>?_) (.inr U));obtain⟨a,sb,ha⟩:=F
 have M:C≠a:=by
  rcases ha with z|z
  ·rw[z];exact n
  ·exact ue (p x a z)
 refine⟨m,hn.sameBut sb M,λh'' l=>⟨_,_,?_,r f hD⟩⟩;exact E.turned (it:=C) (t':=B.toks) (λb o F e=>l.extBut b o F e) hC n (.inr G) p K
end
inductive D where
 |sc (v:V)|tup (ds:List D)|lst (ds:List D)|dk (ks:List aQ) (ds:List D)|dt (ks:List (List aQ)) (ds:List D)|er (n:Str) (ks:U8) (ds:List D)
noncomputable def e6{α β:Type}(f:α->β->Bool):List α->List β->Bool
 |[],[]=>true
 |a::as,b::bs=>f a b && e6 f as bs
 |_,_=>false
noncomputable def fM{α β:Type}(eq lt:α->β->Bool):List α->List β->Bool
 |[],[]=>false
 |[],_::_=>true
 |_::_,[]=>false
 |a::as,b::bs=>if eq a b=true then fM eq lt as bs else lt a b
abbrev U0:=Option (List D)
abbrev U4:=List D
abbrev U5:=Option D
def HD(h:Heap):Nat->D->Value->Prop
 |0,d,u=>match d with|.sc v=>dL v=true/\bu v u|_=>False
 |k+1,d,u=>match d with
  |.sc v=>dL v=true/\bu v u
  |.tup ds=>∃a b,u=.ref a/\IsTup h a b.toArray/\Paired (HD h k) ds b
  |.lst ds=>∃a b,u=.ref a/\PlainL h a b.toArray/\Paired (HD h k) ds b
  |_=>False
def dM(K:Fg1)(H:Hp):Nat->D->V->Prop
 |0,d,x=>match d with|.sc v=>dL v=true/\x=v|_=>False
 |k+1,d,x=>match d with
  |.sc v=>dL v=true/\x=v
  |.tup ds=>∃a xs,x=.ref a/\cT K H a xs/\Paired (dM K H k) ds xs
  |.lst ds=>∃a xs,x=.ref a/\bA K H a xs/\Paired (dM K H k) ds xs
  |_=>False
def bE:Nat->D->D->Bool
 |0,d,e=>match d,e with|.sc a,.sc b=>jE a b|_,_=>false
 |k+1,d,e=>match d,e with
  |.sc a,.sc b=>jE a b
  |.tup ds,.tup es=>e6 (bE k) ds es
  |.lst ds,.lst es=>e6 (bE k) ds es
  |_,_=>false
noncomputable def vQ:V->V->Bool
 |.int i,.int j=>decide (i<j)
 |.str x,.str y=>decide (x.cps.toList<y.cps.toList)
 |.bl a,.bl b=>decide (b2i a<b2i b)
 |_,_=>false
def d9:Nat->D->D->Bool
 |0,d,e=>match d,e with|.sc a,.sc b=>vQ a b|_,_=>false
 |k+1,d,e=>match d,e with
  |.sc a,.sc b=>vQ a b
  |.tup ds,.tup es=>fM (bE k) (d9 k) ds es
  |.lst ds,.lst es=>fM (bE k) (d9 k) ds es
  |_,_=>false
noncomputable def vR:V->V->Bool
 |.int _,.int _=>true
 |.str _,.str _=>true
 |.bl _,.bl _=>true
 |_,_=>false
def i0:Nat->D->D->Prop
 |0,d,e=>match d,e with|.sc a,.sc b=>vR a b=true|_,_=>False
 |k+1,d,e=>match d,e with
  |.sc a,.sc b=>vR a b=true
  |.tup ds,.tup es=>∀p∈ds.zip es,i0 k p.1 p.2
  |.lst ds,.lst es=>∀p∈ds.zip es,i0 k p.1 p.2
  |_,_=>False
theorem Paired.imp2{i j l:Type}{F:i->j->Prop}{G:l->j->Prop}{R:l->i->Prop}(f:∀a b c,F a b->R c a->G c b):∀{e:List i}{g:List j}{h:List l},Paired F e g->Paired R h e->Paired G h g
 |_,_,_,.nil,.nil=>.nil
 |_,_,_,.cons a b,.cons c d=>.cons (f _ _ _ a c) (Paired.imp2 f b d)
section
variable {X:Cx}{s:Shared}
theorem az.den(I:az X pins σ H s):∀{k:Nat}{x:V}{d:D}{u:Value},dM X.K H k d x->bu x u->HD s.heap k d u:=by
 intro k
 induction k with
 |zero =>
  intro x d u h r
  cases d with
  |sc v=>obtain⟨f,e⟩:=h;subst e;exact⟨f,r⟩
  |_=>exact h.elim
 |succ k j =>
  intro x d u h r
  cases d with
  |sc v=>obtain⟨f,e⟩:=h;subst e;exact⟨f,r⟩
  |tup ds =>
   obtain⟨a,xs,e,c,p⟩:=h;subst e;cases r;have⟨b,g,i,_⟩:=I.tuple c;exact⟨a,b,rfl,i,Paired.imp2 (F:=bu) (G:=HD s.heap k) (R:=dM X.K H k) (λx u d r q=>j q r) g p⟩
  |lst ds =>
   obtain⟨a,xs,e,c,p⟩:=h;subst e;cases r;have⟨b,g,i,_⟩:=I.list c;exact⟨a,b,rfl,i,Paired.imp2 (F:=bu) (G:=HD s.heap k) (R:=dM X.K H k) (λx u d r q=>j q r) g p⟩
  |_=>exact h.elim
end
theorem DT:∀{v:V},dL v=true->jE v v=true
 |.non,_=>rfl
 |.bl b,_=>by simp[jE]
 |.int i,_=>by simp[jE]
 |.str x,_=>by simp[jE]
def vS(g:IsTup h a xs)(i:PlainL h a ys):False:=by
 obtain⟨o,e,c,_⟩:=g;have⟨j,b,f,_⟩:=i.isList;rw[e]at b;cases b;rw[c]at f;injection f with q;exact absurd q 'd'
def DU{xs ys:U9}(f:IsTup h a xs.toArray)(g:IsTup h a ys.toArray):xs=ys:=by
 obtain⟨o,e,c,n,d⟩:=f;obtain⟨i,b,j,n',d'⟩:=g;rw[e]at b;cases b;rw[d]at d';injection d' with q _
 simpa using q
def DV{xs ys:U9}(f:PlainL h a xs.toArray)(g:PlainL h a ys.toArray):xs=ys:=by
 have⟨o,e,c,n,d⟩:=f.isList;have⟨i,b,j,n',d'⟩:=g.isList;rw[e]at b;cases b;rw[d]at d';injection d' with q _
 simpa using q
theorem zH(g:∀{d e:D}{u:Value},HD h k d u->HD h k e u->bE k d e=true):∀{ds es:U4}{f:U9},Paired (HD h k) ds f->Paired (HD h k) es f->e6 (bE k) ds es=true
 |_,_,_,.nil,.nil=>rfl
 |_,_,_,.cons a b,.cons c d=>by
  show (bE k _ _ && e6 (bE k) _ _)=true;rw[g a c,zH g b d];rfl
theorem nA(f:dL v=true)(r:bu v (.ref a)):False:=by
 cases v with
 |non=>cases r
 |bl b=>cases r
 |int i=>obtain⟨t,q⟩:=r;cases q
 |str x=>obtain⟨t,q⟩:=r;cases q
 |_=>cases f
theorem DW:∀{k:Nat}{d e:D}{u:Value},HD h k d u->HD h k e u->bE k d e=true:=by
 intro k
 induction k with
 |zero =>
  intro d e u c b
  cases d with
  |sc v =>
   cases e with
   |sc w =>
    obtain⟨f,r⟩:=c;obtain⟨s,m⟩:=b;have q:=r.inj m;subst q;exact DT f
   |_=>exact b.elim
  |_=>exact c.elim
 |succ k p =>
  intro d e u c b
  cases d with
  |sc v =>
   obtain⟨f,r⟩:=c
   cases e with
   |sc w =>
    obtain⟨s,m⟩:=b;have q:=r.inj m;subst q;exact DT f
   |tup es=>obtain⟨a,g,q,_⟩:=b;subst q;exact(nA f r).elim
   |lst es=>obtain⟨a,g,q,_⟩:=b;subst q;exact(nA f r).elim
   |_=>exact b.elim
  |tup ds =>
   obtain⟨a,g,q,j,n⟩:=c;subst q
   cases e with
   |sc w=>obtain⟨f,r⟩:=b;exact(nA f r).elim
   |tup es =>
    obtain⟨o,its',q,i,l⟩:=b;cases q;have q:=DU j i;subst q;exact zH p n l
   |lst es=>obtain⟨o,its',q,i,l⟩:=b;cases q;exact(vS j i).elim
   |_=>exact b.elim
  |lst ds =>
   obtain⟨a,g,q,j,n⟩:=c;subst q
   cases e with
   |sc w=>obtain⟨f,r⟩:=b;exact(nA f r).elim
   |lst es =>
    obtain⟨o,its',q,i,l⟩:=b;cases q;have q:=DV j i;subst q;exact zH p n l
   |tup es=>obtain⟨o,its',q,i,l⟩:=b;cases q;exact(vS i j).elim
   |_=>exact b.elim
  |_=>exact c.elim
noncomputable def b0{α β:Type}(f:α->β->Bool)(ds:List α)(es:List β)(j:Nat):Bool:=match ds[j]?,es[j]? with
 |some a,some b=>f a b
 |_,_=>false
def zI(f:α->β->Bool)(a:α)(b:β)(ds:List α)(es:List β)(j:Nat):b0 f (a::ds) (b::es) (j+1)=b0 f ds es j:=by
 unfold b0;simp
theorem oI(f:α->β->Bool):∀(ds:List α) (es:List β),ds.length=es.length->(List.range ds.length).all (b0 f ds es)=e6 f ds es
 |[],[],_=>rfl
 |a::c,b::bs,h=>by
  have h':c.length=bs.length:=by simpa using h
  rw[gc,jr,gf,aw]
  have e:(b0 f (a::c) (b::bs) ∘ Nat.succ)=b0 f c bs:=by
   funext j;exact zI f a b c bs j
  rw[e,oI f c bs h'];rfl
 |[],_::_,h=>by simp at h
 |_::_,[],h=>by simp at h
theorem oJ(f:α->β->Bool):∀{ds:List α}{es:List β},ds.length≠es.length->e6 f ds es=false
 |[],[],h=>absurd rfl h
 |a::c,b::bs,h=>by
  show (f a b && e6 f c bs)=false;rw[oJ f (by simpa using h),wm]
 |[],_::_,_=>rfl
 |_::_,[],_=>rfl
theorem gK:∀{c:List α}{f:List β}{j:Nat}{b:β},Paired F c f->f[j]?=some b->∃a,c[j]?=some a/\F a b
 |_,_,_,_,.nil,e=>by simp at e
 |_,_,0,_,.cons r _,e=>by simp at e;subst e;exact⟨_,rfl,r⟩
 |_,_,j+1,_,.cons _ t,e=>by
  obtain⟨a,g,h⟩:=gK (j:=j) t (by simpa using e);exact⟨a,by simpa using g,h⟩
section
variable {A:Around}{s:Shared}
def qA(l:∀{A:Around}{d e:D}{u v:Value},HD s.heap k d u->HD s.heap k e v->A.units+k<cLine->SeqAt.EqAt A s u v (bE k d e))(p:Paired (HD s.heap k) ds a)(m:Paired (HD s.heap k) es its')(n:A.units+(k+1)<cLine)(j:Nat)(b:j<a.toArray.size)(c:j<its'.toArray.size):SeqAt.EqAt A.in1 s a.toArray[j] its'.toArray[j] (b0 (bE k) ds es j):=by
 have e1:a[j]?=some a.toArray[j]:=by simp at b;simp[b]
 have e2:its'[j]?=some its'.toArray[j]:=by simp at c;simp[c]
 have⟨d,f,g⟩:=gK p e1;have⟨e,h,i⟩:=gK m e2;have z:b0 (bE k) ds es j=bE k d e:=by unfold b0;rw[f,h]
 rw[z];exact l g i (by show A.units+1+k<cLine;omega)
theorem lJ:∀{k:Nat}{A:Around}{d e:D}{u v:Value},HD s.heap k d u->HD s.heap k e v->A.units+k<cLine->SeqAt.EqAt A s u v (bE k d e):=by
 intro k
 induction k with
 |zero =>
  intro A d e u v h g y
  cases d with
  |sc a =>
   cases e with
   |sc b=>exact DH h.2 g.2 h.1 g.1
   |_=>exact g.elim
  |_=>exact h.elim
 |succ k E =>
  intro A d e u v h g y;have c:A.units<cLine:=by omega
  cases d with
  |sc a =>
   cases e with
   |sc b=>exact DH h.2 g.2 h.1 g.1
   |tup es =>
    obtain⟨q,l,rfl,t,_⟩:=g;obtain⟨f,r⟩:=h;show SeqAt.EqAt A s u (.ref q) false
    cases a with
    |non=>cases r;exact SeqAt.EqAt.none_tuple t c
    |bl b=>cases r;exact SeqAt.EqAt.bool_tuple b t c
    |int i=>obtain⟨z,rfl⟩:=r;exact SeqAt.EqAt.int_tuple i z t c
    |str x=>obtain⟨z,rfl⟩:=r;exact SeqAt.EqAt.str_tuple x z t c
    |_=>cases f
   |lst es =>
    obtain⟨q,l,rfl,t,_⟩:=g;obtain⟨f,r⟩:=h;show SeqAt.EqAt A s u (.ref q) false
    cases a with
    |non=>cases r;exact SeqAt.EqAt.none_list t.isList c
    |bl b=>cases r;exact SeqAt.EqAt.bool_list b t.isList c
    |int i=>obtain⟨z,rfl⟩:=r;exact SeqAt.EqAt.int_list i z t.isList c
    |str x=>obtain⟨z,rfl⟩:=r;exact SeqAt.EqAt.str_list x z t.isList c
    |_=>cases f
   |_=>exact g.elim
  |tup ds =>
   cases e with
   |sc b =>
    obtain⟨q,l,rfl,t,_⟩:=h;obtain⟨f,r⟩:=g;show SeqAt.EqAt A s (.ref q) v false
    cases b with
    |non=>cases r;exact SeqAt.EqAt.tuple_none t c
    |bl b=>cases r;exact SeqAt.EqAt.tuple_bool b t c
    |int i=>obtain⟨z,rfl⟩:=r;exact SeqAt.EqAt.tuple_int i z t c
    |str x=>obtain⟨z,rfl⟩:=r;exact SeqAt.EqAt.tuple_str x z t c
    |_=>cases f
   |lst es =>
    obtain⟨q,l,rfl,t,_⟩:=h;obtain⟨m,its',rfl,t',_⟩:=g;exact SeqAt.EqAt.tuple_list t t'.isList c
   |tup es =>
    obtain⟨q,l,rfl,t,p⟩:=id h;obtain⟨m,its',rfl,t',n⟩:=id g;by_cases o:q=m
    ·subst o
     rw[DW h g];exact ur _
    ·refine SeqAt.EqAt.of_refs o ?_
     have z:=SeqAt.RcAt.tuples (e:=b0 (bE k) ds es) t t' c λj h g=>qA E p n y j h g
     have B:=p.length;have C:=n.length
     have w:bE (k+1) (.tup ds) (.tup es)=((List.range (min l.toArray.size its'.toArray.size)).all (b0 (bE k) ds es) && l.toArray.size == its'.toArray.size):=by
      show e6 (bE k) ds es=_;simp only[bc];rw[<-B,<-C];by_cases hl:ds.length=es.length
      ·rw[<-oI _ _ _ hl,hl,bw]
       simp
      ·rw[oJ _ hl]
       simp[hl]
     rw[w];exact z
   |_=>exact g.elim
  |lst ds =>
   cases e with
   |sc b =>
    obtain⟨q,l,rfl,t,_⟩:=h;obtain⟨f,r⟩:=g;show SeqAt.EqAt A s (.ref q) v false
    cases b with
    |non=>cases r;exact SeqAt.EqAt.list_none t.isList c
    |bl b=>cases r;exact SeqAt.EqAt.list_bool b t.isList c
    |int i=>obtain⟨z,rfl⟩:=r;exact SeqAt.EqAt.list_int i z t.isList c
    |str x=>obtain⟨z,rfl⟩:=r;exact SeqAt.EqAt.list_str x z t.isList c
    |_=>cases f
   |tup es =>
    obtain⟨q,l,rfl,t,_⟩:=h;obtain⟨m,its',rfl,t',_⟩:=g;exact SeqAt.EqAt.list_tuple t.isList t' c
   |lst es =>
    obtain⟨q,l,rfl,t,p⟩:=id h;obtain⟨m,its',rfl,t',n⟩:=id g;by_cases o:q=m
    ·subst o
     rw[DW h g];exact ur _
    ·refine SeqAt.EqAt.of_refs o ?_
     have B:=p.length;have C:=n.length;by_cases hl:ds.length=es.length
     ·have z:=SeqAt.RcAt.lists (e:=b0 (bE k) ds es) t.isList t'.isList (by simp only[bc];omega) c λj h g=>qA E p n y j h g
      have w:bE (k+1) (.lst ds) (.lst es)=((List.range l.toArray.size).all (b0 (bE k) ds es)):=by
       show e6 (bE k) ds es=_;simp only[bc];rw[<-B,<-oI _ _ _ hl]
      rw[w];exact z
     ·have w:bE (k+1) (.lst ds) (.lst es)=false:=oJ _ hl
      rw[w];exact SeqAt.RcAt.lists_lengths t.isList t'.isList (by simp only[bc];simp;omega) c
   |_=>exact g.elim
  |_=>exact h.elim
end
end L2
namespace L2
open PySem PyProof.Rows
def oK(A:Around)(s:Shared)(y x:Value)(b:Bool):Prop :=
 ∀(prog:Program) (w:World) (E:U2) (Q:U2),Q (.bool b) s->wpAny (model prog w) A (richCompare .Lt y x) Q E s
noncomputable def gL(e c:Nat->Bool)(n m:Nat):Nat->Nat->Bool
 |0,_=>decide (n<m)
 |k+1,i=>if i<m then (if e i=true then gL e c n m k (i+1) else c i) else decide (n<m)
section
open PySem.SeqAt
open PySem.AutoSeq1 (wpAny_loadPart')
open PySem.MeetsSeq PySem.MeetsSeq2 PySem.MeetsSeq3
theorem Mn(l b:Addr)(a c:Y4)(n F:Nat)(dd x:Y9)(sl y:Array Y0)(hsz:a.size=c.size)(e:Nat->Bool)(k:Nat) :
  ∀i:Nat,a.size - i=k->Meets (Builtin.«list.__eq__.loop» ⟨[.ref l,.ref b,rawInt i,rawInt 3],[]⟩)
   (λ A R s=>s.heap.get? l=some { cls:=.type "list",dict:=dd,data:=.seq a n,slots:=sl }/\s.heap.get? b=some { cls:=.type "list",dict:=x,data:=.seq c F,slots:=y } ∧
    (∀j (H:j<a.size) (I:j<c.size),EqAt A.in1 s a[j] c[j] (e j)) ∧
    R (.ok (.ret (.bool (!((List.range a.size).drop i).all e)))) s):=by
 induction k with
 |zero =>
  intro i z prog w A R s h;obtain⟨B,g,d,C,os⟩:=s;obtain⟨hl,q,u,h⟩:=h
  wp_walk using ce hl,ce q
  have f:a[((i:Nat):Int).toNat]?=none:=by simp;omega
  have m:c[((i:Nat):Int).toNat]?=none:=by simp;omega
  have v:(List.range a.size).drop i=[]:=by simp;omega
  rw[v]at h;rw[f,m]
  wp_walk using ce hl,ce q
  show R (.ok (.ret (.bool (a.size != c.size)))) _;rw[hsz]
  simpa using h
 |succ k G =>
  intro i z prog w A R s h;obtain⟨B,g,d,C,os⟩:=s;obtain⟨hl,q,u,h⟩:=h
  wp_walk using ce hl,ce q
  have p:i<a.size:=by omega
  have o:i<c.size:=by omega
  have f:a[((i:Nat):Int).toNat]?=some a[i]:=by simp[p]
  have m:c[((i:Nat):Int).toNat]?=some c[i]:=by simp[o]
  have v:(List.range a.size).drop i=i::(List.range a.size).drop (i+1):=by simp[ke,p]
  have E:((i:Int)+1)=((i+1:Nat):Int):=by push_cast;rfl
  rw[v,gf]at h;rw[f,m];refine ba (u i p o prog w _ _ ?_)
  cases r:e i with
  |true =>
   rw[r]at h
   wp_walk
   rw[E]
   exact⟨plainId_quiet plain_eq_loop _,codeAny_builtin entry_eq_loop (by
    rw[ll plain_eq_loop _];exact G (i+1) 'o' prog w A R _ ⟨hl,q,u,by simpa using h⟩)⟩
  |false =>
   rw[r]at h
   wp_walk using ce hl,ce q
   rw[f,m]
   wp_walk
   simpa using h
def Mo(l b:Addr)(c a:Y4)(n o:Nat)(dd f:Y9)(sl i:Array Y0)(hsz:c.size=a.size)(e:Nat->Bool) :
  Meets (Builtin.«list.__ne__» ⟨[.ref l,.ref b],[]⟩)
   (λ A R s=>s.heap.get? l=some { cls:=.type "list",dict:=dd,data:=.seq c n,slots:=sl }/\s.heap.get? b=some { cls:=.type "list",dict:=f,data:=.seq a o,slots:=i } ∧
    (∀j (x:j<c.size) (y:j<a.size),EqAt A.in1 s c[j] a[j] (e j)) ∧
    R (.ok (.ret (.bool (!(List.range c.size).all e)))) s):=by
 intro prog w A R s h;obtain⟨r,g,d,u,os⟩:=s;obtain⟨hl,m,p,h⟩:=h;have v:=qm;have q:¬(c.size != a.size)=true:=by simp[hsz]
 wp_walk using ce hl,ce m
 exact⟨plainId_quiet plain_eq_loop _,codeAny_builtin entry_eq_loop (by
  rw[ll plain_eq_loop _];exact Mn l b c a n o dd f sl i hsz e _ 0 rfl prog w A R _ ⟨hl,m,p,by simpa using h⟩)⟩
def Mp(l b:Addr)(c a:Y4)(n j:Nat)(dd e:Y9)(sl f:Array Y0)(m:(c.size != a.size)=true) :
  Meets (Builtin.«list.__ne__» ⟨[.ref l,.ref b],[]⟩)
   (λ _ R s=>s.heap.get? l=some { cls:=.type "list",dict:=dd,data:=.seq c n,slots:=sl }/\s.heap.get? b=some { cls:=.type "list",dict:=e,data:=.seq a j,slots:=f } ∧
    R (.ok (.ret (.bool true))) s) :=
 .of_wp λprog w A R s h=>by
  obtain⟨o,g,d,p,os⟩:=s;obtain⟨hl,i,h⟩:=h;have q:=qm
  wp_walk using ce hl,ce i
  exact⟨_,rfl,h⟩
theorem Mq(l b:Addr)(f a:Y4)(n I:Nat)(dd B:Y9)(sl C:Array Y0)(e c:Nat->Bool)(k:Nat) :
  ∀i:Nat,f.size - i=k->Meets (Builtin.«list.__eq__.loop» ⟨[.ref l,.ref b,rawInt i,rawInt 0],[]⟩)
   (λ A R s=>s.heap.get? l=some { cls:=.type "list",dict:=dd,data:=.seq f n,slots:=sl }/\s.heap.get? b=some { cls:=.type "list",dict:=B,data:=.seq a I,slots:=C } ∧
    (∀j (E:j<f.size) (F:j<a.size),EqAt A.in1 s f[j] a[j] (e j)/\(e j=false->oK A.in1 s f[j] a[j] (c j))) ∧
    R (.ok (.ret (.bool (gL e c f.size a.size k i)))) s):=by
 induction k with
 |zero =>
  intro i G prog w A R s h;obtain⟨v,g,d,x,os⟩:=s;obtain⟨hl,q,y,h⟩:=h
  wp_walk using ce hl,ce q
  have o:f[((i:Nat):Int).toNat]?=none:=by simp;omega
  rw[o]
  wp_walk using ce hl,ce q
  show R (.ok (.ret (.bool (decide (f.size<a.size))))) _
  simpa [gL] using h
 |succ k J =>
  intro i G prog w A R s h;obtain⟨v,g,d,x,os⟩:=s;obtain⟨hl,q,y,h⟩:=h
  wp_walk using ce hl,ce q
  have u:i<f.size:=by omega
  have o:f[((i:Nat):Int).toNat]?=some f[i]:=by simp[u]
  have H:((i:Int)+1)=((i+1:Nat):Int):=by push_cast;rfl
  rw[o];by_cases m:i<a.size
  ·have p:a[((i:Nat):Int).toNat]?=some a[i]:=by simp[m]
   rw[p];have h:R (.ok (.ret (.bool (if i<a.size then (if e i=true then gL e c f.size a.size k (i+1) else c i) else decide (f.size<a.size))))) ⟨v,g,d,x,os⟩:=h;rw[ya m]at h;have⟨E,F⟩:=y i u m;refine ba (E prog w _ _ ?_)
   cases r:e i with
   |true =>
    rw[r,ya rfl]at h
    wp_walk
    rw[H]
    exact⟨plainId_quiet plain_eq_loop _,codeAny_builtin entry_eq_loop (by
     rw[ll plain_eq_loop _];exact J (i+1) 'o' prog w A R _ ⟨hl,q,y,h⟩)⟩
   |false =>
    rw[r,ic bb]at h;have z:=F r prog w
    wp_walk using ce hl,ce q
    rw[o,p]
    wp_walk using z
    exact h
  ·have p:a[((i:Nat):Int).toNat]?=none:=by simp;omega
   rw[p];have h:R (.ok (.ret (.bool (if i<a.size then (if e i=true then gL e c f.size a.size k (i+1) else c i) else decide (f.size<a.size))))) ⟨v,g,d,x,os⟩:=h;rw[ic m]at h
   wp_walk using ce hl,ce q
   exact h
def DX(l b:Addr)(f a:Y4)(n p:Nat)(dd i:Y9)(sl m:Array Y0)(e c:Nat->Bool) :
  Meets (Builtin.«list.__lt__» ⟨[.ref l,.ref b],[]⟩)
   (λ A R s=>s.heap.get? l=some { cls:=.type "list",dict:=dd,data:=.seq f n,slots:=sl }/\s.heap.get? b=some { cls:=.type "list",dict:=i,data:=.seq a p,slots:=m } ∧
    (∀j (x:j<f.size) (y:j<a.size),EqAt A.in1 s f[j] a[j] (e j)/\(e j=false->oK A.in1 s f[j] a[j] (c j))) ∧
    R (.ok (.ret (.bool (gL e c f.size a.size f.size 0)))) s):=by
 intro prog w A R s h;obtain⟨r,g,d,u,os⟩:=s;obtain⟨hl,o,q,h⟩:=h;have v:=qm
 wp_walk using ce hl,ce o
 exact⟨plainId_quiet plain_eq_loop _,codeAny_builtin entry_eq_loop (by
  rw[ll plain_eq_loop _];exact Mq l b f a n p dd i sl m e c _ 0 rfl prog w A R _ ⟨hl,o,q,h⟩)⟩
def Mr(l b:Addr)(c a:Y4)(n N:Nat)(dd B:Y9)(sl C:Array Y0)(e:Nat->Bool) :
  Meets (Builtin.«tuple.__ne__» ⟨[.ref l,.ref b],[]⟩)
   (λ A R s=>s.heap.get? l=some { cls:=.type "tuple",dict:=dd,data:=.seq c n,slots:=sl }/\s.heap.get? b=some { cls:=.type "tuple",dict:=B,data:=.seq a N,slots:=C } ∧
    (∀j (H:j<c.size) (I:j<a.size),EqAt A.in1 s c[j] a[j] (e j)) ∧
    R (.ok (.ret (.bool (!((List.range (min c.size a.size)).all e && c.size == a.size))))) s) :=
 .of_wp λprog w A R s h=>by
  obtain⟨E,g,d,F,os⟩:=s;obtain⟨hl,J,K,h⟩:=h;have Q:=AutoSeq1.sub_tuple_tuple;have G:(c.toList.zip a.toList).length=min c.size a.size:=by simp
  wp_walk using wpAny_loadPart' hl,wpAny_loadPart' J,wpAny_forIn_list _ (λ f b v=>b.1=none/\v=⟨E,g,d,F,os⟩/\∃ i,f=(c.toList.zip a.toList).drop i ∧
   R (.ok (.ret (.bool (!(((List.range (min c.size a.size)).drop i).all e && c.size == a.size))))) ⟨E,g,d,F,os⟩) _
  case turn =>
   rintro⟨y,x⟩ f b v ⟨o,rfl,i,hz,m⟩
   have r:i<(c.toList.zip a.toList).length:=by
    rcases ym i (c.toList.zip a.toList).length with h'|h'
    ·exact h'
    ·rw[aj h']at hz;cases hz
   have hm:i<min c.size a.size:=G ▸ r;have H:i<c.size:=vd hm (Nat.min_le_left _ _);have I:i<a.size:=vd hm (wq _ _);rw[ke r]at hz;injection hz with q p;have u:y=c[i]:=by have:=ef fst q;simpa using this
   have L:x=a[i]:=by have:=ef snd q;simpa using this
   subst u L;have M:(List.range (min c.size a.size)).drop i=i::(List.range (min c.size a.size)).drop (i+1):=by simp[ke,hm]
   rw[M,gf]at m;refine ba (K i H I prog w _ _ ?_)
   cases u:e i with
   |true =>
    rw[u]at m
    wp_walk
    exact⟨rfl,rfl,i+1,p,by simpa using m⟩
   |false =>
    rw[u]at m
    wp_walk
    exact⟨_,rfl,by simpa using m⟩
  case fin =>
   rintro⟨O,P⟩ v ⟨o,rfl,i,hz,m⟩;simp only at o;subst o
   have z:min c.size a.size<=i:=by
    rcases ym i (c.toList.zip a.toList).length with h'|h'
    ·rw[ke h']at hz;cases hz
    ·exact G ▸ h'
   rw[aj (by simpa using z)]at m
   wp_walk
   exact⟨_,rfl,by simpa [Builtin.Tuple.tupleCompareSizes,bne] using m⟩
  case h =>
   exact⟨rfl,rfl,0,rfl,by simpa using h⟩
def Ms(l b:Addr)(a f:Y4)(n X:Nat)(dd G:Y9)(sl H:Array Y0)(e c:Nat->Bool) :
  Meets (Builtin.«tuple.__lt__» ⟨[.ref l,.ref b],[]⟩)
   (λ A R s=>s.heap.get? l=some { cls:=.type "tuple",dict:=dd,data:=.seq a n,slots:=sl }/\s.heap.get? b=some { cls:=.type "tuple",dict:=G,data:=.seq f X,slots:=H } ∧
    (∀j (B:j<a.size) (C:j<f.size),EqAt A.in1 s a[j] f[j] (e j)/\(e j=false->oK A.in1 s a[j] f[j] (c j))) ∧
    R (.ok (.ret (.bool (gL e c a.size f.size a.size 0)))) s) :=
 .of_wp λprog w A R s h=>by
  obtain⟨I,g,d,J,os⟩:=s;obtain⟨hl,N,O,h⟩:=h;have f2:=AutoSeq1.sub_tuple_tuple;have K:(a.toList.zip f.toList).length=min a.size f.size:=by simp
  wp_walk using wpAny_loadPart' hl,wpAny_loadPart' N,wpAny_forIn_list _ (λ m b z=>b.1=none/\z=⟨I,g,d,J,os⟩/\∃ i,i<=a.size/\m=(a.toList.zip f.toList).drop i ∧
   R (.ok (.ret (.bool (gL e c a.size f.size (a.size - i) i)))) ⟨I,g,d,J,os⟩) _
  case turn =>
   rintro⟨y,x⟩ m b z ⟨p,rfl,i,M,hz,o⟩
   have u:i<(a.toList.zip f.toList).length:=by
    rcases ym i (a.toList.zip f.toList).length with h'|h'
    ·exact h'
    ·rw[aj h']at hz;cases hz
   have hm:i<min a.size f.size:=K ▸ u;have B:i<a.size:=vd hm (Nat.min_le_left _ _);have C:i<f.size:=vd hm (wq _ _);rw[ke u]at hz;injection hz with r q;have v:y=a[i]:=by have:=ef fst r;simpa using this
   have T:x=f[i]:=by have:=ef snd r;simpa using this
   subst v T;have L:a.size - i=(a.size - (i+1))+1:=by omega
   have E:gL e c a.size f.size (a.size - i) i=(if e i=true then gL e c a.size f.size (a.size - (i+1)) (i+1) else c i):=by
    rw[L];show (if i<f.size then _ else _)=_;rw[ya C]
   rw[E]at o;have⟨P,Q⟩:=O i B C;refine ba (P prog w _ _ ?_)
   cases v:e i with
   |true =>
    rw[v,ya rfl]at o
    wp_walk
    exact⟨rfl,rfl,i+1,B,q,o⟩
   |false =>
    rw[v,ic bb]at o;have F:=Q v prog w
    wp_walk using F
    exact⟨_,rfl,by simpa using o⟩
  case fin =>
   rintro⟨Y,Z⟩ z ⟨p,rfl,i,M,hz,o⟩;simp only at p;subst p
   have U:min a.size f.size<=i:=by
    rcases ym i (a.toList.zip f.toList).length with h'|h'
    ·rw[ke h']at hz;cases hz
    ·exact K ▸ h'
   have E:gL e c a.size f.size (a.size - i) i=decide (a.size<f.size):=by
    cases L:a.size - i with
    |zero=>rfl
    |succ k =>
     show (if i<f.size then _ else _)=_;rw[ic 'o']
   rw[E]at o
   wp_walk
   exact⟨_,rfl,by simpa [Builtin.Tuple.tupleCompareSizes] using o⟩
  case h =>
   exact⟨rfl,rfl,0,ie _,rfl,by simpa using h⟩
end
end L2
namespace L2
open PySem PySem.Spec PyProof.Rows
theorem DY(f g:α->β->Bool):∀(ds:List α) (es:List β) (e c:Nat->Bool) (n m i:Nat),n=i+ds.length->m=i+es.length->(∀j,e (i+j)=b0 f ds es j)->(∀j,c (i+j)=b0 g ds es j)->gL e c n m ds.length i=fM f g ds es
 |[],[],e,c,n,m,i,hn,hm,_,_=>by
  show decide (n<m)=false;exact be (by simp at hn hm;omega)
 |[],b::bs,e,c,n,m,i,hn,hm,_,_=>by
  show decide (n<m)=true;exact qc (by simp at hn hm;omega)
 |a::l,[],e,c,n,m,i,hn,hm,_,_=>by
  show (if i<m then _ else decide (n<m))=false;rw[ic (by simp at hm;omega)];exact be (by simp at hn hm;omega)
 |a::l,b::bs,e,c,n,m,i,hn,hm,o,p=>by
  show (if i<m then (if e i=true then gL e c n m l.length (i+1) else c i) else decide (n<m))=_;rw[ya (by simp at hm;omega)];have q:e i=f a b:=by have:=o 0;simpa [b0] using this
  have r:c i=g a b:=by have:=p 0;simpa [b0] using this
  show _=if f a b=true then fM f g l bs else g a b
  rw[q,r];by_cases h:f a b=true
  ·rw[ya h,ya h]
   refine DY f g l bs e c n m (i+1) (by simp at hn;omega) (by simp at hm;omega) (λj=>?_) (λj=>?_)
   ·have:=o (j+1);rw[zI]at this;rw[<-this];congr 1;omega
   ·have:=p (j+1);rw[zI]at this;rw[<-this];congr 1;omega
  ·rw[ic h,ic h]
def zJ(f g:α->β->Bool)(ds:List α)(es:List β):gL (b0 f ds es) (b0 g ds es) ds.length es.length ds.length 0=fM f g ds es :=
 DY f g ds es _ _ _ _ 0 'm' 'm' (λj=>by rw[wg]) (λj=>by rw[wg])
section
variable {A:Around}{s:Shared}
theorem DZ(ra:bu a u)(rb:bu b v)(h:vR a b=true):oK A s u v (vQ a b):=by
 cases a with
 |int i =>
  cases b with
  |int j =>
   obtain⟨t,rfl⟩:=ra;obtain⟨t',rfl⟩:=rb;exact λprog w E Q q=>(lt_int q:wpAny (model prog w) A (compareOp .Lt (.int i t) (.int j t')) Q E s)
  |_=>cases h
 |str x =>
  cases b with
  |str y =>
   obtain⟨t,rfl⟩:=ra;obtain⟨t',rfl⟩:=rb;exact λprog w E Q q=>(lt_str q:wpAny (model prog w) A (compareOp .Lt (.str x t) (.str y t')) Q E s)
  |_=>cases h
 |bl x =>
  cases b with
  |bl y =>
   cases ra;cases rb
   exact λprog w E Q q=>(lt_bool q:wpAny (model prog w) A (compareOp .Lt (.bool x) (.bool y)) Q E s)
  |_=>cases h
 |_=>cases b <;> cases h
noncomputable def vT:D->D->Bool
 |.tup _,.tup _=>true
 |.lst _,.lst _=>true
 |_,_=>false
theorem zK:∀{ds:List α}{es:List β}{j:Nat}{a:α}{b:β},ds[j]?=some a->es[j]?=some b->(a,b)∈ds.zip es
 |[],_,_,_,_,h,_=>by simp at h
 |_::_,[],_,_,_,_,h=>by simp at h
 |d::ds,e::es,0,a,b,c,f=>by simp at c f;subst c f;simp
 |d::ds,e::es,j+1,a,b,c,f=>by
  have:=zK (ds:=ds) (es:=es) (j:=j) (a:=a) (b:=b) (by simpa using c) (by simpa using f)
  simp[this]
theorem zL:∀{k:Nat}{A:Around}{d e:D}{u v:Value},HD s.heap k d u->HD s.heap k e v->i0 k d e->A.units+k<cLine->oK A s u v (d9 k d e):=by
 intro k
 induction k with
 |zero =>
  intro A d e u v m o h hu
  cases d with
  |sc a =>
   cases e with
   |sc b=>exact DZ m.2 o.2 h
   |_=>exact o.elim
  |_=>exact m.elim
 |succ k ih =>
  intro A d e u v m o h hu;have N:A.units<cLine:=by omega
  have l:∀{ds es:U4} {c its':U9},Paired (HD s.heap k) ds c->Paired (HD s.heap k) es its'->(∀p∈ds.zip es,i0 k p.1 p.2) →
    ∀j (m:j<c.toArray.size) (o:j<its'.toArray.size),SeqAt.EqAt A.in1 s c.toArray[j] its'.toArray[j] (b0 (bE k) ds es j)/\(b0 (bE k) ds es j=false->oK A.in1 s c.toArray[j] its'.toArray[j] (b0 (d9 k) ds es j)):=by
   intro ds es c its' p r y j j1 j2;have e1:c[j]?=some c.toArray[j]:=by simp at j1;simp[j1]
   have e2:its'[j]?=some its'.toArray[j]:=by simp at j2;simp[j2]
   have⟨d,P,r1⟩:=gK p e1;have⟨e,R,r2⟩:=gK r e2;have z:b0 (bE k) ds es j=bE k d e:=by unfold b0;rw[P,R]
   have z':b0 (d9 k) ds es j=d9 k d e:=by unfold b0;rw[P,R]
   rw[z,z'];exact⟨lJ r1 r2 (by show A.units+1+k<cLine;omega),λ_=>ih r1 r2 (y (d,e) (zK P R)) (by show A.units+1+k<cLine;omega)⟩
  cases d with
  |sc a =>
   cases e with
   |sc b=>exact DZ m.2 o.2 h
   |_=>exact h.elim
  |tup ds =>
   cases e with
   |tup es =>
    obtain⟨q,c,rfl,t,p⟩:=id m;obtain⟨T,its',rfl,t',r⟩:=id o;have Y:=p.length;have Z:=r.length;have H:=l p r h;have⟨⟨U,dd,J,sl⟩,y,K,n,L⟩:=id t;have⟨⟨M,B,C,G⟩,f,g,X,i⟩:=id t';simp only at K L g i;subst K L g i;intro prog w E Q O
    have I:Q (.bool (gL (b0 (bE k) ds es) (b0 (d9 k) ds es) c.toArray.size its'.toArray.size c.toArray.size 0)) s:=by
     simp only[bc];rw[<-Y,<-Z,zJ];exact O
    exact cj (op:=.Lt) ⟨_,y,rfl⟩ ⟨_,f,rfl⟩ PySem.F.slot_tuple_lt PySem.F.entry_tuple_lt (PySem.F.args_tuple_lt_2 _ _) (Ms q T c.toArray its'.toArray n X dd B sl G _ _)
     ⟨y,f,H,⟨(λx=>nomatch x),I⟩⟩ N
   |_=>exact h.elim
  |lst ds =>
   cases e with
   |lst es =>
    obtain⟨q,c,rfl,t,p⟩:=id m;obtain⟨T,its',rfl,t',r⟩:=id o;have Y:=p.length;have Z:=r.length;have H:=l p r h;have⟨⟨U,dd,J,sl⟩,y,K,n,L⟩:=t.isList;have⟨⟨M,B,C,G⟩,f,g,X,i⟩:=t'.isList;simp only at K L g i;subst K L g i;intro prog w E Q O
    have I:Q (.bool (gL (b0 (bE k) ds es) (b0 (d9 k) ds es) c.toArray.size its'.toArray.size c.toArray.size 0)) s:=by
     simp only[bc];rw[<-Y,<-Z,zJ];exact O
    exact cj (op:=.Lt) ⟨_,y,rfl⟩ ⟨_,f,rfl⟩ slot_list_lt entry_list_lt (args_list_lt_2 _ _) (DX q T c.toArray its'.toArray n X dd B sl G _ _)
     ⟨y,f,H,⟨(λx=>nomatch x),I⟩⟩ N
   |_=>exact h.elim
  |_=>exact m.elim
theorem Mt(c:HD s.heap (k+1) d u)(g:HD s.heap (k+1) e v)(l:vT d e=true)(n:A.units+(k+1)<cLine):SeqAt.RcAt A s u v (bE (k+1) d e):=by
 have f:A.units<cLine:=by omega
 cases d with
 |sc a=>cases e <;> cases l
 |tup ds =>
  cases e with
  |tup es =>
   obtain⟨q,b,rfl,t,p⟩:=id c;obtain⟨o,its',rfl,t',h⟩:=id g;have z:=SeqAt.RcAt.tuples (e:=b0 (bE k) ds es) t t' f λj c g=>qA lJ p h n j c g
   have i:=p.length;have m:=h.length
   have w:bE (k+1) (.tup ds) (.tup es)=((List.range (min b.toArray.size its'.toArray.size)).all (b0 (bE k) ds es) && b.toArray.size == its'.toArray.size):=by
    show e6 (bE k) ds es=_;simp only[bc];rw[<-i,<-m];by_cases hl:ds.length=es.length
    ·rw[<-oI _ _ _ hl,hl,bw]
     simp
    ·rw[oJ _ hl]
     simp[hl]
   rw[w];exact z
  |_=>cases l
 |lst ds =>
  cases e with
  |lst es =>
   obtain⟨q,b,rfl,t,p⟩:=id c;obtain⟨o,its',rfl,t',h⟩:=id g;have i:=p.length;have m:=h.length;by_cases hl:ds.length=es.length
   ·have z:=SeqAt.RcAt.lists (e:=b0 (bE k) ds es) t.isList t'.isList (by simp only[bc];omega) f λj c g=>qA lJ p h n j c g
    have w:bE (k+1) (.lst ds) (.lst es)=((List.range b.toArray.size).all (b0 (bE k) ds es)):=by
     show e6 (bE k) ds es=_;simp only[bc];rw[<-i,<-oI _ _ _ hl]
    rw[w];exact z
   ·have w:bE (k+1) (.lst ds) (.lst es)=false:=oJ _ hl
    rw[w];exact SeqAt.RcAt.lists_lengths t.isList t'.isList (by simp only[bc];simp;omega) f
  |_=>cases l
 |_=>exact c.elim
theorem Mu(h:HD s.heap (k+1) d u)(m:HD s.heap (k+1) e v)(P:vT d e=true)(T:A.units+(k+1)<cLine)(B:Q (.bool (!bE (k+1) d e)) s) :
  wpAny (model prog w) A (compareOp .NotEq u v) Q E s:=by
 have y:A.units<cLine:=by omega
 cases d with
 |sc a=>cases e <;> cases P
 |tup ds =>
  cases e with
  |tup es =>
   obtain⟨q,b,rfl,t,p⟩:=id h;obtain⟨L,its',rfl,t',C⟩:=id m;have z:∀j (h:j<b.toArray.size) (m:j<its'.toArray.size),SeqAt.EqAt A.in1 s b.toArray[j] its'.toArray[j] (b0 (bE k) ds es j):=λj h m=>qA lJ p C T j h m
   have O:=p.length;have R:=C.length
   have K:bE (k+1) (.tup ds) (.tup es)=((List.range (min b.toArray.size its'.toArray.size)).all (b0 (bE k) ds es) && b.toArray.size == its'.toArray.size):=by
    show e6 (bE k) ds es=_;simp only[bc];rw[<-O,<-R];by_cases hl:ds.length=es.length
    ·rw[<-oI _ _ _ hl,hl,bw]
     simp
    ·rw[oJ _ hl]
     simp[hl]
   rw[K]at B;have⟨⟨N,dd,G,sl⟩,o,H,n,I⟩:=id t;have⟨⟨J,i,r,l⟩,c,f,M,g⟩:=id t';simp only at H I f g;subst H I f g
   exact cj (op:=.NotEq) ⟨_,o,rfl⟩ ⟨_,c,rfl⟩ PySem.F.slot_tuple_ne PySem.F.entry_tuple_ne (PySem.F.args_tuple_ne_2 _ _) (Mr q L b.toArray its'.toArray n M dd i sl l _)
    ⟨o,c,z,⟨(λx=>nomatch x),B⟩⟩ y
  |_=>cases P
 |lst ds =>
  cases e with
  |lst es =>
   obtain⟨q,b,rfl,t,p⟩:=id h;obtain⟨L,its',rfl,t',C⟩:=id m;have z:∀j (h:j<b.toArray.size) (m:j<its'.toArray.size),SeqAt.EqAt A.in1 s b.toArray[j] its'.toArray[j] (b0 (bE k) ds es j):=λj h m=>qA lJ p C T j h m
   have O:=p.length;have R:=C.length;have⟨⟨N,dd,G,sl⟩,o,H,n,I⟩:=t.isList;have⟨⟨J,i,r,l⟩,c,f,M,g⟩:=t'.isList;simp only at H I f g;subst H I f g;by_cases hl:ds.length=es.length
   ·have K:bE (k+1) (.lst ds) (.lst es)=((List.range b.toArray.size).all (b0 (bE k) ds es)):=by
     show e6 (bE k) ds es=_;simp only[bc];rw[<-O,<-oI _ _ _ hl]
    rw[K]at B
    exact cj (op:=.NotEq) ⟨_,o,rfl⟩ ⟨_,c,rfl⟩ slot_list_ne entry_list_ne (args_list_ne_2 _ _) (Mo q L b.toArray its'.toArray n M dd i sl l (by simp only[bc];omega) _)
     ⟨o,c,z,⟨(λx=>nomatch x),B⟩⟩ y
   ·have K:bE (k+1) (.lst ds) (.lst es)=false:=oJ _ hl
    rw[K]at B
    exact cj (op:=.NotEq) ⟨_,o,rfl⟩ ⟨_,c,rfl⟩ slot_list_ne entry_list_ne (args_list_ne_2 _ _) (Mp q L b.toArray its'.toArray n M dd i sl l (by simp only[bc];simp;omega))
     ⟨o,c,⟨(λx=>nomatch x),B⟩⟩ y
  |_=>cases P
 |_=>exact h.elim
end
section
variable {X:Cx}
def sT(K:Fg1)(k:Nat):R2:=λx y H Q=>∃d e,dM K H (k+1) d x/\dM K H (k+1) e y/\vT d e=true/\Q (.bl (bE (k+1) d e)) H
def sW(K:Fg1)(k:Nat):R2:=λx y H Q=>∃d e,dM K H (k+1) d x/\dM K H (k+1) e y/\vT d e=true/\Q (.bl (!bE (k+1) d e)) H
def D0(K:Fg1)(k:Nat):R2:=λx y H Q=>∃d e,dM K H (k+1) d x/\dM K H (k+1) e y/\i0 (k+1) d e/\Q (.bl (d9 (k+1) d e)) H
def Mv(k:Nat)(j:X.A.units+(k+1)<cLine):bx X (compareOp .Eq) (sT X.K k):=by
 intro a s l H x y v u Q I b c h;obtain⟨d,e,f,g,i,q⟩:=h;exact Mt (I.den f b) (I.den g c) i j X.prog X.w X.xe _ ⟨.bl _,H,I,rfl,q⟩
def Mw(k:Nat)(j:X.A.units+(k+1)<cLine):bx X (compareOp .NotEq) (sW X.K k):=by
 intro a s l H x y v u Q I b c h;obtain⟨d,e,f,g,i,q⟩:=h;exact Mu (I.den f b) (I.den g c) i j ⟨.bl _,H,I,rfl,q⟩
def Mx(k:Nat)(j:X.A.units+(k+1)<cLine):bx X (compareOp .Lt) (D0 X.K k):=by
 intro a s l H x y v u Q I b c h;obtain⟨d,e,f,g,i,q⟩:=h;exact zL (I.den f b) (I.den g c) i j X.prog X.w X.xe _ ⟨.bl _,H,I,rfl,q⟩
end
section
example (K:Fg1):kitOne K (.type "int") (.type "int")=some true:=by rfl
example (K:Fg1):kitOne K (.type "bool") (.type "int")=some true:=by rfl
example (K:Fg1):kitOne K (.type "int") (.type "bool")=some false:=by rfl
example (K:Fg1):kitOne K (.type "list") (.type "list")=some true:=by rfl
end
section
variable {X:Cx}{a b c e:Expr}
def PE.imp(h:PE X e t)(f:∀σ H Q,t' σ H Q->t σ H Q):PE X e t':=λa s σ H Q I q=>h a s σ H Q I (f σ H Q q)
def PT.imp(h:PT X e t)(f:∀σ H Q,t' σ H Q->t σ H Q):PT X e t':=λa s σ H Q I q=>h a s σ H Q I (f σ H Q q)
def bx.imp(h:bx X f r)(g:∀x y H Q,r' x y H Q->r x y H Q):bx X f r':=λa s b H x y v u Q I c e q=>h a s b H x y v u Q I c e (g x y H Q q)
def d7.imp(h:d7 X f r)(g:∀xs H Q,r' xs H Q->r xs H Q):d7 X f r':=λa s b H xs us Q I c q=>h a s b H xs us Q I c (g xs H Q q)
def iL.imp(h:iL X r)(g:∀x y H Q,r' x y H Q->r x y H Q):iL X r':=λa b c s e H x y v u Q I f i q hs=>h a b c s e H x y v u Q I f i (g x y H Q q) hs
def jD.imp{id:String}(h:jD X id r)(g:∀x xs H Q,r' x xs H Q->r x xs H Q):jD X id r':=λa s b H x xs v us Q I c e q=>h a s b H x xs v us Q I c e (g x xs H Q q)
def iI.imp(h:iI X r)(g:∀x lo hi H Q,r' x lo hi H Q->r x lo hi H Q):iI X r':=λa s b H x v c e lo hi sl Q I f hs pl i q=>h a s b H x v c e lo hi sl Q I f hs pl i (g x lo hi H Q q)
def PI.imp(h:PI X tg e wi)(g:∀σ H R,wi' σ H R->wi σ H R):PI X tg e wi':=λa s σ H R I q=>h a s σ H R I (g σ H R q)
def PG.imp(h:PG X tg t)(g:∀v σ H Q,t' v σ H Q->t v σ H Q):PG X tg t':=λa s σ H v u Q I r q=>h a s σ H v u Q I r (g v σ H Q q)
def k2(C:Int->Int->Prop)(g:Int->Int->V):R2:=λx y H Q=>match x,y with|.int i,.int j=>C i j/\Q (g i j) H|_,_=>False
def eO(g:Int->Int->V):R2:=λx y H Q=>match x,y with|.int i,.int j=>Q (g i j) H|_,_=>False
def vU(h:bx X f (rI C g)):bx X f (k2 C g):=h.imp λx y H Q q=>by
 unfold k2 at q
 split at q
 ·exact⟨_,_,rfl,rfl,q⟩
 ·exact q.elim
def qB(h:bx X f (mx g)):bx X f (eO g):=h.imp λx y H Q q=>by
 unfold eO at q
 split at q
 ·exact⟨_,_,rfl,rfl,q⟩
 ·exact q.elim
def My:bx X (binaryOp .Add) (eO λi j=>.int (i+j)):=qB KL
def vV:bx X (binaryOp .Sub) (eO λi j=>.int (i - j)):=qB KM
def fB:bx X (binaryOp .FloorDiv) (k2 yZ λi j=>.int (i / j)):=vU KN
def c7:bx X (binaryOp .Mod) (k2 (λ_ j=>0<j) λi j=>.int (i % j)):=vU KO
def D6:bx X (binaryOp .Pow) (k2 y6 λi j=>.int (i ^ j.toNat)):=vU KP
def D7:bx X (compareOp .Lt) (eO λi j=>.bl (decide (i<j))):=qB K0
def sX:bx X (compareOp .LtE) (eO λi j=>.bl (decide (i<=j))):=qB K1
def sY:bx X (compareOp .Gt) (eO λi j=>.bl (decide (j<i))):=qB K4
def vW:bx X (compareOp .GtE) (eO λi j=>.bl (decide (j<=i))):=qB K5
def jF(a:Bool):R2:=λx y H Q=>match x,y with
 |.int i,.int j=>Q (.bl (if a then !decide (i=j) else decide (i=j))) H
 |.str i,.str j=>Q (.bl (if a then !decide (i=j) else decide (i=j))) H
 |.bl i,.bl j=>Q (.bl (if a then !decide (i=j) else decide (i=j))) H
 |_,_=>False
def oM[Decidable p][Decidable q](h:p↔q):decide p=decide q:=by
 by_cases a:p
 ·rw[qc a,qc (h.mp a)]
 ·rw[be a,be λz=>a (h.mpr z)]
def Mz:bx X (compareOp .Eq) (jF false):=KY.imp λx y H Q q=>by
 unfold jF at q
 split at q
 ·exact⟨rfl,by rw[oM (q:=_=_) ⟨λz=>V.int.inj z,λz=>ef V.int z⟩];exact q⟩
 ·exact⟨rfl,by rw[oM (q:=_=_) ⟨λz=>V.str.inj z,λz=>ef V.str z⟩];exact q⟩
 ·exact⟨rfl,by rw[oM (q:=_=_) ⟨λz=>V.bl.inj z,λz=>ef V.bl z⟩];exact q⟩
 ·exact q.elim
def MA:bx X (compareOp .NotEq) (jF true):=KZ.imp λx y H Q q=>by
 unfold jF at q
 split at q
 ·exact⟨rfl,by rw[oM (q:=_=_) ⟨λz=>V.int.inj z,λz=>ef V.int z⟩];exact q⟩
 ·exact⟨rfl,by rw[oM (q:=_=_) ⟨λz=>V.str.inj z,λz=>ef V.str z⟩];exact q⟩
 ·exact⟨rfl,by rw[oM (q:=_=_) ⟨λz=>V.bl.inj z,λz=>ef V.bl z⟩];exact q⟩
 ·exact q.elim
def zM(t:TE):TT:=λσ H Q=>t σ H λx H'=>match x with|.bl k=>Q k H'|_=>False
def vX{x:V}{P:Bool->Prop}(q:match x with|.bl k=>P k|_=>False):∃k,x=.bl k/\P k:=by
 split at q
 ·exact⟨_,rfl,q⟩
 ·exact q.elim
def MB(w:bx X (compareOp op) r)(A:PE X a ta)(B:PE X b tb)(hm:behindInMarks op b=false):PT X (.Compare a [op] [b] pos) (zM (oG r ta tb)):=by
 intro c s p H Q I h;refine wpAny_isTrue_Compare1 (vH A B I h λv u e x y f g i j q=>aW (w c e p f x y v u _ g i j q) λz C ⟨E,l,m,n,o⟩=>?_) hm;obtain⟨k,rfl,q⟩:=vX o;cases n;exact zg ⟨l,m,q⟩
def MC(h:PE X e t)(l:∀whole,isTrue e X.env whole=(do let v ← whole;standAt e.pos;holding [v] (truthy v)):=by intro _;rfl):PT X e (zM t):=by
 intro a s i H Q I j;refine isTrue_plain (aW (h a s i H _ I j) λv m ⟨x,b,c,f,g⟩=>?_) (l _);obtain⟨k,rfl,q⟩:=vX g;cases f;exact zg ⟨b,c,q⟩
def MD(ta tb:TE):TE:=λσ H Q=>ta σ H λx H1=>match x with|.bl c=>if c=true then tb σ H1 Q else Q (.bl false) H1|_=>False
def ME(ta tb:TE):TE:=λσ H Q=>ta σ H λx H1=>match x with|.bl c=>if c=true then Q (.bl true) H1 else tb σ H1 Q|_=>False
theorem MF(n:PE X a ta)(o:PE X (.BoolOp .And (b::rest) pos) tb):PE X (.BoolOp .And (a::b::rest) pos) (MD ta tb):=by
 intro e s j H Q I h;refine BoolOp_and (aW (n e s j H _ I h) λv l ⟨x,g,i,m,f⟩=>?_);obtain⟨c,rfl,f⟩:=vX f;cases m;refine zg ?_
 cases c with
 |true=>exact o e l j g Q i f
 |false=>exact⟨.bl false,g,i,rfl,f⟩
theorem MG(n:PE X a ta)(o:PE X (.BoolOp .Or (b::rest) pos) tb):PE X (.BoolOp .Or (a::b::rest) pos) (ME ta tb):=by
 intro e s j H Q I h;refine BoolOp_or (aW (n e s j H _ I h) λv l ⟨x,g,i,m,f⟩=>?_);obtain⟨c,rfl,f⟩:=vX f;cases m;refine zg ?_
 cases c with
 |false=>exact o e l j g Q i f
 |true=>exact⟨.bl true,g,i,rfl,f⟩
def MH(h:qw X (unaryOp .USub) (rU f)):qw X (unaryOp .USub) (λx H Q=>match x with|.int i=>Q (f i) H|_=>False):=λa s b H x v Q I c q=>h a s b H x v Q I c (by
 dsimp only at q
 split at q
 ·exact⟨_,rfl,q⟩
 ·exact q.elim)
def MJ:qw X (unaryOp .USub) (λx H Q=>match x with|.int i=>Q (.int (-i)) H|_=>False):=MH KR
def zN(K:Fg1):R2:=λx y H Q=>match x,y with|.ref p,.int i=>∃xs v,bA K H p xs/\eK xs i=some v/\Q v H|_,_=>False
def zO(K:Fg1):R2:=λx y H Q=>match x,y with|.ref p,.int i=>∃xs v,cT K H p xs/\eK xs i=some v/\Q v H|_,_=>False
def zP:R2:=λx y H Q=>match x,y with|.str z,.int i=>z.length<=sizeLine/\∃c,eK z.cps.toList i=some c/\Q (.str ⟨#[c]⟩) H|_,_=>False
def MK:iL X (zN X.K):=LT.imp λx y H Q q=>by
 unfold zN at q
 split at q
 ·obtain⟨xs,v,a,b,q⟩:=q;exact⟨_,xs,_,v,rfl,rfl,a,b,q⟩
 ·exact q.elim
def ML:iL X (zO X.K):=LU.imp λx y H Q q=>by
 unfold zO at q
 split at q
 ·obtain⟨xs,v,a,b,q⟩:=q;exact⟨_,xs,_,v,rfl,rfl,a,b,q⟩
 ·exact q.elim
def MM:iL X zP:=LW.imp λx y H Q q=>by
 unfold zP at q
 split at q
 ·obtain⟨a,c,b,q⟩:=q;exact⟨_,_,c,rfl,rfl,a,b,q⟩
 ·exact q.elim
def MN(t:TE):TO:=λσ H Q=>t σ H λx H1=>match x with|.int i=>Q (some i) H1|_=>False
def MO{x:V}{P:Int->Prop}(q:match x with|.int k=>P k|_=>False):∃k,x=.int k/\P k:=by
 split at q
 ·exact⟨_,rfl,q⟩
 ·exact q.elim
def sZ{x:V}{P:Addr->Prop}(q:match x with|.ref k=>P k|_=>False):∃k,x=.ref k/\P k:=by
 split at q
 ·exact⟨_,rfl,q⟩
 ·exact q.elim
def MP{x:V}{P:Str->Prop}(q:match x with|.str k=>P k|_=>False):∃k,x=.str k/\P k:=by
 split at q
 ·exact⟨_,rfl,q⟩
 ·exact q.elim
def MQ(h:PE X e te):PO X (some e) (MN te):=by
 intro a s j H Q I l;rw[evalPart_some];refine aW (h a s j H _ I l) λu m ⟨x,b,c,f,g⟩=>?_
 obtain⟨i,rfl,q⟩:=MO g;obtain⟨t,rfl⟩:=f;exact⟨some i,b,c,.int i t,q⟩
def zQ(K:Fg1):V->Y2->Y2->Hp->VK->Prop:=λx lo hi H Q=>match x with|.ref a=>∃xs,bA K H a xs/\∀p,H p=none->Q (.ref p) (aF H p (.lst (iJ xs lo hi)))|_=>False
def MR:iI X (zQ X.K):=L4.imp λx b c H Q q=>by
 unfold zQ at q;obtain⟨a,rfl,xs,h,q⟩:=sZ q;exact⟨a,xs,rfl,h,q⟩
def D8(K:Fg1):V->Y2->Y2->Hp->VK->Prop:=λx lo hi H Q=>match x with
 |.ref a=>∃xs,cT K H a xs/\¬(HT.sIx xs.length 0 lo=0/\HT.sIx xs.length xs.length hi=xs.length)/\∀p,H p=none->Q (.ref p) (aF H p (.tup (iJ xs lo hi)))
 |_=>False
def MS:iI X (D8 X.K):=DE.imp λx c e H Q q=>by
 unfold D8 at q;obtain⟨a,rfl,xs,h,b,q⟩:=sZ q;exact⟨a,xs,rfl,h,b,q⟩
def zR:R2:=λx y H Q=>match x,y with|.str i,.str j=>i.length+j.length<=sizeLine/\Q (.str (i++j)) H|_,_=>False
def MT:bx X (binaryOp .Add) zR:=Lc.imp λx y H Q q=>by
 unfold zR at q
 split at q
 ·exact⟨_,_,rfl,rfl,q⟩
 ·exact q.elim
def mz(a:Bool):R2:=λx y H Q=>match x,y with|.str i,.str j=>Q (.bl (if a then !Txt.contains j i else Txt.contains j i)) H|_,_=>False
def MU:bx X (compareOp .In) (mz false):=K6.imp λx y H Q q=>by
 unfold mz at q
 split at q
 ·exact⟨_,_,rfl,rfl,q⟩
 ·exact q.elim
def MV:bx X (compareOp .NotIn) (mz true):=K9.imp λx y H Q q=>by
 unfold mz at q
 split at q
 ·exact⟨_,_,rfl,rfl,q⟩
 ·exact q.elim
def zS(K:Fg1):U6->Hp->VK->Prop:=λxs H Q=>match xs with|[.ref p]=>∃ys,(bA K H p ys\/cT K H p ys)/\Q (.int ys.length) H|_=>False
def MW:d7 X (.builtin "len") (zS X.K):=L5.imp λxs H Q q=>by
 unfold zS at q
 split at q
 ·obtain⟨ys,h,q⟩:=q;exact⟨_,ys,rfl,h,q⟩
 ·exact q.elim
def zT:U6->Hp->VK->Prop:=λxs H Q=>match xs with|[.str z]=>z.length<=sizeLine/\Q (.int z.length) H|_=>False
def MX:d7 X (.builtin "len") zT:=L6.imp λxs H Q q=>by
 unfold zT at q
 split at q
 ·exact⟨_,rfl,q⟩
 ·exact q.elim
def zU(K:Fg1):U6->Hp->VK->Prop:=λxs H Q=>match xs with|[.ref p]=>∃ys,(bA K H p ys\/cT K H p ys)/\∀l,H l=none->Q (.ref l) (aF H l (.lst ys))|_=>False
def vY:d7 X (.type "list") (zU X.K):=L7.imp λxs H Q q=>by
 unfold zU at q
 split at q
 ·obtain⟨ys,h,q⟩:=q;exact⟨_,ys,rfl,h,q⟩
 ·exact q.elim
def zV:U6->Hp->VK->Prop:=λxs H Q=>match xs with|[.bl k]=>Q (.int (if k then 1 else 0)) H|[.int i]=>Q (.int i) H|_=>False
def MY:d7 X (.type "int") zV:=Le.imp λxs H Q q=>by
 unfold zV at q
 split at q
 ·exact .inr ⟨_,rfl,q⟩
 ·exact .inl ⟨_,rfl,q⟩
 ·exact q.elim
def D9:V->U6->Hp->VK->Prop:=λx vs H Q=>match x,vs with|.ref l,[y]=>∃xs,H l=some (.lst xs)/\xs.length<sizeLine/\Q .non (aF H l (.lst (xs++[y])))|_,_=>False
def s9:jD X "list.append" D9:=jD.imp (r:=DN) Ma λx vs H Q q=>by
 unfold D9 at q
 split at q
 ·obtain⟨xs,a,b,q⟩:=q;exact⟨_,xs,_,rfl,rfl,a,b,q⟩
 ·exact q.elim
variable {l:Expr}
def MZ(K:Fg1)(tl:TE):TI:=λσ H R=>tl σ H λx H1=>match x with|.ref a=>(∃xs,bA K H1 a xs)/\R (vE K a) H1|_=>False
def M0(K:Fg1)(tl:TE):TI:=λσ H R=>tl σ H λx H1=>match x with|.ref a=>(∃xs,cT K H1 a xs)/\R (vF K a) H1|_=>False
def zW(hl:PE X l tl):PI X tg l (MZ X.K tl):=by
 intro c s r H R I h;refine aW (hl c s r H _ I h) λv f ⟨x,i,g,j,m⟩=>?_
 obtain⟨a,rfl,⟨xs,u⟩,q⟩:=sZ m;cases j;have⟨w,y,p,hz⟩:=g.list u;refine wpAny_pyIter_list p.isList ?_;refine⟨f.heap.objs.size,[f.heap.objs.size],_,_,i,rfl,g.kept (t':=f.toks) λb o e=>jc _ e,C6 a _,⟨_,pd _ rfl,rfl,rfl⟩,λb n=>?_,q⟩;have e:b=f.heap.objs.size:=by simpa using n
 subst e;exact g.fpOk (dc _) g.fresh
def M3(hl:PE X l tl):PI X tg l (M0 X.K tl):=by
 intro f s u H R I h;refine aW (hl f s u H _ I h) λv c ⟨x,j,g,m,n⟩=>?_
 obtain⟨a,rfl,⟨xs,w⟩,q⟩:=sZ n;cases m;have⟨i,y,p,hz⟩:=g.tuple w;refine wpAny_pyIter_tuple (show c.heap.IsTuple a i.toArray from p) ?_;refine⟨c.heap.objs.size,[c.heap.objs.size],_,_,j,rfl,g.kept (t':=c.toks) λb o e=>jc _ e,C7 a _,⟨_,pd _ rfl,rfl,rfl⟩,λb r=>?_,q⟩;have e:b=c.heap.objs.size:=by simpa using r
 subst e;exact g.fpOk (dc _) g.fresh
def M5(ta:TA):TI:=λσ H R=>ta σ H λvs H1=>match vs with|[.int j] => -(2 ^ 62)<=j/\j<2 ^ 62/\R (sL 0 j.toNat) H1|_=>False
def M6(ta:TA):TI:=λσ H R=>ta σ H λvs H1=>match vs with|[.int i,.int j]=>(-(2 ^ 62)<=i/\i<2 ^ 62 /\ -(2 ^ 62)<=j/\j<2 ^ 62)/\R (sL i (j - i).toNat) H1|_=>False
def PA.imp(h:PA X es t)(f:∀σ H Q,t' σ H Q->t σ H Q):PA X es t':=λp a s σ H Q I q=>h p a s σ H Q I (f σ H Q q)
def M7{e:TA}(l:Gl X "range")(hm:X.mg "range" = none)(m:PA X [a] e)(hs:starEach [a] X.env=[(false,eval a X.env)]:=by rfl):PI X tg (.Call (.Name "range" p) [a] [] pos) (M5 e):=by
 intro c s i H R I h;refine Call_ (ny I l hm boot_range (uk (aW (m pos c s i H _ I h) λus o ⟨vs,u,f,g,b⟩=>?_) hs rfl));dsimp only at b
 split at b
 ·obtain⟨b,j,q⟩:=b
  cases g with
  |cons r n =>
   cases n;obtain⟨t,rfl⟩:=r
   exact call_range_1 (C8 f 'o' 'o' b j (by simpa using q))
 ·exact b.elim
def M8(v:Gl X "range")(hm:X.mg "range" = none)(w:PA X [a,b] i)(hs:starEach [a,b] X.env=[(false,eval a X.env),(false,eval b X.env)]:=by rfl)(f:starEach [b] X.env=[(false,eval b X.env)]:=by rfl) :
  PI X tg (.Call (.Name "range" p) [a,b] [] pos) (M6 i):=by
 intro e s m H R I h;refine Call_ (ny I v hm boot_range (uk (aW (w pos e s m H _ I h) λus y ⟨vs,z,j,l,c⟩=>?_) (by rw[hs,f]) (by rw[f];rfl)));dsimp only at c
 split at c
 ·obtain⟨⟨c,n,o,u⟩,q⟩:=c
  cases l with
  |cons r g =>
   cases g with
   |cons x g =>
    cases g;obtain⟨t,rfl⟩:=r
    obtain⟨t',rfl⟩:=x;exact call_range_2 (C8 j c n o u q)
 ·exact c.elim
def Ea:jC:=λvs σ H Q=>match vs with|[]=>Q σ H|_=>False
def Eb(t:TG)(u:jC):jC:=λvs σ H Q=>match vs with|v::r=>t v σ H λa H'=>u r a H' Q|[]=>False
def M9:iF X [] Ea:=λa s b H vs us Q I r h=>yV a s b H vs us Q I r (by
 unfold Ea at h
 split at h
 ·exact⟨rfl,h⟩
 ·exact h.elim)
def Na(c:PG X e t)(f:iF X es u)(hs:(assignEach (e::es) X.env).map (·.2)=assign e X.env::(assignEach es X.env).map (·.2):=by rfl):iF X (e::es) (Eb t u) :=
 λ a s b H vs us Q I r h=>qb c f hs a s b H vs us Q I r (by
  unfold Eb at h
  split at h
  ·exact⟨_,_,rfl,h⟩
  ·exact h.elim)
def Ec(K:Fg1)(n:Nat)(t:jC):TG:=λv σ H Q=>match v with|.ref a=>∃xs,cT K H a xs/\xs.length=n/\t xs σ H Q|_=>False
def Nb(f:X.calm=true)(h:iF X es t)(hn:(assignEach es X.env).length=n:=by rfl)(b:(assignEach es X.env).findIdx? (·.1)=none:=by rfl):PG X (.Tuple es k pos) (Ec X.K n t) :=
 (yW f h hn b).imp λv g H Q q=>by
  unfold Ec at q;obtain⟨a,rfl,xs,c,e,q⟩:=sZ q;exact⟨a,xs,rfl,c,e,q⟩
inductive iN {α:Type} (p:α->Prop):List α->Prop
 |nil:iN p []
 |cons {x:α} {l:List α}:p x->iN p l->iN p (x::l)
theorem iN.mem:∀{l:List α},iN p l->∀x∈l,p x
 |_,.nil,x,h=>by cases h
 |_,.cons a b,x,h=>by
  rcases wc.mp h with rfl|h
  ·exact a
  ·exact b.mem x h
def jG(L:U8)(c:scope.kind=.function)(e:∀y∈scope.names,y.2≠.cell)(f:∀y∈scope.names,y.2=.local->scope.names.lookup y.1=some .local)(g:∀y∈scope.names,y.2=.free->y.1∈L)(h:iN (λx=>X.env.kindOf x=some .cell\/X.env.kindOf x=some .free) L):bZ X scope :=
 ⟨c,e,f,λy a b=>h.mem y.1 (g y a b)⟩
def jH{a:Scope}(h:iN (λi=>i<X.N.length/\a.names.lookup (X.N.getD i "")≠some .local) cap):∀i∈cap,i<X.N.length/\a.names.lookup (X.N.getD i "")≠some .local:=h.mem
structure Df(K:Fg1)(mg:Str->Y0)(x:Str)(st:Stmt)(ps:U8)(f:Addr)(fd:FuncData):Prop where
 F:d8 K x x st f fd
 m:mg x=some (.ref f)
 b:cB K fd ps []
def kL:bootBuiltins "len" = some (.builtin "len"):=by decide
def Nc:bootBuiltins "isinstance" = some (.builtin "isinstance"):=by decide
def ti:bootBuiltins "sorted" = some (.builtin "sorted"):=by decide
def Nd:bootBuiltins "min" = some (.builtin "min"):=by decide
def Nf:bootBuiltins "int" = some (.type "int"):=by decide
def Ng:bootBuiltins "str" = some (.type "str"):=by decide
def qC:bootBuiltins "list" = some (.type "list"):=by decide
def zX:bootBuiltins "tuple" = some (.type "tuple"):=by decide
def eP{o:HO}(a:H p=none):aH H (aF H p o):=λb u e=>by rw[aI (dP e a)];exact e
def aH.seqT{K:Fg1}{b:Hp}{a:Addr}(e:aH H b)(h:cT K H a xs):cT K b a xs:=by
 rcases h with(h|⟨o,h⟩)|h
 ·exact .inl (.inl (e _ _ h))
 ·exact .inl (.inr ⟨o,e _ _ h⟩)
 ·exact .inr h
end
end L2
set_option maxHeartbeats 1000000
namespace L2
open PySem PySem.Spec PyProof.Rows
noncomputable def S(l:U7):Str:=⟨l.toArray⟩
def jW(l:U7):(S l).cps.toList=l:=rfl
def lK(l:U7):(S l).length=l.length:=by simp[S,Str.length]
def zY:S l=S m↔l=m:=⟨λh=>by have:=ef (λx:Str=>x.cps.toList) h;exact this,λh=>by rw[h]⟩
def Nh(x:Str):x=S x.cps.toList:=by cases x;simp[S]
def zZ(l m:U7):S l++S m=S (l++m):=by
 show Str.mk (l.toArray++m.toArray)=Str.mk (l++m).toArray;simp
def Ni(l:U7)(c:Nat):Txt.contains (S l) (S [c])=decide (c∈l):=StrLaws.found_one (S l) c
noncomputable def dF(c:Nat):U7->Nat
 |[]=>0
 |a::r=>if a=c then 0 else dF c r+1
theorem vZ(c:Nat):∀(l:U7),c∈l->l[dF c l]?=some c/\∀k,k<dF c l->l[k]?≠some c
 |[],h=>by cases h
 |a::r,h=>by
  unfold dF;by_cases b:a=c
  ·rw[ya b];exact⟨by simp[b],λk e=>'o'⟩
  ·rw[ic b]
   have i:c∈r:=by
    rcases wc.mp h with z|z
    ·exact absurd z.symm b
    ·exact z
   have⟨f,g⟩:=vZ c r i;refine⟨by simpa using f,λk e=>?_⟩
   cases k with
   |zero=>simpa using b
   |succ k=>simpa using g k 'o'
def Ed(c:Nat)(l:U7)(h:c∈l):dF c l<l.length:=by
 have:=(vZ c l h).1
 exact(wb.mp this).1
def z5(l:U7)(c i:Nat):StrLaws.At (S l) (S [c]) (S l).length i↔l[i]?=some c:=StrLaws.subAt_one (S l) c i
def Nj(l:U7)(c a:Nat)(hl:1<=a)(h:c∈l):∃r,Builtin.Str.occurrences (S l) (S [c]) 0 (S l).length a=dF c l::r:=by
 have⟨b,f⟩:=vZ c l h;rcases StrLaws.occ_head (S l) (S [c]) a hl with⟨_,hn⟩|⟨i,r,e,g,j⟩
 ·exact absurd ((z5 l c _).mpr b) (hn _)
 ·have m:i=dF c l:=by
   rcases Nat.lt_trichotomy i (dF c l) with z|z|z
   ·exact absurd ((z5 l c i).mp g) (f i z)
   ·exact z
   ·exact absurd ((z5 l c _).mpr b) (j _ z)
  exact⟨r,by rw[e,m]⟩
def Ee(h:∀c∈l,c<128):Txt.lower (S l)=S (l.map lo1):=by
 rw[lower_ascii (x:=S l) h];simp[S]
section
def v4(x:Str):It:=⟨λi _=>i<x.length,λi H v H'=>H'=H/\∃c,x.cps.toList[i]?=some c/\v=.str (S [c]),λi _=>x.length<=i⟩
def Nk{K:Fg1}(x:Str)(t:Tok)(it:Addr):gH P w K tg (v4 x) [it] it (λi h=>h.IsStrIter it "str_ascii_iterator" x t i) where
 mem:=by simp
 obj:=λi h st b hb=>by
  have e:b=it:=by simpa using hb
  subst e;obtain⟨o,e,c,d⟩:=st;exact⟨o,e,λv z=>by rw[d]at z;cases z⟩
 keep:=λi h h' st k=>by
  obtain⟨o,e,r⟩:=st;exact⟨o,k it 'm' o e,r⟩
 item:=by
  intro X hP hw hK hc i pins s σ H E I hf st hg;subst hP hw hK;have hg:i<x.length:=hg;obtain⟨ch,hx⟩:∃ch,x.cps[i]?=some ch:=⟨_,wf (show i<x.cps.size from hg)⟩
  obtain⟨f0,f1,f2,f3,f4,f5⟩:=hf it 'm';refine wpAny_pyNext_ascii_item st hx λh' st' sb=>?_
  have I1:az X pins σ H { s with heap:=h',toks:=s.toks+1 }:=I.turned (λb o hb e=>(sb.2 b hb).trans e) f0 f1 f3 f4 f5;have⟨o,e,c,d⟩:=id st';exact⟨_,rfl,qu (s:={ s with heap:=h',toks:=s.toks+1 }) e c d 'd' ⟨.str ⟨#[ch]⟩,H,I1,⟨_,rfl⟩,⟨rfl,ch,by simpa using hx,rfl⟩,st',λb hb=>(hf b hb).1⟩⟩
 done:=by
  intro X hP hw hK hc i pins s σ H E I hf st hg;subst hP hw hK;obtain⟨f0,f1,f2,f3,f4,f5⟩:=hf it 'm';have hg:x.length<=i:=hg;exact wpAny_pyNext_ascii_end (I.ok.hd hc) st (by have:x.cps.size<=i:=hg;simp[this]) λh' eb=>⟨rfl,I.turned (t':=s.toks) (λb o hb e=>eb b o hb e) f0 f1 f3 f4 f5⟩
 self:=λ_ _ _ _ _ st h=>wpAny_pyIter_striter_ascii st h
def Nl{K:Fg1}(x:Str)(t:Tok)(it:Addr):gH P w K tg (v4 x) [it] it (λi h=>h.IsStrIter it "str_iterator" x t i) where
 mem:=by simp
 obj:=λi h st b hb=>by
  have e:b=it:=by simpa using hb
  subst e;obtain⟨o,e,c,d⟩:=st;exact⟨o,e,λv z=>by rw[d]at z;cases z⟩
 keep:=λi h h' st k=>by
  obtain⟨o,e,r⟩:=st;exact⟨o,k it 'm' o e,r⟩
 item:=by
  intro X hP hw hK hc i pins s σ H E I hf st hg;subst hP hw hK;have hg:i<x.length:=hg;obtain⟨ch,hx⟩:∃ch,x.cps[i]?=some ch:=⟨_,wf (show i<x.cps.size from hg)⟩
  obtain⟨f0,f1,f2,f3,f4,f5⟩:=hf it 'm';refine wpAny_pyNext_wide_item st hx λh' st' sb=>?_
  have I1:az X pins σ H { s with heap:=h',toks:=s.toks+1 }:=I.turned (λb o hb e=>(sb.2 b hb).trans e) f0 f1 f3 f4 f5;have⟨o,e,c,d⟩:=id st';exact⟨_,rfl,qu (s:={ s with heap:=h',toks:=s.toks+1 }) e c d 'd' ⟨.str ⟨#[ch]⟩,H,I1,⟨_,rfl⟩,⟨rfl,ch,by simpa using hx,rfl⟩,st',λb hb=>(hf b hb).1⟩⟩
 done:=by
  intro X hP hw hK hc i pins s σ H E I hf st hg;subst hP hw hK;obtain⟨f0,f1,f2,f3,f4,f5⟩:=hf it 'm';have hg:x.length<=i:=hg;exact wpAny_pyNext_wide_end (I.ok.hd hc) st (by have:x.cps.size<=i:=hg;simp[this]) λh' eb=>⟨rfl,I.turned (t':=s.toks) (λb o hb e=>eb b o hb e) f0 f1 f3 f4 f5⟩
 self:=λ_ _ _ _ _ st h=>wpAny_pyIter_striter_wide st h
end
section
variable {X:Cx}
def tu(C:Str->Prop)(f:Str->V):V->U6->Hp->VK->Prop:=λx vs H Q=>match x,vs with|.str z,[]=>C z/\Q (f z) H|_,_=>False
def Nm{id:String}(h:∀(a:U1) (s:Shared) (b:St) (H:Hp) (z:Str) (t:Tok) (Q:VK),az X a b H s->C z->Q (f z) H->wpAny (model X.prog X.w) X.A (call (.builtin id) [.str z t]) (EP X a b Q) X.xe s):jD X id (tu C f):=by
 intro a s b H x vs v us Q I e g q;unfold tu at q
 split at q
 ·obtain⟨c,q⟩:=q
  obtain⟨t,rfl⟩:=e;cases g;exact h a s b H _ t Q I c q
 ·exact q.elim
def Nn:jD X "str.lower" (tu (λz=>Builtin.Str.tooLong (Txt.lower z).length=false) λz=>.str (Txt.lower z)) :=
 Nm λa s b H z t Q I c q=>SC.lower c ⟨.str _,H,I.tok _,⟨_,rfl⟩,q⟩
def z6:V->U6->Hp->VK->Prop:=λx vs H Q=>match x,vs with|.str z,[.str y]=>∃i r,Builtin.Str.occurrences z y 0 z.length 1=i::r/\Q (.int i) H|_,_=>False
def No:jD X "str.index" z6:=by
 intro a s g H x vs v us Q I b c q;unfold z6 at q
 split at q
 ·obtain⟨i,r,e,q⟩:=q
  obtain⟨t,rfl⟩:=b;obtain⟨u,rfl,f⟩:=c.one;obtain⟨t',rfl⟩:=f;exact SC.index e ⟨.int i,H,I.tok _,⟨_,rfl⟩,q⟩
 ·exact q.elim
theorem Ef:∀{ys:U8}{us:U9},bC (ys.map V.str) us->StrsAre us ys
 |[],_,.nil=>.nil
 |y::r,_,.cons h t=>by
  obtain⟨a,rfl⟩:=h;exact .cons y a (Ef t)
def z7(K:Fg1):V->U6->Hp->VK->Prop:=λx vs H Q=>match x,vs with
 |.str z,[.ref a]=>∃ys:U8,bA K H a (ys.map V.str)/\(ys.map (·.length)).sum+ys.length * z.length<=16777216/\Q (.str (Txt.join z ys)) H
 |_,_=>False
def Np:jD X "str.join" (z7 X.K):=by
 intro a s h H x vs v us Q I b c q;unfold z7 at q
 split at q
 ·obtain⟨ys,e,hz,q⟩:=q
  obtain⟨t,rfl⟩:=b;obtain⟨u,rfl,f⟩:=c.one;cases f;have⟨g,r,pl,_⟩:=I.list e;exact join_list pl.isList (Ef r) hz λt' k=>⟨.str _,H,I.tok _,⟨_,rfl⟩,q⟩
 ·exact q.elim
def z8:V->Y2->Y2->Hp->VK->Prop:=λx lo hi H Q=>match x with|.str z=>z.length<=sizeLine/\Q (.str (StrLaws.sliceText z lo hi)) H|_=>False
def Nq:iI X z8:=by
 intro b s j H x v m n r w sl Q I c hs pl e h;unfold z8 at h;obtain⟨z,rfl,hz,q⟩:=MP h;obtain⟨t,rfl⟩:=c;refine⟨"str",_,PySem.F.slot_str_getitem.lookup,typeIs_str _ _ _,?_⟩
 have a:∀{v:Value} {o:Y2},IsPart v o->∃l:Option (Int×Tok),partValue l=v/\l.map (·.1)=o:=λp=>by
  cases p with
  |none=>exact⟨none,rfl,rfl⟩
  |int i t=>exact⟨some (i,t),rfl,rfl⟩
 have⟨l,e1,e2⟩:=a pl;have⟨u,f,g⟩:=a e;subst e1 e2 f g;refine wpAny_getItem_str_slice (l:=l) (u:=u) (st:=none) hs rfl ?_;refine post_val_or_str ⟨re ?_ hz,λt' k=>⟨.str _,H,I.tok _,⟨_,rfl⟩,q⟩⟩;exact Txt.slice_le z _ _
end
def Nr(l:U7)(j:Nat):StrLaws.sliceText (S l) none (some (j:Int))=S (l.take j):=by
 by_cases h:j<=l.length
 ·rw[StrLaws.sliceText_to ⟨'o',by rw[jW];omega⟩]
  simp[S]
 ·have e:StrLaws.sliceText (S l) none (some (j:Int))=StrLaws.sliceText (S l) none (some (l.length:Int)):=by
   unfold StrLaws.sliceText
   have e1:Builtin.Str.strSliceIndices none (some (j:Int)) 1 (S l).length=Builtin.Str.strSliceIndices none (some (l.length:Int)) 1 (S l).length:=by
    rw[lK];have a:min (j:Int) (l.length:Int)=(l.length:Int):=by omega
    have b:¬(j:Int)<0:=by omega
    have c:¬(l.length:Int)<0:=by omega
    simp[Builtin.Str.strSliceIndices,a,b,c]
   rw[e1]
  rw[e,StrLaws.sliceText_to ⟨'o',by rw[jW];omega⟩];have e2:l.take j=l:=zf 'o';rw[e2];simp[S]
def Nt(l:U7)(i:Nat)(h:i<=l.length):StrLaws.sliceText (S l) (some (i:Int)) none=S (l.drop i):=by
 rw[StrLaws.sliceText_from ⟨'o',by rw[jW];omega⟩];rw[jW];have e:((l.length:Int) - (i:Int)).toNat=l.length - i:=by omega
 rw[e,qh];have e2:(l.drop i).take (l.length - i)=l.drop i:=zf 'm';rw[e2];rfl
noncomputable def oO(a:U7):List U7->U7
 |[]=>[]
 |[x]=>x
 |x::y::r=>x++a++oO a (y::r)
theorem Nu(a:U7)(b:List U7):Txt.join (S a) (b.map S)=S (oO a b):=by
 show Builtin.Str.glued (S a) (b.map S)=_;rw[StrLaws.glued_eq_join]
 induction b with
 |nil=>rfl
 |cons x r c =>
  cases r with
  |nil=>rfl
  |cons y r =>
   show S x++S a++Str.join (S a) ((y::r).map S)=S (x++a++oO a (y::r));rw[c,zZ,zZ]
theorem Eg:∀(a:List U7),oO [] a=a.flatten
 |[]=>rfl
 |[x]=>by simp[oO]
 |x::y::r=>by
  show x++[]++oO [] (y::r)=_;rw[Eg (y::r)];simp
section
variable {κ:Type}[DecidableEq κ]
noncomputable def cU(kvs:List (κ×V))(k:κ):Option V:=(kvs.find? λa=>decide (a.1=k)).map (·.2)
noncomputable def f6(kvs:List (κ×V))(k:κ)(v:V):List (κ×V) :=
 if (kvs.any λa=>decide (a.1=k))=true then kvs.map (λa=>if a.1=k then (a.1,v) else a) else kvs++[(k,v)]
noncomputable def tw(kvs:List (κ×V))(k:κ):List (κ×V):=kvs.filter λa=>decide (a.1≠k)
def oP{p:κ×V}(e:p.1=k):cU (p::r) k=some p.2:=by simp[cU,we,e]
def nB{p:κ×V}(e:¬p.1=k):cU (p::r) k=cU r k:=by simp[cU,we,e]
theorem tz(k:κ):∀kvs:List (κ×V),(kvs.any λa=>decide (a.1=k))=(cU kvs k).isSome
 |[]=>rfl
 |p::r=>by
  rw[li];by_cases e:p.1=k
  ·simp only[oP e,qc e,Bool.true_or,Option.isSome_some]
  ·rw[nB e,be e,Bool.false_or];exact tz k r
def z9(kvs:List (κ×V))(k:κ)(v:V):(f6 kvs k v).length<=kvs.length+1:=by
 unfold f6;split
 ·rw[aa];omega
 ·rw[rc,gc,qe];omega
theorem gw.isSome_eq(r:gw o u):o.isSome=u.isSome:=by
 cases o with
 |none=>cases u with
  |none=>rfl
  |some _=>exact(show False from r).elim
 |some _=>cases u with
  |none=>exact(show False from r).elim
  |some _=>rfl
theorem gw.getD(r:gw o u)(a:bu d d'):bu (o.getD d) (u.getD d'):=by
 cases o with
 |none=>cases u with
  |none=>exact a
  |some _=>exact(show False from r).elim
 |some _=>cases u with
  |none=>exact(show False from r).elim
  |some _=>exact r
theorem KV.val(r:KV kvs vs)(k:κ):gw (cU kvs k) (valueAt vs k):=by
 unfold KV at r
 induction r with
 |nil=>exact kg
 |@cons p q ps qs h t ih =>
  obtain⟨h1,h2⟩:=h;by_cases e:p.1=k
  ·have e':q.1=k:=h1.symm.trans e
   have b:valueAt (q::qs) k=some q.2:=by simp[valueAt,we,e']
   rw[oP e,b];exact h2
  ·have e':¬q.1=k:=λz=>e (h1.trans z)
   have b:valueAt (q::qs) k=valueAt qs k:=by simp[valueAt,we,e']
   rw[nB e,b];exact ih
theorem KV.any(r:KV kvs vs)(k:κ):(kvs.any λa=>decide (a.1=k))=vs.any λa=>decide (a.1=k):=by
 unfold KV at r
 induction r with
 |nil=>rfl
 |cons h t b=>rw[li,li,b,h.1]
theorem KV.repl(r:KV kvs vs)(k:κ)(ry:bu y u) :
  KV (kvs.map λkv=>if kv.1=k then (kv.1,y) else kv) (vs.map λkv=>if kv.1=k then (kv.1,u) else kv):=by
 unfold KV at r ⊢
 induction r with
 |nil=>exact .nil
 |@cons p q ps qs h t ih =>
  rw[ma,ma];refine .cons ?_ ih;obtain⟨h1,h2⟩:=h;by_cases e:p.1=k
  ·rw[ya e,ya (h1.symm.trans e)];exact⟨h1,ry⟩
  ·rw[ic e,ic (λz=>e (h1.trans z))];exact⟨h1,h2⟩
def KV.put(r:KV kvs vs)(k:κ)(a:bu y u):KV (f6 kvs k y) (stored vs k u):=by
 unfold f6 stored;rw[r.any k];by_cases e:(vs.any λb=>decide (b.1=k))=true
 ·rw[ya e,ya e];exact r.repl k a
 ·rw[ic e,ic e];exact Paired.snoc r ⟨rfl,a⟩
theorem KV.length(r:KV kvs vs):kvs.length=vs.length:=Paired.length r
end
theorem oQ(r:bu (kV k) u):(fK P w).is k u=true:=by
 cases k with
 |inl i=>have⟨t,e⟩:=(show ∃t,u=Value.int i t from r);subst e;exact J6 P w i t
 |inr x=>have⟨t,e⟩:=(show ∃t,u=Value.str x t from r);subst e;exact Ka P w x t
theorem Eh:∀{ks:List aQ}{us:U9},bC (ks.map kV) us->ItemsAre (fK P w) ks us
 |[],_,r=>by rw[vg]at r;cases r;exact .nil
 |k::ks,_,r=>by
  rw[ma]at r
  cases r with
  |cons h t=>exact .cons (oQ h) (Eh t)
abbrev KT(H:Hp):List (List aQ×V)->List (List aQ×Addr×Value)->Prop:=Paired λp q=>p.1=q.1/\H q.2.1=some (.tup (p.1.map kV))/\bu p.2 q.2.2
theorem KT.val(r:KT H kvs xs)(k:List aQ):gw (cU kvs k) ((atKey xs k).map (·.2)):=by
 induction r with
 |nil=>exact kg
 |@cons p q ps qs h t ih =>
  obtain⟨h1,_,h2⟩:=h;by_cases e:p.1=k
  ·have e':q.1=k:=h1.symm.trans e
   have b:atKey (q::qs) k=some q.2:=by simp[atKey,we,e']
   rw[oP e,b];exact h2
  ·have e':¬q.1=k:=λz=>e (h1.trans z)
   have b:atKey (q::qs) k=atKey qs k:=by simp[atKey,we,e']
   rw[nB e,b];exact ih
theorem KT.repl(r:KT H kvs xs)(k:List aQ)(ry:bu y u) :
  KT H (kvs.map λkv=>if kv.1=k then (kv.1,y) else kv) (xs.map (putAt k u)):=by
 induction r with
 |nil=>exact .nil
 |@cons p q ps qs h t ih =>
  rw[ma,ma];refine .cons ?_ ih;obtain⟨h1,h2,h3⟩:=h;unfold putAt;by_cases e:p.1=k
  ·rw[ya e,ya (h1.symm.trans e)];exact⟨h1,h2,ry⟩
  ·rw[ic e,ic (λz=>e (h1.trans z))];exact⟨h1,h2,h3⟩
def KT.put(r:KT H kvs xs)(k:List aQ)(f:H b=some (.tup (k.map kV)))(a:bu y u) :
  KT H (f6 kvs k y) (storedH xs k b u):=by
 have e:(kvs.any λc=>decide (c.1=k))=(atKey xs k).isSome:=by
  rw[tz,(r.val k).isSome_eq,tj]
 unfold f6 storedH;rw[e];by_cases q:(atKey xs k).isSome=true
 ·rw[ya q,ya q];exact r.repl k a
 ·rw[ic q,ic q];exact Paired.snoc r ⟨rfl,f,a⟩
def KT.keeps(r:KT H kvs xs)(c:∀b ys,H b=some (.tup ys)->a b=some (.tup ys)):KT a kvs xs :=
 Paired.mapP r λ_ _ z=>⟨z.1,c _ _ z.2.1,z.2.2⟩
section
variable {h:Heap}
def Ei(ok:dl P w H h)(e:Rd H a u):cF P w H h a u:=e.ok ok
def mB(ok:dl P w H h)(e:Rd H a (.dK kvs)):kvs.length<=sizeLine/\(a == sysModules)=false/\∃vs,KV kvs vs/\h.DictOf (fK P w) a vs :=
 show cF P w H h a (.dK kvs) from Ei ok e
def Nv(ok:dl P w H h)(e:H a=some (.dK kvs)):kvs.length<=sizeLine/\(a == sysModules)=false/\∃vs,KV kvs vs/\h.DictOf (fK P w) a vs:=mB ok (.inl e)
def mC(ok:dl P w H h)(e:H a=some (.tup (ks.map kV))):(tupleKind (fK P w)).is h ks a:=by
 have⟨_,b,r,o,c,f,n,g⟩:=(show cF P w H h a (.tup (ks.map kV)) from ok a _ e)
 exact⟨o,b.toArray,n,c,f,g,by simpa using Eh r⟩
def nC(ok:dl P w H h)(e:Rd H a (.dT kvs)):kvs.length<=sizeLine/\(a == sysModules)=false ∧
  ∃xs,KT H kvs xs/\h.DictOfH (tupleKind (fK P w)) a xs:=by
 have⟨z,y,xs,r,o,es,ep,h1,h2,h3,h4,h5⟩:=(show cF P w H h a (.dT kvs) from Ei ok e)
 refine⟨z,y,xs,r,o,es,ep,h1,h2,h3,h4,λx hx=>?_,h5⟩
 have all:∀{l:List (List aQ×V)} {m:List (List aQ×Addr×Value)},KT H l m->∀x∈m,(tupleKind (fK P w)).is h x.1 x.2.1:=by
  intro l m q
  induction q with
  |nil=>intro x hx;exact nomatch hx
  |@cons p q ps qs hq t ih =>
   intro x hx;rcases wc.mp hx with e|hx
   ·subst e
    exact mC ok (by rw[<-hq.1];exact hq.2.1)
   ·exact ih x hx
 exact all r x hx
def tB(ok:dl P w H h)(e:H a=some (.dT kvs)):kvs.length<=sizeLine/\(a == sysModules)=false ∧
  ∃xs,KT H kvs xs/\h.DictOfH (tupleKind (fK P w)) a xs:=nC ok (.inl e)
end
def gM(H:Hp)(a:Addr)(y:V)(r:Option V):Prop :=
 (∃kvs k,Rd H a (.dK kvs)/\y=kV k/\r=cU kvs k)\/∃kvs k b,Rd H a (.dT kvs)/\y=.ref b/\H b=some (.tup (k.map kV))/\r=cU kvs k
def mD(H:Hp)(a:Addr)(y v:V)(H':Hp):Prop :=
 (∃kvs k,H a=some (.dK kvs)/\y=kV k/\kvs.length<sizeLine/\H'=aF H a (.dK (f6 kvs k v))) ∨
 ∃kvs k b,H a=some (.dT kvs)/\y=.ref b/\H b=some (.tup (k.map kV))/\kvs.length<sizeLine/\H'=aF H a (.dT (f6 kvs k v))
theorem gM.k{H:Hp}{a:Addr}{kvs:List (aQ×V)}{k:aQ}(e:H a=some (.dK kvs)):gM H a (kV k) (cU kvs k):=.inl ⟨kvs,k,.inl e,rfl,rfl⟩
def gM.t{k:List aQ}(e:H a=some (.dT kvs))(c:H b=some (.tup (k.map kV))):gM H a (.ref b) (cU kvs k):=.inr ⟨kvs,k,b,.inl e,rfl,c,rfl⟩
theorem mD.k{H:Hp}{a:Addr}{kvs:List (aQ×V)}{k:aQ}{v:V}(e:H a=some (.dK kvs))(hl:kvs.length<sizeLine):mD H a (kV k) v (aF H a (.dK (f6 kvs k v))):=.inl ⟨kvs,k,e,rfl,hl,rfl⟩
def mD.t{kvs:List (List aQ×V)}{k:List aQ}(e:H a=some (.dT kvs))(c:H b=some (.tup (k.map kV)))(hl:kvs.length<sizeLine) :
  mD H a (.ref b) v (aF H a (.dT (f6 kvs k v))):=.inr ⟨kvs,k,b,e,rfl,c,hl,rfl⟩
section
variable {X:Cx}{s:Shared}{o:Option V}{A:Around}
def az.big(I:az X pins σ H s):sysModules<s.heap.objs.size:=by
 have h:mainGlobals<s.heap.objs.size:=(I.mod.glob.keeps I.bk).lt;exact Nat.lt_trans 'd' h
def Nw(C:A.units+1<cLine)(I:az X pins σ H s)(g:gM H a y (some v))(q:bu y u)(h:∀i s',az X pins σ H s'->bu v i->Q i s') :
  wpAny (model X.prog X.w) A (getItem (.ref a) u) Q E s:=by
 rcases g with⟨kvs,k,e,n,l⟩|⟨kvs,k,b,e,n,B,l⟩
 ·subst n
  have⟨z,r,vs,c,dd⟩:=mB I.hok e;obtain⟨i,j,f⟩:=gw.some_of (v:=v) (o:=valueAt vs k) (by rw[l];exact c.val k);exact wpAny_getItem_of (oQ q) dd.mapOf j (h i _ (I.tok _) f)
 ·subst n
  cases (show u=Value.ref b from q)
  have⟨z,r,xs,c,dd⟩:=nC I.hok e;obtain⟨i,j,f⟩:=gw.some_of (v:=v) (o:=(atKey xs k).map (·.2)) (by rw[l];exact c.val k);have⟨p,x,m⟩:=pc.mp j;refine wpAny_getItem_heap (qg C) (mC I.hok B) dd x ?_;rw[m];exact h i _ (I.tok _) f
def Nx(n:A.units+1<cLine)(I:az X pins σ H s)(g:gM H a y o)(j:bu y u)(h:∀s',az X pins σ H s'->Q (.bool o.isSome) s') :
  wpAny (model X.prog X.w) A (compareOp .In u (.ref a)) Q E s:=by
 rcases g with⟨kvs,k,e,i,l⟩|⟨kvs,k,b,e,i,m,l⟩
 ·subst i
  have⟨z,f,vs,c,dd⟩:=mB I.hok e;refine wpAny_in_of (oQ j) f dd.mapOf ?_;rw[<-(c.val k).isSome_eq,<-l];exact h _ (I.tok _)
 ·subst i
  cases (show u=Value.ref b from j)
  have⟨z,f,xs,c,dd⟩:=nC I.hok e;refine wpAny_in_heap (qg n) (mC I.hok m) f dd ?_;have q:=(c.val k).isSome_eq;rw[tj]at q;rw[<-q,<-l];exact h _ (I.tok _)
def Ny(n:A.units+1<cLine)(I:az X pins σ H s)(g:gM H a y o)(j:bu y u)(h:∀s',az X pins σ H s'->Q (.bool (!o.isSome)) s') :
  wpAny (model X.prog X.w) A (compareOp .NotIn u (.ref a)) Q E s:=by
 rcases g with⟨kvs,k,e,i,l⟩|⟨kvs,k,b,e,i,m,l⟩
 ·subst i
  have⟨z,f,vs,c,dd⟩:=mB I.hok e;refine wpAny_notIn_of (oQ j) f dd.mapOf ?_;rw[<-(c.val k).isSome_eq,<-l];exact h _ (I.tok _)
 ·subst i
  cases (show u=Value.ref b from j)
  have⟨z,f,xs,c,dd⟩:=nC I.hok e;refine wpAny_notIn_heap (qg n) (mC I.hok m) f dd ?_;have q:=(c.val k).isSome_eq;rw[tj]at q;rw[<-q,<-l];exact h _ (I.tok _)
def v6(I:az X pins σ H s)(f:sD (H a))(hs:Heap.SameBut a s.heap h')(g:∃q,h'.get? a=some q)(new:cF X.prog X.w (aF H a ob) h' a ob) :
  az X pins σ (aF H a ob) { s with heap:=h',toks:=t' } :=
 I.write (x:=a) (e:=a) f 'j' (λb q c z=>(hs.2 b c).trans z) g new
def Nz(z:kvs.length<=sizeLine)(e:(a == sysModules)=false)(b:KV kvs vs)(dd:h'.DictOf (fK P w) a vs) :
  cF P w c h' a (.dK kvs):=⟨z,e,vs,b,dd⟩
def NA(N:A.units+1<cLine)(I:az X pins σ H s)(g:mD H a y v B)(C:bu y u)(F:bu v r)(h:∀s',az X pins σ B s'->Q () s') :
  wpAny (model X.prog X.w) A (setItem (.ref a) u r) Q E s:=by
 rcases g with⟨kvs,k,e,n,l,o⟩|⟨kvs,k,b,e,n,x,l,o⟩
 ·subst n o
  have⟨z,m,vs,f,dd⟩:=Nv I.hok e;have hz:vs.length<=sizeLine:=by rw[<-f.length];exact z
  have hl:(f6 kvs k v).length<=sizeLine:=by have:=z9 kvs k v;omega
  refine wpAny_setItem_pairs (hsz:=hz) (oQ C) dd λh' i hs=>h _ ?_
  have M:∃q,h'.get? a=some q:=let ⟨q,_,_,j,_⟩:=i;⟨q,j⟩
  exact v6 I (by rw[e];exact kg) hs M (Nz hl m (f.put k F) i)
 ·subst n o
  cases (show u=Value.ref b from C)
  have⟨z,m,xs,f,dd⟩:=tB I.hok e;have hz:xs.length<=sizeLine:=by rw[<-Paired.length f];exact z
  have hl:(f6 kvs k v).length<=sizeLine:=by have:=z9 kvs k v;omega
  refine wpAny_setItem_heap (hsz:=hz) (qg N) (mC I.hok x) dd λh' i hs=>h _ ?_
  obtain⟨q,es,ep,j,G,J,K,_,L⟩:=i;refine v6 I (by rw[e];exact kg) hs ⟨q,j⟩ ⟨hl,m,_,(f.put k x F).keeps λc ys p=>?_,q,es,ep,j,G,J,K,L⟩;rw[aI (yR p e (λz=>nomatch z))];exact p
end
def Aa(i:Expr):Prop:=∀a b,subscripted i false a b=operate [a,b] (getItem a b)
def NB{id:String}(hl:typeLookup (.type T) "__getitem__" = pure (some (.builtin id)))(hs:Aa a)(h:wpAny (model prog w) A (eval b env) (λo e=>wpAny (model prog w) A (eval a env) (λi s₂=>s₂.TypeIs o T/\wpAny (model prog w) A (getItem o i) Q E s₂) E e) E s) :
  wpAny (model prog w) A (eval (.Subscript b a m) env) Q E s:=by
 refine Subscript_ (vh h (λo e j=>vh j (λi s₂ c=>?_) λ_ _ x=>x) λ_ _ x=>x);obtain⟨n,c⟩:=c;unfold subscriptTail;refine ba ?_;rw[getitemInPython_of_ne n.not_modules];refine ba (wpAny_specialOf n hl ?_)
 have g:wpAny (model prog w) A (subscripted a false o i) (λr f=>wpAny (model prog w) A (letTemporaryGo b o r >>= λ_=>pure r) Q E f) E s₂:=by
  rw[hs o i];exact wpAny_operating (vh c (λr f l=>ba (wpAny_letTemporaryGo (wa l))) λ_ _ x=>x)
 first
  |exact wa (ba g)
  |exact ba (wa (ba g))
  |exact ba g
def NC(I:az X c f H s)(g:gM H a y o):s.TypeIs (.ref a) "dict":=by
 rcases g with⟨kvs,k,e,_,_⟩|⟨kvs,k,b,e,_,_,_⟩
 ·have⟨_,_,vs,_,dd⟩:=mB I.hok e
  exact dd.typeIs
 ·have⟨_,_,xs,_,dd⟩:=nC I.hok e
  exact dd.typeIs
def ND(td ty:TE):TE:=λσ H Q=>td σ H λx H1=>ty σ H1 λy H2=>∃a v,x=.ref a/\gM H2 a y (some v)/\Q v H2
def NE(td ty tv:TE):TS:=λD σ H=>tv σ H λv H1=>td σ H1 λx H2=>ty σ H2 λy c=>∃a b,x=.ref a/\mD c a y v b/\D.nx σ b
section
variable {X:Cx}
def NF(C:X.A.units+1<cLine)(E:PE X o td)(G:PE X i ty)(hs:Aa i):PE X (.Subscript o i pos) (ND td ty):=by
 intro b s f H Q I h;refine NB PySem.F.slot_dict_getitem.lookup hs (aW (E b s f H _ I h) λu j ⟨x,l,m,n,p⟩=>aW (G b j f l _ m p) λJ K ⟨y,q,e,r,a,v,w,g,z⟩=>?_);subst w;obtain rfl:u=Value.ref a:=n;exact⟨NC e g,Nw C e g r λL M B c=>⟨v,q,B,c,z⟩⟩
def Ej(K:X.A.units+1<cLine)(L:PE X o td)(M:PE X i ty)(N:PE X value tv)(hs:W0 X value (some (.Subscript o i pos')) pos) :
  PS X (.Assign [.Subscript o i pos'] value pos) (NE td ty tv):=by
 intro b s c H D I h;refine wpAny_Assign_Subscript (aW (N b s c H _ I h) λr e ⟨v,f,j,l,m⟩=>aW (L b e c f _ j m) λu n ⟨x,p,q,w,z⟩=>aW (M b n c p _ q z) λO P ⟨y,Q,B,C,a,E,F,g,G⟩=>?_) hs;subst F;obtain rfl:u=Value.ref a:=w;exact NA K B g C l λR J=>⟨c,E,J,G⟩
end
def NH(h:Heap)(a:sysModules<h.objs.size):cF P w H (h.push { cls:=.type "dict",data:=.dict #[] }) h.objs.size (.dK []) :=
 ⟨ie _,xg.mpr (ue (af a)),[],.nil,Heap.DictOf.new h⟩
def NI(h:Heap)(a:sysModules<h.objs.size):cF P w H (h.push { cls:=.type "dict",data:=.dict #[] }) h.objs.size (.dT []) :=
 ⟨ie _,xg.mpr (ue (af a)),[],.nil,_,#[],0,pd _ rfl,⟨rfl,rfl,rfl⟩,rfl,rfl,ui⟩
def NJ:TE:=λ_ H Q=>∀p,H p=none->Q (.ref p) (aF H p (.dK []))
def NK:TE:=λ_ H Q=>∀p,H p=none->Q (.ref p) (aF H p (.dT []))
section
def NL:PE X (.Dict [] [] pos) NJ:=λb s c H Q I h =>
 xq ⟨.ref s.heap.objs.size,_,I.laid (a:=s.heap.objs.size) (o:=.dK []) (t':=s.toks) (λ_ _ q=>jc _ q) (dc _) (NH s.heap I.big),rfl,h _ (I.hok.fresh (dc _))⟩
def Ek:PE X (.Dict [] [] pos) NK:=λb s c H Q I h =>
 xq ⟨.ref s.heap.objs.size,_,I.laid (a:=s.heap.objs.size) (o:=.dT []) (t':=s.toks) (λ_ _ q=>jc _ q) (dc _) (NI s.heap I.big),rfl,h _ (I.hok.fresh (dc _))⟩
end
structure M1(X:Cx)(o:Expr)(m:Str)(apos:Pos)(e:Expr)(cpos:Pos):Prop where
 base:attributeBase o m X.env (eval o X.env)=eval o X.env
 few:((backTo cpos (starEach [e] X.env)).all (λ x=>!x.1) && (backToKw cpos (keywordEach [] X.env)).all (λ x=>x.1.isSome)
  && decide (([e]:Y5).length+([]:List Keyword).length+'e'<30))=true
 line:(apos.endLine == cpos.line)=true
 trees:backTo cpos (starEach [e] X.env)=[(false,eval e X.env)]
structure M2(X:Cx)(o:Expr)(m:Str)(apos:Pos)(e f:Expr)(cpos:Pos):Prop where
 base:attributeBase o m X.env (eval o X.env)=eval o X.env
 few:((backTo cpos (starEach [e,f] X.env)).all (λ x=>!x.1) && (backToKw cpos (keywordEach [] X.env)).all (λ x=>x.1.isSome)
  && decide (([e,f]:Y5).length+([]:List Keyword).length+'e'<30))=true
 line:(apos.endLine == cpos.line)=true
 trees:backTo cpos (starEach [e,f] X.env)=[(false,eval e X.env),(false,eval f X.env)]
def oR(H:Hp)(a:Addr):Prop:=(∃kvs,Rd H a (.dK kvs))\/∃kvs,Rd H a (.dT kvs)
def v7(I:az X c i H s)(d:oR H a) :
  s.TypeIs (.ref a) "dict" /\ (∀b,Value.ref a=.ref b->∃ob,s.heap.get? b=some ob/\ob.dict=none)/\(a == sysModules)=false:=by
 rcases d with⟨kvs,e⟩|⟨kvs,e⟩
 ·have⟨_,f,vs,_,dd⟩:=mB I.hok e
  refine⟨dd.typeIs,λb q=>?_,f⟩;cases q;obtain⟨ob,_,_,g,h,_⟩:=dd;exact⟨ob,g,h.2.1⟩
 ·have⟨_,f,xs,_,dd⟩:=nC I.hok e
  refine⟨dd.typeIs,λb q=>?_,f⟩;cases q;obtain⟨ob,_,_,g,h,_⟩:=dd;exact⟨ob,g,h.2.1⟩
section
variable {X:Cx}{o:Option V}{A:Around}
def NM(p:A.units+1<cLine)(I:az X pins σ H s)(g:gM H a y o)(j:bu y u)(h:∀m s',az X pins σ H s'->bu (o.getD .non) m->Q m s') :
  wpAny (model X.prog X.w) A (call (.builtin "dict.get") [.ref a,u]) Q E s:=by
 rcases g with⟨kvs,k,e,i,l⟩|⟨kvs,k,b,e,i,n,l⟩
 ·subst i
  have⟨z,f,vs,c,dd⟩:=mB I.hok e;refine zm slot_dict_get dd.typeIs entry_dict_get (PySem.F.args_dict_get_2 _ _) (meets_dict_get (fK X.prog X.w) a (oQ j) f) ⟨_,dd.mapOf,h _ _ (I.tok _) ?_⟩;rw[l];exact(c.val k).getD rfl
 ·subst i
  cases (show u=Value.ref b from j)
  have⟨z,f,xs,c,dd⟩:=nC I.hok e;refine zm slot_dict_get dd.typeIs entry_dict_get (PySem.F.args_dict_get_2 _ _) (meetsH_dict_get (tupleKind (fK X.prog X.w)) a b f) ⟨qg p,k,xs,mC I.hok n,dd,h _ _ (I.tok _) ?_⟩;rw[l];exact(c.val k).getD rfl
def NN(q:A.units+1<cLine)(I:az X pins σ H s)(g:gM H a y o)(j:bu y u)(m:bu d r)(h:∀n s',az X pins σ H s'->bu (o.getD d) n->Q n s') :
  wpAny (model X.prog X.w) A (call (.builtin "dict.get") [.ref a,u,r]) Q E s:=by
 rcases g with⟨kvs,k,e,i,l⟩|⟨kvs,k,b,e,i,p,l⟩
 ·subst i
  have⟨z,f,vs,c,dd⟩:=mB I.hok e;refine zm slot_dict_get dd.typeIs entry_dict_get (PySem.F.args_dict_get_3 _ _ _) (meets_dict_get_default (fK X.prog X.w) a (oQ j) f r) ⟨_,dd.mapOf,h _ _ (I.tok _) ?_⟩;rw[l];exact(c.val k).getD m
 ·subst i
  cases (show u=Value.ref b from j)
  have⟨z,f,xs,c,dd⟩:=nC I.hok e;refine zm slot_dict_get dd.typeIs entry_dict_get (PySem.F.args_dict_get_3 _ _ _) (meetsH_dict_get_default (tupleKind (fK X.prog X.w)) a b f r) ⟨qg q,k,xs,mC I.hok p,dd,h _ _ (I.tok _) ?_⟩;rw[l];exact(c.val k).getD m
end
def NO(td ty:TE):TE:=λσ H Q=>td σ H λx H1=>∃a,x=.ref a/\oR H1 a/\ty σ H1 λy H2=>∃o,gM H2 a y o/\Q (o.getD .non) H2
def NP(td ty tx:TE):TE:=λσ H Q=>td σ H λx H1=>∃a,x=.ref a/\oR H1 a/\ty σ H1 λy H2=>tx σ H2 λz b=>∃o,gM b a y o/\Q (o.getD z) b
section
variable {X:Cx}
def NQ(G:X.A.units+1<cLine)(J:PE X o td)(K:PE X e ty)(m:M1 X o "get" apos e cpos):PE X (.Call (.Attribute o "get" apos) [e] [] cpos) (NO td ty):=by
 intro b s i H Q I h;refine um m.base m.few m.line plainAttrs_dict slot_dict_get type_dict_get (aW (J b s i H _ I h) λu j ⟨x,l,f,n,a,p,d,q⟩=>?_);subst p;obtain rfl:u=Value.ref a:=n;have⟨C,E,_⟩:=v7 f d;refine⟨C,E,?_⟩;rw[m.trees];refine ph rfl (lj (zh (aW (K b j i l _ f q) λL M ⟨y,r,v,w,N,g,z⟩=>vk ?_)));exact NM G v g w λO P B c=>⟨_,r,B,c,z⟩
def NR(P:X.A.units+1<cLine)(R:PE X o td)(T:PE X e ty)(U:PE X f tx)(m:M2 X o "get" apos e f cpos):PE X (.Call (.Attribute o "get" apos) [e,f] [] cpos) (NP td ty tx):=by
 intro b s i H Q I h;refine um m.base m.few m.line plainAttrs_dict slot_dict_get type_dict_get (aW (R b s i H _ I h) λu l ⟨x,n,j,p,a,q,d,r⟩=>?_);subst q;obtain rfl:u=Value.ref a:=p;have⟨N,O,_⟩:=v7 j d;refine⟨N,O,?_⟩;rw[m.trees]
 refine Calls.callWith_builtin rfl (Calls.evalArgs_plain (Calls.spliced_cons (aW (T b l i n _ j r) λ Y v ⟨y,w,B,C,E⟩ =>
  zh (aW (U b v i w _ B E) λZ s3 ⟨z,G,J,K,ov,g,L⟩=>vk ?_))))
 exact NN P J g C K λw' s4 M c=>⟨_,G,M,c,L⟩
end
section
variable {κ:Type}[DecidableEq κ]
def NT{kvs:List (κ×V)}(h:cU kvs k=none):¬k∈kvs.map (·.1):=by
 intro m;have⟨p,b,e⟩:=ub.mp m;have q:(kvs.any λa=>decide (a.1=k))=true:=ql.mpr ⟨p,b,qc e⟩;rw[tz,h]at q;exact absurd q 'm'
def NU{kvs:List (κ×V)}(h:cU kvs k=some v):k∈kvs.map (·.1):=by
 have q:(kvs.any λa=>decide (a.1=k))=true:=by
  rw[tz,h]
  all_goals rfl
 have⟨p,b,e⟩:=ql.mp q;exact ub.mpr ⟨p,b,kc e⟩
end
noncomputable abbrev D.int(i:Int):D:=.sc (.int i)
noncomputable abbrev D.bl(b:Bool):D:=.sc (.bl b)
noncomputable abbrev D.non:D:=.sc .non
abbrev D.str(l:U7):D:=.sc (.str (S l))
def _root_.PySem.Paired.zmap(h:Paired F c l₂)(f:∀a b,F a b->G a b):Paired G c l₂:=Paired.mapP h f
theorem Paired.map1{c e g:Type}{F:c->e->Prop}{G:g->e->Prop}(f:c->g)(h:∀a b,F a b->G (f a) b):∀{l:List c}{m:List e},Paired F l m->Paired G (l.map f) m
 |_,_,.nil=>.nil
 |_,_,.cons a b=>.cons (h _ _ a) (Paired.map1 f h b)
def hT(K:Fg1)(H:Hp)(a:Addr)(xs:U6):Prop:=H a=some (.tup xs)
def hT.toT{K:Fg1}(h:hT K H a xs):cT K H a xs:=.inl (.inl h)
def hT.of{K:Fg1}(h:H a=some (.tup xs)):hT K H a xs:=h
def hT.same{K:Fg1}(h:hT K H a xs)(s:aH H b):hT K b a xs:=s _ _ h
def fC(K:Fg1)(C:Addr):Prop:=nsIn K mainGlobals "Keeper" = some (some (.ref C))
def eE(K:Fg1)(H:Hp):Nat->D->V->Prop
 |0,d,x=>match d with|.sc v=>dL v=true/\x=v|_=>False
 |k+1,d,x=>match d with
  |.sc v=>dL v=true/\x=v
  |.tup ds=>∃a xs,x=.ref a/\hT K H a xs/\Paired (eE K H k) ds xs
  |.lst ds=>∃a xs,x=.ref a/\bA K H a xs/\Paired (eE K H k) ds xs
  |.dk ks ds=>∃a kvs,x=.ref a/\H a=some (.dK kvs)/\kvs.map fst=ks/\Paired (eE K H k) ds (kvs.map snd)
  |.dt ks ds=>∃a kvs,x=.ref a/\H a=some (.dT kvs)/\kvs.map fst=ks/\Paired (eE K H k) ds (kvs.map snd)
  |.er n ks ds=>∃a C dx fs,x=.ref a/\H a=some (.ins C dx fs)/\fC K C/\fs.map fst=ks/\Paired (eE K H k) ds (fs.map snd)
theorem NV{K:Fg1}:∀{k:Nat}{d:D}{x:V},eE K H k d x->eE K H (k+1) d x:=by
 intro k
 induction k with
 |zero =>
  intro d x h
  cases d with
  |sc v=>exact h
  |_=>exact h.elim
 |succ k b =>
  intro d x h
  cases d with
  |sc v=>exact h
  |tup ds=>obtain⟨a,xs,e,q,p⟩:=h;exact⟨a,xs,e,q,p.zmap λ_ _=>b⟩
  |lst ds=>obtain⟨a,xs,e,q,p⟩:=h;exact⟨a,xs,e,q,p.zmap λ_ _=>b⟩
  |dk ks ds=>obtain⟨a,xs,e,q,c,p⟩:=h;exact⟨a,xs,e,q,c,p.zmap λ_ _=>b⟩
  |dt ks ds=>obtain⟨a,xs,e,q,c,p⟩:=h;exact⟨a,xs,e,q,c,p.zmap λ_ _=>b⟩
  |er n ks ds=>obtain⟨e,C,f,fs,g,i,j,l,p⟩:=h;exact⟨e,C,f,fs,g,i,j,l,p.zmap λ_ _=>b⟩
theorem v8{K:Fg1}(h:eE K H j d x)(a:j<=k):eE K H k d x:=by
 induction a with
 |refl=>exact h
 |step _ b=>exact NV b
theorem NW{K:Fg1}(s:aH H f):∀{k:Nat}{d:D}{x:V},eE K H k d x->eE K f k d x:=by
 intro k
 induction k with
 |zero =>
  intro d x h
  cases d with
  |sc v=>exact h
  |_=>exact h.elim
 |succ k b =>
  intro d x h
  cases d with
  |sc v=>exact h
  |tup ds=>obtain⟨a,xs,e,q,p⟩:=h;exact⟨a,xs,e,q.same s,p.zmap λ_ _=>b⟩
  |lst ds=>obtain⟨a,xs,e,q,p⟩:=h;exact⟨a,xs,e,s.seq q,p.zmap λ_ _=>b⟩
  |dk ks ds=>obtain⟨a,xs,e,q,c,p⟩:=h;exact⟨a,xs,e,s _ _ q,c,p.zmap λ_ _=>b⟩
  |dt ks ds=>obtain⟨a,xs,e,q,c,p⟩:=h;exact⟨a,xs,e,s _ _ q,c,p.zmap λ_ _=>b⟩
  |er n ks ds=>obtain⟨e,C,g,fs,i,j,l,m,p⟩:=h;exact⟨e,C,g,fs,i,s _ _ j,l,m,p.zmap λ_ _=>b⟩
def Dn(K:Fg1)(H:Hp)(d:D)(x:V):Prop:=∃k,eE K H k d x
abbrev aR(K:Fg1)(H:Hp):U4->U6->Prop:=Paired (Dn K H)
section
variable {K:Fg1}{H H':Hp}
def Dn.same(h:Dn K H d x)(s:aH H H'):Dn K H' d x:=let ⟨k,h⟩:=h;⟨k,NW s h⟩
theorem aR.same(h:aR K H ds xs)(s:aH H H'):aR K H' ds xs:=h.zmap λ_ _ z=>z.same s
theorem aR.level:∀{ds:U4}{xs:U6},aR K H ds xs->∃k,Paired (eE K H k) ds xs
 |_,_,.nil=>⟨0,.nil⟩
 |_,_,.cons ⟨k,h⟩ t=>by
  have⟨j,q⟩:=aR.level t;exact⟨max k j,.cons (v8 h (wr _ _)) (q.zmap λ_ _ z=>v8 z (yq _ _))⟩
def b7(h:dL v=true):Dn K H (.sc v) v:=⟨0,h,rfl⟩
theorem Dn.sc(h:Dn K H (.sc v) x):dL v=true/\x=v:=by
 obtain⟨k,h⟩:=h
 cases k <;> exact h
def oT(h:hT K H a xs)(p:aR K H ds xs):Dn K H (.tup ds) (.ref a):=by
 have⟨k,q⟩:=p.level;exact⟨k+1,a,xs,rfl,h,q⟩
def f7(h:bA K H a xs)(p:aR K H ds xs):Dn K H (.lst ds) (.ref a):=by
 have⟨k,q⟩:=p.level;exact⟨k+1,a,xs,rfl,h,q⟩
theorem Dn.tupU(h:Dn K H (.tup ds) x):∃a xs,x=.ref a/\hT K H a xs/\aR K H ds xs:=by
 obtain⟨k,h⟩:=h
 cases k with
 |zero=>exact h.elim
 |succ k=>obtain⟨a,xs,e,q,p⟩:=h;exact⟨a,xs,e,q,p.zmap λ_ _ z=>⟨k,z⟩⟩
theorem Dn.tup{ds:U4}{x:V}(h:Dn K H (.tup ds) x):∃a xs,x=.ref a/\cT K H a xs/\aR K H ds xs:=let ⟨a,xs,e,q,p⟩:=h.tupU;⟨a,xs,e,q.toT,p⟩
theorem Dn.lst{ds:U4}{x:V}(h:Dn K H (.lst ds) x):∃a xs,x=.ref a/\bA K H a xs/\aR K H ds xs:=by
 obtain⟨k,h⟩:=h
 cases k with
 |zero=>exact h.elim
 |succ k=>obtain⟨a,xs,e,q,p⟩:=h;exact⟨a,xs,e,q,p.zmap λ_ _ z=>⟨k,z⟩⟩
def El(h:H a=some (.dK kvs))(e:kvs.map fst=ks)(p:aR K H ds (kvs.map snd)):Dn K H (.dk ks ds) (.ref a):=by
 have⟨k,q⟩:=p.level;exact⟨k+1,a,kvs,rfl,h,e,q⟩
def tD(h:H a=some (.dT kvs))(e:kvs.map fst=ks)(p:aR K H ds (kvs.map snd)):Dn K H (.dt ks ds) (.ref a):=by
 have⟨k,q⟩:=p.level;exact⟨k+1,a,kvs,rfl,h,e,q⟩
def Em(h:H a=some (.ins C b fs))(e:Q/\fC K C/\fs.map fst=ks)(p:aR K H ds (fs.map snd)):Dn K H (.er n ks ds) (.ref a):=by
 have⟨k,q⟩:=p.level;exact⟨k+1,a,C,b,fs,rfl,h,e.2.1,e.2.2,q⟩
theorem Dn.ob(h:Dn K H (.er n ks ds) x):∃a C dx fs,x=.ref a/\H a=some (.ins C dx fs)/\fC K C/\fs.map fst=ks/\aR K H ds (fs.map snd):=by
 obtain⟨k,h⟩:=h
 cases k with
 |zero=>exact h.elim
 |succ k=>obtain⟨a,C,dx,xs,e,q,b,c,p⟩:=h;exact⟨a,C,dx,xs,e,q,b,c,p.zmap λ_ _ z=>⟨k,z⟩⟩
theorem Dn.dk(h:Dn K H (.dk ks ds) x):∃a kvs,x=.ref a/\H a=some (.dK kvs)/\kvs.map fst=ks/\aR K H ds (kvs.map snd):=by
 obtain⟨k,h⟩:=h
 cases k with
 |zero=>exact h.elim
 |succ k=>obtain⟨a,xs,e,q,b,p⟩:=h;exact⟨a,xs,e,q,b,p.zmap λ_ _ z=>⟨k,z⟩⟩
theorem Dn.dt(h:Dn K H (.dt ks ds) x):∃a kvs,x=.ref a/\H a=some (.dT kvs)/\kvs.map fst=ks/\aR K H ds (kvs.map snd):=by
 obtain⟨k,h⟩:=h
 cases k with
 |zero=>exact h.elim
 |succ k=>obtain⟨a,xs,e,q,b,p⟩:=h;exact⟨a,xs,e,q,b,p.zmap λ_ _ z=>⟨k,z⟩⟩
theorem Dn.int(h:Dn K H (.int i) x):x=.int i:=h.sc.2
theorem Dn.bl(h:Dn K H (.bl b) x):x=.bl b:=h.sc.2
theorem Dn.str(h:Dn K H (.sc (.str z)) x):x=.str z:=h.sc.2
end
theorem _root_.PySem.Paired.zget:∀{c:List α}{f:List β}{j:Nat}{a:α},Paired F c f->c[j]?=some a->∃b,f[j]?=some b/\F a b
 |_,_,_,_,.nil,e=>by simp at e
 |_,_,0,_,.cons r _,e=>by simp at e;subst e;exact⟨_,rfl,r⟩
 |_,_,j+1,_,.cons _ t,e=>by
  obtain⟨a,g,h⟩:=PySem.Paired.zget (j:=j) t (by simpa using e);exact⟨a,by simpa using g,h⟩
theorem _root_.PySem.Paired.zsnoc:∀{c:List α}{e:List β}{a:α}{b:β},Paired F c e->F a b->Paired F (c++[a]) (e++[b])
 |_,_,_,_,.nil,h=>.cons h .nil
 |_,_,_,_,.cons r t,h=>.cons r (PySem.Paired.zsnoc t h)
theorem _root_.PySem.Paired.zapp:∀{a b:List α}{c e:List β},Paired F a c->Paired F b e->Paired F (a++b) (c++e)
 |_,_,_,_,.nil,h=>h
 |_,_,_,_,.cons r t,h=>.cons r (PySem.Paired.zapp t h)
theorem _root_.PySem.Paired.ztake:∀{a:List α}{b:List β} (n:Nat),Paired F a b->Paired F (a.take n) (b.take n)
 |_,_,0,_=>.nil
 |_,_,_+1,.nil=>.nil
 |_,_,n+1,.cons r t=>.cons r (PySem.Paired.ztake n t)
theorem _root_.PySem.Paired.zdrop:∀{a:List α}{b:List β} (n:Nat),Paired F a b->Paired F (a.drop n) (b.drop n)
 |_,_,0,h=>h
 |_,_,_+1,.nil=>.nil
 |_,_,n+1,.cons r t=>PySem.Paired.zdrop n t
theorem _root_.PySem.Paired.zset{f g:Type}{F:f->g->Prop}{a:f}{b:g}(r:F a b):∀{c:List f}{e:List g} (i:Nat),Paired F c e->Paired F (c.set i a) (e.set i b)
 |_,_,_,.nil=>.nil
 |_,_,0,.cons _ t=>.cons r t
 |_,_,i+1,.cons q t=>.cons q (PySem.Paired.zset r i t)
def jX(H:Hp)(b:Addr):Prop:=H b=none\/∃xs,H b=some (.tup xs)
def jX.no(h:jX H b)(e:H b=some o)(a:∀xs,o≠.tup xs):False:=by
 rcases h with h|⟨xs,h⟩
 ·rw[h]at e;cases e
 ·rw[h]at e;cases e;exact a xs rfl
theorem jX.back(h:jX H' b)(s:aH H H'):jX H b:=by
 cases e:H b with
 |none=>exact .inl e
 |some o =>
  rcases h with h|⟨xs,h⟩
  ·rw[s b o e]at h;cases h
  ·rw[s b o e]at h;cases h;exact .inr ⟨xs,e⟩
structure Ex(Hf H Hf' H':Hp):Prop where
 ff:aH Hf Hf'
 hh:aH H H'
 fh:aH Hf' H'
 nw:∀b,Hf' b≠none->Hf b≠none\/jX H b
 nf:∀b o u,Hf' b=some (.frz o u)->Hf b=some (.frz o u)
theorem Ex.refl(s:aH Hf H):Ex Hf H Hf H:=⟨aH.refl _,aH.refl _,s,λ_ h=>.inl h,λ_ _ _ h=>h⟩
theorem Ex.trans(a:Ex Hf H Hf1 H1)(b:Ex Hf1 H1 Hf2 H2):Ex Hf H Hf2 H2 :=
 ⟨a.ff.trans b.ff,a.hh.trans b.hh,b.fh,λc h=>(b.nw c h).elim (a.nw c) λz=>.inr (z.back a.hh),λc o u h=>a.nf c o u (b.nf c o u h)⟩
def Ex.new(s:aH Hf H)(c:H p=none)(g:∀x u,o≠.frz x u:=by intro x u z;cases z):Ex Hf H (aF Hf p o) (aF H p o):=by
 have f:Hf p=none:=s.free c;refine⟨eP f,eP c,λb u e=>?_,λb h=>?_,λb x u h=>?_⟩
 ·by_cases a:b=p
  ·subst a;rw[aT]at e ⊢;exact e
  ·rw[aI a]at e ⊢;exact s b u e
 ·by_cases a:b=p
  ·subst a;exact .inr (.inl c)
  ·rw[aI a]at h;exact .inl h
 ·by_cases a:b=p
  ·subst a;rw[aT]at h;cases h;exact absurd rfl (g x u)
  ·rw[aI a]at h;exact h
def Ex.made(s:aH Hf H)(a:H p=none):Ex Hf H Hf (aF H p o) :=
 ⟨aH.refl _,eP a,s.trans (eP a),λ_ h=>.inl h,λ_ _ _ h=>h⟩
inductive Sl where
 |sh (d:D)|ow (ds:U4)|dk (ks:List aQ) (ds:U4)|dt (ks:List (List aQ)) (ds:U4)|ob (p0:Y9) (ks:U8) (ds:U4)
noncomputable abbrev al:=List (Option Sl)
noncomputable def cz:Sl->Bool
 |.sh _=>false
 |_=>true
abbrev Y1:=Option Sl
def hU(K:Fg1)(Hf H:Hp):Sl->V->Prop
 |.sh d,v=>Dn K Hf d v
 |.ow ds,v=>∃p xs,v=.ref p/\Hf p=none/\H p=some (.lst xs)/\aR K Hf ds xs
 |.dk ks ds,v=>∃p xs,v=.ref p/\Hf p=none/\H p=some (.dK xs)/\xs.map fst=ks/\aR K Hf ds (xs.map snd)
 |.dt ks ds,v=>∃p xs,v=.ref p/\Hf p=none/\H p=some (.dT xs)/\xs.map fst=ks/\aR K Hf ds (xs.map snd)
 |.ob p0 ks ds,v=>∃(p:Addr) (xs:Addr×Addr×List (Str×V)),v=.ref p/\Hf p=none/\H p=some (.ins xs.1 xs.2.1 xs.2.2)/\((p0=none\/p0=some p)/\fC K xs.1/\xs.2.2.map fst=ks)/\aR K Hf ds (xs.2.2.map snd)
theorem hU.ext{K:Fg1}(h:hU K Hf H sl v)(e:Ex Hf H Hf' g):hU K Hf' g sl v:=by
 have nn:∀{p:Addr} {o:HO},Hf p=none->H p=some o->(∀xs,o≠.tup xs)->Hf' p=none:=λ{p o} b a i=>by
  cases q:Hf' p with
  |none=>rfl
  |some u =>
   rcases e.nw p (by rw[q];exact λz=>nomatch z) with z|z
   ·exact absurd b z
   ·exact(z.no a i).elim
 cases sl with
 |sh d=>exact Dn.same h e.ff
 |ow ds=>obtain⟨p,xs,r,b,a,c⟩:=h;exact⟨p,xs,r,nn b a (λ_ z=>nomatch z),e.hh _ _ a,aR.same c e.ff⟩
 |dk ks ds=>obtain⟨p,xs,r,b,a,f,c⟩:=h;exact⟨p,xs,r,nn b a (λ_ z=>nomatch z),e.hh _ _ a,f,aR.same c e.ff⟩
 |dt ks ds=>obtain⟨p,xs,r,b,a,f,c⟩:=h;exact⟨p,xs,r,nn b a (λ_ z=>nomatch z),e.hh _ _ a,f,aR.same c e.ff⟩
 |ob p0 ks ds=>obtain⟨p,xs,r,b,a,f,c⟩:=h;exact⟨p,xs,r,nn b a (λ_ z=>nomatch z),e.hh _ _ a,f,aR.same c e.ff⟩
structure Bs where
 f:Hp
 h:Hp
structure VI(K:Fg1)(B:Bs)(Hf:Hp)(ρ:al)(σ:St)(H:Hp):Prop where
 ex:Ex B.f B.h Hf H
 len:ρ.length=σ.length
 ok:∀(i:Nat) sl,ρ[i]?=some (some sl)->∃v,σ[i]?=some (some v)/\hU K Hf H sl v
 own:∀(i:Nat) sl p,ρ[i]?=some (some sl)->cz sl=true->σ[i]?=some (some (.ref p))->B.h p=none
 dis:∀(i j:Nat) si sj p,ρ[i]?=some (some si)->ρ[j]?=some (some sj)->cz si=true->cz sj=true->σ[i]?=some (some (.ref p))->σ[j]?=some (some (.ref p))->i=j
section
variable {K:Fg1}{ρ:al}{σ:St}
theorem VI.ext(I:VI K B Hf ρ σ H)(e:Ex Hf H Hf' H'):VI K B Hf' ρ σ H' :=
 ⟨I.ex.trans e,I.len,λi sl h=>let ⟨v,a,b⟩:=I.ok i sl h;⟨v,a,b.ext e⟩,I.own,I.dis⟩
theorem VI.fh(I:VI K B Hf ρ σ H):aH Hf H:=I.ex.fh
theorem VI.sh{i:Nat}(I:VI K B Hf ρ σ H)(h:ρ[i]?=some (some (.sh d))):∃v,σ[i]?=some (some v)/\Dn K Hf d v:=I.ok i _ h
theorem VI.set(I:VI K B Hf ρ σ H)(h:Dn K Hf d v):VI K B Hf (ρ.set i (some (.sh d))) (σ.set i (some v)) H:=by
 have g:∀{j:Nat} {sl:Sl},(ρ.set i (some (.sh d)))[j]?=some (some sl)->(j=i/\sl=.sh d/\i<ρ.length)\/(j≠i/\ρ[j]?=some (some sl)):=λ{j sl} e=>by
  by_cases a:i=j
  ·subst a
   rw[om]at e
   cases q:ρ[i]? with
   |none=>rw[q]at e;cases e
   |some z =>
    rw[q]at e;simp at e;exact .inl ⟨rfl,e.symm,(wb.mp q).1⟩
  ·rw[ca a]at e
   exact .inr ⟨λz=>a z.symm,e⟩
 refine⟨I.ex,by simp[I.len],λj sl e=>?_,λj sl p e o q=>?_,λj k m n p e1 e2 b c f l=>?_⟩
 ·rcases g e with⟨rfl,rfl,hl⟩|⟨a,e⟩
  ·refine⟨v,?_,h⟩
   rw[ab (by rw[<-I.len];exact hl)]
  ·have⟨u,r,s⟩:=I.ok j sl e
   exact⟨u,by rw[ca (λz=>a z.symm)];exact r,s⟩
 ·rcases g e with⟨rfl,rfl,hl⟩|⟨a,e⟩
  ·cases o
  ·rw[ca (λz=>a z.symm)]at q
   exact I.own j sl p e o q
 ·rcases g e1 with⟨rfl,rfl,hl⟩|⟨a,e1⟩
  ·cases b
  ·rcases g e2 with⟨rfl,rfl,hl⟩|⟨w,e2⟩
   ·cases c
   ·rw[ca (λz=>a z.symm)]at f
    rw[ca (λz=>w z.symm)]at l;exact I.dis j k m n p e1 e2 b c f l
end
def NX(K:Fg1)(Hf H:Hp)(d:D)(x:V):Prop:=match d with
 |.lst ds=>∃p xs,x=.ref p/\H p=some (.lst xs)/\aR K Hf ds xs
 |.dk ks ds=>∃p xs,x=.ref p/\H p=some (.dK xs)/\xs.map fst=ks/\aR K Hf ds (xs.map snd)
 |.dt ks ds=>∃p xs,x=.ref p/\H p=some (.dT xs)/\xs.map fst=ks/\aR K Hf ds (xs.map snd)
 |.er _ ks ds=>∃p C dx xs,x=.ref p/\H p=some (.ins C dx xs)/\(fC K C/\xs.map fst=ks)/\aR K Hf ds (xs.map snd)
 |_=>False
def cL(K:Fg1)(Hf H:Hp)(d:D)(x:V):Prop:=Dn K Hf d x\/NX K Hf H d x
abbrev tF(K:Fg1)(Hf H:Hp):U4->U6->Prop:=Paired (cL K Hf H)
section
variable {K:Fg1}{Hf H:Hp}
def cL.ext(h:cL K Hf H d x)(e:Ex Hf H Hf' H'):cL K Hf' H' d x:=by
 rcases h with h|h
 ·exact .inl (h.same e.ff)
 ·refine .inr ?_
  cases d with
  |lst ds=>obtain⟨p,xs,a,b,c⟩:=h;exact⟨p,xs,a,e.hh _ _ b,c.same e.ff⟩
  |dk ks ds=>obtain⟨p,xs,a,b,f,c⟩:=h;exact⟨p,xs,a,e.hh _ _ b,f,c.same e.ff⟩
  |dt ks ds=>obtain⟨p,xs,a,b,f,c⟩:=h;exact⟨p,xs,a,e.hh _ _ b,f,c.same e.ff⟩
  |er n ks ds=>obtain⟨p,C,g,xs,a,b,f,c⟩:=h;exact⟨p,C,g,xs,a,e.hh _ _ b,f,c.same e.ff⟩
  |_=>exact h.elim
def cL.whole(h:cL K Hf H d x)(s:aH Hf H):Dn K H d x:=by
 rcases h with h|h
 ·exact h.same s
 ·cases d with
  |lst ds=>obtain⟨p,xs,rfl,a,b⟩:=h;exact f7 (bA.of a) (b.same s)
  |dk ks ds=>obtain⟨p,xs,rfl,a,c,b⟩:=h;exact El a c (b.same s)
  |dt ks ds=>obtain⟨p,xs,rfl,a,c,b⟩:=h;exact tD a c (b.same s)
  |er n ks ds=>obtain⟨p,C,e,xs,rfl,a,c,b⟩:=h;exact Em (Q:=True) a ⟨trivial,c⟩ (b.same s)
  |_=>exact h.elim
theorem cL.sc(h:cL K Hf H (.sc v) x):dL v=true/\x=v:=by
 rcases h with h|h
 ·exact h.sc
 ·exact h.elim
theorem cL.tup{ds:U4}{x:V}(h:cL K Hf H (.tup ds) x):∃a xs,x=.ref a/\cT K Hf a xs/\aR K Hf ds xs:=by
 rcases h with h|h
 ·exact h.tup
 ·exact h.elim
theorem cL.tupU(h:cL K Hf H (.tup ds) x):∃a xs,x=.ref a/\hT K Hf a xs/\aR K Hf ds xs:=by
 rcases h with h|h
 ·exact h.tupU
 ·exact h.elim
theorem cL.lst{ds:U4}{x:V}(h:cL K Hf H (.lst ds) x)(s:aH Hf H):∃a xs,x=.ref a/\bA K H a xs/\aR K Hf ds xs:=by
 rcases h with h|⟨p,xs,b,f,g⟩
 ·have⟨a,xs,e,c,b⟩:=h.lst
  exact⟨a,xs,e,s.seq c,b⟩
 ·exact⟨p,xs,b,bA.of f,g⟩
theorem cL.dk(h:cL K Hf H (.dk ks ds) x)(s:aH Hf H):∃a kvs,x=.ref a/\H a=some (.dK kvs)/\kvs.map fst=ks/\aR K Hf ds (kvs.map snd):=by
 rcases h with h|⟨p,xs,c,g,b,i⟩
 ·have⟨a,xs,e,f,b,c⟩:=h.dk
  exact⟨a,xs,e,s _ _ f,b,c⟩
 ·exact⟨p,xs,c,g,b,i⟩
theorem cL.ob(h:cL K Hf H (.er n ks ds) x)(s:aH Hf H):∃a C dx fs,x=.ref a/\H a=some (.ins C dx fs)/\fC K C/\fs.map fst=ks/\aR K Hf ds (fs.map snd):=by
 rcases h with h|⟨p,C,dx,xs,c,i,b,j⟩
 ·have⟨a,C,dx,xs,e,f,g,b,c⟩:=h.ob
  exact⟨a,C,dx,xs,e,s _ _ f,g,b,c⟩
 ·exact⟨p,C,dx,xs,c,i,b.1,b.2,j⟩
theorem cL.dt(h:cL K Hf H (.dt ks ds) x)(s:aH Hf H):∃a kvs,x=.ref a/\H a=some (.dT kvs)/\kvs.map fst=ks/\aR K Hf ds (kvs.map snd):=by
 rcases h with h|⟨p,xs,c,g,b,i⟩
 ·have⟨a,xs,e,f,b,c⟩:=h.dt
  exact⟨a,xs,e,s _ _ f,b,c⟩
 ·exact⟨p,xs,c,g,b,i⟩
end
def eV(K:Fg1)(B:Bs)(f:al->U5):TE:=λσ H Q=>∃Hf ρ d,VI K B Hf ρ σ H/\f ρ=some d/\∀Hf' H' v,Ex Hf H Hf' H'->Dn K Hf' d v->Q v H'
def eB(K:Fg1)(B:Bs)(f:al->U5):TE:=λσ H Q=>∃Hf ρ d,VI K B Hf ρ σ H/\f ρ=some d/\∀Hf' H' v,Ex Hf H Hf' H'->cL K Hf' H' d v->Q v H'
def tV(K:Fg1)(B:Bs)(f:al->Y3):TT:=λσ H Q=>∃Hf ρ b,VI K B Hf ρ σ H/\f ρ=some b/\∀Hf' H',Ex Hf H Hf' H'->Q b H'
def aV(K:Fg1)(B:Bs)(f:al->U0):TA:=λσ H Q=>∃Hf ρ ds,VI K B Hf ρ σ H/\f ρ=some ds/\∀Hf' H' vs,Ex Hf H Hf' H'->aR K Hf' ds vs->Q vs H'
def aB(K:Fg1)(B:Bs)(f:al->U0):TA:=λσ H Q=>∃Hf ρ ds,VI K B Hf ρ σ H/\f ρ=some ds/\∀Hf' H' vs,Ex Hf H Hf' H'->tF K Hf' H' ds vs->Q vs H'
def oV(K:Fg1)(B:Bs)(f:al->Option Y2):TO:=λσ H Q=>∃Hf ρ o,VI K B Hf ρ σ H/\f ρ=some o/\∀Hf' H',Ex Hf H Hf' H'->Q o H'
def eC(d:D):al->U5:=λ_=>some d
def aA(i:Nat):al->U5:=λρ=>match ρ[i]? with|some (some (.sh d))=>some d|_=>none
def au(i:Nat):al->U5:=λρ=>match ρ[i]? with|some (some (.sh d))=>some d|some (some (.ow ds))=>some (.lst ds)|some (some (.dk ks ds))=>some (.dk ks ds)|some (some (.dt ks ds))=>some (.dt ks ds)|some (some (.ob _ ks ds))=>some (.er "" ks ds)|_=>none
def e1(g:D->U5)(fa:al->U5):al->U5:=λρ=>(fa ρ).bind g
def e2(g:D->D->U5)(fa fb:al->U5):al->U5:=λρ=>(fa ρ).bind λd=>(fb ρ).bind λe=>g d e
def eN(g:U4->U5)(fa:al->U0):al->U5:=λρ=>(fa ρ).bind g
def aN:al->U0:=λ_=>some []
def aC(fa:al->U5)(fr:al->U0):al->U0:=λρ=>(fa ρ).bind λd=>(fr ρ).bind λds=>some (d::ds)
def eH(ft:al->Y3)(fa fb:al->U5):al->U5:=λρ=>(ft ρ).bind λb=>if b=true then fa ρ else fb ρ
noncomputable def f8:D->Y3|.sc (.bl b)=>some b|_=>none
def tE(fa:al->U5):al->Y3:=λρ=>(fa ρ).bind f8
def dH(fa fb:al->Y3):al->Y3:=λρ=>(fa ρ).bind λa=>if a=true then fb ρ else some false
def c8(fa fb:al->Y3):al->Y3:=λρ=>(fa ρ).bind λa=>if a=true then some true else fb ρ
def eQ(fa:al->Y3):al->Y3:=λρ=>(fa ρ).bind λa=>some (!a)
def eT(ft:al->Y3):al->U5:=λρ=>(ft ρ).bind λb=>some (.bl b)
theorem bind_some(h:o.bind f=some z):∃a,o=some a/\f a=some z:=by
 cases o with
 |none=>cases h
 |some a=>exact⟨a,rfl,h⟩
section
variable {X:Cx}{e a:Expr}{f:al->U5}
def av(h:PE X e (eV X.K B f)):PE X e (eB X.K B f):=h.imp λi H Q ⟨Hf,ρ,d,I,a,q⟩=>⟨Hf,ρ,d,I,a,λHf' b v c g=>q Hf' b v c (.inl g)⟩
def NY(h:PA X es (aV X.K B fr)):PA X es (aB X.K B fr):=h.imp λf H Q ⟨Hf,ρ,d,I,a,q⟩=>⟨Hf,ρ,d,I,a,λHf' b v c e=>q Hf' b v c (e.zmap λ_ _ z=>.inl z)⟩
def tG(b:dL v=true)(h:PE X e (tC v)):PE X e (eV X.K B (eC (.sc v))):=h.imp λc H Q ⟨Hf,ρ,d,I,a,q⟩=>by
 cases a;exact q Hf H v (.refl I.fh) (b7 b)
def aJ:PE X (.Constant (.int i) j pos) (eV X.K B (eC (.int i))):=tG rfl CY
def i3:PE X (.Constant (.bool i) j pos) (eV X.K B (eC (.bl i))):=tG rfl CZ
def Ab:PE X (.Constant .none j pos) (eV X.K B (eC .non)):=tG rfl C0
def f9(h:x=S l):PE X (.Constant (.str x) j pos) (eV X.K B (eC (.str l))):=by subst h;exact tG rfl yS
def aS(i:Nat){b:Pos}(h:X.N[i]?=some x:=by rfl)(j:cZ X.env.scope x:=by first|exact ac rfl|exact ud (ac rfl)|exact ud (ud rfl))(a:(x == 'g')=false:=by decide)(c:(x == 'c')=false:=by decide):PE X (.Name x b) (eV X.K B (aA i)):=(cR h j a c).imp λl H Q ⟨Hf,ρ,d,I,a,q⟩=>by
 unfold aA at a
 split at a
 ·rename_i d' e
  cases a;have⟨v,f,g⟩:=I.sh e
  exact⟨v,f,q Hf H v (.refl I.fh) g⟩
 ·cases a
def ay(i:Nat)(m:X.N[i]?=some x:=by rfl)(n:cZ X.env.scope x:=by first|exact ac rfl|exact ud (ac rfl)|exact ud (ud rfl))(a:(x == 'g')=false:=by decide)(j:(x == 'c')=false:=by decide):PE X (.Name x h) (eB X.K B (au i)):=(cR m n a j).imp λo H Q ⟨Hf,ρ,d,I,a,q⟩=>by
 unfold au at a
 split at a
 ·rename_i d' e
  cases a;have⟨v,b,g⟩:=I.sh e
  exact⟨v,b,q Hf H v (.refl I.fh) (.inl g)⟩
 ·rename_i ds e
  cases a;obtain⟨v,b,p,xs,rfl,g,c,f⟩:=I.ok i _ e
  exact⟨_,b,q Hf H _ (.refl I.fh) (.inr ⟨p,xs,rfl,c,f⟩)⟩
 ·rename_i ks ds e
  cases a;obtain⟨v,b,p,xs,rfl,g,c,f⟩:=I.ok i _ e
  exact⟨_,b,q Hf H _ (.refl I.fh) (.inr ⟨p,xs,rfl,c,f⟩)⟩
 ·rename_i ks ds e
  cases a;obtain⟨v,b,p,xs,rfl,g,c,f⟩:=I.ok i _ e
  exact⟨_,b,q Hf H _ (.refl I.fh) (.inr ⟨p,xs,rfl,c,f⟩)⟩
 ·rename_i p0 ks ds e
  cases a;obtain⟨v,b,p,xs,rfl,g,c,f,l⟩:=I.ok i _ e
  exact⟨_,b,q Hf H _ (.refl I.fh) (.inr ⟨p,_,_,_,rfl,c,f.2,l⟩)⟩
 ·cases a
def P2(K:Fg1)(r:R2)(g:D->D->U5):Prop:=∀Hf H x y d e z (Q:VK),aH Hf H->cL K Hf H d x->cL K Hf H e y->g d e=some z->(∀Hf' H' v,Ex Hf H Hf' H'->Dn K Hf' z v->Q v H')->r x y H Q
def v9(w:P2 X.K r g)(h:eV X.K B (e2 g fa fb) j H Q):oG r (eB X.K B fa) (eB X.K B fb) j H Q:=by
 obtain⟨Hf,ρ,z,I,hz,q⟩:=h;have⟨d,s,hz⟩:=bind_some hz;have⟨e,u,hz⟩:=bind_some hz;exact⟨Hf,ρ,d,I,s,λc A x b l=>⟨c,ρ,e,I.ext b,u,λf m y a n=>w f m x y d e z Q a.fh (l.ext a) n hz λHf' o v i p=>q Hf' o v ((b.trans a).trans i) p⟩⟩
def aU(c:bx X (binaryOp op) r)(e:P2 X.K r g)(f:PE X a (eB X.K B fa))(i:PE X b (eB X.K B fb)):PE X (.BinOp a op b pos) (eV X.K B (e2 g fa fb)) :=
 (C9 c f i).imp λj H Q h=>v9 e h
def mE(c:bx X (compareOp op) r)(e:P2 X.K r g)(f:PE X a (eB X.K B fa))(i:PE X b (eB X.K B fb))(hm:behindInMarks op b=false):PE X (.Compare a [op] [b] pos) (eV X.K B (e2 g fa fb)) :=
 (La c f i hm).imp λj H Q h=>v9 e h
def Eo(j:∀R,eV X.K B f σ H R->t σ H R)(h:tV X.K B (tE f) σ H Q):zM t σ H Q:=by
 obtain⟨Hf,ρ,b,I,a,q⟩:=h;have⟨d,i,a⟩:=bind_some a;refine j _ ⟨Hf,ρ,d,I,i,λHf' c v e g=>?_⟩;unfold f8 at a
 split at a
 ·cases a
  rw[g.bl];exact q Hf' c e
 ·cases a
def b8(c:bx X (compareOp op) r)(e:P2 X.K r g)(f:PE X a (eB X.K B fa))(i:PE X b (eB X.K B fb))(hm:behindInMarks op b=false):PT X (.Compare a [op] [b] pos) (tV X.K B (tE (e2 g fa fb))) :=
 (MB c f i hm).imp λj H Q h=>Eo (λR z=>v9 e z) h
def nE(b:PE X a (eV X.K B fa))(c:∀whole,isTrue a X.env whole=(do let v ← whole;standAt a.pos;holding [v] (truthy v)):=by intro _;rfl):PT X a (tV X.K B (tE fa)) :=
 (MC b c).imp λe H Q h=>Eo (λR z=>z) h
def qD(f:PT X a (tV X.K B ft)):PT X (.UnaryOp .Not a pos) (tV X.K B (eQ ft)):=(Kk f).imp λg H Q ⟨Hf,ρ,z,I,hz,q⟩=>by
 have⟨x,e,hz⟩:=bind_some hz;cases hz;exact⟨Hf,ρ,x,I,e,λHf' b c=>q Hf' b c⟩
theorem NZ(h:tV X.K B (dH ft fu) σ H Q):C2 (tV X.K B ft) (tV X.K B fu) σ H Q:=by
 obtain⟨Hf,ρ,z,I,hz,q⟩:=h;have⟨x,g,hz⟩:=bind_some hz;refine⟨Hf,ρ,x,I,g,λb c a=>?_⟩
 cases x with
 |true=>rw[ya rfl]at hz ⊢;exact⟨b,ρ,z,I.ext a,hz,λHf' e f=>q Hf' e (a.trans f)⟩
 |false=>rw[ic bb]at hz ⊢;cases hz;exact q b c a
theorem N0(h:tV X.K B (c8 ft fu) σ H Q):C3 (tV X.K B ft) (tV X.K B fu) σ H Q:=by
 obtain⟨Hf,ρ,z,I,hz,q⟩:=h;have⟨x,g,hz⟩:=bind_some hz;refine⟨Hf,ρ,x,I,g,λb c a=>?_⟩
 cases x with
 |true=>rw[ya rfl]at hz ⊢;cases hz;exact q b c a
 |false=>rw[ic bb]at hz ⊢;exact⟨b,ρ,z,I.ext a,hz,λHf' e f=>q Hf' e (a.trans f)⟩
def PW.imp(h:PW X e t)(f:∀σ H Q,t' σ H Q->t σ H Q):PW X e t':=λb a s σ H Q I q=>h b a s σ H Q I (f σ H Q q)
def qE(b:PT X a (tV X.K B ft)):PW X (.BoolOp .And [a] pos) (tV X.K B ft):=Kg b
def wh(b:PT X a (tV X.K B ft)):PW X (.BoolOp .Or [a] pos) (tV X.K B ft):=Kh b
def qF(c:PT X a (tV X.K B ft))(e:PW X (.BoolOp .And (b::rest) pos) (tV X.K B fu)):PW X (.BoolOp .And (a::b::rest) pos) (tV X.K B (dH ft fu)):=(Ki c e).imp λf H Q h=>NZ h
def qG(c:PT X a (tV X.K B ft))(e:PW X (.BoolOp .Or (b::rest) pos) (tV X.K B fu)):PW X (.BoolOp .Or (a::b::rest) pos) (tV X.K B (c8 ft fu)):=(Kj c e).imp λf H Q h=>N0 h
def Ac(h:PE X a (eV X.K B fa)):PE X (.BoolOp op [a] pos) (eV X.K B fa):=Kl h
def Ep(s:PE X a (eV X.K B fa))(u:PE X (.BoolOp .And (b::rest) pos) (eV X.K B fb)):PE X (.BoolOp .And (a::b::rest) pos) (eV X.K B (eT (dH (tE fa) (tE fb)))):=(MF s u).imp λw H Q ⟨Hf,ρ,z,I,hz,q⟩=>by
 have⟨x,c,hz⟩:=bind_some hz;cases hz;have⟨y,f,c⟩:=bind_some c;have⟨d,r,f⟩:=bind_some f;refine⟨Hf,ρ,d,I,r,λg m v e n=>?_⟩;unfold f8 at f
 split at f
 ·cases f
  rw[n.bl]
  cases y with
  |true =>
   rw[ya rfl]at c;have⟨d',l,c⟩:=bind_some c;refine⟨g,ρ,d',I.ext e,l,λh o p i j=>?_⟩;unfold f8 at c
   split at c
   ·cases c;exact q h o p (e.trans i) j
   ·cases c
  |false=>rw[ic bb]at c;cases c;exact q g m _ e (b7 rfl)
 ·cases f
def N2(s:PE X a (eV X.K B fa))(u:PE X (.BoolOp .Or (b::rest) pos) (eV X.K B fb)):PE X (.BoolOp .Or (a::b::rest) pos) (eV X.K B (eT (c8 (tE fa) (tE fb)))):=(MG s u).imp λw H Q ⟨Hf,ρ,z,I,hz,q⟩=>by
 have⟨x,c,hz⟩:=bind_some hz;cases hz;have⟨y,f,c⟩:=bind_some c;have⟨d,r,f⟩:=bind_some f;refine⟨Hf,ρ,d,I,r,λg m v e n=>?_⟩;unfold f8 at f
 split at f
 ·cases f
  rw[n.bl]
  cases y with
  |false =>
   rw[ic bb]at c;have⟨d',l,c⟩:=bind_some c;refine⟨g,ρ,d',I.ext e,l,λh o p i j=>?_⟩;unfold f8 at c
   split at c
   ·cases c;exact q h o p (e.trans i) j
   ·cases c
  |true=>rw[ya rfl]at c;cases c;exact q g m _ e (b7 rfl)
 ·cases f
theorem oU(l:PT X c (tV X.K B ft))(m:PE X a (eV X.K B fa))(n:PE X b (eV X.K B fb)):PE X (.IfExp c a b pos) (eV X.K B (eH ft fa fb)):=(Kn l m n).imp λo H Q ⟨Hf,ρ,z,I,hz,q⟩=>by
 have⟨x,j,hz⟩:=bind_some hz;refine⟨Hf,ρ,x,I,j,λf p e=>?_⟩
 cases x with
 |true=>rw[ya rfl]at hz ⊢;exact⟨f,ρ,z,I.ext e,hz,λHf' g v h i=>q Hf' g v (e.trans h) i⟩
 |false=>rw[ic bb]at hz ⊢;exact⟨f,ρ,z,I.ext e,hz,λHf' g v h i=>q Hf' g v (e.trans h) i⟩
def qH(g g':D->D->U5)(fa fb fc:al->U5):al->U5:=λρ=>(fa ρ).bind λd=>(fb ρ).bind λe=>(g d e).bind λz=>(f8 z).bind λk=>if k=true then (fc ρ).bind λw=>g' e w else some (.bl false)
def aX:PA X [] (aV X.K B aN):=fL.imp λb H Q ⟨Hf,ρ,ds,I,a,q⟩=>by cases a;exact q Hf H [] (.refl I.fh) .nil
def aE(n:PE X e (eV X.K B fa))(o:PA X es (aV X.K B fr))(hs:W1 X (e::es) e es:=by rfl):PA X (e::es) (aV X.K B (aC fa fr)):=(el n o hs).imp λp H Q ⟨Hf,ρ,ds,I,a,q⟩=>by
 have⟨d,l,a⟩:=bind_some a;have⟨r,m,a⟩:=bind_some a;cases a;exact⟨Hf,ρ,d,I,l,λf s v b i=>⟨f,ρ,r,I.ext b,m,λg j vs c h=>q g j _ (b.trans c) (.cons (i.same c.ff) h)⟩⟩
def dA:PA X [] (aB X.K B aN):=NY aX
def cy(n:PE X e (eB X.K B fa))(o:PA X es (aB X.K B fr))(hs:W1 X (e::es) e es:=by rfl):PA X (e::es) (aB X.K B (aC fa fr)):=(el n o hs).imp λp H Q ⟨Hf,ρ,ds,I,a,q⟩=>by
 have⟨d,l,a⟩:=bind_some a;have⟨r,m,a⟩:=bind_some a;cases a;exact⟨Hf,ρ,d,I,l,λf s v b i=>⟨f,ρ,r,I.ext b,m,λg j vs c h=>q g j _ (b.trans c) (.cons (i.ext c) h)⟩⟩
noncomputable def cM:U4->U5:=λds=>if ds.length<=sizeLine then some (.tup ds) else none
noncomputable def dB:U4->U5:=λds=>if ds.length<=sizeLine then some (.lst ds) else none
def hV{x1}(h:PA X es (aV X.K B fr)):PE X (.Tuple es x1 pos) (eV X.K B (eN cM fr)):=(za h).imp λg H Q ⟨Hf,ρ,z,I,hz,q⟩=>by
 have⟨ds,f,hz⟩:=bind_some hz;unfold cM at hz
 split at hz
 ·rename_i hl
  cases hz;refine⟨Hf,ρ,ds,I,f,λc i vs b a=>⟨by rw[<-a.length];exact hl,λp e=>?_⟩⟩
  have e2:=Ex.new (o:=.tup vs) b.fh e;exact q _ _ _ (b.trans e2) (oT (hT.of aT) (a.same e2.ff))
 ·cases hz
def fN(h:PA X es (aV X.K B fr)):PE X (.List es pos) (eV X.K B (eN dB fr)):=(sQ h).imp λg H Q ⟨Hf,ρ,z,I,hz,q⟩=>by
 have⟨ds,f,hz⟩:=bind_some hz;unfold dB at hz
 split at hz
 ·rename_i hl
  cases hz;refine⟨Hf,ρ,ds,I,f,λc i vs b a=>⟨by rw[<-a.length];exact hl,λp e=>?_⟩⟩
  have e2:=Ex.new (o:=.lst vs) b.fh e;exact q _ _ _ (b.trans e2) (f7 (bA.of aT) (a.same e2.ff))
 ·cases hz
end
section
variable {κ α:Type}[DecidableEq κ]
noncomputable def aP(m:List (κ×α))(k:κ):Option α:=(m.find? λa=>decide (a.1=k)).map (·.2)
noncomputable def fO(m:List (κ×α))(k:κ)(v:α):List (κ×α) :=
 if (m.any λa=>decide (a.1=k))=true then m.map (λa=>if a.1=k then (a.1,v) else a) else m++[(k,v)]
noncomputable def nF(m:List (κ×α))(k:κ):List (κ×α):=m.filter λa=>decide (a.1≠k)
abbrev ec(K:Fg1)(H:Hp):List (κ×D)->List (κ×V)->Prop:=Paired λa b=>a.1=b.1/\Dn K H a.2 b.2
variable {K:Fg1}
theorem qI:∀{kvs:List (κ×V)}{ks:List κ}{ds:U4},kvs.map fst=ks->aR K H ds (kvs.map snd)->ec K H (ks.zip ds) kvs
 |[],_,_,e,p=>by subst e;cases p;exact .nil
 |kv::r,_,_,e,p=>by
  subst e;rw[ma]at p
  cases p with
  |cons a b=>exact .cons ⟨rfl,a⟩ (qI rfl b)
theorem ec.fst:∀{m:List (κ×D)}{kvs:List (κ×V)},ec K H m kvs->kvs.map fst=m.map fst
 |_,_,.nil=>rfl
 |_,_,.cons a b=>by rw[ma,ma,a.1,ec.fst b]
theorem ec.snd:∀{m:List (κ×D)}{kvs:List (κ×V)},ec K H m kvs->aR K H (m.map snd) (kvs.map snd)
 |_,_,.nil=>.nil
 |_,_,.cons a b=>.cons a.2 (ec.snd b)
theorem ec.any:∀{m:List (κ×D)}{kvs:List (κ×V)} (k:κ),ec K H m kvs->(kvs.any λc=>decide (c.1=k))=m.any λc=>decide (c.1=k)
 |_,_,_,.nil=>rfl
 |_,_,k,.cons a b=>by rw[li,li,a.1,ec.any k b]
theorem ec.val:∀{m:List (κ×D)}{kvs:List (κ×V)} (k:κ),ec K H m kvs->(aP m k=none->cU kvs k=none)/\∀d,aP m k=some d->∃v,cU kvs k=some v/\Dn K H d v
 |_,_,k,.nil=>⟨λ_=>rfl,λd h=>by cases h⟩
 |a::m,b::kvs,k,.cons h t=>by
  have c:=ec.val k t;by_cases e:b.1=k
  ·have e2:a.1=k:=h.1.trans e
   refine⟨λz=>?_,λd z=>?_⟩
   ·simp[aP,we,e2]at z
   ·simp[aP,we,e2]at z
    subst z;exact⟨b.2,oP e,h.2⟩
  ·have e2:¬a.1=k:=λz=>e (h.1.symm.trans z)
   have f:aP (a::m) k=aP m k:=by simp[aP,we,e2]
   rw[f,nB e];exact c
theorem ec.repl(k:κ)(f:Dn K H d v):∀{m:List (κ×D)}{kvs:List (κ×V)},ec K H m kvs->ec K H (m.map λc=>if c.1=k then (c.1,d) else c) (kvs.map λc=>if c.1=k then (c.1,v) else c)
 |_,_,.nil=>.nil
 |a::m,b::kvs,.cons h t=>by
  refine .cons ?_ (ec.repl k f t);by_cases e:b.1=k
  ·dsimp only;rw[ya e,ya (h.1.trans e)];exact⟨h.1,f⟩
  ·dsimp only;rw[ic e,ic (λz=>e (h.1.symm.trans z))];exact h
def ec.put(k:κ)(h:ec K H m kvs)(a:Dn K H d v):ec K H (fO m k d) (f6 kvs k v):=by
 unfold fO f6;rw[ec.any k h];split
 ·exact ec.repl k a h
 ·exact h.zsnoc ⟨rfl,a⟩
theorem ec.drop(k:κ):∀{m:List (κ×D)}{kvs:List (κ×V)},ec K H m kvs->ec K H (nF m k) (tw kvs k)
 |_,_,.nil=>.nil
 |a::m,b::kvs,.cons h t=>by
  have c:=ec.drop k t;unfold nF tw at c ⊢;by_cases e:b.1=k
  ·have e2:a.1=k:=h.1.trans e
   rw[jh (by simp[e,e2]),jh (by simp[e,e2])];exact c
  ·have e2:¬a.1=k:=λz=>e (h.1.symm.trans z)
   rw[kh (by simp[e,e2]),kh (by simp[e,e2])];exact .cons h c
end
def oW:D->Option aQ
 |.sc (.int i)=>some (.inl i)
 |.sc (.str x)=>some (.inr x)
 |_=>none
def oX:U4->Option (List aQ)
 |[]=>some []
 |d::r=>(oW d).bind λk=>(oX r).map (k::·)
def jI:D->Option (List aQ)
 |.tup ds=>oX ds
 |_=>none
section
variable {K:Fg1}
def N3(h:Dn K H d x)(e:oW d=some k):x=kV k:=by
 unfold oW at e
 split at e
 ·cases e;exact h.sc.2
 ·cases e;exact h.sc.2
 ·cases e
def Er(h:cL K Hf H d x)(e:oW d=some k):x=kV k:=by
 unfold oW at e
 split at e
 ·cases e;exact h.sc.2
 ·cases e;exact h.sc.2
 ·cases e
theorem Es:∀{ds:U4}{xs:U6}{ks:List aQ},aR K H ds xs->oX ds=some ks->xs=ks.map kV
 |_,_,_,.nil,e=>by cases e;rfl
 |_,_,_,.cons a b,e=>by
  unfold oX at e;have⟨k,f,e⟩:=bind_some e;rename_i r _ _
  cases c:oX r with
  |none=>rw[c]at e;cases e
  |some ks =>
   rw[c]at e;cases e;rw[ma,N3 a f,Es b c]
def qJ(h:cL K Hf H d x)(e:jI d=some k):∃b,x=.ref b/\Hf b=some (.tup (k.map kV)):=by
 unfold jI at e
 split at e
 ·obtain⟨a,xs,rfl,c,f⟩:=h.tupU
  have c:Hf a=some (.tup xs):=c;rw[Es f e]at c;exact⟨a,rfl,c⟩
 ·cases e
end
def gO(d k:D):Option U5:=match d with
 |.dk ks ds=>(oW k).map λkey=>aP (ks.zip ds) key
 |.dt ks ds=>(jI k).map λkey=>aP (ks.zip ds) key
 |_=>none
def tH{K:Fg1}(s:aH Hf H)(m:cL K Hf H d x)(n:cL K Hf H k y)(h:gO d k=some o):∃a r,x=.ref a/\oR H a/\gM H a y r/\(o=none->r=none)/\∀z,o=some z->∃v,r=some v/\Dn K Hf z v:=by
 unfold gO at h
 split at h
 ·have⟨c,g,i⟩:=pc.mp h
  obtain⟨a,kvs,rfl,f,j,l⟩:=m.dk s;have e:=Er n g;subst e;have p:=(qI j l).val c;rw[i]at p;exact⟨a,_,rfl,.inl ⟨kvs,.inl f⟩,gM.k f,p.1,p.2⟩
 ·have⟨c,g,i⟩:=pc.mp h
  obtain⟨a,kvs,rfl,f,j,l⟩:=m.dt s;obtain⟨b,rfl,q⟩:=qJ n g;have p:=(qI j l).val c;rw[i]at p;exact⟨a,_,rfl,.inr ⟨kvs,.inl f⟩,gM.t f (s _ _ q),p.1,p.2⟩
 ·cases h
def mG(b:Bool):R2:=λx y H Q=>∃a o,y=.ref a/\gM H a x o/\Q (.bl (if b then !o.isSome else o.isSome)) H
section
variable {X:Cx}
def N4(i:X.A.units+1<cLine):bx X (compareOp .In) (mG false):=by
 intro b s l H x y v u Q I f h ⟨a,o,e,g,q⟩;subst e;obtain rfl:u=Value.ref a:=h;exact Nx i I g f λj c=>⟨.bl o.isSome,H,c,rfl,q⟩
def Et(i:X.A.units+1<cLine):bx X (compareOp .NotIn) (mG true):=by
 intro b s l H x y v u Q I f h ⟨a,o,e,g,q⟩;subst e;obtain rfl:u=Value.ref a:=h;exact Ny i I g f λj c=>⟨.bl (!o.isSome),H,c,rfl,q⟩
end
section
variable {X:Cx}
def Ad(K:Fg1):R2:=λx y H Q=>match x,y with|.ref l,.ref b=>∃xs zs,bA K H l xs/\bA K H b zs/\xs.length+zs.length<=sizeLine/\∀p,H p=none->Q (.ref p) (aF H p (.lst (xs++zs)))|_,_=>False
def Eu:bx X (binaryOp .Add) (Ad X.K):=by
 intro p s P H x y v u Q I G J h;unfold Ad at h
 split at h
 ·rename_i l b
  obtain⟨xs,R,hl,L,hz,q⟩:=h;cases G;cases J;have⟨c,r,pl,_⟩:=I.list hl;have⟨a,w,i,_⟩:=I.list L;have T:=r.length;have U:=w.length;have⟨⟨M,dd,z,sl⟩,A,B,n,C⟩:=pl.isList;have⟨⟨E,j,m,o⟩,e,f,N,g⟩:=i.isList;simp only at B C f g;subst B C f g;refine concat_meets ⟨_,A,rfl⟩ ⟨_,e,rfl⟩ noFill_list_add seq_list_add PySem.F.slot_list_add PySem.F.entry_list_add (PySem.F.args_list_add_2 _ _) (list_addW l b c.toArray a.toArray n N dd j sl o 's') ⟨A,e,?_⟩;have O:c.toArray++a.toArray=(c++a).toArray:=by simp
  rw[O];exact⟨.ref _,_,I.lnew (t':=s.toks) (r.append w) (by rw[rc];omega),rfl,q _ I.fresh⟩
 ·exact h.elim
mutual
noncomputable def bD:D->D->Bool
 |.sc a,.sc b=>jE a b
 |.tup ds,.tup es=>bO ds es
 |.lst ds,.lst es=>bO ds es
 |_,_=>false
noncomputable def bO:U4->U4->Bool
 |[],[]=>true
 |a::as,b::bs=>bD a b && bO as bs
 |_,_=>false
end
theorem Ae:∀{k:Nat}{h:Heap}{d e:D}{u v:Value},HD h k d u->HD h k e v->bE k d e=bD d e:=by
 intro k
 induction k with
 |zero =>
  intro h d e u v c f
  cases d with
  |sc a =>
   cases e with
   |sc b=>rw[bD];rfl
   |_=>exact f.elim
  |_=>exact c.elim
 |succ k j =>
  intro h d e u v c f
  have all:∀{ds es:U4} {us vs:U9},Paired (HD h k) ds us->Paired (HD h k) es vs->e6 (bE k) ds es=bO ds es:=by
   intro ds es us vs p
   induction p generalizing es vs with
   |nil=>intro q;cases q <;> simp[e6,bO]
   |cons a b i =>
    intro q
    cases q with
    |nil=>simp[e6,bO]
    |cons l m =>
     rw[e6,bO,j a l,i m]
  cases d with
  |sc a=>cases e <;> simp[bE,bD]
  |tup ds =>
   cases e with
   |tup es =>
    obtain⟨_,_,_,_,p⟩:=c;obtain⟨_,_,_,_,g⟩:=f;rw[bD];exact all p g
   |_=>simp[bE,bD]
  |lst ds =>
   cases e with
   |lst es =>
    obtain⟨_,_,_,_,p⟩:=c;obtain⟨_,_,_,_,g⟩:=f;rw[bD];exact all p g
   |_=>simp[bE,bD]
  |_=>exact c.elim
noncomputable def bL:Nat->D->Bool
 |_,.sc _=>true
 |0,_=>false
 |n+1,.tup ds=>ds.all (bL n)
 |n+1,.lst ds=>ds.all (bL n)
 |_+1,_=>false
theorem Dn.at{K:Fg1}:∀{n:Nat}{d:D}{x:V},Dn K H d x->bL n d=true->dM K H n d x:=by
 intro n
 induction n with
 |zero =>
  intro d x h c
  cases d with
  |sc v=>exact h.sc
  |_=>cases c
 |succ n j =>
  intro d x h c
  have i:∀{ds:U4} {xs:U6},aR K H ds xs->ds.all (bL n)=true->Paired (dM K H n) ds xs:=by
   intro ds xs p
   induction p with
   |nil=>intro _;exact .nil
   |cons a b g =>
    intro f;rw[gf,uc]at f;exact .cons (j a f.1) (g f.2)
  cases d with
  |sc v=>exact h.sc
  |tup ds=>have⟨a,xs,e,q,p⟩:=h.tup;exact⟨a,xs,e,q,i p c⟩
  |lst ds=>have⟨a,xs,e,q,p⟩:=h.lst;exact⟨a,xs,e,q,i p c⟩
  |_=>cases c
theorem Ev:∀{k:Nat}{d e:D}{u:Value},HD h k d u->HD h k e u->d=e:=by
 intro k
 induction k with
 |zero =>
  intro d e u g c
  cases d with
  |sc v =>
   cases e with
   |sc w=>obtain⟨f,r⟩:=g;obtain⟨y,o⟩:=c;rw[r.inj o]
   |_=>exact c.elim
  |_=>exact g.elim
 |succ k z =>
  intro d e u g c
  have all:∀{ds es:U4} {us:U9},Paired (HD h k) ds us->Paired (HD h k) es us->ds=es:=by
   intro ds es us p
   induction p generalizing es with
   |nil=>intro q;cases q;rfl
   |cons a b x=>intro q;cases q with|cons m A=>rw[z a m,x A]
  cases d with
  |sc v =>
   obtain⟨f,r⟩:=g
   cases e with
   |sc w=>obtain⟨y,o⟩:=c;rw[r.inj o]
   |tup es=>obtain⟨a,i,q,_⟩:=c;subst q;exact(nA f r).elim
   |lst es=>obtain⟨a,i,q,_⟩:=c;subst q;exact(nA f r).elim
   |_=>exact c.elim
  |tup ds =>
   obtain⟨a,i,q,l,s⟩:=g;subst q
   cases e with
   |sc w=>obtain⟨f,r⟩:=c;exact(nA f r).elim
   |tup es=>obtain⟨m,its',q,j,n⟩:=c;cases q;have q:=DU l j;subst q;rw[all s n]
   |lst es=>obtain⟨m,its',q,j,n⟩:=c;cases q;exact(vS l j).elim
   |_=>exact c.elim
  |lst ds =>
   obtain⟨a,i,q,l,s⟩:=g;subst q
   cases e with
   |sc w=>obtain⟨f,r⟩:=c;exact(nA f r).elim
   |lst es=>obtain⟨m,its',q,j,n⟩:=c;cases q;have q:=DV l j;subst q;rw[all s n]
   |tup es=>obtain⟨m,its',q,j,n⟩:=c;cases q;exact(vS j l).elim
   |_=>exact c.elim
  |_=>exact g.elim
open Classical in
def hW(h:Heap)(k:Nat)(e:D)(w:Value):Bool:=if z:∃d,HD h k d w then bE k z.choose e else false
def Ew(x:HD h k d w):hW h k e w=bE k d e:=by
 have z:∃d,HD h k d w:=⟨d,x⟩
 unfold hW;rw[dif_pos z,Ev z.choose_spec x]
def oY(K:Fg1)(k:Nat)(a:Bool):R2:=λx y H Q=>∃p xs ds e,y=.ref p/\(bA K H p xs\/cT K H p xs)/\dM K H k e x/\Paired (dM K H k) ds xs/\Q (.bl (if a then !(ds.any λd=>bE k d e) else ds.any λd=>bE k d e)) H
theorem tI:∀{ds:U4}{us:U9},Paired (HD h k) ds us->us.any (hW h k e)=ds.any λd=>bE k d e
 |_,_,.nil=>rfl
 |_,_,.cons a b=>by rw[li,li,Ew a,tI b]
theorem tJ(f:HD s.heap k e v)(c:A.units+k<cLine):∀{ds:U4}{us:U9},Paired (HD s.heap k) ds us->∀u∈us,SeqAt.EqAt A s u v (hW s.heap k e u)
 |_,_,.nil=>λu c=>by cases c
 |_,_,.cons a b=>λu hm=>by
  rcases wc.mp hm with rfl|hm
  ·rw[Ew a];exact lJ a f c
  ·exact tJ f c b u hm
def az.dens(I:az X pins σ H s)(p:Paired (dM X.K H k) ds xs)(r:bC xs us):Paired (HD s.heap k) ds us :=
 Paired.imp2 (F:=bu) (G:=HD s.heap k) (R:=dM X.K H k) (λx u d r q=>I.den q r) r p
def N5(k:Nat)(o:X.A.units+(k+1)<cLine):bx X (compareOp .In) (oY X.K k false):=by
 intro f s n H x y v u Q I j l h;obtain⟨p,xs,ds,e,rfl,hq,m,g,q⟩:=h;cases l;have i:=I.den m j;rcases hq with hq|hq
 ·have⟨a,r,pl,hz⟩:=I.list hq
  have b:=I.dens g r;refine SeqAt.in_listAt (hW s.heap k e) pl.isList (λw c=>tJ (A:=X.A.in1) i (by show X.A.units+1+k<cLine;omega) b w (by simpa using c)) ⟨.bl _,H,I,rfl,?_⟩;rw[show a.toArray.any (hW s.heap k e)=a.any (hW s.heap k e) by simp,tI b];exact q
 ·have⟨a,r,pl,hz⟩:=I.tuple hq
  have b:=I.dens g r;refine SeqAt.in_tupleAt (hW s.heap k e) pl (λw c=>tJ (A:=X.A.in1) i (by show X.A.units+1+k<cLine;omega) b w (by simpa using c)) ⟨.bl _,H,I,rfl,?_⟩;rw[show a.toArray.any (hW s.heap k e)=a.any (hW s.heap k e) by simp,tI b];exact q
def N6(k:Nat)(o:X.A.units+(k+1)<cLine):bx X (compareOp .NotIn) (oY X.K k true):=by
 intro f s n H x y v u Q I j l h;obtain⟨p,xs,ds,e,rfl,hq,m,g,q⟩:=h;cases l;have i:=I.den m j;rcases hq with hq|hq
 ·have⟨a,r,pl,hz⟩:=I.list hq
  have b:=I.dens g r;refine SeqAt.notIn_listAt (hW s.heap k e) pl.isList (λw c=>tJ (A:=X.A.in1) i (by show X.A.units+1+k<cLine;omega) b w (by simpa using c)) ⟨.bl _,H,I,rfl,?_⟩;rw[show a.toArray.any (hW s.heap k e)=a.any (hW s.heap k e) by simp,tI b];exact q
 ·have⟨a,r,pl,hz⟩:=I.tuple hq
  have b:=I.dens g r;refine SeqAt.notIn_tupleAt (hW s.heap k e) pl (λw c=>tJ (A:=X.A.in1) i (by show X.A.units+1+k<cLine;omega) b w (by simpa using c)) ⟨.bl _,H,I,rfl,?_⟩;rw[show a.toArray.any (hW s.heap k e)=a.any (hW s.heap k e) by simp,tI b];exact q
noncomputable abbrev LV:Nat:=9
theorem qK{K:Fg1}:∀{k:Nat}{d e:D}{x y:V},dM K H k d x->dM K H k e y->bE k d e=bD d e:=by
 intro k
 induction k with
 |zero =>
  intro d e u v c f
  cases d with
  |sc a =>
   cases e with
   |sc b=>rw[bD];rfl
   |_=>exact f.elim
  |_=>exact c.elim
 |succ k i =>
  intro d e u v c f
  have all:∀{ds es:U4} {us vs:U6},Paired (dM K H k) ds us->Paired (dM K H k) es vs->e6 (bE k) ds es=bO ds es:=by
   intro ds es us vs p
   induction p generalizing es vs with
   |nil=>intro q;cases q <;> simp[e6,bO]
   |cons a b h =>
    intro q
    cases q with
    |nil=>simp[e6,bO]
    |cons j l=>rw[e6,bO,i a j,h l]
  cases d with
  |sc a=>cases e <;> simp[bE,bD]
  |tup ds =>
   cases e with
   |tup es=>obtain⟨_,_,_,_,p⟩:=c;obtain⟨_,_,_,_,g⟩:=f;rw[bD];exact all p g
   |_=>simp[bE,bD]
  |lst ds =>
   cases e with
   |lst es=>obtain⟨_,_,_,_,p⟩:=c;obtain⟨_,_,_,_,g⟩:=f;rw[bD];exact all p g
   |_=>simp[bE,bD]
  |_=>exact c.elim
noncomputable def kM:V->Nat
 |.int _=>1
 |.str _=>2
 |.bl _=>3
 |_=>0
def gz(d e:D):Y3:=match d,e with
 |.sc a,.sc b=>if kM a=kM b/\kM a≠0 then some (jE a b) else none
 |.tup ds,.tup es=>if bL LV (.tup ds) && bL LV (.tup es) then some (bO ds es) else none
 |.lst ds,.lst es=>if bL LV (.lst ds) && bL LV (.lst es) then some (bO ds es) else none
 |_,_=>none
def bR(d e:D):U5:=(gz d e).map D.bl
def bX(d e:D):U5:=(gz d e).map λb=>D.bl (!b)
def qL[BEq α][LawfulBEq α](i j:α)[a:Decidable (i=j)]:decide (i=j)=(i == j):=by
 by_cases h:i=j
 ·simp[h]
 ·rw[be h];exact(xg.mpr h).symm
def eo(a:aK n X.A):bx X (compareOp .Eq) (λx y H Q=>jF false x y H Q\/sT X.K 8 x y H Q):=Mz.or (Mv 8 (by have:=a.units;omega))
def jY(a:aK n X.A):bx X (compareOp .NotEq) (λx y H Q=>jF true x y H Q\/sW X.K 8 x y H Q):=MA.or (Mw 8 (by have:=a.units;omega))
def Ey{H:Hp}(e:x=a)(f:y=b)(h:(if kM a=kM b/\kM a≠0 then some (jE a b) else none)=some z)(q:Q (.bl (if c then !z else z)) H):jF c x y H Q:=by
 subst e f
 split at h
 ·rename_i hs
  cases h
  cases x with
  |bl i =>
   cases y with
   |bl j=>show Q (V.bl (if c=true then !decide (i=j) else decide (i=j))) H;rw[qL i j];exact q
   |_=>exact absurd hs.1 (by simp[kM])
  |int i =>
   cases y with
   |int j=>show Q (V.bl (if c=true then !decide (i=j) else decide (i=j))) H;rw[qL i j];exact q
   |_=>exact absurd hs.1 (by simp[kM])
  |str i =>
   cases y with
   |str j=>show Q (V.bl (if c=true then !decide (i=j) else decide (i=j))) H;rw[qL i j];exact q
   |_=>exact absurd hs.1 (by simp[kM])
  |_=>exact absurd rfl hs.2
 ·cases h
theorem et{K:Fg1}:P2 K (λx y H Q=>jF false x y H Q\/sT K 8 x y H Q) bR:=by
 intro Hf H x y d e z Q s h i hz q;unfold bR at hz
 cases a:gz d e with
 |none=>rw[a]at hz;cases hz
 |some b =>
  rw[a]at hz;have hz:D.bl b=z:=ae hz;subst hz;have q:=q Hf H (.bl b) (.refl s) (b7 rfl);unfold gz at a
  split at a
  ·exact .inl (Ey h.sc.2 i.sc.2 a q)
  ·split at a
   ·rename_i c
    rw[uc]at c;cases a;have f:=(h.whole s).at c.1;have g:=(i.whole s).at c.2;refine .inr ⟨_,_,f,g,rfl,?_⟩;rw[qK f g,bD];exact q
   ·cases a
  ·split at a
   ·rename_i c
    rw[uc]at c;cases a;have f:=(h.whole s).at c.1;have g:=(i.whole s).at c.2;refine .inr ⟨_,_,f,g,rfl,?_⟩;rw[qK f g,bD];exact q
   ·cases a
  ·cases a
theorem jZ{K:Fg1}:P2 K (λx y H Q=>jF true x y H Q\/sW K 8 x y H Q) bX:=by
 intro Hf H x y d e z Q s h i hz q;unfold bX at hz
 cases a:gz d e with
 |none=>rw[a]at hz;cases hz
 |some b =>
  rw[a]at hz;have hz:D.bl (!b)=z:=ae hz;subst hz;have q:=q Hf H (.bl (!b)) (.refl s) (b7 rfl);unfold gz at a
  split at a
  ·exact .inl (Ey h.sc.2 i.sc.2 a q)
  ·split at a
   ·rename_i c
    rw[uc]at c;cases a;have f:=(h.whole s).at c.1;have g:=(i.whole s).at c.2;refine .inr ⟨_,_,f,g,rfl,?_⟩;rw[qK f g,bD];exact q
   ·cases a
  ·split at a
   ·rename_i c
    rw[uc]at c;cases a;have f:=(h.whole s).at c.1;have g:=(i.whole s).at c.2;refine .inr ⟨_,_,f,g,rfl,?_⟩;rw[qK f g,bD];exact q
   ·cases a
  ·cases a
def lL(d e:D):Y3:=match e with
 |.sc (.str t)=>match d with|.sc (.str x)=>some (Txt.contains t x)|_=>none
 |.lst es=>if bL LV d && es.all (bL LV) then some (es.any λz=>bD z d) else none
 |.tup es=>if bL LV d && es.all (bL LV) then some (es.any λz=>bD z d) else none
 |.dk ks es=>(gO (.dk ks es) d).map Option.isSome
 |.dt ks es=>(gO (.dt ks es) d).map Option.isSome
 |_=>none
def kN(d e:D):U5:=(lL d e).map D.bl
def i4(d e:D):U5:=(lL d e).map λb=>D.bl (!b)
def N7(a:aK n X.A):bx X (compareOp .In) (λx y H Q=>mz false x y H Q\/oY X.K 9 false x y H Q\/mG false x y H Q):=MU.or ((N5 9 (by have:=a.units;omega)).or (N4 (by have:=a.units;omega)))
def Ez(a:aK n X.A):bx X (compareOp .NotIn) (λx y H Q=>mz true x y H Q\/oY X.K 9 true x y H Q\/mG true x y H Q):=MV.or ((N6 9 (by have:=a.units;omega)).or (Et (by have:=a.units;omega)))
theorem aR.at{K:Fg1}:∀{ds:U4}{xs:U6},aR K H ds xs->ds.all (bL n)=true->Paired (dM K H n) ds xs
 |_,_,.nil,_=>.nil
 |_,_,.cons a b,h=>by
  rw[gf,uc]at h;exact .cons (a.at h.1) (aR.at b h.2)
theorem Af{K:Fg1}(c:dM K H k e y):∀{ds:U4}{xs:U6},Paired (dM K H k) ds xs->(ds.any λd=>bE k d e)=ds.any λd=>bD d e
 |_,_,.nil=>rfl
 |_,_,.cons a b=>by rw[li,li,qK a c,Af c b]
def EA{K:Fg1}(s:aH Hf H)(l:cL K Hf H d x)(m:cL K Hf H e y)(c:lL d e=some b)(q:Q (.bl (if i then !b else b)) H):mz i x y H Q\/oY K 9 i x y H Q\/mG i x y H Q:=by
 unfold lL at c
 split at c
 ·split at c
  ·cases c
   rw[l.sc.2,m.sc.2];exact .inl q
  ·cases c
 ·split at c
  ·rename_i es j
   rw[uc]at j;cases c;obtain⟨a,xs,rfl,n,hs⟩:=m.lst s;have f:=(l.whole s).at j.1;have h:=aR.at (hs.same s) j.2;exact .inr (.inl ⟨a,xs,es,d,rfl,.inl n,f,h,by rw[Af f h];exact q⟩)
  ·cases c
 ·split at c
  ·rename_i es j
   rw[uc]at j;cases c;obtain⟨a,xs,rfl,n,hs⟩:=m.tup;have f:=(l.whole s).at j.1;have h:=aR.at (hs.same s) j.2;exact .inr (.inl ⟨a,xs,es,d,rfl,.inr (s.seqT n),f,h,by rw[Af f h];exact q⟩)
  ·cases c
 ·have⟨o,f,h⟩:=pc.mp c
  obtain⟨a,r,rfl,_,g,p,u⟩:=tH s m l f;refine .inr (.inr ⟨a,r,rfl,g,?_⟩)
  have e:r.isSome=b:=by
   rw[<-h]
   cases o with
   |none=>rw[p rfl];rfl
   |some z=>have⟨v,e,_⟩:=u z rfl;rw[e];rfl
  rw[e];exact q
 ·have⟨o,f,h⟩:=pc.mp c
  obtain⟨a,r,rfl,_,g,p,u⟩:=tH s m l f;refine .inr (.inr ⟨a,r,rfl,g,?_⟩)
  have e:r.isSome=b:=by
   rw[<-h]
   cases o with
   |none=>rw[p rfl];rfl
   |some z=>have⟨v,e,_⟩:=u z rfl;rw[e];rfl
  rw[e];exact q
 ·cases c
theorem N8{K:Fg1}:P2 K (λx y H Q=>mz false x y H Q\/oY K 9 false x y H Q\/mG false x y H Q) kN:=by
 intro Hf H x y d e z Q s c f hz q;unfold kN at hz
 cases a:lL d e with
 |none=>rw[a]at hz;cases hz
 |some b =>
  rw[a]at hz;have hz:D.bl b=z:=ae hz;subst hz;exact EA s c f a (q Hf H (.bl b) (.refl s) (b7 rfl))
theorem EB{K:Fg1}:P2 K (λx y H Q=>mz true x y H Q\/oY K 9 true x y H Q\/mG true x y H Q) i4:=by
 intro Hf H x y d e z Q s c f hz q;unfold i4 at hz
 cases a:lL d e with
 |none=>rw[a]at hz;cases hz
 |some b =>
  rw[a]at hz;have hz:D.bl (!b)=z:=ae hz;subst hz;exact EA s c f a (q Hf H (.bl (!b)) (.refl s) (b7 rfl))
end
section
variable {X:Cx}{K:Fg1}
noncomputable def e7(h:Int->Int->V)(d e:D):Option D:=match d,e with|.sc (.int i),.sc (.int j)=>some (.sc (h i j))|_,_=>none
noncomputable def gP(c:Int->Int->Bool)(h:Int->Int->V)(d e:D):Option D:=match d,e with|.sc (.int i),.sc (.int j)=>if c i j=true then some (.sc (h i j)) else none|_,_=>none
def nG(c:∀i j,dL (h i j)=true):P2 K (eO h) (e7 h):=by
 intro Hf H x y d e z Q s a b hz q;unfold e7 at hz
 split at hz
 ·cases hz
  rw[a.sc.2,b.sc.2];exact q Hf H _ (.refl s) (b7 (c _ _))
 ·cases hz
def wu(g:∀i j,c i j=true->C i j)(l:∀i j,dL (h i j)=true):P2 K (k2 C h) (gP c h):=by
 intro Hf H x y d e z Q s a b hz q;unfold gP at hz
 split at hz
 ·split at hz
  ·rename_i f
   cases hz;rw[a.sc.2,b.sc.2]
   exact⟨g _ _ f,q Hf H _ (.refl s) (b7 (l _ _))⟩
  ·cases hz
 ·cases hz
def mH:=e7 λi j=>.int (i - j)
def oZ:=e7 λi j=>.bl (decide (i<=j))
def i5:=e7 λi j=>.bl (decide (j<i))
def kO:=e7 λi j=>.bl (decide (j<=i))
noncomputable def lM(a b:Int):Bool:=!(decide (Builtin.Int.intBits a > shortFactorBits) && decide (Builtin.Int.intBits b > shortFactorBits) && Builtin.Int.intTooBig (Builtin.Int.intBits a+Builtin.Int.intBits b))
def N9:bx X (binaryOp .Mult) (rI (λi j=>lM i j=true) λi j=>.int (i * j)):=vI λi j _ _ _ _ _ a q=>mul_int q (by unfold IntMulOk;intro h;unfold lM at a;rw[h]at a;cases a)
def gA:=gP lM λi j=>.int (i * j)
def cV:=gP (λi j=>decide (0<j/\j<1073741824)) λi j=>.int (i / j)
def bM:=gP (λ_ j=>decide (0<j)) λi j=>.int (i % j)
def o0:=gP (λi j=>decide (0<=j/\j<=1000000/\i.natAbs<2 ^ 64)) λi j=>.int (i ^ j.toNat)
def ww:P2 K (eO λi j=>.int (i - j)) mH:=nG λ_ _=>rfl
def Oa:P2 K (eO λi j=>.bl (decide (i<=j))) oZ:=nG λ_ _=>rfl
def tK:P2 K (eO λi j=>.bl (decide (j<i))) i5:=nG λ_ _=>rfl
def wx:P2 K (eO λi j=>.bl (decide (j<=i))) kO:=nG λ_ _=>rfl
def o3:P2 K (k2 (λi j=>lM i j=true) λi j=>.int (i * j)) gA:=wu (λ_ _ h=>h) λ_ _=>rfl
def fD:P2 K (k2 yZ λi j=>.int (i / j)) cV:=wu (λ_ _ h=>kc (p:=_/\_) h) λ_ _=>rfl
def c9:P2 K (k2 (λ_ j=>0<j) λi j=>.int (i % j)) bM:=wu (λ_ _ h=>kc h) λ_ _=>rfl
def EC:P2 K (k2 y6 λi j=>.int (i ^ j.toNat)) o0:=wu (λ_ _ h=>kc (p:=_/\_/\_) h) λ_ _=>rfl
def o4:bx X (binaryOp .Mult) (k2 (λi j=>lM i j=true) λi j=>.int (i * j)):=vU N9
noncomputable def bG(d e:D):Option D:=match d,e with
 |.sc (.int i),.sc (.int j)=>some (.int (i+j))
 |.sc (.str i),.sc (.str j)=>if i.length+j.length<=sizeLine then some (.sc (.str (i++j))) else none
 |.lst ds,.lst es=>if ds.length+es.length<=sizeLine then some (.lst (ds++es)) else none
 |_,_=>none
def ED(K:Fg1):R2:=λx y H Q=>eO (λi j=>.int (i+j)) x y H Q\/zR x y H Q\/Ad K x y H Q
def cC:bx X (binaryOp .Add) (ED X.K):=My.or (MT.or Eu)
def cD:P2 K (ED K) bG:=by
 intro Hf H x y d e z Q s c f hz q;unfold bG at hz
 split at hz
 ·cases hz
  rw[c.sc.2,f.sc.2];exact .inl (q Hf H _ (.refl s) (b7 rfl))
 ·split at hz
  ·rename_i g
   cases hz;rw[c.sc.2,f.sc.2]
   exact .inr (.inl ⟨g,q Hf H _ (.refl s) (b7 rfl)⟩)
  ·cases hz
 ·split at hz
  ·rename_i g
   cases hz;obtain⟨a,xs,rfl,l,h⟩:=c.lst s
   obtain⟨b,ys,rfl,m,i⟩:=f.lst s;refine .inr (.inr ⟨xs,ys,l,m,by rw[<-h.length,<-i.length];exact g,λp j=>?_⟩);have e2:=Ex.new (o:=.lst (xs++ys)) s j;exact q _ _ _ e2 (f7 (bA.of aT) ((h.zapp i).zmap λ_ _ z=>z.same e2.ff))
  ·cases hz
 ·cases hz
mutual
noncomputable def b9:D->D->Bool
 |.sc a,.sc b=>vQ a b
 |.tup ds,.tup es=>cW ds es
 |.lst ds,.lst es=>cW ds es
 |_,_=>false
noncomputable def cW:List D->List D->Bool
 |[],[]=>false
 |[],_::_=>true
 |_::_,[]=>false
 |a::as,b::bs=>if bD a b=true then cW as bs else b9 a b
end
mutual
noncomputable def eg:D->D->Bool
 |.sc a,.sc b=>vR a b
 |.tup ds,.tup es=>j7 ds es
 |.lst ds,.lst es=>j7 ds es
 |_,_=>false
noncomputable def j7:List D->List D->Bool
 |a::as,b::bs=>eg a b && j7 as bs
 |_,_=>true
end
theorem Ob:∀{k:Nat}{d e:D}{x y:V},dM K H k d x->dM K H k e y->d9 k d e=b9 d e/\(eg d e=true->i0 k d e):=by
 intro k
 induction k with
 |zero =>
  intro d e u v c f
  cases d with
  |sc a =>
   cases e with
   |sc b=>rw[b9,eg];exact⟨rfl,λh=>h⟩
   |_=>exact f.elim
  |_=>exact c.elim
 |succ k r =>
  intro d e u v c f
  have all:∀{ds es:List D} {us vs:List V},Paired (dM K H k) ds us->Paired (dM K H k) es vs->fM (bE k) (d9 k) ds es=cW ds es/\(j7 ds es=true->∀p∈ds.zip es,i0 k p.1 p.2):=by
   intro ds es us vs p
   induction p generalizing es vs with
   |nil=>intro q;cases q <;> simp[fM,cW]
   |cons a b i =>
    intro q
    cases q with
    |nil=>simp[fM,cW]
    |cons j s =>
     have⟨l,m⟩:=i s;have⟨n,o⟩:=r a j;refine⟨?_,λh=>?_⟩
     ·rw[fM,cW,qK a j,l,n]
     ·rw[j7,uc]at h
      intro p hp;rw[rg]at hp;rcases wc.mp hp with rfl|hp
      ·exact o h.1
      ·exact m h.2 p hp
  cases d with
  |sc a =>
   cases e with
   |sc b=>rw[b9,eg];exact⟨rfl,λh=>h⟩
   |_=>simp[d9,b9,eg]
  |tup ds =>
   cases e with
   |tup es=>obtain⟨_,_,_,_,p⟩:=c;obtain⟨_,_,_,_,g⟩:=f;rw[b9,eg];exact all p g
   |_=>simp[d9,b9,eg]
  |lst ds =>
   cases e with
   |lst es=>obtain⟨_,_,_,_,p⟩:=c;obtain⟨_,_,_,_,g⟩:=f;rw[b9,eg];exact all p g
   |_=>simp[d9,b9,eg]
  |_=>exact c.elim
def nH(d e:D):Option D:=match d,e with
 |.sc (.int i),.sc (.int j)=>some (.bl (decide (i<j)))
 |d,e=>if (bL LV d && bL LV e && eg d e)=true then some (.bl (b9 d e)) else none
def EE(K:Fg1):R2:=λx y H Q=>eO (λi j=>.bl (decide (i<j))) x y H Q\/D0 K 8 x y H Q
def Ag(a:aK n X.A):bx X (compareOp .Lt) (EE X.K):=D7.or (Mx 8 (by have:=a.units;omega))
def Ah:P2 K (EE K) nH:=by
 intro Hf H x y d e z Q s b c hz q;unfold nH at hz
 split at hz
 ·cases hz
  rw[b.sc.2,c.sc.2];exact .inl (q Hf H _ (.refl s) (b7 rfl))
 ·split at hz
  ·rename_i a
   rw[uc,uc]at a;cases hz;have f:=(b.whole s).at a.1.1;have g:=(c.whole s).at a.1.2;have⟨h,i⟩:=Ob f g;refine .inr ⟨_,_,f,g,i a.2,?_⟩;rw[h];exact q Hf H _ (.refl s) (b7 rfl)
  ·cases hz
noncomputable def mI(d:D):Option D:=match d with|.sc (.int i)=>some (.int (-i))|_=>none
variable {a:Expr}{fa fb:al->Option D}{pos:Pos}
def Ai(h:PE X a (eV X.K B fa)):PE X (.UnaryOp .USub a pos) (eV X.K B (e1 mI fa)):=(KJ MJ h).imp λi H Q ⟨Hf,ρ,z,I,hz,q⟩=>by
 have⟨d,g,hz⟩:=bind_some hz;refine⟨Hf,ρ,d,I,g,λb e v c f=>?_⟩;unfold mI at hz
 split at hz
 ·cases hz
  rw[f.int];exact q b e _ c (b7 rfl)
 ·cases hz
theorem EF{c f:Type}{F:c->f->Prop}{l:List c}{m:List f}{i:Int}{a:c}(p:Paired F l m)(h:eK l i=some a):∃b,eK m i=some b/\F a b:=by
 have e:=p.length;unfold eK at h ⊢;rw[<-e]
 cases q:iK l.length i with
 |none=>rw[q]at h;cases h
 |some j =>
  rw[q]at h;have⟨b,g,n⟩:=p.zget (show l[j]?=some a from h);exact⟨b,g,n⟩
def bq(d e:D):Option D:=match d,e with
 |.lst ds,.sc (.int i)=>eK ds i
 |.tup ds,.sc (.int i)=>eK ds i
 |.sc (.str z),.sc (.int i)=>if z.length<=sizeLine then (eK z.cps.toList i).map λc=>.str [c] else none
 |_,_=>none
def EG(K:Fg1):R2:=λx y H Q=>zN K x y H Q\/zO K x y H Q\/zP x y H Q
def Oc:iL X (EG X.K):=MK.or (ML.or MM)
def Od:P2 K (EG K) bq:=by
 intro Hf H x y d e z Q s b f hz q;unfold bq at hz
 split at hz
 ·obtain⟨a,xs,rfl,g,h⟩:=b.lst s
  have⟨v,i,j⟩:=EF h hz;rw[f.sc.2];exact .inl ⟨xs,v,g,i,q Hf H v (.refl s) j⟩
 ·obtain⟨a,xs,rfl,g,h⟩:=b.tup
  have⟨v,i,j⟩:=EF h hz;rw[f.sc.2];exact .inr (.inl ⟨xs,v,s.seqT g,i,q Hf H v (.refl s) j⟩)
 ·split at hz
  ·rename_i l
   have⟨c,m,hz⟩:=pc.mp hz;subst hz;rw[b.sc.2,f.sc.2];exact .inr (.inr ⟨l,c,m,q Hf H _ (.refl s) (b7 rfl)⟩)
  ·cases hz
 ·cases hz
def cA(c:PE X a (eB X.K B fa))(e:PE X b (eB X.K B fb))(hs:DG b):PE X (.Subscript a b pos) (eV X.K B (e2 bq fa fb)):=(LP Oc c e hs).imp λf H Q h=>v9 Od h
def gi{α:Type}(xs:List α)(lo hi:Y2):List α:=(xs.drop (HT.sIx xs.length 0 lo)).take (HT.sIx xs.length xs.length hi - HT.sIx xs.length 0 lo)
def EH(p:Paired F l m)(a b:Y2):Paired F (gi l a b) (iJ m a b):=by
 have e:=p.length;unfold gi iJ;rw[<-e];exact(p.zdrop _).ztake _
def hX(d:D)(lo hi:Y2):Option D:=match d with
 |.lst ds=>some (.lst (gi ds lo hi))
 |.tup ds=>some (.tup (gi ds lo hi))
 |.sc (.str z)=>if z.length<=sizeLine then some (.sc (.str (StrLaws.sliceText z lo hi))) else none
 |_=>none
def dC(fa:al->Option D)(fl fh:al->Option Y2):al->Option D:=λρ=>(fa ρ).bind λd=>(fl ρ).bind λlo=>(fh ρ).bind λhi=>hX d lo hi
def oN:al->Option Y2:=λ_=>some none
noncomputable def kP:D->Y2|.sc (.int i)=>some i|_=>none
def oS(fa:al->Option D):al->Option Y2:=λρ=>(fa ρ).bind λd=>(kP d).map some
def PO.imp(h:PO X e t)(f:∀σ H Q,t' σ H Q->t σ H Q):PO X e t':=λa s σ H Q I q=>h a s σ H Q I (f σ H Q q)
def j8:PO X none (oV X.K B oN):=DB.imp λa H Q ⟨Hf,ρ,z,I,hz,q⟩=>by cases hz;exact q Hf H (.refl I.fh)
def fP(h:PE X a (eB X.K B fa)):PO X (some a) (oV X.K B (oS fa)):=(MQ h).imp λi H Q ⟨Hf,ρ,z,I,hz,q⟩=>by
 have⟨d,g,hz⟩:=bind_some hz;refine⟨Hf,ρ,d,I,g,λb e v c f=>?_⟩;unfold kP at hz
 split at hz
 ·cases hz
  rw[f.sc.2];exact q b e c
 ·cases hz
def EI(K:Fg1):V->Y2->Y2->Hp->VK->Prop:=λx lo hi H Q=>∃a xs,x=.ref a/\cT K H a xs ∧
 ((HT.sIx xs.length 0 lo=0/\HT.sIx xs.length xs.length hi=xs.length/\Q (.ref a) H)\/(¬(HT.sIx xs.length 0 lo=0/\HT.sIx xs.length xs.length hi=xs.length)/\∀p,H p=none->Q (.ref p) (aF H p (.tup (iJ xs lo hi)))))
end
end L2
namespace HT
open PySem PyProof.Rows
section
variable {s:Shared}
def getItem_tuple_all(c:IsTup s.heap t a)(hs:s.heap.IsSliceOf sl l n .none)(pl:IsPart l b)(q:IsPart n e)(o:sIx a.size 0 b=0/\sIx a.size a.size e=a.size)(h:Q (.ref t) s):wpAny (model prog w) A (getItem (.ref t) (.ref sl)) Q E s:=by
 have⟨os,f,g,p⟩:=id hs;have i:s.TypeIs (.ref sl) "slice":=⟨os,f,g⟩
 unfold getItem
 try with_reducible refine fg ?_
 first|refine ba (wa ?_)|skip
 refine ba (wpAny_sequenceKey c.typeIs 'd' ?_)
 refine wpAny_bind (wpAny_callSpecial?_slot (name:=ofString "__getitem__") c.typeIs PyProof.Rows.slot_tuple_getitem
  (ji ag c.typeIs entry_tuple_getitem ?_ (args_tuple_getitem _ _)))
 show wpAny _ _ (Builtin.Tuple.tupleItemsOf (.ref t) >>= _) _ _ s;refine ba (tupleItemsOf_ c ?_);refine ba (wpAny_typeOf i ?_);rw[ya 'd'];refine ba (DA hs pl q ?_)
 have j:(((sIx a.size 0 b:Nat):Int) == 0 && (1:Int) == 1 && (sIx a.size a.size e - sIx a.size 0 b) == a.size)=true:=by
  rw[o.1,o.2];simp
 show wpAny _ _ (if (((sIx a.size 0 b:Nat):Int) == 0 && (1:Int) == 1 && (sIx a.size a.size e - sIx a.size 0 b) == a.size)=true then _ else _) _ _ s;rw[ya j];refine ba (m:=Builtin.Tuple.tupleIsExact _) (ba (wpAny_typeOf c.typeIs (wa ?_)));rw[ya 'd']
 first
  |exact ba (km (wa ⟨_,rfl,wa h⟩))
  |exact ba (km (ba (wa (wa ⟨_,rfl,wa h⟩))))
  |exact ba (ba (km (wa (wa ⟨_,rfl,wa h⟩))))
  |exact ba (km (ba (wa ⟨_,rfl,wa h⟩)))
end
end HT
namespace L2
open PySem PySem.Spec PyProof.Rows
section
variable {X:Cx}{K:Fg1}
def Oe:iI X (EI X.K):=by
 intro b s m H x v n o p u sl Q I g hs pl i h;obtain⟨a,xs,rfl,j,h⟩:=h;rcases h with⟨f,w,q⟩|⟨f,q⟩
 ·cases g
  have⟨e,r,l,hz⟩:=I.tuple j;have c:e.toArray.size=xs.length:=by rw[bc];exact r.length.symm
  refine⟨"tuple",_,ag.lookup,l.typeIs,?_⟩;exact HT.getItem_tuple_all l hs pl i (by rw[c];exact⟨f,w⟩) ⟨.ref a,H,I,rfl,q⟩
 ·exact DE b s m H _ v n o p u sl Q I g hs pl i ⟨a,xs,rfl,j,f,q⟩
def EJ(K:Fg1):V->Y2->Y2->Hp->VK->Prop:=λx lo hi H Q=>zQ K x lo hi H Q\/EI K x lo hi H Q\/z8 x lo hi H Q
def Of:iI X (EJ X.K):=MR.or (Oe.or Nq)
def Og(e:HT.sIx xs.length 0 a=0)(f:HT.sIx xs.length xs.length b=xs.length):gi xs a b=xs:=by
 unfold gi;rw[e,f];simp
def Oh(s:aH Hf H)(j:cL K Hf H d x)(hz:hX d b c=some z)(q:∀Hf' H' v,Ex Hf H Hf' H'->Dn K Hf' z v->Q v H'):EJ K x b c H Q:=by
 unfold hX at hz
 split at hz
 ·cases hz
  obtain⟨a,xs,rfl,h,f⟩:=j.lst s;refine .inl ⟨xs,h,λp i=>?_⟩;have e2:=Ex.new (o:=.lst (iJ xs b c)) s i;exact q _ _ _ e2 (f7 (bA.of aT) ((EH f b c).zmap λ_ _ z=>z.same e2.ff))
 ·cases hz
  obtain⟨a,xs,rfl,h,f⟩:=j.tupU;refine .inr (.inl ⟨a,xs,rfl,s.seqT h.toT,?_⟩);by_cases g:HT.sIx xs.length 0 b=0/\HT.sIx xs.length xs.length c=xs.length
  ·refine .inl ⟨g.1,g.2,q Hf H _ (.refl s) ?_⟩
   have e:=f.length;rw[Og (by rw[e];exact g.1) (by rw[e];exact g.2)];exact oT h f
  ·refine .inr ⟨g,λp i=>?_⟩
   have e2:=Ex.new (o:=.tup (iJ xs b c)) s i;exact q _ _ _ e2 (oT (hT.of aT) ((EH f b c).zmap λ_ _ z=>z.same e2.ff))
 ·split at hz
  ·rename_i l
   cases hz;rw[j.sc.2]
   exact .inr (.inr ⟨l,q Hf H _ (.refl s) (b7 rfl)⟩)
  ·cases hz
 ·cases hz
variable {a:Expr}{fa fb:al->U5}{fr:al->U0}{pos:Pos}{lo hi:Option Expr}{fl fh:al->Option Y2}
def h7(u:PE X a (eB X.K B fa))(hl:PO X lo (oV X.K B fl))(j:PO X hi (oV X.K B fh)):PE X (.Subscript a (.Slice lo hi none p2) pos) (eV X.K B (dC fa fl fh)):=(DC Of u hl j).imp λw H Q ⟨Hf,ρ,z,I,hz,q⟩=>by
 have⟨d,s,hz⟩:=bind_some hz;have⟨l,hl,hz⟩:=bind_some hz;have⟨h,j,hz⟩:=bind_some hz
 exact⟨Hf,ρ,d,I,s,λ f x v b m=>⟨f,ρ,l,I.ext b,hl,λ g y c=>⟨g,ρ,h,(I.ext b).ext c,j,λ n A e =>
  Oh e.fh ((m.ext c).ext e) hz λHf' o p r i=>q Hf' o p (((b.trans c).trans e).trans r) i⟩⟩⟩
def PN(K:Fg1)(r:U6->Hp->VK->Prop)(g:U4->U5):Prop:=∀Hf H xs ds z (Q:VK),aH Hf H->tF K Hf H ds xs->g ds=some z->(∀Hf' H' v,Ex Hf H Hf' H'->Dn K Hf' z v->Q v H')->r xs H Q
def EK(n:PN X.K r g){e:St}(h:eV X.K B (eN g fr) e H Q):zu r (aB X.K B fr) e H Q:=by
 obtain⟨Hf,ρ,z,I,hz,q⟩:=h;have⟨ds,m,hz⟩:=bind_some hz;exact⟨Hf,ρ,ds,I,m,λb f vs a c=>n b f vs ds z Q a.fh c hz λHf' i v j l=>q Hf' i v (a.trans j) l⟩
def j9{id:String}(c:d7 X (.builtin id) r)(f:PN X.K r g)(i:Gl X x)(hm:X.mg x=none)(j:bootBuiltins x=some (.builtin id))(l:PA X (e::es) (aB X.K B fr))(hn:x ≠ "__name__":=by decide)(a:(x == 'g')=false:=by decide)(m:W1 X (e::es) e es:=by rfl)(b:W2 X pos es:=by rfl):PE X (.Call (.Name x p) (e::es) [] pos) (eV X.K B (eN g fr)) :=
 (vM c i hm j l hn a m b).imp λn H Q h=>EK f h
def o5{id:String}(c:d7 X (.type id) r)(f:PN X.K r g)(i:Gl X x)(hm:X.mg x=none)(j:bootBuiltins x=some (.type id))(l:PA X (e::es) (aB X.K B fr))(hn:x ≠ "__name__":=by decide)(a:(x == 'g')=false:=by decide)(m:W1 X (e::es) e es:=by rfl)(b:W2 X pos es:=by rfl):PE X (.Call (.Name x p) (e::es) [] pos) (eV X.K B (eN g fr)) :=
 (zv c i hm j l hn a m b).imp λn H Q h=>EK f h
def h8(h:tF K Hf H [d] xs):∃x,xs=[x]/\cL K Hf H d x:=by
 cases h with|cons a b=>cases b;exact⟨_,rfl,a⟩
def EL{e:D}(h:tF K Hf H [d,e] xs):∃x y,xs=[x,y]/\cL K Hf H d x/\cL K Hf H e y:=by
 cases h with|cons a b=>cases b with|cons b c=>cases c;exact⟨_,_,rfl,a,b⟩
noncomputable def cY:U4->U5
 |[.lst ds]=>some (.int ds.length)
 |[.tup ds]=>some (.int ds.length)
 |[.sc (.str z)]=>if z.length<=sizeLine then some (.int z.length) else none
 |_=>none
def EM(K:Fg1):U6->Hp->VK->Prop:=λxs H Q=>zS K xs H Q\/zT xs H Q
def kQ:d7 X (.builtin "len") (EM X.K):=MW.or MX
def kR:PN K (EM K) cY:=by
 intro Hf H xs ds z Q s c hz q;unfold cY at hz
 split at hz
 ·cases hz
  obtain⟨x,rfl,b⟩:=h8 c;obtain⟨a,ys,rfl,e,f⟩:=b.lst s;exact .inl ⟨ys,.inl e,by rw[<-f.length];exact q Hf H _ (.refl s) (b7 rfl)⟩
 ·cases hz
  obtain⟨x,rfl,b⟩:=h8 c;obtain⟨a,ys,rfl,e,f⟩:=b.tup;exact .inl ⟨ys,.inr (s.seqT e),by rw[<-f.length];exact q Hf H _ (.refl s) (b7 rfl)⟩
 ·split at hz
  ·rename_i g
   cases hz;obtain⟨x,rfl,b⟩:=h8 c
   rw[b.sc.2];exact .inr ⟨g,q Hf H _ (.refl s) (b7 rfl)⟩
  ·cases hz
 ·cases hz
noncomputable def nI:U4->U5
 |[.lst ds]=>some (.lst ds)
 |[.tup ds]=>some (.lst ds)
 |_=>none
def Aj:PN K (zU K) nI:=by
 intro Hf H xs ds z Q s g hz q;unfold nI at hz
 split at hz
 ·cases hz
  obtain⟨x,rfl,c⟩:=h8 g;obtain⟨a,ys,rfl,e,f⟩:=c.lst s;refine⟨ys,.inl e,λp b=>?_⟩;have e2:=Ex.new (o:=.lst ys) s b;exact q _ _ _ e2 (f7 (bA.of aT) (f.same e2.ff))
 ·cases hz
  obtain⟨x,rfl,c⟩:=h8 g;obtain⟨a,ys,rfl,e,f⟩:=c.tup;refine⟨ys,.inr (s.seqT e),λp b=>?_⟩;have e2:=Ex.new (o:=.lst ys) s b;exact q _ _ _ e2 (f7 (bA.of aT) (f.same e2.ff))
 ·cases hz
noncomputable def wy:U4->U5
 |[.lst ds]=>some (.tup ds)
 |[.tup ds]=>some (.tup ds)
 |_=>none
def EN:PN K (λxs H Q=>∃p ys,xs=[.ref p]/\((bA K H p ys/\∀l,H l=none->Q (.ref l) (aF H l (.tup ys)))\/(cT K H p ys/\Q (.ref p) H))) wy:=by
 intro Hf H xs ds z Q s f hz q;unfold wy at hz
 split at hz
 ·cases hz
  obtain⟨x,rfl,c⟩:=h8 f;obtain⟨a,ys,rfl,b,e⟩:=c.lst s;refine⟨a,ys,rfl,.inl ⟨b,λp g=>?_⟩⟩;have e2:=Ex.new (o:=.tup ys) s g;exact q _ _ _ e2 (oT (hT.of aT) (e.same e2.ff))
 ·cases hz
  obtain⟨x,rfl,c⟩:=h8 f;obtain⟨a,ys,rfl,b,e⟩:=c.tupU;exact⟨a,ys,rfl,.inr ⟨s.seqT b.toT,q Hf H _ (.refl s) (oT b e)⟩⟩
 ·cases hz
noncomputable def wz:U4->U5
 |[.sc (.bl b)]=>some (.int (if b then 1 else 0))
 |[.sc (.int i)]=>some (.int i)
 |_=>none
def Oi:PN K zV wz:=by
 intro Hf H xs ds z Q s b hz q;unfold wz at hz
 split at hz
 ·cases hz
  obtain⟨x,rfl,a⟩:=h8 b;rw[a.sc.2];exact q Hf H _ (.refl s) (b7 rfl)
 ·cases hz
  obtain⟨x,rfl,a⟩:=h8 b;rw[a.sc.2];exact q Hf H _ (.refl s) (b7 rfl)
 ·cases hz
noncomputable def tL:U4->U5|[.sc (.int i),.sc (.int j)]=>some (.int (if j<i then j else i))|_=>none
def Oj:PN K (λxs H Q=>∃i j,xs=[.int i,.int j]/\Q (.int (if j<i then j else i)) H) tL:=by
 intro Hf H xs ds z Q s a hz q;unfold tL at hz
 split at hz
 ·cases hz
  obtain⟨x,y,rfl,b,c⟩:=EL a;rw[b.sc.2,c.sc.2];exact⟨_,_,rfl,q Hf H _ (.refl s) (b7 rfl)⟩
 ·cases hz
noncomputable def gB:D->String
 |.sc .non => "NoneType"
 |.sc (.bl _) => "bool"
 |.sc (.int _) => "int"
 |.sc (.str _) => "str"
 |.sc _ => "?"
 |.tup _ => "tuple"
 |.lst _ => "list"
 |_ => "?"
noncomputable def Ak(t n:String):Bool:=t == n || (t == "bool" && n == "int")
def Al(n:String):Prop:=∀(K:Fg1) (d:D),gB d ≠ "?" -> kitOne K (.type (gB d)) (.type n)=some (Ak (gB d) n)
end
section
variable {X:Cx}{K:Fg1}
variable {a:Expr}{es:Y5}{fa fb:al->U5}{pos apos cpos:Pos}
def Ol(K:Fg1):U6->Hp->VK->Prop:=λxs H Q=>∃x n t b,xs=[x,.ty n]/\(dX K H x t\/(t=.type "list" /\ ∃p ys,x=.ref p/\bA K H p ys)\/(t=.type "tuple" /\ ∃p ys,x=.ref p/\cT K H p ys))/\kitOne K t (.type n)=some b/\Q (.bl b) H
def Om:d7 X (.builtin "isinstance") (Ol X.K):=by
 intro l s r H vs us Q I m h;obtain⟨x,n,t,b,rfl,ty,e,q⟩:=h;obtain⟨u,v,rfl,a,o⟩:=Dl m;cases o;rcases ty with ty|⟨rfl,p,ys,rfl,i⟩|⟨rfl,p,ys,rfl,i⟩
 ·exact Ls I a ty e λj=>⟨.bl b,H,I.tok _,rfl,q⟩
 ·cases a
  have⟨c,_,⟨ob,nn,f,g,_⟩,_⟩:=I.list i;exact kia_one kitx_list I.kIn ⟨ob,f,g⟩ e (λz=>nomatch z) λj=>⟨.bl b,H,I.tok _,rfl,q⟩
 ·cases a
  have⟨c,_,⟨ob,f,g,_⟩,_⟩:=I.tuple i;exact kia_one kitx_tuple I.kIn ⟨ob,f,g⟩ e (λz=>nomatch z) λj=>⟨.bl b,H,I.tok _,rfl,q⟩
theorem On:Al "list":=λK d h=>by
 cases d with
 |sc v=>cases v <;> first|rfl|exact absurd rfl h
 |_=>first|rfl|exact absurd rfl h
theorem Oo:Al "tuple":=λK d h=>by
 cases d with
 |sc v=>cases v <;> first|rfl|exact absurd rfl h
 |_=>first|rfl|exact absurd rfl h
def qM(n:String)(d:D):U5:=if gB d = "?" then none else some (.bl (Ak (gB d) n))
def EO(r:Al n)(s:Gl X "isinstance")(hm:X.mg "isinstance" = none)(u:PE X (.Name x p') (tC (.ty n)))(y:PE X a (eB X.K B fa))(e:W1 X [a,.Name x p'] a [.Name x p']:=by rfl)(j:starEach [.Name x p'] X.env=[(false,eval (.Name x p') X.env)]:=by rfl)(l:W2 X pos [.Name x p']:=by rfl):PE X (.Call (.Name "isinstance" p) [a,.Name x p'] [] pos) (eV X.K B (e1 (qM n) fa)) :=
 (vM Om s hm Nc (el y (el u fL j) e) 'd' 'd' e l).imp λA H Q ⟨Hf,ρ,z,I,hz,q⟩=>by
  have⟨d,o,hz⟩:=bind_some hz;unfold qM at hz
  split at hz
  ·cases hz
  ·rename_i h
   cases hz;refine⟨Hf,ρ,d,I,o,λf m v c g=>⟨v,n,.type (gB d),Ak (gB d) n,rfl,?_,r _ d h,q f m _ c (b7 rfl)⟩⟩
   cases d with
   |sc w =>
    rw[g.sc.2]
    cases w with
    |non=>exact .inl .non
    |bl b=>exact .inl (.bl b)
    |int b=>exact .inl (.int b)
    |str b=>exact .inl (.str b)
    |_=>exact absurd rfl h
   |tup ds=>obtain⟨a,ys,rfl,i,_⟩:=g.tup;exact .inr (.inr ⟨rfl,a,ys,rfl,c.fh.seqT i⟩)
   |lst ds=>obtain⟨a,ys,rfl,i,_⟩:=g.lst c.fh;exact .inr (.inl ⟨rfl,a,ys,rfl,i⟩)
   |_=>exact absurd rfl h
def PM(K:Fg1)(T:String)(r:V->U6->Hp->VK->Prop)(g:D->U4->U5):Prop:=∀Hf H x xs d ds z (Q:VK),aH Hf H->cL K Hf H d x->tF K Hf H ds xs->g d ds=some z->(∀Hf' H' v,Ex Hf H Hf' H'->Dn K Hf' z v->Q v H')->r x xs H Q
def eM(T:String)(g:D->U4->U5)(fo:al->U5)(fr:al->U0):al->U5:=λρ=>(fo ρ).bind λd=>(fr ρ).bind λds=>if gB d=T then g d ds else none
theorem EQ(s:aH Hf H)(h:cL K Hf H d x)(e:gB d=T)(f:T ≠ "tuple"):T = "str" \/ T = "int" \/ T = "list" -> vN K T x H:=by
 intro b;subst e
 cases d with
 |sc v =>
  rw[h.sc.2]
  cases v with
  |str z=>rfl
  |int z=>rfl
  |_=>rcases b with z|z|z <;> exact absurd z (by simp[gB])
 |tup ds=>exact absurd rfl f
 |lst ds=>obtain⟨a,ys,rfl,c,_⟩:=h.lst s;exact .inl ⟨rfl,ys,c⟩
 |_=>rcases b with z|z|z <;> exact absurd z (by simp[gB])
def Op{id:String}(y:PlainAttrs T)(e:Slot T name id)(j:typeOf (.builtin id)=pure (.type "method_descriptor"))(hm:jD X id r)(A:PM X.K T r g)(C:PE X o (eB X.K B fa))(m:(T = "str" \/ T = "int" \/ T = "list")/\T ≠ "tuple":=by decide)(b:attributeBase o name X.env (eval o X.env)=eval o X.env:=by rfl)(c:(apos.endLine == cpos.line)=true:=by rfl):PE X (.Call (.Attribute o name apos) [] [] cpos) (eV X.K B (eM T g fa aN)) :=
 (DL y e j hm C b c).imp λE H Q ⟨Hf,ρ,z,I,hz,q⟩=>by
  have⟨d,x,hz⟩:=bind_some hz;have⟨ds,i,hz⟩:=bind_some hz;cases i
  split at hz
  ·rename_i w
   exact⟨Hf,ρ,d,I,x,λf n v a l=>⟨EQ a.fh l w m.2 m.1,A f n v [] d [] z Q a.fh l .nil hz λHf' p s u h=>q Hf' p s (a.trans u) h⟩⟩
  ·cases hz
def ER{id:String}(L:PlainAttrs T)(i:Slot T name id)(u:typeOf (.builtin id)=pure (.type "method_descriptor"))(hm:jD X id r)(M:PM X.K T r g)(N:PE X o (eB X.K B fa))(O:PA X (e::es) (aB X.K B fr))(y:(T = "str" \/ T = "int" \/ T = "list")/\T ≠ "tuple":=by decide)(f:attributeBase o name X.env (eval o X.env)=eval o X.env:=by rfl)(j:((backTo cpos (starEach (e::es) X.env)).all (λ x=>!x.1) && (backToKw cpos (keywordEach [] X.env)).all (λ x=>x.1.isSome)
   && decide ((e::es).length+([]:List Keyword).length+'e'<30))=true:=by rfl)(h:(apos.endLine == cpos.line)=true:=by rfl)(hs:W1 X (e::es) e es:=by rfl)(a:W2 X cpos es:=by rfl) :
  PE X (.Call (.Attribute o name apos) (e::es) [] cpos) (eV X.K B (eM T g fa fr)) :=
 (qz L i u hm N O f j h hs a).imp λP H Q ⟨Hf,ρ,z,I,hz,q⟩=>by
  have⟨d,J,hz⟩:=bind_some hz;have⟨ds,s,hz⟩:=bind_some hz
  split at hz
  ·rename_i G
   exact⟨Hf,ρ,d,I,J,λl R v b w=>⟨EQ b.fh w G y.2 y.1,l,ρ,ds,I.ext b,s,λm A vs c n=>M m A v vs d ds z Q c.fh (w.ext c) n hz λHf' C E F p=>q Hf' C E ((b.trans c).trans F) p⟩⟩
  ·cases hz
noncomputable def wA(c:Str->Bool)(f:Str->V):D->U4->U5:=λd ds=>match d,ds with|.sc (.str z),[]=>if c z=true then some (.sc (f z)) else none|_,_=>none
def Oq(g:∀z,c z=true->C z)(h:∀z,dL (f z)=true):PM K "str" (tu C f) (wA c f):=by
 intro Hf H x xs d ds z Q s b a hz q;unfold wA at hz
 split at hz
 ·split at hz
  ·rename_i e
   cases hz;cases a
   rw[b.sc.2];exact⟨g _ e,q Hf H _ (.refl s) (b7 (h _))⟩
  ·cases hz
 ·cases hz
def wB:=wA (λz=>!Builtin.Str.tooLong (Txt.lower z).length) λz=>.str (Txt.lower z)
def Os:PM K "str" (tu (λz=>Builtin.Str.tooLong (Txt.lower z).length=false) λz=>.str (Txt.lower z)) wB:=Oq (λz h=>by simpa using h) λ_=>rfl
noncomputable def tM:D->U4->U5:=λd ds=>match d,ds with|.sc (.str z),[.sc (.str y)]=>(Builtin.Str.occurrences z y 0 z.length 1).head?.map λi=>.int i|_,_=>none
def Ot:PM K "str" z6 tM:=by
 intro Hf H x xs d ds z Q s e b hz q;unfold tM at hz
 split at hz
 ·have⟨i,a,hz⟩:=pc.mp hz
  subst hz;obtain⟨g,rfl,f⟩:=h8 b;rw[e.sc.2,f.sc.2]
  cases c:Builtin.Str.occurrences _ _ 0 _ 1 with
  |nil=>rw[c]at a;cases a
  |cons j r =>
   rw[c]at a;have a:j=i:=ae a;subst a;exact⟨j,r,c,q Hf H _ (.refl s) (b7 rfl)⟩
 ·cases hz
noncomputable def qN:U4->Option U8
 |[]=>some []
 |.sc (.str z)::r=>(qN r).map (z::·)
 |_=>none
theorem ES:∀{ds:U4}{xs:U6}{bs:U8},aR K Hf ds xs->qN ds=some bs->xs=bs.map V.str
 |[],_,bs,.nil,h=>by cases h;rfl
 |.sc (.str b)::r,_,bs,.cons p t,h=>by
  unfold qN at h;have⟨bs',a,c⟩:=pc.mp h;subst c;rw[p.str,ES t a];rfl
 |.sc .non::r,_,bs,.cons p t,h=>by cases h
 |.sc (.int _)::r,_,bs,.cons p t,h=>by cases h
 |.sc (.bl _)::r,_,bs,.cons p t,h=>by cases h
 |.sc (.byt _)::r,_,bs,.cons p t,h=>by cases h
 |.sc (.flt _)::r,_,bs,.cons p t,h=>by cases h
 |.sc (.ref _)::r,_,bs,.cons p t,h=>by cases h
 |.sc (.ty _)::r,_,bs,.cons p t,h=>by cases h
 |.tup _::r,_,bs,.cons p t,h=>by cases h
 |.lst _::r,_,bs,.cons p t,h=>by cases h
def tN:D->U4->U5:=λd ds=>match d,ds with
 |.sc (.str z),[.lst es]=>(qN es).bind λys=>if (ys.map (·.length)).sum+ys.length * z.length<=16777216 then some (.sc (.str (Txt.join z ys))) else none
 |_,_=>none
def Ou:PM K "str" (z7 K) tN:=by
 intro Hf H x xs d ds z Q s e b hz q;unfold tN at hz
 split at hz
 ·have⟨ys,g,hz⟩:=bind_some hz
  split at hz
  ·rename_i f
   cases hz;obtain⟨j,rfl,h⟩:=h8 b
   obtain⟨a,l,rfl,c,i⟩:=h.lst s;rw[ES i g]at c;rw[e.sc.2];exact⟨ys,c,f,q Hf H _ (.refl s) (b7 rfl)⟩
  ·cases hz
 ·cases hz
end
def kT(K:Fg1)(J:It)(c Hf:Hp)(ds:U4):Prop:=∀Hf' H',aH c H'->aH Hf Hf'->aH Hf' H'->∀i:Nat,
 (∀d,ds[i]?=some d->J.go i H'/\∀x b,J.yld i H' x b->∃a,Ex Hf' H' a b/\Dn K a d x)/\(ds.length<=i->J.stop i H')
def iV(K:Fg1)(B:Bs)(f:al->U0):TI:=λσ H R=>∃Hf ρ ds,VI K B Hf ρ σ H/\f ρ=some ds/\∀J Hf' H',Ex Hf H Hf' H'->kT K J Hf' Hf' ds->R J H'
def iB(K:Fg1)(B:Bs)(f:al->U0):TI:=λσ H R=>∃Hf ρ ds,VI K B Hf ρ σ H/\f ρ=some ds/\∀J Hf' H',Ex Hf H Hf' H'->kT K J H' Hf' ds->R J H'
section
variable {X:Cx}{K:Fg1}{fa:al->U5}{pos:Pos}
def kT.weak(h:kT K J HJ Hf ds)(s:aH HJ HJ'):kT K J HJ' Hf ds:=λHf' a b c e=>h Hf' a (s.trans b) c e
def Ov(h:PI X tg e (iV X.K B fr)):PI X tg e (iB X.K B fr):=h.imp λf H R ⟨Hf,ρ,ds,I,b,q⟩=>⟨Hf,ρ,ds,I,b,λJ Hf' c a ok=>q J Hf' c a (ok.weak a.fh)⟩
def Ow(K:Fg1)(tl:TE):TI:=λσ H R=>tl σ H λx H1=>(∃a xs,x=.ref a/\bA K H1 a xs/\R (vE K a) H1)\/(∃a xs,x=.ref a/\cT K H1 a xs/\R (vF K a) H1)\/∃z,x=.str z/\R (v4 z) H1
def ET(hl:PE X l tl):PI X tg l (Ow X.K tl):=by
 intro g s A H R I h;refine aW (hl g s A H _ I h) λv c ⟨x,i,f,n,y⟩=>?_
 rcases y with⟨a,xs,rfl,r,q⟩|⟨a,xs,rfl,r,q⟩|⟨z,rfl,q⟩
 ·cases n
  have⟨m,B,p,hz⟩:=f.list r;refine wpAny_pyIter_list p.isList ?_;refine⟨c.heap.objs.size,[c.heap.objs.size],_,_,i,rfl,f.kept (t':=c.toks) λb o e=>jc _ e,C6 a _,⟨_,pd _ rfl,rfl,rfl⟩,λb j=>?_,q⟩;have e:b=c.heap.objs.size:=by simpa using j
  subst e;exact f.fpOk (dc _) f.fresh
 ·cases n
  have⟨m,B,p,hz⟩:=f.tuple r;refine wpAny_pyIter_tuple (show c.heap.IsTuple a m.toArray from p) ?_;refine⟨c.heap.objs.size,[c.heap.objs.size],_,_,i,rfl,f.kept (t':=c.toks) λb o e=>jc _ e,C7 a _,⟨_,pd _ rfl,rfl,rfl⟩,λb j=>?_,q⟩;have e:b=c.heap.objs.size:=by simpa using j
  subst e;exact f.fpOk (dc _) f.fresh
 ·obtain⟨t,rfl⟩:=n
  have u:∀{h':Heap} {o:Obj},∀b∈[c.heap.objs.size],lI X g i b:=λb j=>by
   have e:b=c.heap.objs.size:=by simpa using j
   subst e;exact f.fpOk (dc _) f.fresh
  cases w:z.cps.all (·<128) with
  |true =>
   exact wpAny_pyIter_ascii w ⟨c.heap.objs.size,[c.heap.objs.size],_,_,i,rfl,f.kept (t':=c.toks) λb o e=>jc _ e,Nk z t _,⟨_,pd _ rfl,rfl,rfl⟩,u (h':=c.heap) (o:={ cls:=.none,data:=.fields #[] }),q⟩
  |false =>
   exact wpAny_pyIter_wide w ⟨c.heap.objs.size,[c.heap.objs.size],_,_,i,rfl,f.kept (t':=c.toks) λb o e=>jc _ e,Nl z t _,⟨_,pd _ rfl,rfl,rfl⟩,u (h':=c.heap) (o:={ cls:=.none,data:=.fields #[] }),q⟩
noncomputable def kq:D->U0
 |.lst ds=>some ds
 |.tup ds=>some ds
 |.sc (.str z)=>some (z.cps.toList.map λc=>.str [c])
 |_=>none
def iE(fa:al->U5):al->U0:=λρ=>(fa ρ).bind kq
def EU(h:bA K HJ a xs)(p:aR K Hf ds xs):kT K (vE K a) HJ Hf ds:=λHf' r g j l i=>by
 have c:=g.seq h;refine⟨λd m=>?_,λn=>⟨xs,c,by rw[<-p.length];exact n⟩⟩;have⟨x,f,b⟩:=p.zget m;refine⟨⟨xs,x,c,f⟩,λy o ⟨e,q⟩=>?_⟩;subst e
 have:=q xs c
 rw[f]at this;cases this;exact⟨Hf',.refl l,b.same j⟩
def EV(h:cT K HJ a xs)(p:aR K Hf ds xs):kT K (vF K a) HJ Hf ds:=λHf' r g j l i=>by
 have c:=g.seqT h;refine⟨λd m=>?_,λn=>⟨xs,c,by rw[<-p.length];exact n⟩⟩;have⟨x,f,b⟩:=p.zget m;refine⟨⟨xs,x,c,f⟩,λy o ⟨e,q⟩=>?_⟩;subst e
 have:=q xs c
 rw[f]at this;cases this;exact⟨Hf',.refl l,b.same j⟩
def EW:kT K (v4 z) HJ Hf (z.cps.toList.map λc=>.str [c]):=λHf' n o p h i=>by
 refine⟨λd f=>?_,λj=>?_⟩
 ·rw[de]at f
  obtain⟨c,g,rfl⟩:=pc.mp f;have b:i<z.cps.toList.length:=(wb.mp g).1;refine⟨by show i<z.length;simpa [Str.length] using b,λx l ⟨e,q,a,m⟩=>?_⟩;subst e;rw[g]at a
  cases a
  rw[m];exact⟨Hf',.refl h,b7 rfl⟩
 ·show z.length<=i
  simpa [Str.length] using j
def h9(h:PE X l (eV X.K B fa)):PI X tg l (iV X.K B (iE fa)):=(ET h).imp λm H R ⟨Hf,ρ,ds,I,hz,q⟩=>by
 have⟨d,j,hz⟩:=bind_some hz;refine⟨Hf,ρ,d,I,j,λc f v b g=>?_⟩;unfold kq at hz
 split at hz
 ·cases hz
  obtain⟨a,xs,rfl,e,i⟩:=g.lst;exact .inl ⟨a,xs,rfl,b.fh.seq e,q _ c f b (EU e i)⟩
 ·cases hz
  obtain⟨a,xs,rfl,e,i⟩:=g.tup;exact .inr (.inl ⟨a,xs,rfl,b.fh.seqT e,q _ c f b (EV e i)⟩)
 ·cases hz
  rw[g.str];exact .inr (.inr ⟨_,rfl,q _ c f b EW⟩)
 ·cases hz
def kU(h:PE X l (eB X.K B fa)):PI X tg l (iB X.K B (iE fa)):=(ET h).imp λm H R ⟨Hf,ρ,ds,I,hz,q⟩=>by
 have⟨d,j,hz⟩:=bind_some hz;refine⟨Hf,ρ,d,I,j,λc f v b g=>?_⟩;unfold kq at hz
 split at hz
 ·cases hz
  obtain⟨a,xs,rfl,e,i⟩:=g.lst b.fh;exact .inl ⟨a,xs,rfl,e,q _ c f b (EU e i)⟩
 ·cases hz
  obtain⟨a,xs,rfl,e,i⟩:=g.tup;exact .inr (.inl ⟨a,xs,rfl,b.fh.seqT e,q _ c f b (EV (b.fh.seqT e) i)⟩)
 ·cases hz
  rw[g.sc.2];exact .inr (.inr ⟨_,rfl,q _ c f b EW⟩)
 ·cases hz
noncomputable def iO(lo:Int)(n:Nat):U4:=(List.range n).map λk=>.int (lo+(k:Nat))
def EX:kT K (sL g n) o Hf (iO g n):=λHf' p q r h i=>by
 refine⟨λd b=>?_,λj=>?_⟩
 ·unfold iO at b
  rw[de]at b;obtain⟨c,f,rfl⟩:=pc.mp b;have a:i<n:=by have:=(wb.mp f).1;simpa using this
  rw[List.getElem?_range a]at f;cases f;refine⟨a,λx l ⟨e,m⟩=>?_⟩;subst e;rw[m];exact⟨Hf',.refl h,b7 rfl⟩
 ·show n<=i
  simpa [iO] using j
def mJ:U4->U0|[.sc (.int j)]=>if -(2 ^ 62)<=j/\j<2 ^ 62 then some (iO 0 j.toNat) else none|_=>none
def nJ:U4->U0|[.sc (.int i),.sc (.int j)]=>if -(2 ^ 62)<=i/\i<2 ^ 62 /\ -(2 ^ 62)<=j/\j<2 ^ 62 then some (iO i (j - i).toNat) else none|_=>none
def iR(g:U4->U0)(fr:al->U0):al->U0:=λρ=>(fr ρ).bind g
def Am(j:Gl X "range")(hm:X.mg "range" = none)(l:PA X [a] (aB X.K B fr))(hs:starEach [a] X.env=[(false,eval a X.env)]:=by rfl):PI X tg (.Call (.Name "range" p) [a] [] pos) (iV X.K B (iR mJ fr)):=(M7 j hm l hs).imp λm H R ⟨Hf,ρ,ds,I,hz,q⟩=>by
 have⟨es,h,hz⟩:=bind_some hz;refine⟨Hf,ρ,es,I,h,λb g vs c e=>?_⟩;unfold mJ at hz
 split at hz
 ·split at hz
  ·rename_i f
   cases hz;obtain⟨x,rfl,i⟩:=h8 e
   rw[i.sc.2];exact⟨f.1,f.2,q _ b g c EX⟩
  ·cases hz
 ·cases hz
def Ox(n:Gl X "range")(hm:X.mg "range" = none)(o:PA X [a,b] (aB X.K B fr))(hs:starEach [a,b] X.env=[(false,eval a X.env),(false,eval b X.env)]:=by rfl)(h:starEach [b] X.env=[(false,eval b X.env)]:=by rfl):PI X tg (.Call (.Name "range" p) [a,b] [] pos) (iV X.K B (iR nJ fr)):=(M8 n hm o hs h).imp λr H R ⟨Hf,ρ,ds,I,hz,q⟩=>by
 have⟨es,j,hz⟩:=bind_some hz;refine⟨Hf,ρ,es,I,j,λe i vs f g=>?_⟩;unfold nJ at hz
 split at hz
 ·split at hz
  ·rename_i c
   cases hz;obtain⟨x,y,rfl,l,m⟩:=EL g
   rw[l.sc.2,m.sc.2];exact⟨⟨c.1,c.2.1,c.2.2.1,c.2.2.2⟩,q _ e i f EX⟩
  ·cases hz
 ·cases hz
def gV(K:Fg1)(B:Bs)(sl:U7)(g:D->al->Option al):TG:=λv σ H Q=>∃Hf ρ d ρ',VI K B Hf ρ σ H/\Dn K Hf d v/\g d ρ=some ρ'/\∀a,VI K B Hf ρ' a H->a.length=σ.length->(∀j:Nat,j ∉ sl->a[j]?=σ[j]?)->Q a H
def wC(K:Fg1)(B:Bs)(sl:U7)(g:U4->al->Option al):jC:=λvs σ H Q=>∃Hf ρ ds ρ',VI K B Hf ρ σ H/\aR K Hf ds vs/\g ds ρ=some ρ'/\∀a,VI K B Hf ρ' a H->a.length=σ.length->(∀j:Nat,j ∉ sl->a[j]?=σ[j]?)->Q a H
def gN(i:Nat):D->al->Option al:=λd ρ=>some (ρ.set i (some (.sh d)))
def bW(f:X.N.Nodup)(g:X.N[i]?=some x)(h:dQ X.env.scope x)(l:W3 X x:=by first|exact .inl rfl|exact .inr rfl|assumption):PG X (.Name x pos) (gV X.K B [i] (gN i)):=(lH f g h l).imp λv m H Q ⟨Hf,ρ,d,ρ',I,a,b,q⟩=>by
 cases b;refine q _ (I.set a) 'm' λj c=>?_
 rw[ca];intro e;exact c (by simp[e])
def dI:U4->al->Option al:=λds ρ=>match ds with|[]=>some ρ|_=>none
def bJ(g:D->al->Option al)(r:U4->al->Option al):U4->al->Option al:=λds ρ=>match ds with|d::ds=>(g d ρ).bind λρ1=>r ds ρ1|[]=>none
def gT(n:Nat)(r:U4->al->Option al):D->al->Option al:=λd ρ=>match d with|.tup ds=>if ds.length=n then r ds ρ else none|_=>none
def iF.imp(h:iF X ts t)(g:∀v σ H Q,t' v σ H Q->t v σ H Q):iF X ts t':=λa s σ H v u Q I r q=>h a s σ H v u Q I r (g v σ H Q q)
def mL:iF X [] (wC X.K B [] dI):=M9.imp λvs b H Q ⟨Hf,ρ,ds,ρ',I,c,a,q⟩=>by
 unfold dI at a
 split at a
 ·cases a
  cases c;exact q b I rfl λ_ _=>rfl
 ·cases a
def dY(u:PG X e (gV X.K B sl g))(v:iF X es (wC X.K B sr r))(hs:(assignEach (e::es) X.env).map (·.2)=assign e X.env::(assignEach es X.env).map (·.2):=by rfl):iF X (e::es) (wC X.K B (sl++sr) (bJ g r)):=(Na u v hs).imp λvs x H Q ⟨Hf,ρ,ds,ρ',I,i,a,q⟩=>by
 unfold bJ at a
 split at a
 ·have⟨ρ1,c,f⟩:=bind_some a
  cases i with
  |cons w dr =>
   refine⟨Hf,ρ,_,ρ1,I,w,c,λl m n o=>⟨Hf,ρ1,_,ρ',m,dr,f,λb p s k2=>q b p (s.trans n) λj h=>?_⟩⟩;rw[k2 j λz=>h (oe _ z),o j λz=>h (il _ z)]
 ·cases a
def mM(i:X.calm=true)(h:iF X es (wC X.K B sl r))(hn:(assignEach es X.env).length=n:=by rfl)(c:(assignEach es X.env).findIdx? (·.1)=none:=by rfl):PG X (.Tuple es k pos) (gV X.K B sl (gT n r)):=(Nb i h hn c).imp λv j H Q ⟨Hf,ρ,d,ρ',I,f,b,q⟩=>by
 unfold gT at b
 split at b
 ·split at b
  ·rename_i hl
   obtain⟨a,xs,rfl,g,e⟩:=f.tup;exact⟨xs,I.fh.seqT g,by rw[<-e.length];exact hl,Hf,ρ,_,ρ',I,e,b,q⟩
  ·cases b
 ·cases b
end
def i6(n:Nat)(cap:U7)(ρ:al):al:=replicate n none++cap.map λi=>(ρ[i]?).getD none
def eI(g:D->al->Option al)(tt:al->Y3)(te:al->U5)(ρ:al):U4->U0
 |[]=>some []
 |d::r=>(g d ρ).bind λρ1=>(tt ρ1).bind λb=>if b=true then (te ρ1).bind λy=>(eI g tt te ρ r).map (y::·) else eI g tt te ρ r
def dJ(n:Nat)(cap:U7)(fi:al->U0)(g:D->al->Option al)(tt:al->Y3)(te:al->U5):al->U0 :=
 λρ=>(fi ρ).bind λds=>if ds.length<=sizeLine then eI g tt te (i6 n cap ρ) ds else none
def eW(K:Fg1)(B:Bs)(f:al->U0):TE:=λσ H Q=>∃Hf ρ ds,VI K B Hf ρ σ H/\f ρ=some ds/\∀Hf' H' p xs,Ex Hf H Hf' H'->H p=none->Hf' p=none->H' p=some (.lst xs)->aR K Hf' ds xs->Q (.ref p) H'
def eL(f:al->U0):al->U5:=λρ=>(f ρ).map .lst
theorem Ex.frz{Hf H Hf' H':Hp}{p:Addr}{o:HO}(e:Ex Hf H Hf' H')(f:H p=none)(c:H' p=some o)(g:Hf' p=none)(i:∀x u,o≠.frz x u:=by intro x u z;cases z):Ex Hf H (aF Hf' p o) H':=by
 refine⟨e.ff.trans (eP g),e.hh,λb u h=>?_,λb h=>?_,λb x u h=>?_⟩
 ·by_cases a:b=p
  ·subst a;rw[aT]at h;rw[c];exact h
  ·rw[aI a]at h;exact e.fh b u h
 ·by_cases a:b=p
  ·subst a;exact .inr (.inl f)
  ·rw[aI a]at h;exact e.nw b h
 ·by_cases a:b=p
  ·subst a;rw[aT]at h;cases h;exact absurd rfl (i x u)
  ·rw[aI a]at h;exact e.nf b x u h
section
variable {X:Cx}{K:Fg1}{fa:al->U5}{pos:Pos}
def EY{t:TE}{a:St}(l:∀R,eW K B fr a H R->t a H R)(h:eV K B (eL fr) a H Q):t a H Q:=by
 obtain⟨Hf,ρ,z,I,hz,q⟩:=h;have⟨ds,j,hz⟩:=pc.mp hz;subst hz;refine l Q ⟨Hf,ρ,ds,I,j,λHf' e p xs f g c b i=>?_⟩;have e2:=f.frz g b c;exact q _ e _ e2 (f7 (bA.of aT) (i.same (eP c)))
def fQ(h:PE X e (eW X.K B fr)):PE X e (eV X.K B (eL fr)):=h.imp λa H Q z=>EY (λR z=>z) z
def Oy{cap:U7}(h:cap.Nodup){i j x:Nat}(f:cap[i]?=some x)(g:cap[j]?=some x):i=j:=by
 have⟨a,c⟩:=wb.mp f;have⟨b,e⟩:=wb.mp g;rcases Nat.lt_trichotomy i j with z|z|z
 ·exact absurd (c.trans e.symm) (jj.mp h i j a b z)
 ·exact z
 ·exact absurd (e.trans c.symm) (jj.mp h j i b a z)
def wD(h:(i6 n cap ρ)[i]?=some (some sl)):∃c,n<=i/\cap[i - n]?=some c/\ρ[c]?=some (some sl):=by
 unfold i6 at h;by_cases a:i<n
 ·rw[mf (by simpa using a),cg]at h
  split at h <;> cases h
 ·rw[bg (by simpa using a),ah,de]at h
  have⟨c,b,h⟩:=pc.mp h;refine⟨c,'o',b,?_⟩
  cases q:ρ[c]? with
  |none=>rw[q]at h;cases h
  |some z=>rw[q]at h;exact ef some h
def EZ(a:n<=i)(b:cap[i - n]?=some c):(gy n cap σ)[i]?=some ((σ[c]?).getD none):=by
 unfold gy;rw[bg (by simpa using a),ah,de,b];rfl
def VI.comp(I:VI K B Hf ρ r H)(b:cap.Nodup):VI K B Hf (i6 n cap ρ) (gy n cap r) H:=by
 have back:∀{i c:Nat} {v:V},n<=i->cap[i - n]?=some c->(gy n cap r)[i]?=some (some v)->r[c]?=some (some v):=λ{i c v} a b e=>by
  rw[EZ a b]at e
  cases q:r[c]? with
  |none=>rw[q]at e;cases e
  |some z=>rw[q]at e;exact e
 refine⟨I.ex,by simp[i6,gy],λi sl h=>?_,λi sl p h o q=>?_,λi j s u p f g w x y A=>?_⟩
 ·have⟨c,a,b,h⟩:=wD h
  have⟨v,f,g⟩:=I.ok c sl h;exact⟨v,by rw[EZ a b,f];rfl,g⟩
 ·have⟨c,a,b,h⟩:=wD h
  exact I.own c sl p h o (back a b q)
 ·have⟨c,a,l,f⟩:=wD f
  have⟨d,C,m,g⟩:=wD g;have e:=I.dis c d s u p f g w x (back a l y) (back C m A);subst e
  have:=Oy b l m
  omega
theorem wE:∀{ds rs:U4},eI g tt te ρ ds=some rs->rs.length<=ds.length
 |[],rs,h=>by cases h;exact dc _
 |d::r,rs,h=>by
  unfold eI at h;have⟨ρ1,_,h⟩:=bind_some h;have⟨b,_,h⟩:=bind_some h
  split at h
  ·have⟨y,_,h⟩:=bind_some h
   have⟨a,c,e⟩:=pc.mp h;subst e
   have:=wE c
   simp;omega
  ·have:=wE h
   simp;omega
def Oz(I:VI K B Hf ρ σc H)(hJ:kT K J H Hf ds)(hl:ds.length<=sizeLine)(hr:eI g tt te ρ ds=some rs)(hs:∀j∈sl,σc[j]?=some none)(q:∀Hf' H' ys,Ex Hf H Hf' H'->aR K Hf' rs ys->Q ys H'):vP J (gV K B sl g) (tV K B tt) (eV K B te) σc Q H:=by
 refine⟨λi m ys H'=>m=ds.length - i/\i<=ds.length/\∃Hf' done l,Ex Hf H Hf' H'/\aR K Hf' done ys/\done.length<=i/\eI g tt te ρ (ds.drop i)=some l/\rs=done++l,⟨ds.length,'m',ie _,Hf,[],rs,.refl I.fh,.nil,dc _,hr,rfl⟩,?_⟩;rintro i m ys H' ⟨rfl,hi,Hf',done,l,A,dn,hdl,h,o⟩;have ok:=hJ Hf' H' A.hh A.ff A.fh i;by_cases r:i<ds.length
 ·obtain⟨go,M⟩:=ok.1 ds[i] (by simp[r])
  have hyl:=dn.length;refine .inr ⟨go,'o',λs C=>∃f a c,Ex Hf H f C/\aR K f a s/\a.length<=i+1/\eI g tt te ρ (ds.drop (i+1))=some c/\rs=a++c,λs C ⟨f,a,c,E,F,R,T,U⟩=>⟨ds.length - (i+1),'o',rfl,r,f,a,c,E,F,R,T,U⟩,λx C y=>?_⟩;have⟨f,p,dx⟩:=M x C y;rw[ke r]at h;unfold eI at h;have⟨ρ1,hg,h⟩:=bind_some h;have⟨b,hb,h⟩:=bind_some h;have e2:=A.trans p;refine⟨f,ρ,_,ρ1,I.ext e2,dx,hg,λX N G Y=>⟨⟨G,λj v O=>?_⟩,f,ρ1,b,N,hb,λu H3 n=>?_⟩⟩
  ·rw[Y j λz=>?_]
   ·exact O
   ·have:=hs j z
    rw[O]at this;cases this
  ·have P:=e2.trans n
   cases b with
   |true =>
    rw[ya rfl]at h;show if true=true then _ else _
    rw[ya rfl];have⟨y,hy,h⟩:=bind_some h;have⟨t',E,F⟩:=pc.mp h;subst F;refine⟨u,ρ1,y,N.ext n,hy,λL H4 v w Z=>⟨L,done++[y],t',P.trans w,?_,by simp;omega,E,by rw[o];simp⟩⟩;exact(dn.same ((p.trans n).trans w).ff).zsnoc Z
   |false =>
    rw[ic bb]at h;show if false=true then _ else _
    rw[ic bb];exact⟨u,done,l,P,dn.same (p.trans n).ff,'o',h,o⟩
 ·have e:i=ds.length:=by omega
  subst e;refine .inl ⟨ok.2 (dc _),?_⟩;rw[ki]at h;unfold eI at h;cases h;rw[zc]at o;subst o;exact q Hf' H' ys A dn
def o6:kK X [] (tV X.K B λ_=>some true):=λa s c H Q I h=>Mj a s c H Q I (by
 obtain⟨Hf,ρ,b,e,f,q⟩:=h;cases f;exact q Hf H (.refl e.fh))
def tO(h:PT X c (tV X.K B tt)):kK X [c] (tV X.K B tt):=DR h
variable {scope:Scope}{vars:U8}{cap:U7}{sl:U7}
def E5(hn:cap.Nodup)(i:sl.all (·<vars.length)=true)(h:eW X.K B (dJ vars.length cap fi g tt te) σ H Q) :
  zF (iB X.K B fi) (gV X.K B sl g) (tV X.K B tt) (eV X.K B te) vars.length cap σ H Q:=by
 obtain⟨Hf,ρ,rs,I,hz,q⟩:=h;have⟨ds,m,hz⟩:=bind_some hz
 split at hz
 ·rename_i hl
  refine⟨Hf,ρ,ds,I,m,λJ l r b ok=>Oz ((I.ext b).comp hn) ok hl hz (λj c=>?_) λe s ys a dn=>⟨?_,λp f=>?_⟩⟩
  ·have c:=lc.mp i j c
   have c:j<vars.length:=by simpa using c
   unfold gy;rw[mf (by simpa using c),cg,ya c]
  ·rw[<-dn.length];exact re (wE hz) hl
  ·have n:=(b.trans a).trans (Ex.made (o:=.lst ys) a.fh f)
   exact q e _ p ys n ((b.trans a).hh.free f) (a.fh.free f) aT dn
 ·cases hz
def lN(c:X.calm=true)(S:bZ X scope)(a:∀i∈cap,i<X.N.length/\scope.names.lookup (X.N.getD i "")≠some .local)(hn:cap.Nodup)(b:sl.all (·<vars.length)=true)(e:PI X tg iter (iB X.K B fi))(f:∀s H C ex,PG (cK X scope C vars cap s H ex) tg (gV X.K B sl g))(j:∀s H C ex,kK (cK X scope C vars cap s H ex) ifs (tV X.K B tt))(l:∀s H C ex,PE (cK X scope C vars cap s H ex) elt (eV X.K B te))(hs:∀x,foldedSetIterable iter X.env x=pure x:=by intro _;rfl):PE X (.ListComp elt [⟨tg,iter,ifs,0⟩] scope pos) (eW X.K B (dJ vars.length cap fi g tt te)) :=
 (zG c S a e f j l hs).imp λm H Q h=>E5 hn b h
def iq(f:al->U0):al->U0:=λρ=>(f ρ).bind λds=>if ds.length<=sizeLine then some ds else none
def o7(h:PA X es (aV X.K B fr)):PE X (.List es pos) (eW X.K B (iq fr)):=(sQ h).imp λg H Q ⟨Hf,ρ,z,I,hz,q⟩=>by
 have⟨ds,f,hz⟩:=bind_some hz
 split at hz
 ·rename_i hl
  cases hz;refine⟨Hf,ρ,_,I,f,λc i vs b a=>⟨by rw[<-a.length];exact hl,λp e=>?_⟩⟩
  exact q c _ p vs (b.trans (Ex.made (o:=.lst vs) b.fh e)) (b.hh.free e) (b.fh.free e) aT a
 ·cases hz
noncomputable def gQ:U4->U0
 |[.lst ds]=>some ds
 |[.tup ds]=>some ds
 |_=>none
def wN(g:U4->U0)(fr:al->U0):al->U0:=λρ=>(fr ρ).bind g
def tP(l:Gl X "list")(hm:X.mg "list" = none)(m:PA X [a] (aB X.K B fr))(n:starEach [a] X.env=[(false,eval a X.env)]:=by rfl):PE X (.Call (.Name "list" p) [a] [] pos) (eW X.K B (wN gQ fr)) :=
 (zv vY l hm qC m 'd' 'd' n rfl).imp λr H Q ⟨Hf,ρ,z,I,hz,q⟩=>by
  have⟨ds,j,hz⟩:=bind_some hz;refine⟨Hf,ρ,ds,I,j,λe s vs b f=>?_⟩;unfold gQ at hz
  split at hz
  ·cases hz
   obtain⟨x,rfl,g⟩:=h8 f;obtain⟨a,ys,rfl,h,i⟩:=g.lst b.fh;exact⟨ys,.inl h,λp c=>q e _ p ys (b.trans (Ex.made (o:=.lst ys) b.fh c)) (b.hh.free c) (b.fh.free c) aT i⟩
  ·cases hz
   obtain⟨x,rfl,g⟩:=h8 f;obtain⟨a,ys,rfl,h,i⟩:=g.tup;exact⟨ys,.inr (b.fh.seqT h),λp c=>q e _ p ys (b.trans (Ex.made (o:=.lst ys) b.fh c)) (b.hh.free c) (b.fh.free c) aT i⟩
  ·cases hz
end
inductive aO where
 |nx (ρ:al)|bk (ρ:al)|ct (ρ:al)|rt (d:D)|rw (ds:U4)|bad
def fR(K:Fg1)(B:Bs)(a:Hp)(o:aO)(D:iD):Prop:=match o with
 |.nx ρ=>∀Hf σ H,aH a Hf->VI K B Hf ρ σ H->D.nx σ H
 |.bk ρ=>∀Hf σ H,aH a Hf->VI K B Hf ρ σ H->D.bk σ H
 |.ct ρ=>∀Hf σ H,aH a Hf->VI K B Hf ρ σ H->D.ct σ H
 |.rt d=>∀Hf H v,Ex B.f B.h Hf H->Dn K Hf d v->D.rt v H
 |.rw ds=>∀Hf H p xs,Ex B.f B.h Hf H->B.h p=none->Hf p=none->H p=some (.lst xs)->aR K Hf ds xs->D.rt (.ref p) H
 |.bad=>False
def sV(K:Fg1)(B:Bs)(f:al->aO):TS:=λD σ H=>∃Hf ρ,VI K B Hf ρ σ H/\fR K B Hf (f ρ) D
theorem fR.mono{K:Fg1}{B:Bs}{b c:Hp}{o:aO}{D:iD}(h:fR K B b o D)(s:aH b c):fR K B c o D:=by
 cases o with
 |nx ρ=>exact λHf a H z=>h Hf a H (s.trans z)
 |bk ρ=>exact λHf a H z=>h Hf a H (s.trans z)
 |ct ρ=>exact λHf a H z=>h Hf a H (s.trans z)
 |rt d=>exact h
 |rw d=>exact h
 |bad=>exact h
def cr:al->aO:=λρ=>.nx ρ
def aY(f g:al->aO):al->aO:=λρ=>match f ρ with|.nx ρ'=>g ρ'|o=>o
def bT(ft:al->Y3)(f g:al->aO):al->aO:=λρ=>match ft ρ with|some true=>f ρ|some false=>g ρ|none=>.bad
def bK(i:Nat)(fe:al->U5):al->aO:=λρ=>match fe ρ with|some d=>.nx (ρ.set i (some (.sh d)))|none=>.bad
def ir(i:Nat)(fe:al->U0):al->aO:=λρ=>match fe ρ with|some d=>.nx (ρ.set i (some (.ow d)))|none=>.bad
def kr(g:D->al->Option al)(fe:al->U5):al->aO:=λρ=>match (fe ρ).bind λd=>g d ρ with|some ρ'=>.nx ρ'|none=>.bad
def i7(fe:al->U5):al->aO:=λρ=>match fe ρ with|some _=>.nx ρ|none=>.bad
def bI(fe:al->U5):al->aO:=λρ=>match fe ρ with|some d=>.rt d|none=>.bad
def jJ(fe:al->U0):al->aO:=λρ=>match fe ρ with|some d=>.rw d|none=>.bad
def lO(i:Nat):al->aO:=λρ=>match ρ[i]? with|some (some (.ow ds))=>.rw ds|_=>.bad
def o8:al->aO:=λ_=>.rt .non
def eR(i:Nat)(fe:al->U5):al->aO:=λρ=>match ρ[i]? with
 |some (some (.ow ds))=>match fe ρ with|some d=>if ds.length<sizeLine then .nx (ρ.set i (some (.ow (ds++[d])))) else .bad|none=>.bad
 |_=>.bad
def jK(i:Nat)(f:al->aO):al->aO:=λρ=>match ρ[i]? with|some (some (.ow ds))=>f (ρ.set i (some (.sh (.lst ds))))|_=>f ρ
def eS(g:D->al->Option al)(f:al->aO):U4->al->aO
 |[],ρ=>.nx ρ
 |d::r,ρ=>match g d ρ with
  |none=>.bad
  |some ρ1=>match f ρ1 with
   |.nx a=>eS g f r a
   |.ct a=>eS g f r a
   |.bk a=>.nx a
   |o=>o
def ek(fi:al->U0)(g:D->al->Option al)(f:al->aO):al->aO:=λρ=>match fi ρ with|some ds=>eS g f ds ρ|none=>.bad
section
variable {X:Cx}{B:Bs}{K:Fg1}{st:Stmt}{sts:Yc}{e a:Expr}{h:al->aO}{fe fa:al->U5}{pos:Pos}{sl:U7}
def PS.imp(h:PS X st t)(k:∀D σ H,t' D σ H->t D σ H):PS X st t':=λa s σ H D I q=>h a s σ H D I (k D σ H q)
def bv.imp(h:bv X sts t)(k:∀D σ H,t' D σ H->t D σ H):bv X sts t':=λa s σ H D I q=>h a s σ H D I (k D σ H q)
def e8:bv X [] (sV X.K B cr):=vC.imp λD a H ⟨Hf,ρ,I,q⟩=>q Hf a H (aH.refl _) I
theorem bN(c:PS X st (sV X.K B f))(h:bv X rest (sV X.K B g)):bv X (st::rest) (sV X.K B (aY f g)):=(dR c h).imp λD i H ⟨Hf,ρ,I,q⟩=>by
 refine⟨Hf,ρ,I,?_⟩;unfold aY at q
 cases e:f ρ with
 |nx ρ'=>rw[e]at q;exact λHf' a j z b=>⟨Hf',ρ',b,fR.mono q z⟩
 |bk ρ'=>rw[e]at q;exact q
 |ct ρ'=>rw[e]at q;exact q
 |rt d=>rw[e]at q;exact q
 |rw d=>rw[e]at q;exact q
 |bad=>rw[e]at q;exact q
def bF(a:PS X st (sV X.K B f)):bv X [st] (sV X.K B f):=g9 a
theorem eX(i:PT X c (tV X.K B ft))(j:bv X as (sV X.K B f))(l:bv X bs (sV X.K B g)):PS X (.If c as bs pos) (sV X.K B (bT ft f g)):=(sJ i j l).imp λD m H ⟨Hf,ρ,I,q⟩=>by
 unfold bT at q
 cases e:ft ρ with
 |none=>rw[e]at q;exact q.elim
 |some b =>
  rw[e]at q;refine⟨Hf,ρ,b,I,e,λh n a=>?_⟩
  cases b with
  |true=>rw[ya rfl];exact⟨h,ρ,I.ext a,fR.mono q a.ff⟩
  |false=>rw[ic bb];exact⟨h,ρ,I.ext a,fR.mono q a.ff⟩
theorem cN{i:Nat}{x:Str}{a:Pos}(h:X.N.Nodup)(j:X.N[i]?=some x)(l:dQ X.env.scope x)(m:PE X e (eV X.K B fe))(hs:W0 X e (some (.Name x a)) pos:=by rfl)(n:W3 X x:=by first|exact .inl rfl|exact .inr rfl|assumption):PS X (.Assign [.Name x a] e pos) (sV X.K B (bK i fe)):=(iG h j l m hs n).imp λD o H ⟨Hf,ρ,I,q⟩=>by
 unfold bK at q
 cases e:fe ρ with
 |none=>rw[e]at q;exact q.elim
 |some d=>rw[e]at q;exact⟨Hf,ρ,d,I,e,λc f v b g=>q c _ f b.ff ((I.ext b).set g)⟩
def VI.setO(I:VI K B Hf ρ σ H)(N:Ex Hf H Hf' H')(s:H p=none)(O:Hf' p=none)(C:H' p=some (.lst xs))(dn:aR K Hf' ds xs):VI K B Hf' (ρ.set i (some (.ow ds))) (σ.set i (some (.ref p))) H':=by
 have g:∀{j:Nat} {sl:Sl},(ρ.set i (some (.ow ds)))[j]?=some (some sl)->(j=i/\sl=.ow ds/\i<ρ.length)\/(j≠i/\ρ[j]?=some (some sl)):=λ{j sl} e=>by
  by_cases a:i=j
  ·subst a
   rw[om]at e
   cases q:ρ[i]? with
   |none=>rw[q]at e;cases e
   |some z =>
    rw[q]at e;simp at e;exact .inl ⟨rfl,e.symm,(wb.mp q).1⟩
  ·rw[ca a]at e
   exact .inr ⟨λz=>a z.symm,e⟩
 have G:=I.ext N;have A:B.h p=none:=I.ex.hh.free s
 have b:∀{j:Nat} {sl:Sl},ρ[j]?=some (some sl)->cz sl=true->σ[j]?≠some (some (.ref p)):=λ{j sl} e o z=>by
  have⟨v,w,m⟩:=I.ok j sl e;rw[z]at w;cases w
  cases sl with
  |sh d=>cases o
  |ow d=>obtain⟨c,f,e1,_,e2,_⟩:=m;cases e1;rw[s]at e2;cases e2
  |dk ks d=>obtain⟨c,f,e1,_,e2,_⟩:=m;cases e1;rw[s]at e2;cases e2
  |dt ks d=>obtain⟨c,f,e1,_,e2,_⟩:=m;cases e1;rw[s]at e2;cases e2
  |ob p0 ks d=>obtain⟨c,f,e1,_,e2,_⟩:=m;cases e1;rw[s]at e2;cases e2
 refine⟨G.ex,by simp[I.len],λj sl e=>?_,λj sl c e o q=>?_,λj k J L c e1 e2 E F n l=>?_⟩
 ·rcases g e with⟨rfl,rfl,hl⟩|⟨a,e⟩
  ·exact⟨.ref p,by rw[ab (by rw[<-I.len];exact hl)],p,xs,rfl,O,C,dn⟩
  ·have⟨u,w,m⟩:=G.ok j sl e
   exact⟨u,by rw[ca (λz=>a z.symm)];exact w,m⟩
 ·rcases g e with⟨rfl,rfl,hl⟩|⟨a,e⟩
  ·rw[ab (by rw[<-I.len];exact hl)]at q
   cases q;exact A
  ·rw[ca (λz=>a z.symm)]at q
   exact I.own j sl c e o q
 ·rcases g e1 with⟨rfl,rfl,hl⟩|⟨a,e1⟩
  ·rcases g e2 with⟨rfl,rfl,r⟩|⟨x,e2⟩
   ·rfl
   ·rw[ab (by rw[<-I.len];exact hl)]at n
    cases n;rw[ca (λz=>x z.symm)]at l
    exact absurd l (b e2 F)
  ·rw[ca (λz=>a z.symm)]at n
   rcases g e2 with⟨y,M,r⟩|⟨x,e2⟩
   ·rw[y,ab (by rw[<-I.len];exact r)]at l
    cases l;exact absurd n (b e1 E)
   ·rw[ca (λz=>x z.symm)]at l
    exact I.dis j k J L c e1 e2 E F n l
theorem qO(j:X.N.Nodup)(l:X.N[i]?=some x)(m:dQ X.env.scope x)(n:PE X e (eW X.K B fr))(hs:W0 X e (some (.Name x pos')) pos:=by rfl)(b:W3 X x:=by first|exact .inl rfl|exact .inr rfl|assumption):PS X (.Assign [.Name x pos'] e pos) (sV X.K B (ir i fr)):=(iG j l m n hs b).imp λD o H ⟨Hf,ρ,I,q⟩=>by
 unfold ir at q
 cases e:fr ρ with
 |none=>rw[e]at q;exact q.elim
 |some d=>rw[e]at q;exact⟨Hf,ρ,d,I,e,λa g p xs f h b c dn=>q a _ g f.ff (I.setO f h b c dn)⟩
def OA{f:Expr}{h:Y5}{a:Scope}{vars:U8}{cap:U7}{g:D->al->Option al}{c:Pos}(E:X.N.Nodup)(p:X.N[i]?=some x)(F:X.env.scope.names.lookup x=some .local)(G:X.calm=true)(S:bZ X a)(l:∀i∈cap,i<X.N.length/\a.names.lookup (X.N.getD i "")≠some .local)(hn:cap.Nodup)(r:sl.all (·<vars.length)=true)(J:PI X tg iter (iB X.K B fi))(L:∀s H C ex,PG (cK X a C vars cap s H ex) tg (gV X.K B sl g))(M:∀s H C ex,kK (cK X a C vars cap s H ex) h (tV X.K B n))(O:∀s H C ex,PE (cK X a C vars cap s H ex) f (eV X.K B o))(u:swapsWith (.ListComp f [⟨tg,iter,h,0⟩] a pos) (some (.Name x b)) c.line X.env=pure true:=by rfl)(hs:∀x,foldedSetIterable iter X.env x=pure x:=by intro _;rfl):PS X (.Assign [.Name x b] (.ListComp f [⟨tg,iter,h,0⟩] a pos) c) (sV X.K B (bK i (eL (dJ vars.length cap fi g n o)))) :=
 (Mm E p F G S l J L M O u hs).imp λD w H ⟨Hf,ρ,I,q⟩=>by
  unfold bK at q
  cases e:eL (dJ vars.length cap fi g n o) ρ with
  |none=>rw[e]at q;exact q.elim
  |some d =>
   rw[e]at q;exact EY (λR z=>E5 hn r z) (show eV X.K B _ w H _ from⟨Hf,ρ,d,I,e,λm y v j A=>q m _ y j.ff ((I.ext j).set A)⟩)
theorem OB(i:PE X e (eV X.K B fe))(j:PG X tg (gV X.K B sl gt))(hs:swapsWithSole [tg] e pos.line X.env=pure false:=by rfl)(l:swappedStores [tg] e X.env=pure none:=by rfl)(m:(assignEach [tg] X.env).map (·.2)=[assign tg X.env]:=by rfl):PS X (.Assign [tg] e pos) (sV X.K B (kr gt fe)):=(yY i j hs l m).imp λD n H ⟨Hf,ρ,I,q⟩=>by
 unfold kr at q
 cases e:fe ρ with
 |none=>rw[e]at q;exact q.elim
 |some d =>
  rw[e]at q
  cases e2:gt d ρ with
  |none=>simp only[cb,e2]at q;exact q.elim
  |some ρ' =>
   simp only[cb,e2]at q;exact⟨Hf,ρ,d,I,e,λa f v b g=>⟨a,ρ,d,ρ',I.ext b,g,e2,λc h _ _=>q a c f b.ff h⟩⟩
theorem OC(f:PE X e (eV X.K B fe))(hs:W0 X e none pos:=by rfl):PS X (.Expr e pos) (sV X.K B (i7 fe)):=(kG f hs).imp λD g H ⟨Hf,ρ,I,q⟩=>by
 unfold i7 at q
 cases e:fe ρ with
 |none=>rw[e]at q;exact q.elim
 |some d=>rw[e]at q;exact⟨Hf,ρ,d,I,e,λb c v a h=>q b _ c a.ff (I.ext a)⟩
theorem cG(g:PE X e (eV X.K B fe)):PS X (.Return (some e) pos) (sV X.K B (bI fe)):=(mw g).imp λD h H ⟨Hf,ρ,I,q⟩=>by
 unfold bI at q
 cases e:fe ρ with
 |none=>rw[e]at q;exact q.elim
 |some d=>rw[e]at q;exact⟨Hf,ρ,d,I,e,λa c v b f=>q a c v (I.ex.trans b) f⟩
theorem E6(i:PE X e (eW X.K B fr)):PS X (.Return (some e) pos) (sV X.K B (jJ fr)):=(mw i).imp λD j H ⟨Hf,ρ,I,q⟩=>by
 unfold jJ at q
 cases e:fr ρ with
 |none=>rw[e]at q;exact q.elim
 |some d=>rw[e]at q;exact⟨Hf,ρ,d,I,e,λa f p xs b g h c dn=>q a f p xs (I.ex.trans b) (I.ex.hh.free g) h c dn⟩
def OD(i:Nat)(h:X.N[i]?=some x:=by rfl)(j:cZ X.env.scope x:=by first|exact ac rfl|exact ud (ac rfl)|exact ud (ud rfl))(l:(x == 'g')=false:=by decide)(a:(x == 'c')=false:=by decide):PS X (.Return (some (.Name x p)) pos) (sV X.K B (lO i)):=(mw (cR h j l a)).imp λD m H ⟨Hf,ρ,I,q⟩=>by
 unfold lO at q
 split at q
 ·rename_i ds e
  obtain⟨v,b,p,xs,rfl,c,f,g⟩:=I.ok i _ e;exact⟨_,b,q Hf H p xs I.ex (I.own i _ p e rfl b) c f g⟩
 ·exact q.elim
def VI.mut(I:VI K B Hf ρ σ H)(m:ρ[i]?=some (some (.ow ds)))(s:σ[i]?=some (some (.ref p)))(dn:aR K Hf ds' xs'):VI K B Hf (ρ.set i (some (.ow ds'))) σ (aF H p (.lst xs')):=by
 have⟨v,n,a,xs,e1,L,R,_⟩:=I.ok i _ m;rw[s]at n;cases n;cases e1;have M:=I.own i _ p m rfl s;have C:i<ρ.length:=(wb.mp m).1
 have g:∀{j:Nat} {sl:Sl},(ρ.set i (some (.ow ds')))[j]?=some (some sl)->(j=i/\sl=.ow ds')\/(j≠i/\ρ[j]?=some (some sl)):=λ{j sl} e=>by
  by_cases l:i=j
  ·subst l
   rw[ab C]at e;cases e;exact .inl ⟨rfl,rfl⟩
  ·rw[ca l]at e
   exact .inr ⟨λz=>l z.symm,e⟩
 have fs:aH Hf (aF H p (.lst xs')):=λb o h=>by
  rw[aI (dP h L)];exact I.fh b o h
 refine⟨⟨I.ex.ff,λb o h=>?_,fs,I.ex.nw,I.ex.nf⟩,by simp[I.len],λj sl e=>?_,λj sl a e o q=>?_,λj k E F a e1 e2 G J y w=>?_⟩
 ·rw[aI (dP h M)];exact I.ex.hh b o h
 ·rcases g e with⟨rfl,rfl⟩|⟨l,e⟩
  ·exact⟨.ref p,s,p,xs',rfl,L,aT,dn⟩
  ·have⟨u,n,r⟩:=I.ok j sl e
   refine⟨u,n,?_⟩
   have x:∀{a:Addr},cz sl=true->u=.ref a->a≠p:=λ{a} o N O=>by
    subst N O;exact l (I.dis j i sl _ _ e m o rfl n s)
   cases sl with
   |sh d=>exact r
   |ow d=>obtain⟨a,xs,e1,e2,c,f⟩:=r;exact⟨a,xs,e1,e2,by rw[aI (x rfl e1)];exact c,f⟩
   |dk ks d=>obtain⟨a,xs,e1,e2,c,f⟩:=r;exact⟨a,xs,e1,e2,by rw[aI (x rfl e1)];exact c,f⟩
   |dt ks d=>obtain⟨a,xs,e1,e2,c,f⟩:=r;exact⟨a,xs,e1,e2,by rw[aI (x rfl e1)];exact c,f⟩
   |ob p0 ks d=>obtain⟨a,xs,e1,e2,c,f⟩:=r;exact⟨a,xs,e1,e2,by rw[aI (x rfl e1)];exact c,f⟩
 ·rcases g e with⟨rfl,rfl⟩|⟨l,e⟩
  ·rw[s]at q;cases q;exact M
  ·exact I.own j sl a e o q
 ·rcases g e1 with⟨rfl,rfl⟩|⟨l,e1⟩
  ·rcases g e2 with⟨rfl,rfl⟩|⟨P,e2⟩
   ·rfl
   ·exact I.dis _ k _ F a m e2 rfl J y w
  ·rcases g e2 with⟨A,Q⟩|⟨P,e2⟩
   ·rw[A]at w ⊢
    exact I.dis j _ E _ a e1 m G rfl y w
   ·exact I.dis j k E F a e1 e2 G J y w
def qP(z:X.N[i]?=some x)(A:PE X a (eV X.K B fa))(C:cZ X.env.scope x:=by first|exact ac rfl|exact ud (ac rfl)|exact ud (ud rfl))(l:(x == 'g')=false:=by decide)(m:(x == 'c')=false:=by decide)(f:attributeBase (.Name x p1) "append" X.env (eval (.Name x p1) X.env)=eval (.Name x p1) X.env:=by rfl)(h:((backTo p3 (starEach [a] X.env)).all (λx=>!x.1) && (backToKw p3 (keywordEach [] X.env)).all (λx=>x.1.isSome) && decide ([a].length+([]:List Keyword).length+'e'<30))=true:=by rfl)(g:(p2.endLine == p3.line)=true:=by rfl)(hs:W1 X [a] a []:=by rfl)(c:W2 X p3 []:=by rfl)(n:W0 X (.Call (.Attribute (.Name x p1) "append" p2) [a] [] p3) none pos:=by rfl) :
  PS X (.Expr (.Call (.Attribute (.Name x p1) "append" p2) [a] [] p3) pos) (sV X.K B (eR i fa)) :=
 (kG (qz plainAttrs_list PySem.F.slot_list_append PySem.F.type_list_append s9 (cR z C l m) (el A fL hs) f h g hs c) n).imp λD u H ⟨Hf,ρ,I,q⟩=>by
  unfold eR at q
  split at q
  ·rename_i ds e
   obtain⟨v,o,p,xs,rfl,G,r,s⟩:=I.ok i _ e;refine⟨_,o,.inl ⟨rfl,xs,bA.of r⟩,?_⟩
   split at q
   ·rename_i d l
    split at q
    ·rename_i y
     refine⟨Hf,ρ,d,I,l,λj E v b w=>?_⟩;refine⟨xs,b.hh _ _ r,by rw[<-s.length];exact y,q j u _ b.ff ?_⟩;exact(I.ext b).mut e o ((s.same b.ff).zsnoc w)
    ·exact q.elim
   ·exact q.elim
  ·exact q.elim
theorem VI.frz{Hf H:Hp}{ρ:al}{y:St}{i:Nat}{ds:U4}(I:VI K B Hf ρ y H)(h:ρ[i]?=some (some (.ow ds))):∃Hf',aH Hf Hf'/\VI K B Hf' (ρ.set i (some (.sh (.lst ds)))) y H:=by
 obtain⟨v,n,p,xs,rfl,f,J,dn⟩:=I.ok i _ h;have L:=I.own i _ p h rfl n;have M:=I.ex.frz L J f;refine⟨aF Hf p (.lst xs),eP f,M,by simp[I.len],λj sl e=>?_,λj sl a e o q=>?_,λj k z A a e1 e2 r s C E=>?_⟩
 ·by_cases c:i=j
  ·subst c
   rw[ab (wb.mp h).1]at e;cases e;exact⟨_,n,f7 (bA.of aT) (dn.same (eP f))⟩
  ·rw[ca c]at e
   have⟨u,w,l⟩:=I.ok j sl e;refine⟨u,w,?_⟩
   have m:∀{a:Addr},cz sl=true->u=.ref a->a≠p:=λ{a} o F G=>by
    subst F G;exact c (I.dis i j _ sl _ h e rfl o n w)
   cases sl with
   |sh d=>exact Dn.same l (eP f)
   |ow d=>obtain⟨a,xs,e1,e2,g,b⟩:=l;exact⟨a,xs,e1,by rw[aI (m rfl e1)];exact e2,g,aR.same b (eP f)⟩
   |dk ks d=>obtain⟨a,xs,e1,e2,g,b⟩:=l;exact⟨a,xs,e1,by rw[aI (m rfl e1)];exact e2,g,b.1,aR.same b.2 (eP f)⟩
   |dt ks d=>obtain⟨a,xs,e1,e2,g,b⟩:=l;exact⟨a,xs,e1,by rw[aI (m rfl e1)];exact e2,g,b.1,aR.same b.2 (eP f)⟩
   |ob p0 ks d=>obtain⟨a,xs,e1,e2,g,b⟩:=l;exact⟨a,xs,e1,by rw[aI (m rfl e1)];exact e2,g,b.1,aR.same b.2 (eP f)⟩
 ·by_cases c:i=j
  ·subst c
   rw[ab (wb.mp h).1]at e;cases e;cases o
  ·rw[ca c]at e
   exact I.own j sl a e o q
 ·by_cases c:i=j
  ·subst c
   rw[ab (wb.mp h).1]at e1;cases e1;cases r
  ·by_cases x:i=k
   ·subst x
    rw[ab (wb.mp h).1]at e2;cases e2;cases s
   ·rw[ca c]at e1
    rw[ca x]at e2;exact I.dis j k z A a e1 e2 r s C E
def wF(i:Nat)(h:bv X sts (sV X.K B f)):bv X sts (sV X.K B (jK i f)):=h.imp λD b H ⟨Hf,ρ,I,q⟩=>by
 unfold jK at q
 split at q
 ·rename_i ds e
  have⟨Hf',z,a⟩:=I.frz e;exact⟨Hf',_,a,fR.mono q z⟩
 ·exact⟨Hf,ρ,I,q⟩
theorem jL(Y:PassesOwn (model X.prog X.w) X.A X.env X.xe)(Z:X.calm=true)(P:PI X tg iter (iV X.K B fi))(C:PG X tg (gV X.K B sl gt))(hb:bv X body (sV X.K B f))(hs:∀x,foldedSetIterable iter X.env x=pure x:=by intro _;rfl):PS X (.For tg iter body [] pos) (sV X.K B (ek fi gt f)):=(oF Y Z P C hb hs).imp λD M H ⟨Hf,ρ,I,q⟩=>by
 unfold ek at q
 cases e:fi ρ with
 |none=>rw[e]at q;exact q.elim
 |some ds =>
  rw[e]at q;refine⟨Hf,ρ,ds,I,e,λJ b H1 u ok=>?_⟩;refine⟨λi m M H=>m=ds.length - i/\i<=ds.length/\∃h j,VI X.K B h j M H/\aH b h/\fR X.K B b (eS gt f (ds.drop i) j) D,⟨ds.length,'m',ie _,b,ρ,I.ext u,aH.refl _,fR.mono q u.ff⟩,?_⟩;rintro i m G O ⟨rfl,P,h,j,F,a,q⟩;have v:=ok h O (a.trans F.fh) a F.fh i;by_cases r:i<ds.length
  ·obtain⟨T,L⟩:=v.1 ds[i] (by simp[r])
   refine .inr ⟨T,λo N=>∃l E,VI X.K B l E o N/\aH b l/\fR X.K B b (eS gt f (ds.drop (i+1)) E) D,λo N z=>⟨ds.length - (i+1),'o',rfl,r,z⟩,λx Q y=>?_⟩;have⟨l,n,U⟩:=L x Q y;rw[ke r]at q;unfold eS at q
   cases C:gt ds[i] j with
   |none=>rw[C]at q;exact q.elim
   |some ρ1 =>
    simp only[C]at q;refine⟨l,j,_,ρ1,F.ext n,U,C,λo R _ _=>⟨l,ρ1,R,?_⟩⟩
    cases s:f ρ1 with
    |nx ρ'=>simp only[s]at q;exact λHf' c p z g=>⟨Hf',ρ',g,(a.trans n.ff).trans z,q⟩
    |ct ρ'=>simp only[s]at q;exact λHf' c p z g=>⟨Hf',ρ',g,(a.trans n.ff).trans z,q⟩
    |bk ρ'=>simp only[s]at q;exact λHf' c p z g=>q Hf' c p ((a.trans n.ff).trans z) g
    |rt d=>simp only[s]at q;exact q
    |rw d=>simp only[s]at q;exact q
    |bad=>simp only[s]at q;exact q.elim
  ·have e:i=ds.length:=by omega
   subst e;rw[ki]at q;exact .inl ⟨v.2 (dc _),q h G O a F⟩
end
def bY(n:Nat)(ds:U4):al:=ds.map (λd=>some (.sh d))++replicate (n - ds.length) none
def cE(np n:Nat)(f:al->aO)(ds:U4):U5:=if ds.length=np then (match f (bY n ds) with|.rt d=>some d|.rw es=>some (.lst es)|.nx _=>some .non|_=>none) else none
def iu(np n:Nat)(f:al->aO)(ds:U4):U0:=if ds.length=np then (match f (bY n ds) with|.rw es=>some es|_=>none) else none
def cw(K:Fg1)(np:Nat)(F:U4->U5):Sp:=λvs H Q _=>∃Hf ds d,aH Hf H/\aR K Hf ds vs/\ds.length=np/\F ds=some d/\∀Hf' H' v,Ex Hf H Hf' H'->Dn K Hf' d v->Q v H'
def mN(K:Fg1)(np:Nat)(F:U4->U0):Sp:=λvs H Q _=>∃Hf ds rs,aH Hf H/\aR K Hf ds vs/\ds.length=np/\F ds=some rs/\∀Hf' H' p xs,Ex Hf H Hf' H'->H p=none->Hf' p=none->H' p=some (.lst xs)->aR K Hf' rs xs->Q (.ref p) H'
def VI.init{K:Fg1}{N:U8}(s:aH Hf H)(h:aR K Hf ds vs):VI K ⟨Hf,H⟩ Hf (bY N.length ds) (hG N vs) H:=by
 have hl:=h.length
 have a:∀{i:Nat} {sl:Sl},(bY N.length ds)[i]?=some (some sl)->∃d,ds[i]?=some d/\sl=.sh d:=λ{i sl} e=>by
  unfold bY at e;by_cases f:i<ds.length
  ·rw[mf (by simpa using f),de]at e
   have⟨d,b,c⟩:=pc.mp e;exact⟨d,b,(ae c).symm⟩
  ·rw[bg (by simpa using f),cg]at e
   split at e <;> cases e
 refine⟨.refl s,by simp[bY,hG,hl],λi sl e=>?_,λi sl p e o=>?_,λi j m n p e1 e2 g=>?_⟩
 ·obtain⟨d,b,rfl⟩:=a e
  have⟨v,c,l⟩:=h.zget b;refine⟨v,?_,l⟩;have f:i<vs.length:=(wb.mp c).1;unfold hG;rw[mf (by simpa using f),de,c];rfl
 ·obtain⟨d,b,rfl⟩:=a e
  cases o
 ·obtain⟨d,b,rfl⟩:=a e1
  cases g
section
variable {K:Fg1}
def OE{st:Stmt}{N ps:U8}(F:d8 K x c st f u)(S:ax N ps (bj st))(i:∀(g:Value) (A:Around) (a:Yb) (s:Shared) (H:Hp) (E:XK) (B:Bs),aK k (A.deeper (envOfC c (bj st) s.heap.objs.size f g))->bv (gJ aZ P w K mg base N c (bj st) f g A a s H E).nox (fq st) (sV K B fs)):aG P w K mg base aZ (k+1) f u ps (cw K ps.length (cE ps.length N.length fs)):=by
 refine F.ok S (λvs H Q E h=>?_) (λg A a s H vs Q E y h=>?_)
 ·obtain⟨Hf,ds,d,_,n,o,_⟩:=h
  rw[<-o,n.length]
 ·obtain⟨Hf,ds,d,hs,n,o,b,q⟩:=h
  refine⟨_,i g A a s H E ⟨Hf,H⟩ y,Hf,bY N.length ds,VI.init hs n,?_⟩;unfold cE at b;rw[ya o]at b
  cases e:fs (bY N.length ds) with
  |rt d'=>rw[e]at b;cases b;exact λHf' j v l z=>q Hf' j v l z
  |rw es =>
   rw[e]at b;cases b;exact λHf' j p xs l C r m dn=>q _ j _ (l.frz C m r) (f7 (bA.of aT) (dn.same (eP r)))
  |nx ρ'=>rw[e]at b;cases b;exact λHf' G j _ I=>q Hf' j .non I.ex (b7 rfl)
  |bk ρ'=>rw[e]at b;cases b
  |ct ρ'=>rw[e]at b;cases b
  |bad=>rw[e]at b;cases b
def OF{st:Stmt}{N ps:U8}(F:d8 K x c st f n)(S:ax N ps (bj st))(i:∀(g:Value) (A:Around) (a:Yb) (s:Shared) (H:Hp) (E:XK) (B:Bs),aK k (A.deeper (envOfC c (bj st) s.heap.objs.size f g))->bv (gJ aZ P w K mg base N c (bj st) f g A a s H E).nox (fq st) (sV K B fs)):aG P w K mg base aZ (k+1) f n ps (mN K ps.length (iu ps.length N.length fs)):=by
 refine F.ok S (λvs H Q E h=>?_) (λg A a s H vs Q E o h=>?_)
 ·obtain⟨Hf,ds,d,_,l,m,_⟩:=h
  rw[<-m,l.length]
 ·obtain⟨Hf,ds,d,hs,l,m,b,q⟩:=h
  refine⟨_,i g A a s H E ⟨Hf,H⟩ o,Hf,bY N.length ds,VI.init hs l,?_⟩;unfold iu at b;rw[ya m]at b
  cases e:fs (bY N.length ds) with
  |rw es=>rw[e]at b;cases b;exact λHf' r p xs u v y j dn=>q Hf' r p xs u v y j dn
  |rt d'=>rw[e]at b;cases b
  |nx ρ'=>rw[e]at b;cases b
  |bk ρ'=>rw[e]at b;cases b
  |ct ρ'=>rw[e]at b;cases b
  |bad=>rw[e]at b;cases b
end
section
variable {X:Cx}{pos:Pos}
def bH(np:Nat)(F:U4->U5)(fr:al->U0):al->U5:=λρ=>(fr ρ).bind λds=>if ds.length=np then F ds else none
def gC(np:Nat)(F:U4->U0)(fr:al->U0):al->U0:=λρ=>(fr ρ).bind λds=>if ds.length=np then F ds else none
def dG(G:aG X.prog X.w X.K X.mg X.base aZ k f fd ps (cw X.K np F))(o:aK k X.A)(r:Gl X x)(hm:X.mg x=some (.ref f))(s:keepIn X.K (.ref f)=true)(u:cB X.K fd ps [])(y:PA X (e::es) (aV X.K B fr))(g:(x == 'g')=false:=by decide)(C:W1 X (e::es) e es:=by rfl)(h:W2 X pos es:=by rfl):PE X (.Call (.Name x p) (e::es) [] pos) (eV X.K B (bH np F fr)) :=
 (kI G o r hm s u .nil iM y g C h).imp λE H Q ⟨Hf,ρ,z,I,hz,q⟩=>by
  have⟨ds,n,hz⟩:=bind_some hz
  split at hz
  ·rename_i hn
   refine⟨Hf,ρ,ds,I,n,λb i vs a c=>?_⟩;show cw X.K np F (vs++[]) i Q E0;rw[zc];exact⟨b,ds,z,a.fh,c,hn,hz,λHf' j v l m=>q Hf' j v (a.trans l) m⟩
  ·cases hz
def nK(G:aG X.prog X.w X.K X.mg X.base aZ k f fd ps (mN X.K np F))(s:aK k X.A)(u:Gl X x)(hm:X.mg x=some (.ref f))(v:keepIn X.K (.ref f)=true)(y:cB X.K fd ps [])(C:PA X (e::es) (aV X.K B fr))(h:(x == 'g')=false:=by decide)(E:W1 X (e::es) e es:=by rfl)(i:W2 X pos es:=by rfl):PE X (.Call (.Name x p) (e::es) [] pos) (eW X.K B (gC np F fr)) :=
 (kI G s u hm v y .nil iM C h E i).imp λJ H Q ⟨Hf,ρ,z,I,hz,q⟩=>by
  have⟨ds,r,hz⟩:=bind_some hz
  split at hz
  ·rename_i hn
   refine⟨Hf,ρ,ds,I,r,λb j vs a c=>?_⟩;show mN X.K np F (vs++[]) j Q E0;rw[zc];exact⟨b,ds,z,a.fh,c,hn,hz,λHf' l p xs m n o g dn=>q Hf' l p xs (a.trans m) (a.hh.free n) o g dn⟩
  ·cases hz
def i8(np:Nat)(F:U4->U5)(fr:al->U0):al->U5:=λρ=>(fr ρ).bind λds=>if ds.length=np then (F ds).bind λd=>match d with|.sc v=>some (.sc v)|_=>none else none
def E7(G:aG X.prog X.w X.K X.mg X.base aZ k f fd ps (cw X.K np F))(s:aK k X.A)(u:Gl X x)(hm:X.mg x=some (.ref f))(y:keepIn X.K (.ref f)=true)(C:cB X.K fd ps [])(E:PA X (e::es) (aB X.K B fr))(j:(x == 'g')=false:=by decide)(J:W1 X (e::es) e es:=by rfl)(l:W2 X pos es:=by rfl):PE X (.Call (.Name x p) (e::es) [] pos) (eV X.K B (i8 np F fr)) :=
 (kI G s u hm y C .nil iM E j J l).imp λL H Q ⟨Hf,ρ,z,I,hz,q⟩=>by
  have⟨ds,o,hz⟩:=bind_some hz
  split at hz
  ·rename_i hn
   have⟨d,r,hz⟩:=bind_some hz
   split at hz
   ·cases hz
    refine⟨Hf,ρ,ds,I,o,λa c vs b g=>?_⟩;show cw X.K np F (vs++[]) c Q E0;rw[zc];refine⟨c,ds,_,aH.refl _,g.zmap λ_ _ z=>z.whole b.fh,hn,r,λHf' H' v m n=>?_⟩;have i:Ex a c a H':=⟨aH.refl _,m.hh,b.fh.trans m.hh,λ_ h=>.inl h,λ_ _ _ h=>h⟩
    obtain⟨fl,rfl⟩:=n.sc;exact q a H' _ (b.trans i) (b7 fl)
   ·cases hz
  ·cases hz
end
noncomputable def LF:U7:=[97,98,99,100,101,102,103,104,105,106,107,108,109,110,111,112,113,114,115,116,117,118,119,120,121,122,65,66,67,68,69,70,71,72,73,74,75,76,77,78,79,80,81,82,83,84,85,86,87,88,89,90,48,49,50,51,52,53,54,55,56,57]
noncomputable def SG:U7:=[97,98,99,100,101,102,103,104,105,106,107,108,109,110,111,112,113,114,115,116,117,118,119,120,121,122,65,66,67,68,69,70,71,72,73,74,75,76,77,78,79,80,81,82,83,84,85,86,87,88,89,90,48,49,50,51,52,53,54,55,56,57,45]
def dZ{K:Fg1}{a:Str}{st:Stmt}{N ps:U8}(m:l=cE h nN fs)(n:ps.length=h)(o:N.length=nN)(F:d8 K x a st f j)(S:ax N ps (bj st))(c:∀(g:Value) (A:Around) (e:Yb) (s:Shared) (H:Hp) (E:XK) (B:Bs),aK k (A.deeper (envOfC a (bj st) s.heap.objs.size f g))->bv (gJ aZ P w K i b N a (bj st) f g A e s H E).nox (fq st) (sV K B fs)):aG P w K i b aZ (k+1) f j ps (cw K h l):=by
 subst m n o;exact OE F S c
def wG{K:Fg1}{a:Str}{st:Stmt}{N ps:U8}(m:l=iu h nN fs)(n:ps.length=h)(o:N.length=nN)(F:d8 K x a st f j)(S:ax N ps (bj st))(c:∀(g:Value) (A:Around) (e:Yb) (s:Shared) (H:Hp) (E:XK) (B:Bs),aK k (A.deeper (envOfC a (bj st) s.heap.objs.size f g))->bv (gJ aZ P w K i b N a (bj st) f g A e s H E).nox (fq st) (sV K B fs)):aG P w K i b aZ (k+1) f j ps (mN K h l):=by
 subst m n o;exact OF F S c
section
variable {X:Cx}{K:Fg1}{a:Expr}{fa fb:al->U5}{pos:Pos}
def OG(h:x=S l)(a:Gl X n)(hm:X.mg n=some (.str x tk))(b:(n == 'g')=false:=by decide):PE X (.Name n pos) (eV X.K B (eC (.str l))):=by
 subst h;exact tG rfl (vB (v:=.str (S l)) a hm ⟨tk,rfl⟩ b)
def OH(hf:∀i j,dL (h i j)=true)(E:P2 K r' g')(hh:eV K B (qH (e7 h) g' fa fb fc) G H Q):Dk (eO h) r' (eB K B fa) (eB K B fb) (eB K B fc) G H Q:=by
 obtain⟨Hf,ρ,z,I,hz,q⟩:=hh;have⟨d,U,hz⟩:=bind_some hz;have⟨e,X,hz⟩:=bind_some hz;have⟨k,Y,hz⟩:=bind_some hz;have⟨m,hm,l⟩:=bind_some hz;clear hz;refine⟨Hf,ρ,d,I,U,λn H1 x c J=>⟨n,ρ,e,I.ext c,X,λo L y a F=>?_⟩⟩;have A:=F;refine(nG (K:=K) hf) o L x y d e k _ a.fh (J.ext a) F Y λf M v g N=>?_
 unfold f8 at hm
 split at hm
 ·cases hm
  refine⟨m,N.bl,?_⟩;have C:=(c.trans a).trans g
  cases m with
  |true =>
   rw[ya rfl]at l ⊢;have⟨w,Z,hz⟩:=bind_some l;exact⟨f,ρ,w,I.ext C,Z,λp O u b P=>E p O y u e w z Q b.fh ((A.ext g).ext b) P hz λHf' R T r s=>q Hf' R T ((C.trans b).trans r) s⟩
  |false=>rw[ic bb]at l ⊢;cases l;exact q f M _ C (b7 rfl)
 ·cases hm
def E8(l:bx X (compareOp op) (eO h))(m:∀i j,dL (h i j)=true)(f:bx X (compareOp e) r')(g:P2 X.K r' g')(n:PE X a (eB X.K B fa))(o:PE X b (eB X.K B fb))(p:PE X c (eB X.K B fc))(hm:lastMarks [op,e] [b,c]=false:=by with_unfolding_all rfl):PE X (.Compare a [op,e] [b,c] pos) (eV X.K B (qH (e7 h) g' fa fb fc)):=(Lb l f n o p hm).imp λq H Q z=>OH m g z
theorem An:∀a:Y7,aR K H (a.map D.int) (a.map V.int)
 |[]=>.nil
 |n::r=>.cons (b7 rfl) (An r)
noncomputable def kt:D->Bool|.sc .non=>true|_=>false
def o9(d e:D):U5:=match e with|.sc .non=>some (.bl (kt d))|_=>none
def E9:bx X (compareOp .Is) (λx y H Q=>y=.non/\Q (.bl (decide (x=.non))) H):=K7
theorem OI(s:aH Hf H)(h:cL K Hf H d x):decide (x=V.non)=kt d:=by
 cases d with
 |sc v=>rw[h.sc.2];cases v <;> simp[kt]
 |tup ds=>obtain⟨a,xs,rfl,_⟩:=h.tup;simp[kt]
 |lst ds=>obtain⟨a,xs,rfl,_⟩:=h.lst s;simp[kt]
 |dk ks ds=>obtain⟨a,xs,rfl,_⟩:=h.dk s;simp[kt]
 |dt ks ds=>obtain⟨a,xs,rfl,_⟩:=h.dt s;simp[kt]
 |er n ks ds=>obtain⟨a,C,b,fs,rfl,_⟩:=h.ob s;simp[kt]
def Fa:P2 K (λx y H Q=>y=.non/\Q (.bl (decide (x=.non))) H) o9:=by
 intro Hf H x y d e z Q s a b hz q;unfold o9 at hz
 split at hz
 ·cases hz
  exact⟨b.sc.2,by rw[OI s a];exact q Hf H _ (.refl s) (b7 rfl)⟩
 ·cases hz
end
def OJ(h:f ρ=.nx ρ'):aY f g ρ=g ρ':=by unfold aY;rw[h]
def st(h:f ρ=.nx ρ')(k:g ρ'=o):aY f g ρ=o:=(OJ h).trans k
def wH(h:f ρ=.rt d):aY f g ρ=.rt d:=by unfold aY;rw[h]
def mO(h:ft ρ=some true):bT ft f g ρ=f ρ:=by unfold bT;rw[h]
def fE(h:ft ρ=some false):bT ft f g ρ=g ρ:=by unfold bT;rw[h]
def cv(h:fe ρ=some d):bK i fe ρ=.nx (ρ.set i (some (.sh d))):=by unfold bK;rw[h]
def eu(h:fe ρ=some d):bI fe ρ=.rt d:=by unfold bI;rw[h]
def Fb(h:fe ρ=some d):jJ fe ρ=.rw d:=by unfold jJ;rw[h]
def i9(h:fi ρ=some ds)(a:eS g f ds ρ=o):ek fi g f ρ=o:=by unfold ek;rw[h];exact a
def dN(hl:ds.length=np)(h:f (bY n ds)=.rt d):cE np n f ds=some d:=by unfold cE;rw[ya hl,h]
def wI(hl:ds.length=np)(h:f (bY n ds)=.rw d):iu np n f ds=some d:=by unfold iu;rw[ya hl,h]
def aD(a:fa ρ=some d)(b:fb ρ=some e)(c:g d e=some z):e2 g fa fb ρ=some z:=by unfold e2;rw[a,b];exact c
def bU(a:fr ρ=some ds)(b:g ds=some z):eN g fr ρ=some z:=by unfold eN;rw[a];exact b
def cX(a:fr ρ=some ds)(hn:ds.length=np)(b:F ds=some z):bH np F fr ρ=some z:=by unfold bH;rw[a];show (if ds.length=np then F ds else none)=_;rw[ya hn];exact b
def wJ(a:fr ρ=some ds)(b:g ds=some xs):iR g fr ρ=some xs:=by unfold iR;rw[a];exact b
def iP(a:fa ρ=some d)(b:kq d=some xs):iE fa ρ=some xs:=by unfold iE;rw[a];exact b
def fF(a:f ρ=some xs):eL f ρ=some (.lst xs):=by unfold eL;rw[a];rfl
def lP(a:fi ρ=some ds)(hl:ds.length<=sizeLine)(b:eI g tt te (i6 n cap ρ) ds=some rs):dJ n cap fi g tt te ρ=some rs:=by unfold dJ;rw[a];show (if ds.length<=sizeLine then _ else _)=_;rw[ya hl];exact b
def gj(h:gz d e=some b):bR d e=some (.bl b):=by unfold bR;rw[h];rfl
def nL(h:gz d e=some b):bX d e=some (.bl (!b)):=by unfold bX;rw[h];rfl
def OK(h:lL d e=some b):i4 d e=some (.bl (!b)):=by unfold i4;rw[h];rfl
def aL(a:fa ρ=some d)(b:fr ρ=some ds):aC fa fr ρ=some (d::ds):=by unfold aC;rw[a,b];rfl
def Fc(h:fa ρ=some true):c8 fa fb ρ=some true:=by unfold c8;rw[h];rfl
def tQ(h:fa ρ=some false)(a:fb ρ=some b):c8 fa fb ρ=some b:=by unfold c8;rw[h];exact a
def Ao(h:fa ρ=some false):dH fa fb ρ=some false:=by unfold dH;rw[h];rfl
def tR(h:fa ρ=some true)(a:fb ρ=some b):dH fa fb ρ=some b:=by unfold dH;rw[h];exact a
def qQ(h:fa ρ=some b):eQ fa ρ=some (!b):=by unfold eQ;rw[h];rfl
def Ap(h:fa ρ=some b):eT fa ρ=some (.bl b):=by unfold eT;rw[h];rfl
def bP(h:fa ρ=some (.bl b)):tE fa ρ=some b:=by unfold tE;rw[h];rfl
theorem tS(a:α->D)(p:α->Bool)(k:α->D):∀(xs:List α),(∀x∈xs,∃ρ1,g (a x) ρ=some ρ1/\c ρ1=some (p x)/\(p x=true->e ρ1=some (k x)))->eI g c e ρ (xs.map a)=some ((xs.filter p).map k)
 |[],_=>rfl
 |x::r,h=>by
  obtain⟨ρ1,i,j,l⟩:=h x 'm';have m:=tS a p k r λy f=>h y (by simp[f])
  rw[ma,eI,i,cb,j,cb,m]
  cases b:p x with
  |true=>rw[ya rfl,l b,kh b];rfl
  |false=>rw[ic bb,jh (by simp[b])]
def qR(a:α->D)(k:α->D)(xs:List α)(h:∀x∈xs,∃ρ1,g (a x) ρ=some ρ1/\b ρ1=some true/\c ρ1=some (k x)):eI g b c ρ (xs.map a)=some (xs.map k):=by
 rw[tS a (λ_=>true) k xs λx e=>let ⟨ρ1,f,i,j⟩:=h x e;⟨ρ1,f,i,λ_=>j⟩]
 congr 1
 congr 1
 exact cu.mpr λ_ _=>rfl
def OL(l:U7):kq (.sc (.str (S l)))=some (l.map λc=>.str [c]):=rfl
def iQ(l m:U7)(h:l.length+m.length<=sizeLine):bG (.sc (.str (S l))) (.sc (.str (S m)))=some (.str (l++m)):=by
 unfold bG;dsimp only;rw[ya (by rw[lK,lK];exact h),zZ]
def Aq(c:Nat)(l:U7):lL (.sc (.str (S [c]))) (.sc (.str (S l)))=some (decide (c∈l)):=by
 unfold lL;dsimp only;rw[Ni]
def OM(c:Nat)(l:U7)(h:c∈l):tM (.sc (.str (S l))) [.sc (.str (S [c]))]=some (.int (dF c l)):=by
 have⟨r,e⟩:=Nj l c 1 (dc _) h;unfold tM;dsimp only;rw[e];rfl
def Ar(l:U7)(j:Nat)(h:l.length<=sizeLine):hX (.sc (.str (S l))) none (some (j:Int))=some (.str (l.take j)):=by
 unfold hX;dsimp only;rw[ya (by rw[lK];exact h),Nr]
def Fd(l:U7)(i:Nat)(h:l.length<=sizeLine)(a:i<=l.length):hX (.sc (.str (S l))) (some (i:Int)) none=some (.str (l.drop i)):=by
 unfold hX;dsimp only;rw[ya (by rw[lK];exact h),Nt _ _ a]
theorem Fe:∀(a:List U7),qN (a.map D.str)=some (a.map S)
 |[]=>rfl
 |x::r=>by
  show (qN (r.map D.str)).map (S x::·)=_;rw[Fe r];rfl
def ON(a:U7)(b:List U7)(h:(b.map length).sum+b.length * a.length<=16777216):tN (.sc (.str (S a))) [.lst (b.map D.str)]=some (.str (oO a b)):=by
 unfold tN;dsimp only;rw[Fe,cb,ya,Nu];rw[md];have e:(λx:Str=>x.length) ∘ S=length:=by funext l;exact lK l
 show (b.map ((λx:Str=>x.length) ∘ S)).sum+_<=_;rw[e,aa,lK];exact h
def OO(h:c z=true):wA c f (.sc (.str z)) []=some (.sc (f z)):=ya h
def OP(h:∀c∈l,c<128)(hl:l.length<=sizeLine):wB (.sc (.str (S l))) []=some (.str (l.map lo1)):=by
 have e:=OO (c:=λ z=>!Builtin.Str.tooLong (Txt.lower z).length) (f:=λ z=>V.str (Txt.lower z)) (z:=S l) (by
  show (!Builtin.Str.tooLong (Txt.lower (S l)).length)=true;rw[Ee h,lK,aa];unfold Builtin.Str.tooLong;simp;exact hl)
 unfold wB;rw[e];show some (D.sc (V.str (Txt.lower (S l))))=_;rw[Ee h]
def fG(h:0<j/\j<1073741824):cV (.int i) (.int j)=some (.int (i / j)):=by
 unfold cV gP;exact ya (qc h)
def cO(h:0<j):bM (.int i) (.int j)=some (.int (i % j)):=by
 unfold bM gP;exact ya (qc h)
def nM(h:lM i j=true):gA (.int i) (.int j)=some (.int (i * j)):=by
 unfold gA gP;exact ya h
def Ff(h:IntMulOk i j):lM i j=true:=by
 unfold IntMulOk at h;unfold lM;rw[Bool.not_eq_true'];exact lg.mpr h
def OQ(h:-(2 ^ 64)<i/\i<2 ^ 64):lM i j=true:=Ff (vK.ok (.inl h))
def pe(h:-(2 ^ 64)<j/\j<2 ^ 64):lM i j=true:=Ff (vK.ok (.inr h))
def gR:bG (.int i) (.int j)=some (.int (i+j)):=rfl
def Fg:mH (.int i) (.int j)=some (.int (i - j)):=rfl
def wK:nH (.int i) (.int j)=some (.bl (decide (i<j))):=rfl
def tT:oZ (.int i) (.int j)=some (.bl (decide (i<=j))):=rfl
def pk:i5 (.int i) (.int j)=some (.bl (decide (j<i))):=rfl
def wL:kO (.int i) (.int j)=some (.bl (decide (j<=i))):=rfl
def gS:gz (.int i) (.int j)=some (decide (i=j)):=by
 unfold gz;dsimp only;rw[ya ⟨rfl,by simp[kM]⟩,qL];rfl
def OR:gz (.bl i) (.bl j)=some (i == j):=by
 unfold gz;dsimp only;rw[ya ⟨rfl,by simp[kM]⟩];rfl
def OS(b:Bool):wz [.bl b]=some (.int (if b then 1 else 0)):=rfl
def OT(b:0<=i)(f:i<xs.length):∃c,c∈xs/\eK xs i=some c:=by
 have a:i.toNat<xs.length:=by omega
 have e:((i.toNat:Nat):Int)=i:=by omega
 have h:=zx (xs:=xs) (j:=i.toNat) (v:=xs[i.toNat]) (by simp[a]);rw[e]at h;exact⟨xs[i.toNat],rf a,h⟩
def OU(hl:l.length<=sizeLine)(h:eK l i=some c):bq (.sc (.str (S l))) (.int i)=some (.str [c]):=by
 unfold bq;dsimp only;rw[ya (by rw[lK];exact hl),jW,h];rfl
def Fh{n:Nat}{j:Int}(h:j=n)(hn:n<=1000000):mJ [.int j]=some ((List.range n).map λk=>.int ((k:Nat):Int)):=by
 subst h;unfold mJ;dsimp only;rw[ya ⟨'o','o'⟩];unfold iO;simp
def OV(a:-1000000<=i)(b:i<=1000000)(c:-1000000<=j)(e:j<=1000000):nJ [.int i,.int j]=some (iO i (j - i).toNat):=by
 unfold nJ;dsimp only;rw[ya ⟨'o','o','o','o'⟩]
def Fi(xs:List α)(k:Nat):gi xs none (some (k:Int))=xs.take k:=by
 unfold gi;rw[HT.sIx_none,HT.sIx_nat,List.drop_zero,Nat.sub_zero];by_cases h:k<=xs.length
 ·rw[cm h]
 ·rw[mn 'o',List.take_length,zf 'o']
def OW(xs:List α)(k:Nat):gi xs (some (k:Int)) none=xs.drop k:=by
 unfold gi;rw[HT.sIx_none,HT.sIx_nat];by_cases h:k<=xs.length
 ·rw[cm h]
  exact zf 'm'
 ·rw[mn 'o',ki,aj 'o']
  simp
def Fj(xs:List α)(a b:Nat)(h:a<=b):gi xs (some (a:Int)) (some (b:Int))=(xs.drop a).take (b - a):=by
 unfold gi;rw[HT.sIx_nat,HT.sIx_nat];by_cases c:b<=xs.length
 ·rw[cm c,cm 'o']
 ·rw[mn 'o']
  by_cases e:a<=xs.length
  ·rw[cm e,zf 'm',zf 's']
  ·rw[mn 'o',ki,aj 'o'];simp
def wM(f:α->β)(xs:List α)(a b:Y2):gi (xs.map f) a b=(gi xs a b).map f:=by
 unfold gi;rw[aa,map_take,List.map_drop]
def wO(h:ds.length+es.length<=sizeLine):bG (.lst ds) (.lst es)=some (.lst (ds++es)):=by
 unfold bG;exact ya h
def OX(h:(bL LV (.tup ds) && bL LV (.tup es))=true):gz (.tup ds) (.tup es)=some (bO ds es):=by
 unfold gz;exact ya h
def pq(h:(bL LV (.lst ds) && bL LV (.lst es))=true):gz (.lst ds) (.lst es)=some (bO ds es):=by
 unfold gz;exact ya h
def As(l m:U7):bD (.str l) (.str m)=decide (l=m):=by
 rw[bD];show (S l == S m)=_;rw[<-qL (S l) (S m)];exact oM zY
def Au(l m:Int):bD (.int l) (.int m)=decide (l=m):=by
 rw[bD];show (l == m)=_;rw[<-qL l m]
def tU(l m:Bool):bD (.bl l) (.bl m)=(l == m):=by rw[bD];rfl
def sz(h:n<=100000):n<=sizeLine:=re h 'd'
def kW(h:n<=100000):n<sizeLine:=jp h 'd'
def OY(b:-(xs.length:Int)<=i)(e:i<xs.length):∃c,c∈xs/\eK xs i=some c:=by
 by_cases h:0<=i
 ·exact OT h e
 ·have a:(i+xs.length).toNat<xs.length:=by omega
  refine⟨xs[(i+xs.length).toNat],rf a,?_⟩;unfold eK iK;rw[ic h,ya b];simp[a]
section
variable {K:Fg1}
theorem hU.own(h:hU K Hf H sl v)(o:cz sl=true):∃p ob,v=.ref p/\Hf p=none/\H p=some ob:=by
 cases sl with
 |sh d=>cases o
 |ow ds=>obtain⟨p,xs,a,b,c,_⟩:=h;exact⟨p,_,a,b,c⟩
 |dk ks ds=>obtain⟨p,xs,a,b,c,_⟩:=h;exact⟨p,_,a,b,c⟩
 |dt ks ds=>obtain⟨p,xs,a,b,c,_⟩:=h;exact⟨p,_,a,b,c⟩
 |ob p0 ks ds=>obtain⟨p,xs,a,b,c,_⟩:=h;exact⟨p,_,a,b,c⟩
theorem hU.away(h:hU K Hf H sl v)(e:cz sl=true->v≠.ref p):hU K Hf (aF H p ob) sl v:=by
 cases sl with
 |sh d=>exact h
 |ow ds=>obtain⟨q,xs,rfl,a,b,c⟩:=h;exact⟨q,xs,rfl,a,by rw[aI (λz=>e rfl (by rw[z]))];exact b,c⟩
 |dk ks ds=>obtain⟨q,xs,rfl,a,b,c⟩:=h;exact⟨q,xs,rfl,a,by rw[aI (λz=>e rfl (by rw[z]))];exact b,c⟩
 |dt ks ds=>obtain⟨q,xs,rfl,a,b,c⟩:=h;exact⟨q,xs,rfl,a,by rw[aI (λz=>e rfl (by rw[z]))];exact b,c⟩
 |ob p0 ks ds=>obtain⟨q,xs,rfl,a,b,c⟩:=h;exact⟨q,xs,rfl,a,by rw[aI (λz=>e rfl (by rw[z]))];exact b,c⟩
def VI.mutG(I:VI K B Hf ρ σ H)(f:ρ[i]?=some (some sl))(m:cz sl=true)(x:cz sl'=true)(n:σ[i]?=some (some (.ref p)))(ok:hU K Hf (aF H p ob) sl' (.ref p)):VI K B Hf (ρ.set i (some sl')) σ (aF H p ob):=by
 have G:=I.own i _ p f m n;have N:Hf p=none:=by have⟨q,_,e,h,_⟩:=ok.own x;cases e;exact h
 have w:i<ρ.length:=(wb.mp f).1
 have g:∀{j:Nat} {s:Sl},(ρ.set i (some sl'))[j]?=some (some s)->(j=i/\s=sl')\/(j≠i/\ρ[j]?=some (some s)):=λ{j s} e=>by
  by_cases a:i=j
  ·subst a
   rw[ab w]at e;cases e;exact .inl ⟨rfl,rfl⟩
  ·rw[ca a]at e
   exact .inr ⟨λz=>a z.symm,e⟩
 have fs:aH Hf (aF H p ob):=λb o h=>by
  rw[aI (dP h N)];exact I.fh b o h
 refine⟨⟨I.ex.ff,λb o h=>?_,fs,I.ex.nw,I.ex.nf⟩,by simp[I.len],λj s e=>?_,λj s c e o q=>?_,λj k y A c e1 e2 C E r l=>?_⟩
 ·rw[aI (dP h G)];exact I.ex.hh b o h
 ·rcases g e with⟨rfl,rfl⟩|⟨a,e⟩
  ·exact⟨.ref p,n,ok⟩
  ·have⟨u,F,J⟩:=I.ok j s e
   exact⟨u,F,J.away λo z=>a (by subst z;exact I.dis j i s _ _ e f o m F n)⟩
 ·rcases g e with⟨rfl,rfl⟩|⟨a,e⟩
  ·rw[n]at q;cases q;exact G
  ·exact I.own j s c e o q
 ·rcases g e1 with⟨rfl,rfl⟩|⟨a,e1⟩
  ·rcases g e2 with⟨rfl,rfl⟩|⟨L,e2⟩
   ·rfl
   ·exact I.dis _ k _ A c f e2 m E r l
  ·rcases g e2 with⟨v,M⟩|⟨L,e2⟩
   ·rw[v]at l ⊢
    exact I.dis j _ y _ c e1 f C m r l
   ·exact I.dis j k y A c e1 e2 C E r l
def VI.setG(I:VI K B Hf ρ σ H)(N:Ex Hf H Hf' H')(G:H p=none)(O:cz sl=true)(ok:hU K Hf' H' sl (.ref p)):VI K B Hf' (ρ.set i (some sl)) (σ.set i (some (.ref p))) H':=by
 have g:∀{j:Nat} {s:Sl},(ρ.set i (some sl))[j]?=some (some s)->(j=i/\s=sl/\i<ρ.length)\/(j≠i/\ρ[j]?=some (some s)):=λ{j s} e=>by
  by_cases a:i=j
  ·subst a
   rw[om]at e
   cases q:ρ[i]? with
   |none=>rw[q]at e;cases e
   |some z =>
    rw[q]at e;simp at e;exact .inl ⟨rfl,e.symm,(wb.mp q).1⟩
  ·rw[ca a]at e
   exact .inr ⟨λz=>a z.symm,e⟩
 have F:=I.ext N;have y:B.h p=none:=I.ex.hh.free G
 have b:∀{j:Nat} {s:Sl},ρ[j]?=some (some s)->cz s=true->σ[j]?≠some (some (.ref p)):=λ{j s} e o z=>by
  have⟨v,m,r⟩:=I.ok j s e;rw[z]at m;cases m;have⟨q,ob,e1,_,e2⟩:=r.own o;cases e1;rw[G]at e2;cases e2
 refine⟨F.ex,by simp[I.len],λj s e=>?_,λj s n e o q=>?_,λj k J L n e1 e2 A C f c=>?_⟩
 ·rcases g e with⟨rfl,rfl,hl⟩|⟨a,e⟩
  ·exact⟨.ref p,by rw[ab (by rw[<-I.len];exact hl)],ok⟩
  ·have⟨u,m,r⟩:=F.ok j s e
   exact⟨u,by rw[ca (λz=>a z.symm)];exact m,r⟩
 ·rcases g e with⟨rfl,rfl,hl⟩|⟨a,e⟩
  ·rw[ab (by rw[<-I.len];exact hl)]at q
   cases q;exact y
  ·rw[ca (λz=>a z.symm)]at q
   exact I.own j s n e o q
 ·rcases g e1 with⟨rfl,rfl,hl⟩|⟨a,E⟩
  ·rcases g e2 with⟨rfl,rfl,l⟩|⟨w,e2⟩
   ·rfl
   ·rw[ab (by rw[<-I.len];exact hl)]at f
    cases f;rw[ca (λz=>w z.symm)]at c
    exact absurd c (b e2 C)
  ·rw[ca (λz=>a z.symm)]at f
   rcases g e2 with⟨x,M,l⟩|⟨w,e2⟩
   ·subst x
    rw[ab (by rw[<-I.len];exact l)]at c;cases c;exact absurd f (b E A)
   ·rw[ca (λz=>w z.symm)]at c
    exact I.dis j k J L n E e2 A C f c
end
def Fk(i:Nat)(sl:Sl):al->aO:=λρ=>.nx (ρ.set i (some sl))
def pu(sl:Sl)(k d:D):Y1:=match sl with
 |.dk ks ds=>(oW k).bind λkey=>if ks.length<sizeLine then some (.dk ((fO (ks.zip ds) key d).map fst) ((fO (ks.zip ds) key d).map snd)) else none
 |.dt ks ds=>(jI k).bind λkey=>if ks.length<sizeLine then some (.dt ((fO (ks.zip ds) key d).map fst) ((fO (ks.zip ds) key d).map snd)) else none
 |_=>none
def nO(i:Nat)(fk fv:al->U5):al->aO:=λρ=>match ρ[i]? with
 |some (some sl)=>match (fv ρ).bind λd=>(fk ρ).bind λk=>pu sl k d with|some sl'=>.nx (ρ.set i (some sl'))|none=>.bad
 |_=>.bad
def iS(d k:D):U5:=(gO d k).bind id
def ku(d k:D):U5:=(gO d k).map λo=>o.getD .non
def pv(fo fk fz:al->U5):al->U5:=λρ=>(fo ρ).bind λd=>(fk ρ).bind λk=>(fz ρ).bind λz=>(gO d k).map λo=>o.getD z
section
variable {X:Cx}{pos:Pos}
def OZ(b:X.N.Nodup)(c:X.N[j]?=some x)(e:dQ X.env.scope x)(hs:W0 X (.Dict [] [] p2) (some (.Name x pos')) pos:=by rfl)(f:W3 X x:=by first|exact .inl rfl|exact .inr rfl|assumption):PS X (.Assign [.Name x pos'] (.Dict [] [] p2) pos) (sV X.K B (Fk j (.dk [] []))) :=
 (iG b c e NL hs f).imp λD g H ⟨Hf,ρ,I,q⟩=>λp a=>q Hf _ _ (aH.refl _) (I.setG (Ex.made I.fh a) a rfl ⟨p,[],rfl,I.fh.free a,aT,rfl,.nil⟩)
def Fm(R:aK n X.A)(T:X.N[j]?=some x)(U:PE X i (eB X.K B fk))(Y:PE X value (eV X.K B fv))(o:cZ X.env.scope x:=by first|exact ac rfl|exact ud (ac rfl)|exact ud (ud rfl))(Z:(x == 'g')=false:=by decide)(F:(x == 'c')=false:=by decide)(hs:W0 X value (some (.Subscript (.Name x p1) i pos')) pos:=by rfl):PS X (.Assign [.Subscript (.Name x p1) i pos'] value pos) (sV X.K B (nO j fk fv)) :=
 (Ej (by have:=R.units;omega) (cR T o Z F) U Y hs).imp λD G H ⟨Hf,ρ,I,q⟩=>by
  unfold nO at q
  split at q
  ·rename_i sl e
   split at q
   ·rename_i sl' hz
    have⟨d,s,hz⟩:=bind_some hz;have⟨k,u,hz⟩:=bind_some hz;have⟨M,w,O⟩:=I.ok j _ e;refine⟨Hf,ρ,d,I,s,λr H1 v c J=>⟨M,w,r,ρ,k,I.ext c,u,λh H2 y a dk=>?_⟩⟩;have L:=(I.ext c).ext a;have l:=(O.ext c).ext a;unfold pu at hz
    split at hz
    ·have⟨g,z,hz⟩:=bind_some hz
     split at hz
     ·rename_i ks ds hl
      cases hz;obtain⟨p,kvs,rfl,C,E,e1,e2⟩:=l
      have Q:=Er dk z;subst Q;have m:=(qI e1 e2).put g (J.same a.ff);exact⟨p,_,rfl,mD.k E (by rw[<-aa (f:=fst),e1];exact hl),q h G _ (c.ff.trans a.ff) (L.mutG e rfl rfl w ⟨p,_,rfl,C,aT,m.fst,m.snd⟩)⟩
     ·cases hz
    ·have⟨g,z,hz⟩:=bind_some hz
     split at hz
     ·rename_i ks ds hl
      cases hz;obtain⟨p,kvs,rfl,C,E,e1,e2⟩:=l
      obtain⟨b,rfl,P⟩:=qJ dk z;have m:=(qI e1 e2).put g (J.same a.ff);exact⟨p,_,rfl,mD.t E (a.fh _ _ P) (by rw[<-aa (f:=fst),e1];exact hl),q h G _ (c.ff.trans a.ff) (L.mutG e rfl rfl w ⟨p,_,rfl,C,aT,m.fst,m.snd⟩)⟩
     ·cases hz
    ·cases hz
   ·exact q.elim
  ·exact q.elim
def wP(F:aK n X.A)(G:PE X o (eB X.K B fo))(J:PE X i (eB X.K B fk))(hs:Aa i):PE X (.Subscript o i pos) (eV X.K B (e2 iS fo fk)) :=
 (NF (by have:=F.units;omega) G J hs).imp λL H Q ⟨Hf,ρ,z,I,hz,q⟩=>by
  have⟨d,p,hz⟩:=bind_some hz;have⟨k,s,hz⟩:=bind_some hz;refine⟨Hf,ρ,d,I,p,λe M x c j=>⟨e,ρ,k,I.ext c,s,λf l y b m=>?_⟩⟩;unfold iS at hz;have⟨u,w,h⟩:=bind_some hz;have h:u=some z:=h;subst h;obtain⟨a,r,rfl,_,g,_,C⟩:=tH b.fh (j.ext b) m w;obtain⟨v,rfl,E⟩:=C z rfl;exact⟨a,v,rfl,g,q f l v (c.trans b) E⟩
def Fn{K:Fg1}(s:aH Hf H)(c:cL K Hf H d x)(h:gO d k=some r):∃a,x=.ref a/\oR H a:=by
 unfold gO at h
 split at h
 ·obtain⟨a,kvs,rfl,b,_⟩:=c.dk s;exact⟨a,rfl,.inl ⟨kvs,.inl b⟩⟩
 ·obtain⟨a,kvs,rfl,b,_⟩:=c.dt s;exact⟨a,rfl,.inr ⟨kvs,.inl b⟩⟩
 ·cases h
def tW(M:aK n X.A)(N:PE X o (eB X.K B fo))(O:PE X e (eB X.K B fk))(m:M1 X o "get" apos e cpos:=by exact⟨rfl,rfl,rfl,rfl⟩):PE X (.Call (.Attribute o "get" apos) [e] [] cpos) (eV X.K B (e2 ku fo fk)) :=
 (NQ (by have:=M.units;omega) N O m).imp λP H Q ⟨Hf,ρ,z,I,hz,q⟩=>by
  have⟨d,C,hz⟩:=bind_some hz;have⟨k,E,hz⟩:=bind_some hz;have⟨F,p,s⟩:=pc.mp hz;refine⟨Hf,ρ,d,I,C,λh R x b j=>?_⟩;obtain⟨a,rfl,i⟩:=Fn b.fh j p;refine⟨a,rfl,i,h,ρ,k,I.ext b,E,λf l y c u=>?_⟩;have⟨T,r,e,_,g,G,J⟩:=tH c.fh (j.ext c) u p;cases e;refine⟨r,g,?_⟩
  cases F with
  |none=>subst s;rw[G rfl];exact q f l _ (b.trans c) (b7 rfl)
  |some w=>subst s;obtain⟨v,rfl,L⟩:=J w rfl;exact q f l v (b.trans c) L
def O0(U:aK n X.A)(Y:PE X o (eB X.K B fo))(Z:PE X e (eB X.K B fk))(hf:PE X f (eV X.K B fz))(m:M2 X o "get" apos e f cpos:=by exact⟨rfl,rfl,rfl,rfl⟩):PE X (.Call (.Attribute o "get" apos) [e,f] [] cpos) (eV X.K B (pv fo fk fz)) :=
 (NR (by have:=U.units;omega) Y Z hf m).imp λσ H Q ⟨Hf,ρ,z,I,hz,q⟩=>by
  have⟨d,L,hz⟩:=bind_some hz;have⟨k,M,hz⟩:=bind_some hz;have⟨t,N,hz⟩:=bind_some hz;have⟨O,E,F⟩:=pc.mp hz;refine⟨Hf,ρ,d,I,L,λj H1 x b s=>?_⟩;obtain⟨a,rfl,p⟩:=Fn b.fh s E;refine⟨a,rfl,p,j,ρ,k,I.ext b,M,λl H2 y h G=>⟨l,ρ,t,(I.ext b).ext h,N,λi C u c J=>?_⟩⟩;have⟨a',r,e,_,g,P,R⟩:=tH c.fh ((s.ext h).ext c) (G.ext c) E;cases e;refine⟨r,g,?_⟩
  cases O with
  |none=>subst F;rw[P rfl];exact q i C _ ((b.trans h).trans c) J
  |some w=>subst F;obtain⟨v,rfl,T⟩:=R w rfl;exact q i C v ((b.trans h).trans c) T
end
end L2
namespace L2
open PySem PySem.W PyProof.Rows
structure WO(lt:Nat->Nat->Bool):Prop where
 irr:∀a,lt a a=false
 nt:∀a b c,lt a c=true->lt a b=true\/lt b c=true
 asy:∀a b,lt a b=true->lt b a=false
def dS(lt:Nat->Nat->Bool)(n:Nat){α:Type}:KasT α->(α->Prop)->Prop
 |.ret a,Q=>Q a
 |.ask i j k,Q=>i<n/\j<n/\dS lt n (k (lt i j)) Q
section
variable {α β:Type}
theorem dS.bind:∀(t:KasT α),dS lt n t (λa=>dS lt n (f a) Q)->dS lt n (t.bind f) Q
 |.ret a,h=>by rw[KasT.bind.eq_1];exact h
 |.ask i j k,h=>by rw[KasT.bind.eq_2];exact⟨h.1,h.2.1,dS.bind _ h.2.2⟩
theorem dS.mono(m:∀a,Q a->Q' a):∀{t:KasT α},dS lt n t Q->dS lt n t Q'
 |.ret a,h=>m a h
 |.ask i j k,h=>⟨h.1,h.2.1,dS.mono m h.2.2⟩
theorem dS.wp(c:∀i j C,i<n->j<n->C (lt i j) s->b i j C s)(e:∀a,Q a->G a s):∀{t:KasT α},dS lt n t Q->KasT.kasWp b t G s
 |.ret a,h=>by rw[KasT.kasWp.eq_1];exact e a h
 |.ask i j k,h=>by rw[KasT.kasWp.eq_2];exact c i j _ h.1 h.2.1 (dS.wp c e h.2.2)
end
noncomputable abbrev gp(p:Array Nat)(i:Nat):Nat:=p.getD i 0
def nP(p:Array Nat)(i:Nat):gp p i=(p[i]?).getD 0:=by simp[gp,Array.getD_eq_getD_getElem?]
def Ix(n:Nat)(p:Array Nat):Prop:=p.toList.Perm (List.range n)
section
variable {p q:Array Nat}
theorem Ix.size(h:Ix n p):p.size=n:=by have:=h.length_eq;simpa using this
theorem Ix.bd(h:Ix n p)(hn:0<n)(i:Nat):gp p i<n:=by
 rw[nP]
 cases e:p[i]? with
 |none=>exact hn
 |some x =>
  have:x∈p.toList:=by
   obtain⟨a,rfl⟩:=Array.getElem?_eq_some_iff.mp e;simp
  exact ug.mp (h.mem_iff.mp this)
def Ix.of(h:Ix n p)(a:q.Perm p):Ix n q:=(Array.perm_iff_toList_perm.mp a).trans h
def Up(lt:Nat->Nat->Bool)(p:Array Nat)(k:Nat):Prop:=∀i j,i<=j->j<k->lt (gp p j) (gp p i)=false
def Dw(lt:Nat->Nat->Bool)(p:Array Nat)(k:Nat):Prop:=∀i j,i<=j->j<k->lt (gp p i) (gp p j)=false
theorem WO.le(w:WO lt)(e:lt b a=false)(f:lt c b=false):lt c a=false:=by
 cases h:lt c a with
 |false=>rfl
 |true =>
  rcases w.nt c b a h with z|z
  ·rw[f]at z;cases z
  ·rw[e]at z;cases z
def Up.snoc(w:WO lt)(h:Up lt p k)(f:0<k)(b:lt (gp p k) (gp p (k - 1))=false):Up lt p (k+1):=λi j a c=>by
 by_cases e:j=k
 ·subst e
  by_cases e2:i=j
  ·subst e2;exact w.irr _
  ·exact w.le (h i (j - 1) 'o' 'o') b
 ·exact h i j a 'o'
def Dw.snoc(w:WO lt)(h:Dw lt p k)(f:0<k)(b:lt (gp p (k - 1)) (gp p k)=false):Dw lt p (k+1):=λi j a c=>by
 by_cases e:j=k
 ·subst e
  by_cases e2:i=j
  ·subst e2;exact w.irr _
  ·exact w.le b (h i (j - 1) 'o' 'o')
 ·exact h i j a 'o'
theorem Av(w:WO lt)(hn:0<n)(b:Ix n p):∀(f x:Nat),1<=x->Up lt p x->dS lt n (kas_asc p f x) λm=>x<=m/\m<=x+f/\Up lt p m/\(m<x+f->lt (gp p m) (gp p (m - 1))=true)
 |0,x,g,h=>by rw[kas_asc.eq_1];exact⟨dc _,dc _,h,λz=>absurd z (yj _)⟩
 |f+1,x,g,h=>by
  rw[kas_asc.eq_2];refine⟨b.bd hn x,b.bd hn (x - 1),?_⟩;dsimp only;split
  ·rename_i a;exact⟨dc _,'o',h,λ_=>a⟩
  ·rename_i a
   have a:lt (gp p x) (gp p (x - 1))=false:=lg.mpr a;exact(Av w hn b f (x+1) 'o' (h.snoc w 'o' a)).mono λm ⟨i,j,c,e⟩=>⟨'o','o',c,λz=>e 'o'⟩
def Aw(a:Ix n p)(b:j<=n)(k:Nat):gp (kas_rev p i j) k=if i<=k/\k<j then gp p (i+j - 1 - k) else gp p k:=by
 rw[nP,show kas_rev p i j=mirror p i j ((j - i) / 2) from rfl,getElem?_mirror_all (by rw[a.size];exact b)]
 split <;> rw[nP]
def Ix.rev(a:Ix n p)(i j:Nat):Ix n (kas_rev p i j):=a.of (mirror_perm p i j _)
def Fo(lt:Nat->Nat->Bool)(p q:Array Nat):Prop:=∀k,lt (gp p k) (gp q k)=false/\lt (gp q k) (gp p k)=false
def Dw.alk(w:WO lt)(h:Dw lt p k)(a:Fo lt p q):Dw lt q k:=λi j b c=>w.le (w.le (a j).1 (h i j b c)) (a i).2
def Ax(w:WO lt)(e:Ix n p)(f:j<=n)(c:∀a b,i<=a->a<j->i<=b->b<j->lt (gp p a) (gp p b)=false):Fo lt p (kas_rev p i j):=λk=>by
 rw[Aw e f];split
 ·rename_i h;exact⟨c _ _ 'o' 'o' 'o' 'o',c _ _ 'o' 'o' 'o' 'o'⟩
 ·exact⟨w.irr _,w.irr _⟩
theorem wQ(w:WO lt)(hn:0<n):∀(f:Nat) (p:Array Nat) (i e:Nat),Ix n p->1<=i->i+f<=n->e+1<=i->Dw lt p i->(∀a b,i - (e+1)<=a->a<i->i - (e+1)<=b->b<i->lt (gp p a) (gp p b)=false) →
  dS lt n (kas_desc f p i e) λr=>Ix n r.1/\i<=r.2.1/\r.2.1<=i+f/\r.2.2+1<=r.2.1/\Dw lt r.1 r.2.1/\(∀a b,r.2.1 - (r.2.2+1)<=a->a<r.2.1->r.2.1 - (r.2.2+1)<=b->b<r.2.1->lt (gp r.1 a) (gp r.1 b)=false)
 |0,p,i,e,c,E,F,u,q,l=>by rw[kas_desc.eq_1];exact⟨c,dc _,dc _,u,q,l⟩
 |f+1,p,i,e,c,E,F,u,q,l=>by
  rw[kas_desc.eq_2];refine⟨c.bd hn i,c.bd hn (i - 1),?_⟩;dsimp only;split
  ·rename_i h
   have B:lt (gp p (i - 1)) (gp p i)=false:=w.asy _ _ h;have g:=q.snoc w 'o' B;split
   ·have C:=Ax w c (i:=i - (e+1)) (j:=i) 'o' l
    exact (wQ w hn f _ (i+1) 0 (c.rev _ _) 'o' 'o' 'o' (g.alk w C) (λ a b z A h g=>by
     have:a=b:=by omega
     rw[this];exact w.irr _)).mono λr ⟨m,v,x,o⟩=>⟨m,'o','o',o⟩
   ·exact (wQ w hn f _ (i+1) 0 c 'o' 'o' 'o' g (λ a b z A h g=>by
     have:a=b:=by omega
     rw[this];exact w.irr _)).mono λr ⟨m,v,x,o⟩=>⟨m,'o','o',o⟩
  ·rename_i h
   have h:lt (gp p i) (gp p (i - 1))=false:=lg.mpr h;refine⟨c.bd hn (i - 1),c.bd hn i,?_⟩;dsimp only;split
   ·exact⟨c,dc _,by show i<=i+(f+1);omega,u,q,l⟩
   ·rename_i g
    have g:lt (gp p (i - 1)) (gp p i)=false:=lg.mpr g;refine(wQ w hn f p (i+1) (e+1) c 'o' 'o' 'o' (q.snoc w 'o' g) λa b a1 a2 G H=>?_).mono λr ⟨m,v,x,o⟩=>⟨m,'o','o',o⟩
    by_cases y:a=i
    ·by_cases s:b=i
     ·rw[y,s];exact w.irr _
     ·rw[y];exact w.le (l (i - 1) b 'o' 'o' 'o' 'o') h
    ·by_cases s:b=i
     ·rw[s];exact w.le g (l a (i - 1) 'o' 'o' 'o' 'o')
     ·exact l a b 'o' 'o' 'o' 'o'
def Dw.turn(a:Ix n p)(b:k<=n)(h:Dw lt p k):Up lt (kas_rev p 0 k) k:=λi j c e=>by
 rw[Aw a b,Aw a b,ya ⟨'o',e⟩,ya ⟨'o','o'⟩];exact h _ _ 'o' 'o'
def Fp(w:WO lt)(hn:0<n)(a:Ix n p)(c:1<=k)(e:k<=n)(h:Dw lt p k):dS lt n (kas_tail3 k n p) λr=>Ix n r.2/\r.1<=n/\1<=r.1/\Up lt r.2 r.1:=by
 unfold kas_tail3;refine dS.bind _ ((Av w hn (a.rev 0 k) (n - k) k c (h.turn a e)).mono λm ⟨f,g,b,_⟩=>?_);exact⟨a.rev 0 k,'o','o',b⟩
def Fq(w:WO lt)(hn:0<n)(g:Ix n p)(u:1<=k)(v:k+1<=n)(h:Dw lt p (k+1)):dS lt n (kas_descPart k n p) λr=>Ix n r.2/\r.1<=n/\1<=r.1/\Up lt r.2 r.1:=by
 unfold kas_descPart
 refine dS.bind _ ((wQ w hn (n - (k+1)) p (k+1) 0 g 'o' 'o' 'o' h (λ a b i j l m=>by
  have:a=b:=by omega
  rw[this];exact w.irr _)).mono λr ⟨c,o,q,s,e,f⟩=>?_)
 split
 ·exact Fp w hn (c.rev _ _) 'o' 'o' (e.alk w (Ax w c 'o' f))
 ·exact Fp w hn c 'o' 'o' e
def O1(w:WO lt)(hn:0<n)(c:Ix n p):dS lt n (kas_count n p) λr=>Ix n r.2/\r.1<=n/\1<=r.1/\Up lt r.2 r.1:=by
 rw[kas_count.eq_1]
 have v:Up lt p 1:=λi j e h=>by
  have:i=j:=by omega
  rw[this];exact w.irr _
 refine dS.bind _ ((Av w hn c (n - 1) 1 'o' v).mono λm ⟨y,z,g,s⟩=>?_);split
 ·rename_i hm
  have:m=n:=by simpa using hm
  exact⟨c,'o','o',g⟩
 ·rename_i hm
  have hm:m≠n:=by simpa using hm
  have o:=s 'o';have q:lt (gp p (m - 1)) (gp p m)=false:=w.asy _ _ o;split
  ·refine⟨c.bd hn _,c.bd hn _,?_⟩
   dsimp only;split
   ·exact⟨c,'o','o',g⟩
   ·rename_i l
    have l:lt (gp p 0) (gp p (m - 1))=false:=lg.mpr l
    have f:∀a b,0<=a->a<m->0<=b->b<m->lt (gp p a) (gp p b)=false:=λa b _ u _ A =>
     w.le (w.le (g b (m - 1) 'o' 'o') l) (g 0 a 'o' u)
    have x:Dw lt p m:=λi j e h=>f i j 'o' 'o' 'o' h
    exact Fq w hn (c.rev 0 m) 'o' 'o' ((x.snoc w 'o' q).alk w (Ax w c 'o' f))
  ·have:m=1:=by omega
   subst this
   exact Fq w hn c 'o' 'o' (Dw.snoc w (λ i j e h=>by
    have:i=j:=by omega
    rw[this];exact w.irr _) 'o' q)
theorem Ay(w:WO lt)(hn:0<n)(c:Ix n p)(e:Up lt p k):∀(f l r:Nat),l<=r->r<=k->r - l<=f->(∀a,a<l->lt (gp p k) (gp p a)=false)->(∀a,r<=a->a<k->lt (gp p k) (gp p a)=true) →
  dS lt n (kas_place p k f l r) λm=>m<=k/\(∀a,a<m->lt (gp p k) (gp p a)=false)/\∀a,m<=a->a<k->lt (gp p k) (gp p a)=true
 |0,l,r,j,o,s,g,h=>by
  rw[kas_place.eq_1]
  have:l=r:=by omega
  subst this;exact⟨'o',g,h⟩
 |f+1,l,r,j,o,s,g,h=>by
  rw[kas_place.eq_2];split
  ·have:l=r:=by omega
   subst this;exact⟨'o',g,h⟩
  ·refine⟨c.bd hn _,c.bd hn _,?_⟩
   dsimp only;split
   ·rename_i b
    refine Ay w hn c e f l _ 'o' 'o' 'o' g λa q i=>?_
    rcases w.nt _ (gp p a) _ b with z|z
    ·exact z
    ·rw[e _ a 'o' i]at z;cases z
   ·rename_i b
    have b:lt (gp p k) (gp p ((l+r) / 2))=false:=lg.mpr b;refine Ay w hn c e f _ r 'o' o 'o' (λa q=>?_) h;exact w.le (e a ((l+r) / 2) 'o' 'o') b
theorem Fr(w:WO lt)(hn:0<n):∀(f:Nat) (p:Array Nat) (x:Nat),Ix n p->1<=x->x+f=n->Up lt p x->dS lt n (kas_bin f p x) λq=>Ix n q/\Up lt q n
 |0,p,x,e,g,y,b=>by
  rw[kas_bin.eq_1];have:x=n:=by omega
  subst this;exact⟨e,b⟩
 |f+1,p,x,e,g,y,b=>by
  rw[kas_bin.eq_2];refine dS.bind _ ((Ay w hn e b x 0 x 'o' 'o' 'o' (λa s=>absurd s 'o') (λa g z=>absurd g 'o')).mono λm ⟨A,u,v⟩=>?_)
  have at_:∀k,gp (bubble p x (x - m)) k=if k=m then gp p x else if m<k/\k<=x then gp p (k - 1) else gp p k:=λk=>by
   rw[nP,getElem?_bubble (by rw[e.size];omega) (x - m) 'o',show x - (x - m)=m by omega];split
   ·rw[nP]
   ·split <;> rw[nP]
  refine Fr w hn f _ (x+1) (e.of (bubble_perm _ _ _)) 'o' 'o' λi j h B=>?_
  rw[at_,at_];by_cases r:j=m
  ·rw[ya r]
   by_cases c:i=m
   ·rw[ya c];exact w.irr _
   ·rw[ic c,ic 'o'];exact u i 'o'
  ·rw[ic r]
   by_cases c:i=m
   ·rw[ya c,ya ⟨'o','o'⟩];exact w.asy _ _ (v (j - 1) 'o' 'o')
   ·rw[ic c]
    by_cases l:m<j
    ·rw[ya ⟨l,'o'⟩]
     by_cases o:m<i
     ·rw[ya ⟨o,'o'⟩];exact b _ _ 'o' 'o'
     ·rw[ic 'o'];exact b _ _ 'o' 'o'
    ·rw[ic 'o',ic 'o'];exact b _ _ h 'o'
def Fs(w:WO lt)(hn:0<n):dS lt n (kas_sort n) λq=>Ix n q/\Up lt q n:=by
 unfold kas_sort;have e:Ix n (List.range n).toArray:=by unfold Ix;exact uh _
 refine dS.bind _ ((O1 w hn e).mono λr ⟨b,f,c,a⟩=>?_);split
 ·rw[show max r.1 1=r.1 by omega]
  exact Fr w hn _ _ _ b c 'o' a
 ·have:r.1=n:=by omega
  rw[this]at a;exact⟨b,a⟩
end
end L2
namespace L2
open PySem PySem.Spec PyProof.Rows
noncomputable def qS(x:Int):Y7->Y7
 |[]=>[x]
 |y::r=>if x<=y then x::y::r else y::qS x r
def mP:Y7->Y7
 |[]=>[]
 |x::r=>qS x (mP r)
theorem Az(x:Int):∀l,(qS x l).Perm (x::l)
 |[]=>uh _
 |y::r=>by
  unfold qS;split
  ·exact uh _
  ·exact((Az x r).cons y).trans (wt x y r)
theorem tX:∀l,(mP l).Perm l
 |[]=>uh _
 |x::r=>(Az x _).trans ((tX r).cons x)
theorem Fu(x:Int):∀{l:Y7},l.Pairwise (·<=·)->(qS x l).Pairwise (·<=·)
 |[],_=>qq _ _
 |y::r,h=>by
  unfold qS;split
  ·rename_i a
   refine gg.mpr ⟨λz hz=>?_,h⟩;rcases wc.mp hz with rfl|hz
   ·exact a
   ·exact Int.le_trans a ((gg.mp h).1 z hz)
  ·rename_i a
   refine gg.mpr ⟨λz hz=>?_,Fu x (gg.mp h).2⟩;rcases wc.mp ((Az x r).mem_iff.mp hz) with rfl|hz
   ·omega
   ·exact(gg.mp h).1 z hz
theorem Fv:∀l,(mP l).Pairwise (·<=·)
 |[]=>cq
 |x::r=>Fu x (Fv r)
def O2{a b:Y7}(f:a.Perm b)(g:a.Pairwise (·<=·))(h:b.Pairwise (·<=·)):a=b :=
 f.eq_of_pairwise (λx y _ _ c e=>Int.le_antisymm c e) g h
theorem Fw:∀(a:Y7) (us:U9),us.length=a.length->(∀(j:Nat) (v:Value),us[j]?=some v->∃i,a[j]?=some i/\∃t:Tok,v=Value.int i t)->IntsAre us a
 |[],[],_,_=>.nil
 |[],_::_,h,_=>by simp at h
 |_::_,[],h,_=>by simp at h
 |n::a,u::us,h,f=>by
  obtain⟨i,b,t,rfl⟩:=f 0 u rfl;cases b;exact .cons _ t (Fw a us (by simpa using h) λj v e=>f (j+1) v (by simpa using e))
theorem KV.fst:∀{kvs:List (κ×V)}{vs:List (κ×Value)},KV kvs vs->vs.map fst=kvs.map fst
 |_,_,.nil=>rfl
 |_,_,.cons a b=>by rw[ma,ma,a.1,KV.fst b]
def KV.len(h:KV kvs vs):kvs.length=vs.length:=Paired.length h
def O3:U6->Hp->VK->Prop:=λxs H Q=>∃a kvs b,xs=[.ref a]/\Rd H a (.dK kvs)/\kvs.map fst=b.map Sum.inl/\b.length<64/\∀p,H p=none->Q (.ref p) (aF H p (.lst ((mP b).map V.int)))
section
variable {X:Cx}
def O4(hc:X.calm=true):d7 X (.builtin "sorted") O3:=by
 intro r s P H xs us Q I R h;obtain⟨a,kvs,ns,rfl,T,K,C,q⟩:=h;obtain⟨u,rfl,U⟩:=hE R;cases U;have⟨z,Y,vs,y,dd⟩:=mB I.hok T;have⟨ep,E⟩:=dd.dictAt;have l:vs.length=ns.length:=by rw[<-KV.len y,<-aa (f:=fst),K,aa]
 refine PySem.Calls.call_function_entry kind_sorted plain_sorted entry_sorted (args_sorted1 _) ?_
 unfold Builtin.«sorted»;refine ba (m:=checkCount "sorted" 1 1 _) (wa ?_);refine ba (kdu_collect (A:=X.A.in1) (PySem.W.kdl_dict (knd:=fK X.prog X.w) (kvs:=vs) (ep:=ep) Y) (I.ok.hd hc) E (by rw[l];exact sz 'o') λh' J c n g=>?_);have o:c.toList.length=ns.length:=by rw[qf,<-l];exact g.1
 have hI:IntsAre c.toList ns:=Fw ns _ o λj v e=>by
  obtain⟨k,x,e1,e2⟩:=g.2 j v (by rw[<-jg];exact e);have M:(vs.map fst)[j]?=some k:=by rw[de,e1];rfl
  rw[KV.fst y,K,de]at M;have⟨i,Z,h2⟩:=pc.mp M;subst h2;rcases lG (show oE (Sum.inl i) v=true from e2) with⟨i',t,F,L⟩|⟨x',t,F,L⟩
  ·cases F;exact⟨i,Z,t,L⟩
  ·cases F
 refine ba (on ?_ (by rw[o];exact sz 'o'));have p:(h'.push (seqObj "list" c.toList.toArray 0)).get? h'.objs.size=some (seqObj "list" c.toList.toArray 0):=pd _ rfl;refine ba (fg (ji slot_list_sort ⟨_,p,rfl⟩ entry_list_sort (list_sort_tree p hI (by rw[o];exact C) λout O a1 a2 a3=>⟨_,rfl,?_⟩) (args_list_sort _)));refine wa ⟨_,rfl,?_⟩;have⟨e,he⟩:=sortedHeap_at (out:=out) p;have N:az X r P H { s with heap:=h',toks:=J }:=I.kept n;have e2:=O2 (a2.trans (tX ns).symm) a3 (Fv ns);subst e2;refine⟨.ref h'.objs.size,aF H h'.objs.size (.lst ((mP ns).map V.int)),N.laid (t':=J) (λb ob B=>?_) (dc _) ?_,rfl,q _ (N.hok.fresh (dc _))⟩
 ·have B:h'.get? b=some ob:=B
  have G:b<h'.objs.size:=zd B;rw[sortedHeap_old (af G) (by rw[size_push'];exact Nat.lt_succ_of_lt G),Heap.get?_push_ne _ _ _ (af G)];exact B
 ·refine⟨by rw[aa,(tX ns).length_eq];exact sz 'o',out.toList,e,zy a1,?_⟩
  simpa using he
def qT:List aQ->Option Y7
 |[]=>some []
 |.inl i::r=>(qT r).map (i::·)
 |.inr _::_=>none
theorem Fx:∀{ks:List aQ}{a:Y7},qT ks=some a->ks=a.map Sum.inl
 |[],_,h=>by cases h;rfl
 |.inl i::r,a,h=>by
  unfold qT at h;have⟨m,b,c⟩:=pc.mp h;subst c;rw[Fx b];rfl
 |.inr _::_,_,h=>by cases h
theorem O5(ns:Y7):qT (ns.map Sum.inl)=some ns:=by
 induction ns with
 |nil=>rfl
 |cons a r b=>rw[ma,qT,b];rfl
def tY:U4->U0
 |[.dk ks _]=>(qT ks).bind λa=>if a.length<64 then some ((mP a).map D.int) else none
 |_=>none
variable {a:Expr}{pos:Pos}
def O6(s:X.calm=true)(u:Gl X "sorted")(hm:X.mg "sorted" = none)(v:PA X [a] (aB X.K B fr))(w:starEach [a] X.env=[(false,eval a X.env)]:=by rfl):PE X (.Call (.Name "sorted" p) [a] [] pos) (eW X.K B (wN tY fr)) :=
 (vM (O4 s) u hm ti v 'd' 'd' w rfl).imp λy H Q ⟨Hf,ρ,z,I,hz,q⟩=>by
  have⟨ds,j,hz⟩:=bind_some hz;refine⟨Hf,ρ,ds,I,j,λe A vs c f=>?_⟩;unfold tY at hz
  split at hz
  ·have⟨i,l,hz⟩:=bind_some hz
   split at hz
   ·rename_i h
    cases hz;obtain⟨x,rfl,m⟩:=h8 f
    obtain⟨b,kvs,rfl,n,r,_⟩:=m.dk c.fh;exact⟨b,kvs,i,rfl,.of n,by rw[r];exact Fx l,h,λp g=>q e _ p _ (c.trans (Ex.made (o:=.lst ((mP i).map V.int)) c.fh g)) (c.hh.free g) (c.fh.free g) aT (An _)⟩
   ·cases hz
  ·cases hz
end
noncomputable def tZ:Sl->D
 |.sh d=>d
 |.ow ds=>.lst ds
 |.dk ks ds=>.dk ks ds
 |.dt ks ds=>.dt ks ds
 |.ob _ ks ds=>.er "" ks ds
section
variable {X:Cx}{K:Fg1}
def VI.frzG(I:VI K B Hf ρ σ H)(C:ρ[i]?=some (some sl))(y:cz sl=true):∃Hf',aH Hf Hf'/\VI K B Hf' (ρ.set i (some (.sh (tZ sl)))) σ H:=by
 have⟨v,E,h⟩:=I.ok i _ C;obtain⟨p,ob,rfl,M,a⟩:=h.own y;have X:=I.own i _ p C y E;have hs:=eP (o:=ob) M
 have dn:Dn K (aF Hf p ob) (tZ sl) (.ref p):=by
  cases sl with
  |sh d=>cases y
  |ow ds=>obtain⟨q,xs,e,_,c,l⟩:=h;cases e;rw[c]at a;cases a;exact f7 (bA.of aT) (aR.same l hs)
  |dk ks ds=>obtain⟨q,xs,e,_,c,l,r⟩:=h;cases e;rw[c]at a;cases a;exact El aT l (aR.same r hs)
  |dt ks ds=>obtain⟨q,xs,e,_,c,l,r⟩:=h;cases e;rw[c]at a;cases a;exact tD aT l (aR.same r hs)
  |ob p0 ks ds=>obtain⟨q,xs,e,_,c,l,r⟩:=h;cases e;rw[c]at a;cases a;exact Em aT l (aR.same r hs)
 have F:=(wb.mp C).1
 have g:∀{j:Nat} {s:Sl},(ρ.set i (some (.sh (tZ sl))))[j]?=some (some s)->(j=i/\s=.sh (tZ sl))\/(j≠i/\ρ[j]?=some (some s)):=λ{j s} e=>by
  by_cases n:i=j
  ·subst n
   rw[ab F]at e;cases e;exact .inl ⟨rfl,rfl⟩
  ·rw[ca n]at e
   exact .inr ⟨λz=>n z.symm,e⟩
 have G:∀x u,ob≠.frz x u:=λx u z=>by
  subst z
  cases sl with
  |sh d=>cases y
  |ow ds=>obtain⟨q,xs,e,_,c,_⟩:=h;cases e;rw[c]at a;cases a
  |dk ks ds=>obtain⟨q,xs,e,_,c,_⟩:=h;cases e;rw[c]at a;cases a
  |dt ks ds=>obtain⟨q,xs,e,_,c,_⟩:=h;cases e;rw[c]at a;cases a
  |ob p0 ks ds=>obtain⟨q,xs,e,_,c,_⟩:=h;cases e;rw[c]at a;cases a
 refine⟨aF Hf p ob,hs,I.ex.frz X a M G,by simp[I.len],λj s e=>?_,λj s b e o q=>?_,λj k O P b e1 e2 J L Q R=>?_⟩
 ·rcases g e with⟨rfl,rfl⟩|⟨n,e⟩
  ·exact⟨_,E,dn⟩
  ·have⟨u,N,w⟩:=I.ok j s e
   refine⟨u,N,?_⟩
   have A:∀{b:Addr},cz s=true->u=.ref b->b≠p:=λ{b} o T U=>by
    subst T U;exact n (I.dis j i s _ _ e C o y N E)
   cases s with
   |sh d=>exact Dn.same w hs
   |ow d=>obtain⟨b,xs,e1,e2,m,f⟩:=w;exact⟨b,xs,e1,by rw[aI (A rfl e1)];exact e2,m,aR.same f hs⟩
   |dk ks d=>obtain⟨b,xs,e1,e2,m,f⟩:=w;exact⟨b,xs,e1,by rw[aI (A rfl e1)];exact e2,m,f.1,aR.same f.2 hs⟩
   |dt ks d=>obtain⟨b,xs,e1,e2,m,f⟩:=w;exact⟨b,xs,e1,by rw[aI (A rfl e1)];exact e2,m,f.1,aR.same f.2 hs⟩
   |ob p0 ks d=>obtain⟨b,xs,e1,e2,m,f⟩:=w;exact⟨b,xs,e1,by rw[aI (A rfl e1)];exact e2,m,f.1,aR.same f.2 hs⟩
 ·rcases g e with⟨rfl,rfl⟩|⟨n,e⟩
  ·cases o
  ·exact I.own j s b e o q
 ·rcases g e1 with⟨rfl,rfl⟩|⟨n,e1⟩
  ·cases J
  ·rcases g e2 with⟨rfl,rfl⟩|⟨Y,e2⟩
   ·cases L
   ·exact I.dis j k O P b e1 e2 J L Q R
def AB(i:Nat)(f:al->aO):al->aO:=λρ=>match ρ[i]? with
 |some (some sl)=>if cz sl=true then f (ρ.set i (some (.sh (tZ sl)))) else f ρ
 |_=>f ρ
def O7(i:Nat)(h:bv X sts (sV X.K B f)):bv X sts (sV X.K B (AB i f)):=h.imp λD c H ⟨Hf,ρ,I,q⟩=>by
 unfold AB at q
 split at q
 ·rename_i sl e
  split at q
  ·rename_i a
   have⟨Hf',z,b⟩:=I.frzG e a;exact⟨Hf',_,b,fR.mono q z⟩
  ·exact⟨Hf,ρ,I,q⟩
 ·exact⟨Hf,ρ,I,q⟩
def t0(ds:U4)(k d:D):U0:=(kP k).bind λn=>(iK ds.length n).map λj=>ds.set j d
def qU(i:Nat)(fk fv:al->U5):al->aO:=λρ=>match ρ[i]? with
 |some (some (.ow ds))=>match (fv ρ).bind λd=>(fk ρ).bind λk=>t0 ds k d with|some ds'=>.nx (ρ.set i (some (.ow ds')))|none=>.bad
 |_=>.bad
variable {pos:Pos}
def O8(E:X.N[j]?=some x)(F:PE X ix (eB X.K B fk))(G:PE X value (eV X.K B fv))(e:cZ X.env.scope x:=by first|exact ac rfl|exact ud (ac rfl)|exact ud (ud rfl))(J:(x == 'g')=false:=by decide)(r:(x == 'c')=false:=by decide)(L:∀ v,assign (.Subscript (.Name x p1) ix pos') X.env v=(do
   let f ← holding [v] (eval (.Name x p1) X.env)
   let o ← holding [v,f] (eval ix X.env)
   standAt pos'
   holding [v,f,o] (setItem f o v)
   release [v,f,o] []):=by intro _;rfl)(hs:swapsWithSole [.Subscript (.Name x p1) ix pos'] value pos.line X.env=pure false:=by rfl)(M:swappedStores [.Subscript (.Name x p1) ix pos'] value X.env=pure none:=by rfl)(O:(assignEach [.Subscript (.Name x p1) ix pos'] X.env).map (·.2)=[assign (.Subscript (.Name x p1) ix pos') X.env]:=by rfl) :
  PS X (.Assign [.Subscript (.Name x p1) ix pos'] value pos) (sV X.K B (qU j fk fv)) :=
 (yY G (KB (cR E e J r) F LZ L) hs M O).imp λD u H ⟨Hf,ρ,I,q⟩=>by
  unfold qU at q
  split at q
  ·rename_i ds c
   split at q
   ·rename_i ds' hz
    have⟨d,i,hz⟩:=bind_some hz;have⟨k,l,hz⟩:=bind_some hz;have⟨n,hn,hz⟩:=bind_some hz;have⟨m,hm,hz⟩:=pc.mp hz;subst hz;have⟨z,s,A⟩:=I.ok j _ c;refine⟨Hf,ρ,d,I,i,λg P v a w=>⟨z,s,g,ρ,k,I.ext a,l,λh Q y b dk=>?_⟩⟩;obtain⟨p,xs,rfl,R,C,dn⟩:=(hU.ext A a).ext b;unfold kP at hn
    split at hn
    ·cases hn
     refine⟨p,xs,_,m,rfl,dk.sc.2,C,by rw[<-dn.length];exact hm,q h u _ (a.ff.trans b.ff) ?_⟩;exact((I.ext a).ext b).mut c s (dn.zset (w.same b.ff) m)
    ·cases hn
   ·exact q.elim
  ·exact q.elim
end
noncomputable def t5:U4->U5
 |[.sc (.int i)]=>if i.natAbs.log2<1920 then some (.sc (.str (toString i:String))) else none
 |_=>none
def O9{K:Fg1}:PN K (λxs H Q=>∃i,xs=[.int i]/\i.natAbs.log2<1920/\Q (.str (toString i:String)) H) t5:=by
 intro Hf H xs ds z Q s a hz q;unfold t5 at hz
 split at hz
 ·split at hz
  ·rename_i b
   cases hz;obtain⟨x,rfl,c⟩:=h8 a
   rw[c.sc.2];exact⟨_,rfl,b,q Hf H _ (.refl s) (b7 rfl)⟩
  ·cases hz
 ·cases hz
def Pa:=e7 λi j=>.bl (decide (i<j))
def wR{κ:Type}[DecidableEq κ](m n:List (κ×D)):Bool:=(m.length == n.length) && m.all λa=>match aP n a.1 with|some w=>bD a.2 w|none=>false
section
variable {A:Around}{s:Shared}
def Pb(p:Paired (HD s.heap k) ds its)(o:Paired (HD s.heap k) es its')(r:∀q∈ds.zip es,i0 k q.1 q.2)(g:A.units+k<cLine)(j:Nat)(h:j<its.toArray.size)(i:j<its'.toArray.size) :
  SeqAt.EqAt A s its.toArray[j] its'.toArray[j] (b0 (bE k) ds es j)/\(b0 (bE k) ds es j=false->oK A s its.toArray[j] its'.toArray[j] (b0 (d9 k) ds es j)):=by
 have l:its[j]?=some its.toArray[j]:=by simp at h;simp[h]
 have m:its'[j]?=some its'.toArray[j]:=by simp at i;simp[i]
 have⟨d,a,c⟩:=gK p l;have⟨e,b,f⟩:=gK o m;have z:b0 (bE k) ds es j=bE k d e:=by unfold b0;rw[a,b]
 have n:b0 (d9 k) ds es j=d9 k d e:=by unfold b0;rw[a,b]
 rw[z,n];exact⟨lJ c f g,λ_=>zL c f (r (d,e) (zK a b)) g⟩
def Fy(I:HD s.heap (k+1) (.lst ds) u)(J:HD s.heap (k+1) (.lst es) v)(K:i0 (k+1) (.lst ds) (.lst es))(L:A.units+(k+1)<cLine)(q:Q (d9 (k+1) (.lst ds) (.lst es)) s):wpAny (model prog w) A (oneLt' true u v) Q E s:=by
 obtain⟨a,b,rfl,t,p⟩:=I;obtain⟨y,its',rfl,t',l⟩:=J;have C:=p.length;have G:=l.length;have⟨⟨z,dd,m,sl⟩,f,o,n,r⟩:=t.isList;have⟨⟨x,g,h,i⟩,j,c,B,e⟩:=t'.isList;simp only at o r c e;subst o r c e
 have H:Q (gL (b0 (bE k) ds es) (b0 (d9 k) ds es) b.toArray.size its'.toArray.size b.toArray.size 0) s:=by
  simp only[bc];rw[<-C,<-G,zJ];exact q
 rw[oneLt'_eq];simp only[lr];refine ba (wpAny_cRoomFor_or (.inr 'o') ?_);refine ba (wpAny_callSpecialIfBound?_slot (name:=ofString "__lt__") ⟨_,f,rfl⟩ slot_list_lt (yu slot_list_lt ⟨_,f,rfl⟩ entry_list_lt (args_list_lt_2 _ _) (DX a y b.toArray its'.toArray n B dd g sl i _ _) ⟨f,j,Pb p l K (by show A.units+1+k<cLine;omega),?_⟩));exact zg H
noncomputable def gU:D->Bool|.lst _=>true|_=>false
theorem Fz(h:A.units+(k+1)<cLine):∀{ds es:U4}{g its':U9} (i:Nat),Paired (HD s.heap (k+1)) ds g->Paired (HD s.heap (k+1)) es its'->(∀q∈ds.zip es,i0 (k+1) q.1 q.2) →
  (i=0->(ds.head?.map gU).getD true=true/\(es.head?.map gU).getD true=true)->fin=decide (ds.length<es.length)->Q (fM (bE (k+1)) (d9 (k+1)) ds es) s->KatLex prog w A true fin Q (g.zip its') i s
 |[],[],_,_,i,.nil,.nil,_,_,c,q=>by subst c;exact kat_nil (by simpa [fM] using q)
 |[],_::_,_,_,i,.nil,.cons _ _,_,_,c,q=>by subst c;exact kat_nil (by simpa [fM] using q)
 |_::_,[],_,_,i,.cons _ _,.nil,_,_,c,q=>by subst c;exact kat_nil (by simpa [fM] using q)
 |d::ds,e::es,_,_,i,.cons a b,.cons m v,o,x,c,q=>by
  rw[rg];have l:∀q∈ds.zip es,i0 (k+1) q.1 q.2:=λq p=>o q (by rw[rg];exact ua _ p)
  have f:=o (d,e) (by rw[rg];exact cc);refine PySem.W.kat_cons (lJ a m h prog w _ _ (kat_go (λj=>PySem.W.kat_yes ?_) λj=>kat_no ?_))
  ·refine Fz h (i+1) b v l (λz=>'o') (by rw[c];simp) ?_
   rw[fM,ya j]at q;exact q
  ·rw[fM,ic (by rw[j];exact bb)]at q
   by_cases n:i=0
   ·subst n
    have⟨r,u⟩:=x rfl
    cases d with
    |lst ds' =>
     cases e with
     |lst y=>exact Fy a m f h q
     |_=>cases u
    |_=>cases r
   ·have:(true && (i == 0))=false:=by simp[n]
    rw[this];exact PySem.W.kat_one _ _ (zL a m f h prog w _ _ q)
noncomputable def pw:D->Bool
 |.lst _=>true
 |.tup (.lst _::_)=>true
 |_=>false
def FA(j:HD s.heap (k+2) d u)(l:HD s.heap (k+2) e v)(m:i0 (k+2) d e)(B:A.units+(k+2)<cLine)(C:(κ=oneType'/\gU d=true/\gU e=true)\/(κ=tuples' true/\gU d=false/\gU e=false/\pw d=true/\pw e=true))(q:Q (d9 (k+2) d e) s):wpAny (model prog w) A (keyLt' κ u v) Q E s:=by
 rcases C with⟨rfl,g,h⟩|⟨rfl,g,h,b,c⟩
 ·cases d with
  |lst ds =>
   cases e with
   |lst es=>rw[keyLt'_oneType];exact Fy j l m B q
   |_=>cases h
  |_=>cases g
 ·cases d with
  |tup ds =>
   cases e with
   |tup es =>
    obtain⟨a,o,rfl,t,p⟩:=j;obtain⟨H,its',rfl,t',i⟩:=l;obtain⟨I,r,J,n,x⟩:=t;obtain⟨K,y,z,L,f⟩:=t';refine kat_lt r x y f (Fz (k:=k) 'o' 0 p i m (λ_=>?_) ?_ q)
    ·cases ds with
     |nil=>cases b
     |cons F ds =>
      cases es with
      |nil=>cases c
      |cons G es =>
       refine⟨?_,?_⟩
       ·cases F <;> first|rfl|cases b
       ·cases G <;> first|rfl|cases c
    ·rw[bc,bc,<-p.length,<-i.length]
   |sc _=>cases c
   |lst _=>cases h
   |dk _ _=>cases c
   |dt _ _=>cases c
   |er _ _ _=>cases c
  |sc _=>cases b
  |lst _=>cases g
  |dk _ _=>cases b
  |dt _ _=>cases b
  |er _ _ _=>cases b
end
theorem FB:∀{k:Nat}{d e:D}{u v:Value},HD h k d u->HD h k e v->d9 k d e=b9 d e/\(eg d e=true->i0 k d e):=by
 intro k
 induction k with
 |zero =>
  intro d e u v c f
  cases d with
  |sc a =>
   cases e with
   |sc b=>rw[b9,eg];exact⟨rfl,λh=>h⟩
   |_=>exact f.elim
  |_=>exact c.elim
 |succ k r =>
  intro d e u v c f
  have all:∀{ds es:U4} {us vs:U9},Paired (HD h k) ds us->Paired (HD h k) es vs->fM (bE k) (d9 k) ds es=cW ds es/\(j7 ds es=true->∀p∈ds.zip es,i0 k p.1 p.2):=by
   intro ds es us vs p
   induction p generalizing es vs with
   |nil=>intro q;cases q <;> simp[fM,cW]
   |cons a b i =>
    intro q
    cases q with
    |nil=>simp[fM,cW]
    |cons j s =>
     have⟨l,m⟩:=i s;have⟨n,o⟩:=r a j;refine⟨?_,λh=>?_⟩
     ·rw[fM,cW,Ae a j,l,n]
     ·rw[j7,uc]at h
      intro p hp;rw[rg]at hp;rcases wc.mp hp with rfl|hp
      ·exact o h.1
      ·exact m h.2 p hp
  cases d with
  |sc a =>
   cases e with
   |sc b=>rw[b9,eg];exact⟨rfl,λh=>h⟩
   |_=>simp[d9,b9,eg]
  |tup ds =>
   cases e with
   |tup es=>obtain⟨_,_,_,_,p⟩:=c;obtain⟨_,_,_,_,g⟩:=f;rw[b9,eg];exact all p g
   |_=>simp[d9,b9,eg]
  |lst ds =>
   cases e with
   |lst es=>obtain⟨_,_,_,_,p⟩:=c;obtain⟨_,_,_,_,g⟩:=f;rw[b9,eg];exact all p g
   |_=>simp[d9,b9,eg]
  |_=>exact c.elim
noncomputable def atObj(a:Addr)(o:Obj):HO:=.ext λh=>h.get? a=some o
structure jM(rs:U4)(lt:Nat->Nat->Bool):Prop where
 wo:WO lt
 ok:∀r∈rs,bL LV r=true
 kd:(∀r∈rs,gU r=true)\/∀r∈rs,gU r=false/\pw r=true
 lo:∀(i j:Nat) (r t:D),rs[i]?=some r->rs[j]?=some t->eg r t=true/\lt i j=b9 r t
section
variable {X:Cx}{H:Hp}{s:Shared}{a:Addr}{e1:Nat}{P:PySem.Fin->Shared->Prop}{A:Around}
def FC{P:Program}{H:Hp}{h:Heap}{a:Addr}(e:h.get? a=some o):cF P w H h a (atObj a o):=⟨e,⟨o,e⟩,λ_ _ p k=>k o p⟩
theorem az.atObj(I:az X pins σ H s)(h:H a=some (atObj a o)):s.heap.get? a=some o:=(show cF X.prog X.w H s.heap a (L2.atObj a o) from I.hok a _ h).1
def Pc(I:az X pins σ H s)(p:H kS=some (.lst ks))(r:H a=some (atObj a (seqObj "list" #[] e1)))(h:kS≠a)(C:(arrOf st').map (·.2)=out.toArray)(F:failedOf st'=none)(v:bC ys out)(hz:out.length<=1000)(q:∀s',az X pins σ (aF (aF H kS (.lst [])) a (.lst ys)) s'->P (.done (.ret .none)) s'):wpAny (model X.prog X.w) A (ksk_tail a false e1 (.ref kS) st') P E s:=by
 have⟨i,n,rk,g,j⟩:=I.lst p;have l:=I.atObj r;have z:az X pins σ (aF H kS (.lst [])) { s with heap:=s.heap.update kS (mapSeq λ_=>(#[]:Y4)),toks:=s.toks }:=I.lstUpd (its':=[]) (n':=if (#[]:Y4).size == i.toArray.size then n else n+1) p g rfl .nil (ie _) s.toks;have c:(s.heap.update kS (mapSeq λ_=>(#[]:Y4))).get? a=some (seqObj "list" #[] e1):=(bf _ _ h).trans l;have f:=zn c (λ_=>out.toArray);have m:(aF H kS (.lst [])) a=some (atObj a (seqObj "list" #[] e1)):=by rw[aI h.symm];exact r
 have B:=z.write (x:=a) (e:=a) (o:=.lst ys) (t':=s.toks) (h':=(s.heap.update kS (mapSeq λ_=>(#[]:Y4))).update a (mapSeq λ_=>out.toArray)) (by rw[m];trivial) 'j' (λb u y e=>(bf _ _ (ue y)).trans e) ⟨_,f⟩
  ⟨by rw[v.length];exact sz 'o',out,_,v,f⟩
 unfold ksk_tail;dsimp only;refine ba (zl g rfl ?_ (by rw[bc,<-rk.length];exact j) (ie _));refine ba (wpAny_letGo ?_);refine ba (seqEpoch_at c rfl ?_);rw[C];refine ba (zl c rfl ?_ (ie _) (by show out.toArray.size<=_;rw[bc];exact vm (sz 'o')));rw[F];simp only[bne_self_eq_false,je,xi];exact wa (q _ B)
def FD(I:az X pins σ H s)(fh:aH Hf H)(dn:Dn X.K Hf r k)(o:bL LV r=true)(a:bu k u):HD s.heap LV r u:=I.den ((dn.same fh).at o) a
theorem FE:∀{rs:U4}{us:U9},Paired (HD h LV) rs us->(∀r∈rs,gU r=false/\pw r=true)->∃fs,PySem.W.KatTups h us fs/\fs.length=us.length/\∀v∈fs,∃b o,v=.ref b/\h.get? b=some o/\o.cls=.type "list"
 |_,_,.nil,_=>⟨[],.nil,rfl,λv hv=>by cases hv⟩
 |r::rs,u::us,.cons a b,s=>by
  have⟨fs,t,l,g⟩:=FE b λx w=>s x (ua _ w)
  have⟨y,e⟩:=s r cc
  cases r with
  |tup ds =>
   cases ds with
   |nil=>cases e
   |cons G ds =>
    cases G with
    |lst es =>
     obtain⟨c,z,rfl,A,p⟩:=a;obtain⟨o,B,C,n,E⟩:=A
     cases p with
     |cons H I =>
      obtain⟨i,q,rfl,pl,_⟩:=H;have⟨F,j,m,_⟩:=pl.isList;refine⟨.ref i::fs,.cons (f:=.ref i) B C E 'm' t,by simp[l],λv hv=>?_⟩;rcases wc.mp hv with rfl|hv
      ·exact⟨i,F,rfl,j,m⟩
      ·exact g v hv
    |sc _=>cases e
    |tup _=>cases e
    |dk _ _=>cases e
    |dt _ _=>cases e
    |er _ _ _=>cases e
  |lst _=>cases y
  |sc _=>cases e
  |dk _ _=>cases e
  |dt _ _=>cases e
  |er _ _ _=>cases e
def AC(a:h.get? b=some o)(c:o.cls=T):Looks M h (typeOf (.ref b)) T:=by
 subst c;exact(Looks.ld a).andThen .now
def t6(_:Nat->Nat->Bool)(n:Nat):Prop:=n<64/\n<=1000
def Pd{us vs:U9}{f:Value}(F:Paired (HD s.heap LV) rs us)(ord:jM rs lt)(hl:us.length=vs.length)(Y:t6 lt vs.length)(hu:A.units+LV<cLine)(p:∀(m:SortSt) (n:Array Nat),Ix vs.length n->Up lt n vs.length->(arrOf m).map (·.2)=(n.toList.map λi=>vs.getD i Value.none).toArray->failedOf m=none->wpAny (model X.prog X.w) A (ksk_tail a false l f m) P E s) :
  wpAny (model X.prog X.w) A (ksk_end a false vs.toArray l f us.toArray) P E s:=by
 have h6:=Y.1;unfold ksk_end;dsimp only;simp only[je,xi];have hrl:=F.length;by_cases q:vs.toArray.size<2
 ·rw[ya q,ya q]
  refine ba (wa ?_);rw[StateT.run_pure];refine ba (wa ?_);dsimp only;rw[bc]at q;refine p _ (List.range vs.length).toArray (uh _) (λi j hij hj=>?_) ?_ rfl
  ·have:i=j:=by omega
   rw[this];exact ord.wo.irr _
  ·show ((us.toArray.zip vs.toArray)).map (·.2)=_
   have e1:(us.toArray.zip vs.toArray).map (·.2)=vs.toArray:=by
    apply Array.ext';simp[zq,hl]
   rw[e1]
   congr 1
   apply wk;intro i;by_cases u:i<vs.length
   ·simp[u]
   ·simp[u]
 ·rw[ic q,ic q]
  rw[bc]at q
  have y:∀I:SortKind,((I=oneType'/\∀r∈rs,gU r=true)\/(I=tuples' true/\∀r∈rs,gU r=false/\pw r=true))->wpAny (model X.prog X.w) A (sortRuns'.run (SortSt.mk' I (us.toArray.zip vs.toArray) #[] 7 none) >>= λx=>ksk_tail a false l f x.2) P E s:=by
   intro I M;refine ba (kat_run (ks:=us) (vs:=vs) (Q:=λm H=>wpAny (model X.prog X.w) A (ksk_tail a false l f m) P E H) (G:=λn H=>H=s/\Ix vs.length n/\Up lt n vs.length) hl 'o' h6 (λn m H hs J hf ⟨e,g1,g2⟩=>?_) ?_)
   ·subst e
    exact p m n g1 g2 (kat_snds hl J) hf
   ·refine dS.wp (λi j C u hj hC=>?_) (λn K=>⟨rfl,K⟩) (Fs ord.wo 'o')
    unfold kas_ask;have z:i<us.length:=by omega
    have B:j<us.length:=by omega
    obtain⟨ri,Z,di⟩:=gK F (show us[i]?=some us[i] by simp[z]);obtain⟨rj,qj,dj⟩:=gK F (show us[j]?=some us[j] by simp[B]);have ei:us.getD i Value.none=us[i]:=by simp[z]
    have ej:us.getD j Value.none=us[j]:=by simp[B]
    rw[ei,ej];have⟨o1,o2⟩:=ord.lo i j ri rj Z qj;have R:=ee Z;have U:=ee qj;have lo:=FB di dj;refine FA (k:=7) di dj (lo.2 o1) 'o' ?_ (by rw[lo.1,<-o2];exact hC);rcases M with⟨rfl,h⟩|⟨rfl,h⟩
    ·exact .inl ⟨rfl,h _ R,h _ U⟩
    ·exact .inr ⟨rfl,(h _ R).1,(h _ U).1,(h _ R).2,(h _ U).2⟩
  rcases ord.kd with hk|hk
  ·refine ba (kas_kind (T:=.type "list") 'o' (λv L=>?_) rfl rfl (y _ (.inl ⟨rfl,hk⟩)))
   have⟨i,u⟩:=bt L;have⟨r,qr,dr⟩:=gK F u
   have:=hk r (ee qr)
   cases r with
   |lst es =>
    obtain⟨c,its,rfl,pl,_⟩:=dr;have⟨o,N,O,_⟩:=pl.isList;exact AC N O
   |_=>cases this
  ·have⟨fs,t,lf,g⟩:=FE F hk
   refine ba (PySem.W.kat_kind (T:=.type "list") t 'o' (λv L=>?_) rfl (y _ (.inr ⟨rfl,hk⟩)));obtain⟨b,o,rfl,N,O⟩:=g v L;exact AC N O
end
section
variable {X:Cx}{pins:U1}{σ:St}{H Hf:Hp}{s:Shared}{a kS:Addr}{e1 k:Nat}{P:PySem.Fin->Shared->Prop}
theorem Pe(G:aG X.prog X.w X.K X.mg X.base aZ k f fd [p] sp)(c:aK k X.A.in1.in1)(g:cB X.K fd [p] [])(I:az X pins σ H s)(r:bu v u)(h:sp [v] H Q E0):wpAny (model X.prog X.w) X.A.in1.in1 (call (.ref f) [u]) (EP X pins σ Q) (λ_ _=>False) s:=by
 have b:BindsTo s fd ⟨[u],[]⟩ ([p].zip [u]):=by have:=g s [u] I.kIn rfl;rwa [zc]at this
 refine wpAny_call (so (G.run X.A.in1.in1 X.stack s H ⟨[u],[]⟩ [u] [v] Q E0 c I.env0.in1.in1 b (.cons r .nil) h) λr i a=>?_)
 cases r with
 |error e=>exact a.elim
 |ok fl =>
  cases fl with
  |ret u=>exact I.after a
  |next=>exact elim a
  |brk=>exact elim a
  |cont=>exact elim a
structure KI(X:Cx)(pins:U1)(σ:St)(Hf H:Hp)(a kS:Addr)(o:Obj)(rs:U4)(s:Shared)(Hf' H':Hp)(ks:U6):Prop where
 inv:az X pins σ H' s
 st:H' kS=some (.lst ks)
 at_:H' a=some (atObj a o)
 fr:∀b ob,b≠kS->H b=some ob->H' b=some ob
 ff:aH Hf Hf'
 fh:aH Hf' H'
 nw:∀b,Hf' b≠none->Hf b≠none\/jX H b
 nf:∀b o u,Hf' b=some (.frz o u)->Hf b=some (.frz o u)
 dn:aR X.K Hf' rs ks
def Pf(G:aG X.prog X.w X.K X.mg X.base aZ k f fd [p] (cw X.K 1 F))(hr:aK k X.A.in1.in1)(J:cB X.K fd [p] [])(I:az X pins σ H s)(Y:H kS=some (.lst []))(ha:H a=some (atObj a (seqObj "list" #[] e1)))(Z:kS≠a)(hfk:Hf kS=none)(fh:aH Hf H)(hd:aR X.K Hf ds xs)(rv:bC xs vs)(hF:∀(i:Nat) d,ds[i]?=some d->∃r,rs[i]?=some r/\F [d]=some r)(hl:rs.length=ds.length)(M:t6 lt ds.length)(ord:jM rs lt)(q:∀Hf' H' ks s' (L:Array Nat) B ys,KI X pins σ Hf H a kS (seqObj "list" #[] e1) rs s' Hf' H' ks->Ix ds.length L->Up lt L ds.length->ys=L.toList.map (λi=>xs.getD i V.non)->az X pins σ (aF (aF H' kS (.lst [])) a (.lst ys)) B->P (.done (.ret .none)) B) :
  wpAny (model X.prog X.w) X.A.in1.in1 (ksk_rest a (.ref f) false vs.toArray e1 (.ref kS)) P E s:=by
 have l1:ds.length=xs.length:=hd.length;have l2:xs.length=vs.length:=rv.length;have h6:=M.2;unfold ksk_rest;refine ba (km ?_);rw[List.forIn_toArray];refine ba (ksk_fold (λi s'=>∃Hf' H' ks,KI X pins σ Hf H a kS (seqObj "list" #[] e1) (rs.take i) s' Hf' H' ks) vs 0 s ⟨Hf,H,[],⟨I,Y,ha,λ_ _ _ h=>h,aH.refl _,fh,λ_ h=>.inl h,λ_ _ _ h=>h,by rw[List.take_zero];exact .nil⟩⟩ ?step ?done)
 case step =>
  rintro j x s' hx ⟨Hf',H',ks,K⟩;simp only[wg]at K ⊢;have hj:j<vs.length:=(wb.mp hx).1;have⟨v,qv,rx⟩:=gK rv hx;have⟨d,qd,dd⟩:=gK hd qv;have⟨r,qr,hr'⟩:=hF j d qd;have hkl:ks.length<=1000:=by rw[<-K.dn.length,se];omega
  refine ba (wpAny_attempt (vh (Pe (Q:=λv N=>∃g,Ex Hf' H' g N/\Dn X.K g r v) G hr J K.inv rx ⟨Hf',[d],r,K.fh,.cons (dd.same K.ff) .nil,rfl,hr',λg N v m dv=>⟨g,m,dv⟩⟩) (λu B he=>?_) λ_ _ h=>h.elim));obtain⟨w,N,I2,rw_,g,m,dw⟩:=he;dsimp only;have O:N kS=some (.lst ks):=m.hh _ _ K.st;have⟨its,n,rk,C,hkz⟩:=I2.lst O
  have R:g kS=none:=by
   cases z:g kS with
   |none=>rfl
   |some o =>
    rcases m.nw kS (by rw[z];exact λz=>nomatch z) with y|y
    ·rcases K.nw kS y with y|y
     ·exact absurd hfk y
     ·exact(y.no Y (λ_ z=>nomatch z)).elim
    ·exact(y.no K.st (λ_ z=>nomatch z)).elim
  have I3:az X pins σ (aF N kS (.lst (ks++[w]))) { B with heap:=B.heap.update kS (mapSeq (·.push u)),toks:=B.toks }:=I2.lstUpd (its':=its++[u]) (n':=if (its.toArray.push u).size == its.toArray.size then n else n+1) O C (by show Obj.mk _ _ _ _=_;simp[mapSeq]) (rk.append (.cons rw_ .nil)) (by rw[rc,yc];exact sz 'o') B.toks;have T:=rk.length;refine ba (zl C rfl ?_ (by rw[bc,<-T];exact sz 'o') (by show (its.toArray.push u).size<=_;rw[Array.size_push,bc,<-T];exact vm (sz 'o')));refine wa ⟨rfl,g,aF N kS (.lst (ks++[w])),ks++[w],⟨I3,aT,by rw[aI Z.symm];exact m.hh _ _ K.at_,λb ob J e=>by rw[aI J];exact m.hh _ _ (K.fr b ob J e),K.ff.trans m.ff,λb ob e=>?_,λb h=>?_,λb o u h=>K.nf b o u (m.nf b o u h),?_⟩⟩
  ·rw[aI (dP e R)];exact m.fh b ob e
  ·rcases m.nw b h with y|y
   ·exact K.nw b y
   ·by_cases J:b=kS
    ·subst J;exact(y.no K.st (λ_ z=>nomatch z)).elim
    ·cases z:H b with
     |none=>exact .inr (.inl z)
     |some o =>
      rcases y with y|⟨xs,y⟩
      ·rw[K.fr b o J z]at y;cases y
      ·rw[K.fr b o J z]at y;cases y;exact .inr (.inr ⟨xs,z⟩)
  ·have:rs.take (j+1)=rs.take j++[r]:=by rw[List.take_add_one,qr];rfl
   rw[this];exact(K.dn.same m.ff).zsnoc dw
 case done =>
  rintro s' ⟨Hf',H',ks,K⟩;rw[wg,zf 'o']at K;have⟨its,n,rk,C,hkz⟩:=K.inv.lst K.st;refine ba (listItems_at C rfl ?_)
  have hp:Paired (HD s'.heap LV) rs its:=by
   have all:∀{rs:U4} {ks:U6} {us:U9},aR X.K Hf' rs ks->bC ks us->(∀r∈rs,bL LV r=true)->Paired (HD s'.heap LV) rs us:=by
    intro rs ks us d
    induction d generalizing us with
    |nil=>intro v _;cases v;exact .nil
    |cons a b ih=>intro v o;cases v with|cons c e=>exact .cons (FD K.inv K.fh a (o _ cc) c) (ih e λr h=>o r (ua _ h))
   exact all K.dn rk ord.ok
  have hil:its.length=vs.length:=by rw[<-hp.length];omega
  refine Pd (vs:=vs) hp ord hil (by rw[<-l2,<-l1];exact M) (by have:=hr.units;show _+9<cLine;omega) λst' L h1 h2 h3 h4=>?_
  have hn:vs.length=ds.length:=by omega
  rw[hn]at h1 h2;refine Pc (ys:=L.toList.map λi=>xs.getD i V.non) K.inv K.st K.at_ Z h3 h4 ?_ (by rw[aa,qf,h1.size];exact M.2) λB I2=>q Hf' H' ks s' L B _ K h1 h2 rfl I2
  have bd:∀i∈L.toList,i<ds.length:=λi hi=>ug.mp (h1.mem_iff.mp hi)
  have U:∀l:U7,(∀i∈l,i<ds.length)->bC (l.map λi=>xs.getD i V.non) (l.map λi=>vs.getD i Value.none):=by
   intro l
   induction l with
   |nil=>intro _;exact .nil
   |cons i r ih =>
    intro h;have hi:=h i cc;refine .cons ?_ (ih λj hj=>h j (ua _ hj));have hiv:i<vs.length:=by omega
    have ev:vs[i]?=some vs[i]:=vc hiv;have⟨v,qv,rx⟩:=gK rv ev;show bu (xs.getD i V.non) (vs.getD i Value.none);rw[ed,qv,ed,ev];exact rx
  exact U _ bd
end
section
variable {X:Cx}{pins:U1}{σ:St}{H Hf:Hp}{s:Shared}{a:Addr}
structure AD(X:Cx)(pins:U1)(σ:St)(Hf H:Hp)(a:Addr)(xs:U6)(n:Nat)(lt:Nat->Nat->Bool)(s:Shared)(Hf' H':Hp)(π:Array Nat):Prop where
 inv:az X pins σ H' s
 at_:H' a=some (.lst (π.toList.map λi=>xs.getD i V.non))
 fa:Hf' a=none
 ff:aH Hf Hf'
 fh:aH Hf' H'
 fr:∀b ob,b≠a->H b=some ob->H' b=some ob
 nw:∀b,Hf' b≠none->Hf b≠none\/jX H b
 nf:∀b o u,Hf' b=some (.frz o u)->Hf b=some (.frz o u)
 ix:Ix n π
 up:Up lt π n
def Pg(G:aG X.prog X.w X.K X.mg X.base aZ k f fd [p] (cw X.K 1 F))(hr:aK k X.A.in1.in1)(N:cB X.K fd [p] [])(I:az X pins σ H s)(ha:H a=some (.lst xs))(L:Hf a=none)(fh:aH Hf H)(hd:aR X.K Hf ds xs)(hF:∀(i:Nat) d,ds[i]?=some d->∃r,rs[i]?=some r/\F [d]=some r)(hl:rs.length=ds.length)(M:t6 lt ds.length)(ord:jM rs lt)(q:∀Hf' H' s' (O:Array Nat),AD X pins σ Hf H a xs ds.length lt s' Hf' H' O->P (.done (.ret .none)) s') :
  wpAny (model X.prog X.w) X.A.in1.in1 (ksk_tree a (.ref f) false) P E s:=by
 have⟨vs,n,Z,U,hz⟩:=I.lst ha;have lv:=Z.length;have ld:=hd.length;have h6:=M.2;have g:=zn U (λ_=>(#[]:Y4));generalize he1:(if (#[]:Y4).size == vs.toArray.size then n else n+1)=e1 at g;have I1:az X pins σ (aF H a (atObj a (seqObj "list" #[] e1))) { s with heap:=s.heap.update a (mapSeq λ_=>(#[]:Y4)),toks:=s.toks }:=I.write (x:=a) (e:=a) (by rw[ha];trivial) 'j' (λb u N e=>(bf _ _ (ue N)).trans e) ⟨_,g⟩ (FC g);have I2:az X pins σ (aF H a (atObj a (seqObj "list" #[] e1))) { s with heap:=(s.heap.update a (mapSeq λ_=>(#[]:Y4))).push (seqObj "tuple" vs.toArray 0),toks:=s.toks }:=I1.kept λb o e=>jc _ e
 have I3:=I2.laid (a:=((s.heap.update a (mapSeq λ_=>(#[]:Y4))).push (seqObj "tuple" vs.toArray 0)).objs.size) (o:=.lst []) (t':=s.toks) (h':=((s.heap.update a (mapSeq λ_=>(#[]:Y4))).push (seqObj "tuple" vs.toArray 0)).push (seqObj "list" #[] 0)) (λb o e=>jc _ e) (dc _) ⟨ie _,[],0,.nil,pd _ rfl⟩;have c:(aF H a (atObj a (seqObj "list" #[] e1))) ((s.heap.update a (mapSeq λ_=>(#[]:Y4))).push (seqObj "tuple" vs.toArray 0)).objs.size=none:=I2.hok.fresh (dc _);unfold ksk_tree;refine ba (listItems_at U rfl ?_);refine ba (zl U rfl ?_ (by rw[bc,<-lv];exact hz) (ie _));refine ba (seqEpoch_at g rfl ?_);refine ba (wpAny_newTuple ?_ (by show vs.length<=_;rw[<-lv];exact hz));refine ba (on ?_ (ie _));refine fg ?_;generalize hkS:((s.heap.update a (mapSeq λ_=>(#[]:Y4))).push (seqObj "tuple" vs.toArray 0)).objs.size=kS at I3 c;have j:kS≠a:=λz=>by subst z;rw[aT]at c;cases c
 have C:H kS=none:=by rw[aI j]at c;exact c
 have m:Hf kS=none:=fh.free C
 have Y:aH Hf (aF (aF H a (atObj a (seqObj "list" #[] e1))) kS (.lst [])):=λb o e=>by
  rw[aI (dP e m),aI (dP e L)];exact fh b o e
 have h3:∀{b:Addr},b≠a->b≠kS->(aF (aF H a (atObj a (seqObj "list" #[] e1))) kS (.lst [])) b=H b:=λ{b} B l=>by rw[aI l,aI B]
 refine Pf (kS:=kS) G hr N I3 aT (by rw[aI j.symm,aT]) j m Y hd Z hF hl M ord λHf' H' ks s' O s2 ys K Q R T I4=>q Hf' (aF (aF H' kS (.lst [])) a (.lst ys)) s2 O ?_
 have v:Hf' a=none:=by
  cases z:Hf' a with
  |none=>rfl
  |some o =>
   rcases K.nw a (by rw[z];exact λz=>nomatch z) with y|y
   ·exact absurd L y
   ·exact(y.no (by rw[aI j.symm,aT]) (λ_ z=>by unfold atObj at z;cases z)).elim
 have J:Hf' kS=none:=by
  cases z:Hf' kS with
  |none=>rfl
  |some o =>
   rcases K.nw kS (by rw[z];exact λz=>nomatch z) with y|y
   ·exact absurd m y
   ·exact(y.no aT (λ_ z=>nomatch z)).elim
 subst T;refine⟨I4,aT,v,K.ff,λb o e=>?_,λb ob B e=>?_,λb h=>?_,K.nf,Q,R⟩
 ·rw[aI (dP e v),aI (dP e J)];exact K.fh b o e
 ·have l:b≠kS:=λz=>by subst z;rw[C]at e;cases e
  rw[aI B,aI l];exact K.fr b ob l (by rw[h3 B l];exact e)
 ·rcases K.nw b h with y|y
  ·exact .inl y
  ·have B:b≠a:=λz=>by subst z;exact h v
   have l:b≠kS:=λz=>by subst z;exact h J
   unfold jX at y;rw[h3 B l]at y;exact .inr y
def AE(G:aG X.prog X.w X.K X.mg X.base aZ k f fd [p] (cw X.K 1 F))(M:aK k X.A.in1.in1)(N:cB X.K fd [p] [])(I:az X pins σ H s)(fh:aH Hf H)(C:aR X.K Hf ds xs)(n:∀R:U9->Shared->Prop,(∀h' tk vs,(∀b o,s.heap.get? b=some o->h'.get? b=some o)->bC xs vs->R vs { s with heap:=h',toks:=tk })->wpAny (model X.prog X.w) X.A.in1 (collect u) R X.xe s)(O:∀(i:Nat) d,ds[i]?=some d->∃r,rs[i]?=some r/\F [d]=some r)(hl:rs.length=ds.length)(v:t6 lt ds.length)(ord:jM rs lt)(q:∀Hf' H' l (j:Array Nat),Ex Hf H Hf' H'->H l=none->Hf' l=none->H' l=some (.lst (j.toList.map λi=>xs.getD i V.non))->Ix ds.length j->Up lt j ds.length->Q (.ref l) H') :
  wpAny (model X.prog X.w) X.A (call (.builtin "sorted") [u] [(ofString "key",.ref f)]) (EP X pins σ Q) X.xe s:=by
 have T:=C.length;have U:=v.2;refine call_function_entry_kw kind_sorted plain_sorted entry_sorted (ksk_s1 _ _) ?_
 unfold Builtin.«sorted»;refine ba (m:=checkCount "sorted" 1 1 _) (wa ?_);refine ba (n _ λh' tk vs g z=>?_);have E:=z.length;refine ba (on ?_ (by rw[<-E];exact sz 'o'));have B:az X pins σ H { s with heap:=h',toks:=tk }:=I.kept g;have J:=B.laid (a:=h'.objs.size) (o:=.lst xs) (t':=tk) (h':=h'.push (seqObj "list" vs.toArray 0)) (λb o e=>jc _ e) (dc _) ⟨sz 'o',vs,0,z,pd _ rfl⟩;have c:H h'.objs.size=none:=B.hok.fresh (dc _);have x:(h'.push (seqObj "list" vs.toArray 0)).get? h'.objs.size=some (seqObj "list" vs.toArray 0):=pd _ rfl;refine ba (fg (wpAny_call_entry_kw slot_list_sort ⟨_,x,rfl⟩ entry_list_sort ?body (ksk_l1 _ _)))
 case body =>
  have L:=ksk_t1 f h'.objs.size;show wpAny (model X.prog X.w) X.A.in1.in1 (Builtin.«list.sort» ⟨[.ref h'.objs.size],[(ofString "key",.ref f)]⟩) _ _ _;rw[L];refine Pg G M N J aT (fh.free c) (fh.trans (eP c)) C O hl v ord λHf' H' P j K=>?_
  refine⟨_,rfl,wa ⟨_,rfl,.ref h'.objs.size,H',K.inv,rfl,q Hf' H' _ j ⟨K.ff,λb o e=>?_,K.fh,λb h=>?_,K.nf⟩ c K.fa K.at_ K.ix K.up⟩⟩
  ·have hn:b≠h'.objs.size:=dP e c
   exact K.fr b o hn (by rw[aI hn];exact e)
  ·rcases K.nw b h with y|y
   ·exact .inl y
   ·by_cases hn:b=h'.objs.size
    ·subst hn;exact .inr (.inl c)
    ·unfold jX at y;rw[aI hn]at y;exact .inr y
end
def jN(h:Heap)(d:Addr)(es:Array DictEntry)(ep:Nat):Prop:=∃o,h.get? d=some o/\o.ExactDict/\o.data=.dict es ep
section
variable {A:Around}{s:Shared}{es:Array DictEntry}
def jN.ty(x:jN s.heap d es ep):s.TypeIs (.ref d) "dict":=let ⟨o,a,b,_⟩:=x;⟨o,a,b.1⟩
def jN.at(x:jN h d es ep)(e:∀o,h.get? d=some o->h'.get? d=some o):jN h' d es ep:=let ⟨o,a,r⟩:=x;⟨o,e _ a,r⟩
def jN.lt(x:jN h d es ep):d<h.objs.size:=let ⟨_,a,_⟩:=x;zd a
def FF(c:(d == sysModules)=false)(hm:jN s.heap d es ep)(e:Q (.ref s.heap.objs.size) { s with heap:=s.heap.push { cls:=.type "dict_keyiterator",data:=.fields #[.ref d,.int 0 0,.int es.size 0,.int ep 0] } }):wpAny (model prog w) A (pyIter (.ref d)) Q E s:=by
 have⟨o,b,f,a⟩:=id hm;refine wpAny_pyIter_slot hm.ty slot_dict_iter (ji slot_dict_iter hm.ty PySem.F.entry_dict_iter ?_ (PySem.F.args_dict_iter_1 _));unfold Builtin.«dict.__iter__»;refine ba ?_;unfold Builtin.Dict.dictSlotNone;refine ba (qk hm.ty ?_);show wpAny _ _ (pure (Value.ref d)) _ _ s;refine wa ?_;show wpAny _ _ (Builtin.Dict.showsAll d >>= _) _ _ s;unfold Builtin.Dict.showsAll;rw[ic (by rw[c];exact bb)];refine ba (wa ?_);refine ba (ng b a ?_);refine ba (dm b a ?_);refine ba (rh (wa ⟨_,rfl,"dict_keyiterator",_,⟨_,pd _ rfl,rfl⟩,slot_dict_keyiterator_next.lookup,?_⟩));simpa [rawInt] using e
def FG(a:s.heap.IsKeyIter it d i es.size ep)(hm:jN s.heap d es ep)(m:i<es.size)(n:∀h',h'.IsKeyIter it d (i+1) es.size ep->Heap.SameBut it s.heap h'->Q (some es[i].key) { s with heap:=h' }):wpAny (model prog w) A (pyNext (.ref it)) Q E s:=by
 have⟨o,h,j,c⟩:=id a;have⟨p,e,l,f⟩:=id hm;unfold pyNext;refine ba (wpAny_attempt (zj (name:=ofString "__next__") a.typeIs slot_dict_keyiterator_next (ji slot_dict_keyiterator_next a.typeIs PySem.F.entry_dict_keyiterator_next ?_ (PySem.F.args_dict_keyiterator_next_1 _))));refine ba (wa ?_);refine ba ?_;refine ba ?_
 first|refine ba (pi a.typeIs (wa ?_));refine ba (yp h c ?_)|refine ba (wj a.typeIs (wa ?_));refine ba (yp h c ?_)
 have g:Builtin.Dict_items.ownsTuple "dict_keyiterator" = false:=by decide
 simp only[g,je,xi];show wpAny _ _ (if (Value.ref d == Value.none)=true then _ else _) _ _ s;rw[ic (show ¬((Value.ref d == Value.none)=true) from bb)];refine ba (wa ?_);refine ba (ng e f ?_);rw[ic 'm'];refine ba (wa ?_);refine ba (dm e f ?_);rw[ic 'm'];refine wa ?_;simp only[show ¬((i:Int)<0) from by omega,xi,qh,wf m];refine ba ?_
 first|refine ba (pi a.typeIs (wa ?_));refine ba (bn a.typeIs ?_)|refine ba (wj a.typeIs (wa ?_));refine ba (bn a.typeIs ?_)
 show wpAny _ _ (setField (.ref it) 1 (rawInt ((i:Int)+1)) >>= _) _ _ s;refine ba (wpAny_setField h c 'm' ?_);have b:(s.heap.update it (Obj.mapFields (·.setIfInBounds 1 (rawInt ((i:Int)+1))))).IsKeyIter it d (i+1) es.size ep:=⟨_,ik _ h (Obj.isFreed_of_fields (Obj.data_mapFields c _)),(Obj.cls_mapFields ..).trans j,by rw[Obj.data_mapFields c];simp[rawInt]⟩
 refine ba (fg ?_);refine ba (bn (s:={ s with heap:=s.heap.update it (Obj.mapFields (·.setIfInBounds 1 (rawInt ((i:Int)+1)))) }) b.typeIs ?_);show wpAny _ _ (pure es[i].key) _ _ _;exact wa (wa ⟨_,rfl,wa (n _ b (xh ..))⟩)
def FH(n:A.handled=none)(c:s.heap.IsKeyIter it d i es.size ep)(hm:jN s.heap d es ep)(p:es.size<=i)(q:∀h',Heap.ExtBut it s.heap h'->Q none { s with heap:=h' }):wpAny (model prog w) A (pyNext (.ref it)) Q E s:=by
 have⟨o,h,r,j⟩:=id c;have⟨u,e,l,f⟩:=id hm;unfold pyNext;refine ba (wpAny_attempt (zj (name:=ofString "__next__") c.typeIs slot_dict_keyiterator_next (ji slot_dict_keyiterator_next c.typeIs PySem.F.entry_dict_keyiterator_next ?_ (PySem.F.args_dict_keyiterator_next_1 _))));refine ba (wa ?_);refine ba ?_;refine ba ?_
 first|refine ba (pi c.typeIs (wa ?_));refine ba (yp h j ?_)|refine ba (wj c.typeIs (wa ?_));refine ba (yp h j ?_)
 have g:Builtin.Dict_items.ownsTuple "dict_keyiterator" = false:=by decide
 simp only[g,je,xi];show wpAny _ _ (if (Value.ref d == Value.none)=true then _ else _) _ _ s;rw[ic (show ¬((Value.ref d == Value.none)=true) from bb)];refine ba (wa ?_);refine ba (ng e f ?_);rw[ic 'm'];refine ba (wa ?_);refine ba (dm e f ?_);rw[ic 'm'];refine wa ?_;simp only[show ¬((i:Int)<0) from by omega,xi,qh,rm p];refine ba ?_
 first|refine ba (pi c.typeIs (wa ?_));show wpAny _ _ (setField (.ref it) 0 .none >>= _) _ _ s|refine ba (wj c.typeIs (wa ?_));show wpAny _ _ (setField (.ref it) 0 .none >>= _) _ _ s
 refine ba (wpAny_setField h j 'm' ?_);show wpAny _ _ (newExc (.type "StopIteration") [] >>= _) _ _ _;refine ba ?_;simp only[newExc,newTuple];refine ba (rh ?_ (by size_fits));refine ba (m:=firstArgMember _ _) (wpAny_of_eq (a:=Value.none) (by first|rfl|(simp only[firstArgMember];rfl)) ?_);refine rh ?_ (by size_fits);simp only[raiseNew];refine ba (wpAny_handled ?_);rw[show A.in1.handled=none from n];refine ba (wa (wpAny_throw ?_));refine ba (ar (T:="StopIteration") (b:=true) ⟨_,pd _ rfl,rfl⟩ isSubtype_stop ?_);exact wa (q _ (((xh ..).extBut.push _).push _))
def Ph(hh:A.handled=none)(I d:Addr)(hne:d≠I)(es:Array DictEntry)(ep:Nat):Walks prog w A I [I,d] [I] es.size (λi v=>∃e,es[i]?=some e/\v=e.key) (λi h=>h.IsKeyIter I d i es.size ep/\jN h d es ep) where
 sub:=λb hb=>by simp at hb;simp[hb]
 frame:=λ_ _ _ x hk=>⟨x.1.at λo e=>hk I 'm' o e,x.2.at λo e=>hk d 'm' o e⟩
 item:=λi s Q E hi x hQ=>FG x.1 x.2 hi λh' hit' hs'=>hQ _ h' s.toks ⟨es[i],by simp[hi],rfl⟩ ⟨hit',x.2.at λo e=>(hs'.2 d hne).trans e⟩ λb o hb e=>hs'.extBut b o (λz=>hb (by simp[z])) e
 done:=λs Q E x hQ=>FH hh x.1 x.2 (dc _) λh' he'=>hQ h' s.toks λb o hb e=>he' b o (λz=>hb (by simp[z])) e
 self:=λ_ _ _ _ x hQ=>wpAny_pyIter_keyiter x.1 hQ
def FI(lo:(d == sysModules)=false):KdlSrc prog w "dict" d d es.size (λi v=>∃e,es[i]?=some e/\v=e.key) (λh=>jN h d es ep) where
 type:=λ_ x=>x.ty
 there:=λ_ x=>⟨x.lt,x.lt⟩
 keep:=λ_ _ x hk=>x.at λo e=>hk d 'j' o e
 notList:=by decide
 notTuple:=by decide
 hint:=λ_ _ _ _ x hq=>PySem.W.kdl_hint_dict x.ty hq
 iter:=λ_ _ hh x=>⟨_,_,(λ_ _ hq=>FF lo x hq),Ph hh _ d (af x.lt) es ep,⟨⟨_,pd _ rfl,rfl,rfl⟩,x.at λo e=>jc _ e⟩⟩
def FJ(n:A.handled=none)(p:(d == sysModules)=false)(x:jN s.heap d es ep)(hn:es.size<=sizeLine)(h:∀h' tk,(∀b o,s.heap.get? b=some o->h'.get? b=some o)->R (es.toList.map (·.key)) { s with heap:=h',toks:=tk }):wpAny (model prog w) A (collect (.ref d)) R E s:=by
 refine kdu_collect (FI (es:=es) (ep:=ep) p) n x hn λh' tk a c f=>?_
 have e:a.toList=es.toList.map (·.key):=by
  apply wk;intro i;obtain⟨q,j⟩:=f;by_cases g:i<a.size
  ·have⟨e,l,m⟩:=j i _ (wf g)
   rw[jg,wf g,m,de,jg,l];rfl
  ·rw[jg,rm 'o',cn (by rw[aa,qf];omega)]
 rw[e];exact h h' tk c
end
noncomputable def px:D->Bool|.sc (.str _)=>true|_=>false
def t7:Nat->D->Bool
 |0,.sc (.int _)=>true
 |1,.sc (.bl _)=>true
 |2,.tup ds=>ds.all px
 |_,_=>false
def lQ:U7->U4->Bool
 |[],[]=>true
 |n::a,d::ds=>t7 n d && lQ a ds
 |_,_=>false
def jq(sg:U7):D->Bool
 |.tup ds=>lQ sg ds
 |_=>false
mutual
noncomputable def d5:D->Bool
 |.sc (.int _)=>true
 |.sc (.bl _)=>true
 |.sc (.str _)=>true
 |.tup ds=>kw ds
 |_=>false
noncomputable def kw:U4->Bool
 |[]=>true
 |d::ds=>d5 d && kw ds
end
mutual
noncomputable def hD(w:World):D->Int
 |.sc (.int i)=>hashInt i
 |.sc (.bl b)=>if b then 1 else 0
 |.sc (.str x)=>hashStr w x
 |.tup ds=>reduceHash (Builtin.Tuple.tupleHashOf (t8 w ds))
 |_=>0
noncomputable def t8(w:World):List D->Y7
 |[]=>[]
 |d::ds=>hD w d::t8 w ds
end
mutual
noncomputable def dr:D->Nat
 |.tup ds=>t9 ds+1
 |_=>1
noncomputable def t9:List D->Nat
 |[]=>0
 |d::ds=>dr d+t9 ds
end
section
theorem FK(g:∀{s:Shared}{d:D}{u:Value}{Q:Int->Shared->Prop},HD s.heap k d u->d5 d=true->Q (hD w d) { s with toks:=s.toks+dr d }->wpAny (model prog w) A (pyHash u) Q E s) :
  ∀{ds:List D} {c:U9} {s:Shared} {b:Array Int} {Q:Array Int->Shared->Prop},Paired (HD s.heap k) ds c->kw ds=true->(∀e:Array Int,e.toList=b.toList++t8 w ds->Q e { s with toks:=s.toks+t9 ds }) →
  wpAny (model prog w) A (forIn c b λx r=>do let h ← pyHash x;pure PUnit.unit;pure (ForInStep.yield (r.push h))) Q E s
 |_,_,s,b,Q,.nil,_,h=>by rw[List.forIn_nil];exact wa (by have:=h b (by simp[t8]);simpa [t9] using this)
 |d::ds,u::c,s,b,Q,.cons a r,f,h=>by
  rw[kw,uc]at f;rw[List.forIn_cons];refine ba (ba (g a f.1 ?_));refine ba (wa (wa ?_));refine FK g (s:={ s with toks:=s.toks+dr d }) r f.2 λe i=>?_
  have:=h e (by rw[i,t8];simp)
  rw[t9]at this
  simpa [Nat.add_assoc] using this
theorem Pi:∀{k:Nat}{A:Around}{s:Shared}{d:D}{u:Value}{Q:Int->Shared->Prop},HD s.heap k d u->d5 d=true->A.units+k<cLine->Q (hD w d) { s with toks:=s.toks+dr d }->wpAny (model prog w) A (pyHash u) Q E s:=by
 intro k
 induction k with
 |zero =>
  intro A s d u Q h c y q
  cases d with
  |sc v =>
   obtain⟨_,r⟩:=h
   cases v with
   |int i=>obtain⟨t,rfl⟩:=r;exact tq q
   |str x=>obtain⟨t,rfl⟩:=r;exact uq q
   |bl b =>
    cases r;refine pyHash_slot (T:="bool") rfl slot_bool_hash entry_int_hash (args_int_hash _) (br _) (.inr 'o') ?_
    cases b
    ·exact(show wpAny _ _ (do ret (← mkInt 0)) _ _ s from ba (gq (wa ⟨_,_,rfl,q⟩)))
    ·exact(show wpAny _ _ (do ret (← mkInt 1)) _ _ s from ba (gq (wa ⟨_,_,rfl,q⟩)))
   |_=>cases c
  |_=>exact h.elim
 |succ k G =>
  intro A s d u Q h c y q
  cases d with
  |sc v =>
   obtain⟨_,r⟩:=h
   cases v with
   |int i=>obtain⟨t,rfl⟩:=r;exact tq q
   |str x=>obtain⟨t,rfl⟩:=r;exact uq q
   |bl b =>
    cases r;refine pyHash_slot (T:="bool") rfl slot_bool_hash entry_int_hash (args_int_hash _) (br _) (.inr 'o') ?_
    cases b
    ·exact(show wpAny _ _ (do ret (← mkInt 0)) _ _ s from ba (gq (wa ⟨_,_,rfl,q⟩)))
    ·exact(show wpAny _ _ (do ret (← mkInt 1)) _ _ s from ba (gq (wa ⟨_,_,rfl,q⟩)))
   |_=>cases c
  |tup ds =>
   obtain⟨a,z,rfl,t,p⟩:=h;obtain⟨o,e,B,n,C⟩:=t;rw[d5]at c;refine pyHash_slot (T:="tuple") ⟨_,e,B⟩ PySem.F.slot_tuple_hash PySem.F.entry_tuple_hash (PySem.F.args_tuple_hash_1 _) (br _) (.inr 'o') ?_;show wpAny _ _ (Builtin.Tuple.tupleItemsOf (.ref a) >>= _) _ _ s;refine ba (wpAny_tupleItemsOf e C ?_);refine ba ?_;rw[<-Array.forIn_toList];refine FK (A:=A.in1) (k:=k) (λ{s d u Q} f g j=>G f g (by show A.units+1+k<cLine;omega) j) p c λl m=>?_
   show wpAny _ _ (retInt (Builtin.Tuple.tupleHashOf l.toList)) _ _ _;rw[m];refine ba (gq (wa ⟨_,_,rfl,?_⟩));rw[hD,dr]at q
   simpa [Nat.add_assoc] using q
  |_=>cases c
theorem Pj:∀{k n:Nat}{A:Around}{s:Shared}{d:D}{u:Value}{Q:Bool->Shared->Prop},HD s.heap k d u->d5 d=true->k<=n->Q true s->wpAny (model prog w) A (eqIsQuiet n u) Q E s:=by
 have f:∀{n:Nat} {A:Around} {s:Shared} {v:V} {u:Value} {Q:Bool->Shared->Prop},bu v u->d5 (.sc v)=true->Q true s->wpAny (model prog w) A (eqIsQuiet n u) Q E s:=by
  intro n A s v u Q r e q
  have H:carriedByValue u=true:=by
   cases v with
   |int i=>obtain⟨t,rfl⟩:=r;rfl
   |str x=>obtain⟨t,rfl⟩:=r;rfl
   |bl b=>cases r;rfl
   |_=>cases e
  rw[eqIsQuiet_byValue n H];exact wa q
 intro k
 induction k with
 |zero =>
  intro n A s d u Q h e hn q
  cases d with
  |sc v=>exact f h.2 e q
  |_=>exact h.elim
 |succ k I =>
  intro n A s d u Q h e hn q
  cases d with
  |sc v=>exact f h.2 e q
  |tup ds =>
   obtain⟨a,y,rfl,t,p⟩:=h;obtain⟨o,z,B,m,G⟩:=t;rw[d5]at e;obtain⟨n',rfl⟩:∃n',n=n'+1:=⟨n - 1,'o'⟩
   unfold eqIsQuiet;refine ba (wpAny_specialOf (T:="tuple") ⟨_,z,B⟩ PySem.F.slot_tuple_eq.lookup ?_);show wpAny _ _ (isInstance (.ref a) (.type "tuple") >>= _) _ _ s;refine ba (ar (T:="tuple") ⟨_,z,B⟩ isSubtype_tuple_tuple ?_);simp only[oi,je,xi];refine ba (wpAny_seqItems z G ?_);refine ba ?_;show wpAny _ _ (forIn y.toArray _ _) _ _ s;rw[<-Array.forIn_toList];refine kn _ (λc r g=>r.1=none/\g=s/\∃es,Paired (HD s.heap k) es c/\kw es=true) _ ?_ ?_ _ _ ⟨rfl,rfl,ds,p,e⟩
   ·rintro v c r g ⟨j,rfl,es,C,l⟩
    cases C with
    |cons a1 J =>
     rw[kw,uc]at l;refine ba (I a1 l.1 'o' ?_);simp only[oi,je,xi];exact wa ⟨rfl,rfl,_,J,l.2⟩
   ·rintro⟨K,L⟩ g ⟨j,rfl,_⟩
    simp only at j;subst j;exact wa q
  |_=>cases e
theorem Pk(r:h.get? c=some o)(s:o.data=.dict es ep)(hs:Heap.SameBut c h h'):∀{k:Nat}{d:D}{u:Value},HD h k d u->HD h' k d u:=by
 intro k
 induction k with
 |zero=>intro d u x;cases d <;> exact x
 |succ k q =>
  intro d u x
  have m:∀{b:Addr} {f:Obj} {xs:Y4} {n:Nat},h.get? b=some f->f.data=.seq xs n->b≠c:=λ{b f xs n} e1 e2 z=>by
   subst z;rw[r]at e1;cases e1;rw[s]at e2;cases e2
  cases d with
  |sc v=>exact x
  |tup ds =>
   obtain⟨a,g,e,⟨f,j,l,n,i⟩,p⟩:=x;exact⟨a,g,e,⟨f,(hs.2 a (m j i)).trans j,l,n,i⟩,p.zmap λ_ _=>q⟩
  |lst ds =>
   obtain⟨a,g,e,⟨f,n,j,l,i⟩,p⟩:=x;exact⟨a,g,e,⟨f,n,(hs.2 a (m j (by first|exact i.2.1|exact i.2|exact i.2.2))).trans j,l,i⟩,p.zmap λ_ _=>q⟩
  |_=>exact x.elim
end
theorem FL:∀{ds es:List D},ds.all px=true->es.all px=true->(bO ds es=true↔ds=es)
 |[],[],_,_=>by simp[bO]
 |[],_::_,_,_=>by simp[bO]
 |_::_,[],_,_=>by simp[bO]
 |d::ds,e::es,c,f=>by
  rw[gf,uc]at c f;have g:=FL c.2 f.2
  cases d with
  |sc a =>
   cases a with
   |str x =>
    cases e with
    |sc b =>
     cases b with
     |str y=>rw[bO,uc,g,bD];simp[jE]
     |_=>cases f.1
    |_=>cases f.1
   |_=>cases c.1
  |_=>cases c.1
theorem Pl(a:t7 n d=true)(b:t7 n e=true):bD d e=true↔d=e:=by
 match n,d,e,a,b with
 |0,.sc (.int i),.sc (.int j),_,_=>rw[bD];simp[jE]
 |1,.sc (.bl i),.sc (.bl j),_,_=>rw[bD];simp[jE]
 |2,.tup ds,.tup es,a,b=>rw[bD,FL a b];simp
theorem FM:∀{sg:U7}{ds es:List D},lQ sg ds=true->lQ sg es=true->(bO ds es=true↔ds=es)
 |[],[],[],_,_=>by simp[bO]
 |n::sg,d::ds,e::es,a,b=>by
  rw[lQ,uc]at a b;rw[bO,uc,Pl a.1 b.1,FM a.2 b.2];simp
theorem Pm(h:t7 n d=true):d5 d=true:=by
 match n,d,h with
 |0,.sc (.int i),_=>simp[d5]
 |1,.sc (.bl i),_=>simp[d5]
 |2,.tup ds,h =>
  rw[d5]
  have:∀l:List D,l.all px=true->kw l=true:=by
   intro l
   induction l with
   |nil=>intro _;simp[kw]
   |cons a r b =>
    intro h;rw[gf,uc]at h;rw[kw,b h.2]
    cases a with
    |sc v=>cases v <;> first|(simp[d5];done)|cases h.1
    |_=>cases h.1
  exact this ds h
theorem FN:∀{sg:U7}{ds:List D},lQ sg ds=true->kw ds=true
 |[],[],_=>by simp[kw]
 |n::sg,d::ds,h=>by
  rw[lQ,uc]at h;rw[kw,Pm h.1,FN h.2];rfl
theorem FO(h:jq sg d=true):d5 d=true:=by
 cases d with
 |tup ds=>rw[d5];exact FN h
 |_=>cases h
theorem FP(a:jq sg d=true)(b:jq sg e=true):bD d e=true↔d=e:=by
 cases d with
 |tup ds =>
  cases e with
  |tup es=>rw[bD,FM a b];simp
  |_=>cases b
 |_=>cases a
open Classical in
def wS(prog:Program)(w:World)(sg:U7):HeapKind prog w D where
 is:=λh d a=>jq sg d=true/\HD h 3 d (.ref a)
 hash:=hD w
 draws:=dr
 room:=λA=>A.units+3<cLine
 inj:=λh1 h2=>Ev h1.2 h2.2
 keeps:=λh ho hd hs=>⟨h.1,Pk ho hd hs h.2⟩
 pyHash:=λhu hk h=>Pi hk.2 (FO hk.1) hu h
 eqBool:=λ{A E s x y a b Q} hu hx hy h=>by
  refine lJ hx.2 hy.2 hu prog w E Q ?_;rw[Ae hx.2 hy.2]
  have:bD x y=decide (x=y):=by
   by_cases e:x=y
   ·rw[qc e];exact(FP hx.1 hy.1).mpr e
   ·rw[be e];exact lg.mpr λz=>e ((FP hx.1 hy.1).mp z)
  rw[this];exact h
 quiet:=λhk h=>Pj hk.2 (FO hk.1) 'o' h
noncomputable def qV(lt:D->D->Bool)(x:D):List D->List D
 |[]=>[x]
 |y::r=>if lt x y=true then x::y::r else y::qV lt x r
def iT(lt:D->D->Bool):List D->List D
 |[]=>[]
 |x::r=>qV lt x (iT lt r)
structure uu(lt:D->D->Bool)(S:List D):Prop where
 tr:∀a∈S,∀b∈S,∀c∈S,lt a b=true->lt b c=true->lt a c=true
 tot:∀a∈S,∀b∈S,a=b\/lt a b=true\/lt b a=true
 as:∀a∈S,∀b∈S,lt a b=true->lt b a=false
theorem AF(lt:D->D->Bool)(x:D):∀l,(qV lt x l).Perm (x::l)
 |[]=>uh _
 |y::r=>by
  unfold qV;split
  ·exact uh _
  ·exact((AF lt x r).cons y).trans (wt x y r)
theorem js(lt:D->D->Bool):∀l,(iT lt l).Perm l
 |[]=>uh _
 |x::r=>(AF lt x _).trans ((js lt r).cons x)
theorem FQ{lt:D->D->Bool}{S:List D}(T:uu lt S)(f:x∈S):∀{l:List D},(∀y∈l,y∈S)->x ∉ l->l.Pairwise (λa b=>lt a b=true)->(qV lt x l).Pairwise (λa b=>lt a b=true)
 |[],_,_,_=>qq _ _
 |y::r,g,hn,h=>by
  have i:=g y cc;unfold qV;split
  ·rename_i c
   refine gg.mpr ⟨λz hz=>?_,h⟩;rcases wc.mp hz with rfl|hz
   ·exact c
   ·exact T.tr x f y i z (g z (ua _ hz)) c ((gg.mp h).1 z hz)
  ·rename_i c
   refine gg.mpr ⟨λz hz=>?_,FQ T f (λz hz=>g z (ua _ hz)) (λz=>hn (ua _ z)) (gg.mp h).2⟩;rcases wc.mp ((AF lt x r).mem_iff.mp hz) with rfl|hz
   ·rcases T.tot _ f y i with e|e|e
    ·exact absurd (e ▸ cc) hn
    ·exact absurd e c
    ·exact e
   ·exact(gg.mp h).1 z hz
theorem uv{lt:D->D->Bool}{S:List D}(T:uu lt S):∀{l:List D},(∀y∈l,y∈S)->l.Nodup->(iT lt l).Pairwise (λa b=>lt a b=true)
 |[],_,_=>cq
 |x::r,e,hn=>by
  have hn:=yf.mp hn;exact FQ T (e x cc) (λy c=>e y (ua _ ((js lt r).mem_iff.mp c))) (λz=>hn.1 ((js lt r).mem_iff.mp z)) (uv T (λy c=>e y (ua _ c)) hn.2)
def wT(T:uu lt l)(hn:l.Nodup)(m:out.Perm l)(r:out.Pairwise λa b=>lt b a=false):out=iT lt l:=by
 have c:=js lt l
 have q:(iT lt l).Pairwise λa b=>lt b a=false:=by
  have up:=uv T (λy n=>n) hn;rw[jj]at up ⊢;intro i j g h f;exact T.as _ (c.mem_iff.mp (rf g)) _ (c.mem_iff.mp (rf h)) (up i j g h f)
 refine(m.trans c.symm).eq_of_pairwise (λa b o p e1 e2=>?_) r q;rcases T.tot a (m.mem_iff.mp o) b (c.mem_iff.mp p) with e|e|e
 ·exact e
 ·rw[e]at e2;cases e2
 ·rw[e]at e1;cases e1
noncomputable def rk(F:List D->Option D)(d:D):D:=(F [d]).getD .non
def eJ(F:List D->Option D)(d e:D):Bool:=b9 (rk F d) (rk F e)
structure gW(F:List D->Option D)(ks:List D):Prop where
 ex:∀d∈ks,∃r,F [d]=some r/\bL LV r=true
 kd:(∀d∈ks,gU (rk F d)=true)\/∀d∈ks,gU (rk F d)=false/\pw (rk F d)=true
 ok:∀d∈ks,∀e∈ks,eg (rk F d) (rk F e)=true
 lt:uu (eJ F) ks
 nd:ks.Nodup
 sm:(ks.length<64\/False)/\ks.length<=1000
open Classical in
def gX(F:List D->Option D)(ks:List D):Option (List D):=if gW F ks then some (iT (eJ F) ks) else none
def jO(h:F [d]=some r):rk F d=r:=by unfold rk;rw[h];rfl
def py(F:List D->Option D)(ks:List D)(i j:Nat):Bool:=eJ F (ks.getD (min i (ks.length - 1)) .non) (ks.getD (min j (ks.length - 1)) .non)
theorem gW.irr(h:gW F ks)(a:d∈ks):eJ F d d=false:=by
 cases e:eJ F d d with
 |false=>rfl
 |true=>have:=h.lt.as d a d a e;rw[e]at this;cases this
def gW.wo(h:gW F ks)(hn:0<ks.length):WO (py F ks):=by
 have m:∀i,ks.getD (min i (ks.length - 1)) .non∈ks:=λi=>by
  have j:min i (ks.length - 1)<ks.length:=by omega
  rw[ed,vc j];exact rf j
 refine⟨λa=>h.irr (m a),λa b c f=>?_,λa b g=>h.lt.as _ (m a) _ (m b) g⟩;unfold py at f ⊢;rcases h.lt.tot _ (m a) _ (m b) with e|e|e
 ·rw[<-e];exact .inr f
 ·exact .inl e
 ·exact .inr (h.lt.tr _ (m b) _ (m a) _ (m c) e f)
def gW.sz(h:gW F ks):t6 (if 0<ks.length then py F ks else λ_ _=>false) ks.length:=⟨h.sm.1.resolve_right id,h.sm.2⟩
def gW.ord(h:gW F ks):jM (ks.map (rk F)) (if 0<ks.length then py F ks else λ_ _=>false):=by
 refine⟨?_,λr b=>?_,?_,λi j r t f g=>?_⟩
 ·split
  ·rename_i hn;exact h.wo hn
  ·exact⟨λ_=>rfl,(λ_ _ _ z=>nomatch z),(λ_ _ z=>nomatch z)⟩
 ·obtain⟨d,a,rfl⟩:=ub.mp b
  have⟨r,l,m⟩:=h.ex d a;rw[jO l];exact m
 ·rcases h.kd with k|k
  ·exact .inl λr b=>by obtain⟨d,a,rfl⟩:=ub.mp b;exact k d a
  ·exact .inr λr b=>by obtain⟨d,a,rfl⟩:=ub.mp b;exact k d a
 ·rw[de]at f g
  obtain⟨d,a,rfl⟩:=pc.mp f;obtain⟨e,c,rfl⟩:=pc.mp g;have n:=(wb.mp a).1;have o:=(wb.mp c).1;refine⟨h.ok d (ee a) e (ee c),?_⟩;rw[ya 'o'];unfold py eJ;rw[show min i (ks.length - 1)=i by omega,show min j (ks.length - 1)=j by omega,ed,a,ed,c];rfl
def gW.out(h:gW F ks)(c:Ix ks.length a)(f:Up (if 0<ks.length then py F ks else λ_ _=>false) a ks.length):a.toList.map (λi=>ks.getD i .non)=iT (eJ F) ks:=by
 have hsz:=c.size;have bd:∀i∈a.toList,i<ks.length:=λi b=>ug.mp (c.mem_iff.mp b)
 refine wT h.lt h.nd ?_ ?_
 ·have e:(List.range ks.length).map (λi=>ks.getD i D.non)=ks:=by
   apply wk;intro i;by_cases b:i<ks.length
   ·simp[b]
   ·simp[b]
  have:=c.map λi=>ks.getD i D.non
  rwa [e]at this
 ·rw[jj]
  intro i j b g l;rw[aa,qf]at b g;have u:=f i j 'o' 'o';rw[ya 'o']at u;have m:gp a i=a[i]:=by rw[nP];simp[b]
  have n:gp a j=a[j]:=by rw[nP];simp[g]
  have o:=bd a[i] 'm';have p:=bd a[j] 'm';unfold py at u;rw[m,n,show min a[i] (ks.length - 1)=a[i] by omega,show min a[j] (ks.length - 1)=a[j] by omega]at u
  simpa using u
noncomputable abbrev jP:DecidableEq D:=λa b=>Classical.propDecidable (a=b)
def lR(prog:Program)(w:World)(sg:U7)(p:Addr)(xs:List (D×Addr×Value)):HO:=.ext λh=>(p == sysModules)=false/\∃o es ep,h.get? p=some o/\o.ExactDict/\o.data=.dict es ep/\es.toList=xs.map (@entryOfKey prog w D jP (wS prog w sg))/\(xs.map (·.1)).Nodup
def uw(K:Fg1)(Hf:Hp)(sg:U7)(xs:List (D×Addr×Value)):Prop:=∀x∈xs,jq sg x.1=true/\Dn K Hf x.1 (.ref x.2.1)/\x.2.2=.bool true
open Classical in
noncomputable def gl(ks:List D)(d:D):List D:=if d∈ks then ks else ks++[d]
section
variable {X:Cx}{s:Shared}{xs:List (D×Addr×Value)}
def Pn(b:φ h)(c:∃o,h.get? a=some o)(e:∀b c:Heap,φ b->(∀o,b.get? a=some o->c.get? a=some o)->φ c):cF P w H h a (.ext φ):=⟨b,c,e⟩
def FR(b:(p == sysModules)=false)(a:h.get? p=some o)(c:o.ExactDict)(e:o.data=.dict es ep)(f:es.toList=xs.map (@entryOfKey P w D jP (wS P w sg)))(hn:(xs.map (·.1)).Nodup):cF P w H h p (lR P w sg p xs) :=
 Pn ⟨b,o,es,ep,a,c,e,f,hn⟩ ⟨o,a⟩ λ_ _ ⟨a1,o,es,ep,a2,r⟩ k=>⟨a1,o,es,ep,k o a2,r⟩
def az.ndict(I:az X pins σ H s)(h:H p=some (lR X.prog X.w sg p xs)):(p == sysModules)=false/\∃o es ep,s.heap.get? p=some o/\o.ExactDict/\o.data=.dict es ep/\es.toList=xs.map (@entryOfKey X.prog X.w D jP (wS X.prog X.w sg))/\(xs.map (·.1)).Nodup :=
 (show cF X.prog X.w H s.heap p (lR X.prog X.w sg p xs) from I.hok p _ h).1
theorem Po(h:px x=true):bL 1 x=true:=by
 cases x with
 |sc v=>rfl
 |_=>cases h
theorem Pp(h:jq sg d=true):bL 3 d=true:=by
 cases d with
 |tup ds =>
  have str:∀l:List D,l.all px=true->l.all (bL 1)=true:=λl h=>lc.mpr λx a=>(Po (lc.mp h x a))
  have one:∀(n:Nat) (d:D),t7 n d=true->bL 2 d=true:=λn d h=>by
   match n,d,h with
   |0,.sc (.int i),_=>rfl
   |1,.sc (.bl i),_=>rfl
   |2,.tup ds,h=>exact str ds h
  have all:∀{sg:U7} {ds:List D},lQ sg ds=true->ds.all (bL 2)=true:=by
   intro sg
   induction sg with
   |nil=>intro ds h;cases ds with|nil=>rfl|cons _ _=>cases h
   |cons n sg b =>
    intro ds h
    cases ds with
    |nil=>cases h
    |cons d ds =>
     rw[lQ,uc]at h;rw[gf,one n d h.1,b h.2];rfl
  exact all h
 |_=>cases h
def FS(I:az X pins σ H s)(fh:aH Hf H)(b:jq sg d=true)(dn:Dn X.K Hf d (.ref a)):jq sg d=true/\HD s.heap 3 d (.ref a):=⟨b,I.den ((dn.same fh).at (Pp b)) rfl⟩
def FT{xs:List (D×Addr×Value)}{K:Fg1}(f:uw K Hf sg xs){a:Addr}(g:jq sg d=true)(dn:Dn K Hf d (.ref a)):uw K Hf sg (@storedH D jP xs d a (.bool true))/\(@storedH D jP xs d a (.bool true)).map (·.1)=gl (xs.map (·.1)) d:=by
 unfold storedH gl;by_cases h:d∈xs.map (·.1)
 ·have c:(@atKey D jP xs d).isSome=true:=by
   unfold atKey;rw[tj,List.find?_isSome];have⟨x,hx1,b⟩:=ub.mp h;exact⟨x,hx1,@qc _ (jP _ _) b⟩
  rw[ya c,ya h]
  have e:xs.map (@putAt D jP d (.bool true))=xs:=by
   refine(yg λx hx1=>?_).trans (sw _);show @putAt D jP d (.bool true) x=x;unfold putAt;split
   ·rw[<-(f x hx1).2.2]
   ·rfl
  rw[e];exact⟨f,rfl⟩
 ·have c:¬(@atKey D jP xs d).isSome=true:=λz=>by
   unfold atKey at z;rw[tj,List.find?_isSome]at z;obtain⟨x,hx1,b⟩:=z;exact h (ub.mpr ⟨x,hx1,@kc _ (jP _ _) b⟩)
  rw[ic c,ic h];refine⟨λx hx1=>?_,by rw[jd];rfl⟩;rcases yd.mp hx1 with hx1|hx1
  ·exact f x hx1
  ·rw[wd.mp hx1];exact⟨g,dn,rfl⟩
def Pq(N:X.A.units+4<cLine)(I:az X pins σ H s)(fh:aH Hf H)(h:H p=some (lR X.prog X.w sg p xs))(i:uw X.K Hf sg xs)(hl:xs.length<=100000)(L:jq sg d=true)(dn:Dn X.K Hf d (.ref a))(q:∀s',az X pins σ (aF H p (lR X.prog X.w sg p (@storedH D jP xs d a (.bool true)))) s'->Q () s'):wpAny (model X.prog X.w) X.A (setItem (.ref p) (.ref a) (.bool true)) Q E s:=by
 have⟨l,o,es,ep,m,n,r,v,y⟩:=I.ndict h;refine@wpAny_setItem_heap X.prog X.w D jP (wS X.prog X.w sg) X.A E s p a d xs (.bool true) Q (show X.A.units+1+3<cLine by omega) (FS I fh L dn) ⟨o,es,ep,m,n,r,v,λx c=>FS I fh (i x c).1 (i x c).2.1,y⟩ (λh' f hs=>q _ ?_) (sz hl);obtain⟨M,z,B,g,C,F,G,_,J⟩:=f;exact I.write (x:=p) (e:=p) (by rw[h];trivial) 'j' (λb u j e=>(hs.2 b j).trans e) ⟨_,g⟩ (FR l g C F G J)
end
structure NS(X:Cx)(B:Bs)(sg:U7)(j:Nat)(Hf:Hp)(ρ:al)(σ:St)(H:Hp)(ks:List D):Prop where
 vi:VI X.K B Hf ρ σ H
 nj:ρ[j]?=some none
 ex:∃p xs,σ[j]?=some (some (.ref p))/\Hf p=none/\B.h p=none/\H p=some (lR X.prog X.w sg p xs)/\xs.map (·.1)=ks/\uw X.K Hf sg xs
abbrev GN:=al->List D->Option (al×List D)
def qW(X:Cx)(B:Bs)(sg:U7)(j:Nat)(g:GN):TS:=λD σ H=>∃Hf ρ ks ρ' ks',NS X B sg j Hf ρ σ H ks/\g ρ ks=some (ρ',ks')/\∀Hf' a H',aH Hf Hf'->NS X B sg j Hf' ρ' a H' ks'->D.nx a H'
def ux(sg:U7)(fk:al->Option D):GN:=λρ ks=>(fk ρ).bind λd=>if jq sg d=true/\ks.length<=100000 then some (ρ,gl ks d) else none
def kX(gt:D->al->Option al)(f:GN):List D->GN
 |[],ρ,ks=>some (ρ,ks)
 |d::r,ρ,ks=>(gt d ρ).bind λρ1=>(f ρ1 ks).bind λz=>kX gt f r z.1 z.2
def lS(fi:al->Option (List D))(gt:D->al->Option al)(f:GN):GN:=λρ ks=>(fi ρ).bind λds=>kX gt f ds ρ ks
theorem kx(e:Ex Hf H Hf' H')(a:Hf p=none)(b:H p=some o)(c:∀xs,o≠.tup xs:=by intro xs z;cases z):Hf' p=none:=by
 cases z:Hf' p with
 |none=>rfl
 |some u =>
  rcases e.nw p (by rw[z];exact λz=>nomatch z) with y|y
  ·exact absurd a y
  ·exact(y.no b c).elim
section
variable {X:Cx}{B:Bs}{σ:St}{K:Fg1}
theorem NS.ext(I:NS X B sg j Hf ρ σ H ks)(e:Ex Hf H Hf' H'):NS X B sg j Hf' ρ σ H' ks :=
 ⟨I.vi.ext e,I.nj,let ⟨p,xs,f,g,h,c,i,b⟩:=I.ex;⟨p,xs,f,kx e g c (λ_ z=>nomatch z),h,e.hh _ _ c,i,λx a=>⟨(b x a).1,(b x a).2.1.same e.ff,(b x a).2.2⟩⟩⟩
def VI.setU(I:VI K B Hf ρ σ H)(r:ρ[j]?=some none):VI K B Hf ρ (σ.set j x) H:=by
 have c:∀{i:Nat} {sl:Sl},ρ[i]?=some (some sl)->j≠i:=λ{i sl} h z=>by subst z;rw[r]at h;cases h
 refine⟨I.ex,by simp[I.len],λi sl h=>?_,λi sl p h o q=>?_,λi k g l p a b m n e f=>?_⟩
 ·have⟨v,a,b⟩:=I.ok i sl h
  exact⟨v,by rw[ca (c h)];exact a,b⟩
 ·rw[ca (c h)]at q;exact I.own i sl p h o q
 ·rw[ca (c a)]at e
  rw[ca (c b)]at f;exact I.dis i k g l p a b m n e f
def VI.offE(I:VI K B Hf ρ σ H)(j:Hf p=none)(l:B.h p=none)(f:H p=some (.ext φ)):VI K B Hf ρ σ (aF H p o):=by
 refine⟨⟨I.ex.ff,λb u h=>?_,λb u h=>?_,I.ex.nw,I.ex.nf⟩,I.len,λi sl h=>?_,I.own,I.dis⟩
 ·rw[aI (dP h l)];exact I.ex.hh b u h
 ·rw[aI (dP h j)];exact I.fh b u h
 ·have⟨v,g,c⟩:=I.ok i sl h
  refine⟨v,g,c.away λo z=>?_⟩;subst z
  cases sl with
  |sh d=>cases o
  |ow ds=>obtain⟨q,xs,e,_,a,_⟩:=c;cases e;rw[f]at a;cases a
  |dk ks ds=>obtain⟨q,xs,e,_,a,_⟩:=c;cases e;rw[f]at a;cases a
  |dt ks ds=>obtain⟨q,xs,e,_,a,_⟩:=c;cases e;rw[f]at a;cases a
  |ob p0 ks ds=>obtain⟨q,xs,e,_,a,_⟩:=c;cases e;rw[f]at a;cases a
variable {pos:Pos}
def Pr(hr:aK n X.A)(hN:X.N[j]?=some x)(hk:PE X key (eV X.K B fk))(L:cZ X.env.scope x:=by first|exact ac rfl|exact ud (ac rfl)|exact ud (ud rfl))(hd:(x == 'g')=false:=by decide)(T:(x == 'c')=false:=by decide)(hs:W0 X (.Constant (.bool true) kk cp) (some (.Subscript (.Name x p1) key pos')) pos:=by rfl):PS X (.Assign [.Subscript (.Name x p1) key pos'] (.Constant (.bool true) kk cp) pos) (qW X B sg j (ux sg fk)):=by
 intro c s m H D I h;obtain⟨Hf,ρ,ks,ρ',ks',N,C,q⟩:=h;have⟨d,iW,C⟩:=bind_some C
 split at C
 ·rename_i o
  cases C;have⟨p,xs,E,hf,U,Y,F,l⟩:=N.ex
  refine wpAny_Assign_Subscript (aW (CZ c s m H (λv M=>v=.bl true/\M=H) I ⟨rfl,rfl⟩) λr s1 ⟨v,M,I1,rv,e1,e2⟩=>?_) hs;subst e1 e2;cases rv;refine aW (cR hN L hd T c s1 m M (λv O=>v=.ref p/\O=M) I1 ⟨_,E,rfl,rfl⟩) λu s2 ⟨v,O,I2,ru,e1,e2⟩=>?_
  subst e1 e2;cases ru;refine aW (hk c s2 m O (λv P=>∃b,Ex Hf O b P/\Dn X.K b d v) I2 ⟨Hf,ρ,d,N.vi,iW,λb P v i dv=>⟨b,i,dv⟩⟩) λiv s3 ⟨y,P,I3,ry,b,i,Q⟩=>?_
  have Z:=N.ext i
  obtain⟨a,rfl⟩:∃a,y=.ref a:=by
   cases d with
   |tup ds=>have⟨a,_,e,_⟩:=Q.tupU;exact⟨a,e⟩
   |_=>cases o.1
  cases ry;have G:P p=some (lR X.prog X.w sg p xs):=i.hh _ _ Y
  have J:=kx i hf Y (λ_ z=>nomatch z);have g:uw X.K b sg xs:=λx R=>⟨(l x R).1,(l x R).2.1.same i.ff,(l x R).2.2⟩
  refine Pq (by have:=hr.units;omega) I3 i.fh G g (by rw[<-aa (f:=(·.1)),F];exact o.2) o.1 Q λs4 I4=>⟨m,_,I4,q b m _ i.ff ⟨Z.vi.offE J U G,Z.nj,p,_,E,J,U,aT,?_,(FT g o.1 Q).1⟩⟩
  rw[(FT g o.1 Q).2,F]
 ·cases C
def FU(hp:PassesOwn (model X.prog X.w) X.A X.env X.xe)(hc:X.calm=true)(hi:PI X tg iter (iV X.K B fi))(hg:PG X tg (gV X.K B sl gt))(hj:j ∉ sl)(R:∀d ρ ρ1,gt d ρ=some ρ1->ρ1[j]?=ρ[j]?)(hb:bv X body (qW X B sg j g))(hs:∀x,foldedSetIterable iter X.env x=pure x:=by intro _;rfl):PS X (.For tg iter body [] pos) (qW X B sg j (lS fi gt g)):=(oF hp hc hi hg hb hs).imp λD T H ⟨Hf,ρ,ks,ρ',v,N,n,q⟩=>by
 have⟨ds,e,n⟩:=bind_some n;refine⟨Hf,ρ,ds,N.vi,e,λJ o H1 C ok=>?_⟩;refine⟨λi m T H=>m=ds.length - i/\i<=ds.length/\∃a f h,NS X B sg j a f T H h/\aH o a/\kX gt g (ds.drop i) f h=some (ρ',v),⟨ds.length,'m',ie _,o,ρ,ks,N.ext C,aH.refl _,n⟩,?_⟩;rintro i m O Z ⟨rfl,hi,a,f,h,M,l,c⟩;have G:=ok a Z (l.trans M.vi.fh) l M.vi.fh i;by_cases u:i<ds.length
 ·obtain⟨go,P⟩:=G.1 ds[i] (by simp[u])
  refine .inr ⟨go,λs U=>∃b I L,NS X B sg j b I s U L/\aH o b/\kX gt g (ds.drop (i+1)) I L=some (ρ',v),λs U z=>⟨ds.length - (i+1),'o',rfl,u,z⟩,λx H3 y=>?_⟩;have⟨b,E,dx⟩:=P x H3 y;rw[ke u]at c;unfold kX at c;have⟨ρ1,F,c⟩:=bind_some c;have⟨z,hz,c⟩:=bind_some c;have Q:=M.ext E;refine⟨b,f,_,ρ1,Q.vi,dx,F,λs I' _ hk=>⟨b,ρ1,h,z.1,z.2,⟨I',(R _ _ _ F).trans Q.nj,?_⟩,hz,λHf' Y H'' sm N'=>⟨Hf',z.1,z.2,N',(l.trans E.ff).trans sm,c⟩⟩⟩;have⟨p,xs,h1,r⟩:=Q.ex;exact⟨p,xs,(hk j hj).trans h1,r⟩
 ·have e:i=ds.length:=by omega
  subst e;rw[ki]at c;unfold kX at c;cases c;exact .inl ⟨G.2 (dc _),q a O Z (C.ff.trans l) M⟩
def FV{st:Stmt}(h:PS X st (qW X B sg j g)):bv X [st] (qW X B sg j g):=g9 h
end
section
variable {X:Cx}{pos:Pos}
def Ps(sg:U7):PE X (.Dict [] [] pos) (λ_ H Q=>∀p,H p=none->Q (.ref p) (aF H p (lR X.prog X.w sg p []))):=λb s c H Q I h =>
 xq ⟨.ref s.heap.objs.size,_,I.laid (a:=s.heap.objs.size) (o:=lR X.prog X.w sg s.heap.objs.size []) (t':=s.toks) (λ_ _ q=>jc _ q) (dc _) (FR (xg.mpr (ue (af I.big))) (es:=#[]) (ep:=0) (pd _ rfl) ⟨rfl,rfl,rfl⟩ rfl rfl ui),rfl,h _ (I.hok.fresh (dc _))⟩
def Pt(X:Cx)(B:Bs)(sg:U7)(j:Nat)(F:List D->Option D):TE:=λσ H Q=>∃Hf ρ ks,NS X B sg j Hf ρ σ H ks/\gW F ks/\∀Hf' H' l ys,Ex Hf H Hf' H'->H l=none->Hf' l=none->H' l=some (.lst ys)->aR X.K Hf' (iT (eJ F) ks) ys->Q (.ref l) H'
def Pu(hc:X.calm=true)(G:aG X.prog X.w X.K X.mg X.base aZ k f fd [p] (cw X.K 1 F))(hr:aK k X.A.in1.in1)(hg:Gl X "sorted")(hm:X.mg "sorted" = none)(hgf:Gl X fn)(hmf:X.mg fn=some (.ref f))(hb:cB X.K fd [p] [])(hN:X.N[j]?=some x)(C:cZ X.env.scope x:=by first|exact ac rfl|exact ud (ac rfl)|exact ud (ud rfl))(L:(x == 'g')=false:=by decide)(hcd:(x == 'c')=false:=by decide)(hfd:(fn == 'g')=false:=by decide) :
  PE X (.Call (.Name "sorted" p1) [.Name x p2] [⟨some "key",.Name fn p3,p4⟩] pos) (Pt X B sg j F):=by
 intro b s σ H Q I h;obtain⟨Hf,ρ,ks,N,ok,q⟩:=h;have⟨a,xs,Z,hf,hB,hp,m,hxs⟩:=N.ex;refine ai (ny I hg hm ti ?_ 'd' 'd');refine callWith_kw (aW ((el (cR hN C L hcd) fL 'r') pos b s σ H (λvs J=>vs=[.ref a]/\J=H) I ⟨_,Z,rfl,rfl⟩) λus s1 ⟨vs,J,I1,M,e1,e2⟩=>?_) 'r' 'r' 'r' 'r';subst e1 e2;obtain⟨u,rfl,ru⟩:=hE M;cases ru;refine aW ((zt (vB (v:=.ref f) hgf hmf rfl hfd) zr) pos b s1 σ J (λvs H2=>vs=[.ref f]/\H2=J) I1 ⟨rfl,rfl⟩) λus s2 ⟨vs,H2,I2,M,e1,e2⟩=>?_
 subst e1 e2;obtain⟨u,rfl,ru⟩:=hE M;cases ru;show wpAny (model X.prog X.w) X.A (call (.builtin "sorted") [.ref a] [(ofString "key",.ref f)]) _ _ _;have⟨h0,o,es,ep,h1,h2,h3,h4,h5⟩:=I2.ndict hp;have hl:xs.length=ks.length:=by rw[<-m,aa]
 have hsm:=ok.sm.2
 have dn:aR X.K Hf ks (xs.map λx=>V.ref x.2.1):=by
  rw[<-m]
  have:∀l:List (D×Addr×Value),(∀x∈l,x∈xs)->aR X.K Hf (l.map (·.1)) (l.map λx=>V.ref x.2.1):=by
   intro l
   induction l with
   |nil=>intro _;exact .nil
   |cons y r E=>intro g;exact .cons (hxs y (g y cc)).2.1 (E λz hz=>g z (ua _ hz))
  exact this xs λx hx=>hx
 have hes:es.toList.map (·.key)=xs.map λx=>Value.ref x.2.1:=by rw[h4,md];rfl
 have hsz:es.size=xs.length:=by rw[<-qf,h4,aa]
 refine AE (rs:=ks.map (rk F)) G hr hb I2 N.vi.fh dn (λR hR=>FJ (A:=X.A.in1) (I.ok.hd hc) h0 ⟨o,h1,h2,h3⟩ (by rw[hsz];exact sz 'o') λh' tk c=>?_) (λi d L=>?_) (by rw[aa]) ok.sz ok.ord λHf' H' l π ex O P T e U=>q Hf' H' l _ ex O P T ?_
 ·rw[hes]
  refine hR h' tk _ c ?_
  have:∀l:List (D×Addr×Value),bC (l.map λx=>V.ref x.2.1) (l.map λx=>Value.ref x.2.1):=by
   intro l
   induction l with
   |nil=>exact .nil
   |cons y r E=>exact .cons rfl E
  exact this xs
 ·have⟨r,e1,_⟩:=ok.ex d (ee L)
  exact⟨r,by rw[de,L];show some (rk F d)=_;rw[jO e1],e1⟩
 ·rw[<-ok.out e U]
  have dn':=dn.same ex.ff
  have n:∀l:U7,(∀i∈l,i<ks.length)->aR X.K Hf' (l.map λi=>ks.getD i D.non) (l.map λi=>(xs.map λx=>V.ref x.2.1).getD i V.non):=by
   intro l
   induction l with
   |nil=>intro _;exact .nil
   |cons i r E =>
    intro g;refine .cons ?_ (E λz hz=>g z (ua _ hz));have Y:=g i cc;have e1:ks[i]?=some ks[i]:=vc Y;have⟨v,e2,dv⟩:=dn'.zget e1;show Dn X.K Hf' (ks.getD i D.non) ((xs.map λx=>V.ref x.2.1).getD i V.non);rw[ed,e1,ed,e2];exact dv
  exact n _ λi Y=>ug.mp (e.mem_iff.mp Y)
def uy(j:Nat)(g:GN)(F:List D->Option D):al->aO:=λρ=>match ρ[j]? with
 |some none=>(match g ρ [] with|some z=>(match gX F z.2 with|some out=>.rw out|none=>.bad)|none=>.bad)
 |_=>.bad
def Pv(sg:U7)(v:X.N.Nodup)(M:X.N[j]?=some x)(e:dQ X.env.scope x)(U:PS X s2 (qW X B sg j g))(Y:X.calm=true)(G:aG X.prog X.w X.K X.mg X.base aZ k f fd [p] (cw X.K 1 F))(Z:aK k X.A.in1.in1)(hg:Gl X "sorted")(hm:X.mg "sorted" = none)(y:Gl X fn)(C:X.mg fn=some (.ref f))(hb:cB X.K fd [p] [])(hs:W0 X (.Dict [] [] q1) (some (.Name x q2)) q3:=by rfl)(hf:W3 X x:=by first|exact .inl rfl|exact .inr rfl|assumption)(c:cZ X.env.scope x:=by first|exact ac rfl|exact ud (ac rfl)|exact ud (ud rfl))(hd:(x == 'g')=false:=by decide)(E:(x == 'c')=false:=by decide)(J:(fn == 'g')=false:=by decide) :
  bv X [.Assign [.Name x q2] (.Dict [] [] q1) q3,s2,.Return (some (.Call (.Name "sorted" p1) [.Name x p2] [⟨some "key",.Name fn p3,p4⟩] pos)) pos'] (sV X.K B (uy j g F)) :=
 (dR (iG v M e (Ps sg) hs hf) (dR U (g9 (mw (Pu (B:=B) (sg:=sg) Y G Z hg hm y C hb M c hd E J))))).imp λD L H ⟨Hf,ρ,I,q⟩=>by
  unfold uy at q
  split at q
  ·rename_i r
   split at q
   ·rename_i z hz
    split at q
    ·rename_i out b
     intro a s
     have ok:gW F z.2:=by
      unfold gX at b
      split at b
      ·assumption
      ·cases b
     have R:out=iT (eJ F) z.2:=by
      unfold gX at b;rw[ya ok]at b;exact(ae b).symm
     have u:j<L.length:=by rw[<-I.len];exact(wb.mp r).1
     have T:VI X.K B Hf ρ (L.set j (some (.ref a))) (aF H a (lR X.prog X.w sg a [])):=(I.setU r).ext (Ex.made I.fh s);refine⟨Hf,ρ,[],z.1,z.2,⟨T,r,a,[],by rw[ab u],I.fh.free s,I.ex.hh.free s,aT,rfl,λx e=>by cases e⟩,hz,λHf' O H' sm h=>⟨Hf',z.1,z.2,h,ok,λi P l ys Q m n o dn=>?_⟩⟩;exact q i P l ys (h.vi.ex.trans Q) (h.vi.ex.hh.free m) n o (by rw[R];exact dn)
    ·exact q.elim
   ·exact q.elim
  ·exact q.elim
end
def aK.in2(h:aK (k+1) A):aK k A.in1.in1:=⟨h.hd,by have:=h.dp;show A.depth+3 * k+5<_;omega,by have:=h.un;show A.units+1+1+16 * k+200<_;omega⟩
def HG(j:Nat)(r:List D->al->Option al):Prop:=∀ds ρ ρ1,r ds ρ=some ρ1->ρ1[j]?=ρ[j]?
def kY(h:i≠j):∀d ρ ρ1,gN i d ρ=some ρ1->ρ1[j]?=ρ[j]?:=λd ρ ρ1 e=>by cases e;exact ca h
def AG:HG j dI:=λds ρ ρ1 e=>by
 unfold dI at e
 split at e
 ·cases e;rfl
 ·cases e
def nQ(b:∀d ρ ρ1,g d ρ=some ρ1->ρ1[j]?=ρ[j]?)(c:HG j r):HG j (bJ g r):=λds ρ ρ1 e=>by
 unfold bJ at e
 split at e
 ·have⟨a,e1,e2⟩:=bind_some e
  exact(c _ _ _ e2).trans (b _ _ _ e1)
 ·cases e
def AH(h:HG j r):∀d ρ ρ1,gT n r d ρ=some ρ1->ρ1[j]?=ρ[j]?:=λd ρ ρ1 e=>by
 unfold gT at e
 split at e
 ·split at e
  ·exact h _ _ _ e
  ·cases e
 ·cases e
end L2
namespace L2
open PySem PyProof.Rows
variable {K:Fg1}
end L2
namespace L2
open PySem PySem.Spec PyProof.Rows
section
variable {a b c d:Expr}{fa fb:al->U5}{pos:Pos}
def FW(r j a:R2)(ta tb tc td:TE):TE:=λσ H Q=>ta σ H λx H1=>tb σ H1 λy H2=>r x y H2 λz b=>∃k,z=.bl k ∧
 (if k=true then tc σ b λc f=>j y c f λg e=>∃k2,g=.bl k2/\(if k2=true then td σ e λh i=>a c h i Q else Q (.bl false) e) else Q (.bl false) b)
def uz(g g' a:D->D->U5)(fa fb fc fd:al->U5):al->U5:=λρ=>(fa ρ).bind λd=>(fb ρ).bind λe=>(g d e).bind λz=>(f8 z).bind λk=>if k=true then (fc ρ).bind λw=>(g' e w).bind λb=>(f8 b).bind λk2=>if k2=true then (fd ρ).bind λu=>a w u else some (.bl false) else some (.bl false)
def Pw(hf:∀i j,dL (h i j)=true)(Y:∀i j,dL (h' i j)=true)(s:∀i j,dL (h'' i j)=true){K:Fg1}(hh:eV K B (uz (e7 h) (e7 h') (e7 h'') fa fb fc fd) σ H Q):FW (eO h) (eO h') (eO h'') (eB K B fa) (eB K B fb) (eB K B fc) (eB K B fd) σ H Q:=by
 obtain⟨Hf,ρ,z,I,hz,q⟩:=hh;have⟨d,hd,hz⟩:=bind_some hz;have⟨e,he,hz⟩:=bind_some hz;have⟨k,hk,hz⟩:=bind_some hz;have⟨m,hm,A⟩:=bind_some hz;clear hz;refine⟨Hf,ρ,d,I,hd,λC H1 x l dx=>⟨C,ρ,e,I.ext l,he,λE H2 y c Z=>?_⟩⟩;have R:=Z;refine(nG (K:=K) hf) E H2 x y d e k _ c.fh (dx.ext c) Z hk λn H3 v o dv=>?_
 unfold f8 at hm
 split at hm
 ·cases hm
  refine⟨m,dv.bl,?_⟩;have T:=(l.trans c).trans o
  cases m with
  |true =>
   rw[ya rfl]at A ⊢;have⟨w,hw,hz⟩:=bind_some A;have⟨k2,O,hz⟩:=bind_some hz;have⟨m2,a,b⟩:=bind_some hz;clear hz;refine⟨n,ρ,w,I.ext T,hw,λF H4 u f du=>?_⟩;have U:=du;refine(nG (K:=K) Y) F H4 y u e w k2 _ f.fh ((R.ext o).ext f) du O λp H5 v5 r G=>?_
   unfold f8 at a
   split at a
   ·cases a
    refine⟨m2,G.bl,?_⟩;have X:=(T.trans f).trans r
    cases m2 with
    |true =>
     rw[ya rfl]at b ⊢;have⟨w2,P,hz⟩:=bind_some b;exact⟨p,ρ,w2,I.ext X,P,λJ H6 u6 g L=>(nG (K:=K) s) J H6 u u6 w w2 z Q g.fh ((U.ext r).ext g) L hz λHf' H' v' M N=>q Hf' H' v' ((X.trans g).trans M) N⟩
    |false=>rw[ic bb]at b ⊢;cases b;exact q p H5 _ X (b7 rfl)
   ·cases a
  |false=>rw[ic bb]at A ⊢;cases A;exact q n H3 _ T (b7 rfl)
 ·cases hm
theorem Px{g g' b:D->D->U5}{a k2 c:Bool}(e:fa ρ=some x)(f:fb ρ=some y)(h:g x y=some (.bl a))(i:a=true->fc ρ=some z)(j:a=true->g' y z=some (.bl k2))(l:a=true->k2=true->fd ρ=some w)(m:a=true->k2=true->b z w=some (.bl c)):uz g g' b fa fb fc fd ρ=some (.bl (a && (k2 && c))):=by
 unfold uz;rw[e,f,cb,cb,h,cb]
 cases a with
 |false=>rfl
 |true =>
  show ((fc ρ).bind _)=_;rw[i rfl,cb,j rfl,cb]
  cases k2 with
  |false=>rfl
  |true=>show ((fd ρ).bind _)=_;rw[l rfl rfl,cb,m rfl rfl];rfl
end
def pA:∀d ρ ρ1,gN i d ρ=some ρ1->(∀(k:Nat) s,ρ[k]?=some (some s)->cz s=false)->∀(k:Nat) s,ρ1[k]?=some (some s)->cz s=false:=λd ρ ρ1 e h k s q=>by
 cases e;by_cases a:i=k
 ·subst a
  rw[uj]at q
  split at q
  ·split at q
   ·cases q;rfl
   ·cases q
  ·exact h _ s q
 ·rw[ca a]at q;exact h k s q
def NG(r:U4->al->Option al):Prop:=∀ds ρ ρ1,r ds ρ=some ρ1->(∀(k:Nat) s,ρ[k]?=some (some s)->cz s=false)->∀(k:Nat) s,ρ1[k]?=some (some s)->cz s=false
def FX:NG dI:=λds ρ ρ1 e h=>by
 unfold dI at e
 split at e
 ·cases e;exact h
 ·cases e
def wU(b:∀d ρ ρ1,g d ρ=some ρ1->(∀(k:Nat) s,ρ[k]?=some (some s)->cz s=false)->∀(k:Nat) s,ρ1[k]?=some (some s)->cz s=false)(c:NG r):NG (bJ g r):=λds ρ ρ1 e h=>by
 unfold bJ at e
 split at e
 ·have⟨a,e1,e2⟩:=bind_some e
  exact c _ _ _ e2 (b _ _ _ e1 h)
 ·cases e
def FY(h:NG r):∀d ρ ρ1,gT n r d ρ=some ρ1->(∀(k:Nat) s,ρ[k]?=some (some s)->cz s=false)->∀(k:Nat) s,ρ1[k]?=some (some s)->cz s=false:=λd ρ ρ1 e a=>by
 unfold gT at e
 split at e
 ·split at e
  ·exact h _ _ _ e a
  ·cases e
 ·cases e
def jn(A C:Hp):Hp:=λb=>match A b with|some o=>some o|none=>C b
section
def ew:aH A (jn A C):=λb u h=>by unfold jn;rw[h]
theorem kZ(a:aH A H)(c:aH C H):aH (jn A C) H:=λb u h=>by
 unfold jn at h
 cases e:A b with
 |some o=>rw[e]at h;cases h;exact a b _ e
 |none=>rw[e]at h;exact c b u h
theorem ju(a:aH A H)(c:aH C H):aH C (jn A C):=λb u h=>by
 unfold jn
 cases e:A b with
 |some o =>
  have z:=a b o e;rw[c b u h]at z;exact z.symm
 |none=>exact h
def noF(C:Hp):Hp:=λb=>match C b with|some (.frz _ _)=>none|x=>x
def lT:aH (noF C) C:=λb u h=>by
 unfold noF at h
 split at h
 ·cases h
 ·exact h
def pB(h:noF C b≠none):C b≠none:=λz=>h (by unfold noF;rw[z])
def AI(h:C b=none):noF C b=none:=by unfold noF;rw[h]
def qX(h:C b=some (.lst xs)):noF C b=some (.lst xs):=by unfold noF;rw[h]
def Py(h:C b=some (.tup xs)):noF C b=some (.tup xs):=by unfold noF;rw[h]
def AJ(h:C b=some (.dT xs)):noF C b=some (.dT xs):=by unfold noF;rw[h]
theorem qY(h:jn A (noF C) b=some (.frz o u)):A b=some (.frz o u):=by
 unfold jn at h
 cases e:A b with
 |some x=>rw[e]at h;exact h
 |none =>
  rw[e]at h;have h:noF C b=some (.frz o u):=h;unfold noF at h
  split at h
  ·cases h
  ·rename_i n;exact absurd h (n o u)
theorem k0(h:jn A C b≠none):A b≠none\/C b≠none:=by
 unfold jn at h
 cases e:A b with
 |some o=>exact .inl λz=>nomatch z
 |none=>rw[e]at h;exact .inr h
end
def dD(K:Fg1)(Hn Hf:Hp):Nat->D->V->Prop
 |0,d,x=>match d with|.sc v=>dL v=true/\x=v|_=>False
 |k+1,d,x=>match d with
  |.sc v=>dL v=true/\x=v
  |.tup ds=>∃a xs,x=.ref a/\(Hn a=some (.tup xs)\/Hf a=some (.tup xs))/\Paired (dD K Hn Hf k) ds xs
  |.lst ds=>∃a xs,x=.ref a/\Hn a=some (.lst xs)/\Paired (dD K Hn Hf k) ds xs
  |_=>False
section
variable {K:Fg1}
theorem dD.noF:∀{k:Nat}{d:D}{x:V},dD K Hn Hf k d x->dD K (noF Hn) Hf k d x:=by
 intro k
 induction k with
 |zero=>intro d x h;cases d <;> exact h
 |succ k c =>
  intro d x h
  cases d with
  |tup ds=>obtain⟨a,xs,e,b,p⟩:=h;exact⟨a,xs,e,b.imp Py id,p.zmap λ_ _ z=>c z⟩
  |lst ds=>obtain⟨a,xs,e,b,p⟩:=h;exact⟨a,xs,e,qX b,p.zmap λ_ _ z=>c z⟩
  |_=>exact h
theorem dD.up:∀{k:Nat}{d:D}{x:V},dD K Hn Hf k d x->dD K Hn Hf (k+1) d x:=by
 intro k
 induction k with
 |zero =>
  intro d x h
  cases d with
  |sc v=>exact h
  |_=>exact h.elim
 |succ k b =>
  intro d x h
  cases d with
  |sc v=>exact h
  |tup ds=>obtain⟨a,xs,e,q,p⟩:=h;exact⟨a,xs,e,q,p.zmap λ_ _=>b⟩
  |lst ds=>obtain⟨a,xs,e,q,p⟩:=h;exact⟨a,xs,e,q,p.zmap λ_ _=>b⟩
  |_=>exact h.elim
theorem dD.le(h:dD K Hn Hf j d x)(a:j<=k):dD K Hn Hf k d x:=by
 induction a with
 |refl=>exact h
 |step _ b=>exact b.up
theorem dD.dn(b:aH Hn U)(f:aH Hf U):∀{k:Nat}{d:D}{x:V},dD K Hn Hf k d x->eE K U k d x:=by
 intro k
 induction k with
 |zero =>
  intro d x h
  cases d with
  |sc v=>exact h
  |_=>exact h.elim
 |succ k c =>
  intro d x h
  cases d with
  |sc v=>exact h
  |tup ds=>obtain⟨a,xs,e,q,p⟩:=h;exact⟨a,xs,e,q.elim (b _ _) (f _ _),p.zmap λ_ _=>c⟩
  |lst ds=>obtain⟨a,xs,e,q,p⟩:=h;exact⟨a,xs,e,bA.of (b _ _ q),p.zmap λ_ _=>c⟩
  |_=>exact h.elim
def gm(Hn Hf:Hp):Hp:=λb=>match Hf b with|none=>Hn b|some _=>none
def qZ(h:gm Hn Hf b=some o):Hf b=none/\Hn b=some o:=by
 unfold gm at h
 split at h
 ·rename_i e;exact⟨e,h⟩
 ·cases h
theorem wV(h:gm Hn Hf b≠none):Hf b=none/\Hn b≠none:=by
 cases e:gm Hn Hf b with
 |none=>exact absurd e h
 |some o=>have⟨a,c⟩:=qZ e;exact⟨a,by rw[c];exact λz=>nomatch z⟩
def FZ(s:aH Hn U):aH (gm Hn Hf) U:=λb u h=>s b u (qZ h).2
def F0(a:Hf b=none)(c:Hn b=some o):gm Hn Hf b=some o:=by unfold gm;rw[a];exact c
theorem dD.cut(f:aH Hn U)(g:aH Hf' U)(i:aH Hf Hf')(hl:∀b xs,Hn b=some (.lst xs)->Hf' b=none):∀{k:Nat}{d:D}{x:V},dD K Hn Hf k d x->dD K (gm Hn Hf') Hf' k d x:=by
 intro k
 induction k with
 |zero =>
  intro d x h
  cases d with
  |sc v=>exact h
  |_=>exact h.elim
 |succ k c =>
  intro d x h
  cases d with
  |sc v=>exact h
  |tup ds =>
   obtain⟨a,xs,e,q,p⟩:=h;refine⟨a,xs,e,?_,p.zmap λ_ _=>c⟩;rcases q with q|q
   ·cases z:Hf' a with
    |none=>exact .inl (F0 z q)
    |some u =>
     have:=g a u z
     rw[f a _ q]at this;cases this;exact .inr rfl
   ·exact .inr (i _ _ q)
  |lst ds=>obtain⟨a,xs,e,q,p⟩:=h;exact⟨a,xs,e,F0 (hl a xs q) q,p.zmap λ_ _=>c⟩
  |_=>exact h.elim
noncomputable def cH:Nat->D->Bool
 |_,.sc _=>true
 |0,_=>false
 |n+1,.tup ds=>ds.all (cH n)
 |_+1,_=>false
theorem pC(h:∀d x,p d=true->F d x->G d x):∀{ds:U4}{xs:U6},ds.all p=true->Paired F ds xs->Paired G ds xs
 |_,_,_,.nil=>.nil
 |_,_,c,.cons a b=>by
  rw[gf,uc]at c;exact .cons (h _ _ c.1 a) (pC h c.2 b)
theorem Pz:∀{n k:Nat}{d:D}{x:V},cH n d=true->eE K Hf k d x->dD K Hn Hf k d x:=by
 intro n
 induction n with
 |zero =>
  intro k d x h z
  cases d with
  |sc v=>cases k <;> exact z
  |_=>cases h
 |succ n b =>
  intro k d x h z
  cases d with
  |sc v=>cases k <;> exact z
  |tup ds =>
   cases k with
   |zero=>exact z.elim
   |succ k =>
    obtain⟨a,xs,e,q,p⟩:=z;exact⟨a,xs,e,.inr q,pC (F:=eE K Hf k) (G:=dD K Hn Hf k) (p:=cH n) (λd x h z=>b h z) h p⟩
  |_=>cases h
def AK(h:ds.all (cH 3)=true)(p:aR K Hf ds xs):∃k,Paired (dD K Hn Hf k) ds xs:=by
 have⟨k,p⟩:=p.level;exact⟨k,pC (F:=eE K Hf k) (G:=dD K Hn Hf k) (p:=cH 3) (λd x h z=>Pz h z) h p⟩
end
def eF(K:Fg1)(B:Bs)(f:al->U5):TE:=λσ H Q=>∃Hf ρ d,VI K B Hf ρ σ H/\f ρ=some d/\∀Hf' H' Hn k v,Ex Hf H Hf' H'->aH Hn H'->(∀b,Hn b≠none->H b=none/\Hf' b=none)->dD K Hn Hf' k d v->Q v H'
def ey:Hp:=λ_=>none
def wW(h:H p=some o):aH (aF ey p o) H:=λb u e=>by
 by_cases a:b=p
 ·subst a;rw[aT]at e;cases e;exact h
 ·rw[aI a]at e;cases e
def wX(h:aF ey p o b≠none):b=p:=by
 by_cases a:b=p
 ·exact a
 ·rw[aI a]at h;exact absurd rfl h
def fW(f:al->U0):al->U5:=λρ=>(f ρ).bind λds=>if ds.all (cH 3)=true then some (.lst ds) else none
section
variable {X:Cx}{B:Bs}{fa:al->U5}{pos:Pos}
def PB(h:PE X e (eW X.K B fr)):PE X e (eF X.K B (fW fr)):=h.imp λo H Q ⟨Hf,ρ,d,I,f,q⟩=>by
 have⟨ds,n,c⟩:=bind_some f
 split at c
 ·rename_i hn
  cases c;refine⟨Hf,ρ,ds,I,n,λHf' g p xs i j l a dn=>?_⟩
  have⟨k,dk⟩:=AK (Hn:=aF ey p (.lst xs)) hn dn;refine q Hf' g (aF ey p (.lst xs)) (k+1) (.ref p) i (wW a) (λb m=>by rw[wX m];exact⟨j,l⟩) ⟨p,xs,rfl,aT,dk⟩
 ·cases c
def mQ(np n:Nat)(f:al->aO)(ds:U4):U5:=if ds.length=np then (match f (bY n ds) with|.rt d=>some d|_=>none) else none
def AL{a:Nat}{f:al->aO}{ds:U4}(h:ds.length=a)(b:f (bY n ds)=.rt d):mQ a n f ds=some d:=by unfold mQ;rw[ya h,b]
def wY(K:Fg1)(np:Nat)(F:U4->U5):Sp:=λvs H Q _=>∃Hf ds d,aH Hf H/\aR K Hf ds vs/\ds.length=np/\F ds=some d/\∀Hf' H' Hn k v,Ex Hf H Hf' H'->aH Hn H'->(∀b,Hn b≠none->H b=none/\Hf' b=none)->dD K Hn Hf' k d v->Q v H'
def sF(K:Fg1)(B:Bs)(f:al->aO):TS:=λD σ H=>∃Hf ρ,VI K B Hf ρ σ H/\match f ρ with
 |.rt d=>∀Hf' H' Hn k v,Ex B.f B.h Hf' H'->aH Hn H'->(∀b,Hn b≠none->B.h b=none/\Hf' b=none)->dD K Hn Hf' k d v->D.rt v H'
 |_=>False
def mR(f:al->aO):Prop:=∀ρ d,f ρ≠.rt d
def nR:mR (bK i fe):=λρ d h=>by unfold bK at h;split at h <;> cases h
def F1:mR cr:=λρ d h=>by cases h
def F2{a:al->Y3}{f:al->aO}(b:mR f)(c:mR g):mR (bT a f g):=λρ d h=>by
 unfold bT at h
 split at h
 ·exact b _ _ h
 ·exact c _ _ h
 ·cases h
variable {st:Stmt}
end
section
variable {K:Fg1}
def PC{st:Stmt}{N ps:U8}(C:o=mQ m nN fs)(G:ps.length=m)(I:N.length=nN)(F:d8 K x c st f n)(S:ax N ps (bj st))(i:∀(g:Value) (A:Around) (a:Yb) (s:Shared) (H:Hp) (E:XK) (B:Bs),aK k (A.deeper (envOfC c (bj st) s.heap.objs.size f g))->bv (gJ aZ P w K mg base N c (bj st) f g A a s H E).nox (fq st) (sF K B fs)):aG P w K mg base aZ (k+1) f n ps (wY K m o):=by
 subst C G I;refine F.ok S (λvs H Q E h=>?_) (λg A a s H vs Q E p h=>?_)
 ·obtain⟨Hf,ds,d,_,j,l,_⟩:=h
  rw[<-l,j.length]
 ·obtain⟨Hf,ds,d,hs,j,l,b,q⟩:=h
  refine⟨_,i g A a s H E ⟨Hf,H⟩ p,Hf,bY N.length ds,VI.init hs j,?_⟩;unfold mQ at b;rw[ya l]at b
  cases e:fs (bY N.length ds) with
  |rt d'=>rw[e]at b;cases b;exact λHf' r Hn k v u s y z=>q Hf' r Hn k v u s y z
  |rw es=>rw[e]at b;cases b
  |nx ρ'=>rw[e]at b;cases b
  |bk ρ'=>rw[e]at b;cases b
  |ct ρ'=>rw[e]at b;cases b
  |bad=>rw[e]at b;cases b
end
section
variable {X:Cx}{pos:Pos}
def PD(G:aG X.prog X.w X.K X.mg X.base aZ k f fd ps (wY X.K np F))(u:aK k X.A)(y:Gl X x)(hm:X.mg x=some (.ref f))(C:keepIn X.K (.ref f)=true)(c:cB X.K fd ps [])(E:PA X (e::es) (aV X.K B fr))(i:(x == 'g')=false:=by decide)(J:W1 X (e::es) e es:=by rfl)(j:W2 X pos es:=by rfl):PE X (.Call (.Name x p) (e::es) [] pos) (eF X.K B (bH np F fr)) :=
 (kI G u y hm C c .nil iM E i J j).imp λL H Q ⟨Hf,ρ,z,I,hz,q⟩=>by
  have⟨ds,r,hz⟩:=bind_some hz
  split at hz
  ·rename_i hn
   refine⟨Hf,ρ,ds,I,r,λg l vs a h=>?_⟩;show wY X.K np F (vs++[]) l Q E0;rw[zc];exact⟨g,ds,z,a.fh,h,hn,hz,λHf' m Hn k v n s fr o=>q Hf' m Hn k v (a.trans n) s (λb c=>⟨a.hh.free (fr b c).1,(fr b c).2⟩) o⟩
  ·cases hz
end
structure PH(K:Fg1)(B:Bs)(i:Nat)(d:D)(Hf:Hp)(ρ:al)(σ:St)(H:Hp)(Hn:Hp):Prop where
 vi:VI K B Hf ρ σ H
 ni:ρ[i]?=some none
 nh:aH Hn H
 fr:∀b,Hn b≠none->Hf b=none/\B.h b=none
 ow:∀(j:Nat) sl p,ρ[j]?=some (some sl)->cz sl=true->σ[j]?=some (some (.ref p))->Hn p=none
 ex:∃k x,σ[i]?=some (some x)/\dD K Hn Hf k d x
section
variable {K:Fg1}{ρ:al}
theorem PH.ext(I:PH K B i d Hf ρ σ H Hn)(e:Ex Hf H Hf' H'):PH K B i d Hf' ρ σ H' (gm Hn Hf'):=by
 refine⟨I.vi.ext e,I.ni,FZ (I.nh.trans e.hh),λb f=>⟨(wV f).1,(I.fr b (wV f).2).2⟩,λj sl p a c g=>?_,?_⟩
 ·cases z:gm Hn Hf' p with
  |none=>rfl
  |some o=>have:=I.ow j sl p a c g;rw[(qZ z).2]at this;cases this
 ·have⟨k,x,a,c⟩:=I.ex
  exact⟨k,x,a,c.cut (I.nh.trans e.hh) e.fh e.ff λb xs z=>kx e (I.fr b (by rw[z];exact λz=>nomatch z)).1 (I.nh b _ z)⟩
def PH.heap(I:PH K B i d Hf ρ σ H Hn)(s:aH H H'):PH K B i d Hf ρ σ H' Hn:=⟨I.vi.ext ⟨aH.refl _,s,I.vi.fh.trans s,λ_ h=>.inl h,λ_ _ _ h=>h⟩,I.ni,I.nh.trans s,I.fr,I.ow,I.ex⟩
theorem PH.sh(I:PH K B i d Hf ρ σ H Hn):VI K B (jn Hf (noF Hn)) (ρ.set i (some (.sh d))) σ H:=by
 have⟨k,x,J,L⟩:=I.ex;have hl:i<ρ.length:=(wb.mp I.ni).1;have e:Ex Hf H (jn Hf (noF Hn)) H->True:=λ_=>trivial
 have g:∀{j:Nat} {sl:Sl},(ρ.set i (some (.sh d)))[j]?=some (some sl)->(j=i/\sl=.sh d)\/(j≠i/\ρ[j]?=some (some sl)):=λ{j sl} e=>by
  by_cases n:i=j
  ·subst n
   rw[ab hl]at e;cases e;exact .inl ⟨rfl,rfl⟩
  ·rw[ca n]at e
   exact .inr ⟨λz=>n z.symm,e⟩
 have v:aH Hf (jn Hf (noF Hn)):=ew;have c:∀p,Hf p=none->Hn p=none->jn Hf (noF Hn) p=none:=λp a b=>by unfold jn;rw[a];exact AI b
 refine⟨⟨I.vi.ex.ff.trans ew,I.vi.ex.hh,kZ I.vi.fh (lT.trans I.nh),λb A=>?_,λb o u h=>I.vi.ex.nf b o u (qY h)⟩,by simp[I.vi.len],λj sl e=>?_,λj sl p e o q=>?_,λj k C E p e1 e2 w y F G=>?_⟩
 ·rcases k0 A with z|z
  ·exact I.vi.ex.nw b z
  ·exact .inr (.inl (I.fr b (pB z)).2)
 ·rcases g e with⟨rfl,rfl⟩|⟨n,e⟩
  ·exact⟨x,J,k,L.noF.dn (ju I.vi.fh (lT.trans I.nh)) ew⟩
  ·have⟨u,r,k2⟩:=I.vi.ok j sl e
   refine⟨u,r,?_⟩
   cases sl with
   |sh d'=>exact Dn.same k2 v
   |ow ds=>obtain⟨p,xs,rfl,f,l,m⟩:=k2;exact⟨p,xs,rfl,c p f (I.ow j _ p e rfl r),l,aR.same m v⟩
   |dk ks ds=>obtain⟨p,xs,rfl,f,l,s,m⟩:=k2;exact⟨p,xs,rfl,c p f (I.ow j _ p e rfl r),l,s,aR.same m v⟩
   |dt ks ds=>obtain⟨p,xs,rfl,f,l,s,m⟩:=k2;exact⟨p,xs,rfl,c p f (I.ow j _ p e rfl r),l,s,aR.same m v⟩
   |ob p0 ks ds=>obtain⟨p,xs,rfl,f,l,s,m⟩:=k2;exact⟨p,xs,rfl,c p f (I.ow j _ p e rfl r),l,s,aR.same m v⟩
 ·rcases g e with⟨rfl,rfl⟩|⟨n,e⟩
  ·cases o
  ·exact I.vi.own j sl p e o q
 ·rcases g e1 with⟨rfl,rfl⟩|⟨n,e1⟩
  ·cases w
  ·rcases g e2 with⟨rfl,rfl⟩|⟨M,e2⟩
   ·cases y
   ·exact I.vi.dis j k C E p e1 e2 w y F G
end
abbrev GP:=D->al->aO
def sP(K:Fg1)(B:Bs)(i:Nat)(g:GP):TS:=λD σ H=>∃d Hf ρ Hn,PH K B i d Hf ρ σ H Hn/\fR K B Hf (g d ρ) D
def uA(i:Nat)(f:al->U5)(g:GP):al->aO:=λρ=>match ρ[i]? with
 |some none=>(match f ρ with|some d=>g d ρ|none=>.bad)
 |_=>.bad
def nT(i:Nat)(ft:al->Y3)(fb:al->aO)(g:GP):GP:=λd ρ=>match ft (ρ.set i (some (.sh d))) with
 |some true=>(match fb (ρ.set i (some (.sh d))) with|.rt z=>.rt z|_=>.bad)
 |some false=>g d ρ
 |none=>.bad
section
variable {X:Cx}{pos:Pos}{fb:al->aO}
def PF(J:X.N.Nodup)(L:X.N[i]?=some x)(M:dQ X.env.scope x)(O:PE X e (eF X.K B f))(P:bv X rest (sP X.K B i g))(hs:W0 X e (some (.Name x pos')) pos:=by rfl)(Q:W3 X x:=by first|exact .inl rfl|exact .inr rfl|assumption) :
  bv X (.Assign [.Name x pos'] e pos::rest) (sV X.K B (uA i f g)):=(dR (iG J L M O hs Q) P).imp λD C H ⟨Hf,ρ,I,q⟩=>by
 unfold uA at q
 split at q
 ·rename_i a
  split at q
  ·rename_i d G
   have hl:i<C.length:=by rw[<-I.len];exact(wb.mp a).1
   refine⟨Hf,ρ,d,I,G,λHf' R Hn k v r s h E=>⟨d,Hf',ρ,Hn,⟨(I.ext r).setU a,a,s,λb w=>⟨(h b w).2,I.ex.hh.free (h b w).1⟩,λj sl p l F y=>?_,k,v,by rw[ab hl],E⟩,fR.mono q r.ff⟩⟩;have n:i≠j:=λz=>by subst z;rw[a]at l;cases l
   rw[ca n]at y;have⟨u,A,k2⟩:=I.ok j sl l;rw[y]at A;cases A
   have:H p≠none:=by
    cases sl with
    |sh d'=>cases F
    |ow ds=>obtain⟨m,xs,e1,_,c,_⟩:=k2;cases e1;rw[c];exact λz=>nomatch z
    |dk ks ds=>obtain⟨m,xs,e1,_,c,_⟩:=k2;cases e1;rw[c];exact λz=>nomatch z
    |dt ks ds=>obtain⟨m,xs,e1,_,c,_⟩:=k2;cases e1;rw[c];exact λz=>nomatch z
    |ob p0 ks ds=>obtain⟨m,xs,e1,_,c,_⟩:=k2;cases e1;rw[c];exact λz=>nomatch z
   cases z:Hn p with
   |none=>rfl
   |some o=>exact absurd (h p (by rw[z];exact λz=>nomatch z)).1 this
  ·exact q.elim
 ·exact q.elim
theorem F3(h:PT X c (tV X.K B ft))(j:bv X as (sV X.K B fb))(l:bv X rest (sP X.K B i g)):bv X (.If c as [] pos::rest) (sP X.K B i (nT i ft fb g)):=(dR (sJ h j vC) l).imp λD m H ⟨d,Hf,ρ,Hn,I,q⟩=>by
 unfold nT at q
 cases e:ft (ρ.set i (some (.sh d))) with
 |none=>rw[e]at q;exact q.elim
 |some b =>
  rw[e]at q;refine⟨jn Hf (noF Hn),ρ.set i (some (.sh d)),b,I.sh,e,λf n a=>?_⟩
  cases b with
  |true =>
   rw[ya rfl];refine⟨f,ρ.set i (some (.sh d)),I.sh.ext a,?_⟩;dsimp only at q
   cases e2:fb (ρ.set i (some (.sh d))) with
   |rt z=>rw[e2]at q;exact q
   |nx ρ'=>rw[e2]at q;exact q.elim
   |bk ρ'=>rw[e2]at q;exact q.elim
   |ct ρ'=>rw[e2]at q;exact q.elim
   |rw ds=>rw[e2]at q;exact q.elim
   |bad=>rw[e2]at q;exact q.elim
  |false =>
   rw[ic bb];exact⟨d,Hf,ρ,Hn,I.heap a.hh,q⟩
end
def VI.offH{K:Fg1}{B:Bs}{a:St}(I:VI K B Hf ρ a H)(no:∀(i:Nat) sl,ρ[i]?=some (some sl)->cz sl=true->a[i]?≠some (some (.ref p)))(f:Hf p=none)(g:B.h p=none):VI K B Hf ρ a (aF H p o):=by
 refine⟨⟨I.ex.ff,λb u h=>?_,λb u h=>?_,I.ex.nw,I.ex.nf⟩,I.len,λi sl h=>?_,I.own,I.dis⟩
 ·rw[aI (dP h g)];exact I.ex.hh b u h
 ·rw[aI (dP h f)];exact I.fh b u h
 ·have⟨v,c,e⟩:=I.ok i sl h
  exact⟨v,c,e.away λo z=>no i sl h o (by rw[c,z])⟩
def VI.drop{K:Fg1}{ρ:al}{a:St}(I:VI K B Hf ρ a H)(j:Nat):VI K B Hf (ρ.set j none) a H:=by
 have g:∀{l:Nat} {sl:Sl},(ρ.set j none)[l]?=some (some sl)->ρ[l]?=some (some sl):=λ{l sl} e=>by
  by_cases hl:j=l
  ·subst hl
   rw[uj]at e
   split at e
   ·split at e <;> cases e
   ·exact e
  ·rwa [ca hl]at e
 exact⟨I.ex,by simp[I.len],λl sl e=>I.ok l sl (g e),λl sl p e=>I.own l sl p (g e),λl k b c p e1 e2=>I.dis l k b c p (g e1) (g e2)⟩
noncomputable abbrev k6(r:D×U4):D:=.tup [r.1,.lst r.2]
abbrev mS(rows:List (D×U4)):D:=.lst (rows.map k6)
inductive d6 (K:Fg1) (Hf H:Hp):List (D×U4)->Y8->Y8->Prop
 |nil:d6 K Hf H [] [] []
 |cons {p:D} {es:U4} {r q:Addr} {v:V} {ys:U6} {rows:List (D×U4)} {rs qs:Y8}:Hf r=some (.tup [v,.ref q])->Dn K Hf p v->Hf q=none->H q=some (.lst ys)->aR K Hf es ys->q ∉ qs->d6 K Hf H rows rs qs->d6 K Hf H ((p,es)::rows) (r::rs) (q::qs)
section
variable {K:Fg1}{rows:List (D×U4)}{rs qs:Y8}
theorem d6.ext(h:d6 K Hf H rows rs qs)(e:Ex Hf H Hf' H'):d6 K Hf' H' rows rs qs:=by
 induction h with
 |nil=>exact .nil
 |cons a b c d f g _ i=>exact .cons (e.ff _ _ a) (b.same e.ff) (kx e c d) (e.hh _ _ d) (aR.same f e.ff) g i
theorem d6.heap(h:d6 K Hf H rows rs qs)(s:aH H H'):d6 K Hf H' rows rs qs:=by
 induction h with
 |nil=>exact .nil
 |cons a b c d f g _ e=>exact .cons a b c (s _ _ d) f g e
theorem d6.at_(h:d6 K Hf H rows rs qs):∀q∈qs,Hf q=none/\∃ys,H q=some (.lst ys):=by
 induction h with
 |nil=>intro q hq;cases hq
 |cons a b c d f g _ e =>
  intro q hq;rcases wc.mp hq with rfl|hq
  ·exact⟨c,_,d⟩
  ·exact e q hq
theorem d6.len(h:d6 K Hf H rows rs qs):rs.length=rows.length/\qs.length=rows.length:=by
 induction h with
 |nil=>exact⟨rfl,rfl⟩
 |cons _ _ _ _ _ _ _ a=>simp[a]
theorem d6.snoc(h:d6 K Hf H rows rs qs)(a:Hf r=some (.tup [v,.ref q]))(b:Dn K Hf p v)(c:Hf q=none)(d:H q=some (.lst ys))(f:aR K Hf es ys)(g:q ∉ qs):d6 K Hf H (rows++[(p,es)]) (rs++[r]) (qs++[q]):=by
 induction h with
 |nil=>exact .cons a b c d f (λz=>nomatch z) .nil
 |cons e i j d' l g' _ m =>
  rw[wc,not_or]at g;refine .cons e i j d' l (λz=>?_) (m g.2);rcases yd.mp z with z|z
  ·exact g' z
  ·exact g.1 (wd.mp z).symm
end
structure q9(K:Fg1)(Hf H:Hp)(t:Addr)(rows:List (D×U4))(rs qs:Y8):Prop where
 ht:H t=some (.lst (rs.map V.ref))
 hf:Hf t=none
 nt:t ∉ qs
 rw:d6 K Hf H rows rs qs
def AM(K:Fg1)(B:Bs)(f:al->U5):TE:=λσ H Q=>∃Hf ρ d es,VI K B Hf ρ σ H/\f ρ=some (k6 (d,es))/\∀Hf' H' r q v ys,Ex Hf H Hf' H'->Hf' r=some (.tup [v,.ref q])->Dn K Hf' d v->H q=none->Hf' q=none->H' q=some (.lst ys)->aR K Hf' es ys->Q (.ref r) H'
def pE(K:Fg1)(B:Bs)(f:al->U5):TE:=λσ H Q=>∃Hf ρ rows,VI K B Hf ρ σ H/\f ρ=some (mS rows)/\∀Hf' H' t rs qs,Ex Hf H Hf' H'->(∀b∈t::qs,H b=none)->q9 K Hf' H' t rows rs qs->Q (.ref t) H'
section
variable {X:Cx}{a:Expr}{pos:Pos}{K:Fg1}
def PJ{x1}(E:PE X a (eV X.K B f1))(F:PE X b (eW X.K B f2))(hs:W1 X [a,b] a [b]:=by rfl)(n:W1 X [b] b []:=by rfl):PE X (.Tuple [a,b] x1 pos) (AM X.K B (eN cM (aC f1 (aC (eL f2) aN)))) :=
 (za (el E (el F fL n) hs)).imp λG H Q ⟨Hf,ρ,d,es,I,hz,q⟩=>by
  have⟨ds,h,hz⟩:=bind_some hz;have⟨y,e1,h⟩:=bind_some h;have⟨M,e2,h⟩:=bind_some h;have⟨N,f,e2⟩:=bind_some e2;have⟨m,A,f⟩:=pc.mp f;have⟨O,C,e2⟩:=bind_some e2;cases C;cases e2;cases h;subst f;unfold cM at hz
  split at hz
  ·rename_i hl
   have hz:=D.tup.inj (ae hz);simp only[ao,D.lst.injEq,and_true]at hz;obtain⟨rfl,rfl⟩:=hz;refine⟨Hf,ρ,y,I,e1,λj J v c u=>⟨j,ρ,m,I.ext c,A,λw L p ys g x l e dn=>⟨hl,λr s=>?_⟩⟩⟩;have e2:=c.trans g;have f:=Ex.new (o:=.tup [v,.ref p]) e2.fh s;have i:p≠r:=λz=>by rw[z,s]at e;cases e
   exact q _ _ r p v ys (e2.trans f) aT ((u.same g.ff).same f.ff) (c.hh.free x) (by rw[aI i];exact l) (by rw[aI i];exact e) (aR.same dn f.ff)
  ·cases hz
def PL(I:VI K B Hf ρ σc H)(hJ:kT K J H Hf ds)(hl:ds.length<=sizeLine)(hr:eI g tt te ρ ds=some (rows.map k6))(hs:∀j∈sl,σc[j]?=some none)(q:∀Hf' H' rs qs,Ex Hf H Hf' H'->(∀b∈qs,H b=none)->d6 K Hf' H' rows rs qs->Q (rs.map V.ref) H'):vP J (gV K B sl g) (tV K B tt) (AM K B te) σc Q H:=by
 refine⟨λi m ys H'=>m=ds.length - i/\i<=ds.length/\∃Hf' done a rs qs,Ex Hf H Hf' H'/\(∀b∈qs,H b=none)/\d6 K Hf' H' done rs qs/\ys=rs.map V.ref/\done.length<=i/\eI g tt te ρ (ds.drop i)=some (a.map k6)/\rows=done++a,⟨ds.length,'m',ie _,Hf,[],rows,[],[],.refl I.fh,(λb hb=>nomatch hb),.nil,rfl,dc _,hr,rfl⟩,?_⟩;rintro i m ys H' ⟨rfl,hi,Hf',done,a,rs,qs,M,R,u,rfl,hdl,n,w⟩;have ok:=hJ Hf' H' M.hh M.ff M.fh i;by_cases E:i<ds.length
 ·obtain⟨go,T⟩:=ok.1 ds[i] (by simp[E])
  have hyl:=u.len;refine .inr ⟨go,by rw[aa];omega,λA F=>∃l c f o p,Ex Hf H l F/\(∀b∈p,H b=none)/\d6 K l F c o p/\A=o.map V.ref/\c.length<=i+1/\eI g tt te ρ (ds.drop (i+1))=some (f.map k6)/\rows=c++f,λA F ⟨l,c,f,o,p,h⟩=>⟨ds.length - (i+1),'o',rfl,E,l,c,f,o,p,h⟩,λx F y=>?_⟩;have⟨l,C,dx⟩:=T x F y;rw[ke E]at n;unfold eI at n;have⟨ρ1,hg,n⟩:=bind_some n;have⟨b,hb,n⟩:=bind_some n;have e2:=M.trans C;refine⟨l,ρ,_,ρ1,I.ext e2,dx,hg,λσ' X O hk=>⟨⟨O,λj v Y=>?_⟩,l,ρ1,b,X,hb,λG H3 s=>?_⟩⟩
  ·rw[hk j λz=>?_]
   ·exact Y
   ·have:=hs j z
    rw[Y]at this;cases this
  ·have U:=e2.trans s
   cases b with
   |true =>
    rw[ya rfl]at n;show if true=true then _ else _
    rw[ya rfl];have⟨y,hy,n⟩:=bind_some n;have⟨t',h1,Z⟩:=pc.mp n
    cases a with
    |nil=>cases Z
    |cons r0 a =>
     have⟨z1,N⟩:=rn Z;obtain⟨d,es⟩:=r0;refine⟨G,ρ1,d,es,X.ext s,by rw[hy,z1],λP H4 r q v ys L a1 a2 a3 a4 a5 a6=>?_⟩;have r3:=u.ext (C.trans s)
     have hq:q ∉ qs:=λz=>by
      have⟨_,A,N⟩:=r3.at_ q z;rw[a3]at N;cases N
     refine⟨P,done++[(d,es)],a,rs++[r],qs++[q],U.trans L,λb hb=>?_,(r3.ext L).snoc a1 a2 a4 a5 a6 hq,by rw[jd];rfl,by simp;omega,by rw[h1,N],by rw[w];simp⟩;rcases yd.mp hb with hb|hb
     ·exact R b hb
     ·rw[wd.mp hb];exact U.hh.free a3
   |false =>
    rw[ic bb]at n;show if false=true then _ else _
    rw[ic bb];exact⟨G,done,a,rs,qs,U,R,u.ext (C.trans s),rfl,'o',n,w⟩
 ·have e:i=ds.length:=by omega
  subst e;refine .inl ⟨ok.2 (dc _),?_⟩;rw[ki]at n;unfold eI at n
  have ht:a=[]:=by
   have:=ae n
   exact List.map_eq_nil_iff.mp this.symm
  subst ht;rw[zc]at w;subst w;exact q Hf' H' rs qs M R u
variable {scope:Scope}{vars:U8}{cap:U7}{sl:U7}
def PP(O:X.calm=true)(S:bZ X scope)(m:∀i∈cap,i<X.N.length/\scope.names.lookup (X.N.getD i "")≠some .local)(hn:cap.Nodup)(y:sl.all (·<vars.length)=true)(P:PI X tg iter (iB X.K B fi))(R:∀s H C ex,PG (cK X scope C vars cap s H ex) tg (gV X.K B sl g))(T:∀s H C ex,kK (cK X scope C vars cap s H ex) ifs (tV X.K B tt))(U:∀s H C ex,PE (cK X scope C vars cap s H ex) elt (AM X.K B te))(hs:∀x,foldedSetIterable iter X.env x=pure x:=by intro _;rfl):PE X (.ListComp elt [⟨tg,iter,ifs,0⟩] scope pos) (pE X.K B (eL (dJ vars.length cap fi g tt te))) :=
 (zG O S m P R T U hs).imp λY H Q ⟨Hf,ρ,h,I,hz,q⟩=>by
  have⟨u,hz,v⟩:=pc.mp hz;have v:u=h.map k6:=D.lst.inj v;subst v;have⟨ds,L,hz⟩:=bind_some hz
  split at hz
  ·rename_i hl
   refine⟨Hf,ρ,ds,I,L,λJ F Z a ok=>PL ((I.ext a).comp hn) ok hl hz (λj f=>?_) λr H2 rs qs c G e=>⟨?_,λp n=>?_⟩⟩
   ·have f:=lc.mp y j f
    have f:j<vars.length:=by simpa using f
    unfold gy;rw[mf (by simpa using f),cg,ya f]
   ·have M:=wE hz
    rw[aa]at M;rw[aa,e.len.1];omega
   ·have l:=a.trans c
    have E:=Ex.made (o:=.lst (rs.map V.ref)) c.fh n
    have w:p ∉ qs:=λz=>by
     have⟨_,ys,A⟩:=e.at_ p z;rw[n]at A;cases A
    refine q r _ p rs qs (l.trans E) (λb hb=>?_) ⟨aT,c.fh.free n,w,e.heap E.hh⟩;rcases wc.mp hb with rfl|hb
    ·exact l.hh.free n
    ·exact a.hh.free (G b hb)
  ·cases hz
end
def rd(K:Fg1)(np:Nat)(F:U4->U5):Sp:=λvs H Q _=>∃Hf ds rows,aH Hf H/\aR K Hf ds vs/\ds.length=np/\F ds=some (mS rows)/\∀Hf' H' t rs qs,Ex Hf H Hf' H'->(∀b∈t::qs,H b=none)->q9 K Hf' H' t rows rs qs->Q (.ref t) H'
def sR(K:Fg1)(B:Bs)(f:al->aO):TS:=λD σ H=>∃Hf ρ,VI K B Hf ρ σ H/\match f ρ with
 |.rt d=>∃rows,d=mS rows/\∀Hf' H' t rs qs,Ex B.f B.h Hf' H'->(∀b∈t::qs,B.h b=none)->q9 K Hf' H' t rows rs qs->D.rt (.ref t) H'
 |_=>False
section
variable {X:Cx}{st:Stmt}{pos:Pos}
theorem wZ(c:mR fo)(f:PS X st (sV X.K B fo))(h:bv X rest (sR X.K B g)):bv X (st::rest) (sR X.K B (aY fo g)):=(dR f h).imp λD i H ⟨Hf,ρ,I,q⟩=>by
 refine⟨Hf,ρ,I,?_⟩;unfold aY at q
 cases e:fo ρ with
 |nx ρ'=>rw[e]at q;exact λHf' a j z b=>⟨Hf',ρ',b,q⟩
 |rt d=>exact absurd e (c ρ d)
 |_=>rw[e]at q;exact q.elim
theorem F4(h:PE X e (pE X.K B f)):bv X [.Return (some e) pos] (sR X.K B (bI f)):=(g9 (mw h)).imp λD m H ⟨Hf,ρ,I,q⟩=>by
 unfold bI at q
 cases e:f ρ with
 |none=>rw[e]at q;exact q.elim
 |some d =>
  rw[e]at q;obtain⟨a,rfl,q⟩:=q;exact⟨Hf,ρ,a,I,e,λHf' c t rs g i j w=>q Hf' c t rs g (I.ex.trans i) (λb l=>I.ex.hh.free (j b l)) w⟩
end
section
variable {K:Fg1}
def F5{st:Stmt}{N ps:U8}(C:p=mQ n nN fs)(G:ps.length=n)(I:N.length=nN)(F:d8 K x b st f o)(S:ax N ps (bj st))(g:∀(c:Value) (A:Around) (a:Yb) (s:Shared) (H:Hp) (E:XK) (B:Bs),aK k (A.deeper (envOfC b (bj st) s.heap.objs.size f c))->bv (gJ aZ P w K mg base N b (bj st) f c A a s H E).nox (fq st) (sR K B fs)):aG P w K mg base aZ (k+1) f o ps (rd K n p):=by
 subst C G I;refine F.ok S (λvs H Q E h=>?_) (λc A a s H vs Q E r h=>?_)
 ·obtain⟨Hf,ds,d,_,l,m,_⟩:=h
  rw[<-m,l.length]
 ·obtain⟨Hf,ds,j,hs,l,m,i,q⟩:=h
  refine⟨_,g c A a s H E ⟨Hf,H⟩ r,Hf,bY N.length ds,VI.init hs l,?_⟩;unfold mQ at i;rw[ya m]at i
  cases e:fs (bY N.length ds) with
  |rt d'=>rw[e]at i;cases i;exact⟨j,rfl,λHf' u t rs v y z w=>q Hf' u t rs v y z w⟩
  |_=>rw[e]at i;cases i
end
section
variable {X:Cx}{pos:Pos}
def uB(G:aG X.prog X.w X.K X.mg X.base aZ k f fd ps (rd X.K np F))(s:aK k X.A)(u:Gl X x)(hm:X.mg x=some (.ref f))(v:keepIn X.K (.ref f)=true)(h:cB X.K fd ps [])(y:PA X (e::es) (aV X.K B fr))(i:(x == 'g')=false:=by decide)(C:W1 X (e::es) e es:=by rfl)(j:W2 X pos es:=by rfl):PE X (.Call (.Name x p) (e::es) [] pos) (pE X.K B (bH np F fr)) :=
 (kI G s u hm v h .nil iM y i C j).imp λE H Q ⟨Hf,ρ,z,I,hz,q⟩=>by
  have⟨ds,r,hz⟩:=bind_some hz
  split at hz
  ·rename_i hn
   refine⟨Hf,ρ,ds,I,r,λc l vs a g=>?_⟩;show rd X.K np F (vs++[]) l Q E0;rw[zc];exact⟨c,ds,z,a.fh,g,hn,hz,λHf' m t rs n o fr w=>q Hf' m t rs n (a.trans o) (λb h=>a.hh.free (fr b h)) w⟩
  ·cases hz
end
section
variable {X:Cx}{a:Expr}{fa fb:al->U5}{pos:Pos}
theorem PQ(ho:bx X (compareOp op) r)(n:bx X (compareOp j) r')(l:bx X (compareOp g) m)(ha:PE X a ta)(hb:PE X b tb)(hc:PE X c tc)(hd:PE X d td)(hm:lastMarks [op,j,g] [b,c,d]=false:=by with_unfolding_all rfl):PE X (.Compare a [op,j,g] [b,c,d] pos) (FW r r' m ta tb tc td):=by
 intro f s i H Q I h;refine Compare_chain (aW (ha f s i H _ I h) λv J ⟨x,K,L,M,N⟩=>chain_link (aW (hb f J i K _ L N) λu O ⟨y,P,R,o,T⟩=>aW (ho f O i P x y v u _ R M o T) λd U ⟨z,p,q,Y,k,e,w⟩=>?_)) hm;subst e;cases Y;refine zg ?_
 cases k with
 |false=>exact ite_ff ⟨.bl false,p,q,rfl,w⟩
 |true =>
  refine ite_tt (chain_link (aW (hc f U i p _ q w) λA Z ⟨B,H4,I4,C,q4⟩=>aW (n f Z i H4 y B u A _ I4 o C q4) λd' s5 ⟨z2,E,F,r5,k2,e2,G⟩=>?_));subst e2;cases r5;refine zg ?_
  cases k2 with
  |false=>exact ite_ff ⟨.bl false,E,F,rfl,G⟩
  |true=>exact ite_tt (chain_last (aW (hd f s5 i E _ F G) λw2 s6 ⟨z3,H6,I6,r6,q6⟩=>l f s6 i H6 B z3 A w2 Q I6 C r6 q6))
def PR(p:bx X (compareOp op) (eO h))(n:bx X (compareOp f) (eO h'))(l:bx X (compareOp e) (eO g))(q:PE X a (eB X.K B fa))(r:PE X b (eB X.K B fb))(s:PE X c (eB X.K B fc))(u:PE X d (eB X.K B fd))(v:∀i j,dL (h i j)=true:=by exact λ_ _=>rfl)(o:∀i j,dL (h' i j)=true:=by exact λ_ _=>rfl)(m:∀i j,dL (g i j)=true:=by exact λ_ _=>rfl)(hm:lastMarks [op,f,e] [b,c,d]=false:=by with_unfolding_all rfl):PE X (.Compare a [op,f,e] [b,c,d] pos) (eV X.K B (uz (e7 h) (e7 h') (e7 g) fa fb fc fd)):=(PQ p n l q r s u hm).imp λw H Q z=>Pw v o m z
end
def rl:al->aO:=λ_=>.bad
def AN{X:Cx}{st:Stmt}:PS X st (sV X.K B rl):=(Kw (X:=X) (st:=st)).imp λD a H ⟨Hf,ρ,I,q⟩=>q
def F6:mR rl:=λρ d h=>by cases h
end L2
namespace L2
open PySem PySem.Spec PyProof.Rows
open Sem (wp)
section
variable {K:Type}[DecidableEq K]{knd:HeapKind prog w K}{A:Around}{s:Shared}{a:Addr}{xs:List (K×Addr×Value)}
def PU(u:knd.room A)(d5:knd.is s.heap k a)(hm:s.heap.DictOfH knd d xs)(c:∀p,atKey xs k=some p->Q p.2 { s with toks:=s.toks+knd.draws k })(m:atKey xs k=none->∀h',h'.DictOfH knd d (xs++[(k,a,b)])->Heap.SameBut d s.heap h'->Q b { s with heap:=h',toks:=s.toks+knd.draws k })(hsz:xs.length<=sizeLine) :
  wpAny (model prog w) A (dictSetDefault d (.ref a) b) Q E s:=by
 obtain⟨o,es,ep,g,v,f,n,i,hn⟩:=hm;unfold dictSetDefault
 try with_reducible refine fg ?_
 refine ba (knd.pyHash u d5 ?_);refine ba (ko (s:={ s with toks:=s.toks+knd.draws k }) u d5 g f n i hn ?_ ?_)
 ·intro h
  have l:k ∉ xs.map (·.1):=not_mem_keys_of_get h
  refine wpAny_bind (wpAny_rule (wpAny_bind (wpAny_updateDictKeys (hz:=by have e:=size_of_entries n;omega) (s:={ s with toks:=s.toks+knd.draws k }) g f (wpAny_pure (m (atKey_none_of_get h) _ ⟨_,_,ep+1,Heap.get?_update_self _ g (Obj.isFreed_of_dict (Obj.data_mapDictKeys f _)),
   v.mapDictKeys _,ol f _,?_,?_,?_⟩ (xh ..))))))
  ·simp[n,entryOfKey]
  ·intro x hx
   rcases yd.mp hx with hx|hx
   ·exact knd.keeps (i x hx) g f (xh ..)
   ·simp only[wd]at hx
    subst hx;exact knd.keeps d5 g f (xh ..)
  ·rw[jd,og]
   refine⟨hn,'m',?_⟩;intro x hx y q;simp only[ma,vg,wd]at q;subst q;exact λe=>l (e ▸ hx)
 ·intro j p r
  refine ba (ng (s:={ s with toks:=s.toks+knd.draws k }) g f ?_);rw[entry_at n j,r];exact ba (km (wa (c _ (atKey_of_get hn r))))
def PV(j:(d == sysModules)=false)(b:Value) :
  MeetsIn prog w (Builtin.«dict.setdefault» ⟨[.ref d,.ref a,b],[]⟩) (λ A R s=>knd.room A.in1/\∃ k xs,knd.is s.heap k a/\s.heap.DictOfH knd d xs/\xs.length<=sizeLine ∧
   (∀p,atKey xs k=some p->R (.ok (.ret p.2)) { s with toks:=s.toks+knd.draws k }) ∧
   (atKey xs k=none->∀h',h'.DictOfH knd d (xs++[(k,a,b)])->Heap.SameBut d s.heap h'->R (.ok (.ret b)) { s with heap:=h',toks:=s.toks+knd.draws k })) :=
 .of_wp λA R s ⟨f,k,xs,d5,hm,hz,g,h⟩=>by
  unfold Builtin.«dict.setdefault»;refine ba ?_;unfold Builtin.Dict.keyAndDefault;refine ba (qk hm.typeIs ?_);show wpAny _ _ (pure (d,Value.ref a,some b)) _ _ s;refine wa ?_;show wpAny _ _ (if (d == sysModules)=true then _ else (dictSetDefault d (.ref a) b >>= _)) _ _ s;rw[ic (by rw[j];exact bb)];exact ba (PU f d5 hm (λp i=>wa ⟨p.2,rfl,g p i⟩) (λhn h' c e=>wa ⟨b,rfl,h hn h' c e⟩) hz)
end
end L2
namespace L2
open PySem PySem.Spec PyProof.Rows
def bQ(H:Hp):Hp:=λb=>match H b with|some (.tup xs)=>some (.tup xs)|_=>none
def uC:aH (bQ H) H:=λb u h=>by
 unfold bQ at h
 split at h
 ·rename_i e;cases h;exact e
 ·cases h
def pF(h:H b=some (.tup xs)):bQ H b=some (.tup xs):=by unfold bQ;rw[h]
def Ex.tups(s:aH Hf H):Ex Hf H (jn Hf (bQ H)) H:=by
 refine⟨ew,aH.refl _,kZ s uC,λb a=>?_,λb o u h=>?_⟩;rcases k0 a with z|z
 ·exact .inl z
 ·unfold bQ at z
  split at z
  ·rename_i xs e;exact .inr (.inr ⟨xs,e⟩)
  ·exact absurd rfl z
 ·unfold jn at h
  cases e:Hf b with
  |some x=>rw[e]at h;exact h
  |none =>
   rw[e]at h;have h:bQ H b=some (.frz o u):=h;unfold bQ at h
   split at h <;> cases h
def F7:aQ->D
 |.inl i=>.int i
 |.inr x=>.sc (.str x)
theorem w4{K:Fg1}:∀ks:List aQ,aR K H (ks.map F7) (ks.map kV)
 |[]=>.nil
 |.inl i::r=>.cons (b7 rfl) (w4 r)
 |.inr x::r=>.cons (b7 rfl) (w4 r)
def gY(ks:List aQ):D:=.tup (ks.map F7)
def F8(F:U4->U5)(fa:al->U5):al->U0:=λρ=>(fa ρ).bind λd=>match d with
 |.dt ks _=>gX F (ks.map gY)
 |_=>none
section
variable {X:Cx}{pos:Pos}{a:Expr}{fa:al->U5}
def PX(hc:X.calm=true)(G:aG X.prog X.w X.K X.mg X.base aZ k f fd [p] (cw X.K 1 F))(hr:aK k X.A.in1.in1)(hg:Gl X "sorted")(hm:X.mg "sorted" = none)(hgf:Gl X fn)(hmf:X.mg fn=some (.ref f))(hb:cB X.K fd [p] [])(ha:PE X a (eB X.K B fa))(hfd:(fn == 'g')=false:=by decide)(hs0:W1 X [a] a []:=by rfl)(e:backTo pos (starEach [a] X.env)=(false,eval a X.env)::backTo pos (starEach [] X.env):=by rfl)(g:((backTo pos (starEach [a] X.env)).any λx=>x.1)=false:=by rfl) :
  PE X (.Call (.Name "sorted" p1) [a] [⟨some "key",.Name fn p3,p4⟩] pos) (eW X.K B (F8 F fa)):=by
 intro j s σ H Q I h;obtain⟨Hf,ρ,out,N,hz,q⟩:=h;have⟨d,iW,hz⟩:=bind_some hz
 split at hz
 ·rename_i ks dvs
  unfold gX at hz
  split at hz
  ·rename_i ok
   cases hz;refine ai (ny I hg hm ti ?_ 'd' 'd')
   refine callWith_kw (aW ((el ha fL hs0) pos j s σ H (λvs n=>∃b v,vs=[v]/\Ex Hf H b n/\cL X.K b n (.dt ks dvs) v) I ⟨Hf,ρ,_,N,iW,λb n v P E=>⟨b,v,rfl,P,E⟩⟩) λus s1 ⟨vs,n,I1,T,b,v,e1,c,E⟩=>?_) (by first|exact e|exact g|rfl) (by first|exact e|exact g|rfl) (by first|exact e|exact g|rfl) (by first|exact e|exact g|rfl);subst e1;obtain⟨u,rfl,ru⟩:=hE T;obtain⟨ad,kvs,rfl,h3,h4,h5⟩:=E.dt c.fh;cases ru;refine aW ((zt (vB (v:=.ref f) hgf hmf rfl hfd) zr) pos j s1 σ n (λvs C=>vs=[.ref f]/\C=n) I1 ⟨rfl,rfl⟩) λus s2 ⟨vs,C,I2,T,e1,e2⟩=>?_
   subst e1 e2;obtain⟨u,rfl,ru⟩:=hE T;cases ru;show wpAny (model X.prog X.w) X.A (call (.builtin "sorted") [.ref ad] [(ofString "key",.ref f)]) _ _ _;have⟨z1,h0,xs,rel,o,es,ep,g1,g2,g3,g4,g5⟩:=(show cF X.prog X.w C s2.heap ad (.dT kvs) from I2.hok ad _ h3)
   have ext:=Ex.tups c.fh
   have dn:aR X.K (jn b (bQ C)) (ks.map gY) (xs.map λx=>V.ref x.2.1):=by
    rw[<-h4]
    have:∀{l:List (List aQ×V)} {m:List (List aQ×Addr×Value)},Paired (λ(p:List aQ×V) (q:List aQ×Addr×Value)=>p.1=q.1/\C q.2.1=some (.tup (p.1.map kV))/\bu p.2 q.2.2) l m->aR X.K (jn b (bQ C)) ((l.map fst).map gY) (m.map λx=>V.ref x.2.1):=by
     intro l m pr
     induction pr with
     |nil=>exact .nil
     |cons r t O=>exact .cons (oT (hT.of (ju c.fh uC _ _ (pF r.2.1))) (w4 _)) O
    exact this rel
   have hl:xs.length=(ks.map gY).length:=by rw[dn.length,aa]
   have hes:es.toList.map (·.key)=xs.map λx=>Value.ref x.2.1:=by rw[g4,md];rfl
   have hsz:es.size=xs.length:=by rw[<-qf,g4,aa]
   have hsm:=ok.sm.2;refine AE (rs:=(ks.map gY).map (rk F)) G hr hb I2 ext.fh dn (λR hR=>FJ (A:=X.A.in1) (I.ok.hd hc) h0 ⟨o,g1,g2,g3⟩ (by rw[hsz];exact sz 'o') λh' tk J=>?_) (λi d hd=>?_) (by rw[aa]) ok.sz ok.ord λHf' H' l π P U Y Z L hup=>q Hf' H' l _ (c.trans (ext.trans P)) (c.hh.free U) Y Z ?_
   ·rw[hes]
    refine hR h' tk _ J ?_
    have:∀l:List (List aQ×Addr×Value),bC (l.map λx=>V.ref x.2.1) (l.map λx=>Value.ref x.2.1):=by
     intro l
     induction l with
     |nil=>exact .nil
     |cons y r O=>exact .cons rfl O
    exact this xs
   ·have⟨r,e1,_⟩:=ok.ex d (ee hd)
    exact⟨r,by rw[de,hd];show some (rk F d)=_;rw[jO e1],e1⟩
   ·rw[<-ok.out L hup]
    have dn':=dn.same P.ff
    have M:∀l:U7,(∀i∈l,i<(ks.map gY).length)->aR X.K Hf' (l.map λi=>(ks.map gY).getD i D.non) (l.map λi=>(xs.map λx=>V.ref x.2.1).getD i V.non):=by
     intro l
     induction l with
     |nil=>intro _;exact .nil
     |cons i r O =>
      intro hh;refine .cons ?_ (O λz hz=>hh z (ua _ hz));have hi:=hh i cc;have e1:(ks.map gY)[i]?=some (ks.map gY)[i]:=vc hi;have⟨v,e2,E⟩:=dn'.zget e1;show Dn X.K Hf' ((ks.map gY).getD i D.non) ((xs.map λx=>V.ref x.2.1).getD i V.non);rw[ed,e1,ed,e2];exact E
    exact M _ λi hi=>ug.mp (L.mem_iff.mp hi)
  ·cases hz
 ·cases hz
def F9(F:U4->U5)(fa:al->U5):al->U0:=λρ=>(fa ρ).bind λd=>match d with
 |.lst ks=>gX F ks
 |_=>none
def PY(hc:X.calm=true)(G:aG X.prog X.w X.K X.mg X.base aZ k f fd [p] (cw X.K 1 F))(hr:aK k X.A.in1.in1)(hg:Gl X "sorted")(hm:X.mg "sorted" = none)(hgf:Gl X fn)(hmf:X.mg fn=some (.ref f))(hb:cB X.K fd [p] [])(ha:PE X a (eB X.K B fa))(hfd:(fn == 'g')=false:=by decide)(hs0:W1 X [a] a []:=by rfl)(j:backTo pos (starEach [a] X.env)=(false,eval a X.env)::backTo pos (starEach [] X.env):=by rfl)(m:((backTo pos (starEach [a] X.env)).any λx=>x.1)=false:=by rfl) :
  PE X (.Call (.Name "sorted" p1) [a] [⟨some "key",.Name fn p3,p4⟩] pos) (eW X.K B (F9 F fa)):=by
 intro n s σ H Q I h;obtain⟨Hf,ρ,out,N,hz,q⟩:=h;have⟨d,iW,hz⟩:=bind_some hz
 split at hz
 ·rename_i ks
  unfold gX at hz
  split at hz
  ·rename_i ok
   cases hz;refine ai (ny I hg hm ti ?_ 'd' 'd')
   refine callWith_kw (aW ((el ha fL hs0) pos n s σ H (λvs y=>∃c v,vs=[v]/\Ex Hf H c y/\cL X.K c y (.lst ks) v) I ⟨Hf,ρ,_,N,iW,λc y v L C=>⟨c,v,rfl,L,C⟩⟩) λus s1 ⟨vs,y,I1,M,c,v,e1,g,C⟩=>?_) (by first|exact j|exact m|rfl) (by first|exact j|exact m|rfl) (by first|exact j|exact m|rfl) (by first|exact j|exact m|rfl);subst e1;obtain⟨u,rfl,Z⟩:=hE M;obtain⟨ad,ys,rfl,h3,dn⟩:=C.lst g.fh;cases Z;refine aW ((zt (vB (v:=.ref f) hgf hmf rfl hfd) zr) pos n s1 σ y (λvs H2=>vs=[.ref f]/\H2=y) I1 ⟨rfl,rfl⟩) λus s2 ⟨vs,H2,I2,M,e1,e2⟩=>?_
   subst e1 e2;obtain⟨u,rfl,Z⟩:=hE M;cases Z;show wpAny (model X.prog X.w) X.A (call (.builtin "sorted") [.ref ad] [(ofString "key",.ref f)]) _ _ _;have hl:=dn.length;have hsm:=ok.sm.2;have⟨its,r1,pl,hle⟩:=I2.list h3;have hla:=r1.length;refine AE (rs:=ks.map (rk F)) G hr hb I2 g.fh dn (λR hR=>collect_list (A:=X.A.in1) pl.isList (hR _ s2.toks _ (λb o e=>by rw[bf _ _ (wv (zd e))];exact jc _ e) r1) (by rw[<-hla];exact hle)) (λi d hd=>?_) (by rw[aa]) ok.sz ok.ord λHf' H' l π L O P T E U=>q Hf' H' l _ (g.trans L) (g.hh.free O) P T ?_
   ·have⟨r,e1,_⟩:=ok.ex d (ee hd)
    exact⟨r,by rw[de,hd];show some (rk F d)=_;rw[jO e1],e1⟩
   ·rw[<-ok.out E U]
    have dn':=dn.same L.ff
    have J:∀l:U7,(∀i∈l,i<ks.length)->aR X.K Hf' (l.map λi=>ks.getD i D.non) (l.map λi=>ys.getD i V.non):=by
     intro l
     induction l with
     |nil=>intro _;exact .nil
     |cons i r ih =>
      intro hh;refine .cons ?_ (ih λz hz=>hh z (ua _ hz));have Y:=hh i cc;have e1:ks[i]?=some ks[i]:=vc Y;have⟨v,e2,C⟩:=dn'.zget e1;show Dn X.K Hf' (ks.getD i D.non) (ys.getD i V.non);rw[ed,e1,ed,e2];exact C
    exact J _ λi Y=>ug.mp (E.mem_iff.mp Y)
  ·cases hz
 ·cases hz
end
section
variable {X:Cx}{a:Addr}{A:Around}{kvs:List (List aQ×V)}{k:List aQ}
def PZ(L:A.units+1<cLine)(I:az X pins σ H s)(e:H a=some (.dT kvs))(x:H b=some (.tup (k.map kV)))(hl:kvs.length<sizeLine)(M:bu v r)(N:∀h y s',cU kvs k=some h->bu h y->az X pins σ H s'->Q y s')(O:cU kvs k=none->∀s',az X pins σ (aF H a (.dT (f6 kvs k v))) s'->Q r s') :
  wpAny (model X.prog X.w) A (call (.builtin "dict.setdefault") [.ref a,.ref b,r]) Q E s:=by
 have⟨z,n,xs,g,dd⟩:=tB I.hok e;have hz:xs.length<=sizeLine:=by rw[<-Paired.length g];exact z
 have f:=g.val k;refine zm PySem.F.slot_dict_setdefault dd.typeIs PySem.F.entry_dict_setdefault (PySem.F.args_dict_setdefault_3 _ _ _) (PV (knd:=tupleKind (fK X.prog X.w)) n r) ⟨qg L,k,xs,mC I.hok x,dd,hz,λp B=>?_,λhn h' i hs=>?_⟩
 ·rw[B]at f
  cases l:cU kvs k with
  |none=>rw[l]at f;exact f.elim
  |some h=>rw[l]at f;exact N h p.2 _ l f (I.tok _)
 ·rw[hn]at f
  cases l:cU kvs k with
  |some h=>rw[l]at f;exact f.elim
  |none =>
   refine O l _ ?_;have u:=g.put k x M;rw[storedH_new hn]at u;have j:(f6 kvs k v).length<=sizeLine:=by have:=z9 kvs k v;omega
   obtain⟨q,es,ep,o,C,G,J,_,K⟩:=i;refine v6 I (by rw[e];exact kg) hs ⟨q,o⟩ ⟨j,n,_,u.keeps λc ys m=>?_,q,es,ep,o,C,G,J,K⟩;rw[aI (yR m e (λz=>nomatch z))];exact m
end
def P1(td ty tx:TE):TE:=λσ H Q=>td σ H λx H1=>∃a,x=.ref a/\oR H1 a/\ty σ H1 λy H2=>tx σ H2 λz c=>∃b kvs k,y=.ref b/\c a=some (.dT kvs)/\c b=some (.tup (k.map kV))/\kvs.length<sizeLine ∧
 (∀w,cU kvs k=some w->Q w c)/\(cU kvs k=none->Q z (aF c a (.dT (f6 kvs k z))))
section
variable {X:Cx}
def Ga(hu:X.A.units+1<cLine)(ho:PE X o td)(he:PE X e ty)(hf:PE X f tx)(m:M2 X o "setdefault" apos e f cpos):PE X (.Call (.Attribute o "setdefault" apos) [e,f] [] cpos) (P1 td ty tx):=by
 intro c s j H Q I h;refine um m.base m.few m.line plainAttrs_dict PySem.F.slot_dict_setdefault PySem.F.type_dict_setdefault (aW (ho c s j H _ I h) λu r ⟨x,v,n,w,a,B,d,C⟩=>?_);subst B;obtain rfl:u=Value.ref a:=w;have⟨t1,t2,_⟩:=v7 n d;refine⟨t1,t2,?_⟩;rw[m.trees]
 refine Calls.callWith_builtin rfl (Calls.evalArgs_plain (Calls.spliced_cons (aW (he c r j v _ n C) λ E G ⟨y,J,K,L,M⟩ =>
  zh (aW (hf c G j J _ K M) λfv s3 ⟨z,N,O,p,b,kvs,k,P,R,T,hl,U,Y⟩=>vk ?_))))
 subst P;obtain rfl:E=Value.ref b:=L;exact PZ hu O R T hl p (λq u' Z l g i=>⟨q,N,i,g,U q l⟩) λl Z i=>⟨z,_,i,p,Y l⟩
end
abbrev GD:=List (List aQ×U4)
structure GS(X:Cx)(B:Bs)(j:Nat)(Hf:Hp)(ρ:al)(σ:St)(H:Hp)(gd:GD)(Hn:Hp):Prop where
 vi:VI X.K B Hf ρ σ H
 nj:ρ[j]?=some none
 nh:aH Hn H
 nt:∀b xs,Hn b≠some (.tup xs)
 fr:∀b,Hn b≠none->Hf b=none/\B.h b=none
 no:∀(i:Nat) sl,ρ[i]?=some (some sl)->cz sl=false
 ex:∃p kvs,σ[j]?=some (some (.ref p))/\Hn p=some (.dT kvs)/\kvs.map fst=gd.map fst/\(kvs.map snd).Nodup/\Paired (λds v=>∃l xs,v=.ref l/\Hn l=some (.lst xs)/\aR X.K Hf ds xs) (gd.map snd) (kvs.map snd)
section
variable {gd:GD}
theorem GS.ext(I:GS X B j Hf ρ σ H gd Hn)(e:Ex Hf H Hf' H'):GS X B j Hf' ρ σ H' gd Hn:=by
 refine⟨I.vi.ext e,I.nj,I.nh.trans e.hh,I.nt,λb a=>⟨?_,(I.fr b a).2⟩,I.no,?_⟩
 ·cases z:Hn b with
  |none=>exact absurd z a
  |some o=>exact kx e (I.fr b a).1 (I.nh b o z) (λxs c=>I.nt b xs (by rw[z,c]))
 ·have⟨p,kvs,f,g,h,i,m⟩:=I.ex
  exact⟨p,kvs,f,g,h,i,m.zmap λ_ _ ⟨l,xs,a1,a2,a3⟩=>⟨l,xs,a1,a2,a3.same e.ff⟩⟩
end
abbrev GG:=al->GD->Option (al×GD)
def sG(X:Cx)(B:Bs)(j:Nat)(g:GG):TS:=λD σ H=>∃Hf ρ gd Hn ρ' a,GS X B j Hf ρ σ H gd Hn/\g ρ gd=some (ρ',a)/\∀Hf' b H' Hn',aH Hf Hf'->GS X B j Hf' ρ' b H' a Hn'->D.nx b H'
def ky(gd:GD)(k:List aQ):GD:=if (aP gd k).isSome=true then gd else gd++[(k,[])]
def mU(k:List aQ)(d:D):GD->GD
 |[]=>[]
 |x::r=>if x.1=k then (x.1,x.2++[d])::r else x::mU k d r
theorem Gb(k:List aQ)(d:D):∀gd:GD,(mU k d gd).map fst=gd.map fst
 |[]=>rfl
 |x::r=>by
  unfold mU;split
  ·rfl
  ·rw[ma,Gb k d r];rfl
theorem AO{gd:GD}:∀{kvs:List (List aQ×V)},kvs.map fst=gd.map fst->(cU kvs k).isSome=(aP gd k).isSome:=by
 induction gd with
 |nil=>intro kvs h;cases kvs with|nil=>rfl|cons _ _=>simp at h
 |cons x r b =>
  intro kvs h
  cases kvs with
  |nil=>simp at h
  |cons y m =>
   simp only[ma,ao]at h;by_cases e:y.1=k
   ·have a:x.1=k:=by rw[<-h.1];exact e
    simp[cU,aP,we,e,a]
   ·have a:¬x.1=k:=by rw[<-h.1];exact e
    rw[nB e,b h.2];simp[aP,we,a]
def AQ{kvs:List (List aQ×V)}{k:List aQ}(h:cU kvs k=none):f6 kvs k v=kvs++[(k,v)]:=by
 unfold f6;rw[tz,h];rfl
section
variable {K:Fg1}
theorem P3(F:Hn l=some (.lst xs))(G:Dn K Hf d y):∀{gd:GD}{kvs:List (List aQ×V)},kvs.map fst=gd.map fst->(kvs.map snd).Nodup->cU kvs k=some (.ref l)->Paired (λds v=>∃l xs,v=.ref l/\Hn l=some (.lst xs)/\aR K Hf ds xs) (gd.map snd) (kvs.map snd) →
  Paired (λds v=>∃f c,v=.ref f/\aF Hn l (.lst (xs++[y])) f=some (.lst c)/\aR K Hf ds c) ((mU k d gd).map snd) (kvs.map snd):=by
 intro gd
 induction gd with
 |nil=>intro kvs h _ g _;cases kvs with|nil=>cases g|cons _ _=>simp at h
 |cons x r H =>
  intro kvs h n g A
  cases kvs with
  |nil=>simp at h
  |cons z m =>
   simp only[ma,ao]at h;rw[ma,yf]at n;rw[ma,ma]at A
   cases A with
   |cons C E =>
    have j:∀{a:List U4} {b:U6},(.ref l) ∉ b->Paired (λds v=>∃l xs,v=.ref l/\Hn l=some (.lst xs)/\aR K Hf ds xs) a b->Paired (λds v=>∃f c,v=.ref f/\aF Hn l (.lst (xs++[y])) f=some (.lst c)/\aR K Hf ds c) a b:=by
     intro a b B q
     induction q with
     |nil=>exact .nil
     |cons I J u =>
      obtain⟨f,c,e1,e2,i⟩:=I;refine .cons ⟨f,c,e1,?_,i⟩ (u λw=>B (ua _ w));rw[aI (λw=>B (by rw[e1,w];exact cc))];exact e2
    unfold mU;by_cases e:x.1=k
    ·have s:z.1=k:=by rw[h.1];exact e
     rw[oP s]at g;have hz:z.2=.ref l:=ae g;rw[ya e,ma,ma];obtain⟨f,c,e1,e2,i⟩:=C;rw[hz]at e1;cases e1;rw[F]at e2;cases e2;refine .cons ⟨l,_,hz,aT,i.zsnoc G⟩ (j (by rw[<-hz];exact n.1) E)
    ·have s:¬z.1=k:=by rw[h.1];exact e
     rw[nB s]at g;rw[ic e,ma,ma];obtain⟨f,c,e1,e2,i⟩:=C
     have hm:(.ref l)∈m.map snd:=by
      unfold cU at g;have⟨w,o,p⟩:=pc.mp g;rw[<-p];exact ig (xl o)
     refine .cons ⟨f,c,e1,?_,i⟩ (H h.2 n.2 g E);rw[aI (λw=>n.1 (by rw[e1,w];exact hm))];exact e2
end
section
variable {X:Cx}{gd:GD}
def GS.app(I:GS X B j Hf ρ σ H gd Hn)(e:σ[j]?=some (some (.ref p)))(f:Hn p=some (.dT kvs))(x:cU kvs k=some (.ref l))(m:Hn l=some (.lst xs))(A:Dn X.K Hf d y):GS X B j Hf ρ σ (aF H l (.lst (xs++[y]))) (mU k d gd) (aF Hn l (.lst (xs++[y]))):=by
 have hn:Hn l≠none:=by rw[m];exact λz=>nomatch z
 have g:p≠l:=λz=>by rw[z,m]at f;cases f
 refine⟨I.vi.offH (λi sl h o z=>by have:=I.no i sl h;rw[o]at this;cases this) (I.fr l hn).1 (I.fr l hn).2,I.nj,λb u z=>?_,λb ys z=>?_,λb a=>?_,I.no,?_⟩
 ·by_cases a:b=l
  ·subst a;rw[aT]at z ⊢;exact z
  ·rw[aI a]at z ⊢;exact I.nh b u z
 ·by_cases a:b=l
  ·subst a;rw[aT]at z;cases z
  ·rw[aI a]at z;exact I.nt b ys z
 ·by_cases c:b=l
  ·rw[c];exact I.fr l hn
  ·rw[aI c]at a;exact I.fr b a
 ·have⟨C,n,q,r,s,v,w⟩:=I.ex
  rw[e]at q;cases q;rw[f]at r;cases r;exact⟨p,kvs,e,by rw[aI g];exact f,by rw[Gb];exact s,v,P3 m A s v x w⟩
def GS.new(I:GS X B j Hf ρ σ H gd Hn)(s:σ[j]?=some (some (.ref p)))(x:Hn p=some (.dT kvs))(hl:H l=none):GS X B j Hf ρ σ (aF (aF H l (.lst [])) p (.dT (kvs++[(k,.ref l)]))) (gd++[(k,[])]) (aF (aF Hn l (.lst [])) p (.dT (kvs++[(k,.ref l)]))):=by
 have hn:Hn p≠none:=by rw[x];exact λz=>nomatch z
 have y:p≠l:=λz=>by have:=I.nh p _ x;rw[z,hl]at this;cases this
 have n:Hn l=none:=I.nh.free hl;have M:=I.ext (Ex.made (o:=.lst []) I.vi.fh hl);refine⟨M.vi.offH (λi sl h o z=>by have:=I.no i sl h;rw[o]at this;cases this) (I.fr p hn).1 (I.fr p hn).2,I.nj,λb u z=>?_,λb ys z=>?_,λb m=>?_,I.no,?_⟩
 ·by_cases m:b=p
  ·subst m;rw[aT]at z ⊢;exact z
  ·rw[aI m]at z ⊢
   by_cases f:b=l
   ·subst f;rw[aT]at z ⊢;exact z
   ·rw[aI f]at z ⊢;exact I.nh b u z
 ·by_cases m:b=p
  ·subst m;rw[aT]at z;cases z
  ·rw[aI m]at z
   by_cases f:b=l
   ·subst f;rw[aT]at z;cases z
   ·rw[aI f]at z;exact I.nt b ys z
 ·by_cases r:b=p
  ·rw[r];exact I.fr p hn
  ·rw[aI r]at m
   by_cases f:b=l
   ·rw[f];exact⟨I.vi.fh.free hl,I.vi.ex.hh.free hl⟩
   ·rw[aI f]at m;exact I.fr b m
 ·have⟨P,C,E,F,J,L,G⟩:=I.ex
  rw[s]at E;cases E;rw[x]at F;cases F
  have hm:∀v∈kvs.map snd,∃g c,v=.ref g/\Hn g=some (.lst c):=by
   have:∀{a:List U4} {b:U6},Paired (λds v=>∃l xs,v=.ref l/\Hn l=some (.lst xs)/\aR X.K Hf ds xs) a b->∀v∈b,∃g c,v=.ref g/\Hn g=some (.lst c):=by
    intro a b q
    induction q with
    |nil=>intro v hv;cases hv
    |cons N Q O =>
     intro v hv;obtain⟨g,c,e1,e2,_⟩:=N;rcases wc.mp hv with rfl|hv
     ·exact⟨g,c,e1,e2⟩
     ·exact O v hv
   exact this G
  refine⟨p,_,s,aT,by rw[jd,jd,J];rfl,?_,?_⟩
  ·rw[jd,og]
   refine⟨L,'m',λv hv w A e=>?_⟩;have⟨g,c,e1,e2⟩:=hm v hv;simp at A;rw[e,A]at e1;cases e1;rw[n]at e2;cases e2
  ·rw[jd,jd]
   refine(G.zmap λds v ⟨g,c,a1,a2,a3⟩=>⟨g,c,a1,?_,a3⟩).zsnoc ⟨l,[],rfl,by rw[aI y.symm,aT],.nil⟩;rw[aI (λw=>by rw[w,x]at a2;cases a2),aI (λw=>by rw[w,n]at a2;cases a2)];exact a2
end
def w6(gd:GD)(k:List aQ)(d:D):GD:=mU k d (ky gd k)
def pG(fk:al->U5):GG:=λρ gd=>(fk ρ).bind λa=>(jI a).bind λk=>if gd.length<100000 then some (ρ,ky gd k) else none
def ro(fk fv:al->U5):GG:=λρ gd=>(fk ρ).bind λa=>(jI a).bind λk=>(fv ρ).bind λd=>if gd.length<100000/\(gd.all λx=>decide (x.2.length<100000))=true then some (ρ,w6 gd k d) else none
def w9(i:Nat)(fe:al->U5):GG:=λρ gd=>(fe ρ).map λd=>(ρ.set i (some (.sh d)),gd)
def rp(g h:GG):GG:=λρ gd=>(g ρ gd).bind λz=>h z.1 z.2
def jQ(gt:D->al->Option al)(f:GG):U4->GG
 |[],ρ,gd=>some (ρ,gd)
 |d::r,ρ,gd=>(gt d ρ).bind λρ1=>(f ρ1 gd).bind λz=>jQ gt f r z.1 z.2
def lU(fi:al->U0)(gt:D->al->Option al)(f:GG):GG:=λρ gd=>(fi ρ).bind λds=>jQ gt f ds ρ gd
theorem AR:∀{l:List α}{r:List β},Paired F l r->∀y∈r,∃x∈l,F x y
 |_,_,.nil,y,h=>by cases h
 |_,_,.cons p q,y,h=>by
  rcases wc.mp h with rfl|h
  ·exact⟨_,cc,p⟩
  ·have⟨x,a,b⟩:=AR q y h
   exact⟨x,ua _ a,b⟩
def P4{kvs:List (List aQ×V)}(h:cU kvs k=some v):v∈kvs.map snd:=by
 unfold cU at h;have⟨w,a,b⟩:=pc.mp h;rw[<-b];exact ig (xl a)
theorem P5{kvs:List (List aQ×V)}{k:List aQ}(h:cU kvs k=none):cU (kvs++[(k,v)]) k=some v:=by
 induction kvs with
 |nil=>exact oP rfl
 |cons x r a =>
  by_cases e:x.1=k
  ·rw[oP e]at h;cases h
  ·rw[nB e]at h
   rw[oh,nB e];exact a h
section
variable {X:Cx}{pos:Pos}
def P6(T:aK n X.A)(U:X.N[j]?=some x)(Y:PE X key (eB X.K B fk))(m:M2 X (.Name x p1) "setdefault" p2 key (.List [] p3) p4)(s:cZ X.env.scope x:=by first|exact ac rfl|exact ud (ac rfl)|exact ud (ud rfl))(Z:(x == 'g')=false:=by decide)(G:(x == 'c')=false:=by decide)(hs:W0 X (.Call (.Attribute (.Name x p1) "setdefault" p2) [key,.List [] p3] [] p4) none pos:=by rfl) :
  PS X (.Expr (.Call (.Attribute (.Name x p1) "setdefault" p2) [key,.List [] p3] [] p4) pos) (sG X B j (pG fk)) :=
 (kG (Ga (by have:=T.units;omega) (cR U s Z G) Y (sQ fL) m) hs).imp λD I H ⟨Hf,ρ,gd,Hn,ρ',M,N,g,q⟩=>by
  have⟨Q,z,g⟩:=bind_some g;have⟨k,C,g⟩:=bind_some g
  split at g
  ·rename_i J
   cases g;have⟨p,kvs,i,E,L,h4,h5⟩:=N.ex
   refine⟨_,i,p,rfl,.inr ⟨kvs,.inl (N.nh _ _ E)⟩,Hf,ρ,Q,N.vi,z,λh O y a P=>⟨ie _,λl hl=>?_⟩⟩;have v:=N.ext a;obtain⟨b,rfl,R⟩:=qJ P C;have o:O p=some (.dT kvs):=v.nh _ _ E;have r:=a.fh _ _ R;have F:kvs.length=gd.length:=by rw[<-aa (f:=fst),L,aa]
   have c:=AO (k:=k) L;refine⟨b,kvs,k,rfl,by rw[aI (dP o hl)];exact o,by rw[aI (dP r hl)];exact r,by rw[F];exact kW 'o',λw u=>?_,λu=>?_⟩
   ·rw[u]at c
    have e:ky gd k=gd:=by unfold ky;exact ya c.symm
    rw[e]at q;exact q h I _ Hn a.ff (v.ext (Ex.made v.vi.fh hl))
   ·rw[u]at c
    have e:ky gd k=gd++[(k,[])]:=by unfold ky;rw[ic (by rw[<-c];decide)]
    rw[e]at q;rw[AQ u];exact q h I _ _ a.ff (v.new i E hl)
  ·cases g
def P7(hr:aK n X.A)(hN:X.N[j]?=some x)(hk:PE X key (eB X.K B fk))(hv:PE X v (eV X.K B fv))(m:M2 X (.Name x M) "setdefault" O key (.List [] P) Q)(Z:cZ X.env.scope x:=by first|exact ac rfl|exact ud (ac rfl)|exact ud (ud rfl))(hd:(x == 'g')=false:=by decide)(hcd:(x == 'c')=false:=by decide)(J:attributeBase (.Call (.Attribute (.Name x M) "setdefault" O) [key,.List [] P] [] Q) "append" X.env (eval (.Call (.Attribute (.Name x M) "setdefault" O) [key,.List [] P] [] Q) X.env)=eval (.Call (.Attribute (.Name x M) "setdefault" O) [key,.List [] P] [] Q) X.env:=by rfl)(hfew:((backTo R (starEach [v] X.env)).all (λx=>!x.1) && (backToKw R (keywordEach [] X.env)).all (λx=>x.1.isSome) && decide ([v].length+([]:List Keyword).length+'e'<30))=true:=by rfl)(L:(p5.endLine == R.line)=true:=by rfl)(hst:W1 X [v] v []:=by rfl)(r:W2 X R []:=by rfl)(hs:swapsWith (.Call (.Attribute (.Call (.Attribute (.Name x M) "setdefault" O) [key,.List [] P] [] Q) "append" p5) [v] [] R) none pos.line X.env=pure false:=by rfl) :
  PS X (.Expr (.Call (.Attribute (.Call (.Attribute (.Name x M) "setdefault" O) [key,.List [] P] [] Q) "append" p5) [v] [] R) pos) (sG X B j (ro fk fv)) :=
 (kG (qz plainAttrs_list PySem.F.slot_list_append PySem.F.type_list_append s9 (Ga (by have:=hr.units;omega) (cR hN Z hd hcd) hk (sQ fL) m) (el hv fL hst) J hfew L hst r) hs).imp λD σ H ⟨Hf,ρ,gd,Hn,ρ',gd',N,c,q⟩=>by
  have⟨kd,hk0,c⟩:=bind_some c;have⟨k,hk1,c⟩:=bind_some c;have⟨d,iW,c⟩:=bind_some c
  split at c
  ·rename_i hc
   cases c;have⟨p,kvs,h,hp,h3,h4,h5⟩:=N.ex
   refine⟨_,h,p,rfl,.inr ⟨kvs,.inl (N.nh _ _ hp)⟩,Hf,ρ,kd,N.vi,hk0,λT H1 y g dy=>⟨ie _,λl hl=>?_⟩⟩;have N1:=N.ext g;obtain⟨b,rfl,hb⟩:=qJ dy hk1;have G:H1 p=some (.dT kvs):=N1.nh _ _ hp;have U:=g.fh _ _ hb;have hkl:kvs.length=gd.length:=by rw[<-aa (f:=fst),h3,aa]
   have i:=AO (k:=k) h3;refine⟨b,kvs,k,rfl,by rw[aI (dP G hl)];exact G,by rw[aI (dP U hl)];exact U,by rw[hkl];exact kW 'o',λw s=>?_,λs=>?_⟩
   ·rw[s]at i
    have e:ky gd k=gd:=by unfold ky;exact ya i.symm
    unfold w6 at q;rw[e]at q;have I:=N1.ext (Ex.made (o:=.lst []) N1.vi.fh hl);obtain⟨ds,hds,l',xs,rfl,E,dx⟩:=AR h5 w (P4 s);refine⟨.inl ⟨rfl,xs,bA.of (I.nh _ _ E)⟩,T,ρ,d,I.vi,iW,λu H2 y a C=>?_⟩;have Y:=I.ext a;refine⟨xs,Y.nh _ _ E,?_,q u σ _ _ (g.ff.trans a.ff) (Y.app h hp s E C)⟩;obtain⟨z,hz,rfl⟩:=ub.mp hds
    have:=kc (lc.mp hc.2 z hz)
    rw[<-dx.length];exact kW 'o'
   ·rw[s]at i
    have e:ky gd k=gd++[(k,[])]:=by unfold ky;rw[ic (by rw[<-i];decide)]
    unfold w6 at q;rw[e]at q;rw[AQ s];have I:=N1.new (k:=k) h hp hl;have hpl:p≠l:=dP G hl;have E:(aF (aF Hn l (.lst [])) p (.dT (kvs++[(k,.ref l)]))) l=some (.lst []):=by rw[aI hpl.symm,aT]
    refine⟨.inl ⟨rfl,[],bA.of (I.nh _ _ E)⟩,T,ρ,d,I.vi,iW,λu H2 y a C=>?_⟩;have Y:=I.ext a;exact⟨[],Y.nh _ _ E,kW 'd',q u σ _ _ (g.ff.trans a.ff) (Y.app h aT (P5 s) E C)⟩
  ·cases c
variable {st:Stmt}
def xm(h:PS X st (sG X B j g)):bv X [st] (sG X B j g):=g9 h
def Gc(u:PS X st (sG X B j g))(v:bv X rest (sG X B j h)):bv X (st::rest) (sG X B j (rp g h)):=(dR u v).imp λD w H ⟨Hf,ρ,gd,Hn,ρ',a,N,b,q⟩=>by
 have⟨z,hz,b⟩:=bind_some b;exact⟨Hf,ρ,gd,Hn,z.1,z.2,N,hz,λc m x e n o=>⟨c,z.1,z.2,e,ρ',a,o,b,λf i p l r s=>q f i p l (n.trans r) s⟩⟩
theorem GS.set(N:GS X B j Hf ρ σ H gd Hn)(a:i≠j)(c:Dn X.K Hf d w):GS X B j Hf (ρ.set i (some (.sh d))) (σ.set i (some w)) H gd Hn:=by
 refine⟨N.vi.set c,by rw[ca a];exact N.nj,N.nh,N.nt,N.fr,pA (i:=i) d ρ _ rfl N.no,?_⟩
 ·have⟨p,kvs,b,r⟩:=N.ex
  exact⟨p,kvs,by rw[ca a];exact b,r⟩
def P8(f:i≠j)(g:X.N.Nodup)(n:X.N[i]?=some y)(o:dQ X.env.scope y)(p:PE X e (eV X.K B fe))(hs:W0 X e (some (.Name y pos')) pos:=by rfl)(r:W3 X y:=by first|exact .inl rfl|exact .inr rfl|assumption):PS X (.Assign [.Name y pos'] e pos) (sG X B j (w9 i fe)):=(iG g n o p hs r).imp λD s H ⟨Hf,ρ,gd,Hn,ρ',h,N,b,q⟩=>by
 have⟨d,iW,b⟩:=pc.mp b;cases b;exact⟨Hf,ρ,d,N.vi,iW,λc l w a m=>q c _ l Hn a.ff ((N.ext a).set f m)⟩
variable {sl:U7}
def xr(hp:PassesOwn (model X.prog X.w) X.A X.env X.xe)(hc:X.calm=true)(hi:PI X tg iter (iV X.K B fi))(hg:PG X tg (gV X.K B sl gt))(hj:j ∉ sl)(Y:∀d ρ ρ1,gt d ρ=some ρ1->ρ1[j]?=ρ[j]?)(Z:∀d ρ ρ1,gt d ρ=some ρ1->(∀(i:Nat) s,ρ[i]?=some (some s)->cz s=false)->∀(i:Nat) s,ρ1[i]?=some (some s)->cz s=false)(hb:bv X body (sG X B j g))(hs:∀x,foldedSetIterable iter X.env x=pure x:=by intro _;rfl):PS X (.For tg iter body [] pos) (sG X B j (lU fi gt g)):=(oF hp hc hi hg hb hs).imp λD σ H ⟨Hf,ρ,gd,Hn,ρ',G,N,o,q⟩=>by
 have⟨ds,e,o⟩:=bind_some o;refine⟨Hf,ρ,ds,N.vi,e,λJ u H1 I ok=>?_⟩;refine⟨λi m σ H=>m=ds.length - i/\i<=ds.length/\∃a f h l,GS X B j a f σ H h l/\aH u a/\jQ gt g (ds.drop i) f h=some (ρ',G),⟨ds.length,'m',ie _,u,ρ,gd,Hn,N.ext I,aH.refl _,o⟩,?_⟩;rintro i m T H2 ⟨rfl,hi,a,f,h,l,Q,n,c⟩;have M:=ok a H2 (n.trans Q.vi.fh) n Q.vi.fh i;by_cases F:i<ds.length
 ·obtain⟨go,U⟩:=M.1 ds[i] (by simp[F])
  refine .inr ⟨go,λv H'=>∃b O P Hn3,GS X B j b O v H' P Hn3/\aH u b/\jQ gt g (ds.drop (i+1)) O P=some (ρ',G),λv H' z=>⟨ds.length - (i+1),'o',rfl,F,z⟩,λx H3 y=>?_⟩;have⟨b,L,dx⟩:=U x H3 y;rw[ke F]at c;unfold jQ at c;have⟨ρ1,C,c⟩:=bind_some c;have⟨z,hz,c⟩:=bind_some c;have E:=Q.ext L;refine⟨b,f,_,ρ1,E.vi,dx,C,λv I' _ hk=>⟨b,ρ1,h,l,z.1,z.2,⟨I',(Y _ _ _ C).trans E.nj,E.nh,E.nt,E.fr,Z _ _ _ C E.no,?_⟩,hz,λHf' σ'' H'' R sm N'=>⟨Hf',z.1,z.2,R,N',(n.trans L.ff).trans sm,c⟩⟩⟩;have⟨p,xs,h1,r⟩:=E.ex;exact⟨p,xs,(hk j hj).trans h1,r⟩
 ·have e:i=ds.length:=by omega
  subst e;rw[ki]at c;unfold jQ at c;cases c;exact .inl ⟨M.2 (dc _),q a T H2 l (I.ff.trans n) Q⟩
def uD(j:Nat)(g:GG):al->aO:=λρ=>match ρ[j]? with
 |some none=>if (ρ.all λs=>match s with|some sl=>!cz sl|none=>true)=true then (match g ρ [] with|some z=>.rt (.dt (z.2.map fst) (z.2.map λx=>.lst x.2))|none=>.bad) else .bad
 |_=>.bad
def P9(J:X.N.Nodup)(O:X.N[j]?=some x)(hx:dQ X.env.scope x)(E:PS X s2 (sG X B j g))(hs:W0 X (.Dict [] [] q1) (some (.Name x q2)) q3:=by rfl)(hf:W3 X x:=by first|exact .inl rfl|exact .inr rfl|assumption)(y:cZ X.env.scope x:=by first|exact ac rfl|exact ud (ac rfl)|exact ud (ud rfl))(hd:(x == 'g')=false:=by decide)(L:(x == 'c')=false:=by decide) :
  bv X [.Assign [.Name x q2] (.Dict [] [] q1) q3,s2,.Return (some (.Name x p2)) pos'] (sV X.K B (uD j g)) :=
 (dR (iG J O hx Ek hs hf) (dR E (g9 (mw (cR O y hd L))))).imp λD M H ⟨Hf,ρ,I,q⟩=>by
  unfold uD at q
  split at q
  ·rename_i A
   split at q
   ·rename_i n
    split at q
    ·rename_i z hz
     intro a C;have F:j<M.length:=by rw[<-I.len];exact(wb.mp A).1
     have I1:VI X.K B Hf ρ (M.set j (some (.ref a))) (aF H a (.dT [])):=(I.setU A).ext (Ex.made I.fh C)
     have G:∀(i:Nat) sl,ρ[i]?=some (some sl)->cz sl=false:=λi sl h=>by
      have:=lc.mp n _ (ee h)
      simpa using this
     refine⟨Hf,ρ,[],aF ey a (.dT []),z.1,z.2,⟨I1,A,wW aT,λb xs h=>?_,λb m=>?_,G,a,[],by rw[ab F],aT,rfl,ui,.nil⟩,hz,λHf' P Q c sm f=>?_⟩
     ·by_cases m:b=a
      ·subst m;rw[aT]at h;cases h
      ·rw[aI m]at h;cases h
     ·rw[wX m];exact⟨I.fh.free C,I.ex.hh.free C⟩
     ·have⟨p,kvs,T,E,U,h4,Y⟩:=f.ex
      have s:=ju f.vi.fh (lT.trans f.nh);have jl:∀b xs,c b=some (.lst xs)->jn Hf' (noF c) b=some (.lst xs):=λb xs e=>s _ _ (qX e)
      refine⟨_,T,q (jn Hf' (noF c)) Q _ ⟨f.vi.ex.ff.trans ew,f.vi.ex.hh,kZ f.vi.fh (lT.trans f.nh),λb m=>?_,λb o u h=>f.vi.ex.nf b o u (qY h)⟩ ?_⟩
      ·rcases k0 m with w|w
       ·exact f.vi.ex.nw b w
       ·exact .inr (.inl (f.fr b (pB w)).2)
      ·refine tD (s _ _ (AJ E)) U ?_
       have:∀{a:List (List L2.D)} {b:U6},Paired (λds v=>∃l xs,v=.ref l/\c l=some (.lst xs)/\aR X.K Hf' ds xs) a b->aR X.K (jn Hf' (noF c)) (a.map L2.D.lst) b:=by
        intro a b R
        induction R with
        |nil=>exact .nil
        |cons r t ih =>
         obtain⟨l,xs,rfl,e2,Z⟩:=r;exact .cons (f7 (bA.of (jl _ _ e2)) (Z.same ew)) ih
       have e:=this Y;rw[md]at e;exact e
    ·exact q.elim
   ·exact q.elim
  ·exact q.elim
end
structure gD(L:Addr->Prop)(H0 H:Hp)(M:Nat):Prop where
 stay:∀b u,H0 b=some u->¬L b->H b=some u
 ls:∀b,L b->∃xs,H b=some (.lst xs)/\xs.length<=M
def Qa(L:Addr->Prop)(H:Hp)(r:V):Prop:=∃a ys,r=.ref a/\H a=some (.tup ys)/\¬L a/\ys.length=3/\∀y∈ys.drop 1,y=.non\/∃q,y=.ref q/\L q
def Ge(t:Addr)(rows:U6)(L:Addr->Prop)(M:Nat)(H:Hp):Prop:=H t=some (.lst rows)/\¬L t/\rows.length<=9000/\M<=9000/\(∀r∈rows,Qa L H r)/\gD L H H M
def AS:Sp:=λvs H Q _=>∃t rows L M,vs=[.ref t]/\Ge t rows L M H/\∀H' a,gD L H H' a->Q .non H'
def Gf(i n:Nat):TS:=λD σ H=>∃t rows L M,σ.length=n/\σ[i]?=some (some (.ref t))/\Ge t rows L M H/\∀a H' b,gD L H H' b->D.nx a H'
section
variable {X:Cx}{pos:Pos}
def gD.mono(h:gD L H0 H M)(hm:M<=M'):gD L H0 H M':=⟨h.stay,λb c=>let ⟨xs,a,z⟩:=h.ls b c;⟨xs,a,re z hm⟩⟩
def gD.app(h:gD L H0 H M)(j:L q)(l:H q=some (.lst xs)):gD L H0 (aF H q (.lst (xs++[v]))) (M+1):=by
 refine⟨λb u e n=>?_,λb g=>?_⟩
 ·have f:b≠q:=λz=>n (by rw[z];exact j)
  rw[aI f];exact h.stay b u e n
 ·by_cases a:b=q
  ·have⟨ys,c,i⟩:=h.ls b g
   subst a;rw[l]at c;cases c;exact⟨_,aT,by rw[rc,yc];omega⟩
  ·have⟨ys,c,i⟩:=h.ls b g
   exact⟨ys,by rw[aI a];exact c,'o'⟩
def gD.new(h:gD L H0 H M)(c:H p=none):gD L H0 (aF H p o) M:=by
 refine⟨λb u e n=>?_,λb f=>?_⟩
 ·have:=h.stay b u e n
  rw[aI (λz=>by rw[z,c]at this;cases this)];exact this
 ·have⟨ys,a,g⟩:=h.ls b f
  exact⟨ys,by rw[aI (λz=>by rw[z,c]at a;cases a)];exact a,g⟩
def gD.notL(h:gD L H0 H M)(a:H p=none):¬L p:=λz=>by
 have⟨xs,e,_⟩:=h.ls p z;rw[a]at e;cases e
def Qb(hij:i≠j)(hil:i≠l)(hjl:j≠l)(hc:X.calm=true)(hp:PassesOwn (model X.prog X.w) X.A X.env X.xe)(Z:X.N.Nodup)(hN:X.N[i]?=some x)(hM:X.N[j]?=some y)(hZ:X.N[l]?=some z)(hy:dQ X.env.scope y)(hz:dQ X.env.scope z)(ha:PE X a (tC v))(h1:PE X c1 (tC (.int 1)))(h0:PE X c0 (tC .non))(hm0:behindInMarks .IsNot c0=false:=by rfl)(hv:cZ X.env.scope x:=by first|exact ac rfl|exact ud (ac rfl)|exact ud (ud rfl))(hd:(x == 'g')=false:=by decide)(hcd:(x == 'c')=false:=by decide)(hv2:cZ X.env.scope y:=by first|exact ac rfl|exact ud (ac rfl)|exact ud (ud rfl))(hd2:(y == 'g')=false:=by decide)(hcd2:(y == 'c')=false:=by decide)(hv3:cZ X.env.scope z:=by first|exact ac rfl|exact ud (ac rfl)|exact ud (ud rfl))(hd3:(z == 'g')=false:=by decide)(o:(z == 'c')=false:=by decide)(hf:W3 X y:=by first|exact .inl rfl|exact .inr rfl|assumption)(hf3:W3 X z:=by first|exact .inl rfl|exact .inr rfl|assumption)(E:attributeBase (.Name z p11) "append" X.env (eval (.Name z p11) X.env)=eval (.Name z p11) X.env:=by rfl)(hfew:((backTo p13 (starEach [a] X.env)).all (λx=>!x.1) && (backToKw p13 (keywordEach [] X.env)).all (λx=>x.1.isSome) && decide ([a].length+([]:List Keyword).length+'e'<30))=true:=by rfl)(G:(p12.endLine == p13.line)=true:=by rfl)(hs:W1 X [a] a []:=by rfl)(h:W2 X p13 []:=by rfl)(hsw:W0 X (.Call (.Attribute (.Name z p11) "append" p12) [a] [] p13) none p14:=by rfl)(hfs:∀u,foldedSetIterable (.Name x p2) X.env u=pure u:=by intro _;rfl)(hfs2:∀u,foldedSetIterable (.Subscript (.Name y p4) (.Slice (some c1) none none p6) p7) X.env u=pure u:=by intro _;rfl) :
  bv X [.For (.Name y p1) (.Name x p2) [.For (.Name z p3) (.Subscript (.Name y p4) (.Slice (some c1) none none p6) p7) [.If (.Compare (.Name z p8) [.IsNot] [c0] Hh) [.Expr (.Call (.Attribute (.Name z p11) "append" p12) [a] [] p13) p14] [] p15] [] p16] [] pos] (Gf i X.N.length) :=
 (g9 (oF hp hc (zW (cR hN hv hd hcd)) (lH Z hM hy hf) (g9 (oF hp hc (M3 (DC MS (cR hM hv2 hd2 hcd2) (LM h1) DB)) (lH Z hZ hz hf3)
  (g9 (sJ (Dj K8 (cR hZ hv3 hd3 o) h0 hm0) (g9 (kG (qz plainAttrs_list PySem.F.slot_list_append PySem.F.type_list_append s9 (cR hZ hv3 hd3 o) (el ha fL hs) E hfew G hs h) hsw)) vC)) hfs2)) hfs)).imp λD σ H ⟨t,rows,L,M,I,hσ,⟨ht,htL,hrl,hM9,hrs,hS⟩,q⟩=>by
  have hjN:j<X.N.length:=(wb.mp hM).1;have hlN:l<X.N.length:=(wb.mp hZ).1;refine⟨.ref t,hσ,⟨rows,bA.of ht⟩,λn J b c=>J=rows.length - n/\n<=rows.length/\b.length=X.N.length/\gD L H c (M+2 * n),⟨rows.length,'m',ie _,I,hS⟩,?_⟩;rintro n J σ2 H2 ⟨rfl,hn,hl2,S⟩;have B:bA X.K H2 t rows:=bA.of (S.stay _ _ ht htL);by_cases g:n<rows.length
  ·refine .inr ⟨⟨_,rows[n],B,by rw[vc g]⟩,λb c=>b.length=X.N.length/\gD L H c (M+2 * (n+1)),λb c P'=>⟨rows.length - (n+1),'o',rfl,g,P'⟩,λu H3 ⟨e3,yz⟩=>?_⟩
   subst e3;have Q:=yz _ B;rw[vc g]at Q
   cases Q
   have⟨a',ys,hra,hta,haL,P,hys⟩:=hrs _ (rf g);rw[hra];have R:H3 a'=some (.tup ys):=S.stay _ _ hta haL;refine⟨.ref a',by rw[ab 'o'],1,rfl,ys,cT.of R,λhw=>?_,λp O=>?_⟩
   ·have:=hw.1
    rw[P]at this;exact absurd this 'd'
   ·have T:iJ ys (some 1) none=ys.drop 1:=by
     unfold iJ;rw[P];have e1:HT.sIx 3 0 (some 1)=1:=by decide
     have e2:HT.sIx 3 3 none=3:=by decide
     rw[e1,e2,zf (by rw[mh];omega)]
    rw[T];have hd2':(ys.drop 1).length=2:=by rw[mh];omega
    have hpL:=S.notL O;refine⟨⟨_,cT.of aT⟩,λm J b c=>J=2 - m/\m<=2/\b.length=X.N.length/\c p=some (.tup (ys.drop 1))/\gD L H c (M+2 * n+m),⟨2,rfl,ie _,by rw[sf];exact hl2,aT,S.new O⟩,?_⟩;rintro m J σ4 H4 ⟨rfl,hm2,r,f,S4⟩;by_cases Y:m<2
    ·have C:m<(ys.drop 1).length:=by omega
     refine .inr ⟨⟨_,(ys.drop 1)[m],cT.of f,by rw[vc C]⟩,λb c=>b.length=X.N.length/\c p=some (.tup (ys.drop 1))/\gD L H c (M+2 * n+(m+1)),λb c P'=>⟨2 - (m+1),'o',rfl,Y,P'⟩,λu H5 ⟨e5,yz5⟩=>?_⟩;subst e5;have U:=yz5 _ (cT.of f);rw[vc C]at U;cases U;refine⟨_,by rw[ab 'o'],rfl,_,rfl,?_⟩;rcases hys _ (rf C) with e|⟨q',e,s⟩
     ·rw[e]
      exact⟨by rw[sf];exact r,f,S4.mono 'o'⟩
     ·rw[e]
      have⟨ws,w1,w2⟩:=S4.ls q' s;refine⟨.ref q',by rw[ab 'o'],.inl ⟨rfl,ws,bA.of w1⟩,ws,w1,?_,by rw[sf];exact r,?_,?_⟩
      ·exact jp w2 (vd (show M+2 * n+m<100000 by omega) (sz (dc _)))
      ·rw[aI (λz=>hpL (by rw[z];exact s))];exact f
      ·exact(S4.app s w1).mono 'o'
    ·have e:m=2:=by omega
     subst e;refine .inl ⟨⟨_,cT.of f,'o'⟩,r,S4.mono 'o'⟩
  ·have e:n=rows.length:=by omega
   subst e;exact .inl ⟨⟨_,B,dc _⟩,q _ _ _ S⟩
end
section
variable {K:Fg1}
def Qc{st:Stmt}{N ps:U8}(j:ps.length=1)(u:1<=N.length)(F:d8 K x b st f l)(S:ax N ps (bj st))(g:∀(c:Value) (A:Around) (a:Yb) (s:Shared) (H:Hp) (E:XK),aK k (A.deeper (envOfC b (bj st) s.heap.objs.size f c))->bv (gJ aZ P w K mg base N b (bj st) f c A a s H E).nox (fq st) (Gf 0 N.length)):aG P w K mg base aZ (k+1) f l ps AS:=by
 refine F.ok S (λvs H Q E h=>?_) (λc A a s H vs Q E m h=>?_)
 ·obtain⟨t,e,L,M,rfl,_⟩:=h
  rw[j];rfl
 ·obtain⟨t,e,L,M,rfl,i,q⟩:=h
  refine⟨_,g c A a s H E m,t,e,L,M,?_,rfl,i,λn o p r=>q o p r⟩;unfold hG;rw[rc,aa,ah,yc];omega
end
theorem xt(p:Paired F ds xs):∀x∈xs,∃d∈ds,F d x:=by
 induction p with
 |nil=>intro x hx;cases hx
 |@cons a b l1 l2 pa pb ih =>
  intro x hx;rcases wc.mp hx with rfl|hx
  ·exact⟨a,cc,pa⟩
  ·have⟨d,hd,h⟩:=ih x hx
   exact⟨d,ua _ hd,h⟩
def VI.offM{K:Fg1}{B:Bs}{Hf H H':Hp}{L:Addr->Prop}(I:VI K B Hf ρ j H)(stay:∀b u,H b=some u->¬L b->H' b=some u)(no:∀(i:Nat) sl p,ρ[i]?=some (some sl)->cz sl=true->j[i]?=some (some (.ref p))->¬L p)(l:∀b,L b->Hf b=none/\B.h b=none):VI K B Hf ρ j H':=by
 refine⟨⟨I.ex.ff,λb u h=>stay b u (I.ex.hh b u h) λz=>?_,λb u h=>stay b u (I.fh b u h) λz=>?_,I.ex.nw,I.ex.nf⟩,I.len,λi sl h=>?_,I.own,I.dis⟩
 ·rw[(l b z).2]at h;cases h
 ·rw[(l b z).1]at h;cases h
 ·have⟨v,f,k2⟩:=I.ok i sl h
  refine⟨v,f,?_⟩
  cases sl with
  |sh d'=>exact k2
  |ow ds=>obtain⟨p,xs,rfl,a,c,e⟩:=k2;exact⟨p,xs,rfl,a,stay _ _ c (no i _ p h rfl f),e⟩
  |dk ks ds=>obtain⟨p,xs,rfl,a,c,g,e⟩:=k2;exact⟨p,xs,rfl,a,stay _ _ c (no i _ p h rfl f),g,e⟩
  |dt ks ds=>obtain⟨p,xs,rfl,a,c,g,e⟩:=k2;exact⟨p,xs,rfl,a,stay _ _ c (no i _ p h rfl f),g,e⟩
  |ob p0 ks ds=>obtain⟨p,xs,rfl,a,c,g,e⟩:=k2;exact⟨p,xs,rfl,a,stay _ _ c (no i _ p h rfl f),g,e⟩
noncomputable def pH:D->Bool
 |.sc .non=>true
 |.lst es=>decide (es.length<=9000) && es.all λe=>match e with|.tup (.sc _::_)=>true|_=>false
 |_=>false
def xu:D->Bool
 |.tup [.tup _,e,f]=>pH e && pH f
 |_=>false
def xw:D->Bool
 |.lst ds=>decide (ds.length<=9000) && ds.all xu
 |_=>false
def rz(g:al->aO):GP:=λd ρ=>if xw d=true then g ρ else .bad
def Gg{K:Fg1}(he:pH e=true)(hd:dD K Hn Hf k e y)(ht:Hn t=some (.lst xs))(hx:∃r∈xs,∃a z zs,r=.ref a/\(Hn a=some (.tup (.ref z::zs))\/Hf a=some (.tup (.ref z::zs))))(hdis:∀b u v,Hn b=some u->Hf b=some v->u=v) :
  y=.non\/∃q,y=.ref q/\(q≠t/\∃zs,Hn q=some (.lst zs)/\zs.length<=9000):=by
 unfold pH at he
 split at he
 ·left
  cases k <;> exact hd.2
 ·rename_i es
  rw[uc]at he
  cases k with
  |zero=>exact hd.elim
  |succ k =>
   obtain⟨q,zs,rfl,hq,hp⟩:=hd;refine .inr ⟨q,rfl,λz=>?_,zs,hq,by rw[<-hp.length];exact kc he.1⟩;subst z;rw[ht]at hq;cases hq;obtain⟨r,hr,a,z,ws,rfl,ha⟩:=hx;have⟨d,hdm,hdr⟩:=xt hp _ hr;have fV:=lc.mp he.2 d hdm
   split at fV
   ·rename_i s es'
    cases k with
    |zero=>exact hdr.elim
    |succ k =>
     obtain⟨a2,xs2,e2',h2,p2⟩:=hdr
     cases e2'
     cases p2 with
     |@cons _ b _ l2 pa pb =>
      have hfl:dL b=true:=by cases k <;> (obtain⟨f,e⟩:=pa;rw[e];exact f)
      have:b=.ref z:=by
       rcases ha with ha|ha <;> rcases h2 with h2|h2
       ·rw[ha]at h2;cases h2;rfl
       ·have:=hdis _ _ _ ha h2;cases this;rfl
       ·have:=hdis _ _ _ h2 ha;cases this;rfl
       ·rw[ha]at h2;cases h2;rfl
      rw[this]at hfl;cases hfl
   ·cases fV
 ·cases he
section
variable {X:Cx}
def Qd(G:aG X.prog X.w X.K X.mg X.base aZ k f fd ps AS)(hr:aK k X.A)(hg:Gl X fx)(hm:X.mg fx=some (.ref f))(hk:keepIn X.K (.ref f)=true)(hb:cB X.K fd ps [])(hN:X.N[i]?=some x)(hrest:bv X rest (sV X.K B g))(hv:cZ X.env.scope x:=by first|exact ac rfl|exact ud (ac rfl)|exact ud (ud rfl))(hd:(x == 'g')=false:=by decide)(hcd:(x == 'c')=false:=by decide)(hdb:(fx == 'g')=false:=by decide)(he:W1 X [.Name x p2] (.Name x p2) []:=by rfl)(hpl:W2 X p3 []:=by rfl)(hsw:W0 X (.Call (.Name fx p1) [.Name x p2] [] p3) none p4:=by rfl) :
  bv X (.Expr (.Call (.Name fx p1) [.Name x p2] [] p3) p4::rest) (sP X.K B i (rz g)) :=
 (dR (kG (kI G hr hg hm hk hb .nil iM (el (cR hN hv hd hcd) fL he) hdb he hpl) hsw) hrest).imp λD σ H ⟨d,Hf,ρ,Hn,I,q⟩=>by
  unfold rz at q
  split at q
  ·rename_i hB
   cases d with
   |lst ds =>
    have⟨kk,xv,h1,h2⟩:=I.ex
    cases kk with
    |zero=>exact h2.elim
    |succ kk =>
     obtain⟨t,xs,rfl,ht,hps⟩:=h2;have hB:(decide (ds.length<=9000) && ds.all xu)=true:=hB;rw[uc]at hB;have hdl:=kc hB.1
     have hdis:∀b u v,Hn b=some u->Hf b=some v->u=v:=λb u v e1 e2=>by
      have:=I.nh b u e1
      rw[I.vi.fh b v e2]at this;cases this;rfl
     refine⟨.ref t,h1,t,xs,λb=>b≠t/\∃zs,Hn b=some (.lst zs)/\zs.length<=9000,9000,rfl,⟨I.nh _ _ ht,λz=>z.1 rfl,by rw[<-hps.length];exact hdl,dc _,λr hrm=>?_,λb u e _=>e,λb ⟨_,zs,e,l⟩=>⟨zs,I.nh _ _ e,l⟩⟩,λH' M' S'=>?_⟩
     ·have⟨d,hdm,hdr⟩:=xt hps r hrm
      have hR:=lc.mp hB.2 d hdm;unfold xu at hR
      split at hR
      ·rename_i pp e f'
       rw[uc]at hR
       cases kk with
       |zero=>exact hdr.elim
       |succ kk =>
        obtain⟨a,ys,rfl,ha,hpy⟩:=hdr
        have hHa:H a=some (.tup ys):=by
         rcases ha with ha|ha
         ·exact I.nh _ _ ha
         ·exact I.vi.fh _ _ ha
        cases hpy with
        |@cons _ y0 _ l0 q0 r0 =>
         cases r0 with
         |@cons _ y1 _ l1 q1 r1 =>
           cases r1 with
           |@cons _ y2 _ l2 q2 r2 =>
             cases r2
             have hz:∃z,y0=.ref z:=by
               cases kk with
               |zero=>exact q0.elim
               |succ kk=>obtain⟨z,_,e,_⟩:=q0;exact⟨z,e⟩
             obtain⟨z,rfl⟩:=hz;have hx:∃r∈xs,∃a z zs,r=.ref a/\(Hn a=some (.tup (.ref z::zs))\/Hf a=some (.tup (.ref z::zs))):=⟨_,hrm,a,z,_,rfl,ha⟩
             refine⟨a,_,rfl,hHa,λzz=>?_,rfl,λy hy=>?_⟩
             · obtain⟨_,zs,e,_⟩:=zz
               have:=I.nh _ _ e
               rw[hHa]at this;cases this
             · have hy:y∈[y1,y2]:=hy
               rcases wc.mp hy with rfl|hy
               · exact Gg hR.1 q1 ht hx hdis
               · rw[wd.mp hy]
                 exact Gg hR.2 q2 ht hx hdis
      ·cases hR
     ·exact⟨Hf,ρ,I.vi.offM S'.stay (λ j sl p e1 e2 e3 ⟨_,zs,e4,_⟩=>by
       have:=I.ow j sl p e1 e2 e3
       rw[e4]at this;cases this) (λb ⟨_,zs,e,_⟩=>I.fr b (by rw[e];exact λz=>nomatch z)),q⟩
   |_=>cases hB
  ·exact q.elim
end
section
variable {X:Cx}{B:Bs}{gd:GD}
def GS.add(I:GS X B j Hf ρ σ H gd Hn)(n:σ[j]?=some (some (.ref p)))(q:Hn p=some (.dT kvs))(hl:H l=some (.lst xs))(M:Hf l=none)(N:B.h l=none)(g:Hn l=none)(O:aR X.K Hf ds xs) :
  GS X B j Hf ρ σ (aF H p (.dT (kvs++[(k,.ref l)]))) (gd++[(k,ds)]) (aF (aF Hn l (.lst xs)) p (.dT (kvs++[(k,.ref l)]))):=by
 have hn:Hn p≠none:=by rw[q];exact λz=>nomatch z
 have r:p≠l:=λz=>by rw[z,g]at q;cases q
 refine⟨I.vi.offH (λi sl h o z=>by have:=I.no i sl h;rw[o]at this;cases this) (I.fr p hn).1 (I.fr p hn).2,I.nj,λb u z=>?_,λb ys z=>?_,λb f=>?_,I.no,?_⟩
 ·by_cases a:b=p
  ·subst a;rw[aT]at z ⊢;exact z
  ·rw[aI a]at z ⊢
   by_cases c:b=l
   ·subst c;rw[aT]at z;rw[hl];exact z
   ·rw[aI c]at z;exact I.nh b u z
 ·by_cases a:b=p
  ·subst a;rw[aT]at z;cases z
  ·rw[aI a]at z
   by_cases c:b=l
   ·subst c;rw[aT]at z;cases z
   ·rw[aI c]at z;exact I.nt b ys z
 ·by_cases a:b=p
  ·rw[a];exact I.fr p hn
  ·rw[aI a]at f
   by_cases c:b=l
   ·rw[c];exact⟨M,N⟩
   ·rw[aI c]at f;exact I.fr b f
 ·have⟨P,y,A,C,G,J,E⟩:=I.ex
  rw[n]at A;cases A;rw[q]at C;cases C;refine⟨p,_,n,aT,by rw[jd,jd,G];rfl,?_,?_⟩
  ·rw[jd,og]
   refine⟨J,'m',λv F w s e=>?_⟩;have⟨d',L,x,m,e1,e2,_⟩:=AR E v F;simp at s;rw[e,s]at e1;cases e1;rw[g]at e2;cases e2
  ·rw[jd,jd]
   refine(E.zmap λds v ⟨x,m,a1,a2,a3⟩=>⟨x,m,a1,?_,a3⟩).zsnoc ⟨l,xs,rfl,by rw[aI r.symm,aT],O⟩;rw[aI (λw=>by rw[w,q]at a2;cases a2),aI (λw=>by rw[w,g]at a2;cases a2)];exact a2
end
def pI(fk:al->U5)(fv:al->U0):GG:=λρ gd=>(fv ρ).bind λds=>(fk ρ).bind λa=>(jI a).bind λk=>if (aP gd k).isSome=false/\gd.length<100000 then some (ρ,gd++[(k,ds)]) else none
section
variable {X:Cx}{pos:Pos}
def Gh(hr:aK n X.A)(hN:X.N[j]?=some x)(hk:PE X key (eB X.K B fk))(hv:PE X v (eW X.K B fv))(s:cZ X.env.scope x:=by first|exact ac rfl|exact ud (ac rfl)|exact ud (ud rfl))(hd:(x == 'g')=false:=by decide)(R:(x == 'c')=false:=by decide)(hs:W0 X v (some (.Subscript (.Name x p1) key pos')) pos:=by rfl):PS X (.Assign [.Subscript (.Name x p1) key pos'] v pos) (sG X B j (pI fk fv)) :=
 (Ej (by have:=hr.units;omega) (cR hN s hd R) hk hv hs).imp λD Z H ⟨Hf,ρ,gd,Hn,ρ',gd',N,c,q⟩=>by
  have⟨ds,F,c⟩:=bind_some c;have⟨kd,G,c⟩:=bind_some c;have⟨k,I,c⟩:=bind_some c
  split at c
  ·rename_i hc
   cases c;have⟨p,kvs,r,T,U,h4,h5⟩:=N.ex
   refine⟨Hf,ρ,ds,N.vi,F,λu H1 l xs g i C m dx=>⟨_,r,u,ρ,kd,N.vi.ext g,G,λo E y a dy=>?_⟩⟩;have Y:=(N.ext g).ext a;obtain⟨b,rfl,hb⟩:=qJ dy I;have J:=a.fh _ _ hb;have L:E p=some (.dT kvs):=Y.nh _ _ T;have M:E l=some (.lst xs):=a.hh _ _ m;have O:o l=none:=kx a C m (λ_ z=>nomatch z);have P:Hn l=none:=N.nh.free i;have Q:kvs.length=gd.length:=by rw[<-aa (f:=fst),U,aa]
   have h:=AO (k:=k) U
   have hw:cU kvs k=none:=by
    cases e:cU kvs k with
    |none=>rfl
    |some w=>rw[e]at h;rw[hc.1]at h;cases h
   refine⟨p,aF E p (.dT (kvs++[(k,.ref l)])),rfl,?_,q o Z _ _ (g.ff.trans a.ff) (Y.add r T M O (N.vi.ex.hh.free i) P (dx.same a.ff))⟩;rw[<-AQ hw];exact mD.t L J (by rw[Q];exact kW 'o')
  ·cases c
end
def rA(K:Fg1)(Hn Hf:Hp)(gd:GD)(kvs:List (List aQ×V)):Prop:=kvs.map fst=gd.map fst/\Paired (λds v=>∃l xs,v=.ref l/\Hn l=some (.lst xs)/\aR K Hf ds xs) (gd.map snd) (kvs.map snd)
def nU(K:Fg1)(np:Nat)(F:U4->Option GD):Sp:=λvs H Q _=>∃Hf ds gd,aH Hf H/\aR K Hf ds vs/\ds.length=np/\F ds=some gd/\∀Hf' H' Hn p kvs,Ex Hf H Hf' H'->aH Hn H'->(∀b,Hn b≠none->Hf' b=none/\H b=none)->(∀b xs,Hn b≠some (.tup xs))->Hn p=some (.dT kvs)->rA K Hn Hf' gd kvs->Q (.ref p) H'
def Gi(X:Cx)(B:Bs)(j:Nat)(g:GG):TS:=λD σ H=>∃Hf ρ z,VI X.K B Hf ρ σ H/\ρ[j]?=some none/\(ρ.all λs=>match s with|some sl=>!cz sl|none=>true)=true/\g ρ []=some z/\∀Hf' H' Hn p kvs,Ex B.f B.h Hf' H'->aH Hn H'->(∀b,Hn b≠none->Hf' b=none/\B.h b=none)->(∀b xs,Hn b≠some (.tup xs))->Hn p=some (.dT kvs)->rA X.K Hn Hf' z.2 kvs->D.rt (.ref p) H'
section
variable {X:Cx}
def Gj(v:X.N.Nodup)(A:X.N[j]?=some x)(M:dQ X.env.scope x)(r:PS X s2 (sG X B j g))(hs:W0 X (.Dict [] [] q1) (some (.Name x q2)) q3:=by rfl)(O:W3 X x:=by first|exact .inl rfl|exact .inr rfl|assumption)(f:cZ X.env.scope x:=by first|exact ac rfl|exact ud (ac rfl)|exact ud (ud rfl))(P:(x == 'g')=false:=by decide)(w:(x == 'c')=false:=by decide) :
  bv X [.Assign [.Name x q2] (.Dict [] [] q1) q3,s2,.Return (some (.Name x p2)) pos'] (Gi X B j g) :=
 (dR (iG v A M Ek hs O) (dR r (g9 (mw (cR A f P w))))).imp λD y H ⟨Hf,ρ,z,I,m,c,hz,q⟩=>by
  intro a o;have s:j<y.length:=by rw[<-I.len];exact(wb.mp m).1
  have L:VI X.K B Hf ρ (y.set j (some (.ref a))) (aF H a (.dT [])):=(I.setU m).ext (Ex.made I.fh o)
  have u:∀(i:Nat) sl,ρ[i]?=some (some sl)->cz sl=false:=λi sl h=>by
   have:=lc.mp c _ (ee h)
   simpa using this
  refine⟨Hf,ρ,[],aF ey a (.dT []),z.1,z.2,⟨L,m,wW aT,λb xs h=>?_,λb l=>?_,u,a,[],by rw[ab s],aT,rfl,ui,.nil⟩,hz,λHf' C E n Q e=>?_⟩
  ·by_cases l:b=a
   ·subst l;rw[aT]at h;cases h
   ·rw[aI l]at h;cases h
  ·rw[wX l];exact⟨I.fh.free o,I.ex.hh.free o⟩
  ·have⟨p,kvs,F,r,G,R,J⟩:=e.ex
   exact⟨_,F,q Hf' E n p kvs e.vi.ex e.nh e.fr e.nt r ⟨G,J⟩⟩
end
noncomputable def AT:Option Y1->Bool|some none=>true|_=>false
def Qe(h:AT o=true):o=some none:=by unfold AT at h;split at h;rfl;cases h
def nV(np n:Nat)(j:Nat)(g:GG)(ds:U4):Option GD:=if ds.length=np/\AT (bY n ds)[j]?=true/\((bY n ds).all λs=>match s with|some sl=>!cz sl|none=>true)=true then (g (bY n ds) []).map snd else none
section
variable {K:Fg1}
def Gk{st:Stmt}{N ps:U8}(O:y=nV o nN j g)(m:ps.length=o)(R:N.length=nN)(F:d8 K x b st f v)(S:ax N ps (bj st))(l:∀(c:Value) (A:Around) (a:Yb) (s:Shared) (H:Hp) (E:XK) (B:Bs),aK k (A.deeper (envOfC b (bj st) s.heap.objs.size f c))->bv (gJ aZ P w K mg base N b (bj st) f c A a s H E).nox (fq st) (Gi (gJ aZ P w K mg base N b (bj st) f c A a s H E).nox B j g)):aG P w K mg base aZ (k+1) f v ps (nU K o y):=by
 subst O m R;refine F.ok S (λvs H Q E h=>?_) (λc A a s H vs Q E C h=>?_)
 ·obtain⟨Hf,ds,d,_,n,u,_⟩:=h
  rw[<-u,n.length]
 ·obtain⟨Hf,ds,gd,hs,n,u,i,q⟩:=h
  unfold nV at i
  split at i
  ·rename_i r
   cases e:g (bY N.length ds) [] with
   |none=>rw[e]at i;cases i
   |some z =>
    rw[e]at i;cases i;exact⟨_,l c A a s H E ⟨Hf,H⟩ C,Hf,bY N.length ds,z,VI.init hs n,Qe r.2.1,r.2.2,e,λHf' G Hn p kvs I J L M m gp=>q Hf' G Hn p kvs I J L M m gp⟩
  ·cases i
end
section
variable {K:Fg1}
theorem AU:∀{n k:Nat}{d:D}{x:V},cH n d=true->eE K Hf k d x->eE K (bQ Hf) k d x:=by
 intro n
 induction n with
 |zero =>
  intro k d x h z
  cases d with
  |sc v=>cases k <;> exact z
  |_=>cases h
 |succ n b =>
  intro k d x h z
  cases d with
  |sc v=>cases k <;> exact z
  |tup ds =>
   cases k with
   |zero=>exact z.elim
   |succ k =>
    obtain⟨a,xs,e,q,p⟩:=z;exact⟨a,xs,e,pF q,pC (F:=eE K Hf k) (G:=eE K (bQ Hf) k) (p:=cH n) (λd x h z=>b h z) h p⟩
  |_=>cases h
def xy(h:ds.all (cH 3)=true)(p:aR K Hf ds xs):aR K (bQ Hf) ds xs :=
 pC (F:=Dn K Hf) (G:=Dn K (bQ Hf)) (p:=cH 3) (λd x h ⟨k,z⟩=>⟨k,AU h z⟩) h p
noncomputable def gZ:Nat->D->Bool
 |0,d=>match d with|.sc _=>true|_=>false
 |n+1,d=>match d with|.sc _=>true|.tup ds=>ds.all (gZ n)|.lst ds=>ds.all (gZ n)|_=>false
def xz(K:Fg1):Prop:=∀a o,K.lookup a=some o->o.cls≠.type "list"
theorem Qf(f:xz K)(hl:∀b xs,Hf b=some (.lst xs)->Hn b=some (.lst xs))(g:∀b xs,Hf b=some (.tup xs)->Hg b=some (.tup xs))(hz:∀b o u,Hf b≠some (.frz o u)):∀{n k:Nat}{d:D}{x:V},gZ n d=true->eE K Hf k d x->dD K Hn Hg k d x:=by
 intro n
 induction n with
 |zero =>
  intro k d x h z
  cases d with
  |sc v=>cases k <;> exact z
  |_=>cases h
 |succ n c =>
  intro k d x h z
  cases d with
  |sc v=>cases k <;> exact z
  |tup ds =>
   cases k with
   |zero=>exact z.elim
   |succ k =>
    obtain⟨a,xs,e,q,p⟩:=z;exact⟨a,xs,e,.inr (g _ _ q),pC (F:=eE K Hf k) (G:=dD K Hn Hg k) (p:=gZ n) (λd x h z=>c h z) h p⟩
  |lst ds =>
   cases k with
   |zero=>exact z.elim
   |succ k =>
    obtain⟨a,xs,e,q,p⟩:=z;refine⟨a,xs,e,?_,pC (F:=eE K Hf k) (G:=dD K Hn Hg k) (p:=gZ n) (λd x h z=>c h z) h p⟩;rcases q with(q|⟨o,q⟩)|⟨o,its,m,h1,h2,_⟩
    ·exact hl _ _ q
    ·exact absurd q (hz _ _ _)
    ·exact absurd h2 (f _ _ h1)
  |_=>cases h
end
def k7(gd:GD):D:=.dt (gd.map fst) (gd.map λx=>.lst x.2)
def mV(gd:GD):Bool:=gd.all λx=>x.2.all (cH 3)
def Gm{K:Fg1}{gd:GD}(hn:mV gd=true)(j:Hn p=some (.dT kvs))(h:rA K Hn Hf gd kvs)(f:aH Hn U)(m:aH (bQ Hf) U):Dn K U (k7 gd) (.ref p):=by
 refine tD (f _ _ j) h.1 ?_
 have:∀{a:List U4} {b:U6},(a.all λx=>x.all (cH 3))=true->Paired (λds v=>∃l xs,v=.ref l/\Hn l=some (.lst xs)/\aR K Hf ds xs) a b->aR K U (a.map D.lst) b:=by
  intro a b c g
  induction g with
  |nil=>exact .nil
  |cons r t n =>
   rw[gf,uc]at c;obtain⟨l,xs,rfl,e2,i⟩:=r;exact .cons (f7 (bA.of (f _ _ e2)) ((xy c.1 i).same m)) (n c.2)
 have e:=this (by rw[aw];exact hn) h.2;rw[md]at e;exact e
def xA(n ia ib:Nat)(a b:D):al:=((replicate n none).set ia (some (.sh a))).set ib (some (.sh b))
def Qg(h:(xA n ia ib a b)[j]?=some (some sl)):(j=ib/\sl=.sh b)\/(j=ia/\j≠ib/\sl=.sh a):=by
 unfold xA at h;by_cases e:ib=j
 ·subst e
  rw[uj]at h
  split at h
  ·split at h
   ·cases h;exact .inl ⟨rfl,rfl⟩
   ·cases h
  ·rename_i c;exact absurd rfl c
 ·rw[ca e]at h
  by_cases f:ia=j
  ·subst f
   rw[uj]at h
   split at h
   ·split at h
    ·cases h;exact .inr ⟨rfl,λz=>e z.symm,rfl⟩
    ·cases h
   ·rename_i c;exact absurd rfl c
  ·rw[ca f,cg]at h
   split at h <;> cases h
def Gn{K:Fg1}{f H e:Hp}{a:Addr}{gd:GD}(s:aH f g)(i:∀b,f b≠none->e b=none/\H b=none)(j:∀b xs,f b≠some (.tup xs))(m:f a=some (.dT kvs))(gp:rA K f e gd kvs) :
  ∃Hn,aH Hn g/\(∀b,Hn b≠none->e b=none/\H b=none)/\(∀b xs,Hn b≠some (.tup xs))/\Hn a=some (.dT kvs)/\rA K Hn e gd kvs/\∀b o u,Hn b≠some (.frz o u) :=
 ⟨noF f,lT.trans s,λ b h=>i b (pB h),λ b xs h=>j b xs (lT _ _ h),AJ m,⟨gp.1,gp.2.zmap λ _ _ ⟨l,xs,a,b,c⟩=>⟨l,xs,a,qX b,c⟩⟩,λ b o u h=>by
  unfold noF at h
  split at h
  ·cases h
  ·rename_i n;exact absurd h (n o u)⟩
def rB(C:Hp):Hp:=λb=>match C b with|some (.tup _)=>none|x=>x
def Go(h:rB C b=some u):C b=some u/\∀xs,u≠.tup xs:=by
 unfold rB at h
 split at h
 ·cases h
 ·rename_i n;exact⟨h,λxs z=>n xs (by rw[h,z])⟩
def Qh(h:C b=some (.lst xs)):rB C b=some (.lst xs):=by unfold rB;rw[h]
def Qi(h:C b=some u)(n:∀xs,u≠.tup xs):bQ C b=none:=by
 unfold bQ;split
 ·rename_i xs z;rw[h]at z;cases z;exact absurd rfl (n xs)
 ·rfl
def AV(K:Fg1):R2:=λx y H Q=>(x=.non/\y=.non/\Q (.bl false) H)\/(x=.non/\(∃a xs,y=.ref a/\bA K H a xs)/\Q (.bl true) H)\/(y=.non/\(∃a xs,x=.ref a/\bA K H a xs)/\Q (.bl true) H)
def pJ(d e:D):U5:=match d,e with
 |.sc .non,.sc .non=>some (.bl false)
 |.sc .non,.lst _=>some (.bl true)
 |.lst _,.sc .non=>some (.bl true)
 |.lst ds,.lst es=>bX (.lst ds) (.lst es)
 |_,_=>none
section
variable {X:Cx}
def Qj(j:X.A.units<cLine):bx X (compareOp .NotEq) (AV X.K):=by
 intro i s m H x y v u Q I b c h;rcases h with⟨rfl,rfl,q⟩|⟨rfl,⟨a,xs,rfl,g⟩,q⟩|⟨rfl,⟨a,xs,rfl,g⟩,q⟩
 ·cases b;cases c
  exact PySem.SeqAt.RcNeAt.none_none X.prog X.w X.xe _ ⟨.bl _,H,I,rfl,q⟩
 ·cases b;cases c
  have⟨e,l,f,_⟩:=I.list g;exact PySem.SeqAt.RcNeAt.none_list f.isList j X.prog X.w X.xe _ ⟨.bl _,H,I,rfl,q⟩
 ·cases b;cases c
  have⟨e,l,f,_⟩:=I.list g;exact PySem.SeqAt.RcNeAt.list_none f.isList j X.prog X.w X.xe _ ⟨.bl _,H,I,rfl,q⟩
def Gp(a:aK n X.A):bx X (compareOp .NotEq) (λx y H Q=>(jF true x y H Q\/sW X.K 8 x y H Q)\/AV X.K x y H Q):=(jY a).or (Qj (by have:=a.units;omega))
end
def Gq{K:Fg1}:P2 K (λx y H Q=>(jF true x y H Q\/sW K 8 x y H Q)\/AV K x y H Q) pJ:=by
 intro Hf H x y d e z Q s b c hz q;unfold pJ at hz
 split at hz
 ·cases hz
  exact .inr (.inl ⟨b.sc.2,c.sc.2,q Hf H _ (.refl s) (b7 rfl)⟩)
 ·cases hz
  obtain⟨a,xs,rfl,f,_⟩:=c.lst s;exact .inr (.inr (.inl ⟨b.sc.2,⟨a,xs,rfl,f⟩,q Hf H _ (.refl s) (b7 rfl)⟩))
 ·cases hz
  obtain⟨a,xs,rfl,f,_⟩:=b.lst s;exact .inr (.inr (.inr ⟨c.sc.2,⟨a,xs,rfl,f⟩,q Hf H _ (.refl s) (b7 rfl)⟩))
 ·exact .inl (jZ Hf H x y _ _ z Q s b c hz q)
 ·cases hz
noncomputable def AW(K:U1):Bool:=K.all λx=>match x.2.cls with|.type n=>!(n == "list")|_=>true
theorem Gr:∀{K:U1},AW K=true->xz K
 |[],_,a,o,e,_=>by cases e
 |(b,x)::r,h,a,o,e,z=>by
  have h:((match x.cls with|.type n=>!(n == "list")|_=>true) && AW r)=true:=h;rw[uc]at h;rw[xf]at e
  split at e
  ·cases e
   rw[z]at h;exact absurd h.1 'd'
  ·exact Gr h.2 a o e z
noncomputable def Qk:HO->Bool
 |.tup _=>false
 |.tbl _=>false
 |.own _=>false
 |_=>true
section
variable {X:Cx}{pins:U1}{σ:St}{H:Hp}{s:Shared}{a:Addr}
def az.swap(I:az X pins σ H s)(h:H a=some u)(i:Qk u=true)(B:∀o w,X.H₀ a≠some (.frz o w))(new:cF X.prog X.w H s.heap a v):az X pins σ (aF H a v) s:=by
 have g:∀b,H b=none->b≠a:=λb e z=>by rw[z,h]at e;cases e
 have tup:∀c xs,H c=some (.tup xs)->aF H a v c=some (.tup xs):=λc xs q=>by
  rw[aI (λz=>by rw[z,h]at q;cases q;cases i)];exact q
 have own:∀c b,H c=some (.own b)->aF H a v c=some (.own b):=λc b q=>by
  rw[aI (λz=>by rw[z,h]at q;cases q;cases i)];exact q
 refine⟨I.ok,I.os,I.bare,⟨I.base.keep,I.base.slot,λb o q n m=>?_,I.base.there,λb xs q=>tup _ _ (I.base.tups b xs q),λb o w q=>?_,λb ps q=>?_⟩,I.loc,I.cell,?_,λx c e=>?_,λp r=>?_,λb w e=>?_,I.len⟩
 ·have:=I.base.free b o q n m
  rw[aI (g b this)];exact this
 ·have:=I.base.frzs b o w q
  rw[aI (λz=>B o w (by rw[<-z];exact q))];exact this
 ·have⟨f,e⟩:=I.base.tbls b ps q
  exact⟨f,by rw[aI (λz=>by rw[z,h]at e;cases e;cases i)];exact e⟩
 ·rw[aI (g _ I.free)];exact I.free
 ·rw[aI (g _ (I.freeC x c e))];exact I.freeC x c e
 ·have⟨y,j,A⟩:=I.pin p r
  exact⟨y,by rw[aI (g _ j)];exact j,A⟩
 ·by_cases l:b=a
  ·subst l
   rw[aT]at e;cases e;exact new.stay (λc v _ q=>q) (λc q=>own c _ q) tup
  ·rw[aI l]at e
   exact(I.hok b w e).stay (λc v _ q=>q) (λc q=>own c _ q) tup
end
def AX(a:Addr)(o:Obj)(kvs:List (List aQ×V)):It:=⟨λi H=>H a=some (.frz o (.dT kvs))/\i<kvs.length,λi H x H'=>H'=H/\∃k b,(kvs.map fst)[i]?=some k/\x=.ref b/\H b=some (.tup (k.map kV)),λi H=>H a=some (.frz o (.dT kvs))/\kvs.length<=i⟩
def Ql{K:Fg1}(a it:Addr){o:Obj}{es:Array DictEntry}(hx:o.ExactDict)(hd:o.data=.dict es ep):gH P w K tg (AX a o kvs) [it] it (λi h=>h.IsKeyIter it a i es.size ep) where
 mem:=by simp
 obj:=λi h st b hb=>by
  have e:b=it:=by simpa using hb
  subst e;obtain⟨o,e,c,d⟩:=st;exact⟨o,e,λv z=>by rw[d]at z;cases z⟩
 keep:=λi h h' st k=>st.at λo e=>k it 'm' o e
 item:=by
  intro X hP hw hK hc i pins s σ H E I hf st hg;subst hP hw hK;obtain⟨ha,hi⟩:=hg;have⟨ho,z1,lo,xs,rel,o',es',ep',g1,g2,g3,g4,g5⟩:=(show cF X.prog X.w H s.heap a (.frz o (.dT kvs)) from I.hok a _ ha)
  rw[ho]at g1;cases g1;rw[hd]at g3;cases g3;have hl:=rel.length;have hes:es.size=xs.length:=by rw[<-qf,g4,aa]
  obtain⟨f0,f1,f2,f3,f4,f5⟩:=hf it 'm';have hi':i<es.size:=by omega
  have hxi:xs[i]?=some xs[i]:=vc 'o';have⟨kv,q0,q1,q2,_⟩:=gK rel hxi
  have hk:es[i].key=.ref xs[i].2.1:=by
   have h1:es.toList[i]?=some es[i]:=by rw[jg,wf hi']
   rw[g4,de,hxi]at h1;have h1:=ae h1;rw[<-h1];rfl
  refine FG st ⟨o,ho,hx,hd⟩ hi' λh' st' sb=>?_
  have I1:az X pins σ H { s with heap:=h' }:=I.turned (t':=s.toks) (λb o hb e=>(sb.2 b hb).trans e) f0 f1 f3 f4 f5;have⟨oo,e,c,d⟩:=id st';exact⟨_,rfl,qu (s:={ s with heap:=h' }) e c d 'd' ⟨.ref xs[i].2.1,H,I1,by rw[hk];rfl,⟨rfl,kv.1,xs[i].2.1,by rw[de,q0];rfl,rfl,q2⟩,st',λb hb=>(hf b hb).1⟩⟩
 done:=by
  intro X hP hw hK hc i pins s σ H E I hf st hg;subst hP hw hK;obtain⟨ha,hi⟩:=hg;have⟨ho,z1,lo,xs,rel,o',es',ep',g1,g2,g3,g4,g5⟩:=(show cF X.prog X.w H s.heap a (.frz o (.dT kvs)) from I.hok a _ ha)
  rw[ho]at g1;cases g1;rw[hd]at g3;cases g3;have hl:=rel.length;have hes:es.size=xs.length:=by rw[<-qf,g4,aa]
  obtain⟨f0,f1,f2,f3,f4,f5⟩:=hf it 'm';exact FH (I.ok.hd hc) st ⟨o,ho,hx,hd⟩ 'o' λh' eb=>⟨rfl,I.turned (t':=s.toks) (λb o hb e=>eb b o hb e) f0 f1 f3 f4 f5⟩
 self:=λ_ _ _ _ _ st h=>wpAny_pyIter_keyiter st h
section
variable {X:Cx}
def Qm(X:Cx)(tl:TE):TI:=λσ H R=>tl σ H λx H1=>∃a kvs,x=.ref a/\H1 a=some (.dT kvs)/\∀o,(∀o' u,X.H₀ a≠some (.frz o' u))->R (AX a o kvs) (aF H1 a (.frz o (.dT kvs)))
def Qn(hl:PE X l tl):PI X tg l (Qm X tl):=by
 intro c s n H R I h;refine aW (hl c s n H _ I h) λv s1 ⟨x,f,g,B,C⟩=>?_
 obtain⟨a,kvs,rfl,j,q⟩:=C;cases B;have ok:=(show cF X.prog X.w f s1.heap a (.dT kvs) from g.hok a _ j)
 have⟨J,F,xs,G,o,es,ep,p,r,y,K,L⟩:=id ok
 have A:∀i u,X.H₀ a≠some (.frz i u):=λi u z=>by
  have:=g.base.frzs a i u z
  rw[j]at this;cases this
 have m:az X c n (aF f a (.frz o (.dT kvs))) s1:=g.swap j rfl A ⟨p,ok⟩;refine FF F ⟨o,p,r,y⟩ ?_;refine⟨s1.heap.objs.size,[s1.heap.objs.size],_,AX a o kvs,aF f a (.frz o (.dT kvs)),rfl,m.kept (t':=s1.toks) λb o e=>jc _ e,Ql a _ r y,⟨_,pd _ rfl,rfl,rfl⟩,λb E=>?_,q o A⟩;have e:b=s1.heap.objs.size:=by simpa using E
 subst e;exact m.fpOk (dc _) m.fresh
def Qo(X:Cx)(t:TE):TE:=λσ H Q=>t σ H λx H'=>∃a o u,H' a=some (.frz o u)/\(∀o' u,X.H₀ a≠some (.frz o' u))/\Q x (aF H' a u)
def Qp(h:PE X e t):PE X e (Qo X t):=λb s g H Q I q=>aW (h b s g H _ I q) λv m ⟨x,n,c,i,a,o,u,f,j,l⟩=>⟨x,_,c.swap f rfl j (c.hok a _ f).2,i,l⟩
def rC(H:Hp)(k:List aQ)(x:V):Prop:=∃b,x=.ref b/\H b=some (.tup (k.map kV))
def Qq(Y:X.calm=true):d7 X (.type "list") (λxs H Q=>∃a kvs,xs=[.ref a]/\H a=some (.dT kvs)/\∀l bs,H l=none->Paired (rC H) (kvs.map fst) bs->Q (.ref l) (aF H l (.lst bs))):=by
 intro v s Z H xs us Q I r h;obtain⟨a,kvs,rfl,J,q⟩:=h;obtain⟨u,rfl,K⟩:=hE r;cases K;have⟨z1,L,ys,j,o,es,ep,M,N,O,z,g5⟩:=(show cF X.prog X.w H s.heap a (.dT kvs) from I.hok a _ J)
 have hl:=j.length;have T:es.size=ys.length:=by rw[<-qf,z,aa]
 refine PySem.W.kdl_call (FI (es:=es) (ep:=ep) L) (I.ok.hd Y) ⟨o,M,N,O⟩ 'o' λh' C c E f F g=>?_
 have e:c.toList=ys.map λx=>Value.ref x.2.1:=by
  apply wk;intro i;obtain⟨h1,P⟩:=g;by_cases A:i<c.size
  ·have⟨e,b,R⟩:=P i _ (wf A)
   rw[jg,wf A,R];have b:es.toList[i]?=some e:=by rw[jg];exact b
   rw[z,de]at b;rw[de]
   cases B:ys[i]? with
   |none=>rw[B]at b;cases b
   |some y=>rw[B]at b;cases b;rfl
  ·rw[jg,rm 'o',cn (by rw[aa];omega)]
 have vs:∀m:List (List aQ×Addr×Value),bC (m.map λx=>V.ref x.2.1) (m.map λx=>Value.ref x.2.1):=by
  intro m
  induction m with
  |nil=>exact .nil
  |cons y r n=>exact .cons rfl n
 have U:∀{m:List (List aQ×V)} {ys:List (List aQ×Addr×Value)},Paired (λ(p:List aQ×V) (q:List aQ×Addr×Value)=>p.1=q.1/\H q.2.1=some (.tup (p.1.map kV))/\bu p.2 q.2.2) m ys->Paired (rC H) (m.map fst) (ys.map λx=>V.ref x.2.1):=by
  intro m ys G
  induction G with
  |nil=>exact .nil
  |cons r t n=>exact .cons ⟨_,rfl,r.2.1⟩ n
 refine⟨.ref s.heap.objs.size,_,I.laid (t':=C) (o:=.lst (ys.map λx=>V.ref x.2.1)) f (dc _) ⟨by rw[aa];omega,ys.map (λx=>Value.ref x.2.1),E,vs ys,?_⟩,rfl,q _ _ I.fresh (U j)⟩;rw[F,<-e,Array.toArray_toList]
end
def lV(k:List aQ)(ks:List (List aQ)):Bool:=ks.any λx=>decide (x=k)
def xB(h:k∈ks):lV k ks=true:=ql.mpr ⟨k,h,qc rfl⟩
theorem xC(h:¬k∈ks):lV k ks=false:=by
 cases e:lV k ks with
 |false=>rfl
 |true =>
  have⟨x,b,a⟩:=ql.mp e;have a:=kc a;subst a;exact absurd b h
def AY(a b:List (List aQ)):List (List aQ):=a++b.filter λk=>!lV k (a)
def Gs(ia ib ip:Nat):TS:=λD σ H=>∃a1 a2 a b,σ[ia]?=some (some (.ref a1))/\σ[ib]?=some (some (.ref a2))/\H a1=some (.dT a)/\H a2=some (.dT b)/\a.length<=10000/\b.length<=10000 ∧
 ∀l xs H',aH H H'->H l=none->H' l=some (.lst xs)->Paired (rC H) (AY (a.map fst) (b.map fst)) xs->D.nx (σ.set ip (some (.ref l))) H'
theorem AZ:∀{a b:List α}{c d:List β},Paired F a c->Paired F b d->Paired F (a++b) (c++d)
 |_,_,_,_,.nil,h=>h
 |_,_,_,_,.cons p q,h=>.cons p (AZ q h)
theorem Qr:(cU kvs k).isSome=lV k (kvs.map fst):=by
 cases h:cU kvs k with
 |none=>exact(xC (NT h)).symm
 |some v=>exact(xB (NU h)).symm
section
variable {X:Cx}{scope:Scope}
def Qs(hc:X.calm=true)(Z:X.N.Nodup)(ha:X.N[ia]?=some xa)(hb:X.N[ib]?=some xb)(G:X.N[ip]?=some xp)(hlp:dQ X.env.scope xp)(hg:Gl X "list")(hm:X.mg "list" = none)(S:bZ X scope)(L:∀i∈[ia],i<X.N.length/\scope.names.lookup (X.N.getD i "")≠some .local)(hgt:∀s H C ex,PG (cK X scope C [v] [ia] s H ex) tg (sK 0))(ht:∀s H C ex,kK (cK X scope C [v] [ia] s H ex) ifs (Di (oG (mG true) (vA 0) (vA 1))))(he:∀s H C ex,PE (cK X scope C [v] [ia] s H ex) elt (vA 0))(hv1:cZ X.env.scope xa:=by first|exact ac rfl|exact ud (ac rfl)|exact ud (ud rfl))(fV:(xa == 'g')=false:=by decide)(M:(xa == 'c')=false:=by decide)(hv2:cZ X.env.scope xb:=by first|exact ac rfl|exact ud (ac rfl)|exact ud (ud rfl))(hd2:(xb == 'g')=false:=by decide)(O:(xb == 'c')=false:=by decide)(P:W1 X [.Name xa q2] (.Name xa q2) []:=by rfl)(hpl:W2 X q3 []:=by rfl)(hfs:∀x,foldedSetIterable (.Name xb q4) X.env x=pure x:=by intro _;rfl)(hsw:W0 X (.BinOp (.Call (.Name "list" q1) [.Name xa q2] [] q3) .Add (.ListComp elt [⟨tg,.Name xb q4,ifs,0⟩] scope q5) q6) (some (.Name xp qp)) q7:=by rfl)(hf:X.fn xp=true\/X.env.scope.names.lookup xp=some .local:=by first|exact .inl rfl|exact .inr rfl|assumption) :
  PS X (.Assign [.Name xp qp] (.BinOp (.Call (.Name "list" q1) [.Name xa q2] [] q3) .Add (.ListComp elt [⟨tg,.Name xb q4,ifs,0⟩] scope q5) q6) q7) (Gs ia ib ip) :=
 (iG Z G hlp (C9 Eu (zv (Qq hc) hg hm qC (el (cR ha hv1 fV M) fL P) 'd' 'd' P hpl) (Qp (zG hc S L (Qn (cR hb hv2 hd2 O)) hgt ht he hfs))) hsw hf).imp λD σ H ⟨a1,a2,c,a,h1,h2,e1,e2,z1,z2,q⟩=>by
  refine⟨.ref a1,h1,a1,c,rfl,e1,λl h n B=>?_⟩;have U:a2≠l:=λz=>by rw[z,n]at e2;cases e2
  have n1:a1≠l:=λz=>by rw[z,n]at e1;cases e1
  refine⟨.ref a2,h2,a2,a,rfl,by rw[aI U];exact e2,λo h0=>?_⟩;generalize w:aF (aF H l (.lst h)) a2 (.frz o (.dT a))=HF;have r:HF a2=some (.frz o (.dT a)):=by rw[<-w,aT]
  have Fl:HF l=some (.lst h):=by rw[<-w,aI (ue U),aT]
  have Q:∀b,b≠a2->b≠l->HF b=H b:=λb x y=>by rw[<-w,aI x,aI y]
  have Ft:∀b ys,HF b=some (.tup ys)->H b=some (.tup ys):=λb ys e=>by
   rw[<-Q b (λz=>by rw[z,r]at e;cases e) (λz=>by rw[z,Fl]at e;cases e)];exact e
  have R1:Rd HF a1 (.dT c):=by
   by_cases z:a1=a2
   ·subst z
    rw[e1]at e2;cases e2;exact .inr ⟨o,r⟩
   ·exact .inl (by rw[Q a1 z n1];exact e1)
  have J:gy [v].length [ia] σ=[none,some (.ref a1)]:=by
   show [none,(σ[ia]?).getD none]=_;rw[h1];rfl
  rw[J];refine⟨λi m ys A=>m=a.length - i/\i<=a.length/\A=HF/\Paired (rC H) (((a.map fst).take i).filter λk=>!lV k (c.map fst)) ys,⟨a.length,'m',ie _,rfl,.nil⟩,?_⟩;rintro i m ys A ⟨rfl,hi,rfl,I⟩
  have hyl:ys.length<=10000:=by
   rw[<-I.length]
   have:=yh (λk=>!lV k (c.map fst)) ((a.map fst).take i)
   rw[se,aa]at this;omega
  by_cases K:i<a.length
  ·refine .inr ⟨⟨r,K⟩,kW 'o',λE T=>T=A/\Paired (rC H) (((a.map fst).take (i+1)).filter λk=>!lV k (c.map fst)) E,λE T ⟨F,y2⟩=>⟨a.length - (i+1),'o',rfl,K,F,y2⟩,λx T ⟨ye,k,b,yk,yx,yb⟩=>?_⟩
   subst ye yx;refine⟨(Sub.refl _).set rfl,.ref b,rfl,.ref a1,rfl,a1,cU c k,rfl,.inr ⟨c,k,b,R1,rfl,yb,rfl⟩,_,rfl,?_⟩;have tk:(a.map fst).take (i+1)=(a.map fst).take i++[k]:=by rw[List.take_succ,yk];rfl
   rw[Qr,tk,List.filter_append];by_cases R:k∈c.map fst
   ·rw[xB R]
    refine⟨rfl,?_⟩;rw[jh (by rw[xB R];exact bb),List.filter_nil,zc];exact I
   ·rw[xC R]
    refine⟨.ref b,rfl,rfl,?_⟩;rw[kh (by rw[xC R];rfl),List.filter_nil];exact AZ I (.cons ⟨b,rfl,Ft _ _ yb⟩ .nil)
  ·have ei:i=a.length:=by omega
   subst ei;rw[zf (by rw[aa];exact dc _)]at I;refine .inl ⟨⟨r,dc _⟩,sz 'o',λj g=>⟨a2,o,.dT a,?_,h0,?_⟩⟩
   ·rw[aI (λz=>by rw[<-z,r]at g;cases g)];exact r
   ·have d1:j≠a2:=λz=>by rw[z,r]at g;cases g
    have d2:j≠l:=λz=>by rw[z,Fl]at g;cases g
    have G1:aF (aF A j (.lst ys)) a2 (.dT a) l=some (.lst h):=by rw[aI (ue U),aI (ue d2)];exact Fl
    have G2:aF (aF A j (.lst ys)) a2 (.dT a) j=some (.lst ys):=by rw[aI d1,aT]
    have Y:H j=none:=by rw[<-Q j d1 d2];exact g
    have sm:aH H (aF (aF A j (.lst ys)) a2 (.dT a)):=λb u f=>by
     by_cases F:b=a2
     ·subst F;rw[aT,<-f,e2]
     ·rw[aI F,aI (λz=>by rw[z,Y]at f;cases f),Q b F (λz=>by rw[z,n]at f;cases f)];exact f
    refine⟨h,ys,bA.of G1,bA.of G2,sz ?_,λp G=>q p (h++ys) _ (sm.trans λb u f=>by rw[aI (λz=>by rw[z,G]at f;cases f)];exact f) ?_ aT (AZ B I)⟩
    ·have:=B.length
     rw[aa]at this;omega
    ·cases hz:H p with
     |none=>rfl
     |some u=>rw[sm p u hz]at G;cases G
end
def Qt(a:aK n X.A):bx X (compareOp .NotIn) (mG true):=Et (by have:=a.units;omega)
def pL(n ia ib ip:Nat)(a b p:D):al:=(xA n ia ib a b).set ip (some (.sh p))
def A0(h:(pL n ia ib ip a b p)[j]?=some (some sl)):(j=ip/\sl=.sh p)\/(j≠ip/\((j=ib/\sl=.sh b)\/(j=ia/\j≠ib/\sl=.sh a))):=by
 unfold pL at h;by_cases c:ip=j
 ·subst c
  rw[uj]at h
  split at h
  ·split at h
   ·cases h;exact .inl ⟨rfl,rfl⟩
   ·cases h
  ·rename_i e;exact absurd rfl e
 ·rw[ca c]at h
  exact .inr ⟨λz=>c z.symm,Qg h⟩
def rD(ga a:GD):D:=.lst ((AY (ga.map fst) (a.map fst)).map gY)
def pM(ia ib ip io inn:Nat)(F:U4->Option GD)(g:al->aO):al->aO:=λρ=>match ρ[io]?,ρ[inn]? with
 |some (some (.sh o)),some (some (.sh n))=>match F [o],F [n] with
  |some ga,some a=>if (mV ga=true/\mV a=true/\ia<ρ.length/\ib<ρ.length)/\ga.length<=10000/\a.length<=10000/\ip<ρ.length then (match g (pL ρ.length ia ib ip (k7 ga) (k7 a) (rD ga a)) with|.rt d=>if gZ 5 d=true then .rt d else .bad|_=>.bad) else .bad
  |_,_=>.bad
 |_,_=>.bad
def Qu(e:pM ia ib ip io inn F g ρ=.rt d):∃o n ga a,ρ[io]?=some (some (.sh o))/\ρ[inn]?=some (some (.sh n))/\F [o]=some ga/\F [n]=some a/\mV ga=true/\mV a=true/\ia<ρ.length/\ib<ρ.length/\ga.length<=10000/\a.length<=10000/\ip<ρ.length/\g (pL ρ.length ia ib ip (k7 ga) (k7 a) (rD ga a))=.rt d/\gZ 5 d=true:=by
 unfold pM at e
 split at e
 ·rename_i o n c f
  split at e
  ·rename_i ga a h i
   split at e
   ·rename_i b
    split at e
    ·rename_i d' j
     split at e
     ·rename_i l
      cases e;exact⟨o,n,ga,a,c,f,h,i,b.1.1,b.1.2.1,b.1.2.2.1,b.1.2.2.2,b.2.1,b.2.2.1,b.2.2.2,j,l⟩
     ·cases e
    ·cases e
   ·cases e
  ·cases e
 ·cases e
theorem Gu{K:Fg1}(h:∀b ys,H b=some (.tup ys)->U b=some (.tup ys)):∀{ks:List (List aQ)}{xs:U6},Paired (rC H) ks xs->aR K U (ks.map gY) xs
 |_,_,.nil=>.nil
 |_,_,.cons ⟨b,e1,e2⟩ q=>by
  subst e1;exact .cons (oT (hT.of (h _ _ e2)) (w4 _)) (Gu h q)
section
variable {X:Cx}
def Qv(hK:xz X.K)(hio:ia≠io)(hin:ia≠inn)(hab:ia≠ib)(G:aG X.prog X.w X.K X.mg X.base aZ k f fd ps (nU X.K 1 F))(hr:aK k X.A)(hg:Gl X fx)(hm:X.mg fx=some (.ref f))(hk:keepIn X.K (.ref f)=true)(L:cB X.K fd ps [])(hNd:X.N.Nodup)(ha:X.N[ia]?=some xa)(hbN:X.N[ib]?=some xb)(ho:X.N[io]?=some xo)(hn:X.N[inn]?=some xn)(hla:dQ X.env.scope xa)(hlb:dQ X.env.scope xb)(h3:PS X st3 (Gs ia ib ip))(hrest:∀B',bv X rest (sV X.K B' g))(hv1:cZ X.env.scope xo:=by first|exact ac rfl|exact ud (ac rfl)|exact ud (ud rfl))(fV:(xo == 'g')=false:=by decide)(hcd1:(xo == 'c')=false:=by decide)(hv2:cZ X.env.scope xn:=by first|exact ac rfl|exact ud (ac rfl)|exact ud (ud rfl))(hd2:(xn == 'g')=false:=by decide)(hcd2:(xn == 'c')=false:=by decide)(hdb:(fx == 'g')=false:=by decide)(he1:W1 X [.Name xo p2] (.Name xo p2) []:=by rfl)(hpl1:W2 X p3 []:=by rfl)(he2:W1 X [.Name xn p5] (.Name xn p5) []:=by rfl)(hpl2:W2 X p6 []:=by rfl)(hs1:W0 X (.Call (.Name fx p1) [.Name xo p2] [] p3) (some (.Name xa pa)) q1:=by rfl)(hs2:W0 X (.Call (.Name fx p4) [.Name xn p5] [] p6) (some (.Name xb pb)) q2:=by rfl)(hf1:X.fn xa=true\/X.env.scope.names.lookup xa=some .local:=by first|exact .inl rfl|exact .inr rfl|assumption)(hf2:X.fn xb=true\/X.env.scope.names.lookup xb=some .local:=by first|exact .inl rfl|exact .inr rfl|assumption) :
  bv X (.Assign [.Name xa pa] (.Call (.Name fx p1) [.Name xo p2] [] p3) q1::.Assign [.Name xb pb] (.Call (.Name fx p4) [.Name xn p5] [] p6) q2::st3::rest) (sF X.K B (pM ia ib ip io inn F g)):=by
 have T:bv X rest (λD σ H=>∃B',sV X.K B' g D σ H):=λpins s σ H D I ⟨B',h⟩=>hrest B' pins s σ H D I h
 exact(dR (iG hNd ha hla (kI G hr hg hm hk L .nil iM (el (cR ho hv1 fV hcd1) fL he1) hdb he1 hpl1) hs1 hf1) (dR (iG hNd hbN hlb (kI G hr hg hm hk L .nil iM (el (cR hn hv2 hd2 hcd2) fL he2) hdb he2 hpl2) hs2 hf2) (dR h3 T))).imp λD σ H ⟨Hf,ρ,I,q⟩=>by
  cases e:pM ia ib ip io inn F g ρ with
  |rt d =>
   rw[e]at q;have⟨o,n,ga,gb,ho1,hn1,hga,hgb,hNa,hNb,hial,hibl,hla',hlb',hipl,hgd,hot⟩:=Qu e;have⟨vo,ho2,dvo⟩:=I.ok _ _ ho1;have⟨vn,hn2,dvn⟩:=I.ok _ _ hn1;refine⟨vo,ho2,Hf,[o],ga,I.fh,.cons dvo .nil,rfl,hga,λHf1 H1 Hm1 a1 kvs1 r s1 M U O C=>?_⟩;have⟨a,s1,M,U,O,C,nz1⟩:=Gn s1 M U O C;refine⟨vn,by rw[ca hin];exact hn2,Hf1,[n],gb,r.fh,.cons (Dn.same dvn r.ff) .nil,rfl,hgb,λE H2 Hm2 a2 kvs2 m s2 P nt2 Q J=>?_⟩;have⟨c,s2,P,nt2,Q,J,nz2⟩:=Gn s2 P nt2 Q J;have s12:aH a H2:=s1.trans m.hh;have lσ0:ρ.length=σ.length:=I.len;refine⟨a1,a2,kvs1,kvs2,by rw[ca (λz=>hab z.symm),ab 'o'],by rw[ab (by rw[sf];omega)],s12 _ _ O,s2 _ _ Q,by rw[<-aa (f:=fst),C.1,aa];exact hla',by rw[<-aa (f:=fst),J.1,aa];exact hlb',λl xs H3 i hl hx pr=>?_⟩;rw[C.1,J.1]at pr;have t3:aH (bQ H3) H3:=uC;have j0:aH (jn a c) H3:=kZ (s12.trans i) (s2.trans i);have o1:aH (aF ey l (.lst xs)) H3:=wW hx;have j1:aH (jn (jn a c) (aF ey l (.lst xs))) H3:=kZ j0 o1;have sF3:aH (jn (bQ H3) (jn (jn a c) (aF ey l (.lst xs)))) H3:=kZ t3 j1;have u1:aH a (jn (bQ H3) (jn (jn a c) (aF ey l (.lst xs)))):=(ew.trans ew).trans (ju t3 j1);have u2:aH c (jn (bQ H3) (jn (jn a c) (aF ey l (.lst xs)))):=((ju (s12.trans i) (s2.trans i)).trans ew).trans (ju t3 j1);have ul:jn (bQ H3) (jn (jn a c) (aF ey l (.lst xs))) l=some (.lst xs):=(ju t3 j1) _ _ ((ju j0 o1) _ _ aT);have ut:∀b ys,H2 b=some (.tup ys)->jn (bQ H3) (jn (jn a c) (aF ey l (.lst xs))) b=some (.tup ys):=λb ys z=>ew _ _ (pF (i _ _ z))
   have tt:∀{Hx:Hp},aH Hx H2->aH (bQ Hx) (jn (bQ H3) (jn (jn a c) (aF ey l (.lst xs)))):=λ{Hx} sx b u h=>by
    unfold bQ at h
    split at h
    ·rename_i z;cases h;exact ut _ _ (sx _ _ z)
    ·cases h
   have u3:=tt (r.fh.trans m.hh);have u4:=tt m.fh;have lσ:ρ.length=σ.length:=I.len;have E2:Ex B.f B.h E H2:=(I.ex.trans r).trans m;refine⟨⟨jn (bQ H3) (jn (jn a c) (aF ey l (.lst xs))),H3⟩,jn (bQ H3) (jn (jn a c) (aF ey l (.lst xs))),pL ρ.length ia ib ip (k7 ga) (k7 gb) (rD ga gb),⟨.refl sF3,?_,λl' sl e=>?_,λl' sl p e o z=>?_,λl' k sj sk p e1 e2 o1 o2 Y j=>?_⟩,?_⟩
   ·unfold pL xA;simp[lσ]
   ·rcases A0 e with⟨rfl,rfl⟩|⟨hp',⟨rfl,rfl⟩|⟨rfl,Z,rfl⟩⟩
    ·exact⟨.ref l,by rw[ab 's'],f7 (bA.of ul) (Gu ut pr)⟩
    ·exact⟨.ref a2,by rw[ca (λz=>hp' z.symm),ab 's'],Gm hNb Q J u2 u4⟩
    ·exact⟨.ref a1,by rw[ca (λz=>hp' z.symm),ca (λz=>Z z.symm),ab 'o'],Gm hNa O C u1 u3⟩
   ·rcases A0 e with⟨_,rfl⟩|⟨_,⟨_,rfl⟩|⟨_,_,rfl⟩⟩ <;> cases o
   ·rcases A0 e1 with⟨_,rfl⟩|⟨_,⟨_,rfl⟩|⟨_,_,rfl⟩⟩ <;> cases o1
   ·rw[hgd]
    intro Hf' H' v R dv;obtain⟨kk,dv⟩:=dv
    have nz:∀b o u,Hf' b≠some (.frz o u):=λb o u h=>by
     have h:=R.nf b o u h;have h:jn (bQ H3) (jn (jn a c) (aF ey l (.lst xs))) b=some (.frz o u):=h;unfold jn at h
     cases z:bQ H3 b with
     |some x =>
      rw[z]at h;cases h;unfold bQ at z
      split at z <;> cases z
     |none =>
      rw[z]at h
      cases Y:a b with
      |some x=>rw[Y]at h;cases h;exact nz1 _ _ _ Y
      |none =>
       rw[Y]at h
       cases j:c b with
       |some x=>rw[j]at h;cases h;exact nz2 _ _ _ j
       |none =>
        rw[j]at h;have h:aF ey l (.lst xs) b=some (.frz o u):=h;by_cases L:b=l
        ·subst L;rw[aT]at h;cases h
        ·rw[aI L]at h;cases h
    have old:∀b u,Hf' b=some u->(∀xs,u≠.tup xs)->B.h b=none/\E b=none:=λb u h nu=>by
     have Z:Hf' b≠none:=by rw[h];exact λz=>nomatch z
     rcases R.nw b Z with w|w
     ·have w:jn (bQ H3) (jn (jn a c) (aF ey l (.lst xs))) b≠none:=w
      rcases k0 w with w|w
      ·exfalso
       cases z:bQ H3 b with
       |none=>exact w z
       |some o =>
        unfold bQ at z
        split at z
        ·rename_i xs j
         cases z
         have:=R.ff _ _ (ew _ _ (pF j))
         rw[h]at this;cases this;exact nu _ rfl
        ·cases z
      ·rcases k0 w with w|w
       ·rcases k0 w with w|w
        ·refine⟨I.ex.hh.free (M b w).2,?_⟩
         cases z:a b with
         |none=>exact absurd z w
         |some o=>exact kx m (M b w).1 (s1 b o z) (λxs hx=>U b xs (by rw[z,hx]))
        ·exact⟨I.ex.hh.free (r.hh.free (P b w).2),(P b w).1⟩
       ·have L:b=l:=wX w
        subst L;exact⟨E2.hh.free hl,m.fh.free hl⟩
     ·have w:jX H3 b:=w
      rcases w with w|⟨xs,w⟩
      ·exact⟨E2.hh.free (i.free w),m.fh.free (i.free w)⟩
      ·have:=R.hh b _ w
       rw[R.fh b u h]at this;cases this;exact absurd rfl (nu xs)
    have sH:aH B.h H':=E2.hh.trans (i.trans R.hh);have f2:aH E H':=E2.fh.trans (i.trans R.hh);have tf:aH (bQ Hf') H':=uC.trans R.fh;refine q (jn E (bQ Hf')) H' (rB Hf') kk v ⟨E2.ff.trans ew,sH,kZ f2 tf,λb L=>?_,λb o u h=>?_⟩ (λb u h=>R.fh _ _ (Go h).1) (λb L=>?_) (Qf hK (λb xs h=>Qh h) (λb xs h=>ju f2 tf _ _ (pF h)) nz hot dv)
    ·rcases k0 L with w|w
     ·exact E2.nw b w
     ·right
      cases z:B.h b with
      |none=>exact .inl z
      |some x =>
       cases j:bQ Hf' b with
       |none=>exact absurd j w
       |some y =>
        have z3:=tf _ _ j;rw[sH _ _ z]at z3;cases z3;unfold bQ at j
        split at j
        ·cases j;exact .inr ⟨_,z⟩
        ·cases j
    ·unfold jn at h
     cases z:E b with
     |some x=>rw[z]at h;cases h;exact E2.nf _ _ _ z
     |none =>
      rw[z]at h;have h:bQ Hf' b=some (.frz o u):=h;unfold bQ at h
      split at h <;> cases h
    ·cases z:rB Hf' b with
     |none=>exact absurd z L
     |some u =>
      have⟨Y,j⟩:=Go z;have⟨y1,y2⟩:=old b u Y j;exact⟨y1,by unfold jn;rw[y2];exact Qi Y j⟩
  |_=>rw[e]at q;exact q.elim
end
def rem(H:Hp)(p:Addr):Hp:=λb=>if b=p then none else H b
def Gv:aH (rem H p) H:=λb u h=>by
 unfold rem at h
 split at h
 ·cases h
 ·exact h
def lW(h:b≠p):rem H p b=H b:=ic h
def A1:rem H p p=none:=ya rfl
section
variable {K:Fg1}{ρ:al}
def ez(e:(ρ.set j x)[k]?=some (some sl)):(k=j/\x=some sl/\j<ρ.length)\/(k≠j/\ρ[k]?=some (some sl)):=by
 by_cases a:j=k
 ·subst a
  rw[uj]at e
  split at e
  ·split at e
   ·rename_i hl;exact .inl ⟨rfl,ae e,hl⟩
   ·cases e
  ·rename_i b;exact absurd rfl b
 ·rw[ca a]at e
  exact .inr ⟨λz=>a z.symm,e⟩
theorem hU.rem(h:hU K Hf H sl v)(f:cz sl=true->v≠.ref p):hU K Hf (L2.rem H p) sl v:=by
 cases sl with
 |sh d=>exact h
 |ow ds=>obtain⟨a,xs,rfl,b,c,e⟩:=h;exact⟨a,xs,rfl,b,by rw[lW (λz=>f rfl (by rw[z]))];exact c,e⟩
 |dk ks ds=>obtain⟨a,xs,rfl,b,c,e⟩:=h;exact⟨a,xs,rfl,b,by rw[lW (λz=>f rfl (by rw[z]))];exact c,e⟩
 |dt ks ds=>obtain⟨a,xs,rfl,b,c,e⟩:=h;exact⟨a,xs,rfl,b,by rw[lW (λz=>f rfl (by rw[z]))];exact c,e⟩
 |ob p0 ks ds=>obtain⟨a,xs,rfl,b,c,e⟩:=h;exact⟨a,xs,rfl,b,by rw[lW (λz=>f rfl (by rw[z]))];exact c,e⟩
end
def nW(H:Hp)(l:Y8):Hp:=λb=>if b∈l then H b else none
def Gw:aH (nW H l) H:=λb u h=>by
 unfold nW at h
 split at h
 ·exact h
 ·cases h
def Gx(h:nW H l b≠none):b∈l:=by
 unfold nW at h
 split at h
 ·assumption
 ·exact absurd rfl h
def A2(h:b∈l):nW H l b=H b:=ya h
section
variable {K:Fg1}{rows:List (D×U4)}{rs:Y8}
abbrev iw(Hf H:Hp)(l:Y8):Hp:=jn Hf (noF (nW H l))
def Gy(s:aH Hf H):aH (iw Hf H l) H:=kZ s (lT.trans Gw)
def xD(s:aH Hf H)(a:b∈l)(h:H b=some (.lst xs)):iw Hf H l b=some (.lst xs):=ju s (lT.trans Gw) b _ (qX (by rw[A2 a];exact h))
def xE(h:Hf b=none)(a:b ∉ l):iw Hf H l b=none:=by
 unfold iw jn;rw[h];exact AI (ic a)
def Qw(e:Ex Hf0 H0 Hf H)(c:∀b∈l,H0 b=none):Ex Hf0 H0 (iw Hf H l) H :=
 ⟨e.ff.trans ew,e.hh,Gy e.fh,λ b a=>by
  rcases k0 a with z|z
  ·exact e.nw b z
  ·exact .inr (.inl (c b (Gx (pB z)))),λb o u h=>e.nf b o u (qY h)⟩
theorem d6.dns(h:d6 K Hf H rows rs qs)(s:aH Hf Hf')(f:∀q∈qs,∀ys,H q=some (.lst ys)->Hf' q=some (.lst ys)):aR K Hf' (rows.map k6) (rs.map V.ref):=by
 induction h with
 |nil=>exact .nil
 |cons a b c d e g _ o =>
  have⟨l,m⟩:=b.same s;have⟨k2,e1⟩:=(aR.same e s).level;have n:=bA.of (K:=K) (f _ (cc ..) _ d);refine .cons ⟨max l (k2+1)+1,_,_,rfl,s _ _ a,.cons ?_ (.cons ?_ .nil)⟩ (o λq i=>f q (ua _ i))
  ·exact v8 m (wr _ _)
  ·exact v8 (j:=k2+1) ⟨_,_,rfl,n,e1⟩ (yq _ _)
def q9.dn(h:q9 K Hf H t rows rs qs)(s:aH Hf H):Dn K (iw Hf H (t::qs)) (mS rows) (.ref t):=by
 have:=h.rw.dns (Hf':=iw Hf H (t::qs)) ew λq a ys z=>xD s (ua _ a) z
 have⟨k,this⟩:=this.level;exact⟨k+1,t,_,rfl,bA.of (xD s (cc ..) h.ht),this⟩
end
noncomputable def Gz:D->Bool
 |.tup [_,.lst _]=>true
 |_=>false
def pN:D->Bool
 |.lst ds=>ds.all Gz
 |_=>false
def A3(h:pN d=true):∃rows,d=mS rows:=by
 unfold pN at h
 split at h
 ·rename_i ds
  induction ds with
  |nil=>exact⟨[],rfl⟩
  |cons r ds b =>
   rw[gf,uc]at h;have⟨rows,e⟩:=b h.2;have a:=h.1;unfold Gz at a
   split at a
   ·exact⟨(_,_)::rows,by rw[D.lst.inj e];rfl⟩
   ·cases a
 ·cases h
def k8(f:al->U5):al->U5:=λρ=>(f ρ).bind λd=>if pN d=true then some d else none
def Qx(h:k8 f ρ=some d):∃rows,d=mS rows/\f ρ=some (mS rows):=by
 have⟨d',b,a⟩:=bind_some h
 split at a
 ·rename_i hz
  cases a;obtain⟨rows,rfl⟩:=A3 hz
  exact⟨rows,rfl,b⟩
 ·cases a
section
variable {X:Cx}{i:Nat}{pos:Pos}{f:al->U5}{fb:al->aO}
def xF(h:PE X e (pE X.K B f)):PE X e (eV X.K B (k8 f)):=h.imp λj H Q ⟨Hf,ρ,d,I,c,q⟩=>by
 obtain⟨a,rfl,fV⟩:=Qx c;exact⟨Hf,ρ,a,I,fV,λHf' g t rs l b i w=>q _ g (.ref t) (Qw b i) (w.dn b.fh)⟩
def Qy:mR (i7 fe):=λρ d h=>by unfold i7 at h;split at h <;> cases h
theorem d6.get{K:Fg1}{f:List (D×U4)}{rs i:Y8}(h:d6 K Hf H f rs i):∀(n:Nat) (hn:n<i.length) (j:n<rs.length) (l:n<f.length),∃v ys,Hf rs[n]=some (.tup [v,.ref i[n]])/\Hf i[n]=none/\H i[n]=some (.lst ys)/\ys.length=f[n].2.length:=by
 induction h with
 |nil=>intro n hn;cases hn
 |cons a b c d e g _ m =>
  intro n hn j l
  cases n with
  |zero=>exact⟨_,_,a,c,d,e.length.symm⟩
  |succ n=>exact m n (tm hn) (tm j) (tm l)
end
def fC.eq{K:Fg1}{a:Addr}(h:fC K C)(h':fC K a):a=C:=by
 unfold fC at h h';rw[h]at h'
 cases h'
 rfl
noncomputable def dU(f:Str)(d:D):U5:=match d with|.er _ ks ds=>(ks.zip ds).lookup f|_=>none
theorem GA{K:Fg1}:∀{fs:List (Str×V)}{ds:U4}{d:D},aR K Hf ds (fs.map snd)->((fs.map fst).zip ds).lookup f=some d->∃v,fs.lookup f=some v/\Dn K Hf d v
 |[],_,_,_,e=>by simp at e
 |(k,v)::fs,c::ds,d,.cons a b,e=>by
  simp only[ma,rg,xf]at e ⊢
  cases q:f == k with
  |true=>rw[q]at e;cases e;exact⟨v,rfl,a⟩
  |false=>rw[q]at e;exact GA b e
theorem xG:∀{fs:List (Str×V)},(fs.map fst).contains m=false->fs.lookup m=none
 |[],_=>rfl
 |(k,v)::fs,h=>by
  simp only[ma,List.contains_cons,ot]at h;simp only[xf,h.1];exact xG h.2
noncomputable def lX(f:Str)(d:D):List (Str×D)->List (Str×D)
 |[]=>[(f,d)]
 |(g,x)::r=>if g=f then (g,d)::r else (g,x)::lX f d r
theorem nX{K:Fg1}(h:Dn K Hf d y):∀{fs:List (Str×V)}{ds:U4},aR K Hf ds (fs.map snd)->(cS f y fs).map fst=(lX f d ((fs.map fst).zip ds)).map fst/\aR K Hf ((lX f d ((fs.map fst).zip ds)).map snd) ((cS f y fs).map snd)
 |[],_,.nil=>⟨rfl,.cons h .nil⟩
 |(g,x)::r,e::es,.cons a b=>by
  have⟨c,i⟩:=nX (f:=f) h b;unfold cS;simp only[ma,rg];unfold lX;by_cases q:g=f
  ·simp only[q,lr,ma]
   refine⟨by rw[List.map_fst_zip];rw[b.length,aa,aa];exact dc _,.cons h ?_⟩;rw[zq]
   ·exact b
   ·rw[b.length,aa,aa];exact dc _
  ·simp only[q,xi,ma]
   exact⟨by rw[c],.cons a i⟩
def xH(j:Nat)(f:Str)(fe:al->U5):al->aO:=λρ=>match ρ[j]? with
 | some (some (.ob p0 ks ds))=>(match fe ρ with
  |some d=>if ks.length<900 then .nx (ρ.set j (some (.ob p0 ((lX f d (ks.zip ds)).map fst) ((lX f d (ks.zip ds)).map snd)))) else .bad
  |none=>.bad)
 |_=>.bad
def k9(m:Str)(F:U4->U0)(fe:al->U5):al->U0:=λρ=>(fe ρ).bind λd=>match d with|.er n ks ds=>if ks.contains m=true then none else F [.er n ks ds]|_=>none
def pO(m:Str)(F:U4->U5)(fe:al->U5):al->U5:=λρ=>(fe ρ).bind λd=>match d with|.er n ks ds=>if ks.contains m=true then none else F [.er n ks ds]|_=>none
section
variable {X:Cx}{pos apos:Pos}
def fH(w:fC X.K C)(c:gI X.K C)(n:gx X.K C f)(h:PE X e (eB X.K B fe))(x:attributeBase e f X.env (eval e X.env)=eval e X.env:=by rfl):PE X (.Attribute e f pos) (eV X.K B (e1 (dU f) fe)):=(Lr h x).imp λy H Q ⟨Hf,ρ,z,I,hz,q⟩=>by
 have⟨d,m,hz⟩:=bind_some hz;unfold dU at hz
 split at hz
 ·refine⟨Hf,ρ,_,I,m,λg i v b j=>?_⟩
  obtain⟨a,A,o,fs,rfl,p,r,s,u⟩:=j.ob b.fh;subst s;obtain rfl:=w.eq r;have⟨v,l,dn⟩:=GA u hz;exact⟨a,_,o,fs,v,rfl,p,c,n,l,q g i v b dn⟩
 ·cases hz
def xI(M:fC X.K C)(c:gI X.K C)(hm:dW X.K C m g)(G:aG X.prog X.w X.K X.mg X.base aZ k g fd ps (mN X.K 1 F))(N:aK k X.A)(O:cB X.K fd ps [])(P:PE X o (eV X.K B fe))(R:eval (.Call (.Attribute o m apos) [] [] pos) X.env=(do
   let l ← eval o X.env
   standAt apos.atName
   let (f,first) ← holding [l] (getMethod l m pl)
   callWith pos f first (backTo pos (starEach [] X.env)) (backToKw pos (keywordEach [] X.env))):=by rfl):PE X (.Call (.Attribute o m apos) [] [] pos) (eW X.K B (k9 m F fe)) :=
 (Dr P c hm G N O .nil iM R).imp λT H Q ⟨Hf,ρ,z,I,hz,q⟩=>by
  have⟨d,x,hz⟩:=bind_some hz
  split at hz
  ·split at hz
   ·cases hz
   ·rename_i n ks ds hn
    refine⟨Hf,ρ,_,I,x,λe U v b i=>?_⟩;obtain⟨a,Y,y,fs,rfl,E,J,L,j⟩:=i.ob;subst L;obtain rfl:=M.eq J;exact⟨a,y,fs,rfl,b.fh _ _ E,xG (lg.mpr hn),e,_,z,b.fh,.cons i .nil,rfl,hz,λHf' r p xs s j u h dn=>q Hf' r p xs (b.trans s) (b.hh.free j) u h dn⟩
  ·cases hz
def GB(N:fC X.K C)(c:gI X.K C)(hm:dW X.K C m g)(G:aG X.prog X.w X.K X.mg X.base aZ k g fd ps (rd X.K 1 F))(O:aK k X.A)(j:cB X.K fd ps [])(P:PE X o (eV X.K B fe))(R:eval (.Call (.Attribute o m apos) [] [] pos) X.env=(do
   let p ← eval o X.env
   standAt apos.atName
   let (f,first) ← holding [p] (getMethod p m pl)
   callWith pos f first (backTo pos (starEach [] X.env)) (backToKw pos (keywordEach [] X.env))):=by rfl):PE X (.Call (.Attribute o m apos) [] [] pos) (pE X.K B (pO m F fe)) :=
 (Dr P c hm G O j .nil iM R).imp λT H Q ⟨Hf,ρ,z,I,hz,q⟩=>by
  have⟨d,y,hz⟩:=bind_some hz
  split at hz
  ·split at hz
   ·cases hz
   ·rename_i n ks ds hn
    refine⟨Hf,ρ,_,I,y,λh U v e l=>?_⟩;obtain⟨a,Y,E,fs,rfl,J,L,M,Z⟩:=l.ob;subst M;obtain rfl:=N.eq L;exact⟨a,E,fs,rfl,e.fh _ _ J,xG (lg.mpr hn),h,_,z,e.fh,.cons l .nil,rfl,hz,λHf' r t rs s u x i=>q Hf' r t rs s (e.trans u) (λb j=>e.hh.free (x b j)) i⟩
  ·cases hz
end
noncomputable abbrev Fl:=U8×U4
abbrev bS(p0:Y9)(fl:Fl):Y1:=some (.ob p0 fl.1 fl.2)
structure g0(K:Fg1)(Hf H:Hp)(p:Addr)(fl:Fl):Prop where
 f:Hf p=none
 ex:∃C dx xs,H p=some (.ins C dx xs)/\fC K C/\xs.map fst=fl.1/\aR K Hf fl.2 (xs.map snd)
structure g6(B:Bs)(Hf:Hp)(ρ:al)(σ:St)(H Hn:Hp):Prop where
 nh:aH Hn H
 fr:∀b,Hn b≠none->Hf b=none/\B.h b=none
 ow:∀(j:Nat) sl p,ρ[j]?=some (some sl)->cz sl=true->σ[j]?=some (some (.ref p))->Hn p=none
abbrev RT(R:Type):=Hp->Hp->Hp->R->V->Prop
def rF(K:Fg1):RT D:=λHn Hf _ d v=>∃k,dD K Hn Hf k d v
def rT(K:Fg1):RT (D×D×D):=λHn Hf H d v=>∃a b c e k,v=.ref a/\H a=some (.tup [b,c,e])/\Hn a=none/\dD K Hn Hf k d.1 b/\Dn K Hf d.2.1 c/\Dn K Hf d.2.2 e
def sU{R:Type}(K:Fg1)(B:Bs)(RR:RT R)(f:al->Option (R×al)):TS:=λD σ H=>∃Hf ρ z,VI K B Hf ρ σ H/\f ρ=some z/\∀Hf' a H' Hn v,VI K B Hf' z.2 a H'->g6 B Hf' z.2 a H' Hn->RR Hn Hf' H' z.1 v->D.rt v H'
def nY{R:Type}(K:Fg1)(np:Nat)(RR:RT R)(F:Fl->U4->Option (Fl×R)):Sp:=λvs H Q _=>∃Hf p fl ds us z,aH Hf H/\vs=.ref p::us/\ds.length+1=np/\g0 K Hf H p fl/\aR K Hf ds us/\F fl ds=some z ∧
 ∀Hf' H' Hn v,Ex Hf (rem H p) Hf' H'->g0 K Hf' H' p z.1->aH Hn H'->(∀b,Hn b≠none->H b=none/\Hf' b=none)->RR Hn Hf' H' z.2 v->Q v H'
section
variable {K:Fg1}{H:Hp}{ρ:al}{j:Nat}
def VI.obAt(I:VI K B Hf ρ σ H)(m:ρ[j]?=some (bS p0 fl)):∃p,σ[j]?=some (some (.ref p))/\(p0=none\/p0=some p)/\g0 K Hf H p fl:=by
 have⟨v,a,p,⟨C,b,xs⟩,e,c,f,⟨g,h,i⟩,l⟩:=I.ok j _ m;subst e;exact⟨p,a,g,c,C,b,xs,f,h,i,l⟩
def g0.ext(h:g0 K Hf H p fl)(e:Ex Hf H Hf' H'):g0 K Hf' H' p fl:=by
 have⟨C,b,xs,a,c,g,i⟩:=h.ex;exact⟨kx e h.f a,C,b,xs,e.hh _ _ a,c,g,aR.same i e.ff⟩
def VI.obj(I:VI K B Hf ρ σ H)(F:ρ[j]?=some (bS p0 fl))(i:σ[j]?=some (some (.ref p)))(X:Ex Hf (L2.rem H p) Hf' H')(ok:g0 K Hf' H' p fl'):VI K B Hf' (ρ.set j (bS p0 fl')) σ H':=by
 have⟨Y,m,s,w⟩:=I.obAt F;rw[i]at m
 cases m
 have M:B.h p=none:=I.own j _ p F rfl i;have E:Hf p=none:=w.f;have g:∀(k:Nat) sl,k≠j->ρ[k]?=some (some sl)->cz sl=true->σ[k]?≠some (some (.ref p)):=λk sl c e o z=>c (I.dis k j sl _ p e F o rfl z i)
 have U:VI K B Hf (ρ.set j none) σ (L2.rem H p):=by
  refine⟨⟨I.ex.ff,λb u h=>?_,λb u h=>?_,I.ex.nw,I.ex.nf⟩,by rw[sf];exact I.len,λk sl e=>?_,λk sl a e=>?_,λk l n sl a e1 e2=>?_⟩
  ·rw[lW (λz=>by rw[z,M]at h;cases h)];exact I.ex.hh b u h
  ·rw[lW (λz=>by rw[z,E]at h;cases h)];exact I.fh b u h
  ·rcases ez e with⟨_,h,_⟩|⟨c,e⟩
   ·cases h
   ·have⟨v,x,y⟩:=I.ok k sl e
    exact⟨v,x,y.rem λo z=>g k sl c e o (by rw[x,z])⟩
  ·rcases ez e with⟨_,h,_⟩|⟨c,e⟩
   ·cases h
   ·exact I.own k sl a e
  ·rcases ez e1 with⟨_,h,_⟩|⟨_,e1⟩
   ·cases h
   ·rcases ez e2 with⟨_,h,_⟩|⟨_,e2⟩
    ·cases h
    ·exact I.dis k l n sl a e1 e2
 have N:=U.ext X;have back:∀{k:Nat} {sl:Sl},k≠j->ρ[k]?=some (some sl)->(ρ.set j none)[k]?=some (some sl):=λ{k sl} c e=>by rw[ca (ue c)];exact e
 refine⟨N.ex,by rw[sf];exact I.len,λk sl e=>?_,λk sl a e o z=>?_,λk l n sl a e1 e2 G J q r=>?_⟩
 ·rcases ez e with⟨rfl,h,_⟩|⟨c,e⟩
  ·cases h
   have⟨C,O,xs,P,Q,R,T⟩:=ok.ex;exact⟨.ref p,i,p,(C,O,xs),rfl,ok.f,P,⟨s,Q,R⟩,T⟩
  ·exact N.ok k sl (back c e)
 ·rcases ez e with⟨rfl,h,_⟩|⟨c,e⟩
  ·rw[i]at z;cases z;exact M
  ·exact I.own k sl a e o z
 ·rcases ez e1 with⟨rfl,x,_⟩|⟨c,L⟩
  ·rcases ez e2 with⟨rfl,y,_⟩|⟨hl,A⟩
   ·rfl
   ·rw[i]at q;cases q
    exact absurd r (g l sl hl A J)
  ·rcases ez e2 with⟨rfl,y,_⟩|⟨hl,A⟩
   ·rw[i]at r;cases r
    exact absurd q (g k n c L G)
   ·exact I.dis k l n sl a L A G J q r
def VI.there(I:VI K B Hf ρ σ H)(h:ρ[j]?=some (some sl))(o:cz sl=true)(z:σ[j]?=some (some (.ref p))):H p≠none:=by
 have⟨v,a,b⟩:=I.ok j sl h;have⟨q,ob,e,f,c⟩:=b.own o;rw[z]at a;cases a;cases e;rw[c];exact λz=>nomatch z
end
def nZ{R:Type}(n:Nat)(f:al->Option (R×al))(p:Addr)(fl:Fl)(ds:U4):Option (Fl×R):=match f ((bY n (.non::ds)).set 0 (bS (some p) fl)) with
 |some (r,ρ')=>(match (ρ'[0]?:Option Y1) with|some (some (Sl.ob p0 ks es))=>if p0=some p then some ((ks,es),r) else none|_=>none)
 |none=>none
def Qz(h:nZ n f p fl ds=some z):∃ρ',f ((bY n (.non::ds)).set 0 (bS (some p) fl))=some (z.2,ρ')/\ρ'[0]?=some (bS (some p) z.1):=by
 unfold nZ at h
 split at h
 ·rename_i r ρ' e1
  split at h
  ·rename_i p0 ks es e2
   split at h
   ·rename_i a
    subst a;cases h;exact⟨ρ',e1,e2⟩
   ·cases h
  ·cases h
 ·cases h
def mW(a:f ((bY n (.non::ds)).set 0 (bS (some p) fl))=some (z.2,ρ'))(b:ρ'[0]?=some (bS (some p) z.1)):nZ n f p fl ds=some z:=by
 unfold nZ;rw[a];dsimp only;rw[b];dsimp only;rw[ya rfl]
open Classical in
def lY{R:Type}(n:Nat)(f:al->Option (R×al))(fl:Fl)(ds:U4):Option (Fl×R):=if h:∃z,∀p,nZ n f p fl ds=some z then some h.choose else none
def QA(h:lY n f fl ds=some z)(p:Addr):nZ n f p fl ds=some z:=by
 unfold lY at h
 split at h
 ·rename_i a;cases h;exact a.choose_spec p
 ·cases h
def mX(h:∀p,nZ n f p fl ds=some z):lY n f fl ds=some z:=by
 have a:∃z,∀p,nZ n f p fl ds=some z:=⟨z,h⟩
 unfold lY;rw[dif_pos a,<-a.choose_spec 0,h 0]
section
variable {K:Fg1}
def VI.initO(hs:aH Hf H)(r:g0 K Hf H p fl)(s:aR K Hf ds us)(hn:ds.length+1<=N.length):VI K ⟨Hf,L2.rem H p⟩ Hf ((bY N.length (.non::ds)).set 0 (bS (some p) fl)) (hG N (.ref p::us)) H:=by
 have q:=s.length
 have c:∀{i:Nat} {sl:Sl},((bY N.length (.non::ds)).set 0 (bS (some p) fl))[i]?=some (some sl)->(i=0/\sl=.ob (some p) fl.1 fl.2)\/(∃n d,i=n+1/\ds[n]?=some d/\sl=.sh d):=λ{i sl} e=>by
  cases i with
  |zero =>
   unfold bY at e;simp at e;exact .inl ⟨rfl,e.symm⟩
  |succ n =>
   rw[ca (Nat.succ_ne_zero n).symm]at e;refine .inr ⟨n,?_⟩;unfold bY at e;by_cases m:n<ds.length
   ·rw[mf (by rw[aa,gc];omega),de,ze]at e
    cases g:ds[n]? with
    |none=>rw[g]at e;cases e
    |some d=>rw[g]at e;cases e;exact⟨d,rfl,rfl,rfl⟩
   ·rw[bg (by rw[aa,gc];omega),cg]at e
    split at e <;> cases e
 have l:∀{i:Nat},i<us.length+1->(hG N (.ref p::us))[i]?=((V.ref p::us)[i]?).map some:=λ{i} m=>by
  unfold hG;rw[mf (by rw[aa,gc];omega),de]
 refine⟨⟨aH.refl _,Gv,hs,λb h=>.inl h,λ_ _ _ h=>h⟩,?_,λi sl e=>?_,λi sl a e o z=>?_,λi j I J a e1 e2 u w L M=>?_⟩
 ·rw[sf];unfold bY hG;rw[rc,rc,aa,aa,ah,ah,gc,gc];omega
 ·rcases c e with⟨rfl,rfl⟩|⟨n,d,rfl,g,rfl⟩
  ·have⟨C,x,xs,y,A,B,E⟩:=r.ex
   exact⟨.ref p,by rw[l 'o'];rfl,p,(C,x,xs),rfl,r.f,y,⟨.inr rfl,A,B⟩,E⟩
  ·have m:=(wb.mp g).1
   have⟨v,F,G⟩:=s.zget g;exact⟨v,by rw[l 'o',ze,F];rfl,G⟩
 ·rcases c e with⟨rfl,rfl⟩|⟨n,d,rfl,g,rfl⟩
  ·rw[l 'o']at z
   cases z;exact A1
  ·cases o
 ·rcases c e1 with⟨rfl,rfl⟩|⟨n,d,rfl,g,rfl⟩
  ·rcases c e2 with⟨rfl,rfl⟩|⟨n,d,rfl,g,rfl⟩
   ·rfl
   ·cases w
  ·cases u
def uE{st:Stmt}{N ps:U8}(hF:I=lY nN fs)(hp:ps.length=r)(hN:N.length=nN)(hn:r<=nN)(F:d8 K x c st f G)(S:ax N ps (bj st))(i:∀(g:Value) (A:Around) (a:Yb) (s:Shared) (H:Hp) (E:XK) (B:Bs),aK k (A.deeper (envOfC c (bj st) s.heap.objs.size f g))->bv (gJ aZ P w K mg base N c (bj st) f g A a s H E).nox (fq st) (sU K B RR fs)):aG P w K mg base aZ (k+1) f G ps (nY K r RR I):=by
 subst hF hp hN;refine F.ok S (λvs H Q E h=>?_) (λg A a s H vs Q E J h=>?_)
 ·obtain⟨Hf,p,fl,ds,us,z,_,rfl,y,_,n,_⟩:=h
  rw[gc,<-n.length];exact y
 ·obtain⟨Hf,p,fl,ds,us,z,hs,rfl,y,T,n,U,q⟩:=h
  have⟨ρ',X,C⟩:=Qz (QA U p);refine⟨_,i g A a s H E ⟨Hf,rem H p⟩ J,Hf,_,_,VI.initO hs T n 'o',X,?_⟩;intro Hf' L M Hn v u j O;have⟨l,Y,y2,Z⟩:=u.obAt C
  have e:l=p:=by
   rcases y2 with y2|y2
   ·cases y2
   ·exact(ae y2).symm
  subst e;refine q Hf' M Hn v u.ex Z j.nh (λb m=>⟨?_,(j.fr b m).1⟩) O;have o:b≠l:=λz=>m (by rw[z];exact j.ow 0 _ _ C rfl Y)
  have:=(j.fr b m).2
  rw[show (Bs.mk Hf (rem H l)).h=rem H l from rfl,lW o]at this;exact this
end
def lh{R:Type}(fo:al->aO)(g:al->Option (R×al)):al->Option (R×al):=λρ=>match fo ρ with|.nx ρ'=>g ρ'|_=>none
def lZ{R:Type}(ft:al->Y3)(f g:al->Option (R×al)):al->Option (R×al):=λρ=>match ft ρ with|some true=>f ρ|some false=>g ρ|none=>none
def g7{R:Type}(j:Nat)(m:Str)(F:Fl->U4->Option (Fl×R))(fr:al->U0):al->Option (R×al):=λρ=>match ρ[j]? with
 |some (some (.ob p0 ks es))=>if ks.contains m=true then none else (fr ρ).bind λds=>(F (ks,es) ds).bind λz=>some (z.2,ρ.set j (bS p0 z.1))
 |_=>none
def GC(h:g7 j m F a ρ=some y):∃p0 fl ds z,ρ[j]?=some (bS p0 fl)/\fl.1.contains m=false/\a ρ=some ds/\F fl ds=some z/\y=(z.2,ρ.set j (bS p0 z.1)):=by
 unfold g7 at h
 split at h
 ·rename_i p0 ks es e
  split at h
  ·cases h
  ·rename_i hn
   have⟨ds,b,h⟩:=bind_some h;have⟨z,c,h⟩:=bind_some h;cases h;exact⟨p0,(ks,es),ds,z,e,lg.mpr hn,b,c,rfl⟩
 ·cases h
section
variable {R:Type}{X:Cx}{st:Stmt}{pos apos:Pos}
theorem pP(c:mR fo)(f:PS X st (sV X.K B fo))(h:bv X rest (sU X.K B RR g)):bv X (st::rest) (sU X.K B RR (lh fo g)):=(dR f h).imp λD i H ⟨Hf,ρ,z,I,hz,q⟩=>by
 refine⟨Hf,ρ,I,?_⟩;unfold lh at hz
 cases e:fo ρ with
 |nx ρ'=>rw[e]at hz;exact λHf' a j _ b=>⟨Hf',ρ',z,b,hz,q⟩
 |bk ρ'=>rw[e]at hz;cases hz
 |ct ρ'=>rw[e]at hz;cases hz
 |rt d=>exact absurd e (c ρ d)
 |rw d=>rw[e]at hz;cases hz
 |bad=>rw[e]at hz;cases hz
theorem xJ(i:PT X c (tV X.K B ft))(j:bv X as (sU X.K B RR f))(l:bv X rest (sU X.K B RR g)):bv X (.If c as [] pos::rest) (sU X.K B RR (lZ ft f g)):=(dR (sJ i j vC) l).imp λD m H ⟨Hf,ρ,z,I,hz,q⟩=>by
 unfold lZ at hz
 cases e:ft ρ with
 |none=>rw[e]at hz;cases hz
 |some b =>
  rw[e]at hz;refine⟨Hf,ρ,b,I,e,λa n h=>?_⟩
  cases b with
  |true=>rw[ya rfl];exact⟨a,ρ,z,I.ext h,hz,q⟩
  |false=>rw[ic bb];exact⟨a,ρ,z,I.ext h,hz,q⟩
def eU(X:Cx)(B:Bs)(RR:RT R)(f:al->Option (R×al)):TE:=λσ H Q=>∃Hf ρ z,VI X.K B Hf ρ σ H/\f ρ=some z/\∀Hf' H' Hn v,aH Hf Hf'->VI X.K B Hf' z.2 σ H'->g6 B Hf' z.2 σ H' Hn->RR Hn Hf' H' z.1 v->Q v H'
def n0(hO:fC X.K C)(c:gI X.K C)(hm:dW X.K C m ga)(G:aG X.prog X.w X.K X.mg X.base aZ k ga fd ps (nY X.K np RR F))(hr:aK k X.A)(r:cB X.K fd ps [])(hN:X.N[j]?=some x)(ha:PA X (e::es) (aV X.K B fr))(hn:∀ρ ds,fr ρ=some ds->ds.length+1=np)(n:cZ X.env.scope x:=by first|exact ac rfl|exact ud (ac rfl)|exact ud (ud rfl))(hd:(x == 'g')=false:=by decide)(R:(x == 'c')=false:=by decide)(T:W1 X (e::es) e es:=by rfl)(U:W2 X pos es:=by rfl)(ht:eval (.Call (.Attribute (.Name x p1) m apos) (e::es) [] pos) X.env=(do
   let ov ← eval (.Name x p1) X.env
   standAt apos.atName
   let (f,first) ← holding [ov] (getMethod ov m pl)
   callWith pos f first (backTo pos (starEach (e::es) X.env)) (backToKw pos (keywordEach [] X.env))):=by rfl):PE X (.Call (.Attribute (.Name x p1) m apos) (e::es) [] pos) (eU X B RR (g7 j m F fr)) :=
 (LA (cR hN n hd R) c hm G hr r .nil iM ha T U ht).imp λσ H Q ⟨Hf,ρ,y,I,hy,q⟩=>by
  obtain⟨p0,fl,ds,z,Z,hk,l,hF,rfl⟩:=GC hy;have⟨p,L,_,M⟩:=I.obAt Z;have⟨C',dx,xs,g1,g2,g3,g4⟩:=M.ex;obtain rfl:=hO.eq g2;refine⟨_,L,p,dx,xs,rfl,g1,xG (by rw[g3];exact hk),Hf,ρ,ds,I,l,λE H1 vs g J=>?_⟩;have O:=I.ext g;refine⟨E,p,fl,ds,vs,z,g.fh,by rw[zc],hn ρ ds l,M.ext g,J,hF,λHf' H' Hn v Y ok s fr rr=>?_⟩;refine q Hf' H' Hn v (g.ff.trans Y.ff) (O.obj Z L Y ok) ⟨s,λb r=>⟨(fr b r).2,O.ex.hh.free (fr b r).1⟩,λi sl a e o z=>?_⟩ rr
  cases w:Hn a with
  |none=>rfl
  |some u =>
   have P:=(fr a (by rw[w];exact λz=>nomatch z)).1;rcases ez e with⟨rfl,h,_⟩|⟨hk,e⟩
   ·rw[L]at z
    cases z;have⟨_,_,ys,q1,_⟩:=(M.ext g).ex
    rw[q1]at P;cases P
   ·exact absurd P (O.there e o z)
def n6(h:PE X e (eU X B RR f)):bv X [.Return (some e) pos] (sU X.K B RR f):=(g9 (mw h)).imp λD a H ⟨Hf,ρ,z,I,hz,q⟩=>⟨Hf,ρ,z,I,hz,λHf' b Hn v _ c g i=>q Hf' a b Hn v c g i⟩
def pQ(f:al->Option (R×al)):al->aO:=λρ=>match f ρ with|some z=>.nx z.2|none=>.bad
theorem QB(h:PE X e (eU X B RR f))(a:W0 X e none pos:=by rfl):PS X (.Expr e pos) (sV X.K B (pQ f)):=(kG h a).imp λD b H ⟨Hf,ρ,I,q⟩=>by
 unfold pQ at q
 cases e:f ρ with
 |none=>rw[e]at q;exact q.elim
 |some z=>rw[e]at q;exact⟨Hf,ρ,z,I,e,λHf' c Hn v s g _ _=>q Hf' b c s g⟩
end
def uG{R:Type}(i:Nat)(fe:al->U5)(g:D->al->Option (R×al)):al->Option (R×al):=λρ=>match ρ[i]? with
 |some none=>(fe ρ).bind λd=>g d ρ
 |_=>none
def pR{R:Type}(i j:Nat)(f:Str)(fe:al->U5)(g:D->al->Option (R×al)):D->al->Option (R×al):=λd ρ=>if i≠j then (match xH j f fe ρ with|.nx ρ'=>g d ρ'|_=>none) else none
def xK{R:Type}(K:Fg1)(B:Bs)(RR:RT R)(i:Nat)(g:D->al->Option (R×al)):TS:=λD σ H=>∃d Hf ρ Hn z,PH K B i d Hf ρ σ H Hn/\g d ρ=some z/\∀Hf' a H' Hn v,VI K B Hf' z.2 a H'->g6 B Hf' z.2 a H' Hn->RR Hn Hf' H' z.1 v->D.rt v H'
section
variable {X:Cx}{pos:Pos}
def QC(A:X.N.Nodup)(C:X.N[i]?=some x)(E:dQ X.env.scope x)(F:PE X e (eF X.K B fe))(G:bv X rest (xK X.K B (rF X.K) i g))(hs:W0 X e (some (.Name x pos')) pos:=by rfl)(J:W3 X x:=by first|exact .inl rfl|exact .inr rfl|assumption) :
  bv X (.Assign [.Name x pos'] e pos::rest) (sU X.K B (rF X.K) (uG i fe g)):=(dR (iG A C E F hs J) G).imp λD n H ⟨Hf,ρ,z,I,hz,q⟩=>by
 unfold uG at hz
 split at hz
 ·rename_i a
  have⟨d,y,hz⟩:=bind_some hz;have hl:i<n.length:=by rw[<-I.len];exact(wb.mp a).1
  refine⟨Hf,ρ,d,I,y,λHf' L Hn k v r s c u=>⟨d,Hf',ρ,Hn,z,⟨(I.ext r).setU a,a,s,λb l=>⟨(c b l).2,I.ex.hh.free (c b l).1⟩,λj sl p f w m=>?_,k,v,by rw[ab hl],u⟩,hz,q⟩⟩;have h:i≠j:=λz=>by subst z;rw[a]at f;cases f
  rw[ca h]at m
  have:=I.there f w m
  cases z:Hn p with
  |none=>rfl
  |some o=>exact absurd (c p (by rw[z];exact λz=>nomatch z)).1 this
 ·cases hz
def A4(hO:fC X.K C)(c:gI X.K C)(n:gx X.K C f)(hN:X.N[j]?=some x)(hv:PE X value (eV X.K B fe))(hr:bv X rest (xK X.K B (rF X.K) i g))(s:cZ X.env.scope x:=by first|exact ac rfl|exact ud (ac rfl)|exact ud (ud rfl))(hd:(x == 'g')=false:=by decide)(O:(x == 'c')=false:=by decide)(hs:W0 X value (some (.Attribute (.Name x p1) f pos')) pos:=by rfl):bv X (.Assign [.Attribute (.Name x p1) f pos'] value pos::rest) (xK X.K B (rF X.K) i (pR i j f fe g)) :=
 (dR (qy (cR hN s hd O) hv hs) hr).imp λD σ H ⟨d,Hf,ρ,Hn,z,I,hz,q⟩=>by
  unfold pR at hz
  split at hz
  ·rename_i E
   cases e:xH j f fe ρ with
   |nx ρ' =>
    rw[e]at hz;unfold xH at e
    split at e
    ·rename_i p0 ks ds v
     split at e
     ·rename_i d' F
      split at e
      ·rename_i hl
       cases e;refine⟨Hf,ρ,d',I.vi,F,λm H1 y r T=>?_⟩
       have a:=I.ext r;have⟨p,G,J,P⟩:=I.vi.obAt (p0:=p0) (fl:=(ks,ds)) v;have⟨Q,L,xs,U,R,M,Y⟩:=(P.ext r).ex;have M:xs.map fst=ks:=M;subst M;obtain rfl:=hO.eq R;have⟨Z,k2⟩:=nX (f:=f) T Y;have f1:m p=none:=(P.ext r).f;have I2:=a.vi.mutG (ob:=.ins Q L (cS f y xs)) v rfl rfl G (sl':=.ob p0 ((lX f d' ((xs.map fst).zip ds)).map fst) ((lX f d' ((xs.map fst).zip ds)).map snd)) ⟨p,(Q,L,cS f y xs),rfl,f1,aT,⟨J,R,Z⟩,k2⟩;refine⟨.ref p,G,p,_,L,xs,rfl,U,c,n,by rw[aa]at hl;omega,d,m,_,gm Hn m,z,⟨I2,by rw[ca (ue E)];exact a.ni,λb u A=>?_,a.fr,λl sl p e o w=>?_,a.ex⟩,hz,q⟩
       ·have:b≠p:=λw=>by
         have:=a.ow j _ p v rfl G
         rw[w,this]at A;cases A
        rw[aI this];exact a.nh b u A
       ·rcases ez e with⟨rfl,h,_⟩|⟨hk,e⟩
        ·cases h;exact a.ow l _ p v rfl w
        ·exact a.ow l sl p e o w
      ·cases e
     ·cases e
    ·cases e
   |bk ρ'=>rw[e]at hz;cases hz
   |ct ρ'=>rw[e]at hz;cases hz
   |rt d=>rw[e]at hz;cases hz
   |rw d=>rw[e]at hz;cases hz
   |bad=>rw[e]at hz;cases hz
  ·cases hz
def QD(f:X.N[i]?=some x)(g:cZ X.env.scope x:=by first|exact ac rfl|exact ud (ac rfl)|exact ud (ud rfl))(h:(x == 'g')=false:=by decide)(a:(x == 'c')=false:=by decide):bv X [.Return (some (.Name x p1)) pos] (xK X.K B (rF X.K) i λd ρ=>some (d,ρ)) :=
 (g9 (mw (cR f g h a))).imp λD b H ⟨d,Hf,ρ,Hn,z,I,hz,q⟩=>by
  cases hz;have⟨k,v,c,e⟩:=I.ex
  exact⟨v,c,q Hf b H Hn v I.vi ⟨I.nh,I.fr,I.ow⟩ ⟨k,e⟩⟩
end
theorem g6.ext(n:g6 B Hf ρ f H Hn)(e:Ex Hf H Hf' c):g6 B Hf' ρ f c (gm Hn Hf'):=by
 refine⟨FZ (n.nh.trans e.hh),λb a=>⟨(wV a).1,(n.fr b (wV a).2).2⟩,λj sl p g h i=>?_⟩
 cases z:gm Hn Hf' p with
 |none=>rfl
 |some o=>have:=n.ow j sl p g h i;rw[(qZ z).2]at this;cases this
theorem g6.cut{K:Fg1}{a:Hp}(n:g6 B Hf ρ c H Hn)(e:Ex Hf H Hf' a)(h:dD K Hn Hf k d v):dD K (gm Hn Hf') Hf' k d v :=
 h.cut (n.nh.trans e.hh) e.fh e.ff λb xs z=>kx e (n.fr b (by rw[z];exact λz=>nomatch z)).1 (n.nh b _ z)
def uF(fe:al->U5):al->Option (D×al):=λρ=>(fe ρ).bind λd=>some (d,ρ)
def n7(f:al->Option (D×al))(f1 f2:al->U5):al->Option ((D×D×D)×al):=λρ=>(f ρ).bind λz=>(f1 z.2).bind λa=>(f2 z.2).bind λb=>some ((z.1,a,b),z.2)
def pS(jt jb jm jk:Nat)(F:Fl->U4->Option (Fl×(D×D×D)))(fr:al->U0)(g:GP):al->aO:=λρ=>match g7 jk "" F fr ρ with
 |some ((a,b,c),ρ')=>if jt<ρ.length then g a (((ρ'.set jt none).set jb (some (.sh b))).set jm (some (.sh c))) else .bad
 |none=>.bad
def l5(i j:Nat)(fe:al->U5)(g:GP):GP:=λd ρ=>if i≠j then (match fe ρ with|some d'=>g d (ρ.set j (some (.sh d')))|none=>.bad) else .bad
def A5(i:Nat)(f:al->aO):GP:=λd ρ=>f (ρ.set i (some (.sh d)))
def n8(i:Nat)(ft:al->Y3)(ga a:GP)(g:al->aO):GP:=λd ρ=>match ft (ρ.set i (some (.sh d))) with
 |some true=>(match ga d ρ with|.nx ρ'=>g ρ'|_=>.bad)
 |some false=>(match a d ρ with|.nx ρ'=>g ρ'|_=>.bad)
 |none=>.bad
section
variable {X:Cx}{a:Expr}{pos:Pos}
theorem QE(h:PE X e (eF X.K B fe)):PE X e (eU X B (rF X.K) (uF fe)):=h.imp λu H Q ⟨Hf,ρ,z,I,hz,q⟩=>by
 have⟨d,r,hz⟩:=bind_some hz;cases hz;refine⟨Hf,ρ,d,I,r,λHf' g Hn k v c s a j=>q Hf' g Hn v c.ff (I.ext c) ⟨s,λb f=>⟨(a b f).2,I.ex.hh.free (a b f).1⟩,λi sl p l m n=>?_⟩ ⟨k,j⟩⟩
 have:=I.there l m n
 cases z:Hn p with
 |none=>rfl
 |some o=>exact absurd (a p (by rw[z];exact λz=>nomatch z)).1 this
theorem uH{x1}(P:PE X a (eU X B (rF X.K) f))(R:PE X b (eV X.K B f1))(T:PE X c (eV X.K B f2))(U:W1 X [a,b,c] a [b,c]:=by rfl)(Y:W1 X [b,c] b [c]:=by rfl)(Z:W1 X [c] c []:=by rfl) :
  PE X (.Tuple [a,b,c] x1 pos) (eU X B (rT X.K) (n7 f f1 f2)):=(za (el P (el R (el T fL Z) Y) U)).imp λσ H Q ⟨Hf,ρ,y,I,i,q⟩=>by
 have⟨z,hz,i⟩:=bind_some i;have⟨M,fV,i⟩:=bind_some i;have⟨N,v,i⟩:=bind_some i;cases i;refine⟨Hf,ρ,z,I,hz,λm H1 Hn x J n r ⟨k,L⟩=>⟨m,z.2,M,n,fV,λl H2 A e s=>⟨l,z.2,N,n.ext e,v,λg C E h u=>?_⟩⟩⟩;have w:=(r.ext e).ext h;have O:=(r.ext e).cut h (r.cut e L);have G:=(n.ext e).ext h;refine⟨sz (show 3<=100000 by decide),λp F=>?_⟩;have j:Ex g C g (aF C p (.tup [x,A,E])):=Ex.made G.fh F;refine q g _ _ (.ref p) ((J.trans e.ff).trans h.ff) (G.ext j) (w.ext j) ⟨p,x,A,E,k,rfl,aT,?_,w.cut j O,Dn.same s h.ff,u⟩
 cases z:gm (gm (gm Hn l) g) g p with
 |none=>rfl
 |some o =>
  have:=w.nh p o (qZ z).2
  rw[F]at this;cases this
def VI.setS{K:Fg1}{ρ:al}{a:St}(I:VI K B Hf ρ a H)(hl:i<ρ.length)(v:V):VI K B Hf (ρ.set i none) (a.set i (some v)) H:=(I.drop i).setU (by rw[ab hl])
def QF{j f c:Str}{fa:Addr}{es:Y5}(x:jt≠jb/\jt≠jm)(hc:X.calm=true)(E:X.N.Nodup)(ht:X.N[jt]?=some j)(T:X.N[jb]?=some f)(hm:X.N[jm]?=some c)(hk:X.N[jk]?=some xk)(lt:dQ X.env.scope j)(lb:dQ X.env.scope f)(lm:dQ X.env.scope c)(G:aG X.prog X.w X.K X.mg X.base aZ k fa fd ps (nY X.K np (rT X.K) F))(hr:aK k X.A)(hg:Gl X L)(hmg:X.mg L=some (.ref fa))(hkp:keepIn X.K (.ref fa)=true)(hbd:cB X.K fd ps [])(ha:PA X es (aV X.K B C))(hn:∀ρ ds,C ρ=some ds->ds.length+1=np)(J:bv X rest (sP X.K B jt g))(hv:cZ X.env.scope xk:=by first|exact ac rfl|exact ud (ac rfl)|exact ud (ud rfl))(hd:(xk == 'g')=false:=by decide)(hcd:(xk == 'c')=false:=by decide)(hdb:(L == 'g')=false:=by decide)(R:W1 X (.Name xk P::es) (.Name xk P) es:=by rfl)(hpl:W2 X U es:=by rfl)(ft:W3 X j:=by first|exact .inl rfl|exact .inr rfl|assumption)(fb:W3 X f:=by first|exact .inl rfl|exact .inr rfl|assumption)(fm:W3 X c:=by first|exact .inl rfl|exact .inr rfl|assumption)(e1:(assignEach [.Name j r,.Name f n,.Name c l] X.env).map (·.2)=assign (.Name j r) X.env::(assignEach [.Name f n,.Name c l] X.env).map (·.2):=by rfl)(e2:(assignEach [.Name f n,.Name c l] X.env).map (·.2)=assign (.Name f n) X.env::(assignEach [.Name c l] X.env).map (·.2):=by rfl)(e3:(assignEach [.Name c l] X.env).map (·.2)=assign (.Name c l) X.env::(assignEach [] X.env).map (·.2):=by rfl)(n3:(assignEach [.Name j r,.Name f n,.Name c l] X.env).length=3:=by rfl)(n4:(assignEach [.Name j r,.Name f n,.Name c l] X.env).findIdx? (·.1)=none:=by rfl)(hs:swapsWithSole [.Tuple [.Name j r,.Name f n,.Name c l] Q O] (.Call (.Name L p1) (.Name xk P::es) [] U) pos.line X.env=pure false:=by rfl)(hw:swappedStores [.Tuple [.Name j r,.Name f n,.Name c l] Q O] (.Call (.Name L p1) (.Name xk P::es) [] U) X.env=pure none:=by rfl)(h1:(assignEach [.Tuple [.Name j r,.Name f n,.Name c l] Q O] X.env).map (·.2)=[assign (.Tuple [.Name j r,.Name f n,.Name c l] Q O) X.env]:=by rfl) :
  bv X (.Assign [.Tuple [.Name j r,.Name f n,.Name c l] Q O] (.Call (.Name L p1) (.Name xk P::es) [] U) pos::rest) (sV X.K B (pS jt jb jm jk F C g)) :=
 (dR (yY (kI G hr hg hmg hkp hbd .nil iM (el (cR hk hv hd hcd) ha R) hdb R hpl) (yW hc (qb (lH E ht lt ft) (qb (lH E T lb fb) (qb (lH E hm lm fm) yV e3) e2) e1) n3 n4) hs hw h1) J).imp λD σ H ⟨Hf,ρ,I,q⟩=>by
  unfold pS at q
  cases hu:g7 jk "" F C ρ with
  |none=>rw[hu]at q;exact q.elim
  |some y =>
   rw[hu]at q;obtain⟨p0,fl,ds,z,hj,_,M,hF,rfl⟩:=GC hu;obtain⟨fl',d0,d1,d2⟩:=z;dsimp only at q
   split at q
   ·rename_i hl
    have⟨p,g1,_,g2⟩:=I.obAt hj;refine⟨_,g1,Hf,ρ,ds,I,M,λY H1 vs m Z=>?_⟩;have I1:=I.ext m;refine⟨Y,p,fl,ds,vs,_,m.fh,by rw[zc],hn ρ ds M,g2.ext m,Z,hF,λHf' H' Hn v ex ok s C rr=>?_⟩;obtain⟨a,v0,v1,v2,kk,rfl,ha,hna,r0,r1,r2⟩:=rr;have I2:=I1.obj hj g1 ex ok;refine⟨a,_,rfl,.inl (.inl ha),rfl,v0,_,rfl,v1,_,rfl,v2,_,rfl,rfl,?_⟩;have I3:=((I2.setS (i:=jt) (by rw[sf];exact hl) v0).set (i:=jb) r1).set (i:=jm) r2;have hsl:jt<σ.length:=by rw[<-I.len];exact hl
    refine⟨d0,Hf',_,Hn,⟨I3,?_,s,λb T=>⟨(C b T).2,I1.ex.hh.free (C b T).1⟩,λi sl p e o w=>?_,kk,v0,?_,r0⟩,fR.mono q (m.ff.trans ex.ff)⟩
    ·rw[ca (ue x.2),ca (ue x.1),ab (by rw[sf];exact hl)]
    ·rcases ez e with⟨_,h,_⟩|⟨k1,e⟩
     ·cases h;cases o
     ·rw[ca (ue k1)]at w
      rcases ez e with⟨_,h,_⟩|⟨k2,e⟩
      ·cases h;cases o
      ·rw[ca (ue k2)]at w
       rcases ez e with⟨_,h,_⟩|⟨k3,e⟩
       ·cases h
       ·rw[ca (ue k3)]at w
        cases y:Hn p with
        |none=>rfl
        |some u =>
         have h0:=(C p (by rw[y];exact λz=>nomatch z)).1;rcases ez e with⟨rfl,h,_⟩|⟨k4,e⟩
         ·rw[g1]at w
          cases w;have⟨_,_,ys,q1,_⟩:=(g2.ext m).ex
          rw[q1]at h0;cases h0
         ·exact absurd h0 (I1.there e o w)
    ·rw[ca (ue x.2),ca (ue x.1),ab hsl]
   ·exact q.elim
def GE{a:Pos}(z:X.N.Nodup)(A:X.N[j]?=some x)(C:dQ X.env.scope x)(E:PE X e (eV X.K B fe))(F:bv X rest (sP X.K B i g))(hs:W0 X e (some (.Name x a)) pos:=by rfl)(G:W3 X x:=by first|exact .inl rfl|exact .inr rfl|assumption) :
  bv X (.Assign [.Name x a] e pos::rest) (sP X.K B i (l5 i j fe g)):=(dR (iG z A C E hs G) F).imp λD J H ⟨d,Hf,ρ,Hn,I,q⟩=>by
 unfold l5 at q
 split at q
 ·rename_i m
  cases e:fe ρ with
  |none=>rw[e]at q;exact q.elim
  |some d' =>
   rw[e]at q;refine⟨Hf,ρ,d',I.vi,e,λc L v f n=>?_⟩;have b:=I.ext f;have⟨k,y,r,s⟩:=b.ex;refine⟨d,c,_,gm Hn c,⟨b.vi.set n,by rw[ca (ue m)];exact b.ni,b.nh,b.fr,λl sl p e o w=>?_,k,y,by rw[ca (ue m)];exact r,s⟩,fR.mono q f.ff⟩;rcases ez e with⟨rfl,h,_⟩|⟨u,e⟩
   ·cases h;cases o
   ·rw[ca (ue u)]at w
    exact b.ow l sl p e o w
 ·exact q.elim
def QG{a:al->aO}(h:bv X sts (sV X.K B a)):bv X sts (sP X.K B i (A5 i a)):=h.imp λD b H ⟨d,Hf,ρ,Hn,I,q⟩=>⟨jn Hf (noF Hn),_,I.sh,fR.mono q ew⟩
theorem QH{j:GP}{g:al->aO}(o:PT X c (tV X.K B ft))(p:bv X as (sP X.K B i j))(r:bv X bs (sP X.K B i l))(s:bv X rest (sV X.K B g)):bv X (.If c as bs pos::rest) (sP X.K B i (n8 i ft j l g)):=(dR (sJ o p r) s).imp λD u H ⟨d,Hf,ρ,Hn,I,q⟩=>by
 unfold n8 at q
 cases e:ft (ρ.set i (some (.sh d))) with
 |none=>rw[e]at q;exact q.elim
 |some b =>
  rw[e]at q;refine⟨jn Hf (noF Hn),ρ.set i (some (.sh d)),b,I.sh,e,λm v a=>?_⟩
  cases b with
  |true =>
   rw[ya rfl];refine⟨d,Hf,ρ,Hn,I.heap a.hh,?_⟩;dsimp only at q
   cases e2:j d ρ with
   |nx ρ'=>rw[e2]at q;exact λHf' f n z h=>⟨Hf',ρ',h,fR.mono q z⟩
   |_=>rw[e2]at q;exact q.elim
  |false =>
   rw[ic bb];refine⟨d,Hf,ρ,Hn,I.heap a.hh,?_⟩;dsimp only at q
   cases e2:l d ρ with
   |nx ρ'=>rw[e2]at q;exact λHf' f n z h=>⟨Hf',ρ',h,fR.mono q z⟩
   |_=>rw[e2]at q;exact q.elim
end
def pf(f:Str)(d:D)(fl:Fl):Fl:=((lX f d (fl.1.zip fl.2)).map fst,(lX f d (fl.1.zip fl.2)).map snd)
structure uI(H Hg H':Hp):Prop where
 s:aH Hg H'
 nw:∀b,Hg b≠none->jX H b
 nf:∀b o u,Hg b≠some (.frz o u)
def xL:D->Bool
 |.lst ds=>ds.all λd=>match d with|.tup [p,.lst es]=>cH 3 p && es.all (cH 3)|_=>false
 |_=>false
def xM(f1 f4:al->U0)(f2 f3 f5:al->U5)(p0:Y9)(ρ:al):Option Fl :=
 (f1 ρ).bind λa=>if a.all (cH 3)=true then
  (f2 (ρ.set 0 (bS p0 (pf "book" (.lst a) ([],[]))))).bind λb=>if cH 3 b=true then
   (f3 (ρ.set 0 (bS p0 (pf "most" b (pf "book" (.lst a) ([],[])))))).bind λc=>if cH 3 c=true then
    (f4 (ρ.set 0 (bS p0 (pf "first" c (pf "most" b (pf "book" (.lst a) ([],[]))))))).bind λe=>if e.all (cH 3)=true then
     (f5 (ρ.set 0 (bS p0 (pf "marks" (.lst e) (pf "first" c (pf "most" b (pf "book" (.lst a) ([],[])))))))).bind λz=>if pN z=true/\xL z=true then
      some (pf "known" z (pf "marks" (.lst e) (pf "first" c (pf "most" b (pf "book" (.lst a) ([],[])))))) else none
    else none
   else none
  else none
 else none
def mY[Decidable c](h:(if c then x else none)=some y):c/\x=some y:=by
 split at h
 ·rename_i a;exact⟨a,h⟩
 ·cases h
theorem d6.tups{K:Fg1}(h:d6 K Hf H e rs qs)(hn:∀r∈e,cH 3 r.1=true/\r.2.all (cH 3)=true):d6 K (bQ Hf) H e rs qs:=by
 induction h with
 |nil=>exact .nil
 |cons a b c d f g _ l =>
  have i:=hn _ (cc ..);refine .cons (pF a) ?_ (by unfold bQ;rw[c]) d (xy i.2 f) g (l λr j=>hn r (ua _ j));obtain⟨k,z⟩:=b;exact⟨k,AU i.1 z⟩
def GF{K:Fg1}(h:cH 3 d=true)(a:Dn K Hf d v):Dn K (bQ Hf) d v:=let ⟨k,z⟩:=a;⟨k,AU h z⟩
def xN(s:aH H H'):aH (bQ H) (bQ H'):=λb u h=>by
 have a:=h;unfold bQ at h
 split at h
 ·rename_i xs e;cases h;exact pF (s _ _ e)
 ·cases h
def QI(h:xL (mS a)=true):∀r∈a,cH 3 r.1=true/\r.2.all (cH 3)=true:=λr b=>by
 have:=lc.mp h (k6 r) (ub.mpr ⟨r,b,rfl⟩)
 exact uc _ _ ▸ this
theorem QJ(h:∀b∈l,b∈m):aH (iw A H l) (iw A H m):=λb u e=>by
 unfold iw jn at e ⊢
 cases w:A b with
 |some o=>rw[w]at e;exact e
 |none =>
  rw[w]at e;dsimp only at e ⊢;have a:b∈l:=Gx (H:=H) (pB (by rw[e];exact λz=>nomatch z));have c:nW H l b=nW H m b:=by rw[A2 a,A2 (h b a)]
  unfold noF at e ⊢;rw[<-c];exact e
section
variable {K:Fg1}{ρ:al}
def VI.putS(I:VI K B Hf ρ σ H)(i:ρ[0]?=some (bS p0 fl))(a:σ[0]?=some (some (.ref p)))(n:H p=some (.ins C dx xs))(c:Ex Hf H Hf1 H1)(o:Dn K Hf1 d v):VI K B Hf1 (ρ.set 0 (bS p0 (pf f d fl))) σ (aF H1 p (.ins C dx (cS f v xs))):=by
 have⟨q,e,b,ok⟩:=I.obAt i;rw[a]at e;cases e;have⟨_,_,ys,g,j,l,m⟩:=ok.ex;rw[n]at g;cases g;have⟨h,k2⟩:=nX (f:=f) o (aR.same m c.ff);rw[l]at h k2;exact(I.ext c).mutG i rfl rfl a ⟨p,(C,dx,cS f v xs),rfl,(ok.ext c).f,aT,⟨b,j,h⟩,k2⟩
end
def sI(K:Fg1)(B:Bs)(f:Y9->al->Option Fl):TS:=λD σ H=>∃Hf ρ p C dx fl,VI K B Hf ρ σ H/\ρ[0]?=some (bS (some p) ([],[]))/\H p=some (.ins C dx [])/\fC K C/\f (some p) ρ=some fl/\∀Hg H' xs,aH (rem H p) H'->H' p=some (.ins C dx xs)->xs.map fst=fl.1->uI H Hg H'->Hg p=none->aR K Hg fl.2 (xs.map snd)->D.nx σ H'
section
variable {X:Cx}{B:Bs}{C:Addr}{x:Str}{e1 e2 e3 e4 e5:Expr}{f1 f4:al->U0}{f2 f3 f5:al->U5}{a1 a2 a3 a4 a5 b1 b2 b3 b4 b5 c1 c2 c3 c4 c5:Pos}
def QK(hO:fC X.K C)(cl:gI X.K C)(n1:gx X.K C "book")(n2:gx X.K C "most")(n3:gx X.K C "first")(n4:gx X.K C "marks")(n5:gx X.K C "known")(hN:X.N[0]?=some x)(h1:PE X e1 (eW X.K B f1))(h2:PE X e2 (eV X.K B f2))(h3:PE X e3 (eV X.K B f3))(h4:PE X e4 (eW X.K B f4))(h5:PE X e5 (pE X.K B f5))(l:cZ X.env.scope x:=by first|exact ac rfl|exact ud (ac rfl)|exact ud (ud rfl))(hd:(x == 'g')=false:=by decide)(O:(x == 'c')=false:=by decide)(s1:W0 X e1 (some (.Attribute (.Name x a1) "book" b1)) c1:=by rfl)(s2:W0 X e2 (some (.Attribute (.Name x a2) "most" b2)) c2:=by rfl)(s3:W0 X e3 (some (.Attribute (.Name x a3) "first" b3)) c3:=by rfl)(s4:W0 X e4 (some (.Attribute (.Name x a4) "marks" b4)) c4:=by rfl)(s5:W0 X e5 (some (.Attribute (.Name x a5) "known" b5)) c5:=by rfl) :
  bv X [.Assign [.Attribute (.Name x a1) "book" b1] e1 c1,.Assign [.Attribute (.Name x a2) "most" b2] e2 c2,.Assign [.Attribute (.Name x a3) "first" b3] e3 c3,.Assign [.Attribute (.Name x a4) "marks" b4] e4 c4,.Assign [.Attribute (.Name x a5) "known" b5] e5 c5] (sI X.K B (xM f1 f4 f2 f3 f5)) :=
 (dR (qy (cR hN l hd O) h1 s1) (dR (qy (cR hN l hd O) h2 s2) (dR (qy (cR hN l hd O) h3 s3) (dR (qy (cR hN l hd O) h4 s4) (g9 (qy (cR hN l hd O) h5 s5)))))).imp λD σ H ⟨Hf,ρ,p,T,U,fl,I,h0,x0,hC,i,q⟩=>by
  have⟨a,ha,i⟩:=bind_some i;have⟨na,i⟩:=mY i;have⟨b,hb,i⟩:=bind_some i;have⟨nb,i⟩:=mY i;have⟨c,hc,i⟩:=bind_some i;have⟨nc,i⟩:=mY i;have⟨e,he,i⟩:=bind_some i;have⟨ne,i⟩:=mY i;have⟨z,hz,i⟩:=bind_some i;have⟨⟨hz1,hz2⟩,i⟩:=mY i;cases i;obtain⟨L,rfl⟩:=A3 hz1;have⟨j,g,hpq,ok⟩:=I.obAt h0
  obtain rfl:j=p:=by
   rcases hpq with z|z
   ·cases z
   ·exact(ae z).symm
  obtain rfl:=hO.eq hC;have hl:0<ρ.length:=(wb.mp h0).1;have hB:B.h j=none:=I.own 0 _ _ h0 rfl g;have gs:∀{y:Y1},(ρ.set 0 y)[0]?=some y:=λ{y}=>ab hl
  have P:∀(f:Str) (v:V) (fs:List (Str×V)) (n:Nat),fs.length<=n->(cS f v fs).length<=n+1:=λf v fs n h=>re (y8 f v fs) 'o'
  have l9:∀{n m:Nat},n<=m->m<1000->n<1000:=λh1 h2=>'o'
  refine⟨Hf,ρ,a,I,ha,λHf1 H1 r y1 J w1 u1 t1 d1=>⟨_,g,j,T,U,[],rfl,J.hh _ _ x0,cl,n1,'d',?_⟩⟩;have I1:=I.putS (f:="book") h0 g x0 (J.frz w1 t1 u1) (f7 (bA.of aT) (d1.same (eP u1)));refine⟨_,_,b,I1,hb,λHf2 H2 v2 A d2=>⟨_,g,j,T,U,_,rfl,A.hh _ _ aT,cl,n2,l9 (P _ _ _ 0 (dc _)) 'd',?_⟩⟩;have I2:=I1.putS (f:="most") gs g aT A d2;rw[jw]at I2;refine⟨_,_,c,I2,hc,λHf3 H3 v3 E d3=>⟨_,g,j,T,U,_,rfl,E.hh _ _ aT,cl,n3,l9 (P _ _ _ 1 (P _ _ _ 0 (dc _))) 'd',?_⟩⟩;have I3:=I2.putS (f:="first") gs g aT E d3;rw[jw]at I3;refine⟨_,_,e,I3,he,λHf4 H4 s y4 F Y u4 t4 d4=>⟨_,g,j,T,U,_,rfl,F.hh _ _ aT,cl,n4,l9 (P _ _ _ 2 (P _ _ _ 1 (P _ _ _ 0 (dc _)))) 'd',?_⟩⟩;have I4:=I3.putS (f:="marks") gs g aT (F.frz Y t4 u4) (f7 (bA.of aT) (d4.same (eP u4)));rw[jw]at I4;refine⟨_,_,L,I4,hz,λHf5 H5 t rs qs G w5 r5=>⟨_,g,j,T,U,_,rfl,G.hh _ _ aT,cl,n5,l9 (P _ _ _ 3 (P _ _ _ 2 (P _ _ _ 1 (P _ _ _ 0 (dc _))))) 'd',?_⟩⟩;have Z:∀{b:Addr} {u:HO},b≠j->H1 b=some u->H5 b=some u:=λ{b u} hb h=>G.hh _ _ (by rw[aI hb];exact F.hh _ _ (by rw[aI hb];exact E.hh _ _ (by rw[aI hb];exact A.hh _ _ (by rw[aI hb];exact h))))
  have up0:∀{b:Addr} {u:HO},b≠j->H b=some u->H5 b=some u:=λ{b u} hb h=>Z hb (J.hh _ _ h)
  have dn0:∀{b:Addr},aF H4 j (.ins T U (cS "marks" (.ref s) (cS "first" v3 (cS "most" v2 (cS "book" (.ref r) []))))) b=none->b≠j/\H b=none:=λ{b} h=>by
   have hb:b≠j:=λz=>by rw[z,aT]at h;cases h
   rw[aI hb]at h;have h:=F.hh.free h;rw[aI hb]at h;have h:=E.hh.free h;rw[aI hb]at h;have h:=A.hh.free h;rw[aI hb]at h;exact⟨hb,J.hh.free h⟩
  have p1:r≠j:=λz=>by rw[z,x0]at w1;cases w1
  have p4:s≠j/\H s=none:=by
   have hb:s≠j:=λz=>by rw[z,aT]at Y;cases Y
   rw[aI hb]at Y;have h:=E.hh.free Y;rw[aI hb]at h;have h:=A.hh.free h;rw[aI hb]at h;exact⟨hb,J.hh.free h⟩
  have Q:∀b∈r::s::t::qs,b≠j/\H b=none:=λb hb=>by
   rcases wc.mp hb with rfl|hb
   ·exact⟨p1,w1⟩
   ·rcases wc.mp hb with rfl|hb
    ·exact p4
    ·exact dn0 (w5 b hb)
  have f5:Hf5 j=none:=by
   have⟨pz,z1,_,z2⟩:=I4.obAt gs;rw[g]at z1;cases z1;exact(z2.ext G).f
  have tp:bQ Hf5 j=none:=by unfold bQ;rw[f5]
  have M:aH (bQ Hf5) H5:=uC.trans G.fh;have q1H:H5 r=some (.lst y1):=Z p1 t1;have q4H:H5 s=some (.lst y4):=G.hh _ _ (by rw[aI p4.1];exact t4);have R:aH Hf4 Hf5:=(eP u4).trans G.ff;have s25:aH Hf2 Hf5:=(E.ff.trans F.ff).trans R;have s15:aH Hf1 Hf5:=((eP u1).trans A.ff).trans s25;have s35:aH Hf3 Hf5:=F.ff.trans R;have D1:Dn X.K (iw (bQ Hf5) H5 (r::s::t::qs)) (.lst a) (.ref r):=f7 (bA.of (xD M (cc ..) q1H)) (aR.same (xy na d1) ((xN s15).trans ew));have D2:Dn X.K (iw (bQ Hf5) H5 (r::s::t::qs)) b v2:=(GF nb d2).same ((xN s25).trans ew);have D3:Dn X.K (iw (bQ Hf5) H5 (r::s::t::qs)) c v3:=(GF nc d3).same ((xN s35).trans ew);have D4:Dn X.K (iw (bQ Hf5) H5 (r::s::t::qs)) (.lst e) (.ref s):=f7 (bA.of (xD M (ua _ (cc ..)) q4H)) (aR.same (xy ne d4) ((xN R).trans ew));have r6:q9 X.K (bQ Hf5) H5 t L rs qs:=⟨r5.ht,by unfold bQ;rw[r5.hf],r5.nt,r5.rw.tups (QI hz2)⟩
  have D5:Dn X.K (iw (bQ Hf5) H5 (r::s::t::qs)) (mS L) (.ref t):=(r6.dn M).same (QJ λb hb=>ua _ (ua _ hb));have k1:=nX (f:="book") D1 (fs:=[]) (ds:=[]) .nil;have k2:=nX (f:="most") D2 k1.2;have k3:=nX (f:="first") D3 k2.2;have k4:=nX (f:="marks") D4 k3.2;have k5:=nX (f:="known") D5 k4.2;have j1:(cS "book" (.ref r) []).map fst=(pf "book" (.lst a) ([],[])).1:=k1.1;have j2:(cS "most" v2 (cS "book" (.ref r) [])).map fst=(pf "most" b (pf "book" (.lst a) ([],[]))).1:=k2.1.trans (by rw[j1];rfl);have j3:(cS "first" v3 (cS "most" v2 (cS "book" (.ref r) []))).map fst=(pf "first" c (pf "most" b (pf "book" (.lst a) ([],[])))).1:=k3.1.trans (by rw[j2,j1];rfl);have j4:(cS "marks" (.ref s) (cS "first" v3 (cS "most" v2 (cS "book" (.ref r) [])))).map fst=(pf "marks" (.lst e) (pf "first" c (pf "most" b (pf "book" (.lst a) ([],[]))))).1:=k4.1.trans (by rw[j3,j2,j1];rfl);have j5:=k5.1;have j6:=k5.2;rw[j4,j3,j2,j1]at j5 j6;refine q (iw (bQ Hf5) H5 (r::s::t::qs)) _ _ (λb u h=>?_) aT j5 ⟨λb u h=>?_,λb h=>?_,λb o u h=>?_⟩ (xE tp λz=>(Q _ z).1 rfl) j6
  ·have hb:b≠j:=λz=>by rw[z,A1]at h;cases h
   rw[lW hb]at h;rw[aI hb];exact up0 hb h
  ·have hb:b≠j:=λz=>by
    rw[z,xE tp λz=>(Q _ z).1 rfl]at h;cases h
   rw[aI hb];exact Gy M b u h
  ·cases y:H b with
   |none=>exact .inl y
   |some o =>
    have hb:b≠j:=λz=>by rw[z,xE tp λz=>(Q _ z).1 rfl]at h;exact h rfl
    have hbl:b ∉ r::s::t::qs:=λz=>by rw[(Q b z).2]at y;cases y
    cases w:bQ Hf5 b with
    |none=>exact absurd (xE w hbl) h
    |some u =>
     have h5:=M b u w;rw[up0 hb y]at h5;cases h5;unfold bQ at w
     split at w
     ·cases w;exact .inr ⟨_,y⟩
     ·cases w
  ·have:=qY h
   unfold bQ at this
   split at this
   ·cases this
   ·cases this
end
open Classical in
def rE(n:Nat)(f:Y9->al->Option Fl)(ds:U4):Option Fl:=if h:∃z,∀p,f (some p) ((bY n (.non::ds)).set 0 (bS (some p) ([],[])))=some z then some h.choose else none
def QL(h:rE n f ds=some z)(p:Addr):f (some p) ((bY n (.non::ds)).set 0 (bS (some p) ([],[])))=some z:=by
 unfold rE at h
 split at h
 ·rename_i a;cases h;exact a.choose_spec p
 ·cases h
def QM(h:∀p,f (some p) ((bY n (.non::ds)).set 0 (bS (some p) ([],[])))=some z):rE n f ds=some z:=by
 have a:∃z,∀p,f (some p) ((bY n (.non::ds)).set 0 (bS (some p) ([],[])))=some z:=⟨z,h⟩
 unfold rE;rw[dif_pos a,<-a.choose_spec 0,h 0]
def A6(K:Fg1)(np:Nat)(F:U4->Option Fl):Sp:=λvs H Q _=>∃Hf p C dx ds us fl,aH Hf H/\vs=.ref p::us/\ds.length+1=np/\aR K Hf ds us/\Hf p=none/\H p=some (.ins C dx [])/\fC K C/\F ds=some fl ∧
 ∀Hg H' xs,aH (rem H p) H'->H' p=some (.ins C dx xs)->xs.map fst=fl.1->uI H Hg H'->Hg p=none->aR K Hg fl.2 (xs.map snd)->Q .non H'
section
variable {K:Fg1}
def QN{st:Stmt}{N ps:U8}(R:I=rE nN fs)(n:ps.length=v)(T:N.length=nN)(hn:v<=nN)(F:d8 K x j st f G)(S:ax N ps (bj st))(m:∀(l:Value) (A:Around) (i:Yb) (s:Shared) (H:Hp) (E:XK) (B:Bs),aK k (A.deeper (envOfC j (bj st) s.heap.objs.size f l))->bv (gJ aZ P w K mg base N j (bj st) f l A i s H E).nox (fq st) (sI K B fs)):aG P w K mg base aZ (k+1) f G ps (A6 K v I):=by
 subst R n T;refine F.ok S (λvs H Q E h=>?_) (λl A i s H vs Q E J h=>?_)
 ·obtain⟨Hf,p,C,o,ds,us,fl,_,rfl,y,r,_⟩:=h
  rw[gc,<-r.length];exact y
 ·obtain⟨Hf,p,C,o,ds,us,fl,hs,rfl,y,r,u,n,z,O,q⟩:=h
  refine⟨_,m l A i s H E ⟨Hf,rem H p⟩ J,Hf,_,p,C,o,fl,VI.initO hs ⟨u,C,o,[],n,z,rfl,.nil⟩ r 'o',?_,n,z,QL O p,λL M xs a b c d e g=>q L M xs a b c d e g⟩;rw[ab (by unfold bY;simp)]
end
section
variable {K:Fg1}{B:Bs}{ρ:al}{σ:St}
def VI.setGo(I:VI K B Hf ρ σ H)(A:B.h q=none)(ok:hU K Hf H sl (.ref q))(ap:∀(k:Nat) sl,ρ[k]?=some (some sl)->cz sl=true->σ[k]?≠some (some (.ref q))):VI K B Hf (ρ.set i (some sl)) (σ.set i (some (.ref q))) H:=by
 have hs:∀{k:Nat} {x:V},k≠i->(σ.set i (some (.ref q)))[k]?=some (some x)->σ[k]?=some (some x):=λ{k x} c z=>by rw[ca (ue c)]at z;exact z
 have b:i<ρ.length->(σ.set i (some (.ref q)))[i]?=some (some (.ref q)):=λhl=>by rw[ab (by rw[<-I.len];exact hl)]
 refine⟨I.ex,by rw[sf,sf];exact I.len,λk sl e=>?_,λk sl a e o z=>?_,λk l r sl a e1 e2 s u f g=>?_⟩
 ·rcases ez e with⟨rfl,h,hl⟩|⟨c,e⟩
  ·cases h
   exact⟨.ref q,b hl,ok⟩
  ·have⟨v,w,j⟩:=I.ok k sl e
   exact⟨v,by rw[ca (ue c)];exact w,j⟩
 ·rcases ez e with⟨rfl,h,hl⟩|⟨c,e⟩
  ·rw[b hl]at z;cases z;exact A
  ·exact I.own k sl a e o (hs c z)
 ·rcases ez e1 with⟨rfl,w,m⟩|⟨c,y⟩
  ·rcases ez e2 with⟨rfl,j,_⟩|⟨hl,n⟩
   ·rfl
   ·rw[b m]at f;cases f
    exact absurd (hs hl g) (ap l sl n u)
  ·rcases ez e2 with⟨rfl,j,p⟩|⟨hl,n⟩
   ·rw[b p]at g;cases g
    exact absurd (hs c f) (ap k r y s)
   ·exact I.dis k l r sl a y n s u (hs c f) (hs hl g)
end
def rG(i j:Nat)(F:U4->Option Fl)(fr:al->U0)(g:GP):GP:=λd ρ=>if i≠j then (match fr (ρ.set i (some (.sh d))) with
 |some ds=>(match F ds with|some fl=>g d (ρ.set j (bS none fl))|none=>.bad)
 |none=>.bad) else .bad
section
variable {X:Cx}{pos:Pos}
def GH(hO:fC X.K C)(M:Mk X.K C f)(G:aG X.prog X.w X.K X.mg X.base aZ k f fd ps (A6 X.K np F))(hr:aK (k+1) X.A)(hg:Gl X cx)(hm:X.mg cx=some (.ref C))(hb:cB X.K fd ps [])(ha:PA X (e::es) (aV X.K B fr))(hn:∀ρ ds,fr ρ=some ds->ds.length+1=np)(hN:X.N.Nodup)(hj:X.N[j]?=some x)(hx:dQ X.env.scope x)(n:bv X rest (sP X.K B i g))(hdb:(cx == 'g')=false:=by decide)(he:W1 X (e::es) e es:=by rfl)(hpl:W2 X cp es:=by rfl)(hs:W0 X (.Call (.Name cx p1) (e::es) [] cp) (some (.Name x pos')) pos:=by rfl)(hf:W3 X x:=by first|exact .inl rfl|exact .inr rfl|assumption) :
  bv X (.Assign [.Name x pos'] (.Call (.Name cx p1) (e::es) [] cp) pos::rest) (sP X.K B i (rG i j F fr g)) :=
 (dR (iG hN hj hx (LC M G hr hg hm hb .nil iM ha hdb he hpl) hs hf) n).imp λD σ H ⟨d,Hf,ρ,Hn,I,q⟩=>by
  unfold rG at q
  split at q
  ·rename_i E
   split at q
   ·rename_i ds J
    split at q
    ·rename_i fl hF
     refine⟨jn Hf (noF Hn),_,ds,I.sh,J,λQ L vs a R y r O T U=>?_⟩;have Z:aF L r (.own y) y=none:=by rw[aI (ue U)];exact O
     have m:aH L (aF (aF L r (.own y)) y (.ins C r [])):=(eP T).trans (eP Z);refine⟨Q,y,C,r,ds,vs,fl,a.fh.trans m,by rw[zc],hn _ ds J,R,a.fh.free O,aT,hO,hF,λY H' xs a1 a2 a3 a4 a5 a6=>⟨rfl,?_⟩⟩;have s1:aH L H':=λb u h=>a1 b u (by rw[lW (λz=>by rw[z,O]at h;cases h)];exact m b u h)
     have s0:aH H H':=a.hh.trans s1;have c:H y=none:=a.hh.free O
     have ex:Ex Hf H (jn Hf Y) H':=by
      refine⟨ew,s0,kZ (I.vi.fh.trans s0) a4.s,λb h=>?_,λb o u h=>?_⟩
      ·rcases k0 h with z|z
       ·exact .inl z
       ·exact .inr ((a4.nw b z).back (a.hh.trans m))
      ·unfold jn at h
       split at h
       ·rename_i w;rw[w];exact h
       ·exact absurd h (a4.nf b o u)
     have P:=I.ext ex;have fy:jn Hf Y y=none:=by unfold jn;rw[I.vi.fh.free c];exact a5
     have noy:∀(k:Nat) sl,ρ[k]?=some (some sl)->cz sl=true->σ[k]?≠some (some (.ref y)):=λk sl e o z=>I.vi.there e o z c
     have I2:=P.vi.setGo (i:=j) (q:=y) (sl:=.ob none fl.1 fl.2) (I.vi.ex.hh.free c) ⟨y,(C,r,xs),rfl,fy,a2,⟨.inl rfl,hO,a3⟩,aR.same a6 (ju (I.vi.fh.trans s0) a4.s)⟩ noy;have⟨kk,xx,h1,h2⟩:=P.ex;refine⟨d,_,_,_,⟨I2,by rw[ca (ue E)];exact P.ni,P.nh,P.fr,λl sl p e o w=>?_,kk,xx,by rw[ca (ue E)];exact h1,h2⟩,fR.mono q ew⟩;rcases ez e with⟨rfl,h,hl⟩|⟨hk,e⟩
     ·rw[ab (by rw[<-I.vi.len];exact hl)]at w
      cases w
      cases v:gm Hn (jn Hf Y) y with
      |none=>rfl
      |some o=>have:=I.nh y o (qZ v).2;rw[c]at this;cases this
     ·rw[ca (ue hk)]at w
      exact P.ow l sl p e o w
    ·exact q.elim
   ·exact q.elim
  ·exact q.elim
end
def uJ(f1 f2:al->U0):al->U5:=λρ=>(f1 ρ).bind λa=>if a.all (cH 3)=true then (f2 ρ).bind λb=>if b.all (cH 3)=true then some (.lst [.lst a,.lst b]) else none else none
section
variable {X:Cx}{a:Expr}{pos:Pos}
def QO(y:PE X a (eW X.K B f1))(A:PE X b (eW X.K B f2))(h1:W1 X [a,b] a [b]:=by rfl)(h2:W1 X [b] b []:=by rfl):PE X (.List [a,b] pos) (eF X.K B (uJ f1 f2)) :=
 (sQ (el y (el A fL h2) h1)).imp λσ H Q ⟨Hf,ρ,z,I,hz,q⟩=>by
  have⟨U,y,hz⟩:=bind_some hz;have⟨Y,hz⟩:=mY hz;have⟨Z,A,hz⟩:=bind_some hz;have⟨nb,hz⟩:=mY hz;cases hz;refine⟨Hf,ρ,U,I,y,λs H1 c i j M N v O=>⟨s,ρ,Z,I.ext j,A,λn P e l f x R F T=>?_⟩⟩;refine⟨sz (show 2<=100000 by decide),λt m=>?_⟩;have o:P c=some (.lst i):=f.hh _ _ v;have C:n c=none:=kx f N v;have E:e≠c:=λz=>by rw[z,v]at x;cases x
  have p:t≠c:=λz=>by rw[z,o]at m;cases m
  have r:t≠e:=λz=>by rw[z,F]at m;cases m
  have e1:aF (aF (aF ey c (.lst i)) e (.lst l)) t (.lst [.ref c,.ref e]) c=some (.lst i):=by rw[aI (ue p),aI (ue E),aT]
  have e2:aF (aF (aF ey c (.lst i)) e (.lst l)) t (.lst [.ref c,.ref e]) e=some (.lst l):=by rw[aI (ue r),aT]
  have g:∀{b:Addr} {u:HO},aF (aF (aF ey c (.lst i)) e (.lst l)) t (.lst [.ref c,.ref e]) b=some u->(b=t/\u=.lst [.ref c,.ref e])\/(b=e/\u=.lst l)\/(b=c/\u=.lst i):=λ{b u} h=>by
   by_cases G:b=t
   ·subst G;rw[aT]at h;cases h;exact .inl ⟨rfl,rfl⟩
   ·rw[aI G]at h
    by_cases J:b=e
    ·subst J;rw[aT]at h;cases h;exact .inr (.inl ⟨rfl,rfl⟩)
    ·rw[aI J]at h
     by_cases L:b=c
     ·subst L;rw[aT]at h;cases h;exact .inr (.inr ⟨rfl,rfl⟩)
     ·rw[aI L]at h;cases h
  have⟨k1,p1⟩:=AK (Hn:=aF (aF (aF ey c (.lst i)) e (.lst l)) t (.lst [.ref c,.ref e])) Y (O.same f.ff);have⟨k2,p2⟩:=AK (Hn:=aF (aF (aF ey c (.lst i)) e (.lst l)) t (.lst [.ref c,.ref e])) nb T;refine q n _ _ (max k1 k2+2) _ ((j.trans f).trans (Ex.made f.fh m)) (λb u h=>?_) (λb h=>?_) ⟨t,_,rfl,aT,.cons ⟨c,i,rfl,e1,p1.zmap λ_ _ z=>z.le (wr _ _)⟩ (.cons ⟨e,l,rfl,e2,p2.zmap λ_ _ z=>z.le (yq _ _)⟩ .nil)⟩
  ·rcases g h with⟨rfl,rfl⟩|⟨rfl,rfl⟩|⟨rfl,rfl⟩
   ·exact aT
   ·rw[aI (ue r)];exact F
   ·rw[aI (ue p)];exact o
  ·cases w:aF (aF (aF ey c (.lst i)) e (.lst l)) t (.lst [.ref c,.ref e]) b with
   |none=>exact absurd w h
   |some u =>
    rcases g w with⟨rfl,rfl⟩|⟨rfl,rfl⟩|⟨rfl,rfl⟩
    ·exact⟨j.hh.free (f.hh.free m),f.fh.free m⟩
    ·exact⟨j.hh.free x,R⟩
    ·exact⟨M,C⟩
end
def A7:D->Bool
 |.lst ds=>ds.all λd=>match d with|.lst es=>es.all (cH 3)|_=>false
 |_=>false
def uK(i j:Nat)(g:al->aO):GP:=λd ρ=>if i≠j/\A7 d=true/\j<ρ.length then g (ρ.set j none) else .bad
theorem QP{K:Fg1}(f:aH Hn H)(g:aH Hf H)(h:cH n d=true)(b:dD K Hn Hf k d (.ref q))(c:Hn q=some (.lst xs)):False:=by
 cases d with
 |sc v =>
  have:dL v=true/\V.ref q=v:=by cases k <;> exact b
  obtain⟨h1,rfl⟩:=this;cases h1
 |tup ds =>
  cases k with
  |zero=>exact b
  |succ k =>
   obtain⟨a,ys,e,h1,_⟩:=b;cases e;rcases h1 with h1|h1
   ·rw[c]at h1;cases h1
   ·have:=g _ _ h1;rw[f _ _ c]at this;cases this
 |lst ds=>cases n <;> cases h
 |dk ks ds=>cases n <;> cases h
 |dt ks ds=>cases n <;> cases h
 |er a ks ds=>cases n <;> cases h
section
variable {X:Cx}{pos:Pos}
def QQ(hc:X.calm=true)(hp:PassesOwn (model X.prog X.w) X.A X.env X.xe)(hNd:X.N.Nodup)(hN:X.N[i]?=some x)(hM:X.N[j]?=some y)(hy:dQ X.env.scope y)(hr:bv X rest (sV X.K B g))(hv:cZ X.env.scope x:=by first|exact ac rfl|exact ud (ac rfl)|exact ud (ud rfl))(hd:(x == 'g')=false:=by decide)(hcd:(x == 'c')=false:=by decide)(hv2:cZ X.env.scope y:=by first|exact ac rfl|exact ud (ac rfl)|exact ud (ud rfl))(hd2:(y == 'g')=false:=by decide)(hcd2:(y == 'c')=false:=by decide)(hf:W3 X y:=by first|exact .inl rfl|exact .inr rfl|assumption)(hbase:attributeBase (.Name y p3) "clear" X.env (eval (.Name y p3) X.env)=eval (.Name y p3) X.env:=by rfl)(hline:(p4.endLine == p5.line)=true:=by rfl)(hsw:W0 X (.Call (.Attribute (.Name y p3) "clear" p4) [] [] p5) none p6:=by rfl)(hfs:∀z,foldedSetIterable (.Name x p2) X.env z=pure z:=by intro _;rfl) :
  bv X (.For (.Name y p1) (.Name x p2) [.Expr (.Call (.Attribute (.Name y p3) "clear" p4) [] [] p5) p6] [] pos::rest) (sP X.K B i (uK i j g)) :=
 (dR (oF hp hc (zW (cR hN hv hd hcd)) (lH hNd hM hy hf) (g9 (kG (DL plainAttrs_list PySem.F.slot_list_clear PySem.F.type_list_clear Mc (cR hM hv2 hd2 hcd2) hbase hline) hsw)) hfs) hr).imp λD σ H ⟨d,Hf,ρ,Hn,I,q⟩=>by
  unfold uK at q
  split at q
  ·rename_i hcond
   obtain⟨hij,hB,hjl⟩:=hcond;have⟨kk,xv,h1,h2⟩:=I.ex
   cases d with
   |lst ds =>
    cases kk with
    |zero=>exact h2.elim
    |succ kk =>
     obtain⟨t,xs,rfl,ht,hps⟩:=h2
     have all:∀v∈xs,∃qa ys,v=.ref qa/\Hn qa=some (.lst ys)/\qa≠t:=λv hv=>by
      have⟨d,hdm,hdr⟩:=xt hps v hv;have hR:=lc.mp hB d hdm
      split at hR
      ·rename_i es
       cases kk with
       |zero=>exact hdr.elim
       |succ kk =>
        obtain⟨qa,ys,rfl,hqa,hpe⟩:=hdr;refine⟨qa,ys,rfl,hqa,λz=>?_⟩;subst z;rw[ht]at hqa;cases hqa
        cases hpe with
        |nil=>cases hps;cases hv
        |@cons e0 v0 l1 l2 r0 rr =>
         rw[gf,uc]at hR;have⟨d1,_,fV⟩:=xt hps v0 (cc ..);have hR1:=lc.mp hB d1 (by assumption)
         split at hR1
         ·obtain⟨q0,y0,rfl,h0,_⟩:=fV
          exact QP I.nh I.vi.fh hR.1 r0 h0
         ·cases hR1
      ·cases hR
     have nj:(ρ.set j none)[j]?=some none:=by rw[ab hjl]
     let inv:St->Hp->Prop:=λσ' H'=>VI X.K B Hf (ρ.set j none) σ' H'/\σ'[i]?=some (some (.ref t))/\H' t=some (.lst xs)/\(∀b ys,Hn b=some (.lst ys)->∃zs,H' b=some (.lst zs))/\(∀(l:Nat) sl p,(ρ.set j none)[l]?=some (some sl)->cz sl=true->σ'[l]?=some (some (.ref p))->Hn p=none)
     have P0:inv σ H:=⟨I.vi.drop j,h1,I.nh _ _ ht,λ b ys h=>⟨ys,I.nh _ _ h⟩,λ l sl p e o z=>by
      rcases ez e with⟨_,h,_⟩|⟨_,e⟩
      ·cases h
      ·exact I.ow l sl p e o z⟩
     refine⟨.ref t,h1,⟨_,bA.of (I.nh _ _ ht)⟩,λn mm σ H=>mm=xs.length - n/\n<=xs.length/\inv σ H,⟨xs.length,'m',ie _,P0⟩,?_⟩;rintro n mm σ2 H2 ⟨rfl,hn,P⟩;obtain⟨J,j1,j2,j3,j4⟩:=P;have hq2:bA X.K H2 t xs:=bA.of j2;by_cases hlt:n<xs.length
     ·refine .inr ⟨⟨_,xs[n],hq2,by simp[hlt]⟩,inv,λσ' H' P'=>⟨xs.length - (n+1),'o',rfl,hlt,P'⟩,λz H3 ⟨e3,yz⟩=>?_⟩
      subst e3;have hz:=yz _ hq2;rw[vc hlt]at hz;cases hz;have⟨qa,ys,ev,hqa,hqt⟩:=all xs[n] (rf hlt);have⟨zs,hzs⟩:=j3 qa ys hqa;have hs2:j<σ2.length:=by rw[<-J.len];simpa using hjl
      have hfq:=I.fr qa (by rw[hqa];exact λz=>nomatch z);rw[ev];refine⟨.ref qa,by rw[ab hs2],.inl ⟨rfl,zs,bA.of hzs⟩,qa,zs,rfl,rfl,hzs,(J.offH (λl sl k1 k2 k3=>?_) hfq.1 hfq.2).setU nj,?_,?_,λb ys hb=>?_,λl sl p e o w=>?_⟩
      ·have:=j4 l sl qa k1 k2 k3;rw[hqa]at this;cases this
      ·rw[ca (ue hij)];exact j1
      ·rw[aI (ue hqt)];exact j2
      ·by_cases hbq:b=qa
       ·subst hbq;exact⟨_,aT⟩
       ·rw[aI hbq];exact j3 b ys hb
      ·have hlj:j≠l:=λz=>by subst z;rw[nj]at e;cases e
       rw[ca hlj]at w;exact j4 l sl p e o w
     ·have e:n=xs.length:=by omega
      subst e;exact .inl ⟨⟨_,hq2,'m'⟩,Hf,_,J,q⟩
   |_=>cases hB
  ·exact q.elim
end
def n9(fw:al->U0)(fa:al->U5):al->aO:=λρ=>match fw ρ with
 |some ds=>(match fa ρ with|some _=>if ds.length<sizeLine then .nx ρ else .bad|none=>.bad)
 |none=>.bad
def rH(ja jb:Nat)(fe:al->U5):al->aO:=λρ=>match fe ρ with
 |some d=>if pN d=true/\rsL d=true/\ja≠jb/\ja<ρ.length/\jb<ρ.length then .nx ((ρ.set ja none).set jb none) else .bad
 |none=>.bad
where rsL:D->Bool
 |.lst ds=>decide (ds.length<=9000) && ds.all λd=>match d with|.tup [_,.lst es]=>decide (es.length<=9000)|_=>false
 |_=>false
section
variable {X:Cx}{a:Expr}{fa:al->U5}{pos p2 p3:Pos}
def GI(C:PE X e (eW X.K B fw))(E:PE X a (eV X.K B fa))(g:attributeBase e "append" X.env (eval e X.env)=eval e X.env:=by rfl)(i:((backTo p3 (starEach [a] X.env)).all (λx=>!x.1) && (backToKw p3 (keywordEach [] X.env)).all (λx=>x.1.isSome) && decide ([a].length+([]:List Keyword).length+'e'<30))=true:=by rfl)(h:(p2.endLine == p3.line)=true:=by rfl)(hs:W1 X [a] a []:=by rfl)(c:W2 X p3 []:=by rfl)(m:W0 X (.Call (.Attribute e "append" p2) [a] [] p3) none pos:=by rfl) :
  PS X (.Expr (.Call (.Attribute e "append" p2) [a] [] p3) pos) (sV X.K B (n9 fw fa)) :=
 (kG (qz plainAttrs_list PySem.F.slot_list_append PySem.F.type_list_append s9 C (el E fL hs) g i h hs c) m).imp λD n H ⟨Hf,ρ,I,q⟩=>by
  unfold n9 at q
  split at q
  ·rename_i ds s
   split at q
   ·rename_i d y
    split at q
    ·rename_i hl
     refine⟨Hf,ρ,ds,I,s,λj G p xs f w u t r=>⟨.inl ⟨rfl,xs,bA.of t⟩,j,ρ,d,I.ext f,y,λl J v b L=>?_⟩⟩;have A:=(I.ext f).ext b;refine⟨xs,b.hh _ _ t,by rw[<-r.length];exact hl,q l n _ (f.ff.trans b.ff) (A.offH (λk sl e o z=>?_) (kx b u t) (I.ex.hh.free w))⟩;exact I.there e o z w
    ·exact q.elim
   ·exact q.elim
  ·exact q.elim
def QR(hc:X.calm=true)(hp:PassesOwn (model X.prog X.w) X.A X.env X.xe)(hNd:X.N.Nodup)(hA:X.N[ja]?=some m)(hB:X.N[jb]?=some xb)(la:dQ X.env.scope m)(lb:dQ X.env.scope xb)(he:PE X e (pE X.K B fe))(hcc:PE X c (tC v))(hv2:cZ X.env.scope xb:=by first|exact ac rfl|exact ud (ac rfl)|exact ud (ud rfl))(hd2:(xb == 'g')=false:=by decide)(hcd2:(xb == 'c')=false:=by decide)(fa:W3 X m:=by first|exact .inl rfl|exact .inr rfl|assumption)(fb:X.fn xb=true\/X.env.scope.names.lookup xb=some .local:=by first|exact .inl rfl|exact .inr rfl|assumption)(e1:(assignEach [.Name m t1,.Name xb M] X.env).map (·.2)=assign (.Name m t1) X.env::(assignEach [.Name xb M] X.env).map (·.2):=by rfl)(e2:(assignEach [.Name xb M] X.env).map (·.2)=assign (.Name xb M) X.env::(assignEach [] X.env).map (·.2):=by rfl)(n3:(assignEach [.Name m t1,.Name xb M] X.env).length=2:=by rfl)(n4:(assignEach [.Name m t1,.Name xb M] X.env).findIdx? (·.1)=none:=by rfl)(O:attributeBase (.Name xb q3) "append" X.env (eval (.Name xb q3) X.env)=eval (.Name xb q3) X.env:=by rfl)(hfew:((backTo R (starEach [c] X.env)).all (λx=>!x.1) && (backToKw R (keywordEach [] X.env)).all (λx=>x.1.isSome) && decide ([c].length+([]:List Keyword).length+'e'<30))=true:=by rfl)(P:(p4.endLine == R.line)=true:=by rfl)(hs:W1 X [c] c []:=by rfl)(p:W2 X R []:=by rfl)(hsw:W0 X (.Call (.Attribute (.Name xb q3) "append" p4) [c] [] R) none p6:=by rfl)(hfs:∀z,foldedSetIterable e X.env z=pure z:=by intro _;rfl) :
  PS X (.For (.Tuple [.Name m t1,.Name xb M] x1 tp) e [.Expr (.Call (.Attribute (.Name xb q3) "append" p4) [c] [] R) p6] [] pos) (sV X.K B (rH ja jb fe)) :=
 (oF hp hc (zW he) (yW hc (qb (lH hNd hA la fa) (qb (lH hNd hB lb fb) yV e2) e1) n3 n4) (g9 (kG (qz plainAttrs_list PySem.F.slot_list_append PySem.F.type_list_append s9 (cR hB hv2 hd2 hcd2) (el hcc fL hs) O hfew P hs p) hsw)) hfs).imp λD T H ⟨Hf,ρ,I,q⟩=>by
  unfold rH at q
  split at q
  ·rename_i d hd
   split at q
   ·rename_i y
    obtain⟨hz,Y,hab,Z,hbl⟩:=y;obtain⟨f,rfl⟩:=A3 hz;have Y:(decide ((f.map k6).length<=9000) && (f.map k6).all λd=>match d with|.tup [_,.lst es]=>decide (es.length<=9000)|_=>false)=true:=Y;rw[uc]at Y;have hl0:=kc Y.1;rw[aa]at hl0;refine⟨Hf,ρ,f,I,hd,λr H1 t rs g U fr w=>⟨⟨_,bA.of w.ht⟩,?_⟩⟩;have⟨hr1,hr2⟩:=w.rw.len;have I1:=I.ext U
    let i:al:=(ρ.set ja none).set jb none
    have na:i[ja]?=some none:=by show ((ρ.set ja none).set jb none)[ja]?=_;rw[ca (ue hab),ab Z]
    have nb:i[jb]?=some none:=by show ((ρ.set ja none).set jb none)[jb]?=_;rw[ab (by rw[sf];exact hbl)]
    have mem:∀{b:Addr},b∈t::g->r b=none/\B.h b=none:=λ{b} hb=>by
     refine⟨?_,I.ex.hh.free (fr b hb)⟩;rcases wc.mp hb with rfl|hb
     ·exact w.hf
     ·exact(w.rw.at_ b hb).1
    have nown:∀{b:Addr},b∈t::g->∀(k:Nat) sl,i[k]?=some (some sl)->cz sl=true->k≠ja/\k≠jb/\ρ[k]?=some (some sl)/\T[k]?≠some (some (.ref b)):=λ{b} hb k sl e o=>by
     rcases ez e with⟨_,h,_⟩|⟨Q,e⟩
     ·cases h
     ·rcases ez e with⟨_,h,_⟩|⟨k2,e⟩
      ·cases h
      ·exact⟨k2,Q,e,λz=>I.there e o z (fr b hb)⟩
    let E:Nat->St->Hp->Prop:=λn s H'=>VI X.K B r i s H'/\H' t=some (.lst (rs.map V.ref))/\(∀b∈g,∃ys,H' b=some (.lst ys)/\ys.length<=9000+n)/\∀(k:Nat),k≠ja->k≠jb->s[k]?=T[k]?
    have lens:∀b∈g,∃ys,H1 b=some (.lst ys)/\ys.length<=9000:=λb hb=>by
     obtain⟨n,hn,rfl⟩:=yl hb;obtain⟨v,ys,_,_,y3,y4⟩:=w.rw.get n hn 'o' 'o';refine⟨ys,y3,?_⟩
     have:=lc.mp Y.2 (k6 (f[n]' 'o')) (ub.mpr ⟨_,rf _,rfl⟩)
     have:=kc this
     omega
    have P0:E 0 T H1:=⟨(I1.drop ja).drop jb,w.ht,λb hb=>let ⟨ys,a,b⟩:=lens b hb;⟨ys,a,'o'⟩,λk _ _=>rfl⟩
    refine⟨λn mm T H=>mm=rs.length - n/\n<=rs.length/\E n T H,⟨rs.length,'m',ie _,P0⟩,?_⟩;rintro n mm C H2 ⟨rfl,hn,J,j1,j2,j3⟩;have G:bA X.K H2 t (rs.map V.ref):=bA.of j1;by_cases l:n<rs.length
    ·refine .inr ⟨⟨_,.ref rs[n],G,by rw[de,vc l];rfl⟩,E (n+1),λs H' P'=>⟨rs.length - (n+1),'o',rfl,l,P'⟩,λz H3 ⟨e3,yz⟩=>?_⟩
     subst e3;have hz:=yz _ G;rw[de,vc l]at hz;cases hz;have j:n<g.length:=by omega
     obtain⟨u,ws,w0,w1,_,_⟩:=w.rw.get n j l 'o';have⟨ys,hy,hyl⟩:=j2 g[n] (rf j);have L:g[n]∈t::g:=ua _ (rf j);have htq:t≠g[n]:=λz=>w.nt (by rw[z];exact rf j)
     have hsa:ja<C.length:=by rw[<-J.len];show ja<((ρ.set ja none).set jb none).length;simpa using Z
     have hsb:jb<C.length:=by rw[<-J.len];show jb<((ρ.set ja none).set jb none).length;simpa using hbl
     refine⟨rs[n],[u,.ref g[n]],rfl,.inl (.inl (J.fh _ _ w0)),rfl,u,_,rfl,.ref g[n],_,rfl,rfl,.ref g[n],by rw[ab (by rw[sf];exact hsb)],.inl ⟨rfl,ys,bA.of hy⟩,ys,hy,?_,?_⟩
     ·exact jp hyl (vd (show 9000+n<100000 by omega) (sz (dc _)))
     ·refine⟨((J.offH (λk sl Q k2 k3=>?_) (mem L).1 (mem L).2).setU na).setU nb,by rw[aI htq];exact j1,λb hb=>?_,λk Q k2=>?_⟩
      ·have⟨m1,m2,_,m3⟩:=nown L k sl Q k2
       rw[j3 k m1 m2]at k3;exact m3 k3
      ·by_cases hbq:b=g[n]
       ·subst hbq
        exact⟨_,aT,by rw[rc,yc];omega⟩
       ·have⟨zs,z1,z2⟩:=j2 b hb
        exact⟨zs,by rw[aI hbq];exact z1,'o'⟩
      ·rw[ca (ue k2),ca (ue Q)]
       exact j3 k Q k2
    ·have e:n=rs.length:=by omega
     subst e;exact .inl ⟨⟨_,G,'m'⟩,q r C H2 U.ff J⟩
   ·exact q.elim
  ·exact q.elim
end
end L2
namespace L2
open PySem PySem.Spec PyProof.Rows
open Sem (wp)
theorem GJ{b c:Type}(f:b->c):∀(l:List b) (j:Nat),(l.eraseIdx j).map f=(l.map f).eraseIdx j
 |[],_=>rfl
 |_::_,0=>rfl
 |a::l,j+1=>by simp only[rq,ma,GJ f l j]
theorem GK{c e:Type}[DecidableEq c]{k:c}:∀{l:List (c×e)}{j:Nat}{v:e},(l.map fst).Nodup->l[j]?=some (k,v)->l.eraseIdx j=l.filter λf=>decide (f.1≠k)
 |[],_,_,_,h=>by cases h
 |(a,b)::l,0,v,hn,h=>by
  cases h;rw[ma,yf]at hn
  rw[jh 'm',List.eraseIdx_cons_zero];refine(cu.mpr λx g=>?_).symm;exact qc (p:=x.1≠k) λz=>hn.1 (by rw[<-z];exact ub.mpr ⟨x,g,rfl⟩)
 |(a,b)::l,j+1,v,hn,h=>by
  rw[ma,yf]at hn;have h:l[j]?=some (k,v):=h;have i:a≠k:=λz=>hn.1 (by rw[z];exact ub.mpr ⟨_,ee h,rfl⟩)
  rw[kh (by simp[i]),rq,GK hn.2 h]
section
variable {K:Type}[DecidableEq K]{knd:HeapKind prog w K}{A:Around}{s:Shared}{a:Addr}{xs:List (K×Addr×Value)}
def QS(r:knd.room A)(d5:knd.is s.heap k a)(hm:s.heap.DictOfH knd d xs)(q:k∈xs.map (·.1))(hsz:xs.length<=sizeLine)(h:∀(j:Nat) (p:Addr×Value),xs[j]?=some (k,p)->∀h',h'.DictOfH knd d (xs.eraseIdx j)->Heap.SameBut d s.heap h'->Q (some (entryOfKey knd (k,p))) { s with heap:=h',toks:=s.toks+knd.draws k }) :
  wpAny (model prog w) A (Builtin.Dict.takeOut d (.ref a)) Q E s:=by
 obtain⟨o,es,ep,c,u,b,i,f,hn⟩:=hm;unfold Builtin.Dict.takeOut
 try with_reducible refine fg ?_
 refine ba (knd.pyHash r d5 ?_);refine ba (ko (s:={ s with toks:=s.toks+knd.draws k }) r d5 c b i f hn (λm=>?_) (λj p g=>?_))
 ·have⟨x,n,e⟩:=ub.mp q
  have⟨j,g,e2⟩:=yl n;exact absurd (by rw[vc g,e2,<-e]) (m j x.2)
 ·refine ba (ng (s:={ s with toks:=s.toks+knd.draws k }) c b ?_)
  rw[entry_at i j,g];refine ba (wpAny_updateDictKeys (hz:=by have e:=im i;omega) (s:={ s with toks:=s.toks+knd.draws k }) c b (wa (h j p g _ ⟨_,_,ep+1,ik _ c (Obj.isFreed_of_dict (ol b _)),u.mapDictKeys _,ol b _,?_,λx n=>?_,?_⟩ (xh ..))))
  ·have:(es.eraseIdxIfInBounds j).toList=es.toList.eraseIdx j:=by
    obtain⟨l⟩:=es;simp
   rw[this,i,GJ]
  ·exact knd.keeps (f x ((gn xs j).subset n)) c b (xh ..)
  ·exact hn.sublist ((gn xs j).map _)
def QT(v:(d == sysModules)=false) :
  MeetsIn prog w (Builtin.«dict.pop» ⟨[.ref d,.ref a],[]⟩) (λ A R s=>knd.room A.in1/\∃ k xs,knd.is s.heap k a/\s.heap.DictOfH knd d xs/\xs.length<=sizeLine/\k∈xs.map (·.1) ∧
   ∀(j:Nat) (p:Addr×Value),xs[j]?=some (k,p)->∀h',h'.DictOfH knd d (xs.eraseIdx j)->Heap.SameBut d s.heap h'->R (.ok (.ret p.2)) { s with heap:=h',toks:=s.toks+knd.draws k }) :=
 .of_wp λA R s ⟨h,k,xs,d5,hm,hz,b,i⟩=>by
  unfold Builtin.«dict.pop»;refine ba ?_;unfold Builtin.Dict.keyAndDefault;refine ba (qk hm.typeIs ?_);show wpAny _ _ (pure (d,Value.ref a,none)) _ _ s;refine wa ?_;have⟨o,es,ep,m,u,f,n,q,hn⟩:=id hm;simp only[show (keyPart (Value.ref a)).isSome=false from rfl,je,xi];refine ba (ng m f ?_);refine ba (wa ?_)
  have g:es.isEmpty=false:=by
   have:=im n
   cases xs with
   |nil=>cases b
   |cons x r=>rw[Array.isEmpty,this];rfl
  rw[g];simp only[je,xi];refine ba (QS h d5 hm b hz λj p l h' c e=>?_);simp only[Option.isNone_some,je,xi];exact ba (wpAny_letGo (wa ⟨p.2,rfl,i j p l h' c e⟩))
end
theorem GL{b c e:Type}{G:(b×c)->(b×e)->Prop}:∀{l:List (b×c)}{m:List (b×e)},Paired (λp q=>p.1=q.1/\G p q) l m->l.map fst=m.map fst
 |_,_,.nil=>rfl
 |_,_,.cons a t=>by rw[ma,ma,a.1,GL t]
theorem GM{a b:Type}{F:a->b->Prop}:∀{l:List a}{m:List b} (j:Nat),Paired F l m->Paired F (l.eraseIdx j) (m.eraseIdx j)
 |_,_,_,.nil=>.nil
 |_,_,0,.cons _ t=>t
 |_,_,j+1,.cons r t=>.cons r (GM j t)
section
variable {X:Cx}{a:Addr}{A:Around}{kvs:List (List aQ×V)}{k:List aQ}
def QU(T:A.units+1<cLine)(I:az X pins σ H s)(e:H a=some (.dT kvs))(U:H b=some (.tup (k.map kV)))(B:k∈kvs.map fst)(h:∀v K s',bu v K->az X pins σ (aF H a (.dT (tw kvs k))) s'->Q K s'):wpAny (model X.prog X.w) A (call (.builtin "dict.pop") [.ref a,.ref b]) Q E s:=by
 have⟨z,G,xs,f,dd⟩:=tB I.hok e
 have R:k∈xs.map (·.1):=by
  have⟨x,L,e⟩:=ub.mp B;have⟨j,l,e2⟩:=yl L;obtain⟨y,m,r⟩:=f.zget (j:=j) (a:=x) (by rw[vc l,e2]);exact ub.mpr ⟨y,ee m,by rw[<-r.1,e]⟩
 refine zm slot_dict_pop dd.typeIs PySem.F.entry_dict_pop (PySem.F.args_dict_pop_2 _ _) (QT (knd:=tupleKind (fK X.prog X.w)) G) ⟨qg T,k,xs,mC I.hok U,dd,by rw[<-Paired.length f];exact z,R,λj p l h' n hs=>?_⟩;have g:j<kvs.length:=by rw[Paired.length f];exact(wb.mp l).1
 have⟨y,m,r⟩:=f.zget (j:=j) (vc g);rw[l]at m;cases m;have o:kvs[j]?=some (k,kvs[j].2):=by rw[vc g];exact ef some (Prod.ext r.1 rfl)
 refine h kvs[j].2 p.2 _ r.2.2 ?_;obtain⟨q,es,ep,J,M,N,O,_,P⟩:=n;have i:KT H (kvs.eraseIdx j) (xs.eraseIdx j):=GM j f
 have u:(kvs.map fst).Nodup:=by
  obtain⟨_,_,_,_,_,_,_,_,hn⟩:=dd
  have:kvs.map fst=xs.map (·.1):=GL f
  rw[this];exact hn
 rw[show tw kvs k=kvs.eraseIdx j from(GK u o).symm];refine v6 I (by rw[e];exact kg) hs ⟨q,J⟩ ⟨re ((gn kvs j).length_le) z,G,_,i.keeps λc ys C=>?_,q,es,ep,J,M,N,O,P⟩;rw[aI (yR C e (λz=>nomatch z))];exact C
end
def QV(td ty:TE):TE:=λσ H Q=>td σ H λx H1=>∃a,x=.ref a/\oR H1 a/\ty σ H1 λy H2=>∃b kvs k,y=.ref b/\H2 a=some (.dT kvs)/\H2 b=some (.tup (k.map kV))/\k∈kvs.map fst/\∀v,Q v (aF H2 a (.dT (tw kvs k)))
section
variable {X:Cx}
def QW(N:X.A.units+1<cLine)(O:PE X o td)(P:PE X e ty)(m:M1 X o "pop" apos e cpos):PE X (.Call (.Attribute o "pop" apos) [e] [] cpos) (QV td ty):=by
 intro c s j H Q I h;refine um m.base m.few m.line plainAttrs_dict slot_dict_pop PySem.F.type_dict_pop (aW (O c s j H _ I h) λu l ⟨x,n,i,p,a,q,d,r⟩=>?_);subst q;obtain rfl:u=Value.ref a:=p;have⟨L,M,_⟩:=v7 i d;refine⟨L,M,?_⟩;rw[m.trees];refine ph rfl (lj (zh (aW (P c l j n _ i r) λw R ⟨y,T,z,B,b,kvs,k,C,E,G,f,J⟩=>vk ?_)));subst C;obtain rfl:w=Value.ref b:=B;exact QU N z E G f λv U Y g K=>⟨v,_,K,g,J v⟩
end
def uL(j:Nat)(fk:al->U5):al->aO:=λρ=>match ρ[j]? with
 | some (some (.dt ks ds))=>(match (fk ρ).bind jI with
  |some k=>if (aP (ks.zip ds) k).isSome=true then .nx (ρ.set j (some (.dt ((nF (ks.zip ds) k).map fst) ((nF (ks.zip ds) k).map snd)))) else .bad
  |none=>.bad)
 |_=>.bad
section
variable {X:Cx}{pos:Pos}
def QX(P:aK n X.A)(Q:X.N[j]?=some x)(o:PE X e (eV X.K B fk))(m:M1 X (.Name x p1) "pop" apos e cpos)(g:cZ X.env.scope x:=by first|exact ac rfl|exact ud (ac rfl)|exact ud (ud rfl))(R:(x == 'g')=false:=by decide)(r:(x == 'c')=false:=by decide)(s:W0 X (.Call (.Attribute (.Name x p1) "pop" apos) [e] [] cpos) none pos:=by rfl):PS X (.Expr (.Call (.Attribute (.Name x p1) "pop" apos) [e] [] cpos) pos) (sV X.K B (uL j fk)) :=
 (kG (QW (by have:=P.units;omega) (cR Q g R r) o m) s).imp λD G H ⟨Hf,ρ,I,q⟩=>by
  unfold uL at q
  split at q
  ·rename_i ks ds u
   split at q
   ·rename_i k c
    have⟨d,c,i⟩:=bind_some c
    split at q
    ·rename_i f
     obtain⟨v,C,p,kvs,rfl,M,l,e1,e2⟩:=I.ok j _ u;refine⟨_,C,p,rfl,.inr ⟨kvs,.inl l⟩,Hf,ρ,d,I,c,λh J y a dk=>?_⟩;obtain⟨b,rfl,O⟩:=qJ (H:=J) (.inl dk) i;refine⟨b,kvs,k,rfl,a.hh _ _ l,a.fh _ _ O,?_,λv=>q h G _ a.ff ?_⟩
     ·cases w:aP (ks.zip ds) k with
      |none=>rw[w]at f;cases f
      |some z =>
       have⟨x,E,_⟩:=pc.mp w;have hm:=xl E;have o:=kc (List.find?_some (p:=λL:List aQ×L2.D=>decide (L.1=k)) E);rw[e1,<-o];exact(wn (show (x.1,x.2)∈ks.zip ds from hm)).1
     ·have F:=(qI e1 (aR.same e2 a.ff)).drop k
      exact(I.ext a).mutG u rfl rfl C ⟨p,_,rfl,kx a M l,aT,F.fst,F.snd⟩
    ·exact q.elim
   ·exact q.elim
  ·exact q.elim
end
end L2
namespace L2
open PySem PySem.Spec PyProof.Rows
noncomputable abbrev mZ{K:Type}(x:K×Addr×Value):K×Value:=(x.1,x.2.2)
def QY{K:Type}[DecidableEq K]{k:K}{xs:List (K×Addr×Value)}(h:∀(j:Nat) (p:Addr×Value),xs[j]?≠some (k,p)):valueAt (xs.map mZ) k=none:=by
 unfold valueAt;rw[Option.map_eq_none_iff,List.find?_eq_none];intro y a;obtain⟨x,b,rfl⟩:=ub.mp a;have⟨j,c,e⟩:=yl b;intro z;have z:x.1=k:=kc z;exact h j x.2 (by rw[vc c,e,<-z])
theorem GO{K:Type}[DecidableEq K]{k:K}:∀{xs:List (K×Addr×Value)}{j:Nat}{p:Addr×Value},(xs.map (·.1)).Nodup->xs[j]?=some (k,p)->valueAt (xs.map mZ) k=some p.2
 |[],_,_,_,h=>by cases h
 |x::xs,0,p,_,h=>by
  cases h;simp[valueAt,we]
 |x::xs,j+1,p,hn,h=>by
  rw[ma,yf]at hn;have h:xs[j]?=some (k,p):=h;have a:¬x.1=k:=λz=>hn.1 (by rw[z];exact ub.mpr ⟨_,ee h,rfl⟩)
  have:=GO hn.2 h
  unfold valueAt at this ⊢;rw[ma,List.find?_cons_of_neg (by simpa using a)];exact this
section
variable {K:Type}[DecidableEq K]{knd:HeapKind prog w K}{A:Around}{s:Shared}{a:Addr}{xa xb:List (K×Addr×Value)}
def QZ(hu:knd.room A)(ha:(a == sysModules)=false)(hb:(b == sysModules)=false)(da:s.heap.DictOfH knd a xa)(db:s.heap.DictOfH knd b xb)(P:xa.length=xb.length->KeqHits A s (xb.map mZ) (xa.map mZ) r)(h:Q (xa.length == xb.length && r) s):wpAny (model prog w) A (Builtin.Dict.samePairs nm a b) Q E s:=by
 obtain⟨oa,c,pa,g,_,l,F,U,hna⟩:=da;obtain⟨ob,eb,pb,n,_,o,u,X,G⟩:=db;have z:c.size=xa.length:=im F;have K:eb.size=xb.length:=im u;unfold Builtin.Dict.samePairs Builtin.Dict.showsAll;rw[ic (by rw[ha];exact bb),ic (by rw[hb];exact bb)];refine ba (wa (ba (wa (ba (ng g l ?_)))));dsimp only;refine ba (ng n o ?_);by_cases hsz:c.size=eb.size
 ·have L:xa.length=xb.length:=by rw[<-z,<-K];exact hsz
  have M:Q r s:=by rw[L]at h;simpa using h
  have hh:=P L;rw[ic (by rw[hsz];simp)];refine ba (dm g l (ba ?_));rw[Std.Legacy.Range.forIn_eq_forIn_range'];simp only[Std.Legacy.Range.size,Nat.sub_zero,Nat.add_sub_cancel,Nat.div_one];refine kn _ (λf q R=>R=s/\q=(none,())/\∃i,f=range' i (c.size - i)/\i<=c.size/\KeqHits A s (xb.map mZ) ((xa.drop i).map mZ) r) _ ?_ ?_ _ _ ⟨rfl,rfl,0,'m',ie _,hh⟩
  ·rintro x f q R ⟨rfl,rfl,i,m,hi,C⟩
   have N:i<c.size:=by
    rcases ym i c.size with h|h
    ·exact h
    ·rw[Nat.sub_eq_zero_of_le h]at m;cases m
   obtain⟨rfl,v⟩:x=i/\f=range' (i+1) (c.size - (i+1)):=by
    rw[show c.size - i=(c.size - (i+1))+1 by omega,List.range'_succ]at m;cases m;exact⟨rfl,rfl⟩
   have B:x<xa.length:=by rw[<-z];exact N
   refine ba (ng g l ?_);have O:c[x]?=some (entryOfKey knd xa[x]):=by rw[entry_at F x,vc B];rfl
   rw[O];rw[ke B,ma]at C;show wpAny _ _ (holding _ (dictFind b (Value.ref xa[x].2.1) (knd.hash xa[x].1) >>= _) >>= _) _ _ _;refine ba (fg (ba (ko hu (U _ (rf B)) n o u X G (λT=>?_) (λj p hj=>?_))))
   ·have hn:=QY T
    rcases C.inv with⟨_,H⟩|⟨y,_,_,I,_⟩
    ·rw[H]at M
     exact wa (wa (wa M))
    ·rw[hn]at I;cases I
   ·have hv:=GO G hj
    refine ba (ng n o ?_);rw[entry_at u j,hj];rcases C.inv with⟨hn,_⟩|⟨y,e,b',I,he,J,H⟩
    ·rw[hv]at hn;cases hn
    ·rw[hv]at I
     cases I;refine fg (he prog w _ _ ?_)
     cases e with
     |false =>
      rw[H,vp]at M;exact wa (wa M)
     |true =>
      rw[am]at H;rw[<-H]at J;show wpAny _ _ (if (!true)=true then _ else _) _ _ _;rw[ic 'd'];refine ba (dm g l ?_);rw[ic 'm'];exact wa ⟨rfl,rfl,x+1,v,N,J⟩
  ·rintro q R ⟨rfl,rfl,i,m,hi,C⟩
   have Y:i=xa.length:=by
    rcases ym i c.size with h|h
    ·rw[show c.size - i=(c.size - (i+1))+1 by omega,List.range'_succ]at m;cases m
    ·omega
   rw[Y,ki]at C;cases C;exact wa M
 ·rw[ya (by simpa using hsz)]
  have Z:(xa.length == xb.length)=false:=by rw[<-z,<-K];simpa using hsz
  rw[Z,vp]at h;exact ba (km (wa h))
def Q0(i:knd.room A.in1)(f:A.units<cLine)(j:(a == sysModules)=false)(l:(b == sysModules)=false)(e:s.heap.DictOfH knd a xa)(g:s.heap.DictOfH knd b xb)(c:xa.length=xb.length->KeqHits A.in1 s (xb.map mZ) (xa.map mZ) r)(h:Q (.bool (xa.length == xb.length && r)) s):wpAny (model prog w) A (compareOp .Eq (.ref a) (.ref b)) Q E s:=by
 refine wpAny_richCompare_same_room (op:=.Eq) e.typeIs g.typeIs slot_dict_eq (ji slot_dict_eq e.typeIs PySem.F.entry_dict_eq ?_ (PySem.F.args_dict_eq_2 _ _)) f;show wpAny _ _ (Builtin.Dict.dictSlotArgs "__eq__" ⟨[.ref a,.ref b],[]⟩ >>= _) _ _ s;refine ba ?_;unfold Builtin.Dict.dictSlotArgs;refine ba (qk e.typeIs ?_);show wpAny _ _ (pure (Value.ref a,Value.ref b)) _ _ s;refine wa (ba (ar (T:="dict") g.typeIs PySem.F.sub_dict_dict ?_));simp only[oi,je,xi];refine ba (wa (ba (wa ?_)));refine ba (QZ i j l e g c ?_);refine wa ⟨_,rfl,?_,?_⟩
 ·exact λx=>nomatch x
 ·rw[show ((xa.length == xb.length && r) == true)=(xa.length == xb.length && r) by cases (xa.length == xb.length && r) <;> rfl];exact h
end
def uM(d e:D):U5:=match d,e with
 |.dt ks ds,.dt ks' ds'=>if (ds.all (bL LV) && ds'.all (bL LV))=true then some (.bl (wR (ks.zip ds) (ks'.zip ds'))) else none
 |_,_=>none
abbrev xO(K:Fg1)(H:Hp):List (List aQ×D)->List (List aQ×V)->Prop:=Paired λa b=>a.1=b.1/\dM K H LV a.2 b.2
theorem A8{K:Fg1}:∀{kvs:List (List aQ×V)}{ks:List (List aQ)}{ds:U4},kvs.map fst=ks->aR K Hf ds (kvs.map snd)->aH Hf H->ds.all (bL LV)=true->xO K H (ks.zip ds) kvs
 |[],_,[],h,_,_,_=>by subst h;exact .nil
 |(k,v)::kvs,_,d::ds,h,.cons a b,s,c=>by
  subst h;rw[gf,uc]at c;exact .cons ⟨rfl,(a.same s).at c.1⟩ (A8 rfl b s c.2)
def GQ(K:Fg1):R2:=λx y H Q=>∃a b m n ka c,x=.ref a/\y=.ref b/\H a=some (.dT ka)/\H b=some (.dT c)/\xO K H m ka/\xO K H n c/\Q (.bl (wR m n)) H
section
variable {X:Cx}{s:Shared}{A:Around}
abbrev xP(h:Heap):List (List aQ×D)->List (List aQ×Value)->Prop:=Paired λa b=>a.1=b.1/\HD h LV a.2 b.2
theorem A9(I:az X pins σ H s):∀{m:List (List aQ×D)}{kvs:List (List aQ×V)}{xs:List (List aQ×Addr×Value)},xO X.K H m kvs->KT H kvs xs->xP s.heap m (xs.map mZ)
 |_,_,_,.nil,.nil=>.nil
 |_,_,_,.cons a b,.cons c d=>.cons ⟨a.1.trans c.1,I.den a.2 c.2.2⟩ (A9 I b d)
theorem Ba:∀{n:List (List aQ×D)}{c:List (List aQ×Value)},xP h n c->(aP n k=none->valueAt c k=none)/\∀d,aP n k=some d->∃v,valueAt c k=some v/\HD h LV d v
 |_,_,.nil=>⟨λ_=>by simp[valueAt],λd h=>by cases h⟩
 |a::n,b::c,.cons h t=>by
  have f:=Ba (k:=k) t;by_cases e:b.1=k
  ·have e2:a.1=k:=h.1.trans e
   refine⟨λz=>?_,λd z=>?_⟩
   ·simp[aP,we,e2]at z
   ·simp[aP,we,e2]at z
    subst z;exact⟨b.2,by simp[valueAt,we,e],h.2⟩
  ·have e2:¬a.1=k:=λz=>e (h.1.symm.trans z)
   rw[show aP (a::n) k=aP n k by simp[aP,we,e2],show valueAt (b::c) k=valueAt c k by simp[valueAt,we,e]];exact f
theorem GR(b:xP s.heap n i)(j:A.units+LV<cLine):∀{m:List (List aQ×D)}{ka:List (List aQ×Value)},xP s.heap m ka->KeqHits A s i ka (m.all λc=>match aP n c.1 with|some w=>bD c.2 w|none=>false)
 |_,_,.nil=>.nil
 |a::m,(bk,o)::ka,.cons h t=>by
  have l:=GR b j t;rw[gf]
  cases e:aP n a.1 with
  |none =>
   have:=(Ba (k:=a.1) b).1 e
   rw[h.1]at this;exact .miss this
  |some w =>
   have⟨v,f,g⟩:=(Ba (k:=a.1) b).2 w e;rw[h.1]at f
   have:=lJ h.2 g j
   rw[Ae h.2 g]at this;exact .hit f this l
def Q1(f:aK k X.A):bx X (compareOp .Eq) (GQ X.K):=by
 intro g s L H x y v u Q I l o h;obtain⟨a,b,m,n,ka,M,rfl,rfl,p,r,w,z,q⟩:=h;cases l;cases o;have⟨_,B,N,C,E⟩:=tB I.hok p;have⟨_,F,O,G,J⟩:=tB I.hok r;have c:=A9 I w C;have e:=A9 I z G;refine Q0 (qg (by have:=f.units;omega)) (by have:=f.units;omega) B F E J (λ_=>GR e (by have:=f.units;show X.A.units+1+9<cLine;omega) c) ⟨.bl _,H,I,rfl,?_⟩;have i:=c.length;have j:=e.length;rw[aa]at i j;rw[<-i,<-j];exact q
def Q2{K:Fg1}:P2 K (GQ K) uM:=by
 intro Hf H x y d e z Q s g h hz q;unfold uM at hz
 split at hz
 ·split at hz
  ·rename_i ks ds c ds' f
   cases hz;rw[uc]at f
   obtain⟨a,ka,rfl,i,j,l⟩:=g.dt s;obtain⟨b,m,rfl,n,o,p⟩:=h.dt s;exact⟨a,b,ks.zip ds,c.zip ds',ka,m,rfl,rfl,i,n,A8 j l s f.1,A8 o p s f.2,q Hf H _ (.refl s) (b7 rfl)⟩
  ·cases hz
 ·cases hz
end
def lp(gd:GD):U4:=gd.map λx=>.lst x.2
def uN(i np:Nat)(F:U4->Option GD)(fr:al->U0):al->aO:=λρ=>match fr ρ with
 |some ds=>if ds.length=np then (match F ds with|some gd=>.nx (ρ.set i (some (.dt (gd.map fst) (lp gd))))|none=>.bad) else .bad
 |none=>.bad
def xQ(np:Nat)(F:U4->Option GD)(fr:al->U0):al->U5:=λρ=>(fr ρ).bind λds=>if ds.length=np then (F ds).bind λgd=>some (.dt (gd.map fst) (lp gd)) else none
def GT{K:Fg1}{gd:GD}{kvs:List (List aQ×V)}(g:rA K Hn Hf gd kvs)(c:∀l xs,Hn l=some (.lst xs)->U l=some (.lst xs))(f:aH Hf U):aR K U (lp gd) (kvs.map snd):=by
 have:lp gd=(gd.map snd).map D.lst:=by unfold lp;rw[md];rfl
 rw[this];exact Paired.map1 D.lst (λds v ⟨l,xs,e,a,b⟩=>by subst e;exact f7 (bA.of (c _ _ a)) (aR.same b f)) g.2
section
variable {X:Cx}{pos:Pos}
def Q3(G:aG X.prog X.w X.K X.mg X.base aZ k f fd ps (nU X.K np F))(Q:aK k X.A)(R:Gl X fx)(hm:X.mg fx=some (.ref f))(T:keepIn X.K (.ref f)=true)(U:cB X.K fd ps [])(Y:PA X (e::es) (aV X.K B fr))(Z:X.N.Nodup)(hi:X.N[i]?=some x)(hx:dQ X.env.scope x)(y:(fx == 'g')=false:=by decide)(he:W1 X (e::es) e es:=by rfl)(C:W2 X cp es:=by rfl)(hs:W0 X (.Call (.Name fx p1) (e::es) [] cp) (some (.Name x pos')) pos:=by rfl)(hf:W3 X x:=by first|exact .inl rfl|exact .inr rfl|assumption) :
  PS X (.Assign [.Name x pos'] (.Call (.Name fx p1) (e::es) [] cp) pos) (sV X.K B (uN i np F fr)) :=
 (iG Z hi hx (kI G Q R hm T U .nil iM Y y he C) hs hf).imp λD σ H ⟨Hf,ρ,I,q⟩=>by
  unfold uN at q
  split at q
  ·rename_i ds r
   split at q
   ·rename_i hn
    split at q
    ·rename_i gd O
     refine⟨Hf,ρ,ds,I,r,λm M vs a n=>?_⟩;show nU X.K np F (vs++[]) M _ E0;rw[zc];refine⟨m,ds,gd,a.fh,n,hn,O,λHf' H' Hn p kvs E s fr nt j gp=>?_⟩;have J:aH (noF (L2.rem Hn p)) H':=lT.trans (Gv.trans s)
     have c:Ex Hf H (jn Hf' (noF (L2.rem Hn p))) H':=by
      have g:=a.trans E;refine⟨g.ff.trans ew,g.hh,kZ g.fh J,λb h=>?_,λb o u h=>g.nf b o u (qY h)⟩;rcases k0 h with z|z
      ·exact g.nw b z
      ·have v:Hn b≠none:=λw=>pB z (by unfold L2.rem;split;rfl;exact w)
       exact .inr (.inl (a.hh.free (fr b v).2))
     have L:H p=none:=a.hh.free (fr p (by rw[j];exact λz=>nomatch z)).2
     have P:jn Hf' (noF (L2.rem Hn p)) p=none:=by
      unfold jn;rw[(fr p (by rw[j];exact λz=>nomatch z)).1];exact AI A1
     refine q _ _ H' c.ff ((I.ext c).setGo (I.ex.hh.free L) ⟨p,kvs,rfl,P,s _ _ j,gp.1,GT gp (λl xs hl=>?_) ew⟩ λk sl e o z=>I.there e o z L);refine ju (a.trans E).fh J l _ (qX ?_);rw[lW (λz=>by rw[z,j]at hl;cases hl)];exact hl
    ·exact q.elim
   ·exact q.elim
  ·exact q.elim
def Q4(G:aG X.prog X.w X.K X.mg X.base aZ k f fd ps (nU X.K np F))(J:aK k X.A)(L:Gl X fx)(hm:X.mg fx=some (.ref f))(M:keepIn X.K (.ref f)=true)(N:cB X.K fd ps [])(O:PA X (e::es) (aV X.K B fr))(r:(fx == 'g')=false:=by decide)(P:W1 X (e::es) e es:=by rfl)(v:W2 X cp es:=by rfl) :
  PE X (.Call (.Name fx p1) (e::es) [] cp) (eV X.K B (xQ np F fr)) :=
 (kI G J L hm M N .nil iM O r P v).imp λR H Q ⟨Hf,ρ,z,I,hz,q⟩=>by
  have⟨ds,j,hz⟩:=bind_some hz;have⟨hn,hz⟩:=mY hz;have⟨gd,E,hz⟩:=bind_some hz;cases hz;refine⟨Hf,ρ,ds,I,j,λg x vs a i=>?_⟩;show nU X.K np F (vs++[]) x _ E0;rw[zc];refine⟨g,ds,gd,a.fh,i,hn,E,λHf' H' Hn p kvs y s fr T C gp=>?_⟩;have m:aH (noF Hn) H':=lT.trans s;have c:=a.trans y
  have n:Ex Hf H (jn Hf' (noF Hn)) H':=by
   refine⟨c.ff.trans ew,c.hh,kZ c.fh m,λb h=>?_,λb o u h=>c.nf b o u (qY h)⟩;rcases k0 h with z|z
   ·exact c.nw b z
   ·exact .inr (.inl (a.hh.free (fr b (pB z)).2))
  exact q _ H' (.ref p) n (tD (ju c.fh m p _ (AJ C)) gp.1 (GT gp (λl xs hl=>ju c.fh m l _ (qX hl)) ew))
end
def Bb(K:Fg1):R2:=λx y H Q=>(x=.non/\y=.non/\Q (.bl true) H)\/(x=.non/\(∃a xs,y=.ref a/\bA K H a xs)/\Q (.bl false) H)\/(y=.non/\(∃a xs,x=.ref a/\bA K H a xs)/\Q (.bl false) H)
def rJ(d e:D):U5:=match d,e with
 |.sc .non,.sc .non=>some (.bl true)
 |.sc .non,.lst _=>some (.bl false)
 |.lst _,.sc .non=>some (.bl false)
 |.lst ds,.lst es=>bR (.lst ds) (.lst es)
 |_,_=>none
section
variable {X:Cx}
def Q5(j:X.A.units<cLine):bx X (compareOp .Eq) (Bb X.K):=by
 intro i s m H x y v u Q I b c h;rcases h with⟨rfl,rfl,q⟩|⟨rfl,⟨a,xs,rfl,g⟩,q⟩|⟨rfl,⟨a,xs,rfl,g⟩,q⟩
 ·cases b;cases c
  exact PySem.SeqAt.RcAt.none_none X.prog X.w X.xe _ ⟨.bl _,H,I,rfl,q⟩
 ·cases b;cases c
  have⟨e,l,f,_⟩:=I.list g;exact PySem.SeqAt.RcAt.none_list f.isList j X.prog X.w X.xe _ ⟨.bl _,H,I,rfl,q⟩
 ·cases b;cases c
  have⟨e,l,f,_⟩:=I.list g;exact PySem.SeqAt.RcAt.list_none f.isList j X.prog X.w X.xe _ ⟨.bl _,H,I,rfl,q⟩
end
def Q6(a:aK n X.A):bx X (compareOp .Eq) (λx y H Q=>(jF false x y H Q\/sT X.K 8 x y H Q)\/Bb X.K x y H Q):=(eo a).or (Q5 (by have:=a.units;omega))
def Q7{K:Fg1}:P2 K (λx y H Q=>(jF false x y H Q\/sT K 8 x y H Q)\/Bb K x y H Q) rJ:=by
 intro Hf H x y d e z Q s b c hz q;unfold rJ at hz
 split at hz
 ·cases hz
  exact .inr (.inl ⟨b.sc.2,c.sc.2,q Hf H _ (.refl s) (b7 rfl)⟩)
 ·cases hz
  obtain⟨a,xs,rfl,f,_⟩:=c.lst s;exact .inr (.inr (.inl ⟨b.sc.2,⟨a,xs,rfl,f⟩,q Hf H _ (.refl s) (b7 rfl)⟩))
 ·cases hz
  obtain⟨a,xs,rfl,f,_⟩:=b.lst s;exact .inr (.inr (.inr ⟨c.sc.2,⟨a,xs,rfl,f⟩,q Hf H _ (.refl s) (b7 rfl)⟩))
 ·exact .inl (et Hf H x y _ _ z Q s b c hz q)
 ·cases hz
theorem GU{c e:Type}{F:c->e->Prop}:∀{l:List c}{m:List e},l.length=m.length->(∀(i:Nat) a b,l[i]?=some a->m[i]?=some b->F a b)->Paired F l m
 |[],[],_,_=>.nil
 |[],_::_,h,_=>by cases h
 |_::_,[],h,_=>by cases h
 |a::l,b::m,h,f=>.cons (f 0 a b rfl rfl) (GU (Nat.succ.inj h) λi x y g j=>f (i+1) x y g j)
theorem GV:∀{l:U7},(∀i∈l,bu (f i) (g i))->bC (l.map f) (l.map g)
 |[],_=>.nil
 |a::l,h=>.cons (h a (cc ..)) (GV λi b=>h i (ua _ b))
def Bc(a:Addr)(e1:Nat)(c:SortSt):Sem PySem.Fin:=do
 let b:=(← seqEpoch a) != e1
 Builtin.List.listUpdate (.ref a) λ_=>(arrOf c).map (·.2)
 if let some e:=failedOf c then rule "list.sort.comparison-raised";throw e
 if b then rule "list.sort.modified";raiseError "ValueError" "list modified during sort"
 ret Value.none
section
variable {X:Cx}{a:Addr}{A:Around}{ds:U4}{xs:U6}
def Q8(hu:A.units+LV<cLine)(I:az X pins σ H s)(ha:H a=some (.lst xs))(J:Hf a=none)(fh:aH Hf H)(hd:aR X.K Hf ds xs)(h64:ds.length<64)(ord:jM ds lt)(hk:∀r∈ds,gU r=true)(q:∀s' (f:Array Nat),Ix ds.length f->Up lt f ds.length->az X pins σ (aF H a (.lst (f.toList.map λi=>xs.getD i V.non))) s'->P (.done (.ret .none)) s') :
  wpAny (model X.prog X.w) A (Builtin.«list.sort» ⟨[.ref a],[]⟩) P E s:=by
 have⟨vs,n,rv,R,hz⟩:=I.lst ha;have L:=rv.length;have ld:=hd.length;have l:=zn R (λ_=>(#[]:Y4));generalize he1:(if (#[]:Y4).size == vs.toArray.size then n else n+1)=e1 at l;have I1:az X pins σ (aF H a (atObj a (seqObj "list" #[] e1))) { s with heap:=s.heap.update a (mapSeq λ_=>(#[]:Y4)),toks:=s.toks }:=I.write (x:=a) (e:=a) (by rw[ha];trivial) 'j' (λb u m e=>(bf _ _ (ue m)).trans e) ⟨_,l⟩ (FC l);have I3:az X pins σ (aF H a (atObj a (seqObj "list" #[] e1))) { s with heap:=((s.heap.update a (mapSeq λ_=>(#[]:Y4))).push (seqObj "tuple" vs.toArray 0)).push (seqObj "list" #[] 0),toks:=s.toks }:=I1.kept λb o e=>jc _ (jc _ e)
 have fh3:aH Hf (aF H a (atObj a (seqObj "list" #[] e1))):=λb o e=>by rw[aI (dP e J)];exact fh b o e
 have hp:Paired (HD (((s.heap.update a (mapSeq λ_=>(#[]:Y4))).push (seqObj "tuple" vs.toArray 0)).push (seqObj "list" #[] 0)) LV) ds vs:=by
  refine GU (by rw[ld,L]) λi d v O Z=>?_
  have⟨x,Y,dx⟩:=hd.zget O;have⟨v',U,rx⟩:=rv.zget Y;rw[Z]at U
  cases U
  exact FD I3 fh3 dx (ord.ok d (ee O)) rx
 have p:∀(g:SortSt) (f:Array Nat),Ix vs.length f->Up lt f vs.length->(arrOf g).map (·.2)=(f.toList.map λi=>vs.getD i Value.none).toArray->failedOf g=none →
   wpAny (model X.prog X.w) A (Bc a e1 g) P E { s with heap:=((s.heap.update a (mapSeq λ_=>(#[]:Y4))).push (seqObj "tuple" vs.toArray 0)).push (seqObj "list" #[] 0),toks:=s.toks }:=λg f B hup F J=>by
  have M:=I3.atObj (a:=a) (o:=seqObj "list" #[] e1) aT
  have ry:bC (f.toList.map λi=>xs.getD i V.non) (f.toList.map λi=>vs.getD i Value.none):=by
   refine GV λi h=>?_
   have hl:i<vs.length:=by
    have:=(B.mem_iff (a:=i)).mp h
    exact ug.mp this
   obtain⟨x,Y⟩:∃x,xs[i]?=some x:=⟨xs[i]' 'o',vc 'o'⟩
   have⟨v,hv,r⟩:=rv.zget Y;rw[ed,Y,ed,hv];exact r
  have y:(f.toList.map λi=>vs.getD i Value.none).length=vs.length:=by rw[aa,B.length_eq,vj]
  have z:=zn M (λ_=>(f.toList.map λi=>vs.getD i Value.none).toArray);unfold Bc;refine ba (seqEpoch_at M rfl ?_);rw[F];refine ba (zl M rfl ?_ (ie _) (by show (f.toList.map λi=>vs.getD i Value.none).toArray.size<=_;rw[bc,y,<-L];exact vm hz));rw[J];simp only[bne_self_eq_false,je,xi]
  have I4:=I3.write (x:=a) (e:=a) (o:=.lst (f.toList.map λi=>xs.getD i V.non)) (t':=s.toks) (by rw[aT];trivial) 'j' (λb u m e=>(bf _ _ (ue m)).trans e) ⟨_,z⟩
   ⟨by rw[ry.length,y,<-L];exact hz,_,_,ry,z⟩
  have e2:aF (aF H a (atObj a (seqObj "list" #[] e1))) a (.lst (f.toList.map λi=>xs.getD i V.non))=aF H a (.lst (f.toList.map λi=>xs.getD i V.non)):=by
   funext b
   by_cases m:b=a
   ·subst m;rw[aT,aT]
   ·rw[aI m,aI m,aI m]
  rw[e2]at I4;exact wa (q _ f (by rw[ld,L];exact B) (by rw[ld,L];exact hup) I4)
 rw[list_sort_plain];refine ba (listItems_at R rfl ?_);refine ba (zl R rfl ?_ (by rw[bc,<-L];exact hz) (ie _));refine ba (seqEpoch_at l rfl ?_);refine ba (wpAny_newTuple ?_ (by show vs.length<=_;rw[<-L];exact hz));refine ba (on ?_ (ie _));refine fg ?_;dsimp only;by_cases N:vs.toArray.size<2
 ·rw[ya N,ya N]
  refine ba (wa ?_);rw[StateT.run_pure];refine ba (wa ?_);dsimp only;rw[bc]at N;refine p _ (List.range vs.length).toArray (uh _) (λi j hij hj=>?_) ?_ rfl
  ·have:i=j:=by omega
   rw[this];exact ord.wo.irr _
  ·show ((vs.toArray.zip vs.toArray)).map (·.2)=_
   have e1:(vs.toArray.zip vs.toArray).map (·.2)=vs.toArray:=by
    apply Array.ext';simp[zq]
   rw[e1]
   congr 1
   apply wk;intro i;by_cases h:i<vs.length
   ·simp[h]
   ·simp[h]
 ·rw[ic N,ic N]
  rw[bc]at N;refine ba (kas_kind (T:=.type "list") 'o' (λv hv=>?_) rfl rfl ?_)
  ·have⟨i,h⟩:=bt hv
   have⟨r,qr,dr⟩:=gK hp h
   have:=hk r (ee qr)
   cases r with
   |lst es =>
    obtain⟨c,its,rfl,pl,_⟩:=dr;have⟨o,R,hc,_⟩:=pl.isList;exact AC R hc
   |_=>cases this
  refine ba (kat_run (ks:=vs) (vs:=vs) (Q:=λg s'=>wpAny (model X.prog X.w) A (Bc a e1 g) P E s') (G:=λf s'=>s'={ s with heap:=((s.heap.update a (mapSeq λ_=>(#[]:Y4))).push (seqObj "tuple" vs.toArray 0)).push (seqObj "list" #[] 0),toks:=s.toks }/\Ix vs.length f/\Up lt f vs.length) rfl 'o' 'o' (λf g s' hs F hf ⟨e,g1,g2⟩=>?_) ?_)
  ·subst e
   exact p g f g1 g2 (kat_snds rfl F) hf
  ·refine dS.wp (λi j C h hj hC=>?_) (λf hπ=>⟨rfl,hπ⟩) (Fs ord.wo 'o')
   unfold kas_ask;obtain⟨ri,qi,di⟩:=gK hp (show vs[i]?=some vs[i] by simp[h]);obtain⟨rj,qj,dj⟩:=gK hp (show vs[j]?=some vs[j] by simp[hj]);have ei:vs.getD i Value.none=vs[i]:=by simp[h]
   have ej:vs.getD j Value.none=vs[j]:=by simp[hj]
   rw[ei,ej];have⟨o1,o2⟩:=ord.lo i j ri rj qi qj;have lo:=FB di dj;exact FA (k:=7) di dj (lo.2 o1) 'o' (.inl ⟨rfl,hk _ (ee qi),hk _ (ee qj)⟩) (by rw[lo.1,<-o2];exact hC)
end
noncomputable def uO:U4->U5|[d]=>some d|_=>none
def xR(fa:al->U5):al->U0:=λρ=>(fa ρ).bind λd=>match d with
 |.lst ks=>if ks.all gU=true then gX uO ks else none
 |_=>none
section
variable {X:Cx}{a:Expr}{fa:al->U5}{pos:Pos}
def Q9(L:aK k X.A)(hg:Gl X "sorted")(hm:X.mg "sorted" = none)(ha:PE X a (eB X.K B fa))(he:starEach [a] X.env=[(false,eval a X.env)]:=by rfl)(U:W1 X [a] a []:=by rfl):PE X (.Call (.Name "sorted" p1) [a] [] pos) (eW X.K B (xR fa)) :=
 (vM (r:=λ xs H Q=>∃ Hf ds l ys,xs=[.ref l]/\bA X.K H l ys/\aH Hf H/\aR X.K Hf ds ys/\ds.all gU=true/\gW uO ds/\∀ p,H p=none->∀ G,aR X.K Hf (iT (eJ uO) ds) G->Q (.ref p) (aF H p (.lst G))) (by
  intro C s Z H xs us Q I rv h;obtain⟨Hf,ds,l,ys,rfl,hl,fh,dn,j,ok,q⟩:=h;obtain⟨u,rfl,ru⟩:=hE rv;cases ru;have⟨f,r1,pl,n⟩:=I.list hl;have E:=r1.length;have hdl:=dn.length;have h6:=ok.sm.2;refine PySem.Calls.call_function_entry kind_sorted plain_sorted entry_sorted (args_sorted1 _) ?_
  unfold Builtin.«sorted»;refine ba (m:=checkCount "sorted" 1 1 _) (wa ?_);refine ba (collect_list (A:=X.A.in1) pl.isList ?_ (by rw[<-E];exact n));have R:az X C Z H { s with heap:=(s.heap.push (seqObj "list" #[] 0)).update s.heap.objs.size (mapSeq (·++f.toArray)),toks:=s.toks }:=I.kept λb o e=>by rw[bf _ _ (wv (zd e))];exact jc _ e
  generalize (s.heap.push (seqObj "list" #[] 0)).update s.heap.objs.size (mapSeq (·++f.toArray))=h' at R;refine ba (on ?_ (by rw[<-E];exact n));have I2:=R.laid (a:=h'.objs.size) (o:=.lst ys) (t':=s.toks) (h':=h'.push (seqObj "list" f.toArray 0)) (λb o e=>jc _ e) (dc _) ⟨n,f,0,r1,pd _ rfl⟩;have w:H h'.objs.size=none:=R.hok.fresh (dc _);have T:(h'.push (seqObj "list" f.toArray 0)).get? h'.objs.size=some (seqObj "list" f.toArray 0):=pd _ rfl;have em:ds.map (rk uO)=ds:=(yg (g:=id) λd _=>rfl).trans (sw _);have od:=ok.ord;rw[em]at od;refine ba (fg (ji slot_list_sort ⟨_,T,rfl⟩ entry_list_sort (Q8 (A:=X.A.in1.in1) (by have:=L.units;show X.A.units+1+1+9<cLine;omega) I2 aT (fh.free w) (fh.trans (eP w)) dn (ok.sm.1.elim id elim) od (λr L=>lc.mp j r L) λs' M x N Y=>?_) (args_list_sort _)));refine⟨_,rfl,wa ⟨_,rfl,.ref h'.objs.size,aF H h'.objs.size (.lst (M.toList.map λi=>ys.getD i V.non)),?_,rfl,q _ w _ ?_⟩⟩
  ·have e2:aF (aF H h'.objs.size (.lst ys)) h'.objs.size (.lst (M.toList.map λi=>ys.getD i V.non))=aF H h'.objs.size (.lst (M.toList.map λi=>ys.getD i V.non)):=by
    funext b
    by_cases J:b=h'.objs.size
    ·subst J;rw[aT,aT]
    ·rw[aI J,aI J,aI J]
   rw[e2]at Y;exact Y
  ·rw[<-ok.out x N]
   have F:∀l:U7,(∀i∈l,i<ds.length)->aR X.K Hf (l.map λi=>ds.getD i D.non) (l.map λi=>ys.getD i V.non):=by
    intro l
    induction l with
    |nil=>intro _;exact .nil
    |cons i r ih =>
     intro hh;refine .cons ?_ (ih λz hz=>hh z (ua _ hz));have e1:ds[i]?=some (ds[i]'(hh i cc)):=vc _;have⟨v,e2,O⟩:=dn.zget e1;show Dn X.K Hf (ds.getD i D.non) (ys.getD i V.non);rw[ed,e1,ed,e2];exact O
   exact F _ λi hi=>ug.mp (x.mem_iff.mp hi)) hg hm ti (el ha fL U) 'd' 'd' he rfl).imp λZ H Q ⟨Hf,ρ,z,I,hz,q⟩=>by
  have⟨d,hd,hz⟩:=bind_some hz
  split at hz
  ·have⟨j,hz⟩:=mY hz
   unfold gX at hz
   split at hz
   rotate_left
   ·cases hz
   rename_i ok;cases hz;refine⟨Hf,ρ,_,I,hd,λy H1 v c O=>?_⟩;obtain⟨l,ys,rfl,h3,dn⟩:=O.lst c.fh;exact⟨y,_,l,ys,rfl,h3,c.fh,dn,j,ok,λp P G dz=>q y _ p G (c.trans (Ex.made c.fh P)) (c.hh.free P) (c.fh.free P) aT dz⟩
  ·cases hz
end
def lu:∀(ρ:al) (ds:U4),aN ρ=some ds->ds.length+1=1:=λρ ds h=>by cases h;rfl
def eY(h:∀(ρ:al) (ds:U4),a ρ=some ds->ds.length+1=n):∀(ρ:al) (ds:U4),aC f a ρ=some ds->ds.length+1=n+1:=λρ ds e=>by
 have⟨d,_,e⟩:=bind_some e;have⟨es,b,e⟩:=bind_some e;cases e;rw[gc,h ρ es b]
end L2
namespace L2
open PySem
theorem uP(h:fa ρ=some a)(c:a=true->fb ρ=some b):dH fa fb ρ=some (a && b):=by
 cases a with
 |false=>exact Ao h
 |true=>exact tR h (c rfl)
theorem Bd(h:fa ρ=some a)(c:a=false->fb ρ=some b):c8 fa fb ρ=some (a || b):=by
 cases a with
 |false=>exact tQ h (c rfl)
 |true=>exact Fc h
def fS(a:g x ρ=some ρ1)(b:f ρ1=.nx ρ2):eS g f (x::r) ρ=eS g f r ρ2:=by
 rw[eS,a];dsimp only;rw[b]
def fI(a:fa ρ=some d)(b:g d=some z):e1 g fa ρ=some z:=by unfold e1;rw[a];exact b
def m5(a:ρ[i]?=some (some (.ow ds)))(b:fe ρ=some d)(c:ds.length<=100000):eR i fe ρ=.nx (ρ.set i (some (.ow (ds++[d])))):=by
 unfold eR;rw[a];dsimp only;rw[b];dsimp only;rw[ya (kW c)]
def Ra(h:fe ρ=some d)(a:g d ρ=some ρ1):kr g fe ρ=.nx ρ1:=by unfold kr;rw[h];simp only[cb,a]
def GW(h:0<=j/\j<=1000000/\i.natAbs<2 ^ 64):o0 (.int i) (.int j)=some (.int (i ^ j.toNat)):=by unfold o0 gP;exact ya (qc h)
def Rb{l:Y7}:cY [.lst (l.map D.int)]=some (.int l.length):=by unfold cY;dsimp only;rw[aa]
noncomputable def pT(l:Y7)(i:Nat):Int:=l.getD i 0
def Rc(h:i<l.length):bq (.lst (l.map D.int)) (.int (i:Nat))=some (.int (pT l i)):=by
 refine zx ?_;rw[de];simp[pT,h]
def Re:tL [.int i,.int j]=some (.int (if j<i then j else i)):=rfl
def Be{l:Y7}{a:Nat}(h:a<=b):hX (.lst (l.map D.int)) (some (a:Int)) (some (b:Int))=some (.lst (((l.drop a).take (b - a)).map D.int)):=by
 unfold hX;dsimp only;rw[wM,Fj _ _ _ h]
structure cP(C:D->Prop):Prop where
 eq:∀a b,C a->C b->(bD a b=true↔a=b)
 ok:∀a b,C a->C b->eg a b=true
 tr:∀a b c,C a->C b->C c->b9 a b=true->b9 b c=true->b9 a c=true
 tot:∀a b,C a->C b->a=b\/b9 a b=true\/b9 b a=true
 as:∀a b,C a->C b->b9 a b=true->b9 b a=false
theorem cP.irr(T:cP C)(h:C a):b9 a a=false:=by
 cases e:b9 a a with
 |false=>rfl
 |true=>rw[T.as a a h h e]at e;cases e
def pU(d:D):Prop:=∃i:Int,d=.int i
def xS(d:D):Prop:=∃b:Bool,d=.bl b
def uQ(d:D):Prop:=∃l:U7,d=.str l
def xT(i j:Int):b9 (.int i) (.int j)=decide (i<j):=by rw[b9];rfl
def rK:cP pU where
 eq:=λa b ⟨i,x⟩ ⟨j,y⟩=>by subst x y;rw[Au];simp
 ok:=λa b ⟨i,x⟩ ⟨j,y⟩=>by subst x y;rw[eg];rfl
 tr:=λa b c ⟨i,x⟩ ⟨j,y⟩ ⟨k,z⟩ h1 h2=>by
  subst x y z;rw[xT]at *
  have:=kc h1
  have:=kc h2
  exact qc 'o'
 tot:=λa b ⟨i,x⟩ ⟨j,y⟩=>by
  subst x y;rw[xT,xT];rcases Int.lt_trichotomy i j with h|h|h
  ·exact .inr (.inl (qc h))
  ·exact .inl (by rw[h])
  ·exact .inr (.inr (qc h))
 as:=λa b ⟨i,x⟩ ⟨j,y⟩ h=>by
  subst x y;rw[xT]at *
  have:=kc h
  exact be 'o'
def xU(i j:Bool):b9 (.bl i) (.bl j)=(!i && j):=by rw[b9];cases i <;> cases j <;> rfl
def Bf:cP xS where
 eq:=λa b ⟨i,x⟩ ⟨j,y⟩=>by subst x y;rw[tU];cases i <;> cases j <;> simp
 ok:=λa b ⟨i,x⟩ ⟨j,y⟩=>by subst x y;rw[eg];rfl
 tr:=λa b c ⟨i,x⟩ ⟨j,y⟩ ⟨k,z⟩ h1 h2=>by
  subst x y z;rw[xU]at *
  cases i <;> cases j <;> cases k <;> simp_all
 tot:=λa b ⟨i,x⟩ ⟨j,y⟩=>by
  subst x y;rw[xU,xU]
  cases i <;> cases j <;> simp
 as:=λa b ⟨i,x⟩ ⟨j,y⟩ h=>by
  subst x y;rw[xU]at *
  cases i <;> cases j <;> simp_all
def xV(l m:U7):b9 (.str l) (.str m)=decide (l<m):=by rw[b9];rfl
def GX(h:D.str i=D.str j):i=j:=by
 have a:S i=S j:=V.str.inj (D.sc.inj h);have b:i.toArray=j.toArray:=Str.mk.inj a
 simpa using b
def Bg:cP uQ where
 eq:=λa b ⟨i,x⟩ ⟨j,y⟩=>by subst x y;rw[As];exact⟨λh=>by rw[kc h],λh=>qc (GX h)⟩
 ok:=λa b ⟨i,x⟩ ⟨j,y⟩=>by subst x y;rw[eg];rfl
 tr:=λa b c ⟨i,x⟩ ⟨j,y⟩ ⟨k,z⟩ h1 h2=>by
  subst x y z;rw[xV]at *;exact qc (List.lt_trans (kc h1) (kc h2))
 tot:=λa b ⟨i,x⟩ ⟨j,y⟩=>by
  subst x y;rw[xV,xV];by_cases h:i<j
  ·exact .inr (.inl (qc h))
  ·by_cases h':j<i
   ·exact .inr (.inr (qc h'))
   ·exact .inl (by rw[List.le_antisymm (List.not_lt.mp h') (List.not_lt.mp h)])
 as:=λa b ⟨i,x⟩ ⟨j,y⟩ h=>by
  subst x y;rw[xV]at *;exact be (List.lt_asymm (kc h))
def iU(C:Nat->D->Prop):U4->Prop
 |[]=>True
 |d::r=>C 0 d/\iU (λi=>C (i+1)) r
theorem xW:∀{C:Nat->D->Prop},(∀i,cP (C i))->∀as bs,iU C as->iU C bs->(bO as bs=true↔as=bs)
 |C,T,[],[],_,_=>by simp[bO]
 |C,T,[],_::_,_,_=>by simp[bO]
 |C,T,_::_,[],_,_=>by simp[bO]
 |C,T,a::as,b::bs,c,e=>by
  rw[bO,uc,(T 0).eq a b c.1 e.1,xW (λi=>T (i+1)) as bs c.2 e.2];simp
theorem Bh:∀{C:Nat->D->Prop},(∀i,cP (C i))->∀as bs,iU C as->iU C bs->j7 as bs=true
 |C,T,[],[],_,_=>by simp[j7]
 |C,T,[],_::_,_,_=>by simp[j7]
 |C,T,_::_,[],_,_=>by simp[j7]
 |C,T,a::as,b::bs,c,e=>by rw[j7,(T 0).ok a b c.1 e.1,Bh (λi=>T (i+1)) as bs c.2 e.2];rfl
theorem Bi:∀{C:Nat->D->Prop},(∀i,cP (C i))->∀as bs,iU C as->iU C bs->as=bs\/cW as bs=true\/cW bs as=true
 |C,T,[],[],_,_=>.inl rfl
 |C,T,[],_::_,_,_=>.inr (.inl (by rw[cW]))
 |C,T,_::_,[],_,_=>.inr (.inr (by rw[cW]))
 |C,T,a::as,b::bs,c,f=>by
  by_cases e:a=b
  ·subst e
   have h:=((T 0).eq a a c.1 c.1).mpr rfl;rw[cW,cW,h,ya rfl,ya rfl];rcases Bi (λi=>T (i+1)) as bs c.2 f.2 with z|z|z
   ·exact .inl (by rw[z])
   ·exact .inr (.inl z)
   ·exact .inr (.inr z)
  ·have g:¬bD a b=true:=λz=>e (((T 0).eq a b c.1 f.1).mp z)
   have j:¬bD b a=true:=λz=>e (((T 0).eq b a f.1 c.1).mp z).symm
   rw[cW,cW,ic g,ic j];rcases(T 0).tot a b c.1 f.1 with z|z|z
   ·exact absurd z e
   ·exact .inr (.inl z)
   ·exact .inr (.inr z)
theorem Bj:∀{C:Nat->D->Prop},(∀i,cP (C i))->∀as bs,iU C as->iU C bs->cW as bs=true->cW bs as=false
 |C,T,[],[],_,_,h=>by rw[cW]at h;cases h
 |C,T,[],_::_,_,_,_=>by rw[cW]
 |C,T,_::_,[],_,_,h=>by rw[cW]at h;cases h
 |C,T,a::as,b::bs,c,f,h=>by
  by_cases e:a=b
  ·subst e
   have g:=((T 0).eq a a c.1 c.1).mpr rfl;rw[cW,g,ya rfl]at h ⊢;exact Bj (λi=>T (i+1)) as bs c.2 f.2 h
  ·have j:¬bD a b=true:=λz=>e (((T 0).eq a b c.1 f.1).mp z)
   have l:¬bD b a=true:=λz=>e (((T 0).eq b a f.1 c.1).mp z).symm
   rw[cW,ic j]at h;rw[cW,ic l];exact(T 0).as a b c.1 f.1 h
open Classical in
theorem Bk:∀{C:Nat->D->Prop},(∀i,cP (C i))->∀as bs g,iU C as->iU C bs->iU C g->cW as bs=true->cW bs g=true->cW as g=true
 |C,T,as,[],g,_,_,_,h,h'=>by cases as <;> (rw[cW]at h;cases h)
 |C,T,as,b::bs,[],_,_,_,h,h'=>by rw[cW]at h';cases h'
 |C,T,[],b::bs,c::g,_,_,_,h,h'=>by rw[cW]
 |C,T,a::as,b::bs,c::g,j,l,m,h,h'=>by
  have f:∀x y,C 0 x->C 0 y->∀p q:Bool,(if bD x y=true then p else q)=if x=y then p else q:=λx y o r p q=>by
   by_cases e:x=y
   ·rw[ya (((T 0).eq x y o r).mpr e),ya e]
   ·rw[ic (λz=>e (((T 0).eq x y o r).mp z)),ic e]
  rw[cW,f a b j.1 l.1]at h;rw[cW,f b c l.1 m.1]at h';rw[cW,f a c j.1 m.1];by_cases e1:a=b
  ·subst e1
   rw[ya rfl]at h;by_cases e2:a=c
   ·subst e2
    rw[ya rfl]at h' ⊢;exact Bk (λi=>T (i+1)) as bs g j.2 l.2 m.2 h h'
   ·rw[ic e2]at h' ⊢;exact h'
  ·rw[ic e1]at h
   by_cases e2:b=c
   ·subst e2
    rw[ic e1];exact h
   ·rw[ic e2]at h'
    have n:=(T 0).tr a b c j.1 l.1 m.1 h h';by_cases s:a=c
    ·subst s;rw[(T 0).irr j.1]at n;cases n
    ·rw[ic s];exact n
def xX(C:Nat->D->Prop)(d:D):Prop:=∃ds,d=.lst ds/\iU C ds
def l6(C:Nat->D->Prop)(d:D):Prop:=∃ds,d=.tup ds/\iU C ds
def GY(T:∀i,cP (C i)):cP (xX C) where
 eq:=λa b ⟨i,x,p⟩ ⟨j,y,q⟩=>by subst x y;rw[bD,xW T i j p q];simp
 ok:=λa b ⟨i,x,p⟩ ⟨j,y,q⟩=>by subst x y;rw[eg];exact Bh T i j p q
 tr:=λa b c ⟨i,x,p⟩ ⟨j,y,q⟩ ⟨k,z,r⟩ h1 h2=>by subst x y z;rw[b9]at *;exact Bk T i j k p q r h1 h2
 tot:=λa b ⟨i,x,p⟩ ⟨j,y,q⟩=>by
  subst x y;rw[b9,b9];rcases Bi T i j p q with z|z
  ·exact .inl (by rw[z])
  ·exact .inr z
 as:=λa b ⟨i,x,p⟩ ⟨j,y,q⟩ h=>by subst x y;rw[b9]at *;exact Bj T i j p q h
def rM(T:∀i,cP (C i)):cP (l6 C) where
 eq:=λa b ⟨i,x,p⟩ ⟨j,y,q⟩=>by subst x y;rw[bD,xW T i j p q];simp
 ok:=λa b ⟨i,x,p⟩ ⟨j,y,q⟩=>by subst x y;rw[eg];exact Bh T i j p q
 tr:=λa b c ⟨i,x,p⟩ ⟨j,y,q⟩ ⟨k,z,r⟩ h1 h2=>by subst x y z;rw[b9]at *;exact Bk T i j k p q r h1 h2
 tot:=λa b ⟨i,x,p⟩ ⟨j,y,q⟩=>by
  subst x y;rw[b9,b9];rcases Bi T i j p q with z|z
  ·exact .inl (by rw[z])
  ·exact .inr z
 as:=λa b ⟨i,x,p⟩ ⟨j,y,q⟩ h=>by subst x y;rw[b9]at *;exact Bj T i j p q h
theorem xY:∀{ds:U4},(∀d∈ds,C d)->iU (λ_=>C) ds
 |[],_=>kg
 |d::r,h=>⟨h d cc,xY λe a=>h e (ua _ a)⟩
end L2
namespace K43
open PySem L2
def f_q25:al->aO :=
  (aY (ir 3 (iq aN))
  (aY (bK 4 (aA 2))
  (aY (bK 5 (eC (.int 0)))
  (aY (ek (iE (aA 0)) (gN 6) (aY (bT (dH (tE (e2 i5 (au 5) (eC (.int 0)))) (c8 (tE (aA 6)) (tE (e2 kO (au 5) (au 1))))) (aY (bK 4 (e2 bG (au 4) (eC (.int 1))))
  (bK 5 (eC (.int 0)))) cr)
  (aY (bK 5 (e2 bG (au 5) (eC (.int 1))))
  (eR 3 (aA 4)))))
  (jK 3 (bI (aA 3)))))))
def Bl:U4->U5:=cE 3 7 f_q25
def f_q24:al->aO :=
  (aY (bT (tE (e2 i4 (eC (.str [124])) (au 0))) (bI (aA 0)) cr)
  (aY (bK 1 (eM "str" tM (au 0) (aC (eC (.str [124])) aN)))
  (bI (e2 bG (e2 bG (dC (au 0) (oS (e2 bG (au 1) (eC (.int 1)))) oN) (eC (.str [44,32]))) (dC (au 0) oN (oS (au 1)))))))
def uR:U4->U5:=cE 1 2 f_q24
def f_q23:al->aO :=
  (bI (eM "str" wB (eM "str" tN (eC (.str [])) (aC (eL (dJ 1 [] (iE (bH 1 uR (aC (aA 0) aN))) (gN 0) (tE (e2 kN (au 0) (eC (.str LF)))) (aA 0))) aN)) aN))
def xZ:U4->U5:=cE 1 1 f_q23
def f_q26:al->aO :=
  (bI (eL (dJ 1 [] (iE (au 0)) (gN 0) (λ_=>some true) (eN cM (aC (bH 1 xZ (aC (aA 0) aN)) (aC (bH 1 uR (aC (aA 0) aN)) aN))))))
def iy:U4->U5:=cE 1 1 f_q26
def f_q28:al->aO :=
  (bI (uz oZ oZ Pa (eC (.int 0)) (e2 bq (au 0) (eC (.int 1))) (e2 bq (au 0) (eC (.int 2))) (au 1)))
def x2:U4->U5:=cE 2 2 f_q28
def f_q20:al->aO :=
  (bI (eN wy (aC (eN nI (aC (au 0) aN)) aN)))
def rN:U4->U5:=cE 1 1 f_q20
def f_q15:al->aO :=
  (bI (eN cM (aC (bH 1 iy (aC (e2 bq (au 0) (eC (.int 0))) aN)) (aC (e2 bq (au 0) (eC (.int 1))) (aC (e2 bq (au 0) (eC (.int 2))) (aC (e2 bq (au 0) (eC (.int 3))) aN))))))
def l7:U4->U5:=cE 1 1 f_q15
def f_q21:al->aO :=
  (uy 1 (lS (iE (aA 0)) (gN 2) (lS (iE (aA 2)) (gT 4 (bJ (gN 3) (bJ (gN 4) (bJ (gN 5) (bJ (gN 6) dI))))) (ux [2,0,0,1] (eN cM (aC (bH 1 rN (aC (aA 3) aN)) (aC (aA 4) (aC (aA 5) (aC (aA 6) aN)))))))) l7)
def g8:U4->U0:=iu 1 7 f_q21
def f_q1b:al->aO :=
  (bI (eT (dH (tE (e2 bR (e2 bG (e2 bq (au 0) (eC (.int 1))) (eC (.int 1))) (au 1))) (tE (e2 bR (e2 bq (au 0) (eC (.int 2))) (au 2))))))
def uS:U4->U5:=cE 3 3 f_q1b
def f_q1:al->aO :=
  (aY (Fk 2 (.dk [] []))
  (aY (ek (iE (aA 1)) (gT 4 (bJ (gN 3) (bJ (gN 4) (bJ (gN 5) (bJ (gN 6) dI))))) (ek (iE (dC (au 0) (oS (au 4)) (oS (e2 bG (au 5) (eC (.int 1)))))) (gN 7) (nO 2 (au 7) (eT (c8 (tE (aA 6)) (tE (pv (au 2) (au 7) (eC (.bl false)))))))))
  (AB 2 (bI (aA 2)))))
def Bm:U4->U5:=cE 2 8 f_q1
def f_q17:al->aO :=
  (aY (bK 2 (bH 2 Bm (aC (aA 0) (aC (aA 1) aN))))
  (aY (ir 3 (iq aN))
  (aY (ek (iE (eL (wN tY (aC (au 2) aN)))) (gN 4) (bT (dH (tE (e2 i5 (eN cY (aC (au 3) aN)) (eC (.int 0)))) (tE (bH 3 uS (aC (e2 bq (au 3) (e1 mI (eC (.int 1)))) (aC (aA 4) (aC (e2 iS (au 2) (au 4)) aN)))))) (qU 3 (e1 mI (eC (.int 1))) (eN cM (aC (e2 bq (e2 bq (au 3) (e1 mI (eC (.int 1)))) (eC (.int 0))) (aC (aA 4) (aC (e2 iS (au 2) (au 4)) aN))))) (eR 3 (eN cM (aC (aA 4) (aC (aA 4) (aC (e2 iS (au 2) (au 4)) aN)))))))
  (lO 3))))
def Bn:U4->U0:=iu 2 5 f_q17
def f_q2:al->aO :=
  (uD 1 (lU (iE (aA 0)) (gN 2) (rp (w9 3 (e2 bq (au 2) (eC (.int 0))))
  (rp (lU (iR nJ (aC (eC (.int 1)) (aC (eN cY (aC (au 3) aN)) aN))) (gN 4) (pG (dC (au 3) oN (oS (au 4)))))
  (ro (au 3) (aA 2))))))
def Bo:U4->U5:=cE 1 5 f_q2
def f_q5:al->aO :=
  (ek (iE (aA 0)) (gN 2) (bT (eQ (tE (bH 2 x2 (aC (aA 2) (aC (aA 1) aN))))) rl cr))
def Bp:U4->U5:=cE 2 3 f_q5
def f_q1c:al->aO :=
  (aY (bK 4 (eL (gC 1 g8 (aC (eN dB (aC (aA 3) aN)) aN))))
  (aY (i7 (bH 2 Bp (aC (aA 4) (aC (eN cY (aC (au 0) aN)) aN))))
  (aY (bK 5 (bH 3 Bl (aC (aA 0) (aC (aA 1) (aC (aA 2) aN)))))
  (aY (bK 6 (bH 1 Bo (aC (aA 4) aN)))
  (bI (eL (dJ 1 [5,6] (iE (eL (F8 iy (au 6)))) (gN 0) (λ_=>some true) (eN cM (aC (aA 0) (aC (eL (gC 2 Bn (aC (aA 1) (aC (e2 iS (au 2) (au 0)) aN)))) aN))))))))))
def lx:U4->U5:=mQ 4 7 f_q1c
def f_q13:al->aO :=
  (aY (bK 2 (e2 bq (au 0) (eC (.int 1))))
  (bI (eH (tE (e2 bR (e2 bq (au 0) (eC (.int 0))) (eC (.str [112,117,116])))) (qH oZ oZ (eC (.int 0)) (au 2) (au 1)) (qH oZ nH (eC (.int 0)) (au 2) (au 1)))))
def Bq:U4->U5:=cE 2 3 f_q13
def f_qf:al->aO :=
  (aY (bK 2 (e2 bq (au 1) (eC (.int 1))))
  (aY (bT (tE (e2 bR (e2 bq (au 1) (eC (.int 0))) (eC (.str [112,117,116])))) (bI (e2 bG (e2 bG (dC (au 0) oN (oS (au 2))) (eN dB (aC (e2 bq (au 1) (eC (.int 2))) aN))) (dC (au 0) (oS (au 2)) oN))) cr)
  (bI (e2 bG (dC (au 0) oN (oS (au 2))) (dC (au 0) (oS (e2 bG (au 2) (eC (.int 1)))) oN)))))
def x3:U4->U5:=cE 2 3 f_qf
def f_q11:al->aO :=
  (bI (eL (dJ 4 [1] (iE (au 0)) (gT 4 (bJ (gN 0) (bJ (gN 1) (bJ (gN 2) (bJ (gN 3) dI))))) (c8 (tE (e2 bX (au 1) (au 4))) (tE (e2 bX (au 2) (au 4)))) (eN cM (aC (aA 0) (aC (eH (tE (e2 i5 (au 1) (au 4))) (e2 mH (au 1) (eC (.int 1))) (aA 1)) (aC (eH (tE (e2 kO (au 2) (au 4))) (e2 mH (au 2) (eC (.int 1))) (aA 2)) (aC (aA 3) aN))))))))
def x4:U4->U5:=cE 2 2 f_q11
def f_q12:al->aO :=
  (bI (eL (dJ 4 [1] (iE (au 0)) (gT 4 (bJ (gN 0) (bJ (gN 1) (bJ (gN 2) (bJ (gN 3) dI))))) (λ_=>some true) (eN cM (aC (aA 0) (aC (eH (tE (e2 kO (au 1) (au 4))) (e2 bG (au 1) (eC (.int 1))) (aA 1)) (aC (eH (tE (e2 kO (au 2) (au 4))) (e2 bG (au 2) (eC (.int 1))) (aA 2)) (aC (aA 3) aN))))))))
def x5:U4->U5:=cE 2 2 f_q12
def f_qb:al->aO :=
  (aY (bK 2 (eH (tE (e2 bR (e2 bq (au 1) (eC (.int 0))) (eC (.str [112,117,116])))) (bH 2 x5 (aC (aA 0) (aC (e2 bq (au 1) (eC (.int 1))) aN))) (bH 2 x4 (aC (aA 0) (aC (e2 bq (au 1) (eC (.int 1))) aN)))))
  (bI (eL (gC 1 g8 (aC (eN dB (aC (aA 2) aN)) aN)))))
def uT:U4->U5:=cE 2 3 f_qb
def Br:GG :=
  (lU (iE (aA 0)) (gT 2 (bJ (gN 2) (bJ (gN 3) dI))) (pI (bH 1 rN (aC (aA 2) aN)) (dJ 3 [] (iE (au 3)) (gT 3 (bJ (gN 0) (bJ (gN 1) (bJ (gN 2) dI)))) (λ_=>some true) (eN cM (aC (aA 0) (aC (aA 1) (aC (aA 2) aN)))))))
def Bt:U4->Option GD:=nV 1 4 1 Br
def f_q1e:al->aO :=
  (pM 2 3 4 0 1 Bt
  (bI (eL (dJ 1 [2,3] (iE (eL (F9 iy (au 4)))) (gN 0) (tE (e2 pJ (e2 ku (au 1) (au 0)) (e2 ku (au 2) (au 0)))) (eN cM (aC (aA 0) (aC (e2 ku (au 1) (au 0)) (aC (e2 ku (au 2) (au 0)) aN))))))))
def uU:U4->U5:=mQ 2 5 f_q1e
def f_q7:al->aO :=
  (aY (bT (tE (e2 nH (au 1) (eN cY (aC (au 0) aN)))) (bI (e2 bq (au 0) (au 1))) cr)
  (bI (eC (.int 0))))
def ou:U4->U5:=cE 2 2 f_q7
def f_q9:al->aO :=
  (aY (bK 2 (eC (.str SG)))
  (aY (bK 3 (eC (.str [])))
  (aY (ek (iR mJ (aC (e2 bG (eC (.int 1)) (e2 bM (au 0) (eC (.int 3)))) aN)) (gN 4) (bK 3 (e2 bG (au 3) (e2 bq (au 2) (e2 bM (e2 bG (e2 cV (au 0) (e2 bG (au 4) (eC (.int 5)))) (e2 gA (e2 gA (eC (.int 7)) (au 4)) (au 4))) (eC (.int 63)))))))
  (aY (bK 5 (e2 bM (e2 cV (au 0) (eC (.int 15))) (e2 bG (eN cY (aC (au 3) aN)) (eC (.int 1)))))
  (aY (bK 6 (e2 bG (e2 bG (dC (au 3) oN (oS (au 5))) (eN t5 (aC (e2 cV (au 1) (eC (.int 2))) aN))) (dC (au 3) (oS (au 5)) oN)))
  (aY (bK 7 (e2 bM (e2 bG (e2 cV (au 0) (eC (.int 240))) (e2 cV (au 1) (eC (.int 2)))) (eC (.int 6))))
  (aY (bT (tE (e2 bR (au 7) (eC (.int 1)))) (bK 6 (e2 bG (e2 bG (au 6) (eC (.str [124]))) (au 3))) cr)
  (aY (bT (tE (e2 bR (au 7) (eC (.int 5)))) (bK 6 (e2 bG (e2 bG (e2 bG (e2 bG (au 6) (eC (.str [124]))) (dC (au 3) oN (oS (eC (.int 3))))) (eC (.str [32]))) (dC (au 3) oN (oS (eC (.int 3)))))) cr)
  (aY (bT (tE (e2 bR (au 7) (eC (.int 2)))) (bK 6 (e2 bG (e2 bG (au 3) (eC (.str [32]))) (au 6))) cr)
  (aY (bT (tE (e2 bR (au 7) (eC (.int 3)))) (bK 6 (e2 bG (eC (.str [45])) (au 6))) cr)
  (aY (bT (tE (e2 bR (e2 bM (au 1) (eC (.int 2))) (eC (.int 1)))) (bI (e2 bG (au 6) (eC (.str [45])))) cr)
  (bI (aA 6)))))))))))))
def uV:U4->U5:=cE 2 8 f_q9
def f_q8:al->aO :=
  (aY (bK 2 (e2 bq (eN dB (aC (eC (.int 1)) (aC (eC (.int 1)) (aC (eC (.int 2)) (aC (eC (.int 1)) (aC (eC (.int 2)) (aC (eC (.int 3)) aN))))))) (e2 bM (au 0) (eC (.int 6)))))
  (bI (eN wy (aC (eL (dJ 1 [0,1] (iR mJ (aC (au 2) aN)) (gN 0) (λ_=>some true) (bH 2 uV (aC (aA 2) (aC (e2 bM (e2 cV (au 1) (e2 bG (eC (.int 7)) (e2 gA (eC (.int 5)) (au 0)))) (eC (.int 6))) aN))))) aN))))
def x6:U4->U5:=cE 2 3 f_q8
def f_q19:al->aO :=
  (bI (eL (dJ 1 [] (iE (au 0)) (gN 0) (λ_=>some true) (e2 bR (e2 bM (au 0) (eC (.int 6))) (eC (.int 1))))))
def Bu:U4->U5:=cE 1 1 f_q19
def f_q6:al->aO :=
  (aY (bK 1 (e2 bq (eN dB (aC (e2 bG (eC (.int 1)) (e2 bM (au 0) (eC (.int 4)))) (aC (e2 bG (eC (.int 1)) (e2 bM (e2 gA (au 0) (eC (.int 48271))) (e2 o0 (eC (.int 10)) (eC (.int 59))))) aN))) (eN wz (aC (e2 bR (e2 bM (e2 cV (au 0) (eC (.int 4))) (eC (.int 7))) (eC (.int 0))) aN))))
  (bI (eN cM (aC (aA 1) (aC (e2 bq (eN dB (aC (e2 bM (e2 cV (au 0) (eC (.int 28))) (eC (.int 12))) (aC (e2 bM (e2 gA (au 0) (eC (.int 982451653))) (e2 mH (e2 o0 (eC (.int 10)) (eC (.int 60))) (eC (.int 2000)))) aN))) (e2 bM (e2 cV (au 0) (eC (.int 7))) (eC (.int 2)))) aN)))))
def Bv:U4->U5:=cE 1 2 f_q6
def f_q16:al->aO :=
  (aY (ir 3 (iq aN))
  (aY (ek (iE (aA 0)) (gN 4) (aY (bK 5 (e2 bM (e2 gA (au 4) (eC (.int 1583458089))) (eC (.int 2147483647))))
  (bT (tE (e2 i5 (au 1) (eC (.int 0)))) (aY (bK 6 (e2 bM (e2 cV (au 5) (eC (.int 11))) (au 1)))
  (aY (bK 7 (eN tL (aC (e2 mH (au 1) (eC (.int 1))) (aC (e2 bG (au 6) (e2 bq (eN dB (aC (eC (.int 0)) (aC (eC (.int 0)) (aC (eC (.int 1)) (aC (eC (.int 2)) (aC (e2 bM (e2 cV (au 5) (eC (.int 55))) (eC (.int 30))) (aC (aA 1) aN))))))) (e2 bM (e2 cV (au 5) (eC (.int 13))) (eC (.int 6))))) aN))))
  (eR 3 (eN cM (aC (bH 2 x6 (aC (aA 5) (aC (aA 2) aN))) (aC (aA 6) (aC (aA 7) (aC (e2 bR (e2 bM (e2 cV (au 5) (eC (.int 17))) (eC (.int 3))) (eC (.int 0))) aN)))))))) cr)))
  (jK 3 (bI (aA 3)))))
def uW:U4->U5:=cE 3 8 f_q16
def f_qa:al->aO :=
  (aY (bT (c8 (tE (e2 bR (e2 bM (au 0) (eC (.int 2))) (eC (.int 0)))) (tE (e2 bR (au 1) (eC (.int 0))))) (bI (eN cM (aC (eC (.str [112,117,116])) (aC (e2 bM (e2 cV (au 0) (eC (.int 2))) (e2 bG (au 1) (eC (.int 1)))) (aC (e2 bR (e2 bM (e2 cV (au 0) (eC (.int 7))) (eC (.int 3))) (eC (.int 0))) aN))))) cr)
  (bI (eN cM (aC (eC (.str [99,117,116])) (aC (e2 bM (e2 cV (au 0) (eC (.int 2))) (au 1)) aN)))))
def Bw:U4->U5:=cE 2 2 f_qa
def Bx:GG :=
  (lU (iE (aA 0)) (gT 2 (bJ (gN 2) (bJ (gN 3) dI))) (pI (au 2) (wN gQ (aC (au 3) aN))))
def uX:U4->Option GD:=nV 1 4 1 Bx
def f_q14:al->aO :=
  (aY (bT (eQ (tE (e1 (qM "list") (au 0)))) (bI (eC (.bl false))) cr)
  (aY (uN 3 1 uX (aC (aA 1) aN))
  (aY (ek (iE (aA 0)) (gN 4) (aY (bT (c8 (eQ (tE (e1 (qM "tuple") (au 4)))) (c8 (tE (e2 bX (eN cY (aC (au 4) aN)) (eC (.int 3)))) (c8 (tE (e2 rJ (e2 bq (au 4) (eC (.int 1))) (e2 bq (au 4) (eC (.int 2))))) (tE (e2 pJ (e2 ku (au 3) (e2 bq (au 4) (eC (.int 0)))) (e2 bq (au 4) (eC (.int 1)))))))) (bI (eC (.bl false))) cr)
  (bT (tE (e2 o9 (e2 bq (au 4) (eC (.int 2))) (eC .non))) (uL 3 (e2 bq (au 4) (eC (.int 0)))) (nO 3 (e2 bq (au 4) (eC (.int 0))) (eN nI (aC (e2 bq (au 4) (eC (.int 2))) aN))))))
  (aY (bK 5 (eL (dJ 1 [] (iE (au 0)) (gN 0) (λ _=>some true) (bH 1 iy (aC (e2 bq (au 0) (eC (.int 0))) aN)))))
  (bI (eT (dH (tE (e2 bR (au 5) (eL (xR (au 5))))) (tE (e2 uM (au 3) (xQ 1 uX (aC (aA 2) aN)))))))))))
def rO:U4->U5:=cE 3 6 f_q14
def f_qe:al->aO :=
  (aY (ir 1 (iq aN))
  (aY (ek (iE (aA 0)) (gN 2) (aY (ir 3 (iq aN))
  (aY (ek (iE (dC (au 2) (oS (eC (.int 1))) oN)) (gN 4) (eR 3 (eH (tE (e2 o9 (au 4) (eC .non))) (eC .non) (eN nI (aC (au 4) aN)))))
  (eR 1 (eN cM (aC (e2 bq (au 2) (eC (.int 0))) (aC (e2 bq (au 3) (eC (.int 0))) (aC (e2 bq (au 3) (eC (.int 1))) aN))))))))
  (jK 1 (bI (aA 1)))))
def uY:U4->U5:=cE 1 5 f_qe
def f_q1d:al->Option (D×al) :=
  (lh (bK 3 (k8 (bH 4 lx (aC (aA 1) (aC (e1 (dU "most") (au 0)) (aC (e1 (dU "first") (au 0)) (aC (aA 2) aN)))))))
  (uG 4 (bH 2 uU (aC (e1 (dU "known") (au 0)) (aC (aA 3) aN)))
  (pR 4 0 "book" (aA 1)
  (pR 4 0 "marks" (aA 2)
  (pR 4 0 "known" (aA 3)
  (λd ρ=>some (d,ρ)))))))
def rP:Fl->U4->Option (Fl×D):=lY 5 f_q1d
def f_q27:al->Option (D×al) :=
  (lh (bT (eQ (tE (bH 2 Bq (aC (aA 1) (aC (eN cY (aC (e1 (dU "book") (au 0)) aN)) aN))))) rl cr)
  (g7 0 "go_on" rP (aC (bH 2 x3 (aC (e1 (dU "book") (au 0)) (aC (aA 1) aN))) (aC (bH 2 uT (aC (e1 (dU "marks") (au 0)) (aC (aA 1) aN))) aN))))
def rQ:Fl->U4->Option (Fl×D):=lY 2 f_q27
def f_q1a:al->Option (D×al) :=
  (g7 0 "go_on" rP (aC (e1 (dU "book") (au 0)) (aC (eL (gC 1 g8 (aC (eN dB (aC (e1 (dU "marks") (au 0)) (aC (eN dB (aC (aA 1) aN)) aN))) aN))) aN)))
def x8:Fl->U4->Option (Fl×D):=lY 2 f_q1a
def f_q10:al->Option (D×al) :=
  (lh (bT (tE (e2 i4 (au 1) (e1 (dU "marks") (au 0)))) rl cr)
  (g7 0 "go_on" rP (aC (e1 (dU "book") (au 0)) (aC (eL (dJ 1 [1] (iE (e1 (dU "marks") (au 0))) (gN 0) (tE (e2 bX (au 0) (au 1))) (aA 0))) aN))))
def By:Fl->U4->Option (Fl×D):=lY 2 f_q10
def f_q18:al->Option ((D×D×D)×al) :=
  (lh (bK 5 (e2 bM (au 1) (eC (.int 5))))
  (lZ (tE (e2 nH (au 5) (eC (.int 3)))) (lh (bK 6 (bH 2 Bw (aC (e2 cV (au 1) (eC (.int 5))) (aC (eN cY (aC (au 2) aN)) aN))))
  (n7 (g7 0 "do" rQ (aC (aA 6) aN)) (bH 2 x3 (aC (aA 2) (aC (aA 6) aN))) (bH 2 uT (aC (aA 3) (aC (aA 6) aN)))))
  (lZ (dH (tE (e2 bR (au 5) (eC (.int 3)))) (tE (e2 bX (au 3) (eN dB aN)))) (lh (bK 7 (e2 bq (au 3) (e2 bM (e2 cV (au 1) (eC (.int 5))) (eN cY (aC (au 3) aN)))))
  (lZ (tE (e2 i5 (e2 bM (e2 cV (au 1) (eC (.int 25))) (eC (.int 3))) (eC (.int 0)))) (n7 (g7 0 "take_out" By (aC (aA 7) aN)) (aA 2) (eL (dJ 1 [7] (iE (au 3)) (gN 0) (tE (e2 bX (au 0) (au 1))) (aA 0))))
  (n7 (g7 0 "put_in" x8 (aC (aA 7) aN)) (aA 2) (aA 3))))
  (lZ (tE (e2 bR (au 2) (eN dB aN))) (n7 (uF (fW (iq aN))) (aA 2) (aA 3))
  (lh (bK 7 (e2 bq (bH 3 uW (aC (eN dB (aC (aA 1) aN)) (aC (eN cY (aC (au 2) aN)) (aC (aA 4) aN)))) (eC (.int 0))))
  (n7 (g7 0 "put_in" x8 (aC (aA 7) aN)) (aA 2) (eL (gC 1 g8 (aC (eN dB (aC (aA 3) (aC (eN dB (aC (aA 7) aN)) aN))) aN)))))))))
def uZ:Fl->U4->Option (Fl×(D×D×D)):=lY 8 f_q18
def f_q4:al->aO :=
  (bI (bH 4 lx (aC (e1 (dU "book") (au 0)) (aC (e1 (dU "most") (au 0)) (aC (e1 (dU "first") (au 0)) (aC (e1 (dU "marks") (au 0)) aN))))))
def rR:U4->U5:=mQ 1 1 f_q4
def f_qd:al->aO :=
  (jJ (gC 1 g8 (aC (eN dB (aC (e1 (dU "marks") (au 0)) aN)) aN)))
def rS:U4->U0:=iu 1 1 f_qd
def f_q1f:al->aO :=
  (jJ (wN gQ (aC (e1 (dU "book") (au 0)) aN)))
def rV:U4->U0:=iu 1 1 f_q1f
def f_q3:al->aO :=
  (aY (ek (iR mJ (aC (eC (.int 3)) aN)) (gN 5) (aY (bT (dH (tE (e2 bR (e2 bM (e2 bG (au 4) (au 5)) (eC (.int 3))) (eC (.int 0)))) (tE (e2 bX (eL (k9 "rows" rV (aA 0))) (au 1)))) (bI (eC (.bl false))) cr)
  (aY (bT (dH (tE (e2 bR (e2 bM (e2 bG (au 4) (au 5)) (eC (.int 3))) (eC (.int 1)))) (tE (e2 bX (eL (k9 "marks_now" rS (aA 0))) (au 2)))) (bI (eC (.bl false))) cr)
  (bT (dH (tE (e2 bR (e2 bM (e2 bG (au 4) (au 5)) (eC (.int 3))) (eC (.int 2)))) (tE (e2 bX (k8 (pO "entries_now" rR (aA 0))) (au 3)))) (bI (eC (.bl false))) cr))))
  (aY (n9 (k9 "rows" rV (aA 0)) (eC (.bl true)))
  (aY (n9 (k9 "marks_now" rS (aA 0)) (eC (.str [109,111,114,101])))
  (aY (rH 6 7 (pO "entries_now" rR (aA 0)))
  (bI (eC (.bl true)))))))
def rW:U4->U5:=cE 5 8 f_q3
def f_q22:Y9->al->Option Fl :=
  (xM (wN gQ (aC (au 1) aN)) (gC 1 g8 (aC (eN dB (aC (aA 4) aN)) aN)) (aA 2) (aA 3) (bH 4 lx (aC (e1 (dU "book") (au 0)) (aC (e1 (dU "most") (au 0)) (aC (e1 (dU "first") (au 0)) (aC (e1 (dU "marks") (au 0)) aN))))))
def x9:U4->Option Fl:=rE 5 f_q22
def f_q29:al->aO :=
  (aY (bK 1 (bH 2 ou (aC (aA 0) (aC (eC (.int 0)) aN))))
  (aY (kr (gT 2 (bJ (gN 2) (bJ (gN 3) dI))) (bH 1 Bv (aC (aA 1) aN)))
  (aY (bK 4 (bH 1 Bu (aC (dC (au 0) (oS (eC (.int 1))) (oS (e2 bG (eC (.int 1)) (e2 bM (bH 2 ou (aC (aA 0) (aC (eC (.int 1)) aN))) (eC (.int 31)))))) aN)))
  (aY (bK 5 (bH 3 uW (aC (dC (au 0) (oS (eC (.int 2))) (oS (eC (.int 6)))) (aC (eN cY (aC (au 4) aN)) (aC (aA 1) aN)))))
  (uA 6 (uJ (wN gQ (aC (au 4) aN)) (wN gQ (aC (au 5) aN)))
  (rG 6 7 x9 (aC (e2 bq (au 6) (eC (.int 0))) (aC (aA 2) (aC (aA 3) (aC (e2 bq (au 6) (eC (.int 1))) aN))))
  (nT 6 (tE (e2 bX (au 6) (eN dB (aC (aA 4) (aC (aA 5) aN))))) (bI (eC (.bl false)))
  (rG 6 8 x9 (aC (e2 bG (eN dB (aC (eC (.bl true)) (aC (eC (.bl false)) aN))) (au 4)) (aC (eC (.int 2)) (aC (eC (.int 1)) (aC (eN dB aN) aN))))
  (uK 6 9
  (aY (bK 10 (eL (gC 1 g8 (aC (eN dB (aC (aA 5) aN)) aN))))
  (aY (bK 11 (k8 (bH 4 lx (aC (aA 4) (aC (aA 2) (aC (aA 3) (aC (aA 10) aN)))))))
  (aY (ir 12 (iq aN))
  (aY (ek (iE (dC (au 0) (oS (eC (.int 3))) (oS (eC (.int 11))))) (gN 13) (aY (bK 14 (e2 bM (e2 gA (au 13) (eC (.int 1583458089))) (eC (.int 2147483647))))
  (pS 15 4 10 7 uZ (aC (aA 14) (aC (aA 4) (aC (aA 10) (aC (aA 1) aN))))
  (l5 15 16 (aA 11)
  (l5 15 11 (k8 (bH 4 lx (aC (aA 4) (aC (aA 2) (aC (aA 3) (aC (aA 10) aN))))))
  (nT 15 (eQ (tE (bH 3 rO (aC (aA 15) (aC (aA 16) (aC (aA 11) aN)))))) (bI (eC (.bl false)))
  (n8 15 (tE (e2 bR (e2 bM (e2 cV (au 14) (eC (.int 9))) (eC (.int 2))) (eC (.int 0)))) (A5 15 (eR 12 (eN cM (aC (aA 15) (aC (bH 1 uY (aC (aA 15) aN)) aN))))) (rz cr)
  (aY (bT (eQ (tE (i8 5 rW (aC (au 7) (aC (au 4) (aC (au 10) (aC (au 11) (aC (e2 cV (au 14) (eC (.int 7))) aN)))))))) (bI (eC (.bl false))) cr)
  (pQ (g7 8 "do" rQ (aC (eN cM (aC (eC (.str [112,117,116])) (aC (e2 bM (au 14) (eC (.int 2))) (aC (e2 bR (e2 bM (au 14) (eC (.int 3))) (eC (.int 0))) aN)))) aN)))))))))))
  (jK 12 (aY (ek (iE (aA 12)) (gT 2 (bJ (gN 15) (bJ (gN 17) dI))) (bT (tE (e2 bX (au 15) (au 17))) (bI (eC (.bl false))) cr))
  (bI (i8 5 rW (aC (au 7) (aC (au 4) (aC (au 10) (aC (au 11) (aC (au 1) aN))))))))))))))))))))))
def rX:U4->U5:=cE 1 18 f_q29
end K43
namespace K43
open PySem L2
open PyProof.Rows (lo1)
noncomputable abbrev sh(d:D):Y1:=some (.sh d)
abbrev sB(l:Y6):Y1:=sh (.lst (l.map D.bl))
abbrev sN(l:Y7):Y1:=sh (.lst (l.map D.int))
abbrev sI(i:Int):Y1:=sh (.int i)
def GZ(p:Int)(n:Nat):iO p (n+1)=.int p::iO (p+1) n:=by
 unfold iO;rw[jr,ma,md];refine congr (ef _ ?_) (yg λk _=>?_)
 ·show D.int (p+((0:Nat):Int))=_;rw[show p+((0:Nat):Int)=p by omega]
 ·show D.int (p+((k+1:Nat):Int))=_;rw[show p+((k+1:Nat):Int)=p+1+(k:Int) by omega]
def fU(l:U7):U7:=if 124∈l then l.drop (dF 124 l+1)++[44,32]++l.take (dF 124 l) else l
def G0(l:U7)(h:l.length<=1000):uR [.str l]=some (.str (fU l)):=by
 unfold uR f_q24 fU;have hz:l.length<=sizeLine:=sz 'o';by_cases a:124∈l
 ·have b:=Ed 124 l a
  have e1:bG (D.int (dF 124 l)) (D.int 1)=some (.int ((dF 124 l+1:Nat):Int)):=rfl;simp only[cE,iu,bY,aY,bT,bK,ir,kr,i7,bI,jJ,lO,o8,eR,jK,ek,cr,eC,aA,au,L2.e1,L2.e2,eN,aN,aC,eH,tE,dH,c8,eQ,eT,dC,oN,oS,kP,f8,eM,gB,bH,i8,gC,eL,iq,wN,gQ,dJ,i6,iE,iR,gN,gT,bJ,dI,kN,i4,bR,bX,e7,gP,cY,dB,cM,ma,vg,gc,qe,oh,zi,replicate,wl,reduceAdd,reduceSub,reduceLeDiff,wg,ci,ii,vf,ze,cb,fj,gh,kj,ij,ya,gr,uo,reduceIte,oi,ck,je,reduceCtorEq,zc,jW,kq,Aq,a,decide_true,OM 124 l a,e1,Fd l _ hz b,Ar l _ hz];rw[iQ _ _ (sz 's')];simp only[cE,iu,bY,aY,bT,bK,ir,kr,i7,bI,jJ,lO,o8,eR,jK,ek,cr,eC,aA,au,L2.e1,L2.e2,eN,aN,aC,eH,tE,dH,c8,eQ,eT,dC,oN,oS,kP,f8,eM,gB,bH,i8,gC,eL,iq,wN,gQ,dJ,i6,iE,iR,gN,gT,bJ,dI,kN,i4,bR,bX,e7,gP,cY,dB,cM,ma,vg,gc,qe,oh,zi,replicate,wl,reduceAdd,reduceSub,reduceLeDiff,wg,ci,ii,vf,ze,cb,fj,gh,kj,ij,ya,gr,uo,reduceIte,oi,ck,je,reduceCtorEq,zc,jW,kq];rw[iQ _ _ (sz 's')]
 ·simp only[cE,iu,bY,aY,bT,bK,ir,kr,i7,bI,jJ,lO,o8,eR,jK,ek,cr,eC,aA,au,L2.e1,L2.e2,eN,aN,aC,eH,tE,dH,c8,eQ,eT,dC,oN,oS,kP,f8,eM,gB,bH,i8,gC,eL,iq,wN,gQ,dJ,i6,iE,iR,gN,gT,bJ,dI,kN,i4,bR,bX,e7,gP,cY,dB,cM,ma,vg,gc,qe,oh,zi,replicate,wl,reduceAdd,reduceSub,reduceLeDiff,wg,ci,ii,vf,ze,cb,fj,gh,kj,ij,ya,gr,uo,reduceIte,oi,ck,je,reduceCtorEq,zc,jW,kq,Aq,a,decide_false]
def asc(l:U7):Prop:=∀c∈l,c<128
def Rf(h:asc l):asc (fU l):=by
 unfold fU;split
 ·intro c hc
  simp only[yd]at hc;rcases hc with(hc|hc)|hc
  ·exact h c (oj hc)
  ·simp at hc;omega
  ·exact h c (pj hc)
 ·exact h
def Rg:(fU l).length<=l.length+2:=by
 unfold fU;split
 ·simp;omega
 ·omega
def Bz(l:U7):U7:=((fU l).filter λc=>decide (c∈LF)).map lo1
theorem Rh(l:U7):((l.map λc=>[c]).map length).sum=l.length:=by
 induction l with
 |nil=>rfl
 |cons a r b=>simp only[ma,List.sum_cons,b,gc,qe];omega
theorem Ri(l:U7):(l.map λc=>[c]).flatten=l:=by
 induction l with
 |nil=>rfl
 |cons a r b=>simp[b]
def Rj(l:U7)(f:asc l)(h:l.length<=1000):xZ [.str l]=some (.str (Bz l)):=by
 unfold xZ f_q23 Bz;have hs:=Rg (l:=l)
 have a:eI (gN 0) (tE (e2 kN (au 0) (eC (.str LF)))) (aA 0) [none] ((fU l).map λc=>.str [c])=some (((fU l).filter λc=>decide (c∈LF)).map λc=>D.str [c]) :=
  tS (λc=>D.str [c]) (λc=>decide (c∈LF)) (λc=>D.str [c]) (fU l) λc b=>⟨_,rfl,by simp only[cE,iu,bY,aY,bT,bK,ir,kr,i7,bI,jJ,lO,o8,eR,jK,ek,cr,eC,aA,au,L2.e1,L2.e2,eN,aN,aC,eH,tE,dH,c8,eQ,eT,dC,oN,oS,kP,f8,eM,gB,bH,i8,gC,eL,iq,wN,gQ,dJ,i6,iE,iR,gN,gT,bJ,dI,kN,i4,bR,bX,e7,gP,cY,dB,cM,ma,vg,gc,qe,oh,zi,replicate,wl,reduceAdd,reduceSub,reduceLeDiff,wg,ci,ii,vf,ze,cb,fj,gh,kj,ij,ya,gr,uo,reduceIte,oi,ck,je,reduceCtorEq,zc,jW,kq,Aq],λ_=>by simp only[cE,iu,bY,aY,bT,bK,ir,kr,i7,bI,jJ,lO,o8,eR,jK,ek,cr,eC,aA,au,L2.e1,L2.e2,eN,aN,aC,eH,tE,dH,c8,eQ,eT,dC,oN,oS,kP,f8,eM,gB,bH,i8,gC,eL,iq,wN,gQ,dJ,i6,iE,iR,gN,gT,bJ,dI,kN,i4,bR,bX,e7,gP,cY,dB,cM,ma,vg,gc,qe,oh,zi,replicate,wl,reduceAdd,reduceSub,reduceLeDiff,wg,ci,ii,vf,ze,cb,fj,gh,kj,ij,ya,gr,uo,reduceIte,oi,ck,je,reduceCtorEq,zc,jW,kq]⟩
 have g:((fU l).filter λc=>decide (c∈LF)).length<=l.length+2:=re (yh _ _) hs;simp only[cE,iu,bY,aY,bT,bK,ir,kr,i7,bI,jJ,lO,o8,eR,jK,ek,cr,eC,aA,au,L2.e1,L2.e2,eN,aN,aC,eH,tE,dH,c8,eQ,eT,dC,oN,oS,kP,f8,eM,gB,bH,i8,gC,eL,iq,wN,gQ,dJ,i6,iE,iR,gN,gT,bJ,dI,kN,i4,bR,bX,e7,gP,cY,dB,cM,ma,vg,gc,qe,oh,zi,replicate,wl,reduceAdd,reduceSub,reduceLeDiff,wg,ci,ii,vf,ze,cb,fj,gh,kj,ij,ya,gr,uo,reduceIte,oi,ck,je,reduceCtorEq,zc,jW,kq,G0 l h,OL,aa,sz (show (fU l).length<=100000 by omega),a];have e:(map (λc=>D.str [c]) (filter (λc=>decide (c∈LF)) (fU l)))=((filter (λc=>decide (c∈LF)) (fU l)).map λc=>[c]).map D.str:=by rw[md];rfl
 rw[e,ON,Eg,Ri]
 ·simp only[cE,iu,bY,aY,bT,bK,ir,kr,i7,bI,jJ,lO,o8,eR,jK,ek,cr,eC,aA,au,L2.e1,L2.e2,eN,aN,aC,eH,tE,dH,c8,eQ,eT,dC,oN,oS,kP,f8,eM,gB,bH,i8,gC,eL,iq,wN,gQ,dJ,i6,iE,iR,gN,gT,bJ,dI,kN,i4,bR,bX,e7,gP,cY,dB,cM,ma,vg,gc,qe,oh,zi,replicate,wl,reduceAdd,reduceSub,reduceLeDiff,wg,ci,ii,vf,ze,cb,fj,gh,kj,ij,ya,gr,uo,reduceIte,oi,ck,je,reduceCtorEq,zc,jW,kq]
  rw[OP]
  ·intro c b
   exact Rf f c (dh.mp b).1
  ·exact sz 'o'
 ·rw[Rh]
  simp;omega
def G3:∀c∈SG,c<128/\c≠44/\c≠124/\c≠32:=by decide
def G4:SG.length=63:=rfl
def gd(c:Nat):Prop:=c∈SG\/c=32\/c=124
def Rk(h:gd c):c<128:=by
 rcases h with h|h|h
 ·exact(G3 c h).1
 ·omega
 ·omega
def Rl(h:gd c):c≠44:=by
 rcases h with h|h|h
 ·exact(G3 c h).2.1
 ·omega
 ·omega
structure yr(l:U7):Prop where
 g:∀c∈l,gd c
 len:l.length<=60
 pos:1<=l.length
noncomputable def jv(i:Int):U7:=(ofString (toString i)).cps.toList
def G5(n:Nat):Bool:=(jv (n:Int)).all (λc=>decide (c∈SG)) && decide ((jv (n:Int)).length<=3) && decide (1<=(jv (n:Int)).length)
def Rm:∀n,n<500->G5 n=true:=by decide
def G6(a:0<=k)(b:k<1000):(∀c∈jv (k / 2),c∈SG)/\(jv (k / 2)).length<=3/\1<=(jv (k / 2)).length:=by
 obtain⟨n,hn⟩:=cf (show 0<=k / 2 by omega);rw[hn]
 have:=Rm n 'o'
 unfold G5 at this;simp only[uc,decide_eq_true_eq,lc]at this;exact⟨this.1.1,this.1.2,this.2⟩
def Rn(i:Int)(h:i.natAbs.log2<1920):t5 [.int i]=some (.str (jv i)):=by
 unfold t5;dsimp only;rw[ya h];show some (D.sc (.str _))=some (D.sc (.str (S (ofString (toString i)).cps.toList)));rw[<-Nh]
def jx(c:Int)(n:Nat):U7:=(List.range n).map λ(j:Nat)=>SG.getD ((c / ((j:Int)+5)+7 * (j:Int) * (j:Int)) % 63).toNat 0
def iW(c k:Int)(b:U7):U7:=b.take (c / 15 % ((b.length:Nat)+1)).toNat++jv (k / 2)++b.drop (c / 15 % ((b.length:Nat)+1)).toNat
noncomputable def fV(c k:Int)(b h:U7):U7:=if (c / 240+k / 2) % 6=1 then h++[124]++b else if (c / 240+k / 2) % 6=5 then h++[124]++b.take 3++[32]++b.take 3 else if (c / 240+k / 2) % 6=2 then b++[32]++h else if (c / 240+k / 2) % 6=3 then [45]++h else h
def ox(c k:Int):U7:=if k % 2=1 then fV c k (jx c (1+c % 3).toNat) (iW c k (jx c (1+c % 3).toNat))++[45] else fV c k (jx c (1+c % 3).toNat) (iW c k (jx c (1+c % 3).toNat))
def BA(c:Int)(n:Nat):(jx c n).length=n:=by unfold jx;rw[aa,vj]
def Ro(c:Int)(n:Nat):∀z∈jx c n,z∈SG:=λz hz=>by
 obtain⟨j,_,rfl⟩:=ub.mp hz;have b:=uf (c / ((j:Int)+5)+7 * (j:Int) * (j:Int)) (show (63:Int)≠0 by decide);have e:=jf (c / ((j:Int)+5)+7 * (j:Int) * (j:Int)) (show (0:Int)<63 by decide);generalize (c / ((j:Int)+5)+7 * (j:Int) * (j:Int)) % 63=i at b e;have a:i.toNat<SG.length:=by rw[G4];omega
 rw[ed,vc a];exact rf a
def Rp:al->aO:=bK 3 (e2 bG (au 3) (e2 bq (au 2) (e2 bM (e2 bG (e2 cV (au 0) (e2 bG (au 4) (eC (.int 5)))) (e2 gA (e2 gA (eC (.int 7)) (au 4)) (au 4))) (eC (.int 63)))))
theorem G7(c:Int)(a1:Y1):∀(n m:Nat) (z:Y1),m+n<=1000->∃a,eS (gN 4) Rp (iO ((m:Nat):Int) n) [sI c,a1,sh (.str SG),sh (.str (jx c m)),z,none,none,none]=.nx [sI c,a1,sh (.str SG),sh (.str (jx c (m+n))),a,none,none,none]
 |0,m,z,_=>⟨z,rfl⟩
 |n+1,m,z,h=>by
  obtain⟨a,e⟩:=G7 c a1 n (m+1) (sh (.int (m:Nat))) 'o';refine⟨a,?_⟩;rw[GZ,show ((m:Nat):Int)+1=((m+1:Nat):Int) by omega,show m+(n+1)=m+1+n by omega];refine(fS rfl ?_).trans e;have b:=uf (c / ((m:Int)+5)+7 * (m:Int) * (m:Int)) (show (63:Int)≠0 by decide);have f:=jf (c / ((m:Int)+5)+7 * (m:Int) * (m:Int)) (show (0:Int)<63 by decide)
  have g:jx c (m+1)=jx c m++[SG.getD ((c / ((m:Int)+5)+7 * (m:Int) * (m:Int)) % 63).toNat 0]:=by
   unfold jx;rw[List.range_succ,jd];rfl
  have l:bq (.str SG) (.int ((c / ((m:Int)+5)+7 * (m:Int) * (m:Int)) % 63))=some (.str [SG.getD ((c / ((m:Int)+5)+7 * (m:Int) * (m:Int)) % 63).toNat 0]):=by
   generalize (c / ((m:Int)+5)+7 * (m:Int) * (m:Int)) % 63=i at b f;obtain⟨j,rfl⟩:=cf b;refine OU (sz 'd') (zx ?_);have o:j<SG.length:=by rw[G4];omega
   rw[qh,ed,vc o];rfl
  refine(cv (aD rfl (aD rfl (aD (aD (aD rfl (aD rfl rfl gR) (fG 'o')) (aD (aD rfl rfl (nM (pe ⟨'o','o'⟩))) rfl (nM (pe ⟨'o','o'⟩))) gR) rfl (cO 'd')) l) (iQ _ _ (sz (by rw[BA];simp;omega))))).trans ?_;rw[g];rfl
def Rq(h:n<=1000000):mJ [.int (n:Nat)]=some (iO ((0:Nat):Int) n):=by
 rw[Fh rfl h];unfold iO;refine ef some (yg λk _=>?_);show D.int _=D.int _;rw[show ((0:Nat):Int)+(k:Nat)=((k:Nat):Int) by omega]
def G8{b d:U7}(n:Nat):(b.take n++d++b.drop n).length=b.length+d.length:=by
 rw[rc,rc,se,mh];omega
def Rr(c k:Int)(H:0<=k)(I:k<1000):uV [.int c,.int k]=some (.str (ox c k)):=by
 have M:=uf c (show (3:Int)≠0 by decide);have N:=jf c (show (0:Int)<3 by decide);obtain⟨n,hn⟩:=cf (show 0<=1+c % 3 by omega);unfold ox;rw[hn,qh];have A:n<=16:=by omega
 obtain⟨r,z⟩:=G7 c (sI k) n 0 none 'o';rw[wg]at z;have bl:=BA c n;generalize T:jx c n=b at *;have⟨J,K,L⟩:=G6 H I;have a1:=uf (c / 15) (show (((b.length:Nat):Int)+1)≠0 by omega);have a2:=jf (c / 15) (show (0:Int)<((b.length:Nat):Int)+1 by omega);unfold iW;have⟨a,s⟩:=cf a1;rw[s,qh];have y:a<=b.length:=by omega
 have u:(k / 2).natAbs.log2<1920:=by
  by_cases hz:k / 2=0
  ·rw[hz];decide
  ·exact vd ((Nat.log2_lt 'o').mpr (show (k / 2).natAbs<2 ^ 10 by omega)) 'd'
 have O:=G8 (b:=b) (d:=jv (k / 2)) a;refine dN rfl (st rfl (st rfl (st (i9 (wJ (ds:=[.int (n:Nat)]) (aL (aD rfl (aD rfl rfl (cO 'd')) (gR.trans (by rw[hn]))) rfl) (Rq 'o')) z) ?_)));refine st (cv (d:=.int (a:Nat)) (aD (aD rfl rfl (fG 'd')) (aD (bU rfl (show cY [.str b]=some (.int (b.length:Nat)) by unfold cY;dsimp only;rw[lK,ya (sz 'o')])) rfl gR) ((cO 'o').trans (by rw[s])))) ?_;refine st (cv (d:=.str (b.take a++jv (k / 2)++b.drop a)) (aD (aD (Ar b a (sz 'o')) (bU (aL (aD rfl rfl (fG 'd')) rfl) (Rn _ u)) (iQ _ _ (sz (by rw[se];omega)))) (Fd b a (sz 'o') y) (iQ _ _ (sz (by rw[rc,se,mh];omega))))) ?_;generalize b.take a++jv (k / 2)++b.drop a=h at *;have P:=uf (c / 240+k / 2) (show (6:Int)≠0 by decide);have Q:=jf (c / 240+k / 2) (show (0:Int)<6 by decide);refine st (cv (aD (aD (aD rfl rfl (fG 'd')) (aD rfl rfl (fG 'd')) gR) rfl (cO 'd'))) ?_;unfold fV;generalize (c / 240+k / 2) % 6=w at *;have B:∀(x:Int) (e:U7),tE (e2 bR (au 7) (eC (.int x))) [sI c,sI k,sh (.str SG),sh (.str b),r,sh (.int (a:Nat)),sh (.str e),sI w]=some (decide (w=x)):=λx e=>bP (aD rfl rfl (gj gS))
 have G:∀e:U7,tE (e2 bR (e2 bM (au 1) (eC (.int 2))) (eC (.int 1))) [sI c,sI k,sh (.str SG),sh (.str b),r,sh (.int (a:Nat)),sh (.str e),sI w]=some (decide (k % 2=1)):=λe=>bP (aD (aD rfl rfl (cO 'd')) rfl (gj gS))
 have g:∀e:U7,e.length<=1000->aY (bT (tE (e2 bR (e2 bM (au 1) (eC (.int 2))) (eC (.int 1)))) (bI (e2 bG (au 6) (eC (.str [45])))) cr) (bI (aA 6)) [sI c,sI k,sh (.str SG),sh (.str b),r,sh (.int (a:Nat)),sh (.str e),sI w]=.rt (.str (if k % 2=1 then e++[45] else e)):=λe hl=>by
  have q:=G e;by_cases j:k % 2=1
  ·rw[qc j]at q
   rw[ya j];exact wH ((mO q).trans (eu (aD rfl rfl (iQ e [45] (sz 's')))))
  ·rw[be j]at q
   rw[ic j];exact st ((fE q).trans rfl) rfl
 have no:∀(x:Int) (e:U7) (f:al->aO),w≠x->bT (tE (e2 bR (au 7) (eC (.int x)))) f cr [sI c,sI k,sh (.str SG),sh (.str b),r,sh (.int (a:Nat)),sh (.str e),sI w]=.nx [sI c,sI k,sh (.str SG),sh (.str b),r,sh (.int (a:Nat)),sh (.str e),sI w]:=λx e f v=>by
  have q:=B x e;rw[be v]at q;exact(fE q).trans rfl
 have R:(b.take 3).length<=3:=by rw[se];omega
 have i:∀(x:Int) (f:al->aO) (ρ:al),w=x->f [sI c,sI k,sh (.str SG),sh (.str b),r,sh (.int (a:Nat)),sh (.str h),sI w]=.nx ρ->bT (tE (e2 bR (au 7) (eC (.int x)))) f cr [sI c,sI k,sh (.str SG),sh (.str b),r,sh (.int (a:Nat)),sh (.str h),sI w]=.nx ρ:=λx f ρ E F=>by
  have q:=B x h;rw[qc E]at q;exact(mO q).trans F
 by_cases l:w=1
 ·rw[ya l]
  refine st (i 1 _ _ l (cv (d:=.str (h++[124]++b)) (aD (aD rfl rfl (iQ h [124] (sz 's'))) rfl (iQ _ b (sz 's'))))) ?_;exact st (no 5 _ _ 'o') (st (no 2 _ _ 'o') (st (no 3 _ _ 'o') (g _ 's')))
 ·rw[ic l]
  refine st (no 1 _ _ l) ?_;by_cases m:w=5
  ·rw[ya m]
   have C:dC (au 3) oN (oS (eC (.int 3))) [sI c,sI k,sh (.str SG),sh (.str b),r,sh (.int (a:Nat)),sh (.str h),sI w]=some (.str (b.take 3)):=Ar b 3 (sz 'o');refine st (i 5 _ _ m (cv (d:=.str (h++[124]++b.take 3++[32]++b.take 3)) (aD (aD (aD (aD rfl rfl (iQ h [124] (sz 's'))) C (iQ _ _ (sz 's'))) rfl (iQ _ [32] (sz 's'))) C (iQ _ _ (sz 's'))))) ?_;exact st (no 2 _ _ 'o') (st (no 3 _ _ 'o') (g _ 's'))
  ·rw[ic m]
   refine st (no 5 _ _ m) ?_;by_cases o:w=2
   ·rw[ya o]
    refine st (i 2 _ _ o (cv (d:=.str (b++[32]++h)) (aD (aD rfl rfl (iQ b [32] (sz 's'))) rfl (iQ _ h (sz 's'))))) ?_;exact st (no 3 _ _ 'o') (g _ 's')
   ·rw[ic o]
    refine st (no 2 _ _ o) ?_;by_cases p:w=3
    ·rw[ya p]
     exact st (i 3 _ _ p (cv (d:=.str ([45]++h)) (aD rfl rfl (iQ [45] h (sz 's'))))) (g _ 's')
    ·rw[ic p]
     exact st (no 3 _ _ p) (g _ 'o')
def G9{l:U7}(h:∀z∈l,z∈SG):∀z∈l,gd z:=λz hz=>.inl (h z hz)
def kA{a:U7}(c:∀z∈a,gd z)(e:∀z∈b,gd z):∀z∈a++b,gd z:=λz hz=>(yd.mp hz).elim (c z) (e z)
def BB(h:gd c):∀z∈[c],gd z:=λz hz=>by rw[wd.mp hz];exact h
def Rs(c k:Int)(l:0<=k)(m:k<1000):yr (ox c k):=by
 have q:=uf c (show (3:Int)≠0 by decide);have s:=jf c (show (0:Int)<3 by decide);obtain⟨n,hn⟩:=cf (show 0<=1+c % 3 by omega);unfold ox iW;rw[hn,qh];have bl:=BA c n;have bs:=G9 (Ro c n);generalize jx c n=b at *;have⟨j,o,p⟩:=G6 l m;generalize (c / 15 % ((b.length:Nat)+1)).toNat=at';have u:=G8 (b:=b) (d:=jv (k / 2)) at';have e:∀z∈b.take at'++jv (k / 2)++b.drop at',gd z:=kA (kA (λz hz=>bs z (pj hz)) (G9 j)) λz hz=>bs z (oj hz)
 generalize b.take at'++jv (k / 2)++b.drop at'=h at *;have i:∀z∈b.take 3,gd z:=λz hz=>bs z (pj hz)
 have v:(b.take 3).length<=3:=by rw[se];omega
 have a:=BB (c:=124) (.inr (.inr rfl));have f:=BB (c:=32) (.inr 'j');have g:=BB (c:=45) (.inl 'd')
 have r:(∀z∈fV c k b h,gd z)/\(fV c k b h).length<=55/\1<=(fV c k b h).length:=by
  unfold fV;split
  ·exact⟨kA (kA e a) bs,by simp;omega,by simp;omega⟩
  ·split
   ·exact⟨kA (kA (kA (kA e a) i) f) i,by simp;omega,by simp;omega⟩
   ·split
    ·exact⟨kA (kA bs f) e,by simp;omega,by simp;omega⟩
    ·split
     ·exact⟨kA g e,by simp;omega,'m'⟩
     ·exact⟨e,'o','o'⟩
 split
 ·exact⟨kA r.1 g,by simp;omega,'m'⟩
 ·exact⟨r.1,'o',r.2.2⟩
def Rt(h:yr l):asc l:=λc a=>Rk (h.g c a)
def Ru(h:yr l):44 ∉ l:=λa=>Rl (h.g 44 a) rfl
theorem BC:∀{a r:U7},c ∉ a->dF c (a++c::r)=a.length
 |[],r,_=>by simp[dF]
 |x::a,r,h=>by
  have b:¬x=c:=λe=>h (by simp[e])
  have f:=BC (c:=c) (a:=a) (r:=r) (λz=>h (ua _ z));show (if x=c then 0 else dF c (a++c::r)+1)=a.length+1;rw[ic b,f]
def Ha(h:c∈l):l=l.take (dF c l)++c::l.drop (dF c l+1):=by
 have⟨b,_⟩:=vZ c l h;have a:=Ed c l h;have e:=ke a
 have e2:l[dF c l]=c:=by
  rw[vc a]at b;exact ae b
 rw[e2]at e;rw[<-e,List.take_append_drop]
def Rv(hl:44 ∉ l)(hm:44 ∉ m)(h:fU l=fU m):l=m:=by
 unfold fU at h;have c:∀{x y:U7},44 ∉ x->124∈y->44 ∉ y->x=y.drop (dF 124 y+1)++[44,32]++y.take (dF 124 y)->False:=λ{x y} f _ _ e=>f (by rw[e];simp)
 by_cases b:124∈l
 ·by_cases a:124∈m
  ·rw[ya b,ya a]at h
   have j:44 ∉ l.drop (dF 124 l+1):=λz=>hl (oj z)
   have n:44 ∉ m.drop (dF 124 m+1):=λz=>hm (oj z)
   have e1:=BC (r:=32::l.take (dF 124 l)) j;have e2:=BC (r:=32::m.take (dF 124 m)) n;have h':l.drop (dF 124 l+1)++44::32::l.take (dF 124 l)=m.drop (dF 124 m+1)++44::32::m.take (dF 124 m):=by simpa using h
   rw[h',e2]at e1;have⟨g,i⟩:=List.append_inj h' e1.symm;have o:l.take (dF 124 l)=m.take (dF 124 m):=by simpa using i
   rw[Ha b,Ha a,g,o]
  ·rw[ya b,ic a]at h
   exact(c hm b hl h.symm).elim
 ·by_cases a:124∈m
  ·rw[ic b,ya a]at h
   exact(c hl a hm h).elim
  ·rw[ic b,ic a]at h
   exact h
def eA(l:U7):D:=.tup [.str (Bz l),.str (fU l)]
def Rw(a b c d:U7):bO [.str a,.str b] [.str c,.str d]=(decide (a=c) && decide (b=d)):=by
 simp only[bO,As,Bool.and_true]
def Rx(hl:44 ∉ l)(hm:44 ∉ m):bD (eA l) (eA m)=decide (l=m):=by
 unfold eA;rw[bD,Rw];by_cases h:l=m
 ·subst h;simp
 ·have:¬fU l=fU m:=λz=>h (Rv hl hm z)
  simp[h,this]
theorem Hb:∀{c bs:List U7},(∀a∈c,44 ∉ a)->(∀b∈bs,44 ∉ b)->bO (c.map eA) (bs.map eA)=decide (c=bs)
 |[],[],_,_=>by simp[bO]
 |[],b::bs,_,_=>by simp[bO]
 |a::c,[],_,_=>by simp[bO]
 |a::c,b::bs,g,h=>by
  simp only[ma,bO];rw[Rx (g a 'm') (h b 'm'),Hb (λx f=>g x (by simp[f])) (λx f=>h x (by simp[f]))];by_cases e:a=b <;> simp[e]
theorem Hc:∀(c bs:List U7),bO (c.map D.str) (bs.map D.str)=decide (c=bs)
 |[],[]=>by simp[bO]
 |[],b::bs=>by simp[bO]
 |a::c,[]=>by simp[bO]
 |a::c,b::bs=>by
  simp only[ma,bO];rw[As,Hc c bs];by_cases e:a=b <;> simp[e]
def Hd(a:List U7):bL LV (.lst (a.map eA))=true:=by
 show (a.map eA).all (bL 8)=true;rw[aw,lc];intro x _;rfl
def He(hs:List U7)(b:∀h∈hs,asc h/\h.length<=1000)(hn:hs.length<=1000):iy [.tup (hs.map D.str)]=some (.lst (hs.map eA)):=by
 refine dN rfl (eu (fF (lP (ds:=hs.map D.str) rfl (by rw[aa];exact sz 'o') ?_)));exact qR D.str eA hs λh a=>⟨_,rfl,rfl,bU (aL (cX rfl rfl (Rj h (b h a).1 (b h a).2)) (aL (cX rfl rfl (G0 h (b h a).2)) rfl)) rfl⟩
def Hh:o0 (.int 10) (.int 60)=some (.int (10 ^ 60)):=GW ⟨'d','d','d'⟩
def Ry:o0 (.int 10) (.int 59)=some (.int (10 ^ 59)):=GW ⟨'d','d','d'⟩
theorem Hi(a:Y7)(k:Nat):ou [.lst (a.map D.int),.int (k:Nat)]=some (.int (pT a k)):=by
 have q:tE (e2 nH (au 1) (eN cY (aC (au 0) aN))) [sN a,sh (.int (k:Nat))]=some (decide (((k:Nat):Int)<(a.length:Nat))):=bP (aD rfl (bU rfl Rb) wK)
 cases b:decide (((k:Nat):Int)<(a.length:Nat)) with
 |true =>
  rw[b]at q;exact dN rfl (wH ((mO q).trans (eu (aD rfl rfl (Rc (by have:=kc b;omega))))))
 |false =>
  rw[b]at q;refine dN rfl (st ((fE q).trans rfl) (eu ?_))
  have:pT a k=0:=by
   unfold pT
   have:=of_decide_eq_false b
   rw[ed,cn 'o'];rfl
  rw[this];rfl
structure cI(hs:List U7):Prop where
 g:∀h∈hs,yr h
 len:hs.length<=3
 pos:1<=hs.length
noncomputable def jR(hs:List U7)(f l:Int)(m:Bool):D:=.tup [.tup (hs.map D.str),.int f,.int l,.bl m]
def kB(d:D):Prop:=∃hs f l m,cI hs/\d=jR hs f l m
theorem cI.asc(h:cI hs):∀l∈hs,asc l/\l.length<=1000:=λl hl=>⟨Rt (h.g l hl),re (h.g l hl).len 'd'⟩
def cI.nc(h:cI hs):∀l∈hs,44 ∉ l:=λl hl=>Ru (h.g l hl)
def pV(h:cI hs)(f l:Int)(m:Bool):l7 [jR hs f l m]=some (.tup [.lst (hs.map eA),.int f,.int l,.bl m]) :=
 dN rfl (eu (bU (aL (cX (aL (aD rfl rfl rfl) rfl) rfl (He hs h.asc (re h.len 'd'))) (aL (aD rfl rfl rfl) (aL (aD rfl rfl rfl) (aL (aD rfl rfl rfl) rfl)))) rfl))
abbrev yt:D->Prop:=xX λ_=>l6 λ_=>uQ
def ly:cP yt:=GY λ_=>rM λ_=>Bg
def iz(hs:List U7):yt (.lst (hs.map eA)):=⟨_,rfl,xY λd a=>by
 obtain⟨l,_,rfl⟩:=ub.mp a;exact⟨_,rfl,⟨_,rfl⟩,⟨_,rfl⟩,kg⟩⟩
noncomputable def Hj:Nat->D->Prop|0=>yt|1=>pU|2=>pU|_=>xS
def Rz:cP (l6 Hj):=rM λi=>match i with|0=>ly|1=>rK|2=>rK|_+3=>Bf
def BD(h:cI hs)(g:cI b)(e:hs.map eA=b.map eA):hs=b:=by
 have a:=Hb h.nc g.nc;rw[<-e]at a;have⟨ds,e1,e2⟩:=iz hs;have e1:hs.map eA=ds:=D.lst.inj e1;have c:=(xW (C:=λ_=>l6 λ_=>uQ) (λ_=>rM λ_=>Bg) (hs.map eA) (hs.map eA) (by rw[e1];exact e2) (by rw[e1];exact e2)).mpr rfl;rw[c]at a;exact kc a.symm
structure u0(F:U4->U5)(C Gd:D->Prop):Prop where
 T:cP C
 ex:∀d,Gd d->F [d]=some (rk F d)
 cl:∀d,Gd d->C (rk F d)
 dk:∀d,Gd d->bL LV (rk F d)=true
 kb:∀d,Gd d->gU (rk F d)=false/\pw (rk F d)=true
 inj:∀d e,Gd d->Gd e->rk F d=rk F e->d=e
def yv:u0 l7 (l6 Hj) kB where
 T:=Rz
 ex:=λd ⟨hs,f,l,m,h,e⟩=>by subst e;rw[jO (pV h f l m)];exact pV h f l m
 cl:=λd ⟨hs,f,l,m,h,e⟩=>by subst e;rw[jO (pV h f l m)];exact⟨_,rfl,iz hs,⟨_,rfl⟩,⟨_,rfl⟩,⟨_,rfl⟩,kg⟩
 dk:=λd ⟨hs,f,l,m,h,e⟩=>by subst e;rw[jO (pV h f l m)];simp[bL,LV,eA]
 kb:=λd ⟨hs,f,l,m,h,e⟩=>by subst e;rw[jO (pV h f l m)];exact⟨rfl,rfl⟩
 inj:=λd e ⟨hs,f,l,m,h,e1⟩ ⟨gs,f',l',m',h',e2⟩ z=>by
  subst e1 e2;rw[jO (pV h f l m),jO (pV h' f' l' m')]at z;have z:=D.tup.inj z;simp only[ao,D.lst.injEq]at z;obtain⟨z1,z2,z3,z4,_⟩:=z
  have:=BD h h' z1
  subst this;unfold jR;rw[z2,z3,z4]
section
variable (R:u0 F C Gd)
include R
def u0.ltT(hg:∀d∈ks,Gd d):uu (eJ F) ks where
 tr:=λa ha b hb c hc h1 h2=>R.T.tr _ _ _ (R.cl a (hg a ha)) (R.cl b (hg b hb)) (R.cl c (hg c hc)) h1 h2
 tot:=λa ha b hb=>by
  rcases R.T.tot _ _ (R.cl a (hg a ha)) (R.cl b (hg b hb)) with z|z
  ·exact .inl (R.inj a b (hg a ha) (hg b hb) z)
  ·exact .inr z
 as:=λa ha b hb h=>R.T.as _ _ (R.cl a (hg a ha)) (R.cl b (hg b hb)) h
def u0.kok(hg:∀d∈ks,Gd d)(nd:ks.Nodup)(sm:ks.length<64):gW F ks where
 ex:=λd hd=>⟨_,R.ex d (hg d hd),R.dk d (hg d hd)⟩
 kd:=.inr λd hd=>R.kb d (hg d hd)
 ok:=λd hd e he=>R.T.ok _ _ (R.cl d (hg d hd)) (R.cl e (hg e he))
 lt:=R.ltT hg
 nd:=nd
 sm:=⟨.inl 'o','o'⟩
end
def dd(l:U4):U4:=l.foldl gl []
theorem BE:∀(l c:U4),c.Nodup->(l.foldl gl c).Nodup/\∀d,d∈l.foldl gl c↔d∈c\/d∈l
 |[],c,h=>⟨h,λd=>'m'⟩
 |x::r,c,h=>by
  rw[bo]
  have g:(gl c x).Nodup/\∀d,d∈gl c x↔d∈c\/d=x:=by
   unfold gl;split
   ·rename_i f;exact⟨h,λd=>⟨.inl,λz=>z.elim id λe=>by rw[e];exact f⟩⟩
   ·rename_i f;exact⟨og.mpr ⟨h,'m',λa i b j e=>f (by rw[wd.mp j]at e;rw[<-e];exact i)⟩,λd=>'m'⟩
  have⟨m,n⟩:=BE r (gl c x) g.1;refine⟨m,λd=>?_⟩;rw[n,g.2,wc,or_assoc]
def lz(l:U4):(dd l).Nodup:=(BE l [] ui).1
def jy:d∈dd l↔d∈l:=by
 have:=(BE l [] ui).2 d
 simpa [dd] using this
theorem BF:∀{l m:U4},l.Nodup->(∀d∈l,d∈m)->l.length<=m.length
 |[],m,_,_=>ie _
 |x::r,m,h,hs=>by
  have h':=yf.mp h;have⟨c,f,e⟩:=List.append_of_mem (hs x cc)
  have:=BF (m:=c++f) h'.2 λd b=>by
   have h1:=hs d (ua _ b);rw[e]at h1;have a:d≠x:=λz=>h'.1 (by rw[<-z];exact b)
   simp only[yd,wc]at h1 ⊢;rcases h1 with h1|h1|h1
   ·exact .inl h1
   ·exact absurd h1 a
   ·exact .inr h1
  rw[e];simp at this ⊢;omega
def RA(R:u0 F C c)(n:∀d∈l,c d)(h:∀d,d∈l↔d∈m):iT (eJ F) (dd m)=iT (eJ F) (dd l):=by
 have g:∀d∈dd m,c d:=λd e=>n d ((h d).mpr (jy.mp e))
 have i:∀d∈dd l,c d:=λd e=>n d (jy.mp e)
 have T:=R.ltT i;refine wT T (lz l) ?_ ?_
 ·refine(js _ _).trans ((zo (lz m) (lz l)).mpr λd=>?_)
  rw[jy,jy,h]
 ·have j:=R.ltT g
  have up:=uv j (l:=dd m) (λy o=>o) (lz m);refine xj (λ{a b} p q f=>?_) up;exact j.as a ((js _ _).mem_iff.mp p) b ((js _ _).mem_iff.mp q) f
def Hk(hs:List U7):rN [.tup (hs.map D.str)]=some (.tup (hs.map D.str)):=dN rfl (eu (bU (aL (bU rfl rfl) rfl) rfl))
def Hl(ks:U4)(d:D):(gl ks d).length<=ks.length+1:=by unfold gl;split <;> simp
def RB(hs:List U7):(hs.map D.str).all px=true:=lc.mpr λd a=>by obtain⟨l,_,rfl⟩:=ub.mp a;rfl
def RC(hs:List U7)(f l:Int)(m:Bool):jq [2,0,0,1] (jR hs f l m)=true:=by
 simp only[jq,jR,lQ,uc,Bool.and_true];exact⟨RB hs,rfl,rfl,rfl⟩
abbrev u5:D->al->Option al:=gT 4 (bJ (gN 3) (bJ (gN 4) (bJ (gN 5) (bJ (gN 6) dI))))
abbrev u7:GN:=ux [2,0,0,1] (eN cM (aC (bH 1 rN (aC (aA 3) aN)) (aC (aA 4) (aC (aA 5) (aC (aA 6) aN)))))
def Hm(c:b d ρ=some ρ1)(e:f ρ1 ks=some (a,ks2)):kX b f (d::r) ρ ks=kX b f r a ks2:=by
 rw[kX,c,cb,e,cb]
def RD(h:a ρ=some d)(b:jq sg d=true)(c:ks.length<=100000):ux sg a ρ ks=some (ρ,gl ks d):=by
 unfold ux;rw[h,cb,ya ⟨b,c⟩]
theorem Ho(a b:Y1):∀(h ks:U4) (c g i j:Y1),(∀d∈h,kB d)->ks.length+h.length<=100000->∃n o p q,kX u5 u7 h [a,none,b,c,g,i,j] ks=some ([a,none,b,n,o,p,q],h.foldl gl ks)
 |[],ks,c,g,i,j,_,_=>⟨c,g,i,j,rfl⟩
 |d::r,ks,c,g,i,j,s,hl=>by
  obtain⟨hs,f,l,m,_,rfl⟩:=s _ cc;rw[gc]at hl;have w:=Hl ks (jR hs f l m);obtain⟨n,o,p,q,v⟩:=Ho a b r (gl ks (jR hs f l m)) (sh (.tup (hs.map D.str))) (sI f) (sI l) (sh (.bl m)) (λe u=>s e (ua _ u)) 'o';exact⟨n,o,p,q,(Hm rfl (RD (bU (aL (cX rfl rfl (Hk hs)) (aL rfl (aL rfl (aL rfl rfl)))) rfl) (RC hs f l m) 'o')).trans v⟩
theorem Hq(a:Y1):∀(hs:List U4) (ks:U4) (b e f g i:Y1),(∀d∈hs.flatten,kB d)->ks.length+hs.flatten.length<=100000->∃B m n o p,kX (gN 2) (lS (iE (aA 2)) u5 u7) (hs.map D.lst) [a,none,b,e,f,g,i] ks=some ([a,none,B,m,n,o,p],hs.flatten.foldl gl ks)
 |[],ks,b,e,f,g,i,_,_=>⟨b,e,f,g,i,rfl⟩
 |h::r,ks,b,e,f,g,i,q,hl=>by
  rw[ve,rc]at hl
  have z:∀(l c:U4),(l.foldl gl c).length<=c.length+l.length:=λl=>by
   induction l with
   |nil=>intro c;simp
   |cons x l C=>intro c;rw[bo,gc];have:=C (gl c x);have:=Hl c x;omega
  have A:=z h ks;obtain⟨m,n,o,p,e1⟩:=Ho a (sh (.lst h)) h ks e f g i (λd j=>q d (by rw[ve];exact il _ j)) 'o';obtain⟨s,u,v,w,y,e2⟩:=Hq a r (h.foldl gl ks) (sh (.lst h)) m n o p (λd j=>q d (by rw[ve];exact oe _ j)) 'o';refine⟨s,u,v,w,y,?_⟩;rw[ma,ve,List.foldl_append,<-e2];refine Hm rfl ?_;show lS (iE (aA 2)) u5 u7 [a,none,sh (.lst h),e,f,g,i] ks=_;unfold lS;exact e1
def BG{hs:List U4}(a:∀d∈hs.flatten,kB d)(hl:hs.flatten.length<=10000)(l:(dd hs.flatten).length<64):g8 [.lst (hs.map D.lst)]=some (iT (eJ l7) (dd hs.flatten)):=by
 obtain⟨c,f,g,h,i,e⟩:=Hq (sh (.lst (hs.map D.lst))) hs [] none none none none none a (by rw[qe];omega);refine wI rfl ?_;have ok:=yv.kok (λd b=>a d (jy.mp b)) (lz hs.flatten) l;have j:lS (iE (aA 0)) (gN 2) (lS (iE (aA 2)) u5 u7) [sh (.lst (hs.map D.lst)),none,none,none,none,none,none] []=some ([sh (.lst (hs.map D.lst)),none,c,f,g,h,i],dd hs.flatten):=e;show uy 1 (lS (iE (aA 0)) (gN 2) (lS (iE (aA 2)) u5 u7)) l7 [sh (.lst (hs.map D.lst)),none,none,none,none,none,none]=_;unfold uy;simp only[ze,vf];rw[j];dsimp only;unfold gX;rw[ya ok]
structure u8(Gd:D->Prop):Prop where
 tup:∀d,Gd d->∃ds,d=.tup ds
 dk:∀d,Gd d->∀k,bL (k+3) d=true
 eq:∀a b,Gd a->Gd b->(bD a b=true↔a=b)
noncomputable def RE:Nat->D->Prop|0=>l6 λ_=>uQ|1=>pU|2=>pU|_=>xS
def Hr(hs:List U7):l6 (λ_=>uQ) (.tup (hs.map D.str)):=⟨_,rfl,xY λd a=>by obtain⟨l,_,rfl⟩:=ub.mp a;exact⟨l,rfl⟩⟩
def pW:u8 kB where
 tup:=λd ⟨hs,f,l,m,_,e⟩=>⟨_,e⟩
 dk:=λd ⟨hs,f,l,m,_,e⟩ k=>by subst e;simp[bL,jR]
 eq:=λa b ⟨hs,f,l,m,_,e⟩ ⟨hs',f',l',m',_,e'⟩=>by
  subst e e';have T:cP (l6 RE):=rM λi=>match i with|0=>rM λ_=>Bg|1=>rK|2=>rK|_+3=>Bf
  exact T.eq _ _ ⟨_,rfl,Hr hs,⟨_,rfl⟩,⟨_,rfl⟩,⟨_,rfl⟩,kg⟩ ⟨_,rfl,Hr hs',⟨_,rfl⟩,⟨_,rfl⟩,⟨_,rfl⟩,kg⟩
theorem oy:∀{l:U4},(∀d∈l,bD d d=true)->bO l l=true
 |[],_=>by simp[bO]
 |d::r,h=>by rw[bO,h d cc,oy λe a=>h e (ua _ a)];rfl
section
variable (G:u8 Gd)
include G
def u8.dkl(h:∀d∈l,Gd d)(k:Nat):bL (k+4) (.lst l)=true:=by
 rw[bL];exact lc.mpr λd a=>G.dk d (h d a) k
def u8.eql(h:∀d∈l,Gd d):gz (.lst l) (.lst l)=some true:=by
 rw[pq (by rw[show LV=5+4 from rfl,G.dkl h];rfl),oy λd a=>(G.eq d d (h d a) (h d a)).mpr rfl]
def u8.notin(a:Gd d)(h:∀e∈l,Gd e)(hm:d∈l):i4 d (.lst l)=some (.bl false):=by
 refine OK (b:=true) ?_;unfold lL;dsimp only;rw[ya ?_]
 ·exact ef some (ql.mpr ⟨d,hm,(G.eq d d a a).mpr rfl⟩)
 ·rw[show LV=6+3 from rfl,G.dk d a,am]
  exact lc.mpr λe c=>G.dk e (h e c) 6
end
def oz(c:b ρ=some ds)(hn:ds.length=a)(e:F ds=some z):gC a F b ρ=some z:=by unfold gC;rw[c];show (if ds.length=a then F ds else none)=_;rw[ya hn];exact e
section
variable {κ α:Type}[DecidableEq κ]
def gF(a:κ×α)(m:List (κ×α))(k:κ):aP (a::m) k=if a.1=k then some a.2 else aP m k:=by
 unfold aP;rw[we];by_cases h:a.1=k
 ·rw[ya h,qc h];rfl
 ·rw[ic h,be h]
theorem rY{m:List (κ×α)}(h:k ∉ m.map fst):aP m k=none:=by
 induction m with
 |nil=>rfl
 |cons a r b =>
  rw[ma,wc]at h;rw[gF,ic (λz=>h (.inl z.symm)),b λz=>h (.inr z)]
theorem yw{m:List (κ×α)}(h:k∈m.map fst):∃v,aP m k=some v:=by
 induction m with
 |nil=>simp at h
 |cons a r b =>
  rw[gF];by_cases e:a.1=k
  ·exact⟨_,ya e⟩
  ·rw[ic e]
   rw[ma,wc]at h;exact b (h.resolve_left λz=>e z.symm)
theorem Hs(m:List (κ×α))(k:κ):(m.any λb=>decide (b.1=k))=decide (k∈m.map fst):=by
 induction m with
 |nil=>simp
 |cons a r c =>
  rw[li,c,ma];by_cases e:a.1=k
  ·simp[e]
  ·have e2:¬k=a.1:=λz=>e z.symm
   simp[e,e2]
def yy{m:List (κ×α)}(v:α)(h:k ∉ m.map fst):fO m k v=m++[(k,v)]:=by
 unfold fO;rw[Hs,be h,ic bb]
def yA{m:List (κ×α)}(v:α)(h:k∈m.map fst):fO m k v=m.map λkv=>if kv.1=k then (kv.1,v) else kv:=by
 unfold fO;rw[Hs,qc h,ya rfl]
def yB(m:List (κ×α))(k:κ)(v:α):(fO m k v).map fst=if k∈m.map fst then m.map fst else m.map fst++[k]:=by
 by_cases h:k∈m.map fst
 ·rw[yA v h,ya h,md]
  refine yg λa _=>?_
  show (if a.1=k then (a.1,v) else a).1=a.1
  split <;> rfl
 ·rw[yy v h,ic h,jd];rfl
def RF(m:List (κ×α))(k k':κ)(v:α):aP (fO m k v) k'=if k'=k then some v else aP m k':=by
 by_cases h:k∈m.map fst
 ·rw[yA v h]
  induction m with
  |nil=>simp at h
  |cons a r g =>
   rw[ma,gF,gF];by_cases e:a.1=k
   ·rw[ya e]
    by_cases e2:a.1=k'
    ·rw[ya e2,ya (e2.symm.trans e)]
    ·rw[ic e2,ic e2,ic (λz=>e2 (e.trans z.symm))]
     have:∀l:List (κ×α),¬k'=k->aP (l.map λf=>if f.1=k then (f.1,v) else f) k'=aP l k':=by
      intro l j
      induction l with
      |nil=>rfl
      |cons b l i =>
       rw[ma,gF,gF,i];by_cases c:b.1=k
       ·rw[ya c,ic (λz=>j (z.symm.trans c)),ic (λz=>j (z.symm.trans c))]
       ·rw[ic c]
     exact this r λz=>e2 (e.trans z.symm)
   ·rw[ic e]
    rw[ma,wc]at h;by_cases e2:a.1=k'
    ·rw[ya e2,ic (λz=>e (e2.trans z)),ya e2]
    ·rw[ic e2,ic e2,g (h.resolve_left λz=>e z.symm)]
 ·rw[yy v h]
  induction m with
  |nil =>
   rw[zi,gF];by_cases e:k=k'
   ·rw[ya e,ya e.symm]
   ·rw[ic e,ic (λz=>e z.symm)]
  |cons a r g =>
   rw[ma,wc]at h;rw[oh,gF,gF,g λz=>h (.inr z)];by_cases e2:a.1=k'
   ·rw[ya e2,ya e2,ic (λz=>h (.inl (z.symm.trans e2.symm)))]
   ·rw[ic e2,ic e2]
end
def kz(m:U3):List aQ:=m.map λp=>Sum.inl p.1
noncomputable def dz(m:U3):U4:=m.map λp=>D.bl p.2
def m6(p:Int×Bool):aQ×D:=(Sum.inl p.1,D.bl p.2)
theorem Ht(m:U3):(kz m).zip (dz m)=m.map m6:=by
 induction m with
 |nil=>rfl
 |cons a r b=>show (_::_)=_;rw[ma];exact ef _ b
def Hu(m:U3):(m.map m6).map fst=kz m:=by rw[md];rfl
def RG(m:U3):(m.map m6).map snd=dz m:=by rw[md];rfl
def Hv(m:U3):kz m=(m.map fst).map Sum.inl:=by rw[md];rfl
def Hw{m:U3}:(Sum.inl k:aQ)∈(m.map m6).map fst↔k∈m.map fst:=by
 rw[Hu,Hv,ub];exact⟨λ⟨x,a,b⟩=>by cases b;exact a,λh=>⟨k,h,rfl⟩⟩
theorem RH(m:U3)(k:Int):aP (m.map m6) (Sum.inl k)=(aP m k).map D.bl:=by
 induction m with
 |nil=>rfl
 |cons a r b =>
  rw[ma,gF,gF,b];by_cases e:a.1=k
  ·rw[ya e,ya (by show Sum.inl a.1=Sum.inl k;rw[e])];rfl
  ·rw[ic e,ic (by show ¬Sum.inl a.1=Sum.inl k;exact λz=>e (lw z))]
def RI(m:U3)(k:Int)(b:Bool):fO (m.map m6) (Sum.inl k) (D.bl b)=(fO m k b).map m6:=by
 by_cases h:k∈m.map fst
 ·rw[yA _ (Hw.mpr h),yA _ h,md,md]
  refine yg λa _=>?_
  show (if (Sum.inl a.1:aQ)=Sum.inl k then ((Sum.inl a.1:aQ),D.bl b) else m6 a)=m6 (if a.1=k then (a.1,b) else a);by_cases e:a.1=k
  ·rw[ya e,ya (by rw[e])];rfl
  ·rw[ic e,ic (λz=>e (lw z))]
 ·rw[yy _ (λz=>h (Hw.mp z)),yy _ h,jd];rfl
def Hy(m:U3)(k:Int):gO (.dk (kz m) (dz m)) (.int k)=some ((aP m k).map D.bl):=by
 unfold gO;show some (aP ((kz m).zip (dz m)) (Sum.inl k))=_;rw[Ht,RH]
def Hz(h:aP m k=some b):iS (.dk (kz m) (dz m)) (.int k)=some (.bl b):=by
 unfold iS;rw[Hy,h];rfl
def RJ(k:Int)(b:Bool)(h:m.length<=100000):pu (.dk (kz m) (dz m)) (.int k) (.bl b)=some (.dk (kz (fO m k b)) (dz (fO m k b))):=by
 unfold pu;show (if (kz m).length<sizeLine then some (Sl.dk _ _) else none)=_;rw[ya (by unfold kz;rw[aa];exact kW h),Ht,RI,Hu,RG]
theorem HA:∀{l m:Y7},l.Nodup->(∀x∈l,x∈m)->l.length<=m.length
 |[],_,_,_=>ie _
 |a::l,m,hn,hs=>by
  have c:=hs a 'm';have hn:=yf.mp hn
  have:=HA (l:=l) (m:=m.erase a) hn.2 λx b=>(List.mem_erase_of_ne (λz:x=a=>hn.1 (z ▸ b))).mpr (hs x (ua _ b))
  rw[List.length_erase_of_mem c]at this;have e:=List.length_pos_of_mem c;rw[gc];omega
structure dO(pg:Y7)(m:U3):Prop where
 nd:(m.map fst).Nodup
 sub:∀x∈m.map fst,x∈pg
def dO.len(h:dO pg m):m.length<=pg.length:=by
 have:=HA h.nd h.sub
 rwa [aa]at this
def dO.put(h:dO pg m)(c:k∈pg)(b:Bool):dO pg (fO m k b):=by
 constructor
 ·rw[yB]
  split
  ·exact h.nd
  ·rename_i hn
   exact nodup_append.mpr ⟨h.nd,'m',λ x hx y a z=>by
    rw[wd]at a;subst a z;exact hn hx⟩
 ·rw[yB]
  split
  ·exact h.sub
  ·intro x hx
   rcases yd.mp hx with hx|hx
   ·exact h.sub x hx
   ·rw[wd.mp hx];exact c
def RK(e:a ρ=some d)(f:b ρ=some k)(g:c ρ=some z)(h:gO d k=some o):pv a b c ρ=some (o.getD z):=by
 unfold pv;rw[e,f,g];show (gO d k).map _=_;rw[h];rfl
def HB(c:ρ[i]?=some (some sl))(e:b ρ=some d)(f:a ρ=some k)(g:pu sl k d=some sl'):nO i a b ρ=.nx (ρ.set i (some sl')):=by
 unfold nO;rw[c];dsimp only;rw[e,f];show (match pu sl k d with|some sl'=>aO.nx (ρ.set i (some sl'))|none=>aO.bad)=_;rw[g]
def RL(c:ρ[i]?=some (some (.ow ds)))(e:b ρ=some d)(f:a ρ=some k)(g:t0 ds k d=some ds'):qU i a b ρ=.nx (ρ.set i (some (.ow ds'))):=by
 unfold qU;rw[c];dsimp only;rw[e,f];show (match t0 ds k d with|some ds'=>aO.nx (ρ.set i (some (.ow ds')))|none=>aO.bad)=_;rw[g]
noncomputable abbrev m7:=Nat×Nat×Bool
def oA(p:D)(m:m7):D:=.tup [p,.int (m.1:Nat),.int (m.2.1:Nat),.bl m.2.2]
def oB(most:Bool)(m:U3)(a:Int):U3:=fO m a (most || (aP m a).getD false)
def m8(pg:Y7)(k:m7):Y7:=(pg.drop k.1).take (k.2.1+1 - k.1)
def iA(pg:Y7)(a:List m7):U3:=a.foldl (λm k=>(m8 pg k).foldl (oB k.2.2) m) []
def BH(h:x∈m8 pg k):x∈pg:=oj (pj h)
theorem dO.stps:∀{ps:Y7}{m:U3},dO pg m->(∀x∈ps,x∈pg)->dO pg (ps.foldl (oB most) m)
 |[],_,h,_=>h
 |x::r,m,h,hs=>dO.stps (ps:=r) (h.put (hs x 'm') _) λy a=>hs y (ua _ a)
theorem HC(pg:Y7):∀(a:List m7) (m:U3),dO pg m->dO pg (a.foldl (λm k=>(m8 pg k).foldl (oB k.2.2) m) m)
 |[],_,h=>h
 |k::r,m,h=>HC pg r _ (h.stps λ_ b=>BH b)
def HE(pg:Y7)(a:List m7):dO pg (iA pg a):=HC pg a [] ⟨ui,λx b=>by simp at b⟩
def HH:al->aO:=nO 2 (au 7) (eT (c8 (tE (aA 6)) (tE (pv (au 2) (au 7) (eC (.bl false))))))
theorem HI(h:pg.length<=1000)(a b c d e:Y1)(most:Bool):∀(ps:Y7) (m:U3) (z:Y1),dO pg m->(∀x∈ps,x∈pg) →
  ∃f,eS (gN 7) HH (ps.map D.int) [a,b,some (.dk (kz m) (dz m)),c,d,e,sh (.bl most),z]=.nx [a,b,some (.dk (kz (ps.foldl (oB most) m)) (dz (ps.foldl (oB most) m))),c,d,e,sh (.bl most),f]
 |[],m,z,_,_=>⟨z,rfl⟩
 |x::r,m,z,hm,hs=>by
  obtain⟨f,j⟩:=HI h a b c d e most r (oB most m x) (sI x) (hm.put (hs x 'm') _) λy i=>hs y (ua _ i)
  refine⟨f,?_⟩;rw[ma,bo,<-j];refine fS rfl ?_;have hl:m.length<=100000:=re hm.len 'o'
  have g:tE (pv (au 2) (au 7) (eC (.bl false))) [a,b,some (.dk (kz m) (dz m)),c,d,e,sh (.bl most),sI x]=some ((aP m x).getD false):=by
   refine bP ((RK (z:=.bl false) rfl rfl rfl (Hy m x)).trans ?_)
   cases aP m x <;> rfl
  have l:eT (c8 (tE (aA 6)) (tE (pv (au 2) (au 7) (eC (.bl false))))) [a,b,some (.dk (kz m) (dz m)),c,d,e,sh (.bl most),sI x]=some (.bl (most || (aP m x).getD false)):=by
   refine Ap ?_
   cases most with
   |true=>exact Fc rfl
   |false=>exact tQ rfl g
  exact(HB rfl l rfl (RJ x _ hl)).trans rfl
def RM:al->aO:=ek (iE (dC (au 0) (oS (au 4)) (oS (e2 bG (au 5) (eC (.int 1)))))) (gN 7) HH
theorem HK(g:pg.length<=1000)(p:D)(b:Y1):∀(a:List m7) (m:U3) (c d e f z:Y1),dO pg m->(∀k∈a,k.1<=k.2.1) →
  ∃i d' l n o,eS (gT 4 (bJ (gN 3) (bJ (gN 4) (bJ (gN 5) (bJ (gN 6) dI))))) RM (a.map (oA p)) [sN pg,b,some (.dk (kz m) (dz m)),c,d,e,f,z] =
   .nx [sN pg,b,some (.dk (kz (a.foldl (λm k=>(m8 pg k).foldl (oB k.2.2) m) m)) (dz (a.foldl (λm k=>(m8 pg k).foldl (oB k.2.2) m) m))),i,d',l,n,o]
 |[],m,c,d,e,f,z,_,_=>⟨c,d,e,f,z,rfl⟩
 |k::r,m,c,d,e,f,z,hm,q=>by
  have⟨u,v⟩:=HI g (sN pg) b (sh p) (sh (.int (k.1:Nat))) (sh (.int (k.2.1:Nat))) k.2.2 (m8 pg k) m z hm λx h=>BH h
  have⟨i,d',l,n,o,w⟩:=HK g p b r _ (sh p) (sh (.int (k.1:Nat))) (sh (.int (k.2.1:Nat))) (sh (.bl k.2.2)) u (hm.stps (most:=k.2.2) λx h=>BH h) λj s=>q j (ua _ s)
  refine⟨i,d',l,n,o,?_⟩;rw[ma,bo,<-w];refine fS (ρ1:=[sN pg,b,some (.dk (kz m) (dz m)),sh p,sh (.int (k.1:Nat)),sh (.int (k.2.1:Nat)),sh (.bl k.2.2),z]) rfl ?_;refine i9 (ds:=(m8 pg k).map D.int) (iP (d:=.lst ((m8 pg k).map D.int)) ?_ rfl) v
  have y:gi (pg.map D.int) (some ((k.1:Nat):Int)) (some ((k.2.1:Nat)+1:Int))=(m8 pg k).map D.int:=by
   have A:((k.2.1:Nat)+1:Int)=((k.2.1+1:Nat):Int):=by omega
   rw[A,wM,Fj _ _ _ (by have:=q k 'm';omega)];rfl
  show (hX (.lst (pg.map D.int)) (some ((k.1:Nat):Int)) (some ((k.2.1:Nat)+1:Int)))=_;unfold hX;dsimp only;rw[y]
def RN(b:pg.length<=1000)(p:D)(a:List m7)(i:∀k∈a,k.1<=k.2.1):Bm [.lst (pg.map D.int),.lst (a.map (oA p))]=some (.dk (kz (iA pg a)) (dz (iA pg a))):=by
 obtain⟨c,d,e,f,z,h⟩:=HK b p (sh (.lst (a.map (oA p)))) a [] none none none none none ⟨ui,λx g=>by simp at g⟩ i;exact dN rfl (st rfl (st (i9 (iP rfl rfl) h) rfl))
noncomputable abbrev Td:=Int×Int×Bool
def bB(t:Td):D:=.tup [.int t.1,.int t.2.1,.bl t.2.2]
theorem RO(t:Td)(a:Int)(s:Bool):uS [bB t,.int a,.bl s]=some (.bl (decide (t.2.1+1=a) && (t.2.2 == s))):=by
 refine dN rfl (eu (Ap ?_));have b:tE (e2 bR (e2 bG (e2 bq (au 0) (eC (.int 1))) (eC (.int 1))) (au 1)) (bY 3 [bB t,.int a,.bl s])=some (decide (t.2.1+1=a)):=bP (aD (d:=.int (t.2.1+1)) rfl rfl (gj gS));have c:tE (e2 bR (e2 bq (au 0) (eC (.int 2))) (au 2)) (bY 3 [bB t,.int a,.bl s])=some (t.2.2 == s):=bP (aD (d:=.bl t.2.2) rfl rfl (gj OR))
 cases h:decide (t.2.1+1=a) with
 |false=>rw[h]at b;exact Ao b
 |true=>rw[h]at b;exact tR b c
def jz(a b:Int)(t:Bool):U3->List Td
 |[]=>[(a,b,t)]
 |(c,s)::r=>if b+1=c/\t=s then jz a c s r else (a,b,t)::jz c c s r
def lA:U3->List Td
 |[]=>[]
 |(a,s)::r=>jz a a s r
theorem BI(a b:Int)(t:Bool):∀(r:U3),(jz a b t r).length<=r.length+1
 |[]=>by simp[jz]
 |(c,s)::r=>by
  unfold jz;split
  ·have:=BI a c s r;simp;omega
  ·have:=BI c c s r;simp;omega
theorem RP(r:U3):(lA r).length<=r.length:=by
 cases r with
 |nil=>simp[lA]
 |cons x r=>have:=BI x.1 x.1 x.2 r;unfold lA;simp;omega
def HL:al->aO:=bT (dH (tE (e2 i5 (eN cY (aC (au 3) aN)) (eC (.int 0)))) (tE (bH 3 uS (aC (e2 bq (au 3) (e1 mI (eC (.int 1)))) (aC (aA 4) (aC (e2 iS (au 2) (au 4)) aN)))))) (qU 3 (e1 mI (eC (.int 1))) (eN cM (aC (e2 bq (e2 bq (au 3) (e1 mI (eC (.int 1)))) (eC (.int 0))) (aC (aA 4) (aC (e2 iS (au 2) (au 4)) aN))))) (eR 3 (eN cM (aC (aA 4) (aC (aA 4) (aC (e2 iS (au 2) (au 4)) aN)))))
def RQ{a:Type}(l:List a)(x:a):eK (l++[x]) (-1)=some x:=by
 unfold eK
 have e:iK (l++[x]).length (-1)=some l.length:=by
  unfold iK;rw[ic 'o',ya 's']
  congr 1
  simp;omega
 rw[e];show (l++[x])[l.length]?=_;simp
def RS(l:U4)(x d:D):t0 (l++[x]) (.int (-1)) d=some (l++[d]):=by
 unfold t0
 have e:iK (l++[x]).length (-1)=some l.length:=by
  unfold iK;rw[ic 'o',ya 's']
  congr 1
  simp;omega
 show (iK (l++[x]).length (-1)).map _=_;rw[e];show some ((l++[x]).set l.length d)=_
 congr 1
 simp
theorem BJ(n k:Y1):∀(r:U3) (init:List Td) (a b:Int) (t:Bool) (z:Y1),(∀x∈r,aP m x.1=some x.2)->init.length+r.length<=50000 →
  ∃f,eS (gN 4) HL (r.map λx=>D.int x.1) [n,k,sh (.dk (kz m) (dz m)),some (.ow ((init++[(a,b,t)]).map bB)),z]=.nx [n,k,sh (.dk (kz m) (dz m)),some (.ow ((init++jz a b t r).map bB)),f]
 |[],init,a,b,t,z,_,_=>⟨z,rfl⟩
 |(c,s)::r,init,a,b,t,z,v,hl=>by
  have e:iS (.dk (kz m) (dz m)) (.int c)=some (.bl s):=Hz (v (c,s) 'm');have g:∀x∈r,aP m x.1=some x.2:=λx w=>v x (ua _ w)
  rw[gc]at hl;have o:∀(x:Td),(init++[x]).map bB=init.map bB++[bB x]:=λx=>by rw[jd];rfl
  have h:eK ((init++[(a,b,t)]).map bB) (-1)=some (bB (a,b,t)):=by rw[o];exact RQ _ _
  have u:tE (e2 i5 (eN cY (aC (au 3) aN)) (eC (.int 0))) [n,k,sh (.dk (kz m) (dz m)),some (.ow ((init++[(a,b,t)]).map bB)),sI c]=some true:=by
   refine bP (aD (bU (z:=.int ((init++[(a,b,t)]).map bB).length) rfl rfl) rfl ?_);rw[pk]
   congr 2
   exact qc (by rw[aa,rc,yc];omega)
  have j:tE (bH 3 uS (aC (e2 bq (au 3) (e1 mI (eC (.int 1)))) (aC (aA 4) (aC (e2 iS (au 2) (au 4)) aN)))) [n,k,sh (.dk (kz m) (dz m)),some (.ow ((init++[(a,b,t)]).map bB)),sI c]=some (decide (b+1=c) && (t == s)) :=
   bP (cX (aL (aD rfl rfl h) (aL rfl (aL (aD rfl rfl e) rfl))) rfl (RO (a,b,t) c s))
  by_cases i:b+1=c/\t=s
  ·have p:(decide (b+1=c) && (t == s))=true:=by rw[qc i.1,i.2];simp
   rw[p]at j;obtain⟨f,l⟩:=BJ n k r init a c s (sI c) g 'o';refine⟨f,?_⟩;have q:jz a b t ((c,s)::r)=jz a c s r:=by rw[jz,ya i]
   rw[q,<-l];refine fS rfl ((mO (tR u j)).trans ?_);refine(RL (ds':=(init++[(a,c,s)]).map bB) rfl (bU (ds:=[.int a,.int c,.bl s]) (aL (aD (aD rfl rfl h) rfl rfl) (aL rfl (aL (aD rfl rfl e) rfl))) rfl) rfl ?_).trans rfl;rw[o,o];exact RS _ _ _
  ·have p:(decide (b+1=c) && (t == s))=false:=by
    cases y:decide (b+1=c) with
    |false=>rfl
    |true =>
     cases A:t == s with
     |false=>rfl
     |true=>exact absurd ⟨kc y,by simpa using A⟩ i
   rw[p]at j;obtain⟨f,l⟩:=BJ n k r (init++[(a,b,t)]) c c s (sI c) g (by rw[rc,yc];omega);refine⟨f,?_⟩;have q:init++jz a b t ((c,s)::r)=init++[(a,b,t)]++jz c c s r:=by rw[jz,ic i,yi];rfl
   rw[q,<-l];refine fS rfl ((fE (tR u j)).trans ?_);refine(m5 (ds:=(init++[(a,b,t)]).map bB) (d:=bB (c,c,s)) rfl (bU (ds:=[.int c,.int c,.bl s]) (aL rfl (aL rfl (aL (aD rfl rfl e) rfl))) rfl) 's').trans ?_;show aO.nx [n,k,sh (.dk (kz m) (dz m)),some (.ow ((init++[(a,b,t)]).map bB++[bB (c,c,s)])),sI c]=_;simp only[jd,ma,vg]
def gG(m:U3):U3:=(mP (m.map fst)).map λk=>(k,(aP m k).getD false)
def RU(m:U3):(gG m).map (λx=>D.int x.1)=(mP (m.map fst)).map D.int:=by unfold gG;rw[md];rfl
def RV(h:x∈gG m):aP m x.1=some x.2:=by
 obtain⟨k,a,rfl⟩:=ub.mp h;have⟨v,b⟩:=yw ((tX _).mem_iff.mp a);show aP m k=some ((aP m k).getD false);rw[b];rfl
def HM(m:U3):(gG m).length=m.length:=by unfold gG;rw[aa,(tX _).length_eq,aa]
theorem RW(n k:Y1)(hl:m.length<=1000):∃c,eS (gN 4) HL ((gG m).map λx=>D.int x.1) [n,k,sh (.dk (kz m) (dz m)),some (.ow []),none]=.nx [n,k,sh (.dk (kz m) (dz m)),some (.ow ((lA (gG m)).map bB)),c]:=by
 have f:∀x∈gG m,aP m x.1=some x.2:=λx e=>RV e
 have b:=HM m
 cases i:gG m with
 |nil=>exact⟨none,rfl⟩
 |cons x r =>
  rw[i]at f b;obtain⟨a,s⟩:=x;rw[gc]at b;have g:iS (.dk (kz m) (dz m)) (.int a)=some (.bl s):=Hz (f (a,s) 'm');obtain⟨c,h⟩:=BJ n k r [] a a s (sI a) (λx e=>f x (ua _ e)) 's';refine⟨c,?_⟩;show _=aO.nx [n,k,_,some (.ow (([]++jz a a s r).map bB)),c];rw[<-h];refine fS rfl ((fE (Ao (bP (aD (bU rfl rfl) rfl pk)))).trans ?_);exact(m5 (ds:=[]) (d:=bB (a,a,s)) rfl (bU (ds:=[.int a,.int a,.bl s]) (aL rfl (aL rfl (aL (aD rfl rfl g) rfl))) rfl) 'm').trans rfl
def RX(c:pg.length<=62)(p:D)(a:List m7)(e:∀k∈a,k.1<=k.2.1):Bn [.lst (pg.map D.int),.lst (a.map (oA p))]=some ((lA (gG (iA pg a))).map bB):=by
 have b:=HE pg a;have hl:=b.len;obtain⟨z,h⟩:=RW (m:=iA pg a) (sN pg) (sh (.lst (a.map (oA p)))) 'o';refine wI rfl (st (cv (cX rfl rfl (RN 'o' p a e))) (st rfl (st (i9 (ds:=(gG (iA pg a)).map λx:Int×Bool=>D.int x.1) (iP (d:=.lst ((gG (iA pg a)).map λx:Int×Bool=>D.int x.1)) (fF ?_) rfl) h) rfl)));show tY [.dk (kz (iA pg a)) (dz (iA pg a))]=_;unfold tY;dsimp only;rw[Hv,O5,RU];show (if ((iA pg a).map fst).length<64 then some _ else none)=_;rw[ya (by rw[aa];omega)]
inductive Dd where
 |put (a:Int) (b:Bool)|cut (a:Int)
noncomputable def Dd.d:Dd->D
 |.put a b=>.tup [.str [112,117,116],.int a,.bl b]
 |.cut a=>.tup [.str [99,117,116],.int a]
noncomputable abbrev jA:=List U7×Int×Int×Bool
def kC(x:jA):D:=jR x.1 x.2.1 x.2.2.1 x.2.2.2
noncomputable def bz(b:Bool):Int:=if b=true then 1 else 0
def lB:Dd->jA->Option jA
 |.put a _,x=>some (x.1,x.2.1+bz (decide (a<=x.2.1)),x.2.2.1+bz (decide (a<=x.2.2.1)),x.2.2.2)
 |.cut a,x=>if x.2.1=a/\x.2.2.1=a then none else some (x.1,x.2.1 - bz (decide (a<x.2.1)),x.2.2.1 - bz (decide (a<=x.2.2.1)),x.2.2.2)
theorem RY(h:lB d x=some y):y.1=x.1:=by
 cases d with
 |put a b=>cases h;rfl
 |cut a =>
  unfold lB at h;dsimp only at h
  split at h
  ·cases h
  ·cases h;rfl
def iC(d:Dd)(ms:List jA):U4:=(ms.filterMap (lB d)).map kC
def RZ(h:∀x∈ms,cI x.1):∀e∈iC d ms,kB e:=λe b=>by
 obtain⟨y,c,rfl⟩:=ub.mp b;have⟨x,f,a⟩:=bp.mp c;exact⟨y.1,y.2.1,y.2.2.1,y.2.2.2,by rw[RY a];exact h x f,rfl⟩
def R0(d:Dd)(ms:List jA):(iC d ms).length<=ms.length:=by unfold iC;rw[aa];exact List.length_filterMap_le _ _
def BK(l:U4):(dd l).length<=l.length:=BF (lz l) λd a=>jy.mp a
def jS(l:U4):U4:=iT (eJ l7) (dd l)
def HN:d∈jS l↔d∈l:=by unfold jS;rw[(js _ _).mem_iff,jy]
def R3(l:U4):(jS l).length<=l.length:=by unfold jS;rw[(js _ _).length_eq];exact BK l
theorem m9(h:a ρ=some b)(f:b=true->c ρ=some d)(g:b=false->e ρ=some d):eH a c e ρ=some d:=by
 unfold eH;rw[h,cb]
 cases b with
 |true=>exact f rfl
 |false=>exact g rfl
theorem BL{b:Type}(a:b->D)(f:b->U5):∀(xs:List b),(∀x∈xs,∃ρ1,g (a x) ρ=some ρ1/\c ρ1=some (f x).isSome/\∀y,f x=some y->i ρ1=some y)->eI g c i ρ (xs.map a)=some (xs.filterMap f)
 |[],_=>rfl
 |x::r,h=>by
  obtain⟨ρ1,l,m,n⟩:=h x 'm';have o:=BL a f r λy j=>h y (by simp[j])
  rw[ma,eI,l,cb,m,cb,o]
  cases e:f x with
  |none=>rw[lq e];rfl
  |some y=>rw[mq e,ya (show (some y).isSome=true from rfl),n y e];rfl
def HP(d:Dd)(ms:List jA):iC d ms=ms.filterMap λx=>(lB d x).map kC:=by
 unfold iC;rw[List.map_filterMap]
def R4(b:Bool)(hl:ms.length<=60):x5 [.lst (ms.map kC),.int a]=some (.lst (iC (.put a b) ms)):=by
 have e:eI (gT 4 (bJ (gN 0) (bJ (gN 1) (bJ (gN 2) (bJ (gN 3) dI))))) (λ_=>some true) (eN cM (aC (aA 0) (aC (eH (tE (e2 kO (au 1) (au 4))) (e2 bG (au 1) (eC (.int 1))) (aA 1)) (aC (eH (tE (e2 kO (au 2) (au 4))) (e2 bG (au 2) (eC (.int 1))) (aA 2)) (aC (aA 3) aN))))) [none,none,none,none,sI a] (ms.map kC)=some (iC (.put a b) ms):=by
  rw[HP];refine BL kC (λx=>(lB (.put a b) x).map kC) ms λx _=>⟨_,rfl,rfl,λy c=>?_⟩
  cases c;refine bU (aL rfl (aL (d:=.int (x.2.1+bz (decide (a<=x.2.1)))) (m9 (bP (aD rfl rfl wL)) (λh=>?_) (λh=>?_)) (aL (d:=.int (x.2.2.1+bz (decide (a<=x.2.2.1)))) (m9 (bP (aD rfl rfl wL)) (λh=>?_) (λh=>?_)) (aL rfl rfl)))) rfl
  ·rw[h];rfl
  ·rw[h];show some (D.int x.2.1)=some (D.int (x.2.1+0));rw[Int.add_zero]
  ·rw[h];rfl
  ·rw[h];show some (D.int x.2.2.1)=some (D.int (x.2.2.1+0));rw[Int.add_zero]
 exact dN rfl (eu (fF (lP (iP rfl rfl) (sz (by rw[aa];omega)) e)))
def R5(hl:ms.length<=60):x4 [.lst (ms.map kC),.int a]=some (.lst (iC (.cut a) ms)):=by
 have c:eI (gT 4 (bJ (gN 0) (bJ (gN 1) (bJ (gN 2) (bJ (gN 3) dI))))) (c8 (tE (e2 bX (au 1) (au 4))) (tE (e2 bX (au 2) (au 4)))) (eN cM (aC (aA 0) (aC (eH (tE (e2 i5 (au 1) (au 4))) (e2 mH (au 1) (eC (.int 1))) (aA 1)) (aC (eH (tE (e2 kO (au 2) (au 4))) (e2 mH (au 2) (eC (.int 1))) (aA 2)) (aC (aA 3) aN))))) [none,none,none,none,sI a] (ms.map kC)=some (iC (.cut a) ms):=by
  rw[HP];refine BL kC (λx=>(lB (.cut a) x).map kC) ms λx _=>⟨_,rfl,?_,λy b=>?_⟩
  ·refine(Bd (bP (aD rfl rfl (nL gS))) λ_=>bP (aD rfl rfl (nL gS))).trans ?_
   unfold lB;dsimp only;by_cases e:x.2.1=a <;> by_cases f:x.2.2.1=a <;> simp[e,f]
  ·unfold lB at b
   dsimp only at b
   split at b
   ·cases b
   ·cases b
    refine bU (aL rfl (aL (d:=.int (x.2.1 - bz (decide (a<x.2.1)))) (m9 (bP (aD rfl rfl pk)) (λh=>?_) (λh=>?_)) (aL (d:=.int (x.2.2.1 - bz (decide (a<=x.2.2.1)))) (m9 (bP (aD rfl rfl wL)) (λh=>?_) (λh=>?_)) (aL rfl rfl)))) rfl
    ·rw[h];rfl
    ·rw[h];show some (D.int x.2.1)=some (D.int (x.2.1 - 0));rw[Int.sub_zero]
    ·rw[h];rfl
    ·rw[h];show some (D.int x.2.2.1)=some (D.int (x.2.2.1 - 0));rw[Int.sub_zero]
 exact dN rfl (eu (fF (lP (iP rfl rfl) (sz (by rw[aa];omega)) c)))
theorem R6(hl:ms.length<=60):eH (tE (e2 bR (e2 bq (au 1) (eC (.int 0))) (eC (.str [112,117,116])))) (bH 2 x5 (aC (aA 0) (aC (e2 bq (au 1) (eC (.int 1))) aN))) (bH 2 x4 (aC (aA 0) (aC (e2 bq (au 1) (eC (.int 1))) aN))) [sh (.lst (ms.map kC)),sh d.d,none]=some (.lst (iC d ms)):=by
 cases d with
 |put a b=>exact m9 (b:=true) (bP (aD (aD rfl rfl rfl) rfl rfl)) (λ_=>cX (aL rfl (aL (aD rfl rfl rfl) rfl)) rfl (R4 b hl)) λh=>by cases h
 |cut a=>exact m9 (b:=false) (bP (aD (aD rfl rfl rfl) rfl rfl)) (λh=>by cases h) λ_=>cX (aL rfl (aL (aD rfl rfl rfl) rfl)) rfl (R5 hl)
def R7(c:∀x∈ms,cI x.1)(hl:ms.length<=60):g8 [.lst [.lst (iC d ms)]]=some (jS (iC d ms)):=by
 have a:=R0 d ms;have b:=BG (hs:=[iC d ms]) (by rw[ve,dg,zc];exact RZ c) (by rw[ve,dg,zc];omega) (by rw[ve,dg,zc];have:=BK (iC d ms);omega);rw[ve,dg,zc]at b;exact b
def HQ:al->aO:=(aY (bT (dH (tE (e2 i5 (au 5) (eC (.int 0)))) (c8 (tE (aA 6)) (tE (e2 kO (au 5) (au 1))))) (aY (bK 4 (e2 bG (au 4) (eC (.int 1))))
  (bK 5 (eC (.int 0)))) cr)
  (aY (bK 5 (e2 bG (au 5) (eC (.int 1))))
  (eR 3 (aA 4))))
theorem R8(a c:Y1)(most h g:Int)(i:Y7)(b:Bool)(hl:i.length<=1000):∃p f,HQ [a,sI most,c,some (.ow (i.map D.int)),sI h,sI g,sh (.bl b)]=.nx [a,sI most,c,some (.ow ((i++[p]).map D.int)),sI p,sI f,sh (.bl b)]:=by
 have q:dH (tE (e2 i5 (au 5) (eC (.int 0)))) (c8 (tE (aA 6)) (tE (e2 kO (au 5) (au 1)))) [a,sI most,c,some (.ow (i.map D.int)),sI h,sI g,sh (.bl b)]=some (decide (0<g) && (b || decide (most<=g))):=uP (bP (aD rfl rfl pk)) λ_=>Bd (bP rfl) λ_=>bP (aD rfl rfl wL)
 have hz:(i.map D.int).length<=100000:=by rw[aa];omega
 cases e:(decide (0<g) && (b || decide (most<=g))) with
 |true =>
  rw[e]at q;refine⟨h+1,0+1,st ((mO q).trans (st (cv (aD rfl rfl gR)) (cv rfl))) (st (cv (aD rfl rfl gR)) ((m5 (ds:=i.map D.int) (d:=.int (h+1)) rfl rfl hz).trans ?_))⟩;rw[jd];rfl
 |false =>
  rw[e]at q;refine⟨h,g+1,st ((fE q).trans rfl) (st (cv (aD rfl rfl gR)) ((m5 (ds:=i.map D.int) (d:=.int h) rfl rfl hz).trans ?_))⟩;rw[jd];rfl
theorem HR(a c:Y1)(most:Int):∀(r:Y6) (h:Y7) (i g:Int) (z:Y1),h.length+r.length<=1000->∃(pg:Y7) (p f y:Y1),pg.length=h.length+r.length/\eS (gN 6) HQ (r.map D.bl) [a,sI most,c,some (.ow (h.map D.int)),sI i,sI g,z]=.nx [a,sI most,c,some (.ow (pg.map D.int)),p,f,y]
 |[],h,i,g,z,_=>⟨h,_,_,_,rfl,rfl⟩
 |b::r,h,i,g,z,hl=>by
  rw[gc]at hl;obtain⟨p,f,e⟩:=R8 a c most i g h b 'o';obtain⟨pg,j,l,y,m,n⟩:=HR a c most r (h++[p]) p f (sh (.bl b)) (by rw[rc,yc];omega);refine⟨pg,j,l,y,by rw[m,rc,yc,gc];omega,?_⟩;rw[ma,<-n];exact fS rfl e
def R9(bs:Y6)(hl:bs.length<=1000)(most first:Int):∃pg:Y7,pg.length=bs.length/\Bl [.lst (bs.map D.bl),.int most,.int first]=some (.lst (pg.map D.int)):=by
 obtain⟨pg,p,f,y,a,b⟩:=HR (sB bs) (sI first) most bs [] first 0 none (by rw[qe];omega)
 refine⟨pg,by rw[a,qe];omega,dN rfl (st rfl (st (cv rfl) (st (cv rfl) (st (i9 rfl b) rfl))))⟩
noncomputable abbrev bi:=List U7
abbrev M4:=bi×Nat×Nat×Bool
abbrev Ya:=List M4
def aM(x:M4):D:=jR x.1 ((x.2.1:Nat):Int) ((x.2.2.1:Nat):Int) x.2.2.2
structure fX(n:Nat)(x:M4):Prop where
 p:cI x.1
 lo:x.2.1<=x.2.2.1
 hi:x.2.2.1<n
def Sa(h:fX n x):x2 [aM x,.int (n:Nat)]=some (.bl true):=by
 refine dN rfl (eu ?_);have a:=h.lo;have b:=h.hi;refine(Px (x:=.int 0) (y:=.int ((x.2.1:Nat):Int)) (z:=.int ((x.2.2.1:Nat):Int)) (w:=.int (n:Nat)) rfl (aD rfl rfl rfl) tT (λ_=>aD rfl rfl rfl) (λ_=>tT) (λ_ _=>rfl) (λ_ _=>rfl)).trans ?_;rw[qc (show (0:Int)<=((x.2.1:Nat):Int) by omega),qc (show ((x.2.1:Nat):Int)<=((x.2.2.1:Nat):Int) by omega),qc (show ((x.2.2.1:Nat):Int)<((n:Nat):Int) by omega)];rfl
def Sb(hl:ds.length=a)(h:f (bY n ds)=.nx ρ):cE a n f ds=some .non:=by unfold cE;rw[ya hl,h]
def Sc{os:Ya}(h:∀x∈os,fX n x):Bp [.lst (os.map aM),.int (n:Nat)]=some .non:=by
 have c:∀(r:Ya) (a z:Y1),(∀x∈r,fX n x)->∃y,eS (gN 2) (bT (eQ (tE (bH 2 x2 (aC (aA 2) (aC (aA 1) aN))))) rl cr) (r.map aM) [a,sh (.int (n:Nat)),z]=.nx [a,sh (.int (n:Nat)),y]:=by
  intro r
  induction r with
  |nil=>intro a z _;exact⟨z,rfl⟩
  |cons x r i =>
   intro a z f;have⟨y,e⟩:=i a (sh (aM x)) λw g=>f w (ua _ g)
   refine⟨y,?_⟩;rw[ma,<-e];exact fS rfl ((fE (qQ (b:=true) (bP (cX rfl rfl (Sa (f x cc)))))).trans rfl)
 have⟨y,e⟩:=c os (sh (.lst (os.map aM))) none h;exact Sb rfl (i9 rfl e)
def u9(h:cI x.1):kB (aM x):=⟨_,_,_,_,h,rfl⟩
theorem BM{a b:Type}{f:a->b}{ms:List a}:∀(l:List b),(∀d∈l,d∈ms.map f)->∃os:List a,l=os.map f/\∀x∈os,x∈ms
 |[],_=>⟨[],rfl,λx c=>by cases c⟩
 |d::r,h=>by
  have⟨x,i,j⟩:=ub.mp (h d cc);have⟨os,m,n⟩:=BM r λe g=>h e (ua _ g)
  refine⟨x::os,by rw[ma,j,<-m],λy hy=>?_⟩;rcases wc.mp hy with rfl|hy
  ·exact i
  ·exact n y hy
def Sd{ms:Ya}(h:∀x∈ms,cI x.1)(hl:ms.length<=60):∃os:Ya,g8 [.lst [.lst (ms.map aM)]]=some (os.map aM)/\(∀x∈os,x∈ms)/\os.length<=ms.length:=by
 have l:∀d∈[ms.map aM].flatten,kB d:=λd a=>by
  rw[ve,dg,zc]at a;obtain⟨x,i,rfl⟩:=ub.mp a;exact u9 (h x i)
 have b:[ms.map aM].flatten=ms.map aM:=by rw[ve,dg,zc]
 have a:(dd [ms.map aM].flatten).length<=ms.length:=by
  have:=BF (lz [ms.map aM].flatten) λd a=>jy.mp a
  rw[b,aa]at this;rw[b];exact this
 have e:=BG (hs:=[ms.map aM]) l (by rw[b,aa];omega) 'o';have g:=js (eJ l7) (dd [ms.map aM].flatten)
 obtain⟨os,c,j⟩:=BM (f:=aM) (ms:=ms) (iT (eJ l7) (dd [ms.map aM].flatten)) λd a=>by
  have:=jy.mp (g.mem_iff.mp a)
  rw[b]at this;exact this
 refine⟨os,by rw[<-c];exact e,j,?_⟩
 have:=ef length c
 rw[g.length_eq,aa]at this;omega
abbrev sM(l:Ya):Y1:=sh (.lst (l.map aM))
abbrev pD(p:bi):D:=.tup (p.map D.str)
def pK(p:bi):List aQ:=p.map λl=>Sum.inr (S l)
def zY(h:S i=S j):i=j:=GX (show D.str i=D.str j by unfold D.str;rw[h])
theorem pX:∀{p q:bi},pK p=pK q->p=q
 |[],[],_=>rfl
 |a::p,b::q,h=>by
  have h:(Sum.inr (S a):aQ)::pK p=Sum.inr (S b)::pK q:=h;have⟨c,e⟩:=rn h;rw[zY (Sum.inr.inj c),pX e]
 |[],_::_,h=>by cases h
 |_::_,[],h=>by cases h
theorem HS:∀p:bi,oX (p.map D.str)=some (pK p)
 |[]=>rfl
 |a::p=>by
  rw[ma,oX,HS p];rfl
def l8(p:bi):jI (pD p)=some (pK p):=HS p
def Se(h:pD p=pD q):p=q:=by
 have a:=l8 p;rw[h,l8]at a;exact pX (ae a.symm)
def HU(p:bi):gY (pK p)=pD p:=by
 unfold gY pK;rw[md];rfl
theorem rZ{c f:Type}(b:c->f)(p:bi):∀m:List (bi×c),aP (m.map λe=>(pK e.1,b e.2)) (pK p)=(aP m p).map b
 |[]=>rfl
 |a::m=>by
  rw[ma,gF,gF,rZ b p m];by_cases e:a.1=p
  ·rw[ya e,ya (by rw[e])];rfl
  ·rw[ic e,ic (λz=>e (pX z))]
theorem HV{c:Type}(b:c->D):∀m:List (bi×c),(m.map λe=>pK e.1).zip (m.map λe=>b e.2)=m.map λe=>(pK e.1,b e.2)
 |[]=>rfl
 |a::m=>by rw[ma,ma,rg,HV b m,ma]
def HW{b:Type}(a:b->D)(m:List (bi×b))(p:bi):gO (.dt (m.map λe=>pK e.1) (m.map λe=>a e.2)) (pD p)=some ((aP m p).map a):=by
 unfold gO;show (jI (pD p)).map _=_;rw[l8,gh,HV,rZ]
theorem r4{g:Type}:∀{l m:List g},l.Nodup->(∀d∈l,d∈m)->l.length<=m.length
 |[],m,_,_=>ie _
 |x::r,m,h,hs=>by
  have h':=yf.mp h;have⟨c,f,e⟩:=List.append_of_mem (hs x cc)
  have:=r4 (m:=c++f) h'.2 λd b=>by
   have h1:=hs d (ua _ b);rw[e]at h1;have a:d≠x:=λz=>h'.1 (by rw[<-z];exact b)
   simp only[yd,wc]at h1 ⊢;rcases h1 with h1|h1|h1
   ·exact .inl h1
   ·exact absurd h1 a
   ·exact .inr h1
  rw[e];simp at this ⊢;omega
def iX(ms:Ya):List bi:=ms.flatMap λx=>(List.range x.1.length).map λk=>x.1.take (k+1)
def HX(a:x∈ms)(b:1<=k)(c:k<=x.1.length):x.1.take k∈iX ms :=
 ak.mpr ⟨x,a,ub.mpr ⟨k - 1,ug.mpr 'o',by rw[show k - 1+1=k by omega]⟩⟩
def BN(h:∀x∈ms,cI x.1)(f:p∈iX ms):cI p:=by
 have⟨x,c,e⟩:=ak.mp f;obtain⟨k,a,rfl⟩:=ub.mp e;have g:=h x c;have a:=ug.mp a
 have:=g.len
 exact⟨λy b=>g.g y (pj b),by rw[se];omega,by rw[se];omega⟩
theorem yC:∀{ms:Ya},(∀x∈ms,cI x.1)->(iX ms).length<=3 * ms.length
 |[],_=>ie _
 |x::ms,h=>by
  have b:=yC (ms:=ms) λy a=>h y (ua _ a)
  have:=(h x cc).len
  unfold iX at b ⊢;rw[List.flatMap_cons,rc,aa,vj,gc];omega
def Sf(h:∀x∈ms,x∈ns)(c:p∈iX ms):p∈iX ns:=by
 have⟨x,a,b⟩:=ak.mp c;exact ak.mpr ⟨x,h x a,b⟩
def gE(e:bi×Ya):List aQ×U4:=(pK e.1,e.2.map aM)
structure MI(ms:Ya)(N:Nat)(m:List (bi×Ya)):Prop where
 nd:(m.map fst).Nodup
 sub:∀e∈m,e.1∈iX ms
 mm:∀e∈m,∀x∈e.2,x.1=e.1/\x∈ms
 ln:∀e∈m,e.2.length<=N
def MI.len(h:MI ms N m)(c:∀x∈ms,cI x.1):m.length<=3 * ms.length:=by
 have:=r4 h.nd (m:=iX ms) λp a=>by
  obtain⟨e,b,rfl⟩:=ub.mp a;exact h.sub e b
 rw[aa]at this;exact re this (yC c)
def sd(m:List (bi×Ya))(p:bi):List (bi×Ya):=if (aP m p).isSome=true then m else m++[(p,[])]
def HY(m:List (bi×Ya))(p:bi):ky (m.map gE) (pK p)=(sd m p).map gE:=by
 unfold ky sd
 have:aP (m.map gE) (pK p)=(aP m p).map (map aM):=rZ (map aM) p m
 rw[this,tj];split
 ·rfl
 ·rw[jd];rfl
def HZ{a:Type}{m:List (bi×a)}:(aP m p).isSome=true↔p∈m.map fst:=by
 constructor
 ·intro h
  refine aq λz=>?_
  rw[rY z]at h;cases h
 ·intro h
  have⟨v,e⟩:=yw h;rw[e];rfl
theorem MI.sd(h:MI ms N m)(i:p∈iX ms):MI ms N (K43.sd m p)/\p∈(K43.sd m p).map fst:=by
 unfold K43.sd;split
 ·rename_i hs
  exact⟨h,HZ.mp hs⟩
 ·rename_i hs
  have hn:p ∉ m.map fst:=λz=>hs (HZ.mpr z)
  refine⟨⟨?_,λe he=>?_,λe he=>?_,λe he=>?_⟩,'m'⟩
  ·rw[jd]
   exact nodup_append.mpr ⟨h.nd,'m',λ a c b f z=>hn (by
    have:b=p:=by simpa using f
    rw[<-this,<-z];exact c)⟩
  ·rcases yd.mp he with he|he
   ·exact h.sub e he
   ·rw[wd.mp he];exact i
  ·rcases yd.mp he with he|he
   ·exact h.mm e he
   ·rw[wd.mp he];intro x g;cases g
  ·rcases yd.mp he with he|he
   ·exact h.ln e he
   ·rw[wd.mp he];exact ie _
def ap(p:bi)(x:M4):List (bi×Ya)->List (bi×Ya)
 |[]=>[]
 |e::r=>if e.1=p then (e.1,e.2++[x])::r else e::ap p x r
theorem H9(p:bi)(x:M4):∀m:List (bi×Ya),mU (pK p) (aM x) (m.map gE)=(ap p x m).map gE
 |[]=>rfl
 |e::r=>by
  rw[ma,mU,ap];by_cases h:e.1=p
  ·rw[ya h,ya (show (gE e).1=pK p by rw[<-h];rfl),ma]
   refine ef (·::_) ?_;show (pK e.1,e.2.map aM++[aM x])=(pK e.1,(e.2++[x]).map aM);rw[jd];rfl
  ·rw[ic h,ic (show ¬(gE e).1=pK p from λz=>h (pX z)),ma,H9 p x r]
theorem Ia(p:bi)(x:M4):∀m:List (bi×Ya),(ap p x m).map fst=m.map fst
 |[]=>rfl
 |e::r=>by
  rw[ap];split
  ·rfl
  ·rw[ma,ma,Ia p x r]
theorem yD:∀{m:List (bi×Ya)},e∈ap p x m->e∈m\/∃f∈m,f.1=p/\e=(f.1,f.2++[x])
 |[],h=>by cases h
 |f::r,h=>by
  rw[ap]at h
  split at h
  ·rename_i a
   rcases wc.mp h with rfl|h
   ·exact .inr ⟨f,cc,a,rfl⟩
   ·exact .inl (ua _ h)
  ·rcases wc.mp h with rfl|h
   ·exact .inl cc
   ·rcases yD h with h|⟨g,b,c⟩
    ·exact .inl (ua _ h)
    ·exact .inr ⟨g,ua _ b,c⟩
theorem MI.ap(h:MI ms N m)(hx:x∈ms):MI ms (N+1) (K43.ap x.1 x m) where
 nd:=by rw[Ia];exact h.nd
 sub:=λe he=>by
  rcases yD he with he|⟨f,h1,_,rfl⟩
  ·exact h.sub e he
  ·exact h.sub f h1
 mm:=λe he y hy=>by
  rcases yD he with he|⟨f,h1,h2,rfl⟩
  ·exact h.mm e he y hy
  ·rcases yd.mp hy with hy|hy
   ·exact h.mm f h1 y hy
   ·rw[wd.mp hy];exact⟨h2.symm,hx⟩
 ln:=λe he=>by
  rcases yD he with he|⟨f,h1,_,rfl⟩
  ·exact vm (h.ln e he)
  ·have:=h.ln f h1
   show (f.2++[x]).length<=_;rw[rc,yc];omega
def yE{a:D->al->Option al}{gd:GD}{z:al×GD}(b:a d ρ=some ρ1)(c:f ρ1 gd=some z):jQ a f (d::r) ρ gd=jQ a f r z.1 z.2:=by
 rw[jQ,b,cb,c,cb]
def Sg(h:a ρ=some (pD p))(hl:m.length<100000):pG a ρ (m.map gE)=some (ρ,(sd m p).map gE):=by
 unfold pG;rw[h,cb,l8,cb,ya (by rw[aa];exact hl),HY]
def Sh(h:a ρ=some (pD p))(i:b ρ=some (aM x))(hl:m.length<100000)(hn:∀e∈m,e.2.length<100000):ro a b ρ (m.map gE)=some (ρ,(ap p x (sd m p)).map gE):=by
 unfold ro
 have g:(m.map gE).length<100000/\((m.map gE).all λx=>decide (x.2.length<100000))=true:=by
  refine⟨by rw[aa];exact hl,lc.mpr λy c=>?_⟩;obtain⟨e,f,rfl⟩:=ub.mp c;refine qc ?_;show (e.2.map aM).length<_;rw[aa];exact hn e f
 rw[h,cb,l8,cb,i,cb,ya g,w6,HY,H9]
abbrev Ib:al->U5:=dC (au 3) oN (oS (au 4))
theorem Ic(f:∀x∈ms,cI x.1)(hm:ms.length<=60)(g:x∈ms)(a b:Y1):∀(n k:Nat) (m:List (bi×Ya)) (z:Y1),1<=k->k+n<=x.1.length->MI ms N m →
  ∃c y,jQ (gN 4) (pG Ib) (iO ((k:Nat):Int) n) [a,none,b,sh (pD x.1),z] (m.map gE)=some ([a,none,b,sh (pD x.1),y],c.map gE)/\MI ms N c
 |0,k,m,z,_,_,h=>⟨m,z,rfl,h⟩
 |n+1,k,m,z,l,o,h=>by
  have j:=(h.sd (HX g l 'o')).1;obtain⟨c,y,e,i⟩:=Ic f hm g a b n (k+1) (sd m (x.1.take k)) (sh (.int (k:Nat))) 'o' 'o' j;refine⟨c,y,?_,i⟩;rw[GZ,<-e]
  have hs:Ib [a,none,b,sh (pD x.1),sh (.int (k:Nat))]=some (pD (x.1.take k)):=by
   show some (D.tup (gi (x.1.map D.str) none (some ((k:Nat):Int))))=_;rw[Fi,<-map_take]
  have:=h.len f
  exact yE rfl (Sg hs 'o')
def va:GG:=(rp (w9 3 (e2 bq (au 2) (eC (.int 0))))
  (rp (lU (iR nJ (aC (eC (.int 1)) (aC (eN cY (aC (au 3) aN)) aN))) (gN 4) (pG (dC (au 3) oN (oS (au 4)))))
  (ro (au 3) (aA 2))))
theorem Ie(j:∀x∈ms,cI x.1)(hm:ms.length<=60)(a:Y1):∀(os:Ya) (m:List (bi×Ya)) (N:Nat) (n f b:Y1),(∀x∈os,x∈ms)->N+os.length<=1000->MI ms N m →
  ∃g ρ',jQ (gN 2) va (os.map aM) [a,none,n,f,b] (m.map gE)=some (ρ',g.map gE)/\MI ms (N+os.length) g
 |[],m,N,n,f,b,_,_,h=>⟨m,_,rfl,h⟩
 |x::os,m,N,n,f,b,hs,C,h=>by
  rw[gc]at C;have i:=hs x cc;have o:=j x i;have E:=o.len;have gp:=o.pos;obtain⟨c,y,e1,l⟩:=Ic j hm i a (sh (aM x)) (x.1.length - 1) 1 m b (dc _) 'o' h
  have u:x.1∈iX ms:=by
   have:=HX i gp (dc _)
   rwa [List.take_length]at this
  have⟨r,_⟩:=l.sd u;obtain⟨g,ρ',e,s⟩:=Ie j hm a os (ap x.1 x (sd c x.1)) (N+1) (sh (aM x)) (sh (pD x.1)) y (λy p=>hs y (ua _ p)) 'o' (r.ap i);refine⟨g,ρ',?_,by rw[gc,show N+(os.length+1)=N+1+os.length by omega];exact s⟩;rw[ma,<-e];refine yE (ρ1:=[a,none,sh (aM x),f,b]) (z:=([a,none,sh (aM x),sh (pD x.1),y],(ap x.1 x (sd c x.1)).map gE)) rfl ?_;have v:w9 3 (e2 bq (au 2) (eC (.int 0))) [a,none,sh (aM x),f,b] (m.map gE)=some ([a,none,sh (aM x),sh (pD x.1),b],m.map gE):=rfl
  have w:iR nJ (aC (eC (.int 1)) (aC (eN cY (aC (au 3) aN)) aN)) [a,none,sh (aM x),sh (pD x.1),b]=some (iO ((1:Nat):Int) (x.1.length - 1)):=by
   refine wJ (ds:=[.int 1,.int ((x.1.length:Nat):Int)]) (aL rfl (aL (bU rfl ?_) rfl)) ?_
   ·show some (D.int (((x.1.map D.str).length:Nat):Int))=_
    rw[aa]
   ·refine(OV 'd' 'd' 'o' 'o').trans ?_
    rw[show (((x.1.length:Nat):Int) - 1).toNat=x.1.length - 1 by omega];rfl
  have A:lU (iR nJ (aC (eC (.int 1)) (aC (eN cY (aC (au 3) aN)) aN))) (gN 4) (pG (dC (au 3) oN (oS (au 4)))) [a,none,sh (aM x),sh (pD x.1),b] (m.map gE)=some ([a,none,sh (aM x),sh (pD x.1),y],c.map gE):=by
   unfold lU;rw[w,cb];exact e1
  have B:ro (au 3) (aA 2) [a,none,sh (aM x),sh (pD x.1),y] (c.map gE)=some ([a,none,sh (aM x),sh (pD x.1),y],(ap x.1 x (sd c x.1)).map gE):=by
   have:=l.len j
   exact Sh rfl rfl 'o' λe q=>by have:=l.ln e q;omega
  show va _ _=_;unfold va rp;rw[v,cb];dsimp only;rw[A,cb];exact B
def Ig(m:List (bi×Ya)):D:=.dt (m.map λe=>pK e.1) (m.map λe=>.lst (e.2.map aM))
def Si{ms os:Ya}(c:∀x∈ms,cI x.1)(hm:ms.length<=60)(hs:∀x∈os,x∈ms)(hl:os.length<=60):∃m,Bo [.lst (os.map aM)]=some (Ig m)/\MI ms os.length m:=by
 obtain⟨m,ρ',e,h⟩:=Ie c hm (sM os) os [] 0 none none none hs 'o' ⟨ui,(λe a=>nomatch a),(λe a=>nomatch a),(λe a=>nomatch a)⟩;rw[wg]at h;refine⟨m,dN rfl ?_,h⟩;show uD 1 (lU (iE (aA 0)) (gN 2) va) [sM os,none,none,none,none]=_;unfold uD;have b:lU (iE (aA 0)) (gN 2) va [sM os,none,none,none,none] []=some (ρ',m.map gE):=e;simp only[ze,vf];refine(ya rfl).trans ?_;rw[b];dsimp only;rw[md,md];rfl
def vb(h:cI p):iy [pD p]=some (.lst (p.map eA)):=He p h.asc (re h.len 'd')
def Ih{ks:List bi}(v:∀p∈ks,cI p)(y:ks.Nodup)(A:ks.length<64):gW iy (ks.map pD):=by
 have f:∀d∈ks.map pD,∃p,cI p/\d=pD p/\rk iy d=.lst (p.map eA):=λd i=>by
  obtain⟨p,s,rfl⟩:=ub.mp i;exact⟨p,v p s,rfl,jO (vb (v p s))⟩
 refine⟨λd i=>?_,.inl λd i=>?_,λd i e w=>?_,⟨λa j b l c x n o=>?_,λa j b l=>?_,λa j b l h=>?_⟩,?_,by rw[aa];exact⟨.inl A,'o'⟩⟩
 ·obtain⟨p,g,rfl,_⟩:=f d i
  exact⟨_,vb g,Hd p⟩
 ·obtain⟨p,g,rfl,e⟩:=f d i
  rw[e];rfl
 ·obtain⟨p,g,rfl,e1⟩:=f d i
  obtain⟨q,m,rfl,e2⟩:=f e w;rw[e1,e2];exact ly.ok _ _ (iz p) (iz q)
 ·obtain⟨p,g,rfl,e1⟩:=f a j
  obtain⟨q,m,rfl,e2⟩:=f b l;obtain⟨r,B,rfl,u⟩:=f c x;unfold eJ at n o ⊢;rw[e1,e2]at n;rw[e2,u]at o;rw[e1,u];exact ly.tr _ _ _ (iz p) (iz q) (iz r) n o
 ·obtain⟨p,g,rfl,e1⟩:=f a j
  obtain⟨q,m,rfl,e2⟩:=f b l;unfold eJ;rw[e1,e2];rcases ly.tot _ _ (iz p) (iz q) with z|z
  ·exact .inl (by rw[BD g m (D.lst.inj z)])
  ·exact .inr z
 ·obtain⟨p,g,rfl,e1⟩:=f a j
  obtain⟨q,m,rfl,e2⟩:=f b l;unfold eJ at h ⊢;rw[e1,e2]at h;rw[e1,e2];exact ly.as _ _ (iz p) (iz q) h
 ·exact zk.mpr (dq (λ{a b} h e=>h (Se e)) y)
theorem Ii{i o:Type}{f:i->o}{l m:List o}(h:l.Perm m):∀{ks:List i},m=ks.map f->∃ks':List i,l=ks'.map f/\ks'.Perm ks:=by
 induction h with
 |nil =>
  intro ks e
  cases ks with
  |nil=>exact⟨[],rfl,.refl _⟩
  |cons a r=>cases e
 |cons x _ w =>
  intro ks e
  cases ks with
  |nil=>cases e
  |cons a r =>
   have⟨e1,e2⟩:=rn e;have⟨p,c,g⟩:=w e2;exact⟨a::p,by rw[ma,e1,c],g.cons a⟩
 |swap x y l =>
  intro ks e
  match ks,e with
  |[],e=>cases e
  |[a],e=>cases e
  |a::b::r,e =>
   have⟨e1,e2⟩:=rn e;have⟨e2,q⟩:=rn e2;exact⟨b::a::r,by rw[ma,ma,e1,e2,q],wt a b r⟩
 |trans _ _ j n =>
  intro ks e;have⟨k2,c,g⟩:=n e;have⟨s,u,v⟩:=j c;exact⟨s,u,v.trans g⟩
def Sj(c:∀p∈ks,cI p)(e:ks.Nodup)(f:ks.length<64):∃ks':List bi,gX iy (ks.map pD)=some (ks'.map pD)/\ks'.Perm ks:=by
 have⟨ks',a,b⟩:=Ii (js (eJ iy) (ks.map pD)) rfl;refine⟨ks',?_,b⟩;unfold gX;rw[ya (Ih c e f),a]
theorem BO{b:Type}{p:bi}{v:b}:∀{m:List (bi×b)},aP m p=some v->(p,v)∈m
 |[],h=>by cases h
 |a::m,h=>by
  rw[gF]at h
  split at h
  ·rename_i e
   cases h;rw[<-e];exact cc
  ·exact ua _ (BO h)
def cJ(e:bi×List Td):D:=.tup [pD e.1,.lst (e.2.map bB)]
structure fJ(ms:Ya)(E:List (bi×List Td)):Prop where
 nd:(E.map fst).Nodup
 sub:∀e∈E,e.1∈iX ms
 ln:∀e∈E,e.2.length<=62
def Sk(h:a ρ=some d):i7 a ρ=.nx ρ:=by unfold i7;rw[h]
def Sm(bs:Y6)(B:bs.length<=62)(l:∀x∈ms,fX bs.length x)(hm:ms.length<=20)(most first:Int):∃E,lx [.lst (bs.map D.bl),.int most,.int first,.lst (ms.map aM)]=some (.lst (E.map cJ))/\fJ ms E:=by
 have h:∀x∈ms,cI x.1:=λx b=>(l x b).p
 obtain⟨os,e1,n,w⟩:=Sd h 'o';have e2:=Sc (os:=os) λx b=>l x (n x b)
 obtain⟨pg,y,q⟩:=R9 bs 'o' most first
 obtain⟨m,r,M⟩:=Si h 'o' n 'o';have z:=M.len h
 obtain ⟨ks,s,j⟩:=Sj (ks:=m.map fst) (λ p a=>by
  obtain⟨e,f,rfl⟩:=ub.mp a;exact BN h (M.sub e f)) M.nd (by rw[aa];omega)
 have u:=j.length_eq;rw[aa]at u
 have o:∀p∈ks,∃xs,aP m p=some xs/\(p,xs)∈m:=λp a=>by
  have⟨xs,b⟩:=yw (j.mem_iff.mp a);exact⟨xs,b,BO b⟩
 refine⟨ks.map λp=>(p,lA (gG (iA pg (((aP m p).getD []).map (·.2))))),?_,⟨?_,λe f=>?_,λe f=>?_⟩⟩
 ·refine AL rfl (st (cv (fF (oz (aL (bU rfl rfl) rfl) rfl e1))) (st (Sk (cX (ds:=[.lst (os.map aM),.int ((bs.length:Nat):Int)]) (aL rfl (aL (bU rfl ?_) rfl)) rfl e2)) (st (cv (cX rfl rfl q)) (st (cv (cX rfl rfl r)) (eu ?_)))))
  ·show some (D.int (((bs.map D.bl).length:Nat):Int))=_
   rw[aa]
  ·refine(fF (lP (ds:=ks.map pD) (iP (d:=.lst (ks.map pD)) (fF ?_) rfl) (sz (by rw[aa];omega)) (qR pD (λp=>cJ (p,lA (gG (iA pg (((aP m p).getD []).map (·.2)))))) ks λp a=>⟨_,rfl,rfl,?_⟩))).trans ?_
   ·show gX iy ((m.map λe=>pK e.1).map gY)=_
    rw[<-s,md,md];exact ef _ (yg λe _=>HU e.1)
   ·have⟨xs,b,c⟩:=o p a
    rw[b]
    have i:∀k∈xs.map (·.2),k.1<=k.2.1:=λk i=>by
     obtain⟨x,g,rfl⟩:=ub.mp i;exact(l x (M.mm _ c x g).2).lo
    have hs:=RX (pg:=pg) 'o' (pD p) (xs.map (·.2)) i
    have f:(xs.map (·.2)).map (oA (pD p))=xs.map aM:=by
     rw[md];refine yg λx g=>?_
     show oA (pD p) x.2=aM x;unfold oA aM jR;rw[(M.mm _ c x g).1]
    rw[f]at hs;refine bU (ds:=[pD p,.lst ((lA (gG (iA pg (xs.map (·.2))))).map bB)]) (aL rfl (aL (fF (oz (ds:=[.lst (pg.map D.int),.lst (xs.map aM)]) (aL rfl (aL (aD (d:=Ig m) (e:=pD p) rfl rfl ?_) rfl)) rfl hs)) rfl)) rfl;unfold iS
    have:=HW (λxs:Ya=>D.lst (xs.map aM)) m p
    rw[b]at this;show (gO (.dt (m.map λe=>pK e.1) (m.map λe=>D.lst (e.2.map aM))) (pD p)).bind id=_;rw[this];rfl
   ·rw[md];rfl
 ·rw[md]
  have:(ks.map (fst ∘ λp=>(p,lA (gG (iA pg (((aP m p).getD []).map (·.2)))))))=ks:=by
   have:(fst ∘ λp:bi=>(p,lA (gG (iA pg (((aP m p).getD []).map (·.2))))))=id:=rfl
   rw[this,sw]
  rw[this];exact j.nodup_iff.mpr M.nd
 ·obtain⟨p,a,rfl⟩:=ub.mp f
  have⟨xs,_,c⟩:=o p a;exact M.sub _ c
 ·obtain⟨p,a,rfl⟩:=ub.mp f
  have v:=RP (gG (iA pg (((aP m p).getD []).map (·.2))));rw[HM]at v;have A:=(HE pg (((aP m p).getD []).map (·.2))).len;show (lA _).length<=62;omega
abbrev En:=List (bi×List Td)
abbrev sE(l:En):Y1:=sh (.lst (l.map cJ))
def eG(e:bi×List Td):List aQ×U4:=(pK e.1,e.2.map bB)
abbrev Ij:al->U0:=dJ 3 [] (iE (au 3)) (gT 3 (bJ (gN 0) (bJ (gN 1) (bJ (gN 2) dI)))) (λ_=>some true) (eN cM (aC (aA 0) (aC (aA 1) (aC (aA 2) aN))))
def Sn{ts:List Td}(h:au 3 ρ=some (.lst (ts.map bB)))(hl:ts.length<=1000):Ij ρ=some (ts.map bB) :=
 lP (ds:=ts.map bB) (iP h rfl) (sz (by rw[aa];omega)) (qR bB bB ts λt _=>⟨_,rfl,rfl,bU rfl rfl⟩)
def Ik{a:al->U5}{gd:GD}(e:b ρ=some ds)(f:a ρ=some c)(g:jI c=some k)(h:aP gd k=none)(i:gd.length<100000):pI a b ρ gd=some (ρ,gd++[(k,ds)]):=by
 unfold pI;rw[e,cb,f,cb,g,cb,ya ⟨by rw[h];rfl,i⟩]
theorem Il(a:Y1):∀(E dn:En) (b c:Y1),((dn++E).map fst).Nodup->dn.length+E.length<=1000->(∀e∈E,e.2.length<=62)->∃ρ',jQ (gT 2 (bJ (gN 2) (bJ (gN 3) dI))) (pI (bH 1 rN (aC (aA 2) aN)) Ij) (E.map cJ) [a,none,b,c] (dn.map eG)=some (ρ',(dn++E).map eG)
 |[],dn,b,c,_,_,_=>⟨_,by rw[zc];rfl⟩
 |e::E,dn,b,c,hn,hl,hs=>by
  rw[gc]at hl;obtain⟨ρ',g⟩:=Il a E (dn++[e]) (sh (pD e.1)) (sh (.lst (e.2.map bB))) (by rw[yi];exact hn) (by rw[rc,yc];omega) λf h=>hs f (ua _ h)
  refine⟨ρ',?_⟩;rw[yi]at g;rw[ma,<-(show (dn++([e]++E))=dn++e::E from rfl),<-g]
  have i:aP (dn.map eG) (pK e.1)=none:=by
   have j:aP (dn.map eG) (pK e.1)=(aP dn e.1).map (map bB):=rZ (map bB) e.1 dn;rw[j,rY]
   ·rfl
   ·rw[jd]at hn
    intro z;exact(og.mp hn).2.2 e.1 z e.1 'm' rfl
  have l:=hs e cc;refine(yE (ρ1:=[a,none,sh (pD e.1),sh (.lst (e.2.map bB))]) rfl (Ik (Sn (ts:=e.2) rfl 'o') (cX rfl rfl (Hk e.1)) (l8 e.1) i (by rw[aa];omega))).trans ?_;rw[jd];rfl
def Im(h:fJ ms E)(hl:E.length<=100):Bt [.lst (E.map cJ)]=some (E.map eG):=by
 obtain⟨ρ',e⟩:=Il (sE E) E [] none none h.nd (by rw[qe];omega) h.ln;show nV 1 4 1 _ _=_;unfold nV;rw[ya ⟨rfl,rfl,rfl⟩];have a:Br (bY 4 [.lst (E.map cJ)]) []=some (ρ',E.map eG):=e;rw[a];rfl
def mi(E1 E2:En):List bi:=E1.map fst++(E2.map fst).filter λp=>!decide (p∈E1.map fst)
def dE(E:En):D:=.dt (E.map λe=>pK e.1) (E.map λe=>.lst (e.2.map bB))
def Io(E:En):k7 (E.map eG)=dE E:=by unfold k7 dE;rw[md,md];rfl
def Ip{l:List bi}:pK p∈l.map pK↔p∈l:=by
 rw[ub];exact⟨λ⟨q,a,b⟩=>by rw[<-pX b];exact a,λh=>⟨p,h,rfl⟩⟩
def Iq(E:En):(E.map eG).map fst=(E.map fst).map pK:=by rw[md,md];rfl
def So(E1 E2:En):rD (E1.map eG) (E2.map eG)=.lst ((mi E1 E2).map pD):=by
 unfold rD AY mi;rw[Iq,Iq,List.filter_map,jd,jd,md,md (f:=pK) (g:=gY)];have e1:(gY ∘ pK)=pD:=funext λp=>HU p
 have e2:((λk=>!lV k ((E1.map fst).map pK)) ∘ pK)=λp=>!decide (p∈E1.map fst):=funext λp=>by
  show (!lV (pK p) ((E1.map fst).map pK))=_;by_cases h:p∈E1.map fst
  ·rw[qc h,xB (Ip.mpr h)]
  ·rw[be h,xC (λz=>h (Ip.mp z))]
 rw[e1,e2]
 try rw[md,e1]
 try simp only[md,e1]
def vD:Option (List Td)->D
 |none=>.non
 |some ts=>.lst (ts.map bB)
def jT:Option (List Td)->Option (List Td)->Bool
 |none,none=>false
 |none,some _=>true
 |some _,none=>true
 |some s,some t=>!bO (s.map bB) (t.map bB)
def nk(ts:List Td)(n:Nat):bL (n+2) (.lst (ts.map bB))=true:=by
 rw[bL];exact lc.mpr λd a=>by obtain⟨t,_,rfl⟩:=ub.mp a;simp[bB,bL]
theorem Ir:∀a b:Option (List Td),pJ (vD a) (vD b)=some (.bl (jT a b))
 |none,none=>rfl
 |none,some _=>rfl
 |some _,none=>rfl
 |some s,some t=>by
  show bX (.lst (s.map bB)) (.lst (t.map bB))=_;exact nL (pq (by rw[show LV=7+2 from rfl,nk,nk];rfl))
def yF(E:En)(p:bi):ku (dE E) (pD p)=some (vD (aP E p)):=by
 unfold ku dE;rw[HW (λts:List Td=>D.lst (ts.map bB)) E p]
 cases aP E p <;> rfl
def cQ(E1 E2:En)(p:bi):D:=.tup [pD p,vD (aP E1 p),vD (aP E2 p)]
def fY(ks:List bi)(E1 E2:En):U4:=(ks.filter λp=>jT (aP E1 p) (aP E2 p)).map (cQ E1 E2)
def yG(h:d∈fY ks E1 E2):∃p,d=cQ E1 E2 p:=by
 obtain⟨p,_,rfl⟩:=ub.mp h;exact⟨p,rfl⟩
def Iu(E:En):mV (E.map eG)=true:=by
 unfold mV;refine lc.mpr λx a=>?_
 obtain⟨e,_,rfl⟩:=ub.mp a;refine lc.mpr λd b=>?_
 obtain⟨t,_,rfl⟩:=ub.mp b;rfl
theorem Iv(o:Option (List Td)):gZ 3 (vD o)=true:=by
 cases o with
 |none=>rfl
 |some ts =>
  show (ts.map bB).all (gZ 2)=true;refine lc.mpr λd a=>?_
  obtain⟨t,_,rfl⟩:=ub.mp a;rfl
def Sq(p:bi):gZ 3 (pD p)=true:=by
 show (p.map D.str).all (gZ 2)=true;refine lc.mpr λd a=>?_
 obtain⟨t,_,rfl⟩:=ub.mp a;rfl
def Sr(ks:List bi)(E1 E2:En):gZ 5 (.lst (fY ks E1 E2))=true:=by
 show (fY ks E1 E2).all (gZ 4)=true;refine lc.mpr λd a=>?_
 obtain⟨p,rfl⟩:=yG a;show (gZ 3 (pD p) && (gZ 3 (vD (aP E1 p)) && (gZ 3 (vD (aP E2 p)) && true)))=true;rw[Sq,Iv,Iv];rfl
def Ss(c:ρ[io]?=some (sh o))(e:ρ[inn]?=some (sh n))(f:F [o]=some a)(h:F [n]=some b)(i:mV a=true)(j:mV b=true)(l:ia<ρ.length)(m:ib<ρ.length)(p:ip<ρ.length)(q:a.length<=10000)(r:b.length<=10000)(s:g (pL ρ.length ia ib ip (k7 a) (k7 b) (rD a b))=.rt d)(u:gZ 5 d=true):pM ia ib ip io inn F g ρ=.rt d:=by
 unfold pM;rw[c,e];dsimp only;rw[f,h];dsimp only;rw[ya ⟨⟨i,j,l,m⟩,q,r,p⟩,s];dsimp only;rw[ya u]
def Su(a:fJ ms E1)(b:fJ ms E2)(c:E1.length<=100)(e:E2.length<=100)(f:gX iy ((mi E1 E2).map pD)=some (ks.map pD))(g:ks.length<=100):uU [.lst (E1.map cJ),.lst (E2.map cJ)]=some (.lst (fY ks E1 E2)):=by
 refine AL rfl ?_;refine Ss (ρ:=[sE E1,sE E2,none,none,none]) rfl rfl (Im a c) (Im b e) (Iu E1) (Iu E2) (bh rfl) (bh rfl) (bh rfl) (by rw[aa];omega) (by rw[aa];omega) ?_ (Sr ks E1 E2);rw[Io,Io,So];refine eu (ρ:=[none,none,sh (dE E1),sh (dE E2),sh (.lst ((mi E1 E2).map pD))]) (fF (lP (ds:=ks.map pD) (iP (d:=.lst (ks.map pD)) (fF f) rfl) (sz (by rw[aa];omega)) (tS pD (λp=>jT (aP E1 p) (aP E2 p)) (cQ E1 E2) ks λp _=>⟨[sh (pD p),sh (dE E1),sh (dE E2)],rfl,bP (aD (aD rfl rfl (yF E1 p)) (aD rfl rfl (yF E2 p)) (Ir _ _)),λ_=>bU (aL rfl (aL (aD rfl rfl (yF E1 p)) (aL (aD rfl rfl (yF E2 p)) rfl))) rfl⟩)))
def Iw(t:Td):bD (bB t) (bB t)=true:=by
 unfold bB;rw[bD,bO,bO,bO,bO,Au,Au,tU,qc rfl,qc rfl,beq_self_eq_true];rfl
def BP(ts:List Td):bD (.lst (ts.map bB)) (.lst (ts.map bB))=true:=by
 rw[bD];exact oy λd a=>by obtain⟨t,_,rfl⟩:=ub.mp a;exact Iw t
def Iy(p:bi):bD (pD p) (pD p)=true:=by
 rw[bD,Hc,qc rfl]
theorem Iz(o:Option (List Td)):bD (vD o) (vD o)=true:=by
 cases o with
 |none=>show bD (.sc .non) (.sc .non)=true;rw[bD];rfl
 |some ts=>exact BP ts
def Sv(E1 E2:En)(p:bi):bD (cQ E1 E2 p) (cQ E1 E2 p)=true:=by
 unfold cQ;rw[bD,bO,bO,bO,bO,Iy,Iz,Iz];rfl
def Sw(e:bi×List Td):bD (cJ e) (cJ e)=true:=by
 unfold cJ;rw[bD,bO,bO,bO,Iy,BP];rfl
def IA(p:bi)(n:Nat):bL (n+1) (pD p)=true:=by
 rw[bL];exact lc.mpr λd a=>by obtain⟨t,_,rfl⟩:=ub.mp a;rw[bL]
theorem IB(o:Option (List Td))(n:Nat):bL (n+2) (vD o)=true:=by
 cases o with
 |none=>show bL (n+2) (.sc .non)=true;rw[bL]
 |some ts=>exact nk ts n
def Sx(ks:List bi)(E1 E2:En):bL LV (.lst (fY ks E1 E2))=true:=by
 rw[show LV=8+1 from rfl,bL];refine lc.mpr λd a=>?_
 obtain⟨p,rfl⟩:=yG a;unfold cQ;rw[bL,gf,gf,gf,IA,IB _ 5,IB _ 5];rfl
def Sy(E:En):bL LV (.lst (E.map cJ))=true:=by
 rw[show LV=8+1 from rfl,bL];refine lc.mpr λd a=>?_
 obtain⟨e,_,rfl⟩:=ub.mp a;unfold cJ;rw[bL,gf,gf,IA,nk _ 5];rfl
def yH(h:bL LV (.lst l)=true)(a:∀d∈l,bD d d=true):bX (.lst l) (.lst l)=some (.bl false):=by
 have:gz (.lst l) (.lst l)=some true:=by rw[pq (by rw[h];rfl),oy a]
 exact nL this
def IC(ks:List bi)(E1 E2:En):bX (.lst (fY ks E1 E2)) (.lst (fY ks E1 E2))=some (.bl false) :=
 yH (Sx ks E1 E2) λd a=>by obtain⟨p,rfl⟩:=yG a;exact Sv E1 E2 p
def Sz(E:En):bX (.lst (E.map cJ)) (.lst (E.map cJ))=some (.bl false) :=
 yH (Sy E) λd a=>by obtain⟨e,_,rfl⟩:=ub.mp a;exact Sw e
def ID(e:fJ ms E1)(f:fJ ms E2)(b:ks.length<=100):xw (.lst (fY ks E1 E2))=true:=by
 have c:∀{E:En},fJ ms E->∀p,pH (vD (aP E p))=true:=λ{E} g p=>by
  cases h:aP E p with
  |none=>rfl
  |some ts =>
   have:=g.ln _ (BO h)
   show (decide ((ts.map bB).length<=9000) && (ts.map bB).all _)=true;rw[qc (by rw[aa];have:ts.length<=62:=this;omega),am];refine lc.mpr λd a=>?_
   obtain⟨t,_,rfl⟩:=ub.mp a;rfl
 show (decide ((fY ks E1 E2).length<=9000) && (fY ks E1 E2).all xu)=true
 have hl:(fY ks E1 E2).length<=100:=by
  unfold fY;rw[aa];exact re (yh _ _) b
 rw[qc 'o',am];refine lc.mpr λd a=>?_
 obtain⟨p,rfl⟩:=yG a;show (pH (vD (aP E1 p)) && pH (vD (aP E2 p)))=true;rw[c e,c f];rfl
theorem IE(o:Option (List Td)):jT o o=false:=by
 cases o with
 |none=>rfl
 |some ts =>
  show (!bO (ts.map bB) (ts.map bB))=false;rw[oy λd a=>by obtain⟨t,_,rfl⟩:=ub.mp a;exact Iw t];rfl
def SA(ks:List bi)(E:En):fY ks E E=[]:=by
 unfold fY;rw[List.filter_eq_nil_iff.mpr λp _=>by rw[IE];exact bb];rfl
def fJ.len(c:∀x∈ms,cI x.1)(hm:ms.length<=20)(g:fJ ms E):E.length<=100:=by
 have:=r4 g.nd (m:=iX ms) λp a=>by
  obtain⟨e,b,rfl⟩:=ub.mp a;exact g.sub e b
 rw[aa]at this
 have:=yC c
 omega
def fJ.mono(h:∀x∈ms,x∈a)(g:fJ ms E):fJ a E:=⟨g.nd,λe b=>Sf h (g.sub e b),g.ln⟩
noncomputable def lC:Dd->Y6->Y6
 |.put a b,bk=>bk.take a.toNat++[b]++bk.drop a.toNat
 |.cut a,bk=>bk.take a.toNat++bk.drop (a.toNat+1)
def Dd.fit(n:Nat):Dd->Prop
 |.put a _=>0<=a/\a<=(n:Nat)
 |.cut a=>0<=a/\a<(n:Nat)
noncomputable def nn:Dd->Nat->Nat
 |.put _ _,n=>n+1
 |.cut _,n=>n - 1
theorem BQ(h:d.fit bk.length):(lC d bk).length=nn d bk.length:=by
 cases d with
 |put a b =>
  obtain⟨c,e⟩:=h;show (bk.take a.toNat++[b]++bk.drop a.toNat).length=bk.length+1;rw[rc,rc,se,mh,yc];omega
 |cut a =>
  obtain⟨c,e⟩:=h;show (bk.take a.toNat++bk.drop (a.toNat+1)).length=bk.length - 1;rw[rc,se,mh];omega
def IF(bk:Y6)(k:Nat):hX (.lst (bk.map D.bl)) none (some ((k:Nat):Int))=some (.lst ((bk.take k).map D.bl)):=by
 show some (D.lst (gi (bk.map D.bl) none (some ((k:Nat):Int))))=_;rw[wM,Fi]
def IG(bk:Y6)(k:Nat):hX (.lst (bk.map D.bl)) (some ((k:Nat):Int)) none=some (.lst ((bk.drop k).map D.bl)):=by
 show some (D.lst (gi (bk.map D.bl) (some ((k:Nat):Int)) none))=_;rw[wM,OW]
def IH(bk:Y6)(k j:Nat):(bk.take k).length+(bk.drop j).length<=bk.length+bk.length:=by rw[se,mh];omega
theorem II(hl:bk.length<=1000)(c:d.fit bk.length):x3 [.lst (bk.map D.bl),d.d]=some (.lst ((lC d bk).map D.bl)):=by
 cases d with
 |put a b =>
  obtain⟨k,rfl⟩:=cf c.1;have e:=IH bk k k;have e1:e2 bG (dC (au 0) oN (oS (au 2))) (eN dB (aC (e2 bq (au 1) (eC (.int 2))) aN)) [sB bk,sh (Dd.put ((k:Nat):Int) b).d,sh (.int (k:Nat))]=some (.lst ((bk.take k).map D.bl++[.bl b])):=aD (IF bk k) (bU (aL (aD rfl rfl rfl) rfl) rfl) (wO (sz (by rw[aa,yc];omega)));refine(dN rfl (st (cv (aD rfl rfl rfl)) (wH ((mO (bP (aD (aD rfl rfl rfl) rfl rfl))).trans (eu (aD e1 (IG bk k) (wO (sz (by rw[rc,aa,aa,yc];omega)))))))) ).trans ?_;show some _=some (D.lst ((bk.take k++[b]++bk.drop k).map D.bl));rw[jd,jd];rfl
 |cut a =>
  obtain⟨k,rfl⟩:=cf c.1;have e:=IH bk k (k+1);refine(dN rfl (st (cv (aD rfl rfl rfl)) (st ((fE (bP (aD (aD rfl rfl rfl) rfl rfl))).trans rfl) (eu (aD (IF bk k) (IG bk (k+1)) (wO (sz (by rw[aa,aa];omega)))))))).trans ?_;show some _=some (D.lst ((bk.take k++bk.drop (k+1)).map D.bl));rw[jd]
def IJ{g g':D->D->U5}{b c e:al->U5}{a k2:Bool}(f:b ρ=some x)(h:c ρ=some y)(i:g x y=some (.bl a))(j:e ρ=some z)(l:g' y z=some (.bl k2)):qH g g' b c e ρ=some (.bl (a && k2)):=by
 unfold qH;rw[f,h,cb,cb,i,cb];show Option.bind (some a) _=_;rw[cb,j,cb,l]
 cases a <;> rfl
theorem SB{d:Dd}(c:d.fit n):Bq [d.d,.int (n:Nat)]=some (.bl true):=by
 cases d with
 |put a b =>
  refine dN rfl (st (cv (aD rfl rfl rfl)) (eu (m9 (b:=true) (bP (aD (aD rfl rfl rfl) rfl rfl)) (λ_=>?_) λh=>by cases h)));refine(IJ (x:=.int 0) (y:=.int a) (z:=.int (n:Nat)) rfl rfl tT rfl tT).trans ?_;rw[qc c.1,qc c.2];rfl
 |cut a =>
  refine dN rfl (st (cv (aD rfl rfl rfl)) (eu (m9 (b:=false) (bP (aD (aD rfl rfl rfl) rfl rfl)) (λh=>by cases h) λ_=>?_)));refine(IJ (x:=.int 0) (y:=.int a) (z:=.int (n:Nat)) rfl rfl tT rfl wK).trans ?_;rw[qc c.1,qc c.2];rfl
def lD(ms:Ya):Prop:=jS (ms.map aM)=ms.map aM
abbrev gv(ms:Ya):Prop:=∀x∈ms,cI x.1
def lE(h:gv ms):∀d∈ms.map aM,kB d:=λd a=>by
 obtain⟨x,b,rfl⟩:=ub.mp a;exact u9 (h x b)
def IK(a:∀d∈l,kB d)(h:∀d,d∈l↔d∈m):jS m=jS l:=RA yv a h
def BR{hs:List Ya}(b:gv hs.flatten)(hl:hs.flatten.length<=60):g8 [.lst (hs.map λh=>.lst (h.map aM))]=some (jS (hs.flatten.map aM)):=by
 have e1:(hs.map λh=>h.map aM).flatten=hs.flatten.map aM:=by rw[List.map_flatten]
 have e2:(hs.map λh=>D.lst (h.map aM))=(hs.map λh=>h.map aM).map D.lst:=by rw[md];rfl
 have a:=BK (hs.flatten.map aM);rw[aa]at a;rw[e2,BG (by rw[e1];exact lE b) (by rw[e1,aa];omega) (by rw[e1];omega),e1];rfl
def BS(g:gv ms):∃os:Ya,jS (ms.map aM)=os.map aM/\(∀x∈os,x∈ms)/\os.length<=ms.length/\lD os:=by
 have⟨os,a,e⟩:=BM (f:=aM) (ms:=ms) (jS (ms.map aM)) λd c=>HN.mp c
 have b:=R3 (ms.map aM);rw[a,aa,aa]at b;refine⟨os,a,e,b,?_⟩;unfold lD;rw[<-a];exact IK (lE g) λd=>HN.symm
def IL(a:gv ms)(hl:ms.length<=60)(b:lD ms):g8 [.lst [.lst (ms.map aM)]]=some (ms.map aM):=by
 have:=BR (hs:=[ms]) (by rw[ve,dg,zc];exact a) (by rw[ve,dg,zc];exact hl)
 rw[ve,dg,zc,b]at this;exact this
def BT(ms:Ya)(x:M4):[ms,[x]].flatten=ms++[x]:=by simp
def SD(b:gv ms)(c:cI x.1)(hl:ms.length<=50):g8 [.lst [.lst (ms.map aM),.lst [aM x]]]=some (jS ((ms++[x]).map aM)):=by
 have:=BR (hs:=[ms,[x]]) (by
  rw[BT];intro y a;rcases yd.mp a with h|h
  ·exact b y h
  ·rw[wd.mp h];exact c) (by rw[BT,rc,yc];omega)
 rw[BT]at this;exact this
def SE(a:gv ms)(b:x∈ms)(c:lD ms):jS ((ms++[x]).map aM)=ms.map aM:=by
 rw[IK (l:=ms.map aM) (lE a) λd=>?_,c];rw[jd,yd];refine⟨.inl,λh=>h.elim id λz=>?_⟩;rw[ma,vg,wd]at z;rw[z];exact ig b
def jU(x:M4)(ms:Ya):Ya:=ms.filter λy=>!bD (aM y) (aM x)
def IM:∀y∈jU x ms,y∈ms:=λy a=>(dh.mp a).1
def SF(g:gv ms)(h:lD ms):lD (jU x ms):=by
 have m:(ms.map aM).Nodup:=by rw[<-h];exact(js _ _).nodup_iff.mpr (lz _)
 have up:(ms.map aM).Pairwise λa b=>eJ l7 a b=true:=by
  rw[<-h];exact uv (yv.ltT (ks:=dd (ms.map aM)) λd c=>lE g d (jy.mp c)) (λy i=>i) (lz _)
 have f:((jU x ms).map aM).Sublist (ms.map aM):=List.Sublist.map aM qo;have n:∀d∈(jU x ms).map aM,kB d:=λd c=>lE g d (f.subset c)
 have gd:∀d∈dd ((jU x ms).map aM),kB d:=λd c=>n d (jy.mp c)
 have T:=yv.ltT gd;refine(wT T (lz _) ?_ ?_).symm
 ·exact(zo (m.sublist f) (lz _)).mpr λd=>jy.symm
 ·refine xj (λ{a b} j l e=>?_) (up.sublist f)
  exact T.as a (jy.mpr j) b (jy.mpr l) e
def mj(x:M4):jA:=(x.1,(x.2.1:Nat),(x.2.2.1:Nat),x.2.2.2)
def SH(ms:Ya):(ms.map mj).map kC=ms.map aM:=by rw[md];rfl
theorem SI(f:d.fit n)(e:fX n x)(h:lB d (mj x)=some y):∃z:M4,y=mj z/\fX (nn d n) z/\z.1=x.1:=by
 have o:=e.lo;have q:=e.hi
 cases d with
 |put a b =>
  obtain⟨g,i⟩:=f;cases h;refine⟨(x.1,x.2.1+(if a<=((x.2.1:Nat):Int) then 1 else 0),x.2.2.1+(if a<=((x.2.2.1:Nat):Int) then 1 else 0),x.2.2.2),?_,⟨e.p,?_,?_⟩,rfl⟩
  ·unfold mj bz
   dsimp only;by_cases j:a<=((x.2.1:Nat):Int) <;> by_cases l:a<=((x.2.2.1:Nat):Int) <;> simp[j,l]
  ·dsimp only;split <;> split <;> omega
  ·show _<n+1
   dsimp only;split <;> omega
 |cut a =>
  obtain⟨g,i⟩:=f;unfold lB mj at h;dsimp only at h
  split at h
  ·cases h
  ·rename_i m
   cases h;refine⟨(x.1,x.2.1 - (if a<((x.2.1:Nat):Int) then 1 else 0),x.2.2.1 - (if a<=((x.2.2.1:Nat):Int) then 1 else 0),x.2.2.2),?_,⟨e.p,?_,?_⟩,rfl⟩
   ·unfold mj bz
    dsimp only
    have e1:((x.2.1:Nat):Int) - (if decide (a<((x.2.1:Nat):Int))=true then 1 else 0)=((x.2.1 - (if a<((x.2.1:Nat):Int) then 1 else 0):Nat):Int):=by
     by_cases c:a<((x.2.1:Nat):Int) <;> simp[c] <;> omega
    have e2:((x.2.2.1:Nat):Int) - (if decide (a<=((x.2.2.1:Nat):Int))=true then 1 else 0)=((x.2.2.1 - (if a<=((x.2.2.1:Nat):Int) then 1 else 0):Nat):Int):=by
     by_cases c:a<=((x.2.2.1:Nat):Int) <;> simp[c] <;> omega
    rw[e1,e2]
   ·dsimp only;split <;> split <;> omega
   ·show _<n - 1
    dsimp only;split <;> omega
theorem IN(j:d.fit n):∀{ms:Ya},(∀x∈ms,fX n x)->∃a:Ya,iC d (ms.map mj)=a.map aM/\(∀x∈a,fX (nn d n) x/\∃y∈ms,y.1=x.1)/\a.length<=ms.length
 |[],_=>⟨[],rfl,λx l=>(by cases l),dc _⟩
 |x::ms,h=>by
  have⟨a,f,i,m⟩:=IN j (ms:=ms) λy c=>h y (ua _ c)
  have b:∀w∈a,fX (nn d n) w/\∃y∈x::ms,y.1=w.1:=λw hw=>⟨(i w hw).1,let ⟨y,c,e⟩:=(i w hw).2;⟨y,ua _ c,e⟩⟩
  unfold iC at f ⊢;rw[ma]
  cases e:lB d (mj x) with
  |none=>exact⟨a,by rw[lq e];exact f,b,by rw[gc];omega⟩
  |some y =>
   have⟨z,e1,g,e2⟩:=SI j (h x cc) e;refine⟨z::a,by rw[mq e,ma,ma,f,e1];rfl,λw hw=>?_,by rw[gc,gc];omega⟩;rcases wc.mp hw with rfl|hw
   ·exact⟨g,x,cc,e2.symm⟩
   ·exact b w hw
def SJ{d:Dd}(o:d.fit n){ms:Ya}(f:∀x∈ms,fX n x)(hl:ms.length<=20):∃ns:Ya,uT [.lst (ms.map aM),d.d]=some (.lst (ns.map aM))/\(∀x∈ns,fX (nn d n) x/\∃y∈ms,y.1=x.1)/\ns.length<=ms.length/\lD ns:=by
 have⟨ns,g,c,q⟩:=IN o f;have⟨os,h,i,r,j⟩:=BS (ms:=ns) λx a=>(c x a).1.p
 refine⟨os,?_,λx a=>c x (i x a),'o',j⟩;have m:∀x∈ms.map mj,cI x.1:=λx a=>by obtain⟨y,l,rfl⟩:=ub.mp a;exact(f y l).p
 have b:=R6 (d:=d) (ms:=ms.map mj) (by rw[aa];omega);have e:=R7 (d:=d) m (by rw[aa];omega);rw[SH]at b;rw[g]at b e;rw[<-h];exact dN rfl (st (cv b) (eu (fF (oz (aL (bU (aL rfl rfl) rfl) rfl) rfl e))))
noncomputable def IP:Nat->D->Prop|0=>pU|1=>pU|_=>xS
def SK:cP (xX λ_=>l6 IP):=GY λ_=>rM λi=>match i with|0=>rK|1=>rK|_+2=>Bf
def IQ(ts:List Td):xX (λ_=>l6 IP) (.lst (ts.map bB)):=⟨_,rfl,xY λd a=>by
 obtain⟨t,_,rfl⟩:=ub.mp a;exact⟨_,rfl,⟨_,rfl⟩,⟨_,rfl⟩,⟨_,rfl⟩,kg⟩⟩
def SL(h:bB s=bB t):s=t:=by
 obtain⟨a,b,c⟩:=s;obtain⟨x,y,z⟩:=t;unfold bB at h;injection h with h;injection h with e h;injection h with f h;injection h with g h
 cases e;cases f;cases g;rfl
theorem IR:∀{s t:List Td},s.map bB=t.map bB->s=t
 |[],[],_=>rfl
 |[],_::_,h=>by cases h
 |_::_,[],h=>by cases h
 |a::s,b::t,h=>by
  rw[ma,ma]at h;injection h with c e;rw[SL c,IR e]
theorem SM:∀{a b:Option (List Td)},jT a b=false->a=b
 |none,none,_=>rfl
 |none,some _,h=>by cases h
 |some _,none,h=>by cases h
 |some s,some t,h=>by
  have f:bO (s.map bB) (t.map bB)=true:=by
   unfold jT at h;dsimp only at h
   cases e:bO (s.map bB) (t.map bB) with
   |true=>rfl
   |false=>rw[e]at h;cases h
  have g:bD (.lst (s.map bB)) (.lst (t.map bB))=true:=by rw[bD];exact f
  have c:=(SK.eq _ _ (IQ s) (IQ t)).mp g;injection c with c;rw[IR c]
theorem SN:∀a b:Option (List Td),rJ (vD a) (vD b)=some (.bl (!jT a b))
 |none,none=>rfl
 |none,some _=>rfl
 |some _,none=>rfl
 |some s,some t=>by
  show bR (.lst (s.map bB)) (.lst (t.map bB))=some (.bl (!!bO (s.map bB) (t.map bB)));rw[Bool.not_not];exact gj (pq (by rw[show LV=7+2 from rfl,nk,nk];rfl))
section
variable {κ α:Type}[DecidableEq κ]
theorem r9:∀m:List (κ×α),(m.map fst).zip (m.map snd)=m
 |[]=>rfl
 |a::m=>by rw[ma,ma,rg,r9 m]
theorem IS(k b:κ):∀m:List (κ×α),aP (nF m k) b=if b=k then none else aP m b
 |[]=>by split <;> rfl
 |a::m=>by
  have c:=IS k b m;unfold nF at c ⊢;by_cases e:a.1=k
  ·rw[jh (by simp[e]),c,gF]
   by_cases e2:b=k
   ·rw[ya e2,ya e2]
   ·rw[ic e2,ic e2,ic (λz=>e2 (z.symm.trans e))]
  ·rw[kh (by simp[e]),gF,gF,c]
   by_cases e2:a.1=b
   ·rw[ya e2,ya e2,ic (λz=>e (e2.trans z))]
   ·rw[ic e2,ic e2]
theorem BU:∀{m:List (κ×α)},(m.map fst).Nodup->∀e∈m,aP m e.1=some e.2
 |a::m,b,e,he=>by
  rw[ma]at b;have b:=yf.mp b;rw[gF];rcases wc.mp he with rfl|he
  ·rw[ya rfl]
  ·rw[ic (λz=>b.1 (by rw[z];exact ig he))]
   exact BU b.2 e he
def SO{m n:List (κ×D)}(i:(m.map fst).Nodup)(l:(n.map fst).Nodup)(g:∀k,aP m k=aP n k)(s:∀e∈n,bD e.2 e.2=true):wR m n=true:=by
 have c:∀{a b:List (κ×D)},(a.map fst).Nodup->(∀k,aP a k=aP b k)->∀k∈a.map fst,k∈b.map fst:=λ{a b} _ g k j=>by
  have⟨v,e⟩:=yw j;refine aq λz=>?_
  rw[g,rY z]at e;cases e
 have q:=r4 i (c i g);have r:=r4 l (c l λk=>(g k).symm);rw[aa,aa]at q r;unfold wR;rw[show (m.length == n.length)=true from zp.mpr 'o',am];refine lc.mpr λe o=>?_
 have h:=g e.1;rw[BU i e o]at h;rw[<-h];have⟨f,p,j⟩:=ub.mp (c i g e.1 (ig o))
 have:=BU l f p
 rw[j,<-h]at this;injection this with this;show bD e.2 e.2=true;rw[this];exact s f p
end
def eZ(E:En):List (List aQ×D):=E.map λe=>(pK e.1,D.lst (e.2.map bB))
def BV(E:En):(eZ E).map fst=(E.map fst).map pK:=by unfold eZ;rw[md,md];rfl
def IT(h:(E.map fst).Nodup):((eZ E).map fst).Nodup:=by
 rw[BV];exact zk.mpr (dq (λ{a b} h e=>h (pX e)) h)
def su(E:En)(p:bi):aP (eZ E) (pK p)=(aP E p).map λts=>D.lst (ts.map bB):=rZ (λts:List Td=>D.lst (ts.map bB)) p E
def SQ(E:En)(p:bi):(aP (eZ E) (pK p)).getD .non=vD (aP E p):=by
 rw[su];cases aP E p <;> rfl
def IU(E:En):∀e∈eZ E,bL LV e.2=true:=λe a=>by
 obtain⟨x,_,rfl⟩:=ub.mp a;exact nk x.2 7
def SR(E:En):D.dt ((E.map eG).map fst) (lp (E.map eG))=.dt ((eZ E).map fst) ((eZ E).map snd):=by
 unfold lp eZ;rw[md,md,md,md];rfl
def SS(E:En):Sl.dt ((E.map eG).map fst) (lp (E.map eG))=.dt ((eZ E).map fst) ((eZ E).map snd):=by
 unfold lp eZ;rw[md,md,md,md];rfl
theorem IV(a:Y1):∀(E dn:En) (b c:Y1),((dn++E).map fst).Nodup->dn.length+E.length<=1000->∃ρ',jQ (gT 2 (bJ (gN 2) (bJ (gN 3) dI))) (pI (au 2) (wN gQ (aC (au 3) aN))) (E.map cJ) [a,none,b,c] (dn.map eG)=some (ρ',(dn++E).map eG)
 |[],dn,b,c,_,_=>⟨_,by rw[zc];rfl⟩
 |e::E,dn,b,c,hn,hl=>by
  rw[gc]at hl;obtain⟨ρ',f⟩:=IV a E (dn++[e]) (sh (pD e.1)) (sh (.lst (e.2.map bB))) (by rw[yi];exact hn) (by rw[rc,yc];omega);refine⟨ρ',?_⟩;rw[yi]at f;rw[ma,<-(show (dn++([e]++E))=dn++e::E from rfl),<-f]
  have g:aP (dn.map eG) (pK e.1)=none:=by
   have h:aP (dn.map eG) (pK e.1)=(aP dn e.1).map (map bB):=rZ (map bB) e.1 dn;rw[h,rY]
   ·rfl
   ·rw[jd]at hn
    intro z;exact(og.mp hn).2.2 e.1 z e.1 'm' rfl
  refine(yE (ρ1:=[a,none,sh (pD e.1),sh (.lst (e.2.map bB))]) rfl (Ik (ds:=e.2.map bB) rfl rfl (l8 e.1) g (by rw[aa];omega))).trans ?_;rw[jd];rfl
def IW(h:fJ ms E)(hl:E.length<=100):uX [.lst (E.map cJ)]=some (E.map eG):=by
 obtain⟨ρ',e⟩:=IV (sE E) E [] none none h.nd (by rw[qe];omega);show nV 1 4 1 _ _=_;unfold nV;rw[ya ⟨rfl,rfl,rfl⟩];have a:Bx (bY 4 [.lst (E.map cJ)]) []=some (ρ',E.map eG):=e;rw[a];rfl
abbrev nr(m:List (List aQ×D)):Y1:=some (.dt (m.map fst) (m.map snd))
def ST(m:List (List aQ×D))(p:bi):ku (.dt (m.map fst) (m.map snd)) (pD p)=some ((aP m (pK p)).getD .non):=by
 unfold ku gO;dsimp only;rw[l8,r9];rfl
def SU(o:Option (List Td)):kt (vD o)=o.isNone:=by cases o <;> rfl
def IX:al->aO:=(aY (bT (c8 (eQ (tE (e1 (qM "tuple") (au 4)))) (c8 (tE (e2 bX (eN cY (aC (au 4) aN)) (eC (.int 3)))) (c8 (tE (e2 rJ (e2 bq (au 4) (eC (.int 1))) (e2 bq (au 4) (eC (.int 2))))) (tE (e2 pJ (e2 ku (au 3) (e2 bq (au 4) (eC (.int 0)))) (e2 bq (au 4) (eC (.int 1)))))))) (bI (eC (.bl false))) cr)
  (bT (tE (e2 o9 (e2 bq (au 4) (eC (.int 2))) (eC .non))) (uL 3 (e2 bq (au 4) (eC (.int 0)))) (nO 3 (e2 bq (au 4) (eC (.int 0))) (eN nI (aC (e2 bq (au 4) (eC (.int 2))) aN)))))
structure DI(m:List (List aQ×D)):Prop where
 nd:(m.map fst).Nodup
 dk:∀e∈m,bL LV e.2=true
theorem SV(a b c:Y1)(hn:jT (aP E1 p) (aP E2 p)=true)(i:aP m (pK p)=aP (eZ E1) (pK p))(hm:DI m)(hl:m.length<=1000):∃g,IX [a,b,c,nr m,sh (cQ E1 E2 p),none]=.nx [a,b,c,nr g,sh (cQ E1 E2 p),none]/\DI g/\g.length<=m.length+1/\∀k,aP g k=if k=pK p then aP (eZ E2) k else aP m k:=by
 have q:c8 (eQ (tE (e1 (qM "tuple") (au 4)))) (c8 (tE (e2 bX (eN cY (aC (au 4) aN)) (eC (.int 3)))) (c8 (tE (e2 rJ (e2 bq (au 4) (eC (.int 1))) (e2 bq (au 4) (eC (.int 2))))) (tE (e2 pJ (e2 ku (au 3) (e2 bq (au 4) (eC (.int 0)))) (e2 bq (au 4) (eC (.int 1))))))) [a,b,c,nr m,sh (cQ E1 E2 p),none]=some false:=by
  refine tQ (qQ (b:=true) (bP rfl)) (tQ (bP (aD (bU rfl rfl) rfl (nL (b:=true) rfl))) (tQ (bP ?_) (bP ?_)))
  ·refine(aD (aD rfl rfl rfl) (aD rfl rfl rfl) (SN (aP E1 p) (aP E2 p))).trans ?_
   rw[hn];rfl
  ·refine(aD (aD (d:=.dt (m.map fst) (m.map snd)) (e:=pD p) rfl (aD rfl rfl rfl) (ST m p)) (aD rfl rfl rfl) ?_)
   rw[i,SQ];exact(Ir _ _).trans (by rw[IE])
 cases e:aP E2 p with
 |none =>
  refine⟨nF m (pK p),st ((fE q).trans rfl) ((mO (bP (aD (aD rfl rfl rfl) rfl (by show some (D.bl (kt (vD (aP E2 p))))=_;rw[e];rfl)))).trans ?_),⟨?_,λx hx=>hm.dk x (dh.mp hx).1⟩,?_,λk=>?_⟩
  ·have l:(aP m (pK p)).isSome=true:=by
    rw[i,su];rw[e]at hn
    cases e1:aP E1 p with
    |none=>rw[e1]at hn;cases hn
    |some ts=>rfl
   have hz:=r9 m;unfold uL;show (match ((e2 bq (au 4) (eC (.int 0)) [a,b,c,nr m,sh (cQ E1 E2 p),none]).bind jI) with|some k=>_|none=>_)=_;rw[show (e2 bq (au 4) (eC (.int 0)) [a,b,c,nr m,sh (cQ E1 E2 p),none]).bind jI=some (pK p) from l8 p];dsimp only;rw[hz,ya l];rfl
  ·exact hm.nd.sublist (List.Sublist.map _ qo)
  ·have:(nF m (pK p)).length<=m.length:=yh _ _
   omega
  ·rw[IS]
   by_cases f:k=pK p
   ·rw[ya f,ya f,f,su,e];rfl
   ·rw[ic f,ic f]
 |some ts =>
  refine⟨fO m (pK p) (.lst (ts.map bB)),st ((fE q).trans rfl) ((fE (bP (aD (aD rfl rfl rfl) rfl (by show some (D.bl (kt (vD (aP E2 p))))=_;rw[e];rfl)))).trans ?_),⟨?_,λx hx=>?_⟩,?_,λk=>?_⟩
  ·refine HB (d:=.lst (ts.map bB)) (k:=pD p) rfl (bU (ds:=[vD (aP E2 p)]) (aL (aD rfl rfl rfl) rfl) (by rw[e];rfl)) (aD rfl rfl rfl) ?_
   unfold pu;dsimp only;rw[l8,cb,ya (by rw[aa];exact kW 'o'),r9]
  ·rw[yB]
   split
   ·exact hm.nd
   ·rename_i j
    exact og.mpr ⟨hm.nd,'m',λx hx y h z=>j (by rw[<-wd.mp h,<-z];exact hx)⟩
  ·unfold fO at hx
   split at hx
   ·obtain⟨y,h,rfl⟩:=ub.mp hx
    split
    ·exact nk ts 7
    ·exact hm.dk y h
   ·rcases yd.mp hx with hx|hx
    ·exact hm.dk x hx
    ·rw[wd.mp hx];exact nk ts 7
  ·have:=ef length (yB m (pK p) (D.lst (ts.map bB)))
   rw[aa]at this;rw[this];split
   ·rw[aa];omega
   ·rw[rc,aa,yc];omega
  ·rw[RF]
   by_cases f:k=pK p
   ·rw[ya f,ya f,f,su,e];rfl
   ·rw[ic f,ic f]
open Classical in
theorem IY(a b c:Y1):∀(r:List bi) (m:List (List aQ×D)) (z:Y1),r.Nodup->(∀p∈r,jT (aP E1 p) (aP E2 p)=true/\aP m (pK p)=aP (eZ E1) (pK p))->DI m->m.length+r.length<=1000->∃j x,eS (gN 4) IX (r.map (cQ E1 E2)) [a,b,c,nr m,z,none]=.nx [a,b,c,nr j,x,none]/\DI j/\∀k,aP j k=if k∈r.map pK then aP (eZ E2) k else aP m k
 |[],m,z,_,_,hm,_=>⟨m,z,rfl,hm,λk=>by rw[vg,ic 'm']⟩
 |p::r,m,z,e,h,hm,hl=>by
  rw[gc]at hl;have e:=yf.mp e;obtain⟨n,e1,o,y,l⟩:=SV (E1:=E1) (E2:=E2) a b c (h p cc).1 (h p cc).2 hm 'o'
  obtain ⟨s,u,e2,v,w⟩:=IY (E1:=E1) (E2:=E2) a b c r n (sh (cQ E1 E2 p)) e.2 (λ q i=>⟨(h q (List.mem_cons_of_mem _ i)).1,by
   rw[l,ic (λz=>e.1 (by rw[<-pX z];exact i))];exact(h q (ua _ i)).2⟩) o 'o'
  refine⟨s,u,?_,v,λk=>?_⟩
  ·rw[ma,<-e2]
   exact fS rfl e1
  ·rw[w,l,ma]
   by_cases f:k∈r.map pK
   ·rw[ya f,ya (ua _ f)]
   ·rw[ic f]
    by_cases g:k=pK p
    ·rw[ya g,ya (by rw[g];exact cc)]
    ·rw[ic g,ic (λz=>(wc.mp z).elim g f)]
def IZ(m:∀x∈ms,cI x.1)(hm:ms.length<=20)(o:fJ ms E1)(r:fJ ms E2):∃ks:List bi,gX iy ((mi E1 E2).map pD)=some (ks.map pD)/\ks.length<=62/\ks.Perm (mi E1 E2)/\ks.Nodup/\(∀p∈ks,cI p)/\ks.Pairwise λp q=>b9 (.lst (p.map eA)) (.lst (q.map eA))=true:=by
 have hs:∀p∈mi E1 E2,p∈iX ms:=λp c=>by
  rcases yd.mp c with h|h
  ·obtain⟨e,g,rfl⟩:=ub.mp h;exact o.sub e g
  ·obtain⟨e,g,rfl⟩:=ub.mp (dh.mp h).1;exact r.sub e g
 have i:(mi E1 E2).Nodup:=nodup_append.mpr ⟨o.nd,r.nd.filter _,λ a s b u z=>by
  have:=(dh.mp u).2
  rw[<-z,qc s]at this
  cases this⟩
 have l:=r4 i hs;have A:=yC m;have kok:=Ih (λp c=>BN m (hs p c)) i 'o';have⟨ks,n,f⟩:=Ii (js (eJ iy) ((mi E1 E2).map pD)) rfl;have up:=uv kok.lt (λy v=>v) kok.nd;rw[n]at up;have j:∀p∈ks,cI p:=λp c=>BN m (hs p (f.mem_iff.mp c))
 refine⟨ks,by unfold gX;rw[ya kok,n],by have:=f.length_eq;omega,f,f.nodup_iff.mpr i,j,?_⟩;refine xj (λ{p q} c w h=>?_) (zk.mp up);unfold eJ at h;rw[jO (vb (j p c)),jO (vb (j q w))]at h;exact h
abbrev jV(p:bi):D:=.lst (p.map eA)
def SW{ks:List bi}(m:∀p∈ks,cI p)(u:ks.Nodup)(v:ks.length<64):gW uO (ks.map jV):=by
 have l:∀d∈ks.map jV,∃p,cI p/\d=jV p:=λd f=>by
  obtain⟨p,s,rfl⟩:=ub.mp f;exact⟨p,m p s,rfl⟩
 have g:∀d∈ks.map jV,yt d:=λd f=>by obtain⟨p,_,rfl⟩:=l d f;exact iz p
 refine⟨λd f=>?_,.inl λd f=>?_,λd f e n=>ly.ok _ _ (g d f) (g e n),⟨λa i b j c o q r=>ly.tr _ _ _ (g a i) (g b j) (g c o) q r,λa i b j=>ly.tot _ _ (g a i) (g b j),λa i b j h=>ly.as _ _ (g a i) (g b j) h⟩,?_,by rw[aa];exact⟨.inl v,'o'⟩⟩
 ·obtain⟨p,_,rfl⟩:=l d f
  exact⟨_,rfl,Hd p⟩
 ·obtain⟨p,_,rfl⟩:=l d f
  rfl
 ·exact zk.mpr (xj (λ{a b} i j h e=>h (BD (m a i) (m b j) (D.lst.inj e))) u)
def SX{ks:List bi}(b:∀p∈ks,cI p)(c:ks.Nodup)(e:ks.length<64)(up:ks.Pairwise λp q=>b9 (jV p) (jV q)=true)(h:f ρ=some (.lst (ks.map jV))):xR f ρ=some (ks.map jV):=by
 have K:=SW b c e;unfold xR;rw[h,cb];dsimp only;rw[ya (lc.mpr λd a=>by obtain⟨p,_,rfl⟩:=ub.mp a;rfl)];unfold gX;rw[ya K,<-wT K.lt K.nd (uh _) ?_];exact zk.mpr (dq (λ{p q} h=>ly.as _ _ (iz p) (iz q) h) up)
def SY(ks:List bi):bR (.lst (ks.map jV)) (.lst (ks.map jV))=some (.bl true):=by
 have dk:bL LV (.lst (ks.map jV))=true:=by
  rw[show LV=8+1 from rfl,bL];refine lc.mpr λd a=>?_
  obtain⟨p,_,rfl⟩:=ub.mp a;show (p.map eA).all (bL 7)=true;refine lc.mpr λd a=>?_
  obtain⟨l,_,rfl⟩:=ub.mp a;rfl
 refine gj ((pq (by rw[dk];rfl)).trans ?_);rw[oy λd a=>?_];obtain⟨p,_,rfl⟩:=ub.mp a;exact(ly.eq _ _ (iz p) (iz p)).mpr rfl
def SZ{a:Nat}{ds:U4}{gd:GD}(c:b ρ=some ds)(e:ds.length=a)(f:F ds=some gd):xQ a F b ρ=some (.dt (gd.map fst) (lp gd)):=by unfold xQ;rw[c,cb,ya e,f];rfl
def I9(u:fJ ms E1)(v:fJ ms E2)(w:E1.length<=100)(M:E2.length<=100)(y:ks.Perm (mi E1 E2))(r:ks.length<=62)(A:ks.Nodup)(B:∀p∈ks,cI p)(up:ks.Pairwise λp q=>b9 (.lst (p.map eA)) (.lst (q.map eA))=true):rO [.lst (fY ks E1 E2),.lst (E1.map cJ),.lst (E2.map cJ)]=some (.bl true):=by
 generalize j:(ks.filter λp=>jT (aP E1 p) (aP E2 p))=fs;have h:fs.Sublist ks:=by rw[<-j];exact qo
 have fl:fs.length<=62:=re h.length_le r;have G:fY ks E1 E2=fs.map (cQ E1 E2):=by unfold fY;rw[j]
 rw[G];have o:∀p∈fs,jT (aP E1 p) (aP E2 p)=true:=λp c=>by rw[<-j]at c;exact(dh.mp c).2
 have N:(eZ E1).length<=100:=by unfold eZ;rw[aa];exact w
 obtain⟨m,z,e1,s,F⟩:=IY (E1:=E1) (E2:=E2) (sh (.lst (fs.map (cQ E1 E2)))) (sE E1) (sE E2) fs (eZ E1) none (A.sublist h) (λp c=>⟨o p c,rfl⟩) ⟨IT u.nd,IU E1⟩ 'o'
 have H:∀k,aP m k=aP (eZ E2) k:=λk=>by
  rw[F];split
  ·rfl
  ·rename_i E
   by_cases g:k∈ks.map pK
   ·obtain⟨p,c,rfl⟩:=ub.mp g
    rw[su,su,SM (a:=aP E1 p) (b:=aP E2 p)]
    cases e:jT (aP E1 p) (aP E2 p) with
    |false=>rfl
    |true=>exact absurd (ig (f:=pK) (show p∈fs by rw[<-j];exact dh.mpr ⟨c,e⟩)) E
   ·have I:k ∉ (eZ E1).map fst:=λz=>by
     rw[BV]at z;obtain⟨p,c,rfl⟩:=ub.mp z;exact g (ig (y.mem_iff.mpr (yd.mpr (.inl c))))
    have J:k ∉ (eZ E2).map fst:=λz=>by
     rw[BV]at z;obtain⟨p,c,rfl⟩:=ub.mp z;refine g (ig (y.mem_iff.mpr (yd.mpr ?_)));by_cases i:p∈E1.map fst
     ·exact .inl i
     ·exact .inr (dh.mpr ⟨c,by rw[be i];rfl⟩)
    rw[rY I,rY J]
 have K:eL (dJ 1 [] (iE (au 0)) (gN 0) (λ_=>some true) (bH 1 iy (aC (e2 bq (au 0) (eC (.int 0))) aN))) [sh (.lst (fs.map (cQ E1 E2))),sE E1,sE E2,nr m,z,none]=some (.lst (fs.map jV)) :=
  fF (lP (ds:=fs.map (cQ E1 E2)) (iP rfl rfl) (sz (by rw[aa];omega)) (qR (cQ E1 E2) jV fs λp c=>⟨[sh (cQ E1 E2 p)],rfl,rfl,cX (ds:=[pD p]) (aL (aD rfl rfl rfl) rfl) rfl (vb (B p (h.subset c)))⟩))
 have i:uM (.dt (m.map fst) (m.map snd)) (.dt ((E2.map eG).map fst) (lp (E2.map eG)))=some (.bl true):=by
  rw[SR];unfold uM;dsimp only;rw[r9,r9,ya ?_,SO s.nd (IT v.nd) H λe C=>?_]
  ·obtain⟨x,_,rfl⟩:=ub.mp C
   exact BP x.2
  ·rw[uc]
   exact⟨lc.mpr λd l=>(by obtain⟨x,n,rfl⟩:=ub.mp l;exact s.dk x n),lc.mpr λd l=>(by obtain⟨x,n,rfl⟩:=ub.mp l;exact IU E2 x n)⟩
 have L:uN 3 1 uX (aC (aA 1) aN) [sh (.lst (fs.map (cQ E1 E2))),sE E1,sE E2,none,none,none]=.nx [sh (.lst (fs.map (cQ E1 E2))),sE E1,sE E2,nr (eZ E1),none,none]:=by
  unfold uN;show (if [D.lst (E1.map cJ)].length=1 then _ else _)=_;rw[ya (show [D.lst (E1.map cJ)].length=1 from rfl),IW u w];dsimp only;rw[SS];rfl
 exact dN rfl (st ((fE (qQ (b:=true) (bP rfl))).trans rfl) (st L (st (i9 (iP rfl rfl) e1) (st (cv K) (eu (Ap (tR (bP (aD rfl (fF (SX (λp c=>B p (h.subset c)) (A.sublist h) 'o' (up.sublist h) rfl)) (SY fs))) (bP (aD rfl (SZ rfl rfl (IW v M)) i)))))))))
def Ja(h:au 4 ρ=some (vD o)):eH (tE (e2 o9 (au 4) (eC .non))) (eC .non) (eN nI (aC (au 4) aN)) ρ=some (vD o):=by
 refine m9 (b:=o.isNone) (bP ((aD h rfl rfl).trans (by show some (D.bl (kt (vD o)))=_;rw[SU]))) (λhn=>?_) λhn=>?_
 ·cases o with
  |none=>rfl
  |some _=>cases hn
 ·cases o with
  |none=>cases hn
  |some ts=>exact bU (aL h rfl) rfl
def Jb:al->aO:=(aY (ir 3 (iq aN))
  (aY (ek (iE (dC (au 2) (oS (eC (.int 1))) oN)) (gN 4) (eR 3 (eH (tE (e2 o9 (au 4) (eC .non))) (eC .non) (eN nI (aC (au 4) aN)))))
  (eR 1 (eN cM (aC (e2 bq (au 2) (eC (.int 0))) (aC (e2 bq (au 3) (eC (.int 0))) (aC (e2 bq (au 3) (eC (.int 1))) aN)))))))
def S0(E1 E2:En)(p:bi)(a:Y1)(b:U4)(e c:Y1)(hl:b.length<=1000):∃f g,Jb [a,some (.ow b),sh (cQ E1 E2 p),e,c]=.nx [a,some (.ow (b++[cQ E1 E2 p])),sh (cQ E1 E2 p),f,g]:=by
 refine⟨_,_,st (ρ':=[a,some (.ow b),sh (cQ E1 E2 p),some (.ow []),c]) rfl (st (ρ':=[a,some (.ow b),sh (cQ E1 E2 p),some (.ow [vD (aP E1 p),vD (aP E2 p)]),sh (vD (aP E2 p))]) (i9 (ds:=[vD (aP E1 p),vD (aP E2 p)]) rfl ?_) (m5 (ds:=b) (d:=cQ E1 E2 p) rfl (bU (aL (aD rfl rfl rfl) (aL (aD rfl rfl rfl) (aL (aD rfl rfl rfl) rfl))) rfl) 'o'))⟩;refine(fS (ρ1:=[a,some (.ow b),sh (cQ E1 E2 p),some (.ow []),sh (vD (aP E1 p))]) rfl (m5 (ds:=[]) rfl (Ja rfl) 'm')).trans ?_;exact(fS (ρ1:=[a,some (.ow b),sh (cQ E1 E2 p),some (.ow [vD (aP E1 p)]),sh (vD (aP E2 p))]) rfl (m5 (ds:=[vD (aP E1 p)]) rfl (Ja rfl) 'm')).trans rfl
theorem Jc(E1 E2:En)(a:Y1):∀(r:List bi) (b:U4) (i c f:Y1),b.length+r.length<=1000->∃n g h,eS (gN 2) Jb (r.map (cQ E1 E2)) [a,some (.ow b),i,c,f]=.nx [a,some (.ow (b++r.map (cQ E1 E2))),n,g,h]
 |[],b,i,c,f,_=>⟨_,_,_,by rw[vg,zc];rfl⟩
 |p::r,b,i,c,f,hl=>by
  rw[gc]at hl;obtain⟨g,h,e⟩:=S0 E1 E2 p a b c f 'o';obtain⟨j,l,m,e2⟩:=Jc E1 E2 a r (b++[cQ E1 E2 p]) (sh (cQ E1 E2 p)) g h (by rw[rc,yc];omega);refine⟨j,l,m,?_⟩;rw[yi]at e2;rw[ma,<-(show (b++([cQ E1 E2 p]++r.map (cQ E1 E2)))=b++cQ E1 E2 p::r.map (cQ E1 E2) from rfl),<-e2];exact fS rfl e
def Jd(a:ks.length<=100):uY [.lst (fY ks E1 E2)]=some (.lst (fY ks E1 E2)):=by
 unfold fY;generalize b:(ks.filter λp=>jT (aP E1 p) (aP E2 p))=fs;have fl:fs.length<=100:=by rw[<-b];exact re (yh _ _) a
 obtain⟨c,f,g,e⟩:=Jc E1 E2 (sh (.lst (fs.map (cQ E1 E2)))) fs [] none none none (by rw[qe];omega);exact dN rfl (st rfl (st (i9 (iP rfl rfl) e) rfl))
def S1(n y:Int):∃hs,x6 [.int n,.int y]=some (.tup (hs.map D.str))/\cI hs:=by
 have hn:∃q:Nat,bq (.lst [.int 1,.int 1,.int 2,.int 1,.int 2,.int 3]) (.int (n % 6))=some (.int (q:Nat))/\1<=q/\q<=3:=by
  have:n % 6=0\/n % 6=1\/n % 6=2\/n % 6=3\/n % 6=4\/n % 6=5:=by omega
  rcases this with h|h|h|h|h|h <;> rw[h]
  ·exact⟨1,rfl,'o','o'⟩
  ·exact⟨1,rfl,'o','o'⟩
  ·exact⟨2,rfl,'o','o'⟩
  ·exact⟨1,rfl,'o','o'⟩
  ·exact⟨2,rfl,'o','o'⟩
  ·exact⟨3,rfl,'o','o'⟩
 obtain⟨q,f,i,l⟩:=hn
 have a:∀j:Nat,0<=n / (7+5 * (j:Int)) % 6/\n / (7+5 * (j:Int)) % 6<1000:=λj=>by
  have m:=uf (n / (7+5 * (j:Int))) (show (6:Int)≠0 by decide);have o:=jf (n / (7+5 * (j:Int))) (show (0:Int)<6 by decide);omega
 refine⟨(List.range q).map λj:Nat=>ox y (n / (7+5 * (j:Int)) % 6),?_,⟨λh e=>?_,by rw[aa,vj];omega,by rw[aa,vj];omega⟩⟩
 ·have b:∀j:Nat,j<q->bH 2 uV (aC (aA 2) (aC (e2 bM (e2 cV (au 1) (e2 bG (eC (.int 7)) (e2 gA (eC (.int 5)) (au 0)))) (eC (.int 6))) aN)) [sh (.int (j:Nat)),sI n,sI y]=some (.str (ox y (n / (7+5 * (j:Int)) % 6))):=λj c =>
   cX (ds:=[.int y,.int (n / (7+5 * (j:Int)) % 6)]) (aL rfl (aL (aD (aD rfl (aD rfl (aD rfl rfl (nM (OQ ⟨'d','d'⟩))) gR) (fG (show 0<7+5 * (j:Int)/\7+5 * (j:Int)<1073741824 by omega))) rfl (cO 'd')) rfl)) rfl (Rr _ _ (a j).1 (a j).2)
  have g:eL (dJ 1 [0,1] (iR mJ (aC (au 2) aN)) (gN 0) (λ_=>some true) (bH 2 uV (aC (aA 2) (aC (e2 bM (e2 cV (au 1) (e2 bG (eC (.int 7)) (e2 gA (eC (.int 5)) (au 0)))) (eC (.int 6))) aN)))) [sI n,sI y,sh (.int (q:Nat))]=some (.lst (((List.range q).map λj:Nat=>ox y (n / (7+5 * (j:Int)) % 6)).map D.str)):=by
   refine(fF (lP (wJ (ds:=[.int (q:Nat)]) rfl (Fh (n:=q) rfl 'o')) (sz (by rw[aa,vj];omega)) (qR (λk:Nat=>D.int ((k:Nat):Int)) (λj:Nat=>D.str (ox y (n / (7+5 * (j:Int)) % 6))) (List.range q) λj c=>⟨_,rfl,rfl,b j (ug.mp c)⟩))).trans ?_;rw[md];rfl
  exact dN rfl (st (cv (aD rfl (aD rfl rfl (cO 'd')) f)) (eu (bU (aL g rfl) rfl)))
 ·obtain⟨j,_,rfl⟩:=ub.mp e
  exact Rs _ _ (a j).1 (a j).2
def S2(z w x:Int)(hz:0<=z)(a:0<=w):∃p,0<=p/\bq (.lst [.int 0,.int 0,.int 1,.int 2,.int z,.int w]) (.int (x % 6))=some (.int p):=by
 have:x % 6=0\/x % 6=1\/x % 6=2\/x % 6=3\/x % 6=4\/x % 6=5:=by omega
 rcases this with h|h|h|h|h|h <;> rw[h]
 ·exact⟨0,'d',rfl⟩
 ·exact⟨0,'d',rfl⟩
 ·exact⟨1,'d',rfl⟩
 ·exact⟨2,'d',rfl⟩
 ·exact⟨z,hz,rfl⟩
 ·exact⟨w,a,rfl⟩
def BW:al->aO:=(aY (bK 5 (e2 bM (e2 gA (au 4) (eC (.int 1583458089))) (eC (.int 2147483647))))
  (bT (tE (e2 i5 (au 1) (eC (.int 0)))) (aY (bK 6 (e2 bM (e2 cV (au 5) (eC (.int 11))) (au 1)))
  (aY (bK 7 (eN tL (aC (e2 mH (au 1) (eC (.int 1))) (aC (e2 bG (au 6) (e2 bq (eN dB (aC (eC (.int 0)) (aC (eC (.int 0)) (aC (eC (.int 1)) (aC (eC (.int 2)) (aC (e2 bM (e2 cV (au 5) (eC (.int 55))) (eC (.int 30))) (aC (aA 1) aN))))))) (e2 bM (e2 cV (au 5) (eC (.int 13))) (eC (.int 6))))) aN))))
  (eR 3 (eN cM (aC (bH 2 x6 (aC (aA 5) (aC (aA 2) aN))) (aC (aA 6) (aC (aA 7) (aC (e2 bR (e2 bM (e2 cV (au 5) (eC (.int 17))) (eC (.int 3))) (eC (.int 0))) aN)))))))) cr))
def Je(y c:Int)(hn:0<n):∃x:M4,fX n x/\∀(a:Y1) (b:U4) (j l m:Y1),b.length<=1000->∃z A B,BW [a,sh (.int (n:Nat)),sI y,some (.ow b),sI c,j,l,m]=.nx [a,sh (.int (n:Nat)),sI y,some (.ow (b++[aM x])),sI c,z,A,B]:=by
 generalize o:c * 1583458089 % 2147483647=k;have C:0<=k:=by rw[<-o];exact uf _ 'd'
 have⟨hs,q,gp⟩:=S1 k y;have v:=uf (k / 11) (show ((n:Nat):Int)≠0 by omega);have E:=jf (k / 11) (show (0:Int)<((n:Nat):Int) by omega);have⟨g,h⟩:=cf v;obtain⟨p,p0,r⟩:=S2 (k / 55 % 30) ((n:Nat):Int) (k / 13) (uf _ 'd') 'o'
 have w:∃f:Nat,(if ((g:Nat):Int)+p<((n:Nat):Int) - 1 then ((g:Nat):Int)+p else ((n:Nat):Int) - 1)=(f:Nat)/\g<=f/\f<n:=by
  split
  ·obtain⟨f,e⟩:=cf (show 0<=((g:Nat):Int)+p by omega)
   exact⟨f,e,'o','o'⟩
  ·exact⟨n - 1,'o','o','o'⟩
 obtain⟨f,i,s,u⟩:=w;refine⟨(hs,g,f,decide (k / 17 % 3=0)),⟨gp,s,u⟩,λa b j l m hl=>?_⟩;refine⟨_,_,_,st (cv (d:=.int k) (aD (aD rfl rfl (nM (pe ⟨'d','d'⟩))) rfl ((cO 'd').trans (by rw[o])))) ((mO (bP ((aD rfl rfl pk).trans (by rw[qc (show (0:Int)<((n:Nat):Int) by omega)])))).trans (st (cv (d:=.int ((g:Nat):Int)) (aD (aD rfl rfl (fG 'd')) rfl ((cO 'o').trans (by rw[h])))) (st (cv (d:=.int ((f:Nat):Int)) (bU (ds:=[.int (((n:Nat):Int) - 1),.int (((g:Nat):Int)+p)]) (aL (aD rfl rfl Fg) (aL (aD rfl (aD (bU (aL rfl (aL rfl (aL rfl (aL rfl (aL (aD (aD rfl rfl (fG 'd')) rfl (cO 'd')) (aL rfl rfl)))))) rfl) (aD (aD rfl rfl (fG 'd')) rfl (cO 'd')) r) gR) rfl)) (Re.trans (by rw[i])))) ((m5 (ds:=b) (d:=aM (hs,g,f,decide (k / 17 % 3=0))) rfl (bU (aL (cX rfl rfl q) (aL rfl (aL rfl (aL (aD (aD (aD rfl rfl (fG 'd')) rfl (cO 'd')) rfl (gj gS)) rfl)))) rfl) 'o').trans rfl))))⟩
def S3(y c:Int)(a:Y1)(b:U4)(g e f:Y1):∃h,BW [a,sh (.int 0),sI y,some (.ow b),sI c,g,e,f]=.nx [a,sh (.int 0),sI y,some (.ow b),sI c,h,e,f] :=
 ⟨_,st (cv (aD (aD rfl rfl (nM (pe ⟨'d','d'⟩))) rfl (cO 'd'))) ((fE (bP ((aD rfl rfl pk).trans (by rw[be (show ¬(0:Int)<0 by decide)])))).trans rfl)⟩
theorem BX(y:Int)(n:Nat)(a:Y1):∀(r:Y7) (ms:Ya) (i g b f:Y1),ms.length+r.length<=1000->(∀x∈ms,fX n x)->∃(ms':Ya) (C h l m:Y1),eS (gN 4) BW (r.map D.int) [a,sh (.int (n:Nat)),sI y,some (.ow (ms.map aM)),i,g,b,f]=.nx [a,sh (.int (n:Nat)),sI y,some (.ow (ms'.map aM)),C,h,l,m]/\(∀x∈ms',fX n x)/\ms'.length<=ms.length+r.length
 |[],ms,i,g,b,f,_,j=>⟨ms,i,g,b,f,rfl,j,dc _⟩
 |c::r,ms,i,g,b,f,hl,j=>by
  rw[gc]at hl;by_cases hn:0<n
  ·have⟨x,A,B⟩:=Je y c hn
   obtain⟨h,l,m,e⟩:=B a (ms.map aM) g b f (by rw[aa];omega)
   obtain⟨ms',o,p,q,s,u,v,w⟩:=BX y n a r (ms++[x]) (sI c) h l m (by rw[rc,yc];omega) λz hz=>by
    rcases yd.mp hz with hz|hz
    ·exact j z hz
    ·rw[wd.mp hz];exact A
   refine⟨ms',o,p,q,s,?_,v,by rw[rc,yc]at w;rw[gc];omega⟩;rw[ma,<-u];refine fS rfl (e.trans ?_);rw[jd];rfl
  ·have hz:n=0:=by omega
   subst hz;have⟨h,e⟩:=S3 y c a (ms.map aM) g b f;obtain⟨ms',o,p,q,s,u,v,w⟩:=BX y 0 a r ms (sI c) h b f 'o' j;refine⟨ms',o,p,q,s,?_,v,by rw[gc];omega⟩;rw[ma,<-u];exact fS rfl e
def S5(a:Y7)(hl:a.length<=900)(n:Nat)(y:Int):∃ms:Ya,uW [.lst (a.map D.int),.int (n:Nat),.int y]=some (.lst (ms.map aM))/\(∀x∈ms,fX n x)/\ms.length<=a.length:=by
 obtain⟨ms,g,h,i,j,e,f,b⟩:=BX y n (sN a) a [] none none none none (by rw[qe];omega) λx c=>by cases c
 rw[qe,wg]at b;exact⟨ms,dN rfl (st rfl (st (i9 rfl e) rfl)),f,b⟩
def S6(x z:Int)(b:Bool):bq (.lst [.int x,.int z]) (.int (if b then 1 else 0))=some (.int (if b then z else x)):=by cases b <;> rfl
def S7(x z k:Int):∃f,bq (.lst [.int x,.int z]) (.int (k % 2))=some (.int f):=by
 rcases(show k % 2=0\/k % 2=1 by omega) with h|h <;> rw[h]
 ·exact⟨x,rfl⟩
 ·exact⟨z,rfl⟩
def S8(y:Int):∃m f:Int,Bv [.int y]=some (.tup [.int m,.int f]):=by
 have⟨f,a⟩:=S7 (y / 28 % 12) (y * 982451653 % (10 ^ 60 - 2000)) (y / 7);refine⟨_,f,dN rfl (st (cv (aD (bU (aL (aD rfl (aD rfl rfl (cO 'd')) gR) (aL (aD rfl (aD (aD rfl rfl (nM (pe ⟨'d','d'⟩))) (aD rfl rfl Ry) (cO 'd')) gR) rfl)) rfl) (bU (aL (aD (aD (aD rfl rfl (fG 'd')) rfl (cO 'd')) rfl (gj gS)) rfl) (OS _)) (S6 _ _ _))) (eu (bU (aL rfl (aL (aD (bU (aL (aD (aD rfl rfl (fG 'd')) rfl (cO 'd')) (aL (aD (aD rfl rfl (nM (pe ⟨'d','d'⟩))) (aD (aD rfl rfl Hh) rfl Fg) (cO 'd')) rfl)) rfl) (aD (aD rfl rfl (fG 'd')) rfl (cO 'd')) a) rfl)) rfl)))⟩
def S9(a:Y7)(hl:a.length<=900):Bu [.lst (a.map D.int)]=some (.lst ((a.map λc=>decide (c % 6=1)).map D.bl)):=by
 refine dN rfl (eu ((fF (lP (ds:=a.map D.int) rfl (sz (by rw[aa];omega)) (qR D.int (λc=>D.bl (decide (c % 6=1))) a λc _=>⟨_,rfl,rfl,aD (aD rfl rfl (cO 'd')) rfl (gj gS)⟩))).trans ?_));rw[md];rfl
def Ta(a:ρ[i]?=some none)(h:f ρ=some d)(b:g d ρ=o):uA i f g ρ=o:=by
 unfold uA;rw[a];dsimp only;rw[h];exact b
def Jf(h:a (ρ.set i (sh d))=some false)(c:g d ρ=o):nT i a b g d ρ=o:=by
 unfold nT;rw[h];exact c
def Tb(h:xw d=true)(a:g ρ=o):rz g d ρ=o:=by
 unfold rz;rw[ya h];exact a
theorem Tc(n:Int)(m:Nat):∃d:Dd,Bw [.int n,.int (m:Nat)]=some d.d/\d.fit m:=by
 have q:c8 (tE (e2 bR (e2 bM (au 0) (eC (.int 2))) (eC (.int 0)))) (tE (e2 bR (au 1) (eC (.int 0)))) [sI n,sh (.int (m:Nat))]=some (decide (n % 2=0) || decide (((m:Nat):Int)=0)):=Bd (bP (aD (aD rfl rfl (cO 'd')) rfl (gj gS))) λ_=>bP (aD rfl rfl (gj gS))
 cases e:(decide (n % 2=0) || decide (((m:Nat):Int)=0)) with
 |true =>
  rw[e]at q;have a:=uf (n / 2) (show ((m:Nat):Int)+1≠0 by omega);have b:=jf (n / 2) (show 0<((m:Nat):Int)+1 by omega);exact⟨.put _ _,dN rfl (wH ((mO q).trans (eu (bU (aL rfl (aL (aD (aD rfl rfl (fG 'd')) (aD rfl rfl gR) (cO 'o')) (aL (aD (aD (aD rfl rfl (fG 'd')) rfl (cO 'd')) rfl (gj gS)) rfl))) rfl)))),a,'o'⟩
 |false =>
  rw[e]at q
  have hm:0<((m:Nat):Int):=by
   rw[ot,sq,sq]at e;omega
  have a:=uf (n / 2) (show ((m:Nat):Int)≠0 by omega);have b:=jf (n / 2) hm;exact⟨.cut _,dN rfl (st ((fE q).trans rfl) (eu (bU (aL rfl (aL (aD (aD rfl rfl (fG 'd')) rfl (cO hm)) rfl)) rfl))),a,b⟩
def Te(c y:Int)(hn:0<n):∃x:M4,fX n x/\uW [.lst [.int c],.int (n:Nat),.int y]=some (.lst [aM x]):=by
 have⟨x,a,b⟩:=Je y c hn;obtain⟨f,g,h,e⟩:=b (sh (.lst [.int c])) [] none none none 'm';exact⟨x,a,dN rfl (st rfl (st (i9 rfl ((fS rfl e).trans rfl)) rfl))⟩
noncomputable abbrev KS:U8:=["book","most","first","marks","known"]
abbrev KV(bs:Y6)(a fi:Int)(ms:Ya)(E:En):U4:=[.lst (bs.map D.bl),.int a,.int fi,.lst (ms.map aM),.lst (E.map cJ)]
abbrev KF(bs:Y6)(a fi:Int)(ms:Ya)(E:En):Fl:=(KS,KV bs a fi ms E)
def BY:KS.length<900:=by decide
def BZ:KS.contains ("go_on" : Str)=false:=by decide
section
variable {a:D}
def sv:dU "book" (.er n KS [a,b,c,d,e])=some a:=by rfl
def Jg:dU "most" (.er n KS [a,b,c,d,e])=some b:=by rfl
def Jh:dU "first" (.er n KS [a,b,c,d,e])=some c:=by rfl
def sy:dU "marks" (.er n KS [a,b,c,d,e])=some d:=by rfl
def Tf:dU "known" (.er n KS [a,b,c,d,e])=some e:=by rfl
def Tg:pf "known" e (pf "marks" d (pf "first" c (pf "most" b (pf "book" a ([],[])))))=(KS,[a,b,c,d,e]):=by rfl
end
def kE(h:a ρ=.nx ρ')(b:g ρ'=z):lh a g ρ=z:=by unfold lh;rw[h];exact b
def vl(h:a ρ=some true)(b:f ρ=z):lZ a f g ρ=z:=by unfold lZ;rw[h];exact b
def oC(h:a ρ=some false)(b:g ρ=z):lZ a f g ρ=z:=by unfold lZ;rw[h];exact b
def nv(h:ρ[j]?=some (bS p0 fl))(hm:fl.1.contains m=false)(b:a ρ=some ds)(c:F fl ds=some z):g7 j m F a ρ=some (z.2,ρ.set j (bS p0 z.1)):=by
 unfold g7;rw[h];dsimp only;rw[ic (by rw[hm];exact bb),b,cb,c];rfl
def Th(h:ρ[i]?=some none)(b:a ρ=some d)(c:g d ρ=z):uG i a g ρ=z:=by unfold uG;rw[h];dsimp only;rw[b];exact c
def B0(a:i≠j)(h:ρ[j]?=some (bS p0 fl))(c:b ρ=some x)(hl:fl.1.length<900)(e:g d (ρ.set j (bS p0 (pf f x fl)))=z):pR i j f b g d ρ=z:=by
 unfold pR xH;rw[ya a,h];dsimp only;rw[c];dsimp only;rw[ya hl];exact e
def B1(E:En):pN (.lst (E.map cJ))=true:=lc.mpr λd a=>by
 obtain⟨e,_,rfl⟩:=ub.mp a;rfl
def yI{E:En}(h:f ρ=some (.lst (E.map cJ))):k8 f ρ=some (.lst (E.map cJ)):=by
 unfold k8;rw[h,cb,ya (B1 E)]
def Ti(e:lx [.lst (bs'.map D.bl),.int a,.int b,.lst (ms'.map aM)]=some (.lst (c.map cJ)))(f:uU [.lst (E.map cJ),.lst (c.map cJ)]=some d):rP (KF bs a b ms E) [.lst (bs'.map D.bl),.lst (ms'.map aM)]=some (KF bs' a b ms' c,d) :=
 mX λp=>mW (ρ':=[bS (some p) (KF bs' a b ms' c),sB bs',sM ms',sE c,none])
  (kE (cv (yI (cX (aL rfl (aL (fI rfl Jg) (aL (fI rfl Jh) (aL rfl rfl)))) rfl e)))
   (Th rfl (cX (aL (fI rfl Tf) (aL rfl rfl)) rfl f)
    (B0 (fl:=KF bs a b ms E) 'd' rfl rfl BY (B0 (fl:=KF bs' a b ms E) 'd' rfl rfl BY (B0 (fl:=KF bs' a b ms' E) 'd' rfl rfl BY rfl))))) rfl
structure Kp(bs:Y6)(mo fi:Int)(ms pool:Ya)(E:En):Prop where
 gk:∀x∈ms,fX bs.length x
 ml:ms.length<=pool.length
 pou:lD ms
 en:lx [.lst (bs.map D.bl),.int mo,.int fi,.lst (ms.map aM)]=some (.lst (E.map cJ))
 ge:fJ pool E
 gp:gv pool
 pa:∀x∈ms,∃y∈pool,y.1=x.1
def Kp.gps(K:Kp bs b c ms pool E):gv ms:=λx a=>(K.gk x a).p
def Tj(h:∀x∈ms,∃y∈ns,y.1=x.1)(f:p∈iX ms):p∈iX ns:=by
 have⟨x,a,b⟩:=ak.mp f;have⟨y,c,e⟩:=h x a;exact ak.mpr ⟨y,c,by rw[e];exact b⟩
structure iY(E E':En)(d:D):Prop where
 ld:rO [d,.lst (E.map cJ),.lst (E'.map cJ)]=some (.bl true)
 cp:uY [d]=some d
 sp:xw d=true
 ne:bX d d=some (.bl false)
def Tk(gp:gv pool)(pl:pool.length<=20)(a:fJ pool E)(b:fJ pool c):∃d,uU [.lst (E.map cJ),.lst (c.map cJ)]=some d/\iY E c d:=by
 have⟨ks,g,h,i,j,l,m⟩:=IZ gp pl a b;have e:=a.len gp pl;have f:=b.len gp pl;exact⟨_,Su a b e f g 'o',I9 a b e f i h j l m,Jd 'o',ID a b 'o',IC ks E c⟩
def Tl(gp:gv pool)(pl:pool.length<=20)(e:fJ pool E):iY E E (.lst []):=by
 have⟨ks,m,g,h,i,j,l⟩:=IZ gp pl e e;have f:=e.len gp pl;have a:=I9 e e f f h g i j l;have b:=Jd (ks:=ks) (E1:=E) (E2:=E) 'o';have c:=ID (ks:=ks) e e 'o';have d:=IC ks E E;rw[SA]at a b c d;exact⟨a,b,c,d⟩
def made(b c:Int)(i:bs.length<=62)(f:∀x∈ms,fX bs.length x)(j:ms.length<=pool.length)(pl:pool.length<=20)(a:lD ms)(gp:gv pool)(g:∀x∈ms,∃y∈pool,y.1=x.1):∃E,Kp bs b c ms pool E:=by
 obtain⟨E,e1,G⟩:=Sm bs i f 'o' b c;exact⟨E,f,j,a,e1,⟨G.nd,λe h=>Tj g (G.sub e h),G.ln⟩,gp,g⟩
def B2(K:Kp bs b c ms pool E)(i:bs'.length<=62)(j:∀x∈ms',fX bs'.length x)(l:ms'.length<=pool'.length)(pl:pool'.length<=20)(f:lD ms')(gp:gv pool')(m:∀x∈ms',∃y∈pool',y.1=x.1)(ps:∀x∈pool,x∈pool'):∃a d,Kp bs' b c ms' pool' a/\rP (KF bs b c ms E) [.lst (bs'.map D.bl),.lst (ms'.map aM)]=some (KF bs' b c ms' a,d)/\iY E a d:=by
 have⟨a,e⟩:=made b c i j l pl f gp m;have⟨d,g,h⟩:=Tk gp pl (K.ge.mono ps) e.ge;exact⟨a,d,e,Ti e.en g,h⟩
def Ji(K:Kp bs f g ms pool E)(pl:pool.length<=20)(i:d.fit bs.length)(u:bs.length<=61):∃ms' c t,Kp (lC d bs) f g ms' pool c/\iY E c t/\rQ (KF bs f g ms E) [d.d]=some (KF (lC d bs) f g ms' c,t)/\uT [.lst (ms.map aM),d.d]=some (.lst (ms'.map aM)):=by
 obtain⟨j,l,m,s,n⟩:=SJ i K.gk (by have:=K.ml;omega);have hl:=BQ i
 have hn:nn d bs.length<=bs.length+1:=by
  cases d with
  |put a b=>exact dc _
  |cut a=>show bs.length - 1<=_;omega
 obtain ⟨c,t,o,q,T⟩:=B2 K (bs':=lC d bs) (ms':=j) 'o' (λ x h=>by rw[hl];exact (m x h).1) (by have:=K.ml;omega) pl n K.gp (λ x h=>by
  have⟨y,r,e⟩:=(m x h).2;have⟨z,hz,e2⟩:=K.pa y r;exact⟨z,hz,e2.trans e⟩) λx h=>h
 refine⟨j,c,t,o,T,?_,l⟩;refine mX λp=>mW (ρ':=[bS (some p) (KF (lC d bs) f g j c),sh d.d]) ?_ rfl
 refine kE ((fE (qQ (b:=true) (bP (cX (ds:=[d.d,.int ((bs.length:Nat):Int)]) (aL rfl (aL (bU (aL (fI rfl sv) rfl) (by show some (D.int (((bs.map D.bl).length:Nat):Int))=_;rw[aa])) rfl)) rfl (SB i))))).trans rfl) ?_;exact nv (p0:=some p) (fl:=KF bs f g ms E) rfl BZ (aL (cX (aL (fI rfl sv) (aL rfl rfl)) rfl (II 'o' i)) (aL (cX (aL (fI rfl sy) (aL rfl rfl)) rfl l) rfl)) q
def Tm(c:cI x.1)(e:cI y.1):bX (aM x) (aM y)=some (.bl (!bD (aM x) (aM y))):=by
 refine nL ((OX ?_).trans ?_)
 ·rw[show LV=6+3 from rfl]
  have a:=pW.dk (aM x) (u9 c) 6;have b:=pW.dk (aM y) (u9 e) 6;unfold aM jR at a b;rw[a,b];rfl
 ·unfold aM jR;rw[bD]
def Jj(c:gv ms)(e:cI x.1)(hl:ms.length<=60)(f:a ρ=some (ms.map aM))(g:i6 1 cap ρ=[none,sh (aM x)]):eL (dJ 1 cap a (gN 0) (tE (e2 bX (au 0) (au 1))) (aA 0)) ρ=some (.lst ((jU x ms).map aM)):=by
 refine fF (lP f (sz (by rw[aa];omega)) ?_);rw[g];exact tS aM (λy=>!bD (aM y) (aM x)) aM ms λy b=>⟨_,rfl,bP (aD rfl rfl (Tm (c y b) e)),λ_=>rfl⟩
def Tn(K:Kp bs b c ms pool E)(pl:pool.length<=20)(f:x∈ms)(i:bs.length<=62):∃a t,Kp bs b c (jU x ms) pool a/\iY E a t/\By (KF bs b c ms E) [aM x]=some (KF bs b c (jU x ms) a,t):=by
 have j:=K.ml;have l:(jU x ms).length<=ms.length:=yh _ _;obtain⟨a,t,g,h,T⟩:=B2 K (bs':=bs) (ms':=jU x ms) i (λy e=>K.gk y (IM y e)) 'o' pl (SF K.gps K.pou) K.gp (λy e=>K.pa y (IM y e)) λy e=>e
 refine⟨a,t,g,T,?_⟩;refine mX λp=>mW (ρ':=[bS (some p) (KF bs b c (jU x ms) a),sh (aM x)]) ?_ rfl
 refine kE ((fE (bP (aD rfl (fI rfl sy) (pW.notin (u9 (K.gps x f)) (lE K.gps) (ig f))))).trans rfl) ?_;exact nv (p0:=some p) (fl:=KF bs b c ms E) rfl BZ (aL (fI rfl sv) (aL (Jj K.gps (K.gps x f) 'o' (iP (fI rfl sy) rfl) rfl) rfl)) h
def Jk(K:Kp bs c f ms pool E)(pl:pool.length<=19)(g:fX bs.length x)(s:bs.length<=62):∃ms' b t,Kp bs c f ms' (pool++[x]) b/\iY E b t/\x8 (KF bs c f ms E) [aM x]=some (KF bs c f ms' b,t)/\g8 [.lst [.lst (ms.map aM),.lst [aM x]]]=some (ms'.map aM)/\(x∈ms->ms'.map aM=ms.map aM):=by
 have u:=K.ml;have i:=SD K.gps g.p 'o'
 have j:gv (ms++[x]):=λy a=>by
  rcases yd.mp a with h|h
  ·exact K.gps y h
  ·rw[wd.mp h];exact g.p
 have⟨os,l,m,n,o⟩:=BS j;rw[rc,yc]at n;rw[l]at i
 obtain ⟨b,t,q,r,T⟩:=B2 K (bs':=bs) (ms':=os) (pool':=pool++[x]) s (λ y a=>by
  rcases yd.mp (m y a) with h|h
  ·exact K.gk y h
  ·rw[wd.mp h];exact g) (by rw[rc,yc];omega) (by rw[rc,yc];omega) o (λy a=>by
  rcases yd.mp a with h|h
  ·exact K.gp y h
  ·rw[wd.mp h];exact g.p) (λy a=>by
  rcases yd.mp (m y a) with h|h
  ·have⟨z,hz,e⟩:=K.pa y h
   exact⟨z,yd.mpr (.inl hz),e⟩
  ·exact⟨x,'m',by rw[wd.mp h]⟩) λy a=>yd.mpr (.inl a)
 refine⟨os,b,t,q,T,?_,i,λhm=>by rw[<-l];exact SE K.gps hm K.pou⟩;refine mX λp=>mW (ρ':=[bS (some p) (KF bs c f os b),sh (aM x)]) ?_ rfl
 exact nv (p0:=some p) (fl:=KF bs c f ms E) rfl BZ (aL (fI rfl sv) (aL (fF (oz (aL (bU (aL (fI rfl sy) (aL (bU rfl rfl) rfl)) rfl) rfl) rfl i)) rfl)) r
def vr(h:f ρ=some (t,ρ'))(g:a ρ'=some c)(i:b ρ'=some e):n7 f a b ρ=some ((t,c,e),ρ'):=by
 unfold n7;rw[h,cb,g,cb,i];rfl
def Jl(bs:Y6):bL LV (.lst (bs.map D.bl))=true:=by
 rw[show LV=8+1 from rfl,bL];exact lc.mpr λd a=>by obtain⟨b,_,rfl⟩:=ub.mp a;rfl
def tU(b:Bool):bD (.bl b) (.bl b)=true:=by cases b <;> rfl
def To(bs:Y6):bX (.lst (bs.map D.bl)) (.lst (bs.map D.bl))=some (.bl false):=yH (Jl bs) λd a=>by obtain⟨b,_,rfl⟩:=ub.mp a;exact tU b
def Tp(a:gv ms):bX (.lst (ms.map aM)) (.lst (ms.map aM))=some (.bl false):=nL (b:=true) (pW.eql (lE a))
theorem Tq(bs:Y6):bR (.lst (bs.map D.bl)) (.lst [])=some (.bl (decide (bs=[]))):=by
 refine gj ((pq (by rw[Jl];rfl)).trans ?_)
 cases bs with
 |nil=>rfl
 |cons b r=>rw[ma,be 'm'];simp[bO]
theorem Tr(a:gv ms):bX (.lst (ms.map aM)) (.lst [])=some (.bl (decide (ms≠[]))):=by
 refine(nL (pq (by rw[show LV=5+4 from rfl,pW.dkl (lE a)];rfl))).trans ?_
 cases ms with
 |nil=>simp[bO]
 |cons b r=>rw[ma,qc 'm'];simp[bO]
def B3(bs:Y6):cY [.lst (bs.map D.bl)]=some (.int ((bs.length:Nat):Int)):=by
 show some (D.int (((bs.map D.bl).length:Nat):Int))=_;rw[aa]
def Ts(ms:Ya):cY [.lst (ms.map aM)]=some (.int ((ms.length:Nat):Int)):=by
 show some (D.int (((ms.map aM).length:Nat):Int))=_;rw[aa]
def Jm:KS.contains ("do" : Str)=false:=by decide
def Tt:KS.contains ("take_out" : Str)=false:=by decide
def Jn:KS.contains ("put_in" : Str)=false:=by decide
def Tu(K:Kp bs e f ms pool E)(pl:pool.length<=18)(O:bs.length<=60)(n y:Int):∃bs' ms' pool' g t,Kp bs' e f ms' pool' g/\iY E g t/\bs'.length<=bs.length+1/\pool'.length<=pool.length+1/\uZ (KF bs e f ms E) [.int n,.lst (bs.map D.bl),.lst (ms.map aM),.int y]=some (KF bs' e f ms' g,(t,.lst (bs'.map D.bl),.lst (ms'.map aM))):=by
 have N:=K.ml;by_cases G:n % 5<3
 ·have⟨d,e1,s⟩:=Tc (n / 5) bs.length
  obtain⟨ms',g,t,j,T,e2,o⟩:=Ji K 'o' s 'o';have hl:=BQ s
  have hn:nn d bs.length<=bs.length+1:=by
   cases d with
   |put a b=>exact dc _
   |cut a=>show bs.length - 1<=_;omega
  refine⟨lC d bs,ms',pool,g,t,j,T,'o','o',mX λp=>mW (ρ':=[bS (some p) (KF (lC d bs) e f ms' g),sI n,sB bs,sM ms,sI y,sh (.int (n % 5)),sh d.d,none]) ?_ rfl⟩;refine kE (cv (aD rfl rfl (cO 'd'))) (vl (bP ((aD rfl rfl wK).trans (by rw[qc G]))) (kE (cv (cX (aL (aD rfl rfl (fG 'd')) (aL (bU rfl (B3 bs)) rfl)) rfl e1)) ?_));exact vr (nv (p0:=some p) (fl:=KF bs e f ms E) rfl Jm rfl e2) (cX rfl rfl (II 'o' s)) (cX rfl rfl o)
 ·have q:∀p,tE (e2 nH (au 5) (eC (.int 3))) [bS (some p) (KF bs e f ms E),sI n,sB bs,sM ms,sI y,sh (.int (n % 5)),none,none]=some false:=λp=>bP ((aD rfl rfl wK).trans (by rw[be G]))
  have w:∀p,dH (tE (e2 bR (au 5) (eC (.int 3)))) (tE (e2 bX (au 3) (eN dB aN))) [bS (some p) (KF bs e f ms E),sI n,sB bs,sM ms,sI y,sh (.int (n % 5)),none,none]=some (decide (n % 5=3) && decide (ms≠[])):=λp=>uP (bP (aD rfl rfl (gj gS))) λ_=>bP (aD rfl rfl (Tr K.gps))
  by_cases r:n % 5=3/\ms≠[]
  ·have A:0<ms.length:=gu.mpr r.2
   obtain⟨c,J,L⟩:=OY (xs:=ms.map aM) (i:=n / 5 % ((ms.length:Nat):Int)) (by have:=uf (n / 5) (show ((ms.length:Nat):Int)≠0 by omega);omega) (by rw[aa];exact jf _ 'o');obtain⟨x,l,rfl⟩:=ub.mp J;have B:∀p,bK 7 (e2 bq (au 3) (e2 bM (e2 cV (au 1) (eC (.int 5))) (eN cY (aC (au 3) aN)))) [bS (some p) (KF bs e f ms E),sI n,sB bs,sM ms,sI y,sh (.int (n % 5)),none,none]=.nx [bS (some p) (KF bs e f ms E),sI n,sB bs,sM ms,sI y,sh (.int (n % 5)),none,sh (aM x)]:=λp=>cv (aD rfl (aD (aD rfl rfl (fG 'd')) (bU rfl (Ts ms)) (cO 'o')) L)
   have C:∀p,tE (e2 i5 (e2 bM (e2 cV (au 1) (eC (.int 25))) (eC (.int 3))) (eC (.int 0))) [bS (some p) (KF bs e f ms E),sI n,sB bs,sM ms,sI y,sh (.int (n % 5)),none,sh (aM x)]=some (decide (0<n / 25 % 3)):=λp=>bP (aD (aD (aD rfl rfl (fG 'd')) rfl (cO 'd')) rfl pk)
   have h:∀p,_:=λp=>(w p).trans (by rw[qc r.1,qc r.2];rfl:_=some true)
   by_cases H:0<n / 25 % 3
   ·obtain⟨g,t,j,T,e2⟩:=Tn K 'o' l 'o'
    refine⟨bs,jU x ms,pool,g,t,j,T,'o','o',mX λp=>mW (ρ':=[bS (some p) (KF bs e f (jU x ms) g),sI n,sB bs,sM ms,sI y,sh (.int (n % 5)),none,sh (aM x)]) ?_ rfl⟩;refine kE (cv (aD rfl rfl (cO 'd'))) (oC (q p) (vl (h p) (kE (B p) (vl ((C p).trans (by rw[qc H])) ?_))));exact vr (nv (p0:=some p) (fl:=KF bs e f ms E) rfl Tt rfl e2) rfl (Jj K.gps (K.gps x l) 'o' (iP rfl rfl) rfl)
   ·obtain⟨ms',g,t,j,T,e2,o,u⟩:=Jk K 'o' (K.gk x l) 'o'
    refine⟨bs,ms',pool++[x],g,t,j,T,'o',by rw[rc,yc];omega,mX λp=>mW (ρ':=[bS (some p) (KF bs e f ms' g),sI n,sB bs,sM ms,sI y,sh (.int (n % 5)),none,sh (aM x)]) ?_ rfl⟩;refine kE (cv (aD rfl rfl (cO 'd'))) (oC (q p) (vl (h p) (kE (B p) (oC ((C p).trans (by rw[be H])) ?_))));rw[u l];exact vr ((nv (p0:=some p) (fl:=KF bs e f ms E) rfl Jn rfl e2).trans (by unfold KF KV;rw[u l];rfl)) rfl rfl
  ·have h:∀ p,_:=λ p=>(w p).trans (by
    by_cases I:n % 5=3
    ·rw[be (p:=ms≠[]) (λz=>r ⟨I,z⟩),wm]
    ·rw[be I,vp]:_=some false)
   have F:∀p,tE (e2 bR (au 2) (eN dB aN)) [bS (some p) (KF bs e f ms E),sI n,sB bs,sM ms,sI y,sh (.int (n % 5)),none,none]=some (decide (bs=[])):=λp=>bP (aD rfl rfl (Tq bs))
   by_cases v:bs=[]
   ·refine⟨bs,ms,pool,E,.lst [],K,Tl K.gp 'o' K.ge,'o','o',mX λp=>mW (ρ':=[bS (some p) (KF bs e f ms E),sI n,sB bs,sM ms,sI y,sh (.int (n % 5)),none,none]) ?_ rfl⟩
    refine kE (cv (aD rfl rfl (cO 'd'))) (oC (q p) (oC (h p) (vl ((F p).trans (by rw[qc v])) ?_)));exact vr rfl rfl rfl
   ·have m:0<bs.length:=gu.mpr v
    have⟨x,M,e1⟩:=Te n y m;obtain⟨ms',g,t,j,T,e2,o,u⟩:=Jk K 'o' M 'o';refine⟨bs,ms',pool++[x],g,t,j,T,'o',by rw[rc,yc];omega,mX λp=>mW (ρ':=[bS (some p) (KF bs e f ms' g),sI n,sB bs,sM ms,sI y,sh (.int (n % 5)),none,sh (aM x)]) ?_ rfl⟩;refine kE (cv (aD rfl rfl (cO 'd'))) (oC (q p) (oC (h p) (oC ((F p).trans (by rw[be v])) (kE (cv (d:=aM x) (aD (d:=.lst [aM x]) (cX (aL (bU rfl rfl) (aL (bU rfl (B3 bs)) (aL rfl rfl))) rfl e1) rfl rfl)) ?_))));exact vr (nv (p0:=some p) (fl:=KF bs e f ms E) rfl Jn rfl e2) rfl (fF (oz (aL (bU (aL rfl (aL (bU rfl rfl) rfl)) rfl) rfl) rfl o))
abbrev kD(bs:Y6)(a fi:Int)(ms:Ya)(E:En):D:=.er "" KS (KV bs a fi ms E)
def yJ(h:a ρ=some (.er n ks ds))(hm:ks.contains m=false)(b:F [.er n ks ds]=some z):k9 m F a ρ=some z:=by
 unfold k9;rw[h,cb];dsimp only;rw[ic (by rw[hm];exact bb)];exact b
def Jo(h:a ρ=some (.er n ks ds))(hm:ks.contains m=false)(b:F [.er n ks ds]=some z):pO m F a ρ=some z:=by
 unfold pO;rw[h,cb];dsimp only;rw[ic (by rw[hm];exact bb)];exact b
def Jp:KS.contains ("rows" : Str)=false:=by decide
def Jq:KS.contains ("marks_now" : Str)=false:=by decide
def Jr:KS.contains ("entries_now" : Str)=false:=by decide
def yK(h:a ρ=some ds)(b:g ds=some z):wN g a ρ=some z:=by unfold wN;rw[h];exact b
def Js:al->aO:=(aY (bT (dH (tE (e2 bR (e2 bM (e2 bG (au 4) (au 5)) (eC (.int 3))) (eC (.int 0)))) (tE (e2 bX (eL (k9 "rows" rV (aA 0))) (au 1)))) (bI (eC (.bl false))) cr)
  (aY (bT (dH (tE (e2 bR (e2 bM (e2 bG (au 4) (au 5)) (eC (.int 3))) (eC (.int 1)))) (tE (e2 bX (eL (k9 "marks_now" rS (aA 0))) (au 2)))) (bI (eC (.bl false))) cr)
  (bT (dH (tE (e2 bR (e2 bM (e2 bG (au 4) (au 5)) (eC (.int 3))) (eC (.int 2)))) (tE (e2 bX (k8 (pO "entries_now" rR (aA 0))) (au 3)))) (bI (eC (.bl false))) cr)))
def Jt(K:Kp bs a b ms pool E)(pl:pool.length<=20)(q:bs.length<=62)(o:Int):rW [kD bs a b ms E,.lst (bs.map D.bl),.lst (ms.map aM),.lst (E.map cJ),.int o]=some (.bl true):=by
 have n:=K.ml;have g:rV [kD bs a b ms E]=some (bs.map D.bl):=wI rfl (Fb (yK (aL (fI rfl sv) rfl) rfl));have h:rS [kD bs a b ms E]=some (ms.map aM):=wI rfl (Fb (oz (aL (bU (aL (fI rfl sy) rfl) rfl) rfl) rfl (IL K.gps 'o' K.pou)));have i:rR [kD bs a b ms E]=some (.lst (E.map cJ)):=AL rfl (eu (cX (aL (fI rfl sv) (aL (fI rfl Jg) (aL (fI rfl Jh) (aL (fI rfl sy) rfl)))) rfl K.en))
 have c:∀k:Int,Js [sh (kD bs a b ms E),sB bs,sM ms,sE E,sI o,sI k,none,none]=.nx [sh (kD bs a b ms E),sB bs,sM ms,sE E,sI o,sI k,none,none]:=λk =>
  st ((fE ((uP (bP (aD (aD (aD rfl rfl gR) rfl (cO 'd')) rfl (gj gS))) λ_=>bP (aD (fF (yJ rfl Jp g)) rfl (To bs))).trans (by rw[wm]))).trans rfl)
   (st ((fE ((uP (bP (aD (aD (aD rfl rfl gR) rfl (cO 'd')) rfl (gj gS))) λ _=>bP (aD (fF (yJ rfl Jq h)) rfl (Tp K.gps))).trans (by rw[Bool.and_false]))).trans rfl)
   ((fE ((uP (bP (aD (aD (aD rfl rfl gR) rfl (cO 'd')) rfl (gj gS))) λ_=>bP (aD (yI (Jo rfl Jr i)) rfl (Sz E))).trans (by rw[wm]))).trans rfl))
 have f:eS (gN 5) Js [.int 0,.int 1,.int 2] [sh (kD bs a b ms E),sB bs,sM ms,sE E,sI o,none,none,none]=.nx [sh (kD bs a b ms E),sB bs,sM ms,sE E,sI o,sh (.int 2),none,none] :=
  (fS rfl (c 0)).trans ((fS rfl (c 1)).trans ((fS rfl (c 2)).trans rfl))
 have p:=K.ge.len K.gp pl
 have a1:n9 (k9 "rows" rV (aA 0)) (eC (.bl true)) [sh (kD bs a b ms E),sB bs,sM ms,sE E,sI o,sh (.int 2),none,none]=.nx [sh (kD bs a b ms E),sB bs,sM ms,sE E,sI o,sh (.int 2),none,none]:=by
  unfold n9;rw[yJ rfl Jp g];dsimp only;rw[show eC (.bl true) _=some (D.bl true) from rfl];dsimp only;rw[ya (by rw[aa];exact kW 'o')]
 have a2:n9 (k9 "marks_now" rS (aA 0)) (eC (.str [109,111,114,101])) [sh (kD bs a b ms E),sB bs,sM ms,sE E,sI o,sh (.int 2),none,none]=.nx [sh (kD bs a b ms E),sB bs,sM ms,sE E,sI o,sh (.int 2),none,none]:=by
  unfold n9;rw[yJ rfl Jq h];dsimp only;rw[show eC (.str [109,111,114,101]) _=some (D.str [109,111,114,101]) from rfl];dsimp only;rw[ya (by rw[aa];exact kW 'o')]
 have a3:rH 6 7 (pO "entries_now" rR (aA 0)) [sh (kD bs a b ms E),sB bs,sM ms,sE E,sI o,sh (.int 2),none,none]=.nx [sh (kD bs a b ms E),sB bs,sM ms,sE E,sI o,sh (.int 2),none,none]:=by
  unfold rH;rw[Jo rfl Jr i];dsimp only
  have m:rH.rsL (.lst (E.map cJ))=true:=by
   show (decide ((E.map cJ).length<=9000) && (E.map cJ).all _)=true;rw[aa,qc 'o',am];refine lc.mpr λd j=>?_
   obtain⟨e,l,rfl⟩:=ub.mp j;show decide ((e.2.map bB).length<=9000)=true
   have:=K.ge.ln e l
   rw[aa];exact qc 'o'
  rw[ya ⟨B1 E,m,'d',bh rfl,bh rfl⟩];rfl
 exact dN rfl (st (i9 (wJ rfl rfl) f) (st a1 (st a2 (st a3 rfl))))
def B4(bs:Y6):(bs.map D.bl).all (cH 3)=true:=lc.mpr λd a=>by obtain⟨b,_,rfl⟩:=ub.mp a;rfl
def B5(ms:Ya):(ms.map aM).all (cH 3)=true:=lc.mpr λd a=>by
 obtain⟨x,_,rfl⟩:=ub.mp a;show ((x.1.map D.str).all (cH 1) && (true && (true && (true && true))))=true;rw[uc];exact⟨lc.mpr λd a=>(by obtain⟨l,_,rfl⟩:=ub.mp a;rfl),rfl⟩
def Tv(E:En):xL (.lst (E.map cJ))=true:=lc.mpr λd a=>by
 obtain⟨e,_,rfl⟩:=ub.mp a;show ((e.1.map D.str).all (cH 2) && (e.2.map bB).all (cH 3))=true;rw[uc];exact⟨lc.mpr λd a=>(by obtain⟨l,_,rfl⟩:=ub.mp a;rfl),lc.mpr λd a=>(by obtain⟨l,_,rfl⟩:=ub.mp a;rfl)⟩
def Tw(l:f ρ=some a)(m:a.all (cH 3)=true)(n:h (ρ.set 0 (bS p0 (pf "book" (.lst a) ([],[]))))=some b)(o:cH 3 b=true)(p:i (ρ.set 0 (bS p0 (pf "most" b (pf "book" (.lst a) ([],[])))))=some c)(q:cH 3 c=true)(r:g (ρ.set 0 (bS p0 (pf "first" c (pf "most" b (pf "book" (.lst a) ([],[]))))))=some e)(s:e.all (cH 3)=true)(u:j (ρ.set 0 (bS p0 (pf "marks" (.lst e) (pf "first" c (pf "most" b (pf "book" (.lst a) ([],[])))))))=some z)(v:pN z=true)(w:xL z=true):xM f g h i j p0 ρ=some (KS,[.lst a,b,c,.lst e,z]):=by
 unfold xM;rw[l,cb,ya m,n,cb,ya o,p,cb,ya q,r,cb,ya s,u,cb,ya ⟨v,w⟩,Tg]
def Ju{bs:Y6}{a:Int}{ss ms:Ya}(K:Kp bs a b ms pool E)(c:g8 [.lst [.lst (ss.map aM)]]=some (ms.map aM)):x9 [.lst (bs.map D.bl),.int a,.int b,.lst (ss.map aM)]=some (KF bs a b ms E) :=
 QM λp=>Tw (yK rfl rfl) (B4 bs) rfl rfl rfl rfl (oz (aL (bU (aL rfl rfl) rfl) rfl) rfl c) (B5 ms) (cX (aL (fI rfl rfl) (aL (fI rfl rfl) (aL (fI rfl rfl) (aL (fI rfl rfl) rfl)))) rfl K.en) (B1 E) (Tv E)
def Jv(a:i≠j)(h:b (ρ.set i (sh d))=some ds)(c:F ds=some fl)(e:g d (ρ.set j (bS none fl))=o):rG i j F b g d ρ=o:=by
 unfold rG;rw[ya a,h];dsimp only;rw[c];exact e
def Tx(a:i≠j)(b:A7 d=true)(c:j<ρ.length)(e:g (ρ.set j none)=o):uK i j g d ρ=o:=by
 unfold uK;rw[ya ⟨a,b,c⟩];exact e
def Jw(a:i≠j)(h:b ρ=some d')(c:g d (ρ.set j (sh d'))=o):l5 i j b g d ρ=o:=by
 unfold l5;rw[ya a,h];exact c
def Ty(h:ρ[jk]?=some (bS p0 fl))(hm:fl.1.contains "" = false)(f:b ρ=some ds)(i:F fl ds=some (a,(t,c,e)))(hl:jt<ρ.length)(j:g t ((((ρ.set jk (bS p0 a)).set jt none).set jb (sh c)).set jm (sh e))=o):pS jt jb jm jk F b g ρ=o:=by
 unfold pS;rw[nv h hm f i];dsimp only;rw[ya hl];exact j
def Tz(h:a (ρ.set i (sh d))=some true)(e:b d ρ=.nx ρ')(f:g ρ'=o):n8 i a b c g d ρ=o:=by
 unfold n8;rw[h];dsimp only;rw[e];exact f
def TB(h:a (ρ.set i (sh d))=some false)(e:b d ρ=.nx ρ')(f:g ρ'=o):n8 i a c b g d ρ=o:=by
 unfold n8;rw[h];dsimp only;rw[e];exact f
def Jx(c:b ρ=some ds)(hn:ds.length=a)(e:F ds=some (.sc v)):i8 a F b ρ=some (.sc v):=by unfold i8;rw[c,cb,ya hn,e];rfl
def TC(h:f ρ=some z):pQ f ρ=.nx z.2:=by unfold pQ;rw[h]
def TD:KS.contains ("" : Str)=false:=by decide
def Jy:al->aO:=(aY (bK 14 (e2 bM (e2 gA (au 13) (eC (.int 1583458089))) (eC (.int 2147483647))))
  (pS 15 4 10 7 uZ (aC (aA 14) (aC (aA 4) (aC (aA 10) (aC (aA 1) aN))))
  (l5 15 16 (aA 11)
  (l5 15 11 (k8 (bH 4 lx (aC (aA 4) (aC (aA 2) (aC (aA 3) (aC (aA 10) aN))))))
  (nT 15 (eQ (tE (bH 3 rO (aC (aA 15) (aC (aA 16) (aC (aA 11) aN)))))) (bI (eC (.bl false)))
  (n8 15 (tE (e2 bR (e2 bM (e2 cV (au 14) (eC (.int 9))) (eC (.int 2))) (eC (.int 0)))) (A5 15 (eR 12 (eN cM (aC (aA 15) (aC (bH 1 uY (aC (aA 15) aN)) aN))))) (rz cr)
  (aY (bT (eQ (tE (i8 5 rW (aC (au 7) (aC (au 4) (aC (au 10) (aC (au 11) (aC (e2 cV (au 14) (eC (.int 7))) aN)))))))) (bI (eC (.bl false))) cr)
  (pQ (g7 8 "do" rQ (aC (eN cM (aC (eC (.str [112,117,116])) (aC (e2 bM (au 14) (eC (.int 2))) (aC (e2 bR (e2 bM (au 14) (eC (.int 3))) (eC (.int 0))) aN)))) aN))))))))))
noncomputable abbrev mt(t:D):D:=.tup [t,t]
abbrev rL(i:Y7)(y h fi:Int)(bs:Y6)(ss ms:Ya)(E:En)(a:Y6)(b:Ya)(E2:En)(ts:U4)(c e f g:Y1):al :=
 [sN i,sI y,sI h,sI fi,sB bs,sM ss,none,bS none (KF bs h fi ms E),bS none (KF a 2 1 b E2),none,sM ms,sE E,some (.ow (ts.map mt)),c,e,f,g,none]
def TF(z:Y7)(y c s v:Int)(ss:Ya)(K:Kp bs s v ms pool E)(K2:Kp a 2 1 j l E2)(pl:pool.length<=18)(L:l.length<=20)(hb:bs.length<=60)(hb2:2<=a.length/\a.length<=60)(U:∀t∈ts,bX t t=some (.bl false))(tl:ts.length<=1000)(F G H:Y1) :
  ∃bs' ms' pool' w r f m i M N O,Kp bs' s v ms' pool' w/\Kp r 2 1 f l m/\pool'.length<=pool.length+1/\bs'.length<=bs.length+1/\r.length=a.length+1/\(∀t∈i,bX t t=some (.bl false))/\i.length<=ts.length+1 ∧
   Jy (rL z y s v bs ss ms E a j E2 ts (sI c) F G H)=.nx (rL z y s v bs' ss ms' w r f m i (sI c) M N O):=by
 generalize hk:c * 1583458089 % 2147483647=n;have⟨bs',ms',pool',w,t,I,T,P,Q,e1⟩:=Tu K pl hb n y;have B:(Dd.put (n % 2) (decide (n % 3=0))).fit a.length:=⟨uf _ 'd',by have:=jf n (show (0:Int)<2 by decide);omega⟩
 obtain⟨f,m,t2,A,T2,Z,_⟩:=Ji K2 L B 'o';have C:=BQ B;have lk:=Jt I 'o' 'o' (n / 7);have J:∀ρ:al,au 13 ρ=some (.int c)->e2 bM (e2 gA (au 13) (eC (.int 1583458089))) (eC (.int 2147483647)) ρ=some (.int n):=λρ h=>aD (aD h rfl (nM (pe ⟨'d','d'⟩))) rfl ((cO 'd').trans (by rw[hk]))
 have x:∀ (i:U4) (e:Y1),(aY (bT (eQ (tE (i8 5 rW (aC (au 7) (aC (au 4) (aC (au 10) (aC (au 11) (aC (e2 cV (au 14) (eC (.int 7))) aN)))))))) (bI (eC (.bl false))) cr)
  (pQ (g7 8 "do" rQ (aC (eN cM (aC (eC (.str [112,117,116])) (aC (e2 bM (au 14) (eC (.int 2))) (aC (e2 bR (e2 bM (au 14) (eC (.int 3))) (eC (.int 0))) aN)))) aN)))) (rL z y s v bs' ss ms' w a j E2 i (sI c) (sI n) e (sE E))=.nx (rL z y s v bs' ss ms' w (lC (.put (n % 2) (decide (n % 3=0))) a) f m i (sI c) (sI n) e (sE E)):=λi e =>
  st ((fE (qQ (b:=true) (bP (Jx (aL rfl (aL rfl (aL rfl (aL rfl (aL (aD rfl rfl (fG 'd')) rfl))))) rfl lk)))).trans rfl)
   (TC (nv (p0:=none) (fl:=KF a 2 1 j E2) rfl Jm (aL (bU (aL rfl (aL (aD rfl rfl (cO 'd')) (aL (aD (aD rfl rfl (cO 'd')) rfl (gj gS)) rfl))) rfl) rfl) Z))
 have q:∀e:Y1,tE (e2 bR (e2 bM (e2 cV (au 14) (eC (.int 9))) (eC (.int 2))) (eC (.int 0))) (rL z y s v bs' ss ms' w a j E2 ts (sI c) (sI n) e (sE E))=some (decide (n / 9 % 2=0)):=λe=>bP (aD (aD (aD rfl rfl (fG 'd')) rfl (cO 'd')) rfl (gj gS))
 have p:∀ (g:GP) (o:aO),g t (rL z y s v bs' ss ms' w a j E2 ts (sI c) (sI n) none (sE E))=o->(aY (bK 14 (e2 bM (e2 gA (au 13) (eC (.int 1583458089))) (eC (.int 2147483647))))
  (pS 15 4 10 7 uZ (aC (aA 14) (aC (aA 4) (aC (aA 10) (aC (aA 1) aN))))
  (l5 15 16 (aA 11)
  (l5 15 11 (k8 (bH 4 lx (aC (aA 4) (aC (aA 2) (aC (aA 3) (aC (aA 10) aN))))))
  (nT 15 (eQ (tE (bH 3 rO (aC (aA 15) (aC (aA 16) (aC (aA 11) aN)))))) (bI (eC (.bl false))) g))))) (rL z y s v bs ss ms E a j E2 ts (sI c) F G H)=o:=λg o X =>
  st (cv (J _ rfl)) (Ty (p0:=none) (fl:=KF bs s v ms E) rfl TD rfl e1 (bh rfl) (Jw 'd' rfl (Jw 'd' (yI (cX rfl rfl I.en)) (Jf (qQ (b:=true) (bP (cX rfl rfl T.ld))) X))))
 by_cases R:n / 9 % 2=0
 ·refine⟨bs',ms',pool',w,lC (.put (n % 2) (decide (n % 3=0))) a,f,m,ts++[t],sI n,sh t,sE E,I,A,Q,P,C,λu Y=>?_,by rw[rc,yc];omega,?_⟩
  ·rcases yd.mp Y with h|h
   ·exact U u h
   ·rw[wd.mp h];exact T.ne
  ·refine p _ _ (Tz ((q _).trans (by rw[qc R])) ?_ (x (ts++[t]) (sh t)))
   refine(m5 (ds:=ts.map mt) (d:=mt t) rfl (bU (aL rfl (aL (cX rfl rfl T.cp) rfl)) rfl) (by rw[aa];omega)).trans ?_;rw[<-(show (ts++[t]).map mt=ts.map mt++[mt t] by rw[jd];rfl)];rfl
 ·exact⟨bs',ms',pool',w,lC (.put (n % 2) (decide (n % 3=0))) a,f,m,ts,sI n,none,sE E,I,A,Q,P,C,U,'o',p _ _ (TB ((q _).trans (by rw[be R])) (Tb T.sp rfl) (x ts none))⟩
theorem Jz(x:Y7)(y o p:Int)(ss a:Ya)(s:a.length<=20):∀(r:Y7) {bs b:Y6}{ms pool f:Ya}{E E2:En}{ts:U4} (j g h i:Y1),Kp bs o p ms pool E->Kp b 2 1 f a E2->pool.length+r.length<=18->bs.length+r.length<=60->2<=b.length->b.length+r.length<=60->(∀t∈ts,bX t t=some (.bl false))->ts.length+r.length<=1000 →
  ∃bs' ms' pool' z u v q w H l m n,Kp bs' o p ms' pool' z/\pool'.length<=18/\bs'.length<=60/\(∀t∈w,bX t t=some (.bl false))/\eS (gN 13) Jy (r.map D.int) (rL x y o p bs ss ms E b f E2 ts j g h i)=.nx (rL x y o p bs' ss ms' z u v q w H l m n)
 |[],bs,b,ms,pool,f,E,E2,ts,j,g,h,i,K,M,I,J,N,O,L,P=>⟨bs,ms,pool,E,b,f,E2,ts,j,g,h,i,K,by rw[qe]at I;omega,by rw[qe]at J;omega,L,rfl⟩
 |c::r,bs,b,ms,pool,f,E,E2,ts,j,g,h,i,K,M,I,J,N,O,L,P=>by
  rw[gc]at I J O P;obtain⟨b',m',p',z,Q,R,q,t',l,m,n,T,A,l1,l2,l3,U,l4,e⟩:=TF x y c o p ss K M 'o' s 'o' ⟨N,'o'⟩ L 'o' g h i;obtain⟨X,Y,Z,E3,b4,m4,E4,t3,B,C,F,G,K3,q1,q2,q3,e3⟩:=Jz x y o p ss a s r (sI c) l m n T A 'o' 'o' 'o' 'o' U 'o';exact⟨X,Y,Z,E3,b4,m4,E4,t3,B,C,F,G,K3,q1,q2,q3,(fS rfl e).trans e3⟩
theorem JA:∀(ts:U4) (a b:Y1),(∀t∈ts,bX t t=some (.bl false))->∃c f,eS (gT 2 (bJ (gN 15) (bJ (gN 17) dI))) (bT (tE (e2 bX (au 15) (au 17))) (bI (eC (.bl false))) cr) (ts.map mt) [a0,a1,a2,a3,a4,a5,a6,a7,a8,a9,a10,a11,a12,a13,a14,a,a16,b]=.nx [a0,a1,a2,a3,a4,a5,a6,a7,a8,a9,a10,a11,a12,a13,a14,c,a16,f]
 |[],a,b,_=>⟨a,b,rfl⟩
 |t::ts,a,b,h=>by
  have⟨c,f,e⟩:=JA ts (sh t) (sh t) λu g=>h u (ua _ g)
  refine⟨c,f,?_⟩;rw[ma,<-e];exact fS rfl ((fE (bP (aD rfl rfl (h t cc)))).trans rfl)
def TH(f:c ρ=some a)(g:a.all (cH 3)=true)(h:e ρ=some b)(i:b.all (cH 3)=true):uJ c e ρ=some (.lst [.lst a,.lst b]):=by
 unfold uJ;rw[f,cb,ya g,h,cb,ya i]
def JB:lD []:=List.perm_nil.mp (js _ _)
def TJ(bs:Y6)(ss:Ya):A7 (.lst [.lst (bs.map D.bl),.lst (ss.map aM)])=true:=by
 show ((bs.map D.bl).all (cH 3) && ((ss.map aM).all (cH 3) && true))=true;rw[B4,B5];rfl
def TK{bs:Y6}{ss:Ya}(a:gv ss):bX (.lst [.lst (bs.map D.bl),.lst (ss.map aM)]) (.lst [.lst (bs.map D.bl),.lst (ss.map aM)])=some (.bl false):=by
 refine yH ?_ λd hd=>?_
 ·rw[show LV=8+1 from rfl,bL]
  refine lc.mpr λd hd=>?_
  rcases wc.mp hd with rfl|hd
  ·rw[show (8:Nat)=7+1 from rfl,bL]
   exact lc.mpr λd hd=>by obtain⟨b,_,rfl⟩:=ub.mp hd;rfl
  ·rw[wd.mp hd];exact pW.dkl (lE a) 4
 ·rcases wc.mp hd with rfl|hd
  ·rw[bD];exact oy λd hd=>by obtain⟨b,_,rfl⟩:=ub.mp hd;exact tU b
  ·rw[wd.mp hd,bD]
   exact oy λd hd=>(pW.eq d d (lE a d hd) (lE a d hd)).mpr rfl
def TL(f:Y7)(hl:f.length<=63):rX [.lst (f.map D.int)]=some (.bl true):=by
 generalize hy:pT f 0=y;generalize hc:pT f 1=c;have r1:ou [.lst (f.map D.int),.int 0]=some (.int y):=by rw[<-hy];exact Hi f 0
 have r5:ou [.lst (f.map D.int),.int 1]=some (.int c):=by rw[<-hc];exact Hi f 1
 have⟨h,i,N⟩:=S8 y;obtain⟨k,O⟩:=cf (uf c (show (31:Int)≠0 by decide));have kl:k<31:=by have:=jf c (show (0:Int)<31 by decide);omega
 generalize j:(f.drop 1).take k=cs;have z:cs.length<=30:=by rw[<-j,se];omega
 have s1:hX (.lst (f.map D.int)) (some 1) (some ((1+k:Nat):Int))=some (.lst (cs.map D.int)):=by
  have:=Be (l:=f) (a:=1) (b:=1+k) 'o'
  rw[show 1+k - 1=k by omega,j]at this;exact this
 have A:dC (au 0) (oS (eC (.int 1))) (oS (e2 bG (eC (.int 1)) (e2 bM (bH 2 ou (aC (aA 0) (aC (eC (.int 1)) aN))) (eC (.int 31))))) [sN f,sI y,sI h,sI i,none,none,none,none,none,none,none,none,none,none,none,none,none,none]=some (.lst (cs.map D.int)):=by
  have q:e2 bG (eC (.int 1)) (e2 bM (bH 2 ou (aC (aA 0) (aC (eC (.int 1)) aN))) (eC (.int 31))) [sN f,sI y,sI h,sI i,none,none,none,none,none,none,none,none,none,none,none,none,none,none]=some (.int ((1+k:Nat):Int)) :=
   (aD rfl (aD (cX rfl rfl r5) rfl (cO 'd')) gR).trans (by rw[O];rfl)
  unfold dC oS;rw[q];exact s1
 generalize m:(f.drop 2).take 4=ds;have lds:ds.length<=4:=by rw[<-m,se];omega
 have s2:hX (.lst (f.map D.int)) (some 2) (some 6)=some (.lst (ds.map D.int)):=by rw[<-m];exact Be (l:=f) (a:=2) (b:=6) 'd'
 generalize n:(f.drop 3).take 8=rs;have lrs:rs.length<=8:=by rw[<-n,se];omega
 have s3:hX (.lst (f.map D.int)) (some 3) (some 11)=some (.lst (rs.map D.int)):=by rw[<-n];exact Be (l:=f) (a:=3) (b:=11) 'd'
 have J:=S9 cs 'o';generalize C:(cs.map λc=>decide (c % 6=1))=bs at J;have lbs:bs.length<=30:=by rw[<-C,aa];exact z
 obtain⟨ss,P,F,lm⟩:=S5 ds 'o' bs.length y;have o:gv ss:=λx g=>(F x g).p
 have⟨os,Q,G,R,T⟩:=BS o
 have L:g8 [.lst [.lst (ss.map aM)]]=some (os.map aM):=by
  have:=BR (hs:=[ss]) (by rw[ve,dg,zc];exact o) (by rw[ve,dg,zc];omega)
  rw[ve,dg,zc,Q]at this;exact this
 obtain⟨E,K⟩:=made (bs:=bs) h i (pool:=ss) 'o' (λx g=>F x (G x g)) R 'o' T o λx g=>⟨x,G x g,rfl⟩
 obtain⟨E2,H⟩:=made (bs:=true::false::bs) 2 1 (ms:=[]) (pool:=[]) (by rw[gc,gc];omega) (λx g=>by cases g) (dc _) (ie _) JB (λx g=>by cases g) λx g=>by cases g
 have i1:=Ju K L;have i2:=Ju (ss:=[]) H (IL (ms:=[]) (λx g=>by cases g) (ie _) JB);obtain⟨bs',ms',pool',I,U,X,r,ts,s,u,v,w,Y,p1,p2,Z,e⟩:=Jz f y h i ss [] (ie _) rs (ts:=[]) none none none none K H 'o' 'o' (by rw[gc,gc];omega) (by rw[gc,gc];omega) (λt M=>by cases M) (by rw[qe];omega);have⟨w15,w17,eh⟩:=JA (a0:=sN f) (a1:=sI y) (a2:=sI h) (a3:=sI i) (a4:=sB bs') (a5:=sM ss) (a6:=none) (a7:=bS none (KF bs' h i ms' I)) (a8:=bS none (KF U 2 1 X r)) (a9:=none) (a10:=sM ms') (a11:=sE I) (a12:=sh (.lst (ts.map mt))) (a13:=s) (a14:=u) (a16:=w) ts v none Z;have lk:=Jt Y 'o' 'o' y
 have B:uJ (wN gQ (aC (au 4) aN)) (wN gQ (aC (au 5) aN)) [sN f,sI y,sI h,sI i,sB bs,sM ss,none,none,none,none,none,none,none,none,none,none,none,none]=some (.lst [.lst (bs.map D.bl),.lst (ss.map aM)]) :=
  TH (yK rfl rfl) (B4 bs) (yK rfl rfl) (B5 ss)
 refine dN rfl (st (cv (cX rfl rfl r1)) (st (Ra (cX rfl rfl N) rfl) (st (cv (cX (aL A rfl) rfl J)) (st (cv (cX (ds:=[.lst (ds.map D.int),.int ((bs.length:Nat):Int),.int y]) (aL s2 (aL (bU rfl (B3 bs)) (aL rfl rfl))) rfl P)) (Ta rfl B (Jv 'd' (aL (aD rfl rfl rfl) (aL rfl (aL rfl (aL (aD rfl rfl rfl) rfl)))) i1 (Jf (bP (aD rfl (bU rfl rfl) (TK o))) (Jv 'd' (aL (aD rfl rfl (wO (sz (by rw[aa];show 2+bs.length<=_;omega)))) (aL rfl (aL rfl (aL rfl rfl)))) i2 (Tx 'd' (TJ bs ss) (bh rfl) (st (cv (fF (oz (aL (bU rfl rfl) rfl) rfl L))) (st (cv (yI (cX rfl rfl K.en))) (st rfl (st (i9 (iP s3 rfl) e) ?_)))))))))))));exact st (i9 (iP rfl rfl) eh) (eu (Jx rfl rfl lk))
end K43
set_option maxHeartbeats 4000000
namespace K43
open PySem L2
abbrev B6:Stmt:=b6 1
abbrev B7:Stmt:=b6 9
abbrev B8:Stmt:=b6 10
abbrev B9:Stmt:=b6 11
abbrev Ca:Stmt:=b6 13
abbrev Cb:Stmt:=b6 14
abbrev Cc:Stmt:=b6 15
abbrev Cd:Stmt:=b6 16
abbrev Ce:Stmt:=b6 18
abbrev Cf:Stmt:=b6 19
abbrev Cg:Stmt:=b6 20
abbrev Ch:Stmt:=b6 22
abbrev Ci:Stmt:=b6 23
abbrev Cj:Stmt:=b6 24
abbrev Ck:Stmt:=b6 26
abbrev Cl:Stmt:=b6 27
abbrev Cm:Stmt:=b6 28
abbrev Cn:Stmt:=b6 29
abbrev Co:Stmt:=b6 30
abbrev Cp:Stmt:=b6 31
abbrev Cq:Stmt:=b6 32
abbrev Cr:Stmt:=b6 36
abbrev Cs:Stmt:=b6 37
abbrev Ct:Stmt:=b6 38
abbrev Cu:Stmt:=b6 41
abbrev Cv:Stmt:=b6 42
abbrev Cw:Stmt:=b6 43
abbrev Cy:Stmt:=b6 44
abbrev Cz:Stmt:=b6 45
abbrev CA:Stmt:=b6 46
abbrev CB:Stmt:=b6 47
abbrev CC:Stmt:=b6 48
abbrev CD:Stmt:=b6 49
abbrev CF:Stmt:=b6 50
abbrev sA:Stmt:=b6 51
abbrev CG:Stmt:=(mu (b6 34)).getD 0 (.Pass ⟨0,0,0,0⟩)
abbrev CH:Stmt:=(mu (b6 34)).getD 1 (.Pass ⟨0,0,0,0⟩)
abbrev CI:Stmt:=(mu (b6 34)).getD 2 (.Pass ⟨0,0,0,0⟩)
abbrev CJ:Stmt:=(mu (b6 34)).getD 3 (.Pass ⟨0,0,0,0⟩)
abbrev CK:Stmt:=(mu (b6 34)).getD 4 (.Pass ⟨0,0,0,0⟩)
abbrev CL:Stmt:=(mu (b6 34)).getD 5 (.Pass ⟨0,0,0,0⟩)
abbrev CM:Stmt:=(mu (b6 34)).getD 6 (.Pass ⟨0,0,0,0⟩)
abbrev CN:Stmt:=(mu (b6 34)).getD 7 (.Pass ⟨0,0,0,0⟩)
def oD:ax ["book","most","first","told","page","filled","new"] ["book","most","first"] (bj B6):=‹0›
def JC:ax ["head","bar"] ["head"] (bj B7):=‹0›
def TM:ax ["head"] ["head"] (bj B8):=‹0›
def TN:ax ["path"] ["path"] (bj B9):=‹0›
def TQ:ax ["mark","many"] ["mark","many"] (bj Ca):=‹0›
def pY:ax ["hands","found","hand","path","first","last","most"] ["hands"] (bj Cb):=‹0›
def TR:ax ["path"] ["path"] (bj Cc):=‹0›
def TU:ax ["mark"] ["mark"] (bj Cd):=‹0›
def yL:ax ["numbers","marks","strong","told","page"] ["numbers","marks"] (bj Ce):=‹0›
def pZ:ax ["numbers","marks","strong","path","first","last","most","page"] ["numbers","marks"] (bj Cf):=‹0›
def TV:ax ["stretch","page","is_strong"] ["stretch","page","is_strong"] (bj Cg):=‹0›
def yM:ax ["book","most","first","marks","ordered","numbers","found"] ["book","most","first","marks"] (bj Ch):=‹0›
def JD:ax ["ordered","many","mark"] ["ordered","many"] (bj Ci):=‹0›
def vu:ax ["ordered","found","mark","path","many"] ["ordered"] (bj Cj):=‹0›
def JE:ax ["deed","many","at"] ["deed","many"] (bj Ck):=‹0›
def JF:ax ["book","deed","at"] ["book","deed"] (bj Cl):=‹0›
def JG:ax ["marks","deed","moved"] ["marks","deed"] (bj Cm):=‹0›
def TW:ax ["marks","at"] ["marks","at"] (bj Cn):=‹0›
def TX:ax ["marks","at"] ["marks","at"] (bj Co):=‹0›
def CO:ax ["old","new","ahead","behind","paths"] ["old","new"] (bj Cp):=‹0›
def yN:ax ["rows","found","path","told"] ["rows"] (bj Cq):=‹0›
def TY:ax ["_law_script","_law_k"] ["_law_script","_law_k"] (bj Cr):=‹0›
def kF:ax ["_law_cell","_law_k","_law_signs","_law_base","_law_j","_law_at","_law_head","_law_way"] ["_law_cell","_law_k"] (bj Cs):=‹0›
def JH:ax ["_law_number","_law_by","_law_many"] ["_law_number","_law_by"] (bj Ct):=‹0›
def TZ:ax ["_law_cells"] ["_law_cells"] (bj Cu):=‹0›
def JI:ax ["_law_by","_law_most"] ["_law_by"] (bj Cv):=‹0›
def sC:ax ["_law_cells","_law_many","_law_by","_law_marks_here","_law_cell","_law_number","_law_low","_law_high"] ["_law_cells","_law_many","_law_by"] (bj Cw):=‹0›
def T0:ax ["_law_number","_law_many"] ["_law_number","_law_many"] (bj Cy):=‹0›
def yO:ax ["_law_rows","_law_found","_law_path","_law_parts"] ["_law_rows"] (bj Cz):=‹0›
def yP:ax ["_law_told","_law_ahead","_law_behind","_law_found","_law_row","_law_ranks"] ["_law_told","_law_ahead","_law_behind"] (bj CA):=‹0›
def vw:ax ["_law_told","_law_found","_law_row","_law_parts","_law_one"] ["_law_told"] (bj CB):=‹0›
def JJ:ax ["_law_told","_law_row","_law_parts"] ["_law_told"] (bj CC):=‹0›
def vx:ax ["_law_keeper","_law_number","_law_book_here","_law_marks_here","_law_by","_law_way","_law_deed","_law_mark"] ["_law_keeper","_law_number","_law_book_here","_law_marks_here","_law_by"] (bj CD):=‹0›
def CP:ax ["_law_keeper","_law_book_here","_law_marks_here","_law_rows","_law_order","_law_k","_law_path","_law_parts"] ["_law_keeper","_law_book_here","_law_marks_here","_law_rows","_law_order"] (bj CF):=‹0›
def fZ:ax ["_law_script","_law_by","_law_most","_law_first","_law_book_here","_law_some","_law_handed","_law_keeper","_law_beside","_law_row","_law_marks_here","_law_rows","_law_held","_law_cell","_law_number","_law_told","_law_ahead","_law_kept"] ["_law_script"] (bj sA):=‹0›
def T1:ax ["self","book","most","first","marks"] ["self","book","most","first","marks"] (bj CG):=‹0›
def T3:ax ["self","deed"] ["self","deed"] (bj CH):=‹0›
def T4:ax ["self","mark"] ["self","mark"] (bj CI):=‹0›
def T5:ax ["self","mark"] ["self","mark"] (bj CJ):=‹0›
def CQ:ax ["self","book","marks","known","told"] ["self","book","marks"] (bj CK):=‹0›
def T6:ax ["self"] ["self"] (bj CL):=‹0›
def T7:ax ["self"] ["self"] (bj CM):=‹0›
def T8:ax ["self"] ["self"] (bj CN):=‹0›
noncomputable abbrev CS:Str:="abcdefghijklmnopqrstuvwxyzABCDEFGHIJKLMNOPQRSTUVWXYZ0123456789"
set_option genInjectivity false in
structure Adr where
 f_q25:Addr
 fd_q25:FuncData
 f_q24:Addr
 fd_q24:FuncData
 f_q23:Addr
 fd_q23:FuncData
 f_q26:Addr
 fd_q26:FuncData
 f_q28:Addr
 fd_q28:FuncData
 f_q21:Addr
 fd_q21:FuncData
 f_q20:Addr
 fd_q20:FuncData
 f_q15:Addr
 fd_q15:FuncData
 f_q17:Addr
 fd_q17:FuncData
 f_q1:Addr
 fd_q1:FuncData
 f_q1b:Addr
 fd_q1b:FuncData
 f_q1c:Addr
 fd_q1c:FuncData
 f_q5:Addr
 fd_q5:FuncData
 f_q2:Addr
 fd_q2:FuncData
 f_q13:Addr
 fd_q13:FuncData
 f_qf:Addr
 fd_qf:FuncData
 f_qb:Addr
 fd_qb:FuncData
 f_q12:Addr
 fd_q12:FuncData
 f_q11:Addr
 fd_q11:FuncData
 f_q1e:Addr
 fd_q1e:FuncData
 f_q0:Addr
 fd_q0:FuncData
 f_q7:Addr
 fd_q7:FuncData
 f_q9:Addr
 fd_q9:FuncData
 f_q8:Addr
 fd_q8:FuncData
 f_q19:Addr
 fd_q19:FuncData
 f_q6:Addr
 fd_q6:FuncData
 f_q16:Addr
 fd_q16:FuncData
 f_qa:Addr
 fd_qa:FuncData
 f_qc:Addr
 fd_qc:FuncData
 f_q14:Addr
 fd_q14:FuncData
 f_qe:Addr
 fd_qe:FuncData
 f_law_spoil:Addr
 fd_law_spoil:FuncData
 f_q18:Addr
 fd_q18:FuncData
 f_q3:Addr
 fd_q3:FuncData
 f_q29:Addr
 fd_q29:FuncData
 f_q22:Addr
 fd_q22:FuncData
 f_q27:Addr
 fd_q27:FuncData
 f_q1a:Addr
 fd_q1a:FuncData
 f_q10:Addr
 fd_q10:FuncData
 f_q1d:Addr
 fd_q1d:FuncData
 f_q1f:Addr
 fd_q1f:FuncData
 f_qd:Addr
 fd_qd:FuncData
 f_q4:Addr
 fd_q4:FuncData
 tk_LETTERS_AND_FIGURES:Tok
 c_Ob:Addr
structure Txt(K:Fg1)(mg:Str->Y0)(t:Adr):Prop where
 d_q25:Df K mg "pages" B6 ["book","most","first"] t.f_q25 t.fd_q25
 d_q24:Df K mg "shown" B7 ["head"] t.f_q24 t.fd_q24
 d_q23:Df K mg "key_of" B8 ["head"] t.f_q23 t.fd_q23
 d_q26:Df K mg "rank" B9 ["path"] t.f_q26 t.fd_q26
 d_q28:Df K mg "fits" Ca ["mark","many"] t.f_q28 t.fd_q28
 d_q21:Df K mg "poured" Cb ["hands"] t.f_q21 t.fd_q21
 d_q20:Df K mg "copied" Cc ["path"] t.f_q20 t.fd_q20
 d_q15:Df K mg "mark_rank" Cd ["mark"] t.f_q15 t.fd_q15
 d_q17:Df K mg "stretches" Ce ["numbers","marks"] t.f_q17 t.fd_q17
 d_q1:Df K mg "strong_by_page" Cf ["numbers","marks"] t.f_q1 t.fd_q1
 d_q1b:Df K mg "goes_on" Cg ["stretch","page","is_strong"] t.f_q1b t.fd_q1b
 d_q1c:Df K mg "entries" Ch ["book","most","first","marks"] t.f_q1c t.fd_q1c
 d_q5:Df K mg "refuse_unfit" Ci ["ordered","many"] t.f_q5 t.fd_q5
 d_q2:Df K mg "marks_by_path" Cj ["ordered"] t.f_q2 t.fd_q2
 d_q13:Df K mg "deed_fits" Ck ["deed","many"] t.f_q13 t.fd_q13
 d_qf:Df K mg "moved_book" Cl ["book","deed"] t.f_qf t.fd_qf
 d_qb:Df K mg "moved_marks" Cm ["marks","deed"] t.f_qb t.fd_qb
 d_q12:Df K mg "behind_put" Cn ["marks","at"] t.f_q12 t.fd_q12
 d_q11:Df K mg "behind_cut" Co ["marks","at"] t.f_q11 t.fd_q11
 d_q1e:Df K mg "changes" Cp ["old","new"] t.f_q1e t.fd_q1e
 d_q0:Df K mg "copied_stretches" Cq ["rows"] t.f_q0 t.fd_q0
 d_q7:Df K mg "_law_cell_at" Cr ["_law_script","_law_k"] t.f_q7 t.fd_q7
 d_q9:Df K mg "_law_head_by" Cs ["_law_cell","_law_k"] t.f_q9 t.fd_q9
 d_q8:Df K mg "_law_path_by" Ct ["_law_number","_law_by"] t.f_q8 t.fd_q8
 d_q19:Df K mg "_law_book" Cu ["_law_cells"] t.f_q19 t.fd_q19
 d_q6:Df K mg "_law_settings" Cv ["_law_by"] t.f_q6 t.fd_q6
 d_q16:Df K mg "_law_marks" Cw ["_law_cells","_law_many","_law_by"] t.f_q16 t.fd_q16
 d_qa:Df K mg "_law_deed_by" Cy ["_law_number","_law_many"] t.f_qa t.fd_qa
 d_qc:Df K mg "_law_as_dict" Cz ["_law_rows"] t.f_qc t.fd_qc
 d_q14:Df K mg "_law_leads" CA ["_law_told","_law_ahead","_law_behind"] t.f_q14 t.fd_q14
 d_qe:Df K mg "_law_copies" CB ["_law_told"] t.f_qe t.fd_qe
 d_law_spoil:Df K mg "_law_spoil" CC ["_law_told"] t.f_law_spoil t.fd_law_spoil
 d_q18:Df K mg "_law_step" CD ["_law_keeper","_law_number","_law_book_here","_law_marks_here","_law_by"] t.f_q18 t.fd_q18
 d_q3:Df K mg "_law_looked_at" CF ["_law_keeper","_law_book_here","_law_marks_here","_law_rows","_law_order"] t.f_q3 t.fd_q3
 d_q29:Df K mg "law" sA ["_law_script"] t.f_q29 t.fd_q29
 fu_k_init:d8 K "__init__" "Keeper.__init__" CG t.f_q22 t.fd_q22
 bi_k_init:cB K t.fd_q22 ["self","book","most","first","marks"] []
 fu_k_do:d8 K "do" "Keeper.do" CH t.f_q27 t.fd_q27
 bi_k_do:cB K t.fd_q27 ["self","deed"] []
 me_k_do:dW K t.c_Ob "do" t.f_q27
 fu_k_put_in:d8 K "put_in" "Keeper.put_in" CI t.f_q1a t.fd_q1a
 bi_k_put_in:cB K t.fd_q1a ["self","mark"] []
 me_k_put_in:dW K t.c_Ob "put_in" t.f_q1a
 fu_k_take_out:d8 K "take_out" "Keeper.take_out" CJ t.f_q10 t.fd_q10
 bi_k_take_out:cB K t.fd_q10 ["self","mark"] []
 me_k_take_out:dW K t.c_Ob "take_out" t.f_q10
 fu_k_go_on:d8 K "go_on" "Keeper.go_on" CK t.f_q1d t.fd_q1d
 bi_k_go_on:cB K t.fd_q1d ["self","book","marks"] []
 me_k_go_on:dW K t.c_Ob "go_on" t.f_q1d
 fu_k_rows:d8 K "rows" "Keeper.rows" CL t.f_q1f t.fd_q1f
 bi_k_rows:cB K t.fd_q1f ["self"] []
 me_k_rows:dW K t.c_Ob "rows" t.f_q1f
 fu_k_marks_now:d8 K "marks_now" "Keeper.marks_now" CM t.f_qd t.fd_qd
 bi_k_marks_now:cB K t.fd_qd ["self"] []
 me_k_marks_now:dW K t.c_Ob "marks_now" t.f_qd
 fu_k_entries_now:d8 K "entries_now" "Keeper.entries_now" CN t.f_q4 t.fd_q4
 bi_k_entries_now:cB K t.fd_q4 ["self"] []
 me_k_entries_now:dW K t.c_Ob "entries_now" t.f_q4
 int:mg "int" = none
 isinstance:mg "isinstance" = none
 len:mg "len" = none
 list:mg "list" = none
 min:mg "min" = none
 range:mg "range" = none
 sorted:mg "sorted" = none
 str:mg "str" = none
 tuple:mg "tuple" = none
 nol:xz K
 ob:fC K t.c_Ob
 mK:mg "Keeper" = some (.ref t.c_Ob)
 cl:gI K t.c_Ob
 mkI:Mk K t.c_Ob t.f_q22
 na_book:gx K t.c_Ob "book"
 na_most:gx K t.c_Ob "most"
 na_first:gx K t.c_Ob "first"
 na_marks:gx K t.c_Ob "marks"
 na_known:gx K t.c_Ob "known"
 c_LETTERS_AND_FIGURES:mg "LETTERS_AND_FIGURES" = some (.str CS t.tk_LETTERS_AND_FIGURES)
section
variable {K:Fg1}{t:Adr}
def T9(T:Txt K mg t):aG P w K mg base aZ 1 t.f_q25 t.fd_q25 ["book","most","first"] (cw K 3 Bl):=by
 exact dZ (k:=0) (fs:=f_q25) rfl rfl rfl T.d_q25.F oD λ b A a s H E B c=>(bN (qO (i:=3) oD.nd rfl 'i' (o7 aX))
   (bN (@cN _ _ _ _ _ 4 _ _ oD.nd rfl 'i' (aS 2) rfl 'j')
   (bN (@cN _ _ _ _ _ 5 _ _ oD.nd rfl 'i' aJ rfl 'j')
   (bN (jL PassesOwn.never rfl (h9 (aS 0)) (bW (i:=6) oD.nd rfl 'i') (bN (eX (PW.pt (qF (b8 sY tK (ay 5) (av aJ) (bV _)) (qE (PW.pt (qG (nE (aS 6)) (wh (b8 vW wx (ay 5) (ay 1) (bV _)))))))) (bN (@cN _ _ _ _ _ 4 _ _ oD.nd rfl 'i' (aU cC cD (ay 4) (av aJ)) rfl 'j')
   (bF (@cN _ _ _ _ _ 5 _ _ oD.nd rfl (ac rfl) aJ rfl 'j'))) e8)
   (bN (@cN _ _ _ _ _ 5 _ _ oD.nd rfl 'i' (aU cC cD (ay 5) (av aJ)) rfl 'j')
   (bF (qP (i:=3) rfl (aS 4))))))
   (wF 3 (bF (cG (aS 3))))))))
def JK(T:Txt K mg t):aG P w K mg base aZ 1 t.f_q24 t.fd_q24 ["head"] (cw K 1 uR):=by
 exact dZ (k:=0) (fs:=f_q24) rfl rfl rfl T.d_q24.F JC λ b A a s H E B c=>(bN (eX (b8 (Ez c) EB (av (f9 (l:=[124]) 'd')) (ay 0) (by with_unfolding_all rfl)) (bF (cG (aS 0))) e8)
   (bN (@cN _ _ _ _ _ 1 _ _ JC.nd rfl 'i' (ER plainAttrs_str PySem.F.slot_str_index PySem.F.type_str_index No Ot (ay 0) (cy (av (f9 (l:=[124]) 'd')) dA)) rfl 'j')
   (bF (cG (aU cC cD (av (aU cC cD (av (h7 (ay 0) (fP (av (aU cC cD (ay 1) (av aJ)))) j8)) (av (f9 (l:=[44,32]) 'd')))) (av (h7 (ay 0) j8 (fP (ay 1)))))))))
def Ua(T:Txt K mg t):aG P w K mg base aZ 2 t.f_q23 t.fd_q23 ["head"] (cw K 1 xZ):=by
 exact dZ (k:=1) (fs:=f_q23) rfl rfl rfl T.d_q23.F TM λe A a s H E B c=>(bF (cG (Op plainAttrs_str PySem.F.slot_str_lower PySem.F.type_str_lower Nn Os (av (ER plainAttrs_str PySem.F.slot_str_join PySem.F.type_str_join Np Ou (av (f9 (l:=[]) 'd')) (cy (av (fQ (lN rfl (vars:=["sign"]) (cap:=[]) (jG [] rfl 'd' 'd' 'd' .nil) (jH .nil) 'd' 'd' (kU (av (dG (JK T) (c.mono 'd') 'r' T.d_q24.m T.d_q24.F.kp T.d_q24.b (aE (aS 0) aX)))) (λ_ _ _ _=>(bW (i:=0) (show Nodup (["sign"]:U8) by decide) rfl (ac rfl))) (λ_ _ _ _=>(tO (b8 (N7 c) N8 (ay 0) (av (OG (x:=CS) (l:=LF) 'd' 'r' T.c_LETTERS_AND_FIGURES)) (by with_unfolding_all rfl)))) (λ_ _ _ _=>(aS 0))))) dA))))))
def yQ(T:Txt K mg t):aG P w K mg base aZ 3 t.f_q26 t.fd_q26 ["path"] (cw K 1 iy):=by
 exact dZ (k:=2) (fs:=f_q26) rfl rfl rfl T.d_q26.F TN λe A a s H E B c=>(bF (cG (fQ (lN rfl (vars:=["head"]) (cap:=[]) (jG [] rfl 'd' 'd' 'd' .nil) (jH .nil) 'd' 'd' (kU (ay 0)) (λ_ _ _ _=>(bW (i:=0) (show Nodup (["head"]:U8) by decide) rfl (ac rfl))) (λ_ _ _ _=>o6) (λ_ _ _ _=>(hV (aE (dG (Ua T) (c.mono 'd') 'r' T.d_q23.m T.d_q23.F.kp T.d_q23.b (aE (aS 0) aX)) (aE (dG (JK T) (c.mono 'd') 'r' T.d_q24.m T.d_q24.F.kp T.d_q24.b (aE (aS 0) aX)) aX))))))))
def Ub(T:Txt K mg t):aG P w K mg base aZ 1 t.f_q28 t.fd_q28 ["mark","many"] (cw K 2 x2):=by
 exact dZ (k:=0) (fs:=f_q28) rfl rfl rfl T.d_q28.F TQ λb A a s H E B c=>(bF (cG (PR sX sX D7 (av aJ) (av (cA (ay 0) (av aJ) (λ_ _=>rfl))) (av (cA (ay 0) (av aJ) (λ_ _=>rfl))) (ay 1))))
def JL(T:Txt K mg t):aG P w K mg base aZ 1 t.f_q20 t.fd_q20 ["path"] (cw K 1 rN):=by
 exact dZ (k:=0) (fs:=f_q20) rfl rfl rfl T.d_q20.F TR λb A a s H E B c=>(bF (cG (o5 DJ EN 'r' T.tuple zX (cy (av (o5 vY Aj 'r' T.list qC (cy (ay 0) dA))) dA))))
def Uc(T:Txt K mg t):aG P w K mg base aZ 4 t.f_q15 t.fd_q15 ["mark"] (cw K 1 l7):=by
 exact dZ (k:=3) (fs:=f_q15) rfl rfl rfl T.d_q15.F TU λc A a s H E B e=>(bF (cG (hV (aE (dG (yQ T) (e.mono 'd') 'r' T.d_q26.m T.d_q26.F.kp T.d_q26.b (aE (cA (ay 0) (av aJ) (λ_ _=>rfl)) aX)) (aE (cA (ay 0) (av aJ) (λ_ _=>rfl)) (aE (cA (ay 0) (av aJ) (λ_ _=>rfl)) (aE (cA (ay 0) (av aJ) (λ_ _=>rfl)) aX)))))))
def p9(T:Txt K mg t):aG P w K mg base aZ 6 t.f_q21 t.fd_q21 ["hands"] (mN K 1 g8):=by
 exact wG (k:=5) (fs:=f_q21) rfl rfl rfl T.d_q21.F pY λe A a s H E B c=>(Pv (j:=1) [2,0,0,1] pY.nd rfl (ac rfl) (FU me rfl (h9 (aS 0)) (bW (i:=2) pY.nd rfl (ac rfl)) 'd' (kY 'd') (FV (FU me rfl (h9 (aS 2)) (mM rfl (dY (bW (i:=3) pY.nd rfl (ac rfl)) (dY (bW (i:=4) pY.nd rfl (ac rfl)) (dY (bW (i:=5) pY.nd rfl (ac rfl)) (dY (bW (i:=6) pY.nd rfl (ac rfl)) mL))))) 'd' (AH (nQ (kY 'd') (nQ (kY 'd') (nQ (kY 'd') (nQ (kY 'd') AG))))) (FV (Pr c rfl (hV (aE (dG (JL T) (c.mono 'd') 'r' T.d_q20.m T.d_q20.F.kp T.d_q20.b (aE (aS 3) aX)) (aE (aS 4) (aE (aS 5) (aE (aS 6) aX)))))))))) rfl (Uc T) (c.mono 'd').in2 'r' T.sorted 'r' T.d_q15.m T.d_q15.b)
def Ud(T:Txt K mg t):aG P w K mg base aZ 1 t.f_q1b t.fd_q1b ["stretch","page","is_strong"] (cw K 3 uS):=by
 exact dZ (k:=0) (fs:=f_q1b) rfl rfl rfl T.d_q1b.F TV λc A a s H E B b=>(bF (cG (Ep (mE (eo b) et (av (aU cC cD (av (cA (ay 0) (av aJ) (λ_ _=>rfl))) (av aJ))) (ay 1) (bV _)) (Ac (mE (eo b) et (av (cA (ay 0) (av aJ) (λ_ _=>rfl))) (ay 2) (bV _))))))
def Ue(T:Txt K mg t):aG P w K mg base aZ 1 t.f_q1 t.fd_q1 ["numbers","marks"] (cw K 2 Bm):=by
 exact dZ (k:=0) (fs:=f_q1) rfl rfl rfl T.d_q1.F pZ λ c A a s H E B b=>(bN (OZ (j:=2) pZ.nd rfl 'i')
   (bN (jL PassesOwn.never rfl (h9 (aS 1)) (mM rfl (dY (bW (i:=3) pZ.nd rfl 'i') (dY (bW (i:=4) pZ.nd rfl 'i') (dY (bW (i:=5) pZ.nd rfl 'i') (dY (bW (i:=6) pZ.nd rfl 'i') mL))))) (bF (jL PassesOwn.never rfl (h9 (h7 (ay 0) (fP (ay 4)) (fP (av (aU cC cD (ay 5) (av aJ)))))) (bW (i:=7) pZ.nd rfl 'i') (bF (Fm (j:=2) b rfl (ay 7) (N2 (aS 6) (Ac (O0 b (ay 2) (ay 7) i3))))))))
   (O7 2 (bF (cG (aS 2))))))
def Uf(T:Txt K mg t):aG P w K mg base aZ 2 t.f_q17 t.fd_q17 ["numbers","marks"] (mN K 2 Bn):=by
 exact wG (k:=1) (fs:=f_q17) rfl rfl rfl T.d_q17.F yL λ e A c s H E B a=>(bN (@cN _ _ _ _ _ 2 _ _ yL.nd rfl 'i' (dG (Ue T) (a.mono 'd') 'r' T.d_q1.m T.d_q1.F.kp T.d_q1.b (aE (aS 0) (aE (aS 1) aX))) rfl 'j')
   (bN (qO (i:=3) yL.nd rfl 'i' (o7 aX))
   (bN (jL PassesOwn.never rfl (h9 (fQ (O6 rfl 'r' T.sorted (cy (ay 2) dA)))) (bW (i:=4) yL.nd rfl 'i') (bF (eX (PW.pt (qF (b8 sY tK (av (j9 kQ kR 'r' T.len kL (cy (ay 3) dA))) (av aJ) (bV _)) (qE (nE (dG (Ud T) (a.mono 'd') 'r' T.d_q1b.m T.d_q1b.F.kp T.d_q1b.b (aE (cA (ay 3) (av (Ai aJ)) 'k') (aE (aS 4) (aE (wP a (ay 2) (ay 4) 'k') aX)))))))) (bF (O8 (j:=3) rfl (av (Ai aJ)) (hV (aE (cA (av (cA (ay 3) (av (Ai aJ)) 'k')) (av aJ) 'k') (aE (aS 4) (aE (wP a (ay 2) (ay 4) 'k') aX)))))) (bF (qP (i:=3) rfl (hV (aE (aS 4) (aE (aS 4) (aE (wP a (ay 2) (ay 4) 'k') aX)))))))))
   (bF (OD 3)))))
def Ug(T:Txt K mg t):aG P w K mg base aZ 1 t.f_q2 t.fd_q2 ["ordered"] (cw K 1 Bo):=by
 exact dZ (k:=0) (fs:=f_q2) rfl rfl rfl T.d_q2.F vu λ c A a s H E B b=>(P9 (j:=1) vu.nd rfl 'i' (xr PassesOwn.never rfl (h9 (aS 0)) (bW (i:=2) vu.nd rfl 'i') 'd' (kY 'd') pA
   (Gc (P8 (i:=3) 'd' vu.nd rfl 'i' (cA (ay 2) (av aJ) 'k'))
   (Gc (xr PassesOwn.never rfl (Ox 'r' T.range (cy (av aJ) (cy (av (j9 kQ kR 'r' T.len kL (cy (ay 3) dA))) dA))) (bW (i:=4) vu.nd rfl 'i') 'd' (kY 'd') pA
   (xm (P6 b rfl (av (h7 (ay 3) j8 (fP (ay 4)))) ⟨rfl,rfl,rfl,rfl⟩)))
   (xm (P7 b rfl (ay 3) (aS 2) ⟨rfl,rfl,rfl,rfl⟩))))))
def Uh(T:Txt K mg t):aG P w K mg base aZ 2 t.f_q5 t.fd_q5 ["ordered","many"] (cw K 2 Bp):=by
 exact dZ (k:=1) (fs:=f_q5) rfl rfl rfl T.d_q5.F JD λc A a s H E B e=>(bF (jL me rfl (h9 (aS 0)) (bW (i:=2) JD.nd rfl (ac rfl)) (bF (eX (qD (nE (dG (Ub T) (e.mono 'd') 'r' T.d_q28.m T.d_q28.F.kp T.d_q28.b (aE (aS 2) (aE (aS 1) aX))))) (bF AN) e8))))
def vy(T:Txt K mg t):aG P w K mg base aZ 8 t.f_q1c t.fd_q1c ["book","most","first","marks"] (rd K 4 lx):=by
 exact F5 (k:=7) (fs:=f_q1c) rfl rfl rfl T.d_q1c.F yM λ e A c s H E B a=>(wZ nR (@cN _ _ _ _ _ 4 _ _ yM.nd rfl 'i' (fQ (nK (p9 T) (a.mono 'd') 'r' T.d_q21.m T.d_q21.F.kp T.d_q21.b (aE (fN (aE (aS 3) aX)) aX))) rfl 'j')
   (wZ Qy (OC (dG (Uh T) (a.mono 'd') 'r' T.d_q5.m T.d_q5.F.kp T.d_q5.b (aE (aS 4) (aE (j9 kQ kR 'r' T.len kL (cy (ay 0) dA)) aX))))
   (wZ nR (@cN _ _ _ _ _ 5 _ _ yM.nd rfl (Or.inr rfl) (dG (T9 T) (a.mono 'd') 'r' T.d_q25.m T.d_q25.F.kp T.d_q25.b (aE (aS 0) (aE (aS 1) (aE (aS 2) aX)))) rfl 'j')
   (wZ nR (@cN _ _ _ _ _ 6 _ _ yM.nd rfl (Or.inr rfl) (dG (Ug T) (a.mono 'd') 'r' T.d_q2.m T.d_q2.F.kp T.d_q2.b (aE (aS 4) aX)) rfl 'j')
   (F4 (PP rfl (vars:=["path"]) (cap:=[5,6]) (jG ["numbers","found"] rfl 'd' 'd' 'd' (.cons (ac rfl) (.cons (ac rfl) .nil))) (jH (.cons (⟨kc 'r',kc 'r'⟩) (.cons (⟨kc 'r',kc 'r'⟩) .nil))) 'd' 'd' (kU (av (fQ (PX rfl (yQ T) (a.mono 'd').in2 'r' T.sorted 'r' T.d_q26.m T.d_q26.b (ay 6))))) (λ_ _ _ _=>(bW (i:=0) (show Nodup (["path","numbers","found"]:U8) by decide) rfl (ac rfl))) (λ_ _ _ _=>o6) (λ_ _ _ _=>(PJ (aS 0) (nK (Uf T) (a.mono 'd') 'r' T.d_q17.m T.d_q17.F.kp T.d_q17.b (aE (aS 1) (aE (wP a (ay 2) (ay 0) (λ_ _=>rfl)) aX)))))))))))
def Ui(T:Txt K mg t):aG P w K mg base aZ 1 t.f_q13 t.fd_q13 ["deed","many"] (cw K 2 Bq):=by
 exact dZ (k:=0) (fs:=f_q13) rfl rfl rfl T.d_q13.F JE λ c A a s H E B b=>(bN (@cN _ _ _ _ _ 2 _ _ JE.nd rfl 'i' (cA (ay 0) (av aJ) 'k') rfl 'j')
   (bF (cG (oU (b8 (eo b) et (av (cA (ay 0) (av aJ) (λ_ _=>rfl))) (av (f9 (l:=[112,117,116]) 'd')) (bV _)) (E8 sX (λ_ _=>rfl) sX Oa (av aJ) (ay 2) (ay 1)) (E8 sX (λ_ _=>rfl) (Ag b) Ah (av aJ) (ay 2) (ay 1))))))
def JM(T:Txt K mg t):aG P w K mg base aZ 1 t.f_qf t.fd_qf ["book","deed"] (cw K 2 x3):=by
 exact dZ (k:=0) (fs:=f_qf) rfl rfl rfl T.d_qf.F JF λ b A a s H E B c=>(bN (@cN _ _ _ _ _ 2 _ _ JF.nd rfl 'i' (cA (ay 1) (av aJ) 'k') rfl 'j')
   (bN (eX (b8 (eo c) et (av (cA (ay 1) (av aJ) 'k')) (av (f9 (l:=[112,117,116]) 'd')) (bV _)) (bF (cG (aU cC cD (av (aU cC cD (av (h7 (ay 0) j8 (fP (ay 2)))) (av (fN (aE (cA (ay 1) (av aJ) 'k') aX))))) (av (h7 (ay 0) (fP (ay 2)) j8))))) e8)
   (bF (cG (aU cC cD (av (h7 (ay 0) j8 (fP (ay 2)))) (av (h7 (ay 0) (fP (av (aU cC cD (ay 2) (av aJ)))) j8)))))))
def Uj(T:Txt K mg t):aG P w K mg base aZ 1 t.f_q11 t.fd_q11 ["marks","at"] (cw K 2 x4):=by
 exact dZ (k:=0) (fs:=f_q11) rfl rfl rfl T.d_q11.F TX λc A a s H E B b=>(bF (cG (fQ (lN rfl (vars:=["path","first","last","most"]) (cap:=[1]) (jG ["at"] rfl 'd' 'd' 'd' (.cons (ac rfl) .nil)) (jH (.cons (⟨kc 'r',kc 'r'⟩) .nil)) 'd' 'd' (kU (ay 0)) (λ_ _ _ _=>(mM rfl (dY (bW (i:=0) (show Nodup (["path","first","last","most","at"]:U8) by decide) rfl (ac rfl)) (dY (bW (i:=1) (show Nodup (["path","first","last","most","at"]:U8) by decide) rfl (ac rfl)) (dY (bW (i:=2) (show Nodup (["path","first","last","most","at"]:U8) by decide) rfl (ac rfl)) (dY (bW (i:=3) (show Nodup (["path","first","last","most","at"]:U8) by decide) rfl (ac rfl)) mL)))))) (λ_ _ _ _=>(tO (PW.pt (qG (b8 (jY b) jZ (ay 1) (ay 4) (bV _)) (wh (b8 (jY b) jZ (ay 2) (ay 4) (bV _))))))) (λ_ _ _ _=>(hV (aE (aS 0) (aE (oU (b8 sY tK (ay 1) (ay 4) (bV _)) (aU vV ww (ay 1) (av aJ)) (aS 1)) (aE (oU (b8 vW wx (ay 2) (ay 4) (bV _)) (aU vV ww (ay 2) (av aJ)) (aS 2)) (aE (aS 3) aX))))))))))
def Uk(T:Txt K mg t):aG P w K mg base aZ 1 t.f_q12 t.fd_q12 ["marks","at"] (cw K 2 x5):=by
 exact dZ (k:=0) (fs:=f_q12) rfl rfl rfl T.d_q12.F TW λb A a s H E B c=>(bF (cG (fQ (lN rfl (vars:=["path","first","last","most"]) (cap:=[1]) (jG ["at"] rfl 'd' 'd' 'd' (.cons (ac rfl) .nil)) (jH (.cons (⟨kc 'r',kc 'r'⟩) .nil)) 'd' 'd' (kU (ay 0)) (λ_ _ _ _=>(mM rfl (dY (bW (i:=0) (show Nodup (["path","first","last","most","at"]:U8) by decide) rfl (ac rfl)) (dY (bW (i:=1) (show Nodup (["path","first","last","most","at"]:U8) by decide) rfl (ac rfl)) (dY (bW (i:=2) (show Nodup (["path","first","last","most","at"]:U8) by decide) rfl (ac rfl)) (dY (bW (i:=3) (show Nodup (["path","first","last","most","at"]:U8) by decide) rfl (ac rfl)) mL)))))) (λ_ _ _ _=>o6) (λ_ _ _ _=>(hV (aE (aS 0) (aE (oU (b8 vW wx (ay 1) (ay 4) (bV _)) (aU cC cD (ay 1) (av aJ)) (aS 1)) (aE (oU (b8 vW wx (ay 2) (ay 4) (bV _)) (aU cC cD (ay 2) (av aJ)) (aS 2)) (aE (aS 3) aX))))))))))
def JN(T:Txt K mg t):aG P w K mg base aZ 7 t.f_qb t.fd_qb ["marks","deed"] (cw K 2 uT):=by
 exact dZ (k:=6) (fs:=f_qb) rfl rfl rfl T.d_qb.F JG λ e A c s H E B a=>(bN (@cN _ _ _ _ _ 2 _ _ JG.nd rfl 'i' (oU (b8 (eo a) et (av (cA (ay 1) (av aJ) 'k')) (av (f9 (l:=[112,117,116]) 'd')) (bV _)) (dG (Uk T) (a.mono 'd') 'r' T.d_q12.m T.d_q12.F.kp T.d_q12.b (aE (aS 0) (aE (cA (ay 1) (av aJ) 'k') aX))) (dG (Uj T) (a.mono 'd') 'r' T.d_q11.m T.d_q11.F.kp T.d_q11.b (aE (aS 0) (aE (cA (ay 1) (av aJ) 'k') aX)))) rfl 'j')
   (bF (cG (fQ (nK (p9 T) (a.mono 'd') 'r' T.d_q21.m T.d_q21.F.kp T.d_q21.b (aE (fN (aE (aS 2) aX)) aX))))))
def Ul(T:Txt K mg t):aG P w K mg base aZ 2 t.f_q0 t.fd_q0 ["rows"] (nU K 1 Bt):=by
 exact Gk (k:=1) (g:=Br) rfl rfl rfl T.d_q0.F yN λ e A a s H E B c=>(Gj (j:=1) yN.nd rfl 'i' (xr PassesOwn.never rfl (h9 (aS 0)) (mM rfl (dY (bW (i:=2) yN.nd rfl 'i') (dY (bW (i:=3) yN.nd rfl 'i') mL))) 'd' (AH (nQ (kY 'd') (nQ (kY 'd') AG))) (FY (wU pA (wU pA FX)))
   (xm (Gh c rfl (av (dG (JL T) (c.mono 'd') 'r' T.d_q20.m T.d_q20.F.kp T.d_q20.b (aE (aS 2) aX))) (lN rfl (vars:=["first","last","strong"]) (cap:=[]) (jG [] rfl 'd' 'd' 'd' .nil) (jH .nil) 'd' 'd' (kU (ay 3)) (λ_ _ _ _=>(mM rfl (dY (bW (i:=0) (show Nodup (["first","last","strong"]:U8) by decide) rfl (ac rfl)) (dY (bW (i:=1) (show Nodup (["first","last","strong"]:U8) by decide) rfl (ac rfl)) (dY (bW (i:=2) (show Nodup (["first","last","strong"]:U8) by decide) rfl (ac rfl)) mL))))) (λ_ _ _ _=>o6) (λ_ _ _ _=>(hV (aE (aS 0) (aE (aS 1) (aE (aS 2) aX))))))))))
def Um(T:Txt K mg t):aG P w K mg base aZ 5 t.f_q1e t.fd_q1e ["old","new"] (wY K 2 uU):=by
 exact PC (k:=4) (fs:=f_q1e) rfl rfl rfl T.d_q1e.F CO λe A c s H E B a=>(Qv (ia:=2) (ib:=3) (ip:=4) (io:=0) (inn:=1) T.nol 'd' 'd' 'd' (Ul T) (a.mono 'd') 'r' T.d_q0.m T.d_q0.F.kp T.d_q0.b CO.nd rfl rfl rfl rfl (ud rfl) (ud rfl) (Qs (ia:=2) (ib:=3) (ip:=4) (v:="path") rfl CO.nd rfl rfl rfl (ac rfl) 'r' T.list (jG ["ahead"] rfl 'd' 'd' 'd' (.cons (ac rfl) .nil)) (jH (.cons (⟨kc 'r',kc 'r'⟩) .nil)) (λ_ _ _ _=>lH (i:=0) (show Nodup (["path","ahead"]:U8) by decide) rfl (ac rfl)) (λ_ _ _ _=>DR (Dj (Qt a) (cR (i:=0) rfl (by first|exact ac rfl|exact ud (ac rfl)|exact ud (ud rfl))) (cR (i:=1) rfl (by first|exact ac rfl|exact ud (ac rfl)|exact ud (ud rfl))) (by with_unfolding_all rfl))) (λ_ _ _ _=>cR (i:=0) rfl (by first|exact ac rfl|exact ud (ac rfl)|exact ud (ud rfl)))) (λB=>(bF (cG (fQ (lN rfl (vars:=["path"]) (cap:=[2,3]) (jG ["ahead","behind"] rfl 'd' 'd' 'd' (.cons (ac rfl) (.cons (ac rfl) .nil))) (jH (.cons (⟨kc 'r',kc 'r'⟩) (.cons (⟨kc 'r',kc 'r'⟩) .nil))) 'd' 'd' (kU (av (fQ (PY rfl (yQ T) (a.mono 'd').in2 'r' T.sorted 'r' T.d_q26.m T.d_q26.b (ay 4))))) (λ_ _ _ _=>(bW (i:=0) (show Nodup (["path","ahead","behind"]:U8) by decide) rfl (ac rfl))) (λ_ _ _ _=>(tO (b8 (Gp a) Gq (av (tW a (ay 1) (ay 0))) (av (tW a (ay 2) (ay 0))) (bV _)))) (λ_ _ _ _=>(hV (aE (aS 0) (aE (tW a (ay 1) (ay 0)) (aE (tW a (ay 2) (ay 0)) aX)))))))))))
def JO(T:Txt K mg t):aG P w K mg base aZ 1 t.f_q7 t.fd_q7 ["_law_script","_law_k"] (cw K 2 ou):=by
 exact dZ (k:=0) (fs:=f_q7) rfl rfl rfl T.d_q7.F TY λ b A a s H E B c=>(bN (eX (b8 (Ag c) Ah (ay 1) (av (j9 kQ kR 'r' T.len kL (cy (ay 0) dA))) (bV _)) (bF (cG (cA (ay 0) (ay 1) 'k'))) e8)
   (bF (cG aJ)))
def Uo(T:Txt K mg t):aG P w K mg base aZ 1 t.f_q9 t.fd_q9 ["_law_cell","_law_k"] (cw K 2 uV):=by
 exact dZ (k:=0) (fs:=f_q9) rfl rfl rfl T.d_q9.F kF λ c A b s H E B a=>(bN (@cN _ _ _ _ _ 2 _ _ kF.nd rfl 'i' (f9 (l:=SG) 'd') rfl 'j')
   (bN (@cN _ _ _ _ _ 3 _ _ kF.nd rfl 'i' (f9 (l:=[]) 'd') rfl 'j')
   (bN (jL PassesOwn.never rfl (Am 'r' T.range (cy (av (aU cC cD (av aJ) (av (aU c7 c9 (ay 0) (av aJ))))) dA)) (bW (i:=4) kF.nd rfl 'i') (bF (@cN _ _ _ _ _ 3 _ _ kF.nd rfl 'i' (aU cC cD (ay 3) (av (cA (ay 2) (av (aU c7 c9 (av (aU cC cD (av (aU fB fD (ay 0) (av (aU cC cD (ay 4) (av aJ))))) (av (aU o4 o3 (av (aU o4 o3 (av aJ) (ay 4))) (ay 4))))) (av aJ))) 'k'))) rfl 'j')))
   (bN (@cN _ _ _ _ _ 5 _ _ kF.nd rfl 'i' (aU c7 c9 (av (aU fB fD (ay 0) (av aJ))) (av (aU cC cD (av (j9 kQ kR 'r' T.len kL (cy (ay 3) dA))) (av aJ)))) rfl 'j')
   (bN (@cN _ _ _ _ _ 6 _ _ kF.nd rfl 'i' (aU cC cD (av (aU cC cD (av (h7 (ay 3) j8 (fP (ay 5)))) (av (o5 Lf O9 'r' T.str Ng (cy (av (aU fB fD (ay 1) (av aJ))) dA))))) (av (h7 (ay 3) (fP (ay 5)) j8))) rfl 'j')
   (bN (@cN _ _ _ _ _ 7 _ _ kF.nd rfl 'i' (aU c7 c9 (av (aU cC cD (av (aU fB fD (ay 0) (av aJ))) (av (aU fB fD (ay 1) (av aJ))))) (av aJ)) rfl 'j')
   (bN (eX (b8 (eo a) et (ay 7) (av aJ) (bV _)) (bF (@cN _ _ _ _ _ 6 _ _ kF.nd rfl 'i' (aU cC cD (av (aU cC cD (ay 6) (av (f9 (l:=[124]) 'd')))) (ay 3)) rfl 'j')) e8)
   (bN (eX (b8 (eo a) et (ay 7) (av aJ) (bV _)) (bF (@cN _ _ _ _ _ 6 _ _ kF.nd rfl 'i' (aU cC cD (av (aU cC cD (av (aU cC cD (av (aU cC cD (ay 6) (av (f9 (l:=[124]) 'd')))) (av (h7 (ay 3) j8 (fP (av aJ)))))) (av (f9 (l:=[32]) 'd')))) (av (h7 (ay 3) j8 (fP (av aJ))))) rfl 'j')) e8)
   (bN (eX (b8 (eo a) et (ay 7) (av aJ) (bV _)) (bF (@cN _ _ _ _ _ 6 _ _ kF.nd rfl 'i' (aU cC cD (av (aU cC cD (ay 3) (av (f9 (l:=[32]) 'd')))) (ay 6)) rfl 'j')) e8)
   (bN (eX (b8 (eo a) et (ay 7) (av aJ) (bV _)) (bF (@cN _ _ _ _ _ 6 _ _ kF.nd rfl 'i' (aU cC cD (av (f9 (l:=[45]) 'd')) (ay 6)) rfl 'j')) e8)
   (bN (eX (b8 (eo a) et (av (aU c7 c9 (ay 1) (av aJ))) (av aJ) (bV _)) (bF (cG (aU cC cD (ay 6) (av (f9 (l:=[45]) 'd'))))) e8)
   (bF (cG (aS 6))))))))))))))
def Uq(T:Txt K mg t):aG P w K mg base aZ 2 t.f_q8 t.fd_q8 ["_law_number","_law_by"] (cw K 2 x6):=by
 exact dZ (k:=1) (fs:=f_q8) rfl rfl rfl T.d_q8.F JH λ c A a s H E B e=>(bN (@cN _ _ _ _ _ 2 _ _ JH.nd rfl 'i' (cA (av (fN (aE aJ (aE aJ (aE aJ (aE aJ (aE aJ (aE aJ aX)))))))) (av (aU c7 c9 (ay 0) (av aJ))) 'k') rfl 'j')
   (bF (cG (o5 DJ EN 'r' T.tuple zX (cy (av (fQ (lN rfl (vars:=["_law_j"]) (cap:=[0,1]) (jG ["_law_number","_law_by"] rfl 'd' 'd' 'd' (.cons (ac rfl) (.cons (ac rfl) .nil))) (jH (.cons (⟨kc 'r',kc 'r'⟩) (.cons (⟨kc 'r',kc 'r'⟩) .nil))) 'd' 'd' (Ov (Am 'r' T.range (cy (ay 2) dA))) (λ_ _ _ _=>(bW (i:=0) (show Nodup (["_law_j","_law_number","_law_by"]:U8) by decide) rfl (ac rfl))) (λ_ _ _ _=>o6) (λ_ _ _ _=>(dG (Uo T) (e.mono 'd') 'r' T.d_q9.m T.d_q9.F.kp T.d_q9.b (aE (aS 2) (aE (aU c7 c9 (av (aU fB fD (ay 1) (av (aU cC cD (av aJ) (av (aU o4 o3 (av aJ) (ay 0))))))) (av aJ)) aX))))))) dA)))))
def Ur(T:Txt K mg t):aG P w K mg base aZ 1 t.f_q19 t.fd_q19 ["_law_cells"] (cw K 1 Bu):=by
 exact dZ (k:=0) (fs:=f_q19) rfl rfl rfl T.d_q19.F TZ λb A a s H E B c=>(bF (cG (fQ (lN rfl (vars:=["_law_cell"]) (cap:=[]) (jG [] rfl 'd' 'd' 'd' .nil) (jH .nil) 'd' 'd' (kU (ay 0)) (λ_ _ _ _=>(bW (i:=0) (show Nodup (["_law_cell"]:U8) by decide) rfl (ac rfl))) (λ_ _ _ _=>o6) (λ_ _ _ _=>(mE (eo c) et (av (aU c7 c9 (ay 0) (av aJ))) (av aJ) (bV _)))))))
def Us(T:Txt K mg t):aG P w K mg base aZ 1 t.f_q6 t.fd_q6 ["_law_by"] (cw K 1 Bv):=by
 exact dZ (k:=0) (fs:=f_q6) rfl rfl rfl T.d_q6.F JI λ b A a s H E B c=>(bN (@cN _ _ _ _ _ 1 _ _ JI.nd rfl 'i' (cA (av (fN (aE (aU cC cD (av aJ) (av (aU c7 c9 (ay 0) (av aJ)))) (aE (aU cC cD (av aJ) (av (aU c7 c9 (av (aU o4 o3 (ay 0) (av aJ))) (av (aU D6 EC (av aJ) (av aJ)))))) aX)))) (av (o5 MY Oi 'r' T.int Nf (cy (av (mE (eo c) et (av (aU c7 c9 (av (aU fB fD (ay 0) (av aJ))) (av aJ))) (av aJ) (bV _))) dA))) 'k') rfl 'j')
   (bF (cG (hV (aE (aS 1) (aE (cA (av (fN (aE (aU c7 c9 (av (aU fB fD (ay 0) (av aJ))) (av aJ)) (aE (aU c7 c9 (av (aU o4 o3 (ay 0) (av aJ))) (av (aU vV ww (av (aU D6 EC (av aJ) (av aJ))) (av aJ)))) aX)))) (av (aU c7 c9 (av (aU fB fD (ay 0) (av aJ))) (av aJ))) (λ_ _=>rfl)) aX))))))
def JP(T:Txt K mg t):aG P w K mg base aZ 3 t.f_q16 t.fd_q16 ["_law_cells","_law_many","_law_by"] (cw K 3 uW):=by
 exact dZ (k:=2) (fs:=f_q16) rfl rfl rfl T.d_q16.F sC λ e A a s H E B c=>(bN (qO (i:=3) sC.nd rfl 'i' (o7 aX))
   (bN (jL PassesOwn.never rfl (h9 (aS 0)) (bW (i:=4) sC.nd rfl 'i') (bN (@cN _ _ _ _ _ 5 _ _ sC.nd rfl 'i' (aU c7 c9 (av (aU o4 o3 (ay 4) (av aJ))) (av aJ)) rfl 'j')
   (bF (eX (b8 sY tK (ay 1) (av aJ) (bV _)) (bN (@cN _ _ _ _ _ 6 _ _ sC.nd rfl 'i' (aU c7 c9 (av (aU fB fD (ay 5) (av aJ))) (ay 1)) rfl 'j')
   (bN (@cN _ _ _ _ _ 7 _ _ sC.nd rfl 'i' (j9 (Ld rfl) Oj 'r' T.min Nd (cy (av (aU vV ww (ay 1) (av aJ))) (cy (av (aU cC cD (ay 6) (av (cA (av (fN (aE aJ (aE aJ (aE aJ (aE aJ (aE (aU c7 c9 (av (aU fB fD (ay 5) (av aJ))) (av aJ)) (aE (aS 1) aX)))))))) (av (aU c7 c9 (av (aU fB fD (ay 5) (av aJ))) (av aJ))) 'k')))) dA))) rfl 'j')
   (bF (qP (i:=3) rfl (hV (aE (dG (Uq T) (c.mono 'd') 'r' T.d_q8.m T.d_q8.F.kp T.d_q8.b (aE (aS 5) (aE (aS 2) aX))) (aE (aS 6) (aE (aS 7) (aE (mE (eo c) et (av (aU c7 c9 (av (aU fB fD (ay 5) (av aJ))) (av aJ))) (av aJ) (bV _)) aX))))))))) e8))))
   (wF 3 (bF (cG (aS 3))))))
def Ut(T:Txt K mg t):aG P w K mg base aZ 1 t.f_qa t.fd_qa ["_law_number","_law_many"] (cw K 2 Bw):=by
 exact dZ (k:=0) (fs:=f_qa) rfl rfl rfl T.d_qa.F T0 λ c A a s H E B b=>(bN (eX (PW.pt (qG (b8 (eo b) et (av (aU c7 c9 (ay 0) (av aJ))) (av aJ) (bV _)) (wh (b8 (eo b) et (ay 1) (av aJ) (bV _))))) (bF (cG (hV (aE (f9 (l:=[112,117,116]) 'd') (aE (aU c7 c9 (av (aU fB fD (ay 0) (av aJ))) (av (aU cC cD (ay 1) (av aJ)))) (aE (mE (eo b) et (av (aU c7 c9 (av (aU fB fD (ay 0) (av aJ))) (av aJ))) (av aJ) (bV _)) aX)))))) e8)
   (bF (cG (hV (aE (f9 (l:=[99,117,116]) 'd') (aE (aU c7 c9 (av (aU fB fD (ay 0) (av aJ))) (ay 1)) aX))))))
def JQ(T:Txt K mg t):aG P w K mg base aZ 1 t.f_qc t.fd_qc ["_law_rows"] (nU K 1 uX):=by
 exact Gk (k:=0) (g:=Bx) rfl rfl rfl T.d_qc.F yO λ b A a s H E B c=>(Gj (j:=1) yO.nd rfl 'i' (xr PassesOwn.never rfl (h9 (aS 0)) (mM rfl (dY (bW (i:=2) yO.nd rfl 'i') (dY (bW (i:=3) yO.nd rfl 'i') mL))) 'd' (AH (nQ (kY 'd') (nQ (kY 'd') AG))) (FY (wU pA (wU pA FX)))
   (xm (Gh c rfl (ay 2) (tP 'r' T.list (cy (ay 3) dA))))))
def Uu(T:Txt K mg t):aG P w K mg base aZ 4 t.f_q14 t.fd_q14 ["_law_told","_law_ahead","_law_behind"] (cw K 3 rO):=by
 exact dZ (k:=3) (fs:=f_q14) rfl rfl rfl T.d_q14.F yP λ e A c s H E B a=>(bN (eX (qD (nE (EO On 'r' T.isinstance (C1 (v:=.ty "list") 'r' T.list qC rfl) (ay 0)))) (bF (cG i3)) e8)
   (bN (Q3 (i:=3) (JQ T) (a.mono 'd') 'r' T.d_qc.m T.d_qc.F.kp T.d_qc.b (aE (aS 1) aX) yP.nd rfl 'i')
   (bN (jL PassesOwn.never rfl (h9 (aS 0)) (bW (i:=4) yP.nd rfl 'i') (bN (eX (PW.pt (qG (qD (nE (EO Oo 'r' T.isinstance (C1 (v:=.ty "tuple") 'r' T.tuple zX rfl) (ay 4)))) (qG (b8 (jY a) jZ (av (j9 kQ kR 'r' T.len kL (cy (ay 4) dA))) (av aJ) (bV _)) (qG (b8 (Q6 a) Q7 (av (cA (ay 4) (av aJ) 'k')) (av (cA (ay 4) (av aJ) 'k')) (bV _)) (wh (b8 (Gp a) Gq (av (tW a (ay 3) (av (cA (ay 4) (av aJ) 'k')))) (av (cA (ay 4) (av aJ) 'k')) (bV _))))))) (bF (cG i3)) e8)
   (bF (eX (b8 E9 Fa (av (cA (ay 4) (av aJ) (λ_ _=>rfl))) (av Ab) (bV _)) (bF (QX (j:=3) a rfl (cA (ay 4) (av aJ) (λ_ _=>rfl)) ⟨rfl,rfl,rfl,rfl⟩)) (bF (Fm (j:=3) a rfl (av (cA (ay 4) (av aJ) (λ_ _=>rfl))) (o5 vY Aj 'r' T.list qC (cy (av (cA (ay 4) (av aJ) (λ_ _=>rfl))) dA))))))))
   (bN (OA (i:=5) yP.nd rfl rfl rfl (vars:=["_law_row"]) (cap:=[]) (jG [] rfl 'd' 'd' 'd' .nil) (jH .nil) 'd' 'd' (kU (ay 0)) (λ _ _ _ _=>(bW (i:=0) (show Nodup (["_law_row"]:U8) by decide) rfl 'i')) (λ _ _ _ _=>o6) (λ _ _ _ _=>(dG (yQ T) (a.mono 'd') 'r' T.d_q26.m T.d_q26.F.kp T.d_q26.b (aE (cA (ay 0) (av aJ) 'k') aX))))
   (bF (cG (Ep (mE (eo a) et (ay 5) (av (fQ (Q9 a 'r' T.sorted (ay 5)))) (bV _)) (Ac (mE (Q1 a) Q2 (ay 3) (av (Q4 (JQ T) (a.mono 'd') 'r' T.d_qc.m T.d_qc.F.kp T.d_qc.b (aE (aS 2) aX))) (bV _))))))))))
def Uv(T:Txt K mg t):aG P w K mg base aZ 1 t.f_qe t.fd_qe ["_law_told"] (cw K 1 uY):=by
 exact dZ (k:=0) (fs:=f_qe) rfl rfl rfl T.d_qe.F vw λ b A a s H E B c=>(bN (qO (i:=1) vw.nd rfl 'i' (o7 aX))
   (bN (jL PassesOwn.never rfl (h9 (aS 0)) (bW (i:=2) vw.nd rfl 'i') (bN (qO (i:=3) vw.nd rfl 'i' (o7 aX))
   (bN (jL PassesOwn.never rfl (h9 (h7 (ay 2) (fP (av aJ)) j8)) (bW (i:=4) vw.nd rfl 'i') (bF (qP (i:=3) rfl (oU (b8 E9 Fa (ay 4) (av Ab) (bV _)) Ab (o5 vY Aj 'r' T.list qC (cy (ay 4) dA))))))
   (bF (qP (i:=1) rfl (hV (aE (cA (ay 2) (av aJ) (λ_ _=>rfl)) (aE (cA (ay 3) (av aJ) (λ_ _=>rfl)) (aE (cA (ay 3) (av aJ) (λ_ _=>rfl)) aX)))))))))
   (wF 1 (bF (cG (aS 1))))))
def Uw(T:Txt K mg t):aG P w K mg base aZ 1 t.f_law_spoil t.fd_law_spoil ["_law_told"] AS:=by
 exact Qc (k:=0) rfl 'd' T.d_law_spoil.F JJ λb A a s H E c=>(Qb (i:=0) (j:=1) (l:=2) 'd' 'd' 'd' rfl me JJ.nd rfl rfl rfl (ac rfl) (ac rfl) yS CY C0)
def CT(T:Txt K mg t):aG P w K mg base aZ 9 t.f_q1d t.fd_q1d ["self","book","marks"] (nY K 3 (rF K) rP):=by
 exact uE (k:=8) (fs:=f_q1d) rfl rfl rfl 'd' T.fu_k_go_on CQ λ e A a s H E B c=>(pP nR (@cN _ _ _ _ _ 3 _ _ CQ.nd rfl 'i' (xF (uB (vy T) (c.mono 'd') 'r' T.d_q1c.m T.d_q1c.F.kp T.d_q1c.b (aE (aS 1) (aE (fH T.ob T.cl T.na_most (ay 0)) (aE (fH T.ob T.cl T.na_first (ay 0)) (aE (aS 2) aX)))))) rfl 'j')
   (QC (i:=4) CQ.nd rfl 'i' (PD (Um T) (c.mono 'd') 'r' T.d_q1e.m T.d_q1e.F.kp T.d_q1e.b (aE (fH T.ob T.cl T.na_known (ay 0)) (aE (aS 3) aX)))
   (A4 (i:=4) (j:=0) T.ob T.cl T.na_book rfl (aS 1)
   (A4 (i:=4) (j:=0) T.ob T.cl T.na_marks rfl (aS 2)
   (A4 (i:=4) (j:=0) T.ob T.cl T.na_known rfl (aS 3)
   (QD (i:=4) rfl))))))
def JR(T:Txt K mg t):aG P w K mg base aZ 10 t.f_q27 t.fd_q27 ["self","deed"] (nY K 2 (rF K) rQ):=by
 exact uE (k:=9) (fs:=f_q27) rfl rfl rfl 'd' T.fu_k_do T3 λ e A c s H E B a=>(pP (F2 F6 F1) (eX (qD (nE (dG (Ui T) (a.mono 'd') 'r' T.d_q13.m T.d_q13.F.kp T.d_q13.b (aE (aS 1) (aE (j9 kQ kR 'r' T.len kL (cy (av (fH T.ob T.cl T.na_book (ay 0))) dA)) aX))))) (bF AN) e8)
   (n6 (n0 (j:=0) T.ob T.cl T.me_k_go_on (CT T) (a.mono 'd') T.bi_k_go_on rfl (aE (dG (JM T) (a.mono 'd') 'r' T.d_qf.m T.d_qf.F.kp T.d_qf.b (aE (fH T.ob T.cl T.na_book (ay 0)) (aE (aS 1) aX))) (aE (dG (JN T) (a.mono 'd') 'r' T.d_qb.m T.d_qb.F.kp T.d_qb.b (aE (fH T.ob T.cl T.na_marks (ay 0)) (aE (aS 1) aX))) aX)) (eY (eY lu)))))
def JS(T:Txt K mg t):aG P w K mg base aZ 10 t.f_q1a t.fd_q1a ["self","mark"] (nY K 2 (rF K) x8):=by
 exact uE (k:=9) (fs:=f_q1a) rfl rfl rfl 'd' T.fu_k_put_in T4 λe A a s H E B c=>(n6 (n0 (j:=0) T.ob T.cl T.me_k_go_on (CT T) (c.mono 'd') T.bi_k_go_on rfl (aE (fH T.ob T.cl T.na_book (ay 0)) (aE (fQ (nK (p9 T) (c.mono 'd') 'r' T.d_q21.m T.d_q21.F.kp T.d_q21.b (aE (fN (aE (fH T.ob T.cl T.na_marks (ay 0)) (aE (fN (aE (aS 1) aX)) aX))) aX))) aX)) (eY (eY lu))))
def Ux(T:Txt K mg t):aG P w K mg base aZ 10 t.f_q10 t.fd_q10 ["self","mark"] (nY K 2 (rF K) By):=by
 exact uE (k:=9) (fs:=f_q10) rfl rfl rfl 'd' T.fu_k_take_out T5 λ c A a s H E B b=>(pP (F2 F6 F1) (eX (b8 (Ez b) EB (ay 1) (av (fH T.ob T.cl T.na_marks (ay 0))) (by with_unfolding_all rfl)) (bF AN) e8)
   (n6 (n0 (j:=0) T.ob T.cl T.me_k_go_on (CT T) (b.mono 'd') T.bi_k_go_on rfl (aE (fH T.ob T.cl T.na_book (ay 0)) (aE (fQ (lN rfl (vars:=["own"]) (cap:=[1]) (jG ["mark"] rfl 'd' 'd' 'd' (.cons (ac rfl) .nil)) (jH (.cons (⟨kc 'r',kc 'r'⟩) .nil)) 'd' 'd' (kU (av (fH T.ob T.cl T.na_marks (ay 0)))) (λ_ _ _ _=>(bW (i:=0) (show Nodup (["own","mark"]:U8) by decide) rfl (ac rfl))) (λ_ _ _ _=>(tO (b8 (jY b) jZ (ay 0) (ay 1) (bV _)))) (λ_ _ _ _=>(aS 0)))) aX)) (eY (eY lu)))))
def Uy(T:Txt K mg t):aG P w K mg base aZ 11 t.f_q18 t.fd_q18 ["_law_keeper","_law_number","_law_book_here","_law_marks_here","_law_by"] (nY K 5 (rT K) uZ):=by
 exact uE (k:=10) (fs:=f_q18) rfl rfl rfl 'd' T.d_q18.F vx λ e A c s H E B a=>(pP nR (@cN _ _ _ _ _ 5 _ _ vx.nd rfl 'i' (aU c7 c9 (ay 1) (av aJ)) rfl 'j')
   (xJ (b8 (Ag a) Ah (ay 5) (av aJ) (bV _)) (pP nR (@cN _ _ _ _ _ 6 _ _ vx.nd rfl 'i' (dG (Ut T) (a.mono 'd') 'r' T.d_qa.m T.d_qa.F.kp T.d_qa.b (aE (aU fB fD (ay 1) (av aJ)) (aE (j9 kQ kR 'r' T.len kL (cy (ay 2) dA)) aX))) rfl 'j')
   (n6 (uH (n0 (j:=0) T.ob T.cl T.me_k_do (JR T) (a.mono 'd') T.bi_k_do rfl (aE (aS 6) aX) (eY lu)) (dG (JM T) (a.mono 'd') 'r' T.d_qf.m T.d_qf.F.kp T.d_qf.b (aE (aS 2) (aE (aS 6) aX))) (dG (JN T) (a.mono 'd') 'r' T.d_qb.m T.d_qb.F.kp T.d_qb.b (aE (aS 3) (aE (aS 6) aX))))))
   (xJ (PW.pt (qF (b8 (eo a) et (ay 5) (av aJ) (bV _)) (qE (b8 (jY a) jZ (ay 3) (av (fN aX)) (bV _))))) (pP nR (@cN _ _ _ _ _ 7 _ _ vx.nd rfl (Or.inr rfl) (cA (ay 3) (av (aU c7 c9 (av (aU fB fD (ay 1) (av aJ))) (av (j9 kQ kR 'r' T.len kL (cy (ay 3) dA))))) 'k') rfl 'j')
   (xJ (b8 sY tK (av (aU c7 c9 (av (aU fB fD (ay 1) (av aJ))) (av aJ))) (av aJ) (bV _)) (n6 (uH (n0 (j:=0) T.ob T.cl T.me_k_take_out (Ux T) (a.mono 'd') T.bi_k_take_out rfl (aE (aS 7) aX) (eY lu)) (aS 2) (fQ (lN rfl (vars:=["_law_other"]) (cap:=[7]) (jG ["_law_mark"] rfl 'd' 'd' 'd' (.cons 'i' .nil)) (jH (.cons (⟨of_decide_eq_true 'r',of_decide_eq_true 'r'⟩) .nil)) 'd' 'd' (kU (ay 3)) (λ _ _ _ _=>(bW (i:=0) (show Nodup (["_law_other","_law_mark"]:U8) by decide) rfl 'i')) (λ _ _ _ _=>(tO (b8 (jY a) jZ (ay 0) (ay 1) (bV _)))) (λ _ _ _ _=>(aS 0))))))
   (n6 (uH (n0 (j:=0) T.ob T.cl T.me_k_put_in (JS T) (a.mono 'd') T.bi_k_put_in rfl (aE (aS 7) aX) (eY lu)) (aS 2) (aS 3)))))
   (xJ (b8 (eo a) et (ay 2) (av (fN aX)) (bV _)) (n6 (uH (QE (PB (o7 aX))) (aS 2) (aS 3)))
   (pP nR (@cN _ _ _ _ _ 7 _ _ vx.nd rfl (Or.inr rfl) (cA (av (dG (JP T) (a.mono 'd') 'r' T.d_q16.m T.d_q16.F.kp T.d_q16.b (aE (fN (aE (aS 1) aX)) (aE (j9 kQ kR 'r' T.len kL (cy (ay 2) dA)) (aE (aS 4) aX))))) (av aJ) 'k') rfl 'j')
   (n6 (uH (n0 (j:=0) T.ob T.cl T.me_k_put_in (JS T) (a.mono 'd') T.bi_k_put_in rfl (aE (aS 7) aX) (eY lu)) (aS 2) (fQ (nK (p9 T) (a.mono 'd') 'r' T.d_q21.m T.d_q21.F.kp T.d_q21.b (aE (fN (aE (aS 3) (aE (fN (aE (aS 7) aX)) aX))) aX))))))))))
def JT(T:Txt K mg t):aG P w K mg base aZ 9 t.f_q4 t.fd_q4 ["self"] (rd K 1 rR):=by
 exact F5 (k:=8) (fs:=f_q4) rfl rfl rfl T.fu_k_entries_now T8 λc A a s H E B e=>(F4 (uB (vy T) (e.mono 'd') 'r' T.d_q1c.m T.d_q1c.F.kp T.d_q1c.b (aE (fH T.ob T.cl T.na_book (ay 0)) (aE (fH T.ob T.cl T.na_most (ay 0)) (aE (fH T.ob T.cl T.na_first (ay 0)) (aE (fH T.ob T.cl T.na_marks (ay 0)) aX))))))
def JU(T:Txt K mg t):aG P w K mg base aZ 7 t.f_qd t.fd_qd ["self"] (mN K 1 rS):=by
 exact wG (k:=6) (fs:=f_qd) rfl rfl rfl T.fu_k_marks_now T7 λc A a s H E B e=>(bF (E6 (nK (p9 T) (e.mono 'd') 'r' T.d_q21.m T.d_q21.F.kp T.d_q21.b (aE (fN (aE (fH T.ob T.cl T.na_marks (ay 0)) aX)) aX))))
def JV(T:Txt K mg t):aG P w K mg base aZ 1 t.f_q1f t.fd_q1f ["self"] (mN K 1 rV):=by
 exact wG (k:=0) (fs:=f_q1f) rfl rfl rfl T.fu_k_rows T6 λb A a s H E B c=>(bF (E6 (tP 'r' T.list (cy (av (fH T.ob T.cl T.na_book (ay 0))) dA))))
def JW(T:Txt K mg t):aG P w K mg base aZ 10 t.f_q3 t.fd_q3 ["_law_keeper","_law_book_here","_law_marks_here","_law_rows","_law_order"] (cw K 5 rW):=by
 exact dZ (k:=9) (fs:=f_q3) rfl rfl rfl T.d_q3.F CP λ c A b s H E B a=>(bN (jL PassesOwn.never rfl (Am 'r' T.range (cy (av aJ) dA)) (bW (i:=5) CP.nd rfl 'i') (bN (eX (PW.pt (qF (b8 (eo a) et (av (aU c7 c9 (av (aU cC cD (ay 4) (ay 5))) (av aJ))) (av aJ) (bV _)) (qE (b8 (jY a) jZ (av (fQ (xI T.ob T.cl T.me_k_rows (JV T) (a.mono 'd') T.bi_k_rows (aS 0)))) (ay 1) (bV _))))) (bF (cG i3)) e8)
   (bN (eX (PW.pt (qF (b8 (eo a) et (av (aU c7 c9 (av (aU cC cD (ay 4) (ay 5))) (av aJ))) (av aJ) (bV _)) (qE (b8 (jY a) jZ (av (fQ (xI T.ob T.cl T.me_k_marks_now (JU T) (a.mono 'd') T.bi_k_marks_now (aS 0)))) (ay 2) (bV _))))) (bF (cG i3)) e8)
   (bF (eX (PW.pt (qF (b8 (eo a) et (av (aU c7 c9 (av (aU cC cD (ay 4) (ay 5))) (av aJ))) (av aJ) (bV _)) (qE (b8 (jY a) jZ (av (xF (GB T.ob T.cl T.me_k_entries_now (JT T) (a.mono 'd') T.bi_k_entries_now (aS 0)))) (ay 3) (bV _))))) (bF (cG i3)) e8)))))
   (bN (GI (xI T.ob T.cl T.me_k_rows (JV T) (a.mono 'd') T.bi_k_rows (aS 0)) i3)
   (bN (GI (xI T.ob T.cl T.me_k_marks_now (JU T) (a.mono 'd') T.bi_k_marks_now (aS 0)) (f9 (l:=[109,111,114,101]) 'd'))
   (bN (QR (ja:=6) (jb:=7) rfl PassesOwn.never CP.nd rfl rfl 'i' 'i' (GB T.ob T.cl T.me_k_entries_now (JT T) (a.mono 'd') T.bi_k_entries_now (aS 0)) yS)
   (bF (cG i3))))))
def JX(T:Txt K mg t):aG P w K mg base aZ 9 t.f_q22 t.fd_q22 ["self","book","most","first","marks"] (A6 K 5 x9):=by
 exact QN (k:=8) (fs:=f_q22) rfl rfl rfl 'd' T.fu_k_init T1 λe A a s H E B c=>(QK T.ob T.cl T.na_book T.na_most T.na_first T.na_marks T.na_known rfl (tP 'r' T.list (cy (ay 1) dA)) (aS 2) (aS 3) (nK (p9 T) (c.mono 'd') 'r' T.d_q21.m T.d_q21.F.kp T.d_q21.b (aE (fN (aE (aS 4) aX)) aX)) (uB (vy T) (c.mono 'd') 'r' T.d_q1c.m T.d_q1c.F.kp T.d_q1c.b (aE (fH T.ob T.cl T.na_book (ay 0)) (aE (fH T.ob T.cl T.na_most (ay 0)) (aE (fH T.ob T.cl T.na_first (ay 0)) (aE (fH T.ob T.cl T.na_marks (ay 0)) aX))))))
def Uz(T:Txt K mg t):aG P w K mg base aZ 13 t.f_q29 t.fd_q29 ["_law_script"] (cw K 1 rX):=by
 exact dZ (k:=12) (fs:=f_q29) rfl rfl rfl T.d_q29.F fZ λ e A c s H E B a=>(bN (@cN _ _ _ _ _ 1 _ _ fZ.nd rfl 'i' (dG (JO T) (a.mono 'd') 'r' T.d_q7.m T.d_q7.F.kp T.d_q7.b (aE (aS 0) (aE aJ aX))) rfl 'j')
   (bN (OB (dG (Us T) (a.mono 'd') 'r' T.d_q6.m T.d_q6.F.kp T.d_q6.b (aE (aS 1) aX)) (mM rfl (dY (bW (i:=2) fZ.nd rfl 'i') (dY (bW (i:=3) fZ.nd rfl 'i') mL))))
   (bN (@cN _ _ _ _ _ 4 _ _ fZ.nd rfl 'i' (dG (Ur T) (a.mono 'd') 'r' T.d_q19.m T.d_q19.F.kp T.d_q19.b (aE (h7 (ay 0) (fP (av aJ)) (fP (av (aU cC cD (av aJ) (av (aU c7 c9 (av (dG (JO T) (a.mono 'd') 'r' T.d_q7.m T.d_q7.F.kp T.d_q7.b (aE (aS 0) (aE aJ aX)))) (av aJ))))))) aX)) rfl 'j')
   (bN (@cN _ _ _ _ _ 5 _ _ fZ.nd rfl 'i' (dG (JP T) (a.mono 'd') 'r' T.d_q16.m T.d_q16.F.kp T.d_q16.b (aE (h7 (ay 0) (fP (av aJ)) (fP (av aJ))) (aE (j9 kQ kR 'r' T.len kL (cy (ay 4) dA)) (aE (aS 1) aX)))) rfl 'j')
   (PF (i:=6) fZ.nd rfl 'i' (QO (tP 'r' T.list (cy (ay 4) dA)) (tP 'r' T.list (cy (ay 5) dA)))
   (GH (j:=7) T.ob T.mkI (JX T) (a.mono 'd') 'r' T.mK T.bi_k_init (aE (cA (ay 6) (av aJ) 'k') (aE (aS 2) (aE (aS 3) (aE (cA (ay 6) (av aJ) 'k') aX)))) (eY (eY (eY (eY lu)))) fZ.nd rfl 'i'
   (F3 (b8 (jY a) jZ (ay 6) (av (fN (aE (aS 4) (aE (aS 5) aX)))) (bV _)) (bF (cG i3))
   (GH (j:=8) T.ob T.mkI (JX T) (a.mono 'd') 'r' T.mK T.bi_k_init (aE (aU cC cD (av (fN (aE i3 (aE i3 aX)))) (ay 4)) (aE aJ (aE aJ (aE (fN aX) aX)))) (eY (eY (eY (eY lu)))) fZ.nd rfl 'i'
   (QQ (i:=6) (j:=9) rfl PassesOwn.never fZ.nd rfl rfl 'i'
   (bN (@cN _ _ _ _ _ 10 _ _ fZ.nd rfl 'i' (fQ (nK (p9 T) (a.mono 'd') 'r' T.d_q21.m T.d_q21.F.kp T.d_q21.b (aE (fN (aE (aS 5) aX)) aX))) rfl 'j')
   (bN (@cN _ _ _ _ _ 11 _ _ fZ.nd rfl 'i' (xF (uB (vy T) (a.mono 'd') 'r' T.d_q1c.m T.d_q1c.F.kp T.d_q1c.b (aE (aS 4) (aE (aS 2) (aE (aS 3) (aE (aS 10) aX)))))) rfl 'j')
   (bN (qO (i:=12) fZ.nd rfl 'i' (o7 aX))
   (bN (jL PassesOwn.never rfl (h9 (h7 (ay 0) (fP (av aJ)) (fP (av aJ)))) (bW (i:=13) fZ.nd rfl 'i') (bN (@cN _ _ _ _ _ 14 _ _ fZ.nd rfl 'i' (aU c7 c9 (av (aU o4 o3 (ay 13) (av aJ))) (av aJ)) rfl 'j')
   (QF (jt:=15) (jb:=4) (jm:=10) (jk:=7) ⟨'d','d'⟩ rfl fZ.nd rfl rfl rfl rfl 'i' 'i' 'i' (Uy T) (a.mono 'd') 'r' T.d_q18.m T.d_q18.F.kp T.d_q18.b (aE (aS 14) (aE (aS 4) (aE (aS 10) (aE (aS 1) aX)))) (eY (eY (eY (eY lu))))
   (GE (j:=16) fZ.nd rfl 'i' (aS 11)
   (GE (j:=11) fZ.nd rfl 'i' (xF (uB (vy T) (a.mono 'd') 'r' T.d_q1c.m T.d_q1c.F.kp T.d_q1c.b (aE (aS 4) (aE (aS 2) (aE (aS 3) (aE (aS 10) aX))))))
   (F3 (qD (nE (dG (Uu T) (a.mono 'd') 'r' T.d_q14.m T.d_q14.F.kp T.d_q14.b (aE (aS 15) (aE (aS 16) (aE (aS 11) aX)))))) (bF (cG i3))
   (QH (b8 (eo a) et (av (aU c7 c9 (av (aU fB fD (ay 14) (av aJ))) (av aJ))) (av aJ) (bV _)) (QG (bF (qP (i:=12) rfl (hV (aE (aS 15) (aE (dG (Uv T) (a.mono 'd') 'r' T.d_qe.m T.d_qe.F.kp T.d_qe.b (aE (aS 15) aX)) aX)))))) (Qd (i:=15) (Uw T) (a.mono 'd') 'r' T.d_law_spoil.m T.d_law_spoil.F.kp T.d_law_spoil.b rfl e8)
   (bN (eX (qD (nE (E7 (JW T) (a.mono 'd') 'r' T.d_q3.m T.d_q3.F.kp T.d_q3.b (cy (ay 7) (cy (ay 4) (cy (ay 10) (cy (ay 11) (cy (av (aU fB fD (ay 14) (av aJ))) dA)))))))) (bF (cG i3)) e8)
   (bF (QB (n0 (j:=8) T.ob T.cl T.me_k_do (JR T) (a.mono 'd') T.bi_k_do rfl (aE (hV (aE (f9 (l:=[112,117,116]) 'd') (aE (aU c7 c9 (ay 14) (av aJ)) (aE (mE (eo a) et (av (aU c7 c9 (ay 14) (av aJ))) (av aJ) (bV _)) aX)))) aX) (eY lu))))))))))))
   (wF 12 (bN (jL PassesOwn.never rfl (h9 (aS 12)) (mM rfl (dY (bW (i:=15) fZ.nd rfl 'i') (dY (bW (i:=17) fZ.nd rfl 'i') mL))) (bF (eX (b8 (jY a) jZ (ay 15) (ay 17) (bV _)) (bF (cG i3)) e8)))
   (bF (cG (E7 (JW T) (a.mono 'd') 'r' T.d_q3.m T.d_q3.F.kp T.d_q3.b (cy (ay 7) (cy (ay 4) (cy (ay 10) (cy (ay 11) (cy (ay 1) dA)))))))))))))))))))))))
end
def UA{K:Fg1}{a:Addr}{b:Y7}(hl:b.length<=63)(e:bA K H a (b.map V.int))(q:∀H',Q (.bl true) H'):cw K 1 rX [.ref a] H Q E:=by
 refine⟨H,[.lst (b.map D.int)],.bl true,aH.refl _,.cons (f7 e (An b)) .nil,rfl,TL b hl,λHf' H' v _ c=>?_⟩;rw[c.bl];exact q H'
abbrev fT(K:Fg1)(x:String)(s:Stmt)(f:Addr)(a:Value):Prop:=nsIn K mainGlobals x=some (some (.ref f))/\K.lookup f=some (Zf x x s a (.ref (f - 1)))/\codeIn K (.ref (f - 1)) x=true/\keepIn K (.ref f)=true
abbrev nN(K:Fg1)(x:String):Prop:=nsIn K mainGlobals x=some none
abbrev nS(K:Fg1)(x:String)(f:Addr):Prop:=nsIn K mainGlobals x=some (some (.ref f))
def bd{K:Fg1}{st:Stmt}{ps:U8}(F:d8 K x q st f c)(h:∀(kV a e:Value) (g:Y9) (b i:Value) (us:U9),us.length=ps.length->bindArgs (fnOf x q (lF st) (fq st) (bj st) .none kV a e g b i) ⟨us,[]⟩=pure (ps.zip us):=by intro _ _ _ _ _ _ us hl;repeat (rcases us with _|⟨_,us⟩;(focus first|rfl|(simp at hl;done));try (focus (simp at hl;done)))):cB K c ps []:=F.binds h
def df(X:K.In h)(G:h.Ns mainGlobals e)(t:fT K x s f m)(b:∀(kV a g:Value) (i:Y9) (c j:Value) (us:U9),us.length=ps.length->bindArgs (fnOf x x (lF s) (fq s) (bj s) .none kV a g i c j) ⟨us,[]⟩=pure (ps.zip us):=by intro _ _ _ _ _ _ us hl;repeat (rcases us with _|⟨_,us⟩;(focus first|rfl|(simp at hl;done));try (focus (simp at hl;done)))):Df K e x s ps f (fnOf x x (lF s) (fq s) (bj s) .none .none .none m none (.ref (f - 1)) .none):=⟨zC t.2.1 t.2.2.1 t.2.2.2,mg_of X G t.1,(zC t.2.1 t.2.2.1 t.2.2.2).binds b⟩
abbrev mT(K:Fg1)(x:String)(s:Stmt)(f:Addr):Prop:=K.lookup f=some (Zf x ("Keeper." ++ x) s Z8 (.ref (f - 1)))/\codeIn K (.ref (f - 1)) (ofString ("Keeper." ++ x))=true/\keepIn K (.ref f)=true/\findIn K (.ref 274) x=some (some (.ref f))/\isFn K (.ref f)=true
def mF(t:mT K x s f):d8 K x (ofString ("Keeper." ++ x)) s f (fnOf x (ofString ("Keeper." ++ x)) (lF s) (fq s) (bj s) .none .none .none Z8 none (.ref (f - 1)) .none):=zC t.1 t.2.1 t.2.2.1
def JY(K:Fg1):Prop:=mT K "__init__" CG 224 ∧
 mT K "do" CH 231 ∧
 mT K "put_in" CI 238 ∧
 mT K "take_out" CJ 243 ∧
 mT K "go_on" CK 250 ∧
 mT K "rows" CL 257 ∧
 mT K "marks_now" CM 264 ∧
 mT K "entries_now" CN 271 ∧
 nS K "Keeper" 274 ∧
 plainGet K 274 empty=true ∧
 hasDictIn K 274=true ∧
 plainOver K 274=true ∧
 findIn K (.ref 274) "__setattr__" = some (some (.builtin "object.__setattr__")) ∧
 makesIn K 274=true ∧
 keepIn K (.ref 274)=true ∧
 findIn K (.ref 274) "book" = some none ∧
 findIn K (.ref 274) "most" = some none ∧
 findIn K (.ref 274) "first" = some none ∧
 findIn K (.ref 274) "marks" = some none ∧
 findIn K (.ref 274) "known" = some none ∧
 fT K "pages" B6 21 Z1 ∧
 fT K "shown" B7 91 Z3 ∧
 fT K "key_of" B8 96 Z3 ∧
 fT K "rank" B9 101 Z3 ∧
 fT K "fits" Ca 108 Z4 ∧
 fT K "poured" Cb 115 Z4 ∧
 fT K "copied" Cc 122 Z4 ∧
 fT K "mark_rank" Cd 129 Z4 ∧
 fT K "stretches" Ce 136 Z5 ∧
 fT K "strong_by_page" Cf 143 Z5 ∧
 fT K "goes_on" Cg 150 Z5 ∧
 fT K "entries" Ch 155 Z6 ∧
 fT K "refuse_unfit" Ci 162 Z6 ∧
 fT K "marks_by_path" Cj 169 Z6 ∧
 fT K "deed_fits" Ck 176 Z7 ∧
 fT K "moved_book" Cl 183 Z7 ∧
 fT K "moved_marks" Cm 190 Z7 ∧
 fT K "behind_put" Cn 195 Z7 ∧
 fT K "behind_cut" Co 200 Z7 ∧
 fT K "changes" Cp 205 Z7 ∧
 fT K "copied_stretches" Cq 210 Z7 ∧
 fT K "_law_cell_at" Cr 285 Zm ∧
 fT K "_law_head_by" Cs 292 Zm ∧
 fT K "_law_path_by" Ct 297 Zm ∧
 fT K "_law_book" Cu 316 Zm ∧
 fT K "_law_settings" Cv 323 Zm ∧
 fT K "_law_marks" Cw 330 Zm ∧
 fT K "_law_deed_by" Cy 337 Zm ∧
 fT K "_law_as_dict" Cz 344 Zm ∧
 fT K "_law_leads" CA 349 Zm ∧
 fT K "_law_copies" CB 356 Zm ∧
 fT K "_law_spoil" CC 363 Zm ∧
 fT K "_law_step" CD 368 Zm ∧
 fT K "_law_looked_at" CF 375 Zm ∧
 fT K "law" sA 382 Zm ∧
 nN K "int" ∧
 nN K "isinstance" ∧
 nN K "len" ∧
 nN K "list" ∧
 nN K "min" ∧
 nN K "range" ∧
 nN K "sorted" ∧
 nN K "str" ∧
 nN K "tuple" ∧
 AW K=true ∧
 nsIn K mainGlobals "LETTERS_AND_FIGURES" = some (some (.str CS 294))
def fts(w:World):JY (KK w.params):=by unfold JY;and_intros <;> kernel_rfl
def all_mk{l:PySem.W.OpenLaw}{w:World}{h:Heap}{fa:Addr}(X:(KK w.params).In h)(G:h.Ns mainGlobals mg)(hfa:mg "law" = some (.ref fa)) :
  ∃fd:FuncData,(∀(s:Shared) (v:Value),BindsTo s fd ⟨[v],[]⟩ [("_law_script",v)])/\∀base:Heap,(KK w.params).In base->base.Ns mainGlobals mg->aG l.prog w (KK w.params) mg base aZ 13 fa fd ["_law_script"] (cw (KK w.params) 1 rX):=by
 have ⟨m,b,c,f,g,i,o,p,n_O,o_1,o_2,o_3,o_4,o_5,o_6,B,C,r,u,x,F,H,I,J,L,M,N,O,P,h_q1,Q,R,h_q5,h_q2,U,h_qf,h_qb,Y,Z,h_q1e,h_q0,h_q7,h_q9,h_q8,h_q19,h_q6,h_q16,h_qa,h_qc,h_q14,h_qe,n,h_q18,h_q3,y,z_int,j,z_len,E,z_min,z,q,z_str,A,nol_K,a⟩:=fts w;generalize KK w.params=K at *;have e:=hfa.symm.trans (mg_of X G y.1);cases e;have T:Txt K mg ⟨21,_,91,_,96,_,101,_,108,_,115,_,122,_,129,_,136,_,143,_,150,_,155,_,162,_,169,_,176,_,183,_,190,_,195,_,200,_,205,_,210,_,285,_,292,_,297,_,316,_,323,_,330,_,337,_,344,_,349,_,356,_,363,_,368,_,375,_,382,_,224,_,231,_,238,_,243,_,250,_,257,_,264,_,271,_,294,274⟩:=⟨df X G F,df X G H,df X G I,df X G J,df X G L,df X G M,df X G N,df X G O,df X G P,df X G h_q1,df X G Q,df X G R,df X G h_q5,df X G h_q2,df X G U,df X G h_qf,df X G h_qb,df X G Y,df X G Z,df X G h_q1e,df X G h_q0,df X G h_q7,df X G h_q9,df X G h_q8,df X G h_q19,df X G h_q6,df X G h_q16,df X G h_qa,df X G h_qc,df X G h_q14,df X G h_qe,df X G n,df X G h_q18,df X G h_q3,df X G y,mF m,bd (mF m),mF b,bd (mF b),⟨b.2.2.2.1,b.2.2.2.2,b.2.2.1⟩,mF c,bd (mF c),⟨c.2.2.2.1,c.2.2.2.2,c.2.2.1⟩,mF f,bd (mF f),⟨f.2.2.2.1,f.2.2.2.2,f.2.2.1⟩,mF g,bd (mF g),⟨g.2.2.2.1,g.2.2.2.2,g.2.2.1⟩,mF i,bd (mF i),⟨i.2.2.2.1,i.2.2.2.2,i.2.2.1⟩,mF o,bd (mF o),⟨o.2.2.2.1,o.2.2.2.2,o.2.2.1⟩,mF p,bd (mF p),⟨p.2.2.2.1,p.2.2.2.2,p.2.2.1⟩,mg_none_of X G z_int,mg_none_of X G j,mg_none_of X G z_len,mg_none_of X G E,mg_none_of X G z_min,mg_none_of X G z,mg_none_of X G q,mg_none_of X G z_str,mg_none_of X G A,Gr nol_K,n_O,mg_of X G n_O,⟨o_1,o_2,o_3,o_4⟩,⟨o_5,m.2.2.2.1,m.2.2.2.2,o_6⟩,B,C,r,u,x,mg_of X G a⟩
 exact⟨fnOf "law" "law" (lF sA) (fq sA) (bj sA) .none .none .none Zm none (.ref 381) .none,λs v=>.of_eq rfl,λbase _ _=>Uz T⟩
def walk{l:PySem.W.OpenLaw}{d:DefRec}{K:Params->Fg1}(hn:l.most=some 63)(c:d.params.defaults=[])(j:∀(w:World) (h:Heap),e w h->(K w.params).In h)(F:∀ (w:World) (b:Str->Y0) (g:Addr) (h:Heap),(K w.params).In h->h.Ns mainGlobals b->b d.name=some (.ref g) →
   ∃fd:FuncData,(∀(s:Shared) (u:Value),BindsTo s fd ⟨[u],[]⟩ [("_law_script",u)])/\∀base:Heap,(K w.params).In base->base.Ns mainGlobals b->aG l.prog w (K w.params) b base aZ 13 g fd ["_law_script"] (cw (K w.params) 1 rX)) :
  PySem.W.WalkO q loose XP e l.row.toRowW d [] (λf vs=>PySem.call f vs) :=
 L2.walk_of (n:=63) (k:=13) (x:="_law_script") (CX:=λ_=>aZ) (sp:=λw=>cw (K w.params) 1 rX) hn 'd' c ⟨rfl,'d','d'⟩ j F (λ_ H a m hl o i=>UA hl i λ_=>rfl) λ_ _ _ _ _ z=>z
end K43
open PySem PySem.W PyProof.Rows
set_option maxRecDepth 100000 in
set_option maxHeartbeats 0 in
theorem PySem.Challenge.cw_pageback_k43_whole_kept_as_made_anew_holds : PySem.Challenge.rw_pageback_k43_whole_kept_as_made_anew.Holds := by
 refine PySem.W.holds_law K43.ws λsaid=>?_
 refine PySem.W.holds_open (q:=K43.VV) (loose:=[]) (XP:=XL K43.VV []) (kwd:=[]) K43.hl (kHook K43.KK K43.AA K43.ka).of (kHook K43.KK K43.AA K43.ka).keeps (λs e=>xl_of s (qt.mp e).left) XL.keeps 'r' 'r' 'r' (λs e=>PySem.W.recFacts_of (qt.mp e).right) 'r' ?said 'd' ⟨rfl,rfl,rfl,rfl,rfl,'d'⟩ ?hw ?hc
 case said=>assumption
 case hw=>w_witness2
 refine K43.walk (l:=Fg3) rfl rfl (λw h Y=>kIn_of Y) ?F
 case F =>
  intro w c f h b G a;exact K43.all_mk b G a
end
