import PyProof.Rows.All
import KE.KDictOf
import KE.KDictSum
import KE.KEqDict
import KE.KFromBytes
import KE.KIntText
import KE.KIsAll
import KE.KRevIter
import KE.KSortTup
import KE.LcSums
import PySem.Challenge.RW_pageback_k21_rings_told
abbrev Fg2:=PySem.Challenge.pw_pageback_k21_rings_told
abbrev Fg3:=PySem.Challenge.rw_pageback_k21_rings_told
abbrev Fg1:=PySem.W.Frag
local macro_rules|`(‹0›)=>`(⟨rfl,rfl,rfl,by decide,rfl,by decide,by decide⟩)
local macro_rules|`(tactic|decide)=>`(tactic|decide +kernel)
def hPt:Nat->Lean.Term->Lean.MacroM (Lean.TSyntax `rcasesPat)
 |0,_=>Lean.Macro.throwUnsupported
 |n+1,x=>match x with
  |`(⟨$y,*⟩)=>do
   let p ← y.getElems.mapM λx=>do
    let p ← hPt n x
    `(Lean.Parser.Tactic.rcasesPatLo|$p:rcasesPat)
   `(rcasesPat|⟨$p,*⟩)
  |`($i:ident)=>`(rcasesPat|$i:ident)
  |_=>`(rcasesPat|_)
local macro_rules|`(tactic|have⟨$x,*⟩:=$e)=>do
 let p ← hPt 9 (← `(⟨$x,*⟩))
 `(tactic|obtain $p:rcasesPat:=$e)
abbrev T1:=List (PySem.Addr×PySem.Obj)
abbrev T2:=PySem.Value->PySem.Shared->Prop
abbrev T3:=List (Int×Bool)
abbrev T7:=List Nat
abbrev T8:=List PySem.Str
abbrev T9:=List PySem.Value
abbrev Ta:=Option PySem.Value
abbrev Tc:=Option Int
abbrev Te:=Option Bool
abbrev Tf:=Array PySem.Value
abbrev Tg:=List PySem.Expr
abbrev Ti:=List Int
abbrev Tj:=List PySem.Addr
abbrev Tk:=Option PySem.Addr
abbrev Tl:=List PySem.Env
abbrev Yd:=List PySem.Stmt
local macro_rules|`('g')=>`(("__debug__" : PySem.Str))
local macro_rules|`('c')=>`(("__classdict__" : PySem.Str))
local macro_rules|`('s')=>`(by simp;omega)
local macro_rules|`('d')=>`(by decide)
local macro_rules|`('o')=>`(by omega)
local macro_rules|`('r')=>`(by rfl)
local macro_rules|`('m')=>`(by simp)
local macro_rules|`('i')=>`((Or.inl rfl))
local macro_rules|`('j')=>`((.inl rfl))
local macro_rules|`('k')=>`((λ _ _=>rfl))
local macro_rules|`('e')=>`((if ([]:List PySem.Keyword).isEmpty then 0 else 1))
set_option compiler.extract_closed false
set_option linter.all false
open PySem (mem_of_lookup)
open List (Nodup any_map filter find? foldl headD length map mem_cons nodup_append range replicate)
open Nat (reduceAdd reduceLeDiff reduceSub)
open Option (getD_none isSome)
open Array (ext' filterMap getD size_push toList)
open PySem.F (args_list_lt_2 args_list_ne_2 entry_dict_get entry_list_lt entry_list_ne entry_min entry_min_loop kind_min plainAttrs_list plainAttrs_str plain_min plain_min_loop slot_bool_hash slot_dict_get slot_dict_iter slot_dict_keyiterator_next slot_list_index slot_list_lt slot_list_ne type_list_index)
open Prod (fst snd)
open PySem.Str (ofString)
open PySem.W (InstAt KatLex KdlSrc KitX LeftO Looks XL callWith_K cellsFrom_some codeIn findIn fnOf instObj kHook kIn_of kat_go kat_lt kat_nil kat_no kdu_collect keepIn kia_one kia_tup kitAny kitCls kitOne kitx_dict kitx_list kitx_none kitx_tuple lookIn methodObj mg_none_of mg_of mroIn nsIn openEnds openGood openSeen plainGet pyHash_slot recOk specialIn subIn typeIn xlAt xl_of)
open PySem.Obj (mapFields mapSeq putSet)
open PySem.Value (ref)
open False (elim)
local macro_rules|`(tactic|delta $[$i:ident]*)=>`(tactic|unfold $[$i:ident]*)
local macro_rules|`(tactic|rwa[$t:term])=>`(tactic|exact $t)
local macro_rules|`(tactic|erw[$t:term])=>`(tactic|refine $t)
noncomputable section
def aa:=@PySem.wpAny_bind
def ba:=@List.length_map
def da:=@List.mem_cons_self
def ia:=@List.mem_cons_of_mem
def ja:=@PySem.wpAny_pure
def la:=@if_pos
def ma:=@List.length_append
def na:=@PySem.Heap.get?_push_of_some
def oa:=@List.map_cons
def qa:=@List.getElem?_eq_some_iff
def ua:=@Bool.false_ne_true
def va:=@List.mem_map
def wa:=@if_neg
def xa:=@List.size_toArray
def ya:=@List.mem_singleton
def za:=@List.getElem?_set_ne
def bb:=@List.getD_eq_getElem?_getD
def cb:=@mem_cons
def db:=@decide_eq_true
def gb:=@List.map_append
def ib:=@Nat.le_refl
def jb:=@List.mem_append
def lb:=@Option.bind_some
def nb:=@List.length_singleton
def pb:=@Bool.and_eq_true
def ub:=@Or.inl
def wb:=@PySem.Heap.lt_size
def xb:=@Nat.lt_of_lt_of_le
def yb:=@Option.map_eq_some_iff
def zb:=@List.length_cons
def ac:=@decide_eq_false
def bc:=@PySem.Heap.get?_push_size
def cc:=@List.getElem?_eq_getElem
def dc:=@List.getElem?_set_self
def gc:=@List.mem_append_right
def ic:=@of_decide_eq_true
def jc:=@nodup_append
def lc:=@Bool.false_eq_true
def pc:=@List.map_map
def qc:=@PySem.Heap.get?_update_other
def vc:=@Nat.ne_of_lt
def wc:=@PySem.wpAny_loadPart'
def yc:=@List.getElem?_map
def zc:=@Nat.le_trans
def jd:=@List.append_nil
def md:=@Option.some.inj
def pd:=@List.getElem?_cons_succ
def ud:=@List.all_eq_true
def vd:=@List.drop_eq_getElem_cons
def yd:=@Array.getElem?_eq_some_iff
def ae:=@Nat.zero_le
def be:=@PySem.Heap.get?_update_self
def ce:=@PySem.wpAny_loadPart_at
def de:=@List.length_take
def ie:=@List.mem_append_left
def je:=@List.flatten_cons
def ke:=@List.getElem?_append_left
def me:=@List.mem_of_getElem?
def qe:=@congrArg
def re:=@PySem.PassesOwn.never
def se:=@List.nodup_cons
def ue:=@List.getElem?_cons_zero
def ve:=@PySem.wpAny_holding
def we:=@List.pairwise_cons
def ye:=@List.length_nil
def ze:=@List.nil_append
def af:=@List.getElem?_append_right
def bf:=@Bool.eq_false_iff
def cf:=@PySem.Obj.data_mapFields
def ef:=@List.cons.inj
def gf:=@PySem.wpAny_mono
def jf:=@List.cons_append
def mf:=@List.mem_of_mem_take
def pf:=@PySem.wpAny_newObj_type
def qf:=@List.append_assoc
def sf:=@decide_eq_true_eq
def uf:=@List.mem_range
def vf:=@Ne.symm
def wf:=@PyProof.Rows.slot_tuple_getitem
def xf:=@Array.length_toList
def yf:=@Nat.zero_add
def zf:=@Option.map_some
def ag:=@Int.eq_ofNat_of_zero_le
def bg:=@List.lookup_cons
def cg:=@PySem.Around.under_plainId
def dg:=@PySem.wpAny_Call_Name_kw
def eg:=@Int.emod_lt_of_pos
def fg:=@Or.inr
def ig:=@List.find?_cons
def jg:=@List.getElem_mem
def kg:=@List.map_congr_left
def lg:=@List.getElem?_replicate
def ng:=@List.contains_cons
def og:=@List.append_of_mem
def qg:=@if_false
def ug:=@List.mem_filter
def vg:=@PySem.codeAny_builtin
def wg:=@Int.emod_nonneg
def xg:=@List.take_of_length_le
def yg:=@Array.getElem?_eq_getElem
def zg:=@PySem.wpAny_truthy_bool
def ah:=@Bool.not_eq_true'
def bh:=@List.length_range
def dh:=@PySem.Obj.isFreed_of_fields
def jh:=@Array.getElem?_toList
def kh:=@List.getElem?_eq_none
def mh:=@List.nodup_nil
def oh:=@Bool.not_true
def ph:=@List.zip_cons_cons
def qh:=@True.intro
def rh:=@PySem.codeAny_call_builtin
def uh:=@List.mem_of_mem_drop
def vh:=@PySem.wpAny_field
def xh:=@PyProof.Rows.callWith_type1
def yh:=@List.any_cons
def ai:=@Int.toNat_natCast
def ci:=@Option.isSome_map
def ii:=@PySem.wpAny_setField
def ji:=@beq_eq_false_iff_ne
def ki:=@List.replicate_succ
def ni:=@PySem.wpAny_isSubtype_exc
def oi:=@PySem.Heap.SameBut.update
def pi:=@List.dropWhile_cons
def ui:=@List.pairwise_iff_getElem
def xi:=@List.set_cons_zero
def yi:=@List.set_cons_succ
def zi:=@Nat.lt_irrefl
def aj:=@PySem.plainId_quiet
def cj:=@PySem.wpAny_typeNameOfWhole_keyiter
def fj:=@List.dropLast_concat_getLast
def ij:=@PyProof.Rows.F.plain_set_update_loop
def jj:=@List.length_pos_iff
def kj:=@List.drop_of_length_le
def lj:=@PySem.richCompare_meets_room
def oj:=@List.map_nil
def pj:=@List.length_drop
def tj:=@List.drop_length
def uj:=@Option.bind_none
def vj:=@Option.getD_some
def wj:=@PySem.Calls.spliced_cons
def xj:=@PySem.tupleKind_room_in1
def yj:=@List.Perm.refl
def zj:=@List.length_replicate
def ak:=@PySem.builtinLookup_eq_fast
def ck:=@Classical.byContradiction
def ek:=@PySem.wpAny_passesOwn
def gk:=@List.foldl_cons
def ik:=@Option.map_none
def jk:=@PySem.codeAny_mono
def nk:=@Nat.sub_self
def qk:=@PySem.wpAny_typeNameOf_keyiter
def uk:=@List.all_cons
def vk:=@List.reverse_append
def wk:=@PySem.wpAny_callSpecial?_slot
def xk:=@List.filter_cons_of_pos
def yk:=@List.filter_cons_of_neg
def zk:=@decide_eq_false_iff_not
def il:=@PySem.wpAny_call_entry
def ll:=@PySem.wpAny_forIn_list
def ol:=@Bool.not_false
def ql:=@List.eq_nil_of_length_eq_zero
def ul:=@PySem.Calls.callWith_builtin
def wl:=@Array.getElem?_eq_none
def xl:=@Nat.lt_of_succ_lt_succ
def yl:=@Nat.ne_of_gt
def zl:=@PySem.wpAny_execs_nil
def am:=@PySem.wpAny_standAt
def cm:=@List.ext_getElem?
def dm:=@Nat.le_of_lt_succ
def fm:=@PySem.wpAny_setState_of
def im:=@List.exists_cons_of_ne_nil
def jm:=@Array.mem_toList_iff
def km:=@PySem.wpAny_seqItems
def om:=@PySem.wpAny_tryCatch
def qm:=@PySem.wpAny_call
def rm:=@PyProof.Rows.F.entry_set_update_loop
def tm:=@PySem.wpAny_comprehension_free
def um:=@Bool.eq_iff_iff
def vm:=@PySem.typeLookup_type
def wm:=@PySem.wpAny_specialOf
def xm:=@Nat.min_eq_left
def ym:=@List.cons.injEq
def zm:=@PySem.Code.quiet_builtin
def bn:=@Array.forIn_toList
def cn:=@beq_iff_eq
def gn:=@List.getElem?_set_self'
def mn:=@PySem.wpAny_letGo
def on:=@List.range_succ_eq_map
def rn:=@PySem.AutoSeq1.sub_list_list
def vn:=@List.any_eq_false
def wn:=@PySem.Calls.spliced_nil
def xn:=@List.Pairwise.nil
def yn:=@PySem.wpAny_dictEntries
def zn:=@List.pairwise_map
def ao:=@PySem.wpAny_typeOf
def bo:=@Nat.succ_pos
def jo:=@PySem.F.typeOf_object_class
def ko:=@PySem.wpAny_isOneOf_keyiter
def mo:=@List.mem_iff_getElem?
def oo:=@List.take_append_drop
def qo:=@PyProof.Rows.callWith_builtin1
def uo:=@Nat.le_of_not_lt
def vo:=@Nat.lt_succ_self
def xo:=@Nat.min_eq_right
def yo:=@List.mem_reverse
def zo:=@PySem.wpAny_rule
def bp:=@PyProof.Rows.listUpdate_at
def ip:=@Bool.and_true
def jp:=@if_true
def pp:=@PySem.Heap.get?_none_of_le
def qp:=@PySem.Calls.evalArgs_plain
def vp:=@PySem.F.excBase_ValueError
def xp:=@List.pairwise_append
def yp:=@List.filterMap_cons
def zp:=@List.getElem?_range
def aq:=@List.length_reverse
def bq:=@ite_false
def cq:=@PySem.Calls.Name_function_global
def fq:=@List.mem_filterMap
def gq:=@PySem.wpAny_fieldsOf
def iq:=@PySem.call_meets
def jq:=@Prod.ext
def lq:=@List.getElem?_eq_none_iff
def mq:=@List.mem_of_find?_eq_some
def nq:=@List.getElem_append_right
def oq:=@Nat.lt_succ_of_lt
def pq:=@List.reverse_cons
def qq:=@PySem.wpAny_pyIter_list
def rq:=@Nat.le_succ_of_le
def tq:=@PySem.wpAny_mkInt
def wq:=@List.length_erase_of_mem
def xq:=@List.map_take
def yq:=@List.pairwise_singleton
def zq:=@List.length_eq_zero_iff
def ar:=@PySem.wpAny_pyHash_int
def br:=@PySem.wpAny_pyHash_str
def cr:=@PySem.wpAny_execs_cons
def ir:=@Nat.min_le_right
def jr:=@beq_self_eq_true
def kr:=@PySem.wpAny_Dict_empty
def lr:=@List.not_mem_nil
def mr:=@PySem.wpAny_isInstance
def nr:=@PySem.beq_builtin_none
def ur:=@List.flatten_nil
def wr:=@List.mem_flatMap
def xr:=@decide_eq_decide
def yr:=@ite_true
def ss:=@List.length_pos_of_mem
def et:=@Nat.le_of_lt
def jt:=@Nat.lt_or_ge
def kt:=@List.of_mem_zip
def ot:=@PySem.SeqAt.EqAt.same
def qt:=@PySem.wpAny_dictEpoch
def ut:=@PySem.wpAny_updateSeq
def bu:=@List.mem_erase_of_ne
def cu:=@List.reverse_reverse
def gu:=@Bool.and_eq_true_iff
def iu:=@List.Perm.swap
def ju:=@PySem.wpAny_of_eq
def ou:=@List.mem_map_of_mem
def qu:=@List.takeWhile_cons
def su:=@List.map_eq_nil_iff
def uu:=@List.map_drop
def xv:=@ext'
def yv:=@Nat.mod_lt
def aw:=@PySem.Walks.list
def bx:=@Nat.le_of_eq
def cx:=@List.all_map
def jx:=@Nat.min_self
def px:=@Sum.inl.inj
def sx:=@Nat.le_succ
def ux:=@List.map_id
set_option Elab.async false
set_option linter.all false
set_option maxRecDepth 100000
set_option maxHeartbeats 0
namespace L2
open PySem
noncomputable def lC(s:Stmt):Arguments:=match s with
 |.FunctionDef _ a _ _ _ _ _ _ _ _=>a
 |_=>{ posonlyargs:=[],args:=[],vararg:=none,kwonlyargs:=[],kw_defaults:=[],kwarg:=none,defaults:=[] }
def fM(s:Stmt):Yd:=match s with
 |.FunctionDef _ _ b _ _ _ _ _ _ _=>b
 |_=>[]
noncomputable def bw(s:Stmt):Scope:=match s with
 |.FunctionDef _ _ _ _ _ _ sc _ _ _=>sc
 |_=>{ kind:=.function,names:=[],isGenerator:=false,isCoroutine:=false }
def jD(s:Stmt):Yd:=match s with
 |.ClassDef _ _ _ b _ _ _ _ _ _ _=>b
 |_=>[]
end L2
namespace K21
open PySem L2
noncomputable def bT(i:Nat):Stmt:=Fg2.main.body.getD i (.Pass ⟨0,0,0,0⟩)
noncomputable abbrev Zs(x:String)(t:Tok):Value:=.str (ofString x) t
abbrev Ze(P:Params)(x:String)(t:Tok)(v:Value):DictEntry:=⟨PyData.keyHash P (ofString x),Zs x t,v⟩
noncomputable abbrev Zt(a:Tf):Obj:=⟨.type "tuple",none,.seq a,#[]⟩
noncomputable abbrev Zc(a:Tf):Obj:=⟨.type "code",none,.fields a,#[]⟩
noncomputable abbrev Zd(a:Array DictEntry)(n:Nat):Obj:=⟨.type "dict",none,.dict a n,#[]⟩
abbrev Zf(n q:String)(s:Stmt)(a cd:Value):Obj:=⟨.type "function",none,.func (fnOf (ofString n) (ofString q) (lC s) (fM s) (bw s) .none .none .none a none cd .none),#[]⟩
abbrev Zk(n q:String)(a b c:Tok)(l k:Int)(r f:Addr)(x y z:Value)(m:Addr)(d e:Nat):Obj:=Zc #[Zs n a,Zs q b,Zs "/claim/cut.py" c,.int l 0,.int k 0,.int 0 0,.int 0 0,.int 3 0,.ref r,.bool true,.int 181 0,.ref f,x,y,z,.ref m,.int d 0,.int l 0,Zs "/claim/cut.py" e]
abbrev Zm:Value:=Zs "law_pageback_k21_rings_told" 668
abbrev Z1:Value:=Zs "pageback.errors" 187
abbrev Z2:Value:=Zs "pageback.heads" 429
abbrev Z3:Value:=Zs "pageback.marks" 453
abbrev Z4:Value:=Zs "pageback.sees" 509
abbrev Z5:Value:=Zs "pageback.book" 589
abbrev Z6:Value:=Zs "pageback.stretches" 604
abbrev Z7:Value:=Zs "pageback.entries" 640
abbrev Zg(x:String)(i:Nat)(m:Value)(f:Addr):Obj:=Zf x x (bT i) m (.ref (f - 1))
noncomputable abbrev Zx(n:String)(c k:Addr)(s:Array Ta):Obj:=Obj.mk (.type "type") none (Data.cls (ClassData.mk (ofString n) [.ref 24] [.ref c,.ref 24,.type "ValueError",.type "Exception",.type "BaseException",.type "object"] k (ofString n) true [] [] false none false)) s
abbrev Zy(P:Params)(a:Tok)(v:Value)(b:Tok)(i:Int)(c d:Tok)(f:Addr)(e:Tok)(g:Addr)(h:Tok):Obj:=Zd #[Ze P "__module__" a v,Ze P "__firstlineno__" b (.int i c),Ze P "__init__" d (.ref f),Ze P "__static_attributes__" e (.ref g),Ze P "__doc__" h .none] 2
abbrev Zl(n:String)(a b c:Tok)(l k:Int)(r f:Addr)(x y z:Value)(m:Addr)(d e:Nat):Obj:=Zk n n a b c l k r f x y z m d e
def KK(P:Params):Fg1 :=
 [(2,Obj.mk .none none (Data.dict #[]) #[]),
  (3,Zd #[Ze P "__name__" 165 Zm,Ze P "__doc__" 166 .none,Ze P "__package__" 167 .none,Ze P "__loader__" 168 (.builtin "__main__.__loader__#opaque"),Ze P "__spec__" 169 .none,Ze P "__annotations__" 170 (.ref 6),Ze P "__builtins__" 171 (.ref 4),Ze P "__file__" 173 (Zs "/claim/cut.py" 172),Ze P "__cached__" 174 .none,Ze P "PageError" 206 (.ref 24),Ze P "OutOfBook" 235 (.ref 44),Ze P "SentHere" 260 (.ref 63),Ze P "Both" 285 (.ref 82),Ze P "TwoWays" 310 (.ref 101),Ze P "Ring" 335 (.ref 120),Ze P "Nowhere" 362 (.ref 139),Ze P "NoRow" 387 (.ref 158),Ze P "NoMark" 403 (.ref 170),Ze P "NoText" 428 (.ref 189),Ze P "LETTERS_AND_FIGURES" 432 (Zs "abcdefghijklmnopqrstuvwxyzABCDEFGHIJKLMNOPQRSTUVWXYZ0123456789" 431),Ze P "shown" 440 (.ref 198),Ze P "key_of" 446 (.ref 203),Ze P "rank" 452 (.ref 208),Ze P "fits" 462 (.ref 215),Ze P "poured" 475 (.ref 222),Ze P "poured_sees" 487 (.ref 229),Ze P "copied" 494 (.ref 236),Ze P "mark_rank" 501 (.ref 243),Ze P "see_rank" 508 (.ref 250),Ze P "ways" 516 (.ref 255),Ze P "pages_by_path" 526 (.ref 262),Ze P "goals_by_path" 537 (.ref 269),Ze P "way_of_see" 552 (.ref 276),Ze P "refuse_start" 563 (.ref 283),Ze P "way_of_goal" 573 (.ref 290),Ze P "ring_in" 580 (.ref 297),Ze P "from_least" 588 (.ref 304),Ze P "pages" 603 (.ref 311),Ze P "stretches" 616 (.ref 318),Ze P "strong_by_page" 630 (.ref 325),Ze P "goes_on" 639 (.ref 332),Ze P "entries" 647 (.ref 337),Ze P "refuse_unfit" 656 (.ref 344),Ze P "marks_by_path" 667 (.ref 351),Ze P "_law_whole" 676 (.ref 358),Ze P "_law_cell_at" 684 (.ref 365),Ze P "_law_head_by" 698 (.ref 372),Ze P "_law_path_by" 704 (.ref 377),Ze P "_law_fresh" 716 (.ref 384),Ze P "_law_marks" 727 (.ref 391),Ze P "_law_ring_by" 738 (.ref 398),Ze P "_law_beside" 754 (.ref 405),Ze P "_law_told_of" 764 (.ref 412),Ze P "_law_ring_so" 770 (.ref 417),Ze P "_law_open_so" 785 (.ref 424),Ze P "law" 791 (.ref 429)] 56),
  (23,Zd #[Ze P "__module__" 196 Z1,Ze P "__firstlineno__" 200 (.int 2 199),Ze P "__static_attributes__" 201 (.ref 22),Ze P "__weakref__" 203 (.ref 25),Ze P "__doc__" 204 .none] 3),
  (24,Obj.mk (.type "type") none (Data.cls (ClassData.mk (ofString "PageError") [.type "ValueError"] [.ref 24,.type "ValueError",.type "Exception",.type "BaseException",.type "object"] 23 (ofString "PageError") true [] [.ref 44,.ref 63,.ref 82,.ref 101,.ref 120,.ref 139,.ref 158,.ref 170,.ref 189] false none false)) #[some (.ref 15),none,some (Zs "PageError" 189),some (Zs "PageError" 197),some (.builtin "ValueError.__new__"),some (.bool true)]),
  (40,Zk "__init__" "OutOfBook.__init__" 219 220 221 6 4 35 36 (.none) (.ref 37) (.ref 38) 39 226 227),
  (41,Zf "__init__" "OutOfBook.__init__" ((jD (bT 2)).getD 0 (.Pass ⟨0,0,0,0⟩)) Z1 (.ref 40)),
  (43,Zy P 214 Z1 218 4 217 228 41 232 42 233),
  (44,Zx "OutOfBook" 44 43 #[some (.ref 28),none,some (Zs "OutOfBook" 207),some (Zs "OutOfBook" 215),some (.builtin "ValueError.__new__"),some (.bool true)]),
  (59,Zk "__init__" "SentHere.__init__" 248 249 250 12 2 54 55 (.none) (.ref 56) (.ref 57) 58 253 254),
  (60,Zf "__init__" "SentHere.__init__" ((jD (bT 3)).getD 0 (.Pass ⟨0,0,0,0⟩)) Z1 (.ref 59)),
  (62,Zy P 243 Z1 247 10 246 255 60 257 61 258),
  (63,Zx "SentHere" 63 62 #[some (.ref 47),none,some (Zs "SentHere" 236),some (Zs "SentHere" 244),some (.builtin "ValueError.__new__"),some (.bool true)]),
  (78,Zk "__init__" "Both.__init__" 273 274 275 16 2 73 74 (.none) (.ref 75) (.ref 76) 77 278 279),
  (79,Zf "__init__" "Both.__init__" ((jD (bT 4)).getD 0 (.Pass ⟨0,0,0,0⟩)) Z1 (.ref 78)),
  (81,Zy P 268 Z1 272 14 271 280 79 282 80 283),
  (82,Zx "Both" 82 81 #[some (.ref 66),none,some (Zs "Both" 261),some (Zs "Both" 269),some (.builtin "ValueError.__new__"),some (.bool true)]),
  (97,Zk "__init__" "TwoWays.__init__" 298 299 300 20 2 92 93 (.none) (.ref 94) (.ref 95) 96 303 304),
  (98,Zf "__init__" "TwoWays.__init__" ((jD (bT 5)).getD 0 (.Pass ⟨0,0,0,0⟩)) Z1 (.ref 97)),
  (100,Zy P 293 Z1 297 18 296 305 98 307 99 308),
  (101,Zx "TwoWays" 101 100 #[some (.ref 85),none,some (Zs "TwoWays" 286),some (Zs "TwoWays" 294),some (.builtin "ValueError.__new__"),some (.bool true)]),
  (116,Zk "__init__" "Ring.__init__" 323 324 325 24 2 111 112 (.none) (.ref 113) (.ref 114) 115 328 329),
  (117,Zf "__init__" "Ring.__init__" ((jD (bT 6)).getD 0 (.Pass ⟨0,0,0,0⟩)) Z1 (.ref 116)),
  (119,Zy P 318 Z1 322 22 321 330 117 332 118 333),
  (120,Zx "Ring" 120 119 #[some (.ref 104),none,some (Zs "Ring" 311),some (Zs "Ring" 319),some (.builtin "ValueError.__new__"),some (.bool true)]),
  (135,Zk "__init__" "Nowhere.__init__" 348 349 350 29 3 130 131 (.none) (.ref 132) (.ref 133) 134 354 355),
  (136,Zf "__init__" "Nowhere.__init__" ((jD (bT 7)).getD 0 (.Pass ⟨0,0,0,0⟩)) Z1 (.ref 135)),
  (138,Zy P 343 Z1 347 27 346 356 136 359 137 360),
  (139,Zx "Nowhere" 139 138 #[some (.ref 123),none,some (Zs "Nowhere" 336),some (Zs "Nowhere" 344),some (.builtin "ValueError.__new__"),some (.bool true)]),
  (157,Zy P 370 Z1 374 32 373 382 155 384 156 385),
  (158,Zx "NoRow" 158 157 #[some (.ref 142),none,some (Zs "NoRow" 363),some (Zs "NoRow" 371),some (.builtin "ValueError.__new__"),some (.bool true)]),
  (169,Zd #[Ze P "__module__" 395 Z1,Ze P "__firstlineno__" 399 (.int 36 398),Ze P "__static_attributes__" 400 (.ref 168),Ze P "__doc__" 401 .none] 2),
  (170,Zx "NoMark" 170 169 #[some (.ref 161),none,some (Zs "NoMark" 388),some (Zs "NoMark" 396),some (.builtin "ValueError.__new__"),some (.bool true)]),
  (188,Zy P 411 Z1 415 38 414 423 186 425 187 426),
  (189,Zx "NoText" 189 188 #[some (.ref 173),none,some (Zs "NoText" 404),some (Zs "NoText" 412),some (.builtin "ValueError.__new__"),some (.bool true)]),
  (197,Zl "shown" 433 434 435 44 1 192 193 (.none) (.ref 194) (.ref 195) 196 438 439),
  (198,Zg "shown" 13 Z2 198),
  (202,Zl "key_of" 441 442 443 49 1 199 200 .none .none .none 201 444 445),
  (203,Zg "key_of" 14 Z2 203),
  (207,Zl "rank" 447 448 449 51 1 204 205 .none .none .none 206 450 451),
  (208,Zg "rank" 15 Z2 208),
  (214,Zl "fits" 455 456 457 54 2 209 210 (.none) (.ref 211) (.ref 212) 213 460 461),
  (215,Zg "fits" 17 Z3 215),
  (221,Zl "poured" 463 464 465 56 1 216 217 (.none) (.ref 218) (.ref 219) 220 473 474),
  (222,Zg "poured" 18 Z3 222),
  (228,Zl "poured_sees" 476 477 478 62 1 223 224 (.none) (.ref 225) (.ref 226) 227 485 486),
  (229,Zg "poured_sees" 19 Z3 229),
  (235,Zl "copied" 488 489 490 68 1 230 231 (.none) (.ref 232) (.ref 233) 234 492 493),
  (236,Zg "copied" 20 Z3 236),
  (242,Zl "mark_rank" 495 496 497 70 1 237 238 (.none) (.ref 239) (.ref 240) 241 499 500),
  (243,Zg "mark_rank" 21 Z3 243),
  (249,Zl "see_rank" 502 503 504 72 1 244 245 (.none) (.ref 246) (.ref 247) 248 506 507),
  (250,Zg "see_rank" 22 Z3 250),
  (254,Zl "ways" 511 512 513 75 2 251 252 .none .none .none 253 514 515),
  (255,Zg "ways" 24 Z4 255),
  (261,Zl "pages_by_path" 517 518 519 80 1 256 257 (.none) (.ref 258) (.ref 259) 260 524 525),
  (262,Zg "pages_by_path" 25 Z4 262),
  (268,Zl "goals_by_path" 527 528 529 85 1 263 264 (.none) (.ref 265) (.ref 266) 267 535 536),
  (269,Zg "goals_by_path" 26 Z4 269),
  (275,Zl "way_of_see" 538 539 540 91 3 270 271 (.none) (.ref 272) (.ref 273) 274 550 551),
  (276,Zg "way_of_see" 27 Z4 276),
  (282,Zl "refuse_start" 553 554 555 104 5 277 278 (.none) (.ref 279) (.ref 280) 281 561 562),
  (283,Zg "refuse_start" 28 Z4 283),
  (289,Zl "way_of_goal" 564 565 566 111 2 284 285 (.none) (.ref 286) (.ref 287) 288 571 572),
  (290,Zg "way_of_goal" 29 Z4 290),
  (296,Zl "ring_in" 574 575 576 118 1 291 292 (.none) (.ref 293) (.ref 294) 295 578 579),
  (297,Zg "ring_in" 30 Z4 297),
  (303,Zl "from_least" 581 582 583 120 1 298 299 (.none) (.ref 300) (.ref 301) 302 586 587),
  (304,Zg "from_least" 31 Z4 304),
  (310,Zl "pages" 591 592 593 124 3 305 306 (.none) (.ref 307) (.ref 308) 309 601 602),
  (311,Zg "pages" 33 Z5 311),
  (317,Zl "stretches" 606 607 608 136 2 312 313 (.none) (.ref 314) (.ref 315) 316 614 615),
  (318,Zg "stretches" 35 Z6 318),
  (324,Zl "strong_by_page" 617 618 619 145 2 319 320 (.none) (.ref 321) (.ref 322) 323 628 629),
  (325,Zg "strong_by_page" 36 Z6 325),
  (331,Zl "goes_on" 631 632 633 151 3 326 327 (.none) (.ref 328) (.ref 329) 330 637 638),
  (332,Zg "goes_on" 37 Z6 332),
  (336,Zl "entries" 642 643 644 154 4 333 334 .none .none .none 335 645 646),
  (337,Zg "entries" 39 Z7 337),
  (343,Zl "refuse_unfit" 648 649 650 160 2 338 339 (.none) (.ref 340) (.ref 341) 342 654 655),
  (344,Zg "refuse_unfit" 40 Z7 344),
  (350,Zl "marks_by_path" 657 658 659 164 1 345 346 (.none) (.ref 347) (.ref 348) 349 665 666),
  (351,Zg "marks_by_path" 41 Z7 351),
  (357,Zl "_law_whole" 670 671 672 173 1 352 353 (.none) (.ref 354) (.ref 355) 356 674 675),
  (358,Zg "_law_whole" 43 Zm 358),
  (364,Zl "_law_cell_at" 677 678 679 175 2 359 360 (.none) (.ref 361) (.ref 362) 363 682 683),
  (365,Zg "_law_cell_at" 44 Zm 365),
  (371,Zl "_law_head_by" 685 686 687 179 2 366 367 (.none) (.ref 368) (.ref 369) 370 696 697),
  (372,Zg "_law_head_by" 45 Zm 372),
  (376,Zl "_law_path_by" 699 700 701 198 2 373 374 .none .none .none 375 702 703),
  (377,Zg "_law_path_by" 46 Zm 377),
  (383,Zl "_law_fresh" 705 706 707 201 4 378 379 (.none) (.ref 380) (.ref 381) 382 714 715),
  (384,Zg "_law_fresh" 47 Zm 384),
  (390,Zl "_law_marks" 717 718 719 209 2 385 386 (.none) (.ref 387) (.ref 388) 389 725 726),
  (391,Zg "_law_marks" 48 Zm 391),
  (397,Zl "_law_ring_by" 728 729 730 215 3 392 393 (.none) (.ref 394) (.ref 395) 396 736 737),
  (398,Zg "_law_ring_by" 49 Zm 398),
  (404,Zl "_law_beside" 739 740 741 220 4 399 400 (.none) (.ref 401) (.ref 402) 403 752 753),
  (405,Zg "_law_beside" 50 Zm 405),
  (411,Zl "_law_told_of" 755 756 757 233 2 406 407 (.none) (.ref 408) (.ref 409) 410 762 763),
  (412,Zg "_law_told_of" 51 Zm 412),
  (416,Zl "_law_ring_so" 765 766 767 240 2 413 414 .none .none .none 415 768 769),
  (417,Zg "_law_ring_so" 52 Zm 417),
  (423,Zl "_law_open_so" 771 772 773 248 4 418 419 (.none) (.ref 420) (.ref 421) 422 783 784),
  (424,Zg "_law_open_so" 53 Zm 424),
  (428,Zl "law" 786 787 788 257 1 425 426 .none .none .none 427 789 790),
  (429,Zg "law" 54 Zm 429)]
noncomputable def AA:Tj:=[2,3,23,24,40,41,43,44,59,60,62,63,78,79,81,82,97,98,100,101,116,117,119,120,135,136,138,139,157,158,169,170,188,189,197,198,202,203,207,208,214,215,221,222,228,229,235,236,242,243,249,250,254,255,261,262,268,269,275,276,282,283,289,290,296,297,303,304,310,311,317,318,324,325,331,332,336,337,343,344,350,351,357,358,364,365,371,372,376,377,383,384,390,391,397,398,404,405,411,412,416,417,423,424,428,429]
def VV:Program:={ Fg2 with main:={ Fg2.main with body:=[1,2,3,4,5,6,7,8,9,10,12,13,14,15,17,18,19,20,21,22,24,25,26,27,28,29,30,31,33,35,36,37,39,40,41,43,44,45,46,47,48,49,50,51,52,53,54].map bT } }
theorem ka(P:Params):AA=map (λx=>x.fst) (KK P):=by kernel_rfl
theorem hm(w:World):(openEnds treeTable Fg2 w 7268).map (λs=>(openSeen VV [] (importedModules Fg2.main.body) (λs=>xlAt VV [] s && recOk Fg3.row.records s) true s).2)=some (openGood VV []).2:=by kernel_rfl
theorem hn(w:World):(openEnds treeTable Fg2 w 7268).map (λs=>((openSeen VV [] (importedModules Fg2.main.body) (λs=>xlAt VV [] s && recOk Fg3.row.records s) true s).1,(kHook KK AA ka).obs s))=some ((openGood VV []).1,(kHook KK AA ka).val w):=by kernel_rfl
def wsl:Fg3.wellSaid=true:=by kernel_rfl
theorem hl:LeftO Fg2 VV [] (λs=>xlAt VV [] s && recOk Fg3.row.records s) (kHook KK AA ka).obs (kHook KK AA ka).val 7268:=λw=>by
 have⟨s,a,b⟩:=yb.mp (hm w);have⟨z,c,d⟩:=yb.mp (hn w);have e:s=z:=md (a.symm.trans c);subst e;rw[a];have⟨f,g⟩:=Prod.mk.inj d;rwa[qe some (congr (qe Prod.mk (jq f b)) g)]
end K21
namespace L2
open PySem PySem.Spec PyProof.Rows
abbrev aW:=Sum Int Str
def nB:aW->Value->Bool
 |.inl k,v=>Value.isInt k v
 |.inr x,v=>Value.isStrOf x v
def HZ(w:World):aW->Int
 |.inl k=>hashInt k
 |.inr x=>hashStr w x
def kE:∀{k:aW}{v:Value},nB k v=true->(∃i t,k=Sum.inl i/\v=Value.int i t)\/(∃x t,k=Sum.inr x/\v=Value.str x t)
 |.inl i,v,h=>by
  have⟨t,e⟩:=Value.isInt_shape (k:=i) (v:=v) h;rwa[.inl ⟨i,t,rfl,e⟩]
 |.inr x,v,h=>by
  have⟨t,e⟩:=Value.isStrOf_shape (x:=x) (v:=v) h;rwa[.inr ⟨x,t,rfl,e⟩]
def H9(i:Int)(t:Tok):nB (.inl i) (.int i t)=true:=by simp[nB,Value.isInt]
def Ia(x:Str)(t:Tok):nB (.inr x) (.str x t)=true:=by simp[nB,Value.isStrOf]
def Ib(a b:Int):decide ((Sum.inl a:aW)=Sum.inl b)=(a == b):=by
 by_cases e:a=b
 ·subst e;simp
 ·have h:¬(Sum.inl a:aW)=Sum.inl b:=λq=>e (px q)
  rw[ac h];exact(ji.mpr e).symm
def Ic(a b:Str):decide ((Sum.inr a:aW)=Sum.inr b)=decide (a=b):=by
 by_cases e:a=b
 ·subst e;simp
 ·have h:¬(Sum.inr a:aW)=Sum.inr b:=λq=>e (Sum.inr.inj q)
  rw[ac h,ac e]
def Ie(a:Int)(b:Str):decide ((Sum.inl a:aW)=Sum.inr b)=false:=ac (λq=>nomatch q)
def Ig(a:Str)(b:Int):decide ((Sum.inr a:aW)=Sum.inl b)=false:=ac (λq=>nomatch q)
def gg(prog:Program)(w:World):PySem.KeyKind prog w aW where
 is:=nB
 hash:=HZ w
 inj:=λv a b ha hb=>by
  rcases kE ha with⟨i,t,rfl,rfl⟩|⟨x,t,rfl,rfl⟩
  ·rcases kE hb with⟨j,u,rfl,e⟩|⟨y,u,rfl,e⟩
   ·injection e with e1 _;rw[e1]
   ·rwa[nomatch e]
  ·rcases kE hb with⟨j,u,rfl,e⟩|⟨y,u,rfl,e⟩
   ·rwa[nomatch e]
   ·injection e with e1 _;rw[e1]
 byValue:=λk v h=>by
  rcases kE h with⟨i,t,rfl,rfl⟩|⟨x,t,rfl,rfl⟩ <;> rfl
 pyHash:=λhv h=>by
  rcases kE hv with⟨i,t,rfl,rfl⟩|⟨x,t,rfl,rfl⟩
  ·rwa[ar h]
  ·rwa[br h]
 eqBool:=λhu hv h=>by
  rcases kE hu with⟨i,t,rfl,rfl⟩|⟨x,t,rfl,rfl⟩
  ·rcases kE hv with⟨j,u,rfl,rfl⟩|⟨y,u,rfl,rfl⟩
   ·rw[Ib]at h;rwa[wpAny_eqBool_int h]
   ·rw[Ie]at h;rwa[SeqAt.EqAt.int_str i t y u _ _ _ _ h]
  ·rcases kE hv with⟨j,u,rfl,rfl⟩|⟨y,u,rfl,rfl⟩
   ·rw[Ig]at h;rwa[SeqAt.EqAt.str_int x t j u _ _ _ _ h]
   ·rw[Ic]at h;rwa[wpAny_eqBool_str h]
 «strs»:=λk x t v h=>by
  rcases kE h with⟨i,u,rfl,e⟩|⟨y,u,rfl,e⟩
  ·rwa[nomatch e]
  ·injection e with e1 _
   subst e1
   cases v <;> rfl
def Ih(prog:Program)(w:World)(i:Int)(t:Tok):(gg prog w).is (.inl i) (.int i t)=true:=H9 i t
def Ii(prog:Program)(w:World)(x:Str)(t:Tok):(gg prog w).is (.inr x) (.str x t)=true:=Ia x t
inductive V where
 |non|bl (b:Bool)|int (i:Int)|str (x:Str)|byt (b:Array UInt8)|flt (b:UInt64)|ref (a:Addr)|ty (n:String)
 deriving DecidableEq
abbrev T6:=List V
def bj:V->Value->Prop
 |.non,u=>u=Value.none
 |.bl b,u=>u=Value.bool b
 |.int i,u=>∃t,u=Value.int i t
 |.str x,u=>∃t,u=Value.str x t
 |.byt b,u=>∃t,u=Value.bytes b t
 |.flt b,u=>∃t,u=Value.float b t
 |.ref a,u=>u=ref a
 |.ty n,u=>u=Value.type n
abbrev bD:T6->T9->Prop:=Paired bj
theorem bD.length(r:bD xs a):xs.length=a.length:=Paired.length r
theorem bD.get:∀{xs:T6}{a:T9}{i:Nat}{x:V},bD xs a->xs[i]?=some x->∃u,a[i]?=some u/\bj x u
 |_,_,_,_,.nil,e=>by simp at e
 |_,_,0,_,.cons r _,e=>by simp at e;subst e;exact⟨_,rfl,r⟩
 |_,_,i+1,x,.cons _ t,e=>by
  have⟨u,b,c⟩:=bD.get (i:=i) (x:=x) t (by simpa using e);exact⟨u,by simpa using b,c⟩
theorem bD.set(r:bj x u):∀{xs:T6}{a:T9} (i:Nat),bD xs a->bD (xs.set i x) (a.set i u)
 |_,_,_,.nil=>.nil
 |_,_,0,.cons _ t=>.cons r t
 |_,_,i+1,.cons q t=>.cons q (bD.set r i t)
theorem bD.append:∀{xs ys:T6}{a b:T9},bD xs a->bD ys b->bD (xs++ys) (a++b)
 |_,_,_,_,.nil,s=>s
 |_,_,_,_,.cons r t,s=>.cons r (bD.append t s)
theorem bD.take:∀{xs:T6}{a:T9} (n:Nat),bD xs a->bD (xs.take n) (a.take n)
 |_,_,0,_=>.nil
 |_,_,_+1,.nil=>.nil
 |_,_,n+1,.cons r t=>.cons r (bD.take n t)
theorem bD.drop:∀{xs:T6}{a:T9} (n:Nat),bD xs a->bD (xs.drop n) (a.drop n)
 |_,_,0,r=>r
 |_,_,_+1,.nil=>.nil
 |_,_,n+1,.cons _ t=>bD.drop n t
def eO:Option V->Ta->Prop
 |some v,some u=>bj v u
 |none,none=>True
 |_,_=>False
def KV{κ:Type}:List (κ×V)->List (κ×Value)->Prop:=Paired λ(p:κ×V) (q:κ×Value)=>p.1=q.1/\bj p.2 q.2
def kV:aW->V
 |.inl i=>.int i
 |.inr x=>.str x
inductive HO where
 |lst (xs:T6)
 |tup (xs:T6)
 |dK (kvs:List (aW×V))|dT (kvs:List (List aW×V))
 |set (S:Int->Bool) (n:Nat)
 |ins (C dx:Addr) (fs:List (Str×V))
 |own (x:Addr)
 |xd (fs:List (Str×V))
 |met (f x:Addr)
 |rng (lo hi:Int)
 |frz (o:Obj) (u:HO)
 |tbl (ps:Tf)
 |ext (φ:Heap->Prop)
abbrev Hp:=Addr->Option HO
def aI(H:Hp)(a:Addr)(o:HO):Hp:=λb=>if b=a then some o else H b
def aZ:aI H a o a=some o:=by delta aI;rw[la rfl]
def aK(h:b≠a):aI H a o b=H b:=by delta aI;rw[wa h]
def py:aI (aI H a o) a u=aI H a u:=by
 funext b;delta aI;split <;> rfl
def gD{H:Hp}(h:H a=some o)(h':H b=some u)(d:o≠u):a≠b:=by
 intro e;subst e;rw[h]at h';rwa[d (md h')]
def cG{H:Hp}(h:H a=some o)(h':H b=none):a≠b:=by
 intro e;subst e;rw[h]at h';cases h'
section
variable (P:Program)(w:World)
def cw(H:Hp)(h:Heap)(a:Addr):HO->Prop
 |.lst xs=>xs.length<=sizeLine/\∃(its:T9) (n:Nat),bD xs its/\h.get? a=some { cls:=.type "list",data:=.seq its.toArray n }
 |.tup xs=>xs.length<=sizeLine/\∃its:T9,bD xs its/\IsTup h a its.toArray
 |.dK kvs=>kvs.length<=sizeLine/\(a == sysModules)=false/\∃vs,KV kvs vs/\h.DictOf (gg P w) a vs
 |.dT kvs=>kvs.length<=sizeLine/\(a == sysModules)=false/\∃xs:List (List aW×Addr×Value),
   Paired (λ(p:List aW×V) (q:List aW×Addr×Value)=>p.1=q.1/\H q.2.1=some (.tup (p.1.map kV))/\bj p.2 q.2.2) kvs xs ∧
   ∃o es ep,h.get? a=some o/\o.ExactDict/\o.data=.dict es ep/\es.toList=xs.map (entryOfKey (tupleKind (gg P w)))/\(xs.map (·.1)).Nodup
 |.set S n=>h.SetOf (intKind P w) a S n
 |.ins C dx fs=>H dx=some (.own a)/\fs.length<=1000/\dx≠a/\h.get? a=some (instObj C dx) ∧
   ∃mA,h.Ns1 dx mA/\(∀f,eO (fs.lookup f) (mA f))/\PySem.Within mA (fs.map (·.1))
 |.own _=>∃o,h.get? a=some o
 |.xd fs=>∃mA,h.Ns1 a mA/\∀f,eO (fs.lookup f) (mA f)
 |.rng lo hi=>∃t u v,h.get? a=some { cls:=.type "range",data:=.fields #[.int lo t,.int hi u,.int 1 v] }
 |.frz o u=>h.get? a=some o/\cw H h a u
 |.tbl ps=>h.get? a=some { cls:=.none,data:=.fields ps }
 |.met f x=>h.get? a=some (methodObj (.ref f) (.ref x))
 |.ext b=>b h/\(∃o,h.get? a=some o)/\∀h1 h2:Heap,b h1->(∀o,h1.get? a=some o->h2.get? a=some o)->b h2
def cT(H:Hp)(h:Heap):Prop:=∀a o,H a=some o->cw P w H h a o
end
section
variable {h h':Heap}
theorem cw.lt(x:cw P w H h a o):a<h.objs.size:=by
 cases o with
 |lst xs=>have⟨_,_,_,_,e⟩:=x;rwa[wb e]
 |tup xs=>have⟨_,_,_,p⟩:=x;rwa[p.lt]
 |dK kvs=>have⟨_,_,_,_,o,_,_,e,_⟩:=x;rwa[wb e]
 |dT kvs=>have⟨_,_,_,_,o,_,_,e,_⟩:=x;rwa[wb e]
 |set S n=>have⟨o,_,_,_,e,_⟩:=x;rwa[wb e]
 |ins C dx fs=>have⟨_,_,_,e,_⟩:=x;rwa[wb e]
 |own y=>have⟨_,e⟩:=x;rwa[wb e]
 |xd fs=>have⟨_,⟨_,_,_,e,_⟩,_⟩:=x;rwa[wb e]
 |rng b c=>have⟨_,_,_,e⟩:=x;rwa[wb e]
 |frz d u=>have⟨e,_⟩:=x;rwa[wb e]
 |tbl ps=>rwa[wb (show h.get? a=some _ from x)]
 |met f y=>rwa[wb (show h.get? a=some _ from x)]
 |ext g=>have⟨_,⟨_,e⟩,_⟩:=x;rwa[wb e]
theorem Paired.mapP{d e:Type}{F G:d->e->Prop}:∀{l₁:List d}{c:List e},Paired F l₁ c->(∀a b,F a b->G a b)->Paired G l₁ c
 |_,_,.nil,_=>.nil
 |_,_,.cons r t,f=>.cons (f _ _ r) (Paired.mapP t f)
def cw.stay(x:cw P w H h a o)(k:∀b u,(b=a\/H b=some (.own a))->h.get? b=some u->h'.get? b=some u)(l:∀b,H b=some (.own a)->H' b=some (.own a))(m:∀b xs,H b=some (.tup xs)->H' b=some (.tup xs)):cw P w H' h' a o:=by
 induction o with
 |lst xs=>have⟨z,its,n,r,e⟩:=x;exact⟨z,its,n,r,k _ _ 'j' e⟩
 |tup xs=>have⟨z,its,r,g,e,c⟩:=x;exact⟨z,its,r,g,k _ _ 'j' e,c⟩
 |dK kvs=>have⟨z,y,vs,r,g,es,ep,e,c⟩:=x;exact⟨z,y,vs,r,g,es,ep,k _ _ 'j' e,c⟩
 |dT kvs =>
  have⟨z,y,xs,r,g,es,ep,e,c⟩:=x;exact⟨z,y,xs,Paired.mapP r λp q z=>⟨z.1,m _ _ z.2.1,z.2.2⟩,g,es,ep,k _ _ 'j' e,c⟩
 |set S n=>have⟨g,es,ep,t,e,c⟩:=x;exact⟨g,es,ep,t,k _ _ 'j' e,c⟩
 |ins C dx fs =>
  have⟨d,z,j,e,mA,⟨i,es,ep,e2,c⟩,r⟩:=x;exact⟨l _ d,z,j,k _ _ 'j' e,mA,⟨i,es,ep,k _ _ (.inr d) e2,c⟩,r⟩
 |own y=>have⟨g,e⟩:=x;exact⟨g,k _ _ 'j' e⟩
 |xd fs=>have⟨mA,⟨i,es,ep,e,c⟩,r⟩:=x;exact⟨mA,⟨i,es,ep,k _ _ 'j' e,c⟩,r⟩
 |rng A B=>have⟨t,u,v,e⟩:=x;exact⟨t,u,v,k _ _ 'j' e⟩
 |frz g u s=>have⟨e,q⟩:=x;exact⟨k _ _ 'j' e,s q⟩
 |tbl ps =>
  have e:h.get? a=some { cls:=.none,data:=.fields ps }:=x;show h'.get? a=some { cls:=.none,data:=.fields ps };rwa[k a _ 'j' e]
 |met f y =>
  have e:h.get? a=some (methodObj (.ref f) (.ref y)):=x;show h'.get? a=some (methodObj (.ref f) (.ref y));rwa[k a _ 'j' e]
 |ext E=>have⟨p,⟨o,e⟩,st⟩:=x;exact⟨st _ _ p λo q=>k _ _ 'j' q,⟨o,k _ _ 'j' e⟩,st⟩
theorem cT.lt(x:cT P w H h)(e:H a=some o):a<h.objs.size:=(x a o e).lt
def cT.fresh(x:cT P w H h)(e:h.objs.size<=a):H a=none:=by
 cases q:H a with
 |none=>rfl
 |some u=>rwa[absurd (xb (x.lt q) e) (zi _)]
def cT.kept(x:cT P w H h)(k:∀b u,h.get? b=some u->h'.get? b=some u):cT P w H h':=λa o e =>
 (x a o e).stay (λb u _ q=>k b u q) (λ_ q=>q) λ_ _ q=>q
def cT.laid(x:cT P w H h)(k:∀b u,h.get? b=some u->h'.get? b=some u)(f:h.objs.size<=a)(new:cw P w (aI H a o) h' a o):cT P w (aI H a o) h':=λb u e=>by
 have hn:=x.fresh f;by_cases d:b=a
 ·subst d;rw[aZ]at e;cases e;rwa[new]
 ·rw[aK d]at e
  exact(x b u e).stay (λc v _ q=>k c v q) (λc q=>by rw[aK (cG q hn)];rwa[q]) λc xs q=>by rw[aK (cG q hn)];rwa[q]
end
def Rd(H:Hp)(a:Addr)(u:HO):Prop:=H a=some u\/∃o,H a=some (.frz o u)
def Rd.of(h:H a=some u):Rd H a u:=.inl h
def Rd.ok(r:Rd H a u)(x:cT P w H h):cw P w H h a u:=by
 rcases r with r|⟨o,r⟩
 ·rwa[x a u r]
 ·have⟨_,q⟩:=x a _ r
  rwa[q]
def qV:Option HO->Prop
 |some (.lst _)=>True
 |some (.dK _)=>True
 |some (.dT _)=>True
 |some (.set _ _)=>True
 |some (.ins _ _ _)=>True
 |some (.ext _)=>True
 |_=>False
section
variable {h h':Heap}
def cT.write(ok:cT P w H h)(i:qV (H x))(he:e=x\/H e=some (.own x))(k:∀b u,b≠e->h.get? b=some u->h'.get? b=some u)(j:∃u,h'.get? e=some u)(new:cw P w (aI H x o') h' x o'):cT P w (aI H x o') h':=λb u q=>by
 have d:∀c y,H c=some (.own y)->c≠x:=λc y r z=>by subst z;rw[r]at i;rwa[i]
 have f:∀c xs,H c=some (.tup xs)->c≠x:=λc xs r z=>by subst z;rw[r]at i;rwa[i]
 by_cases g:b=x
 ·subst g;rw[aZ]at q;cases q;rwa[new]
 ·rw[aK g]at q
  by_cases a:b=e
  ·have l:H b=some (.own x):=by
    rcases he with z|z
    ·rwa[absurd (a.trans z) g]
    ·rw[a];rwa[z]
   rw[q]at l;cases l;have⟨v,m⟩:=j;exact⟨v,by rw[a];rwa[m]⟩
  ·refine(ok b u q).stay (λc v hc r=>k c v ?_ r) (λc r=>by rw[aK (d c b r)];rwa[r]) λc xs r=>by rw[aK (f c xs r)];exact r
   rcases hc with rfl|hc
   ·rwa[a]
   ·rintro rfl
    rcases he with z|z
    ·rwa[d c b hc z]
    ·rw[hc]at z;cases z;rwa[g rfl]
end
structure Un(fs ex:Tj)(H H':Hp)(h h':Heap):Prop where
 keep:∀b o,h.get? b=some o->H b=none->b ∉ fs->b ∉ ex->h'.get? b=some o
 slot:∀b o,h.get? b=some o->H b=none->b∈fs->b ∉ ex->∃sl,h'.get? b=some { o with slots:=sl }
 free:∀b o,h.get? b=some o->H b=none->b ∉ ex->H' b=none
 there:∀b o,h.get? b=some o->b ∉ ex->∃o',h'.get? b=some o'
 tups:∀b xs,H b=some (.tup xs)->H' b=some (.tup xs)
 frzs:∀b o u,H b=some (.frz o u)->H' b=some (.frz o u)
 tbls:∀b ps,H b=some (.tbl ps)->∃more,H' b=some (.tbl (ps++more))
section
variable {fs ex:Tj}{H:Hp}{h h1 h':Heap}
def Un.any(u:Un fs ex H H1 h h1){a:Obj}(q:h.get? b=some a)(n:H b=none)(d:b ∉ ex):∃sl,h1.get? b=some { a with slots:=sl }:=by
 by_cases c:b∈fs
 ·rwa[u.slot b a q n c d]
 ·exact⟨a.slots,u.keep b a q n c d⟩
def Un.kept(k:∀b u,h.get? b=some u->h'.get? b=some u):Un fs ex H H h h' :=
 ⟨λb a q _ _ _=>k b a q,λb a q _ _ _=>⟨a.slots,k b a q⟩,λ_ _ _ n _=>n,λb a q _=>⟨a,k b a q⟩,λ_ _ q=>q,λ_ _ _ q=>q,λ_ ps q=>⟨#[],by rw[q];simp⟩⟩
def Un.refl:Un fs ex H H h h:=Un.kept λ_ _ q=>q
def Un.laid(k:∀b u,h.get? b=some u->h'.get? b=some u)(hp:h.objs.size<=a)(hn:H a=none):Un fs ex H (aI H a o) h h' where
 keep:=λb u q _ _ _=>k b u q
 slot:=λb u q _ _ _=>⟨u.slots,k b u q⟩
 free:=λb u q n _=>by rw[aK (vc (xb (wb q) hp))];rwa[n]
 there:=λb u q _=>⟨u,k b u q⟩
 tups:=λb xs q=>by rw[aK (cG q hn)];rwa[q]
 frzs:=λb u xs q=>by rw[aK (cG q hn)];rwa[q]
 tbls:=λb ps q=>⟨#[],by rw[aK (cG q hn),q];simp⟩
def Un.write(c:qV (H x))(he:e=x\/H e=some (.own x))(k:∀b u,b≠e->h.get? b=some u->h'.get? b=some u)(d:∃u,h'.get? e=some u):Un fs ex H (aI H x o) h h':=by
 have f:∀b,H b=none->b≠x:=λb n z=>by subst z;rw[n]at c;rwa[c]
 have g:∀b,H b=none->b≠e:=λb n z=>by
  subst z;rcases he with r|r
  ·rwa[f b n r]
  ·rw[n]at r;cases r
 have hm:∀b u,H b=some u->¬qV (some u)->b≠x:=λb u q nm z=>by subst z;rw[q]at c;rwa[nm c]
 refine⟨λ b u q n _ _=>k b u (g b n) q,λ b u q n _ _=>⟨u.slots,k b u (g b n) q⟩,λ b u q n _=>by rw[aK (f b n)];exact n,λ b u q _=>?_,
  λb xs q=>by rw[aK (hm b _ q λz=>z)];exact q,λb u xs q=>by rw[aK (hm b _ q λz=>z)];exact q,λb ps q=>⟨#[],by rw[aK (hm b _ q λz=>z),q];simp⟩⟩
 by_cases a:b=e
 ·subst a;rwa[d]
 ·exact⟨u,k b u a q⟩
end
noncomputable def tX(h:Heap)(H:Hp):Tj:=(range h.objs.size).filter λa=>(H a).isSome
def lD(h:Heap)(H:Hp):Heap:=PySem.W.hideAll h (tX h H)
def Ij(h:Heap)(H:Hp):(lD h H).objs.size=h.objs.size:=PySem.W.hideAll_size _ _
def Ik(e:h.get? b=some o)(n:H b=none):(lD h H).get? b=some o :=
 PySem.W.hideAll_get _ e λhm=>by
  have q:(H b).isSome=true:=(ug.mp hm).2;rw[n]at q;simp at q
def Il(e:(lD h H).get? b=some o):h.get? b=some o/\H b=none:=by
 have a:h.get? b=some o:=PySem.W.of_hideAll (tX h H) e;erw[⟨a,?_⟩]
 cases q:H b with
 |none=>rfl
 |some x =>
  have hm:b∈tX h H:=ug.mpr ⟨uf.mpr (wb a),by simp[q]⟩;have z:(lD h H).get? b=none:=PySem.W.hideAll_none (tX h H) hm;rw[z]at e;cases e
structure Mod(K:Fg1)(mg:Str->Ta)(base:Heap):Prop where
 kin:K.In base
 glob:base.Ns mainGlobals mg
 blt:∃mb,base.Ns builtinsNs mb/\∀x:Str,x ≠ "__name__" -> mb x=bootBuiltins x
 nolimit:base.NoLimit
structure Cx where
 p:Program
 w:World
 K:Fg1
 mg:Str->Ta
 base:Heap
 A:Around
 N:T8
 s₀:Shared
 H₀:Hp
 u:Env
 outer:Tl
 t:Tl
 ex:Tj
 fn:Str->Bool
 k:Bool
 pn:T1
 xe:T2
noncomputable def d8(l:Tl):Tj:=l.filterMap (·.frame)
abbrev Cx.fs(X:Cx):Tj:=d8 X.outer
def gY(sc:Scope)(x:Str):Prop:=sc.names.lookup x=some .local\/sc.names.lookup x=some .cell\/sc.names.lookup x=some .free
def jE(sc:Scope)(x:Str):Prop:=sc.names.lookup x=some .local\/sc.names.lookup x=some .cell
def Im(env:Env)(h:Heap)(m:Str->Ta)(x:Str)(u:Value):Prop :=
 (env.kindOf x=some .local/\m x=some u)\/((env.kindOf x=some .cell\/env.kindOf x=some .free)/\∃c,env.cells.lookup x=some c/\h.IsCell c (some u))
structure Cx.Ok(X:Cx):Prop where
 mod:Mod X.K X.mg X.base
 kind:X.u.scope.kind=.function
 glob:X.u.globals=mainGlobals
 blt:X.u.builtins=builtinsNs
 above:X.s₀.heap.objs.size<=X.u.locals
 inj:∀x y c,X.u.cells.lookup x=some c->X.u.cells.lookup y=some c->x=y
 has:∀x,(X.u.kindOf x=some .cell\/X.u.kindOf x=some .free)->∃c,X.u.cells.lookup x=some c
 cab:∀x c,X.fn x=true->X.u.cells.lookup x=some c->X.s₀.heap.objs.size<=c
 hd:X.k=true->X.A.handled=none
 frames:X.A.frames=some X.t
 stk:X.t=X.outer\/(X.t=X.u::X.outer/\X.u.frame=some X.u.locals)
 exf:∀b∈X.ex,b≠X.u.locals/\∀x c,X.u.cells.lookup x=some c->c≠b
 bs:∀b o,X.base.get? b=some o->X.s₀.heap.get? b=some o/\X.H₀ b=none
 bsz:X.base.objs.size<=X.s₀.heap.objs.size
 noex:∀b o,X.base.get? b=some o->b ∉ X.ex
 exfs:∀b∈X.ex,b ∉ X.fs
 funs:X.s₀.heap.FunFrames X.base X.outer
 frf:∀b∈X.fs,X.H₀ b=none
structure ax(X:Cx)(pins:T1)(σ:List (Option V))(H:Hp)(s:Shared):Prop where
 ok:X.Ok
 os:s.os=X.s₀.os
 bare:AllBare s.gens
 base:Un X.fs X.ex X.H₀ H X.s₀.heap s.heap
 loc:∃m,s.heap.Ns X.u.locals m/\∀(i:Nat) (x:Str) (v:V),X.N[i]?=some x->σ[i]?=some (some v)->gY X.u.scope x->∃u,bj v u/\Im X.u s.heap m x u
 cell:∀x c,X.u.cells.lookup x=some c->∃v,s.heap.IsCell c v
 free:H X.u.locals=none
 freeC:∀x c,X.u.cells.lookup x=some c->H c=none
 pin:∀p∈X.pn++pins,s.heap.get? p.1=some p.2/\H p.1=none/\p.1≠X.u.locals/\p.1 ∉ X.fs/\∀v,p.2.data≠.cell v
 hok:cT X.p X.w H s.heap
 len:σ.length=X.N.length
section
variable {X:Cx}{σ:List (Option V)}{s:Shared}{h':Heap}
def Cx.Ok.nofr(ok:X.Ok)(e:X.base.get? b=some o):b ∉ X.fs:=λa=>by
 have:=(ok.funs.mem a).1
 rw[e]at this;cases this
theorem ax.bs(I:ax X pins σ H s):∀b o,X.base.get? b=some o->s.heap.get? b=some o/\H b=none:=λb o e =>
 ⟨I.base.keep b o (I.ok.bs b o e).1 (I.ok.bs b o e).2 (I.ok.nofr e) (I.ok.noex b o e),I.base.free b o (I.ok.bs b o e).1 (I.ok.bs b o e).2 (I.ok.noex b o e)⟩
def ax.bk(I:ax X pins σ H s):∀b o,X.base.get? b=some o->s.heap.get? b=some o:=λb o e=>(I.bs b o e).1
theorem ax.mod(I:ax X pins σ H s):Mod X.K X.mg X.base:=I.ok.mod
def ax.kIn(I:ax X pins σ H s):X.K.In s.heap:=I.ok.mod.kin.keeps I.bk
theorem ax.lt(I:ax X pins σ H s):X.u.locals<s.heap.objs.size:=let ⟨_,hn,_⟩:=I.loc;hn.lt
def ax.sz(I:ax X pins σ H s):X.s₀.heap.objs.size<=s.heap.objs.size:=zc I.ok.above (et I.lt)
def ax.nofs(I:ax X pins σ H s)(h:s.heap.objs.size<=a):a ∉ X.fs:=λb=>by
 have⟨_,o,c,_⟩:=I.ok.funs.mem b
 rwa[absurd (xb (wb c) (zc I.sz h)) (zi _)]
def ax.cne(I:ax X pins σ H s):∀x c,X.u.cells.lookup x=some c->c≠X.u.locals:=λx c e z=>by
 have⟨v,o,d,f⟩:=I.cell x c e;have⟨m,⟨g,es,ep,a,b,_⟩,_⟩:=I.loc;rw[z,a]at d;cases d;rw[b]at f;cases f
theorem ax.funs(I:ax X pins σ H s):s.heap.FunFrames X.base X.outer:=by
 have all:∀(l:Tl),(∀b∈d8 l,b∈X.fs)->X.s₀.heap.FunFrames X.base l->s.heap.FunFrames X.base l:=by
  intro l
  induction l with
  |nil=>intro _ _;trivial
  |cons env r j =>
   intro hs hl;have⟨f,⟨L,o,c,hn,g,h⟩,i⟩:=hl;have d:L∈X.fs:=hs L (by delta d8;rw[yp,c];rwa[da]);have⟨sl,e⟩:=I.base.slot L o g (I.ok.frf L d) d λz=>I.ok.exfs L z d
   exact⟨f,⟨L,_,c,hn,e,h⟩,j (λb a=>hs b (by delta d8;rw[yp,c];rwa[ia _ a])) i⟩
 rwa[all X.outer (λ_ a=>a) I.ok.funs]
def ax.stack(I:ax X pins σ H s):s.heap.FunFrames X.base X.t:=by
 rcases I.ok.stk with e|⟨e,a⟩
 ·rw[e];rwa[I.funs]
 ·rw[e]
  have⟨m,hn,_⟩:=I.loc;erw[.cons (by rw[I.ok.kind];decide) a hn ?_ I.funs]
  rwa[pp (zc I.ok.bsz I.ok.above)]
def ax.stkSub(I:ax X pins σ H s):∀b∈d8 X.t,b∈X.u.locals::X.fs:=λb a=>by
 rcases I.ok.stk with e|⟨e,c⟩
 ·rw[e]at a;rwa[ia _ a]
 ·rw[e]at a
  unfold d8 at a;rw[yp,c]at a;rwa[a]
def ax.stkFree(I:ax X pins σ H s):∀b∈d8 X.t,H b=none:=λb hb=>by
 rcases cb.mp (I.stkSub b hb) with e|hb
 ·rw[e];rwa[I.free]
 ·have⟨_,o,a,_⟩:=I.ok.funs.mem hb
  rwa[I.base.free b o a (I.ok.frf b hb) λz=>I.ok.exfs b z hb]
def ax.step{g':Array GenState}{t':Nat}{d':Drawn}{ch:Tj}(I:ax X pins σ H s)
  (h:∀b∈ch,(b∈X.ex\/X.s₀.heap.objs.size<=b)/\b≠X.u.locals/\(∀x c,X.u.cells.lookup x=some c->c≠b)/\∀p∈X.pn++pins,p.1≠b)
  (j:∀b o,b≠X.u.locals->b ∉ X.fs->b ∉ ch->s.heap.get? b=some o->H b=none->h'.get? b=some o)
  (A:∀b o,b≠X.u.locals->b∈X.fs->b ∉ ch->s.heap.get? b=some o->H b=none->∃sl,h'.get? b=some { o with slots:=sl }) (free:∀b o,b ∉ ch->s.heap.get? b=some o->H b=none->H' b=none)
  (C:∀b o,b ∉ ch->s.heap.get? b=some o->∃o',h'.get? b=some o')
  (tups:∀b xs,H b=some (.tup xs)->H' b=some (.tup xs)) (G:∀b o u,H b=some (.frz o u)->H' b=some (.frz o u)) (J:∀b ps,H b=some (.tbl ps)->∃K,H' b=some (.tbl (ps++K)))
  (ns:∀m,s.heap.Ns X.u.locals m->h'.Ns X.u.locals m) (N:cT X.p X.w H' h') (Z:AllBare g') :
  ax X pins σ H' { s with heap:=h',gens:=g',drawn:=d',toks:=t' }:=by
 have F:∀b o,X.s₀.heap.get? b=some o->b≠X.u.locals:=λb o e=>vc (xb (wb e) I.ok.above)
 have y:∀b o,X.s₀.heap.get? b=some o->b ∉ X.ex->b ∉ ch:=λb o e a B=>by
  rcases(h b B).1 with z|z
  ·rwa[a z]
  ·rwa[absurd (xb (wb e) z) (zi _)]
 have f:∀x c,X.u.cells.lookup x=some c->∀v,s.heap.IsCell c v->h'.IsCell c v:=λx c e v ⟨o,E,L⟩=>by
  have g:c ∉ ch:=λz=>(h c z).2.2.1 x c e rfl
  by_cases R:c∈X.fs
  ·have⟨sl,q⟩:=A c o (I.cne x c e) R g E (I.freeC x c e)
   exact⟨_,q,L⟩
  ·exact⟨o,j c o (I.cne x c e) R g E (I.freeC x c e),L⟩
 erw[⟨I.ok,I.os,Z,⟨λb o e n B a=>?_,λb o e n B a=>?_,λb o e n a=>?_,λb o e a=>?_,λb xs e=>tups b xs (I.base.tups b xs e),λb o xs e=>G b o xs (I.base.frzs b o xs e),λb ps e=>?_⟩,?_,λx c e=>?_,?_,λx c e=>?_,λp O=>?_,N,I.len⟩]
 ·rwa[j b o (F b o e) B (y b o e a) (I.base.keep b o e n B a) (I.base.free b o e n a)]
 ·have⟨sl,e1⟩:=I.base.slot b o e n B a
  have⟨M,e2⟩:=A b _ (F b o e) B (y b o e a) e1 (I.base.free b o e n a);exact⟨M,e2⟩
 ·have⟨o',e1⟩:=I.base.there b o e a
  rwa[free b o' (y b o e a) e1 (I.base.free b o e n a)]
 ·have⟨o',e1⟩:=I.base.there b o e a
  rwa[C b o' (y b o e a) e1]
 ·have⟨U,e1⟩:=I.base.tbls b ps e
  have⟨Y,e2⟩:=J b _ e1;exact⟨U++Y,by rw[e2,Array.append_assoc]⟩
 ·have⟨m,hn,hl⟩:=I.loc
  erw[⟨m,ns m hn,λi x v e1 e2 T=>?_⟩];have⟨u,r,l⟩:=hl i x v e1 e2 T;erw[⟨u,r,?_⟩];rcases l with l|⟨k,c,e,z⟩
  ·rwa[.inl l]
  ·rwa[.inr ⟨k,c,e,f x c e _ z⟩]
 ·have⟨v,z⟩:=I.cell x c e
  exact⟨v,f x c e v z⟩
 ·have⟨m,⟨o,_,_,E,_⟩,_⟩:=I.loc
  rwa[free _ o (λz=>(h _ z).2.1 rfl) E I.free]
 ·have⟨v,o,E,L⟩:=I.cell x c e
  rwa[free c o (λz=>(h c z).2.2.1 x c e rfl) E (I.freeC x c e)]
 ·have⟨e,n,P,Q,d⟩:=I.pin p O
  have g:p.1 ∉ ch:=λz=>(h p.1 z).2.2.2 p O rfl
  exact⟨j p.1 p.2 P Q g e n,free p.1 p.2 g e n,P,Q,d⟩
def ax.un(I:ax X pins σ H s)(u:Un X.fs [] H H' s.heap h')(g:cT X.p X.w H' h'):ax X pins σ H' { s with heap:=h',toks:=t' }:=by
 have⟨m,⟨o,es,ep,h,r⟩,_⟩:=id I.loc;have⟨sl,i⟩:=u.any h I.free 'm'
 exact I.step (g':=s.gens) (d':=s.drawn) (ch:=[]) (λ _ z=>nomatch z) (λ b o _ c _ e n=>u.keep b o e n c 'm') (λ b o _ c _ e n=>u.slot b o e n c 'm') (λ b o _ e n=>u.free b o e n 'm') (λ b o _ e=>u.there b o e 'm') u.tups u.frzs u.tbls (λ l hm=>by
  have⟨p,d,f,a,j⟩:=hm;rw[h]at a;cases a;exact⟨_,d,f,i,j⟩) g I.bare
def ax.call(I:ax X pins σ H s)(u:Un (d8 X.t) ch H H' s.heap h')(j:cT X.p X.w H' h')(y:AllBare g')(f:∀b∈ch,(b∈X.ex\/X.s₀.heap.objs.size<=b)/\b≠X.u.locals/\(∀x c,X.u.cells.lookup x=some c->c≠b)/\∀p∈X.pn++pins,p.1≠b) :
  ax X pins σ H' { s with heap:=h',gens:=g',drawn:=d',toks:=t' }:=by
 have⟨m,⟨o,es,ep,l,r⟩,_⟩:=id I.loc;have⟨sl,g⟩:=u.any l I.free λz=>(f _ z).2.1 rfl
 exact I.step (ch:=ch) f (λ b o g q a e n=>u.keep b o e n (λ z=>(mem_cons.mp (I.stkSub b z)).elim g q) a) (λ b o _ _ a e n=>u.any e n a) (λ b o a e n=>u.free b o e n a) (λ b o a e=>u.there b o e a) u.tups u.frzs u.tbls (λ A hm=>by
  have⟨B,h,i,d,v⟩:=hm;rw[l]at d;cases d;exact⟨_,h,i,g,v⟩) j y
def ax.turned(I:ax X pins σ H s)(k:∀b o,b≠it->s.heap.get? b=some o->h'.get? b=some o)(hn:H it=none)(f:it≠X.u.locals)(i:it∈X.ex\/X.s₀.heap.objs.size<=it)(j:∀x c,X.u.cells.lookup x=some c->c≠it)(l:∀p∈X.pn++pins,p.1≠it):ax X pins σ H { s with heap:=h',toks:=t' }:=by
 have d:∀b u,H b=some u->b≠it:=λb u e z=>by rw[z,hn]at e;cases e
 refine I.step (g':=s.gens) (d':=s.drawn) (ch:=[it]) (λb g=>?_) (λb o _ _ a e _=>k b o (λz=>a (by simp[z])) e) (λb o _ _ a e _=>⟨o.slots,k b o (λz=>a (by simp[z])) e⟩) (λ_ _ _ _ n=>n)
  (λb o a e=>⟨o,k b o (λz=>a (by simp[z])) e⟩) (λ_ _ e=>e) (λ_ _ _ e=>e) (λb ps e=>⟨#[],by rw[e];simp⟩) (λm hm=>?_) (λb u e=>?_) I.bare
 ·have e:b=it:=by simpa using g
  subst e;exact⟨i,f,j,l⟩
 ·have⟨o,es,ep,h,r⟩:=hm
  exact⟨o,es,ep,k _ o (vf f) h,r⟩
 ·refine(I.hok b u e).stay (λc v a q=>k c v ?_ q) (λ_ q=>q) λ_ _ q=>q
  rcases a with z|z
  ·rw[z];rwa[d b u e]
  ·rwa[d c _ z]
def ax.tok(I:ax X pins σ H s)(t:Nat):ax X pins σ H { s with toks:=t }:=I.un (h':=s.heap) (t':=t) Un.refl I.hok
theorem ax.kept(I:ax X pins σ H s)(k:∀b u,s.heap.get? b=some u->h'.get? b=some u):ax X pins σ H { s with heap:=h',toks:=t' }:=I.un (Un.kept k) (I.hok.kept k)
theorem ax.laid(I:ax X pins σ H s)(k:∀b u,s.heap.get? b=some u->h'.get? b=some u)(c:s.heap.objs.size<=a)(new:cw X.p X.w (aI H a o) h' a o) :
  ax X pins σ (aI H a o) { s with heap:=h',toks:=t' }:=I.un (Un.laid k c (I.hok.fresh c)) (I.hok.laid k c new)
theorem ax.write(I:ax X pins σ H s)(c:qV (H x))(he:e=x\/H e=some (.own x))(k:∀b u,b≠e->s.heap.get? b=some u->h'.get? b=some u)(a:∃u,h'.get? e=some u)(new:cw X.p X.w (aI H x o) h' x o):ax X pins σ (aI H x o) { s with heap:=h',toks:=t' }:=I.un (Un.write c he k a) (I.hok.write c he k a new)
def ax.weak(I:ax X pins σ H s)(hl:a.length=σ.length)(w:∀(i:Nat) v,a[i]?=some (some v)->σ[i]?=some (some v)):ax X pins a H s :=
 ⟨I.ok,I.os,I.bare,I.base,let ⟨m,hn,b⟩:=I.loc;⟨m,hn,λi x v e1 e2 c=>b i x v e1 (w i v e2) c⟩,I.cell,I.free,I.freeC,I.pin,I.hok,hl.trans I.len⟩
def ax.pins_of(I:ax X pins σ H s)(h:∀p∈a,s.heap.get? p.1=some p.2/\H p.1=none/\p.1≠X.u.locals/\p.1 ∉ X.fs/\∀v,p.2.data≠.cell v):ax X a σ H s :=
 ⟨I.ok,I.os,I.bare,I.base,I.loc,I.cell,I.free,I.freeC,λp b=>(jb.mp b).elim (λz=>I.pin p (ie _ z)) (h p),I.hok,I.len⟩
def wP{N:T8}(c:N.Nodup){i j:Nat}(a:N[i]?=some x)(b:N[j]?=some x):i=j:=by
 have⟨d,e1⟩:=qa.mp a;have⟨e,e2⟩:=qa.mp b;exact(List.getElem_inj c).mp (e1.trans e2.symm)
abbrev W0(X:Cx)(e:Expr)(t:Option Expr)(p:Pos):Prop:=swapsWith e t p.line X.u=pure false
abbrev W1(X:Cx)(a:Tg)(e:Expr)(b:Tg):Prop:=starEach a X.u=(false,eval e X.u)::starEach b X.u
abbrev W2(X:Cx)(p:Pos)(a:Tg):Prop:=(backTo p (starEach a X.u)).any (·.1)=false
abbrev W3(X:Cx)(x:Str):Prop:=X.fn x=true\/X.u.scope.names.lookup x=some .local
def BJ(I:ax X pins σ H s)(hN:X.N.Nodup)(R:X.N[i]?=some x)(g:jE X.u.scope x)(r:bj v u)(h:∀s',ax X pins (σ.set i (some v)) H s'->(∃a,Heap.SameBut a s.heap s'.heap/\(a=X.u.locals\/X.u.cells.lookup x=some a))->Q () s')(hf:W3 X x:=by first|exact .inl rfl|exact .inr rfl|assumption):wpAny M A (storeName X.u x u) Q E s:=by
 have⟨m,hn,hl⟩:=id I.loc;have O:(X.u.scope.kind == .class || (X.u.scope.kind == .module && X.u.locals != X.u.globals))=false:=by rw[I.ok.kind];rfl
 have B:i<σ.length:=by rw[I.len];exact(qa.mp R).1
 have cne:=I.cne
 have f:∀{a:Addr} {h':Heap},(∃o,s.heap.get? a=some o/\H a=none)->Heap.SameBut a s.heap h'->cT X.p X.w H h':=λ{a h'} ha hs b ob e=>by
  have⟨_,_,l⟩:=ha;refine(I.hok b ob e).stay (λc T hc q=>(hs.2 c ?_).trans q) (λ_ q=>q) λ_ _ q=>q
  rintro rfl;rcases hc with rfl|hc
  ·rw[l]at e;cases e
  ·rw[l]at hc;cases hc
 rcases g with hk|hk
 ·refine wpAny_storeName_local hk hn (λh' Z hs=>?_) O
  have⟨oL,_,_,hoL,_⟩:=id hn;erw[h _ ⟨I.ok,I.os,I.bare,⟨λb o e n C g=>?_,λb o e n C g=>?_,I.base.free,λb o e g=>?_,I.base.tups,I.base.frzs,I.base.tbls⟩,⟨_,Z,λj y v' e1 e2 e3=>?_⟩,λy c e=>?_,I.free,I.freeC,λp hp=>?_,f ⟨oL,hoL,I.free⟩ hs,by simpa using I.len⟩ ⟨_,hs,.inl rfl⟩]
  ·exact(hs.2 b (vc (xb (wb e) I.ok.above))).trans (I.base.keep b o e n C g)
  ·have⟨sl,e1⟩:=I.base.slot b o e n C g
   exact⟨sl,(hs.2 b (vc (xb (wb e) I.ok.above))).trans e1⟩
  ·have⟨o',e1⟩:=I.base.there b o e g
   exact⟨o',(hs.2 b (vc (xb (wb e) I.ok.above))).trans e1⟩
  ·by_cases G:j=i
   ·subst G
    rw[R]at e1;cases e1;rw[dc B]at e2;cases e2;exact⟨u,r,.inl ⟨hk,'m'⟩⟩
   ·rw[za (vf G)]at e2
    have⟨u',r',q⟩:=hl j y v' e1 e2 e3;erw[⟨u',r',?_⟩];rcases q with⟨k,e⟩|⟨k,c,e,z⟩
    ·refine .inl ⟨k,?_⟩
     have:y≠x:=λe=>G (wP hN e1 (e ▸ R))
     simp[this,e]
    ·rwa[.inr ⟨k,c,e,z.sameBut hs (cne y c e)⟩]
  ·have⟨T,z⟩:=I.cell y c e
   exact⟨T,z.sameBut hs (cne y c e)⟩
  ·have⟨e,n,Y,nf,d⟩:=I.pin p hp
   exact⟨(hs.2 p.1 Y).trans e,n,Y,nf,d⟩
 ·have F:X.fn x=true:=by
   rcases hf with z|z
   ·rwa[z]
   ·rw[z]at hk;cases hk
  have⟨c,hc⟩:=I.ok.has x (.inl hk);have⟨T,z⟩:=I.cell x c hc;erw[wpAny_storeName_cell I.ok.kind hk hc z (λh' J hs=>?_)];have⟨oc,K,L⟩:=id z;erw[h { s with heap:=h' } ⟨I.ok,I.os,I.bare,⟨λb o e n C g=>?_,λb o e n C g=>?_,I.base.free,λb o e g=>?_,I.base.tups,I.base.frzs,I.base.tbls⟩,⟨m,hn.sameBut hs (vf (cne x c hc)),λj y v' e1 e2 e3=>?_⟩,λy U e=>?_,I.free,I.freeC,λp hp=>?_,f ⟨oc,K,I.freeC x c hc⟩ hs,by simpa using I.len⟩ ⟨c,hs,.inr hc⟩]
  ·exact(hs.2 b (vc (xb (wb e) (I.ok.cab x c F hc)))).trans (I.base.keep b o e n C g)
  ·have⟨sl,e1⟩:=I.base.slot b o e n C g
   exact⟨sl,(hs.2 b (vc (xb (wb e) (I.ok.cab x c F hc)))).trans e1⟩
  ·have⟨o',e1⟩:=I.base.there b o e g
   exact⟨o',(hs.2 b (vc (xb (wb e) (I.ok.cab x c F hc)))).trans e1⟩
  ·by_cases G:j=i
   ·subst G
    rw[R]at e1;cases e1;rw[dc B]at e2;cases e2;exact⟨u,r,.inr ⟨.inl hk,c,hc,J⟩⟩
   ·rw[za (vf G)]at e2
    have⟨u',r',q⟩:=hl j y v' e1 e2 e3;erw[⟨u',r',?_⟩];rcases q with q|⟨k,U,e,z'⟩
    ·rwa[.inl q]
    ·refine .inr ⟨k,U,e,z'.sameBut hs ?_⟩
     rintro rfl;rwa[G (wP hN e1 (I.ok.inj _ _ _ e hc ▸ R))]
  ·by_cases P:U=c
   ·subst P;exact⟨_,J⟩
   ·have⟨w2,z2⟩:=I.cell y U e
    exact⟨w2,z2.sameBut hs P⟩
  ·have⟨e,n,Y,nf,d⟩:=I.pin p hp
   erw[⟨(hs.2 p.1 ?_).trans e,n,Y,nf,d⟩];intro q;rw[q,K]at e;have q':oc=p.2:=md e;rwa[d T (by rw[<-q'];rwa[L])]
def wQ(I:ax X pins σ H s)(b:X.N.Nodup)(c:X.N[i]?=some x)(d:jE X.u.scope x)(r:bj v u)(h:∀s',ax X pins (σ.set i (some v)) H s'->Q () s')(e:W3 X x:=by first|exact .inl rfl|exact .inr rfl|assumption):wpAny M A (storeName X.u x u) Q E s :=
 BJ I b c d r (λs' a _=>h s' a) e
def ax.call'(I:ax X pins σ H s)(g:s'.os=s.os)(u:Un (d8 X.t) ch H H' s.heap s'.heap)(a:cT X.p X.w H' s'.heap)(h:AllBare s'.gens)(d:∀b∈ch,(b∈X.ex\/X.s₀.heap.objs.size<=b)/\b≠X.u.locals/\(∀x c,X.u.cells.lookup x=some c->c≠b)/\∀p∈X.pn++pins,p.1≠b):ax X pins σ H' s':=by
 have⟨h',g',d',t',f⟩:=s';have e:f=s.os:=g;subst e;rwa[I.call (g':=g') (t':=t') (d':=d') u a h d]
end
abbrev XK:=Value->Tk->Hp->Prop
abbrev St:=List (Option V)
abbrev VK:=V->Hp->Prop
abbrev TE:=St->Hp->VK->Prop
abbrev TT:=St->Hp->(Bool->Hp->Prop)->Prop
abbrev TA:=St->Hp->(T6->Hp->Prop)->Prop
structure eP where
 nx:St->Hp->Prop
 rt:VK
 bk:St->Hp->Prop:=λ_ _=>False
 ct:St->Hp->Prop:=λ_ _=>False
abbrev TS:=eP->St->Hp->Prop
def EP(X:Cx)(pins:T1)(σ:St)(Q:VK)(u:Value)(s':Shared):Prop:=∃v H',ax X pins σ H' s'/\bj v u/\Q v H'
def TP(X:Cx)(pins:T1)(σ:St)(Q:Bool->Hp->Prop)(b:Bool)(s':Shared):Prop:=∃H',ax X pins σ H' s'/\Q b H'
def AP(X:Cx)(pins:T1)(σ:St)(Q:T6->Hp->Prop)(a:T9)(s':Shared):Prop:=∃vs H',ax X pins σ H' s'/\bD vs a/\Q vs H'
def SP(X:Cx)(pins:T1)(D:eP)(f:Flow)(s':Shared):Prop :=
 match f with
 |.next=>∃a H',ax X pins a H' s'/\D.nx a H'
 |.brk=>∃a H',ax X pins a H' s'/\D.bk a H'
 |.cont=>∃a H',ax X pins a H' s'/\D.ct a H'
 |.ret u=>∃v a H',ax X pins a H' s'/\bj v u/\D.rt v H'
def PE(X:Cx)(e:Expr)(t:TE):Prop :=
 ∀(pins:T1) (s:Shared) (σ:St) (H:Hp) (Q:VK),ax X pins σ H s->t σ H Q->wpAny (model X.p X.w) X.A (eval e X.u) (EP X pins σ Q) X.xe s
def PT(X:Cx)(e:Expr)(t:TT):Prop :=
 ∀(pins:T1) (s:Shared) (σ:St) (H:Hp) (Q:Bool->Hp->Prop),ax X pins σ H s->t σ H Q->wpAny (model X.p X.w) X.A (isTrue e X.u (eval e X.u)) (TP X pins σ Q) X.xe s
def PW(X:Cx)(e:Expr)(t:TT):Prop :=
 ∀(whole:Sem Value) (pins:T1) (s:Shared) (σ:St) (H:Hp) (Q:Bool->Hp->Prop),ax X pins σ H s->t σ H Q->wpAny (model X.p X.w) X.A (isTrue e X.u whole) (TP X pins σ Q) X.xe s
def PW.pt(h:PW X e t):PT X e t:=h _
def PA(X:Cx)(es:Tg)(t:TA):Prop :=
 ∀(pos:Pos) (pins:T1) (s:Shared) (σ:St) (H:Hp) (Q:T6->Hp->Prop),ax X pins σ H s->t σ H Q->wpAny (model X.p X.w) X.A (spliced (backTo pos (starEach es X.u))) (AP X pins σ Q) X.xe s
def PS(X:Cx)(st:Stmt)(t:TS):Prop :=
 ∀(pins:T1) (s:Shared) (σ:St) (H:Hp) (D:eP),ax X pins σ H s->t D σ H->wpAny (model X.p X.w) X.A (exec st X.u) (SP X pins D) X.xe s
def bR(X:Cx)(st:Yd)(t:TS):Prop :=
 ∀(pins:T1) (s:Shared) (σ:St) (H:Hp) (D:eP),ax X pins σ H s->t D σ H->wpAny (model X.p X.w) X.A (execs st X.u) (SP X pins D) X.xe s
def aU(h:wpAny M A t Q E s)(d:∀a s,Q a s->c a s):wpAny M A t c E s:=gf h d λ_ _ x=>x
section
variable {X:Cx}
def Io(i:Nat):TE:=λσ H Q=>∃v,σ[i]?=some (some v)/\Q v H
def tC(v:V):TE:=λ_ H Q=>Q v H
def gh(p:X.N[i]?=some x)(q:gY X.u.scope x)(g:(x == 'g')=false:=by decide)(j:(x == 'c')=false:=by decide):PE X (.Name x f) (Io i):=by
 intro d s o H Q I h;have⟨v,e,h⟩:=h;have⟨m,hn,hl⟩:=I.loc;have⟨u,r,l⟩:=hl i x v p e q;have b:EP X d o Q u s:=⟨v,H,I,r,h⟩
 rcases l with⟨hk,hm⟩|⟨hk,c,n,a⟩
 ·rwa[wpAny_Name (wpAny_loadName_local I.ok.kind hk hn hm b) g]
 ·rcases hk with hk|hk
  ·rwa[wpAny_Name (wpAny_loadName_cell I.ok.kind hk n a b) g]
  ·rwa[wpAny_Name (wpAny_loadName_free I.ok.kind hk n a b j) g]
def Ip{i j pos}:PE X (.Constant (.int i) j pos) (tC (.int i)):=λ_ _ _ H _ I h=>wpAny_Constant_int ⟨.int i,H,I.tok _,⟨_,rfl⟩,h⟩
def BK{b j pos}:PE X (.Constant (.bool b) j pos) (tC (.bl b)):=λ_ _ _ H _ I h=>Constant_bool ⟨.bl b,H,I,rfl,h⟩
def Iq{j pos}:PE X (.Constant .none j pos) (tC .non):=λ_ _ _ H _ I h=>Constant_none ⟨.non,H,I,rfl,h⟩
def Ir{x j pos}:PE X (.Constant (.str x) j pos) (tC (.str x)):=λ_ _ _ H _ I h=>Calls.Constant_str ⟨.str x,H,I.tok _,⟨_,rfl⟩,h⟩
def Gl(X:Cx)(x:Str):Prop:=X.u.kindOf x=some .globalImplicit
def nC(I:ax X a c H s)(d:Gl X x)(hm:X.mg x=some u)(h:Q u s)(e:(x == 'g')=false:=by decide):wpAny (model X.p X.w) X.A (eval (.Name x b) X.u) Q E s :=
 cq I.ok.kind d (Calls.loadGlobal_global (by rw[I.ok.glob];rwa[I.mod.glob.keeps I.bk]) hm h) e
def kF(I:ax X a e H s)(f:Gl X x)(hm:X.mg x=none)(g:bootBuiltins x=some u)(h:Q u s)(hn:x ≠ "__name__":=by decide)(i:(x == 'g')=false:=by decide):wpAny (model X.p X.w) X.A (eval (.Name x b) X.u) Q E s:=by
 have⟨j,c,d⟩:=I.mod.blt;rwa[cq I.ok.kind f (Calls.loadGlobal_builtin (by rw[I.ok.glob];rwa[I.mod.glob.keeps I.bk]) hm (by rw[I.ok.blt];rwa[c.keeps I.bk]) ((d x hn).trans g) h) i]
def tY(b:Gl X x)(hm:X.mg x=some u)(r:bj v u)(c:(x == 'g')=false:=by decide):PE X (.Name x a) (tC v) :=
 λ_ _ _ H _ I h=>nC I b hm ⟨v,H,I,r,h⟩ c
def qW(b:Gl X x)(hm:X.mg x=none)(c:bootBuiltins x=some u)(r:bj v u)(hn:x ≠ "__name__":=by decide)(d:(x == 'g')=false:=by decide):PE X (.Name x a) (tC v) :=
 λ_ _ _ H _ I h=>kF I b hm c ⟨v,H,I,r,h⟩ hn d
def BL(t u:TT):TT:=λσ H Q=>t σ H λc H1=>if c=true then u σ H1 Q else Q false H1
def BM(t u:TT):TT:=λσ H Q=>t σ H λc H1=>if c=true then Q true H1 else u σ H1 Q
def Is(t:TT):TT:=λσ H Q=>t σ H λc H1=>Q (!c) H1
def Iu(ha:PT X a tA):PW X (.BoolOp .And [a] pos) tA:=by
 intro g b s d H Q I h;erw[isTrue_and (aU (ha b s d H Q I h) λc f e=>?_)]
 cases c with
 |true=>rwa[isTrue_and_nil e]
 |false=>rwa[e]
def Iv(ha:PT X a tA):PW X (.BoolOp .Or [a] pos) tA:=by
 intro g b s d H Q I h;erw[isTrue_or (aU (ha b s d H Q I h) λc f e=>?_)]
 cases c with
 |false=>rwa[isTrue_or_nil e]
 |true=>rwa[e]
def Iw(ha:PT X a tA)(m:PW X (.BoolOp .And (b::rest) pos) tB'):PW X (.BoolOp .And (a::b::rest) pos) (BL tA tB'):=by
 intro l d s i H Q I h;erw[isTrue_and (aU (ha d s i H _ I h) λc j ⟨e,f,g⟩=>?_)]
 cases c with
 |true=>rwa[m l d j i e Q f g]
 |false=>exact⟨e,f,g⟩
def Iy(ha:PT X a tA)(m:PW X (.BoolOp .Or (b::rest) pos) tB'):PW X (.BoolOp .Or (a::b::rest) pos) (BM tA tB'):=by
 intro l d s i H Q I h;erw[isTrue_or (aU (ha d s i H _ I h) λc j ⟨e,f,g⟩=>?_)]
 cases c with
 |true=>exact⟨e,f,g⟩
 |false=>rwa[m l d j i e Q f g]
def Iz(ha:PT X a tA):PT X (.UnaryOp .Not a pos) (Is tA):=by
 intro b s e H Q I h;rwa[isTrue_not (ha b s e H (λc d=>Q (!c) d) I h)]
def IA{op}(h:PE X a t):PE X (.BoolOp op [a] pos) t:=λb s c H Q I d=>BoolOp_one (h b s c H Q I d)
end
def bH(K:Fg1)(H:Hp)(a:Addr)(xs:T6):Prop :=
 Rd H a (.lst xs) ∨
  ∃(o:Obj) (its:Tf) (n:Nat),K.lookup a=some o/\o.cls=.type "list" /\ o.dict=none/\o.data=.seq its n/\its.size<=sizeLine/\bD xs its.toList
def cZ(K:Fg1)(H:Hp)(a:Addr)(xs:T6):Prop :=
 Rd H a (.tup xs) ∨
  ∃(o:Obj) (its:Tf) (n:Nat),K.lookup a=some o/\o.cls=.type "tuple" /\ o.data=.seq its n/\its.size<=sizeLine/\bD xs its.toList
noncomputable def IB:Value->Option V
 |.none=>some .non
 |.bool b=>some (.bl b)
 |.int i _=>some (.int i)
 |.str x _=>some (.str x)
 |.bytes b _=>some (.byt b)
 |.float b _=>some (.flt b)
 |.ref a=>some (.ref a)
 |.type n=>some (.ty n)
 |_=>none
def bj.abs(r:bj x u):IB u=some x:=by
 cases x with
 |non=>cases r;rfl
 |bl _=>cases r;rfl
 |int _=>have⟨t,rfl⟩:=r;rfl
 |str _=>have⟨t,rfl⟩:=r;rfl
 |byt _=>have⟨t,rfl⟩:=r;rfl
 |flt _=>have⟨t,rfl⟩:=r;rfl
 |ref _=>cases r;rfl
 |ty _=>cases r;rfl
def bj.inj(r:bj x u)(q:bj y u):x=y:=md (r.abs.symm.trans q.abs)
theorem bD.inj:∀{xs ys:T6}{a:T9},bD xs a->bD ys a->xs=ys
 |_,_,_,.nil,.nil=>rfl
 |_,_,_,.cons r t,.cons b t'=>by rw[r.inj b,bD.inj t t']
section
variable {X:Cx}{pins:T1}{σ:St}{H:Hp}{s:Shared}{a:Addr}{xs:T6}
def bH.of{K:Fg1}(h:H a=some (.lst xs)):bH K H a xs:=.inl (.inl h)
def cZ.of{K:Fg1}(h:H a=some (.tup xs)):cZ K H a xs:=.inl (.inl h)
def ax.list(I:ax X pins σ H s)(h:bH X.K H a xs):∃its:T9,bD xs its/\PlainL s.heap a its.toArray/\xs.length<=sizeLine:=by
 rcases h with h|⟨o,its,n,b,c,d,hs,hz,r⟩
 ·have⟨z,its,n,r,e⟩:=h.ok I.hok
  exact⟨its,r,⟨_,n,e,rfl,rfl,rfl⟩,z⟩
 ·refine⟨its.toList,r,⟨o,n,I.kIn a o b,c,d,by simpa using hs⟩,?_⟩
  have e:=r.length;simp only[xf]at e;omega
def ax.tuple(I:ax X pins σ H s)(h:cZ X.K H a xs):∃its:T9,bD xs its/\IsTup s.heap a its.toArray/\xs.length<=sizeLine:=by
 rcases h with h|⟨o,its,n,b,c,hs,hz,r⟩
 ·have⟨z,its,r,p⟩:=h.ok I.hok
  exact⟨its,r,p,z⟩
 ·refine⟨its.toList,r,⟨o,I.kIn a o b,c,n,by simpa using hs⟩,?_⟩
  have e:=r.length;simp only[xf]at e;omega
def ax.list_inj(I:ax X pins σ H s)(h:bH X.K H a xs)(h':bH X.K H a ys):xs=ys:=by
 have⟨its,r,⟨o,n,e,_,_,d⟩,_⟩:=I.list h;have⟨its',c,⟨g,n',b,_,_,d'⟩,_⟩:=I.list h';rw[e]at b;cases b;rw[d]at d';injection d' with f _
 have:its=its':=by simpa using qe toList f
 subst this;rwa[r.inj c]
def ax.tuple_inj(I:ax X pins σ H s)(h:cZ X.K H a xs)(h':cZ X.K H a ys):xs=ys:=by
 have⟨its,r,⟨o,e,_,n,d⟩,_⟩:=I.tuple h;have⟨its',c,⟨g,b,_,n',d'⟩,_⟩:=I.tuple h';rw[e]at b;cases b;rw[d]at d';injection d' with f _
 have:its=its':=by simpa using qe toList f
 subst this;rwa[r.inj c]
end
noncomputable abbrev Cx.wish(X:Cx)(E:T2):Cx:={ X with xe:=E }
noncomputable abbrev Cx.nox(X:Cx):Cx:=X.wish λ_ _=>False
theorem Cx.Ok.wish{X:Cx}(ok:X.Ok)(E:T2):(X.wish E).Ok :=
 ⟨ok.mod,ok.kind,ok.glob,ok.blt,ok.above,ok.inj,ok.has,ok.cab,ok.hd,ok.frames,ok.stk,ok.exf,ok.bs,ok.bsz,ok.noex,ok.exfs,ok.funs,ok.frf⟩
def Cx.Ok.unwish{X:Cx}(ok:(X.wish E).Ok):X.Ok :=
 ⟨ok.mod,ok.kind,ok.glob,ok.blt,ok.above,ok.inj,ok.has,ok.cab,ok.hd,ok.frames,ok.stk,ok.exf,ok.bs,ok.bsz,ok.noex,ok.exfs,ok.funs,ok.frf⟩
section
variable {X:Cx}
theorem ax.wish(I:ax X pins σ H s)(E:T2):ax (X.wish E) pins σ H s:=⟨I.ok.wish E,I.os,I.bare,I.base,I.loc,I.cell,I.free,I.freeC,I.pin,I.hok,I.len⟩
theorem ax.unwish(I:ax (X.wish E) pins σ H s):ax X pins σ H s:=⟨I.ok.unwish,I.os,I.bare,I.base,I.loc,I.cell,I.free,I.freeC,I.pin,I.hok,I.len⟩
theorem SP.unwish(h:SP (X.wish E) pins D f s'):SP X pins D f s':=by
 cases f with
 |next=>have⟨a,H',I,q⟩:=h;exact⟨a,H',I.unwish,q⟩
 |brk=>have⟨a,H',I,q⟩:=h;exact⟨a,H',I.unwish,q⟩
 |cont=>have⟨a,H',I,q⟩:=h;exact⟨a,H',I.unwish,q⟩
 |ret u=>have⟨v,a,H',I,r,q⟩:=h;exact⟨v,a,H',I.unwish,r,q⟩
theorem PE.nox(h:PE X.nox e t):PE X e t:=λa s b H Q I c =>
 gf (h a s b H Q (I.wish _) c) (λ_ _ ⟨v,H',d,r,q⟩=>⟨v,H',d.unwish,r,q⟩) λ_ _ z=>elim z
theorem bR.nox{st:Yd}(h:bR X.nox st t):bR X st t:=λa s b H D I c =>
 gf (h a s b H D (I.wish _) c) (λ_ _ q=>q.unwish) λ_ _ z=>elim z
end
section
variable {X:Cx}{st:Stmt}
def IC:TS:=λD σ H=>D.nx σ H
def ID(t u:TS):TS:=λD σ H=>t { D with nx:=u D } σ H
def pz:bR X [] IC:=λ_ _ a H _ I h=>zl ⟨a,H,I,h⟩
def iD(g:PS X st t)(i:bR X rest u):bR X (st::rest) (ID t u):=by
 intro a s d H D I h;erw[cr (aU (g a s d H { D with nx:=u D } I h) λf c q=>?_)]
 cases f with
 |next =>
  have⟨b,H',e,q⟩:=q;rwa[i a c b H' D e q]
 |ret v=>rwa[q]
 |brk=>rwa[q]
 |cont=>rwa[q]
def qX(c:PS X st t):bR X [st] t:=by
 intro a s b H D I h;erw[cr (aU (c a s b H D I h) λf d q=>?_)]
 cases f with
 |next=>rwa[zl q]
 |ret v=>rwa[q]
 |brk=>rwa[q]
 |cont=>rwa[q]
def ax.quiet(I:ax X a b H s):interactive X.u=false:=by simp[interactive,I.ok.kind]
def IE(te:TE):TS:=λD σ H=>te σ H λ_ H1=>D.nx σ H1
def pA(he:PE X e te)(hs:W0 X e none pos:=by rfl):PS X (.Expr e pos) (IE te):=by
 intro a s b H D I h;rwa[wpAny_Expr_any (aU (he a s b H _ I h) λv g ⟨x,c,d,i,f⟩=>⟨b,c,d,f⟩) I.quiet hs]
def IF(te:TE):TS:=λD σ H=>te σ H D.rt
def tZ(he:PE X e te):PS X (.Return (some e) pos) (IF te):=by
 intro a s b H D I h;rwa[wpAny_Return_some (aU (he a s b H _ I h) λv i ⟨x,c,d,f,g⟩=>⟨x,b,c,d,f,g⟩)]
def IG(c:TT)(t u:TS):TS:=λD σ H=>c σ H λb H1=>if b=true then t D σ H1 else u D σ H1
def wR(n:PT X c m)(ha:bR X a t)(o:bR X b u):PS X (.If c a b pos) (IG m t u):=by
 intro e s f H D I h;erw[wpAny_If (aU (n e s f H _ I h) λd g ⟨i,j,l⟩=>?_)]
 cases d with
 |true=>rwa[ha e g f i D j l]
 |false=>rwa[o e g f i D j l]
def IH:TS:=λ_ _ _=>False
def II:PS X st IH:=λ_ _ _ _ _ _ h=>h.elim
end
abbrev TG:=V->St->Hp->(St->Hp->Prop)->Prop
abbrev i0:=T6->St->Hp->(St->Hp->Prop)->Prop
def PG(X:Cx)(a:Expr)(t:TG):Prop :=
 ∀(pins:T1) (s:Shared) (σ:St) (H:Hp) (v:V) (u:Value) (Q:St->Hp->Prop),ax X pins σ H s->bj v u->t v σ H Q →
  wpAny (model X.p X.w) X.A (assign a X.u u) (λ_ s'=>∃b H',ax X pins b H' s'/\Q b H') X.xe s
def gZ(X:Cx)(c:Tg)(t:i0):Prop :=
 ∀(pins:T1) (s:Shared) (σ:St) (H:Hp) (vs:T6) (b:T9) (Q:St->Hp->Prop),ax X pins σ H s->bD vs b->t vs σ H Q →
  wpAny (model X.p X.w) X.A (assignInOrder ((assignEach c X.u).map (·.2)) b) (λ_ s'=>∃a H',ax X pins a H' s'/\Q a H') X.xe s
abbrev wS:=V->V->V->Hp->(Hp->Prop)->Prop
def BN(X:Cx)(t:wS):Prop :=
 ∀(pins:T1) (s:Shared) (σ:St) (H:Hp) (o i v:V) (a b u:Value) (Q:Hp->Prop),ax X pins σ H s->bj o a->bj i b->bj v u->t o i v H Q →
  wpAny (model X.p X.w) X.A (setItem a b u) (λ_ s'=>∃H',ax X pins σ H' s'/\Q H') X.xe s
section
variable {X:Cx}{pos:Pos}
def t5(i:Nat):TG:=λv σ H Q=>Q (σ.set i (some v)) H
def IJ(c:X.N.Nodup)(d:X.N[i]?=some x)(e:jE X.u.scope x)(f:W3 X x:=by first|exact .inl rfl|exact .inr rfl|assumption):PG X (.Name x pos) (t5 i):=by
 intro a s j H v u Q I r h;rwa[wpAny_assign_Name (wQ I c d e r (λg b=>⟨_,H,b,h⟩) f)]
def IK:i0:=λvs σ H Q=>vs=[]/\Q σ H
def IL(t:TG)(u:i0):i0:=λvs σ H Q=>∃v r,vs=v::r/\t v σ H λa H'=>u r a H' Q
def IM:gZ X [] IK:=by
 intro a s b H vs c Q I r h;have⟨e,h⟩:=h;subst e;cases r;rwa[assignInOrder_nil ⟨b,H,I,h⟩]
def IN(j:PG X e t)(l:gZ X es u)(hs:(assignEach (e::es) X.u).map (·.2)=assign e X.u::(assignEach es X.u).map (·.2):=by rfl):gZ X (e::es) (IL t u):=by
 intro a s i H vs n Q I r h;have⟨v,o,e1,h⟩:=h;subst e1
 cases r with
 |cons r m =>
  rw[hs];erw[assignInOrder_cons (aU (j a s i H _ _ _ I r h) λ_ c ⟨b,d,f,g⟩=>?_)];rwa[l a c b d _ _ Q f m g]
def IP(K:Fg1)(n:Nat)(t:i0):TG:=λv σ H Q=>∃a xs,v=.ref a/\cZ K H a xs/\xs.length=n/\t xs σ H Q
def IQ(q:X.k=true)(h:gZ X es t)(hn:(assignEach es X.u).length=n:=by rfl)(f:(assignEach es X.u).findIdx? (·.1)=none:=by rfl):PG X (.Tuple es k pos) (IP X.K n t):=by
 intro c s g H v u Q I r d;have⟨a,xs,e1,l,hl,d⟩:=d;subst e1;cases r;have⟨its,i,m,hz⟩:=I.tuple l;erw[assign_Tuple_tuple (I.ok.hd q) m (by simp[hn,<-hl,i.length]) f λh' j=>?_]
 have p:ax X c g H { s with heap:=h' }:=I.kept (t':=s.toks) λb o e=>j b o (vc (wb e)) e
 rwa[h c _ g H xs _ Q p (by simpa using i) d]
def IR(to b:TE)(t:wS):TG:=λv σ H Q=>to σ H λo H1=>b σ H1 λi H2=>t o i v H2 λa=>Q σ a
def IS(F:PE X o e)(G:PE X i f)(hs:BN X t)(ha:∀ v,assign (.Subscript o i pos) X.u v=(do
   let b ← holding [v] (eval o X.u)
   let c ← holding [v,b] (eval i X.u)
   standAt pos
   holding [v,b,c] (setItem b c v)
   release [v,b,c] []):=by intro _;rfl):PG X (.Subscript o i pos) (IR e f t):=by
 intro a s d H v u Q I r h;rw[ha];erw[aa (ve (aU (F a s d H _ I h) λb g k=>?_))];have⟨x,j,l,m,n⟩:=k;erw[aa (ve (aU (G a g d j _ l n) λc p k=>?_))];have⟨y,q,w,z,A⟩:=k;erw[aa (am (aa (ve (aU (hs a p d q x y v b c u _ w m z r A) λ_ J k=>?_))))];have⟨B,C,E⟩:=k;rwa[wpAny_release ⟨d,B,C,E⟩]
def wT(te:TE)(g:TG):TS:=λD σ H=>te σ H λx H1=>g x σ H1 D.nx
def IT(he:PE X e te)(m:PG X b g)(hs:swapsWithSole [b] e pos.line X.u=pure false:=by rfl)(n:swappedStores [b] e X.u=pure none:=by rfl)(o:(assignEach [b] X.u).map (·.2)=[assign b X.u]:=by rfl):PS X (.Assign [b] e pos) (wT te g):=by
 intro a s c H D I h;erw[wpAny_Assign_stores (aU (he a s c H _ I h) λv d ⟨x,f,i,j,l⟩=>?_) hs n];rw[o];rwa[aU (m a d c f x v _ i j l) λ_ p q=>q]
def mx(m:X.N.Nodup)(n:X.N[i]?=some x)(o:jE X.u.scope x)(he:PE X e te)(hs:W0 X e (some (.Name x a)) pos:=by rfl)(p:W3 X x:=by first|exact .inl rfl|exact .inr rfl|assumption) :
  PS X (.Assign [.Name x a] e pos) (wT te (t5 i)):=by
 intro b s l H D I h;erw[wpAny_Assign_Name (aU (he b s l H _ I h) λv q ⟨y,c,d,f,g⟩=>?_) hs];rwa[wQ d m n o f (λr j=>⟨_,c,j,g⟩) p]
end
section
variable {X:Cx}
def IU(c:TT)(tb:TS):TS:=λD σ H=>∃W:Nat->St->Hp->Prop,(∃m,W m σ H)/\∀m σ H,W m σ H →
 c σ H λb H1=>if b=true then ∃N:St->Hp->Prop,(∀a H',N a H'->∃d,d<m/\W d a H')/\tb { D with nx:=N,ct:=N,bk:=D.nx } σ H1 else D.nx σ H1
def IV(E:PassesOwn (model X.p X.w) X.A X.u X.xe)(Q:PT X c B)(R:bR X g C):PS X (.While c g [] pos) (IU B C):=by
 intro a s J H D I h;have⟨W,⟨O,P⟩,turn⟩:=h;erw[wpAny_While (codeAny_whileLoop (λn F=>∃j H',ax X a j H' F/\W n j H') ?_ O ⟨J,H,I,P⟩)];rintro n K ⟨e,y,L,M⟩;erw[ek E (aU (Q a K e y _ L (turn n e y M)) λb G ⟨u,x,l⟩=>?_)]
 cases b with
 |true =>
  have⟨N,z,l⟩:=l;rw[la rfl];erw[ek E (aU (R a G e u _ x l) λf T m=>?_)]
  cases f with
  |next =>
   have⟨d,i,o,p⟩:=m;have⟨q,hm,r⟩:=z d i p;exact⟨q,hm,d,i,o,r⟩
  |cont =>
   have⟨d,i,o,p⟩:=m;have⟨q,hm,r⟩:=z d i p;exact⟨q,hm,d,i,o,r⟩
  |brk=>rwa[m]
  |ret v=>rwa[m]
 |false =>
  rw[wa ua];rwa[zl ⟨e,u,x,l⟩]
end
structure It where
 go:Nat->Hp->Prop
 yld:Nat->Hp->V->Hp->Prop
 stop:Nat->Hp->Prop
def jF(X:Cx)(pins:T1)(H:Hp)(b:Addr):Prop :=
 H b=none/\b≠X.u.locals/\b ∉ X.fs/\(b∈X.ex\/X.s₀.heap.objs.size<=b)/\(∀x c,X.u.cells.lookup x=some c->c≠b)/\∀p∈X.pn++pins,p.1≠b
def ax.fpOk(I:ax X a g H s)(d:s.heap.objs.size<=b)(hn:H' b=none):jF X a H' b:=by
 erw[⟨hn,yl (xb I.lt d),I.nofs d,.inr (zc I.sz d),λx c e z=>?_,λp f z=>?_⟩]
 ·have⟨v,q⟩:=I.cell x c e
  rwa[absurd (xb q.lt (by rw[z];rwa[d])) (zi _)]
 ·rwa[absurd (xb (wb (I.pin p f).1) (by rw[z];rwa[d])) (zi _)]
structure g0(P:Program)(w:World)(K:Fg1)(tg:Expr)(J:It)(fp:Tj)(it:Addr)(tn:Nat->Heap->Prop):Prop where
 mem:it∈fp
 obj:∀i h,tn i h->∀b∈fp,∃o,h.get? b=some o/\∀v,o.data≠.cell v
 keep:∀i h h',tn i h->(∀b∈fp,∀o,h.get? b=some o->h'.get? b=some o)->tn i h'
 item:∀(X:Cx),X.p=P->X.w=w->X.K=K->X.k=true->∀(i:Nat) (pins:T1) (s:Shared) (σ:St) (H:Hp) (E:T2),ax X pins σ H s->(∀b∈fp,jF X pins H b)->tn i s.heap->J.go i H →
  wpAny (model P w) X.A (pyNext (.ref it)) (λ r s1=>∃ u,r=some u ∧
   wpAny (model P w) X.A (letOwnedTupleGo tg (.ref it) u) (λ_ s2=>∃x H',ax X pins σ H' s2/\bj x u/\J.yld i H x H'/\tn (i+1) s2.heap/\∀b∈fp,H' b=none) E s1) E s
 done:∀(X:Cx),X.p=P->X.w=w->X.K=K->X.k=true->∀(i:Nat) (pins:T1) (s:Shared) (σ:St) (H:Hp) (E:T2),ax X pins σ H s->(∀b∈fp,jF X pins H b)->tn i s.heap->J.stop i H →
  wpAny (model P w) X.A (pyNext (.ref it)) (λr s1=>r=none/\ax X pins σ H s1) E s
 self:∀(A:Around) (i:Nat) (s:Shared) (Q:T2) (E:T2),tn i s.heap->Q (.ref it) s->wpAny (model P w) A (pyIter (.ref it)) Q E s
abbrev TI:=St->Hp->(It->Hp->Prop)->Prop
def BO(X:Cx)(pins:T1)(σ:St)(tg:Expr)(R:It->Hp->Prop)(a:Value)(c:Shared):Prop :=
 ∃(it:Addr) (d:Tj) (e:Nat->Heap->Prop) (J:It) (H':Hp),a=.ref it/\ax X pins σ H' c/\g0 X.p X.w X.K tg J d it e/\e 0 c.heap/\(∀b∈d,jF X pins H' b)/\R J H'
def PI(X:Cx)(tg iter:Expr)(wi:TI):Prop :=
 ∀(pins:T1) (s:Shared) (σ:St) (H:Hp) (R:It->Hp->Prop),ax X pins σ H s->wi σ H R →
  wpAny (model X.p X.w) X.A (eval iter X.u) (λv a=>wpAny (model X.p X.w) X.A (pyIter v) (BO X pins σ tg R) X.xe a) X.xe s
def qY(c:s.heap.get? it=some o)(d:o.cls=.type n)(e:o.data=.fields vs)(hn:["enumerate","zip","dict_itemiterator","dict_reverseitemiterator","odict_iterator","itertools.zip_longest","itertools.pairwise"].contains n=false)(a:Q () s):wpAny M A (letOwnedTupleGo b (.ref it) u) Q E s:=by
 delta letOwnedTupleGo
 cases b <;> first
  |exact ja a
  | (cases u <;> first
    |exact ja a
    | (refine wpAny_bind (wpAny_load c ?_)
       rw[d,e];show wpAny M A (if (["enumerate","zip","dict_itemiterator","dict_reverseitemiterator","odict_iterator","itertools.zip_longest","itertools.pairwise"].contains n && vs[0]? == some (rawInt _))=true then _ else _) Q E s;rw[wa (by intro h;rw[hn,Bool.false_and]at h;cases h)];rwa[ja a]))
def wU(K:Fg1)(a:Addr):It :=
 ⟨λi H=>∃xs x,bH K H a xs/\xs[i]?=some x,λi H x H'=>H'=H/\∀xs,bH K H a xs->xs[i]?=some x,λi H=>∃xs,bH K H a xs/\xs.length<=i⟩
def wV(K:Fg1)(a:Addr):It :=
 ⟨λi H=>∃xs x,cZ K H a xs/\xs[i]?=some x,λi H x H'=>H'=H/\∀xs,cZ K H a xs->xs[i]?=some x,λi H=>∃xs,cZ K H a xs/\xs.length<=i⟩
noncomputable def qZ(lo:Int)(n:Nat):It:=⟨λi _=>i<n,λi H x H'=>H'=H/\x=.int (lo+i),λi _=>n<=i⟩
def IW{K:Fg1}(a it:Addr):g0 P w K tg (wU K a) [it] it (λi h=>h.IsListIter it a i) where
 mem:=by simp
 obj:=λi h st b hb=>by
  have e:b=it:=by simpa using hb
  subst e;have⟨o,e,c,d⟩:=st;exact⟨o,e,λv z=>by rw[d]at z;cases z⟩
 keep:=λi h h' st k=>st.at λo e=>k it 'm' o e
 item:=by
  intro X hP hw hK hc i pins s σ H E I hf st hg;subst hP hw hK;have⟨xs,x,hq,hx⟩:=hg;have⟨its,rv,p,hz⟩:=I.list hq;have⟨u,hu,ru⟩:=rv.get hx;have⟨f0,f1,f2,f3,f4,f5⟩:=hf it 'm';erw[wpAny_pyNext_list_item st p.isList (x:=u) (by simpa using hu) λh' st' sb=>?_]
  have I1:ax X pins σ H { s with heap:=h' }:=I.turned (t':=s.toks) (λb o hb e=>(sb.2 b hb).trans e) f0 f1 f3 f4 f5;have⟨o,e,c,d⟩:=id st';exact⟨u,rfl,qY (s:={ s with heap:=h' }) e c d 'd' ⟨x,H,I1,ru,⟨rfl,λys hy=>by rw[I.list_inj hy hq];rwa[hx]⟩,st',λb hb=>(hf b hb).1⟩⟩
 done:=by
  intro X hP hw hK hc i pins s σ H E I hf st hg;subst hP hw hK;have⟨xs,hq,hx⟩:=hg;have⟨its,rv,p,hz⟩:=I.list hq;have⟨f0,f1,f2,f3,f4,f5⟩:=hf it 'm';have hl:=rv.length;rwa[wpAny_pyNext_list_end (I.ok.hd hc) st p.isList 's' λh' eb=>⟨rfl,I.turned (t':=s.toks) (λb o hb e=>eb b o hb e) f0 f1 f3 f4 f5⟩]
 self:=λ_ _ _ _ _ st h=>wpAny_pyIter_listiter st h
def IZ{K:Fg1}(a it:Addr):g0 P w K tg (wV K a) [it] it (λi h=>h.IsTupleIter it a i) where
 mem:=by simp
 obj:=λi h st b hb=>by
  have e:b=it:=by simpa using hb
  subst e;have⟨o,e,c,d⟩:=st;exact⟨o,e,λv z=>by rw[d]at z;cases z⟩
 keep:=λi h h' st k=>st.at λo e=>k it 'm' o e
 item:=by
  intro X hP hw hK hc i pins s σ H E I hf st hg;subst hP hw hK;have⟨xs,x,hq,hx⟩:=hg;have⟨its,rv,p,hz⟩:=I.tuple hq;have⟨u,hu,ru⟩:=rv.get hx;have⟨f0,f1,f2,f3,f4,f5⟩:=hf it 'm';erw[wpAny_pyNext_tuple_item st (show s.heap.IsTuple a its.toArray from p) (x:=u) (by simpa using hu) λh' st' sb=>?_]
  have I1:ax X pins σ H { s with heap:=h' }:=I.turned (t':=s.toks) (λb o hb e=>(sb.2 b hb).trans e) f0 f1 f3 f4 f5;have⟨o,e,c,d⟩:=id st';exact⟨u,rfl,qY (s:={ s with heap:=h' }) e c d 'd' ⟨x,H,I1,ru,⟨rfl,λys hy=>by rw[I.tuple_inj hy hq];rwa[hx]⟩,st',λb hb=>(hf b hb).1⟩⟩
 done:=by
  intro X hP hw hK hc i pins s σ H E I hf st hg;subst hP hw hK;have⟨xs,hq,hx⟩:=hg;have⟨its,rv,p,hz⟩:=I.tuple hq;have⟨f0,f1,f2,f3,f4,f5⟩:=hf it 'm';have hl:=rv.length;rwa[wpAny_pyNext_tuple_end (I.ok.hd hc) st (show s.heap.IsTuple a its.toArray from p) 's' λh' eb=>⟨rfl,I.turned (t':=s.toks) (λb o hb e=>eb b o hb e) f0 f1 f3 f4 f5⟩]
 self:=λ_ _ _ _ _ st h=>wpAny_pyIter_tupleiter st h
def I9{K:Fg1}(it:Addr)(lo:Int)(n:Nat):g0 P w K tg (qZ lo n) [it] it (λi h=>IsRangeIter h it (lo+(i:Nat) * 1) ((n:Int) - (i:Nat)) 1) where
 mem:=by simp
 obj:=λi h st b hb=>by
  have e:b=it:=by simpa using hb
  subst e
  exact⟨_,st,λ v z=>by
   have z':Data.fields _=Data.cell v:=z
   cases z'⟩
 keep:=λi h h' st k=>k it 'm' _ st
 item:=by
  intro X hP hw hK hc i pins s σ H E I hf st hg;subst hP hw hK;have⟨f0,f1,f2,f3,f4,f5⟩:=hf it 'm';have W:=Walks.range (prog:=X.p) (w:=X.w) (I.ok.hd hc) it lo 1 n;erw[W.item i s _ _ hg st λv h' tk hv st' kk=>?_]
  have⟨t,rfl⟩:=hv;have I1:ax X pins σ H { s with heap:=h',toks:=tk }:=I.turned (λb o hb e=>kk b o (by simpa using hb) e) f0 f1 f3 f4 f5;erw[⟨_,rfl,qY (s:={ s with heap:=h',toks:=tk }) (n:="range_iterator") st' rfl rfl 'd' ⟨.int (lo+i),H,I1,⟨t,?_⟩,⟨rfl,rfl⟩,st',λb hb=>(hf b hb).1⟩⟩];rw[Int.mul_one]
 done:=by
  intro X hP hw hK hc i pins s σ H E I hf st hg;subst hP hw hK;have⟨f0,f1,f2,f3,f4,f5⟩:=hf it 'm';rwa[wpAny_pyNext_range_end (I.ok.hd hc) st (by have:n<=i:=hg;omega) λh' eb=>⟨rfl,I.turned (t':=s.toks) (λb o hb e=>eb b o hb e) f0 f1 f3 f4 f5⟩]
 self:=λ_ _ _ _ _ st h=>wpAny_pyIter_rangeiter st h
section
variable {X:Cx}
def BP(I:ax X d g H s)(j:-(2 ^ 62)<=a)(l:a<2 ^ 62)(m:-(2 ^ 62)<=c)(n:c<2 ^ 62)(q:R (qZ a (c - a).toNat) H):wpAny (model X.p X.w) X.A (pyIter (.ref s.heap.objs.size)) (BO X d g tg R) E { s with heap:=s.heap.push { cls:=.type "range",data:=.fields #[.int a t,.int c u,.int 1 v] },toks:=h }:=by
 erw[wpAny_pyIter_range (IsRange.new ..) (small_one j l m n) ?_];have f:ax X d g H { s with heap:=s.heap.push { cls:=.type "range",data:=.fields #[.int a t,.int c u,.int 1 v] },toks:=h }:=I.kept λb o e=>na _ e
 refine⟨(s.heap.push { cls:=.type "range",data:=.fields #[.int a t,.int c u,.int 1 v] }).objs.size,[(s.heap.push { cls:=.type "range",data:=.fields #[.int a t,.int c u,.int 1 v] }).objs.size],_,_,H,rfl,
  f.kept (t':=h) λb o e=>na _ e,I9 _ a (c - a).toNat,?_,λb i=>?_,q⟩
 ·have e1:a+((0:Nat):Int) * 1=a:=by simp
  have e2:(((c - a).toNat:Nat):Int) - ((0:Nat):Int)=Builtin.Range.rangeSize a c 1:=by rw[rangeSize_one];split <;> omega
  show IsRangeIter _ _ (a+((0:Nat):Int) * 1) ((((c - a).toNat:Nat):Int) - ((0:Nat):Int)) 1;rw[e1,e2];rwa[bc _ rfl]
 ·have e:b=(s.heap.push { cls:=.type "range",data:=.fields #[.int a t,.int c u,.int 1 v] }).objs.size:=by simpa using i
  subst e;rwa[f.fpOk (ib _) (f.hok.fresh (ib _))]
def Ja(wi:TI)(g:TG)(tb:TS):TS:=λD σ H=>wi σ H λJ H1=>∃W:Nat->Nat->St->Hp->Prop,(∃m,W 0 m σ H1)/\∀i m σ H,W i m σ H →
 (J.stop i H/\D.nx σ H)\/(J.go i H/\∃N:St->Hp->Prop,(∀a H',N a H'->∃c,c<m/\W (i+1) c a H')/\∀x H',J.yld i H x H'->g x σ H' λb H2=>tb { D with nx:=N,ct:=N,bk:=D.nx } b H2)
noncomputable def q0(a:Tj)(h:Heap):T1:=a.filterMap λb=>(h.get? b).map λo=>(b,o)
def uc(c:b∈a)(e:h.get? b=some o):(b,o)∈q0 a h:=fq.mpr ⟨b,c,by rw[e];rfl⟩
def Jb(f:p∈q0 a h):p.1∈a/\h.get? p.1=some p.2:=by
 have⟨b,c,e⟩:=fq.mp f
 cases q:h.get? b with
 |none=>rw[q]at e;cases e
 |some o =>
  rw[q]at e;have d:(b,o)=p:=md e;subst d;exact⟨c,q⟩
def ax.pinned(I:ax X a h H s)(n:∀b∈c,jF X a H b)(q:∀b∈c,∃o,s.heap.get? b=some o/\∀v,o.data≠.cell v):ax X (a++q0 c s.heap) h H s :=
 I.pins_of λp i=>(jb.mp i).elim (λz=>I.pin p (gc _ z)) λz=>by
  have⟨f,e⟩:=Jb z;have⟨j,l,m,_⟩:=n p.1 f;have⟨o,g,d⟩:=q p.1 f;rw[e]at g;cases g;exact⟨e,j,l,m,d⟩
def ax.unpinned(I:ax X (a++d) b H s):ax X a b H s:=I.pins_of λp c=>I.pin p (gc _ (ie _ c))
def wW(P:PassesOwn (model X.p X.w) X.A X.u X.xe)(hc:X.k=true)(hi:PI X tg B wi)(hg:PG X tg g)(j:bR X F tb)(hs:∀x,foldedSetIterable B X.u x=pure x:=by intro _;rfl):PS X (.For tg B F [] pos) (Ja wi g tb):=by
 intro c s σ H D I h;erw[wpAny_For (aU (hi c s σ H _ I h) λv s1 h1=>aU h1 λitv s2 h2=>?_) hs];have⟨it,M,tn,J,H2,e,I2,T,st2,f2,W,⟨m0,w0⟩,turn⟩:=h2;subst e;have y:∀{H':Hp},(∀b∈M,H' b=none)->∀b∈M,jF X c H' b:=λhn b j=>⟨hn b j,(f2 b j).2⟩
 erw[codeAny_forLoop_any (λn s'=>∃i C H',ax X c C H' s'/\tn i s'.heap/\(∀b∈M,H' b=none)/\W i n C H') ?_ m0 ⟨0,σ,H2,I2,st2,λb j=>(f2 b j).1,w0⟩];rintro n s3 t;have⟨i,q,Q,I3,iC,L,w3⟩:=t;rcases turn i n q Q w3 with⟨O,qn⟩|⟨go,N,hN,step⟩
 ·refine ek P (aU (T.done X rfl rfl rfl hc i c s3 q Q X.xe I3 (y L) iC O) λr s4 ⟨R,I4⟩=>?_)
  subst R;rwa[zl ⟨q,Q,I4,qn⟩]
 ·refine ek P (aU (T.item X rfl rfl rfl hc i c s3 q Q X.xe I3 (y L) iC go) λr s4 ⟨u,R,h4⟩=>?_)
  subst R;erw[ek P (aU h4 λ_ s5 t=>?_)];have⟨x,H5,I5,r5,y5,G,U⟩:=t;have I5':=I5.pinned (y U) (T.obj _ _ G);erw[ek P (aU (hg _ s5 q H5 x u _ I5' r5 (step x H5 y5)) λ_ s6 t=>?_)];have⟨Y,H6,I6,q6⟩:=t;erw[ek P (aU (j _ s6 Y H6 _ I6 q6) λf Z E=>?_)]
  have z:∀{a:St} {l:Hp},ax X (c++q0 M s5.heap) a l Z->N a l->∃m,m<n/\∃i C H',ax X c C H' Z/\tn i Z.heap/\(∀b∈M,H' b=none)/\W i m C H':=λ{a l} p K=>by
   have⟨m',hm,w7⟩:=hN a l K;erw[⟨m',hm,i+1,a,l,p.unpinned,T.keep _ _ _ G λb j o e=>(p.pin (b,o) (gc _ (gc _ (uc j e)))).1,λb j=>?_,w7⟩];have⟨o,e,d⟩:=T.obj _ _ G b j;exact(p.pin (b,o) (gc _ (gc _ (uc j e)))).2.1
  cases f with
  |next=>have⟨a,l,p,K⟩:=E;rwa[z p K]
  |cont=>have⟨a,l,p,K⟩:=E;rwa[z p K]
  |brk=>have⟨a,l,p,E⟩:=E;exact⟨a,l,p.unpinned,E⟩
  |ret v=>have⟨x7,a,l,p,r7,E⟩:=E;exact⟨x7,a,l,p.unpinned,r7,E⟩
end
abbrev R2:=V->V->Hp->VK->Prop
def bF(X:Cx)(f:Value->Value->Sem Value)(r:R2):Prop :=
 ∀(pins:T1) (s:Shared) (σ:St) (H:Hp) (x y:V) (v u:Value) (Q:VK),ax X pins σ H s->bj x v->bj y u->r x y H Q →
  wpAny (model X.p X.w) X.A (f v u) (EP X pins σ Q) X.xe s
def pB(X:Cx)(f:Value->Sem Value)(r:V->Hp->VK->Prop):Prop :=
 ∀(pins:T1) (s:Shared) (σ:St) (H:Hp) (x:V) (v:Value) (Q:VK),ax X pins σ H s->bj x v->r x H Q →
  wpAny (model X.p X.w) X.A (f v) (EP X pins σ Q) X.xe s
def dI(X:Cx)(f:Value)(r:T6->Hp->VK->Prop):Prop :=
 ∀(pins:T1) (s:Shared) (σ:St) (H:Hp) (xs:T6) (a:T9) (Q:VK),ax X pins σ H s->bD xs a->r xs H Q →
  wpAny (model X.p X.w) X.A (call f a) (EP X pins σ Q) X.xe s
def rc(r:R2)(ta tb:TE):TE:=λσ H Q=>ta σ H λx H1=>tb σ H1 λy H2=>r x y H2 Q
def Jc(r:V->Hp->VK->Prop)(ta:TE):TE:=λσ H Q=>ta σ H λx H1=>r x H1 Q
def rI(C:Int->Int->Prop)(g:Int->Int->V):R2:=λx y H Q=>∃i j,x=.int i/\y=.int j/\C i j/\Q (g i j) H
def lE(g:Int->Int->V):R2:=λx y H Q=>∃i j,x=.int i/\y=.int j/\Q (g i j) H
def rU(g:Int->V):V->Hp->VK->Prop:=λx H Q=>∃i,x=.int i/\Q (g i) H
section
variable {X:Cx}
def uq(ha:PE X a ta)(r:PE X b tb){c:T1}{R:V->V->Hp->Prop}(I:ax X c d H s)(h:ta d H λx H1=>tb d H1 λy H2=>R x y H2){f:Value->Value->Sem Value}(z:∀v u i x y H2,ax X c d H2 i->bj x v->bj y u->R x y H2->wpAny (model X.p X.w) X.A (f v u) Q X.xe i) :
  wpAny (model X.p X.w) X.A (eval a X.u) (λv e=>wpAny (model X.p X.w) X.A (eval b X.u) (λu g=>wpAny (model X.p X.w) X.A (f v u) Q X.xe g) X.xe e) X.xe s:=by
 erw[aU (ha c s d H _ I h) λv j ⟨x,H1,l,m,n⟩=>?_]
 erw[aU (r c j d H1 _ l n) λu i ⟨y,H2,o,p,q⟩=>?_]
 rwa[z v u i x y H2 o m p q]
def BQ(l:bF X (binaryOp op) r)(ha:PE X a ta)(m:PE X b tb):PE X (.BinOp a op b pos) (rc r ta tb):=by
 intro c s j H Q I h;rwa[wpAny_BinOp (uq ha m I h λv u d x y e f g i q=>l c d j e x y v u Q f g i q)]
def Jd(j:pB X (unaryOp op) r)(ha:PE X a ta):PE X (.UnaryOp op a pos) (Jc r ta):=by
 intro b s c H Q I h;rwa[UnaryOp_ (aU (ha b s c H _ I h) λv d ⟨x,e,f,g,i⟩=>j b d c e x v Q f g i)]
def wX{f:Value->Value->Sem Value}{C:Int->Int->Prop}{g:Int->Int->Int}(a:∀(i j:Int) (t u:Tok) (s:Shared) (Q:T2) (E:T2),C i j->Q (.int (g i j) s.toks) { s with toks:=s.toks+1 }->wpAny (model X.p X.w) X.A (f (.int i t) (.int j u)) Q E s) :
  bF X f (rI C λi j=>.int (g i j)):=by
 intro b s l H x y v u Q I c d h;have⟨i,j,rfl,rfl,e,q⟩:=h;have⟨t,rfl⟩:=c;have⟨t',rfl⟩:=d;rwa[a i j t t' s _ _ e ⟨.int (g i j),H,I.tok _,⟨_,rfl⟩,q⟩]
def BR{f:Value->Value->Sem Value}{g:Int->Int->Int}(a:∀(i j:Int) (t u:Tok) (s:Shared) (Q:T2) (E:T2),Q (.int (g i j) s.toks) { s with toks:=s.toks+1 }->wpAny (model X.p X.w) X.A (f (.int i t) (.int j u)) Q E s) :
  bF X f (lE λi j=>.int (g i j)):=by
 intro b s e H x y v u Q I c d h;have⟨i,j,rfl,rfl,q⟩:=h;have⟨t,rfl⟩:=c;have⟨t',rfl⟩:=d;rwa[a i j t t' s _ _ ⟨.int (g i j),H,I.tok _,⟨_,rfl⟩,q⟩]
def uv{f:Value->Value->Sem Value}{g:Int->Int->Bool}(a:∀(i j:Int) (t u:Tok) (s:Shared) (Q:T2) (E:T2),Q (.bool (g i j)) s->wpAny (model X.p X.w) X.A (f (.int i t) (.int j u)) Q E s) :
  bF X f (lE λi j=>.bl (g i j)):=by
 intro b s e H x y v u Q I c d h;have⟨i,j,rfl,rfl,q⟩:=h;have⟨t,rfl⟩:=c;have⟨t',rfl⟩:=d;rwa[a i j t t' s _ _ ⟨.bl (g i j),H,I,rfl,q⟩]
def wY(i j:Int):Prop:=0<j/\j<1073741824
def uw(i j:Int):Prop:=(-(2 ^ 64)<i/\i<2 ^ 64)\/(-(2 ^ 64)<j/\j<2 ^ 64)
def uw.ok(h:uw i j):IntMulOk i j:=by
 rcases h with⟨a,b⟩|⟨a,b⟩
 ·rwa[.of_left (intBits_le_64 a b)]
 ·rwa[.of_right (intBits_le_64 a b)]
def Je:bF X (binaryOp .Add) (lE λi j=>.int (i+j)):=BR λ_ _ _ _ _ _ _ q=>add_int q
def Jf:bF X (binaryOp .Sub) (lE λi j=>.int (i - j)):=BR λ_ _ _ _ _ _ _ q=>sub_int q
def Jg:bF X (binaryOp .FloorDiv) (rI wY λi j=>.int (i / j)):=wX λi j _ _ _ _ _ a q=>by
 have b:(0:Int)<j:=a.1;have c:j<1073741824:=a.2;rwa[floordiv_int 'o' (by rw[Int.fdiv_eq_ediv_of_nonneg i 'o'];rwa[q]) (.inl (PyProof.noPylong_small 'o'))]
def Jh:bF X (binaryOp .Mod) (rI (λ_ j=>0<j) λi j=>.int (i % j)):=wX λi j _ _ _ _ _ a q=>by
 have b:(0:Int)<j:=a;rwa[mod_int' 'o' (by rw[Int.fmod_eq_emod_of_nonneg i 'o'];rwa[q])]
def Ji{f:Value->Sem Value}{g:Int->Int}(a:∀(i:Int) (t:Tok) (s:Shared) (Q:T2) (E:T2),Q (.int (g i) s.toks) { s with toks:=s.toks+1 }->wpAny (model X.p X.w) X.A (f (.int i t)) Q E s) :
  pB X f (rU λi=>.int (g i)):=by
 intro b s d H x v Q I c h;have⟨i,rfl,q⟩:=h;have⟨t,rfl⟩:=c;rwa[a i t s _ _ ⟨.int (g i),H,I.tok _,⟨_,rfl⟩,q⟩]
def Jj:pB X (unaryOp .USub) (rU λi=>.int (-i)):=Ji λ_ _ _ _ _ q=>neg_int q
end
noncomputable def BS:V->V->Bool
 |.non,.non=>true|.non,.int _=>true|.int _,.non=>true|.non,.bl _=>true|.bl _,.non=>true|.non,.str _=>true|.str _,.non=>true
 |.int _,.int _=>true|.bl _,.bl _=>true|.str _,.str _=>true|.byt _,.byt _=>true
 |.int _,.str _=>true|.str _,.int _=>true|.bl _,.str _=>true|.str _,.bl _=>true
 |_,_=>false
def Jk:R2:=λx y H Q=>BS x y=true/\Q (.bl (decide (x=y))) H
def Jl:R2:=λx y H Q=>BS x y=true/\Q (.bl (!decide (x=y))) H
def BT:decide (V.int i=V.int j)=(i == j):=by
 rw[um];simp
def BU:decide (V.bl i=V.bl j)=(i == j):=by
 rw[um];simp
def BV:decide (V.str i=V.str j)=(i == j):=by
 rw[um];simp
def BW:decide (V.byt i=V.byt j)=(i.toList == j.toList):=by
 rw[um];cases i;cases j;simp
section
def c8{a:T1}{b:St}{c:Bool}(I:ax X a b H s)(q:Q (.bl k) H)(e:k=c):EP X a b Q (.bool c) s:=by
 subst e;exact⟨.bl k,H,I,rfl,q⟩
def Jm:bF X (compareOp .Eq) Jk:=by
 intro c s d H x y v u Q I b a h;have⟨hs,q⟩:=h
 cases x with
 |non =>
  cases b
  cases y with
  |non=>cases a;rwa[PySem.EqNone.eq_none_none (c8 I q 'm')]
  |bl j=>cases a;rwa[PySem.EqNone.eq_none_bool (c8 I q 'm')]
  |int j=>have⟨t',rfl⟩:=a;rwa[PySem.EqNone.eq_none_int (c8 I q 'm')]
  |str j=>have⟨t',rfl⟩:=a;rwa[PySem.EqNone.eq_none_str (c8 I q 'm')]
  |_=>rwa[absurd (show false=true from hs) ua]
 |bl i =>
  cases b
  cases y with
  |non=>cases a;rwa[PySem.EqNone.eq_bool_none (c8 I q 'm')]
  |bl j=>cases a;rwa[eq_bool (c8 I q BU)]
  |str j=>have⟨t',rfl⟩:=a;rwa[PySem.EqMixed.eq_bool_str (c8 I q 'm')]
  |_=>rwa[absurd (show false=true from hs) ua]
 |int i =>
  have⟨t,rfl⟩:=b
  cases y with
  |non=>cases a;rwa[PySem.EqNone.eq_int_none (c8 I q 'm')]
  |int j=>have⟨t',rfl⟩:=a;rwa[eq_int (c8 I q BT)]
  |str j=>have⟨t',rfl⟩:=a;rwa[PySem.EqMixed.eq_int_str (c8 I q 'm')]
  |_=>rwa[absurd (show false=true from hs) ua]
 |str i =>
  have⟨t,rfl⟩:=b
  cases y with
  |non=>cases a;rwa[PySem.EqNone.eq_str_none (c8 I q 'm')]
  |bl j=>cases a;rwa[PySem.EqMixed.eq_str_bool (c8 I q 'm')]
  |int j=>have⟨t',rfl⟩:=a;rwa[PySem.EqMixed.eq_str_int (c8 I q 'm')]
  |str j=>have⟨t',rfl⟩:=a;rwa[eq_str (c8 I q BV)]
  |_=>rwa[absurd (show false=true from hs) ua]
 |byt i =>
  have⟨t,rfl⟩:=b
  cases y with
  |byt j=>have⟨t',rfl⟩:=a;rwa[PySem.W.eq_bytes (c8 I q BW)]
  |_=>rwa[absurd (show false=true from hs) ua]
 |_=>cases y <;> rwa[absurd (show false=true from hs) ua]
def Jn:bF X (compareOp .NotEq) Jl:=by
 intro c s d H x y v u Q I b a h;have⟨hs,q⟩:=h
 cases x with
 |non =>
  cases b
  cases y with
  |non=>cases a;rwa[PySem.EqNone.ne_none_none (c8 I q 'm')]
  |bl j=>cases a;rwa[PySem.EqNone.ne_none_bool (c8 I q 'm')]
  |int j=>have⟨t',rfl⟩:=a;rwa[PySem.EqNone.ne_none_int (c8 I q 'm')]
  |str j=>have⟨t',rfl⟩:=a;rwa[PySem.EqNone.ne_none_str (c8 I q 'm')]
  |_=>rwa[absurd (show false=true from hs) ua]
 |bl i =>
  cases b
  cases y with
  |non=>cases a;rwa[PySem.EqNone.ne_bool_none (c8 I q 'm')]
  |bl j=>cases a;rwa[ne_bool (c8 I q (qe not BU))]
  |str j=>have⟨t',rfl⟩:=a;rwa[PySem.EqMixed.ne_bool_str (c8 I q 'm')]
  |_=>rwa[absurd (show false=true from hs) ua]
 |int i =>
  have⟨t,rfl⟩:=b
  cases y with
  |non=>cases a;rwa[PySem.EqNone.ne_int_none (c8 I q 'm')]
  |int j=>have⟨t',rfl⟩:=a;rwa[ne_int (c8 I q (qe not BT))]
  |str j=>have⟨t',rfl⟩:=a;rwa[PySem.EqMixed.ne_int_str (c8 I q 'm')]
  |_=>rwa[absurd (show false=true from hs) ua]
 |str i =>
  have⟨t,rfl⟩:=b
  cases y with
  |non=>cases a;rwa[PySem.EqNone.ne_str_none (c8 I q 'm')]
  |bl j=>cases a;rwa[PySem.EqMixed.ne_str_bool (c8 I q 'm')]
  |int j=>have⟨t',rfl⟩:=a;rwa[PySem.EqMixed.ne_str_int (c8 I q 'm')]
  |str j=>have⟨t',rfl⟩:=a;rwa[ne_str (c8 I q (qe not BV))]
  |_=>rwa[absurd (show false=true from hs) ua]
 |byt i =>
  have⟨t,rfl⟩:=b
  cases y with
  |byt j=>have⟨t',rfl⟩:=a;rwa[PySem.W.ne_bytes (c8 I q (qe not BW))]
  |_=>rwa[absurd (show false=true from hs) ua]
 |_=>cases y <;> rwa[absurd (show false=true from hs) ua]
def Jo:bF X (compareOp .Lt) (lE λi j=>.bl (decide (i<j))):=uv λ_ _ _ _ _ _ _ q=>lt_int q
def Jp:bF X (compareOp .LtE) (lE λi j=>.bl (decide (i<=j))):=uv λ_ _ _ _ _ _ _ q=>le_int q
def Jq:bF X (compareOp .Gt) (lE λi j=>.bl (decide (j<i))):=uv λ_ _ _ _ _ _ _ q=>gt_int q
def Jr:bF X (compareOp .GtE) (lE λi j=>.bl (decide (j<=i))):=uv λ_ _ _ _ _ _ _ q=>ge_int q
def Js:bF X (compareOp .In) (λx y H Q=>∃i j,x=.str i/\y=.str j/\Q (.bl (!(Builtin.Str.occurrences j i 0 j.length 1).isEmpty)) H):=by
 intro a s d H x y v u Q I b c h;have⟨i,j,rfl,rfl,q⟩:=h;have⟨t,rfl⟩:=b;have⟨t',rfl⟩:=c;rwa[in_str (c8 I q rfl)]
def Jt:bF X (compareOp .NotIn) (λx y H Q=>∃i j,x=.str i/\y=.str j/\Q (.bl (!(!(Builtin.Str.occurrences j i 0 j.length 1).isEmpty))) H):=by
 intro a s d H x y v u Q I b c h;have⟨i,j,rfl,rfl,q⟩:=h;have⟨t,rfl⟩:=b;have⟨t',rfl⟩:=c;rwa[notIn_str (c8 I q rfl)]
def bF.or(h:bF X f r)(h':bF X f e):bF X f (λx y H Q=>r x y H Q\/e x y H Q):=by
 intro a s b H x y v u Q I c d q;rcases q with q|q
 ·rwa[h a s b H x y v u Q I c d q]
 ·rwa[h' a s b H x y v u Q I c d q]
def c5(b:Expr)(h:op≠.In:=by decide)(a:op≠.NotIn:=by decide):behindInMarks op b=false:=by
 have e1:(op == CmpOp.In)=false:=by cases op <;> first|rfl|exact absurd rfl h
 have e2:(op == CmpOp.NotIn)=false:=by cases op <;> first|rfl|exact absurd rfl a
 cases b <;> simp[behindInMarks,e1,e2]
def Ju(l:bF X (compareOp op) r)(ha:PE X a ta)(m:PE X b tb)(hm:behindInMarks op b=false):PE X (.Compare a [op] [b] pos) (rc r ta tb):=by
 intro c s j H Q I h;rwa[wpAny_Compare1 (uq ha m I h λv u d x y e f g i q=>l c d j e x y v u Q f g i q) hm]
def nF:(sizeLine:Nat)<2 ^ 63:=by rw[sizeLine_eq];decide
def Jv:bF X (binaryOp .Add) (λx y H Q=>∃i j,x=.str i/\y=.str j/\i.length+j.length<=sizeLine/\Q (.str (i++j)) H):=by
 intro a s e H x y v u Q I b c h;have⟨i,j,rfl,rfl,hz,q⟩:=h;have⟨t,rfl⟩:=b;have⟨t',rfl⟩:=c;rwa[add_str (λt' d=>⟨.str (i++j),H,I.tok _,⟨_,rfl⟩,q⟩) hz]
def gF{a:T9}(r:bD [x] a):∃u,a=[u]/\bj x u:=by
 cases r with
 |cons b c=>cases c;exact⟨_,rfl,b⟩
def nG{a:T9}(r:bD [x,y] a):∃u w',a=[u,w']/\bj x u/\bj y w':=by
 cases r with
 |cons b c =>
  cases c with
  |cons d e=>cases e;exact⟨_,_,rfl,b,d⟩
def Jw:dI X (.type "str") (λxs H Q=>∃i,xs=[.int i]/\i.natAbs.log2<1920/\Q (.str (toString i)) H):=by
 intro a s b H xs c Q I r h;have⟨i,rfl,hz,q⟩:=h;have⟨u,rfl,t,rfl⟩:=gF r;rwa[PySem.P.str_of_int hz ⟨.str _,H,I.tok _,⟨_,rfl⟩,q⟩]
end
structure nH(h:Heap)(x dx C:Addr)(mA:Str->Ta):Prop where
 obj:h.get? x=some (instObj C dx)
 ns:h.Ns1 dx mA
 ne:dx≠x
def Jx{h:Heap}(n:h.Ns1 dx mA):∃b,h.get? dx=some b/\∀name,lookIn name b=some (mA name):=by
 have⟨o,es,ep,d,f,g,_,hm⟩:=n;erw[⟨o,d,λname=>?_⟩];have e:=hm name;unfold nsFind findBy at e;rw[<-Array.find?_toList]at e;delta lookIn;rw[f];dsimp only;split
 ·rename_i y q
  rw[q]at e;rwa[qe some e]
 ·rename_i q
  rw[q]at e
  have a:es.toList.any (·.refKey)=false:=by
   rw[vn];intro y c;have⟨z,t,dS⟩:=g y (jm.mp c);simp[DictEntry.refKey,dS]
  have i:¬es.toList.any (·.refKey)=true:=by rw[a];rwa[ua]
  rw[wa i];rwa[qe some e]
def nH.look(I:nH h x dx C mA):∃a,InstAt h x (instObj C dx) C (some a)/\∀name,lookIn name a=some (mA name) :=
 let ⟨a,b,hl⟩:=Jx I.ns
 ⟨a,⟨I.obj,rfl,rfl,b⟩,hl⟩
def eO.some_of(r:eO (some v) o):∃u,o=some u/\bj v u:=by
 cases o with
 |none=>exact(show False from r).elim
 |some u=>exact⟨u,rfl,r⟩
def Jy(r:bj v u):PySem.W.handedIn u=true:=by
 cases v with
 |non=>cases (show u=Value.none from r);rfl
 |bl b=>cases (show u=Value.bool b from r);rfl
 |int i=>have⟨t,e⟩:=(show ∃t,u=Value.int i t from r);cases e;rfl
 |str x=>have⟨t,e⟩:=(show ∃t,u=Value.str x t from r);cases e;rfl
 |byt b=>have⟨t,e⟩:=(show ∃t,u=Value.bytes b t from r);cases e;rfl
 |flt b=>have⟨t,e⟩:=(show ∃t,u=Value.float b t from r);cases e;rfl
 |ref a=>cases (show u=ref a from r);rfl
 |ty n=>cases (show u=Value.type n from r);rfl
section
variable {fs:List (Str×V)}
def Jz(b:cT P w H h)(e:H a=some (.ins C dx fs)):∃mA,nH h a dx C mA/\(∀f,eO (fs.lookup f) (mA f))/\PySem.Within mA (fs.map (·.1))/\fs.length<=1000/\H dx=some (.own a):=by
 have⟨d,z,c,g,mA,n,r,q⟩:=(show cw P w H h a (.ins C dx fs) from b a _ e)
 exact⟨mA,⟨g,n,c⟩,r,q,z,d⟩
end
structure wZ(K:Fg1)(C:Addr):Prop where
 pg:plainGet K C Str.empty=true
 hd:PySem.W.hasDictIn K C=true
 po:PySem.W.plainOver K C=true
 sa:findIn K (.ref C) "__setattr__" = some (some (.builtin "object.__setattr__"))
def wZ.get{K:Fg1}(c:wZ K C)(f:Str):plainGet K C f=true:=c.pg
section
def JA(c:attributeBase e f env (eval e env)=eval e env)(h:wpAny (model prog w) A (eval e env) (λo a=>wpAny (model prog w) A (getAttr o f true) Q E a) E s):wpAny (model prog w) A (eval (.Attribute e f b) env) Q E s :=
 Attribute_any_ h (by rw[arm_eval_Attribute,c])
end
section
variable {X:Cx}{H:Hp}
inductive dJ (K:Fg1) (H:Hp):V->Value->Prop where
 |non:dJ K H .non (.type "NoneType")
 |bl (x:Bool):dJ K H (.bl x) (.type "bool")
 |int (i:Int):dJ K H (.int i) (.type "int")
 |str (x:Str):dJ K H (.str x) (.type "str")
 |flt (x:UInt64):dJ K H (.flt x) (.type "float")
 |lst {a:Addr} {xs:T6} (e:H a=some (.lst xs)):dJ K H (.ref a) (.type "list")
 |frz {a:Addr} {o:Obj} {xs:T6} (e:H a=some (.frz o (.lst xs))):dJ K H (.ref a) (.type "list")
 |tup {a:Addr} {xs:T6} (e:H a=some (.tup xs)):dJ K H (.ref a) (.type "tuple")
 |dK {a:Addr} {kvs:List (aW×V)} (e:H a=some (.dK kvs)):dJ K H (.ref a) (.type "dict")
 |dT {a:Addr} {kvs:List (List aW×V)} (e:H a=some (.dT kvs)):dJ K H (.ref a) (.type "dict")
 |ins {a C dx:Addr} {fs:List (Str×V)} (e:H a=some (.ins C dx fs)) (cl:wZ K C) (ha:findIn K (.ref C) "__class__" = some (some (.builtin "object.__class__")))
   (hn:specialIn K (.builtin "object.__class__") "__get__" = some (some (.builtin "getset_descriptor.__get__"))) (htk:PySem.W.takesIn K (.builtin "object.__class__")=some true)
   (hm:mroIn K C (.type "object")=some true):dJ K H (.ref a) (.ref C)
def JB(I:ax X pins σ H s)(rx:bj x u)(ty:dJ X.K H x t)(e:kitOne X.K t c=some b)(h:∀tk,Q (.bool b) { s with toks:=tk }) :
  wpAny (model X.p X.w) A (call (.builtin "isinstance") [u,c]) Q E s:=by
 cases ty with
 |non=>cases (show u=Value.none from rx);rwa[kia_one kitx_none I.kIn qh e (λz=>nomatch z) h]
 |bl y=>cases (show u=Value.bool y from rx);rwa[kia_one PySem.W.kitx_bool I.kIn qh e (λz=>nomatch z) h]
 |int i=>have⟨t,q⟩:=(show ∃t,u=Value.int i t from rx);cases q;rwa[kia_one PySem.W.kitx_int I.kIn qh e (λz=>nomatch z) h]
 |str y=>have⟨t,q⟩:=(show ∃t,u=Value.str y t from rx);cases q;rwa[kia_one PySem.W.kitx_str I.kIn qh e (λz=>nomatch z) h]
 |flt y=>have⟨t,q⟩:=(show ∃t,u=Value.float y t from rx);cases q;rwa[kia_one PySem.W.kitx_float I.kIn qh e (λz=>nomatch z) h]
 |@lst a xs ea =>
  cases (show u=ref a from rx)
  have⟨_,_,n,_,h1⟩:=(show cw X.p X.w H s.heap a (.lst xs) from I.hok a _ ea)
  rwa[kia_one kitx_list I.kIn ⟨_,h1,rfl⟩ e (λz=>nomatch z) h]
 |@frz a ob xs ea =>
  cases (show u=ref a from rx)
  have⟨_,_,_,n,_,h1⟩:=(show cw X.p X.w H s.heap a (.frz ob (.lst xs)) from I.hok a _ ea)
  rwa[kia_one kitx_list I.kIn ⟨_,h1,rfl⟩ e (λz=>nomatch z) h]
 |@tup a xs ea =>
  cases (show u=ref a from rx)
  have⟨_,_,_,p⟩:=(show cw X.p X.w H s.heap a (.tup xs) from I.hok a _ ea)
  have⟨o,h1,h2,_⟩:=p;rwa[kia_one kitx_tuple I.kIn ⟨o,h1,h2⟩ e (λz=>nomatch z) h]
 |@dK a kvs ea =>
  cases (show u=ref a from rx)
  have⟨_,_,vs,_,p⟩:=(show cw X.p X.w H s.heap a (.dK kvs) from I.hok a _ ea)
  have⟨o,es,ep,h1,h2,_⟩:=p;rwa[kia_one kitx_dict I.kIn ⟨o,h1,h2.1⟩ e (λz=>nomatch z) h]
 |@dT a kvs ea =>
  cases (show u=ref a from rx)
  have⟨_,_,xs,_,o,es,ep,h1,h2,_⟩:=(show cw X.p X.w H s.heap a (.dT kvs) from I.hok a _ ea)
  rwa[kia_one kitx_dict I.kIn ⟨o,h1,h2.1⟩ e (λz=>nomatch z) h]
 |@ins a C dx fs ea cl ha hn htk hm =>
  cases (show u=ref a from rx)
  have⟨mA,O,_⟩:=Jz I.hok ea;have⟨od,J,_⟩:=O.look;rwa[kia_one (PySem.W.kitx_own (cl.get _) cl.hd ha hn htk hm) I.kIn J e (λz=>nomatch z) h]
end
structure aL(k:Nat)(A:Around):Prop where
 hd:A.handled=none
 dp:A.depth+3 * k+5<recursionLimit
 un:A.units+16 * k+200<cLine
def aL.mono(r:aL k A)(h:j<=k):aL j A:=⟨r.hd,by have:=r.dp;omega,by have:=r.un;omega⟩
theorem aL.deeper(r:aL (k+1) A)(env:Env):aL k (A.deeper env) :=
 ⟨r.hd,by have:=r.dp;show A.depth+1+3 * k+5<_;omega,by have:=r.un;show A.units+3+16 * k+200<_;omega⟩
theorem aL.in1(r:aL (k+1) A):aL k A.in1 :=
 ⟨r.hd,by have:=r.dp;show A.depth+3 * k+5<_;omega,by have:=r.un;show A.units+1+16 * k+200<_;omega⟩
def JC{A:Around}:(A.under (.builtin "type.__call__" ⟨.ref C::a,b⟩)).depth=A.depth+1:=by
 first|rfl|simp[Around.under,Code.weight,Code.isCreation,Code.isGuard,Code.isCaller,Code.frames,Code.isFrame,guardIds]
def JD{A:Around}:(A.under (.builtin "type.__call__" ⟨.ref C::a,b⟩)).units=A.units+1:=by
 first|rfl|simp[Around.under,Code.cUnits,Code.frames,Code.isFrame]
def aL.make(r:aL (k+1) A)(C:Addr)(a:T9)(b:List (Str×Value)):aL k (A.under (.builtin "type.__call__" ⟨.ref C::a,b⟩)) :=
 ⟨r.hd,by have:=r.dp;rw[JC];omega,by have:=r.un;rw[JD];omega⟩
theorem aL.depth(r:aL k A):A.depth<recursionLimit:=by have:=r.dp;omega
theorem aL.units(r:aL k A):A.units+64<cLine:=by have:=r.un;omega
def BX:TA:=λ_ H Q=>Q [] H
def BY(ta:TE)(a:TA):TA:=λσ H Q=>ta σ H λx H1=>a σ H1 λxs H2=>Q (x::xs) H2
section
def gG:PA X [] BX:=λ_ _ _ _ H Q I h=>wn ⟨[],H,I,.nil,h⟩
def dL(ha:PE X e te)(p:PA X es t)(hs:W1 X (e::es) e es:=by rfl):PA X (e::es) (BY te t):=by
 intro b a s c H Q I h;rw[hs];show wpAny _ _ (spliced ((false,eval e X.u)::backTo b (starEach es X.u))) _ _ s;erw[wj (aU (ha a s c H _ I h) λu d ⟨x,f,g,i,j⟩=>?_)];rwa[aU (p b a d c f _ g j) λq r ⟨xs,l,m,n,o⟩=>⟨x::xs,l,m,.cons i n,o⟩]
def JE(t:TA):TE:=λσ H Q=>t σ H λxs H1=>xs.length<=sizeLine/\∀p,H1 p=none->Q (.ref p) (aI H1 p (.tup xs))
def JF(t:TA):TE:=λσ H Q=>t σ H λxs H1=>xs.length<=sizeLine/\∀p,H1 p=none->Q (.ref p) (aI H1 p (.lst xs))
def BZ{x1}(h:PA X es t):PE X (.Tuple es x1 pos) (JE t):=by
 intro a s i H Q I j;erw[wpAny_Tuple_spliced (aU (h pos a s i H _ I j) λg c ⟨xs,d,f,r,z,q⟩=>⟨by rw[<-r.length];exact z,?_⟩)];have l:d c.heap.objs.size=none:=f.hok.fresh (ib _);erw[⟨.ref c.heap.objs.size,aI d c.heap.objs.size (.tup xs),f.laid (t':=c.toks) (λb u e=>na _ e) (ib _) ?_,rfl,q _ l⟩];exact⟨z,g,r,⟨_,bc _ rfl,rfl,_,rfl⟩⟩
def uy(h:PA X es t):PE X (.List es pos) (JF t):=by
 intro a s i H Q I j;erw[wpAny_List_spliced (aU (h pos a s i H _ I j) λg c ⟨xs,d,f,r,z,q⟩=>⟨by rw[<-r.length];exact z,?_⟩)];have l:d c.heap.objs.size=none:=f.hok.fresh (ib _);erw[⟨.ref c.heap.objs.size,aI d c.heap.objs.size (.lst xs),f.laid (t':=c.toks) (λb u e=>na _ e) (ib _) ?_,rfl,q _ l⟩];exact⟨z,g,0,r,bc _ rfl⟩
end
abbrev Sp:=T6->Hp->VK->XK->Prop
abbrev i4:=Tl->Hp->Shared->XK->Value->Shared->Prop
structure eQ(P:Program)(w:World)(K:Fg1)(mg:Str->Ta)(base:Heap)(A:Around)(outer:Tl)(s:Shared)(H:Hp):Prop where
 frames:A.frames=some outer
 mod:Mod K mg base
 bs:∀b o,base.get? b=some o->s.heap.get? b=some o/\H b=none
 bsz:base.objs.size<=s.heap.objs.size
 funs:s.heap.FunFrames base outer
 frf:∀b∈d8 outer,H b=none
 hok:cT P w H s.heap
 bare:AllBare s.gens
def CE(outer:Tl)(P:Program)(w:World)(H:Hp)(s:Shared)(Q:VK)(u:Value)(s':Shared):Prop :=
 ∃v H',s'.os=s.os/\AllBare s'.gens/\Un (d8 outer) [] H H' s.heap s'.heap/\cT P w H' s'.heap/\bj v u/\Q v H'
def CR(CX:i4)(outer:Tl)(P:Program)(w:World)(H:Hp)(s:Shared)(Q:VK)(E:XK)(r:Result)(s':Shared):Prop :=
 match r with
 |.ok (.ret u)=>CE outer P w H s Q u s'
 |.ok _=>False
 |.error e=>CX outer H s E e s'
structure aG(P:Program)(w:World)(K:Fg1)(mg:Str->Ta)(base:Heap)(CX:i4)(k:Nat)(f:Addr)(fd:FuncData)(ps:T8)(sp:Sp):Prop where
 len:∀vs H Q E,sp vs H Q E->vs.length=ps.length
 run:∀(A:Around) (outer:Tl) (s:Shared) (H:Hp) (args:Args) (us:T9) (vs:T6) (Q:VK) (E:XK),aL k A->eQ P w K mg base A outer s H->BindsTo s fd args (ps.zip us)->bD vs us->sp vs H Q E →
  codeAny (model P w) A (.call (.ref f) args) (CR CX outer P w H s Q E) s
def eQ.make{K:Fg1}{A:Around}(e:eQ P w K b base A a s H)(C:Addr)(c:T9)(d:List (Str×Value)) :
  eQ P w K b base (A.under (.builtin "type.__call__" ⟨.ref C::c,d⟩)) a s H:=⟨by first|exact e.frames|(simpa [Around.under,Code.envs,Code.isFrame,pushEnvs] using e.frames),e.mod,e.bs,e.bsz,e.funs,e.frf,e.hok,e.bare⟩
theorem eQ.in1{K:Fg1}{A:Around}(e:eQ P w K b base A a s H) :
  eQ P w K b base A.in1 a s H:=⟨e.frames,e.mod,e.bs,e.bsz,e.funs,e.frf,e.hok,e.bare⟩
section
variable {X:Cx}
def ax.env0(I:ax X pins σ H s):eQ X.p X.w X.K X.mg X.base X.A X.t s H :=
 ⟨I.ok.frames,I.ok.mod,I.bs,zc I.ok.bsz I.sz,I.stack,I.stkFree,I.hok,I.bare⟩
def ax.after(I:ax X pins σ H s)(h:CE X.t X.p X.w H s Q u s'):EP X pins σ Q u s':=by
 have⟨v,H',os,a,un,c,r,q⟩:=h;have⟨f,g,d,t,e⟩:=s';obtain rfl:e=s.os:=os;exact⟨v,H',I.call (h':=f) (g':=g) (d':=d) (t':=t) (ch:=[]) un c a (λb z=>absurd z 'm'),r,q⟩
end
def JG(sp:Sp)(dvs:T6)(E:XK)(t:TA):TE:=λσ H Q=>t σ H λvs H1=>sp (vs++dvs) H1 Q E
def dq(K:Fg1)(fd:FuncData)(ps:T8)(ds:T9):Prop :=
 ∀(s:Shared) (a:T9),K.In s.heap->(a++ds).length=ps.length->BindsTo s fd ⟨a,[]⟩ (ps.zip (a++ds))
def dq.all{K:Fg1}{ps:T8}(h:∀a:T9,a.length=ps.length->bindArgs b ⟨a,[]⟩=pure (ps.zip a)):dq K b ps []:=λs a _ hl=>by
 rw[jd]at hl ⊢;rwa[.of_eq (h a hl)]
def pC(CX:i4)(X:Cx)(E:XK):Prop:=∀(pins:T1) (σ:St) (H:Hp) (s:Shared) (e:Value) (s':Shared),ax X pins σ H s->CX X.t H s E e s'->X.xe e s'
section
variable {X:Cx}
def JH(F:aG X.p X.w X.K X.mg X.base CX k f fd ps sp)(j:aL k X.A)(l:dq X.K fd ps ds)(m:bD dvs ds)(n:pC CX X E)(I:ax X a d H s)(r:bD vs b)(h:sp (vs++dvs) H Q E):wpAny (model X.p X.w) X.A (call (.ref f) b) (EP X a d Q) X.xe s:=by
 have g:bD (vs++dvs) (b++ds):=r.append m;have hl:(b++ds).length=ps.length:=by rw[<-g.length];rwa[F.len _ _ _ _ h]
 erw[qm (jk (F.run X.A X.t s H ⟨b,[]⟩ (b++ds) (vs++dvs) Q E j I.env0 (l s b I.kIn hl) g h) λr i c=>?_)]
 cases r with
 |error e=>rwa[n a d H s e i I c]
 |ok o =>
  cases o with
  |ret u=>rwa[I.after c]
  |next=>rwa[elim c]
  |brk=>rwa[elim c]
  |cont=>rwa[elim c]
def w4(F:aG X.p X.w X.K X.mg X.base CX k f fd ps sp)(i:aL k X.A)(j:Gl X x)(hm:X.mg x=some (.ref f))(l:keepIn X.K (.ref f)=true)(m:dq X.K fd ps ds)(n:bD dvs ds)(o:pC CX X E)(ha:PA X (e::es) t)(b:(x == 'g')=false:=by decide)(he:W1 X (e::es) e es:=by rfl)(c:W2 X pos es:=by rfl) :
  PE X (.Call (.Name x p) (e::es) [] pos) (JG sp dvs E t):=by
 intro a s g H Q I h;erw[dg (nC I j hm ?_ b)];erw[callWith_K (h₀:=X.base) I.ok.mod.kin l (aU (ha pos a s g H _ I h) λu v ⟨vs,y,d,r,q⟩=>⟨d.kIn,?_⟩) he c];rwa[JH F i m n o d r q]
end
def PK(X:Cx)(kws:List Keyword)(t:TA):Prop :=
 ∀(pos:Pos) (pins:T1) (s:Shared) (σ:St) (H:Hp) (Q:T6->Hp->Prop),ax X pins σ H s->t σ H Q->wpAny (model X.p X.w) X.A (evalAll ((backToKw pos (keywordEach kws X.u)).map (·.2))) (AP X pins σ Q) X.xe s
section
def w5:PK X [] BX:=λ_ _ _ _ H Q I h=>wpAny_evalAll_nil ⟨[],H,I,.nil,h⟩
def w6(ha:PE X e te)(p:PK X kws t):PK X (⟨nm,e,kpos⟩::kws) (BY te t):=by
 intro b a s c H Q I h;show wpAny _ _ (evalAll ((do let v ← eval e X.u;standAt b;pure v)::(backToKw b (keywordEach kws X.u)).map (·.2))) _ _ s;erw[wpAny_evalAll_cons (aa (aU (ha a s c H _ I h) λu d ⟨x,f,g,i,j⟩=>aa (am (ja ?_))))];rwa[aU (p b a d c f _ g j) λq r ⟨xs,l,m,n,o⟩=>⟨x::xs,l,m,.cons i n,o⟩]
end
structure az(N P:T8)(sc:Scope):Prop where
 kind:sc.kind=.function
 co:sc.isCoroutine=false
 gen:sc.isGenerator=false
 nd:N.Nodup
 pre:N.take P.length=P
 par:∀x∈P,sc.names.lookup x=some .local\/sc.names.lookup x=some .cell
 nofree:∀y∈sc.names,y.2≠.free
theorem B0:∀{binds:List (Str×Value)}{m:Str->Ta},(∀v,(x,v) ∉ binds)->bindL a binds m x=m x
 |[],_,_=>rfl
 |(n,v)::r,m,h=>by
  delta bindL;rw[B0 λw b=>h w (ia _ b)];split
  ·have:x≠n:=by rintro rfl;exact h v da
   simp[this]
  ·rfl
theorem B1:∀{binds:List (Str×Value)}{m:Str->Ta},(∀v,(x,v) ∉ binds)->bindC a binds m x=m x
 |[],_,_=>rfl
 |(n,v)::r,m,h=>by
  delta bindC;rw[B1 λw b=>h w (ia _ b)];split
  ·rfl
  ·have:x≠n:=by rintro rfl;exact h v da
   simp[this]
theorem B2:∀{P:T8}{vs:T9}{i:Nat}{m:Str->Ta},P.Nodup->P[i]?=some x->vs[i]?=some v->a x=some .local →
  bindL a (P.zip vs) m x=some v
 |[],_,_,_,_,h,_,_=>by simp at h
 |_::_,[],_,_,_,_,h,_=>by simp at h
 |p::P,w::vs,0,m,d,b,c,e=>by
  simp at b c;subst b;subst c;show bindL a ((p,w)::P.zip vs) m p=_;delta bindL;rw[B0 λv f=>(se.mp d).1 (kt f).1,la e];simp
 |p::P,w::vs,i+1,m,d,b,c,e=>by
  show bindL a ((p,w)::P.zip vs) m x=_;delta bindL;rwa[B2 (i:=i) (se.mp d).2 (by simpa using b) (by simpa using c) e]
theorem B3:∀{P:T8}{vs:T9}{i:Nat}{m:Str->Ta},P.Nodup->P[i]?=some x->vs[i]?=some v->a x≠some .local →
  bindC a (P.zip vs) m x=some v
 |[],_,_,_,_,h,_,_=>by simp at h
 |_::_,[],_,_,_,_,h,_=>by simp at h
 |p::P,w::vs,0,m,d,b,c,e=>by
  simp at b c;subst b;subst c;show bindC a ((p,w)::P.zip vs) m p=_;delta bindC;rw[B1 λv f=>(se.mp d).1 (kt f).1,wa e];simp
 |p::P,w::vs,i+1,m,d,b,c,e=>by
  show bindC a ((p,w)::P.zip vs) m x=_;delta bindC;rwa[B3 (i:=i) (se.mp d).2 (by simpa using b) (by simpa using c) e]
noncomputable def jG(N:T8)(vs:T6):St:=vs.map some++replicate (N.length - vs.length) none
noncomputable def c0(CX:i4)(P:Program)(w:World)(K:Fg1)(mg:Str->Ta)(base:Heap)(N:T8)(qual:Str)(scope:Scope)(f:Addr)(cd:Value)(A:Around)(outer:Tl)(s:Shared)(H:Hp)(E:XK):Cx where
 p:=P
 w:=w
 K:=K
 mg:=mg
 base:=base
 A:=A.deeper (envOfC qual scope s.heap.objs.size f cd)
 N:=N
 s₀:=s
 H₀:=H
 u:=envOfC qual scope s.heap.objs.size f cd
 outer:=outer
 t:=envOfC qual scope s.heap.objs.size f cd::outer
 ex:=[]
 k:=true
 fn:=λ_=>true
 pn:=[]
 xe:=λe s'=>wpAny (model P w) (A.deeper (envOfC qual scope s.heap.objs.size f cd)) (leaving (envOfC qual scope s.heap.objs.size f cd) e) (λ_ s''=>CX outer H s E e s'') (λe' s''=>CX outer H s E e' s'') s'
def B4{sc:Scope}(h:sc.names.lookup x=some .cell):∃c,(cellsFrom n sc.names []).lookup x=some c:=by
 have q:=cellsFrom_some sc.names n [] (.inl h);rwa[Option.isSome_iff_exists.mp q]
def JI{K:Fg1}{ps:T8}{d:Scope}{A:Around}{s:Shared}{vs:T6}(S:az N ps d)(T:A.handled=none)(m:eQ P w K J base A g s H)(hl:vs.length=ps.length)(r:bD vs L)(x:InCallC s s.heap.objs.size (bindL (envOfC j d s.heap.objs.size f I).kindOf (ps.zip L) λ_=>none) (cellsFrom (s.heap.objs.size+1) d.names []) (bindC (envOfC j d s.heap.objs.size f I).kindOf (ps.zip L) λ_=>none) s1) :
  ax (c0 CX P w K J base N j d f I A g s H E) [] (jG N vs) H s1:=by
 have R:ps.length<=N.length:=by have:=qe length S.pre;rw[de]at this;omega
 have⟨F,X,rfl,M⟩:=x.done;have o:∀b:Addr,b ∉ (c0 CX P w K J base N j d f I A g s H E).ex:=λb z=>absurd (show b∈([]:Tj) from z) 'm'
 refine⟨⟨m.mod,S.kind,rfl,rfl,Nat.le_refl _,λ y z c F l=>?_,λ y hy=>?_,λ y c _ h=>?_,λ _=>T,Around.frames_deeper m.frames,.inr ⟨rfl,rfl⟩,λ b z=>absurd z (o b),m.bs,m.bsz,λ b _ _=>o b,λ b z=>absurd z (o b),m.funs,m.frf⟩,
  rfl,m.bare,Un.kept M,⟨_,x.toInCall.ns,λi y v F l U=>?_⟩,λy c h=>⟨_,x.cell y c h⟩,m.hok.fresh (ib _),λy c h=>?_,λp B=>absurd (show p∈([]:T1) from B) 'm',m.hok.kept M,?_⟩
 ·rwa[name_of_addr x.apart (mem_of_lookup F) (mem_of_lookup l)]
 ·have hy:d.names.lookup y=some .cell\/d.names.lookup y=some .free:=hy
  rcases hy with hy|hy
  ·rwa[B4 hy]
  ·rwa[absurd rfl (S.nofree _ (mem_of_lookup hy))]
 ·rwa[et (x.above y c (mem_of_lookup h))]
 ·have G:i<vs.length:=by
   unfold jG at l;by_cases G:i<vs.length
   ·rwa[G]
   ·rw[af (by simpa using G)]at l
    rw[lg]at l
    split at l <;> cases l
  have ha:vs[i]?=some v:=by
   unfold jG at l;rw[ke (by simpa using G),yc]at l
   cases e:vs[i]? with
   |none=>rw[e]at l;cases l
   |some a=>rw[e]at l;cases l;rfl
  have⟨u,O,Q⟩:=r.get ha
  have B:ps[i]?=some y:=by
   rw[<-S.pre,List.getElem?_take_of_lt 'o'];rwa[F]
  have C:ps.Nodup:=by rw[<-S.pre];rwa[S.nd.sublist (List.take_sublist _ _)]
  erw[⟨u,Q,?_⟩];rcases S.par y (me B) with k|k
  ·rwa[.inl ⟨k,B2 C B O k⟩]
  ·have⟨c,e⟩:=B4 (n:=s.heap.objs.size+1) k
   erw[.inr ⟨.inl k,c,e,?_⟩];have q:=x.cell y c e;rw[B3 C B O (by show d.names.lookup y≠_;rw[k];decide)]at q;rwa[q]
 ·rwa[m.hok.fresh (et (x.above y c (mem_of_lookup h)))]
 ·delta jG
  show _=N.length;rw[ma,ba,zj];omega
def B5{K:Fg1}{kV:Value}{ps:T8}(lk:K.lookup f=some ⟨oc,od,.func (fnOf name d h i a Y kV C Z an g ct),R⟩)(T:codeIn K g d=true)(S:az N ps a)(len:∀vs H Q E,sp vs H Q E->vs.length=ps.length)(m:∀ (A:Around) (c:Tl) (s:Shared) (H:Hp) (vs:T6) (Q:VK) (E:XK),aL k (A.deeper (envOfC d a s.heap.objs.size f g))->sp vs H Q E →
   ∃t,bR (c0 CX P w K F base N d a f g A c s H E) i t/\t { nx:=λ_ H'=>Q .non H',rt:=Q } (jG N vs) H) :
  aG P w K F base CX (k+1) f (fnOf name d h i a Y kV C Z an g ct) ps sp:=by
 erw[⟨len,λA c s H U us vs Q E G p hb r z=>?_⟩];have hl:=len _ _ _ _ z;have X:K.In s.heap:=p.mod.kin.keeps λb o e=>(p.bs b o e).1
 have O:s.heap.NoLimit:=p.mod.nolimit.keeps λb o e=>(p.bs b o e).1
 have l:∀y∈ps.zip us,a.names.lookup y.1=some .local\/(a.names.lookup y.1=some .cell/\((cellsFrom (s.heap.objs.size+1) a.names []).lookup y.1).isSome=true):=λ⟨n,v⟩ hy=>by
  rcases S.par n (kt hy).1 with q|q
  ·rwa[.inl q]
  ·rwa[.inr ⟨q,cellsFrom_some _ _ _ (.inl q)⟩]
 erw[codeAny_call_function G.depth (X _ _ lk) rfl S.co S.gen rfl (PySem.W.codeRec_of X T) (hb _ _ _ _ ?_)]
 erw[wpAny_newFunctionEnv_cells S.kind l λenv he s1 x=>?_]
 subst he;erw[⟨O.keeps x.toInCall.keep,codeAny_func ?_⟩];have⟨t,ht,hq⟩:=m A c s H vs Q E (G.deeper _) z;have I:ax (c0 CX P w K F base N d a f g A c s H E) [] (jG N vs) H s1:=JI S G.hd p hl r x;erw[gf (ht [] s1 (jG N vs) H _ I hq) (λfl L hs=>?_) λe L hs=>hs]
 have B:∀{j:St} {H':Hp} {v:V} {u:Value},ax (c0 CX P w K F base N d a f g A c s H E) [] j H' L->bj v u->Q v H'->CE c P w H s Q u L :=
  λ{j H' v u} J M q=>⟨v,H',J.os,J.bare,J.base,J.hok,M,q⟩
 cases fl with
 |ret u =>
  have⟨v,j,H',J,M,q⟩:=hs;rwa[B J M q]
 |next =>
  have⟨j,H',J,q⟩:=hs;rwa[B (v:=V.non) (u:=Value.none) J rfl q]
 |brk =>
  have⟨_,_,_,q⟩:=hs;rwa[elim q]
 |cont =>
  have⟨_,_,_,q⟩:=hs;rwa[elim q]
section
variable {X:Cx}{id:String}
def uz(r:T6->Hp->VK->Prop)(t:TA):TE:=λσ H Q=>t σ H λvs H1=>r vs H1 Q
def nI(n:dI X (.builtin id) r)(o:Gl X x)(hm:X.mg x=none)(q:bootBuiltins x=some (.builtin id))(ha:PA X (e::es) t)(hn:x ≠ "__name__":=by decide)(b:(x == 'g')=false:=by decide)(he:W1 X (e::es) e es:=by rfl)(c:W2 X pos es:=by rfl):PE X (.Call (.Name x p) (e::es) [] pos) (uz r t):=by
 intro a s d H Q I h;erw[dg (kF I o hm q ?_ hn b)];rwa[qo (aU (ha pos a s d H _ I h) λf g ⟨vs,i,j,l,m⟩=>n a g d i vs f Q j l m) he c]
def w9(n:dI X (.type T) r)(o:Gl X x)(hm:X.mg x=none)(q:bootBuiltins x=some (.type T))(ha:PA X (e::es) t)(hn:x ≠ "__name__":=by decide)(b:(x == 'g')=false:=by decide)(he:W1 X (e::es) e es:=by rfl)(c:W2 X pos es:=by rfl):PE X (.Call (.Name x p) (e::es) [] pos) (uz r t):=by
 intro a s d H Q I h;erw[dg (kF I o hm q ?_ hn b)];rwa[xh (aU (ha pos a s d H _ I h) λf g ⟨vs,i,j,l,m⟩=>n a g d i vs f Q j l m) he c]
end
end L2
namespace HT
open PySem PyProof.Rows
section
open PySem.SeqAt
open PySem.AutoSeq1 (wpAny_loadPart')
open PySem.MeetsSeq PySem.MeetsSeq2 PySem.MeetsSeq3
end
section
variable {s:Shared}
noncomputable def sIx(n d:Nat):Tc->Nat
 |none=>d
 |some v=>if v<0 then (v+(n:Int)).toNat else min v.toNat n
def sIx_none(n d:Nat):sIx n d none=d:=rfl
def sIx_nat(n d k:Nat):sIx n d (some (k:Int))=min k n:=by
 show (if (k:Int)<0 then ((k:Int)+(n:Int)).toNat else min (k:Int).toNat n)=min k n;rw[wa 'o',ai]
def JJ(n d:Nat)(b:d<=n)(o:Tc):sIx n d o<=n:=by
 cases o with
 |none=>rwa[b]
 |some v =>
  show (if v<0 then (v+(n:Int)).toNat else min v.toNat n)<=n;by_cases a:v<0
  ·rw[la a];omega
  ·rw[wa a];rwa[ir _ _]
def B6(v:Int)(n d:Nat):(if v<0 then max (v+(n:Int)) 0 else min v (n:Int))=((sIx n d (some v):Nat):Int):=by
 show (if v<0 then max (v+(n:Int)) 0 else min v (n:Int))=(((if v<0 then (v+(n:Int)).toNat else min v.toNat n):Nat):Int);by_cases a:v<0
 ·simp only[la a];omega
 ·simp only[wa a];omega
def JK(a b:Tc)(n:Nat):Builtin.Slice.sliceAdjust a b 1 (n:Int)=(((sIx n 0 a:Nat):Int),((sIx n n b:Nat):Int)):=by
 have c:¬((1:Int)<0):=by omega
 delta Builtin.Slice.sliceAdjust;simp only[c,qg];erw[jq ?_ ?_]
 ·cases a with
  |none=>rfl
  |some v=>rwa[B6 v n 0]
 ·cases b with
  |none=>rfl
  |some v=>rwa[B6 v n n]
def JL(i j:Nat):Builtin.Slice.slicePlaces (i:Int) (j:Int) 1=j - i:=by
 delta Builtin.Slice.slicePlaces;have a:(1:Int) > 0:=by omega
 simp only[a,jp,Int.ediv_one]
 split <;> omega
def B7(p:IsPart v o)(h:Q o s):wpAny (model prog w) A (Builtin.Slice.slicePartIndex v) Q E s:=by
 cases p with
 |none=>rwa[slicePart_none h]
 |int i t=>rwa[slicePart_int h]
def B8{Q:Int×Int×Nat->Shared->Prop}(hs:s.heap.IsSliceOf sl e f .none)(i:IsPart e a)(j:IsPart f d)(h:Q (((sIx n 0 a:Nat):Int),1,sIx n n d - sIx n 0 a) s):wpAny (model prog w) A (Builtin.Slice.sliceApplied (.ref sl) (pure (n:Int))) Q E s:=by
 have⟨os,b,g,c⟩:=id hs;delta Builtin.Slice.sliceApplied Builtin.Slice.sliceFields;erw[aa (aa (vh b c (x:=e) rfl (aa (vh b c (x:=f) rfl (aa (vh b c (x:=.none) rfl (ja ?_)))))))];erw[aa (slicePart_none ?_)];show wpAny _ _ (if ((1:Int) == 0)=true then _ else _) _ _ s;rw[wa 'd'];erw[aa (B7 i (aa (B7 j (aa (ja ?_)))))];show wpAny _ _ (match Builtin.Slice.sliceAdjust a d 1 (n:Int) with|(a,d)=>pure (a,(1:Int),Builtin.Slice.slicePlaces a d 1)) _ _ s;rw[JK a d n];show wpAny _ _ (pure (((sIx n 0 a:Nat):Int),(1:Int),Builtin.Slice.slicePlaces ((sIx n 0 a:Nat):Int) ((sIx n n d:Nat):Int) 1)) _ _ s;rw[JL];rwa[ja h]
def JM(xs:Tf)(i k:Nat):((range k).filterMap λ(m:Nat)=>xs[((i:Int)+(m:Int) * 1).toNat]?).toArray=((xs.toList.drop i).take k).toArray:=by
 have e:(λ(m:Nat)=>xs[((i:Int)+(m:Int) * 1).toNat]?)=λm=>xs[i+m]?:=by
  funext m
  have:((i:Int)+(m:Int) * 1).toNat=i+m:=by omega
  rw[this]
 rw[e]
 have:=pick_run xs i k
 rw[List.filterMap_map]at this;have e2:((λx=>xs[x]?) ∘ λx=>i+x)=λm=>xs[i+m]?:=rfl
 rw[e2]at this;rw[this]
def getItem_tuple_cut(d:IsTup s.heap t items)(hs:s.heap.IsSliceOf sl j l .none)(o:IsPart j b)(p:IsPart l c)(r:¬(sIx items.size 0 b=0/\sIx items.size items.size c=items.size))(h:Q (.ref s.heap.objs.size) { s with heap:=s.heap.push { cls:=.type "tuple",data:=.seq ((items.toList.drop (sIx items.size 0 b)).take (sIx items.size items.size c - sIx items.size 0 b)).toArray } })(hsz:items.size<=sizeLine):wpAny (model prog w) A (getItem (.ref t) (.ref sl)) Q E s:=by
 have a:sizeOk (.seq ((items.toList.drop (sIx items.size 0 b)).take (sIx items.size items.size c - sIx items.size 0 b)).toArray):=by
  show ((items.toList.drop (sIx items.size 0 b)).take (sIx items.size items.size c - sIx items.size 0 b)).toArray.size<=sizeLine;rw[xa,de,pj,xf];omega
 have u:sIx items.size items.size c<=items.size:=JJ _ _ (ib _) c;have⟨os,e,f,n⟩:=id hs;have g:s.TypeIs (.ref sl) "slice":=⟨os,e,f⟩
 delta getItem
 try with_reducible refine ve ?_
 first|refine aa (ja ?_)|skip
 erw[aa (wpAny_sequenceKey d.typeIs 'd' ?_)]
 refine wpAny_bind (wpAny_callSpecial?_slot (name:=ofString "__getitem__") d.typeIs PyProof.Rows.slot_tuple_getitem
  (il wf d.typeIs entry_tuple_getitem ?_ (args_tuple_getitem _ _)))
 show wpAny _ _ (Builtin.Tuple.tupleItemsOf (.ref t) >>= _) _ _ s;erw[aa (tupleItemsOf_ d ?_)];erw[aa (ao g ?_)];rw[la 'd'];erw[aa (B8 hs o p ?_)]
 have i:¬((((sIx items.size 0 b:Nat):Int) == 0 && (1:Int) == 1 && (sIx items.size items.size c - sIx items.size 0 b) == items.size)=true):=by
  intro q;rw[pb,pb]at q;have v:((sIx items.size 0 b:Nat):Int)=0:=eq_of_beq q.1.1;have x:sIx items.size items.size c - sIx items.size 0 b=items.size:=eq_of_beq q.2;rwa[r ⟨'o','o'⟩]
 show wpAny _ _ (if (((sIx items.size 0 b:Nat):Int) == 0 && (1:Int) == 1 && (sIx items.size items.size c - sIx items.size 0 b) == items.size)=true then _ else _) _ _ s;rw[wa i,JM]
 first
  |exact aa (m:=Builtin.Tuple.tupleExact _) (pf (ja ⟨_,rfl,ja h⟩) a)
  |rwa[aa (m:=Builtin.Tuple.tupleExact _) (pf (aa (ja (ja ⟨_,rfl,ja h⟩))) a)]
  |rwa[aa (aa (m:=Builtin.Tuple.tupleExact _) (pf (ja (ja ⟨_,rfl,ja h⟩)) a))]
  |rwa[aa (aa (m:=Builtin.Tuple.tupleExact _) (pf (ja ⟨_,rfl,ja h⟩) a))]
end
end HT
namespace L2
open PySem PySem.Spec PyProof.Rows
abbrev TO:=St->Hp->(Tc->Hp->Prop)->Prop
def PO(X:Cx)(e:Option Expr)(t:TO):Prop :=
 ∀(pins:T1) (s:Shared) (σ:St) (H:Hp) (Q:Tc->Hp->Prop),ax X pins σ H s->t σ H Q →
  wpAny (model X.p X.w) X.A (evalPart e X.u) (λu s'=>∃o H',ax X pins σ H' s'/\IsPart u o/\Q o H') X.xe s
def JN:TO:=λ_ H Q=>Q none H
section
variable {X:Cx}{lo hi:Option Expr}
def JO:PO X none JN:=by
 intro a s b H Q I h;rw[evalPart_none];rwa[ja ⟨none,H,I,.none,h⟩]
def iF(X:Cx)(r:V->Tc->Tc->Hp->VK->Prop):Prop :=
 ∀(pins:T1) (s:Shared) (σ:St) (H:Hp) (x:V) (v a b:Value) (lo hi:Tc) (sl:Addr) (Q:VK),ax X pins σ H s->bj x v->s.heap.IsSliceOf sl a b .none->IsPart a lo->IsPart b hi->r x lo hi H Q →
  ∃T id,typeLookup (.type T) "__getitem__" = pure (some (.builtin id))/\s.TypeIs v T/\wpAny (model X.p X.w) X.A (getItem v (.ref sl)) (EP X pins σ Q) X.xe s
def iF.or(h:iF X r)(h':iF X i):iF X (λx lo hi H Q=>r x lo hi H Q\/i x lo hi H Q):=by
 intro a s b H x v c d lo hi sl Q I e hs f g q;rcases q with q|q
 ·rwa[h a s b H x v c d lo hi sl Q I e hs f g q]
 ·rwa[h' a s b H x v c d lo hi sl Q I e hs f g q]
def JP(r:V->Tc->Tc->Hp->VK->Prop)(te:TE)(tl th:TO):TE:=λσ H Q=>te σ H λx H1=>tl σ H1 λl H2=>th σ H2 λu a=>r x l u a Q
def JQ(O:iF X r)(he:PE X e te)(hl:PO X lo tl)(P:PO X hi th):PE X (.Subscript e (.Slice lo hi none p2) pos) (JP r te tl th):=by
 intro a s d H Q I h;erw[Subscript_ (aU (he a s d H _ I h) λv j ⟨x,m,n,o,p⟩=>?_)];erw[wpAny_Slice (aU (hl a j d m _ n p) λf y ⟨l,z,B,C,E⟩=>aU (P a y d z _ B E) λg c ⟨u,i,F,G,J⟩=>?_)];rw[evalPart_none];erw[ja ?_];have N:ax X a d i { c with heap:=c.heap.push { cls:=.type "slice",data:=.fields #[f,g,.none] } }:=F.kept (t':=c.toks) λb R q=>na _ q
 have⟨T,id,K,L,M⟩:=O a { c with heap:=c.heap.push { cls:=.type "slice",data:=.fields #[f,g,.none] } } d i x v f g l u c.heap.objs.size Q N o (Heap.IsSliceOf.new ..) C G J;show wpAny (model X.p X.w) X.A (subscriptTail e (.Slice lo hi none p2) v (.ref c.heap.objs.size)) (EP X a d Q) X.xe { c with heap:=c.heap.push { cls:=.type "slice",data:=.fields #[f,g,.none] } };rwa[tail_any (ops:=[.ref c.heap.objs.size,v]) L K M (by with_unfolding_all rfl)]
noncomputable def jH(xs:T6)(lo hi:Tc):T6:=(xs.drop (HT.sIx xs.length 0 lo)).take (HT.sIx xs.length xs.length hi - HT.sIx xs.length 0 lo)
def B9(xs:T6)(a b:Tc):(jH xs a b).length<=xs.length:=by
 delta jH;rw[de,pj];omega
def JR(K:Fg1):V->Tc->Tc->Hp->VK->Prop:=λx lo hi H Q=>∃a xs,x=.ref a/\cZ K H a xs ∧
 ¬(HT.sIx xs.length 0 lo=0/\HT.sIx xs.length xs.length hi=xs.length)/\∀p,H p=none->Q (.ref p) (aI H p (.tup (jH xs lo hi)))
def JS:iF X (JR X.K):=by
 intro f s u H x v w y d e sl Q I i hs j l h;have⟨a,xs,rfl,m,n,q⟩:=h;cases i;have⟨its,r,g,hz⟩:=I.tuple m;have c:its.toArray.size=xs.length:=by rw[xa];rwa[r.length.symm]
 erw[⟨"tuple",_,wf.lookup,g.typeIs,?_⟩];erw[HT.getItem_tuple_cut g hs j l (by rw[c];rwa[n]) ?_ (by rw[c];rwa[hz])];rw[c];erw[⟨.ref s.heap.objs.size,_,I.laid (t':=s.toks) (o:=.tup (jH xs d e)) (λb p q=>na _ q) (ib _) ?_,rfl,q _ (I.hok.fresh (ib _))⟩];exact⟨zc (B9 xs d e) hz,_,(r.drop (HT.sIx xs.length 0 d)).take (HT.sIx xs.length xs.length e - HT.sIx xs.length 0 d),IsTup.new _ _⟩
end
noncomputable def iG(n:Nat)(i:Int):Option Nat:=if 0<=i then (if i<n then some i.toNat else none) else if -(n:Int)<=i then some (i+n).toNat else none
def d1{α:Type}(xs:List α)(i:Int):Option α:=(iG xs.length i).bind λj=>xs[j]?
def Ca(h:iG n i=some j):seqIndex? i n=some j/\j<n /\ -(n:Int)<=i/\i<n:=by
 unfold iG at h;by_cases b:0<=i
 ·rw[la b]at h
  by_cases a:i<n
  ·rw[la a]at h
   have e:i.toNat=j:=md h;exact⟨by rw[seqIndex_of b a,e],'o','o',a⟩
  ·rw[wa a]at h;cases h
 ·rw[wa b]at h
  by_cases a:-(n:Int)<=i
  ·rw[la a]at h
   have e:(i+n).toNat=j:=md h;exact⟨by rw[seqIndex_neg 'o' a,e],'o',a,'o'⟩
  ·rw[wa a]at h;cases h
def xt(h:d1 xs i=some v):∃j,seqIndex? i xs.length=some j/\xs[j]?=some v/\j<xs.length /\ -(xs.length:Int)<=i/\i<xs.length:=by
 unfold d1 at h
 cases e:iG xs.length i with
 |none=>rw[e]at h;cases h
 |some j =>
  rw[e]at h;have⟨b,c,d,f⟩:=Ca e;exact⟨j,b,h,c,d,f⟩
def kG{j:Nat}(h:xs[j]?=some v):d1 xs (j:Int)=some v:=by
 have b:j<xs.length:=(qa.mp h).1
 have e:iG xs.length (j:Int)=some j:=by
  delta iG;rw[la 'o',la 'o'];simp
 delta d1;rw[e];rwa[h]
def Cb(b:Expr):Prop:=∀o i,subscripted b false o i=operate [o,i] (getItem o i)
def g6(X:Cx)(r:R2):Prop :=
 ∀(value a:Expr) (pins:T1) (s:Shared) (σ:St) (H:Hp) (x y:V) (v u:Value) (Q:VK),ax X pins σ H s->bj x v->bj y u->r x y H Q →
  subscripted a false v u=operate [v,u] (getItem v u)->wpAny (model X.p X.w) X.A (subscriptTail value a v u) (EP X pins σ Q) X.xe s
def iH(X:Cx)(id:String)(r:V->T6->Hp->VK->Prop):Prop :=
 ∀(pins:T1) (s:Shared) (σ:St) (H:Hp) (x:V) (xs:T6) (v:Value) (a:T9) (Q:VK),ax X pins σ H s->bj x v->bD xs a->r x xs H Q →
  wpAny (model X.p X.w) X.A (call (.builtin id) (v::a)) (EP X pins σ Q) X.xe s
section
variable {X:Cx}{a b:Expr}
def g6.or(h:g6 X r)(h':g6 X g):g6 X (λx y H Q=>r x y H Q\/g x y H Q):=by
 intro a b c s d H x y v u Q I e f q hs;rcases q with q|q
 ·rwa[h a b c s d H x y v u Q I e f q hs]
 ·rwa[h' a b c s d H x y v u Q I e f q hs]
def JT(l:g6 X r)(ha:PE X a ta)(m:PE X b tb)(hs:Cb b):PE X (.Subscript a b pos) (rc r ta tb):=by
 intro c s j H Q I h;rwa[Subscript_ (uq ha m I h λv u d x y e f g i q=>l a b c d j e x y v u Q f g i q (hs _ _))]
def JU(K:Fg1):R2:=λx y H Q=>∃p xs i v,x=.ref p/\y=.int i/\bH K H p xs/\d1 xs i=some v/\Q v H
def JV(K:Fg1):R2:=λx y H Q=>∃p xs i v,x=.ref p/\y=.int i/\cZ K H p xs/\d1 xs i=some v/\Q v H
def JW:R2:=λx y H Q=>∃z i c,x=.str z/\y=.int i/\z.length<=sizeLine/\d1 z.cps.toList i=some c/\Q (.str ⟨#[c]⟩) H
def JX:g6 X (JU X.K):=by
 intro d e a s m H x y v u Q I B C h hs;have⟨p,xs,i,z,rfl,rfl,E,he,q⟩:=h;cases B;have⟨t,rfl⟩:=C;have⟨its,r,f,hz⟩:=I.list E;have⟨j,c,F,L,G,J⟩:=xt he;have⟨w,n,g⟩:=r.get F;have hl:=r.length;have hn:=nF;have b:EP X a m Q w s:=⟨z,H,I,g,q⟩
 by_cases o:0<=i
 ·have l:i.toNat=j:=by
   rw[seqIndex_of o J]at c;rwa[md c]
  rwa[item_listR f.isList o 'o' (by rw[l];simpa using n) b hs]
 ·have l:(i+(its.toArray.size:Int)).toNat=j:=by
   rw[seqIndex_neg 'o' G]at c;rw[xa,<-hl];rwa[md c]
  exact subscriptTail_builtinR (x:=w) f.isList.typeIs slot_list_getitem.lookup
   (wpAny_getItem_list_neg (Q:=λr A=>r=w/\EP X a m Q r A) f.isList 'o' (by rw[xa] <;> omega) 'o' (by rw[l];simpa using n) ⟨rfl,b⟩) hs
def JY:g6 X (JV X.K):=by
 intro b c a s f H x y v u Q I m n h hs;have⟨p,xs,i,z,rfl,rfl,o,he,q⟩:=h;cases m;have⟨t,rfl⟩:=n;have⟨its,r,g,hz⟩:=I.tuple o;have⟨j,A,B,E,F,G⟩:=xt he;have⟨w,C,d⟩:=r.get B;have hl:=r.length;have hn:=nF;have e:EP X a f Q w s:=⟨z,H,I,d,q⟩
 exact subscriptTail_builtinR (x:=w) g.typeIs slot_tuple_getitem.lookup
  (getItem_tuple (j:=j) (Q:=λr l=>r=w/\EP X a f Q r l) g 'o' 'o' (by rw[xa,<-hl];rwa[A]) (by simpa using C) ⟨rfl,e⟩) hs
def JZ:g6 X JW:=by
 intro a b d s o H x y v u Q I f g h hs;have⟨z,i,c,rfl,rfl,hz,he,q⟩:=h;have⟨t,rfl⟩:=f;have⟨t',rfl⟩:=g;have⟨j,e,l,p,m,n⟩:=xt he;have hl:z.cps.toList.length=z.length:=by simp[Str.length]
 rw[hl]at e m n;have hn:=nF
 exact tail_any (typeIs_str s z t) slot_str_getitem.lookup (getItem_str (c:=c) (by
  have e1:decide (i < -(2 ^ 63:Int))=false:=ac 'o';have e2:decide (i ≥ 2 ^ 63)=false:=ac 'o';rw[e1,e2,Bool.or_false]) (by rw[e];simpa using l) ⟨.str ⟨#[c]⟩,H,I.tok _,⟨_,rfl⟩,q⟩) hs
def J0(its:T9)(n j:Nat)(u:Value):mapSeq (·.setIfInBounds j u) { cls:=.type "list",data:=.seq its.toArray n }={ cls:=.type "list",data:=.seq (its.set j u).toArray n }:=by
 simp[mapSeq]
theorem ax.lst{a:T1}{b:St}{H:Hp}{s:Shared}{p:Addr}{xs:T6}(I:ax X a b H s)(h:H p=some (.lst xs)) :
  ∃(its:T9) (n:Nat),bD xs its/\s.heap.get? p=some { cls:=.type "list",data:=.seq its.toArray n }/\xs.length<=sizeLine:=by
 have⟨z,its,n,r,e⟩:=I.hok p _ h;exact⟨its,n,r,e,z⟩
def ax.lstUpd{a:T1}{s:Shared}{ys:T6}{its its':T9}(I:ax X a c H s)(h:H p=some (.lst xs))(i:s.heap.get? p=some { cls:=.type "list",data:=.seq its.toArray n })(d:f { cls:=.type "list",data:=.seq its.toArray n }={ cls:=.type "list",data:=.seq its'.toArray n' })(r:bD ys its')(hz:ys.length<=sizeLine)(t:Nat) :
  ax X a c (aI H p (.lst ys)) { s with heap:=s.heap.update p f,toks:=t }:=by
 have e:(s.heap.update p f).get? p=some { cls:=.type "list",data:=.seq its'.toArray n' }:=by
  rw[be f i (by rw[d] <;> rfl),d]
 erw[I.write (x:=p) (e:=p) (by rw[h];trivial) 'j' (λb u g q=>(qc _ _ (vf g)).trans q) ⟨_,e⟩ ?_];exact⟨hz,its',n',r,e⟩
def J1:V->V->V->Hp->(Hp->Prop)->Prop:=λo i v H Q=>∃p xs k j,o=.ref p/\i=.int k/\H p=some (.lst xs)/\iG xs.length k=some j/\Q (aI H p (.lst (xs.set j v)))
def J2:BN X J1:=by
 intro a s w H o i v A B u Q I ro x y h;have⟨p,xs,k,j,rfl,rfl,e,z,q⟩:=h;cases ro;have⟨t,rfl⟩:=x;have⟨its,n,r,c,hz⟩:=I.lst e;have⟨b,C,f,g⟩:=Ca z;have hl:=r.length;have hn:=nF
 have l:ax X a w (aI H p (.lst (xs.set j v))) { s with heap:=s.heap.update p (mapSeq (·.setIfInBounds j u)) } :=
  I.lstUpd e c (J0 its n j u) (r.set y j) (by rw[List.length_set];rwa[hz]) s.toks
 by_cases m:0<=k
 ·have d:k.toNat=j:=by
   rw[seqIndex_of m g]at b;rwa[md b]
  rwa[PySem.W.ki_setAt c m 'o' (by rw[xa,<-hl];rwa[g]) (by rw[d];exact⟨_,l,q⟩)]
 ·have d:(k+(its.toArray.size:Int)).toNat=j:=by
   rw[seqIndex_neg 'o' f]at b;rw[xa,<-hl];rwa[md b]
  rwa[PySem.W.ki_setBack c 'o' (by rw[xa,<-hl];rwa[f]) 'o' (by rw[d];exact⟨_,l,q⟩)]
def J3(a b:Tc)(n:Nat):(sliceBounds a b none n).1=((HT.sIx n 0 a:Nat):Int)/\(sliceBounds a b none n).2.1=((HT.sIx n n b:Nat):Int)/\(sliceBounds a b none n).2.2=1:=by
 erw[⟨?_,?_,rfl⟩]
 ·cases a with
  |none=>simp[sliceBounds,HT.sIx]
  |some i =>
   simp only[sliceBounds,HT.sIx,getD_none,show (1:Int) > 0 by decide,jp];by_cases h:i<0
   ·simp only[h,jp] <;> omega
   ·simp only[h,qg] <;> omega
 ·cases b with
  |none=>simp[sliceBounds,HT.sIx]
  |some i =>
   simp only[sliceBounds,HT.sIx,getD_none,show (1:Int) > 0 by decide,jp];by_cases h:i<0
   ·simp only[h,jp] <;> omega
   ·simp only[h,qg] <;> omega
def J4(its:T9)(a b:Tc):slicePick its.toArray a b none=((its.drop (HT.sIx its.length 0 a)).take (HT.sIx its.length its.length b - HT.sIx its.length 0 a)).toArray:=by
 have⟨c,d,e⟩:=J3 a b its.toArray.size;delta slicePick;rw[c,d,e];simp only[sliceRange_one,pick_run,xa] <;> rfl
def J5(K:Fg1):V->Tc->Tc->Hp->VK->Prop:=λx lo hi H Q=>∃a xs,x=.ref a/\bH K H a xs/\∀p,H p=none->Q (.ref p) (aI H p (.lst (jH xs lo hi)))
def J6:iF X (J5 X.K):=by
 intro f s p H x v u w d e sl Q I i hs j l h;have⟨a,xs,rfl,m,q⟩:=h;cases i;have⟨its,r,g,hz⟩:=I.list m;have c:=r.length;erw[⟨"list",_,slot_list_getitem.lookup,g.isList.typeIs,?_⟩];erw[wpAny_getItem_list_slice g.isList hs j l .none 'm' ?_ (by rw[xa] <;> omega)];rw[J4,<-c];erw[⟨.ref s.heap.objs.size,_,I.laid (t':=s.toks) (o:=.lst (jH xs d e)) (λb n q=>na _ q) (ib _) ?_,rfl,q _ (I.hok.fresh (ib _))⟩];exact⟨zc (B9 xs d e) hz,_,0,(r.drop (HT.sIx xs.length 0 d)).take (HT.sIx xs.length xs.length e - HT.sIx xs.length 0 d),bc _ rfl⟩
def d9:V->Bool
 |.non=>true
 |.bl _=>true
 |.int _=>true
 |.str _=>true
 |_=>false
noncomputable def i5:V->V->Bool
 |.non,.non=>true
 |.bl a,.bl b=>a == b
 |.bl a,.int b=>(if a then 1 else 0) == b
 |.int a,.bl b=>a == (if b then 1 else 0)
 |.int a,.int b=>a == b
 |.str a,.str b=>a == b
 |_,_=>false
def Cc(d:bj y u)(c:bj x v)(f:d9 y=true)(e:d9 x=true):SeqAt.EqAt A s u v (i5 y x):=by
 cases y with
 |non =>
  cases d
  cases x with
  |non=>cases c;rwa[ot _]
  |bl b=>cases c;rwa[SeqAt.EqAt.none_bool b]
  |int b=>have⟨t,rfl⟩:=c;rwa[SeqAt.EqAt.none_int b t]
  |str b=>have⟨t,rfl⟩:=c;rwa[SeqAt.EqAt.none_str b t]
  |_=>rwa[absurd (show false=true from e) ua]
 |bl a =>
  cases d
  cases x with
  |non=>cases c;rwa[SeqAt.EqAt.bool_none a]
  |bl b=>cases c;rwa[SeqAt.EqAt.bool_bool a b]
  |int b=>have⟨t,rfl⟩:=c;rwa[SeqAt.EqAt.bool_int a b t]
  |str b=>have⟨t,rfl⟩:=c;rwa[SeqAt.EqAt.bool_str a b t]
  |_=>rwa[absurd (show false=true from e) ua]
 |int a =>
  have⟨t',rfl⟩:=d
  cases x with
  |non=>cases c;rwa[SeqAt.EqAt.int_none a t']
  |bl b=>cases c;rwa[SeqAt.EqAt.int_bool a t' b]
  |int b=>have⟨t,rfl⟩:=c;rwa[SeqAt.EqAt.int_int a t' b t]
  |str b=>have⟨t,rfl⟩:=c;rwa[SeqAt.EqAt.int_str a t' b t]
  |_=>rwa[absurd (show false=true from e) ua]
 |str a =>
  have⟨t',rfl⟩:=d
  cases x with
  |non=>cases c;rwa[SeqAt.EqAt.str_none a t']
  |bl b=>cases c;rwa[SeqAt.EqAt.str_bool a t' b]
  |int b=>have⟨t,rfl⟩:=c;rwa[SeqAt.EqAt.str_int a t' b t]
  |str b=>have⟨t,rfl⟩:=c;rwa[SeqAt.EqAt.str_str a t' b t]
  |_=>rwa[absurd (show false=true from e) ua]
 |_=>rwa[absurd (show false=true from f) ua]
def Ka:dI X (.builtin "len") (λxs H Q=>∃p ys,xs=[.ref p]/\(bH X.K H p ys\/cZ X.K H p ys)/\Q (.int ys.length) H):=by
 intro d s f H xs g Q I r h;have⟨p,ys,rfl,hq,q⟩:=h;have⟨u,rfl,e⟩:=gF r;cases e;have hn:=nF;rcases hq with hq|hq
 ·have⟨its,b,c,hz⟩:=I.list hq
  have a:=b.length;rwa[Calls.call_len_list c.isList (by simp only[xa] <;> omega) ⟨.int ys.length,H,I.tok _,⟨s.toks+1,by rw[xa,a]⟩,q⟩]
 ·have⟨its,b,c,hz⟩:=I.tuple hq
  have a:=b.length;rwa[len_tuple c (by simp only[xa] <;> omega) ⟨.int ys.length,H,I.tok _,⟨s.toks+1,by rw[xa,a]⟩,q⟩]
def Kb:dI X (.builtin "len") (λxs H Q=>∃z,xs=[.str z]/\z.length<=sizeLine/\Q (.int z.length) H):=by
 intro a s b H xs c Q I r h;have⟨z,rfl,hz,q⟩:=h;have⟨u,rfl,t,rfl⟩:=gF r;have hn:=nF;rwa[len_str 'o' ⟨.int z.length,H,I.tok _,⟨_,rfl⟩,q⟩]
def dI.or(h:dI X f r)(h':dI X f d):dI X f (λxs H Q=>r xs H Q\/d xs H Q):=by
 intro a s b H xs c Q I rs q;rcases q with q|q
 ·rwa[h a s b H xs c Q I rs q]
 ·rwa[h' a s b H xs c Q I rs q]
def Kd:dI X (.type "list") (λxs H Q=>∃p ys,xs=[.ref p]/\(bH X.K H p ys\/cZ X.K H p ys)/\∀l,H l=none->Q (.ref l) (aI H l (.lst ys))):=by
 intro f s z H xs B Q I r h;have⟨p,ys,rfl,hq,q⟩:=h;have⟨u,rfl,A⟩:=gF r;cases A
 have g:∀(its:T9),bD ys its->ys.length<=sizeLine->∀(h':Heap) (c:Nat),(∀b y,s.heap.get? b=some y->h'.get? b=some y) →
   h'.get? s.heap.objs.size=some { cls:=.type "list",dict:=none,data:=.seq its.toArray c,slots:=#[] }->EP X f z Q (.ref s.heap.objs.size) { s with heap:=h' }:=λits a hz h' c d e =>
  ⟨.ref s.heap.objs.size,_,I.laid (t':=s.toks) d (ib _) (show cw X.p X.w _ h' _ (.lst ys) from⟨hz,its,c,a,e⟩),rfl,q _ (I.hok.fresh (ib _))⟩
 rcases hq with hq|hq
 ·have⟨its,a,j,hz⟩:=I.list hq
  have i:=a.length;have⟨o,m,v,n,x⟩:=j.isList;rwa[call_list_seq p 'j' m v x (λh' c d e=>g its a hz h' c d e) (by simp only[xa] <;> omega)]
 ·have⟨its,a,j,hz⟩:=I.tuple hq
  have i:=a.length;have⟨o,m,v,n,x⟩:=j;rwa[call_list_seq p (.inr rfl) m v x (λh' c d e=>g its a hz h' c d e) (by simp only[xa] <;> omega)]
def Cd:dI X (.type "tuple") (λxs H Q=>∃p ys,xs=[.ref p]/\((bH X.K H p ys/\∀l,H l=none->Q (.ref l) (aI H l (.tup ys)))\/(cZ X.K H p ys/\Q (.ref p) H))):=by
 intro a s g H xs x Q I r h;have⟨p,ys,rfl,h⟩:=h;have⟨u,rfl,n⟩:=gF r;cases n;rcases h with⟨f,q⟩|⟨f,q⟩
 ·have⟨its,c,d,hz⟩:=I.list f
  have i:=c.length;erw[call_tuple_list d.isList (λh' m=>?_) (by simp only[xa] <;> omega)];have j:ax X a g H { s with heap:=h' }:=I.kept (t':=s.toks) m
  have v:ax X a g (aI H h'.objs.size (.tup ys)) { s with heap:=h'.push { cls:=.type "tuple",data:=.seq its.toArray } } :=
   j.laid (t':=s.toks) (λb o e=>na _ e) (ib _) (show cw X.p X.w _ _ _ (.tup ys) from⟨hz,its,c,IsTup.new _ _⟩)
  exact⟨.ref h'.objs.size,_,v,rfl,q _ (j.hok.fresh (ib _))⟩
 ·have⟨its,c,d,hz⟩:=I.tuple f
  rwa[call_tuple_same d ⟨.ref p,H,I,rfl,q⟩]
def uA(K:Fg1)(T:String)(x:V)(H:Hp):Prop:=match x with
 |.str _=>T = "str"
 |.int _=>T = "int"
 |.ref p=>(T = "list" /\ ∃xs,bH K H p xs)\/(T = "tuple" /\ ∃o,K.lookup p=some o/\o.cls=.type "tuple" /\ o.dict=none) ∨
   (T = "dict" /\ ((∃kvs,H p=some (.dK kvs))\/∃kvs,H p=some (.dT kvs)))\/(T = "set" /\ ∃S n,H p=some (.set S n))
 |_=>False
def Cf(I:ax X f q H s)(r:bj x v)(ty:uA X.K T x H) :
  s.TypeIs v T/\∀a,v=.ref a->∃j,s.heap.get? a=some j/\j.dict=none:=by
 cases x with
 |str z =>
  have⟨t,rfl⟩:=r
  cases (show T = "str" from ty)
  exact⟨typeIs_str s z t,λ_ e=>nomatch e⟩
 |int i =>
  have⟨t,rfl⟩:=r
  cases (show T = "int" from ty)
  exact⟨typeIs_int s i t,λ_ e=>nomatch e⟩
 |ref p =>
  cases r;rcases ty with⟨rfl,xs,l⟩|⟨rfl,o,b,m,g⟩|⟨rfl,b⟩|⟨rfl,S,n,b⟩
  ·have⟨its,_,h,_⟩:=I.list l
   erw[⟨h.isList.typeIs,λa e=>?_⟩];cases e;have⟨o,n,e,c,g,_⟩:=h;exact⟨o,e,g⟩
  ·refine⟨⟨o,I.kIn p o b,m⟩,λa e=>?_⟩
   cases e;exact⟨o,I.kIn _ o b,g⟩
  ·have z:∃o,s.heap.get? p=some o/\o.ExactDict:=by
    rcases b with⟨kvs,b⟩|⟨kvs,b⟩
    ·have⟨_,_,_,_,o,_,_,e,d,_⟩:=I.hok p _ b
     exact⟨o,e,d⟩
    ·have⟨_,_,_,_,o,_,_,e,d,_⟩:=I.hok p _ b
     exact⟨o,e,d⟩
   have⟨o,e,d⟩:=z;erw[⟨⟨o,e,d.1⟩,λa e2=>?_⟩];cases e2;exact⟨o,e,d.2.1⟩
  ·have⟨o,_,_,_,e,d,_⟩:=I.hok p _ b
   erw[⟨⟨o,e,d.1⟩,λa e2=>?_⟩];cases e2;exact⟨o,e,d.2.1⟩
 |_=>rwa[elim ty]
def Ke(K:Fg1)(T:String)(r:V->T6->Hp->VK->Prop)(to:TE):TE:=λσ H Q=>to σ H λx H1=>uA K T x H1/\r x [] H1 Q
def Kf(K:Fg1)(T:String)(r:V->T6->Hp->VK->Prop)(to:TE)(t:TA):TE:=λσ H Q=>to σ H λx H1=>uA K T x H1/\t σ H1 λxs H2=>r x xs H2 Q
variable {apos cpos:Pos}{id:String}
def Kg(q:PlainAttrs T)(d:Slot T name id)(e:typeOf (.builtin id)=pure (.type "method_descriptor"))(hm:iH X id r)(u:PE X o to)(b:attributeBase o name X.u (eval o X.u)=eval o X.u:=by rfl)(c:(apos.endLine == cpos.line)=true:=by rfl):PE X (.Call (.Attribute o name apos) [] [] cpos) (Ke X.K T r to):=by
 intro a s i H Q I h;erw[wpAny_Call_method0_late b c (aU (u a s i H _ I h) λv j ⟨x,l,f,g,ty,m⟩=>?_)];have⟨n,p⟩:=Cf f g ty;exact⟨T,id,q,d,e,n,p,ul rfl (PySem.evalArgs_none (hm a j i l x [] v [] Q f g .nil m))⟩
def xu(G:PlainAttrs T)(f:Slot T name id)(j:typeOf (.builtin id)=pure (.type "method_descriptor"))(hm:iH X id r)(J:PE X o to)(ha:PA X (e::es) t)(c:attributeBase o name X.u (eval o X.u)=eval o X.u:=by rfl)(g:((backTo cpos (starEach (e::es) X.u)).all (λ x=>!x.1) && (backToKw cpos (keywordEach [] X.u)).all (λ x=>x.1.isSome)
   && decide ((e::es).length+([]:List Keyword).length+'e'<30))=true:=by rfl)(d:(apos.endLine == cpos.line)=true:=by rfl)(hs:W1 X (e::es) e es:=by rfl)(b:W2 X cpos es:=by rfl) :
  PE X (.Call (.Attribute o name apos) (e::es) [] cpos) (Kf X.K T r to t):=by
 intro a s i H Q I h;erw[wpAny_Call_method_late c g d rfl (aU (J a s i H _ I h) λv p k=>?_)];have⟨x,q,l,m,ty,u⟩:=k;have⟨E,F⟩:=Cf l m ty;erw[⟨T,id,G,f,j,E,F,?_⟩];have n:=ha cpos a p i q _ l u;rw[hs]at n ⊢;erw[ul (by show (false || (backTo cpos (starEach es X.u)).any (·.1))=false;rw[b] <;> rfl) (qp ?_)];rwa[aU n λw y ⟨vs,z,A,B,C⟩=>hm a y i z x vs v w Q A m B C]
end
def Kh(X:Cx)(id:String)(r:V->T6->Hp->VK->Prop):Prop :=
 ∀(pins:T1) (s:Shared) (σ:St) (H:Hp) (x:V) (xs:T6) (v:Value) (a:T9) (Q:VK),ax X pins σ H s->bj x v->bD xs a->r x xs H Q →
  wpAny (model X.p X.w) X.A (call (.builtin id) (v::a)) (EP X pins σ Q) X.xe s
def bD.one:∀{x:V}{a:T9},bD [x] a->∃u,a=[u]/\bj x u
 |_,_,.cons r .nil=>⟨_,rfl,r⟩
theorem bD.rep(h:bD xs a):∀k:Nat,bD (replicate k xs).flatten (replicate k a).flatten
 |0=>.nil
 |k+1=>by
  rw[ki,ki,je,je];rwa[bD.append h (bD.rep h k)]
theorem Cg(its:T9):∀(k:Nat) (a:T9),
  foldl (λb c=>b++c) a.toArray (replicate k its.toArray)=(a++(replicate k its).flatten).toArray
 |0,a=>'m'
 |k+1,a=>by
  have e:a.toArray++its.toArray=(a++its).toArray:=by simp
  have e2:(a++its)++(replicate k its).flatten=a++(replicate (k+1) its).flatten:=by
   rw[ki,je,qf]
  rw[<-e2,<-Cg its k (a++its),<-e,ki,gk]
section
variable {s:Shared}{xs ys:T6}
def ax.lset{its its':T9}(I:ax X pins σ H s)(c:H l=some (.lst xs))(e:s.heap.get? l=some { cls:=.type "list",data:=.seq its.toArray n })(d:f its.toArray=its'.toArray)(g:bD ys its')(hz:ys.length<=sizeLine) :
  ax X pins σ (aI H l (.lst ys)) { s with heap:=s.heap.update l (mapSeq f),toks:=t' }:=by
 have q:=PySem.IsL.update e f;rw[d]at q;erw[I.write (x:=l) (e:=l) (by rw[c];rwa[trivial]) 'j' (λh u a b=>(qc s.heap (mapSeq f) (vf a)).trans b) ⟨_,q⟩ ?_];exact⟨hz,its',_,g,q⟩
def ax.lnew(I:ax X pins σ H s)(a:bD ys its)(hz:ys.length<=sizeLine) :
  ax X pins σ (aI H s.heap.objs.size (.lst ys)) { s with heap:=s.heap.push { cls:=.type "list",data:=.seq its.toArray },toks:=t' } :=
 I.laid (λ_ _ q=>na _ q) (ib _) ⟨hz,its,0,a,bc _ rfl⟩
theorem ax.fresh(I:ax X pins σ H s):H s.heap.objs.size=none:=I.hok.fresh (ib _)
def ax.lstM(I:ax X pins σ H s)(a:H l=some (.lst xs)):xs.length<=sizeLine/\∃(its:T9) (n:Nat),bD xs its/\xs.length=its.length/\s.heap.get? l=some { cls:=.type "list",data:=.seq its.toArray n }:=by
 have⟨z,its,n,r,e⟩:=I.hok l _ a;exact⟨z,its,n,r,r.length,e⟩
def Ki(h:n<=sizeLine):Builtin.List.listTooLong n=false:=by
 delta Builtin.List.listTooLong;rwa[ac 'o']
end
section
def Ch:V->T6->Hp->VK->Prop:=λx vs H Q=>∃l xs y,x=.ref l/\vs=[y]/\H l=some (.lst xs)/\xs.length<sizeLine/\Q .non (aI H l (.lst (xs++[y])))
def Kj:Kh X "list.append" Ch:=by
 intro a s g H x vs v i Q I c d h;have⟨l,xs,y,rfl,rfl,b,hz,q⟩:=h;cases c;have⟨u,rfl,f⟩:=d.one;have⟨z,its,n,r,hl,e⟩:=I.lstM b;refine iq F.slot_list_append ⟨_,e,rfl⟩ F.entry_list_append (F.args_list_append_2 _ _) (PySem.list_append l its.toArray n u (by rw[xa];omega)) ⟨e,?_⟩;refine⟨.non,_,I.lset (its':=its++[u]) b e 'm' (r.append (.cons f .nil)) ?_,rfl,q⟩;rw[ma,nb];omega
def Kk{a:Type}(xs:List a)(k:Nat):(replicate k xs).flatten.length=k * xs.length:=by
 induction k with
 |zero=>simp
 |succ k b=>rw[ki,je,ma,b,Nat.succ_mul,Nat.add_comm]
end
end L2
namespace Att
open PySem PySem.W PySem.Calls PyProof.Rows
def Kl:∀(ns:Ti) (vs:T9),WellAll P h vs (ns.map WData.int)->IntsAre vs ns:=by
 intro ns
 induction ns with
 |nil =>
  intro vs w;rw[oj]at w;cases w;rwa[.nil]
 |cons n ns c =>
  intro vs w;rw[oa]at w
  cases w with
  |cons a b =>
   cases a;rwa[.cons _ _ (c _ b)]
def Km{l:OpenLaw}(hn:l.most=some n){h:Heap}(c:l.row.toRowW.claim.pre args=true)(m:WellAll P h b args) :
  ∃a vs ns,b=[ref a]/\args=[WData.list (ns.map WData.int)]/\h.get? a=some { cls:=.type "list",data:=.seq vs.toArray }/\IntsAre vs ns/\ns.length<=n:=by
 have j:WShape.hasAll [] args [.list .int]=true:=(pre_splitW c).1;have o:l.pre.holds [] { args:=args }=true:=(pre_splitW c).2;have⟨d,r,rfl,p,s⟩:=hasAllW_cons j;obtain rfl:=hasAllW_nil s;have⟨xs,rfl,u⟩:=hasW_list p;have⟨ns,rfl⟩:=items_int u
 have e:ns.length<=n:=by
  unfold OpenLaw.pre at o
  have g:(WTm.not (.lt (.lit (.int (n:Int))) (.len (.arg 0)))).holds [] { args:=[.list (ns.map .int)] }=true:=by
   have g:=(holds_andW o).1;rw[hn]at g;rwa[g]
  have i:=condW_of g (w_not (w_lt w_lit (w_len_list (w_arg rfl))));rw[ba]at i;erw[uo λq=>?_]
  have v:(n:Int)<((ns.length:Nat):Int):=by omega
  first
   |(rw[db v]at i;exact absurd i 'd')
   |(simp at i;omega)
 cases m with
 |cons w x =>
  cases x
  cases w with
  |list y f=>exact⟨_,_,ns,rfl,rfl,y,Kl ns _ f,e⟩
def Kn(l:OpenLaw)(args:List WData):l.row.toRowW.claim.post args (.bool true) args=true :=
 postW_of (r:=l.row.toRowW) (X:=(true == true))
  (show WShape.has [] (.bool true) .bool=true by first|rfl|decide|simp[WShape.has,WShape.arms,WShape.armsAll])
  (show (WTm.eq .res (.lit (.bool true))).value [] { args:=args,res:=some (.bool true),after:=args }=some (.bool (true == true)) from w_eq_bool (w_res rfl) w_lit) rfl
def attach_call{l:OpenLaw}{d:DefRec}(hn:l.most=some n)(z:d.params.defaults=[])(call:∀ (w:World) (c b:Shared) (m s:Str->Ta) (fa:Addr) (o:Obj) (u p e:Value) (a:Addr) (vs:T9) (ns:Ti),
   Ground q loose [] XP w c m s b.heap->E w b.heap →
   b.heap.get? fa=some o->o.data=.func (docDef d.name d.params d.body d.scope u p e)->b.heap.CodeRec p d.name->m d.name=some (.ref fa) →
   b.heap.get? a=some { cls:=.type "list",data:=.seq vs.toArray }->IntsAre vs ns->ns.length<=n->b.gens=#[] →
   codeAny (model l.prog w) callerA (.call (.ref fa) ⟨[.ref a],[]⟩) (λr s'=>r=.ok (.ret (.bool true))/\OldK b.heap s'.heap/\s'.os=b.os/\AllBare s'.gens) b) :
  WalkO q loose XP E l.row.toRowW d [] (λf vs=>PySem.call f vs):=by
 intro w c b m s G Y fa o u p e H kV I J v hD x K A B as h C L y M;obtain rfl:H=.none:=Dflts.none hD z;obtain rfl:kV=.none:=Dflts.noKw hD;have⟨a,vs,ns,rfl,rfl,i,g,j⟩:=Km hn h y;erw[enter_call (jk (call w c b m s fa o u p e a vs ns G Y I (fd_plain J) v x i g j K) λr s' F=>?_)];have⟨rfl,N,O,P⟩:=F;exact⟨.inl ⟨.bool true,.bool true,[],rfl,λ_=>rfl,.bool true,Kn l _,λ_=>⟨xn,λ_ hm=>(nomatch hm)⟩⟩,N,O,P⟩
end Att
namespace L2
open PySem PySem.Spec PyProof.Rows
theorem xw:∀{vs:T9}{ns:Ti},IntsAre vs ns->bD (ns.map V.int) vs
 |_,_,.nil=>.nil
 |_,_,.cons n t h=>.cons ⟨t,rfl⟩ (xw h)
def xx(H:Hp):Prop:=∀b,H b=none\/∃o xs,H b=some (.frz o (.lst xs))
def Ko{K:Fg1}{s₁:Shared}{vs:T9}{ns:Ti}(Y:K.In s₁.heap)(E:s₁.heap.Ns mainGlobals C)(f:s₁.heap.Ns builtinsNs M)(N:∀x:Str,x ≠ "__name__" -> M x=bootBuiltins x)(G:s₁.heap.NoLimit)(hg:s₁.gens=#[])(ha:s₁.heap.get? a=some { cls:=.type "list",data:=.seq vs.toArray })(Z:IntsAre vs ns)(hl:ns.length<=sizeLine)(hr:aL k callerA)(F:∀base:Heap,K.In base->base.Ns mainGlobals C->aG P w K C base CX k fa X [x] sp)(i:∀(s:Shared) (u:Value),BindsTo s X ⟨[u],[]⟩ [(x,u)])(O:∀H:Hp,xx H->bH K H a (ns.map V.int)->sp [.ref a] H (λv _=>v=.bl true) λ_ _ _=>False)(Q:∀H e s',CX [] H s₁ (λ_ _ _=>False) e s'->False) :
  codeAny (model P w) callerA (.call (.ref fa) ⟨[.ref a],[]⟩) (λr s'=>r=.ok (.ret (.bool true))/\OldK s₁.heap s'.heap/\s'.os=s₁.os/\AllBare s'.gens) s₁:=by
 have U:=xw Z;have y:=Z.length
 have lx:∀H:Hp,xx H->bH K H a (ns.map V.int)->cT P w H s₁.heap->(∀b,H b≠none->b=a)->(H a≠none->K.lookup a=none) →
   codeAny (model P w) callerA (.call (.ref fa) ⟨[.ref a],[]⟩) (λr s'=>r=.ok (.ret (.bool true))/\OldK s₁.heap s'.heap/\s'.os=s₁.os/\AllBare s'.gens) s₁:=by
  intro H R hS j T hK;have c:∀{b:Addr} {o:Obj},s₁.heap.get? b=some o->H b=none->(lD s₁.heap H).get? b=some o:=λe n=>Ik e n
  have I:∀{b:Addr} {o:Obj} {es:Array DictEntry} {ep:Nat},s₁.heap.get? b=some o->o.data=.dict es ep->H b=none:=λ{b o es ep} e d=>by
   cases q:H b with
   |none=>rfl
   |some u =>
    have J:b=a:=T b (by rw[q];simp);subst J;rw[ha]at e;cases e;have d':Data.seq vs.toArray _=Data.dict es ep:=d
    cases d'
  have g:∀{b:Addr} {m:Str->Ta},s₁.heap.Ns b m->(lD s₁.heap H).Ns b m:=λ{b m} ⟨o,es,ep,e,d,r⟩=>⟨o,es,ep,c e (I e d),d,r⟩
  have A:K.In (lD s₁.heap H):=λ b o e=>c (Y b o e) (by
   cases q:H b with
   |none=>rfl
   |some u =>
    have J:b=a:=T b (by rw[q];simp);subst J;rw[hK (by rw[q];simp)]at e;cases e)
  have hM:Mod K C (lD s₁.heap H):=⟨A,g E,⟨M,g f,N⟩,let ⟨mc,h1,h2⟩:=G;⟨mc,g h1,h2⟩⟩
  have e0:eQ P w K C (lD s₁.heap H) callerA [] s₁ H:=⟨rfl,hM,λb o e=>Il e,bx (Ij _ _),trivial,λb f=>absurd (show b∈([]:Tj) from f) 'm',j,.of_eq hg⟩
  erw[jk ((F _ A (g E)).run callerA [] s₁ H ⟨[.ref a],[]⟩ [.ref a] [.ref a] _ _ hr e0 (i s₁ (.ref a)) (.cons rfl .nil) (O H R hS)) λr s' h=>?_]
  cases r with
  |error e=>exact(Q H e s' h).elim
  |ok fl =>
   cases fl with
   |next=>rwa[elim h]
   |brk=>rwa[elim h]
   |cont=>rwa[elim h]
   |ret u =>
    have⟨v,H',os,l,un,p,r',q⟩:=h;have q':v=.bl true:=q;subst q';obtain rfl:u=Value.bool true:=r';erw[⟨rfl,OldK.of_keep λb o e=>?_,os,l⟩]
    cases q:H b with
    |none=>rwa[un.keep b o e q (by intro z;rwa[absurd (show b∈([]:Tj) from z) 'm']) 'm']
    |some u =>
     rcases R b with z|⟨ob,xs,z⟩
     ·rw[q]at z;cases z
     ·have z2:=un.frzs b ob _ z
      have⟨e1,_⟩:=j b _ z;have⟨e2,_⟩:=p b _ z2;rw[e]at e1;cases e1;rwa[e2]
 cases L:K.lookup a with
 |some o =>
  have e:=Y a o L;rw[ha]at e;cases e;erw[lx (λ_=>none) (λ_=>.inl rfl) (.inr ⟨_,vs.toArray,_,L,rfl,rfl,rfl,by rw[xa,y];exact hl,by simpa using U⟩) (λb u z=>by have B:(none:Option HO)=some u:=z;cases B) (λb z=>absurd rfl z) λz=>absurd rfl z]
 |none =>
  erw[lx (λb=>if b=a then some (.frz { cls:=.type "list",data:=.seq vs.toArray } (.lst (ns.map V.int))) else none) (λb=>?_) (.inl (.inr ⟨{ cls:=.type "list",data:=.seq vs.toArray },la rfl⟩)) (λb u z=>?_) (λb z=>?_) λ_=>L]
  ·by_cases f:b=a
   ·rwa[.inr ⟨_,_,la f⟩]
   ·rwa[.inl (wa f)]
  ·by_cases f:b=a
   ·have B:=(la f).symm.trans z
    cases B
    subst f;exact⟨ha,by rw[ba];exact hl,vs,_,U,ha⟩
   ·have B:=(wa f).symm.trans z
    cases B
  ·by_cases f:b=a
   ·rwa[f]
   ·rwa[absurd (wa f) z]
def walk_of{l:PySem.W.OpenLaw}{J:World->Heap->Prop}{d:DefRec}{K:Params->Fg1}{CX:World->i4}{sp:World->Sp}(hn:l.most=some n)(z:n<=sizeLine)(A:d.params.defaults=[])(U:aL k callerA)(X:∀(w:World) (h:Heap),J w h->(K w.params).In h)(F:∀ (w:World) (j:Str->Ta) (fa:Addr) (h:Heap),(K w.params).In h->h.Ns mainGlobals j->j d.name=some (.ref fa) →
   ∃fd:FuncData,(∀(s:Shared) (u:Value),BindsTo s fd ⟨[u],[]⟩ [(x,u)]) ∧
    ∀base:Heap,(K w.params).In base->base.Ns mainGlobals j->aG l.prog w (K w.params) j base (CX w) k fa fd [x] (sp w))(B:∀(w:World) (H:Hp) (a:Addr) (ns:Ti),ns.length<=n->xx H->bH (K w.params) H a (ns.map V.int)->sp w [.ref a] H (λv _=>v=.bl true) λ_ _ _=>False)(C:∀(w:World) (H:Hp) (s:Shared) (e:Value) (y:Shared),CX w [] H s (λ_ _ _=>False) e y->False) :
  PySem.W.WalkO q loose XP J l.row.toRowW d [] (λf vs=>PySem.call f vs):=by
 erw[Att.attach_call hn A λw E m j Z fa o pm cd L a vs ns G Y ho hd M r p i c N=>?_]
 have I:=X w _ Y;have⟨fd,Q,R⟩:=F w j fa _ I G.T.g r;rwa[Ko I G.T.g G.T.b G.T.builtins G.T.nolimit N p i (zc c z) U R Q (λH O P=>B w H a ns c O P) λH e y=>C w H m e y]
abbrev bC:i4:=λ_ _ _ _ _ _=>False
abbrev E0:XK:=λ_ _ _=>False
def Ci:pC bC X E0:=λ_ _ _ _ _ _ _ h=>h.elim
structure ec(K:Fg1)(x qual:Str)(st:Stmt)(f:Addr)(fd:FuncData):Prop where
 ex:∃(oc:Value) (od:Tk) (kV doc pm:Value) (an:Tk) (cdv ct:Value) (osl:Array Ta),
  fd=fnOf x qual (lC st) (fM st) (bw st) .none kV doc pm an cdv ct/\K.lookup f=some ⟨oc,od,.func fd,osl⟩/\codeIn K cdv qual=true
 kp:keepIn K (.ref f)=true
section
variable {K:Fg1}
def ec.ok{st:Stmt}{ps:T8}(F:ec K x b st f i)(S:az N ps (bw st))(len:∀vs H Q E,sp vs H Q E->vs.length=ps.length)(d:∀ (c:Value) (A:Around) (a:Tl) (s:Shared) (H:Hp) (vs:T6) (Q:VK) (E:XK),aL k (A.deeper (envOfC b (bw st) s.heap.objs.size f c))->sp vs H Q E →
   ∃t,bR (c0 bC P w K mg base N b (bw st) f c A a s H E).nox (fM st) t/\t { nx:=λ_ H'=>Q .non H',rt:=Q } (jG N vs) H):aG P w K mg base bC (k+1) f i ps sp:=by
 have⟨o,p,kV,l,r,u,c,v,m,rfl,n,g⟩:=F.ex;erw[B5 n g S len λA a s H vs Q E j e=>?_]
 have⟨t,h,q⟩:=d c A a s H vs Q E j e;exact⟨t,h.nox,q⟩
def ec.binds{st:Stmt}{ps:T8}(F:ec K x a st f j)(h:∀(kV b d:Value) (e:Tk) (c g:Value) (i:T9),i.length=ps.length->bindArgs (fnOf x a (lC st) (fM st) (bw st) .none kV b d e c g) ⟨i,[]⟩=pure (ps.zip i)):dq K j ps []:=by
 have⟨n,o,kV,b,d,e,c,g,l,rfl,p,m⟩:=F.ex;rwa[.all (h kV b d e c g)]
def iI{st:Stmt}{kV:Value}(l:K.lookup f=some ⟨j,m,.func (fnOf x a (lC st) (fM st) (bw st) .none kV d h g b i),e⟩)(c:codeIn K b a=true)(k:keepIn K (.ref f)=true):ec K x a st f (fnOf x a (lC st) (fM st) (bw st) .none kV d h g b i):=⟨⟨j,m,kV,d,h,g,b,i,e,rfl,l,c⟩,k⟩
end
def aQ(H H':Hp):Prop:=∀b o,H b=some o->H' b=some o
def aQ.refl(H:Hp):aQ H H:=λ_ _ h=>h
def aQ.trans(a:aQ H d)(b:aQ d H2):aQ H H2:=λc o h=>b c o (a c o h)
def aQ.free(e:aQ H H')(h:H' l=Option.none):H l=Option.none:=by
 cases q:H l with
 |none=>rfl
 |some o =>
  rw[e l o q]at h;cases h
def aQ.seq{K:Fg1}(e:aQ H H')(h:bH K H a xs):bH K H' a xs:=by
 rcases h with(h|⟨o,h⟩)|h
 ·rwa[.inl (.inl (e _ _ h))]
 ·rwa[.inl (.inr ⟨o,e _ _ h⟩)]
 ·rwa[.inr h]
noncomputable def jX(env:Env)(x:Str)(k:NameKind):NameKind:=if (k == NameKind.free && env.scope.kind == .function && env.kindOf x == some .cell)=true then NameKind.cell else k
theorem Cj:∀(a:List (Str×NameKind)) (x:Str),
  (a.map λ(n,k)=>if (k == NameKind.free && env.scope.kind == .function && env.kindOf n == some .cell) then (n,NameKind.cell) else (n,k)).lookup x=(a.lookup x).map (jX env x)
 |[],_=>rfl
 |(n,k)::r,x=>by
  have d:=Cj (env:=env) r x;show List.lookup x ((if (k == NameKind.free && env.scope.kind == .function && env.kindOf n == some .cell)=true then (n,NameKind.cell) else (n,k))::_)=_
  cases c:x == n with
  |true =>
   have e:x=n:=by simpa using c
   subst e;by_cases b:(k == NameKind.free && env.scope.kind == .function && env.kindOf x == some .cell)=true
   ·rw[la b];simp only[bg,c,zf,jX,la b]
   ·rw[wa b];simp only[bg,c,zf,jX,wa b]
  |false =>
   by_cases b:(k == NameKind.free && env.scope.kind == .function && env.kindOf n == some .cell)=true
   ·rw[la b];simp only[bg,c];rwa[d]
   ·rw[wa b];simp only[bg,c];rwa[d]
def xy(a:Scope)(env:Env)(x:Str):(relabel a env).names.lookup x=(a.names.lookup x).map (jX env x):=Cj _ _
noncomputable def iJ(env:Env):List (Str×NameKind)->List (Str×Addr)->List (Str×Addr)
 |[],a=>a
 |(n,k)::r,a=>iJ env r (if (k == NameKind.free)=true then (n,(env.cells.lookup n).getD 0)::a else a)
def xz(h:∀y∈scope.names,y.2=.free->∃c,env.cells.lookup y.1=some c):closureFor scope env=pure (iJ env scope.names []):=by
 delta closureFor;generalize scope.names=b at h
 have g:∀(b:List (Str×NameKind)) (cs:List (Str×Addr)),(∀y∈b,y.2=.free->∃c,env.cells.lookup y.1=some c) →
   (forIn b cs (λ(x:Str×NameKind) (r:List (Str×Addr))=>match x with|(name,d)=>(if (d == NameKind.free)=true then (do let a ← cellOf env name;pure (ForInStep.yield ((name,a)::r))) else pure (ForInStep.yield r):Sem (ForInStep (List (Str×Addr))))))=pure (iJ env b cs):=by
  intro b
  induction b with
  |nil=>intro cs _;rfl
  |cons y r o =>
   intro cs f;have⟨n,k⟩:=y;rw[List.forIn_cons];by_cases m:k=.free
   ·subst m
    have⟨c,j⟩:=f (n,.free) da rfl;have e1:cellOf env n=pure c:=by delta cellOf;rw[j]
    have e2:=o ((n,c)::cs) λz hz=>f z (ia _ hz)
    have i:iJ env ((n,NameKind.free)::r) cs=iJ env r ((n,c)::cs):=by
     show iJ env r (if (NameKind.free == NameKind.free)=true then (n,(env.cells.lookup n).getD 0)::cs else cs)=_;rw[la (show (NameKind.free == NameKind.free)=true by decide),show env.cells.lookup n=some c from j];rfl
    rw[i,<-e2];simp only[jr,jp,e1];rfl
   ·have l:(k == NameKind.free)=false:=by simpa using m
    have e2:=o cs λz hz=>f z (ia _ hz)
    have i:iJ env ((n,k)::r) cs=iJ env r cs:=by
     show iJ env r (if (k == NameKind.free)=true then (n,(env.cells.lookup n).getD 0)::cs else cs)=_;rw[wa (by rw[l];rwa[ua])]
    rw[i,<-e2];simp only[l,lc,qg];rfl
 have e:=g b [] h;erw[Eq.trans ?_ (Eq.trans (qe (λt:Sem (List (Str×Addr))=>t >>= λr=>pure r) e) ?_)]
 ·rfl
 ·rfl
theorem xA:∀(b:List (Str×NameKind)) (g:List (Str×Addr)),(∀y∈b,y.2=.free->∃c,env.cells.lookup y.1=some c)->(∀x c,g.lookup x=some c->env.cells.lookup x=some c) →
  ∀x c,(iJ env b g).lookup x=some c->env.cells.lookup x=some c
 |[],g,_,i,x,c,h=>i x c h
 |(n,k)::r,g,l,i,x,c,h=>by
  erw[xA r _ (λz hz=>l z (ia _ hz)) (λz d f=>?_) x c h];by_cases j:k=.free
  ·subst j
   have⟨a,ha⟩:=l (n,.free) da rfl;rw[la (show (NameKind.free == NameKind.free)=true by decide),show env.cells.lookup n=some a from ha]at f;rw[bg]at f
   cases hz:z == n with
   |true =>
    have e:z=n:=by simpa using hz
    subst e;rw[hz]at f;rw[ha];rwa[f]
   |false=>rw[hz]at f;rwa[i z d f]
  ·have m:(k == NameKind.free)=false:=by simpa using j
   rw[wa (by rw[m];rwa[ua])]at f;rwa[i z d f]
theorem Ck:∀(a:List (Str×NameKind)) (e:List (Str×Addr)),(a.lookup x=some .free\/∃c,e.lookup x=some c)->∃c,(iJ env a e).lookup x=some c
 |[],e,h=>by
  rcases h with h|h
  ·cases h
  ·rwa[h]
 |(n,k)::r,e,h=>by
  erw[Ck r _ ?_]
  cases d:x == n with
  |true =>
   rcases h with h|⟨c,h⟩
   ·rw[bg,d]at h
    cases h;erw[.inr ⟨(env.cells.lookup n).getD 0,?_⟩]
    rw[la (show (NameKind.free == NameKind.free)=true by decide),bg,d]
   ·by_cases b:(k == NameKind.free)=true
    ·refine .inr ⟨(env.cells.lookup n).getD 0,?_⟩
     rw[la b,bg,d]
    ·rwa[.inr ⟨c,by rw[wa b];rwa[h]⟩]
  |false =>
   rcases h with h|⟨c,h⟩
   ·rw[bg,d]at h
    rwa[.inl h]
   ·refine .inr ⟨c,?_⟩
    by_cases b:(k == NameKind.free)=true
    ·rw[la b,bg,d];rwa[h]
    ·rw[wa b];rwa[h]
noncomputable def rd(X:Cx)(vars:T8)(cap:T7):T8:=vars++cap.map λi=>X.N.getD i ""
noncomputable def fY(n:Nat)(cap:T7)(σ:St):St:=replicate n none++cap.map λi=>(σ[i]?).getD none
def cM(X:Cx)(scope:Scope)(C:Addr)(vars:T8)(cap:T7)(s:Shared)(H:Hp)(ex:Tj):Cx :=
 { X with N:=rd X vars cap,s₀:=s,H₀:=H,u:=compEnvC scope (iJ X.u scope.names []) C X.u,outer:=X.t,t:=X.t,ex:=ex,fn:=λ_=>false,xe:=λ_ _=>False }
structure cy(X:Cx)(scope:Scope):Prop where
 kind:scope.kind=.function
 cell:∀y∈scope.names,y.2≠.cell
 names:∀y∈scope.names,y.2=.local->scope.names.lookup y.1=some .local
 free:∀y∈scope.names,y.2=.free->X.u.kindOf y.1=some .cell\/X.u.kindOf y.1=some .free
section
variable {X:Cx}{pins:T1}{σ:St}{H:Hp}{s:Shared}
def cT.track(x:cT P w H h)(hn:H a=none)(new:cw P w (aI H a o) h a o):cT P w (aI H a o) h:=λb u e=>by
 by_cases d:b=a
 ·subst d;rw[aZ]at e;cases e;rwa[new]
 ·rw[aK d]at e
  exact(x b u e).stay (λc v _ q=>q) (λc q=>by rw[aK (cG q hn)];rwa[q]) λc xs q=>by rw[aK (cG q hn)];rwa[q]
def Un.later(u:Un fs ex H H1 h h1)(hH:∀b o,H b=some o->b<h.objs.size)(k:∀b o,b<h.objs.size->h1.get? b=some o->h2.get? b=some o)(e:∀b,b<h.objs.size->H2 b=H1 b):Un fs ex H H2 h h2 where
 keep:=λb o q n hb hx=>k b o (wb q) (u.keep b o q n hb hx)
 slot:=λb o q n hb hx=>by
  have⟨sl,z⟩:=u.slot b o q n hb hx;exact⟨sl,k b _ (wb q) z⟩
 free:=λb o q n hx=>by rw[e b (wb q)];rwa[u.free b o q n hx]
 there:=λb o q hx=>by
  have⟨o',z⟩:=u.there b o q hx;exact⟨o',k b o' (wb q) z⟩
 tups:=λb xs q=>by rw[e b (hH b _ q)];rwa[u.tups b xs q]
 frzs:=λb o v q=>by rw[e b (hH b _ q)];rwa[u.frzs b o v q]
 tbls:=λb ps q=>by
  have⟨m,z⟩:=u.tbls b ps q;exact⟨m,by rw[e b (hH b _ q)];rwa[z]⟩
theorem cy.cells(S:cy X scope)(I:ax X pins σ H s):∀y∈scope.names,y.2=.free->∃c,X.u.cells.lookup y.1=some c:=λy a b=>I.ok.has y.1 (S.free y a b)
def uB{a:Type}:∀{l:List (Str×a)}{x:Str}{v:a},l.lookup x=some v->(x,v)∈l:=λh=>mem_of_lookup h
def Kp(S:cy X scope)(I:ax X pins σ H s)(A:∀i∈cap,i<X.N.length/\scope.names.lookup (X.N.getD i "")≠some .local)(w:∀b∈fp,jF X pins H b)(T:∀b∈fp,b<s.heap.objs.size)(L:s.heap.objs.size<=C)(J:∀b o,s.heap.get? b=some o->h1.get? b=some o)(hn:h1.Ns C m) :
  ax (cM X scope C vars cap s H fp) pins (fY vars.length cap σ) H { s with heap:=h1,toks:=t' }:=by
 have g:=S.cells I;have s7:=xA (env:=X.u) scope.names [] g (λx c h=>by cases h);have hlt:∀b o,H b=some o->b<s.heap.objs.size:=λb o e=>I.hok.lt e
 have stk:∀b,b∈d8 X.t->b<s.heap.objs.size:=λb f=>by
  rcases cb.mp (I.stkSub b f) with e|e
  ·rw[e];rwa[I.lt]
  ·have⟨_,o,ho,_⟩:=I.ok.funs.mem e
   rwa[xb (wb ho) I.sz]
 have B:∀x,((cM X scope C vars cap s H fp).u.kindOf x=some .cell\/(cM X scope C vars cap s H fp).u.kindOf x=some .free)->scope.names.lookup x=some .free:=λx h=>by
  have h':(scope.names.lookup x).map (jX X.u x)=some .cell\/(scope.names.lookup x).map (jX X.u x)=some .free:=by
   rw[<-xy scope X.u x];rwa[h]
  cases e:scope.names.lookup x with
  |none=>rw[e]at h';rcases h' with z|z <;> cases z
  |some k =>
   have nc:k≠.cell:=S.cell (x,k) (uB e);rw[e]at h';unfold jX at h'
   cases k <;> first|rfl|exact absurd rfl nc|(simp at h')
 have G:(cM X scope C vars cap s H fp).Ok:=by
  refine⟨I.ok.mod,S.kind,I.ok.glob,I.ok.blt,L,λ x y c h1 h2=>I.ok.inj x y c (s7 x c h1) (s7 y c h2),λ x hx=>Ck scope.names [] (.inl (B x hx)),λ x c h=>(Bool.false_ne_true h).elim,I.ok.hd,I.ok.frames,.inl rfl,
   λb f=>⟨?_,λx c h=>(w b f).2.2.2.2.1 x c (s7 x c h)⟩,λb o e=>I.bs b o e,zc I.ok.bsz I.sz,λb o e f=>?_,λb f M=>?_,I.stack,I.stkFree⟩
  ·rwa[vc (xb (T b f) L)]
  ·rcases(w b f).2.2.2.1 with z|z
   ·rwa[I.ok.noex b o e z]
   ·rwa[absurd (xb (wb (I.ok.bs b o e).1) z) (zi _)]
  ·rcases cb.mp (I.stkSub b M) with z|z
   ·exact(w b f).2.1 z
   ·exact(w b f).2.2.1 z
 erw[⟨G,rfl,I.bare,Un.kept J,⟨m,hn,λi x v e1 e2 e3=>?_⟩,λx c e=>?_,I.hok.fresh L,λx c e=>I.freeC x c (s7 x c e),λp hp=>?_,I.hok.kept J,?_⟩]
 ·-- the names of around
  have e1:(rd X vars cap)[i]?=some x:=e1;have a:(relabel scope X.u).names.lookup x=some .local\/(relabel scope X.u).names.lookup x=some .cell\/(relabel scope X.u).names.lookup x=some .free:=e3;unfold fY at e2;by_cases hi:i<vars.length
  ·rw[ke (by simpa using hi),lg]at e2
   split at e2 <;> cases e2
  ·rw[af (by simpa using hi),zj,yc]at e2
   unfold rd at e1;rw[af 'o',yc]at e1
   cases K:cap[i - vars.length]? with
   |none=>rw[K]at e1;cases e1
   |some j =>
    rw[K]at e1 e2;have hj:j<X.N.length:=(A j (me K)).1
    have eN:X.N[j]?=some x:=by
     have z:X.N.getD j "" = x:=md e1;rw[bb]at z
     cases q:X.N[j]? with
     |none=>rw[lq]at q;omega
     |some y=>rw[q]at z;rwa[qe some z]
    have P:σ[j]?=some (some v):=by
     have z:(σ[j]?).getD none=some v:=md e2
     cases q:σ[j]? with
     |none=>rw[q]at z;cases z
     |some y=>rw[q]at z;rwa[qe some z]
    rw[xy]at a
    cases E:scope.names.lookup x with
    |none=>rw[E]at a;rcases a with z|z|z <;> cases z
    |some k =>
     rw[E]at a
     have nl:k≠.local:=λz=>by
      have z0:X.N.getD j "" = x:=md e1;exact(A j (me K)).2 (by rw[z0,E,z])
     have nc:k≠.cell:=S.cell (x,k) (uB E)
     have kf:k=.free:=by
      unfold jX at a
      cases k <;> first|rfl|exact absurd rfl nc|exact absurd rfl nl|(simp at a)
     subst kf
     have Q:gY X.u.scope x:=by
      rcases S.free (x,.free) (uB E) rfl with z|z
      ·rwa[.inr (.inl z)]
      ·rwa[.inr (.inr z)]
     have⟨m0,hn0,O⟩:=I.loc;have⟨u,r,l⟩:=O j x v eN P Q;erw[⟨u,r,.inr ?_⟩]
     have Z:(cM X scope C vars cap s H fp).u.kindOf x=some .cell\/(cM X scope C vars cap s H fp).u.kindOf x=some .free:=by
      show (relabel scope X.u).names.lookup x=some .cell\/(relabel scope X.u).names.lookup x=some .free;rw[xy,E];show some (jX X.u x .free)=some .cell\/some (jX X.u x .free)=some .free;delta jX;split
      ·rwa[.inl rfl]
      ·rwa[.inr rfl]
     have⟨c,U⟩:=G.has x Z;erw[⟨Z,c,U,?_⟩];have R:=s7 x c U;rcases l with⟨Y,_⟩|⟨_,c2,F,z⟩
     ·rcases S.free (x,.free) (uB E) rfl with z|z
      ·have z:X.u.kindOf x=some .cell:=z
       rw[Y]at z;cases z
      ·have z:X.u.kindOf x=some .free:=z
       rw[Y]at z;cases z
     ·rw[R]at F;cases F
      rwa[Heap.IsCell.keeps z J]
 ·have⟨v,z⟩:=I.cell x c (s7 x c e)
  exact⟨v,Heap.IsCell.keeps z J⟩
 ·have⟨e,n,ne,nf,d⟩:=I.pin p hp
  erw[⟨J _ _ e,n,vc (xb (wb e) L),λz=>?_,d⟩];rcases cb.mp (I.stkSub p.1 z) with q|q
  ·rwa[ne q]
  ·rwa[nf q]
 ·delta fY
  show _=(rd X vars cap).length;delta rd;simp
def ax.repin(I:ax X (pins++[(a,o)]) σ H s)(w:∀p∈X.pn++pins,p.1≠a)(y:a∈X.ex\/X.s₀.heap.objs.size<=a)(k:∀b u,b≠a->s.heap.get? b=some u->h'.get? b=some u)(e:h'.get? a=some o')(A:∀v,o'.data≠.cell v) :
  ax X (pins++[(a,o')]) σ H { s with heap:=h',toks:=t' }:=by
 have⟨h,l,d,i,n⟩:=I.pin (a,o) 'm';have r:ax X pins σ H s:=I.unpinned
 have cne:∀x c,X.u.cells.lookup x=some c->c≠a:=λx c q z=>by
  subst z;have⟨v,B,f,j⟩:=I.cell x c q;have h:s.heap.get? c=some o:=h;rw[h]at f;cases f;rwa[n v j]
 have m:ax X pins σ H { s with heap:=h',toks:=t' }:=r.turned (it:=a) k l d y cne w;erw[m.pins_of λp g=>?_]
 rcases jb.mp g with z|z
 ·rwa[m.pin p (gc _ z)]
 ·have z:p=(a,o'):=by simpa using z
  subst z;exact⟨e,l,d,i,A⟩
def ax.pinnew(I:ax X pins σ H s)(e:s.heap.get? a=some o)(hn:H a=none)(c:a≠X.u.locals)(d:a ∉ X.fs)(f:∀v,o.data≠.cell v):ax X (pins++[(a,o)]) σ H s:=by
 erw[I.pins_of λp b=>?_]
 rcases jb.mp b with z|z
 ·rwa[I.pin p (gc _ z)]
 ·have z:p=(a,o):=by simpa using z
  subst z;exact⟨e,hn,c,d,f⟩
def lF(X:Cx)(ifs:Tg)(t:TT):Prop :=
 ∀(pins:T1) (s:Shared) (σ:St) (H:Hp) (Q:Bool->Hp->Prop),ax X pins σ H s->t σ H Q →
  wpAny (model X.p X.w) X.A (forIn ifs true λc r=>if r=true then do let ok ← isTrue c X.u (eval c X.u);pure (ForInStep.yield ok) else pure (ForInStep.yield r)) (TP X pins σ Q) X.xe s
def Kq:TT:=λ_ H Q=>Q true H
def Kr:lF X [] Kq:=λa s b H Q I h=>wpAny_tests_nil ⟨H,I,h⟩
def Ks(h:PT X c t):lF X [c] t:=λa s b H Q I d=>wpAny_tests_one (h a s b H Q I d)
def Kt(I:Nat->Shared->Prop)(turn:∀ n s,I n s->wpAny (model prog w) A (pyNext it) (λ r a=>match r with
   |none=>R (.ok .next) a
   | some v=>wpAny (model prog w) A (letOwnedTupleGo target it v) (λ _ b=>wpAny (model prog w) A (assign target env v) (λ _ e =>
     wpAny (model prog w) A (forIn ifs true λ c r=>if r=true then do let ok ← isTrue c env (eval c env);pure (ForInStep.yield ok) else pure (ForInStep.yield r)) (λ ok d =>
      if ok=true then wpAny (model prog w) A (eval elt env) (λ x f =>
       wpAny (model prog w) A (call (.builtin "list.append") [acc,x]) (λ_ g=>∃m,m<n/\I m g) (λ_ _=>False) f) (notedBy (model prog w) A env λx s'=>R (.error x) s') d
      else ∃m,m<n/\I m d) (λ_ _=>False) e) (λ_ _=>False) b) (λ_ _=>False) a) (λ_ _=>False) s)(n:Nat)(h:I n s) :
  codeAny (model prog w) A (.compLoop (.ListComp elt [⟨target,iter,ifs,0⟩] scope pos) 0 it acc env) R s:=by
 erw[codeAny_loop rfl I (λn s u=>?_) n h];show wpAny _ A ((compTurn (.ListComp elt [⟨target,iter,ifs,0⟩] scope pos) 0 it acc env).onRaise (λx=>do noteFrame x env;theTreesLotGoes x)) _ _ s;erw[wpAny_noted ?_];rw[compTurn_list];erw[aa (am (aa (gf (turn n s u) (λr a i=>?_) λ_ _ h'=>h'.elim)))]
 cases r with
 |none=>rwa[ja i]
 |some v =>
  erw[aa (gf i (λ_ b l=>?_) λ_ _ h'=>h'.elim)];erw[aa (gf l (λ_ e o=>aa (gf o (λok d j=>?_) λ_ _ h'=>h'.elim)) λ_ _ h'=>h'.elim)]
  cases ok with
  |false=>rwa[ja ⟨rfl,j⟩]
  |true =>
   rwa[aa (aa (gf j (λx f p=>aa (gf p (λ_ g q=>ja (ja ⟨rfl,q⟩)) λ_ _ h'=>h'.elim)) λ_ _ h'=>h'))]
end
def Sub(σ a:St):Prop:=a.length=σ.length/\∀(i:Nat) v,σ[i]?=some (some v)->a[i]?=some (some v)
def uC(J:It)(g:TG)(tt:TT)(te:TE)(c:St)(Q:T6->Hp->Prop)(H1:Hp):Prop :=
 ∃W:Nat->Nat->T6->Hp->Prop,(∃m,W 0 m [] H1)/\∀i m ys H,W i m ys H →
  (J.stop i H/\Q ys H)\/(J.go i H/\ys.length<sizeLine/\∃ N:T6->Hp->Prop,(∀ d H',N d H'->∃ f,f<m/\W (i+1) f d H') ∧
   ∀x H',J.yld i H x H'->g x c H' λa H2=>Sub c a/\tt a H2 λb e=>if b=true then te a e λy h=>N (ys++[y]) h else N ys e)
def xB(wi:TI)(g:TG)(tt:TT)(te:TE)(n:Nat)(cap:T7):TE:=λσ H Q=>wi σ H λJ H1 =>
 uC J g tt te (fY n cap σ) (λys H'=>ys.length<=sizeLine/\∀D,H' D=none->Q (.ref D) (aI H' D (.lst ys))) H1
noncomputable abbrev lG(a:T9)(n:Nat):Obj:={ cls:=.type "list",data:=.seq a.toArray n }
section
variable {X:Cx}{scope:Scope}{vars:T8}
def xC{s:Shared}{tn:Nat->Heap->Prop}{Q:T6->Hp->Prop}{RR:Value->Addr->Result->Shared->Prop}{xc:Shared->Hp->Addr->Tj->Value->Shared->Prop}(hc:X.k=true)(S:cy X scope)(hcap:∀i∈cap,i<X.N.length/\scope.names.lookup (X.N.getD i "")≠some .local)(I:ax X f σ H s)(T:g0 X.p X.w X.K tg J G it tn)(st:tn 0 s.heap)(hf:∀b∈G,jF X f H b)(hg:∀s H C ex,PG (cM X scope C vars cap s H ex) tg g)(ht:∀s H C ex,lF (cM X scope C vars cap s H ex) ifs tt)(he:∀s H C ex,PE ((cM X scope C vars cap s H ex).wish (xc s H C ex)) elt te)(hx:∀D C v P,s.heap.objs.size<=C->xc s H C G v P->notedBy (model X.p X.w) X.A (cM X scope C vars cap s H G).u (λx P=>RR (.ref D) C (.error x) P) v P)(hL:uC J g tt te (fY vars.length cap σ) (λys H'=>ys.length<=sizeLine/\Q ys H') H)(fin:∀ (D C:Addr) (ys:T6) (H':Hp) (P:Shared) (m:Str->Ta),Q ys H'->H' D=none->ax X f σ (aI H' D (.lst ys)) P->P.heap.Ns C m->(aI H' D (.lst ys)) C=none->C≠X.u.locals->X.s₀.heap.objs.size<=C →
   (∀x c,X.u.cells.lookup x=some c->c≠C)->(∀p∈X.pn++f,p.1≠C)->RR (.ref D) C (.ok .next) P) :
  wpAny (model X.p X.w) X.A (newList []) (λ acc s₃=>wpAny (model X.p X.w) X.A (newFunctionEnv scope X.u.globals (iJ X.u scope.names []) [] X.u.qual none .none (some X.u)) (λ cenv s₄ =>
   codeAny (model X.p X.w) X.A (.compStart (.ListComp elt [⟨tg,iter,ifs,0⟩] scope pos) 0 (.ref it) acc { cenv with scope:=relabel scope X.u }) (RR acc cenv.locals) s₄) E s₃) E s:=by
 erw[pf (wpAny_newFunctionEnv S.cell (by intro y hy;simp at hy) (λh₁ L l=>?_) S.kind)];dsimp only at L l ⊢;generalize hH2:s.heap.push { cls:=.type "list",dict:=none,data:=.seq ([]:T9).toArray }=H2 at L l ⊢;have hC:H2.objs.size=s.heap.objs.size+1:=by rw[<-hH2,Heap.size_push]
 generalize hCe:H2.objs.size=C at L l hC ⊢;generalize O:s.heap.objs.size=D at hC ⊢;have hDC:D≠C:=by rw[hC];rwa[vc (vo _)]
 have j:∀b,b<s.heap.objs.size->b≠C/\b≠D:=λb B=>by
  rw[O]at B;exact⟨by rw[hC];exact vc (oq B),vc B⟩
 have old:∀b o,s.heap.get? b=some o->h₁.get? b=some o:=λb o e=>l.extBut b o (j b (wb e)).1 (na _ (hH2 ▸ na _ e))
 have hacc:h₁.get? D=some (lG [] 0):=l.extBut _ _ hDC (na _ (by rw[<-hH2,<-O];rwa[bc _ rfl]));have R:s.heap.objs.size<=C:=by rw[hC,<-O];rwa[sx _]
 have hob:∀b∈G,b<s.heap.objs.size:=λb B=>by
  have⟨o,e,_⟩:=T.obj 0 _ st b B;rwa[wb e]
 have I0:ax (cM X scope C vars cap s H G) f (fY vars.length cap σ) H { s with heap:=h₁,toks:=s.toks+([]:List (Str×Value)).length }:=Kp S I hcap hf hob R old L
 have stkb:∀b,b∈d8 X.t->b<s.heap.objs.size:=λb B=>by
  rcases cb.mp (I.stkSub b B) with e|e
  ·rw[e];rwa[I.lt]
  ·have⟨_,o,ho,_⟩:=I.ok.funs.mem e
   rwa[xb (wb ho) I.sz]
 have s7:=xA (env:=X.u) scope.names [] (S.cells I) (λx c h=>by cases h);have hDfs:D ∉ (cM X scope C vars cap s H G).fs:=λz=>absurd (stkb D z) (by rw[O];rwa[zi _])
 have hHD:H D=none:=I.hok.fresh (by rw[O];rwa[ib _]);have I1:=I0.pinnew (a:=D) hacc hHD hDC hDfs (λv z=>by cases z);have pnD:∀p∈(cM X scope C vars cap s H G).pn++f,p.1≠D:=λp hp=>vc (by rw[<-O];rwa[wb (I.pin p hp).1])
 have U:∀{M:T9} {n:Nat} {H':Hp},(∀b∈G,H' b=none)->∀b∈G,jF (cM X scope C vars cap s H G) (f++[(D,lG M n)]) H' b:=λ{M n H'} hn b B=>by
  have⟨f0,f1,f2,f3,f4,f5⟩:=hf b B;erw[⟨hn b B,(j b (hob b B)).1,λz=>?_,.inl B,λx c e=>f4 x c (s7 x c e),λp hp=>?_⟩]
  ·rcases cb.mp (I.stkSub b z) with q|q
   ·rwa[f1 q]
   ·rwa[f2 q]
  ·have hp:p∈X.pn++(f++[(D,lG M n)]):=hp
   rw[<-qf]at hp;rcases jb.mp hp with q|q
   ·rwa[f5 p q]
   ·have q:p=(D,lG M n):=by simpa using q
    subst q;rwa[λz=>(j b (hob b B)).2 z.symm]
 have st1:tn 0 h₁:=T.keep 0 _ _ st λb _ o e=>old b o e
 have⟨W,⟨m0,w0⟩,turn⟩:=hL
 have loop:∀s₃:Shared,s₃={ s with heap:=h₁,toks:=s.toks+([]:List (Str×Value)).length } →
   codeAny (model X.p X.w) X.A (.compLoop (.ListComp elt [⟨tg,iter,ifs,0⟩] scope pos) 0 (.ref it) (.ref D) (compEnvC scope (iJ X.u scope.names []) C X.u)) (RR (.ref D) C) s₃:=by
  rintro s₃ rfl
  refine Kt (env:=(cM X scope C vars cap s H G).u) (λn P=>∃i ys M k H',ax (cM X scope C vars cap s H G) (f++[(D,lG M k)]) (fY vars.length cap σ) H' P/\bD ys M/\tn i P.heap/\(∀b∈G,H' b=none)/\W i n ys H') ?_ m0
   ⟨0,[],[],0,H,I1,.nil,st1,λb B=>(hf b B).1,w0⟩
  rintro n s3 V;have⟨i,ys,M,k,H3,I3,Z,iC,fr3,w3⟩:=V;rcases turn i n ys H3 w3 with⟨stop,hz,qn⟩|⟨go,hz,N,hN,step⟩
  ·refine aU (T.done (cM X scope C vars cap s H G) rfl rfl rfl hc i _ s3 _ H3 (λ_ _=>False) I3 (U fr3) iC stop) λr s4 ⟨hr,I4⟩=>?_
   subst hr;have⟨eD,nD,_,_,_⟩:=I4.pin (D,lG M k) 'm';have⟨m4,ns4,_⟩:=id I4.loc;have hC3:H3 C=none:=I4.free;erw[fin D C ys H3 s4 m4 qn nD ?_ ns4 (by rw[aK (vf hDC)];rwa[hC3]) (vf (j _ I.lt).1) (zc I.sz R) (λx c e=>?_) (λp hp=>(j _ (wb (I.pin p hp).1)).1)]
   ·refine I.call' (ch:=G) I4.os (Un.later I4.base (λb o e=>I.hok.lt e) (λb o _ q=>q) λb B=>by rw[aK (j b B).2]) ?_ I4.bare λb B=>?_
    ·rwa[I4.hok.track nD ⟨hz,M,k,Z,eD⟩]
    ·have⟨f0,f1,f2,f3,f4,f5⟩:=hf b B
     exact⟨f3,f1,f4,f5⟩
   ·have⟨v,z⟩:=I.cell x c e
    exact(j _ z.lt).1
  ·refine aU (T.item (cM X scope C vars cap s H G) rfl rfl rfl hc i _ s3 _ H3 (λ_ _=>False) I3 (U fr3) iC go) λr s4 ⟨u,hr,h4⟩=>?_
   subst hr;erw[aU h4 λ_ s5 V=>?_];have⟨x,H5,I5,r5,y5,st5,fr5⟩:=V
   have I5':=I5.pinned (U fr5) (T.obj _ _ st5);erw[aU (hg s H C G _ s5 _ H5 x u _ I5' r5 (step x H5 y5)) λ_ s6 V=>?_];have⟨σ6,H6,I6,sub6,q6⟩:=V
   have Y:∀{σ7:St} {H7:Hp} {s7:Shared},ax (cM X scope C vars cap s H G) (f++[(D,lG M k)]++q0 G s5.heap) σ7 H7 s7->Sub (fY vars.length cap σ) σ7 →
     ax (cM X scope C vars cap s H G) (f++[(D,lG M k)]) (fY vars.length cap σ) H7 s7/\tn (i+1) s7.heap/\∀b∈G,H7 b=none:=λ{σ7 H7 s7} I7 sub7=>by
    erw[⟨I7.unpinned.weak sub7.1.symm sub7.2,T.keep _ _ _ st5 λb B o e=>(I7.pin (b,o) (gc _ (gc _ (uc B e)))).1,λb B=>?_⟩];have⟨o,e,d⟩:=T.obj _ _ st5 b B;exact(I7.pin (b,o) (gc _ (gc _ (uc B e)))).2.1
   erw[aU (ht s H C G _ s6 σ6 H6 _ I6 q6) λok s7 V=>?_];have⟨H7,I7,q7⟩:=V
   cases ok with
   |false =>
    have⟨J7,st7,fr7⟩:=Y I7 sub6;have⟨m',hm,w7⟩:=hN _ _ q7;exact⟨m',hm,i+1,ys,M,k,H7,J7,Z,st7,fr7,w7⟩
   |true =>
    erw[gf (he s H C G _ s7 σ6 H7 _ (I7.wish _) q7) (λv s8 V=>?_) λv s8 z=>hx D C v s8 R z];have⟨y,H8,I8,r8,q8⟩:=V
    have⟨J8,st8,fr8⟩:=Y I8.unwish sub6;have⟨m',hm,w8⟩:=hN _ _ q8;have⟨eD,nD,_,_,_⟩:=J8.pin (D,lG M k) 'm';have hlen:=Z.length;refine iq F.slot_list_append ⟨_,eD,rfl⟩ F.entry_list_append (F.args_list_append_2 _ _) (PySem.list_append D M.toArray k v (by rw[xa];omega)) ⟨eD,?_⟩;have q:=PySem.IsL.update eD (λxs=>xs.push v)
    have J9:ax (cM X scope C vars cap s H G) (f++[(D,_)]) (fY vars.length cap σ) H8 { s8 with heap:=s8.heap.update D (mapSeq λxs=>xs.push v),toks:=s8.toks } :=
     J8.repin pnD (.inr (show s.heap.objs.size<=D by rw[O];rwa[ib _])) (λb u B e=>(qc _ _ (vf B)).trans e) q (λv z=>by cases z)
    have e9:(M.toArray.push v)=(M++[v]).toArray:=by simp
    rw[e9]at J9;exact⟨m',hm,i+1,ys++[y],M++[v],_,H8,J9,Z.append (.cons r8 .nil),T.keep _ _ _ st8 λb B o e=>(qc _ _ (vf (j b (hob b B)).2)).trans e,fr8,w8⟩
 rwa[codeAny_compStart_list (loop _ rfl) (T.self X.A 0 _ _ _ st1 (loop _ rfl))]
def Ku(U:X.k=true)(S:cy X scope)(d:∀i∈cap,i<X.N.length/\scope.names.lookup (X.N.getD i "")≠some .local)(Y:PI X tg iter wi)(Z:∀s H C ex,PG (cM X scope C vars cap s H ex) tg g)(ht:∀s H C ex,lF (cM X scope C vars cap s H ex) ifs tt)(he:∀s H C ex,PE (cM X scope C vars cap s H ex) elt te)(hs:∀x,foldedSetIterable iter X.u x=pure x:=by intro _;rfl):PE X (.ListComp elt [⟨tg,iter,ifs,0⟩] scope pos) (xB wi g tt te vars.length cap):=by
 intro a s r H Q I h;rw[eval_ListComp];erw[tm (use:=none) rfl hs (xz (S.cells I)) S.kind S.names ?_];erw[aU (Y a s r H _ I h) λv s1 u=>aU u λy s2 B=>?_]
 have⟨it,fp,tn,J,H2,e,O,T,q,P,R⟩:=B;subst e;erw[xC (xc:=λ_ _ _ _ _ _=>False) (RR:=λf C=>compPost (model X.p X.w) X.A X.xe none (EP X a r Q) f C) (Q:=λys H'=>∀D,H' D=none->Q (.ref D) (aI H' D (.lst ys))) U S d O T q P Z ht he (λ_ _ _ _ _ z=>z.elim) R ?_];intro D C ys H' G m K hD L hn M j l n p;erw[⟨m,hn,λE c=>⟨.ref D,_,?_,rfl,K D hD⟩⟩];rwa[L.turned (it:=C) (t':=G.toks) (λb o F e=>c.extBut b o F e) M j (.inr l) n p]
def Kv(hN:X.N.Nodup)(L:X.N[i]?=some x)(P:X.u.scope.names.lookup x=some .local)(hc:X.k=true)(S:cy X scope)(p:∀i∈cap,i<X.N.length/\scope.names.lookup (X.N.getD i "")≠some .local)(hi:PI X tg iter wi)(hg:∀s H C ex,PG (cM X scope C vars cap s H ex) tg g)(ht:∀s H C ex,lF (cM X scope C vars cap s H ex) ifs tt)(he:∀s H C ex,PE (cM X scope C vars cap s H ex) elt te)(M:swapsWith (.ListComp elt [⟨tg,iter,ifs,0⟩] scope pos) (some (.Name x pos')) spos.line X.u=pure true:=by rfl)(hs:∀x,foldedSetIterable iter X.u x=pure x:=by intro _;rfl):PS X (.Assign [.Name x pos'] (.ListComp elt [⟨tg,iter,ifs,0⟩] scope pos) spos) (wT (xB wi g tt te vars.length cap) (t5 i)):=by
 intro c s O H D I h;rw[exec_Assign_Name_used _ _ _ _ M];erw[aa (am (aa ?_))];show wpAny _ X.A (do let _ ← comprehension (.ListComp elt [⟨tg,iter,ifs,0⟩] scope pos) scope X.u _ (newList []) false (eval iter X.u) (some (assign (.Name x pos') X.u))) _ _ s;erw[aa (gf (tm (use:=some (assign (.Name x pos') X.u)) (Q:=λ_ f=>SP X c D .next f) rfl hs (xz (S.cells I)) S.kind S.names ?_) (λ_ f q=>ja (ja q)) λ_ _ e=>e)];erw[aU (hi c s O H _ I h) λv s1 R=>aU R λU s2 Y=>?_]
 have⟨it,fp,tn,J,H2,e,I2,T,G,f2,q2⟩:=Y;subst e;erw[xC (xc:=λ_ _ _ _ _ _=>False) (RR:=λr C=>compPost (model X.p X.w) X.A X.xe (some (assign (.Name x pos') X.u)) (λ_ f=>SP X c D .next f) r C) (Q:=λys H'=>∀d,H' d=none->t5 i (.ref d) O (aI H' d (.lst ys)) D.nx) hc S p I2 T G f2 hg ht he (λ_ _ _ _ _ z=>z.elim) q2 ?_];intro d C ys H' f m q hD I' hn hC l E n F;show wpAny _ X.A (assign (.Name x pos') X.u (.ref d)) _ _ _;erw[wpAny_assign_Name (BJ I' hN L (.inl P) (v:=.ref d) rfl (λu y B=>?_) (.inr P))];have⟨a,sb,ha⟩:=B
 have K:C≠a:=by
  rcases ha with z|z
  ·rw[z];rwa[l]
  ·rwa[vf (n x a z)]
 erw[⟨m,hn.sameBut sb K,λZ j=>⟨_,_,?_,q d hD⟩⟩];rwa[y.turned (it:=C) (t':=u.toks) (λb o B e=>j.extBut b o B e) hC l (.inr E) n F]
end
inductive D where
 |sc (v:V)|tup (ds:List D)|lst (ds:List D)|dk (ks:List aW) (ds:List D)|dt (ks:List (List aW)) (ds:List D)|er (n:Str) (ks:T8) (ds:List D)
noncomputable def eE{α β:Type}(f:α->β->Bool):List α->List β->Bool
 |[],[]=>true
 |a::as,b::bs=>f a b && eE f as bs
 |_,_=>false
noncomputable def fA{α β:Type}(c lt:α->β->Bool):List α->List β->Bool
 |[],[]=>false
 |[],_::_=>true
 |_::_,[]=>false
 |a::as,b::bs=>if c a b=true then fA c lt as bs else lt a b
abbrev T0:=Option (List D)
abbrev T4:=List D
abbrev T5:=Option D
def HD(h:Heap):Nat->D->Value->Prop
 |0,d,u=>match d with|.sc v=>d9 v=true/\bj v u|_=>False
 |k+1,d,u=>match d with
  |.sc v=>d9 v=true/\bj v u
  |.tup ds=>∃a its,u=.ref a/\IsTup h a its.toArray/\Paired (HD h k) ds its
  |.lst ds=>∃a its,u=.ref a/\PlainL h a its.toArray/\Paired (HD h k) ds its
  |_=>False
def c9(K:Fg1)(H:Hp):Nat->D->V->Prop
 |0,d,x=>match d with|.sc v=>d9 v=true/\x=v|_=>False
 |k+1,d,x=>match d with
  |.sc v=>d9 v=true/\x=v
  |.tup ds=>∃a xs,x=.ref a/\cZ K H a xs/\Paired (c9 K H k) ds xs
  |.lst ds=>∃a xs,x=.ref a/\bH K H a xs/\Paired (c9 K H k) ds xs
  |_=>False
def bB:Nat->D->D->Bool
 |0,d,e=>match d,e with|.sc a,.sc b=>i5 a b|_,_=>false
 |k+1,d,e=>match d,e with
  |.sc a,.sc b=>i5 a b
  |.tup ds,.tup es=>eE (bB k) ds es
  |.lst ds,.lst es=>eE (bB k) ds es
  |_,_=>false
noncomputable def uD:V->V->Bool
 |.int i,.int j=>decide (i<j)
 |.str x,.str y=>decide (x.cps.toList<y.cps.toList)
 |.bl a,.bl b=>decide (b2i a<b2i b)
 |_,_=>false
def dU:Nat->D->D->Bool
 |0,d,e=>match d,e with|.sc a,.sc b=>uD a b|_,_=>false
 |k+1,d,e=>match d,e with
  |.sc a,.sc b=>uD a b
  |.tup ds,.tup es=>fA (bB k) (dU k) ds es
  |.lst ds,.lst es=>fA (bB k) (dU k) ds es
  |_,_=>false
def rl:V->V->Bool
 |.int _,.int _=>true
 |.str _,.str _=>true
 |.bl _,.bl _=>true
 |_,_=>false
def iK:Nat->D->D->Prop
 |0,d,e=>match d,e with|.sc a,.sc b=>rl a b=true|_,_=>False
 |k+1,d,e=>match d,e with
  |.sc a,.sc b=>rl a b=true
  |.tup ds,.tup es=>∀p∈ds.zip es,iK k p.1 p.2
  |.lst ds,.lst es=>∀p∈ds.zip es,iK k p.1 p.2
  |_,_=>False
theorem Paired.imp2{h i j:Type}{F:h->i->Prop}{G:j->i->Prop}{R:j->h->Prop}(f:∀a b c,F a b->R c a->G c b):∀{l₁:List h}{e:List i}{g:List j},Paired F l₁ e->Paired R g l₁->Paired G g e
 |_,_,_,.nil,.nil=>.nil
 |_,_,_,.cons a b,.cons c d=>.cons (f _ _ _ a c) (Paired.imp2 f b d)
section
variable {X:Cx}{s:Shared}
def ax.den(I:ax X pins σ H s):∀{k:Nat}{x:V}{d:D}{u:Value},c9 X.K H k d x->bj x u->HD s.heap k d u:=by
 intro k
 induction k with
 |zero =>
  intro x d u h r
  cases d with
  |sc v=>have⟨f,e⟩:=h;subst e;exact⟨f,r⟩
  |_=>rwa[h.elim]
 |succ k i =>
  intro x d u h r
  cases d with
  |sc v=>have⟨f,e⟩:=h;subst e;exact⟨f,r⟩
  |tup ds =>
   have⟨a,xs,e,b,p⟩:=h;subst e;cases r;have⟨its,c,g,_⟩:=I.tuple b;exact⟨a,its,rfl,g,Paired.imp2 (F:=bj) (G:=HD s.heap k) (R:=c9 X.K H k) (λx u d r q=>i q r) c p⟩
  |lst ds =>
   have⟨a,xs,e,b,p⟩:=h;subst e;cases r;have⟨its,c,g,_⟩:=I.list b;exact⟨a,its,rfl,g,Paired.imp2 (F:=bj) (G:=HD s.heap k) (R:=c9 X.K H k) (λx u d r q=>i q r) c p⟩
  |_=>rwa[h.elim]
end
def Cl:∀{v:V},d9 v=true->i5 v v=true
 |.non,_=>rfl
 |.bl b,_=>by simp[i5]
 |.int i,_=>by simp[i5]
 |.str x,_=>by simp[i5]
def uE(f:IsTup h a xs)(g:PlainL h a ys):False:=by
 have⟨o,e,c,_⟩:=f;have⟨i,b,d,_⟩:=g.isList;rw[e]at b;cases b;rw[c]at d;injection d with q;rwa[absurd q 'd']
def Cm{xs ys:T9}(f:IsTup h a xs.toArray)(g:IsTup h a ys.toArray):xs=ys:=by
 have⟨o,e,c,n,d⟩:=f;have⟨i,b,j,n',d'⟩:=g;rw[e]at b;cases b;rw[d]at d';injection d' with q _
 simpa using q
def Cn{xs ys:T9}(f:PlainL h a xs.toArray)(g:PlainL h a ys.toArray):xs=ys:=by
 have⟨o,e,c,n,d⟩:=f.isList;have⟨i,b,j,n',d'⟩:=g.isList;rw[e]at b;cases b;rw[d]at d';injection d' with q _
 simpa using q
theorem xD(f:∀{d e:D}{u:Value},HD h k d u->HD h k e u->bB k d e=true):∀{ds es:T4}{its:T9},Paired (HD h k) ds its->Paired (HD h k) es its->eE (bB k) ds es=true
 |_,_,_,.nil,.nil=>rfl
 |_,_,_,.cons a b,.cons c d=>by
  show (bB k _ _ && eE (bB k) _ _)=true;rw[f a c,xD f b d];rfl
def my(f:d9 v=true)(r:bj v (.ref a)):False:=by
 cases v with
 |non=>cases r
 |bl b=>cases r
 |int i=>have⟨t,q⟩:=r;cases q
 |str x=>have⟨t,q⟩:=r;cases q
 |_=>cases f
def Co:∀{k:Nat}{d e:D}{u:Value},HD h k d u->HD h k e u->bB k d e=true:=by
 intro k
 induction k with
 |zero =>
  intro d e u c b
  cases d with
  |sc v =>
   cases e with
   |sc w =>
    have⟨f,r⟩:=c;have⟨p,l⟩:=b;have q:=r.inj l;subst q;rwa[Cl f]
   |_=>rwa[b.elim]
  |_=>rwa[c.elim]
 |succ k o =>
  intro d e u c b
  cases d with
  |sc v =>
   have⟨f,r⟩:=c
   cases e with
   |sc w =>
    have⟨p,l⟩:=b;have q:=r.inj l;subst q;rwa[Cl f]
   |tup es=>have⟨a,its,q,_⟩:=b;subst q;exact(my f r).elim
   |lst es=>have⟨a,its,q,_⟩:=b;subst q;exact(my f r).elim
   |_=>rwa[b.elim]
  |tup ds =>
   have⟨a,its,q,i,m⟩:=c;subst q
   cases e with
   |sc w=>have⟨f,r⟩:=b;exact(my f r).elim
   |tup es =>
    have⟨n,its',q,g,j⟩:=b;cases q;have q:=Cm i g;subst q;rwa[xD o m j]
   |lst es=>have⟨n,its',q,g,j⟩:=b;cases q;exact(uE i g).elim
   |_=>rwa[b.elim]
  |lst ds =>
   have⟨a,its,q,i,m⟩:=c;subst q
   cases e with
   |sc w=>have⟨f,r⟩:=b;exact(my f r).elim
   |lst es =>
    have⟨n,its',q,g,j⟩:=b;cases q;have q:=Cn i g;subst q;rwa[xD o m j]
   |tup es=>have⟨n,its',q,g,j⟩:=b;cases q;exact(uE g i).elim
   |_=>rwa[b.elim]
  |_=>rwa[c.elim]
noncomputable def bX{α β:Type}(f:α->β->Bool)(ds:List α)(es:List β)(j:Nat):Bool:=match ds[j]?,es[j]? with
 |some a,some b=>f a b
 |_,_=>false
def xE(f:α->β->Bool)(a:α)(b:β)(ds:List α)(es:List β)(j:Nat):bX f (a::ds) (b::es) (j+1)=bX f ds es j:=by
 delta bX;simp
theorem nJ(f:α->β->Bool):∀(ds:List α) (es:List β),ds.length=es.length->(range ds.length).all (bX f ds es)=eE f ds es
 |[],[],_=>rfl
 |a::as,b::bs,h=>by
  have h':as.length=bs.length:=by simpa using h
  rw[zb,on,uk,cx]
  have e:(bX f (a::as) (b::bs) ∘ Nat.succ)=bX f as bs:=by
   funext j;rwa[xE f a b as bs j]
  rw[e,nJ f as bs h'];rfl
 |[],_::_,h=>by simp at h
 |_::_,[],h=>by simp at h
theorem nK(f:α->β->Bool):∀{ds:List α}{es:List β},ds.length≠es.length->eE f ds es=false
 |[],[],h=>absurd rfl h
 |a::as,b::bs,h=>by
  show (f a b && eE f as bs)=false;rw[nK f (by simpa using h),Bool.and_false]
 |[],_::_,_=>rfl
 |_::_,[],_=>rfl
theorem gj:∀{l₁:List α}{c:List β}{j:Nat}{b:β},Paired F l₁ c->c[j]?=some b->∃a,l₁[j]?=some a/\F a b
 |_,_,_,_,.nil,e=>by simp at e
 |_,_,0,_,.cons r _,e=>by simp at e;subst e;exact⟨_,rfl,r⟩
 |_,_,j+1,_,.cons _ t,e=>by
  have⟨a,d,f⟩:=gj (j:=j) t (by simpa using e);exact⟨a,by simpa using d,f⟩
section
variable {A:Around}{s:Shared}
def pE(i:∀{A:Around}{d e:D}{u v:Value},HD s.heap k d u->HD s.heap k e v->A.units+k<cLine->SeqAt.EqAt A s u v (bB k d e))(p:Paired (HD s.heap k) ds its)(l:Paired (HD s.heap k) es its')(m:A.units+(k+1)<cLine)(j:Nat)(a:j<its.toArray.size)(b:j<its'.toArray.size):SeqAt.EqAt A.in1 s its.toArray[j] its'.toArray[j] (bX (bB k) ds es j):=by
 have e1:its[j]?=some its.toArray[j]:=by simp at a;simp[a]
 have e2:its'[j]?=some its'.toArray[j]:=by simp at b;simp[b]
 have⟨d,c,f⟩:=gj p e1;have⟨e,g,h⟩:=gj l e2;have z:bX (bB k) ds es j=bB k d e:=by delta bX;rw[c,g]
 rw[z];rwa[i f h (by show A.units+1+k<cLine;omega)]
def lI:∀{k:Nat}{A:Around}{d e:D}{u v:Value},HD s.heap k d u->HD s.heap k e v->A.units+k<cLine->SeqAt.EqAt A s u v (bB k d e):=by
 intro k
 induction k with
 |zero =>
  intro A d e u v h g o
  cases d with
  |sc a =>
   cases e with
   |sc b=>rwa[Cc h.2 g.2 h.1 g.1]
   |_=>rwa[g.elim]
  |_=>rwa[h.elim]
 |succ k C =>
  intro A d e u v h g o;have c:A.units<cLine:=by omega
  cases d with
  |sc a =>
   cases e with
   |sc b=>rwa[Cc h.2 g.2 h.1 g.1]
   |tup es =>
    have⟨q,its,rfl,t,_⟩:=g;have⟨f,r⟩:=h;show SeqAt.EqAt A s u (.ref q) false
    cases a with
    |non=>cases r;rwa[SeqAt.EqAt.none_tuple t c]
    |bl b=>cases r;rwa[SeqAt.EqAt.bool_tuple b t c]
    |int i=>have⟨z,rfl⟩:=r;rwa[SeqAt.EqAt.int_tuple i z t c]
    |str x=>have⟨z,rfl⟩:=r;rwa[SeqAt.EqAt.str_tuple x z t c]
    |_=>cases f
   |lst es =>
    have⟨q,its,rfl,t,_⟩:=g;have⟨f,r⟩:=h;show SeqAt.EqAt A s u (.ref q) false
    cases a with
    |non=>cases r;rwa[SeqAt.EqAt.none_list t.isList c]
    |bl b=>cases r;rwa[SeqAt.EqAt.bool_list b t.isList c]
    |int i=>have⟨z,rfl⟩:=r;rwa[SeqAt.EqAt.int_list i z t.isList c]
    |str x=>have⟨z,rfl⟩:=r;rwa[SeqAt.EqAt.str_list x z t.isList c]
    |_=>cases f
   |_=>rwa[g.elim]
  |tup ds =>
   cases e with
   |sc b =>
    have⟨q,its,rfl,t,_⟩:=h;have⟨f,r⟩:=g;show SeqAt.EqAt A s (.ref q) v false
    cases b with
    |non=>cases r;rwa[SeqAt.EqAt.tuple_none t c]
    |bl b=>cases r;rwa[SeqAt.EqAt.tuple_bool b t c]
    |int i=>have⟨z,rfl⟩:=r;rwa[SeqAt.EqAt.tuple_int i z t c]
    |str x=>have⟨z,rfl⟩:=r;rwa[SeqAt.EqAt.tuple_str x z t c]
    |_=>cases f
   |lst es =>
    have⟨q,its,rfl,t,_⟩:=h;have⟨l,its',rfl,t',_⟩:=g;rwa[SeqAt.EqAt.tuple_list t t'.isList c]
   |tup es =>
    have⟨q,its,rfl,t,p⟩:=id h;have⟨l,its',rfl,t',m⟩:=id g;by_cases n:q=l
    ·subst n
     rw[Co h g];rwa[ot _]
    ·refine SeqAt.EqAt.of_refs n ?_
     have z:=SeqAt.RcAt.tuples (e:=bX (bB k) ds es) t t' c λj h g=>pE C p m o j h g
     have y:=p.length;have B:=m.length
     have w:bB (k+1) (.tup ds) (.tup es)=((range (min its.toArray.size its'.toArray.size)).all (bX (bB k) ds es) && its.toArray.size == its'.toArray.size):=by
      show eE (bB k) ds es=_;simp only[xa];rw[<-y,<-B];by_cases hl:ds.length=es.length
      ·rw[<-nJ _ _ _ hl,hl,jx]
       simp
      ·rw[nK _ hl]
       simp[hl]
     rw[w];rwa[z]
   |_=>rwa[g.elim]
  |lst ds =>
   cases e with
   |sc b =>
    have⟨q,its,rfl,t,_⟩:=h;have⟨f,r⟩:=g;show SeqAt.EqAt A s (.ref q) v false
    cases b with
    |non=>cases r;rwa[SeqAt.EqAt.list_none t.isList c]
    |bl b=>cases r;rwa[SeqAt.EqAt.list_bool b t.isList c]
    |int i=>have⟨z,rfl⟩:=r;rwa[SeqAt.EqAt.list_int i z t.isList c]
    |str x=>have⟨z,rfl⟩:=r;rwa[SeqAt.EqAt.list_str x z t.isList c]
    |_=>cases f
   |tup es =>
    have⟨q,its,rfl,t,_⟩:=h;have⟨l,its',rfl,t',_⟩:=g;rwa[SeqAt.EqAt.list_tuple t.isList t' c]
   |lst es =>
    have⟨q,its,rfl,t,p⟩:=id h;have⟨l,its',rfl,t',m⟩:=id g;by_cases n:q=l
    ·subst n
     rw[Co h g];rwa[ot _]
    ·refine SeqAt.EqAt.of_refs n ?_
     have y:=p.length;have B:=m.length;by_cases hl:ds.length=es.length
     ·have z:=SeqAt.RcAt.lists (e:=bX (bB k) ds es) t.isList t'.isList (by simp only[xa];omega) c λj h g=>pE C p m o j h g
      have w:bB (k+1) (.lst ds) (.lst es)=((range its.toArray.size).all (bX (bB k) ds es)):=by
       show eE (bB k) ds es=_;simp only[xa];rw[<-y,<-nJ _ _ _ hl]
      rw[w];rwa[z]
     ·have w:bB (k+1) (.lst ds) (.lst es)=false:=nK _ hl
      rw[w];rwa[SeqAt.RcAt.lists_lengths t.isList t'.isList (by simp only[xa];simp;omega) c]
   |_=>rwa[g.elim]
  |_=>rwa[h.elim]
end
end L2
namespace L2
open PySem PyProof.Rows
def nL(A:Around)(s:Shared)(y x:Value)(b:Bool):Prop :=
 ∀(prog:Program) (w:World) (E:T2) (Q:T2),Q (.bool b) s->wpAny (model prog w) A (richCompare .Lt y x) Q E s
noncomputable def gl(e c:Nat->Bool)(n m:Nat):Nat->Nat->Bool
 |0,_=>decide (n<m)
 |k+1,i=>if i<m then (if e i=true then gl e c n m k (i+1) else c i) else decide (n<m)
section
open PySem.SeqAt
open PySem.AutoSeq1 (wpAny_loadPart')
open PySem.MeetsSeq PySem.MeetsSeq2 PySem.MeetsSeq3
def Kw(l b:Addr)(items a:Tf)(n C:Nat)(dd u:Tk)(sl v:Array Ta)(hsz:items.size=a.size)(e:Nat->Bool)(k:Nat) :
  ∀i:Nat,items.size - i=k->Meets (Builtin.«list.__eq__.loop» ⟨[.ref l,.ref b,rawInt i,rawInt 3],[]⟩)
   (λ A R s=>s.heap.get? l=some { cls:=.type "list",dict:=dd,data:=.seq items n,slots:=sl }/\s.heap.get? b=some { cls:=.type "list",dict:=u,data:=.seq a C,slots:=v } ∧
    (∀j (F:j<items.size) (G:j<a.size),EqAt A.in1 s items[j] a[j] (e j)) ∧
    R (.ok (.ret (.bool (!((range items.size).drop i).all e)))) s):=by
 induction k with
 |zero =>
  intro i x prog w A R s h;have⟨y,g,d,z,os⟩:=s;have⟨hl,p,he,h⟩:=h
  wp_walk using wc hl,wc p
  have c:items[((i:Nat):Int).toNat]?=none:=by simp;omega
  have f:a[((i:Nat):Int).toNat]?=none:=by simp;omega
  have r:(range items.size).drop i=[]:=by simp;omega
  rw[r]at h;rw[c,f]
  wp_walk using wc hl,wc p
  show R (.ok (.ret (.bool (items.size != a.size)))) _;rw[hsz]
  simpa using h
 |succ k E =>
  intro i x prog w A R s h;have⟨y,g,d,z,os⟩:=s;have⟨hl,p,he,h⟩:=h
  wp_walk using wc hl,wc p
  have o:i<items.size:=by omega
  have m:i<a.size:=by omega
  have c:items[((i:Nat):Int).toNat]?=some items[i]:=by simp[o]
  have f:a[((i:Nat):Int).toNat]?=some a[i]:=by simp[m]
  have r:(range items.size).drop i=i::(range items.size).drop (i+1):=by simp[vd,o]
  have B:((i:Int)+1)=((i+1:Nat):Int):=by push_cast;rfl
  rw[r,uk]at h;rw[c,f];erw[aa (he i o m prog w _ _ ?_)]
  cases q:e i with
  |true =>
   rw[q]at h
   wp_walk
   rw[B]
   exact⟨plainId_quiet plain_eq_loop _,codeAny_builtin entry_eq_loop (by
    rw[cg plain_eq_loop _];rwa[E (i+1) 'o' prog w A R _ ⟨hl,p,he,by simpa using h⟩])⟩
  |false =>
   rw[q]at h
   wp_walk using wc hl,wc p
   rw[c,f]
   wp_walk
   simpa using h
def Kx(l b:Addr)(items a:Tf)(n m:Nat)(dd c:Tk)(sl f:Array Ta)(hsz:items.size=a.size)(e:Nat->Bool) :
  Meets (Builtin.«list.__ne__» ⟨[.ref l,.ref b],[]⟩)
   (λ A R s=>s.heap.get? l=some { cls:=.type "list",dict:=dd,data:=.seq items n,slots:=sl }/\s.heap.get? b=some { cls:=.type "list",dict:=c,data:=.seq a m,slots:=f } ∧
    (∀j (u:j<items.size) (v:j<a.size),EqAt A.in1 s items[j] a[j] (e j)) ∧
    R (.ok (.ret (.bool (!(range items.size).all e)))) s):=by
 intro prog w A R s h;have⟨p,g,d,q,os⟩:=s;have⟨hl,i,he,h⟩:=h;have r:=rn;have o:¬(items.size != a.size)=true:=by simp[hsz]
 wp_walk using wc hl,wc i
 exact⟨plainId_quiet plain_eq_loop _,codeAny_builtin entry_eq_loop (by
  rw[cg plain_eq_loop _];rwa[Kw l b items a n m dd c sl f hsz e _ 0 rfl prog w A R _ ⟨hl,i,he,by simpa using h⟩])⟩
def Ky(l b:Addr)(items a:Tf)(n i:Nat)(dd c:Tk)(sl e:Array Ta)(j:(items.size != a.size)=true) :
  Meets (Builtin.«list.__ne__» ⟨[.ref l,.ref b],[]⟩)
   (λ _ R s=>s.heap.get? l=some { cls:=.type "list",dict:=dd,data:=.seq items n,slots:=sl }/\s.heap.get? b=some { cls:=.type "list",dict:=c,data:=.seq a i,slots:=e } ∧
    R (.ok (.ret (.bool true))) s) :=
 .of_wp λprog w A R s h=>by
  have⟨m,g,d,o,os⟩:=s;have⟨hl,f,h⟩:=h;have p:=rn
  wp_walk using wc hl,wc f
  exact⟨_,rfl,h⟩
def Kz(l b:Addr)(items a:Tf)(n G:Nat)(dd y:Tk)(sl z:Array Ta)(e c:Nat->Bool)(k:Nat) :
  ∀i:Nat,items.size - i=k->Meets (Builtin.«list.__eq__.loop» ⟨[.ref l,.ref b,rawInt i,rawInt 0],[]⟩)
   (λ A R s=>s.heap.get? l=some { cls:=.type "list",dict:=dd,data:=.seq items n,slots:=sl }/\s.heap.get? b=some { cls:=.type "list",dict:=y,data:=.seq a G,slots:=z } ∧
    (∀j (B:j<items.size) (C:j<a.size),EqAt A.in1 s items[j] a[j] (e j)/\(e j=false->nL A.in1 s items[j] a[j] (c j))) ∧
    R (.ok (.ret (.bool (gl e c items.size a.size k i)))) s):=by
 induction k with
 |zero =>
  intro i E prog w A R s h;have⟨u,g,d,v,os⟩:=s;have⟨hl,p,he,h⟩:=h
  wp_walk using wc hl,wc p
  have m:items[((i:Nat):Int).toNat]?=none:=by simp;omega
  rw[m]
  wp_walk using wc hl,wc p
  show R (.ok (.ret (.bool (decide (items.size<a.size))))) _
  simpa [gl] using h
 |succ k H =>
  intro i E prog w A R s h;have⟨u,g,d,v,os⟩:=s;have⟨hl,p,he,h⟩:=h
  wp_walk using wc hl,wc p
  have r:i<items.size:=by omega
  have m:items[((i:Nat):Int).toNat]?=some items[i]:=by simp[r]
  have F:((i:Int)+1)=((i+1:Nat):Int):=by push_cast;rfl
  rw[m];by_cases f:i<a.size
  ·have o:a[((i:Nat):Int).toNat]?=some a[i]:=by simp[f]
   rw[o];have h:R (.ok (.ret (.bool (if i<a.size then (if e i=true then gl e c items.size a.size k (i+1) else c i) else decide (items.size<a.size))))) ⟨u,g,d,v,os⟩:=h;rw[la f]at h;have⟨B,C⟩:=he i r f;erw[aa (B prog w _ _ ?_)]
   cases q:e i with
   |true =>
    rw[q,la rfl]at h
    wp_walk
    rw[F]
    exact⟨plainId_quiet plain_eq_loop _,codeAny_builtin entry_eq_loop (by
     rw[cg plain_eq_loop _];rwa[H (i+1) 'o' prog w A R _ ⟨hl,p,he,h⟩])⟩
   |false =>
    rw[q,wa ua]at h;have x:=C q prog w
    wp_walk using wc hl,wc p
    rw[m,o]
    wp_walk using x
    rwa[h]
  ·have o:a[((i:Nat):Int).toNat]?=none:=by simp;omega
   rw[o];have h:R (.ok (.ret (.bool (if i<a.size then (if e i=true then gl e c items.size a.size k (i+1) else c i) else decide (items.size<a.size))))) ⟨u,g,d,v,os⟩:=h;rw[wa f]at h
   wp_walk using wc hl,wc p
   rwa[h]
def Cp(l b:Addr)(items a:Tf)(n o:Nat)(dd f:Tk)(sl i:Array Ta)(e c:Nat->Bool) :
  Meets (Builtin.«list.__lt__» ⟨[.ref l,.ref b],[]⟩)
   (λ A R s=>s.heap.get? l=some { cls:=.type "list",dict:=dd,data:=.seq items n,slots:=sl }/\s.heap.get? b=some { cls:=.type "list",dict:=f,data:=.seq a o,slots:=i } ∧
    (∀j (u:j<items.size) (v:j<a.size),EqAt A.in1 s items[j] a[j] (e j)/\(e j=false->nL A.in1 s items[j] a[j] (c j))) ∧
    R (.ok (.ret (.bool (gl e c items.size a.size items.size 0)))) s):=by
 intro prog w A R s h;have⟨p,g,d,q,os⟩:=s;have⟨hl,m,he,h⟩:=h;have r:=rn
 wp_walk using wc hl,wc m
 exact⟨plainId_quiet plain_eq_loop _,codeAny_builtin entry_eq_loop (by
  rw[cg plain_eq_loop _];rwa[Kz l b items a n o dd f sl i e c _ 0 rfl prog w A R _ ⟨hl,m,he,h⟩])⟩
def KA(l b:Addr)(items a:Tf)(n L:Nat)(dd z:Tk)(sl B:Array Ta)(e:Nat->Bool) :
  Meets (Builtin.«tuple.__ne__» ⟨[.ref l,.ref b],[]⟩)
   (λ A R s=>s.heap.get? l=some { cls:=.type "tuple",dict:=dd,data:=.seq items n,slots:=sl }/\s.heap.get? b=some { cls:=.type "tuple",dict:=z,data:=.seq a L,slots:=B } ∧
    (∀j (G:j<items.size) (H:j<a.size),EqAt A.in1 s items[j] a[j] (e j)) ∧
    R (.ok (.ret (.bool (!((range (min items.size a.size)).all e && items.size == a.size))))) s) :=
 .of_wp λprog w A R s h=>by
  have⟨C,g,d,E,os⟩:=s;have⟨hl,I,he,h⟩:=h;have O:=AutoSeq1.sub_tuple_tuple;have F:(items.toList.zip a.toList).length=min items.size a.size:=by simp
  wp_walk using wpAny_loadPart' hl,wpAny_loadPart' I,wpAny_forIn_list _ (λ c b u=>b.1=none/\u=⟨C,g,d,E,os⟩/\∃ i,c=(items.toList.zip a.toList).drop i ∧
   R (.ok (.ret (.bool (!(((range (min items.size a.size)).drop i).all e && items.size == a.size))))) ⟨C,g,d,E,os⟩) _
  case turn =>
   rintro⟨y,x⟩ c b u ⟨m,rfl,i,hz,f⟩
   have q:i<(items.toList.zip a.toList).length:=by
    rcases jt i (items.toList.zip a.toList).length with h'|h'
    ·rwa[h']
    ·rw[kj h']at hz;cases hz
   have hm:i<min items.size a.size:=F ▸ q;have G:i<items.size:=xb hm (Nat.min_le_left _ _);have H:i<a.size:=xb hm (ir _ _);rw[vd q]at hz;injection hz with p o;have r:y=items[i]:=by have:=qe fst p;simpa using this
   have J:x=a[i]:=by have:=qe snd p;simpa using this
   subst r J;have K:(range (min items.size a.size)).drop i=i::(range (min items.size a.size)).drop (i+1):=by simp[vd,hm]
   rw[K,uk]at f;erw[aa (he i G H prog w _ _ ?_)]
   cases r:e i with
   |true =>
    rw[r]at f
    wp_walk
    exact⟨rfl,rfl,i+1,o,by simpa using f⟩
   |false =>
    rw[r]at f
    wp_walk
    exact⟨_,rfl,by simpa using f⟩
  case fin =>
   rintro⟨M,N⟩ u ⟨m,rfl,i,hz,f⟩;simp only at m;subst m
   have v:min items.size a.size<=i:=by
    rcases jt i (items.toList.zip a.toList).length with h'|h'
    ·rw[vd h']at hz;cases hz
    ·rwa[F ▸ h']
   rw[kj (by simpa using v)]at f
   wp_walk
   exact⟨_,rfl,by simpa [Builtin.Tuple.tupleCompareSizes,bne] using f⟩
  case h =>
   exact⟨rfl,rfl,0,rfl,by simpa using h⟩
def KB(l b:Addr)(items a:Tf)(n T:Nat)(dd F:Tk)(sl G:Array Ta)(e c:Nat->Bool) :
  Meets (Builtin.«tuple.__lt__» ⟨[.ref l,.ref b],[]⟩)
   (λ A R s=>s.heap.get? l=some { cls:=.type "tuple",dict:=dd,data:=.seq items n,slots:=sl }/\s.heap.get? b=some { cls:=.type "tuple",dict:=F,data:=.seq a T,slots:=G } ∧
    (∀j (z:j<items.size) (B:j<a.size),EqAt A.in1 s items[j] a[j] (e j)/\(e j=false->nL A.in1 s items[j] a[j] (c j))) ∧
    R (.ok (.ret (.bool (gl e c items.size a.size items.size 0)))) s) :=
 .of_wp λprog w A R s h=>by
  have⟨H,g,d,I,os⟩:=s;have⟨hl,M,he,h⟩:=h;have Y:=AutoSeq1.sub_tuple_tuple;have J:(items.toList.zip a.toList).length=min items.size a.size:=by simp
  wp_walk using wpAny_loadPart' hl,wpAny_loadPart' M,wpAny_forIn_list _ (λ f b v=>b.1=none/\v=⟨H,g,d,I,os⟩/\∃ i,i<=items.size/\f=(items.toList.zip a.toList).drop i ∧
   R (.ok (.ret (.bool (gl e c items.size a.size (items.size - i) i)))) ⟨H,g,d,I,os⟩) _
  case turn =>
   rintro⟨y,x⟩ f b v ⟨o,rfl,i,L,hz,m⟩
   have r:i<(items.toList.zip a.toList).length:=by
    rcases jt i (items.toList.zip a.toList).length with h'|h'
    ·rwa[h']
    ·rw[kj h']at hz;cases hz
   have hm:i<min items.size a.size:=J ▸ r;have z:i<items.size:=xb hm (Nat.min_le_left _ _);have B:i<a.size:=xb hm (ir _ _);rw[vd r]at hz;injection hz with q p;have u:y=items[i]:=by have:=qe fst q;simpa using this
   have P:x=a[i]:=by have:=qe snd q;simpa using this
   subst u P;have K:items.size - i=(items.size - (i+1))+1:=by omega
   have C:gl e c items.size a.size (items.size - i) i=(if e i=true then gl e c items.size a.size (items.size - (i+1)) (i+1) else c i):=by
    rw[K];show (if i<a.size then _ else _)=_;rw[la B]
   rw[C]at m;have⟨N,O⟩:=he i z B;erw[aa (N prog w _ _ ?_)]
   cases u:e i with
   |true =>
    rw[u,la rfl]at m
    wp_walk
    exact⟨rfl,rfl,i+1,z,p,m⟩
   |false =>
    rw[u,wa ua]at m;have E:=O u prog w
    wp_walk using E
    exact⟨_,rfl,by simpa using m⟩
  case fin =>
   rintro⟨U,X⟩ v ⟨o,rfl,i,L,hz,m⟩;simp only at o;subst o
   have Q:min items.size a.size<=i:=by
    rcases jt i (items.toList.zip a.toList).length with h'|h'
    ·rw[vd h']at hz;cases hz
    ·rwa[J ▸ h']
   have C:gl e c items.size a.size (items.size - i) i=decide (items.size<a.size):=by
    cases K:items.size - i with
    |zero=>rfl
    |succ k =>
     show (if i<a.size then _ else _)=_;rw[wa 'o']
   rw[C]at m
   wp_walk
   exact⟨_,rfl,by simpa [Builtin.Tuple.tupleCompareSizes] using m⟩
  case h =>
   exact⟨rfl,rfl,0,ae _,rfl,by simpa using h⟩
end
end L2
namespace L2
open PySem PySem.Spec PyProof.Rows
theorem Cq(f g:α->β->Bool):∀(ds:List α) (es:List β) (e c:Nat->Bool) (n m i:Nat),n=i+ds.length->m=i+es.length->(∀j,e (i+j)=bX f ds es j)->(∀j,c (i+j)=bX g ds es j)->gl e c n m ds.length i=fA f g ds es
 |[],[],e,c,n,m,i,hn,hm,_,_=>by
  show decide (n<m)=false;rwa[ac (by simp at hn hm;omega)]
 |[],b::bs,e,c,n,m,i,hn,hm,_,_=>by
  show decide (n<m)=true;rwa[db (by simp at hn hm;omega)]
 |a::as,[],e,c,n,m,i,hn,hm,_,_=>by
  show (if i<m then _ else decide (n<m))=false;rw[wa (by simp at hm;omega)];rwa[ac (by simp at hn hm;omega)]
 |a::as,b::bs,e,c,n,m,i,hn,hm,he,d=>by
  show (if i<m then (if e i=true then gl e c n m as.length (i+1) else c i) else decide (n<m))=_;rw[la (by simp at hm;omega)];have l:e i=f a b:=by have:=he 0;simpa [bX] using this
  have o:c i=g a b:=by have:=d 0;simpa [bX] using this
  show _=if f a b=true then fA f g as bs else g a b
  rw[l,o];by_cases h:f a b=true
  ·rw[la h,la h]
   erw[Cq f g as bs e c n m (i+1) (by simp at hn;omega) (by simp at hm;omega) (λj=>?_) (λj=>?_)]
   ·have:=he (j+1);rw[xE]at this;rw[<-this];congr 1;omega
   ·have:=d (j+1);rw[xE]at this;rw[<-this];congr 1;omega
  ·rw[wa h,wa h]
def xF(f g:α->β->Bool)(ds:List α)(es:List β):gl (bX f ds es) (bX g ds es) ds.length es.length ds.length 0=fA f g ds es :=
 Cq f g ds es _ _ _ _ 0 'm' 'm' (λj=>by rw[yf]) (λj=>by rw[yf])
section
variable {A:Around}{s:Shared}
def Cr(ra:bj a u)(rb:bj b v)(h:rl a b=true):nL A s u v (uD a b):=by
 cases a with
 |int i =>
  cases b with
  |int j =>
   have⟨t,rfl⟩:=ra;have⟨t',rfl⟩:=rb;rwa[λprog w E Q q=>(lt_int q:wpAny (model prog w) A (compareOp .Lt (.int i t) (.int j t')) Q E s)]
  |_=>cases h
 |str x =>
  cases b with
  |str y =>
   have⟨t,rfl⟩:=ra;have⟨t',rfl⟩:=rb;rwa[λprog w E Q q=>(lt_str q:wpAny (model prog w) A (compareOp .Lt (.str x t) (.str y t')) Q E s)]
  |_=>cases h
 |bl x =>
  cases b with
  |bl y =>
   cases ra;cases rb
   rwa[λprog w E Q q=>(lt_bool q:wpAny (model prog w) A (compareOp .Lt (.bool x) (.bool y)) Q E s)]
  |_=>cases h
 |_=>cases b <;> cases h
def uF:D->D->Bool
 |.tup _,.tup _=>true
 |.lst _,.lst _=>true
 |_,_=>false
theorem xG:∀{ds:List α}{es:List β}{j:Nat}{a:α}{b:β},ds[j]?=some a->es[j]?=some b->(a,b)∈ds.zip es
 |[],_,_,_,_,h,_=>by simp at h
 |_::_,[],_,_,_,_,h=>by simp at h
 |d::ds,e::es,0,a,b,c,f=>by simp at c f;subst c f;simp
 |d::ds,e::es,j+1,a,b,c,f=>by
  have:=xG (ds:=ds) (es:=es) (j:=j) (a:=a) (b:=b) (by simpa using c) (by simpa using f)
  simp[this]
def uG:∀{k:Nat}{A:Around}{d e:D}{u v:Value},HD s.heap k d u->HD s.heap k e v->iK k d e->A.units+k<cLine->nL A s u v (dU k d e):=by
 intro k
 induction k with
 |zero =>
  intro A d e u v i l h hu
  cases d with
  |sc a =>
   cases e with
   |sc b=>rwa[Cr i.2 l.2 h]
   |_=>rwa[l.elim]
  |_=>rwa[i.elim]
 |succ k ih =>
  intro A d e u v i l h hu;have L:A.units<cLine:=by omega
  have items:∀{ds es:T4} {its its':T9},Paired (HD s.heap k) ds its->Paired (HD s.heap k) es its'->(∀p∈ds.zip es,iK k p.1 p.2) →
    ∀j (i:j<its.toArray.size) (l:j<its'.toArray.size),SeqAt.EqAt A.in1 s its.toArray[j] its'.toArray[j] (bX (bB k) ds es j)/\(bX (bB k) ds es j=false->nL A.in1 s its.toArray[j] its'.toArray[j] (bX (dU k) ds es j)):=by
   intro ds es its its' p m o j Y Z;have e1:its[j]?=some its.toArray[j]:=by simp at Y;simp[Y]
   have e2:its'[j]?=some its'.toArray[j]:=by simp at Z;simp[Z]
   have⟨d,N,r1⟩:=gj p e1;have⟨e,O,r2⟩:=gj m e2;have z:bX (bB k) ds es j=bB k d e:=by delta bX;rw[N,O]
   have z':bX (dU k) ds es j=dU k d e:=by delta bX;rw[N,O]
   rw[z,z'];exact⟨lI r1 r2 (by show A.units+1+k<cLine;omega),λ_=>ih r1 r2 (o (d,e) (xG N O)) (by show A.units+1+k<cLine;omega)⟩
  cases d with
  |sc a =>
   cases e with
   |sc b=>rwa[Cr i.2 l.2 h]
   |_=>rwa[h.elim]
  |tup ds =>
   cases e with
   |tup es =>
    have⟨q,its,rfl,t,p⟩:=id i;have⟨P,its',rfl,t',m⟩:=id l;have U:=p.length;have X:=m.length;have C:=items p m h;have⟨⟨R,dd,H,sl⟩,o,I,n,J⟩:=id t;have⟨⟨K,r,y,B⟩,c,f,T,g⟩:=id t';simp only at I J f g;subst I J f g;intro prog w E Q M
    have G:Q (.bool (gl (bX (bB k) ds es) (bX (dU k) ds es) its.toArray.size its'.toArray.size its.toArray.size 0)) s:=by
     simp only[xa];rw[<-U,<-X,xF];rwa[M]
    exact lj (op:=.Lt) ⟨_,o,rfl⟩ ⟨_,c,rfl⟩ PySem.F.slot_tuple_lt PySem.F.entry_tuple_lt (PySem.F.args_tuple_lt_2 _ _) (KB q P its.toArray its'.toArray n T dd r sl B _ _)
     ⟨o,c,C,⟨(λx=>nomatch x),G⟩⟩ L
   |_=>rwa[h.elim]
  |lst ds =>
   cases e with
   |lst es =>
    have⟨q,its,rfl,t,p⟩:=id i;have⟨P,its',rfl,t',m⟩:=id l;have U:=p.length;have X:=m.length;have C:=items p m h;have⟨⟨R,dd,H,sl⟩,o,I,n,J⟩:=t.isList;have⟨⟨K,r,y,B⟩,c,f,T,g⟩:=t'.isList;simp only at I J f g;subst I J f g;intro prog w E Q M
    have G:Q (.bool (gl (bX (bB k) ds es) (bX (dU k) ds es) its.toArray.size its'.toArray.size its.toArray.size 0)) s:=by
     simp only[xa];rw[<-U,<-X,xF];rwa[M]
    exact lj (op:=.Lt) ⟨_,o,rfl⟩ ⟨_,c,rfl⟩ slot_list_lt entry_list_lt (args_list_lt_2 _ _) (Cp q P its.toArray its'.toArray n T dd r sl B _ _)
     ⟨o,c,C,⟨(λx=>nomatch x),G⟩⟩ L
   |_=>rwa[h.elim]
  |_=>rwa[i.elim]
def KC(b:HD s.heap (k+1) d u)(f:HD s.heap (k+1) e v)(i:uF d e=true)(m:A.units+(k+1)<cLine):SeqAt.RcAt A s u v (bB (k+1) d e):=by
 have c:A.units<cLine:=by omega
 cases d with
 |sc a=>cases e <;> cases i
 |tup ds =>
  cases e with
  |tup es =>
   have⟨q,its,rfl,t,p⟩:=id b;have⟨n,its',rfl,t',g⟩:=id f;have z:=SeqAt.RcAt.tuples (e:=bX (bB k) ds es) t t' c λj b f=>pE lI p g m j b f
   have h:=p.length;have l:=g.length
   have w:bB (k+1) (.tup ds) (.tup es)=((range (min its.toArray.size its'.toArray.size)).all (bX (bB k) ds es) && its.toArray.size == its'.toArray.size):=by
    show eE (bB k) ds es=_;simp only[xa];rw[<-h,<-l];by_cases hl:ds.length=es.length
    ·rw[<-nJ _ _ _ hl,hl,jx]
     simp
    ·rw[nK _ hl]
     simp[hl]
   rw[w];rwa[z]
  |_=>cases i
 |lst ds =>
  cases e with
  |lst es =>
   have⟨q,its,rfl,t,p⟩:=id b;have⟨n,its',rfl,t',g⟩:=id f;have h:=p.length;have l:=g.length;by_cases hl:ds.length=es.length
   ·have z:=SeqAt.RcAt.lists (e:=bX (bB k) ds es) t.isList t'.isList (by simp only[xa];omega) c λj b f=>pE lI p g m j b f
    have w:bB (k+1) (.lst ds) (.lst es)=((range its.toArray.size).all (bX (bB k) ds es)):=by
     show eE (bB k) ds es=_;simp only[xa];rw[<-h,<-nJ _ _ _ hl]
    rw[w];rwa[z]
   ·have w:bB (k+1) (.lst ds) (.lst es)=false:=nK _ hl
    rw[w];rwa[SeqAt.RcAt.lists_lengths t.isList t'.isList (by simp only[xa];simp;omega) c]
  |_=>cases i
 |_=>rwa[b.elim]
def KD(g:HD s.heap (k+1) d u)(l:HD s.heap (k+1) e v)(O:uF d e=true)(R:A.units+(k+1)<cLine)(z:Q (.bool (!bB (k+1) d e)) s) :
  wpAny (model prog w) A (compareOp .NotEq u v) Q E s:=by
 have r:A.units<cLine:=by omega
 cases d with
 |sc a=>cases e <;> cases O
 |tup ds =>
  cases e with
  |tup es =>
   have⟨q,its,rfl,t,p⟩:=id g;have⟨K,its',rfl,t',B⟩:=id l;have y:∀j (g:j<its.toArray.size) (l:j<its'.toArray.size),SeqAt.EqAt A.in1 s its.toArray[j] its'.toArray[j] (bX (bB k) ds es j):=λj g l=>pE lI p B R j g l
   have N:=p.length;have P:=B.length
   have J:bB (k+1) (.tup ds) (.tup es)=((range (min its.toArray.size its'.toArray.size)).all (bX (bB k) ds es) && its.toArray.size == its'.toArray.size):=by
    show eE (bB k) ds es=_;simp only[xa];rw[<-N,<-P];by_cases hl:ds.length=es.length
    ·rw[<-nJ _ _ _ hl,hl,jx]
     simp
    ·rw[nK _ hl]
     simp[hl]
   rw[J]at z;have⟨⟨M,dd,C,sl⟩,m,G,n,H⟩:=id t;have⟨⟨I,h,o,i⟩,b,c,L,f⟩:=id t';simp only at G H c f;subst G H c f
   exact lj (op:=.NotEq) ⟨_,m,rfl⟩ ⟨_,b,rfl⟩ PySem.F.slot_tuple_ne PySem.F.entry_tuple_ne (PySem.F.args_tuple_ne_2 _ _) (KA q K its.toArray its'.toArray n L dd h sl i _)
    ⟨m,b,y,⟨(λx=>nomatch x),z⟩⟩ r
  |_=>cases O
 |lst ds =>
  cases e with
  |lst es =>
   have⟨q,its,rfl,t,p⟩:=id g;have⟨K,its',rfl,t',B⟩:=id l;have y:∀j (g:j<its.toArray.size) (l:j<its'.toArray.size),SeqAt.EqAt A.in1 s its.toArray[j] its'.toArray[j] (bX (bB k) ds es j):=λj g l=>pE lI p B R j g l
   have N:=p.length;have P:=B.length;have⟨⟨M,dd,C,sl⟩,m,G,n,H⟩:=t.isList;have⟨⟨I,h,o,i⟩,b,c,L,f⟩:=t'.isList;simp only at G H c f;subst G H c f;by_cases hl:ds.length=es.length
   ·have J:bB (k+1) (.lst ds) (.lst es)=((range its.toArray.size).all (bX (bB k) ds es)):=by
     show eE (bB k) ds es=_;simp only[xa];rw[<-N,<-nJ _ _ _ hl]
    rw[J]at z
    exact lj (op:=.NotEq) ⟨_,m,rfl⟩ ⟨_,b,rfl⟩ slot_list_ne entry_list_ne (args_list_ne_2 _ _) (Kx q K its.toArray its'.toArray n L dd h sl i (by simp only[xa];omega) _)
     ⟨m,b,y,⟨(λx=>nomatch x),z⟩⟩ r
   ·have J:bB (k+1) (.lst ds) (.lst es)=false:=nK _ hl
    rw[J]at z
    exact lj (op:=.NotEq) ⟨_,m,rfl⟩ ⟨_,b,rfl⟩ slot_list_ne entry_list_ne (args_list_ne_2 _ _) (Ky q K its.toArray its'.toArray n L dd h sl i (by simp only[xa];simp;omega))
     ⟨m,b,⟨(λx=>nomatch x),z⟩⟩ r
  |_=>cases O
 |_=>rwa[g.elim]
end
section
variable {X:Cx}
def xH(K:Fg1)(k:Nat):R2:=λx y H Q=>∃d e,c9 K H (k+1) d x/\c9 K H (k+1) e y/\uF d e=true/\Q (.bl (bB (k+1) d e)) H
def xI(K:Fg1)(k:Nat):R2:=λx y H Q=>∃d e,c9 K H (k+1) d x/\c9 K H (k+1) e y/\uF d e=true/\Q (.bl (!bB (k+1) d e)) H
def Cs(K:Fg1)(k:Nat):R2:=λx y H Q=>∃d e,c9 K H (k+1) d x/\c9 K H (k+1) e y/\iK (k+1) d e/\Q (.bl (dU (k+1) d e)) H
def KF(k:Nat)(j:X.A.units+(k+1)<cLine):bF X (compareOp .Eq) (xH X.K k):=by
 intro a s l H x y v u Q I b c h;have⟨d,e,f,g,i,q⟩:=h;rwa[KC (I.den f b) (I.den g c) i j X.p X.w X.xe _ ⟨.bl _,H,I,rfl,q⟩]
def KG(k:Nat)(j:X.A.units+(k+1)<cLine):bF X (compareOp .NotEq) (xI X.K k):=by
 intro a s l H x y v u Q I b c h;have⟨d,e,f,g,i,q⟩:=h;rwa[KD (I.den f b) (I.den g c) i j ⟨.bl _,H,I,rfl,q⟩]
def KH(k:Nat)(j:X.A.units+(k+1)<cLine):bF X (compareOp .Lt) (Cs X.K k):=by
 intro a s l H x y v u Q I b c h;have⟨d,e,f,g,i,q⟩:=h;rwa[uG (I.den f b) (I.den g c) i j X.p X.w X.xe _ ⟨.bl _,H,I,rfl,q⟩]
end
section
example (K:Fg1):kitOne K (.type "int") (.type "int")=some true:=by rfl
example (K:Fg1):kitOne K (.type "bool") (.type "int")=some true:=by rfl
example (K:Fg1):kitOne K (.type "int") (.type "bool")=some false:=by rfl
example (K:Fg1):kitOne K (.type "list") (.type "list")=some true:=by rfl
end
section
variable {X:Cx}{a b c e:Expr}
def PE.imp(h:PE X e t)(f:∀σ H Q,t' σ H Q->t σ H Q):PE X e t':=λa s σ H Q I q=>h a s σ H Q I (f σ H Q q)
def PT.imp(h:PT X e t)(f:∀σ H Q,t' σ H Q->t σ H Q):PT X e t':=λa s σ H Q I q=>h a s σ H Q I (f σ H Q q)
def bF.imp(h:bF X f r)(g:∀x y H Q,r' x y H Q->r x y H Q):bF X f r':=λa s b H x y v u Q I c d q=>h a s b H x y v u Q I c d (g x y H Q q)
def dI.imp(h:dI X f r)(g:∀xs H Q,r' xs H Q->r xs H Q):dI X f r':=λa s b H xs c Q I d q=>h a s b H xs c Q I d (g xs H Q q)
def g6.imp(h:g6 X r)(g:∀x y H Q,r' x y H Q->r x y H Q):g6 X r':=λa b c s d H x y v u Q I e f q hs=>h a b c s d H x y v u Q I e f (g x y H Q q) hs
def iH.imp{id:String}(h:iH X id r)(g:∀x xs H Q,r' x xs H Q->r x xs H Q):iH X id r':=λa s b H x xs v c Q I d e q=>h a s b H x xs v c Q I d e (g x xs H Q q)
def iF.imp(h:iF X r)(g:∀x lo hi H Q,r' x lo hi H Q->r x lo hi H Q):iF X r':=λa s b H x v c d lo hi sl Q I e hs f i q=>h a s b H x v c d lo hi sl Q I e hs f i (g x lo hi H Q q)
def PI.imp(h:PI X tg e wi)(g:∀σ H R,wi' σ H R->wi σ H R):PI X tg e wi':=λa s σ H R I q=>h a s σ H R I (g σ H R q)
def PG.imp(h:PG X tg t)(g:∀v σ H Q,t' v σ H Q->t v σ H Q):PG X tg t':=λa s σ H v u Q I r q=>h a s σ H v u Q I r (g v σ H Q q)
def k2(C:Int->Int->Prop)(g:Int->Int->V):R2:=λx y H Q=>match x,y with|.int i,.int j=>C i j/\Q (g i j) H|_,_=>False
def fB(g:Int->Int->V):R2:=λx y H Q=>match x,y with|.int i,.int j=>Q (g i j) H|_,_=>False
def xJ(h:bF X f (rI C g)):bF X f (k2 C g):=h.imp λx y H Q q=>by
 unfold k2 at q
 split at q
 ·exact⟨_,_,rfl,rfl,q⟩
 ·rwa[q.elim]
def pF(h:bF X f (lE g)):bF X f (fB g):=h.imp λx y H Q q=>by
 unfold fB at q
 split at q
 ·exact⟨_,_,rfl,rfl,q⟩
 ·rwa[q.elim]
def KJ:bF X (binaryOp .Add) (fB λi j=>.int (i+j)):=pF Je
def Ct:bF X (binaryOp .Sub) (fB λi j=>.int (i - j)):=pF Jf
def kH:bF X (binaryOp .FloorDiv) (k2 wY λi j=>.int (i / j)):=xJ Jg
def eR:bF X (binaryOp .Mod) (k2 (λ_ j=>0<j) λi j=>.int (i % j)):=xJ Jh
def Cu:bF X (compareOp .Lt) (fB λi j=>.bl (decide (i<j))):=pF Jo
def Cv:bF X (compareOp .LtE) (fB λi j=>.bl (decide (i<=j))):=pF Jp
def lJ:bF X (compareOp .Gt) (fB λi j=>.bl (decide (j<i))):=pF Jq
def KL:bF X (compareOp .GtE) (fB λi j=>.bl (decide (j<=i))):=pF Jr
def lK(a:Bool):R2:=λx y H Q=>match x,y with
 |.int i,.int j=>Q (.bl (if a then !decide (i=j) else decide (i=j))) H
 |.str i,.str j=>Q (.bl (if a then !decide (i=j) else decide (i=j))) H
 |.bl i,.bl j=>Q (.bl (if a then !decide (i=j) else decide (i=j))) H
 |_,_=>False
def nM[Decidable p][Decidable q](h:p↔q):decide p=decide q:=by
 by_cases a:p
 ·rw[db a,db (h.mp a)]
 ·rw[ac a,ac λz=>a (h.mpr z)]
def KM:bF X (compareOp .Eq) (lK false):=Jm.imp λx y H Q q=>by
 unfold lK at q
 split at q
 ·exact⟨rfl,by rw[nM (q:=_=_) ⟨λz=>V.int.inj z,λz=>qe V.int z⟩];rwa[q]⟩
 ·exact⟨rfl,by rw[nM (q:=_=_) ⟨λz=>V.str.inj z,λz=>qe V.str z⟩];rwa[q]⟩
 ·exact⟨rfl,by rw[nM (q:=_=_) ⟨λz=>V.bl.inj z,λz=>qe V.bl z⟩];rwa[q]⟩
 ·rwa[q.elim]
def KN:bF X (compareOp .NotEq) (lK true):=Jn.imp λx y H Q q=>by
 unfold lK at q
 split at q
 ·exact⟨rfl,by rw[nM (q:=_=_) ⟨λz=>V.int.inj z,λz=>qe V.int z⟩];rwa[q]⟩
 ·exact⟨rfl,by rw[nM (q:=_=_) ⟨λz=>V.str.inj z,λz=>qe V.str z⟩];rwa[q]⟩
 ·exact⟨rfl,by rw[nM (q:=_=_) ⟨λz=>V.bl.inj z,λz=>qe V.bl z⟩];rwa[q]⟩
 ·rwa[q.elim]
def xK(t:TE):TT:=λσ H Q=>t σ H λx H'=>match x with|.bl k=>Q k H'|_=>False
def rp{x:V}{P:Bool->Prop}(q:match x with|.bl k=>P k|_=>False):∃k,x=.bl k/\P k:=by
 split at q
 ·exact⟨_,rfl,q⟩
 ·rwa[q.elim]
def KO(p:bF X (compareOp op) r)(ha:PE X a ta)(w:PE X b tb)(hm:behindInMarks op b=false):PT X (.Compare a [op] [b] pos) (xK (rc r ta tb)):=by
 intro c s o H Q I h;erw[wpAny_isTrue_Compare1 (uq ha w I h λv u d x y e f g i q=>aU (p c d o e x y v u _ f g i q) λz A ⟨B,j,l,m,n⟩=>?_) hm];have⟨k,rfl,q⟩:=rp n;cases m;rwa[zg ⟨j,l,q⟩]
def KP(h:PE X e t)(he:∀whole,isTrue e X.u whole=(do let v ← whole;standAt e.pos;holding [v] (truthy v)):=by intro _;rfl):PT X e (xK t):=by
 intro a s g H Q I i;erw[isTrue_plain (aU (h a s g H _ I i) λv j ⟨x,b,c,d,f⟩=>?_) (he _)];have⟨k,rfl,q⟩:=rp f;cases d;rwa[zg ⟨b,c,q⟩]
def KQ(ta tb:TE):TE:=λσ H Q=>ta σ H λx H1=>match x with|.bl c=>if c=true then tb σ H1 Q else Q (.bl false) H1|_=>False
def KR(ta tb:TE):TE:=λσ H Q=>ta σ H λx H1=>match x with|.bl c=>if c=true then Q (.bl true) H1 else tb σ H1 Q|_=>False
def KS(ta:TE):TE:=λσ H Q=>ta σ H λx H1=>match x with|.bl c=>Q (.bl (!c)) H1|_=>False
def KU(ha:PE X a ta)(m:PE X (.BoolOp .And (b::rest) pos) tb):PE X (.BoolOp .And (a::b::rest) pos) (KQ ta tb):=by
 intro d s i H Q I h;erw[BoolOp_and (aU (ha d s i H _ I h) λv j ⟨x,f,g,l,e⟩=>?_)];have⟨c,rfl,e⟩:=rp e;cases l;erw[zg ?_]
 cases c with
 |true=>rwa[m d j i f Q g e]
 |false=>exact⟨.bl false,f,g,rfl,e⟩
def KW(ha:PE X a ta)(m:PE X (.BoolOp .Or (b::rest) pos) tb):PE X (.BoolOp .Or (a::b::rest) pos) (KR ta tb):=by
 intro d s i H Q I h;erw[BoolOp_or (aU (ha d s i H _ I h) λv j ⟨x,f,g,l,e⟩=>?_)];have⟨c,rfl,e⟩:=rp e;cases l;erw[zg ?_]
 cases c with
 |false=>rwa[m d j i f Q g e]
 |true=>exact⟨.bl true,f,g,rfl,e⟩
def KX(ha:PE X a ta):PE X (.UnaryOp .Not a pos) (KS ta):=by
 intro b s i H Q I h;erw[UnaryOp_ (aU (ha b s i H _ I h) λv j ⟨x,e,f,g,d⟩=>?_)];have⟨c,rfl,d⟩:=rp d;cases g;rwa[not_of (zg ⟨.bl (!c),e,f,rfl,d⟩)]
def KY(h:pB X (unaryOp .USub) (rU f)):pB X (unaryOp .USub) (λx H Q=>match x with|.int i=>Q (f i) H|_=>False):=λa s b H x v Q I c q=>h a s b H x v Q I c (by
 dsimp only at q
 split at q
 ·exact⟨_,rfl,q⟩
 ·rwa[q.elim])
def KZ:pB X (unaryOp .USub) (λx H Q=>match x with|.int i=>Q (.int (-i)) H|_=>False):=KY Jj
def xL(K:Fg1):R2:=λx y H Q=>match x,y with|.ref p,.int i=>∃xs v,bH K H p xs/\d1 xs i=some v/\Q v H|_,_=>False
def xM(K:Fg1):R2:=λx y H Q=>match x,y with|.ref p,.int i=>∃xs v,cZ K H p xs/\d1 xs i=some v/\Q v H|_,_=>False
def xN:R2:=λx y H Q=>match x,y with|.str z,.int i=>z.length<=sizeLine/\∃c,d1 z.cps.toList i=some c/\Q (.str ⟨#[c]⟩) H|_,_=>False
def K0:g6 X (xL X.K):=JX.imp λx y H Q q=>by
 unfold xL at q
 split at q
 ·have⟨xs,v,a,b,q⟩:=q;exact⟨_,xs,_,v,rfl,rfl,a,b,q⟩
 ·rwa[q.elim]
def K1:g6 X (xM X.K):=JY.imp λx y H Q q=>by
 unfold xM at q
 split at q
 ·have⟨xs,v,a,b,q⟩:=q;exact⟨_,xs,_,v,rfl,rfl,a,b,q⟩
 ·rwa[q.elim]
def K2:g6 X xN:=JZ.imp λx y H Q q=>by
 unfold xN at q
 split at q
 ·have⟨a,c,b,q⟩:=q;exact⟨_,_,c,rfl,rfl,a,b,q⟩
 ·rwa[q.elim]
def K3(t:TE):TO:=λσ H Q=>t σ H λx H1=>match x with|.int i=>Q (some i) H1|_=>False
def K4{x:V}{P:Int->Prop}(q:match x with|.int k=>P k|_=>False):∃k,x=.int k/\P k:=by
 split at q
 ·exact⟨_,rfl,q⟩
 ·rwa[q.elim]
def Cw{x:V}{P:Addr->Prop}(q:match x with|.ref k=>P k|_=>False):∃k,x=.ref k/\P k:=by
 split at q
 ·exact⟨_,rfl,q⟩
 ·rwa[q.elim]
def K5{x:V}{P:Str->Prop}(q:match x with|.str k=>P k|_=>False):∃k,x=.str k/\P k:=by
 split at q
 ·exact⟨_,rfl,q⟩
 ·rwa[q.elim]
def K6(h:PE X e te):PO X (some e) (K3 te):=by
 intro a s g H Q I j;rw[evalPart_some];erw[aU (h a s g H _ I j) λu l ⟨x,b,c,d,f⟩=>?_]
 have⟨i,rfl,q⟩:=K4 f;have⟨t,rfl⟩:=d;exact⟨some i,b,c,.int i t,q⟩
def xO(K:Fg1):V->Tc->Tc->Hp->VK->Prop:=λx lo hi H Q=>match x with|.ref a=>∃xs,bH K H a xs/\∀p,H p=none->Q (.ref p) (aI H p (.lst (jH xs lo hi)))|_=>False
def K7:iF X (xO X.K):=J6.imp λx b c H Q q=>by
 unfold xO at q;have⟨a,rfl,xs,h,q⟩:=Cw q;exact⟨a,xs,rfl,h,q⟩
def xP:R2:=λx y H Q=>match x,y with|.str i,.str j=>i.length+j.length<=sizeLine/\Q (.str (i++j)) H|_,_=>False
def K8:bF X (binaryOp .Add) xP:=Jv.imp λx y H Q q=>by
 unfold xP at q
 split at q
 ·exact⟨_,_,rfl,rfl,q⟩
 ·rwa[q.elim]
def lL(a:Bool):R2:=λx y H Q=>match x,y with|.str i,.str j=>Q (.bl (if a then !Txt.contains j i else Txt.contains j i)) H|_,_=>False
def K9:bF X (compareOp .In) (lL false):=Js.imp λx y H Q q=>by
 unfold lL at q
 split at q
 ·exact⟨_,_,rfl,rfl,q⟩
 ·rwa[q.elim]
def La:bF X (compareOp .NotIn) (lL true):=Jt.imp λx y H Q q=>by
 unfold lL at q
 split at q
 ·exact⟨_,_,rfl,rfl,q⟩
 ·rwa[q.elim]
def xQ(K:Fg1):T6->Hp->VK->Prop:=λxs H Q=>match xs with|[.ref p]=>∃ys,(bH K H p ys\/cZ K H p ys)/\Q (.int ys.length) H|_=>False
def Lb:dI X (.builtin "len") (xQ X.K):=Ka.imp λxs H Q q=>by
 unfold xQ at q
 split at q
 ·have⟨ys,h,q⟩:=q;exact⟨_,ys,rfl,h,q⟩
 ·rwa[q.elim]
def xR:T6->Hp->VK->Prop:=λxs H Q=>match xs with|[.str z]=>z.length<=sizeLine/\Q (.int z.length) H|_=>False
def Lc:dI X (.builtin "len") xR:=Kb.imp λxs H Q q=>by
 unfold xR at q
 split at q
 ·exact⟨_,rfl,q⟩
 ·rwa[q.elim]
def xS(K:Fg1):T6->Hp->VK->Prop:=λxs H Q=>match xs with|[.ref p]=>∃ys,(bH K H p ys\/cZ K H p ys)/\∀l,H l=none->Q (.ref l) (aI H l (.lst ys))|_=>False
def Cy:dI X (.type "list") (xS X.K):=Kd.imp λxs H Q q=>by
 unfold xS at q
 split at q
 ·have⟨ys,h,q⟩:=q;exact⟨_,ys,rfl,h,q⟩
 ·rwa[q.elim]
def Cz:V->T6->Hp->VK->Prop:=λx vs H Q=>match x,vs with|.ref l,[y]=>∃xs,H l=some (.lst xs)/\xs.length<sizeLine/\Q .non (aI H l (.lst (xs++[y])))|_,_=>False
def CA:iH X "list.append" Cz:=iH.imp (r:=Ch) Kj λx vs H Q q=>by
 unfold Cz at q
 split at q
 ·have⟨xs,a,b,q⟩:=q;exact⟨_,xs,_,rfl,rfl,a,b,q⟩
 ·rwa[q.elim]
variable {l:Expr}
def Ld(ta:TA):TI:=λσ H R=>ta σ H λvs H1=>match vs with|[.int j] => -(2 ^ 62)<=j/\j<2 ^ 62/\R (qZ 0 j.toNat) H1|_=>False
def Le(ta:TA):TI:=λσ H R=>ta σ H λvs H1=>match vs with|[.int i,.int j]=>(-(2 ^ 62)<=i/\i<2 ^ 62 /\ -(2 ^ 62)<=j/\j<2 ^ 62)/\R (qZ i (j - i).toNat) H1|_=>False
def PA.imp(h:PA X es t)(f:∀σ H Q,t' σ H Q->t σ H Q):PA X es t':=λp a s σ H Q I q=>h p a s σ H Q I (f σ H Q q)
def Lf(j:Gl X "range")(hm:X.mg "range" = none)(ha:PA X [a] d)(hs:starEach [a] X.u=[(false,eval a X.u)]:=by rfl):PI X tg (.Call (.Name "range" p) [a] [] pos) (Ld d):=by
 intro c s g H R I h;erw[Call_ (kF I j hm boot_range (xh (aU (ha pos c s g H _ I h) λm n ⟨vs,o,e,f,b⟩=>?_) hs rfl))];dsimp only at b
 split at b
 ·have⟨b,i,q⟩:=b
  cases f with
  |cons r l =>
   cases l;have⟨t,rfl⟩:=r
   rwa[call_range_1 (BP e 'o' 'o' b i (by simpa using q))]
 ·rwa[b.elim]
def Lg(u:Gl X "range")(hm:X.mg "range" = none)(ha:PA X [a,b] g)(hs:starEach [a,b] X.u=[(false,eval a X.u),(false,eval b X.u)]:=by rfl)(e:starEach [b] X.u=[(false,eval b X.u)]:=by rfl) :
  PI X tg (.Call (.Name "range" p) [a,b] [] pos) (Le g):=by
 intro d s l H R I h;erw[Call_ (kF I u hm boot_range (xh (aU (ha pos d s l H _ I h) λw x ⟨vs,y,i,j,c⟩=>?_) (by rw[hs,e]) (by rw[e];rfl)))];dsimp only at c
 split at c
 ·have⟨⟨c,m,n,o⟩,q⟩:=c
  cases j with
  |cons r f =>
   cases f with
   |cons v f =>
    cases f;have⟨t,rfl⟩:=r
    have⟨t',rfl⟩:=v;rwa[call_range_2 (BP i c m n o q)]
 ·rwa[c.elim]
def CB:i0:=λvs σ H Q=>match vs with|[]=>Q σ H|_=>False
def CC(t:TG)(u:i0):i0:=λvs σ H Q=>match vs with|v::r=>t v σ H λa H'=>u r a H' Q|[]=>False
def Lh:gZ X [] CB:=λa s b H vs c Q I r h=>IM a s b H vs c Q I r (by
 unfold CB at h
 split at h
 ·exact⟨rfl,h⟩
 ·rwa[h.elim])
def Li(d:PG X e t)(f:gZ X es u)(hs:(assignEach (e::es) X.u).map (·.2)=assign e X.u::(assignEach es X.u).map (·.2):=by rfl):gZ X (e::es) (CC t u) :=
 λ a s b H vs c Q I r h=>IN d f hs a s b H vs c Q I r (by
  unfold CC at h
  split at h
  ·exact⟨_,_,rfl,h⟩
  ·rwa[h.elim])
def CD(K:Fg1)(n:Nat)(t:i0):TG:=λv σ H Q=>match v with|.ref a=>∃xs,cZ K H a xs/\xs.length=n/\t xs σ H Q|_=>False
def Lj(e:X.k=true)(h:gZ X es t)(hn:(assignEach es X.u).length=n:=by rfl)(b:(assignEach es X.u).findIdx? (·.1)=none:=by rfl):PG X (.Tuple es k pos) (CD X.K n t) :=
 (IQ e h hn b).imp λv f H Q q=>by
  unfold CD at q;have⟨a,rfl,xs,c,d,q⟩:=Cw q;exact⟨a,xs,rfl,c,d,q⟩
inductive g7 {α:Type} (p:α->Prop):List α->Prop
 |nil:g7 p []
 |cons {x:α} {l:List α}:p x->g7 p l->g7 p (x::l)
theorem g7.mem:∀{l:List α},g7 p l->∀x∈l,p x
 |_,.nil,x,h=>by cases h
 |_,.cons a b,x,h=>by
  rcases cb.mp h with rfl|h
  ·rwa[a]
  ·rwa[b.mem x h]
def lM(L:T8)(c:scope.kind=.function)(d:∀y∈scope.names,y.2≠.cell)(e:∀y∈scope.names,y.2=.local->scope.names.lookup y.1=some .local)(f:∀y∈scope.names,y.2=.free->y.1∈L)(g:g7 (λx=>X.u.kindOf x=some .cell\/X.u.kindOf x=some .free) L):cy X scope :=
 ⟨c,d,e,λy a b=>g.mem y.1 (f y a b)⟩
def lN{a:Scope}(h:g7 (λi=>i<X.N.length/\a.names.lookup (X.N.getD i "")≠some .local) cap):∀i∈cap,i<X.N.length/\a.names.lookup (X.N.getD i "")≠some .local:=h.mem
structure Df(K:Fg1)(mg:Str->Ta)(x:Str)(st:Stmt)(ps:T8)(f:Addr)(fd:FuncData):Prop where
 F:ec K x x st f fd
 m:mg x=some (.ref f)
 b:dq K fd ps []
def fC:bootBuiltins "len" = some (.builtin "len"):=by decide
def uH:bootBuiltins "isinstance" = some (.builtin "isinstance"):=by decide
def xT:bootBuiltins "sorted" = some (.builtin "sorted"):=by decide
def CF:bootBuiltins "min" = some (.builtin "min"):=by decide
def Ll:bootBuiltins "reversed" = some (.type "reversed"):=by decide
def Lm:bootBuiltins "int" = some (.type "int"):=by decide
def Ln:bootBuiltins "str" = some (.type "str"):=by decide
def Lo:bootBuiltins "bool" = some (.type "bool"):=by decide
def rz:bootBuiltins "list" = some (.type "list"):=by decide
def CG:bootBuiltins "tuple" = some (.type "tuple"):=by decide
def gI{o:HO}(a:H p=none):aQ H (aI H p o):=λb u e=>by rw[aK (cG e a)];rwa[e]
def aQ.seqT{K:Fg1}{a:Addr}(e:aQ H H')(h:cZ K H a xs):cZ K H' a xs:=by
 rcases h with(h|⟨o,h⟩)|h
 ·rwa[.inl (.inl (e _ _ h))]
 ·rwa[.inl (.inr ⟨o,e _ _ h⟩)]
 ·rwa[.inr h]
end
end L2
set_option maxHeartbeats 1000000
namespace L2
open PySem PySem.Spec PyProof.Rows
def S(l:T7):Str:=⟨l.toArray⟩
def jI(l:T7):(S l).cps.toList=l:=rfl
def kI(l:T7):(S l).length=l.length:=by simp[S,Str.length]
def xU:S l=S m↔l=m:=⟨λh=>by have:=qe (λx:Str=>x.cps.toList) h;exact this,λh=>by rw[h]⟩
def Lp(x:Str):x=S x.cps.toList:=by cases x;simp[S]
def xW(l m:T7):S l++S m=S (l++m):=by
 show Str.mk (l.toArray++m.toArray)=Str.mk (l++m).toArray;simp
def Lq(l:T7)(c:Nat):Txt.contains (S l) (S [c])=decide (c∈l):=StrLaws.found_one (S l) c
def dA(c:Nat):T7->Nat
 |[]=>0
 |a::r=>if a=c then 0 else dA c r+1
theorem uI(c:Nat):∀(l:T7),c∈l->l[dA c l]?=some c/\∀k,k<dA c l->l[k]?≠some c
 |[],h=>by cases h
 |a::r,h=>by
  delta dA;by_cases ha:a=c
  ·rw[la ha];exact⟨by simp[ha],λk b=>'o'⟩
  ·rw[wa ha]
   have f:c∈r:=by
    rcases cb.mp h with z|z
    ·rwa[absurd z.symm ha]
    ·rwa[z]
   have⟨d,e⟩:=uI c r f;erw[⟨by simpa using d,λk b=>?_⟩]
   cases k with
   |zero=>simpa using ha
   |succ k=>simpa using e k 'o'
def CH(c:Nat)(l:T7)(h:c∈l):dA c l<l.length:=by
 have:=(uI c l h).1
 exact(qa.mp this).1
def xX(l:T7)(c i:Nat):StrLaws.At (S l) (S [c]) (S l).length i↔l[i]?=some c:=StrLaws.subAt_one (S l) c i
def Lr(l:T7)(c a:Nat)(hl:1<=a)(h:c∈l):∃r,Builtin.Str.occurrences (S l) (S [c]) 0 (S l).length a=dA c l::r:=by
 have⟨b,d⟩:=uI c l h;rcases StrLaws.occ_head (S l) (S [c]) a hl with⟨_,hn⟩|⟨i,r,e,ha,f⟩
 ·rwa[absurd ((xX l c _).mpr b) (hn _)]
 ·have g:i=dA c l:=by
   rcases Nat.lt_trichotomy i (dA c l) with z|z|z
   ·rwa[absurd ((xX l c i).mp ha) (d i z)]
   ·rwa[z]
   ·rwa[absurd ((xX l c _).mpr b) (f _ z)]
  exact⟨r,by rw[e,g]⟩
def CI(h:∀c∈l,c<128):Txt.lower (S l)=S (l.map lo1):=by
 rw[lower_ascii (x:=S l) h];simp[S]
section
def uJ(x:Str):It:=⟨λi _=>i<x.length,λi H v H'=>H'=H/\∃c,x.cps.toList[i]?=some c/\v=.str (S [c]),λi _=>x.length<=i⟩
def Ls{K:Fg1}(x:Str)(t:Tok)(it:Addr):g0 P w K tg (uJ x) [it] it (λi h=>h.IsStrIter it "str_ascii_iterator" x t i) where
 mem:=by simp
 obj:=λi h st b hb=>by
  have e:b=it:=by simpa using hb
  subst e;have⟨o,e,c,d⟩:=st;exact⟨o,e,λv z=>by rw[d]at z;cases z⟩
 keep:=λi h h' st k=>by
  have⟨o,e,r⟩:=st;exact⟨o,k it 'm' o e,r⟩
 item:=by
  intro X hP hw hK hc i pins s σ H E I hf st hg;subst hP hw hK;have hg:i<x.length:=hg;obtain⟨ch,hx⟩:∃ch,x.cps[i]?=some ch:=⟨_,yg (show i<x.cps.size from hg)⟩
  have⟨f0,f1,f2,f3,f4,f5⟩:=hf it 'm';erw[wpAny_pyNext_ascii_item st hx λh' st' sb=>?_]
  have I1:ax X pins σ H { s with heap:=h',toks:=s.toks+1 }:=I.turned (λb o hb e=>(sb.2 b hb).trans e) f0 f1 f3 f4 f5;have⟨o,e,c,d⟩:=id st';exact⟨_,rfl,qY (s:={ s with heap:=h',toks:=s.toks+1 }) e c d 'd' ⟨.str ⟨#[ch]⟩,H,I1,⟨_,rfl⟩,⟨rfl,ch,by simpa using hx,rfl⟩,st',λb hb=>(hf b hb).1⟩⟩
 done:=by
  intro X hP hw hK hc i pins s σ H E I hf st hg;subst hP hw hK;have⟨f0,f1,f2,f3,f4,f5⟩:=hf it 'm';have hg:x.length<=i:=hg;rwa[wpAny_pyNext_ascii_end (I.ok.hd hc) st (by have:x.cps.size<=i:=hg;simp[this]) λh' eb=>⟨rfl,I.turned (t':=s.toks) (λb o hb e=>eb b o hb e) f0 f1 f3 f4 f5⟩]
 self:=λ_ _ _ _ _ st h=>wpAny_pyIter_striter_ascii st h
def Lu{K:Fg1}(x:Str)(t:Tok)(it:Addr):g0 P w K tg (uJ x) [it] it (λi h=>h.IsStrIter it "str_iterator" x t i) where
 mem:=by simp
 obj:=λi h st b hb=>by
  have e:b=it:=by simpa using hb
  subst e;have⟨o,e,c,d⟩:=st;exact⟨o,e,λv z=>by rw[d]at z;cases z⟩
 keep:=λi h h' st k=>by
  have⟨o,e,r⟩:=st;exact⟨o,k it 'm' o e,r⟩
 item:=by
  intro X hP hw hK hc i pins s σ H E I hf st hg;subst hP hw hK;have hg:i<x.length:=hg;obtain⟨ch,hx⟩:∃ch,x.cps[i]?=some ch:=⟨_,yg (show i<x.cps.size from hg)⟩
  have⟨f0,f1,f2,f3,f4,f5⟩:=hf it 'm';erw[wpAny_pyNext_wide_item st hx λh' st' sb=>?_]
  have I1:ax X pins σ H { s with heap:=h',toks:=s.toks+1 }:=I.turned (λb o hb e=>(sb.2 b hb).trans e) f0 f1 f3 f4 f5;have⟨o,e,c,d⟩:=id st';exact⟨_,rfl,qY (s:={ s with heap:=h',toks:=s.toks+1 }) e c d 'd' ⟨.str ⟨#[ch]⟩,H,I1,⟨_,rfl⟩,⟨rfl,ch,by simpa using hx,rfl⟩,st',λb hb=>(hf b hb).1⟩⟩
 done:=by
  intro X hP hw hK hc i pins s σ H E I hf st hg;subst hP hw hK;have⟨f0,f1,f2,f3,f4,f5⟩:=hf it 'm';have hg:x.length<=i:=hg;rwa[wpAny_pyNext_wide_end (I.ok.hd hc) st (by have:x.cps.size<=i:=hg;simp[this]) λh' eb=>⟨rfl,I.turned (t':=s.toks) (λb o hb e=>eb b o hb e) f0 f1 f3 f4 f5⟩]
 self:=λ_ _ _ _ _ st h=>wpAny_pyIter_striter_wide st h
end
section
variable {X:Cx}
def rA(C:Str->Prop)(f:Str->V):V->T6->Hp->VK->Prop:=λx vs H Q=>match x,vs with|.str z,[]=>C z/\Q (f z) H|_,_=>False
def Lv{id:String}(h:∀(a:T1) (s:Shared) (b:St) (H:Hp) (z:Str) (t:Tok) (Q:VK),ax X a b H s->C z->Q (f z) H->wpAny (model X.p X.w) X.A (call (.builtin id) [.str z t]) (EP X a b Q) X.xe s):iH X id (rA C f):=by
 intro a s b H x vs v g Q I d e q;unfold rA at q
 split at q
 ·have⟨c,q⟩:=q
  have⟨t,rfl⟩:=d;cases e;rwa[h a s b H _ t Q I c q]
 ·rwa[q.elim]
def Lw:iH X "str.lower" (rA (λz=>Builtin.Str.tooLong (Txt.lower z).length=false) λz=>.str (Txt.lower z)) :=
 Lv λa s b H z t Q I c q=>SC.lower c ⟨.str _,H,I.tok _,⟨_,rfl⟩,q⟩
def xY:V->T6->Hp->VK->Prop:=λx vs H Q=>match x,vs with|.str z,[.str y]=>∃i r,Builtin.Str.occurrences z y 0 z.length 1=i::r/\Q (.int i) H|_,_=>False
def Lx:iH X "str.index" xY:=by
 intro a s f H x vs v g Q I b c q;unfold xY at q
 split at q
 ·have⟨i,r,e,q⟩:=q
  have⟨t,rfl⟩:=b;have⟨u,rfl,d⟩:=c.one;have⟨t',rfl⟩:=d;rwa[SC.index e ⟨.int i,H,I.tok _,⟨_,rfl⟩,q⟩]
 ·rwa[q.elim]
theorem CJ:∀{ys:T8}{a:T9},bD (ys.map V.str) a->StrsAre a ys
 |[],_,.nil=>.nil
 |y::r,_,.cons h t=>by
  have⟨b,rfl⟩:=h;rwa[.cons y b (CJ t)]
def xZ(K:Fg1):V->T6->Hp->VK->Prop:=λx vs H Q=>match x,vs with
 |.str z,[.ref a]=>∃ys:T8,bH K H a (ys.map V.str)/\(ys.map (·.length)).sum+ys.length * z.length<=16777216/\Q (.str (Txt.join z ys)) H
 |_,_=>False
def Ly:iH X "str.join" (xZ X.K):=by
 intro a s g H x vs v h Q I b c q;unfold xZ at q
 split at q
 ·have⟨ys,d,hz,q⟩:=q
  have⟨t,rfl⟩:=b;have⟨u,rfl,e⟩:=c.one;cases e;have⟨its,r,f,_⟩:=I.list d;rwa[join_list f.isList (CJ r) hz λt' k=>⟨.str _,H,I.tok _,⟨_,rfl⟩,q⟩]
 ·rwa[q.elim]
def x0:V->Tc->Tc->Hp->VK->Prop:=λx lo hi H Q=>match x with|.str z=>z.length<=sizeLine/\Q (.str (StrLaws.sliceText z lo hi)) H|_=>False
def Lz:iF X x0:=by
 intro b s j H x v m n r w sl Q I c hs d e h;unfold x0 at h;have⟨z,rfl,hz,q⟩:=K5 h;have⟨t,rfl⟩:=c;erw[⟨"str",_,PySem.F.slot_str_getitem.lookup,typeIs_str _ _ _,?_⟩]
 have a:∀{v:Value} {o:Tc},IsPart v o->∃l:Option (Int×Tok),partValue l=v/\l.map (·.1)=o:=λp=>by
  cases p with
  |none=>exact⟨none,rfl,rfl⟩
  |int i t=>exact⟨some (i,t),rfl,rfl⟩
 have⟨l,e1,e2⟩:=a d;have⟨u,f,g⟩:=a e;subst e1 e2 f g;erw[wpAny_getItem_str_slice (l:=l) (u:=u) (st:=none) hs rfl ?_];erw[post_val_or_str ⟨zc ?_ hz,λt' k=>⟨.str _,H,I.tok _,⟨_,rfl⟩,q⟩⟩];rwa[Txt.slice_le z _ _]
end
def LA(l:T7)(j:Nat):StrLaws.sliceText (S l) none (some (j:Int))=S (l.take j):=by
 by_cases h:j<=l.length
 ·rw[StrLaws.sliceText_to ⟨'o',by rw[jI];omega⟩]
  simp[S]
 ·have e:StrLaws.sliceText (S l) none (some (j:Int))=StrLaws.sliceText (S l) none (some (l.length:Int)):=by
   delta StrLaws.sliceText
   have e1:Builtin.Str.strSliceIndices none (some (j:Int)) 1 (S l).length=Builtin.Str.strSliceIndices none (some (l.length:Int)) 1 (S l).length:=by
    rw[kI];have a:min (j:Int) (l.length:Int)=(l.length:Int):=by omega
    have b:¬(j:Int)<0:=by omega
    have c:¬(l.length:Int)<0:=by omega
    simp[Builtin.Str.strSliceIndices,a,b,c]
   rw[e1]
  rw[e,StrLaws.sliceText_to ⟨'o',by rw[jI];omega⟩];have e2:l.take j=l:=xg 'o';rw[e2];simp[S]
def LB(l:T7)(i:Nat)(h:i<=l.length):StrLaws.sliceText (S l) (some (i:Int)) none=S (l.drop i):=by
 rw[StrLaws.sliceText_from ⟨'o',by rw[jI];omega⟩];rw[jI];have e:((l.length:Int) - (i:Int)).toNat=l.length - i:=by omega
 rw[e,ai];have e2:(l.drop i).take (l.length - i)=l.drop i:=xg 'm';rw[e2];rfl
def nP(a:T7):List T7->T7
 |[]=>[]
 |[x]=>x
 |x::y::r=>x++a++nP a (y::r)
def LC(a:T7)(b:List T7):Txt.join (S a) (b.map S)=S (nP a b):=by
 show Builtin.Str.glued (S a) (b.map S)=_;rw[StrLaws.glued_eq_join]
 induction b with
 |nil=>rfl
 |cons x r c =>
  cases r with
  |nil=>rfl
  |cons y r =>
   show S x++S a++Str.join (S a) ((y::r).map S)=S (x++a++nP a (y::r));rw[c,xW,xW]
theorem CK:∀(a:List T7),nP [] a=a.flatten
 |[]=>rfl
 |[x]=>by simp[nP]
 |x::y::r=>by
  show x++[]++nP [] (y::r)=_;rw[CK (y::r)];simp
end L2
namespace L2
open PySem
noncomputable abbrev dM:T9:=[.type "ValueError",.type "Exception",.type "BaseException",.type "object"]
structure XC(h:Heap)(nm:Str)(C P:Addr)(mN mP:Str->Ta):Prop where
 cls:∃q N bs sn sub ab col dd k0 k1 k2 k3 k5,h.get? C=some (excClassObj nm q C N bs (.ref P::dM) true sn sub ab col dd k0 k1 k2 k3 k5 "ValueError.__new__")/\h.Ns N mN
 par:∃pn q N bs hd sn sub ab col dd k0 k1 k2 k3 k5,h.get? P=some (excClassObj pn q P N bs dM hd sn sub ab col dd k0 k1 k2 k3 k5 "ValueError.__new__")/\h.Ns N mP
theorem XC.keeps(x:XC h nm C P mN mP)(k:∀b o,h.get? b=some o->h'.get? b=some o):XC h' nm C P mN mP:=by
 have⟨⟨q,N,bs,d,a,e,c,dd,f,g,k2,i,j,l,m⟩,n,p,r,s,u,v,w,y,z,A,B,E,F,G,H,I,J⟩:=x;exact⟨⟨q,N,bs,d,a,e,c,dd,f,g,k2,i,j,k _ _ l,m.keeps k⟩,n,p,r,s,u,v,w,y,z,A,B,E,F,G,H,k _ _ I,J.keeps k⟩
section
variable {M:Model}{A:Around}{E:T2}{h:Heap}{g:Array GenState}{d:Drawn}{t:Nat}{os:OsState}
variable {nm:Str}{C P:Addr}{mN mP:Str->Ta}
def lO(x:XC h nm C P mN mP)(o:mP name=none)(e:typeLookup (.type "ValueError") name=pure y)(a:Q (match mN name with|some v=>some v|none=>y) ⟨h,g,d,t,os⟩):wpAny M A (typeLookup (.ref C) name) Q E ⟨h,g,d,t,os⟩:=by
 have⟨⟨q,N,bs,p,f,r,i,dd,s,u,k2,w,z,b,j⟩,B,F,G,H,I,J,K,L,O,R,T,U,X,Y,Z,l,m⟩:=x;have n:lookupAlong dM name=pure y:=by rw[typeLookup_eq,vp.mroIs]at e;rwa[e]
 rw[typeLookup_eq];erw[aa (wpAny_mroOf_exc b ?_)];rw[lookupAlong_cons];erw[aa (wpAny_classOwn_exc b j ?_)]
 cases c:mN name with
 |some v=>rw[c]at a;rwa[ja a]
 |none =>
  rw[c]at a;show wpAny M A (lookupAlong (.ref P::dM) name) Q E _;rw[lookupAlong_cons];erw[aa (wpAny_classOwn_cls l m ?_)];rw[o,n];rwa[ja a]
end
section
variable {prog:Program}{w:World}{A:Around}{E:T2}{h:Heap}{g:Array GenState}{d:Drawn}{t:Nat}{os:OsState}
variable {nm:Str}{C P:Addr}{mN mP:Str->Ta}
def LD(x:XC h nm C P mN mP)(l:mP "__init__" = none)(O:mN "__init__" = some (.ref fI))(v:h.get? fI=some oI)(y:oI.cls=.type "function")(R:∀h' e,Heap.MadeExcOf h h' e (.ref C) rest->h.objs.size<=e->wpAny (model prog w) A (call (.ref fI) (.ref e::rest)) (λr s'=>r=.none/\Q (.done (.ret (.ref e))) s') E ⟨h',g,d,t,os⟩)(i:rest.length<=sizeLine) :
  wpAny (model prog w) A (Builtin.«type.__call__» ⟨.ref C::rest,[]⟩) Q E ⟨h,g,d,t,os⟩:=by
 have K:=x;have⟨⟨q,N,bs,U,F,X,G,dd,Y,Z,k2,k3,k5,j,hn⟩,a1,a2,a3,a4,a5,a6,a7,a8,a9,b0,b1,b2,b3,b4,b5,H,I⟩:=x;have m:=vp;have T:OwnTail h dM (.ref P::dM):=.own H I l .base
 repeat (first|with_reducible refine ce j ?_|with_reducible refine wpAny_madeBy_exc j ?_|wp_step)
 erw[codeAny_call_builtin_code (zm _ m.quiet) (wpAny_check_new_subT m T j (codeAny_exc_new_subT m T j ?_ i))];show wpAny _ _ _ _ _ _;generalize f:(h.push { cls:=.type "tuple",data:=.seq rest.toArray }).push { cls:=.ref C,data:=.fields #[.ref h.objs.size,.none,.none,.none,.bool false,.none] }=h';have n:∀b o,h.get? b=some o->h'.get? b=some o:=λb o z=>by rw[<-f];rwa[na _ (na _ z)]
 have L:=K.keeps n;have p:=n _ _ j;have s:=n _ _ v;have c:h'.get? (h.objs.size+1)=some { cls:=.ref C,data:=.fields #[.ref h.objs.size,.none,.none,.none,.bool false,.none] }:=by rw[<-f];heap_get
 have M:h'.get? h.objs.size=some { cls:=.type "tuple",data:=.seq rest.toArray }:=by rw[<-f];rwa[na _ (Heap.get?_push_at rfl rfl)]
 have u:(ref C::(ref P::dM)).contains (.ref C)=true:=by simp
 delta isInstance
 repeat (first|with_reducible refine ce c ?_|(with_reducible refine ni p ?_;rw[u])|wp_step)
 show wpAny _ _ (typeLookup (.ref C) _) _ _ _;erw[lO L l m.init.lookup ?_];rw[O];erw[ve (aa ?_)];delta bindSpecial;erw[aa (ao (T:="function") ⟨_,s,y⟩ ?_)];rw[la 'd'];erw[ja (aa (gf (R _ (h.objs.size+1) ⟨n,pp (sx _),h.objs.size,c,pp (ib _),M⟩ (sx _)) (λr s' B=>?_) λ_ _ z=>z))];have⟨rfl,J⟩:=B
 wp_walk
 rwa[J]
def LE(x:XC h nm C P mN mP)(c:mP "__init__" = none)(n:mN "__init__" = some (.ref fI))(f:h.get? fI=some oI)(i:oI.cls=.type "function")(o:∀h' e,Heap.MadeExcOf h h' e (.ref C) rest->h.objs.size<=e->wpAny (model prog w) (A.under (.builtin "type.__call__" ⟨.ref C::rest,[]⟩)) (call (.ref fI) (.ref e::rest)) (λr s'=>r=.none/\Q (.ref e) s') E ⟨h',g,d,t,os⟩)(a:rest.length<=sizeLine) :
  wpAny (model prog w) A (call (.ref C) rest) Q E ⟨h,g,d,t,os⟩:=by
 have m:=x;have⟨⟨q,N,bs,p,j,s,l,dd,u,v,k2,y,z,b,hn⟩,_⟩:=x;have B:=tc_lookup;have F:=tc_bind (.ref C);have G:(⟨h,g,d,t,os⟩:Shared).TypeIs (.ref C) "type":=⟨_,b,rfl⟩
 erw[qm (codeAny_of_tree ?_)];show wpAny _ _ (callAny (.ref C) _) _ _ _
 repeat (any_goals (first|assumption|with_reducible refine ce b ?_|wp_step))
 refine⟨rfl,codeAny_call_builtin_at (zm _ 'd') entry_typeCall (wpAny_check_type_call_sub b (LD m c n f i (λh' e hm hs=>?_) a))⟩;exact o h' e hm hs
end
end L2
namespace L2
open PySem
open Builtin Builtin.ObjectAttr
section
variable {prog:Program}{w:World}{A:Around}{E:T2}{h:Heap}{g:Array GenState}{d:Drawn}{t:Nat}{os:OsState}
variable {nm:Str}{C P x:Addr}{mN mP mA:Str->Ta}{name:Str}{v:Value}
def LG(c:StoreFacts "ValueError" dM sa owner)(X:XC h nm C P mN mP)(m:h.get? x=some o)(p:o.cls=.ref C)(f:Q () ⟨h,g,d,t,os⟩) :
  wpAny M A (checkBuiltinCall sa ⟨[.ref x,nameV,v],[]⟩) Q E ⟨h,g,d,t,os⟩:=by
 have⟨⟨q,N,bs,r,i,s,j,dd,u,w,k2,y,z,l,hn⟩,_⟩:=X;have e:(ref C::(ref P::dM)).contains (.type owner)=true:=by rw[ng,ng,c.hasOwner,Bool.or_true,Bool.or_true]
 have ha:=c.args (.ref x) nameV v;simp only[checkBuiltinCall,c.kind,c.split];erw[aa ?_]
 ·delta isInstance
  repeat (first|(with_reducible refine ce m ?_;rw[p])|(with_reducible refine ni l ?_;rw[e])|wp_step)
  cases a:Manifest.signature? sa with
  |none=>exact ja f
  |some b =>
   simp only[argsOk,a]at ha;have n:Bind.checkArgs sa b ⟨[.ref x,nameV,v],[]⟩=pure ():=ha;show wpAny M A (Bind.checkArgs sa b ⟨[.ref x,nameV,v],[]⟩) Q E _;rw[n];rwa[ja f]
def LH(SF:StoreFacts "ValueError" dM sa owner)(X:XC h nm C P mN mP)(hna:mN name=none)(Y:mP name=none)(hB:typeLookup (.type "ValueError") name=pure none)(I:h.Inst x C mA)(hq:∀ h' tk',h'.Inst x C (λ y=>if y=name then some v else mA y)->(∀ b o,b≠x->(∀ a dx,h.get? x=some a->a.dict=some dx->b≠dx)->h.get? b=some o->h'.get? b=some o) →
   (∀a,h.get? x=some a->∃f,h'.get? x=some f/\f.cls=a.cls/\f.data=a.data/\f.slots=a.slots/\∃dx,f.dict=some dx/\(a.dict=some dx\/(a.dict=none/\h.objs.size<=dx)))->Q (.done (.ret .none)) ⟨h',g,d,tk',os⟩)(hw:Within mA ns)(hsz:ns.length+1<=1000) :
  wpAny (model prog w) A (Builtin.«object.__setattr__» ⟨[.ref x,.str name tk,v],[]⟩) Q E ⟨h,g,d,t,os⟩:=by
 have X0:=X;have⟨⟨q,N,bs,sn,sub,ab,col,dd,k0,k1,k2,k3,k5,hC,hn⟩,_⟩:=X;have⟨o,m,O,p,hd⟩:=I;have B:=SF.passes (.ref x);have hz:ns.length+1<=sizeLine:=zc hsz 'd';delta Builtin.«object.__setattr__»
 repeat (first|rw[refuse_eq]|(rw[refuseLoop_ref,refuseLoop_ref,B])|(with_reducible refine ce m ?_;rw[O])|with_reducible refine wpAny_mroOf_exc hC ?_|(with_reducible refine lO X0 Y hB ?_;rw[hna])|wp_step)
 rcases hd with⟨G,Z⟩|⟨dx,l,z,hns⟩
 ·rw[G,wa (by simp[typeHasDict])]
  split
  ·rename_i n
   cases n
  split
  ·rename_i c n
   rwa[absurd n (p c)]
  ·have H:(h.push { cls:=.type "dict",data:=.dict #[] }).get? x=some o:=na _ m
   have F:x≠h.objs.size:=vc (wb m);erw[aa (wpAny_alloc' (aa (wpAny_update' H (ja ?_))))];generalize eh:((h.push { cls:=.type "dict",data:=.dict #[] }).update x λo=>{ cls:=o.cls,dict:=some h.objs.size,data:=o.data,slots:=o.slots })=h1;have hgd:h1.get? h.objs.size=some { cls:=.type "dict",data:=.dict #[] }:=by rw[<-eh];exact(Heap.get?_update_ne _ _ _ _ F.symm).trans (Heap.get?_push_at rfl rfl)
   have hnd:h1.Ns h.objs.size (λ_=>none):=⟨_,#[],_,hgd,rfl,λe he=>absurd he 'm',λ_=>rfl⟩
   have hx2:h1.get? x=some { cls:=o.cls,dict:=some h.objs.size,data:=o.data,slots:=o.slots }:=by
    rw[<-eh];erw[be _ H ?_];have hfr:=(Heap.get?_some_iff.mp m).2;have⟨oc,od,R,osl⟩:=o
    cases R <;> first|rfl|exact hfr
   show wpAny _ _ (storeInDict h.objs.size (.str name tk) name v) _ _ _;delta storeInDict newKeyGuard;erw[aa (ja (aa (wpAny_nsSet1 (Heap.Ns1.of_empty hnd) λh' j hs=>?_)))];have⟨oD,T,U,r,s,u⟩:=j.count (Within.cons name v Within.nil);erw[aa (wpAny_lookBehind r (by rw[s];rwa[pastItsLine_dict (zc u (by rw[zb,ye];omega))]) ?_)]
   wp_walk
   have J:h'.get? x=some { cls:=o.cls,dict:=some h.objs.size,data:=o.data,slots:=o.slots }:=(hs.2 x F).trans hx2;erw[hq h' _ ⟨_,J,O,p,.inr ⟨h.objs.size,rfl,F.symm,?_⟩⟩ (λb ob L _ K=>?_) (λa h₀=>by obtain rfl:o=a:=md (m.symm.trans h₀);exact⟨_,J,rfl,rfl,rfl,h.objs.size,rfl,.inr ⟨G,ib _⟩⟩)]
   ·have⟨o',es,ep,e1,e2,e3,eu,e4⟩:=j
    exact⟨o',es,ep,e1,e2,e3,eu,λy=>by rw[e4 y];by_cases hy:y=name <;> simp[hy,Z]⟩
   ·refine(hs.2 b (vc (wb K))).trans ?_
    rw[<-eh];exact(Heap.get?_update_ne _ _ _ _ L).trans (na _ K)
 ·rw[l]
  erw[ja ?_];show wpAny _ _ (storeInDict dx (.str name tk) name v) _ _ _;delta storeInDict newKeyGuard;erw[aa (ja (aa (wpAny_nsSet1 hns λh' j hs=>?_)))];have⟨oD,T,U,r,s,u⟩:=j.count (Within.cons name v hw);erw[aa (wpAny_lookBehind r (by rw[s];rwa[pastItsLine_dict (zc u (by rw[zb];omega))]) ?_)]
  wp_walk
  erw[hq h' _ ⟨o,(hs.2 x z.symm).trans m,O,p,.inr ⟨dx,l,z,j⟩⟩ (λb ob _ M K=>(hs.2 b (M o dx m l)).trans K) (λa h₀=>by obtain rfl:o=a:=md (m.symm.trans h₀);exact⟨o,(hs.2 x z.symm).trans h₀,rfl,rfl,rfl,dx,l,.inl l⟩)]
def LI(e:StoreFacts "ValueError" dM sa owner)(X:XC h nm C P mN mP)(f:mN name=none)(i:mP name=none)(n:typeLookup (.type "ValueError") name=pure none)(I:h.Inst x C mA)(p:∀ h' j,h'.Inst x C (λ y=>if y=name then some v else mA y)->(∀ b o,b≠x->(∀ a dx,h.get? x=some a->a.dict=some dx->b≠dx)->h.get? b=some o->h'.get? b=some o) →
   (∀a,h.get? x=some a->∃c,h'.get? x=some c/\c.cls=a.cls/\c.data=a.data/\c.slots=a.slots/\∃dx,c.dict=some dx/\(a.dict=some dx\/(a.dict=none/\h.objs.size<=dx)))->R (.ok (.ret .none)) ⟨h',g,d,j,os⟩)(q:Within mA ns)(hsz:ns.length+1<=1000) :
  codeAny (model prog w) A (.call (.builtin sa) ⟨[.ref x,.str name tk,v],[]⟩) R ⟨h,g,d,t,os⟩:=by
 have⟨o,l,m,_⟩:=id I;exact rh e.slot.plain e.entry (LG e X l m (LH e X f i n I p q hsz))
def CL(h:Heap)(x C:Addr)(mA:Str->Ta)(name:Str)(v:Value)(h':Heap):Prop :=
 h'.Inst x C (λy=>if y=name then some v else mA y)/\(∀b o,b≠x->(∀a dx,h.get? x=some a->a.dict=some dx->b≠dx)->h.get? b=some o->h'.get? b=some o) ∧
 (∀a,h.get? x=some a->∃c,h'.get? x=some c/\c.cls=a.cls/\c.data=a.data/\c.slots=a.slots/\∃dx,c.dict=some dx/\(a.dict=some dx\/(a.dict=none/\h.objs.size<=dx)))
def LJ(c:StoreFacts "ValueError" dM sa owner)(X:XC h nm C P mN mP)(e:mN "__setattr__" = none)(jV:mP "__setattr__" = none)(f:mN name=none)(i:mP name=none)(p:typeLookup (.type "ValueError") name=pure none)(I:h.Inst x C mA)(q:∀h' a,CL h x C mA name v h'->Q () ⟨h',g,d,a,os⟩)(r:Within mA ns)(hsz:ns.length+1<=1000) :
  wpAny (model prog w) A (setAttr (.ref x) name v) Q E ⟨h,g,d,t,os⟩:=by
 have⟨o,m,n,_⟩:=id I;have s:=c.slot.bind (.ref x);delta setAttr callSpecial? specialOf
 repeat (any_goals (first|assumption|(with_reducible refine ce m ?_;rw[n])|(with_reducible refine lO X jV c.slot.lookup ?_;rw[e])|wp_step))
 erw[LI c X f i p I (λh' a j l b=>?_) r hsz]
 repeat (any_goals (first|assumption|wp_step))
 rwa[q h' a ⟨j,l,b⟩]
def CM(X:XC h nm C P mN mP)(a:mN "__setattr__" = none)(jV:mP "__setattr__" = none)(b:mN name=none)(c:mP name=none)(f:typeLookup (.type "ValueError") name=pure none)(I:h.Inst x C mA)(i:∀h' e,CL h x C mA name v h'->Q () ⟨h',g,d,e,os⟩)(j:Within mA ns)(hsz:ns.length+1<=1000):wpAny (model prog w) A (setAttr (.ref x) name v) Q E ⟨h,g,d,t,os⟩:=LJ F.store_ValueError X a jV b c f I i j hsz
def LK(X:XC h nm C P mN mP)(m:mN name=none)(l:mP name=none)(G:typeLookup (.type "ValueError") name=pure none)(I:h.Inst x C mA)(n:mA name=some v)(H:Q (.done (.ret v)) ⟨h,g,d,t,os⟩) :
  wpAny (model prog w) A (Builtin.«object.__getattribute__» ⟨[.ref x,.str name tk],[]⟩) Q E ⟨h,g,d,t,os⟩:=by
 have F:=X;have⟨⟨q,N,bs,J,s,K,u,dd,L,M,k2,O,R,y,hn⟩,_⟩:=X;have⟨o,p,r,e,z⟩:=I;rcases z with⟨_,f⟩|⟨dx,i,B,j⟩
 ·rw[f name]at n;cases n
 delta Builtin.«object.__getattribute__»
 repeat (first|(with_reducible refine ce p ?_;rw[r])|(with_reducible refine lO F l G ?_;rw[m])|wp_step)
 split
 ·rename_i c b
  rwa[absurd b (e c)]
 delta instanceDict
 repeat (first|(with_reducible refine ce p ?_;rw[r])|with_reducible refine ce y ?_|wp_step)
 rw[i]
 repeat (first|(with_reducible refine wpAny_nsGet j.ns ?_;rw[n])|wp_step)
 rwa[H]
def CN:typeLookup (.type "ValueError") "__getattr__" = pure none:=by rw[vm,ak];kernel_rfl
def CO(X:XC h nm C P mN mP)(f:h.get? x=some o)(j:o.cls=.ref C)(l:Q () ⟨h,g,d,t,os⟩):wpAny M A (checkBuiltinCall "BaseException.__getattribute__" ⟨[.ref x,nameV],[]⟩) Q E ⟨h,g,d,t,os⟩:=by
 have⟨⟨q,N,bs,m,b,n,c,dd,p,r,k2,s,u,e,hn⟩,_⟩:=X;have i:builtinKind "BaseException.__getattribute__" = some .slot:=by decide
 have hs:splitId "BaseException.__getattribute__" = some ("BaseException","__getattribute__"):=by decide
 have a:(ref C::(ref P::dM)).contains (.type "BaseException")=true:=by rw[ng,ng];simp
 have ha:=F.args_bexc_ga (.ref x) nameV;simp only[checkBuiltinCall,i,hs];erw[aa ?_]
 ·delta isInstance
  repeat (first|(with_reducible refine ce f ?_;rw[j])|(with_reducible refine ni e ?_;rw[a])|wp_step)
  rwa[l]
def LL(X:XC h nm C P mN mP)(p:mN "__getattribute__" = none)(a:mP "__getattribute__" = none)(q:mN "__getattr__" = none)(c:mP "__getattr__" = none)(f:mN name=none)(i:mP name=none)(r:typeLookup (.type "ValueError") name=pure none)(I:h.Inst x C mA)(s:mA name=some v)(y:handedOut v=pure v)(z:Q v ⟨h,g,d,t+1,os⟩) :
  wpAny (model prog w) A (getAttr (.ref x) name expr) Q E ⟨h,g,d,t,os⟩:=by
 have b:=F.excAttr_ValueError;have⟨o,j,l,_⟩:=id I;have u:=b.ga.bind (.ref x);have m:(expr && onTheHeap (Value.builtin "BaseException.__getattribute__"))=false:=by cases expr <;> rfl
 have e:(Value.builtin "BaseException.__getattribute__" == Value.builtin "object.__getattribute__")=false:=by decide
 have n:(onTheHeap (ref C) && Value.builtin "BaseException.__getattribute__" == Value.builtin "object.__getattribute__")=false:=by rw[e];rfl
 delta getAttr getAttrBy
 repeat (any_goals (first|assumption|(with_reducible refine ce j ?_;rw[l])|(with_reducible refine lO X a b.ga.lookup ?_;rw[p])|(with_reducible refine lO X c CN ?_;rw[q])|wp_step))
 refine rh b.ga.plain F.entry_bexc_ga (CO X j l (LK X f i r I s ?_))
 repeat (any_goals (first|assumption|wp_step))
end
end L2
namespace L2
open PySem
section
variable {A:Around}
def LM(n:A.handled=none)(h:wpAny M A x (λv a=>∃e c t0 sl,v=.ref e/\XC a.heap nm C P mN mP/\a.heap.get? e=some ⟨.ref C,c,.fields #[.ref t0,.none,.none,.none,.bool false,.none],sl⟩/\E (.ref e) a) E s):wpAny M A (raiseStmt env (some x) none) Q E s:=by
 have b:(ref C::(ref P::dM)).contains (.type "BaseException")=true:=by rw[ng,ng];simp
 delta raiseStmt;erw[aa (gf h (λv a i=>?_) λ_ _ z=>z)];have⟨e,c,t0,sl,rfl,X,he,j⟩:=i;have⟨⟨q,N,bs,o,l,p,m,dd,r,u,k2,w,y,f,hn⟩,_⟩:=X;have⟨B,g,d,F,os⟩:=a
 repeat (first|with_reducible refine ce he ?_|with_reducible refine ce f ?_|(with_reducible refine ni f ?_;rw[b])|wp_step)
 rwa[wpAny_raiseNew_none n j]
def LN(c:A.handled=none)(h:wpAny M A (eval x env) (λv a=>∃e d t0 sl,v=.ref e/\XC a.heap nm C P mN mP/\a.heap.get? e=some ⟨.ref C,d,.fields #[.ref t0,.none,.none,.none,.bool false,.none],sl⟩/\E (.ref e) a) E s):wpAny M A (exec (.Raise (some x) none pos) env) Q E s:=by
 rw[arm_exec_Raise];rwa[aa (am (LM c (aa (gf h (λv a b=>aa (am (ja b))) λ_ _ z=>z))))]
end
def jJ(h:Heap)(e:Addr):Prop:=∃a vs T b c,h.get? e=some a/\a.data=.fields vs/\vs[1]?=some (.ref T)/\T≠e/\h.get? T=some b/\b.data=.fields c/\c[3]?=some .none
structure rB(fs:Tj)(e:Addr)(h h':Heap):Prop where
 trc:jJ h' e
 exc:∀oe vs,h.get? e=some oe->oe.data=.fields vs->∃vs',h'.get? e=some { oe with data:=.fields vs' }
 keep:∀b o,b≠e->b ∉ fs->h.get? b=some o->h'.get? b=some o
 slot:∀b o,b∈fs->h.get? b=some o->∃sl,h'.get? b=some { o with slots:=sl }
def x3{o:Obj}(a:o.data=.fields vs)(f:Tf->Tf):o.mapFields f={ o with data:=.fields (f vs) }:=by
 have⟨c,d,dt,sl⟩:=o;cases a;rfl
section
variable {A:Around}{s:Shared}
def LO(O:A.frames=some (env::d))(hl:s.heap.FunFrames base (env::d))(Y:env.frame=some L)(he:s.heap.get? e=some oe)(B:oe.data=.fields vs)(hsz:1<vs.size)(q:∀h',rB ((env::d).filterMap (·.frame)) e s.heap h'->Q () { s with heap:=h' }) :
  wpAny M A (do let a ← frameOf env;let C ← entryPlaceOf L N;let b ← EntryCells.newEntry i a .none (rawInt L) .none C;setField (.ref e) 1 b) (λ_ s'=>wpAny M A (setFlight (.ref e) none) Q E s') E s:=by
 have w:e ∉ (env::d).filterMap (·.frame):=λhm=>by
  have⟨_,o,P,H⟩:=hl.mem hm;rw[he]at P;cases P;rwa[H vs B]
 refine aa (wpAny_frameOf_fun O hl Y λc F=>?_);refine aa (wpAny_entryPlaceOf λC G=>?_);unfold EntryCells.newEntry newFields;refine aa (pf ?_ (G.sizeOk5 _ _ _ _ _));have e1:c.get? e=some oe:=(F.2.1 e w).trans he;generalize y:({ cls:=.type "traceback",dict:=none,data:=.fields ([i,.ref L,.none,rawInt L,.none]++(if C.isEmpty then replicate 6 Value.none else C)).toArray }:Obj)=ob;have J:ob.isFreed=false:=by rw[<-y];rfl
 obtain⟨I,m,v⟩:∃I,ob.data=.fields I/\3<I.size:=⟨_,by rw[<-y],by simp only[xa,ma,zb,ye];omega⟩
 have e2:=na (h:=c) ob e1;erw[ii e2 B hsz ?_];have n:c.objs.size≠e:=yl (wb e1);have K:=cf B (·.setIfInBounds 1 (ref c.objs.size));have R:=be (mapFields (·.setIfInBounds 1 (ref c.objs.size))) e2 (dh K);have T:=(qc (c.push ob) (mapFields (·.setIfInBounds 1 (ref c.objs.size))) (vf n)).trans (bc c J);delta setFlight;erw[aa (vh R K (x:=.ref c.objs.size) (by simp[hsz]) ?_)];rw[la (show (ref c.objs.size != Value.none)=true from by simp)];erw[ii T m v (q _ ?_)]
 have g:∀b o,b≠e->c.get? b=some o->((((c.push ob).update e (mapFields (·.setIfInBounds 1 (ref c.objs.size)))).update c.objs.size (mapFields (·.setIfInBounds 3 ((none:Tk).elim Value.none λf=>rawInt f)))).get? b)=some o:=λb o j p=>by
  rw[qc _ _ (yl (wb p)),qc _ _ (vf j)];rwa[na _ p]
 have U:(((c.push ob).update e (mapFields (·.setIfInBounds 1 (ref c.objs.size)))).update c.objs.size (mapFields (·.setIfInBounds 3 ((none:Tk).elim Value.none λf=>rawInt f)))).get? e=some (oe.mapFields (·.setIfInBounds 1 (ref c.objs.size))):=by
  rw[qc _ _ n];rwa[R]
 erw[⟨⟨_,_,c.objs.size,_,_,U,K,by simp[hsz],n,be _ T (dh (cf m _)),cf m _,by simp[v]⟩,λZ X r u=>?_,λb o j l p=>g b o j ((F.2.1 b l).trans p),λb o l p=>?_⟩]
 ·rw[he]at r;cases r
  rw[B]at u;cases u;exact⟨_,by rw[U,x3 B]⟩
 ·have⟨sl,hs⟩:=F.2.2 b o p
  exact⟨sl,g b _ (λz=>w (by rw[<-z];rwa[l])) hs⟩
def LP{vs:Tf}(h:vs[i]?=some v):vs.setIfInBounds i v=vs:=by
 apply Array.ext_getElem?;intro j;rw[Array.getElem?_setIfInBounds];split
 ·rename_i e
  subst e;split
  ·rwa[h.symm]
  ·rename_i hn
   rw[wl 'o']
 ·rfl
def x4{h:Heap}{a:Obj}(c:h.get? T=some a)(g:a.data=.fields f)(j:f[i]?=some v)(b:Addr):(h.update T (mapFields (·.setIfInBounds i v))).get? b=h.get? b:=by
 by_cases d:b=T
 ·subst d
  have e:a.mapFields (·.setIfInBounds i v)=a:=by rw[x3 g,LP j,<-g]
  rw[be _ c (by rw[e];exact(Heap.get?_some_iff.mp c).2),e,c]
 ·rwa[qc _ _ (vf d)]
def LQ(j:A.frames=some (env::c))(hl:s.heap.FunFrames base (env::c))(r:env.frame=some L)(x:jJ s.heap e)(q:∀h',rB ((env::c).filterMap (·.frame)) e s.heap h'->Q () { s with heap:=h' }):wpAny M A (noteFrame (.ref e) env) (λ_ s'=>wpAny M A (setFlight (.ref e) none) Q E s') E s:=by
 have⟨l,vs,T,y,z,he,m,p,w,h,d,i⟩:=x;delta noteFrame;simp only[r];erw[aa (vh he m p ?_)];rw[la (show (ref T != Value.none)=true from by simp)];erw[aa (vh h d i ?_)];rw[wa (show ¬((Value.none == rawInt L)=true) from by simp[rawInt])];erw[aa (ii h d (yd.mp i).1 ?_)];have same:=x4 h d i;erw[LO (base:=base) j (hl.of_keeps λb o u _=>⟨o,(same b).trans u,rfl⟩) r ((same e).trans he) m (yd.mp p).1 λh' n=>q h' ⟨n.trc,λl vs a b=>n.exc l vs ((same e).trans a) b,λb o f g v=>n.keep b o f g ((same b).trans v),λb o f g=>n.slot b o f ((same b).trans g)⟩]
end
end L2
namespace L2
open PySem PySem.Spec PyProof.Rows
section
variable {κ:Type}[DecidableEq κ]
noncomputable def dB(kvs:List (κ×V))(k:κ):Option V:=(kvs.find? λa=>decide (a.1=k)).map (·.2)
noncomputable def fN(kvs:List (κ×V))(k:κ)(v:V):List (κ×V) :=
 if (kvs.any λa=>decide (a.1=k))=true then kvs.map (λa=>if a.1=k then (a.1,v) else a) else kvs++[(k,v)]
def nQ{p:κ×V}(e:p.1=k):dB (p::r) k=some p.2:=by simp[dB,ig,e]
def mz{p:κ×V}(e:¬p.1=k):dB (p::r) k=dB r k:=by simp[dB,ig,e]
theorem x5(k:κ):∀kvs:List (κ×V),(kvs.any λa=>decide (a.1=k))=(dB kvs k).isSome
 |[]=>rfl
 |p::r=>by
  rw[yh];by_cases e:p.1=k
  ·simp only[nQ e,db e,Bool.true_or,Option.isSome_some]
  ·rw[mz e,ac e,Bool.false_or];rwa[x5 k r]
def x6(kvs:List (κ×V))(k:κ)(v:V):(fN kvs k v).length<=kvs.length+1:=by
 delta fN;split
 ·rw[ba];omega
 ·rw[ma,zb,ye];omega
def eO.isSome_eq(r:eO o u):o.isSome=u.isSome:=by
 cases o with
 |none=>cases u with
  |none=>rfl
  |some _=>exact(show False from r).elim
 |some _=>cases u with
  |none=>exact(show False from r).elim
  |some _=>rfl
theorem eO.getD(r:eO o u)(a:bj d d'):bj (o.getD d) (u.getD d'):=by
 cases o with
 |none=>cases u with
  |none=>rwa[a]
  |some _=>exact(show False from r).elim
 |some _=>cases u with
  |none=>exact(show False from r).elim
  |some _=>rwa[r]
def KV.val(r:KV kvs vs)(k:κ):eO (dB kvs k) (valueAt vs k):=by
 unfold KV at r
 induction r with
 |nil=>rwa[qh]
 |@cons p q ps qs h t ih =>
  have⟨h1,h2⟩:=h;by_cases e:p.1=k
  ·have e':q.1=k:=h1.symm.trans e
   have b:valueAt (q::qs) k=some q.2:=by simp[valueAt,ig,e']
   rw[nQ e,b];rwa[h2]
  ·have e':¬q.1=k:=λz=>e (h1.trans z)
   have b:valueAt (q::qs) k=valueAt qs k:=by simp[valueAt,ig,e']
   rw[mz e,b];rwa[ih]
theorem KV.any(r:KV kvs vs)(k:κ):(kvs.any λa=>decide (a.1=k))=vs.any λa=>decide (a.1=k):=by
 unfold KV at r
 induction r with
 |nil=>rfl
 |cons h t b=>rw[yh,yh,b,h.1]
def KV.repl(r:KV kvs vs)(k:κ)(ry:bj y u) :
  KV (kvs.map λkv=>if kv.1=k then (kv.1,y) else kv) (vs.map λkv=>if kv.1=k then (kv.1,u) else kv):=by
 unfold KV at r ⊢
 induction r with
 |nil=>rwa[.nil]
 |@cons p q ps qs h t ih =>
  rw[oa,oa];erw[.cons ?_ ih];have⟨h1,h2⟩:=h;by_cases e:p.1=k
  ·rw[la e,la (h1.symm.trans e)];exact⟨h1,ry⟩
  ·rw[wa e,wa (λz=>e (h1.trans z))];exact⟨h1,h2⟩
def KV.put(r:KV kvs vs)(k:κ)(a:bj y u):KV (fN kvs k y) (stored vs k u):=by
 delta fN stored;rw[r.any k];by_cases e:(vs.any λb=>decide (b.1=k))=true
 ·rw[la e,la e];rwa[r.repl k a]
 ·rw[wa e,wa e];rwa[Paired.snoc r ⟨rfl,a⟩]
theorem KV.length(r:KV kvs vs):kvs.length=vs.length:=Paired.length r
end
def pG(r:bj (kV k) u):(gg P w).is k u=true:=by
 cases k with
 |inl i=>have⟨t,e⟩:=(show ∃t,u=Value.int i t from r);subst e;rwa[Ih P w i t]
 |inr x=>have⟨t,e⟩:=(show ∃t,u=Value.str x t from r);subst e;rwa[Ii P w x t]
theorem CP:∀{ks:List aW}{a:T9},bD (ks.map kV) a->ItemsAre (gg P w) ks a
 |[],_,r=>by rw[oj]at r;cases r;rwa[.nil]
 |k::ks,_,r=>by
  rw[oa]at r
  cases r with
  |cons h t=>rwa[.cons (pG h) (CP t)]
abbrev KT(H:Hp):List (List aW×V)->List (List aW×Addr×Value)->Prop:=Paired λp q=>p.1=q.1/\H q.2.1=some (.tup (p.1.map kV))/\bj p.2 q.2.2
def KT.val(r:KT H kvs xs)(k:List aW):eO (dB kvs k) ((atKey xs k).map (·.2)):=by
 induction r with
 |nil=>rwa[qh]
 |@cons p q ps qs h t ih =>
  have⟨h1,_,h2⟩:=h;by_cases e:p.1=k
  ·have e':q.1=k:=h1.symm.trans e
   have b:atKey (q::qs) k=some q.2:=by simp[atKey,ig,e']
   rw[nQ e,b];rwa[h2]
  ·have e':¬q.1=k:=λz=>e (h1.trans z)
   have b:atKey (q::qs) k=atKey qs k:=by simp[atKey,ig,e']
   rw[mz e,b];rwa[ih]
def KT.repl(r:KT H kvs xs)(k:List aW)(ry:bj y u) :
  KT H (kvs.map λkv=>if kv.1=k then (kv.1,y) else kv) (xs.map (putAt k u)):=by
 induction r with
 |nil=>rwa[.nil]
 |@cons p q ps qs h t ih =>
  rw[oa,oa];erw[.cons ?_ ih];have⟨h1,h2,h3⟩:=h;delta putAt;by_cases e:p.1=k
  ·rw[la e,la (h1.symm.trans e)];exact⟨h1,h2,ry⟩
  ·rw[wa e,wa (λz=>e (h1.trans z))];exact⟨h1,h2,h3⟩
def KT.put(r:KT H kvs xs)(k:List aW)(d:H b=some (.tup (k.map kV)))(a:bj y u) :
  KT H (fN kvs k y) (storedH xs k b u):=by
 have e:(kvs.any λc=>decide (c.1=k))=(atKey xs k).isSome:=by
  rw[x5,(r.val k).isSome_eq,ci]
 delta fN storedH;rw[e];by_cases q:(atKey xs k).isSome=true
 ·rw[la q,la q];rwa[r.repl k a]
 ·rw[wa q,wa q];rwa[Paired.snoc r ⟨rfl,d,a⟩]
def KT.keeps(r:KT H kvs xs)(a:∀b ys,H b=some (.tup ys)->H' b=some (.tup ys)):KT H' kvs xs :=
 Paired.mapP r λ_ _ z=>⟨z.1,a _ _ z.2.1,z.2.2⟩
section
variable {h:Heap}
def CQ(ok:cT P w H h)(e:Rd H a u):cw P w H h a u:=e.ok ok
def mB(ok:cT P w H h)(e:Rd H a (.dK kvs)):kvs.length<=sizeLine/\(a == sysModules)=false/\∃vs,KV kvs vs/\h.DictOf (gg P w) a vs :=
 show cw P w H h a (.dK kvs) from CQ ok e
def LR(ok:cT P w H h)(e:H a=some (.dK kvs)):kvs.length<=sizeLine/\(a == sysModules)=false/\∃vs,KV kvs vs/\h.DictOf (gg P w) a vs:=mB ok (.inl e)
def nR(ok:cT P w H h)(e:H a=some (.tup (ks.map kV))):(tupleKind (gg P w)).is h ks a:=by
 have⟨_,its,r,o,b,c,n,d⟩:=(show cw P w H h a (.tup (ks.map kV)) from ok a _ e)
 exact⟨o,its.toArray,n,b,c,d,by simpa using CP r⟩
def nT(ok:cT P w H h)(e:Rd H a (.dT kvs)):kvs.length<=sizeLine/\(a == sysModules)=false ∧
  ∃xs,KT H kvs xs/\h.DictOfH (tupleKind (gg P w)) a xs:=by
 have⟨z,y,xs,r,o,es,ep,h1,h2,h3,h4,h5⟩:=(show cw P w H h a (.dT kvs) from CQ ok e)
 erw[⟨z,y,xs,r,o,es,ep,h1,h2,h3,h4,λx hx=>?_,h5⟩]
 have all:∀{l:List (List aW×V)} {m:List (List aW×Addr×Value)},KT H l m->∀x∈m,(tupleKind (gg P w)).is h x.1 x.2.1:=by
  intro l m q
  induction q with
  |nil=>intro x hx;rwa[nomatch hx]
  |@cons p q ps qs hq t ih =>
   intro x hx;rcases cb.mp hx with e|hx
   ·subst e
    rwa[nR ok (by rw[<-hq.1];rwa[hq.2.1])]
   ·rwa[ih x hx]
 rwa[all r x hx]
def CS(ok:cT P w H h)(e:H a=some (.dT kvs)):kvs.length<=sizeLine/\(a == sysModules)=false ∧
  ∃xs,KT H kvs xs/\h.DictOfH (tupleKind (gg P w)) a xs:=nT ok (.inl e)
end
def g8(H:Hp)(a:Addr)(y:V)(r:Option V):Prop :=
 (∃kvs k,Rd H a (.dK kvs)/\y=kV k/\r=dB kvs k)\/∃kvs k b,Rd H a (.dT kvs)/\y=.ref b/\H b=some (.tup (k.map kV))/\r=dB kvs k
def mC(H:Hp)(a:Addr)(y v:V)(H':Hp):Prop :=
 (∃kvs k,H a=some (.dK kvs)/\y=kV k/\kvs.length<sizeLine/\H'=aI H a (.dK (fN kvs k v))) ∨
 ∃kvs k b,H a=some (.dT kvs)/\y=.ref b/\H b=some (.tup (k.map kV))/\kvs.length<sizeLine/\H'=aI H a (.dT (fN kvs k v))
theorem g8.k{H:Hp}{a:Addr}{kvs:List (aW×V)}{k:aW}(e:H a=some (.dK kvs)):g8 H a (kV k) (dB kvs k):=.inl ⟨kvs,k,.inl e,rfl,rfl⟩
def g8.t{k:List aW}(e:H a=some (.dT kvs))(c:H b=some (.tup (k.map kV))):g8 H a (.ref b) (dB kvs k):=.inr ⟨kvs,k,b,.inl e,rfl,c,rfl⟩
theorem mC.k{H:Hp}{a:Addr}{kvs:List (aW×V)}{k:aW}{v:V}(e:H a=some (.dK kvs))(hl:kvs.length<sizeLine):mC H a (kV k) v (aI H a (.dK (fN kvs k v))):=.inl ⟨kvs,k,e,rfl,hl,rfl⟩
def mC.t{kvs:List (List aW×V)}{k:List aW}(e:H a=some (.dT kvs))(c:H b=some (.tup (k.map kV)))(hl:kvs.length<sizeLine) :
  mC H a (.ref b) v (aI H a (.dT (fN kvs k v))):=.inr ⟨kvs,k,b,e,rfl,c,hl,rfl⟩
section
variable {X:Cx}{s:Shared}{o:Option V}{A:Around}
def ax.big(I:ax X pins σ H s):sysModules<s.heap.objs.size:=by
 have h:mainGlobals<s.heap.objs.size:=(I.mod.glob.keeps I.bk).lt;rwa[Nat.lt_trans 'd' h]
def LS(B:A.units+1<cLine)(I:ax X pins σ H s)(g:g8 H a y (some v))(n:bj y u)(h:∀f s',ax X pins σ H s'->bj v f->Q f s') :
  wpAny (model X.p X.w) A (getItem (.ref a) u) Q E s:=by
 rcases g with⟨kvs,k,e,m,l⟩|⟨kvs,k,b,e,m,x,l⟩
 ·subst m
  have⟨z,q,vs,c,dd⟩:=mB I.hok e;have⟨f,i,d⟩:=eO.some_of (v:=v) (o:=valueAt vs k) (by rw[l];rwa[c.val k]);rwa[wpAny_getItem_of (pG n) dd.mapOf i (h f _ (I.tok _) d)]
 ·subst m
  cases (show u=ref b from n)
  have⟨z,q,xs,c,dd⟩:=nT I.hok e;have⟨f,i,d⟩:=eO.some_of (v:=v) (o:=(atKey xs k).map (·.2)) (by rw[l];rwa[c.val k]);have⟨p,r,j⟩:=yb.mp i;erw[wpAny_getItem_heap (xj B) (nR I.hok x) dd r ?_];rw[j];rwa[h f _ (I.tok _) d]
def LT(m:A.units+1<cLine)(I:ax X pins σ H s)(g:g8 H a y o)(i:bj y u)(h:∀s',ax X pins σ H s'->Q (.bool o.isSome) s') :
  wpAny (model X.p X.w) A (compareOp .In u (.ref a)) Q E s:=by
 rcases g with⟨kvs,k,e,f,l⟩|⟨kvs,k,b,e,f,j,l⟩
 ·subst f
  have⟨z,d,vs,c,dd⟩:=mB I.hok e;erw[wpAny_in_of (pG i) d dd.mapOf ?_];rw[<-(c.val k).isSome_eq,<-l];rwa[h _ (I.tok _)]
 ·subst f
  cases (show u=ref b from i)
  have⟨z,d,xs,c,dd⟩:=nT I.hok e;erw[wpAny_in_heap (xj m) (nR I.hok j) d dd ?_];have q:=(c.val k).isSome_eq;rw[ci]at q;rw[<-q,<-l];rwa[h _ (I.tok _)]
def LU(m:A.units+1<cLine)(I:ax X pins σ H s)(g:g8 H a y o)(i:bj y u)(h:∀s',ax X pins σ H s'->Q (.bool (!o.isSome)) s') :
  wpAny (model X.p X.w) A (compareOp .NotIn u (.ref a)) Q E s:=by
 rcases g with⟨kvs,k,e,f,l⟩|⟨kvs,k,b,e,f,j,l⟩
 ·subst f
  have⟨z,d,vs,c,dd⟩:=mB I.hok e;erw[wpAny_notIn_of (pG i) d dd.mapOf ?_];rw[<-(c.val k).isSome_eq,<-l];rwa[h _ (I.tok _)]
 ·subst f
  cases (show u=ref b from i)
  have⟨z,d,xs,c,dd⟩:=nT I.hok e;erw[wpAny_notIn_heap (xj m) (nR I.hok j) d dd ?_];have q:=(c.val k).isSome_eq;rw[ci]at q;rw[<-q,<-l];rwa[h _ (I.tok _)]
def x8(I:ax X pins σ H s)(f:qV (H a))(hs:Heap.SameBut a s.heap h')(he:∃q,h'.get? a=some q)(new:cw X.p X.w (aI H a c) h' a c) :
  ax X pins σ (aI H a c) { s with heap:=h',toks:=t' } :=
 I.write (x:=a) (e:=a) f 'j' (λb q d z=>(hs.2 b d).trans z) he new
def LW(z:kvs.length<=sizeLine)(c:(a == sysModules)=false)(b:KV kvs vs)(dd:h'.DictOf (gg P w) a vs) :
  cw P w H' h' a (.dK kvs):=⟨z,c,vs,b,dd⟩
def LX(K:A.units+1<cLine)(I:ax X pins σ H s)(g:mC H a y v H')(x:bj y u)(B:bj v r)(h:∀s',ax X pins σ H' s'->Q () s') :
  wpAny (model X.p X.w) A (setItem (.ref a) u r) Q E s:=by
 rcases g with⟨kvs,k,e,m,l,n⟩|⟨kvs,k,b,e,m,p,l,n⟩
 ·subst m n
  have⟨z,j,vs,d,dd⟩:=LR I.hok e;have hz:vs.length<=sizeLine:=by rw[<-d.length];rwa[z]
  have hl:(fN kvs k v).length<=sizeLine:=by have:=x6 kvs k v;omega
  erw[wpAny_setItem_pairs (hsz:=hz) (pG x) dd λh' f hs=>h _ ?_]
  have he:∃q,h'.get? a=some q:=let ⟨q,_,_,i,_⟩:=f;⟨q,i⟩
  rwa[x8 I (by rw[e];rwa[qh]) hs he (LW hl j (d.put k B) f)]
 ·subst m n
  cases (show u=ref b from x)
  have⟨z,j,xs,d,dd⟩:=CS I.hok e;have hz:xs.length<=sizeLine:=by rw[<-Paired.length d];rwa[z]
  have hl:(fN kvs k v).length<=sizeLine:=by have:=x6 kvs k v;omega
  erw[wpAny_setItem_heap (hsz:=hz) (xj K) (nR I.hok p) dd λh' f hs=>h _ ?_]
  have⟨q,es,ep,i,C,F,G,_,J⟩:=f;erw[x8 I (by rw[e];rwa[qh]) hs ⟨q,i⟩ ⟨hl,j,_,(d.put k p B).keeps λc ys o=>?_,q,es,ep,i,C,F,G,J⟩];rw[aK (gD o e (λz=>nomatch z))];rwa[o]
end
def x9(i:Expr):Prop:=∀a b,subscripted i false a b=operate [a,b] (getItem a b)
def LY{id:String}(hl:typeLookup (.type T) "__getitem__" = pure (some (.builtin id)))(hs:x9 a)(h:wpAny (model prog w) A (eval b env) (λo d=>wpAny (model prog w) A (eval a env) (λi s₂=>s₂.TypeIs o T/\wpAny (model prog w) A (getItem o i) Q E s₂) E d) E s) :
  wpAny (model prog w) A (eval (.Subscript b a l) env) Q E s:=by
 erw[Subscript_ (gf h (λo d g=>gf g (λi s₂ c=>?_) λ_ _ x=>x) λ_ _ x=>x)];have⟨m,c⟩:=c;delta subscriptTail;erw[aa ?_];rw[getitemInPython_of_ne m.not_modules];erw[aa (wm m hl ?_)]
 have f:wpAny (model prog w) A (subscripted a false o i) (λr e=>wpAny (model prog w) A (letTemporaryGo b o r >>= λ_=>pure r) Q E e) E s₂:=by
  rw[hs o i];rwa[wpAny_operating (gf c (λr e j=>aa (wpAny_letTemporaryGo (ja j))) λ_ _ x=>x)]
 first
  |exact ja (aa f)
  |rwa[aa (ja (aa f))]
  |rwa[aa f]
def LZ(I:ax X c d H s)(g:g8 H a y o):s.TypeIs (.ref a) "dict":=by
 rcases g with⟨kvs,k,e,_,_⟩|⟨kvs,k,b,e,_,_,_⟩
 ·have⟨_,_,vs,_,dd⟩:=mB I.hok e
  rwa[dd.typeIs]
 ·have⟨_,_,xs,_,dd⟩:=nT I.hok e
  rwa[dd.typeIs]
def L0(td ty:TE):TE:=λσ H Q=>td σ H λx H1=>ty σ H1 λy H2=>∃a v,x=.ref a/\g8 H2 a y (some v)/\Q v H2
def L1(td ty tv:TE):TS:=λD σ H=>tv σ H λv H1=>td σ H1 λx H2=>ty σ H2 λy c=>∃a b,x=.ref a/\mC c a y v b/\D.nx σ b
section
variable {X:Cx}
def L3(B:X.A.units+1<cLine)(C:PE X o td)(E:PE X i ty)(hs:x9 i):PE X (.Subscript o i pos) (L0 td ty):=by
 intro b s e H Q I h;erw[LY PySem.F.slot_dict_getitem.lookup hs (aU (C b s e H _ I h) λu f ⟨x,j,l,m,n⟩=>aU (E b f e j _ l n) λG J k=>?_)];have⟨y,p,d,q,a,v,r,g,w⟩:=k;subst r;obtain rfl:u=ref a:=m;exact⟨LZ d g,LS B d g q λK L z c=>⟨v,p,z,c,w⟩⟩
def L4(J:X.A.units+1<cLine)(K:PE X o td)(L:PE X i ty)(M:PE X value tv)(hs:W0 X value (some (.Subscript o i pos')) pos) :
  PS X (.Assign [.Subscript o i pos'] value pos) (L1 td ty tv):=by
 intro b s c H D I h;erw[wpAny_Assign_Subscript (aU (M b s c H _ I h) λr d ⟨v,e,f,j,l⟩=>aU (K b d c e _ f l) λu m ⟨x,n,p,q,w⟩=>aU (L b m c n _ p w) λN O k=>?_) hs];have⟨y,P,z,B,a,C,E,g,F⟩:=k;subst E;obtain rfl:u=ref a:=q;rwa[LX J z g B j λQ G=>⟨c,C,G,F⟩]
end
def L5(h:Heap)(a:sysModules<h.objs.size):cw P w H (h.push { cls:=.type "dict",data:=.dict #[] }) h.objs.size (.dK []) :=
 ⟨ae _,ji.mpr (vf (vc a)),[],.nil,Heap.DictOf.new h⟩
def L6(h:Heap)(a:sysModules<h.objs.size):cw P w H (h.push { cls:=.type "dict",data:=.dict #[] }) h.objs.size (.dT []) :=
 ⟨ae _,ji.mpr (vf (vc a)),[],.nil,_,#[],0,bc _ rfl,⟨rfl,rfl,rfl⟩,rfl,rfl,mh⟩
def L7:TE:=λ_ H Q=>∀p,H p=none->Q (.ref p) (aI H p (.dK []))
def L8:TE:=λ_ H Q=>∀p,H p=none->Q (.ref p) (aI H p (.dT []))
section
def L9:PE X (.Dict [] [] pos) L7:=λb s c H Q I h =>
 kr ⟨.ref s.heap.objs.size,_,I.laid (a:=s.heap.objs.size) (o:=.dK []) (t':=s.toks) (λ_ _ q=>na _ q) (ib _) (L5 s.heap I.big),rfl,h _ (I.hok.fresh (ib _))⟩
def CT:PE X (.Dict [] [] pos) L8:=λb s c H Q I h =>
 kr ⟨.ref s.heap.objs.size,_,I.laid (a:=s.heap.objs.size) (o:=.dT []) (t':=s.toks) (λ_ _ q=>na _ q) (ib _) (L6 s.heap I.big),rfl,h _ (I.hok.fresh (ib _))⟩
end
structure M2(X:Cx)(o:Expr)(m:Str)(apos:Pos)(e f:Expr)(cpos:Pos):Prop where
 base:attributeBase o m X.u (eval o X.u)=eval o X.u
 few:((backTo cpos (starEach [e,f] X.u)).all (λ x=>!x.1) && (backToKw cpos (keywordEach [] X.u)).all (λ x=>x.1.isSome)
  && decide (([e,f]:Tg).length+([]:List Keyword).length+'e'<30))=true
 line:(apos.endLine == cpos.line)=true
 trees:backTo cpos (starEach [e,f] X.u)=[(false,eval e X.u),(false,eval f X.u)]
def rC(H:Hp)(a:Addr):Prop:=(∃kvs,Rd H a (.dK kvs))\/∃kvs,Rd H a (.dT kvs)
def CU(I:ax X f j H s)(d:rC H a) :
  s.TypeIs (.ref a) "dict" /\ (∀b,ref a=.ref b->∃c,s.heap.get? b=some c/\c.dict=none)/\(a == sysModules)=false:=by
 rcases d with⟨kvs,e⟩|⟨kvs,e⟩
 ·have⟨_,g,vs,_,dd⟩:=mB I.hok e
  erw[⟨dd.typeIs,λb q=>?_,g⟩];cases q;have⟨c,_,_,h,i,_⟩:=dd;exact⟨c,h,i.2.1⟩
 ·have⟨_,g,xs,_,dd⟩:=nT I.hok e
  erw[⟨dd.typeIs,λb q=>?_,g⟩];cases q;have⟨c,_,_,h,i,_⟩:=dd;exact⟨c,h,i.2.1⟩
section
variable {X:Cx}{o:Option V}{A:Around}
def Ma(q:A.units+1<cLine)(I:ax X pins σ H s)(g:g8 H a y o)(j:bj y u)(m:bj d r)(h:∀n s',ax X pins σ H s'->bj (o.getD d) n->Q n s') :
  wpAny (model X.p X.w) A (call (.builtin "dict.get") [.ref a,u,r]) Q E s:=by
 rcases g with⟨kvs,k,e,i,l⟩|⟨kvs,k,b,e,i,p,l⟩
 ·subst i
  have⟨z,f,vs,c,dd⟩:=mB I.hok e;refine call_meetsIn slot_dict_get dd.typeIs entry_dict_get (PySem.F.args_dict_get_3 _ _ _) (meets_dict_get_default (gg X.p X.w) a (pG j) f r) ⟨_,dd.mapOf,h _ _ (I.tok _) ?_⟩;rw[l];exact(c.val k).getD m
 ·subst i
  cases (show u=ref b from j)
  have⟨z,f,xs,c,dd⟩:=nT I.hok e;refine call_meetsIn slot_dict_get dd.typeIs entry_dict_get (PySem.F.args_dict_get_3 _ _ _) (meetsH_dict_get_default (tupleKind (gg X.p X.w)) a b f r) ⟨xj q,k,xs,nR I.hok p,dd,h _ _ (I.tok _) ?_⟩;rw[l];exact(c.val k).getD m
end
def Mb(td ty tx:TE):TE:=λσ H Q=>td σ H λx H1=>∃a,x=.ref a/\rC H1 a/\ty σ H1 λy H2=>tx σ H2 λz b=>∃o,g8 b a y o/\Q (o.getD z) b
section
variable {X:Cx}
def Mc(P:X.A.units+1<cLine)(R:PE X o td)(he:PE X e ty)(T:PE X f tx)(m:M2 X o "get" apos e f cpos):PE X (.Call (.Attribute o "get" apos) [e,f] [] cpos) (Mb td ty tx):=by
 intro b s i H Q I h;erw[wpAny_Call_method m.base m.few m.line PySem.F.plainAttrs_dict slot_dict_get PySem.F.type_dict_get (aU (R b s i H _ I h) λu l k=>?_)];have⟨x,n,j,p,a,q,d,r⟩:=k;subst q;obtain rfl:u=ref a:=p;have⟨N,O,_⟩:=CU j d;erw[⟨N,O,?_⟩];rw[m.trees]
 refine Calls.callWith_builtin rfl (Calls.evalArgs_plain (Calls.spliced_cons (aU (he b l i n _ j r) λ U v ⟨y,w,B,C,E⟩ =>
  wj (aU (T b v i w _ B E) λY Z ⟨z,G,J,K,ov,g,L⟩=>wn ?_))))
 rwa[Ma P J g C K λw' s4 M c=>⟨_,G,M,c,L⟩]
end
def g9(e C t0:Addr):Heap->Prop:=λh=>h.get? e=some ⟨.ref C,none,.fields #[.ref t0,.none,.none,.none,.bool false,.none],#[]⟩
def kJ(e C dx t0:Addr):Heap->Prop:=λh=>h.get? e=some ⟨.ref C,some dx,.fields #[.ref t0,.none,.none,.none,.bool false,.none],#[]⟩
def di(e C dx:Addr):Heap->Prop:=λh=>∃vs sl,h.get? e=some ⟨.ref C,some dx,.fields vs,sl⟩
def eS(dx:Addr)(fs:List (Str×V)):Heap->Prop:=λh=>∃mA,h.Ns1 dx mA/\(∀f,eO (fs.lookup f) (mA f))/\PySem.Within mA (fs.map (·.1))
section
variable {P:Program}{w:World}{H:Hp}{h:Heap}{e:Addr}
def CV(x:g9 e C t0 h):cw P w H h e (.ext (g9 e C t0)):=⟨x,⟨_,x⟩,λ_ _ p k=>k _ p⟩
def Md(x:kJ e C dx t0 h):cw P w H h e (.ext (kJ e C dx t0)):=⟨x,⟨_,x⟩,λ_ _ p k=>k _ p⟩
def yt(x:di e C dx h):cw P w H h e (.ext (di e C dx)):=⟨x,let ⟨_,_,z⟩:=x;⟨_,z⟩,λ_ _ ⟨vs,sl,p⟩ k=>⟨vs,sl,k _ p⟩⟩
def CW(x:eS dx fs h):cw P w H h dx (.ext (eS dx fs)):=⟨x,let ⟨_,⟨o,_,_,z,_⟩,_⟩:=x;⟨o,z⟩,λ_ _ ⟨mA,p,r⟩ k=>⟨mA,p.at k,r⟩⟩
theorem cT.ext(x:cT P w H h)(e:H a=some (.ext φ)):φ h:=(x a _ e).1
end
noncomputable def jK:T8:=["__setattr__","__getattribute__","__getattr__","__class__","path","first","last","goal","ring","at","row"]
def rD(K:Fg1)(N:Addr)(a:Ta):Prop:=∃c d es ep sl,K.lookup N=some ⟨c,d,.dict es ep,sl⟩/\(∀e∈es,∃n t,e.key=.str n t)/\(∀n∈jK,nsFind es n=none)/\nsFind es "__init__" = a
structure c1(K:Fg1)(nm:Str)(C P:Addr)(fI:Tk):Prop where
 cl:∃q N bs sn sub ab col dd k0 k1 k2 k3 k5,K.lookup C=some (excClassObj nm q C N bs (.ref P::dM) true sn sub ab col dd k0 k1 k2 k3 k5 "ValueError.__new__")/\rD K N (fI.map ref)
 pa:∃pn q N bs hd sn sub ab col dd k0 k1 k2 k3 k5,K.lookup P=some (excClassObj pn q P N bs dM hd sn sub ab col dd k0 k1 k2 k3 k5 "ValueError.__new__")/\rD K N none
def rD.ns{K:Fg1}(x:rD K N ini){h:Heap}(X:K.In h):∃m,h.Ns N m/\(∀n∈jK,m n=none)/\m "__init__" = ini:=by
 have⟨c,d,es,ep,sl,a,b,e,f⟩:=x;exact⟨λn=>nsFind es n,⟨_,es,ep,X _ _ a,rfl,b,λ_=>rfl⟩,e,f⟩
def c1.at_{K:Fg1}{c:Tk}(x:c1 K nm C P c)(h:Heap)(X:K.In h):∃mN mP,XC h nm C P mN mP/\(∀n∈jK,mN n=none/\mP n=none)/\mN "__init__" = c.map ref/\mP "__init__" = none:=by
 have⟨⟨q,N,bs,d,a,e,b,dd,f,g,k2,i,j,l,o⟩,p,r,s,u,v,w,y,z,A,B,E,F,G,H,I,J,L⟩:=x;have⟨m,M,O,Q⟩:=o.ns X;have⟨R,T,U,Y⟩:=L.ns X;exact⟨m,R,⟨⟨q,N,bs,d,a,e,b,dd,f,g,k2,i,j,X _ _ l,M⟩,p,r,s,u,v,w,y,z,A,B,E,F,G,H,I,X _ _ J,T⟩,λn hn=>⟨O n hn,U n hn⟩,Q,Y⟩
def CY:∀n∈(["path","first","last","goal","ring","at","row"]:T8),typeLookup (.type "ValueError") n=pure none:=by
 intro n hn;simp only[cb,lr,or_false]at hn;rcases hn with rfl|rfl|rfl|rfl|rfl|rfl|rfl <;> (rw[vm,ak];kernel_rfl)
noncomputable abbrev hG:T8:=["path","first","last","goal","ring","at","row"]
def CZ(h:n∈hG):n∈jK:=by
 delta jK;simp only[cb,lr,or_false]at h ⊢;rcases h with rfl|rfl|rfl|rfl|rfl|rfl|rfl <;> simp
section
variable {X:Cx}{s:Shared}{h':Heap}
def ax.xnew(I:ax X pins σ H s)(he:H e=some (.ext φ))(f:s.heap.objs.size<=dx)(k:∀b o,b≠e->s.heap.get? b=some o->h'.get? b=some o)(i:∀H',cw X.p X.w H' h' e (.ext φ'))(l:∀H',cw X.p X.w H' h' dx (.ext ψ)) :
  ax X pins σ (aI (aI H e (.ext φ')) dx (.ext ψ)) { s with heap:=h',toks:=t' }:=by
 have h:=I.hok.fresh f;have j:e≠dx:=cG he h;have up:∀{b:Addr} {u:HO},H b=some u->b≠e->aI (aI H e (.ext φ')) dx (.ext ψ) b=some u:=λ{b u} q n=>by rw[aK (cG q h),aK n];rwa[q]
 erw[I.un ⟨λb o q n hc g=>k b o (cG he n).symm q,λb o q n hc g=>⟨o.slots,k b o (cG he n).symm q⟩,λb o q n g=>?_,λb o q g=>?_,λb xs q=>up q (gD q he λz=>nomatch z),λb o u q=>up q (gD q he λz=>nomatch z),λb ps q=>⟨#[],by rw[up q (gD q he λz=>nomatch z)];simp⟩⟩ λb u q=>?_]
 ·rw[aK (vc (xb (wb q) f)),aK (cG he n).symm];rwa[n]
 ·by_cases d:b=e
  ·subst d;exact(i H).2.1
  ·exact⟨o,k b o d q⟩
 ·by_cases d:b=dx
  ·subst d;rw[aZ]at q;cases q;rwa[l _]
  ·rw[aK d]at q
   by_cases a:b=e
   ·subst a;rw[aZ]at q;cases q;rwa[i _]
   ·rw[aK a]at q
    refine(I.hok b u q).stay (λc v hc z=>k c v ?_ z) (λc z=>up z (gD z he λz=>nomatch z)) λc ys z=>up z (gD z he λz=>nomatch z)
    rcases hc with rfl|hc
    ·rwa[a]
    ·rwa[gD hc he λz=>nomatch z]
def Me{fs:List (Str×V)}{mA:Str->Ta}{f:Str}(r:∀g,eO (fs.lookup g) (mA g))(hn:fs.lookup f=none)(c:bj v u):∀g,eO ((fs++[(f,v)]).lookup g) ((λy=>if y=f then some u else mA y) g):=λg=>by
 rw[List.lookup_append];by_cases b:g=f
 ·subst b
  show eO _ (if g=g then some u else mA g);rw[la rfl,hn]
  have:List.lookup g [(g,v)]=some v:=by simp[List.lookup]
  rw[this];rwa[c]
 ·show eO _ (if g=f then some u else mA g)
  rw[wa b];have a:=r g
  cases e:fs.lookup g with
  |some z=>rw[e]at a;rwa[a]
  |none =>
   rw[e]at a
   have:List.lookup g [(f,v)]=none:=by simp[List.lookup,beq_false_of_ne b]
   rw[this];rwa[a]
def Mf(I:ax X pins σ H s)(c:c1 X.K nm C P fI)(hf:f∈hG)(rv:bj v u)(h:(∃ t0,H e=some (.ext (g9 e C t0))/\∀ s' dx,H dx=none->dx≠e->ax X pins σ (aI (aI H e (.ext (kJ e C dx t0))) dx (.ext (eS dx [(f,v)]))) s'->Q () s') ∨
   (∃dx t0 fs,H e=some (.ext (kJ e C dx t0))/\H dx=some (.ext (eS dx fs))/\dx≠e/\fs.lookup f=none/\fs.length<=10/\∀s',ax X pins σ (aI H dx (.ext (eS dx (fs++[(f,v)])))) s'->Q () s')) :
  wpAny (model X.p X.w) A (setAttr (.ref e) f u) Q E s:=by
 have⟨mN,mP,xc,hx,_,_⟩:=c.at_ s.heap I.kIn;have i:=hx f (CZ hf);have hs:=hx "__setattr__" (by simp[jK]);have hv:=CY f hf;have⟨T,g,d,t,os⟩:=s;rcases h with⟨t0,he,q⟩|⟨dx,t0,fs,he,hd,hne,hn,hl,q⟩
 ·have l:T.get? e=some ⟨.ref C,none,.fields #[.ref t0,.none,.none,.none,.bool false,.none],#[]⟩:=I.hok.ext he
  erw[CM (mA:=λ_=>none) (ns:=[]) xc hs.1 hs.2 i.1 i.2 hv ⟨_,l,rfl,λc z=>(by cases z),.inl ⟨rfl,λ_=>rfl⟩⟩ (λh' m ⟨Y,Z,i3⟩=>?_) PySem.Within.nil 'm'];have⟨⟨oc,od,odt,osl⟩,r,B,F,G,dx,J,o6⟩:=i3 _ l
  have M:T.objs.size<=dx:=by
   rcases o6 with z|z
   ·cases z
   ·rwa[z.2]
  simp only at B F G J;subst B F G J;have N:=I.hok.fresh M;erw[q _ dx N (cG he N).symm (I.xnew (t':=m) he M (λb o hb z=>Z b o hb (λn a p z2=>by rw[l]at p;cases p;cases z2) z) (λ_=>Md r) λ_=>CW ?_)];have⟨o',L,_,_,j4⟩:=Y;rw[r]at L;cases L;rcases j4 with⟨j,_⟩|⟨a,j,_,U⟩
  ·cases j
  ·cases j
   erw[⟨_,U,λg=>?_,?_⟩]
   ·by_cases hg:g=f
    ·subst hg
     have:List.lookup g [(g,v)]=some v:=by simp[List.lookup]
     show eO _ (if g=g then some u else none);rw[this,la rfl];rwa[rv]
    ·have:List.lookup g [(f,v)]=none:=by simp[List.lookup,beq_false_of_ne hg]
     show eO _ (if g=f then some u else none);rw[this,wa hg];trivial
   ·rwa[PySem.Within.cons f u PySem.Within.nil]
 ·have l:T.get? e=some ⟨.ref C,some dx,.fields #[.ref t0,.none,.none,.none,.bool false,.none],#[]⟩:=I.hok.ext he
  have⟨mA,n1,n2,n3⟩:=I.hok.ext hd;erw[CM (mA:=mA) (ns:=fs.map (·.1)) xc hs.1 hs.2 i.1 i.2 hv ⟨_,l,rfl,λc z=>(by cases z),.inr ⟨dx,rfl,hne,n1⟩⟩ (λh' m ⟨Y,Z,i3⟩=>?_) n3 (by rw[ba];omega)];have⟨⟨oc,od,odt,osl⟩,r,B,F,G,a,J,o6⟩:=i3 _ l;simp only at B F G J;subst B F G J
  have edx:dx=a:=by
   rcases o6 with z|z
   ·cases z;rfl
   ·cases z.1
  subst edx;have⟨o',L,_,_,j4⟩:=Y;rw[r]at L;cases L;rcases j4 with⟨j,_⟩|⟨a,j,_,U⟩
  ·cases j
  ·cases j
   have hk:∀b o,b≠dx->T.get? b=some o->h'.get? b=some o:=λb o hb z=>by
    by_cases O:b=e
    ·subst O;rw[l]at z;cases z;rwa[r]
    ·rwa[Z b o O (λn a p z2=>by rw[l]at p;cases p;cases z2;rwa[hb]) z]
   erw[q _ (I.write (t':=m) (x:=dx) (e:=dx) (by rw[hd];trivial) 'j' hk (let ⟨o,_,_,z,_⟩:=U;⟨o,z⟩) (CW ⟨_,U,Me n2 hn rv,?_⟩))];rw[gb];intro y hy;by_cases R:y=f
   ·subst R;simp
   ·have:mA y≠none:=by simpa [R] using hy
    rwa[ie _ (n3 y this)]
def Mg(I:ax X pins σ H s)(c:c1 X.K nm C P B)(p:f∈hG)(he:H e=some (.ext (di e C dx)))(F:H dx=some (.ext (eS dx fs)))(j:dx≠e)(hl:fs.lookup f=some v)(h:∀u s',ax X pins σ H s'->bj v u->Q u s'):wpAny (model X.p X.w) A (getAttr (.ref e) f b) Q E s:=by
 have⟨mN,mP,xc,i,_,_⟩:=c.at_ s.heap I.kIn;have a:=i f (CZ p);have m:=i "__getattribute__" (by simp[jK]);have n:=i "__getattr__" (by simp[jK]);have⟨vs,sl,q⟩:=I.hok.ext he;have⟨mA,r,x,G⟩:=I.hok.ext F;have⟨u,y,l⟩:=eO.some_of (v:=v) (o:=mA f) (by rw[<-hl];rwa[x f]);have⟨J,g,d,t,os⟩:=s;rwa[LL xc m.1 m.2 n.1 n.2 a.1 a.2 (CY f p) ⟨_,q,rfl,λc z=>(by cases z),.inr ⟨dx,rfl,j,r⟩⟩ y (PySem.W.handedOut_of (Jy l)) (h u _ (I.tok _) l)]
end
def cW(P:Program)(w:World):i4:=λouter H s E v s'=>∃(e C dx:Addr) (fs:List (Str×V)) (H':Hp),v=.ref e/\s'.os=s.os/\AllBare s'.gens/\Un (d8 outer) [] H H' s.heap s'.heap/\cT P w H' s'.heap/\jJ s'.heap e/\H' e=some (.ext (di e C dx))/\H' dx=some (.ext (eS dx fs))/\dx≠e/\E v (some dx) H'
section
variable {X:Cx}{s:Shared}
def ax.noted(I:ax X pins σ H s)(he:H e=some (.ext φ))(n:rB (d8 X.t) e s.heap h')(g:di e C dx h'):ax X pins σ (aI H e (.ext (di e C dx))) { s with heap:=h' }:=by
 have up:∀{b:Addr} {u:HO},H b=some u->b≠e->aI H e (.ext (di e C dx)) b=some u:=λ{b u} q m=>by rw[aK m];rwa[q]
 erw[I.call (g':=s.gens) (t':=s.toks) (d':=s.drawn) (ch:=[]) ⟨λb o q m hc d=>n.keep b o (cG he m).symm hc q,λb o q m hc d=>n.slot b o hc q,λb o q m d=>?_,λb o q d=>?_,λb xs q=>up q (gD q he λz=>nomatch z),λb o u q=>up q (gD q he λz=>nomatch z),λb ps q=>⟨#[],by rw[up q (gD q he λz=>nomatch z)];simp⟩⟩ (λb u q=>?_) I.bare (λ_ z=>nomatch z)]
 ·rw[aK (cG he m).symm];rwa[m]
 ·by_cases a:b=e
  ·subst a;have⟨vs,sl,z⟩:=g;exact⟨_,z⟩
  ·by_cases f:b∈d8 X.t
   ·have⟨sl,z⟩:=n.slot b o f q;exact⟨_,z⟩
   ·exact⟨o,n.keep b o a f q⟩
 ·by_cases a:b=e
  ·subst a;rw[aZ]at q;cases q;rwa[yt g]
  ·rw[aK a]at q
   refine(I.hok b u q).stay (λc v hc z=>n.keep c v ?_ ?_ z) (λc z=>up z (gD z he λz=>nomatch z)) λc ys z=>up z (gD z he λz=>nomatch z)
   ·rcases hc with rfl|hc
    ·rwa[a]
    ·rwa[gD hc he λz=>nomatch z]
   ·intro hm
    have:=I.stkFree c hm
    rcases hc with rfl|hc
    ·rw[q]at this;cases this
    ·rw[hc]at this;cases this
def Mh(n:rB fs e s.heap h')(c:di e C dx s.heap):di e C dx h':=by
 have⟨vs,sl,z⟩:=c;have⟨a,b⟩:=n.exc _ vs z rfl;exact⟨a,sl,b⟩
end
def uK(X:Cx)(W:XK):Prop:=∀(pins:T1) (σ:St) (H:Hp) (s:Shared) (e C dx t0:Addr) (fs:List (Str×V)),ax X pins σ H s->H e=some (.ext (kJ e C dx t0))->H dx=some (.ext (eS dx fs))->dx≠e->W (.ref e) (some dx) (aI H e (.ext (di e C dx)))->X.xe (.ref e) s
section
variable {K:Fg1}
def Mi(h:wpAny M A (noteFrame v env) (λ_ a=>wpAny M A (setFlight v none) Q E' a) E' s'):wpAny M A (leaving env v) Q E' s':=by
 delta leaving;rwa[aa h]
end
def Mj(K:Fg1)(i:Nat)(te:TE)(f:Str):TS:=λD σ H=>te σ H λu H=>∃e nm C P fI,σ[i]?=some (some (.ref e))/\c1 K nm C P fI/\f∈hG ∧
 ((∃ t0,H e=some (.ext (g9 e C t0))/\∀ dx,H dx=none->dx≠e->D.nx σ (aI (aI H e (.ext (kJ e C dx t0))) dx (.ext (eS dx [(f,u)])))) ∨
  (∃dx t0 fs,H e=some (.ext (kJ e C dx t0))/\H dx=some (.ext (eS dx fs))/\dx≠e/\fs.lookup f=none/\fs.length<=10/\D.nx σ (aI H dx (.ext (eS dx (fs++[(f,u)]))))))
section
variable {X:Cx}
def uL(he:PE X ev te)(Q:X.N[i]?=some x)(R:gY X.u.scope x)(T:(x == 'g')=false)(m:(x == 'c')=false)(hs:W0 X ev (some (.Attribute (.Name x p) f p1)) pos) :
  PS X (.Assign [.Attribute (.Name x p) f p1] ev pos) (Mj X.K i te f):=by
 intro a s b H D I h;erw[plainObj_wpAny_Assign_Attribute (aU (he a s b H _ I h) λU r k=>?_) hs];have⟨u,n,w,y,e,nm,C,P,Y,z,c,A,q⟩:=k;erw[aU ((gh Q R T m) a r b n (λv o=>v=.ref e/\o=n) w ⟨_,z,rfl,rfl⟩) λB Z k=>?_];have⟨v2,o,E,F,G,J⟩:=k;subst G J;obtain rfl:B=ref e:=F;erw[Mf E c A y ?_];rcases q with⟨g,he,q⟩|⟨dx,g,fs,he,j,l,hl,hn,q⟩
 ·rwa[.inl ⟨g,he,λL dx M O d=>⟨b,_,d,q dx M O⟩⟩]
 ·rwa[.inr ⟨dx,g,fs,he,j,l,hl,hn,λL d=>⟨b,_,d,q⟩⟩]
end
def nU(K:Fg1)(nm:Str)(fl:T8):Sp:=λvs H Q _=>∃e a C P fI t0,vs=.ref e::a/\a.length=fl.length/\c1 K nm C P fI/\H e=some (.ext (g9 e C t0))/\∀dx,H dx=none->dx≠e->Q .non (aI (aI H e (.ext (kJ e C dx t0))) dx (.ext (eS dx (fl.zip a))))
section
variable {K:Fg1}
def yu{st:Stmt}(F:ec K x d st f p)(S:az [b,a] [b,a] (bw st))(l:j∈hG)(O:fM st=[.Assign [.Attribute (.Name b J) j L] (.Name a M) N])(R:(bw st).names.lookup b=some .local)(g:(bw st).names.lookup a=some .local)(c6:(b == 'g')=false:=by decide)(m:(b == 'c')=false:=by decide)(gU:(a == 'g')=false:=by decide)(n:(a == 'c')=false:=by decide):aG P w K mg base bC 1 f p [b,a] (nU K nm [j]):=by
 erw[F.ok (k:=0) S (λvs H Q E t=>by have⟨e,o,_,_,_,_,g,r,_⟩:=t;rw[g,zb,r];rfl) λv A h s H vs Q E T t=>?_];have⟨e,o,C,y,z,B,G,hl,c,he,q⟩:=t
 match o,hl with
 |[u],_ =>
  subst G;rw[O];erw[⟨_,iD (uL (gh (i:=1) rfl (ub g) gU n) (i:=0) rfl (ub R) c6 m rfl) pz,?_⟩];exact⟨u,rfl,e,nm,C,y,z,rfl,c,l,.inl ⟨B,he,λdx a I=>q dx a I⟩⟩
end
def ee(K:Fg1)(nm:Str)(C:Addr):Prop:=∃P fI,c1 K nm C P fI/\nsIn K mainGlobals "PageError" = some (some (.ref P))/\nsIn K mainGlobals nm=some (some (.ref C))
def Ml(K:Fg1)(nm:Str)(sp:Sp)(W:XK)(t:TA):TS:=λ_ σ H=>t σ H λvs H1=>vs.length<=10/\∀e C P fI t0,H1 e=none->ee K nm C->c1 K nm C P fI->sp (.ref e::vs) (aI H1 e (.ext (g9 e C t0))) (λv H2=>v=.non/\∃dx a fs,dx≠e/\H2 e=some (.ext (kJ e C dx a))/\H2 dx=some (.ext (eS dx fs))/\W (.ref e) (some dx) (aI H2 e (.ext (di e C dx)))) E0
section
variable {X:Cx}
def C0(hc:X.k=true)(c:c1 X.K nm C P (some fI))(hP:nsIn X.K mainGlobals "PageError" = some (some (.ref P)))(hCn:nsIn X.K mainGlobals nm=some (some (.ref C)))(hfn:∃o,X.K.lookup fI=some o/\o.cls=.type "function")(hkp:keepIn X.K (.ref C)=true)(F:aG X.p X.w X.K X.mg X.base bC k fI fd ps sp)(hr:aL (k+1) X.A)(hg:Gl X x)(hm:X.mg x=some (.ref C))(hb:dq X.K fd ps [])(hxe:uK X W)(ha:PA X (a::as) t)(hdb:(x == 'g')=false:=by decide)(he:W1 X (a::as) a as:=by rfl)(hpl:W2 X cp as:=by rfl) :
  PS X (.Raise (some (.Call (.Name x p) (a::as) [] cp)) none pos) (Ml X.K nm sp W t):=by
 intro f s G H D I h;have⟨J,L,n,hx0,M,N⟩:=c.at_ X.base I.ok.mod.kin;erw[LN (nm:=nm) (C:=C) (P:=P) (mN:=J) (mP:=L) (I.ok.hd hc) ?_];erw[dg (nC I hg hm ?_ hdb)];erw[callWith_K (h₀:=X.base) I.ok.mod.kin hkp (aU (ha cp f s G H _ I h) λi s1 ⟨vs,H1,j,r,hl,q⟩=>⟨j.kIn,?_⟩) he hpl];have T:=n.keeps j.bk;have U:i.length<=10:=by rw[<-r.length];rwa[hl]
 have⟨oI,y,O⟩:=hfn;have Y:=j.kIn _ _ y;rw[ze];have⟨hh,g,d,tk,os⟩:=s1;erw[LE T N M Y O (λh' e l m=>?_) (zc U 'd')];have⟨t0,ht,_,_⟩:=l.there;have Z:H1 e=none:=j.hok.fresh m;have I2:ax X f G (aI H1 e (.ext (g9 e C t0))) ⟨h',g,d,tk,os⟩:=j.laid (t':=tk) l.keeps m (CV ht);have r2:bD (V.ref e::vs) (ref e::i):=.cons rfl r;have hq:=q e C P (some fI) t0 Z ⟨P,some fI,c,hP,hCn⟩ c
 have E:(ref e::i).length=ps.length:=by
  have e1:=r2.length;rw[F.len _ _ _ _ hq]at e1;rwa[e1.symm]
 erw[qm (jk (F.run _ X.t _ _ ⟨ref e::i,[]⟩ (ref e::i) _ _ E0 (hr.make C i []) (I2.env0.make C i []) (by have:=hb _ (ref e::i) I2.kIn (by simpa using E);simpa using this) r2 hq) λr s' b=>?_)]
 cases r with
 |error z=>rwa[b.elim]
 |ok fl' =>
  cases fl' with
  |ret u =>
   have⟨v,H',Q,rv,ev,dx,t1,fs,n2,B,R,w⟩:=I2.after b;subst ev;obtain rfl:u=Value.none:=rv;exact⟨rfl,e,some dx,t1,#[],rfl,n.keeps Q.bk,Q.hok.ext B,hxe f G _ s' e C dx t1 fs Q B R n2 w⟩
  |next=>rwa[elim b]
  |brk=>rwa[elim b]
  |cont=>rwa[elim b]
end
abbrev D.int(i:Int):D:=.sc (.int i)
abbrev D.bl(b:Bool):D:=.sc (.bl b)
abbrev D.non:D:=.sc .non
abbrev D.str(l:T7):D:=.sc (.str (S l))
def _root_.PySem.Paired.zmap(h:Paired F l₁ l₂)(f:∀a b,F a b->G a b):Paired G l₁ l₂:=Paired.mapP h f
def gJ(K:Fg1)(H:Hp)(a:Addr)(xs:T6):Prop:=H a=some (.tup xs)
def gJ.toT{K:Fg1}(h:gJ K H a xs):cZ K H a xs:=.inl (.inl h)
def gJ.of{K:Fg1}(h:H a=some (.tup xs)):gJ K H a xs:=h
def gJ.same{K:Fg1}(h:gJ K H a xs)(s:aQ H H'):gJ K H' a xs:=s _ _ h
def hT(K:Fg1)(H:Hp):Nat->D->V->Prop
 |0,d,x=>match d with|.sc v=>d9 v=true/\x=v|_=>False
 |k+1,d,x=>match d with
  |.sc v=>d9 v=true/\x=v
  |.tup ds=>∃a xs,x=.ref a/\gJ K H a xs/\Paired (hT K H k) ds xs
  |.lst ds=>∃a xs,x=.ref a/\bH K H a xs/\Paired (hT K H k) ds xs
  |.dk ks ds=>∃a kvs,x=.ref a/\H a=some (.dK kvs)/\kvs.map fst=ks/\Paired (hT K H k) ds (kvs.map snd)
  |.dt ks ds=>∃a kvs,x=.ref a/\H a=some (.dT kvs)/\kvs.map fst=ks/\Paired (hT K H k) ds (kvs.map snd)
  |.er n ks ds=>∃e C dx fs,x=.ref e/\H e=some (.ext (di e C dx))/\ee K n C/\dx≠e/\H dx=some (.ext (eS dx fs))/\fs.map fst=ks/\Paired (hT K H k) ds (fs.map snd)
def Mm{K:Fg1}:∀{k:Nat}{d:D}{x:V},hT K H k d x->hT K H (k+1) d x:=by
 intro k
 induction k with
 |zero =>
  intro d x h
  cases d with
  |sc v=>rwa[h]
  |_=>rwa[h.elim]
 |succ k b =>
  intro d x h
  cases d with
  |sc v=>rwa[h]
  |tup ds=>have⟨a,xs,e,q,p⟩:=h;exact⟨a,xs,e,q,p.zmap λ_ _=>b⟩
  |lst ds=>have⟨a,xs,e,q,p⟩:=h;exact⟨a,xs,e,q,p.zmap λ_ _=>b⟩
  |dk ks ds=>have⟨a,xs,e,q,c,p⟩:=h;exact⟨a,xs,e,q,c,p.zmap λ_ _=>b⟩
  |dt ks ds=>have⟨a,xs,e,q,c,p⟩:=h;exact⟨a,xs,e,q,c,p.zmap λ_ _=>b⟩
  |er n ks ds=>have⟨e,C,dx,fs,f,g,i,j,l,m,p⟩:=h;exact⟨e,C,dx,fs,f,g,i,j,l,m,p.zmap λ_ _=>b⟩
def C1{K:Fg1}(h:hT K H j d x)(a:j<=k):hT K H k d x:=by
 induction a with
 |refl=>rwa[h]
 |step _ b=>rwa[Mm b]
def C2{K:Fg1}(s:aQ H H'):∀{k:Nat}{d:D}{x:V},hT K H k d x->hT K H' k d x:=by
 intro k
 induction k with
 |zero =>
  intro d x h
  cases d with
  |sc v=>rwa[h]
  |_=>rwa[h.elim]
 |succ k b =>
  intro d x h
  cases d with
  |sc v=>rwa[h]
  |tup ds=>have⟨a,xs,e,q,p⟩:=h;exact⟨a,xs,e,q.same s,p.zmap λ_ _=>b⟩
  |lst ds=>have⟨a,xs,e,q,p⟩:=h;exact⟨a,xs,e,s.seq q,p.zmap λ_ _=>b⟩
  |dk ks ds=>have⟨a,xs,e,q,c,p⟩:=h;exact⟨a,xs,e,s _ _ q,c,p.zmap λ_ _=>b⟩
  |dt ks ds=>have⟨a,xs,e,q,c,p⟩:=h;exact⟨a,xs,e,s _ _ q,c,p.zmap λ_ _=>b⟩
  |er n ks ds=>have⟨e,C,dx,fs,f,g,i,j,l,m,p⟩:=h;exact⟨e,C,dx,fs,f,s _ _ g,i,j,s _ _ l,m,p.zmap λ_ _=>b⟩
def Dn(K:Fg1)(H:Hp)(d:D)(x:V):Prop:=∃k,hT K H k d x
abbrev aY(K:Fg1)(H:Hp):T4->T6->Prop:=Paired (Dn K H)
section
variable {K:Fg1}{H H':Hp}
def Dn.same(h:Dn K H d x)(s:aQ H H'):Dn K H' d x:=let ⟨k,h⟩:=h;⟨k,C2 s h⟩
theorem aY.same(h:aY K H ds xs)(s:aQ H H'):aY K H' ds xs:=h.zmap λ_ _ z=>z.same s
theorem aY.level:∀{ds:T4}{xs:T6},aY K H ds xs->∃k,Paired (hT K H k) ds xs
 |_,_,.nil=>⟨0,.nil⟩
 |_,_,.cons ⟨k,h⟩ t=>by
  have⟨j,q⟩:=aY.level t;exact⟨max k j,.cons (C1 h (Nat.le_max_left _ _)) (q.zmap λ_ _ z=>C1 z (Nat.le_max_right _ _))⟩
def cE(h:d9 v=true):Dn K H (.sc v) v:=⟨0,h,rfl⟩
theorem Dn.sc(h:Dn K H (.sc v) x):d9 v=true/\x=v:=by
 have⟨k,h⟩:=h
 cases k <;> rwa[h]
def nV(h:gJ K H a xs)(p:aY K H ds xs):Dn K H (.tup ds) (.ref a):=by
 have⟨k,q⟩:=p.level;exact⟨k+1,a,xs,rfl,h,q⟩
def iL(h:bH K H a xs)(p:aY K H ds xs):Dn K H (.lst ds) (.ref a):=by
 have⟨k,q⟩:=p.level;exact⟨k+1,a,xs,rfl,h,q⟩
def Dn.tupU(h:Dn K H (.tup ds) x):∃a xs,x=.ref a/\gJ K H a xs/\aY K H ds xs:=by
 have⟨k,h⟩:=h
 cases k with
 |zero=>rwa[h.elim]
 |succ k=>have⟨a,xs,e,q,p⟩:=h;exact⟨a,xs,e,q,p.zmap λ_ _ z=>⟨k,z⟩⟩
theorem Dn.tup{ds:T4}{x:V}(h:Dn K H (.tup ds) x):∃a xs,x=.ref a/\cZ K H a xs/\aY K H ds xs:=let ⟨a,xs,e,q,p⟩:=h.tupU;⟨a,xs,e,q.toT,p⟩
theorem Dn.lst{ds:T4}{x:V}(h:Dn K H (.lst ds) x):∃a xs,x=.ref a/\bH K H a xs/\aY K H ds xs:=by
 have⟨k,h⟩:=h
 cases k with
 |zero=>rwa[h.elim]
 |succ k=>have⟨a,xs,e,q,p⟩:=h;exact⟨a,xs,e,q,p.zmap λ_ _ z=>⟨k,z⟩⟩
def C3(h:H a=some (.dK kvs))(e:kvs.map fst=ks)(p:aY K H ds (kvs.map snd)):Dn K H (.dk ks ds) (.ref a):=by
 have⟨k,q⟩:=p.level;exact⟨k+1,a,kvs,rfl,h,e,q⟩
def yw(h:H a=some (.dT kvs))(e:kvs.map fst=ks)(p:aY K H ds (kvs.map snd)):Dn K H (.dt ks ds) (.ref a):=by
 have⟨k,q⟩:=p.level;exact⟨k+1,a,kvs,rfl,h,e,q⟩
theorem Dn.dk(h:Dn K H (.dk ks ds) x):∃a kvs,x=.ref a/\H a=some (.dK kvs)/\kvs.map fst=ks/\aY K H ds (kvs.map snd):=by
 have⟨k,h⟩:=h
 cases k with
 |zero=>rwa[h.elim]
 |succ k=>have⟨a,xs,e,q,b,p⟩:=h;exact⟨a,xs,e,q,b,p.zmap λ_ _ z=>⟨k,z⟩⟩
theorem Dn.dt(h:Dn K H (.dt ks ds) x):∃a kvs,x=.ref a/\H a=some (.dT kvs)/\kvs.map fst=ks/\aY K H ds (kvs.map snd):=by
 have⟨k,h⟩:=h
 cases k with
 |zero=>rwa[h.elim]
 |succ k=>have⟨a,xs,e,q,b,p⟩:=h;exact⟨a,xs,e,q,b,p.zmap λ_ _ z=>⟨k,z⟩⟩
theorem Dn.int(h:Dn K H (.int i) x):x=.int i:=h.sc.2
theorem Dn.bl(h:Dn K H (.bl b) x):x=.bl b:=h.sc.2
theorem Dn.str(h:Dn K H (.sc (.str z)) x):x=.str z:=h.sc.2
end
theorem _root_.PySem.Paired.zget:∀{l₁:List α}{c:List β}{j:Nat}{a:α},Paired F l₁ c->l₁[j]?=some a->∃b,c[j]?=some b/\F a b
 |_,_,_,_,.nil,e=>by simp at e
 |_,_,0,_,.cons r _,e=>by simp at e;subst e;exact⟨_,rfl,r⟩
 |_,_,j+1,_,.cons _ t,e=>by
  have⟨a,d,f⟩:=PySem.Paired.zget (j:=j) t (by simpa using e);exact⟨a,by simpa using d,f⟩
theorem _root_.PySem.Paired.zsnoc:∀{l₁:List α}{c:List β}{a:α}{b:β},Paired F l₁ c->F a b->Paired F (l₁++[a]) (c++[b])
 |_,_,_,_,.nil,h=>.cons h .nil
 |_,_,_,_,.cons r t,h=>.cons r (PySem.Paired.zsnoc t h)
theorem _root_.PySem.Paired.zapp:∀{l₁ a:List α}{b c:List β},Paired F l₁ b->Paired F a c->Paired F (l₁++a) (b++c)
 |_,_,_,_,.nil,h=>h
 |_,_,_,_,.cons r t,h=>.cons r (PySem.Paired.zapp t h)
theorem _root_.PySem.Paired.ztake:∀{l₁:List α}{a:List β} (n:Nat),Paired F l₁ a->Paired F (l₁.take n) (a.take n)
 |_,_,0,_=>.nil
 |_,_,_+1,.nil=>.nil
 |_,_,n+1,.cons r t=>.cons r (PySem.Paired.ztake n t)
theorem _root_.PySem.Paired.zdrop:∀{l₁:List α}{a:List β} (n:Nat),Paired F l₁ a->Paired F (l₁.drop n) (a.drop n)
 |_,_,0,h=>h
 |_,_,_+1,.nil=>.nil
 |_,_,n+1,.cons r t=>PySem.Paired.zdrop n t
theorem _root_.PySem.Paired.zset{d e:Type}{F:d->e->Prop}{a:d}{b:e}(r:F a b):∀{l₁:List d}{c:List e} (i:Nat),Paired F l₁ c->Paired F (l₁.set i a) (c.set i b)
 |_,_,_,.nil=>.nil
 |_,_,0,.cons _ t=>.cons r t
 |_,_,i+1,.cons q t=>.cons q (PySem.Paired.zset r i t)
def _root_.PySem.Paired.zrev(h:Paired F l₁ l₂):Paired F l₁.reverse l₂.reverse:=by
 induction h with
 |nil=>rwa[.nil]
 |cons r t a=>simp only[pq];rwa[a.zsnoc r]
def kK(H:Hp)(b:Addr):Prop:=H b=none\/∃xs,H b=some (.tup xs)
def kK.no(h:kK H b)(e:H b=some o)(a:∀xs,o≠.tup xs):False:=by
 rcases h with h|⟨xs,h⟩
 ·rw[h]at e;cases e
 ·rw[h]at e;cases e;rwa[a xs rfl]
def kK.back(h:kK H' b)(s:aQ H H'):kK H b:=by
 cases e:H b with
 |none=>rwa[.inl e]
 |some o =>
  rcases h with h|⟨xs,h⟩
  ·rw[s b o e]at h;cases h
  ·rw[s b o e]at h;cases h;rwa[.inr ⟨xs,e⟩]
structure Ex(Hf H Hf' H':Hp):Prop where
 ff:aQ Hf Hf'
 hh:aQ H H'
 fh:aQ Hf' H'
 nw:∀b,Hf' b≠none->Hf b≠none\/kK H b
 nf:∀b o u,Hf' b=some (.frz o u)->Hf b=some (.frz o u)
theorem Ex.refl(s:aQ Hf H):Ex Hf H Hf H:=⟨aQ.refl _,aQ.refl _,s,λ_ h=>.inl h,λ_ _ _ h=>h⟩
theorem Ex.trans(a:Ex Hf H Hf1 H1)(b:Ex Hf1 H1 Hf2 H2):Ex Hf H Hf2 H2 :=
 ⟨a.ff.trans b.ff,a.hh.trans b.hh,b.fh,λc h=>(b.nw c h).elim (a.nw c) λz=>.inr (z.back a.hh),λc o u h=>a.nf c o u (b.nf c o u h)⟩
def Ex.new(s:aQ Hf H)(c:H p=none)(f:∀x u,o≠.frz x u:=by intro x u z;cases z):Ex Hf H (aI Hf p o) (aI H p o):=by
 have d:Hf p=none:=s.free c;erw[⟨gI d,gI c,λb u e=>?_,λb h=>?_,λb x u h=>?_⟩]
 ·by_cases a:b=p
  ·subst a;rw[aZ]at e ⊢;rwa[e]
  ·rw[aK a]at e ⊢;rwa[s b u e]
 ·by_cases a:b=p
  ·subst a;rwa[.inr (.inl c)]
  ·rw[aK a]at h;rwa[.inl h]
 ·by_cases a:b=p
  ·subst a;rw[aZ]at h;cases h;rwa[absurd rfl (f x u)]
  ·rw[aK a]at h;rwa[h]
def Ex.made(s:aQ Hf H)(a:H p=none):Ex Hf H Hf (aI H p o) :=
 ⟨aQ.refl _,gI a,s.trans (gI a),λ_ h=>.inl h,λ_ _ _ h=>h⟩
inductive Sl where
 |sh (d:D)|ow (ds:T4)|dk (ks:List aW) (ds:T4)|dt (ks:List (List aW)) (ds:T4)
abbrev av:=List (Option Sl)
def dC:Sl->Bool
 |.sh _=>false
 |_=>true
def jL(K:Fg1)(Hf H:Hp):Sl->V->Prop
 |.sh d,v=>Dn K Hf d v
 |.ow ds,v=>∃p xs,v=.ref p/\Hf p=none/\H p=some (.lst xs)/\aY K Hf ds xs
 |.dk ks ds,v=>∃p xs,v=.ref p/\Hf p=none/\H p=some (.dK xs)/\xs.map fst=ks/\aY K Hf ds (xs.map snd)
 |.dt ks ds,v=>∃p xs,v=.ref p/\Hf p=none/\H p=some (.dT xs)/\xs.map fst=ks/\aY K Hf ds (xs.map snd)
def jL.ext{K:Fg1}(h:jL K Hf H sl v)(e:Ex Hf H b H'):jL K b H' sl v:=by
 have i:∀{p:Addr} {o:HO},Hf p=none->H p=some o->(∀xs,o≠.tup xs)->b p=none:=λ{p o} c a j=>by
  cases q:b p with
  |none=>rfl
  |some u =>
   rcases e.nw p (by rw[q];rwa[λz=>nomatch z]) with z|z
   ·rwa[absurd c z]
   ·exact(z.no a j).elim
 cases sl with
 |sh d=>rwa[Dn.same h e.ff]
 |ow ds=>have⟨p,xs,r,c,a,f⟩:=h;exact⟨p,xs,r,i c a (λ_ z=>nomatch z),e.hh _ _ a,aY.same f e.ff⟩
 |dk ks ds=>have⟨p,xs,r,c,a,g,f⟩:=h;exact⟨p,xs,r,i c a (λ_ z=>nomatch z),e.hh _ _ a,g,aY.same f e.ff⟩
 |dt ks ds=>have⟨p,xs,r,c,a,g,f⟩:=h;exact⟨p,xs,r,i c a (λ_ z=>nomatch z),e.hh _ _ a,g,aY.same f e.ff⟩
structure Bs where
 f:Hp
 h:Hp
structure VI(K:Fg1)(B:Bs)(Hf:Hp)(ρ:av)(σ:St)(H:Hp):Prop where
 ex:Ex B.f B.h Hf H
 len:ρ.length=σ.length
 ok:∀(i:Nat) sl,ρ[i]?=some (some sl)->∃v,σ[i]?=some (some v)/\jL K Hf H sl v
 own:∀(i:Nat) sl p,ρ[i]?=some (some sl)->dC sl=true->σ[i]?=some (some (.ref p))->B.h p=none
 dis:∀(i j:Nat) si sj p,ρ[i]?=some (some si)->ρ[j]?=some (some sj)->dC si=true->dC sj=true->σ[i]?=some (some (.ref p))->σ[j]?=some (some (.ref p))->i=j
section
variable {K:Fg1}{B:Bs}{Hf H Hf' H':Hp}{ρ:av}{σ:St}
theorem VI.ext(I:VI K B Hf ρ σ H)(e:Ex Hf H Hf' H'):VI K B Hf' ρ σ H' :=
 ⟨I.ex.trans e,I.len,λi sl h=>let ⟨v,a,b⟩:=I.ok i sl h;⟨v,a,b.ext e⟩,I.own,I.dis⟩
theorem VI.fh(I:VI K B Hf ρ σ H):aQ Hf H:=I.ex.fh
theorem VI.sh{i:Nat}(I:VI K B Hf ρ σ H)(h:ρ[i]?=some (some (.sh d))):∃v,σ[i]?=some (some v)/\Dn K Hf d v:=I.ok i _ h
theorem VI.set(I:VI K B Hf ρ σ H)(h:Dn K Hf d v):VI K B Hf (ρ.set i (some (.sh d))) (σ.set i (some v)) H:=by
 have g:∀{j:Nat} {sl:Sl},(ρ.set i (some (.sh d)))[j]?=some (some sl)->(j=i/\sl=.sh d/\i<ρ.length)\/(j≠i/\ρ[j]?=some (some sl)):=λ{j sl} e=>by
  by_cases a:i=j
  ·subst a
   rw[gn]at e
   cases q:ρ[i]? with
   |none=>rw[q]at e;cases e
   |some z =>
    rw[q]at e;simp at e;rwa[.inl ⟨rfl,e.symm,(qa.mp q).1⟩]
  ·rw[za a]at e
   rwa[.inr ⟨λz=>a z.symm,e⟩]
 erw[⟨I.ex,by simp[I.len],λj sl e=>?_,λj sl p e o q=>?_,λj k m n p e1 e2 b c f l=>?_⟩]
 ·rcases g e with⟨rfl,rfl,hl⟩|⟨a,e⟩
  ·refine⟨v,?_,h⟩
   rw[dc (by rw[<-I.len];rwa[hl])]
  ·have⟨u,r,s⟩:=I.ok j sl e
   exact⟨u,by rw[za (λz=>a z.symm)];exact r,s⟩
 ·rcases g e with⟨rfl,rfl,hl⟩|⟨a,e⟩
  ·cases o
  ·rw[za (λz=>a z.symm)]at q
   rwa[I.own j sl p e o q]
 ·rcases g e1 with⟨rfl,rfl,hl⟩|⟨a,e1⟩
  ·cases b
  ·rcases g e2 with⟨rfl,rfl,hl⟩|⟨w,e2⟩
   ·cases c
   ·rw[za (λz=>a z.symm)]at f
    rw[za (λz=>w z.symm)]at l;rwa[I.dis j k m n p e1 e2 b c f l]
end
def Mn(K:Fg1)(Hf H:Hp)(d:D)(x:V):Prop:=match d with
 |.lst ds=>∃p xs,x=.ref p/\H p=some (.lst xs)/\aY K Hf ds xs
 |.dk ks ds=>∃p xs,x=.ref p/\H p=some (.dK xs)/\xs.map fst=ks/\aY K Hf ds (xs.map snd)
 |.dt ks ds=>∃p xs,x=.ref p/\H p=some (.dT xs)/\xs.map fst=ks/\aY K Hf ds (xs.map snd)
 |_=>False
def cX(K:Fg1)(Hf H:Hp)(d:D)(x:V):Prop:=Dn K Hf d x\/Mn K Hf H d x
abbrev rE(K:Fg1)(Hf H:Hp):T4->T6->Prop:=Paired (cX K Hf H)
section
variable {K:Fg1}{Hf H Hf' H':Hp}
def cX.ext(h:cX K Hf H d x)(e:Ex Hf H Hf' H'):cX K Hf' H' d x:=by
 rcases h with h|h
 ·rwa[.inl (h.same e.ff)]
 ·refine .inr ?_
  cases d with
  |lst ds=>have⟨p,xs,a,b,c⟩:=h;exact⟨p,xs,a,e.hh _ _ b,c.same e.ff⟩
  |dk ks ds=>have⟨p,xs,a,b,f,c⟩:=h;exact⟨p,xs,a,e.hh _ _ b,f,c.same e.ff⟩
  |dt ks ds=>have⟨p,xs,a,b,f,c⟩:=h;exact⟨p,xs,a,e.hh _ _ b,f,c.same e.ff⟩
  |_=>rwa[h.elim]
def cX.whole(h:cX K Hf H d x)(s:aQ Hf H):Dn K H d x:=by
 rcases h with h|h
 ·rwa[h.same s]
 ·cases d with
  |lst ds=>have⟨p,xs,rfl,a,b⟩:=h;rwa[iL (bH.of a) (b.same s)]
  |dk ks ds=>have⟨p,xs,rfl,a,c,b⟩:=h;rwa[C3 a c (b.same s)]
  |dt ks ds=>have⟨p,xs,rfl,a,c,b⟩:=h;rwa[yw a c (b.same s)]
  |_=>rwa[h.elim]
theorem cX.sc(h:cX K Hf H (.sc v) x):d9 v=true/\x=v:=by
 rcases h with h|h
 ·rwa[h.sc]
 ·rwa[h.elim]
theorem cX.tup{ds:T4}{x:V}(h:cX K Hf H (.tup ds) x):∃a xs,x=.ref a/\cZ K Hf a xs/\aY K Hf ds xs:=by
 rcases h with h|h
 ·rwa[h.tup]
 ·rwa[h.elim]
theorem cX.tupU(h:cX K Hf H (.tup ds) x):∃a xs,x=.ref a/\gJ K Hf a xs/\aY K Hf ds xs:=by
 rcases h with h|h
 ·rwa[h.tupU]
 ·rwa[h.elim]
theorem cX.lst{ds:T4}{x:V}(h:cX K Hf H (.lst ds) x)(s:aQ Hf H):∃a xs,x=.ref a/\bH K H a xs/\aY K Hf ds xs:=by
 rcases h with h|⟨p,xs,b,d,f⟩
 ·have⟨a,xs,e,c,b⟩:=h.lst
  exact⟨a,xs,e,s.seq c,b⟩
 ·exact⟨p,xs,b,bH.of d,f⟩
theorem cX.dk(h:cX K Hf H (.dk ks ds) x)(s:aQ Hf H):∃a kvs,x=.ref a/\H a=some (.dK kvs)/\kvs.map fst=ks/\aY K Hf ds (kvs.map snd):=by
 rcases h with h|⟨p,xs,c,f,b,g⟩
 ·have⟨a,xs,e,d,b,c⟩:=h.dk
  exact⟨a,xs,e,s _ _ d,b,c⟩
 ·exact⟨p,xs,c,f,b,g⟩
theorem cX.dt(h:cX K Hf H (.dt ks ds) x)(s:aQ Hf H):∃a kvs,x=.ref a/\H a=some (.dT kvs)/\kvs.map fst=ks/\aY K Hf ds (kvs.map snd):=by
 rcases h with h|⟨p,xs,c,f,b,g⟩
 ·have⟨a,xs,e,d,b,c⟩:=h.dt
  exact⟨a,xs,e,s _ _ d,b,c⟩
 ·exact⟨p,xs,c,f,b,g⟩
end
def eV(K:Fg1)(B:Bs)(f:av->T5):TE:=λσ H Q=>∃Hf ρ d,VI K B Hf ρ σ H/\f ρ=some d/\∀Hf' H' v,Ex Hf H Hf' H'->Dn K Hf' d v->Q v H'
def eB(K:Fg1)(B:Bs)(f:av->T5):TE:=λσ H Q=>∃Hf ρ d,VI K B Hf ρ σ H/\f ρ=some d/\∀Hf' H' v,Ex Hf H Hf' H'->cX K Hf' H' d v->Q v H'
def tV(K:Fg1)(B:Bs)(f:av->Te):TT:=λσ H Q=>∃Hf ρ b,VI K B Hf ρ σ H/\f ρ=some b/\∀Hf' H',Ex Hf H Hf' H'->Q b H'
def aV(K:Fg1)(B:Bs)(f:av->T0):TA:=λσ H Q=>∃Hf ρ ds,VI K B Hf ρ σ H/\f ρ=some ds/\∀Hf' H' vs,Ex Hf H Hf' H'->aY K Hf' ds vs->Q vs H'
def aB(K:Fg1)(B:Bs)(f:av->T0):TA:=λσ H Q=>∃Hf ρ ds,VI K B Hf ρ σ H/\f ρ=some ds/\∀Hf' H' vs,Ex Hf H Hf' H'->rE K Hf' H' ds vs->Q vs H'
def oV(K:Fg1)(B:Bs)(f:av->Option Tc):TO:=λσ H Q=>∃Hf ρ o,VI K B Hf ρ σ H/\f ρ=some o/\∀Hf' H',Ex Hf H Hf' H'->Q o H'
def eC(d:D):av->T5:=λ_=>some d
def ay(i:Nat):av->T5:=λρ=>match ρ[i]? with|some (some (.sh d))=>some d|_=>none
noncomputable def au(i:Nat):av->T5:=λρ=>match ρ[i]? with|some (some (.sh d))=>some d|some (some (.ow ds))=>some (.lst ds)|some (some (.dk ks ds))=>some (.dk ks ds)|some (some (.dt ks ds))=>some (.dt ks ds)|_=>none
def e1(g:D->T5)(fa:av->T5):av->T5:=λρ=>(fa ρ).bind g
def e2(g:D->D->T5)(fa fb:av->T5):av->T5:=λρ=>(fa ρ).bind λd=>(fb ρ).bind λe=>g d e
def eN(g:T4->T5)(fa:av->T0):av->T5:=λρ=>(fa ρ).bind g
def aN:av->T0:=λ_=>some []
noncomputable def aC(fa:av->T5)(fr:av->T0):av->T0:=λρ=>(fa ρ).bind λd=>(fr ρ).bind λds=>some (d::ds)
noncomputable def fZ:D->Te|.sc (.bl b)=>some b|_=>none
def tE(fa:av->T5):av->Te:=λρ=>(fa ρ).bind fZ
def cH(fa fb:av->Te):av->Te:=λρ=>(fa ρ).bind λa=>if a=true then fb ρ else some false
def cN(fa fb:av->Te):av->Te:=λρ=>(fa ρ).bind λa=>if a=true then some true else fb ρ
def cO(fa:av->Te):av->Te:=λρ=>(fa ρ).bind λa=>some (!a)
def eT(ft:av->Te):av->T5:=λρ=>(ft ρ).bind λb=>some (.bl b)
def bind_some(h:o.bind f=some z):∃a,o=some a/\f a=some z:=by
 cases o with
 |none=>cases h
 |some a=>exact⟨a,rfl,h⟩
section
variable {X:Cx}{B:Bs}{e a b c:Expr}{es:Tg}{f fa fb:av->T5}{fr:av->T0}{pos:Pos}
def aA(h:PE X e (eV X.K B f)):PE X e (eB X.K B f):=h.imp λi H Q ⟨Hf,ρ,d,I,b,q⟩=>⟨Hf,ρ,d,I,b,λa H' v c g=>q a H' v c (.inl g)⟩
def Mo(h:PA X es (aV X.K B fr)):PA X es (aB X.K B fr):=h.imp λf H Q ⟨Hf,ρ,d,I,b,q⟩=>⟨Hf,ρ,d,I,b,λa H' v c e=>q a H' v c (e.zmap λ_ _ z=>.inl z)⟩
def rF(b:d9 v=true)(h:PE X e (tC v)):PE X e (eV X.K B (eC (.sc v))):=h.imp λc H Q ⟨Hf,ρ,d,I,a,q⟩=>by
 cases a;rwa[q Hf H v (.refl I.fh) (cE b)]
def aM:PE X (.Constant (.int i) j pos) (eV X.K B (eC (.int i))):=rF rfl Ip
def f6:PE X (.Constant (.bool i) j pos) (eV X.K B (eC (.bl i))):=rF rfl BK
def Mp:PE X (.Constant .none j pos) (eV X.K B (eC .non)):=rF rfl Iq
def jM(h:x=S l):PE X (.Constant (.str x) j pos) (eV X.K B (eC (.str l))):=by subst h;rwa[rF rfl Ir]
def aH(i:Nat){b:Pos}(h:X.N[i]?=some x:=by rfl)(j:gY X.u.scope x:=by first|exact ub rfl|exact fg (ub rfl)|exact fg (fg rfl))(a:(x == 'g')=false:=by decide)(c:(x == 'c')=false:=by decide):PE X (.Name x b) (eV X.K B (ay i)):=(gh h j a c).imp λl H Q ⟨Hf,ρ,d,I,a,q⟩=>by
 unfold ay at a
 split at a
 ·rename_i d' e
  cases a;have⟨v,f,g⟩:=I.sh e
  exact⟨v,f,q Hf H v (.refl I.fh) g⟩
 ·cases a
def aE(i:Nat)(l:X.N[i]?=some x:=by rfl)(m:gY X.u.scope x:=by first|exact ub rfl|exact fg (ub rfl)|exact fg (fg rfl))(a:(x == 'g')=false:=by decide)(j:(x == 'c')=false:=by decide):PE X (.Name x h) (eB X.K B (au i)):=(gh l m a j).imp λn H Q ⟨Hf,ρ,d,I,a,q⟩=>by
 unfold au at a
 split at a
 ·rename_i d' e
  cases a;have⟨v,b,g⟩:=I.sh e
  exact⟨v,b,q Hf H v (.refl I.fh) (.inl g)⟩
 ·rename_i ds e
  cases a;have⟨v,b,p,xs,rfl,g,c,f⟩:=I.ok i _ e
  exact⟨_,b,q Hf H _ (.refl I.fh) (.inr ⟨p,xs,rfl,c,f⟩)⟩
 ·rename_i ks ds e
  cases a;have⟨v,b,p,xs,rfl,g,c,f⟩:=I.ok i _ e
  exact⟨_,b,q Hf H _ (.refl I.fh) (.inr ⟨p,xs,rfl,c,f⟩)⟩
 ·rename_i ks ds e
  cases a;have⟨v,b,p,xs,rfl,g,c,f⟩:=I.ok i _ e
  exact⟨_,b,q Hf H _ (.refl I.fh) (.inr ⟨p,xs,rfl,c,f⟩)⟩
 ·cases a
def P2(K:Fg1)(r:R2)(g:D->D->T5):Prop:=∀Hf H x y d e z (Q:VK),aQ Hf H->cX K Hf H d x->cX K Hf H e y->g d e=some z->(∀Hf' H' v,Ex Hf H Hf' H'->Dn K Hf' z v->Q v H')->r x y H Q
def uM(s:P2 X.K r g)(h:eV X.K B (e2 g fa fb) l H Q):rc r (eB X.K B fa) (eB X.K B fb) l H Q:=by
 have⟨Hf,ρ,z,I,hz,q⟩:=h;have⟨d,p,hz⟩:=bind_some hz;have⟨e,he,hz⟩:=bind_some hz;exact⟨Hf,ρ,d,I,p,λc u x b dx=>⟨c,ρ,e,I.ext b,he,λf m y a n=>s f m x y d e z Q a.fh (dx.ext a) n hz λi H' v j o=>q i H' v ((b.trans a).trans j) o⟩⟩
def bz{op:Operator}{r:R2}{g:D->D->T5}(c:bF X (binaryOp op) r)(d:P2 X.K r g)(ha:PE X a (eB X.K B fa))(e:PE X b (eB X.K B fb)):PE X (.BinOp a op b pos) (eV X.K B (e2 g fa fb)) :=
 (BQ c ha e).imp λf H Q h=>uM d h
def rG(c:bF X (compareOp op) r)(d:P2 X.K r g)(ha:PE X a (eB X.K B fa))(e:PE X b (eB X.K B fb))(hm:behindInMarks op b=false):PE X (.Compare a [op] [b] pos) (eV X.K B (e2 g fa fb)) :=
 (Ju c ha e hm).imp λf H Q h=>uM d h
def C4(j:∀R,eV X.K B f σ H R->t σ H R)(h:tV X.K B (tE f) σ H Q):xK t σ H Q:=by
 have⟨Hf,ρ,b,I,a,q⟩:=h;have⟨d,i,a⟩:=bind_some a;erw[j _ ⟨Hf,ρ,d,I,i,λc H' v e g=>?_⟩];unfold fZ at a
 split at a
 ·cases a
  rw[g.bl];rwa[q c H' e]
 ·cases a
def cI(c:bF X (compareOp op) r)(d:P2 X.K r g)(ha:PE X a (eB X.K B fa))(e:PE X b (eB X.K B fb))(hm:behindInMarks op b=false):PT X (.Compare a [op] [b] pos) (tV X.K B (tE (e2 g fa fb))) :=
 (KO c ha e hm).imp λf H Q h=>C4 (λR z=>uM d z) h
def eU(ha:PE X a (eV X.K B fa))(he:∀whole,isTrue a X.u whole=(do let v ← whole;standAt a.pos;holding [v] (truthy v)):=by intro _;rfl):PT X a (tV X.K B (tE fa)) :=
 (KP ha he).imp λb H Q h=>C4 (λR z=>z) h
def i6(ha:PT X a (tV X.K B ft)):PT X (.UnaryOp .Not a pos) (tV X.K B (cO ft)):=(Iz ha).imp λe H Q f=>by
 have⟨Hf,ρ,z,I,hz,q⟩:=f;have⟨x,d,hz⟩:=bind_some hz;cases hz;exact⟨Hf,ρ,x,I,d,λb H' c=>q b H' c⟩
def Mq(h:tV X.K B (cH ft fu) σ H Q):BL (tV X.K B ft) (tV X.K B fu) σ H Q:=by
 have⟨Hf,ρ,z,I,hz,q⟩:=h;have⟨x,f,hz⟩:=bind_some hz;erw[⟨Hf,ρ,x,I,f,λb d a=>?_⟩]
 cases x with
 |true=>rw[la rfl]at hz ⊢;exact⟨b,ρ,z,I.ext a,hz,λc H' e=>q c H' (a.trans e)⟩
 |false=>rw[wa ua]at hz ⊢;cases hz;rwa[q b d a]
def Mr(h:tV X.K B (cN ft fu) σ H Q):BM (tV X.K B ft) (tV X.K B fu) σ H Q:=by
 have⟨Hf,ρ,z,I,hz,q⟩:=h;have⟨x,f,hz⟩:=bind_some hz;erw[⟨Hf,ρ,x,I,f,λb d a=>?_⟩]
 cases x with
 |true=>rw[la rfl]at hz ⊢;cases hz;rwa[q b d a]
 |false=>rw[wa ua]at hz ⊢;exact⟨b,ρ,z,I.ext a,hz,λc H' e=>q c H' (a.trans e)⟩
def PW.imp(h:PW X e t)(f:∀σ H Q,t' σ H Q->t σ H Q):PW X e t':=λb a s σ H Q I q=>h b a s σ H Q I (f σ H Q q)
def i7(ha:PT X a (tV X.K B ft)):PW X (.BoolOp .And [a] pos) (tV X.K B ft):=Iu ha
def mD(ha:PT X a (tV X.K B ft)):PW X (.BoolOp .Or [a] pos) (tV X.K B ft):=Iv ha
def i8(ha:PT X a (tV X.K B ft))(c:PW X (.BoolOp .And (b::rest) pos) (tV X.K B fu)):PW X (.BoolOp .And (a::b::rest) pos) (tV X.K B (cH ft fu)):=(Iw ha c).imp λd H Q h=>Mq h
def jY(ha:PT X a (tV X.K B ft))(c:PW X (.BoolOp .Or (b::rest) pos) (tV X.K B fu)):PW X (.BoolOp .Or (a::b::rest) pos) (tV X.K B (cN ft fu)):=(Iy ha c).imp λd H Q h=>Mr h
def uN(h:PE X a (eV X.K B fa)):PE X (.BoolOp op [a] pos) (eV X.K B fa):=IA h
def yx(ha:PE X a (eV X.K B fa))(s:PE X (.BoolOp .And (b::rest) pos) (eV X.K B fb)):PE X (.BoolOp .And (a::b::rest) pos) (eV X.K B (eT (cH (tE fa) (tE fb)))):=(KU ha s).imp λu H Q ⟨Hf,ρ,z,I,hz,q⟩=>by
 have⟨x,c,hz⟩:=bind_some hz;cases hz;have⟨y,f,c⟩:=bind_some c;have⟨d,r,f⟩:=bind_some f;erw[⟨Hf,ρ,d,I,r,λg m v e n=>?_⟩];unfold fZ at f
 split at f
 ·cases f
  rw[n.bl]
  cases y with
  |true =>
   rw[la rfl]at c;have⟨d',l,c⟩:=bind_some c;erw[⟨g,ρ,d',I.ext e,l,λh o p i j=>?_⟩];unfold fZ at c
   split at c
   ·cases c;rwa[q h o p (e.trans i) j]
   ·cases c
  |false=>rw[wa ua]at c;cases c;rwa[q g m _ e (cE rfl)]
 ·cases f
def Ms(ha:PE X a (eV X.K B fa))(s:PE X (.BoolOp .Or (b::rest) pos) (eV X.K B fb)):PE X (.BoolOp .Or (a::b::rest) pos) (eV X.K B (eT (cN (tE fa) (tE fb)))):=(KW ha s).imp λu H Q ⟨Hf,ρ,z,I,hz,q⟩=>by
 have⟨x,c,hz⟩:=bind_some hz;cases hz;have⟨y,f,c⟩:=bind_some c;have⟨d,r,f⟩:=bind_some f;erw[⟨Hf,ρ,d,I,r,λg m v e n=>?_⟩];unfold fZ at f
 split at f
 ·cases f
  rw[n.bl]
  cases y with
  |false =>
   rw[wa ua]at c;have⟨d',l,c⟩:=bind_some c;erw[⟨g,ρ,d',I.ext e,l,λh o p i j=>?_⟩];unfold fZ at c
   split at c
   ·cases c;rwa[q h o p (e.trans i) j]
   ·cases c
  |true=>rw[la rfl]at c;cases c;rwa[q g m _ e (cE rfl)]
 ·cases f
def Mt(ha:PE X a (eV X.K B fa)):PE X (.UnaryOp .Not a pos) (eV X.K B (eT (cO (tE fa)))):=(KX ha).imp λj H Q k=>by
 have⟨Hf,ρ,z,I,hz,q⟩:=k;have⟨x,f,hz⟩:=bind_some hz;cases hz;have⟨y,b,f⟩:=bind_some f;cases f;have⟨d,i,b⟩:=bind_some b;erw[⟨Hf,ρ,d,I,i,λc g v e h=>?_⟩];unfold fZ at b
 split at b
 ·cases b
  rw[h.bl];rwa[q c g _ e (cE rfl)]
 ·cases b
def bi:PA X [] (aV X.K B aN):=gG.imp λb H Q z=>by have⟨Hf,ρ,ds,I,a,q⟩:=z;cases a;rwa[q Hf H [] (.refl I.fh) .nil]
def aF(ha:PE X e (eV X.K B fa))(n:PA X es (aV X.K B fr))(hs:W1 X (e::es) e es:=by rfl):PA X (e::es) (aV X.K B (aC fa fr)):=(dL ha n hs).imp λo H Q ⟨Hf,ρ,ds,I,a,q⟩=>by
 have⟨d,l,a⟩:=bind_some a;have⟨r,m,a⟩:=bind_some a;cases a;exact⟨Hf,ρ,d,I,l,λf p v b i=>⟨f,ρ,r,I.ext b,m,λg j vs c h=>q g j _ (b.trans c) (.cons (i.same c.ff) h)⟩⟩
def cF:PA X [] (aB X.K B aN):=Mo bi
def cA(ha:PE X e (eB X.K B fa))(n:PA X es (aB X.K B fr))(hs:W1 X (e::es) e es:=by rfl):PA X (e::es) (aB X.K B (aC fa fr)):=(dL ha n hs).imp λo H Q z=>by
 have⟨Hf,ρ,ds,I,a,q⟩:=z;have⟨d,l,a⟩:=bind_some a;have⟨r,m,a⟩:=bind_some a;cases a;exact⟨Hf,ρ,d,I,l,λf p v b i=>⟨f,ρ,r,I.ext b,m,λg j vs c h=>q g j _ (b.trans c) (.cons (i.ext c) h)⟩⟩
noncomputable def cP:T4->T5:=λds=>if ds.length<=sizeLine then some (.tup ds) else none
noncomputable def f7:T4->T5:=λds=>if ds.length<=sizeLine then some (.lst ds) else none
def gm{x1}(h:PA X es (aV X.K B fr)):PE X (.Tuple es x1 pos) (eV X.K B (eN cP fr)):=(BZ h).imp λf H Q ⟨Hf,ρ,z,I,hz,q⟩=>by
 have⟨ds,e,hz⟩:=bind_some hz;unfold cP at hz
 split at hz
 ·rename_i hl
  cases hz;erw[⟨Hf,ρ,ds,I,e,λc g vs b a=>⟨by rw[<-a.length];exact hl,λp d=>?_⟩⟩]
  have e2:=Ex.new (o:=.tup vs) b.fh d;rwa[q _ _ _ (b.trans e2) (nV (gJ.of aZ) (a.same e2.ff))]
 ·cases hz
def pH(h:PA X es (aV X.K B fr)):PE X (.List es pos) (eV X.K B (eN f7 fr)):=(uy h).imp λf H Q ⟨Hf,ρ,z,I,hz,q⟩=>by
 have⟨ds,e,hz⟩:=bind_some hz;unfold f7 at hz
 split at hz
 ·rename_i hl
  cases hz;erw[⟨Hf,ρ,ds,I,e,λc g vs b a=>⟨by rw[<-a.length];exact hl,λp d=>?_⟩⟩]
  have e2:=Ex.new (o:=.lst vs) b.fh d;rwa[q _ _ _ (b.trans e2) (iL (bH.of aZ) (a.same e2.ff))]
 ·cases hz
end
section
variable {κ α:Type}[DecidableEq κ]
noncomputable def bN(m:List (κ×α))(k:κ):Option α:=(m.find? λa=>decide (a.1=k)).map (·.2)
noncomputable def fO(m:List (κ×α))(k:κ)(v:α):List (κ×α) :=
 if (m.any λa=>decide (a.1=k))=true then m.map (λa=>if a.1=k then (a.1,v) else a) else m++[(k,v)]
abbrev eF(K:Fg1)(H:Hp):List (κ×D)->List (κ×V)->Prop:=Paired λa b=>a.1=b.1/\Dn K H a.2 b.2
variable {K:Fg1}
theorem rH:∀{kvs:List (κ×V)}{ks:List κ}{ds:T4},kvs.map fst=ks->aY K H ds (kvs.map snd)->eF K H (ks.zip ds) kvs
 |[],_,_,e,p=>by subst e;cases p;rwa[.nil]
 |kv::r,_,_,e,p=>by
  subst e;rw[oa]at p
  cases p with
  |cons a b=>rwa[.cons ⟨rfl,a⟩ (rH rfl b)]
theorem eF.fst:∀{m:List (κ×D)}{kvs:List (κ×V)},eF K H m kvs->kvs.map fst=m.map fst
 |_,_,.nil=>rfl
 |_,_,.cons a b=>by rw[oa,oa,a.1,eF.fst b]
theorem eF.snd:∀{m:List (κ×D)}{kvs:List (κ×V)},eF K H m kvs->aY K H (m.map snd) (kvs.map snd)
 |_,_,.nil=>.nil
 |_,_,.cons a b=>.cons a.2 (eF.snd b)
theorem eF.any:∀{m:List (κ×D)}{kvs:List (κ×V)} (k:κ),eF K H m kvs->(kvs.any λc=>decide (c.1=k))=m.any λc=>decide (c.1=k)
 |_,_,_,.nil=>rfl
 |_,_,k,.cons a b=>by rw[yh,yh,a.1,eF.any k b]
theorem eF.val:∀{m:List (κ×D)}{kvs:List (κ×V)} (k:κ),eF K H m kvs->(bN m k=none->dB kvs k=none)/\∀d,bN m k=some d->∃v,dB kvs k=some v/\Dn K H d v
 |_,_,k,.nil=>⟨λ_=>rfl,λd h=>by cases h⟩
 |a::m,b::kvs,k,.cons h t=>by
  have c:=eF.val k t;by_cases e:b.1=k
  ·have e2:a.1=k:=h.1.trans e
   erw[⟨λz=>?_,λd z=>?_⟩]
   ·simp[bN,ig,e2]at z
   ·simp[bN,ig,e2]at z
    subst z;exact⟨b.2,nQ e,h.2⟩
  ·have e2:¬a.1=k:=λz=>e (h.1.symm.trans z)
   have f:bN (a::m) k=bN m k:=by simp[bN,ig,e2]
   rw[f,mz e];rwa[c]
theorem eF.repl(k:κ)(f:Dn K H d v):∀{m:List (κ×D)}{kvs:List (κ×V)},eF K H m kvs->eF K H (m.map λc=>if c.1=k then (c.1,d) else c) (kvs.map λc=>if c.1=k then (c.1,v) else c)
 |_,_,.nil=>.nil
 |a::m,b::kvs,.cons h t=>by
  erw[.cons ?_ (eF.repl k f t)];by_cases e:b.1=k
  ·dsimp only;rw[la e,la (h.1.trans e)];exact⟨h.1,f⟩
  ·dsimp only;rw[wa e,wa (λz=>e (h.1.symm.trans z))];rwa[h]
def eF.put(k:κ)(h:eF K H m kvs)(a:Dn K H d v):eF K H (fO m k d) (fN kvs k v):=by
 delta fO fN;rw[eF.any k h];split
 ·rwa[eF.repl k a h]
 ·rwa[h.zsnoc ⟨rfl,a⟩]
end
noncomputable def nW:D->Option aW
 |.sc (.int i)=>some (.inl i)
 |.sc (.str x)=>some (.inr x)
 |_=>none
noncomputable def nX:T4->Option (List aW)
 |[]=>some []
 |d::r=>(nW d).bind λk=>(nX r).map (k::·)
def kL:D->Option (List aW)
 |.tup ds=>nX ds
 |_=>none
section
variable {K:Fg1}
def Mu(h:Dn K H d x)(e:nW d=some k):x=kV k:=by
 unfold nW at e
 split at e
 ·cases e;rwa[h.sc.2]
 ·cases e;rwa[h.sc.2]
 ·cases e
def C5(h:cX K Hf H d x)(e:nW d=some k):x=kV k:=by
 unfold nW at e
 split at e
 ·cases e;rwa[h.sc.2]
 ·cases e;rwa[h.sc.2]
 ·cases e
theorem C6:∀{ds:T4}{xs:T6}{ks:List aW},aY K H ds xs->nX ds=some ks->xs=ks.map kV
 |_,_,_,.nil,e=>by cases e;rfl
 |_,_,_,.cons a b,e=>by
  unfold nX at e;have⟨k,d,e⟩:=bind_some e;rename_i r _ _
  cases c:nX r with
  |none=>rw[c]at e;cases e
  |some ks =>
   rw[c]at e;cases e;rw[oa,Mu a d,C6 b c]
def uO(h:cX K Hf H d x)(e:kL d=some k):∃b,x=.ref b/\Hf b=some (.tup (k.map kV)):=by
 unfold kL at e
 split at e
 ·have⟨a,xs,rfl,c,f⟩:=h.tupU
  have c:Hf a=some (.tup xs):=c;rw[C6 f e]at c;exact⟨a,rfl,c⟩
 ·cases e
end
def f8(d k:D):Option T5:=match d with
 |.dk ks ds=>(nW k).map λkey=>bN (ks.zip ds) key
 |.dt ks ds=>(kL k).map λkey=>bN (ks.zip ds) key
 |_=>none
def uP{K:Fg1}(s:aQ Hf H)(m:cX K Hf H d x)(n:cX K Hf H k y)(h:f8 d k=some o):∃a r,x=.ref a/\rC H a/\g8 H a y r/\(o=none->r=none)/\∀z,o=some z->∃v,r=some v/\Dn K Hf z v:=by
 unfold f8 at h
 split at h
 ·have⟨c,g,i⟩:=yb.mp h
  have⟨a,kvs,rfl,f,j,l⟩:=m.dk s;have e:=C5 n g;subst e;have p:=(rH j l).val c;rw[i]at p;exact⟨a,_,rfl,.inl ⟨kvs,.inl f⟩,g8.k f,p.1,p.2⟩
 ·have⟨c,g,i⟩:=yb.mp h
  have⟨a,kvs,rfl,f,j,l⟩:=m.dt s;have⟨b,rfl,q⟩:=uO n g;have p:=(rH j l).val c;rw[i]at p;exact⟨a,_,rfl,.inr ⟨kvs,.inl f⟩,g8.t f (s _ _ q),p.1,p.2⟩
 ·cases h
def nY(b:Bool):R2:=λx y H Q=>∃a o,y=.ref a/\g8 H a x o/\Q (.bl (if b then !o.isSome else o.isSome)) H
section
variable {X:Cx}
def Mv(h:X.A.units+1<cLine):bF X (compareOp .In) (nY false):=by
 intro b s j H x y v u Q I d f ⟨a,o,e,g,q⟩;subst e;obtain rfl:u=ref a:=f;rwa[LT h I g d λi c=>⟨.bl o.isSome,H,c,rfl,q⟩]
def Mw(h:X.A.units+1<cLine):bF X (compareOp .NotIn) (nY true):=by
 intro b s j H x y v u Q I d f ⟨a,o,e,g,q⟩;subst e;obtain rfl:u=ref a:=f;rwa[LU h I g d λi c=>⟨.bl (!o.isSome),H,c,rfl,q⟩]
end
section
variable {X:Cx}
def yy(K:Fg1):R2:=λx y H Q=>match x,y with|.ref l,.ref b=>∃xs zs,bH K H l xs/\bH K H b zs/\xs.length+zs.length<=sizeLine/\∀p,H p=none->Q (.ref p) (aI H p (.lst (xs++zs)))|_,_=>False
def C7:bF X (binaryOp .Add) (yy X.K):=by
 intro m s O H x y v u Q I C E h;unfold yy at h
 split at h
 ·rename_i l b
  have⟨xs,P,hl,G,hz,q⟩:=h;cases C;cases E;have⟨its,r,J,_⟩:=I.list hl;have⟨a,o,f,_⟩:=I.list G;have R:=r.length;have T:=o.length;have⟨⟨L,dd,p,sl⟩,w,z,n,A⟩:=J.isList;have⟨⟨B,g,i,j⟩,c,d,M,e⟩:=f.isList;simp only at z A d e;subst z A d e;refine concat_meets ⟨_,w,rfl⟩ ⟨_,c,rfl⟩ noFill_list_add seq_list_add PySem.F.slot_list_add PySem.F.entry_list_add (PySem.F.args_list_add_2 _ _) (list_addW l b its.toArray a.toArray n M dd g sl j 's') ⟨w,c,?_⟩;have N:its.toArray++a.toArray=(its++a).toArray:=by simp
  rw[N];exact⟨.ref _,_,I.lnew (t':=s.toks) (r.append o) (by rw[ma];omega),rfl,q _ I.fresh⟩
 ·rwa[h.elim]
mutual
def bI:D->D->Bool
 |.sc a,.sc b=>i5 a b
 |.tup ds,.tup es=>cz ds es
 |.lst ds,.lst es=>cz ds es
 |_,_=>false
def cz:T4->T4->Bool
 |[],[]=>true
 |a::as,b::bs=>bI a b && cz as bs
 |_,_=>false
end
def C8:∀{k:Nat}{h:Heap}{d e:D}{u v:Value},HD h k d u->HD h k e v->bB k d e=bI d e:=by
 intro k
 induction k with
 |zero =>
  intro h d e u v c f
  cases d with
  |sc a =>
   cases e with
   |sc b=>rw[bI];rfl
   |_=>rwa[f.elim]
  |_=>rwa[c.elim]
 |succ k l =>
  intro h d e u v c f
  have all:∀{ds es:T4} {j vs:T9},Paired (HD h k) ds j->Paired (HD h k) es vs->eE (bB k) ds es=cz ds es:=by
   intro ds es j vs p
   induction p generalizing es vs with
   |nil=>intro q;cases q <;> simp[eE,cz]
   |cons a b i =>
    intro q
    cases q with
    |nil=>simp[eE,cz]
    |cons m n =>
     rw[eE,cz,l a m,i n]
  cases d with
  |sc a=>cases e <;> simp[bB,bI]
  |tup ds =>
   cases e with
   |tup es =>
    have⟨_,_,_,_,p⟩:=c;have⟨_,_,_,_,g⟩:=f;rw[bI];rwa[all p g]
   |_=>simp[bB,bI]
  |lst ds =>
   cases e with
   |lst es =>
    have⟨_,_,_,_,p⟩:=c;have⟨_,_,_,_,g⟩:=f;rw[bI];rwa[all p g]
   |_=>simp[bB,bI]
  |_=>rwa[c.elim]
noncomputable def bO:Nat->D->Bool
 |_,.sc _=>true
 |0,_=>false
 |n+1,.tup ds=>ds.all (bO n)
 |n+1,.lst ds=>ds.all (bO n)
 |_+1,_=>false
theorem Dn.at{K:Fg1}:∀{n:Nat}{d:D}{x:V},Dn K H d x->bO n d=true->c9 K H n d x:=by
 intro n
 induction n with
 |zero =>
  intro d x h c
  cases d with
  |sc v=>rwa[h.sc]
  |_=>cases c
 |succ n j =>
  intro d x h c
  have i:∀{ds:T4} {xs:T6},aY K H ds xs->ds.all (bO n)=true->Paired (c9 K H n) ds xs:=by
   intro ds xs p
   induction p with
   |nil=>intro _;rwa[.nil]
   |cons a b g =>
    intro f;rw[uk,pb]at f;rwa[.cons (j a f.1) (g f.2)]
  cases d with
  |sc v=>rwa[h.sc]
  |tup ds=>have⟨a,xs,e,q,p⟩:=h.tup;exact⟨a,xs,e,q,i p c⟩
  |lst ds=>have⟨a,xs,e,q,p⟩:=h.lst;exact⟨a,xs,e,q,i p c⟩
  |_=>cases c
def uQ:∀{k:Nat}{d e:D}{u:Value},HD h k d u->HD h k e u->d=e:=by
 intro k
 induction k with
 |zero =>
  intro d e u g c
  cases d with
  |sc v =>
   cases e with
   |sc w=>have⟨f,r⟩:=g;have⟨y,o⟩:=c;rw[r.inj o]
   |_=>rwa[c.elim]
  |_=>rwa[g.elim]
 |succ k z =>
  intro d e u g c
  have all:∀{ds es:T4} {n:T9},Paired (HD h k) ds n->Paired (HD h k) es n->ds=es:=by
   intro ds es n p
   induction p generalizing es with
   |nil=>intro q;cases q;rfl
   |cons a b x=>intro q;cases q with|cons l A=>rw[z a l,x A]
  cases d with
  |sc v =>
   have⟨f,r⟩:=g
   cases e with
   |sc w=>have⟨y,o⟩:=c;rw[r.inj o]
   |tup es=>have⟨a,its,q,_⟩:=c;subst q;exact(my f r).elim
   |lst es=>have⟨a,its,q,_⟩:=c;subst q;exact(my f r).elim
   |_=>rwa[c.elim]
  |tup ds =>
   have⟨a,its,q,j,s⟩:=g;subst q
   cases e with
   |sc w=>have⟨f,r⟩:=c;exact(my f r).elim
   |tup es=>have⟨l,its',q,i,m⟩:=c;cases q;have q:=Cm j i;subst q;rw[all s m]
   |lst es=>have⟨l,its',q,i,m⟩:=c;cases q;exact(uE j i).elim
   |_=>rwa[c.elim]
  |lst ds =>
   have⟨a,its,q,j,s⟩:=g;subst q
   cases e with
   |sc w=>have⟨f,r⟩:=c;exact(my f r).elim
   |lst es=>have⟨l,its',q,i,m⟩:=c;cases q;have q:=Cn j i;subst q;rw[all s m]
   |tup es=>have⟨l,its',q,i,m⟩:=c;cases q;exact(uE i j).elim
   |_=>rwa[c.elim]
  |_=>rwa[g.elim]
open Classical in
def gv(h:Heap)(k:Nat)(e:D)(w:Value):Bool:=if z:∃d,HD h k d w then bB k z.choose e else false
def uR(x:HD h k d w):gv h k e w=bB k d e:=by
 have z:∃d,HD h k d w:=⟨d,x⟩
 delta gv;rw[dif_pos z,uQ z.choose_spec x]
def nZ(K:Fg1)(k:Nat)(a:Bool):R2:=λx y H Q=>∃p xs ds e,y=.ref p/\(bH K H p xs\/cZ K H p xs)/\c9 K H k e x/\Paired (c9 K H k) ds xs/\Q (.bl (if a then !(ds.any λd=>bB k d e) else ds.any λd=>bB k d e)) H
theorem rJ:∀{ds:T4}{c:T9},Paired (HD h k) ds c->c.any (gv h k e)=ds.any λd=>bB k d e
 |_,_,.nil=>rfl
 |_,_,.cons a b=>by rw[yh,yh,uR a,rJ b]
theorem pI(d:HD s.heap k e v)(c:A.units+k<cLine):∀{ds:T4}{f:T9},Paired (HD s.heap k) ds f->∀u∈f,SeqAt.EqAt A s u v (gv s.heap k e u)
 |_,_,.nil=>λu c=>by cases c
 |_,_,.cons a b=>λu hm=>by
  rcases cb.mp hm with rfl|hm
  ·rw[uR a];rwa[lI a d c]
  ·rwa[pI d c b u hm]
def ax.dens(I:ax X pins σ H s)(p:Paired (c9 X.K H k) ds xs)(r:bD xs a):Paired (HD s.heap k) ds a :=
 Paired.imp2 (F:=bj) (G:=HD s.heap k) (R:=c9 X.K H k) (λx u d r q=>I.den q r) r p
def Mx(k:Nat)(n:X.A.units+(k+1)<cLine):bF X (compareOp .In) (nZ X.K k false):=by
 intro d s m H x y v u Q I i j h;have⟨p,xs,ds,e,rfl,hq,l,f,q⟩:=h;cases j;have g:=I.den l i;rcases hq with hq|hq
 ·have⟨its,r,c,hz⟩:=I.list hq
  have a:=I.dens f r;erw[SeqAt.in_listAt (gv s.heap k e) c.isList (λw b=>pI (A:=X.A.in1) g (by show X.A.units+1+k<cLine;omega) a w (by simpa using b)) ⟨.bl _,H,I,rfl,?_⟩];rw[show its.toArray.any (gv s.heap k e)=its.any (gv s.heap k e) by simp,rJ a];rwa[q]
 ·have⟨its,r,c,hz⟩:=I.tuple hq
  have a:=I.dens f r;erw[SeqAt.in_tupleAt (gv s.heap k e) c (λw b=>pI (A:=X.A.in1) g (by show X.A.units+1+k<cLine;omega) a w (by simpa using b)) ⟨.bl _,H,I,rfl,?_⟩];rw[show its.toArray.any (gv s.heap k e)=its.any (gv s.heap k e) by simp,rJ a];rwa[q]
def My(k:Nat)(n:X.A.units+(k+1)<cLine):bF X (compareOp .NotIn) (nZ X.K k true):=by
 intro d s m H x y v u Q I i j h;have⟨p,xs,ds,e,rfl,hq,l,f,q⟩:=h;cases j;have g:=I.den l i;rcases hq with hq|hq
 ·have⟨its,r,c,hz⟩:=I.list hq
  have a:=I.dens f r;erw[SeqAt.notIn_listAt (gv s.heap k e) c.isList (λw b=>pI (A:=X.A.in1) g (by show X.A.units+1+k<cLine;omega) a w (by simpa using b)) ⟨.bl _,H,I,rfl,?_⟩];rw[show its.toArray.any (gv s.heap k e)=its.any (gv s.heap k e) by simp,rJ a];rwa[q]
 ·have⟨its,r,c,hz⟩:=I.tuple hq
  have a:=I.dens f r;erw[SeqAt.notIn_tupleAt (gv s.heap k e) c (λw b=>pI (A:=X.A.in1) g (by show X.A.units+1+k<cLine;omega) a w (by simpa using b)) ⟨.bl _,H,I,rfl,?_⟩];rw[show its.toArray.any (gv s.heap k e)=its.any (gv s.heap k e) by simp,rJ a];rwa[q]
abbrev LV:Nat:=9
def mE{K:Fg1}:∀{k:Nat}{d e:D}{x y:V},c9 K H k d x->c9 K H k e y->bB k d e=bI d e:=by
 intro k
 induction k with
 |zero =>
  intro d e u v c f
  cases d with
  |sc a =>
   cases e with
   |sc b=>rw[bI];rfl
   |_=>rwa[f.elim]
  |_=>rwa[c.elim]
 |succ k j =>
  intro d e u v c f
  have all:∀{ds es:T4} {i vs:T6},Paired (c9 K H k) ds i->Paired (c9 K H k) es vs->eE (bB k) ds es=cz ds es:=by
   intro ds es i vs p
   induction p generalizing es vs with
   |nil=>intro q;cases q <;> simp[eE,cz]
   |cons a b h =>
    intro q
    cases q with
    |nil=>simp[eE,cz]
    |cons l m=>rw[eE,cz,j a l,h m]
  cases d with
  |sc a=>cases e <;> simp[bB,bI]
  |tup ds =>
   cases e with
   |tup es=>have⟨_,_,_,_,p⟩:=c;have⟨_,_,_,_,g⟩:=f;rw[bI];rwa[all p g]
   |_=>simp[bB,bI]
  |lst ds =>
   cases e with
   |lst es=>have⟨_,_,_,_,p⟩:=c;have⟨_,_,_,_,g⟩:=f;rw[bI];rwa[all p g]
   |_=>simp[bB,bI]
  |_=>rwa[c.elim]
def jZ:V->Nat
 |.int _=>1
 |.str _=>2
 |.bl _=>3
 |_=>0
noncomputable def fP(d e:D):Te:=match d,e with
 |.sc a,.sc b=>if jZ a=jZ b/\jZ a≠0 then some (i5 a b) else none
 |.tup ds,.tup es=>if bO LV (.tup ds) && bO LV (.tup es) then some (cz ds es) else none
 |.lst ds,.lst es=>if bO LV (.lst ds) && bO LV (.lst es) then some (cz ds es) else none
 |_,_=>none
noncomputable def cQ(d e:D):T5:=(fP d e).map D.bl
def d2(d e:D):T5:=(fP d e).map λb=>D.bl (!b)
def pJ[BEq α][LawfulBEq α](i j:α)[a:Decidable (i=j)]:decide (i=j)=(i == j):=by
 by_cases h:i=j
 ·simp[h]
 ·rw[ac h];exact(ji.mpr h).symm
def hU(a:aL n X.A):bF X (compareOp .Eq) (λx y H Q=>lK false x y H Q\/xH X.K 8 x y H Q):=KM.or (KF 8 (by have:=a.units;omega))
def pL(a:aL n X.A):bF X (compareOp .NotEq) (λx y H Q=>lK true x y H Q\/xI X.K 8 x y H Q):=KN.or (KG 8 (by have:=a.units;omega))
def C9{K:Fg1}{Hf H:Hp}(d:x=a)(e:y=b)(h:(if jZ a=jZ b/\jZ a≠0 then some (i5 a b) else none)=some z)(q:Q (.bl (if c then !z else z)) H):lK c x y H Q:=by
 subst d e
 split at h
 ·rename_i hs
  cases h
  cases x with
  |bl i =>
   cases y with
   |bl j=>show Q (V.bl (if c=true then !decide (i=j) else decide (i=j))) H;rw[pJ i j];rwa[q]
   |_=>rwa[absurd hs.1 (by simp[jZ])]
  |int i =>
   cases y with
   |int j=>show Q (V.bl (if c=true then !decide (i=j) else decide (i=j))) H;rw[pJ i j];rwa[q]
   |_=>rwa[absurd hs.1 (by simp[jZ])]
  |str i =>
   cases y with
   |str j=>show Q (V.bl (if c=true then !decide (i=j) else decide (i=j))) H;rw[pJ i j];rwa[q]
   |_=>rwa[absurd hs.1 (by simp[jZ])]
  |_=>rwa[absurd rfl hs.2]
 ·cases h
def hV{K:Fg1}:P2 K (λx y H Q=>lK false x y H Q\/xH K 8 x y H Q) cQ:=by
 intro Hf H x y d e z Q s h he hz q;unfold cQ at hz
 cases a:fP d e with
 |none=>rw[a]at hz;cases hz
 |some b =>
  rw[a]at hz;have hz:D.bl b=z:=md hz;subst hz;have q:=q Hf H (.bl b) (.refl s) (cE rfl);unfold fP at a
  split at a
  ·rwa[.inl (C9 (K:=K) (Hf:=Hf) h.sc.2 he.sc.2 a q)]
  ·split at a
   ·rename_i c
    rw[pb]at c;cases a;have f:=(h.whole s).at c.1;have g:=(he.whole s).at c.2;erw[.inr ⟨_,_,f,g,rfl,?_⟩];rw[mE f g,bI];rwa[q]
   ·cases a
  ·split at a
   ·rename_i c
    rw[pb]at c;cases a;have f:=(h.whole s).at c.1;have g:=(he.whole s).at c.2;erw[.inr ⟨_,_,f,g,rfl,?_⟩];rw[mE f g,bI];rwa[q]
   ·cases a
  ·cases a
def pM{K:Fg1}:P2 K (λx y H Q=>lK true x y H Q\/xI K 8 x y H Q) d2:=by
 intro Hf H x y d e z Q s h he hz q;unfold d2 at hz
 cases a:fP d e with
 |none=>rw[a]at hz;cases hz
 |some b =>
  rw[a]at hz;have hz:D.bl (!b)=z:=md hz;subst hz;have q:=q Hf H (.bl (!b)) (.refl s) (cE rfl);unfold fP at a
  split at a
  ·rwa[.inl (C9 (K:=K) (Hf:=Hf) h.sc.2 he.sc.2 a q)]
  ·split at a
   ·rename_i c
    rw[pb]at c;cases a;have f:=(h.whole s).at c.1;have g:=(he.whole s).at c.2;erw[.inr ⟨_,_,f,g,rfl,?_⟩];rw[mE f g,bI];rwa[q]
   ·cases a
  ·split at a
   ·rename_i c
    rw[pb]at c;cases a;have f:=(h.whole s).at c.1;have g:=(he.whole s).at c.2;erw[.inr ⟨_,_,f,g,rfl,?_⟩];rw[mE f g,bI];rwa[q]
   ·cases a
  ·cases a
def iM(d e:D):Te:=match e with
 |.sc (.str t)=>match d with|.sc (.str x)=>some (Txt.contains t x)|_=>none
 |.lst es=>if bO LV d && es.all (bO LV) then some (es.any λz=>bI z d) else none
 |.tup es=>if bO LV d && es.all (bO LV) then some (es.any λz=>bI z d) else none
 |.dk ks es=>(f8 (.dk ks es) d).map isSome
 |.dt ks es=>(f8 (.dt ks es) d).map isSome
 |_=>none
def em(d e:D):T5:=(iM d e).map D.bl
def d3(d e:D):T5:=(iM d e).map λb=>D.bl (!b)
def rK(a:aL n X.A):bF X (compareOp .In) (λx y H Q=>lL false x y H Q\/nZ X.K 9 false x y H Q\/nY false x y H Q):=K9.or ((Mx 9 (by have:=a.units;omega)).or (Mv (by have:=a.units;omega)))
def n0(a:aL n X.A):bF X (compareOp .NotIn) (λx y H Q=>lL true x y H Q\/nZ X.K 9 true x y H Q\/nY true x y H Q):=La.or ((My 9 (by have:=a.units;omega)).or (Mw (by have:=a.units;omega)))
theorem aY.at{K:Fg1}:∀{ds:T4}{xs:T6},aY K H ds xs->ds.all (bO n)=true->Paired (c9 K H n) ds xs
 |_,_,.nil,_=>.nil
 |_,_,.cons a b,h=>by
  rw[uk,pb]at h;rwa[.cons (a.at h.1) (aY.at b h.2)]
theorem yz{K:Fg1}(he:c9 K H k e y):∀{ds:T4}{xs:T6},Paired (c9 K H k) ds xs->(ds.any λd=>bB k d e)=ds.any λd=>bI d e
 |_,_,.nil=>rfl
 |_,_,.cons a b=>by rw[yh,yh,mE a he,yz he b]
def Da{K:Fg1}(s:aQ Hf H)(l:cX K Hf H d x)(he:cX K Hf H e y)(c:iM d e=some b)(q:Q (.bl (if i then !b else b)) H):lL i x y H Q\/nZ K 9 i x y H Q\/nY i x y H Q:=by
 unfold iM at c
 split at c
 ·split at c
  ·cases c
   rw[l.sc.2,he.sc.2];rwa[.inl q]
  ·cases c
 ·split at c
  ·rename_i es j
   rw[pb]at j;cases c;have⟨a,xs,rfl,m,hs⟩:=he.lst s;have f:=(l.whole s).at j.1;have h:=aY.at (hs.same s) j.2;rwa[.inr (.inl ⟨a,xs,es,d,rfl,.inl m,f,h,by rw[yz f h];rwa[q]⟩)]
  ·cases c
 ·split at c
  ·rename_i es j
   rw[pb]at j;cases c;have⟨a,xs,rfl,m,hs⟩:=he.tup;have f:=(l.whole s).at j.1;have h:=aY.at (hs.same s) j.2;rwa[.inr (.inl ⟨a,xs,es,d,rfl,.inr (s.seqT m),f,h,by rw[yz f h];rwa[q]⟩)]
  ·cases c
 ·have⟨o,f,h⟩:=yb.mp c
  have⟨a,r,rfl,_,g,n,p⟩:=uP s he l f;erw[.inr (.inr ⟨a,r,rfl,g,?_⟩)]
  have e:r.isSome=b:=by
   rw[<-h]
   cases o with
   |none=>rw[n rfl];rfl
   |some z=>have⟨v,e,_⟩:=p z rfl;rw[e];rfl
  rw[e];rwa[q]
 ·have⟨o,f,h⟩:=yb.mp c
  have⟨a,r,rfl,_,g,n,p⟩:=uP s he l f;erw[.inr (.inr ⟨a,r,rfl,g,?_⟩)]
  have e:r.isSome=b:=by
   rw[<-h]
   cases o with
   |none=>rw[n rfl];rfl
   |some z=>have⟨v,e,_⟩:=p z rfl;rw[e];rfl
  rw[e];rwa[q]
 ·cases c
def rL{K:Fg1}:P2 K (λx y H Q=>lL false x y H Q\/nZ K 9 false x y H Q\/nY false x y H Q) em:=by
 intro Hf H x y d e z Q s c he hz q;unfold em at hz
 cases a:iM d e with
 |none=>rw[a]at hz;cases hz
 |some b =>
  rw[a]at hz;have hz:D.bl b=z:=md hz;subst hz;rwa[Da s c he a (q Hf H (.bl b) (.refl s) (cE rfl))]
def n5{K:Fg1}:P2 K (λx y H Q=>lL true x y H Q\/nZ K 9 true x y H Q\/nY true x y H Q) d3:=by
 intro Hf H x y d e z Q s c he hz q;unfold d3 at hz
 cases a:iM d e with
 |none=>rw[a]at hz;cases hz
 |some b =>
  rw[a]at hz;have hz:D.bl (!b)=z:=md hz;subst hz;rwa[Da s c he a (q Hf H (.bl (!b)) (.refl s) (cE rfl))]
end
section
variable {X:Cx}{K:Fg1}
noncomputable def fD(h:Int->Int->V)(d e:D):Option D:=match d,e with|.sc (.int i),.sc (.int j)=>some (.sc (h i j))|_,_=>none
noncomputable def hW(c:Int->Int->Bool)(h:Int->Int->V)(d e:D):Option D:=match d,e with|.sc (.int i),.sc (.int j)=>if c i j=true then some (.sc (h i j)) else none|_,_=>none
def pN(b:∀i j,d9 (h i j)=true):P2 K (fB h) (fD h):=by
 intro Hf H x y d e z Q s a he hz q;unfold fD at hz
 split at hz
 ·cases hz
  rw[a.sc.2,he.sc.2];rwa[q Hf H _ (.refl s) (cE (b _ _))]
 ·cases hz
def yA(f:∀i j,c i j=true->C i j)(g:∀i j,d9 (h i j)=true):P2 K (k2 C h) (hW c h):=by
 intro Hf H x y d e z Q s a he hz q;unfold hW at hz
 split at hz
 ·split at hz
  ·rename_i b
   cases hz;rw[a.sc.2,he.sc.2]
   exact⟨f _ _ b,q Hf H _ (.refl s) (cE (g _ _))⟩
  ·cases hz
 ·cases hz
def pO:=fD λi j=>.int (i - j)
def yB:=fD λi j=>.bl (decide (i<=j))
def fE:=fD λi j=>.bl (decide (j<i))
def Db:=fD λi j=>.bl (decide (j<=i))
noncomputable def kM(a b:Int):Bool:=!(decide (Builtin.Int.intBits a > shortFactorBits) && decide (Builtin.Int.intBits b > shortFactorBits) && Builtin.Int.intTooBig (Builtin.Int.intBits a+Builtin.Int.intBits b))
def Mz:bF X (binaryOp .Mult) (rI (λi j=>kM i j=true) λi j=>.int (i * j)):=wX λi j _ _ _ _ _ a q=>mul_int q (by delta IntMulOk;intro h;unfold kM at a;rw[h]at a;cases a)
def d4:=hW kM λi j=>.int (i * j)
def eG:=hW (λi j=>decide (0<j/\j<1073741824)) λi j=>.int (i / j)
def b7:=hW (λ_ j=>decide (0<j)) λi j=>.int (i % j)
def Dc:P2 K (fB λi j=>.int (i - j)) pO:=pN λ_ _=>rfl
def lP:P2 K (fB λi j=>.bl (decide (j<i))) fE:=pN λ_ _=>rfl
def MA:P2 K (fB λi j=>.bl (decide (j<=i))) Db:=pN λ_ _=>rfl
def lQ:P2 K (k2 (λi j=>kM i j=true) λi j=>.int (i * j)) d4:=yA (λ_ _ h=>h) λ_ _=>rfl
def kN:P2 K (k2 wY λi j=>.int (i / j)) eG:=yA (λ_ _ h=>ic (p:=_/\_) h) λ_ _=>rfl
def eY:P2 K (k2 (λ_ j=>0<j) λi j=>.int (i % j)) b7:=yA (λ_ _ h=>ic h) λ_ _=>rfl
def lR:bF X (binaryOp .Mult) (k2 (λi j=>kM i j=true) λi j=>.int (i * j)):=xJ Mz
noncomputable def bG(d e:D):Option D:=match d,e with
 |.sc (.int i),.sc (.int j)=>some (.int (i+j))
 |.sc (.str i),.sc (.str j)=>if i.length+j.length<=sizeLine then some (.sc (.str (i++j))) else none
 |.lst ds,.lst es=>if ds.length+es.length<=sizeLine then some (.lst (ds++es)) else none
 |_,_=>none
def Dd(K:Fg1):R2:=λx y H Q=>fB (λi j=>.int (i+j)) x y H Q\/xP x y H Q\/yy K x y H Q
def cJ:bF X (binaryOp .Add) (Dd X.K):=KJ.or (K8.or C7)
def cK:P2 K (Dd K) bG:=by
 intro Hf H x y d e z Q s c he hz q;unfold bG at hz
 split at hz
 ·cases hz
  rw[c.sc.2,he.sc.2];rwa[.inl (q Hf H _ (.refl s) (cE rfl))]
 ·split at hz
  ·rename_i f
   cases hz;rw[c.sc.2,he.sc.2]
   rwa[.inr (.inl ⟨f,q Hf H _ (.refl s) (cE rfl)⟩)]
  ·cases hz
 ·split at hz
  ·rename_i f
   cases hz;have⟨a,xs,rfl,j,g⟩:=c.lst s
   have⟨b,ys,rfl,l,h⟩:=he.lst s;erw[.inr (.inr ⟨xs,ys,j,l,by rw[<-g.length,<-h.length];exact f,λp i=>?_⟩)];have e2:=Ex.new (o:=.lst (xs++ys)) s i;rwa[q _ _ _ e2 (iL (bH.of aZ) ((g.zapp h).zmap λ_ _ z=>z.same e2.ff))]
  ·cases hz
 ·cases hz
mutual
def bY:D->D->Bool
 |.sc a,.sc b=>uD a b
 |.tup ds,.tup es=>cU ds es
 |.lst ds,.lst es=>cU ds es
 |_,_=>false
def cU:List D->List D->Bool
 |[],[]=>false
 |[],_::_=>true
 |_::_,[]=>false
 |a::as,b::bs=>if bI a b=true then cU as bs else bY a b
end
mutual
def cV:D->D->Bool
 |.sc a,.sc b=>rl a b
 |.tup ds,.tup es=>gw ds es
 |.lst ds,.lst es=>gw ds es
 |_,_=>false
def gw:List D->List D->Bool
 |a::as,b::bs=>cV a b && gw as bs
 |_,_=>true
end
def MB:∀{k:Nat}{d e:D}{x y:V},c9 K H k d x->c9 K H k e y->dU k d e=bY d e/\(cV d e=true->iK k d e):=by
 intro k
 induction k with
 |zero =>
  intro d e u v c f
  cases d with
  |sc a =>
   cases e with
   |sc b=>rw[bY,cV];exact⟨rfl,λh=>h⟩
   |_=>rwa[f.elim]
  |_=>rwa[c.elim]
 |succ k s =>
  intro d e u v c f
  have all:∀{ds es:List D} {j vs:List V},Paired (c9 K H k) ds j->Paired (c9 K H k) es vs->fA (bB k) (dU k) ds es=cU ds es/\(gw ds es=true->∀p∈ds.zip es,iK k p.1 p.2):=by
   intro ds es j vs p
   induction p generalizing es vs with
   |nil=>intro q;cases q <;> simp[fA,cU]
   |cons a b i =>
    intro q
    cases q with
    |nil=>simp[fA,cU]
    |cons l w =>
     have⟨m,n⟩:=i w;have⟨o,r⟩:=s a l;erw[⟨?_,λh=>?_⟩]
     ·rw[fA,cU,mE a l,m,o]
     ·rw[gw,pb]at h
      intro p hp;rw[ph]at hp;rcases cb.mp hp with rfl|hp
      ·rwa[r h.1]
      ·rwa[n h.2 p hp]
  cases d with
  |sc a =>
   cases e with
   |sc b=>rw[bY,cV];exact⟨rfl,λh=>h⟩
   |_=>simp[dU,bY,cV]
  |tup ds =>
   cases e with
   |tup es=>have⟨_,_,_,_,p⟩:=c;have⟨_,_,_,_,g⟩:=f;rw[bY,cV];rwa[all p g]
   |_=>simp[dU,bY,cV]
  |lst ds =>
   cases e with
   |lst es=>have⟨_,_,_,_,p⟩:=c;have⟨_,_,_,_,g⟩:=f;rw[bY,cV];rwa[all p g]
   |_=>simp[dU,bY,cV]
  |_=>rwa[c.elim]
noncomputable def n6(d e:D):Option D:=match d,e with
 |.sc (.int i),.sc (.int j)=>some (.bl (decide (i<j)))
 |d,e=>if (bO LV d && bO LV e && cV d e)=true then some (.bl (bY d e)) else none
def De(K:Fg1):R2:=λx y H Q=>fB (λi j=>.bl (decide (i<j))) x y H Q\/Cs K 8 x y H Q
def Dg(a:aL n X.A):bF X (compareOp .Lt) (De X.K):=Cu.or (KH 8 (by have:=a.units;omega))
def Dh:P2 K (De K) n6:=by
 intro Hf H x y d e z Q s b he hz q;unfold n6 at hz
 split at hz
 ·cases hz
  rw[b.sc.2,he.sc.2];rwa[.inl (q Hf H _ (.refl s) (cE rfl))]
 ·split at hz
  ·rename_i a
   rw[pb,pb]at a;cases hz;have c:=(b.whole s).at a.1.1;have f:=(he.whole s).at a.1.2;have⟨g,h⟩:=MB c f;erw[.inr ⟨_,_,c,f,h a.2,?_⟩];rw[g];rwa[q Hf H _ (.refl s) (cE rfl)]
  ·cases hz
noncomputable def cR(d:D):Option D:=match d with|.sc (.int i)=>some (.int (-i))|_=>none
variable {a:Expr}{fa fb:av->Option D}{pos:Pos}
def iN(ha:PE X a (eV X.K B fa)):PE X (.UnaryOp .USub a pos) (eV X.K B (e1 cR fa)):=(Jd KZ ha).imp λh H Q ⟨Hf,ρ,z,I,hz,q⟩=>by
 have⟨d,g,hz⟩:=bind_some hz;erw[⟨Hf,ρ,d,I,g,λb e v c f=>?_⟩];unfold cR at hz
 split at hz
 ·cases hz
  rw[f.int];rwa[q b e _ c (cE rfl)]
 ·cases hz
def Di{c d:Type}{F:c->d->Prop}{l:List c}{m:List d}{i:Int}{a:c}(p:Paired F l m)(h:d1 l i=some a):∃b,d1 m i=some b/\F a b:=by
 have e:=p.length;unfold d1 at h ⊢;rw[<-e]
 cases q:iG l.length i with
 |none=>rw[q]at h;cases h
 |some j =>
  rw[q]at h;have⟨b,f,g⟩:=p.zget (show l[j]?=some a from h);exact⟨b,f,g⟩
def aS(d e:D):Option D:=match d,e with
 |.lst ds,.sc (.int i)=>d1 ds i
 |.tup ds,.sc (.int i)=>d1 ds i
 |.sc (.str z),.sc (.int i)=>if z.length<=sizeLine then (d1 z.cps.toList i).map λc=>.str [c] else none
 |_,_=>none
def Dj(K:Fg1):R2:=λx y H Q=>xL K x y H Q\/xM K x y H Q\/xN x y H Q
def MC:g6 X (Dj X.K):=K0.or (K1.or K2)
def MD:P2 K (Dj K) aS:=by
 intro Hf H x y d e z Q s b he hz q;unfold aS at hz
 split at hz
 ·have⟨a,xs,rfl,f,g⟩:=b.lst s
  have⟨v,h,i⟩:=Di g hz;rw[he.sc.2];rwa[.inl ⟨xs,v,f,h,q Hf H v (.refl s) i⟩]
 ·have⟨a,xs,rfl,f,g⟩:=b.tup
  have⟨v,h,i⟩:=Di g hz;rw[he.sc.2];rwa[.inr (.inl ⟨xs,v,s.seqT f,h,q Hf H v (.refl s) i⟩)]
 ·split at hz
  ·rename_i j
   have⟨c,l,hz⟩:=yb.mp hz;subst hz;rw[b.sc.2,he.sc.2];rwa[.inr (.inr ⟨j,c,l,q Hf H _ (.refl s) (cE rfl)⟩)]
  ·cases hz
 ·cases hz
def b9(ha:PE X a (eB X.K B fa))(c:PE X b (eB X.K B fb))(hs:Cb b):PE X (.Subscript a b pos) (eV X.K B (e2 aS fa fb)):=(JT MC ha c hs).imp λd H Q h=>uM MD h
noncomputable def dN{α:Type}(xs:List α)(lo hi:Tc):List α:=(xs.drop (HT.sIx xs.length 0 lo)).take (HT.sIx xs.length xs.length hi - HT.sIx xs.length 0 lo)
def Dk(p:Paired F l m)(a b:Tc):Paired F (dN l a b) (jH m a b):=by
 have e:=p.length;delta dN jH;rw[<-e];exact(p.zdrop _).ztake _
noncomputable def jN(d:D)(lo hi:Tc):Option D:=match d with
 |.lst ds=>some (.lst (dN ds lo hi))
 |.tup ds=>some (.tup (dN ds lo hi))
 |.sc (.str z)=>if z.length<=sizeLine then some (.sc (.str (StrLaws.sliceText z lo hi))) else none
 |_=>none
noncomputable def cv(fa:av->Option D)(fl fh:av->Option Tc):av->Option D:=λρ=>(fa ρ).bind λd=>(fl ρ).bind λlo=>(fh ρ).bind λhi=>jN d lo hi
def oN:av->Option Tc:=λ_=>some none
noncomputable def j0:D->Tc|.sc (.int i)=>some i|_=>none
def oS(fa:av->Option D):av->Option Tc:=λρ=>(fa ρ).bind λd=>(j0 d).map some
def PO.imp(h:PO X e t)(f:∀σ H Q,t' σ H Q->t σ H Q):PO X e t':=λa s σ H Q I q=>h a s σ H Q I (f σ H Q q)
def hY:PO X none (oV X.K B oN):=JO.imp λa H Q ⟨Hf,ρ,z,I,hz,q⟩=>by cases hz;rwa[q Hf H (.refl I.fh)]
def eZ(ha:PE X a (eB X.K B fa)):PO X (some a) (oV X.K B (oS fa)):=(K6 ha).imp λh H Q ⟨Hf,ρ,z,I,hz,q⟩=>by
 have⟨d,g,hz⟩:=bind_some hz;erw[⟨Hf,ρ,d,I,g,λb e v c f=>?_⟩];unfold j0 at hz
 split at hz
 ·cases hz
  rw[f.sc.2];rwa[q b e c]
 ·cases hz
def Dl(K:Fg1):V->Tc->Tc->Hp->VK->Prop:=λx lo hi H Q=>∃a xs,x=.ref a/\cZ K H a xs ∧
 ((HT.sIx xs.length 0 lo=0/\HT.sIx xs.length xs.length hi=xs.length/\Q (.ref a) H)\/(¬(HT.sIx xs.length 0 lo=0/\HT.sIx xs.length xs.length hi=xs.length)/\∀p,H p=none->Q (.ref p) (aI H p (.tup (jH xs lo hi)))))
end
end L2
namespace HT
open PySem PyProof.Rows
section
variable {s:Shared}
def getItem_tuple_all{a:Tc}(b:IsTup s.heap t items)(hs:s.heap.IsSliceOf sl i j .none)(o:IsPart i a)(p:IsPart j c)(l:sIx items.size 0 a=0/\sIx items.size items.size c=items.size)(h:Q (.ref t) s):wpAny (model prog w) A (getItem (.ref t) (.ref sl)) Q E s:=by
 have⟨os,d,e,n⟩:=id hs;have f:s.TypeIs (.ref sl) "slice":=⟨os,d,e⟩
 delta getItem
 try with_reducible refine ve ?_
 first|refine aa (ja ?_)|skip
 erw[aa (wpAny_sequenceKey b.typeIs 'd' ?_)]
 refine wpAny_bind (wpAny_callSpecial?_slot (name:=ofString "__getitem__") b.typeIs PyProof.Rows.slot_tuple_getitem
  (il wf b.typeIs entry_tuple_getitem ?_ (args_tuple_getitem _ _)))
 show wpAny _ _ (Builtin.Tuple.tupleItemsOf (.ref t) >>= _) _ _ s;erw[aa (tupleItemsOf_ b ?_)];erw[aa (ao f ?_)];rw[la 'd'];erw[aa (B8 hs o p ?_)]
 have g:(((sIx items.size 0 a:Nat):Int) == 0 && (1:Int) == 1 && (sIx items.size items.size c - sIx items.size 0 a) == items.size)=true:=by
  rw[l.1,l.2];simp
 show wpAny _ _ (if (((sIx items.size 0 a:Nat):Int) == 0 && (1:Int) == 1 && (sIx items.size items.size c - sIx items.size 0 a) == items.size)=true then _ else _) _ _ s;rw[la g];erw[aa (m:=Builtin.Tuple.tupleIsExact _) (aa (ao b.typeIs (ja ?_)))];rw[la 'd']
 first
  |exact aa (zo (ja ⟨_,rfl,ja h⟩))
  |rwa[aa (zo (aa (ja (ja ⟨_,rfl,ja h⟩))))]
  |rwa[aa (aa (zo (ja (ja ⟨_,rfl,ja h⟩))))]
  |rwa[aa (zo (aa (ja ⟨_,rfl,ja h⟩)))]
end
end HT
namespace L2
open PySem PySem.Spec PyProof.Rows
section
variable {X:Cx}{K:Fg1}
def ME:iF X (Dl X.K):=by
 intro b s l H x v m n o p sl Q I e hs f g h;have⟨a,xs,rfl,i,h⟩:=h;rcases h with⟨d,u,q⟩|⟨d,q⟩
 ·cases e
  have⟨its,r,j,hz⟩:=I.tuple i;have c:its.toArray.size=xs.length:=by rw[xa];rwa[r.length.symm]
  erw[⟨"tuple",_,wf.lookup,j.typeIs,?_⟩];rwa[HT.getItem_tuple_all j hs f g (by rw[c];exact⟨d,u⟩) ⟨.ref a,H,I,rfl,q⟩]
 ·rwa[JS b s l H _ v m n o p sl Q I e hs f g ⟨a,xs,rfl,i,d,q⟩]
def Dm(K:Fg1):V->Tc->Tc->Hp->VK->Prop:=λx lo hi H Q=>xO K x lo hi H Q\/Dl K x lo hi H Q\/x0 x lo hi H Q
def MF:iF X (Dm X.K):=K7.or (ME.or Lz)
def MG{a:Tc}(d:HT.sIx xs.length 0 a=0)(e:HT.sIx xs.length xs.length b=xs.length):dN xs a b=xs:=by
 delta dN;rw[d,e];simp
def MH(s:aQ Hf H)(j:cX K Hf H d x)(hz:jN d b c=some z)(q:∀Hf' H' v,Ex Hf H Hf' H'->Dn K Hf' z v->Q v H'):Dm K x b c H Q:=by
 unfold jN at hz
 split at hz
 ·cases hz
  have⟨a,xs,rfl,h,f⟩:=j.lst s;erw[.inl ⟨xs,h,λp i=>?_⟩];have e2:=Ex.new (o:=.lst (jH xs b c)) s i;rwa[q _ _ _ e2 (iL (bH.of aZ) ((Dk f b c).zmap λ_ _ z=>z.same e2.ff))]
 ·cases hz
  have⟨a,xs,rfl,h,f⟩:=j.tupU;erw[.inr (.inl ⟨a,xs,rfl,s.seqT h.toT,?_⟩)];by_cases g:HT.sIx xs.length 0 b=0/\HT.sIx xs.length xs.length c=xs.length
  ·refine .inl ⟨g.1,g.2,q Hf H _ (.refl s) ?_⟩
   have e:=f.length;rw[MG (by rw[e];rwa[g.1]) (by rw[e];rwa[g.2])];rwa[nV h f]
  ·refine .inr ⟨g,λp i=>?_⟩
   have e2:=Ex.new (o:=.tup (jH xs b c)) s i;rwa[q _ _ _ e2 (nV (gJ.of aZ) ((Dk f b c).zmap λ_ _ z=>z.same e2.ff))]
 ·split at hz
  ·rename_i l
   cases hz;rw[j.sc.2]
   rwa[.inr (.inr ⟨l,q Hf H _ (.refl s) (cE rfl)⟩)]
  ·cases hz
 ·cases hz
variable {a:Expr}{fa fb:av->T5}{fr:av->T0}{pos:Pos}{lo hi:Option Expr}{fl fh:av->Option Tc}
def f9(ha:PE X a (eB X.K B fa))(hl:PO X lo (oV X.K B fl))(m:PO X hi (oV X.K B fh)):PE X (.Subscript a (.Slice lo hi none p2) pos) (eV X.K B (cv fa fl fh)):=(JQ MF ha hl m).imp λu H Q ⟨Hf,ρ,z,I,hz,q⟩=>by
 have⟨d,s,hz⟩:=bind_some hz;have⟨l,hl,hz⟩:=bind_some hz;have⟨h,m,hz⟩:=bind_some hz
 exact⟨Hf,ρ,d,I,s,λ f w v b n=>⟨f,ρ,l,I.ext b,hl,λ g x c=>⟨g,ρ,h,(I.ext b).ext c,m,λ o y e =>
  MH e.fh ((n.ext c).ext e) hz λi H' p r j=>q i H' p (((b.trans c).trans e).trans r) j⟩⟩⟩
def PN(K:Fg1)(r:T6->Hp->VK->Prop)(g:T4->T5):Prop:=∀Hf H xs ds z (Q:VK),aQ Hf H->rE K Hf H ds xs->g ds=some z->(∀Hf' H' v,Ex Hf H Hf' H'->Dn K Hf' z v->Q v H')->r xs H Q
def Do(m:PN X.K r g){e:St}(h:eV X.K B (eN g fr) e H Q):uz r (aB X.K B fr) e H Q:=by
 have⟨Hf,ρ,z,I,hz,q⟩:=h;have⟨ds,l,hz⟩:=bind_some hz;exact⟨Hf,ρ,ds,I,l,λb f vs a c=>m b f vs ds z Q a.fh c hz λd H' v i j=>q d H' v (a.trans i) j⟩
def e5{id:String}(c:dI X (.builtin id) r)(d:PN X.K r g)(f:Gl X x)(hm:X.mg x=none)(i:bootBuiltins x=some (.builtin id))(ha:PA X (e::es) (aB X.K B fr))(hn:x ≠ "__name__":=by decide)(a:(x == 'g')=false:=by decide)(he:W1 X (e::es) e es:=by rfl)(b:W2 X pos es:=by rfl):PE X (.Call (.Name x p) (e::es) [] pos) (eV X.K B (eN g fr)) :=
 (nI c f hm i ha hn a he b).imp λj H Q h=>Do d h
def uS{id:String}(c:dI X (.type id) r)(d:PN X.K r g)(f:Gl X x)(hm:X.mg x=none)(i:bootBuiltins x=some (.type id))(ha:PA X (e::es) (aB X.K B fr))(hn:x ≠ "__name__":=by decide)(a:(x == 'g')=false:=by decide)(he:W1 X (e::es) e es:=by rfl)(b:W2 X pos es:=by rfl):PE X (.Call (.Name x p) (e::es) [] pos) (eV X.K B (eN g fr)) :=
 (w9 c f hm i ha hn a he b).imp λj H Q h=>Do d h
def gK(h:rE K Hf H [d] xs):∃x,xs=[x]/\cX K Hf H d x:=by
 cases h with|cons a b=>cases b;exact⟨_,rfl,a⟩
def MJ{e:D}(h:rE K Hf H [d,e] xs):∃x y,xs=[x,y]/\cX K Hf H d x/\cX K Hf H e y:=by
 cases h with|cons a b=>cases b with|cons b c=>cases c;exact⟨_,_,rfl,a,b⟩
noncomputable def bP:T4->T5
 |[.lst ds]=>some (.int ds.length)
 |[.tup ds]=>some (.int ds.length)
 |[.sc (.str z)]=>if z.length<=sizeLine then some (.int z.length) else none
 |_=>none
def Dp(K:Fg1):T6->Hp->VK->Prop:=λxs H Q=>xQ K xs H Q\/xR xs H Q
def fF:dI X (.builtin "len") (Dp X.K):=Lb.or Lc
def fG:PN K (Dp K) bP:=by
 intro Hf H xs ds z Q s c hz q;unfold bP at hz
 split at hz
 ·cases hz
  have⟨x,rfl,b⟩:=gK c;have⟨a,ys,rfl,d,e⟩:=b.lst s;rwa[.inl ⟨ys,.inl d,by rw[<-e.length];rwa[q Hf H _ (.refl s) (cE rfl)]⟩]
 ·cases hz
  have⟨x,rfl,b⟩:=gK c;have⟨a,ys,rfl,d,e⟩:=b.tup;rwa[.inl ⟨ys,.inr (s.seqT d),by rw[<-e.length];rwa[q Hf H _ (.refl s) (cE rfl)]⟩]
 ·split at hz
  ·rename_i f
   cases hz;have⟨x,rfl,b⟩:=gK c
   rw[b.sc.2];rwa[.inr ⟨f,q Hf H _ (.refl s) (cE rfl)⟩]
  ·cases hz
 ·cases hz
def yC:T4->T5
 |[.lst ds]=>some (.lst ds)
 |[.tup ds]=>some (.lst ds)
 |_=>none
def MK:PN K (xS K) yC:=by
 intro Hf H xs ds z Q s f hz q;unfold yC at hz
 split at hz
 ·cases hz
  have⟨x,rfl,c⟩:=gK f;have⟨a,ys,rfl,d,e⟩:=c.lst s;erw[⟨ys,.inl d,λp b=>?_⟩];have e2:=Ex.new (o:=.lst ys) s b;rwa[q _ _ _ e2 (iL (bH.of aZ) (e.same e2.ff))]
 ·cases hz
  have⟨x,rfl,c⟩:=gK f;have⟨a,ys,rfl,d,e⟩:=c.tup;erw[⟨ys,.inr (s.seqT d),λp b=>?_⟩];have e2:=Ex.new (o:=.lst ys) s b;rwa[q _ _ _ e2 (iL (bH.of aZ) (e.same e2.ff))]
 ·cases hz
noncomputable def uT:T4->T5
 |[.lst ds]=>some (.tup ds)
 |[.tup ds]=>some (.tup ds)
 |_=>none
def Dq:PN K (λxs H Q=>∃p ys,xs=[.ref p]/\((bH K H p ys/\∀l,H l=none->Q (.ref l) (aI H l (.tup ys)))\/(cZ K H p ys/\Q (.ref p) H))) uT:=by
 intro Hf H xs ds z Q s e hz q;unfold uT at hz
 split at hz
 ·cases hz
  have⟨x,rfl,c⟩:=gK e;have⟨a,ys,rfl,b,d⟩:=c.lst s;erw[⟨a,ys,rfl,.inl ⟨b,λp f=>?_⟩⟩];have e2:=Ex.new (o:=.tup ys) s f;rwa[q _ _ _ e2 (nV (gJ.of aZ) (d.same e2.ff))]
 ·cases hz
  have⟨x,rfl,c⟩:=gK e;have⟨a,ys,rfl,b,d⟩:=c.tupU;exact⟨a,ys,rfl,.inr ⟨s.seqT b.toT,q Hf H _ (.refl s) (nV b d)⟩⟩
 ·cases hz
noncomputable def fH:D->String
 |.sc .non => "NoneType"
 |.sc (.bl _) => "bool"
 |.sc (.int _) => "int"
 |.sc (.str _) => "str"
 |.sc _ => "?"
 |.tup _ => "tuple"
 |.lst _ => "list"
 |_ => "?"
noncomputable def yD(t n:String):Bool:=t == n || (t == "bool" && n == "int")
def uU(n:String):Prop:=∀(K:Fg1) (d:D),fH d ≠ "?" -> kitOne K (.type (fH d)) (.type n)=some (yD (fH d) n)
end
section
variable {X:Cx}{K:Fg1}
variable {a:Expr}{es:Tg}{fa fb:av->T5}{pos apos cpos:Pos}
def ML(K:Fg1):T6->Hp->VK->Prop:=λxs H Q=>∃x n t b,xs=[x,.ty n]/\(dJ K H x t\/(t=.type "list" /\ ∃p ys,x=.ref p/\bH K H p ys)\/(t=.type "tuple" /\ ∃p ys,x=.ref p/\cZ K H p ys))/\kitOne K t (.type n)=some b/\Q (.bl b) H
def MM:dI X (.builtin "isinstance") (ML X.K):=by
 intro j s o H vs r Q I l h;have⟨x,n,t,b,rfl,ty,e,q⟩:=h;have⟨u,v,rfl,a,m⟩:=nG l;cases m;rcases ty with ty|⟨rfl,p,ys,rfl,g⟩|⟨rfl,p,ys,rfl,g⟩
 ·rwa[JB I a ty e λi=>⟨.bl b,H,I.tok _,rfl,q⟩]
 ·cases a
  have⟨its,_,⟨c,w,d,f,_⟩,_⟩:=I.list g;rwa[kia_one kitx_list I.kIn ⟨c,d,f⟩ e (λz=>nomatch z) λi=>⟨.bl b,H,I.tok _,rfl,q⟩]
 ·cases a
  have⟨its,_,⟨c,d,f,_⟩,_⟩:=I.tuple g;rwa[kia_one kitx_tuple I.kIn ⟨c,d,f⟩ e (λz=>nomatch z) λi=>⟨.bl b,H,I.tok _,rfl,q⟩]
def MN:uU "int":=λK d h=>by
 cases d with
 |sc v=>cases v <;> first|rfl|exact absurd rfl h
 |_=>first|rfl|exact absurd rfl h
def MO:uU "bool":=λK d h=>by
 cases d with
 |sc v=>cases v <;> first|rfl|exact absurd rfl h
 |_=>first|rfl|exact absurd rfl h
def Dr:uU "list":=λK d h=>by
 cases d with
 |sc v=>cases v <;> first|rfl|exact absurd rfl h
 |_=>first|rfl|exact absurd rfl h
def n7(n:String)(d:D):T5:=if fH d = "?" then none else some (.bl (yD (fH d) n))
def uV(r:uU n)(s:Gl X "isinstance")(hm:X.mg "isinstance" = none)(u:PE X (.Name x p') (tC (.ty n)))(ha:PE X a (eB X.K B fa))(e:W1 X [a,.Name x p'] a [.Name x p']:=by rfl)(j:starEach [.Name x p'] X.u=[(false,eval (.Name x p') X.u)]:=by rfl)(l:W2 X pos [.Name x p']:=by rfl):PE X (.Call (.Name "isinstance" p) [a,.Name x p'] [] pos) (eV X.K B (e1 (n7 n) fa)) :=
 (nI MM s hm uH (dL ha (dL u gG j) e) 'd' 'd' e l).imp λy H Q k=>by
  have⟨Hf,ρ,z,I,hz,q⟩:=k;have⟨d,o,hz⟩:=bind_some hz;unfold n7 at hz
  split at hz
  ·cases hz
  ·rename_i h
   cases hz;erw[⟨Hf,ρ,d,I,o,λf m v c g=>⟨v,n,.type (fH d),yD (fH d) n,rfl,?_,r _ d h,q f m _ c (cE rfl)⟩⟩]
   cases d with
   |sc w =>
    rw[g.sc.2]
    cases w with
    |non=>rwa[.inl .non]
    |bl b=>rwa[.inl (.bl b)]
    |int b=>rwa[.inl (.int b)]
    |str b=>rwa[.inl (.str b)]
    |_=>rwa[absurd rfl h]
   |tup ds=>have⟨a,ys,rfl,i,_⟩:=g.tup;rwa[.inr (.inr ⟨rfl,a,ys,rfl,c.fh.seqT i⟩)]
   |lst ds=>have⟨a,ys,rfl,i,_⟩:=g.lst c.fh;rwa[.inr (.inl ⟨rfl,a,ys,rfl,i⟩)]
   |_=>rwa[absurd rfl h]
def PM(K:Fg1)(T:String)(r:V->T6->Hp->VK->Prop)(g:D->T4->T5):Prop:=∀Hf H x xs d ds z (Q:VK),aQ Hf H->cX K Hf H d x->rE K Hf H ds xs->g d ds=some z->(∀Hf' H' v,Ex Hf H Hf' H'->Dn K Hf' z v->Q v H')->r x xs H Q
noncomputable def eM(T:String)(g:D->T4->T5)(fo:av->T5)(fr:av->T0):av->T5:=λρ=>(fo ρ).bind λd=>(fr ρ).bind λds=>if fH d=T then g d ds else none
def Ds(s:aQ Hf H)(h:cX K Hf H d x)(e:fH d=T)(f:T ≠ "tuple"):T = "str" \/ T = "int" \/ T = "list" -> uA K T x H:=by
 intro b;subst e
 cases d with
 |sc v =>
  rw[h.sc.2]
  cases v with
  |str z=>rfl
  |int z=>rfl
  |_=>rcases b with z|z|z <;> rwa[absurd z (by simp[fH])]
 |tup ds=>rwa[absurd rfl f]
 |lst ds=>have⟨a,ys,rfl,c,_⟩:=h.lst s;rwa[.inl ⟨rfl,ys,c⟩]
 |_=>rcases b with z|z|z <;> rwa[absurd z (by simp[fH])]
def MP{id:String}(y:PlainAttrs T)(e:Slot T name id)(l:typeOf (.builtin id)=pure (.type "method_descriptor"))(hm:iH X id r)(A:PM X.K T r g)(C:PE X o (eB X.K B fa))(n:(T = "str" \/ T = "int" \/ T = "list")/\T ≠ "tuple":=by decide)(b:attributeBase o name X.u (eval o X.u)=eval o X.u:=by rfl)(c:(apos.endLine == cpos.line)=true:=by rfl):PE X (.Call (.Attribute o name apos) [] [] cpos) (eV X.K B (eM T g fa aN)) :=
 (Kg y e l hm C b c).imp λE H Q ⟨Hf,ρ,z,I,hz,q⟩=>by
  have⟨d,x,hz⟩:=bind_some hz;have⟨ds,j,hz⟩:=bind_some hz;cases j
  split at hz
  ·rename_i w
   exact⟨Hf,ρ,d,I,x,λf p v a m=>⟨Ds a.fh m w n.2 n.1,A f p v [] d [] z Q a.fh m .nil hz λh H' s u i=>q h H' s (a.trans u) i⟩⟩
  ·cases hz
def pP{id:String}(L:PlainAttrs T)(i:Slot T name id)(w:typeOf (.builtin id)=pure (.type "method_descriptor"))(hm:iH X id r)(M:PM X.K T r g)(N:PE X o (eB X.K B fa))(ha:PA X (e::es) (aB X.K B fr))(A:(T = "str" \/ T = "int" \/ T = "list")/\T ≠ "tuple":=by decide)(f:attributeBase o name X.u (eval o X.u)=eval o X.u:=by rfl)(j:((backTo cpos (starEach (e::es) X.u)).all (λ x=>!x.1) && (backToKw cpos (keywordEach [] X.u)).all (λ x=>x.1.isSome)
   && decide ((e::es).length+([]:List Keyword).length+'e'<30))=true:=by rfl)(h:(apos.endLine == cpos.line)=true:=by rfl)(hs:W1 X (e::es) e es:=by rfl)(a:W2 X cpos es:=by rfl) :
  PE X (.Call (.Attribute o name apos) (e::es) [] cpos) (eV X.K B (eM T g fa fr)) :=
 (xu L i w hm N ha f j h hs a).imp λO H Q k=>by
  have⟨Hf,ρ,z,I,hz,q⟩:=k;have⟨d,J,hz⟩:=bind_some hz;have⟨ds,u,hz⟩:=bind_some hz
  split at hz
  ·rename_i G
   exact⟨Hf,ρ,d,I,J,λl P v b y=>⟨Ds b.fh y G A.2 A.1,l,ρ,ds,I.ext b,u,λm C vs c n=>M m C v vs d ds z Q c.fh (y.ext c) n hz λp H' E F s=>q p H' E ((b.trans c).trans F) s⟩⟩
  ·cases hz
noncomputable def uW(c:Str->Bool)(f:Str->V):D->T4->T5:=λd ds=>match d,ds with|.sc (.str z),[]=>if c z=true then some (.sc (f z)) else none|_,_=>none
def MQ(g:∀z,c z=true->C z)(h:∀z,d9 (f z)=true):PM K "str" (rA C f) (uW c f):=by
 intro Hf H x xs d ds z Q s b a hz q;unfold uW at hz
 split at hz
 ·split at hz
  ·rename_i e
   cases hz;cases a
   rw[b.sc.2];exact⟨g _ e,q Hf H _ (.refl s) (cE (h _))⟩
  ·cases hz
 ·cases hz
def uX:=uW (λz=>!Builtin.Str.tooLong (Txt.lower z).length) λz=>.str (Txt.lower z)
def MR:PM K "str" (rA (λz=>Builtin.Str.tooLong (Txt.lower z).length=false) λz=>.str (Txt.lower z)) uX:=MQ (λz h=>by simpa using h) λ_=>rfl
noncomputable def rM:D->T4->T5:=λd ds=>match d,ds with|.sc (.str z),[.sc (.str y)]=>(Builtin.Str.occurrences z y 0 z.length 1).head?.map λi=>.int i|_,_=>none
def MS:PM K "str" xY rM:=by
 intro Hf H x xs d ds z Q s e b hz q;unfold rM at hz
 split at hz
 ·have⟨i,a,hz⟩:=yb.mp hz
  subst hz;have⟨g,rfl,f⟩:=gK b;rw[e.sc.2,f.sc.2]
  cases c:Builtin.Str.occurrences _ _ 0 _ 1 with
  |nil=>rw[c]at a;cases a
  |cons j r =>
   rw[c]at a;have a:j=i:=md a;subst a;exact⟨j,r,c,q Hf H _ (.refl s) (cE rfl)⟩
 ·cases hz
noncomputable def pQ:T4->Option T8
 |[]=>some []
 |.sc (.str z)::r=>(pQ r).map (z::·)
 |_=>none
theorem Dt:∀{ds:T4}{xs:T6}{bs:T8},aY K Hf ds xs->pQ ds=some bs->xs=bs.map V.str
 |[],_,bs,.nil,h=>by cases h;rfl
 |d::r,_,bs,.cons p t,h=>by
  cases d with
  |sc a =>
   cases a with
   |str b=>unfold pQ at h;have⟨a,c,d⟩:=yb.mp h;subst d;rw[p.str,Dt t c];rfl
   |_=>cases h
  |_=>cases h
noncomputable def rN:D->T4->T5:=λd ds=>match d,ds with
 |.sc (.str z),[.lst es]=>(pQ es).bind λys=>if (ys.map (·.length)).sum+ys.length * z.length<=16777216 then some (.sc (.str (Txt.join z ys))) else none
 |_,_=>none
def MT:PM K "str" (xZ K) rN:=by
 intro Hf H x xs d ds z Q s e b hz q;unfold rN at hz
 split at hz
 ·have⟨ys,g,hz⟩:=bind_some hz
  split at hz
  ·rename_i f
   cases hz;have⟨j,rfl,h⟩:=gK b
   have⟨a,l,rfl,c,i⟩:=h.lst s;rw[Dt i g]at c;rw[e.sc.2];exact⟨ys,c,f,q Hf H _ (.refl s) (cE rfl)⟩
  ·cases hz
 ·cases hz
end
def kO(K:Fg1)(J:It)(c Hf:Hp)(ds:T4):Prop:=∀Hf' H',aQ c H'->aQ Hf Hf'->aQ Hf' H'->∀i:Nat,
 (∀d,ds[i]?=some d->J.go i H'/\∀x b,J.yld i H' x b->∃a,Ex Hf' H' a b/\Dn K a d x)/\(ds.length<=i->J.stop i H')
def iV(K:Fg1)(B:Bs)(f:av->T0):TI:=λσ H R=>∃Hf ρ ds,VI K B Hf ρ σ H/\f ρ=some ds/\∀J Hf' H',Ex Hf H Hf' H'->kO K J Hf' Hf' ds->R J H'
def iB(K:Fg1)(B:Bs)(f:av->T0):TI:=λσ H R=>∃Hf ρ ds,VI K B Hf ρ σ H/\f ρ=some ds/\∀J Hf' H',Ex Hf H Hf' H'->kO K J H' Hf' ds->R J H'
section
variable {X:Cx}{K:Fg1}{fa:av->T5}{pos:Pos}
def kO.weak(h:kO K J HJ Hf ds)(s:aQ HJ HJ'):kO K J HJ' Hf ds:=λa H' b c d=>h a H' (s.trans b) c d
def Du(h:PI X tg e (iV X.K B fr)):PI X tg e (iB X.K B fr):=h.imp λd H R ⟨Hf,ρ,ds,I,c,q⟩=>⟨Hf,ρ,ds,I,c,λJ a H' b ok=>q J a H' b (ok.weak b.fh)⟩
def MU(K:Fg1)(tl:TE):TI:=λσ H R=>tl σ H λx H1=>(∃a xs,x=.ref a/\bH K H1 a xs/\R (wU K a) H1)\/(∃a xs,x=.ref a/\cZ K H1 a xs/\R (wV K a) H1)\/∃z,x=.str z/\R (uJ z) H1
def Dv(hl:PE X l tl):PI X tg l (MU X.K tl):=by
 intro f s u H R I h;erw[aU (hl f s u H _ I h) λv c k=>?_];have⟨x,g,d,j,r⟩:=k
 rcases r with⟨a,xs,rfl,m,q⟩|⟨a,xs,rfl,m,q⟩|⟨z,rfl,q⟩
 ·cases j
  have⟨its,w,p,hz⟩:=d.list m;erw[qq p.isList ?_];erw[⟨c.heap.objs.size,[c.heap.objs.size],_,_,g,rfl,d.kept (t':=c.toks) λb o e=>na _ e,IW a _,⟨_,bc _ rfl,rfl,rfl⟩,λb i=>?_,q⟩];have e:b=c.heap.objs.size:=by simpa using i
  subst e;rwa[d.fpOk (ib _) d.fresh]
 ·cases j
  have⟨its,w,p,hz⟩:=d.tuple m;erw[wpAny_pyIter_tuple (show c.heap.IsTuple a its.toArray from p) ?_];erw[⟨c.heap.objs.size,[c.heap.objs.size],_,_,g,rfl,d.kept (t':=c.toks) λb o e=>na _ e,IZ a _,⟨_,bc _ rfl,rfl,rfl⟩,λb i=>?_,q⟩];have e:b=c.heap.objs.size:=by simpa using i
  subst e;rwa[d.fpOk (ib _) d.fresh]
 ·have⟨t,rfl⟩:=j
  have n:∀{h':Heap} {o:Obj},∀b∈[c.heap.objs.size],jF X f g b:=λb i=>by
   have e:b=c.heap.objs.size:=by simpa using i
   subst e;rwa[d.fpOk (ib _) d.fresh]
  cases ha:z.cps.all (·<128) with
  |true =>
   rwa[wpAny_pyIter_ascii ha ⟨c.heap.objs.size,[c.heap.objs.size],_,_,g,rfl,d.kept (t':=c.toks) λb o e=>na _ e,Ls z t _,⟨_,bc _ rfl,rfl,rfl⟩,n (h':=c.heap) (o:={ cls:=.none,data:=.fields #[] }),q⟩]
  |false =>
   rwa[wpAny_pyIter_wide ha ⟨c.heap.objs.size,[c.heap.objs.size],_,_,g,rfl,d.kept (t':=c.toks) λb o e=>na _ e,Lu z t _,⟨_,bc _ rfl,rfl,rfl⟩,n (h':=c.heap) (o:={ cls:=.none,data:=.fields #[] }),q⟩]
noncomputable def jO:D->T0
 |.lst ds=>some ds
 |.tup ds=>some ds
 |.sc (.str z)=>some (z.cps.toList.map λc=>.str [c])
 |_=>none
def iE(fa:av->T5):av->T0:=λρ=>(fa ρ).bind jO
def Dx(h:bH K HJ a xs)(p:aY K Hf ds xs):kO K (wU K a) HJ Hf ds:=λb H' j l m i=>by
 have f:=j.seq h;erw[⟨λd n=>?_,λo=>⟨xs,f,by rw[<-p.length];rwa[o]⟩⟩];have⟨x,g,c⟩:=p.zget n;erw[⟨⟨xs,x,f,g⟩,λy q ⟨e,r⟩=>?_⟩];subst e
 have:=r xs f
 rw[g]at this;cases this;exact⟨b,.refl m,c.same l⟩
def Dy(h:cZ K HJ a xs)(p:aY K Hf ds xs):kO K (wV K a) HJ Hf ds:=λb H' j l m i=>by
 have f:=j.seqT h;erw[⟨λd n=>?_,λo=>⟨xs,f,by rw[<-p.length];rwa[o]⟩⟩];have⟨x,g,c⟩:=p.zget n;erw[⟨⟨xs,x,f,g⟩,λy q ⟨e,r⟩=>?_⟩];subst e
 have:=r xs f
 rw[g]at this;cases this;exact⟨b,.refl m,c.same l⟩
def Dz:kO K (uJ z) HJ Hf (z.cps.toList.map λc=>.str [c]):=λb H' o p j i=>by
 erw[⟨λd g=>?_,λl=>?_⟩]
 ·rw[yc]at g
  have⟨c,h,rfl⟩:=yb.mp g;have f:i<z.cps.toList.length:=(qa.mp h).1;erw[⟨by show i<z.length;simpa [Str.length] using f,λx m ⟨e,q,a,n⟩=>?_⟩];subst e;rw[h]at a
  cases a
  rw[n];exact⟨b,.refl j,cE rfl⟩
 ·show z.length<=i
  simpa [Str.length] using l
def i9(h:PE X l (eV X.K B fa)):PI X tg l (iV X.K B (iE fa)):=(Dv h).imp λm H R ⟨Hf,ρ,ds,I,hz,q⟩=>by
 have⟨d,j,hz⟩:=bind_some hz;erw[⟨Hf,ρ,d,I,j,λc f v b g=>?_⟩];unfold jO at hz
 split at hz
 ·cases hz
  have⟨a,xs,rfl,e,i⟩:=g.lst;rwa[.inl ⟨a,xs,rfl,b.fh.seq e,q _ c f b (Dx e i)⟩]
 ·cases hz
  have⟨a,xs,rfl,e,i⟩:=g.tup;rwa[.inr (.inl ⟨a,xs,rfl,b.fh.seqT e,q _ c f b (Dy e i)⟩)]
 ·cases hz
  rw[g.str];rwa[.inr (.inr ⟨_,rfl,q _ c f b Dz⟩)]
 ·cases hz
def n8(h:PE X l (eB X.K B fa)):PI X tg l (iB X.K B (iE fa)):=(Dv h).imp λm H R ⟨Hf,ρ,ds,I,hz,q⟩=>by
 have⟨d,j,hz⟩:=bind_some hz;erw[⟨Hf,ρ,d,I,j,λc f v b g=>?_⟩];unfold jO at hz
 split at hz
 ·cases hz
  have⟨a,xs,rfl,e,i⟩:=g.lst b.fh;rwa[.inl ⟨a,xs,rfl,e,q _ c f b (Dx e i)⟩]
 ·cases hz
  have⟨a,xs,rfl,e,i⟩:=g.tup;rwa[.inr (.inl ⟨a,xs,rfl,b.fh.seqT e,q _ c f b (Dy (b.fh.seqT e) i)⟩)]
 ·cases hz
  rw[g.sc.2];rwa[.inr (.inr ⟨_,rfl,q _ c f b Dz⟩)]
 ·cases hz
noncomputable def e6(lo:Int)(n:Nat):T4:=(range n).map λk=>.int (lo+(k:Nat))
def DA:kO K (qZ h n) p Hf (e6 h n):=λb H' q r j i=>by
 erw[⟨λd f=>?_,λl=>?_⟩]
 ·unfold e6 at f
  rw[yc]at f;have⟨c,g,rfl⟩:=yb.mp f;have a:i<n:=by have:=(qa.mp g).1;simpa using this
  rw[zp a]at g;cases g;erw[⟨a,λx m ⟨e,o⟩=>?_⟩];subst e;rw[o];exact⟨b,.refl j,cE rfl⟩
 ·show n<=i
  simpa [e6] using l
def jl:T4->T0|[.sc (.int j)]=>if -(2 ^ 62)<=j/\j<2 ^ 62 then some (e6 0 j.toNat) else none|_=>none
def mF:T4->T0|[.sc (.int i),.sc (.int j)]=>if -(2 ^ 62)<=i/\i<2 ^ 62 /\ -(2 ^ 62)<=j/\j<2 ^ 62 then some (e6 i (j - i).toNat) else none|_=>none
def iR(g:T4->T0)(fr:av->T0):av->T0:=λρ=>(fr ρ).bind g
def pR(h:Gl X "range")(hm:X.mg "range" = none)(ha:PA X [a] (aB X.K B fr))(hs:starEach [a] X.u=[(false,eval a X.u)]:=by rfl):PI X tg (.Call (.Name "range" p) [a] [] pos) (iV X.K B (iR jl fr)):=(Lf h hm ha hs).imp λi H R ⟨Hf,ρ,ds,I,hz,q⟩=>by
 have⟨es,he,hz⟩:=bind_some hz;erw[⟨Hf,ρ,es,I,he,λb f vs c d=>?_⟩];unfold jl at hz
 split at hz
 ·split at hz
  ·rename_i e
   cases hz;have⟨x,rfl,g⟩:=gK d
   rw[g.sc.2];exact⟨e.1,e.2,q _ b f c DA⟩
  ·cases hz
 ·cases hz
def MV(l:Gl X "range")(hm:X.mg "range" = none)(ha:PA X [a,b] (aB X.K B fr))(hs:starEach [a,b] X.u=[(false,eval a X.u),(false,eval b X.u)]:=by rfl)(g:starEach [b] X.u=[(false,eval b X.u)]:=by rfl):PI X tg (.Call (.Name "range" p) [a,b] [] pos) (iV X.K B (iR mF fr)):=(Lg l hm ha hs g).imp λm H R z=>by
 have⟨Hf,ρ,ds,I,hz,q⟩:=z;have⟨es,he,hz⟩:=bind_some hz;erw[⟨Hf,ρ,es,I,he,λd h vs e f=>?_⟩];unfold mF at hz
 split at hz
 ·split at hz
  ·rename_i c
   cases hz;have⟨x,y,rfl,i,j⟩:=MJ f
   rw[i.sc.2,j.sc.2];exact⟨⟨c.1,c.2.1,c.2.2.1,c.2.2.2⟩,q _ d h e DA⟩
  ·cases hz
 ·cases hz
def gV(K:Fg1)(B:Bs)(sl:T7)(g:D->av->Option av):TG:=λv σ H Q=>∃Hf ρ d ρ',VI K B Hf ρ σ H/\Dn K Hf d v/\g d ρ=some ρ'/\∀a,VI K B Hf ρ' a H->a.length=σ.length->(∀j:Nat,j ∉ sl->a[j]?=σ[j]?)->Q a H
def uY(K:Fg1)(B:Bs)(sl:T7)(g:T4->av->Option av):i0:=λvs σ H Q=>∃Hf ρ ds ρ',VI K B Hf ρ σ H/\aY K Hf ds vs/\g ds ρ=some ρ'/\∀a,VI K B Hf ρ' a H->a.length=σ.length->(∀j:Nat,j ∉ sl->a[j]?=σ[j]?)->Q a H
def gN(i:Nat):D->av->Option av:=λd ρ=>some (ρ.set i (some (.sh d)))
def cB(f:X.N.Nodup)(g:X.N[i]?=some x)(h:jE X.u.scope x)(l:W3 X x:=by first|exact .inl rfl|exact .inr rfl|assumption):PG X (.Name x pos) (gV X.K B [i] (gN i)):=(IJ f g h l).imp λv m H Q z=>by
 have⟨Hf,ρ,d,ρ',I,a,b,q⟩:=z;cases b;erw[q _ (I.set a) 'm' λj c=>?_]
 rw[za];intro e;rwa[c (by simp[e])]
def dO:T4->av->Option av:=λds ρ=>match ds with|[]=>some ρ|_=>none
def bJ(g:D->av->Option av)(r:T4->av->Option av):T4->av->Option av:=λds ρ=>match ds with|d::ds=>(g d ρ).bind λρ1=>r ds ρ1|[]=>none
noncomputable def gT(n:Nat)(r:T4->av->Option av):D->av->Option av:=λd ρ=>match d with|.tup ds=>if ds.length=n then r ds ρ else none|_=>none
def gZ.imp(h:gZ X ts t)(g:∀v σ H Q,t' v σ H Q->t v σ H Q):gZ X ts t':=λa s σ H v u Q I r q=>h a s σ H v u Q I r (g v σ H Q q)
def pS:gZ X [] (uY X.K B [] dO):=Lh.imp λvs b H Q z=>by
 have⟨Hf,ρ,ds,ρ',I,c,a,q⟩:=z;unfold dO at a
 split at a
 ·cases a
  cases c;rwa[q b I rfl λ_ _=>rfl]
 ·cases a
def e7(s:PG X e (gV X.K B sl g))(u:gZ X es (uY X.K B sr r))(hs:(assignEach (e::es) X.u).map (·.2)=assign e X.u::(assignEach es X.u).map (·.2):=by rfl):gZ X (e::es) (uY X.K B (sl++sr) (bJ g r)):=(Li s u hs).imp λvs w H Q k=>by
 have⟨Hf,ρ,ds,ρ',I,h,a,q⟩:=k;unfold bJ at a
 split at a
 ·have⟨ρ1,c,d⟩:=bind_some a
  cases h with
  |cons v dr =>
   erw[⟨Hf,ρ,_,ρ1,I,v,c,λi l m n=>⟨Hf,ρ1,_,ρ',l,dr,d,λb o p k2=>q b o (p.trans m) λj f=>?_⟩⟩];rw[k2 j λz=>f (gc _ z),n j λz=>f (ie _ z)]
 ·cases a
def pT(i:X.k=true)(h:gZ X es (uY X.K B sl r))(hn:(assignEach es X.u).length=n:=by rfl)(c:(assignEach es X.u).findIdx? (·.1)=none:=by rfl):PG X (.Tuple es k pos) (gV X.K B sl (gT n r)):=(Lj i h hn c).imp λv j H Q z=>by
 have⟨Hf,ρ,d,ρ',I,f,b,q⟩:=z;unfold gT at b
 split at b
 ·split at b
  ·rename_i hl
   have⟨a,xs,rfl,g,e⟩:=f.tup;exact⟨xs,I.fh.seqT g,by rw[<-e.length];exact hl,Hf,ρ,_,ρ',I,e,b,q⟩
  ·cases b
 ·cases b
end
noncomputable def gL(n:Nat)(cap:T7)(ρ:av):av:=replicate n none++cap.map λi=>(ρ[i]?).getD none
noncomputable def e8(g:D->av->Option av)(tt:av->Te)(te:av->T5)(ρ:av):T4->T0
 |[]=>some []
 |d::r=>(g d ρ).bind λρ1=>(tt ρ1).bind λb=>if b=true then (te ρ1).bind λy=>(e8 g tt te ρ r).map (y::·) else e8 g tt te ρ r
noncomputable def dV(n:Nat)(cap:T7)(fi:av->T0)(g:D->av->Option av)(tt:av->Te)(te:av->T5):av->T0 :=
 λρ=>(fi ρ).bind λds=>if ds.length<=sizeLine then e8 g tt te (gL n cap ρ) ds else none
def eW(K:Fg1)(B:Bs)(f:av->T0):TE:=λσ H Q=>∃Hf ρ ds,VI K B Hf ρ σ H/\f ρ=some ds/\∀Hf' H' p xs,Ex Hf H Hf' H'->H p=none->Hf' p=none->H' p=some (.lst xs)->aY K Hf' ds xs->Q (.ref p) H'
def eL(f:av->T0):av->T5:=λρ=>(f ρ).map .lst
theorem Ex.frz{Hf H c H':Hp}{p:Addr}{o:HO}(e:Ex Hf H c H')(f:H p=none)(d:H' p=some o)(g:c p=none)(i:∀x u,o≠.frz x u:=by intro x u z;cases z):Ex Hf H (aI c p o) H':=by
 erw[⟨e.ff.trans (gI g),e.hh,λb u h=>?_,λb h=>?_,λb x u h=>?_⟩]
 ·by_cases a:b=p
  ·subst a;rw[aZ]at h;rw[d];rwa[h]
  ·rw[aK a]at h;rwa[e.fh b u h]
 ·by_cases a:b=p
  ·subst a;rwa[.inr (.inl f)]
  ·rw[aK a]at h;rwa[e.nw b h]
 ·by_cases a:b=p
  ·subst a;rw[aZ]at h;cases h;rwa[absurd rfl (i x u)]
  ·rw[aK a]at h;rwa[e.nf b x u h]
section
variable {X:Cx}{K:Fg1}{e:Expr}{fa:av->T5}{pos:Pos}
def DB{t:TE}{a:St}(i:∀R,eW K B fr a H R->t a H R)(h:eV K B (eL fr) a H Q):t a H Q:=by
 have⟨Hf,ρ,z,I,hz,q⟩:=h;have⟨ds,g,hz⟩:=yb.mp hz;subst hz;erw[i Q ⟨Hf,ρ,ds,I,g,λd H' p xs e f c b dx=>?_⟩];have e2:=e.frz f b c;rwa[q _ H' _ e2 (iL (bH.of aZ) (dx.same (gI c)))]
def j3(h:PE X e (eW X.K B fr)):PE X e (eV X.K B (eL fr)):=h.imp λa H Q z=>DB (λR z=>z) z
def MW{cap:T7}(h:cap.Nodup){i j x:Nat}(d:cap[i]?=some x)(e:cap[j]?=some x):i=j:=by
 have⟨a,ha⟩:=qa.mp d;have⟨b,c⟩:=qa.mp e;rcases Nat.lt_trichotomy i j with z|z|z
 ·rwa[absurd (ha.trans c.symm) (ui.mp h i j a b z)]
 ·rwa[z]
 ·rwa[absurd (c.trans ha.symm) (ui.mp h j i b a z)]
def uZ(h:(gL n cap ρ)[i]?=some (some sl)):∃c,n<=i/\cap[i - n]?=some c/\ρ[c]?=some (some sl):=by
 unfold gL at h;by_cases a:i<n
 ·rw[ke (by simpa using a),lg]at h
  split at h <;> cases h
 ·rw[af (by simpa using a),zj,yc]at h
  have⟨c,b,h⟩:=yb.mp h;erw[⟨c,'o',b,?_⟩]
  cases q:ρ[c]? with
  |none=>rw[q]at h;cases h
  |some z=>rw[q]at h;rwa[qe some h]
def DC(a:n<=i)(b:cap[i - n]?=some c):(fY n cap σ)[i]?=some ((σ[c]?).getD none):=by
 delta fY;rw[af (by simpa using a),zj,yc,b];rfl
def VI.comp(I:VI K B Hf ρ r H)(b:cap.Nodup):VI K B Hf (gL n cap ρ) (fY n cap r) H:=by
 have back:∀{i c:Nat} {v:V},n<=i->cap[i - n]?=some c->(fY n cap r)[i]?=some (some v)->r[c]?=some (some v):=λ{i c v} a b e=>by
  rw[DC a b]at e
  cases q:r[c]? with
  |none=>rw[q]at e;cases e
  |some z=>rw[q]at e;rwa[e]
 erw[⟨I.ex,by simp[gL,fY],λi sl h=>?_,λi sl p h o q=>?_,λi j s u p f g w x y A=>?_⟩]
 ·have⟨c,a,b,h⟩:=uZ h
  have⟨v,f,g⟩:=I.ok c sl h;exact⟨v,by rw[DC a b,f];rfl,g⟩
 ·have⟨c,a,b,h⟩:=uZ h
  rwa[I.own c sl p h o (back a b q)]
 ·have⟨c,a,l,f⟩:=uZ f
  have⟨d,C,m,g⟩:=uZ g;have e:=I.dis c d s u p f g w x (back a l y) (back C m A);subst e
  have:=MW b l m
  omega
theorem yE:∀{ds rs:T4},e8 g tt te ρ ds=some rs->rs.length<=ds.length
 |[],rs,h=>by cases h;rwa[ib _]
 |d::r,rs,h=>by
  unfold e8 at h;have⟨ρ1,_,h⟩:=bind_some h;have⟨b,_,h⟩:=bind_some h
  split at h
  ·have⟨y,_,h⟩:=bind_some h
   have⟨a,c,e⟩:=yb.mp h;subst e
   have:=yE c
   simp;omega
  ·have:=yE h
   simp;omega
def MX(I:VI K B Hf ρ σc H)(hJ:kO K J H Hf ds)(hl:ds.length<=sizeLine)(hr:e8 g tt te ρ ds=some rs)(hs:∀j∈sl,σc[j]?=some none)(q:∀Hf' H' ys,Ex Hf H Hf' H'->aY K Hf' rs ys->Q ys H'):uC J (gV K B sl g) (tV K B tt) (eV K B te) σc Q H:=by
 erw[⟨λi m ys H'=>m=ds.length - i/\i<=ds.length/\∃Hf' done h,Ex Hf H Hf' H'/\aY K Hf' done ys/\done.length<=i/\e8 g tt te ρ (ds.drop i)=some h/\rs=done++h,⟨ds.length,'m',ae _,Hf,[],rs,.refl I.fh,.nil,ib _,hr,rfl⟩,?_⟩];rintro i m ys H' k;have⟨rfl,hi,Hf',done,h,w,C,hdl,f,n⟩:=k;have ok:=hJ Hf' H' w.hh w.ff w.fh i;by_cases p:i<ds.length
 ·have⟨go,M⟩:=ok.1 ds[i] (by simp[p])
  have hyl:=C.length;erw[.inr ⟨go,'o',λr A=>∃d a c,Ex Hf H d A/\aY K d a r/\a.length<=i+1/\e8 g tt te ρ (ds.drop (i+1))=some c/\rs=a++c,λr A ⟨d,a,c,E,F,R,T,U⟩=>⟨ds.length - (i+1),'o',rfl,p,d,a,c,E,F,R,T,U⟩,λx A y=>?_⟩];have⟨d,o,dx⟩:=M x A y;rw[vd p]at f;unfold e8 at f;have⟨ρ1,hg,f⟩:=bind_some f;have⟨b,hb,f⟩:=bind_some f;have e2:=w.trans o;erw[⟨d,ρ,_,ρ1,I.ext e2,dx,hg,λX N G Y=>⟨⟨G,λj v O=>?_⟩,d,ρ1,b,N,hb,λs H3 l=>?_⟩⟩]
  ·rw[Y j λz=>?_]
   ·rwa[O]
   ·have:=hs j z
    rw[O]at this;cases this
  ·have P:=e2.trans l
   cases b with
   |true =>
    rw[la rfl]at f;show if true=true then _ else _
    rw[la rfl];have⟨y,hy,f⟩:=bind_some f;have⟨t',E,F⟩:=yb.mp f;subst F;erw[⟨s,ρ1,y,N.ext l,hy,λL H4 v u Z=>⟨L,done++[y],t',P.trans u,?_,by simp;omega,E,by rw[n];simp⟩⟩];exact(C.same ((o.trans l).trans u).ff).zsnoc Z
   |false =>
    rw[wa ua]at f;show if false=true then _ else _
    rw[wa ua];exact⟨s,done,h,P,C.same (o.trans l).ff,'o',f,n⟩
 ·have e:i=ds.length:=by omega
  subst e;erw[.inl ⟨ok.2 (ib _),?_⟩];rw[tj]at f;unfold e8 at f;cases f;rw[jd]at n;subst n;rwa[q Hf' H' ys w C]
def mG:lF X [] (tV X.K B λ_=>some true):=λa s c H Q I h=>Kr a s c H Q I (by
 have⟨Hf,ρ,b,d,e,q⟩:=h;cases e;rwa[q Hf H (.refl d.fh)])
def MY(h:PT X c (tV X.K B tt)):lF X [c] (tV X.K B tt):=Ks h
variable {scope:Scope}{vars:T8}{cap:T7}{sl:T7}
def DD(hn:cap.Nodup)(f:sl.all (·<vars.length)=true)(h:eW X.K B (dV vars.length cap fi g tt te) σ H Q) :
  xB (iB X.K B fi) (gV X.K B sl g) (tV X.K B tt) (eV X.K B te) vars.length cap σ H Q:=by
 have⟨Hf,ρ,rs,I,hz,q⟩:=h;have⟨ds,m,hz⟩:=bind_some hz
 split at hz
 ·rename_i hl
  erw[⟨Hf,ρ,ds,I,m,λJ l r b ok=>MX ((I.ext b).comp hn) ok hl hz (λj c=>?_) λd s ys a i=>⟨?_,λp e=>?_⟩⟩]
  ·have c:=ud.mp f j c
   have c:j<vars.length:=by simpa using c
   delta fY;rw[ke (by simpa using c),lg,la c]
  ·rw[<-i.length];rwa[zc (yE hz) hl]
  ·have n:=(b.trans a).trans (Ex.made (o:=.lst ys) a.fh e)
   rwa[q d _ p ys n ((b.trans a).hh.free e) (a.fh.free e) aZ i]
 ·cases hz
def rO(c:X.k=true)(S:cy X scope)(a:∀i∈cap,i<X.N.length/\scope.names.lookup (X.N.getD i "")≠some .local)(hn:cap.Nodup)(b:sl.all (·<vars.length)=true)(d:PI X tg iter (iB X.K B fi))(e:∀s H C ex,PG (cM X scope C vars cap s H ex) tg (gV X.K B sl g))(f:∀s H C ex,lF (cM X scope C vars cap s H ex) ifs (tV X.K B tt))(he:∀s H C ex,PE (cM X scope C vars cap s H ex) elt (eV X.K B te))(hs:∀x,foldedSetIterable iter X.u x=pure x:=by intro _;rfl):PE X (.ListComp elt [⟨tg,iter,ifs,0⟩] scope pos) (eW X.K B (dV vars.length cap fi g tt te)) :=
 (Ku c S a d e f he hs).imp λj H Q h=>DD hn b h
variable {es:Tg}
def iO(f:av->T0):av->T0:=λρ=>(f ρ).bind λds=>if ds.length<=sizeLine then some ds else none
def pU(h:PA X es (aV X.K B fr)):PE X (.List es pos) (eW X.K B (iO fr)):=(uy h).imp λf H Q ⟨Hf,ρ,z,I,hz,q⟩=>by
 have⟨ds,e,hz⟩:=bind_some hz
 split at hz
 ·rename_i hl
  cases hz;erw[⟨Hf,ρ,_,I,e,λc g vs b a=>⟨by rw[<-a.length];exact hl,λp d=>?_⟩⟩]
  rwa[q c _ p vs (b.trans (Ex.made (o:=.lst vs) b.fh d)) (b.hh.free d) (b.fh.free d) aZ a]
 ·cases hz
def wN(g:T4->T0)(fr:av->T0):av->T0:=λρ=>(fr ρ).bind g
noncomputable def j5(fa fb:av->T5):av->T0:=λρ=>(fa ρ).bind λd=>(fb ρ).bind λe=>match d,e with|.lst ds,.lst es=>if ds.length+es.length<=sizeLine then some (ds++es) else none|_,_=>none
def MZ(ha:PE X a (eB X.K B fa))(w:PE X b (eB X.K B fb)):PE X (.BinOp a .Add b pos) (eW X.K B (j5 fa fb)):=(BQ C7 ha w).imp λA H Q k=>by
 have⟨Hf,ρ,z,I,hz,q⟩:=k;have⟨d,s,hz⟩:=bind_some hz;have⟨e,he,hz⟩:=bind_some hz;erw[⟨Hf,ρ,d,I,s,λh C x f dx=>⟨h,ρ,e,I.ext f,he,λi E y c n=>?_⟩⟩]
 split at hz
 ·split at hz
  ·rename_i r
   cases hz;have⟨a,xs,rfl,u,l⟩:=(dx.ext c).lst c.fh
   have⟨b,ys,rfl,v,m⟩:=n.lst c.fh;have g:=f.trans c;exact⟨xs,ys,u,v,by rw[<-l.length,<-m.length];exact r,λp j=>q i _ p _ (g.trans (Ex.made (o:=.lst (xs++ys)) g.fh j)) (g.hh.free j) (g.fh.free j) aZ (l.zapp m)⟩
  ·cases hz
 ·cases hz
end
inductive aR where
 |nx (ρ:av)|bk (ρ:av)|ct (ρ:av)|rt (d:D)|rw (ds:T4)|bad
def gM(K:Fg1)(B:Bs)(a:Hp)(o:aR)(D:eP):Prop:=match o with
 |.nx ρ=>∀Hf σ H,aQ a Hf->VI K B Hf ρ σ H->D.nx σ H
 |.bk ρ=>∀Hf σ H,aQ a Hf->VI K B Hf ρ σ H->D.bk σ H
 |.ct ρ=>∀Hf σ H,aQ a Hf->VI K B Hf ρ σ H->D.ct σ H
 |.rt d=>∀Hf H v,Ex B.f B.h Hf H->Dn K Hf d v->D.rt v H
 |.rw ds=>∀Hf H p xs,Ex B.f B.h Hf H->B.h p=none->Hf p=none->H p=some (.lst xs)->aY K Hf ds xs->D.rt (.ref p) H
 |.bad=>False
def sV(K:Fg1)(B:Bs)(f:av->aR):TS:=λD σ H=>∃Hf ρ,VI K B Hf ρ σ H/\gM K B Hf (f ρ) D
def gM.mono{K:Fg1}{B:Bs}{b c:Hp}{o:aR}{D:eP}(h:gM K B b o D)(s:aQ b c):gM K B c o D:=by
 cases o with
 |nx ρ=>rwa[λHf a H z=>h Hf a H (s.trans z)]
 |bk ρ=>rwa[λHf a H z=>h Hf a H (s.trans z)]
 |ct ρ=>rwa[λHf a H z=>h Hf a H (s.trans z)]
 |rt d=>rwa[h]
 |rw d=>rwa[h]
 |bad=>rwa[h]
def cC:av->aR:=λρ=>.nx ρ
def aP(f g:av->aR):av->aR:=λρ=>match f ρ with|.nx ρ'=>g ρ'|o=>o
def bS(ft:av->Te)(f g:av->aR):av->aR:=λρ=>match ft ρ with|some true=>f ρ|some false=>g ρ|none=>.bad
def bt(i:Nat)(fe:av->T5):av->aR:=λρ=>match fe ρ with|some d=>.nx (ρ.set i (some (.sh d)))|none=>.bad
noncomputable def fQ(i:Nat)(fe:av->T0):av->aR:=λρ=>match fe ρ with|some d=>.nx (ρ.set i (some (.ow d)))|none=>.bad
def gy(fe:av->T5):av->aR:=λρ=>match fe ρ with|some _=>.nx ρ|none=>.bad
def bK(fe:av->T5):av->aR:=λρ=>match fe ρ with|some d=>.rt d|none=>.bad
def n9(fe:av->T0):av->aR:=λρ=>match fe ρ with|some d=>.rw d|none=>.bad
noncomputable def ox(i:Nat):av->aR:=λρ=>match ρ[i]? with|some (some (.ow ds))=>.rw ds|_=>.bad
def oy:av->aR:=λ_=>.rt .non
noncomputable def dP(i:Nat)(fe:av->T5):av->aR:=λρ=>match ρ[i]? with
 |some (some (.ow ds))=>match fe ρ with|some d=>if ds.length<sizeLine then .nx (ρ.set i (some (.ow (ds++[d])))) else .bad|none=>.bad
 |_=>.bad
noncomputable def hZ(i:Nat)(f:av->aR):av->aR:=λρ=>match ρ[i]? with|some (some (.ow ds))=>f (ρ.set i (some (.sh (.lst ds))))|_=>f ρ
noncomputable def eH(g:D->av->Option av)(f:av->aR):T4->av->aR
 |[],ρ=>.nx ρ
 |d::r,ρ=>match g d ρ with
  |none=>.bad
  |some ρ1=>match f ρ1 with
   |.nx a=>eH g f r a
   |.ct a=>eH g f r a
   |.bk a=>.nx a
   |o=>o
def en(fi:av->T0)(g:D->av->Option av)(f:av->aR):av->aR:=λρ=>match fi ρ with|some ds=>eH g f ds ρ|none=>.bad
noncomputable def jP(ft:av->Te)(f:av->aR):Nat->av->aR
 |0,_=>.bad
 |n+1,ρ=>match ft ρ with
  |some true=>match f ρ with
   |.nx a=>jP ft f n a
   |.ct a=>jP ft f n a
   |.bk a=>.nx a
   |o=>o
  |some false=>.nx ρ
  |none=>.bad
def yF(a:av->Nat)(ft:av->Te)(f:av->aR):av->aR:=λρ=>jP ft f (a ρ) ρ
section
variable {X:Cx}{B:Bs}{K:Fg1}{st:Stmt}{rest:Yd}{e a:Expr}{f g h:av->aR}{fe fa:av->T5}{pos:Pos}{sl:T7}
def PS.imp(h:PS X st t)(k:∀D σ H,t' D σ H->t D σ H):PS X st t':=λa s σ H D I q=>h a s σ H D I (k D σ H q)
def bR.imp(h:bR X sts t)(k:∀D σ H,t' D σ H->t D σ H):bR X sts t':=λa s σ H D I q=>h a s σ H D I (k D σ H q)
def dQ:bR X [] (sV X.K B cC):=pz.imp λD a H ⟨Hf,ρ,I,q⟩=>q Hf a H (aQ.refl _) I
def bv(h:PS X st (sV X.K B f))(i:bR X rest (sV X.K B g)):bR X (st::rest) (sV X.K B (aP f g)):=(iD h i).imp λD j H ⟨Hf,ρ,I,q⟩=>by
 erw[⟨Hf,ρ,I,?_⟩];unfold aP at q
 cases e:f ρ with
 |nx ρ'=>rw[e]at q;rwa[λa b H' z c=>⟨a,ρ',c,gM.mono q z⟩]
 |bk ρ'=>rw[e]at q;rwa[q]
 |ct ρ'=>rw[e]at q;rwa[q]
 |rt d=>rw[e]at q;rwa[q]
 |rw d=>rw[e]at q;rwa[q]
 |bad=>rw[e]at q;rwa[q]
def bE(a:PS X st (sV X.K B f)):bR X [st] (sV X.K B f):=qX a
def dD(h:PT X c (tV X.K B ft))(ha:bR X as (sV X.K B f))(i:bR X bs (sV X.K B g)):PS X (.If c as bs pos) (sV X.K B (bS ft f g)):=(wR h ha i).imp λD j H ⟨Hf,ρ,I,q⟩=>by
 unfold bS at q
 cases e:ft ρ with
 |none=>rw[e]at q;rwa[q.elim]
 |some b =>
  rw[e]at q;erw[⟨Hf,ρ,b,I,e,λd l a=>?_⟩]
  cases b with
  |true=>rw[la rfl];exact⟨d,ρ,I.ext a,gM.mono q a.ff⟩
  |false=>rw[wa ua];exact⟨d,ρ,I.ext a,gM.mono q a.ff⟩
def bM{i:Nat}{x:Str}{a:Pos}(h:X.N.Nodup)(j:X.N[i]?=some x)(l:jE X.u.scope x)(he:PE X e (eV X.K B fe))(hs:W0 X e (some (.Name x a)) pos:=by rfl)(m:W3 X x:=by first|exact .inl rfl|exact .inr rfl|assumption):PS X (.Assign [.Name x a] e pos) (sV X.K B (bt i fe)):=(mx h j l he hs m).imp λD n H ⟨Hf,ρ,I,q⟩=>by
 unfold bt at q
 cases e:fe ρ with
 |none=>rw[e]at q;exact q.elim
 |some d=>rw[e]at q;exact⟨Hf,ρ,d,I,e,λc f v b g=>q c _ f b.ff ((I.ext b).set g)⟩
def VI.setO(I:VI K B Hf ρ σ H)(N:Ex Hf H Hf' H')(w:H p=none)(O:Hf' p=none)(C:H' p=some (.lst xs))(P:aY K Hf' ds xs):VI K B Hf' (ρ.set i (some (.ow ds))) (σ.set i (some (.ref p))) H':=by
 have g:∀{j:Nat} {sl:Sl},(ρ.set i (some (.ow ds)))[j]?=some (some sl)->(j=i/\sl=.ow ds/\i<ρ.length)\/(j≠i/\ρ[j]?=some (some sl)):=λ{j sl} e=>by
  by_cases a:i=j
  ·subst a
   rw[gn]at e
   cases q:ρ[i]? with
   |none=>rw[q]at e;cases e
   |some z =>
    rw[q]at e;simp at e;rwa[.inl ⟨rfl,e.symm,(qa.mp q).1⟩]
  ·rw[za a]at e
   rwa[.inr ⟨λz=>a z.symm,e⟩]
 have G:=I.ext N;have A:B.h p=none:=I.ex.hh.free w
 have b:∀{j:Nat} {sl:Sl},ρ[j]?=some (some sl)->dC sl=true->σ[j]?≠some (some (.ref p)):=λ{j sl} e o z=>by
  have⟨v,s,m⟩:=I.ok j sl e;rw[z]at s;cases s
  cases sl with
  |sh d=>cases o
  |ow d=>have⟨c,n,e1,_,e2,_⟩:=m;cases e1;rw[w]at e2;cases e2
  |dk ks d=>have⟨c,n,e1,_,e2,_⟩:=m;cases e1;rw[w]at e2;cases e2
  |dt ks d=>have⟨c,n,e1,_,e2,_⟩:=m;cases e1;rw[w]at e2;cases e2
 erw[⟨G.ex,by simp[I.len],λj sl e=>?_,λj sl c e o q=>?_,λj k J L c e1 e2 E F l f=>?_⟩]
 ·rcases g e with⟨rfl,rfl,hl⟩|⟨a,e⟩
  ·exact⟨.ref p,by rw[dc (by rw[<-I.len];rwa[hl])],p,xs,rfl,O,C,P⟩
  ·have⟨u,s,m⟩:=G.ok j sl e
   exact⟨u,by rw[za (λz=>a z.symm)];exact s,m⟩
 ·rcases g e with⟨rfl,rfl,hl⟩|⟨a,e⟩
  ·rw[dc (by rw[<-I.len];rwa[hl])]at q
   cases q;rwa[A]
  ·rw[za (λz=>a z.symm)]at q
   rwa[I.own j sl c e o q]
 ·rcases g e1 with⟨rfl,rfl,hl⟩|⟨a,e1⟩
  ·rcases g e2 with⟨rfl,rfl,r⟩|⟨x,e2⟩
   ·rfl
   ·rw[dc (by rw[<-I.len];rwa[hl])]at l
    cases l;rw[za (λz=>x z.symm)]at f
    rwa[absurd f (b e2 F)]
  ·rw[za (λz=>a z.symm)]at l
   rcases g e2 with⟨y,M,r⟩|⟨x,e2⟩
   ·rw[y,dc (by rw[<-I.len];rwa[r])]at f
    cases f;rwa[absurd l (b e1 E)]
   ·rw[za (λz=>x z.symm)]at f
    rwa[I.dis j k J L c e1 e2 E F l f]
def oz(l:X.N.Nodup)(m:X.N[i]?=some x)(n:jE X.u.scope x)(he:PE X e (eW X.K B fr))(hs:W0 X e (some (.Name x pos')) pos:=by rfl)(b:W3 X x:=by first|exact .inl rfl|exact .inr rfl|assumption):PS X (.Assign [.Name x pos'] e pos) (sV X.K B (fQ i fr)):=(mx l m n he hs b).imp λD o H ⟨Hf,ρ,I,q⟩=>by
 unfold fQ at q
 cases e:fr ρ with
 |none=>rw[e]at q;exact q.elim
 |some d=>rw[e]at q;exact⟨Hf,ρ,d,I,e,λa g p xs f h b c j=>q a _ g f.ff (I.setO f h b c j)⟩
def yG{f:Expr}{h:Tg}{a:Scope}{vars:T8}{cap:T7}{g:D->av->Option av}{c:Pos}(A:X.N.Nodup)(o:X.N[i]?=some x)(E:X.u.scope.names.lookup x=some .local)(F:X.k=true)(S:cy X a)(l:∀i∈cap,i<X.N.length/\a.names.lookup (X.N.getD i "")≠some .local)(hn:cap.Nodup)(p:sl.all (·<vars.length)=true)(G:PI X tg iter (iB X.K B fi))(J:∀s H C ex,PG (cM X a C vars cap s H ex) tg (gV X.K B sl g))(L:∀s H C ex,lF (cM X a C vars cap s H ex) h (tV X.K B n))(he:∀s H C ex,PE (cM X a C vars cap s H ex) f (eV X.K B te))(r:swapsWith (.ListComp f [⟨tg,iter,h,0⟩] a pos) (some (.Name x b)) c.line X.u=pure true:=by rfl)(hs:∀x,foldedSetIterable iter X.u x=pure x:=by intro _;rfl):PS X (.Assign [.Name x b] (.ListComp f [⟨tg,iter,h,0⟩] a pos) c) (sV X.K B (bt i (eL (dV vars.length cap fi g n te)))) :=
 (Kv A o E F S l G J L he r hs).imp λD u H ⟨Hf,ρ,I,q⟩=>by
  unfold bt at q
  cases e:eL (dV vars.length cap fi g n te) ρ with
  |none=>rw[e]at q;rwa[q.elim]
  |some d =>
   rw[e]at q;rwa[DB (λR z=>DD hn p z) (show eV X.K B _ u H _ from⟨Hf,ρ,d,I,e,λm w v j y=>q m _ w j.ff ((I.ext j).set y)⟩)]
def yH(he:PE X e (eV X.K B fe))(hs:W0 X e none pos:=by rfl):PS X (.Expr e pos) (sV X.K B (gy fe)):=(pA he hs).imp λD f H ⟨Hf,ρ,I,q⟩=>by
 unfold gy at q
 cases e:fe ρ with
 |none=>rw[e]at q;rwa[q.elim]
 |some d=>rw[e]at q;exact⟨Hf,ρ,d,I,e,λb c v a g=>q b _ c a.ff (I.ext a)⟩
def cD(he:PE X e (eV X.K B fe)):PS X (.Return (some e) pos) (sV X.K B (bK fe)):=(tZ he).imp λD g H ⟨Hf,ρ,I,q⟩=>by
 unfold bK at q
 cases e:fe ρ with
 |none=>rw[e]at q;rwa[q.elim]
 |some d=>rw[e]at q;exact⟨Hf,ρ,d,I,e,λa c v b f=>q a c v (I.ex.trans b) f⟩
def VI.mut(I:VI K B Hf ρ σ H)(f:ρ[i]?=some (some (.ow ds)))(r:σ[i]?=some (some (.ref p)))(R:aY K Hf ds' xs'):VI K B Hf (ρ.set i (some (.ow ds'))) σ (aI H p (.lst xs')):=by
 have⟨v,l,a,xs,e1,L,T,_⟩:=I.ok i _ f;rw[r]at l;cases l;cases e1;have M:=I.own i _ p f rfl r;have A:i<ρ.length:=(qa.mp f).1
 have g:∀{j:Nat} {sl:Sl},(ρ.set i (some (.ow ds')))[j]?=some (some sl)->(j=i/\sl=.ow ds')\/(j≠i/\ρ[j]?=some (some sl)):=λ{j sl} e=>by
  by_cases c:i=j
  ·subst c
   rw[dc A]at e;cases e;rwa[.inl ⟨rfl,rfl⟩]
  ·rw[za c]at e
   rwa[.inr ⟨λz=>c z.symm,e⟩]
 have fs:aQ Hf (aI H p (.lst xs')):=λb o h=>by
  rw[aK (cG h L)];rwa[I.fh b o h]
 erw[⟨⟨I.ex.ff,λb o h=>?_,fs,I.ex.nw,I.ex.nf⟩,by simp[I.len],λj sl e=>?_,λj sl a e o q=>?_,λj k E F a e1 e2 G J x s=>?_⟩]
 ·rw[aK (cG h M)];rwa[I.ex.hh b o h]
 ·rcases g e with⟨rfl,rfl⟩|⟨c,e⟩
  ·exact⟨.ref p,r,p,xs',rfl,L,aZ,R⟩
  ·have⟨u,l,w⟩:=I.ok j sl e
   erw[⟨u,l,?_⟩]
   have C:∀{a:Addr},dC sl=true->u=.ref a->a≠p:=λ{a} o N O=>by
    subst N O;rwa[c (I.dis j i sl _ _ e f o rfl l r)]
   cases sl with
   |sh d=>rwa[w]
   |ow d=>have⟨a,xs,e1,e2,m,n⟩:=w;exact⟨a,xs,e1,e2,by rw[aK (C rfl e1)];exact m,n⟩
   |dk ks d=>have⟨a,xs,e1,e2,m,n⟩:=w;exact⟨a,xs,e1,e2,by rw[aK (C rfl e1)];exact m,n⟩
   |dt ks d=>have⟨a,xs,e1,e2,m,n⟩:=w;exact⟨a,xs,e1,e2,by rw[aK (C rfl e1)];exact m,n⟩
 ·rcases g e with⟨rfl,rfl⟩|⟨c,e⟩
  ·rw[r]at q;cases q;rwa[M]
  ·rwa[I.own j sl a e o q]
 ·rcases g e1 with⟨rfl,rfl⟩|⟨c,e1⟩
  ·rcases g e2 with⟨rfl,rfl⟩|⟨P,e2⟩
   ·rfl
   ·rwa[I.dis _ k _ F a f e2 rfl J x s]
  ·rcases g e2 with⟨y,Q⟩|⟨P,e2⟩
   ·rw[y]at s ⊢
    rwa[I.dis j _ E _ a e1 f G rfl x s]
   ·rwa[I.dis j k E F a e1 e2 G J x s]
def mI(z:X.N[i]?=some x)(ha:PE X a (eV X.K B fa))(A:gY X.u.scope x:=by first|exact ub rfl|exact fg (ub rfl)|exact fg (fg rfl))(l:(x == 'g')=false:=by decide)(m:(x == 'c')=false:=by decide)(f:attributeBase (.Name x p1) "append" X.u (eval (.Name x p1) X.u)=eval (.Name x p1) X.u:=by rfl)(h:((backTo p3 (starEach [a] X.u)).all (λx=>!x.1) && (backToKw p3 (keywordEach [] X.u)).all (λx=>x.1.isSome) && decide ([a].length+([]:List Keyword).length+'e'<30))=true:=by rfl)(g:(p2.endLine == p3.line)=true:=by rfl)(hs:W1 X [a] a []:=by rfl)(c:W2 X p3 []:=by rfl)(n:W0 X (.Call (.Attribute (.Name x p1) "append" p2) [a] [] p3) none pos:=by rfl) :
  PS X (.Expr (.Call (.Attribute (.Name x p1) "append" p2) [a] [] p3) pos) (sV X.K B (dP i fa)) :=
 (pA (xu plainAttrs_list PySem.F.slot_list_append PySem.F.type_list_append CA (gh z A l m) (dL ha gG hs) f h g hs c) n).imp λD u H ⟨Hf,ρ,I,q⟩=>by
  unfold dP at q
  split at q
  ·rename_i ds e
   have⟨v,o,p,xs,rfl,E,r,s⟩:=I.ok i _ e;erw[⟨_,o,.inl ⟨rfl,xs,bH.of r⟩,?_⟩]
   split at q
   ·rename_i d l
    split at q
    ·rename_i y
     erw[⟨Hf,ρ,d,I,l,λj C v b w=>?_⟩];erw[⟨xs,b.hh _ _ r,by rw[<-s.length];exact y,q j u _ b.ff ?_⟩];exact(I.ext b).mut e o ((s.same b.ff).zsnoc w)
    ·rwa[q.elim]
   ·rwa[q.elim]
  ·rwa[q.elim]
theorem VI.frz{Hf H:Hp}{ρ:av}{y:St}{i:Nat}{ds:T4}(I:VI K B Hf ρ y H)(g:ρ[i]?=some (some (.ow ds))):∃Hf',aQ Hf Hf'/\VI K B Hf' (ρ.set i (some (.sh (.lst ds)))) y H:=by
 have⟨v,m,p,xs,rfl,c,J,L⟩:=I.ok i _ g;have M:=I.own i _ p g rfl m;have N:=I.ex.frz M J c;erw[⟨aI Hf p (.lst xs),gI c,N,by simp[I.len],λj sl e=>?_,λj sl a e o q=>?_,λj k z A a e1 e2 r s C E=>?_⟩]
 ·by_cases b:i=j
  ·subst b
   rw[dc (qa.mp g).1]at e;cases e;exact⟨_,m,iL (bH.of aZ) (L.same (gI c))⟩
  ·rw[za b]at e
   have⟨u,w,l⟩:=I.ok j sl e;erw[⟨u,w,?_⟩]
   have n:∀{a:Addr},dC sl=true->u=.ref a->a≠p:=λ{a} o F G=>by
    subst F G;rwa[b (I.dis i j _ sl _ g e rfl o m w)]
   cases sl with
   |sh d=>rwa[Dn.same l (gI c)]
   |ow d=>have⟨a,xs,e1,e2,h,f⟩:=l;exact⟨a,xs,e1,by rw[aK (n rfl e1)];exact e2,h,aY.same f (gI c)⟩
   |dk ks d=>have⟨a,xs,e1,e2,h,f⟩:=l;exact⟨a,xs,e1,by rw[aK (n rfl e1)];exact e2,h,f.1,aY.same f.2 (gI c)⟩
   |dt ks d=>have⟨a,xs,e1,e2,h,f⟩:=l;exact⟨a,xs,e1,by rw[aK (n rfl e1)];exact e2,h,f.1,aY.same f.2 (gI c)⟩
 ·by_cases b:i=j
  ·subst b
   rw[dc (qa.mp g).1]at e;cases e;cases o
  ·rw[za b]at e
   rwa[I.own j sl a e o q]
 ·by_cases b:i=j
  ·subst b
   rw[dc (qa.mp g).1]at e1;cases e1;cases r
  ·by_cases x:i=k
   ·subst x
    rw[dc (qa.mp g).1]at e2;cases e2;cases s
   ·rw[za b]at e1
    rw[za x]at e2;rwa[I.dis j k z A a e1 e2 r s C E]
def pV(i:Nat)(h:bR X sts (sV X.K B f)):bR X sts (sV X.K B (hZ i f)):=h.imp λD c H ⟨Hf,ρ,I,q⟩=>by
 unfold hZ at q
 split at q
 ·rename_i ds e
  have⟨a,z,b⟩:=I.frz e;exact⟨a,_,b,gM.mono q z⟩
 ·exact⟨Hf,ρ,I,q⟩
def j6(U:PassesOwn (model X.p X.w) X.A X.u X.xe)(Y:X.k=true)(P:PI X tg iter (iV X.K B fi))(E:PG X tg (gV X.K B sl gt))(Z:bR X body (sV X.K B f))(hs:∀x,foldedSetIterable iter X.u x=pure x:=by intro _;rfl):PS X (.For tg iter body [] pos) (sV X.K B (en fi gt f)):=(wW U Y P E Z hs).imp λD N H ⟨Hf,ρ,I,q⟩=>by
 unfold en at q
 cases e:fi ρ with
 |none=>rw[e]at q;rwa[q.elim]
 |some ds =>
  rw[e]at q;erw[⟨Hf,ρ,ds,I,e,λJ b H1 v ok=>?_⟩];erw[⟨λi m N H=>m=ds.length - i/\i<=ds.length/\∃j l,VI X.K B j l N H/\aQ b j/\gM X.K B b (eH gt f (ds.drop i) l) D,⟨ds.length,'m',ae _,b,ρ,I.ext v,aQ.refl _,gM.mono q v.ff⟩,?_⟩];rintro i m L O ⟨rfl,P,j,l,G,a,q⟩;have C:=ok j O (a.trans G.fh) a G.fh i;by_cases s:i<ds.length
  ·have⟨T,M⟩:=C.1 ds[i] (by simp[s])
   erw[.inr ⟨T,λp H'=>∃n F,VI X.K B n F p H'/\aQ b n/\gM X.K B b (eH gt f (ds.drop (i+1)) F) D,λp H' z=>⟨ds.length - (i+1),'o',rfl,s,z⟩,λx Q y=>?_⟩];have⟨n,o,dx⟩:=M x Q y;rw[vd s]at q;unfold eH at q
   cases E:gt ds[i] l with
   |none=>rw[E]at q;rwa[q.elim]
   |some ρ1 =>
    simp only[E]at q;erw[⟨n,l,_,ρ1,G.ext o,dx,E,λp R _ _=>⟨n,ρ1,R,?_⟩⟩]
    cases u:f ρ1 with
    |nx ρ'=>simp only[u]at q;rwa[λc g r z h=>⟨c,ρ',h,(a.trans o.ff).trans z,q⟩]
    |ct ρ'=>simp only[u]at q;rwa[λc g r z h=>⟨c,ρ',h,(a.trans o.ff).trans z,q⟩]
    |bk ρ'=>simp only[u]at q;rwa[λc g r z h=>q c g r ((a.trans o.ff).trans z) h]
    |rt d=>simp only[u]at q;rwa[q]
    |rw d=>simp only[u]at q;rwa[q]
    |bad=>simp only[u]at q;rwa[q.elim]
  ·have e:i=ds.length:=by omega
   subst e;rw[tj]at q;rwa[.inl ⟨C.2 (ib _),q j L O a G⟩]
def M0(G:av->Nat)(J:PassesOwn (model X.p X.w) X.A X.u X.xe)(L:PT X c (tV X.K B ft))(M:bR X n (sV X.K B f)):PS X (.While c n [] pos) (sV X.K B (yF G ft f)):=(IV J L M).imp λD E H ⟨Hf,ρ,I,q⟩=>by
 unfold yF at q;erw[⟨λm E H=>∃l a,VI X.K B l a E H/\aQ Hf l/\gM X.K B Hf (jP ft f m a) D,⟨_,Hf,ρ,I,aQ.refl _,q⟩,?_⟩];rintro m y N ⟨l,a,C,x,q⟩
 cases m with
 |zero=>rwa[q.elim]
 |succ m =>
  unfold jP at q
  cases e:ft a with
  |none=>rw[e]at q;rwa[q.elim]
  |some b =>
   rw[e]at q;erw[⟨l,a,b,C,e,λr F g=>?_⟩]
   cases b with
   |false=>rw[wa ua];rwa[q r y F (x.trans g.ff) (C.ext g)]
   |true =>
    rw[la rfl];erw[⟨λs H'=>∃u v,VI X.K B u v s H'/\aQ Hf u/\gM X.K B Hf (jP ft f m v) D,λs H' z=>⟨m,vo _,z⟩,r,a,C.ext g,?_⟩]
    cases p:f a with
    |nx ρ'=>simp only[p]at q;rwa[λh i o z j=>⟨h,ρ',j,(x.trans g.ff).trans z,q⟩]
    |ct ρ'=>simp only[p]at q;rwa[λh i o z j=>⟨h,ρ',j,(x.trans g.ff).trans z,q⟩]
    |bk ρ'=>simp only[p]at q;rwa[λh i o z j=>q h i o ((x.trans g.ff).trans z) j]
    |rt d=>simp only[p]at q;rwa[q]
    |rw d=>simp only[p]at q;rwa[q]
    |bad=>simp only[p]at q;rwa[q.elim]
end
noncomputable def dW(n:Nat)(ds:T4):av:=ds.map (λd=>some (.sh d))++replicate (n - ds.length) none
noncomputable def bU(np n:Nat)(f:av->aR)(ds:T4):T5:=if ds.length=np then (match f (dW n ds) with|.rt d=>some d|.rw es=>some (.lst es)|.nx _=>some .non|_=>none) else none
noncomputable def iP(np n:Nat)(f:av->aR)(ds:T4):T0:=if ds.length=np then (match f (dW n ds) with|.rw es=>some es|_=>none) else none
def bQ(K:Fg1)(np:Nat)(F:T4->T5):Sp:=λvs H Q _=>∃Hf ds d,aQ Hf H/\aY K Hf ds vs/\ds.length=np/\F ds=some d/\∀Hf' H' v,Ex Hf H Hf' H'->Dn K Hf' d v->Q v H'
def pW(K:Fg1)(np:Nat)(F:T4->T0):Sp:=λvs H Q _=>∃Hf ds rs,aQ Hf H/\aY K Hf ds vs/\ds.length=np/\F ds=some rs/\∀Hf' H' p xs,Ex Hf H Hf' H'->H p=none->Hf' p=none->H' p=some (.lst xs)->aY K Hf' rs xs->Q (.ref p) H'
def VI.init{K:Fg1}{N:T8}(s:aQ Hf H)(h:aY K Hf ds vs):VI K ⟨Hf,H⟩ Hf (dW N.length ds) (jG N vs) H:=by
 have hl:=h.length
 have a:∀{i:Nat} {sl:Sl},(dW N.length ds)[i]?=some (some sl)->∃d,ds[i]?=some d/\sl=.sh d:=λ{i sl} e=>by
  unfold dW at e;by_cases f:i<ds.length
  ·rw[ke (by simpa using f),yc]at e
   have⟨d,b,c⟩:=yb.mp e;exact⟨d,b,(md c).symm⟩
  ·rw[af (by simpa using f),lg]at e
   split at e <;> cases e
 erw[⟨.refl s,by simp[dW,jG,hl],λi sl e=>?_,λi sl p e o=>?_,λi j m n p e1 e2 g=>?_⟩]
 ·have⟨d,b,rfl⟩:=a e
  have⟨v,c,l⟩:=h.zget b;erw[⟨v,?_,l⟩];have f:i<vs.length:=(qa.mp c).1;delta jG;rw[ke (by simpa using f),yc,c];rfl
 ·have⟨d,b,rfl⟩:=a e
  cases o
 ·have⟨d,b,rfl⟩:=a e1
  cases g
section
variable {K:Fg1}
def M1{st:Stmt}{N ps:T8}(F:ec K x c st f u)(S:az N ps (bw st))(j:∀(g:Value) (A:Around) (a:Tl) (s:Shared) (H:Hp) (E:XK) (B:Bs),aL k (A.deeper (envOfC c (bw st) s.heap.objs.size f g))->bR (c0 bC P w K mg base N c (bw st) f g A a s H E).nox (fM st) (sV K B fs)):aG P w K mg base bC (k+1) f u ps (bQ K ps.length (bU ps.length N.length fs)):=by
 erw[F.ok S (λvs H Q E h=>?_) (λg A a s H vs Q E y h=>?_)]
 ·have⟨Hf,ds,d,_,n,o,_⟩:=h
  rw[<-o,n.length]
 ·have⟨Hf,ds,d,hs,n,o,b,q⟩:=h
  erw[⟨_,j g A a s H E ⟨Hf,H⟩ y,Hf,dW N.length ds,VI.init hs n,?_⟩];unfold bU at b;rw[la o]at b
  cases e:fs (dW N.length ds) with
  |rt d'=>rw[e]at b;cases b;rwa[λi H' v l z=>q i H' v l z]
  |rw es =>
   rw[e]at b;cases b;rwa[λi H' p xs l C r m G=>q _ H' _ (l.frz C m r) (iL (bH.of aZ) (G.same (gI r)))]
  |nx ρ'=>rw[e]at b;cases b;rwa[λi I H' _ J=>q i H' .non J.ex (cE rfl)]
  |bk ρ'=>rw[e]at b;cases b
  |ct ρ'=>rw[e]at b;cases b
  |bad=>rw[e]at b;cases b
def M5{st:Stmt}{N ps:T8}(F:ec K x c st f o)(S:az N ps (bw st))(i:∀(g:Value) (A:Around) (a:Tl) (s:Shared) (H:Hp) (E:XK) (B:Bs),aL k (A.deeper (envOfC c (bw st) s.heap.objs.size f g))->bR (c0 bC P w K mg base N c (bw st) f g A a s H E).nox (fM st) (sV K B fs)):aG P w K mg base bC (k+1) f o ps (pW K ps.length (iP ps.length N.length fs)):=by
 erw[F.ok S (λvs H Q E h=>?_) (λg A a s H vs Q E r h=>?_)]
 ·have⟨Hf,ds,d,_,m,n,_⟩:=h
  rw[<-n,m.length]
 ·have⟨Hf,ds,d,hs,m,n,b,q⟩:=h
  erw[⟨_,i g A a s H E ⟨Hf,H⟩ r,Hf,dW N.length ds,VI.init hs m,?_⟩];unfold iP at b;rw[la n]at b
  cases e:fs (dW N.length ds) with
  |rw es=>rw[e]at b;cases b;rwa[λj H' p xs u v y l z=>q j H' p xs u v y l z]
  |rt d'=>rw[e]at b;cases b
  |nx ρ'=>rw[e]at b;cases b
  |bk ρ'=>rw[e]at b;cases b
  |ct ρ'=>rw[e]at b;cases b
  |bad=>rw[e]at b;cases b
end
section
variable {X:Cx}{pos:Pos}
def a0(np:Nat)(F:T4->T5)(fr:av->T0):av->T5:=λρ=>(fr ρ).bind λds=>if ds.length=np then F ds else none
def iQ(np:Nat)(F:T4->T0)(fr:av->T0):av->T0:=λρ=>(fr ρ).bind λds=>if ds.length=np then F ds else none
def M6(G:aG X.p X.w X.K X.mg X.base bC k f fd ps (bQ X.K np F))(n:aL k X.A)(o:Gl X x)(hm:X.mg x=some (.ref f))(r:keepIn X.K (.ref f)=true)(s:dq X.K fd ps [])(ha:PA X (e::es) (aV X.K B fr))(g:(x == 'g')=false:=by decide)(he:W1 X (e::es) e es:=by rfl)(h:W2 X pos es:=by rfl):PE X (.Call (.Name x p) (e::es) [] pos) (eV X.K B (a0 np F fr)) :=
 (w4 G n o hm r s .nil Ci ha g he h).imp λu H Q ⟨Hf,ρ,z,I,hz,q⟩=>by
  have⟨ds,m,hz⟩:=bind_some hz
  split at hz
  ·rename_i hn
   erw[⟨Hf,ρ,ds,I,m,λb i vs a c=>?_⟩];show bQ X.K np F (vs++[]) i Q E0;rw[jd];exact⟨b,ds,z,a.fh,c,hn,hz,λd H' v j l=>q d H' v (a.trans j) l⟩
  ·cases hz
def yI(G:aG X.p X.w X.K X.mg X.base bC k f fd ps (pW X.K np F))(s:aL k X.A)(u:Gl X x)(hm:X.mg x=some (.ref f))(v:keepIn X.K (.ref f)=true)(y:dq X.K fd ps [])(ha:PA X (e::es) (aV X.K B fr))(h:(x == 'g')=false:=by decide)(he:W1 X (e::es) e es:=by rfl)(i:W2 X pos es:=by rfl):PE X (.Call (.Name x p) (e::es) [] pos) (eW X.K B (iQ np F fr)) :=
 (w4 G s u hm v y .nil Ci ha h he i).imp λC H Q t=>by
  have⟨Hf,ρ,z,I,hz,q⟩:=t;have⟨ds,r,hz⟩:=bind_some hz
  split at hz
  ·rename_i hn
   erw[⟨Hf,ρ,ds,I,r,λb j vs a c=>?_⟩];show pW X.K np F (vs++[]) j Q E0;rw[jd];exact⟨b,ds,z,a.fh,c,hn,hz,λd H' p xs l m n g o=>q d H' p xs (a.trans l) (a.hh.free m) n g o⟩
  ·cases hz
noncomputable def oA(np:Nat)(F:T4->T5)(fr:av->T0):av->T5:=λρ=>(fr ρ).bind λds=>if ds.length=np then (F ds).bind λd=>match d with|.sc v=>some (.sc v)|_=>none else none
end
noncomputable def LF:T7:=[97,98,99,100,101,102,103,104,105,106,107,108,109,110,111,112,113,114,115,116,117,118,119,120,121,122,65,66,67,68,69,70,71,72,73,74,75,76,77,78,79,80,81,82,83,84,85,86,87,88,89,90,48,49,50,51,52,53,54,55,56,57]
noncomputable def SG:T7:=[97,98,99,100,101,102,103,104,105,106,107,108,109,110,111,112,113,114,115,116,117,118,119,120,121,122,65,66,67,68,69,70,71,72,73,74,75,76,77,78,79,80,81,82,83,84,85,86,87,88,89,90,48,49,50,51,52,53,54,55,56,57,45]
def c3{K:Fg1}{a:Str}{st:Stmt}{N ps:T8}(j:i=bU e nN fs)(l:ps.length=e)(m:N.length=nN)(F:ec K x a st f h)(S:az N ps (bw st))(b:∀(d:Value) (A:Around) (c:Tl) (s:Shared) (H:Hp) (E:XK) (B:Bs),aL k (A.deeper (envOfC a (bw st) s.heap.objs.size f d))->bR (c0 bC P w K g base N a (bw st) f d A c s H E).nox (fM st) (sV K B fs)):aG P w K g base bC (k+1) f h ps (bQ K e i):=by
 subst j l m;rwa[M1 F S b]
def DE{K:Fg1}{a:Str}{st:Stmt}{N ps:T8}(j:i=iP e nN fs)(l:ps.length=e)(m:N.length=nN)(F:ec K x a st f h)(S:az N ps (bw st))(b:∀(d:Value) (A:Around) (c:Tl) (s:Shared) (H:Hp) (E:XK) (B:Bs),aL k (A.deeper (envOfC a (bw st) s.heap.objs.size f d))->bR (c0 bC P w K g base N a (bw st) f d A c s H E).nox (fM st) (sV K B fs)):aG P w K g base bC (k+1) f h ps (pW K e i):=by
 subst j l m;rwa[M5 F S b]
section
variable {X:Cx}{K:Fg1}{a:Expr}{fa fb:av->T5}{pos:Pos}
def M7(h:x=S l)(a:Gl X n)(hm:X.mg n=some (.str x tk))(b:(n == 'g')=false:=by decide):PE X (.Name n pos) (eV X.K B (eC (.str l))):=by
 subst h;rwa[rF rfl (tY (v:=.str (S l)) a hm ⟨tk,rfl⟩ b)]
theorem yJ:∀ns:Ti,aY K H (ns.map D.int) (ns.map V.int)
 |[]=>.nil
 |n::r=>.cons (cE rfl) (yJ r)
end
section
variable {M:Model}{A:Around}{E:T2}{h:Heap}{g:Array GenState}{d:Drawn}{t:Nat}{os:OsState}
variable {nm:Str}{C P:Addr}{mN mP:Str->Ta}
def M8(x:XC h nm C P mN mP)(he:h.get? e=some oe)(m:oe.cls=.ref C)(n:Q true ⟨h,g,d,t,os⟩):wpAny M A (excMatches (.ref e) (.ref P)) Q E ⟨h,g,d,t,os⟩:=by
 have⟨⟨q,N,bs,o,i,p,j,dd,r,s,k2,u,v,l,hn⟩,w,y,z,B,F,G,H,I,J,K,L,O,R,T,U,c,X⟩:=x;have a:(ref P::dM).contains (.type "BaseException")=true:=by rw[ng];simp
 have b:(ref C::(ref P::dM)).contains (.ref P)=true:=by simp
 have f:=tc_notTuple;delta excMatches
 repeat (first|(with_reducible refine ce he ?_;rw[m])|with_reducible refine ce c ?_|(with_reducible refine ni c ?_;rw[a])|(with_reducible refine ni l ?_;rw[b])|wp_step)
 rwa[n]
end
noncomputable def Cx.hdl(X:Cx)(v:Value):Cx:={ X with A:=X.A.mark (some v),k:=false }
section
variable {X:Cx}{σ:St}{s:Shared}{h':Heap}
theorem ax.hdl(I:ax X pins σ H s):ax (X.hdl v) pins σ H s :=
 ⟨⟨I.ok.mod,I.ok.kind,I.ok.glob,I.ok.blt,I.ok.above,I.ok.inj,I.ok.has,I.ok.cab,(λz=>nomatch z),I.ok.frames,I.ok.stk,I.ok.exf,I.ok.bs,I.ok.bsz,I.ok.noex,I.ok.exfs,I.ok.funs,I.ok.frf⟩,I.os,I.bare,I.base,I.loc,I.cell,I.free,I.freeC,I.pin,I.hok,I.len⟩
def ax.unhdl(ok:X.Ok)(I:ax (X.hdl v) pins σ H s):ax X pins σ H s:=⟨ok,I.os,I.bare,I.base,I.loc,I.cell,I.free,I.freeC,I.pin,I.hok,I.len⟩
def ax.gone(I:ax X pins σ H s)(P:X.N.Nodup)(A:X.N[j]?=some n)(hm:s.heap.Ns X.u.locals m)(r:h'.Ns X.u.locals (λx=>if x=n then w else m x))(hs:Heap.SameBut X.u.locals s.heap h') :
  ax X pins (σ.set j none) H { s with heap:=h',toks:=t' }:=by
 have⟨G,h,hl⟩:=id I.loc;have O:G=m:=h.eq_nsMap.trans hm.eq_nsMap.symm;subst O;have cne:=I.cne;have f:j<σ.length:=by rw[I.len];exact(qa.mp A).1
 erw[⟨I.ok,I.os,I.bare,⟨λb o e n g a=>?_,λb o e n g a=>?_,I.base.free,λb o e a=>?_,I.base.tups,I.base.frzs,I.base.tbls⟩,⟨_,r,λk y B e1 e2 C=>?_⟩,λy c e=>?_,I.free,I.freeC,λp E=>?_,λb F e=>?_,by simpa using I.len⟩]
 ·exact(hs.2 b (vc (xb (wb e) I.ok.above))).trans (I.base.keep b o e n g a)
 ·have⟨sl,z⟩:=I.base.slot b o e n g a
  exact⟨sl,(hs.2 b (vc (xb (wb e) I.ok.above))).trans z⟩
 ·have⟨J,z⟩:=I.base.there b o e a
  exact⟨J,(hs.2 b (vc (xb (wb e) I.ok.above))).trans z⟩
 ·by_cases l:k=j
  ·subst l
   rw[dc f]at e2;cases e2
  ·rw[za (vf l)]at e2
   have⟨K,L,q⟩:=hl k y B e1 e2 C;erw[⟨K,L,?_⟩];rcases q with⟨i,e⟩|⟨i,c,e,z⟩
   ·refine .inl ⟨i,?_⟩
    have:y≠n:=λe=>l (wP P e1 (e ▸ A))
    simp[this,e]
   ·rwa[.inr ⟨i,c,e,z.sameBut hs (cne y c e)⟩]
 ·have⟨u,z⟩:=I.cell y c e
  exact⟨u,z.sameBut hs (cne y c e)⟩
 ·have⟨e,n,v,M,d⟩:=I.pin p E
  exact⟨(hs.2 p.1 v).trans e,n,v,M,d⟩
 ·refine(I.hok b F e).stay (λc u hc q=>(hs.2 c ?_).trans q) (λ_ q=>q) λ_ _ q=>q
  rintro rfl;rcases hc with rfl|hc
  ·rw[I.free]at e;cases e
  ·rw[I.free]at hc;cases hc
end
section
variable {X:Cx}
def M9{D:eP}(I:ax X pins σ H s)(a:X.t=X.u::X.outer/\X.u.frame=some X.u.locals)(F:X.N.Nodup)(hi:X.N[i]?=some told)(r:X.N[j]?=some n)(hl:X.u.scope.names.lookup told=some .local)(d:X.u.scope.names.lookup n=some .local)(hg:Gl X "PageError")(tr:jJ s.heap e)(he:H e=some (.ext (di e C dx)))(cl:ee X.K nm C)(q:D.nx (((σ.set j (some (.ref e))).set i (some (.ref e))).set j none) H)(hd:(n == 'g')=false:=by decide)(G:(n == 'c')=false:=by decide)(J:W0 X (.Name n pn) (some (.Name told pt)) pa:=by rfl) :
  wpAny (model X.p X.w) X.A (noteFrame (.ref e) X.u) (λ_ Y=>wpAny (model X.p X.w) X.A (setFlight (.ref e) none) (λ_ x=>wpAny (model X.p X.w) X.A (handleBy (.ref e) X.u [.ExceptHandler (some (.Name "PageError" np)) (some n) [.Assign [.Name told pt] (.Name n pn) pa] hp]) (SP X pins D) X.xe x) X.xe Y) X.xe s:=by
 have⟨P,fI,c,hP,_⟩:=cl;have hm:X.mg "PageError" = some (.ref P):=mg_of I.ok.mod.kin I.ok.mod.glob hP;have⟨mN,mP,xc,_⟩:=c.at_ X.base I.ok.mod.kin;erw[LQ (base:=X.base) (a.1 ▸ I.ok.frames) (a.1 ▸ I.stack) a.2 tr λh1 L=>?_]
 have l:rB (d8 X.t) e s.heap h1:=by rw[a.1];rwa[L]
 have eq:aI H e (.ext (di e C dx))=H:=by
  funext b
  by_cases U:b=e
  ·subst U;rw[aZ,he]
  ·rw[aK U]
 have p:ax X pins σ H { s with heap:=h1 }:=by
  have:=I.noted he l (Mh l (I.hok.ext he))
  rw[eq]at this;rwa[this]
 erw[wpAny_handleBy_cons (codeAny_handlers_test (nC (X:=X.hdl (.ref e)) p.hdl hg hm ?_)) (by intro z;cases z)];have⟨vs,sl,E⟩:=p.hok.ext he;erw[M8 (xc.keeps p.bk) E rfl ?_];erw[codeAny_handlers_suite_as ?_];have⟨oe,us,T,oT,ts,t1,t2,t3,t4,M,O,Q⟩:=L.trc;erw[wpAny_setFlight_none t1 t2 t3 M O (yd.mp Q).1 ?_];have I2:ax X pins σ H { s with heap:=h1.update T (mapFields (·.setIfInBounds 3 .none)) }:=p.kept (t':=s.toks) λb u z=>(x4 M O Q b).trans z
 erw[wQ (v:=.ref e) I2 F r (ub d) rfl (λx Z=>?_) (.inr d)];erw[gf ((iD (X:=(X.hdl (.ref e)).nox) (mx (i:=i) F hi (ub hl) (gh (i:=j) r (ub d) hd G) J (.inr hl)) pz) pins x _ H ⟨λg H'=>g=(σ.set j (some (.ref e))).set i (some (.ref e))/\H'=H,λ_ _=>False,λ_ _=>False,λ_ _=>False⟩ (Z.hdl.wish _) ⟨.ref e,?_,rfl,rfl⟩) (λf s4 o=>?_) λ_ _ z=>z.elim]
 ·rw[dc];rw[I.len];exact(qa.mp r).1
 ·cases f with
  |next =>
   have⟨g,H',I4,e1,e2⟩:=o;subst e1 e2;have R:ax X pins ((σ.set j (some (.ref e))).set i (some (.ref e))) H' s4:=I4.unwish.unhdl I.ok;have⟨m,h,_⟩:=id R.loc;erw[wpAny_nameGoes_keeps d h (by rw[I.ok.kind];rfl) λh5 w y B=>⟨_,_,R.gone F r h y B,q⟩]
  |brk=>have⟨_,_,_,z⟩:=o;rwa[z.elim]
  |cont=>have⟨_,_,_,z⟩:=o;rwa[z.elim]
  |ret u=>have⟨_,_,_,_,_,z⟩:=o;rwa[z.elim]
end
section
variable {X:Cx}
def DF(F:aG X.p X.w X.K X.mg X.base CX k f fd ps sp)(c:aL k X.A)(d:dq X.K fd ps [])(g:∀e s',CX X.t H s E e s'->Ec e s')(I:ax X pins σ H s)(r:bD vs us)(h:sp vs H Q E):wpAny (model X.p X.w) X.A (call (.ref f) us) (EP X pins σ Q) Ec s:=by
 have hl:(us++[]).length=ps.length:=by rw[jd,<-r.length];rwa[F.len _ _ _ _ h]
 have b:=d s us I.kIn hl;rw[jd]at b;erw[qm (jk (F.run X.A X.t s H ⟨us,[]⟩ us vs Q E c I.env0 b r h) λr s' a=>?_)]
 cases r with
 |error e=>rwa[g e s' a]
 |ok i =>
  cases i with
  |ret u=>rwa[I.after a]
  |next=>rwa[elim a]
  |brk=>rwa[elim a]
  |cont=>rwa[elim a]
def Na(K:Fg1)(W:Addr->Hp->Prop):XK:=λv _ H=>∃e nm C a,v=.ref e/\H e=some (.ext (di e C a))/\ee K nm C/\W e H
def yK(K:Fg1)(sp0 sp1:Sp)(i j:Nat)(g:V->St->St)(t:TA):TS:=λD σ H=>t σ H λvs H1=>sp0 vs H1 (λv H2=>D.nx (g v σ) H2) E0\/sp1 vs H1 (λ_ _=>False) (Na K λe H2=>D.nx (((σ.set j (some (.ref e))).set i (some (.ref e))).set j none) H2)
variable {pos:Pos}{a:Expr}
def Nb{D:eP}(F0:aG X.p X.w X.K X.mg X.base bC k f fd ps sp0)(F1:aG X.p X.w X.K X.mg X.base (cW X.p X.w) k f fd ps sp1)(F:aL k X.A)(hg:Gl X fx)(hm:X.mg fx=some (.ref f))(hk:keepIn X.K (.ref f)=true)(G:dq X.K fd ps [])(ha:∀Ec,PA (X.wish Ec) (a::as) t)(I:ax X pins σ H s)(h:yK X.K sp0 sp1 i j g t D σ H)(hR:∀u v H2 b,ax X pins σ H2 b->bj v u->D.nx (g v σ) H2->R u b)(hE:∀e nm C dx H2 b,ax X pins σ H2 b->jJ b.heap e->H2 e=some (.ext (di e C dx))->ee X.K nm C->D.nx (((σ.set j (some (.ref e))).set i (some (.ref e))).set j none) H2->Ec (.ref e) b)(x:(fx == 'g')=false:=by decide)(he:W1 X (a::as) a as:=by rfl)(y:W2 X cp as:=by rfl) :
  wpAny (model X.p X.w) X.A (eval (.Call (.Name fx p) (a::as) [] cp) X.u) R Ec s:=by
 erw[dg (nC I hg hm ?_ x)];erw[callWith_K (h₀:=X.base) I.ok.mod.kin hk (aU (ha Ec cp pins s σ H _ (I.wish Ec) h) λus s1 ⟨vs,J,B,r,q⟩=>⟨B.kIn,?_⟩) he y];rw[ze];have c:ax X pins σ J s1:=B.unwish;rcases q with q|q
 ·rwa[aU (DF F0 F G (λe s' z=>z.elim) c r q) λu b ⟨v,H2,l,E,m⟩=>hR u v H2 b l E m]
 ·refine aU (DF (Ec:=Ec) F1 F G (λv s' z=>?_) c r q) λu b ⟨v,H2,l,E,m⟩=>m.elim
  have⟨e,C,dx,fs,H',L,os,d,un,n,M,N,O,P,e2,nm,Q,o,T,U,Y,Z⟩:=z;subst L;cases T;have l:ax X pins σ H' s':=c.call' (ch:=[]) os un n d (λ_ z=>nomatch z);rwa[hE e nm Q o H' s' l M U Y Z]
def Nc(J:aG X.p X.w X.K X.mg X.base bC k f fd ps sp0)(L:aG X.p X.w X.K X.mg X.base (cW X.p X.w) k f fd ps sp1)(M:aL k X.A)(O:Gl X fx)(hm:X.mg fx=some (.ref f))(P:keepIn X.K (.ref f)=true)(Q:dq X.K fd ps [])(d:Gl X "PageError")(g:X.t=X.u::X.outer/\X.u.frame=some X.u.locals)(R:X.N.Nodup)(T:X.N[i]?=some told)(U:X.N[j]?=some n)(hl:X.u.scope.names.lookup told=some .local)(l:X.u.scope.names.lookup n=some .local)(ha:∀Ec,PA (X.wish Ec) (a::as) t)(m:(fx == 'g')=false:=by decide)(he:W1 X (a::as) a as:=by rfl)(o:W2 X cp as:=by rfl)(Y:(n == 'g')=false:=by decide)(r:(n == 'c')=false:=by decide)(x:W0 X (.Name n pn) (some (.Name told pt)) pa:=by rfl)(y:W0 X (.Call (.Name fx p) (a::as) [] cp) none ep:=by rfl) :
  PS X (.Try [.Expr (.Call (.Name fx p) (a::as) [] cp) ep] [.ExceptHandler (some (.Name "PageError" np)) (some n) [.Assign [.Name told pt] (.Name n pn) pa] hp] [] [] pos) (yK X.K sp0 sp1 i j (λ_ σ=>σ) t):=by
 intro B s σ H D I h;erw[wpAny_Try_except (cr (wpAny_Expr_any (Nb J L M O hm P Q ha I h (λu v z E b Z q=>zl (zl ⟨σ,z,b,q⟩)) (λe nm C dx z E b F c G q=>?_) m he o) I.quiet y))];rwa[M9 b g R T U hl l d F c G q Y r x]
end
def Nd(h:Heap)(e L:Addr)(lo:Nat):Prop:=∃a vs T b c,h.get? e=some a/\a.data=.fields vs/\vs[1]?=some (.ref T)/\T≠e/\h.get? T=some b/\b.data=.fields c/\c[3]?=some (rawInt L)/\lo<=T
def rP(h:Heap)(e:Addr):Prop:=∃a vs,h.get? e=some a/\a.data=.fields vs/\vs[1]?=some .none
structure u0(fs:Tj)(e L:Addr)(h h':Heap):Prop where
 fl:Nd h' e L h.objs.size
 exc:∀oe vs,h.get? e=some oe->oe.data=.fields vs->∃vs',h'.get? e=some { oe with data:=.fields vs' }
 keep:∀b o,b≠e->b ∉ fs->h.get? b=some o->h'.get? b=some o
 slot:∀b o,b∈fs->h.get? b=some o->∃sl,h'.get? b=some { o with slots:=sl }
section
variable {A:Around}{s:Shared}
def yL(G:A.frames=some (env::outer))(hl:s.heap.FunFrames base (env::outer))(R:env.frame=some L)(he:s.heap.get? e=some oe)(p:oe.data=.fields vs)(hsz:1<vs.size)(q:∀h',u0 ((env::outer).filterMap (·.frame)) e L s.heap h'->Q () { s with heap:=h' }) :
  wpAny M A (do let a ← frameOf env;let u ← entryPlaceOf L F;let b ← EntryCells.newEntry f a .none (rawInt L) .none u;setField (.ref e) 1 b) Q E s:=by
 have l:e ∉ (env::outer).filterMap (·.frame):=λhm=>by
  have⟨_,o,J,w⟩:=hl.mem hm;rw[he]at J;cases J;rwa[w vs p]
 refine aa (wpAny_frameOf_fun G hl R λc r=>?_);refine aa (wpAny_entryPlaceOf λu v=>?_);unfold EntryCells.newEntry newFields;refine aa (pf ?_ (v.sizeOk5 _ _ _ _ _));have e1:c.get? e=some oe:=(r.2.1 e l).trans he;generalize n:({ cls:=.type "traceback",dict:=none,data:=.fields ([f,.ref L,.none,rawInt L,.none]++(if u.isEmpty then replicate 6 Value.none else u)).toArray }:Obj)=ob;have C:ob.isFreed=false:=by rw[<-n];rfl
 obtain⟨x,y,B⟩:∃x,ob.data=.fields x/\x[3]?=some (rawInt L):=⟨_,by rw[<-n],'m'⟩
 have e2:=na (h:=c) ob e1;erw[ii e2 p hsz (q _ ?_)];have m:c.objs.size≠e:=yl (wb e1);have K:=cf p (·.setIfInBounds 1 (ref c.objs.size));have N:=be (mapFields (·.setIfInBounds 1 (ref c.objs.size))) e2 (dh K);have P:=(qc (c.push ob) (mapFields (·.setIfInBounds 1 (ref c.objs.size))) (vf m)).trans (bc c C)
 have d:∀b o,b≠e->c.get? b=some o->((c.push ob).update e (mapFields (·.setIfInBounds 1 (ref c.objs.size)))).get? b=some o:=λb o g j=>by
  rw[qc _ _ (vf g)];rwa[na _ j]
 erw[⟨⟨_,_,c.objs.size,_,_,N,K,by simp[hsz],m,P,y,B,by rw[r.1];rwa[ib _]⟩,λT O H I=>?_,λb o g i j=>d b o g ((r.2.1 b i).trans j),λb o i j=>?_⟩]
 ·rw[he]at H;cases H
  rw[p]at I;cases I;exact⟨_,by rw[N,x3 p]⟩
 ·have⟨sl,hs⟩:=r.2.2 b o j
  exact⟨sl,d b _ (λz=>l (by rw[<-z];rwa[i])) hs⟩
def Nf(g:A.frames=some (env::outer))(hl:s.heap.FunFrames base (env::outer))(p:env.frame=some L)(O:rP s.heap e\/jJ s.heap e)(q:∀h',u0 ((env::outer).filterMap (·.frame)) e L s.heap h'->Q () { s with heap:=h' }):wpAny M A (noteFrame (.ref e) env) Q E s:=by
 delta noteFrame;simp only[p];rcases O with⟨h,vs,he,d,f⟩|⟨h,vs,T,P,R,he,d,f,N,l,c,m⟩
 ·refine aa (vh he d f ?_)
  rw[wa 'd'];rwa[yL g hl p he d (yd.mp f).1 q]
 ·refine aa (vh he d f ?_)
  rw[la (show (ref T != Value.none)=true from by simp)];erw[aa (vh l c m ?_)];rw[wa (show ¬((Value.none == rawInt L)=true) from by simp[rawInt])];erw[aa (ii l c (yd.mp m).1 ?_)];have same:=x4 l c m;erw[yL (base:=base) g (hl.of_keeps λb o r _=>⟨o,(same b).trans r,rfl⟩) p ((same e).trans he) d (yd.mp f).1 λh' n=>q h' ⟨?_,λh vs a b=>n.exc h vs ((same e).trans a) b,λb o i j u=>n.keep b o i j ((same b).trans u),λb o i j=>n.slot b o i ((same b).trans j)⟩]
  have⟨v,w,x,y,z,B,C,F,G,H,I,J,K⟩:=n.fl;exact⟨v,w,x,y,z,B,C,F,G,H,I,J,by rw[<-Heap.size_after_update];rwa[K]⟩
end
section
variable {X:Cx}{s:Shared}
def ax.notedF(I:ax X pins σ H s)(he:H e=some (.ext (di e C dx)))(n:u0 (d8 X.t) e L s.heap h'):ax X pins σ H { s with heap:=h' }:=by
 have j:aI H e (.ext (di e C dx))=H:=by
  funext b
  by_cases a:b=e
  ·subst a;rw[aZ,he]
  ·rw[aK a]
 have g:di e C dx h':=by
  have⟨vs,sl,z⟩:=I.hok.ext he;have⟨f,i⟩:=n.exc _ vs z rfl;exact⟨f,sl,i⟩
 erw[I.call (g':=s.gens) (t':=s.toks) (d':=s.drawn) (ch:=[]) ⟨λb o q m hc d=>n.keep b o (cG he m).symm hc q,λb o q m hc d=>n.slot b o hc q,λb o q m d=>m,λb o q d=>?_,λb xs q=>q,λb o u q=>q,λb ps q=>⟨#[],by rw[q];simp⟩⟩ (λb u q=>?_) I.bare (λ_ z=>nomatch z)]
 ·by_cases a:b=e
  ·subst a;have⟨vs,sl,z⟩:=g;exact⟨_,z⟩
  ·by_cases h:b∈d8 X.t
   ·have⟨sl,z⟩:=n.slot b o h q;exact⟨_,z⟩
   ·exact⟨o,n.keep b o a h q⟩
 ·by_cases a:b=e
  ·subst a;rw[he]at q;cases q;rwa[yt g]
  ·refine(I.hok b u q).stay (λc v hc z=>n.keep c v ?_ ?_ z) (λc z=>z) λc ys z=>z
   ·rcases hc with rfl|hc
    ·rwa[a]
    ·rwa[gD hc he λz=>nomatch z]
   ·intro hm
    have:=I.stkFree c hm
    rcases hc with rfl|hc
    ·rw[q]at this;cases this
    ·rw[hc]at this;cases this
def ax.entry{e C dx T:Addr}(I:ax X pins σ H s)(j:X.pn++pins=[])(g:s.heap.get? T=some A)(h:A.data=.fields F)(l:X.s₀.heap.objs.size<=T)(G:T ∉ d8 X.t)(B:H T=none):ax X pins σ H { s with heap:=s.heap.update T (mapFields (·.setIfInBounds 3 v)) }:=by
 have d:∀b o,b≠T->s.heap.get? b=some o->(s.heap.update T (mapFields (·.setIfInBounds 3 v))).get? b=some o:=λb o i z=>(qc _ _ (vf i)).trans z
 have y:=be (mapFields (·.setIfInBounds 3 v)) g (dh (cf h _));erw[I.step (g':=s.gens) (t':=s.toks) (d':=s.drawn) (ch:=[T]) (λb i=>?_) (λb o _ _ hc z _=>d b o (λw=>hc (by simp[w])) z) (λb o _ _ hc z _=>⟨o.slots,d b o (λw=>hc (by simp[w])) z⟩) (λb o _ _ m=>m) (λb o hc z=>⟨o,d b o (λw=>hc (by simp[w])) z⟩) (λb xs q=>q) (λb o u q=>q) (λb ps q=>⟨#[],by rw[q];simp⟩) (λm hm=>?_) (λb u q=>?_) I.bare]
 ·rw[ya.mp i]
  erw[⟨.inr l,λz=>?_,λx c hc z=>?_,λp n=>by rw[j]at n;cases n⟩]
  ·have⟨m,⟨o,es,ep,f,a,_⟩,_⟩:=I.loc
   rw[<-z,g]at f;cases f;rw[h]at a;cases a
  ·have⟨w,o,f,a⟩:=I.cell x c hc
   rw[z,g]at f;cases f;rw[h]at a;cases a
 ·have⟨o,es,ep,f,r⟩:=hm
  erw[⟨o,es,ep,d _ _ (λz=>?_) f,r⟩];rw[z,g]at f;cases f;rw[h]at r;cases r.1
 ·refine(I.hok b u q).stay (λc w hc z=>d c w (λE=>?_) z) (λc z=>z) λc ys z=>z
  subst E;rcases hc with rfl|hc
  ·rw[B]at q;cases q
  ·rw[B]at hc;cases hc
end
def pX(h:Heap)(e L T:Addr):Prop:=∃a vs b c,h.get? e=some a/\a.data=.fields vs/\vs[1]?=some (.ref T)/\T≠e/\h.get? T=some b/\b.data=.fields c/\c[3]?=some (rawInt L)
def pY(X:Cx)(W:XK):T2:=λv s'=>∃e C dx fs H1 a,v=.ref e/\ax X [] a H1 s'/\H1 e=some (.ext (di e C dx))/\H1 dx=some (.ext (eS dx fs))/\dx≠e/\(rP s'.heap e\/jJ s'.heap e\/∃T L,pX s'.heap e L T/\X.s₀.heap.objs.size<=T/\H1 T=none)/\W v (some dx) H1
section
variable {K:Fg1}{H:Hp}
def u1(I:ax X pins σ H s):ax X [] σ H s:=I.pins_of λp a=>nomatch a
def DG(a:Y.t=env0::out0)(x:env0.frame=some L)(G:Y.pn=[])(I:ax Y [] g h s1)(he:h e=some (.ext (di e C dx)))(c:rP s1.heap e\/jJ s1.heap e\/∃T u,pX s1.heap e u T/\Y.s₀.heap.objs.size<=T/\h T=none)(q:∀H T,ax Y [] g h H->pX H.heap e L T->Y.s₀.heap.objs.size<=T->h T=none->Q () H):wpAny (model Y.p Y.w) Y.A (noteFrame (.ref e) env0) Q U s1:=by
 have p:∀b,ax Y [] g h b->∀h',u0 (d8 (env0::out0)) e L b.heap h'->Q () { b with heap:=h' }:=λb I h' n=>by
  have X:=I.notedF he (a ▸ n);have⟨J,vs,T,K,y,i,j,l,B,d,f,m,M⟩:=n.fl;rwa[q _ T X ⟨J,vs,K,y,i,j,l,B,d,f,m⟩ (zc I.sz M) (I.hok.fresh M)]
 have r:rP s1.heap e\/jJ s1.heap e->wpAny (model Y.p Y.w) Y.A (noteFrame (.ref e) env0) Q U s1:=λz=>Nf (base:=Y.base) (a ▸ I.ok.frames) (a ▸ I.stack) x z λh' n=>p s1 I h' n
 rcases c with z|z|⟨T,u,z,O,P⟩
 ·rwa[r (.inl z)]
 ·rwa[r (.inr z)]
 ·have⟨J,vs,K,y,i,j,l,B,d,f,m⟩:=id z
  by_cases s:u=L
  ·subst s
   rwa[wpAny_noteFrame_inFlight x i j l d f m (q _ T I z O P)]
  ·delta noteFrame
   simp only[x];erw[aa (vh i j l ?_)];rw[la (show (ref T != Value.none)=true from by simp)];erw[aa (vh d f m ?_)];rw[wa (show ¬((rawInt u == rawInt L)=true) from λz=>s (by have z:=eq_of_beq z;rwa[Int.ofNat.inj (by simpa [rawInt] using z)]))];erw[aa (ii d f (yd.mp m).1 ?_)]
   have F:T ∉ d8 Y.t:=λhm=>by
    have⟨_,o,N,E⟩:=I.stack.mem hm;rw[d]at N;cases N;rwa[E y f]
   have R:=I.entry (e:=e) (C:=C) (dx:=dx) (v:=.none) (by rw[G];rfl) d f O F P;exact yL (base:=Y.base) (a ▸ I.ok.frames) (a ▸ R.stack) x ((qc _ _ B).trans i) j (yd.mp l).1 λh' n=>p _ R h' n
def Ng{a:Hp}{fs:List (Str×V)}(I:ax (c0 (cW P w) P w K mg base N qual scope f cd A outer s H E) [] b a s1)(he:a e=some (.ext (di e C dx)))(c:rP s1.heap e\/jJ s1.heap e\/∃T h,pX s1.heap e h T/\((c0 (cW P w) P w K mg base N qual scope f cd A outer s H E)).s₀.heap.objs.size<=T/\a T=none)(q:∀d T,ax (c0 (cW P w) P w K mg base N qual scope f cd A outer s H E) [] b a d->pX d.heap e ((c0 (cW P w) P w K mg base N qual scope f cd A outer s H E)).u.locals T->((c0 (cW P w) P w K mg base N qual scope f cd A outer s H E)).s₀.heap.objs.size<=T->a T=none->Q () d):wpAny (model P w) ((c0 (cW P w) P w K mg base N qual scope f cd A outer s H E)).A (noteFrame (.ref e) ((c0 (cW P w) P w K mg base N qual scope f cd A outer s H E)).u) Q g s1:=DG rfl rfl rfl I he c q
def Nh(h:pY (c0 (cW P w) P w K mg base N qual scope f cd A outer s H E) E v s1):((c0 (cW P w) P w K mg base N qual scope f cd A outer s H E)).xe v s1:=by
 have⟨e,C,dx,fs,r,i,M,I,he,O,j,c,q⟩:=h;subst M;erw[Mi (Ng (fs:=fs) I he c λn T p z J L=>?_)];have⟨Q,vs,U,R,u,x,y,B,d,a,F⟩:=id z;erw[wpAny_setFlight_none u x y d a (yd.mp F).1 ?_]
 have m:T ∉ d8 ((c0 (cW P w) P w K mg base N qual scope f cd A outer s H E)).t:=λhm=>by
  have⟨_,o,G,l⟩:=p.stack.mem hm;rw[d]at G;cases G;rwa[l R a]
 have g:ax (c0 (cW P w) P w K mg base N qual scope f cd A outer s H E) [] i r { n with heap:=n.heap.update T (mapFields (·.setIfInBounds 3 .none)) }:=p.entry (e:=e) (C:=C) (dx:=dx) rfl d a J m L;have b:=be (mapFields (·.setIfInBounds 3 Value.none)) d (dh (cf a _));refine⟨e,C,dx,fs,r,rfl,g.os,g.bare,g.base,g.hok,⟨Q,vs,T,_,_,(qc _ _ B).trans u,x,y,B,b,cf a _,?_⟩,he,O,j,q⟩
 have:=(yd.mp F).1
 simp[this]
def rQ:uK (((c0 (cW P w) P w K mg base N qual scope f cd A outer s H E)).wish (pY (c0 (cW P w) P w K mg base N qual scope f cd A outer s H E) E)) E:=by
 intro a g h s1 e C dx i fs I he j c q;have d:s1.heap.get? e=some ⟨.ref C,some dx,.fields #[.ref i,.none,.none,.none,.bool false,.none],#[]⟩:=I.hok.ext he;have l:ax (c0 (cW P w) P w K mg base N qual scope f cd A outer s H E) a g (aI h e (.ext (di e C dx))) s1:=I.unwish.write (t':=s1.toks) (h':=s1.heap) (x:=e) (e:=e) (by rw[he];trivial) 'j' (λb u _ z=>z) ⟨_,d⟩ (yt ⟨_,_,d⟩);exact⟨e,C,dx,fs,_,g,rfl,u1 l,aZ,by rw[aK c];exact j,c,.inl ⟨_,_,d,rfl,rfl⟩,q⟩
def Ni:pC (cW P w) (((c0 (cW P w) P w K mg base N qual scope f cd A outer s H E)).wish (pY (c0 (cW P w) P w K mg base N qual scope f cd A outer s H E) E)) E:=by
 intro a g m n v s2 I k;have⟨e,C,dx,fs,H',h,os,b,un,c,i,he,j,d,q⟩:=k;subst h;have l:ax (c0 (cW P w) P w K mg base N qual scope f cd A outer s H E) a g H' s2:=I.unwish.call' (ch:=[]) os un c b (λ_ z=>nomatch z);exact⟨e,C,dx,fs,H',g,rfl,u1 l,he,j,d,.inr (.inl i),q⟩
end
section
variable {K:Fg1}
def ec.okX{st:Stmt}{ps:T8}(F:ec K x b st f l)(S:az N ps (bw st))(len:∀vs H Q E,sp vs H Q E->vs.length=ps.length)(d:∀ (c:Value) (A:Around) (a:Tl) (s:Shared) (H:Hp) (vs:T6) (Q:VK) (E:XK),aL k (A.deeper (envOfC b (bw st) s.heap.objs.size f c))->sp vs H Q E →
   ∃t,bR ((c0 (cW P w) P w K mg base N b (bw st) f c A a s H E).wish (pY (c0 (cW P w) P w K mg base N b (bw st) f c A a s H E) E)) (fM st) t/\t { nx:=λ_ H'=>Q .non H',rt:=Q } (jG N vs) H):aG P w K mg base (cW P w) (k+1) f l ps sp:=by
 have⟨C,G,kV,u,J,L,c,M,v,rfl,y,j⟩:=F.ex;erw[B5 y j S len λA a s H vs Q E m i=>?_]
 have⟨t,h,q⟩:=d c A a s H vs Q E m i;erw[⟨t,λg n o p D I r=>?_,q⟩];rwa[gf (h g n o p D (I.wish _) r) (λ_ _ z=>z.unwish) λe B z=>Nh z]
end
end L2
namespace L2
open PySem
section
variable {prog:Program}{w:World}{A:Around}{E:T2}{h:Heap}{g:Array GenState}{d:Drawn}{t:Nat}{os:OsState}
variable {nm:Str}{C P a:Addr}{o:Obj}{mN mP:Str->Ta}
def Nj:typeLookup (.type "ValueError") "__class__" = pure (some (.builtin "object.__class__")):=by rw[vm,ak];kernel_rfl
def Nk(X:XC h nm C P mN mP)(e:h.get? a=some o)(f:o.cls=.ref C)(v:R (.ok (.ret (.ref C))) ⟨h,g,d,t,os⟩) :
  codeAny (model prog w) A (.call (.builtin "getset_descriptor.__get__") ⟨[.builtin "object.__class__",.ref a,.ref C],[]⟩) R ⟨h,g,d,t,os⟩:=by
 have⟨⟨q,N,bs,m,i,n,j,dd,p,r,k2,s,u,l,hn⟩,_⟩:=X;have b:(⟨h,g,d,t,os⟩:Shared).TypeIs (.builtin "object.__class__") "getset_descriptor":=jo;have c:(ref C::(ref P::dM)).contains (.type (".".intercalate ("object.__class__".cutAt '.').dropLast))=true:=by rw[F.owner_object_class,ng,ng];simp
 refine rh F.slot_gs_get.plain F.entry_gs_get (F.slot_gs_get.check _ _ _ _ _ _ _ _ b (F.args_gs_get _ _ _) ?_)
 repeat (any_goals (first|assumption|(with_reducible refine ce e ?_;rw[f])|(with_reducible refine ni l ?_;rw[c])|wp_step))
 refine⟨zm _ 'd',vg F.entry_object_class ?_⟩
 repeat (any_goals (first|assumption|(with_reducible refine ce e ?_;rw[f])|wp_step))
def Nl(X:XC h nm C P mN mP)(c:mN "__class__" = none)(b:mP "__class__" = none)(e:h.get? a=some o)(f:o.cls=.ref C)(n:Q (.done (.ret (.ref C))) ⟨h,g,d,t,os⟩) :
  wpAny (model prog w) A (Builtin.«object.__getattribute__» ⟨[.ref a,.str "__class__" tk],[]⟩) Q E ⟨h,g,d,t,os⟩:=by
 have i:(⟨h,g,d,t,os⟩:Shared).TypeIs (.builtin "object.__class__") "getset_descriptor":=jo;have j:=jo;have l:=F.slot_gs_get.lookup;have m:=F.slot_gs_set.lookup
 repeat (any_goals (first|assumption|(with_reducible refine ce e ?_;rw[f])|(with_reducible refine lO X b Nj ?_;rw[c])|wp_step))
 erw[Nk X e f ?_]
 repeat (any_goals (first|assumption|wp_step))
def Nm(X:XC h nm C P mN mP)(p:mN "__getattribute__" = none)(c:mP "__getattribute__" = none)(q:mN "__getattr__" = none)(f:mP "__getattr__" = none)(j:mN "__class__" = none)(l:mP "__class__" = none)(b:h.get? a=some o)(m:o.cls=.ref C)(s:Q (some (.ref C)) ⟨h,g,d,t+1,os⟩) :
  wpAny (model prog w) A (getAttr? (.ref a) "__class__") Q E ⟨h,g,d,t,os⟩:=by
 have e:=F.excAttr_ValueError;have r:=e.ga.bind (.ref a);have i:(Value.builtin "BaseException.__getattribute__" == Value.builtin "object.__getattribute__")=false:=by decide
 have n:(onTheHeap (ref C) && Value.builtin "BaseException.__getattribute__" == Value.builtin "object.__getattribute__")=false:=by rw[i];rfl
 delta getAttr? getAttrBy?
 repeat (any_goals (first|assumption|(with_reducible refine ce b ?_;rw[m])|(with_reducible refine lO X c e.ga.lookup ?_;rw[p])|(with_reducible refine lO X f CN ?_;rw[q])|wp_step))
 refine rh e.ga.plain F.entry_bexc_ga (CO X b m (Nl X j l b m ?_))
 repeat (any_goals (first|assumption|wp_step))
end
end L2
namespace L2
open PySem PySem.Spec PyProof.Rows
section
variable {K:Fg1}
def DH(c:c1 K nm C P fI):KitX K (.ref e) (.ref C) (di e C dx) where
 ty:=λM h X p=>by
  have⟨vs,sl,h1⟩:=p;exact(Looks.ld h1).andThen .now
 it:=λM h X p=>by
  have⟨q,N,bs,sn,sub,ab,col,dd,k0,k1,k2,k3,k5,h1,h2⟩:=c.cl;intro A' Q' E' s' k q;delta isType loadHead;rwa[aa (wpAny_loadPart (k _ _ (X _ _ h1)) (ja q))]
 ne:=λh tp dd its n sl X htp=>by
  have⟨q,N,bs,sn,sub,ab,col,dd,k0,k1,k2,k3,k5,h1,h2⟩:=c.cl;erw[bf.mpr λq=>?_]
  have e:C=tp:=ref.inj (cn.mp q);subst e;rw[X _ _ h1]at htp
  have:=qe (λo=>o.map (·.data)) htp
  simp at this
 ca:=λ{prog w A E Q s} X p k=>by
  have⟨mN,mP,xc,hx,_,_⟩:=c.at_ s.heap X;have⟨vs,sl,h1⟩:=p;have g1:=hx "__getattribute__" (by simp[jK]);have g2:=hx "__getattr__" (by simp[jK]);have g3:=hx "__class__" (by simp[jK]);have⟨hh,g,d,t,os⟩:=s;rwa[Nm xc g1.1 g1.2 g2.1 g2.2 g3.1 g3.2 h1 rfl k]
theorem c1.clsIn(c:c1 K nm C P fI):∃cd,PySem.W.clsIn K C=some cd/\cd.name=nm/\cd.mro=.ref C::.ref P::dM:=by
 have⟨q,N,bs,e,a,f,b,dd,g,h,k2,i,j,d,l⟩:=c.cl;exact⟨_,by delta PySem.W.clsIn;rw[d],rfl,rfl⟩
def c1.parIn(c:c1 K nm C P fI):∃cd,PySem.W.clsIn K P=some cd/\cd.mro=.ref P::dM:=by
 have⟨b,d,e,f,g,h,i,j,l,m,n,o,p,q,r,a,s⟩:=c.pa;exact⟨_,by delta PySem.W.clsIn;rw[a],rfl⟩
def c1.typ(c:c1 K nm C P fI):typeIn K (.ref C)=some (.type "type"):=by
 have⟨q,N,bs,e,a,f,b,dd,g,h,k2,i,j,d,l⟩:=c.cl;show (K.lookup C).map (·.cls)=_;rw[d];rfl
def DI(c:c1 K nm C P fI)(v:Value):subIn K (.ref C) v=some ((ref C::.ref P::dM).contains v):=by
 have⟨a,b,_,d⟩:=c.clsIn;show ((PySem.W.clsIn K C).bind λa=>if a.mro.isEmpty=true then none else some (a.mro.contains v))=_;rw[b];show (if a.mro.isEmpty then none else some (a.mro.contains v))=_;rw[d];rfl
def DJ(h:ee K nm C)(h':ee K nm' C'):kitOne K (.ref C) (.ref C')=some (decide (nm=nm')):=by
 have⟨P,s,c,o,p⟩:=h;have⟨u,q,e,m,n⟩:=h';rw[o]at m;cases m;delta kitOne;by_cases l:nm=nm'
 ·subst l
  rw[p]at n;cases n;rw[la (jr _),db rfl]
 ·have d:C≠C':=λz=>by
   subst z;have⟨r,g,i,_⟩:=c.clsIn;have⟨b,a,f,_⟩:=e.clsIn;rw[g]at a;cases a;rwa[l (i.symm.trans f)]
  have j:C'≠P:=λz=>by
   subst z;have⟨r,g,i⟩:=c.parIn;have⟨b,a,_,f⟩:=e.clsIn;rw[g]at a;cases a;rw[i]at f
   have:=qe length f
   simp at this
  rw[wa (by simp[d]),ac l];delta kitCls;have⟨b,a,_⟩:=e.clsIn;dsimp only;rw[la (by rw[a,e.typ];rfl),DI c]
  have:(ref C::.ref P::dM).contains (.ref C')=false:=by simp[d.symm,j]
  rw[this]
def Nn(h:ee K nm C):kitOne K (.ref C) (.type "ValueError")=some true:=by
 have⟨P,a,c,b,d⟩:=h;delta kitOne;rw[wa 'm'];delta kitCls;dsimp only;rw[la 'd',DI c];simp
def DK(h:ee K nm C):kitOne K (.type "NoneType") (.ref C)=some false:=by
 have⟨P,d,c,e,f⟩:=h;delta kitOne;rw[wa 'm'];delta kitCls;have⟨a,b,_⟩:=c.clsIn;dsimp only;rw[la (by rw[b,c.typ];rfl)];delta subIn
 have:PySem.fastBuiltinMro "NoneType" = some [.type "NoneType",.type "object"]:=by decide
 dsimp only;rw[this];simp
end
def mJ(K:Fg1)(np:Nat)(G:T4->T5):Sp:=λvs H _ E=>∃Hf ds n ks es,aQ Hf H/\aY K Hf ds vs/\ds.length=np/\G ds=some (.er n ks es)/\∀Hf' H' e dx,Ex Hf H Hf' H'->Dn K Hf' (.er n ks es) (.ref e)->E (.ref e) (some dx) H'
def xV(K:Fg1)(B:Bs)(W:XK)(g:av->T5):TS:=λ_ σ H=>∃Hf ρ n ks es,VI K B Hf ρ σ H/\g ρ=some (.er n ks es)/\∀Hf' H' e dx,Ex B.f B.h Hf' H'->Dn K Hf' (.er n ks es) (.ref e)->W (.ref e) (some dx) H'
def eX(K:Fg1)(B:Bs)(W:XK)(g:av->T5):TE:=λσ H _=>∃Hf ρ n ks es,VI K B Hf ρ σ H/\g ρ=some (.er n ks es)/\∀Hf' H' e dx,Ex B.f B.h Hf' H'->Dn K Hf' (.er n ks es) (.ref e)->W (.ref e) (some dx) H'
def gO:av->T5:=λ_=>none
noncomputable def rR(n:Str)(fl:T8)(fr:av->T0):av->T5:=λρ=>(fr ρ).bind λds=>if ds.length=fl.length then some (.er n fl ds) else none
noncomputable def fR(f:av->aR)(gs gr:av->T5):av->T5:=λρ=>match gs ρ with
 |some d=>some d
 |none=>match f ρ with|.nx ρ'=>gr ρ'|_=>none
def j7(ft:av->Te)(g1 g2:av->T5):av->T5:=λρ=>match ft ρ with|some true=>g1 ρ|some false=>g2 ρ|none=>none
def mK(np:Nat)(G:T4->T5)(fr:av->T0):av->T5:=λρ=>(fr ρ).bind λds=>if ds.length=np then G ds else none
def oB(np n:Nat)(g:av->T5)(ds:T4):T5:=if ds.length=np then g (dW n ds) else none
section
variable {X:Cx}{st:Stmt}{a:Expr}{pos:Pos}{fl:T8}
def u3{e:Addr}(h:dx≠e):aI (aI H dx u) e v=aI (aI H e v) dx u:=by
 funext b
 by_cases a:b=e
 ·subst a;rw[aZ,aK (vf h),aZ]
 ·by_cases c:b=dx
  ·subst c;rw[aK a,aZ,aZ]
  ·rw[aK a,aK c,aK c,aK a]
def PS.or(h:PS X st t)(h':PS X st t'):PS X st (λD σ H=>t D σ H\/t' D σ H):=λa s σ H D I q=>q.elim (h a s σ H D I) (h' a s σ H D I)
def lT:PS X st (xV X.K B W gO):=λ_ _ _ _ _ _ ⟨_,_,_,_,_,_,h,_⟩=>nomatch h
def pZ:bR X sts (xV X.K B W gO):=λ_ _ _ _ _ _ ⟨_,_,_,_,_,_,h,_⟩=>nomatch h
def u4(M:X.k=true)(c:c1 X.K nm C P (some fI))(N:nsIn X.K mainGlobals "PageError" = some (some (.ref P)))(j:nsIn X.K mainGlobals nm=some (some (.ref C)))(l:∃o,X.K.lookup fI=some o/\o.cls=.type "function")(m:keepIn X.K (.ref C)=true)(F:aG X.p X.w X.K X.mg X.base bC k fI fd ps (nU X.K nm fl))(O:aL (k+1) X.A)(h:Gl X x)(hm:X.mg x=some (.ref C))(Q:dq X.K fd ps [])(r:uK X W)(R:fl.length<=10)(ha:PA X (a::as) (aV X.K B fr))(s:(x == 'g')=false:=by decide)(he:W1 X (a::as) a as:=by rfl)(u:W2 X cp as:=by rfl):PS X (.Raise (some (.Call (.Name x p) (a::as) [] cp)) none pos) (xV X.K B W (rR nm fl fr)) :=
 (C0 M c N j l m F O h hm Q r ha s he u).imp λD T H t=>by
  have⟨Hf,ρ,n,ks,es,I,h,q⟩:=t;have⟨ds,G,hz⟩:=bind_some h
  split at hz
  ·rename_i hl
   cases hz;erw[⟨Hf,ρ,es,I,G,λy U vs d f=>?_⟩]
   have i:vs.length=fl.length:=by rw[<-f.length];rwa[hl]
   erw[⟨'o',λe C P fI v he E c=>⟨e,vs,C,P,fI,v,rfl,i,c,aZ,λdx g b=>⟨rfl,dx,v,_,b,by rw[aK (vf b),aZ],aZ,?_⟩⟩⟩];rw[aK b]at g;rw[py,u3 b,py];have e1:=Ex.new (o:=.ext (di e C dx)) d.fh he;have e2:=Ex.new (o:=.ext (eS dx (fl.zip vs))) e1.fh (by rw[aK b];rwa[g]);have⟨k,dk⟩:=f.level;have J:(fl.zip vs).map fst=fl:=List.map_fst_zip 'o';have L:(fl.zip vs).map snd=vs:=List.map_snd_zip 'o';rwa[q _ _ e dx (I.ex.trans (d.trans (e1.trans e2))) ⟨k+1,e,C,dx,fl.zip vs,rfl,by rw[aK b.symm,aZ],E,b,aZ,J,by rw[L];rwa[dk.zmap λ_ _ z=>C2 (e1.trans e2).ff z]⟩]
  ·cases hz
def js(i:PS X st (sV X.K B f))(c:PS X st (xV X.K B W gs))(j:bR X rest (xV X.K B W gr)):bR X (st::rest) (xV X.K B W (fR f gs gr)):=(iD (i.or c) j).imp λD l H k=>by
 have⟨Hf,ρ,n,ks,es,I,a,q⟩:=k;unfold fR at a
 cases e:gs ρ with
 |some d=>rw[e]at a;cases a;rwa[.inr ⟨Hf,ρ,n,ks,es,I,e,q⟩]
 |none =>
  rw[e]at a;dsimp only at a
  cases e2:f ρ with
  |nx ρ' =>
   rw[e2]at a;rwa[.inl ⟨Hf,ρ,I,by rw[e2];rwa[λb g H' z h=>⟨b,ρ',n,ks,es,h,a,q⟩]⟩]
  |_=>rw[e2]at a;cases a
def mL(a:PS X st (xV X.K B W gs)):bR X (st::rest) (xV X.K B W gs):=(iD a (pZ (B:=B) (W:=W))).imp λD b H h=>h
def rS{as:Yd}(g:PT X c (tV X.K B ft))(ha:bR X as (xV X.K B W g1))(h:bR X bs (xV X.K B W g2)):PS X (.If c as bs pos) (xV X.K B W (j7 ft g1 g2)):=(wR g ha h).imp λD i H z=>by
 have⟨Hf,ρ,n,ks,es,I,a,q⟩:=z;unfold j7 at a
 cases e:ft ρ with
 |none=>rw[e]at a;cases a
 |some b =>
  rw[e]at a;erw[⟨Hf,ρ,b,I,e,λd j f=>?_⟩]
  cases b with
  |true=>rw[la rfl];exact⟨d,ρ,n,ks,es,I.ext f,a,q⟩
  |false=>rw[wa ua];exact⟨d,ρ,n,ks,es,I.ext f,a,q⟩
def DL{f:Addr}(F:aG X.p X.w X.K X.mg X.base (cW X.p X.w) k f fd ps (mJ X.K h G))(s:aL k X.A)(u:Gl X x)(hm:X.mg x=some (.ref f))(v:keepIn X.K (.ref f)=true)(y:dq X.K fd ps [])(z:pC (cW X.p X.w) X W)(ha:PA X (a::as) (aV X.K B fr))(i:(x == 'g')=false:=by decide)(he:W1 X (a::as) a as:=by rfl)(j:W2 X pos as:=by rfl):PE X (.Call (.Name x p) (a::as) [] pos) (eX X.K B W (mK h G fr)) :=
 (w4 F s u hm v y .nil z ha i he j).imp λC H Q t=>by
  have⟨Hf,ρ,n,ks,es,I,hz,q⟩:=t;have⟨ds,r,hz⟩:=bind_some hz
  split at hz
  ·rename_i hn
   erw[⟨Hf,ρ,ds,I,r,λc l vs b d=>?_⟩];show mJ X.K h G (vs++[]) l Q W;rw[jd];exact⟨c,ds,n,ks,es,b.fh,d,hn,hz,λg H' e dx m o=>q g H' e dx (I.ex.trans (b.trans m)) o⟩
  ·cases hz
def No(he:PE X e (eX X.K B W g))(hs:W0 X e none pos:=by rfl):PS X (.Expr e pos) (xV X.K B W g):=(pA he hs).imp λD a H h=>h
def Np(he:PE X e (eX X.K B W g)):PS X (.Return (some e) pos) (xV X.K B W g):=(tZ he).imp λD a H h=>h
end
section
variable {K:Fg1}
def yM{st:Stmt}{N ps:T8}(F:ec K x b st f l)(S:az N ps (bw st))(d:∀(c:Value) (A:Around) (a:Tl) (s:Shared) (H:Hp) (E:XK) (B:Bs),aL k (A.deeper (envOfC b (bw st) s.heap.objs.size f c))->bR ((c0 (cW P w) P w K mg base N b (bw st) f c A a s H E).wish (pY (c0 (cW P w) P w K mg base N b (bw st) f c A a s H E) E)) (fM st) (xV K B E gs)):aG P w K mg base (cW P w) (k+1) f l ps (mJ K ps.length (oB ps.length N.length gs)):=by
 erw[F.okX S (λvs H Q E z=>by have⟨Hf,ds,n,ks,es,_,g,h,_⟩:=z;rw[<-h,g.length]) λc A a s H vs Q E m z=>?_];have⟨Hf,ds,n,ks,es,hs,g,h,i,q⟩:=z
 erw[⟨_,d c A a s H E ⟨Hf,H⟩ m,Hf,dW N.length ds,n,ks,es,VI.init hs g,?_,λj H' e dx o p=>q j H' e dx o p⟩];unfold oB at i;rw[la h]at i;rwa[i]
end
def yN(ρ:av)(j:Nat):Bool:=match ρ[j]? with|some none=>true|_=>false
def Nq(h:yN ρ j=true):ρ[j]?=some none:=by
 unfold yN at h
 split at h
 ·assumption
 ·cases h
noncomputable def rT(i j np:Nat)(F G:T4->T5)(fr:av->T0):av->aR:=λρ=>match fr ρ with
 | some ds=>if ds.length=np/\yN ρ j=true/\i≠j then (match F ds with
  |some _=>.nx ρ
  |none=>match G ds with|some (.er n ks es)=>.nx (ρ.set i (some (.sh (.er n ks es))))|_=>.bad) else .bad
 |none=>.bad
def VI.gone{K:Fg1}{ρ:av}{g:St}(I:VI K B Hf ρ g H)(E:ρ[j]?=some none)(n:i≠j)(h:Dn K Hf d v):VI K B Hf (ρ.set i (some (.sh d))) (((g.set j (some v)).set i (some v)).set j none) H:=by
 have c:=I.set (i:=i) h
 have a:∀{l:Nat} {sl:Sl},(ρ.set i (some (.sh d)))[l]?=some (some sl)->l≠j:=λ{l sl} e z=>by
  subst z;rw[za n,E]at e;cases e
 have f:∀{l:Nat},l≠j->(((g.set j (some v)).set i (some v)).set j none)[l]?=(g.set i (some v))[l]?:=λ{l} hl=>by
  rw[za (vf hl)];by_cases b:i=l
  ·subst b
   simp[List.getElem?_set]
  ·rw[za b,za b,za (vf hl)]
 erw[⟨c.ex,by simpa using c.len,λl sl e=>?_,λl sl p e o q=>?_,λl m sl w p e1 e2 x y r s=>?_⟩]
 ·have⟨u,A,C⟩:=c.ok l sl e
  exact⟨u,by rw[f (a e)];exact A,C⟩
 ·rw[f (a e)]at q;rwa[c.own l sl p e o q]
 ·rw[f (a e1)]at r
  rw[f (a e2)]at s;rwa[c.dis l m sl w p e1 e2 x y r s]
def Nr{K:Fg1}(s:aQ Hf H)(h:Dn K Hf (.er n ks es) (.ref e)):∃C dx,H e=some (.ext (di e C dx))/\ee K n C:=by
 have⟨k,h⟩:=h
 cases k with
 |zero=>rwa[h.elim]
 |succ k =>
  have⟨c,C,dx,fs,e1,a,b,_⟩:=h;cases e1;exact⟨C,dx,s _ _ a,b⟩
section
variable {X:Cx}
variable {pos:Pos}{a:Expr}
def Nt{D:eP}{l:St}{H:Hp}{g:V->St->St}{gρ:L2.D->av->av}{Hf:Hp}{ρ:av}{ds:List L2.D}(I:VI X.K B Hf ρ l H)(e:fr ρ=some ds)(hn:ds.length=np)(w:ρ[j]?=some none)(o:i≠j)(x:∀Hf' H' d v,VI X.K B Hf' ρ l H'->Dn X.K Hf' d v->VI X.K B Hf' (gρ d ρ) (g v l) H')
  (q:(∃d,F ds=some d/\gM X.K B Hf (.nx (gρ d ρ)) D)\/(F ds=none/\∃n ks es,G ds=some (.er n ks es)/\gM X.K B Hf (.nx (ρ.set i (some (.sh (.er n ks es))))) D)):yK X.K (bQ X.K np F) (mJ X.K np G) i j g (aV X.K B fr) D l H:=by
 erw[⟨Hf,ρ,ds,I,e,λc y vs a f=>?_⟩];rcases q with⟨d,s,q⟩|⟨_,n,ks,es,u,q⟩
 ·rwa[.inl ⟨c,ds,d,a.fh,f,hn,s,λHf' H' v b h=>q Hf' _ H' (a.ff.trans b.ff) (x Hf' H' d v ((I.ext a).ext b) h)⟩]
 ·refine .inr ⟨c,ds,n,ks,es,a.fh,f,hn,u,λHf' H' e dx b h=>?_⟩
  have⟨C,m,p,r⟩:=Nr b.fh h;exact⟨e,n,C,m,rfl,p,r,q Hf' _ H' (a.ff.trans b.ff) (((I.ext a).ext b).gone w o h)⟩
def Nu(v:aG X.p X.w X.K X.mg X.base bC k f fd ps (bQ X.K np F))(x:aG X.p X.w X.K X.mg X.base (cW X.p X.w) k f fd ps (mJ X.K np G))(y:aL k X.A)(C:Gl X fx)(hm:X.mg fx=some (.ref f))(E:keepIn X.K (.ref f)=true)(J:dq X.K fd ps [])(c:Gl X "PageError")(g:X.t=X.u::X.outer/\X.u.frame=some X.u.locals)(L:X.N.Nodup)(M:X.N[i]?=some told)(O:X.N[j]?=some n)(hl:X.u.scope.names.lookup told=some .local)(h:X.u.scope.names.lookup n=some .local)(ha:∀Ec,PA (X.wish Ec) (a::as) (aV X.K B fr))(l:(fx == 'g')=false:=by decide)(he:W1 X (a::as) a as:=by rfl)(m:W2 X cp as:=by rfl)(P:(n == 'g')=false:=by decide)(o:(n == 'c')=false:=by decide)(r:W0 X (.Name n pn) (some (.Name told pt)) pa:=by rfl)(s:W0 X (.Call (.Name fx p) (a::as) [] cp) none ep:=by rfl) :
  PS X (.Try [.Expr (.Call (.Name fx p) (a::as) [] cp) ep] [.ExceptHandler (some (.Name "PageError" np')) (some n) [.Assign [.Name told pt] (.Name n pn) pa] hp] [] [] pos) (sV X.K B (rT i j np F G fr)) :=
 (Nc v x y C hm E J c g L M O hl h ha l he m P o r s).imp λD Q H ⟨Hf,ρ,I,q⟩=>by
  unfold rT at q
  cases e:fr ρ with
  |none=>rw[e]at q;rwa[q.elim]
  |some ds =>
   rw[e]at q;dsimp only at q
   split at q
   ·rename_i b
    erw[Nt (gρ:=λ_ ρ=>ρ) I e b.1 (Nq b.2.1) b.2.2 (λ_ _ _ _ z _=>z) ?_]
    cases e2:F ds with
    |some d=>rw[e2]at q;rwa[.inl ⟨d,rfl,q⟩]
    |none =>
     rw[e2]at q;erw[.inr ⟨rfl,?_⟩];dsimp only at q
     split at q
     ·rename_i n ks es u;exact⟨n,ks,es,u,q⟩
     ·rwa[q.elim]
   ·rwa[q.elim]
end
def rV(f:Str)(d:D):T5:=match d with
 |.er _ ks ds=>(ks.zip ds).lookup f
 |_=>none
noncomputable def u5(n:Str)(d:D):T5:=match d with
 |.er m _ _=>some (.bl (decide (m=n)))
 |.sc .non=>some (.bl false)
 |_=>none
noncomputable def u7(d:D):T5:=match d with
 |.er _ _ _=>some (.bl true)
 |.sc .non=>some (.bl false)
 |_=>none
noncomputable def u8(l:T8)(d:D):T5:=match d with
 |.er m _ _=>some (.bl (l.any λn=>decide (m=n)))
 |.sc .non=>some (.bl false)
 |_=>none
theorem DM{K:Fg1}:∀{ks:T8}{ds:T4}{fs:List (Str×V)},fs.map fst=ks->Paired (hT K H k) ds (fs.map snd)->(ks.zip ds).lookup f=some d->∃v,fs.lookup f=some v/\hT K H k d v
 |[],ds,fs,c,g,b=>by simp at b
 |kk::ks,ds,[],c,g,b=>by cases c
 |kk::ks,ds,(a,v)::fs,c,g,b=>by
  rw[oa]at c g
  cases g with
  |cons h i =>
   rename_i j r;have⟨e1,e2⟩:=ef c;have e1:a=kk:=e1;subst e1;rw[ph,bg]at b;rw[bg]
   cases e:(f == a) with
   |true=>rw[e]at b;cases b;exact⟨v,rfl,h⟩
   |false=>rw[e]at b;rwa[DM e2 i b]
section
variable {X:Cx}{a e:Expr}{fa:av->T5}{pos:Pos}
def DN(M:f∈hG)(he:PE X e (eV X.K B fa))(N:attributeBase e f X.u (eval e X.u)=eval e X.u:=by rfl):PE X (.Attribute e f pos) (eV X.K B (e1 (rV f) fa)):=by
 intro h s p H Q I t;have⟨Hf,ρ,z,r,hz,q⟩:=t;have⟨d,x,hz⟩:=bind_some hz;unfold rV at hz
 split at hz
 ·rename_i n ks ds
  erw[JA N (aU (he h s p H (λv b=>∃a,Ex Hf H a b/\Dn X.K a (.er n ks ds) v) I ⟨Hf,ρ,_,r,x,λa b v g i=>⟨a,g,i⟩⟩) λu O t=>?_)];have⟨v,b,j,l,a,g,k,i⟩:=t
  cases k with
  |zero=>rwa[i.elim]
  |succ k =>
   have⟨e',C,dx,fs,e1,y,⟨P,U,c,_⟩,A,E,F,G⟩:=i;subst e1;obtain rfl:u=ref e':=l;have⟨w,J,L⟩:=DM F G hz;rwa[Mg j c M (g.fh _ _ y) (g.fh _ _ E) A J λR T m o=>⟨w,b,m,o,q a b w g ⟨k,L⟩⟩]
 ·cases hz
def Nv(K:Fg1):T6->Hp->VK->Prop:=λxs H Q=>∃x c u b,xs=[x,c]/\bj c u/\((∃e C dx nm P fI,x=.ref e/\H e=some (.ext (di e C dx))/\c1 K nm C P fI/\kitOne K (.ref C) u=some b)\/(x=.non/\kitOne K (.type "NoneType") u=some b))/\(c=.ty "ValueError" \/ ∃a,c=.ref a)/\Q (.bl b) H
def DO:dI X (.builtin "isinstance") (Nv X.K):=by
 intro f s y H vs A Q I m h;have⟨x,c,n,b,rfl,g,ty,o,q⟩:=h;have⟨u,p,rfl,i,j⟩:=nG m
 have w:p=n:=by
  rcases o with rfl|⟨a,rfl⟩
  ·cases g;cases j;rfl
  ·cases g;cases j;rfl
 subst w;rcases ty with⟨e,C,dx,nm,P,B,rfl,r,v,d⟩|⟨rfl,d⟩
 ·cases i
  rwa[kia_one (DH v) I.kIn (I.hok.ext r) d (λz=>nomatch z) λl=>⟨.bl b,H,I.tok _,rfl,q⟩]
 ·cases i
  rwa[kia_one kitx_none I.kIn qh d (λz=>nomatch z) λl=>⟨.bl b,H,I.tok _,rfl,q⟩]
def lV(c:Gl X x)(hm:X.mg x=some (.ref C))(a:(x == 'g')=false:=by decide):PE X (.Name x p) (λ_ H Q=>Q (.ref C) H):=λb s d H Q I h=>nC I c hm ⟨.ref C,H,I,rfl,h⟩ a
def Nw(w:ee X.K n C)(F:Gl X "isinstance")(hm:X.mg "isinstance" = none)(i:Gl X n)(j:X.mg n=some (.ref C))(ha:PE X a (eV X.K B fa))(l:(n == 'g')=false:=by decide)(f:W1 X [a,.Name n p'] a [.Name n p']:=by rfl)(o:starEach [.Name n p'] X.u=[(false,eval (.Name n p') X.u)]:=by rfl)(r:W2 X pos [.Name n p']:=by rfl):PE X (.Call (.Name "isinstance" p) [a,.Name n p'] [] pos) (eV X.K B (e1 (u5 n) fa)) :=
 (nI DO F hm uH (dL ha (dL (lV i j l) gG o) f) 'd' 'd' f r).imp λG H Q ⟨Hf,ρ,z,I,hz,q⟩=>by
  have⟨d,s,hz⟩:=bind_some hz;unfold u5 at hz
  split at hz
  ·rename_i m ks ds
   cases hz;erw[⟨Hf,ρ,_,I,s,λe h v b ⟨k,g⟩=>?_⟩]
   cases k with
   |zero=>rwa[g.elim]
   |succ k =>
    have⟨x,y,dx,fs,rfl,A,u,_⟩:=g;have⟨P,E,c,_⟩:=id u;exact⟨_,.ref C,.ref C,_,rfl,rfl,.inl ⟨x,y,dx,m,P,E,rfl,b.fh _ _ A,c,DJ u w⟩,.inr ⟨C,rfl⟩,q e h _ b (cE rfl)⟩
  ·cases hz
   erw[⟨Hf,ρ,_,I,s,λe h v b g=>?_⟩];rw[g.sc.2];exact⟨_,.ref C,.ref C,_,rfl,rfl,.inr ⟨rfl,DK w⟩,.inr ⟨C,rfl⟩,q e h _ b (cE rfl)⟩
  ·cases hz
def Nx{C:Addr}(w:Gl X "isinstance")(hm:X.mg "isinstance" = none)(x:PE X (.Name "ValueError" p') (tC (.ty "ValueError")))(ha:PE X a (eV X.K B fa))(f:W1 X [a,.Name "ValueError" p'] a [.Name "ValueError" p']:=by rfl)(i:starEach [.Name "ValueError" p'] X.u=[(false,eval (.Name "ValueError" p') X.u)]:=by rfl)(j:W2 X pos [.Name "ValueError" p']:=by rfl):PE X (.Call (.Name "isinstance" p) [a,.Name "ValueError" p'] [] pos) (eV X.K B (e1 u7 fa)) :=
 (nI DO w hm uH (dL ha (dL x gG i) f) 'd' 'd' f j).imp λy H Q ⟨Hf,ρ,z,I,hz,q⟩=>by
  have⟨d,l,hz⟩:=bind_some hz;unfold u7 at hz
  split at hz
  ·rename_i m ks ds
   cases hz;erw[⟨Hf,ρ,_,I,l,λe h v b ⟨k,g⟩=>?_⟩]
   cases k with
   |zero=>rwa[g.elim]
   |succ k =>
    have⟨o,r,dx,fs,rfl,s,n,_⟩:=g;have⟨P,u,c,_⟩:=id n;exact⟨_,.ty "ValueError",.type "ValueError",_,rfl,rfl,.inl ⟨o,r,dx,m,P,u,rfl,b.fh _ _ s,c,Nn n⟩,.inl rfl,q e h _ b (cE rfl)⟩
  ·cases hz
   erw[⟨Hf,ρ,_,I,l,λe h v b g=>?_⟩];rw[g.sc.2];exact⟨_,.ty "ValueError",.type "ValueError",_,rfl,rfl,.inr ⟨rfl,'r'⟩,.inl rfl,q e h _ b (cE rfl)⟩
  ·cases hz
end
def p0(K:Fg1)(l:List (Str×Addr)):Prop:=∀q∈l,ee K q.1 q.2
theorem DP{K:Fg1}(h:ee K nm C):∀{l:List (Str×Addr)},p0 K l->kitAny K (.ref C) (l.map λq=>ref q.2)=some (l.any λq=>decide (nm=q.1))
 |[],_=>rfl
 |q::r,hl=>by
  have a:=DJ h (hl q da);have b:=DP h (l:=r) λz hz=>hl z (ia _ hz)
  rw[oa,kitAny,a,yh]
  cases e:decide (nm=q.1) with
  |true=>rfl
  |false=>rw[Bool.false_or];rwa[b]
theorem DQ{K:Fg1}:∀{l:List (Str×Addr)},p0 K l->kitAny K (.type "NoneType") (l.map λq=>ref q.2)=some false
 |[],_=>rfl
 |q::r,hl=>by
  have a:=DK (hl q da);have b:=DQ (l:=r) λz hz=>hl z (ia _ hz)
  rw[oa,kitAny,a];rwa[b]
theorem DR:∀{l:Tj}{b:T9},bD (l.map V.ref) b->b=l.map ref
 |[],_,.nil=>rfl
 |a::r,_,.cons h t=>by cases h;rw[DR t];rfl
section
variable {X:Cx}{a:Expr}{fa:av->T5}{pos:Pos}
def Ny(K:Fg1):T6->Hp->VK->Prop:=λxs H Q=>∃(x:V) (t:Addr) (l:List (Str×Addr)) (b:Bool),xs=[x,.ref t]/\H t=some (.tup ((l.map snd).map V.ref))/\((∃e C dx nm P fI,x=.ref e/\H e=some (.ext (di e C dx))/\c1 K nm C P fI/\kitAny K (.ref C) ((l.map snd).map ref)=some b)\/(x=.non/\kitAny K (.type "NoneType") ((l.map snd).map ref)=some b))/\Q (.bl b) H
def Nz:dI X (.builtin "isinstance") (Ny X.K):=by
 intro f s A H vs B Q I a h;have⟨x,t,l,b,rfl,o,ty,q⟩:=h;have⟨u,E,rfl,g,p⟩:=nG a;cases p;have⟨_,its,a,⟨F,G,r,v⟩,c,i,n,j⟩:=I.hok t _ o;simp only at i j;subst i j;rw[DR a]at c;rcases ty with⟨e,C,dx,nm,P,J,rfl,w,y,d⟩|⟨rfl,d⟩
 ·cases g
  rwa[kia_tup (DH y) I.kIn (I.hok.ext w) c d (λz=>nomatch z) λm=>⟨.bl b,H,I.tok _,rfl,q⟩]
 ·cases g
  rwa[kia_tup kitx_none I.kIn qh c d (λz=>nomatch z) λm=>⟨.bl b,H,I.tok _,rfl,q⟩]
def NA{x1}(y:p0 X.K l)(hl:l.length<=100)(L:Gl X "isinstance")(hm:X.mg "isinstance" = none)(hn:PA X b (λ_ H Q=>Q ((l.map snd).map V.ref) H))(ha:PE X a (eV X.K B fa))(g:W1 X [a,.Tuple b x1 tp] a [.Tuple b x1 tp]:=by rfl)(s:starEach [.Tuple b x1 tp] X.u=[(false,eval (.Tuple b x1 tp) X.u)]:=by rfl)(u:W2 X pos [.Tuple b x1 tp]:=by rfl):PE X (.Call (.Name "isinstance" p) [a,.Tuple b x1 tp] [] pos) (eV X.K B (e1 (u8 (l.map fst)) fa)) :=
 (nI Nz L hm uH (dL ha (dL (BZ hn) gG s) g) 'd' 'd' g u).imp λM H Q ⟨Hf,ρ,z,I,hz,q⟩=>by
  have hsz:((l.map snd).map V.ref).length<=sizeLine:=by rw[ba,ba];rwa[zc hl 'd']
  have⟨d,w,hz⟩:=bind_some hz;unfold u8 at hz
  split at hz
  ·rename_i m ks ds
   cases hz;erw[⟨Hf,ρ,_,I,w,λf A v e ⟨k,h⟩=>⟨hsz,λt i=>?_⟩⟩]
   have e2:=Ex.made (o:=.tup ((l.map snd).map V.ref)) e.fh i
   cases k with
   |zero=>rwa[h.elim]
   |succ k =>
    have⟨C,E,dx,fs,rfl,F,x,_⟩:=h;have⟨P,G,c,_⟩:=id x;have j:=DP x y;have r:(l.map snd).map ref=l.map λq=>ref q.2:=by rw[pc];rfl
    have J:((l.map fst).any λn=>decide (m=n))=l.any λq=>decide (m=q.1):=by rw[any_map];rfl
    erw[⟨_,t,l,_,rfl,aZ,.inl ⟨C,E,dx,m,P,G,rfl,e2.hh _ _ (e.fh _ _ F),c,by rw[r];rwa[j]⟩,?_⟩];rw[<-J];rwa[q f _ _ (e.trans e2) (cE rfl)]
  ·cases hz
   erw[⟨Hf,ρ,_,I,w,λf A v e h=>⟨hsz,λt i=>?_⟩⟩];have e2:=Ex.made (o:=.tup ((l.map snd).map V.ref)) e.fh i;rw[h.sc.2];have r:(l.map snd).map ref=l.map λq=>ref q.2:=by rw[pc];rfl
   exact⟨_,t,l,false,rfl,aZ,.inr ⟨rfl,by rw[r];rwa[DQ y]⟩,q f _ _ (e.trans e2) (cE rfl)⟩
  ·cases hz
end
noncomputable def u9(l:List DictEntry)(n:Str):Ta:=(l.find? λe=>e.key.isStr n).map (·.val)
def DS(es:Array DictEntry)(n:Str):nsFind es n=u9 es.toList n:=by unfold nsFind findBy u9;rw[<-Array.find?_toList]
def vl(K:Fg1)(N:Addr)(a:Ta):Bool:=match K.lookup N with
 |some ⟨_,_,.dict es _,_⟩=>es.toList.all (λe=>match e.key with|.str _ _=>true|_=>false) && (jK.all λn=>(u9 es.toList n).isNone) && (u9 es.toList "__init__" == a)
 |_=>false
def DT{K:Fg1}(h:vl K N ini=true):rD K N ini:=by
 unfold vl at h
 split at h
 ·rename_i c d es ep sl hl
  simp only[pb]at h;have⟨⟨b,f⟩,g⟩:=h;erw[⟨c,d,es,ep,sl,hl,λe he=>?_,λn hn=>?_,by rw[DS];rwa[cn.mp g]⟩]
  ·have a:=ud.mp b e (jm.mpr he)
   cases i:e.key <;> rw[i]at a <;> first|exact⟨_,_,rfl⟩|cases a
  ·rw[DS];rwa[Option.isNone_iff_eq_none.mp (ud.mp f n hn)]
 ·cases h
noncomputable def vq(o:Obj)(a:T9):Option ClassData:=match o.data with
 |.cls cd=>if (o.cls == .type "type")=true/\(cd.mro == a)=true/\cd.hasDel=false/\o.slots.size=6/\(o.slots[4]? == some (some (.builtin "ValueError.__new__")))=true then some cd else none
 |_=>none
def DU(h:vq o (.ref C::bm)=some cd):∃q bs j a m b dd d e k2 f g,o=excClassObj cd.name q C cd.ns bs bm cd.hasDict j a m b dd d e k2 f g "ValueError.__new__":=by
 unfold vq at h;have⟨r,s,u,⟨l⟩⟩:=o;dsimp only at h
 split at h
 ·split at h
  ·rename_i p
   cases h;have⟨v,w,x,y,z⟩:=p
   have⟨d,e,k2,f,g,rfl⟩:=six_places (l:=l) (by simpa using y) (by simpa using cn.mp z);obtain rfl:r=.type "type":=cn.mp v;have⟨nm,bs,i,N,q,n,j,a,m,b,c⟩:=cd;obtain rfl:i=.ref C::bm:=cn.mp w;obtain rfl:c=false:=x;exact⟨q,bs,j,a,m,b,s,d,e,k2,f,g,rfl⟩
  ·cases h
 ·cases h
def j8(K:Fg1)(nm:Str)(C P:Addr)(fI:Tk):Bool :=
 (match (K.lookup C).bind λo=>vq o (.ref C::.ref P::dM) with|some cd=>(cd.name == nm) && cd.hasDict && vl K cd.ns (fI.map ref)|none=>false) &&
 (match (K.lookup P).bind λo=>vq o (.ref P::dM) with|some cd=>vl K cd.ns none|none=>false)
def lW{K:Fg1}(h:j8 K nm C P fI=true):c1 K nm C P fI:=by
 unfold j8 at h;rw[pb]at h;have⟨d,f⟩:=h;erw[⟨?_,?_⟩]
 ·split at d
  ·rename_i c e
   have⟨o,g,e⟩:=bind_some e;simp only[pb]at d;have⟨⟨r,s⟩,u⟩:=d;have⟨q,bs,i,a,j,b,dd,l,m,k2,n,p,rfl⟩:=DU e;erw[⟨q,c.ns,bs,i,a,j,b,dd,l,m,k2,n,p,?_,DT u⟩];rw[g,s,cn.mp r]
  ·cases d
 ·split at f
  ·rename_i c e
   have⟨o,g,e⟩:=bind_some e;have⟨q,bs,i,a,j,b,dd,l,m,k2,n,p,rfl⟩:=DU e;exact⟨c.name,q,c.ns,bs,c.hasDict,i,a,j,b,dd,l,m,k2,n,p,g,DT f⟩
  ·cases f
def NB(h:f ρ=.nx ρ'):aP f g ρ=g ρ':=by delta aP;rw[h]
def st(h:f ρ=.nx ρ')(k:g ρ'=o):aP f g ρ=o:=(NB h).trans k
def vr(h:f ρ=.rt d):aP f g ρ=.rt d:=by delta aP;rw[h]
def jv(h:ft ρ=some true):bS ft f g ρ=f ρ:=by delta bS;rw[h]
def cY(h:ft ρ=some false):bS ft f g ρ=g ρ:=by delta bS;rw[h]
def bW(h:fe ρ=some d):bt i fe ρ=.nx (ρ.set i (some (.sh d))):=by delta bt;rw[h]
def NC(h:fe ρ=some d):fQ i fe ρ=.nx (ρ.set i (some (.ow d))):=by delta fQ;rw[h]
def eI(h:fe ρ=some d):bK fe ρ=.rt d:=by delta bK;rw[h]
def kP(h:fi ρ=some ds)(a:eH g f ds ρ=o):en fi g f ρ=o:=by delta en;rw[h];rwa[a]
def c4(hl:ds.length=np)(h:f (dW n ds)=.rt d):bU np n f ds=some d:=by delta bU;rw[la hl,h]
def DV(hl:ds.length=np)(h:f (dW n ds)=.rw d):iP np n f ds=some d:=by delta iP;rw[la hl,h]
def aJ(ha:fa ρ=some d)(a:fb ρ=some e)(b:g d e=some z):e2 g fa fb ρ=some z:=by delta e2;rw[ha,a];rwa[b]
def bZ(ha:fr ρ=some ds)(a:g ds=some z):eN g fr ρ=some z:=by delta eN;rw[ha];rwa[a]
def b6(ha:fr ρ=some ds)(hn:ds.length=np)(a:F ds=some z):a0 np F fr ρ=some z:=by delta a0;rw[ha];show (if ds.length=np then F ds else none)=_;rw[la hn];rwa[a]
def oC(ha:fr ρ=some ds)(a:g ds=some xs):iR g fr ρ=some xs:=by delta iR;rw[ha];rwa[a]
def p7(ha:fa ρ=some d)(a:jO d=some xs):iE fa ρ=some xs:=by delta iE;rw[ha];rwa[a]
def jw(ha:f ρ=some xs):eL f ρ=some (.lst xs):=by delta eL;rw[ha];rfl
def oE(a:fi ρ=some ds)(hl:ds.length<=sizeLine)(b:e8 g tt te (gL n cap ρ) ds=some rs):dV n cap fi g tt te ρ=some rs:=by delta dV;rw[a];show (if ds.length<=sizeLine then _ else _)=_;rw[la hl];rwa[b]
def rW(a:fo ρ=some d)(b:fr ρ=some ds)(c:fH d=T)(e:g d ds=some z):eM T g fo fr ρ=some z:=by delta eM;rw[a,b];show (if fH d=T then g d ds else none)=_;rw[la c];rwa[e]
def lX(h:fP d e=some b):cQ d e=some (.bl b):=by delta cQ;rw[h];rfl
def p8(h:fP d e=some b):d2 d e=some (.bl (!b)):=by delta d2;rw[h];rfl
def vt(h:iM d e=some b):em d e=some (.bl b):=by delta em;rw[h];rfl
def yO(h:iM d e=some b):d3 d e=some (.bl (!b)):=by delta d3;rw[h];rfl
def aO(a:fa ρ=some d)(b:fr ρ=some ds):aC fa fr ρ=some (d::ds):=by delta aC;rw[a,b];rfl
def DW(h:fa ρ=some true):cN fa fb ρ=some true:=by delta cN;rw[h];rfl
def mM(h:fa ρ=some false)(a:fb ρ=some b):cN fa fb ρ=some b:=by delta cN;rw[h];rwa[a]
def mO(h:fa ρ=some false):cH fa fb ρ=some false:=by delta cH;rw[h];rfl
def kQ(h:fa ρ=some true)(a:fb ρ=some b):cH fa fb ρ=some b:=by delta cH;rw[h];rwa[a]
def lY(h:fa ρ=some b):cO fa ρ=some (!b):=by delta cO;rw[h];rfl
def yP(h:fa ρ=some b):eT fa ρ=some (.bl b):=by delta eT;rw[h];rfl
def b8(h:fa ρ=some (.bl b)):tE fa ρ=some b:=by delta tE;rw[h];rfl
theorem yQ(a:α->D)(p:α->Bool)(k:α->D):∀(xs:List α),(∀x∈xs,∃ρ1,g (a x) ρ=some ρ1/\c ρ1=some (p x)/\(p x=true->te ρ1=some (k x)))->e8 g c te ρ (xs.map a)=some ((xs.filter p).map k)
 |[],_=>rfl
 |x::r,h=>by
  have⟨ρ1,e,f,i⟩:=h x 'm';have j:=yQ a p k r λy d=>h y (by simp[d])
  rw[oa,e8,e,lb,f,lb,j]
  cases b:p x with
  |true=>rw[la rfl,i b,xk b];rfl
  |false=>rw[wa ua,yk (by simp[b])]
def oF(a:α->D)(k:α->D)(xs:List α)(h:∀x∈xs,∃ρ1,g (a x) ρ=some ρ1/\b ρ1=some true/\te ρ1=some (k x)):e8 g b te ρ (xs.map a)=some (xs.map k):=by
 rw[yQ a (λ_=>true) k xs λx c=>let ⟨ρ1,d,e,f⟩:=h x c;⟨ρ1,d,e,λ_=>f⟩]
 congr 1
 congr 1
 rwa[List.filter_eq_self.mpr λ_ _=>rfl]
def ND(l:T7):jO (.sc (.str (S l)))=some (l.map λc=>.str [c]):=rfl
def h7(l m:T7)(h:l.length+m.length<=sizeLine):bG (.sc (.str (S l))) (.sc (.str (S m)))=some (.str (l++m)):=by
 delta bG;dsimp only;rw[la (by rw[kI,kI];rwa[h]),xW]
def yR(c:Nat)(l:T7):iM (.sc (.str (S [c]))) (.sc (.str (S l)))=some (decide (c∈l)):=by
 delta iM;dsimp only;rw[Lq]
def NE(c:Nat)(l:T7)(h:c∈l):rM (.sc (.str (S l))) [.sc (.str (S [c]))]=some (.int (dA c l)):=by
 have⟨r,e⟩:=Lr l c 1 (ib _) h;delta rM;dsimp only;rw[e];rfl
def yS(l:T7)(j:Nat)(h:l.length<=sizeLine):jN (.sc (.str (S l))) none (some (j:Int))=some (.str (l.take j)):=by
 delta jN;dsimp only;rw[la (by rw[kI];rwa[h]),LA]
def DX(l:T7)(i:Nat)(h:l.length<=sizeLine)(a:i<=l.length):jN (.sc (.str (S l))) (some (i:Int)) none=some (.str (l.drop i)):=by
 delta jN;dsimp only;rw[la (by rw[kI];rwa[h]),LB _ _ a]
theorem DY:∀(a:List T7),pQ (a.map D.str)=some (a.map S)
 |[]=>rfl
 |x::r=>by
  show (pQ (r.map D.str)).map (S x::·)=_;rw[DY r];rfl
def NF(a:T7)(b:List T7)(h:(b.map length).sum+b.length * a.length<=16777216):rN (.sc (.str (S a))) [.lst (b.map D.str)]=some (.str (nP a b)):=by
 delta rN;dsimp only;rw[DY,lb,la,LC];rw[pc];have e:(λx:Str=>x.length) ∘ S=length:=by funext l;rwa[kI l]
 show (b.map ((λx:Str=>x.length) ∘ S)).sum+_<=_;rw[e,ba,kI];rwa[h]
def NH(h:c z=true):uW c f (.sc (.str z)) []=some (.sc (f z)):=la h
def NI(h:∀c∈l,c<128)(hl:l.length<=sizeLine):uX (.sc (.str (S l))) []=some (.str (l.map lo1)):=by
 have e:=NH (c:=λ z=>!Builtin.Str.tooLong (Txt.lower z).length) (f:=λ z=>V.str (Txt.lower z)) (z:=S l) (by
  show (!Builtin.Str.tooLong (Txt.lower (S l)).length)=true;rw[CI h,kI,ba];delta Builtin.Str.tooLong;simp;rwa[hl])
 delta uX;rw[e];show some (D.sc (V.str (Txt.lower (S l))))=_;rw[CI h]
def kR(h:0<j/\j<1073741824):eG (.int i) (.int j)=some (.int (i / j)):=by
 delta eG hW;rwa[la (db h)]
def fJ(h:0<j):b7 (.int i) (.int j)=some (.int (i % j)):=by
 delta b7 hW;rwa[la (db h)]
def lZ(h:kM i j=true):d4 (.int i) (.int j)=some (.int (i * j)):=by
 delta d4 hW;rwa[la h]
def DZ(h:IntMulOk i j):kM i j=true:=by
 unfold IntMulOk at h;delta kM;rw[ah];rwa[bf.mpr h]
def vu(h:-(2 ^ 64)<i/\i<2 ^ 64):kM i j=true:=DZ (uw.ok (.inl h))
def rX(h:-(2 ^ 64)<j/\j<2 ^ 64):kM i j=true:=DZ (uw.ok (.inr h))
def iS:bG (.int i) (.int j)=some (.int (i+j)):=rfl
def D0:pO (.int i) (.int j)=some (.int (i - j)):=rfl
def D1:n6 (.int i) (.int j)=some (.bl (decide (i<j))):=rfl
def D2:yB (.int i) (.int j)=some (.bl (decide (i<=j))):=rfl
def oG:fE (.int i) (.int j)=some (.bl (decide (j<i))):=rfl
def mQ:fP (.int i) (.int j)=some (decide (i=j)):=by
 delta fP;dsimp only;rw[la ⟨rfl,by simp[jZ]⟩,pJ];rfl
def NJ:fP (.bl i) (.bl j)=some (i == j):=by
 delta fP;dsimp only;rw[la ⟨rfl,by simp[jZ]⟩];rfl
def D3(b:0<=i)(d:i<xs.length):∃c,c∈xs/\d1 xs i=some c:=by
 have a:i.toNat<xs.length:=by omega
 have e:((i.toNat:Nat):Int)=i:=by omega
 have h:=kG (xs:=xs) (j:=i.toNat) (v:=xs[i.toNat]) (by simp[a]);rw[e]at h;exact⟨xs[i.toNat],jg a,h⟩
def NK(hl:l.length<=sizeLine)(h:d1 l i=some c):aS (.sc (.str (S l))) (.int i)=some (.str [c]):=by
 delta aS;dsimp only;rw[la (by rw[kI];rwa[hl]),jI,h];rfl
def jy:aS (.lst l) (.int i)=d1 l i:=rfl
def NL:aS (.tup l) (.int i)=d1 l i:=rfl
def D4{n:Nat}{j:Int}(h:j=n)(hn:n<=1000000):jl [.int j]=some ((range n).map λk=>.int ((k:Nat):Int)):=by
 subst h;delta jl;dsimp only;rw[la ⟨'o','o'⟩];delta e6;simp
def NM(a:-1000000<=i)(b:i<=1000000)(c:-1000000<=j)(d:j<=1000000):mF [.int i,.int j]=some (e6 i (j - i).toNat):=by
 delta mF;dsimp only;rw[la ⟨'o','o','o','o'⟩]
def vv(xs:List α)(k:Nat):dN xs none (some (k:Int))=xs.take k:=by
 delta dN;rw[HT.sIx_none,HT.sIx_nat,List.drop_zero,Nat.sub_zero];by_cases h:k<=xs.length
 ·rw[xm h]
 ·rw[xo 'o',List.take_length,xg 'o']
def yT(xs:List α)(k:Nat):dN xs (some (k:Int)) none=xs.drop k:=by
 delta dN;rw[HT.sIx_none,HT.sIx_nat];by_cases h:k<=xs.length
 ·rw[xm h]
  rwa[xg 'm']
 ·rw[xo 'o',tj,kj 'o']
  simp
def D5(xs:List α)(a b:Nat)(h:a<=b):dN xs (some (a:Int)) (some (b:Int))=(xs.drop a).take (b - a):=by
 delta dN;rw[HT.sIx_nat,HT.sIx_nat];by_cases c:b<=xs.length
 ·rw[xm c,xm 'o']
 ·rw[xo 'o']
  by_cases d:a<=xs.length
  ·rw[xm d,xg 'm',xg 's']
  ·rw[xo 'o',tj,kj 'o'];simp
def p9(f:α->β)(xs:List α)(a b:Tc):dN (xs.map f) a b=(dN xs a b).map f:=by
 delta dN;rw[ba,xq,uu]
def rY(h:ds.length+es.length<=sizeLine):bG (.lst ds) (.lst es)=some (.lst (ds++es)):=by
 delta bG;rwa[la h]
def NN(h:(bO LV (.tup ds) && bO LV (.tup es))=true):fP (.tup ds) (.tup es)=some (cz ds es):=by
 delta fP;rwa[la h]
def NO(h:(bO LV (.lst ds) && bO LV (.lst es))=true):fP (.lst ds) (.lst es)=some (cz ds es):=by
 delta fP;rwa[la h]
def yU(l m:T7):bI (.str l) (.str m)=decide (l=m):=by
 rw[bI];show (S l == S m)=_;rw[<-pJ (S l) (S m)];rwa[nM xU]
def NP(l m:Int):bI (.int l) (.int m)=decide (l=m):=by
 rw[bI];show (l == m)=_;rw[<-pJ l m]
def NQ(l m:Bool):bI (.bl l) (.bl m)=(l == m):=by rw[bI];rfl
def sz(h:n<=100000):n<=sizeLine:=zc h 'd'
def mR(h:n<=100000):n<sizeLine:=Nat.lt_of_le_of_lt h 'd'
section
variable {K:Fg1}
def jL.own(h:jL K Hf H sl v)(o:dC sl=true):∃p ob,v=.ref p/\Hf p=none/\H p=some ob:=by
 cases sl with
 |sh d=>cases o
 |ow ds=>have⟨p,xs,a,b,c,_⟩:=h;exact⟨p,_,a,b,c⟩
 |dk ks ds=>have⟨p,xs,a,b,c,_⟩:=h;exact⟨p,_,a,b,c⟩
 |dt ks ds=>have⟨p,xs,a,b,c,_⟩:=h;exact⟨p,_,a,b,c⟩
def jL.away(h:jL K Hf H sl v)(e:dC sl=true->v≠.ref p):jL K Hf (aI H p ob) sl v:=by
 cases sl with
 |sh d=>rwa[h]
 |ow ds=>have⟨q,xs,rfl,a,b,c⟩:=h;exact⟨q,xs,rfl,a,by rw[aK (λz=>e rfl (by rw[z]))];exact b,c⟩
 |dk ks ds=>have⟨q,xs,rfl,a,b,c⟩:=h;exact⟨q,xs,rfl,a,by rw[aK (λz=>e rfl (by rw[z]))];exact b,c⟩
 |dt ks ds=>have⟨q,xs,rfl,a,b,c⟩:=h;exact⟨q,xs,rfl,a,by rw[aK (λz=>e rfl (by rw[z]))];exact b,c⟩
def VI.mutG(I:VI K B Hf ρ σ H)(d:ρ[i]?=some (some sl))(l:dC sl=true)(w:dC sl'=true)(m:σ[i]?=some (some (.ref p)))(ok:jL K Hf (aI H p ob) sl' (.ref p)):VI K B Hf (ρ.set i (some sl')) σ (aI H p ob):=by
 have F:=I.own i _ p d l m;have M:Hf p=none:=by have⟨q,_,e,h,_⟩:=ok.own w;cases e;rwa[h]
 have v:i<ρ.length:=(qa.mp d).1
 have g:∀{j:Nat} {s:Sl},(ρ.set i (some sl'))[j]?=some (some s)->(j=i/\s=sl')\/(j≠i/\ρ[j]?=some (some s)):=λ{j s} e=>by
  by_cases a:i=j
  ·subst a
   rw[dc v]at e;cases e;rwa[.inl ⟨rfl,rfl⟩]
  ·rw[za a]at e
   rwa[.inr ⟨λz=>a z.symm,e⟩]
 have fs:aQ Hf (aI H p ob):=λb o h=>by
  rw[aK (cG h M)];rwa[I.fh b o h]
 erw[⟨⟨I.ex.ff,λb o h=>?_,fs,I.ex.nw,I.ex.nf⟩,by simp[I.len],λj s e=>?_,λj s c e o q=>?_,λj k x y c e1 e2 A C n f=>?_⟩]
 ·rw[aK (cG h F)];rwa[I.ex.hh b o h]
 ·rcases g e with⟨rfl,rfl⟩|⟨a,e⟩
  ·exact⟨.ref p,m,ok⟩
  ·have⟨u,E,G⟩:=I.ok j s e
   exact⟨u,E,G.away λo z=>a (by subst z;rwa[I.dis j i s _ _ e d o l E m])⟩
 ·rcases g e with⟨rfl,rfl⟩|⟨a,e⟩
  ·rw[m]at q;cases q;rwa[F]
  ·rwa[I.own j s c e o q]
 ·rcases g e1 with⟨rfl,rfl⟩|⟨a,e1⟩
  ·rcases g e2 with⟨rfl,rfl⟩|⟨J,e2⟩
   ·rfl
   ·rwa[I.dis _ k _ y c d e2 l C n f]
  ·rcases g e2 with⟨r,L⟩|⟨J,e2⟩
   ·rw[r]at f ⊢
    rwa[I.dis j _ x _ c e1 d A l n f]
   ·rwa[I.dis j k x y c e1 e2 A C n f]
def VI.setG(I:VI K B Hf ρ σ H)(M:Ex Hf H Hf' H')(F:H p=none)(O:dC sl=true)(ok:jL K Hf' H' sl (.ref p)):VI K B Hf' (ρ.set i (some sl)) (σ.set i (some (.ref p))) H':=by
 have g:∀{j:Nat} {s:Sl},(ρ.set i (some sl))[j]?=some (some s)->(j=i/\s=sl/\i<ρ.length)\/(j≠i/\ρ[j]?=some (some s)):=λ{j s} e=>by
  by_cases a:i=j
  ·subst a
   rw[gn]at e
   cases q:ρ[i]? with
   |none=>rw[q]at e;cases e
   |some z =>
    rw[q]at e;simp at e;rwa[.inl ⟨rfl,e.symm,(qa.mp q).1⟩]
  ·rw[za a]at e
   rwa[.inr ⟨λz=>a z.symm,e⟩]
 have E:=I.ext M;have x:B.h p=none:=I.ex.hh.free F
 have b:∀{j:Nat} {s:Sl},ρ[j]?=some (some s)->dC s=true->σ[j]?≠some (some (.ref p)):=λ{j s} e o z=>by
  have⟨v,l,n⟩:=I.ok j s e;rw[z]at l;cases l;have⟨q,N,e1,_,e2⟩:=n.own o;cases e1;rw[F]at e2;cases e2
 erw[⟨E.ex,by simp[I.len],λj s e=>?_,λj s m e o q=>?_,λj k G J m e1 e2 y A d c=>?_⟩]
 ·rcases g e with⟨rfl,rfl,hl⟩|⟨a,e⟩
  ·exact⟨.ref p,by rw[dc (by rw[<-I.len];rwa[hl])],ok⟩
  ·have⟨u,l,n⟩:=E.ok j s e
   exact⟨u,by rw[za (λz=>a z.symm)];exact l,n⟩
 ·rcases g e with⟨rfl,rfl,hl⟩|⟨a,e⟩
  ·rw[dc (by rw[<-I.len];rwa[hl])]at q
   cases q;rwa[x]
  ·rw[za (λz=>a z.symm)]at q
   rwa[I.own j s m e o q]
 ·rcases g e1 with⟨rfl,rfl,hl⟩|⟨a,C⟩
  ·rcases g e2 with⟨rfl,rfl,f⟩|⟨r,e2⟩
   ·rfl
   ·rw[dc (by rw[<-I.len];rwa[hl])]at d
    cases d;rw[za (λz=>r z.symm)]at c
    rwa[absurd c (b e2 A)]
  ·rw[za (λz=>a z.symm)]at d
   rcases g e2 with⟨w,L,f⟩|⟨r,e2⟩
   ·subst w
    rw[dc (by rw[<-I.len];rwa[f])]at c;cases c;rwa[absurd d (b C y)]
   ·rw[za (λz=>r z.symm)]at c
    rwa[I.dis j k G J m C e2 y A d c]
end
def rZ(i:Nat)(sl:Sl):av->aR:=λρ=>.nx (ρ.set i (some sl))
def kT(sl:Sl)(k d:D):Option Sl:=match sl with
 |.dk ks ds=>(nW k).bind λkey=>if ks.length<sizeLine then some (.dk ((fO (ks.zip ds) key d).map fst) ((fO (ks.zip ds) key d).map snd)) else none
 |.dt ks ds=>(kL k).bind λkey=>if ks.length<sizeLine then some (.dt ((fO (ks.zip ds) key d).map fst) ((fO (ks.zip ds) key d).map snd)) else none
 |_=>none
def kU(i:Nat)(fk fv:av->T5):av->aR:=λρ=>match ρ[i]? with
 |some (some sl)=>match (fv ρ).bind λd=>(fk ρ).bind λk=>kT sl k d with|some a=>.nx (ρ.set i (some a))|none=>.bad
 |_=>.bad
def d5(d k:D):T5:=(f8 d k).bind id
def j9(fo fk fz:av->T5):av->T5:=λρ=>(fo ρ).bind λd=>(fk ρ).bind λk=>(fz ρ).bind λz=>(f8 d k).map λo=>o.getD z
section
variable {X:Cx}{pos:Pos}
def NR(b:X.N.Nodup)(c:X.N[j]?=some x)(d:jE X.u.scope x)(hs:W0 X (.Dict [] [] p2) (some (.Name x pos')) pos:=by rfl)(e:W3 X x:=by first|exact .inl rfl|exact .inr rfl|assumption):PS X (.Assign [.Name x pos'] (.Dict [] [] p2) pos) (sV X.K B (rZ j (.dk [] []))) :=
 (mx b c d L9 hs e).imp λD f H ⟨Hf,ρ,I,q⟩=>λp a=>q Hf _ _ (aQ.refl _) (I.setG (Ex.made I.fh a) a rfl ⟨p,[],rfl,I.fh.free a,aZ,rfl,.nil⟩)
def D6(b:X.N.Nodup)(c:X.N[j]?=some x)(d:jE X.u.scope x)(hs:W0 X (.Dict [] [] p2) (some (.Name x pos')) pos:=by rfl)(e:W3 X x:=by first|exact .inl rfl|exact .inr rfl|assumption):PS X (.Assign [.Name x pos'] (.Dict [] [] p2) pos) (sV X.K B (rZ j (.dt [] []))) :=
 (mx b c d CT hs e).imp λD f H ⟨Hf,ρ,I,q⟩=>λp a=>q Hf _ _ (aQ.refl _) (I.setG (Ex.made I.fh a) a rfl ⟨p,[],rfl,I.fh.free a,aZ,rfl,.nil⟩)
def yV(T:aL n X.A)(U:X.N[j]?=some x)(Y:PE X i (eB X.K B fk))(Z:PE X value (eV X.K B fv))(o:gY X.u.scope x:=by first|exact ub rfl|exact fg (ub rfl)|exact fg (fg rfl))(hd:(x == 'g')=false:=by decide)(F:(x == 'c')=false:=by decide)(hs:W0 X value (some (.Subscript (.Name x p1) i pos')) pos:=by rfl):PS X (.Assign [.Subscript (.Name x p1) i pos'] value pos) (sV X.K B (kU j fk fv)) :=
 (L4 (by have:=T.units;omega) (gh U o hd F) Y Z hs).imp λD G H ⟨Hf,ρ,I,q⟩=>by
  unfold kU at q
  split at q
  ·rename_i sl e
   split at q
   ·rename_i M hz
    have⟨d,s,hz⟩:=bind_some hz;have⟨k,u,hz⟩:=bind_some hz;have⟨O,w,P⟩:=I.ok j _ e;erw[⟨Hf,ρ,d,I,s,λr H1 v c J=>⟨O,w,r,ρ,k,I.ext c,u,λh H2 y a dk=>?_⟩⟩];have L:=(I.ext c).ext a;have l:=(P.ext c).ext a;unfold kT at hz
    split at hz
    ·have⟨g,z,hz⟩:=bind_some hz
     split at hz
     ·rename_i ks ds hl
      cases hz;have⟨p,kvs,rfl,C,E,e1,e2⟩:=l
      have R:=C5 dk z;subst R;have m:=(rH e1 e2).put g (J.same a.ff);exact⟨p,_,rfl,mC.k E (by rw[<-ba (f:=fst),e1];rwa[hl]),q h G _ (c.ff.trans a.ff) (L.mutG e rfl rfl w ⟨p,_,rfl,C,aZ,m.fst,m.snd⟩)⟩
     ·cases hz
    ·have⟨g,z,hz⟩:=bind_some hz
     split at hz
     ·rename_i ks ds hl
      cases hz;have⟨p,kvs,rfl,C,E,e1,e2⟩:=l
      have⟨b,rfl,Q⟩:=uO dk z;have m:=(rH e1 e2).put g (J.same a.ff);exact⟨p,_,rfl,mC.t E (a.fh _ _ Q) (by rw[<-ba (f:=fst),e1];rwa[hl]),q h G _ (c.ff.trans a.ff) (L.mutG e rfl rfl w ⟨p,_,rfl,C,aZ,m.fst,m.snd⟩)⟩
     ·cases hz
    ·cases hz
   ·rwa[q.elim]
  ·rwa[q.elim]
def oH(E:aL n X.A)(F:PE X o (eB X.K B fo))(G:PE X i (eB X.K B fk))(hs:x9 i):PE X (.Subscript o i pos) (eV X.K B (e2 d5 fo fk)) :=
 (L3 (by have:=E.units;omega) F G hs).imp λJ H Q ⟨Hf,ρ,z,I,hz,q⟩=>by
  have⟨d,m,hz⟩:=bind_some hz;have⟨k,p,hz⟩:=bind_some hz;erw[⟨Hf,ρ,d,I,m,λe L x c dx=>⟨e,ρ,k,I.ext c,p,λf j y b l=>?_⟩⟩];unfold d5 at hz;have⟨s,u,h⟩:=bind_some hz;have h:s=some z:=h;subst h;have⟨a,r,rfl,_,g,_,w⟩:=uP b.fh (dx.ext b) l u;have⟨v,rfl,C⟩:=w z rfl;exact⟨a,v,rfl,g,q f j v (c.trans b) C⟩
def NT{K:Fg1}(s:aQ Hf H)(c:cX K Hf H d x)(h:f8 d k=some r):∃a,x=.ref a/\rC H a:=by
 unfold f8 at h
 split at h
 ·have⟨a,kvs,rfl,b,_⟩:=c.dk s;exact⟨a,rfl,.inl ⟨kvs,.inl b⟩⟩
 ·have⟨a,kvs,rfl,b,_⟩:=c.dt s;exact⟨a,rfl,.inr ⟨kvs,.inl b⟩⟩
 ·cases h
def vw(T:aL n X.A)(U:PE X o (eB X.K B fo))(he:PE X e (eB X.K B fk))(Y:PE X f (eV X.K B fz))(m:M2 X o "get" apos e f cpos:=by exact⟨rfl,rfl,rfl,rfl⟩):PE X (.Call (.Attribute o "get" apos) [e,f] [] cpos) (eV X.K B (j9 fo fk fz)) :=
 (Mc (by have:=T.units;omega) U he Y m).imp λZ H Q D=>by
  have⟨Hf,ρ,z,I,hz,q⟩:=D;have⟨d,J,hz⟩:=bind_some hz;have⟨k,L,hz⟩:=bind_some hz;have⟨t,M,hz⟩:=bind_some hz;have⟨N,C,E⟩:=yb.mp hz;erw[⟨Hf,ρ,d,I,J,λj H1 x b dx=>?_⟩];have⟨a,rfl,p⟩:=NT b.fh dx C;erw[⟨a,rfl,p,j,ρ,k,I.ext b,L,λl H2 y h F=>⟨l,ρ,t,(I.ext b).ext h,M,λi s u c G=>?_⟩⟩];have⟨a',r,e,_,g,O,P⟩:=uP c.fh ((dx.ext h).ext c) (F.ext c) C;cases e;erw[⟨r,g,?_⟩]
  cases N with
  |none=>subst E;rw[O rfl];rwa[q i s _ ((b.trans h).trans c) G]
  |some w=>subst E;have⟨v,rfl,R⟩:=P w rfl;rwa[q i s v ((b.trans h).trans c) R]
end
end L2
namespace L2
open PySem PySem.W PyProof.Rows
structure WO(lt:Nat->Nat->Bool):Prop where
 irr:∀a,lt a a=false
 nt:∀a b c,lt a c=true->lt a b=true\/lt b c=true
 asy:∀a b,lt a b=true->lt b a=false
def dR(lt:Nat->Nat->Bool)(n:Nat){α:Type}:KasT α->(α->Prop)->Prop
 |.ret a,Q=>Q a
 |.ask i j k,Q=>i<n/\j<n/\dR lt n (k (lt i j)) Q
section
variable {α β:Type}
theorem dR.bind:∀(t:KasT α),dR lt n t (λa=>dR lt n (f a) Q)->dR lt n (t.bind f) Q
 |.ret a,h=>by rw[KasT.bind.eq_1];rwa[h]
 |.ask i j k,h=>by rw[KasT.bind.eq_2];exact⟨h.1,h.2.1,dR.bind _ h.2.2⟩
theorem dR.mono(m:∀a,Q a->Q' a):∀{t:KasT α},dR lt n t Q->dR lt n t Q'
 |.ret a,h=>m a h
 |.ask i j k,h=>⟨h.1,h.2.1,dR.mono m h.2.2⟩
theorem dR.wp(c:∀i j C,i<n->j<n->C (lt i j) s->b i j C s)(d:∀a,Q a->G a s):∀{t:KasT α},dR lt n t Q->KasT.kasWp b t G s
 |.ret a,h=>by rw[KasT.kasWp.eq_1];rwa[d a h]
 |.ask i j k,h=>by rw[KasT.kasWp.eq_2];rwa[c i j _ h.1 h.2.1 (dR.wp c d h.2.2)]
end
noncomputable abbrev gp(p:Array Nat)(i:Nat):Nat:=p.getD i 0
def mS(p:Array Nat)(i:Nat):gp p i=(p[i]?).getD 0:=by simp[gp,Array.getD_eq_getD_getElem?]
def Ix(n:Nat)(p:Array Nat):Prop:=p.toList.Perm (range n)
section
variable {p q:Array Nat}
theorem Ix.size(h:Ix n p):p.size=n:=by have:=h.length_eq;simpa using this
def Ix.bd(h:Ix n p)(hn:0<n)(i:Nat):gp p i<n:=by
 rw[mS]
 cases e:p[i]? with
 |none=>rwa[hn]
 |some x =>
  have:x∈p.toList:=by
   have⟨a,rfl⟩:=yd.mp e;simp
  rwa[uf.mp (h.mem_iff.mp this)]
def Ix.of(h:Ix n p)(a:q.Perm p):Ix n q:=(Array.perm_iff_toList_perm.mp a).trans h
def Up(lt:Nat->Nat->Bool)(p:Array Nat)(k:Nat):Prop:=∀i j,i<=j->j<k->lt (gp p j) (gp p i)=false
def Dw(lt:Nat->Nat->Bool)(p:Array Nat)(k:Nat):Prop:=∀i j,i<=j->j<k->lt (gp p i) (gp p j)=false
def WO.le{a:Nat}(w:WO lt)(d:lt b a=false)(e:lt c b=false):lt c a=false:=by
 cases h:lt c a with
 |false=>rfl
 |true =>
  rcases w.nt c b a h with z|z
  ·rw[e]at z;cases z
  ·rw[d]at z;cases z
def Up.snoc(w:WO lt)(h:Up lt p k)(d:0<k)(b:lt (gp p k) (gp p (k - 1))=false):Up lt p (k+1):=λi j a c=>by
 by_cases e:j=k
 ·subst e
  by_cases e2:i=j
  ·subst e2;rwa[w.irr _]
  ·rwa[w.le (h i (j - 1) 'o' 'o') b]
 ·rwa[h i j a 'o']
def Dw.snoc(w:WO lt)(h:Dw lt p k)(d:0<k)(b:lt (gp p (k - 1)) (gp p k)=false):Dw lt p (k+1):=λi j a c=>by
 by_cases e:j=k
 ·subst e
  by_cases e2:i=j
  ·subst e2;rwa[w.irr _]
  ·rwa[w.le b (h i (j - 1) 'o' 'o')]
 ·rwa[h i j a 'o']
theorem yW(w:WO lt)(hn:0<n)(b:Ix n p):∀(f x:Nat),1<=x->Up lt p x->dR lt n (kas_asc p f x) λm=>x<=m/\m<=x+f/\Up lt p m/\(m<x+f->lt (gp p m) (gp p (m - 1))=true)
 |0,x,e,h=>by rw[kas_asc.eq_1];exact⟨ib _,ib _,h,λz=>absurd z (zi _)⟩
 |f+1,x,e,h=>by
  rw[kas_asc.eq_2];erw[⟨b.bd hn x,b.bd hn (x - 1),?_⟩];dsimp only;split
  ·rename_i a;exact⟨ib _,'o',h,λ_=>a⟩
  ·rename_i a
   have a:lt (gp p x) (gp p (x - 1))=false:=bf.mpr a;exact(yW w hn b f (x+1) 'o' (h.snoc w 'o' a)).mono λm ⟨g,i,c,d⟩=>⟨'o','o',c,λz=>d 'o'⟩
def yX(a:Ix n p)(b:j<=n)(k:Nat):gp (kas_rev p i j) k=if i<=k/\k<j then gp p (i+j - 1 - k) else gp p k:=by
 rw[mS,show kas_rev p i j=mirror p i j ((j - i) / 2) from rfl,getElem?_mirror_all (by rw[a.size];rwa[b])]
 split <;> rw[mS]
def Ix.rev(a:Ix n p)(i j:Nat):Ix n (kas_rev p i j):=a.of (mirror_perm p i j _)
def D7(lt:Nat->Nat->Bool)(p q:Array Nat):Prop:=∀k,lt (gp p k) (gp q k)=false/\lt (gp q k) (gp p k)=false
def Dw.alk(w:WO lt)(h:Dw lt p k)(a:D7 lt p q):Dw lt q k:=λi j b c=>w.le (w.le (a j).1 (h i j b c)) (a i).2
def yY(w:WO lt)(c:Ix n p)(d:j<=n)(he:∀a b,i<=a->a<j->i<=b->b<j->lt (gp p a) (gp p b)=false):D7 lt p (kas_rev p i j):=λk=>by
 rw[yX c d];split
 ·rename_i h;exact⟨he _ _ 'o' 'o' 'o' 'o',he _ _ 'o' 'o' 'o' 'o'⟩
 ·exact⟨w.irr _,w.irr _⟩
theorem vx(w:WO lt)(hn:0<n):∀(f:Nat) (p:Array Nat) (i e:Nat),Ix n p->1<=i->i+f<=n->e+1<=i->Dw lt p i->(∀a b,i - (e+1)<=a->a<i->i - (e+1)<=b->b<i->lt (gp p a) (gp p b)=false) →
  dR lt n (kas_desc f p i e) λr=>Ix n r.1/\i<=r.2.1/\r.2.1<=i+f/\r.2.2+1<=r.2.1/\Dw lt r.1 r.2.1/\(∀a b,r.2.1 - (r.2.2+1)<=a->a<r.2.1->r.2.1 - (r.2.2+1)<=b->b<r.2.1->lt (gp r.1 a) (gp r.1 b)=false)
 |0,p,i,e,c,B,C,s,o,h=>by rw[kas_desc.eq_1];exact⟨c,ib _,ib _,s,o,h⟩
 |f+1,p,i,e,c,B,C,s,o,h=>by
  rw[kas_desc.eq_2];erw[⟨c.bd hn i,c.bd hn (i - 1),?_⟩];dsimp only;split
  ·rename_i g
   have z:lt (gp p (i - 1)) (gp p i)=false:=w.asy _ _ g;have d:=o.snoc w 'o' z;split
   ·have A:=yY w c (i:=i - (e+1)) (j:=i) 'o' h
    exact (vx w hn f _ (i+1) 0 (c.rev _ _) 'o' 'o' 'o' (d.alk w A) (λ a b ha y g d=>by
     have:a=b:=by omega
     rw[this];rwa[w.irr _])).mono λr ⟨l,u,v,m⟩=>⟨l,'o','o',m⟩
   ·exact (vx w hn f _ (i+1) 0 c 'o' 'o' 'o' d (λ a b ha y g d=>by
     have:a=b:=by omega
     rw[this];rwa[w.irr _])).mono λr ⟨l,u,v,m⟩=>⟨l,'o','o',m⟩
  ·rename_i g
   have g:lt (gp p i) (gp p (i - 1))=false:=bf.mpr g;erw[⟨c.bd hn (i - 1),c.bd hn i,?_⟩];dsimp only;split
   ·exact⟨c,ib _,by show i<=i+(f+1);omega,s,o,h⟩
   ·rename_i d
    have d:lt (gp p (i - 1)) (gp p i)=false:=bf.mpr d;refine(vx w hn f p (i+1) (e+1) c 'o' 'o' 'o' (o.snoc w 'o' d) λa b E F G H=>?_).mono λr ⟨l,u,v,m⟩=>⟨l,'o','o',m⟩
    by_cases x:a=i
    ·by_cases q:b=i
     ·rw[x,q];rwa[w.irr _]
     ·rw[x];rwa[w.le (h (i - 1) b 'o' 'o' 'o' 'o') g]
    ·by_cases q:b=i
     ·rw[q];rwa[w.le d (h a (i - 1) 'o' 'o' 'o' 'o')]
     ·rwa[h a b 'o' 'o' 'o' 'o']
def Dw.turn(a:Ix n p)(b:k<=n)(h:Dw lt p k):Up lt (kas_rev p 0 k) k:=λi j c d=>by
 rw[yX a b,yX a b,la ⟨'o',d⟩,la ⟨'o','o'⟩];rwa[h _ _ 'o' 'o']
def D8(w:WO lt)(hn:0<n)(a:Ix n p)(c:1<=k)(d:k<=n)(h:Dw lt p k):dR lt n (kas_tail3 k n p) λr=>Ix n r.2/\r.1<=n/\1<=r.1/\Up lt r.2 r.1:=by
 delta kas_tail3;erw[dR.bind _ ((yW w hn (a.rev 0 k) (n - k) k c (h.turn a d)).mono λm ⟨e,f,b,_⟩=>?_)];exact⟨a.rev 0 k,'o','o',b⟩
def D9(w:WO lt)(hn:0<n)(f:Ix n p)(q:1<=k)(s:k+1<=n)(h:Dw lt p (k+1)):dR lt n (kas_descPart k n p) λr=>Ix n r.2/\r.1<=n/\1<=r.1/\Up lt r.2 r.1:=by
 delta kas_descPart
 refine dR.bind _ ((vx w hn (n - (k+1)) p (k+1) 0 f 'o' 'o' 'o' h (λ a b ha g i j=>by
  have:a=b:=by omega
  rw[this];rwa[w.irr _])).mono λr ⟨c,l,m,o,d,e⟩=>?_)
 split
 ·rwa[D8 w hn (c.rev _ _) 'o' 'o' (d.alk w (yY w c 'o' e))]
 ·rwa[D8 w hn c 'o' 'o' d]
def NU(w:WO lt)(hn:0<n)(c:Ix n p):dR lt n (kas_count n p) λr=>Ix n r.2/\r.1<=n/\1<=r.1/\Up lt r.2 r.1:=by
 rw[kas_count.eq_1]
 have s:Up lt p 1:=λi j d g=>by
  have:i=j:=by omega
  rw[this];rwa[w.irr _]
 erw[dR.bind _ ((yW w hn c (n - 1) 1 'o' s).mono λm ⟨v,x,f,q⟩=>?_)];split
 ·rename_i hm
  have:m=n:=by simpa using hm
  exact⟨c,'o','o',f⟩
 ·rename_i hm
  have hm:m≠n:=by simpa using hm
  have l:=q 'o';have o:lt (gp p (m - 1)) (gp p m)=false:=w.asy _ _ l;split
  ·refine⟨c.bd hn _,c.bd hn _,?_⟩
   dsimp only;split
   ·exact⟨c,'o','o',f⟩
   ·rename_i h
    have h:lt (gp p 0) (gp p (m - 1))=false:=bf.mpr h
    have e:∀a b,0<=a->a<m->0<=b->b<m->lt (gp p a) (gp p b)=false:=λa b _ ha _ y =>
     w.le (w.le (f b (m - 1) 'o' 'o') h) (f 0 a 'o' ha)
    have u:Dw lt p m:=λi j d g=>e i j 'o' 'o' 'o' g
    rwa[D9 w hn (c.rev 0 m) 'o' 'o' ((u.snoc w 'o' o).alk w (yY w c 'o' e))]
  ·have:m=1:=by omega
   subst this
   exact D9 w hn c 'o' 'o' (Dw.snoc w (λ i j d g=>by
    have:i=j:=by omega
    rw[this];rwa[w.irr _]) 'o' o)
theorem yZ(w:WO lt)(hn:0<n)(c:Ix n p)(d:Up lt p k):∀(f l r:Nat),l<=r->r<=k->r - l<=f->(∀a,a<l->lt (gp p k) (gp p a)=false)->(∀a,r<=a->a<k->lt (gp p k) (gp p a)=true) →
  dR lt n (kas_place p k f l r) λm=>m<=k/\(∀a,a<m->lt (gp p k) (gp p a)=false)/\∀a,m<=a->a<k->lt (gp p k) (gp p a)=true
 |0,l,r,i,j,o,e,g=>by
  rw[kas_place.eq_1]
  have:l=r:=by omega
  subst this;exact⟨'o',e,g⟩
 |f+1,l,r,i,j,o,e,g=>by
  rw[kas_place.eq_2];split
  ·have:l=r:=by omega
   subst this;exact⟨'o',e,g⟩
  ·refine⟨c.bd hn _,c.bd hn _,?_⟩
   dsimp only;split
   ·rename_i b
    erw[yZ w hn c d f l _ 'o' 'o' 'o' e λa ha h=>?_]
    rcases w.nt _ (gp p a) _ b with z|z
    ·rwa[z]
    ·rw[d _ a 'o' h]at z;cases z
   ·rename_i b
    have b:lt (gp p k) (gp p ((l+r) / 2))=false:=bf.mpr b;erw[yZ w hn c d f _ r 'o' j 'o' (λa ha=>?_) g];rwa[w.le (d a ((l+r) / 2) 'o' 'o') b]
theorem Ea(w:WO lt)(hn:0<n):∀(f:Nat) (p:Array Nat) (x:Nat),Ix n p->1<=x->x+f=n->Up lt p x->dR lt n (kas_bin f p x) λq=>Ix n q/\Up lt q n
 |0,p,x,d,e,u,b=>by
  rw[kas_bin.eq_1];have:x=n:=by omega
  subst this;exact⟨d,b⟩
 |f+1,p,x,d,e,u,b=>by
  rw[kas_bin.eq_2];erw[dR.bind _ ((yZ w hn d b x 0 x 'o' 'o' 'o' (λa ha=>absurd ha 'o') (λa e v=>absurd e 'o')).mono λm ⟨y,r,s⟩=>?_)]
  have at_:∀k,gp (bubble p x (x - m)) k=if k=m then gp p x else if m<k/\k<=x then gp p (k - 1) else gp p k:=λk=>by
   rw[mS,getElem?_bubble (by rw[d.size];omega) (x - m) 'o',show x - (x - m)=m by omega];split
   ·rw[mS]
   ·split <;> rw[mS]
  erw[Ea w hn f _ (x+1) (d.of (bubble_perm _ _ _)) 'o' 'o' λi j g z=>?_]
  rw[at_,at_];by_cases o:j=m
  ·rw[la o]
   by_cases c:i=m
   ·rw[la c];rwa[w.irr _]
   ·rw[wa c,wa 'o'];rwa[r i 'o']
  ·rw[wa o]
   by_cases c:i=m
   ·rw[la c,la ⟨'o','o'⟩];rwa[w.asy _ _ (s (j - 1) 'o' 'o')]
   ·rw[wa c]
    by_cases h:m<j
    ·rw[la ⟨h,'o'⟩]
     by_cases l:m<i
     ·rw[la ⟨l,'o'⟩];rwa[b _ _ 'o' 'o']
     ·rw[wa 'o'];rwa[b _ _ 'o' 'o']
    ·rw[wa 'o',wa 'o'];rwa[b _ _ g 'o']
def NV(w:WO lt)(hn:0<n):dR lt n (kas_sort n) λq=>Ix n q/\Up lt q n:=by
 delta kas_sort;have d:Ix n (range n).toArray:=by delta Ix;rwa[yj _]
 erw[dR.bind _ ((NU w hn d).mono λr ⟨b,e,c,a⟩=>?_)];split
 ·rw[show max r.1 1=r.1 by omega]
  rwa[Ea w hn _ _ _ b c 'o' a]
 ·have:r.1=n:=by omega
  rw[this]at a;exact⟨b,a⟩
end
end L2
namespace L2
open PySem PySem.Spec PyProof.Rows
noncomputable def qb(x:Int):Ti->Ti
 |[]=>[x]
 |y::r=>if x<=y then x::y::r else y::qb x r
def l3:Ti->Ti
 |[]=>[]
 |x::r=>qb x (l3 r)
theorem y0(x:Int):∀l,(qb x l).Perm (x::l)
 |[]=>yj _
 |y::r=>by
  delta qb;split
  ·rwa[yj _]
  ·exact((y0 x r).cons y).trans (iu x y r)
theorem vy:∀l,(l3 l).Perm l
 |[]=>yj _
 |x::r=>(y0 x _).trans ((vy r).cons x)
theorem Eb(x:Int):∀{l:Ti},l.Pairwise (·<=·)->(qb x l).Pairwise (·<=·)
 |[],_=>yq _ _
 |y::r,h=>by
  delta qb;split
  ·rename_i a
   erw[we.mpr ⟨λz hz=>?_,h⟩];rcases cb.mp hz with rfl|hz
   ·rwa[a]
   ·rwa[Int.le_trans a ((we.mp h).1 z hz)]
  ·rename_i a
   erw[we.mpr ⟨λz hz=>?_,Eb x (we.mp h).2⟩];rcases cb.mp ((y0 x r).mem_iff.mp hz) with rfl|hz
   ·omega
   ·exact(we.mp h).1 z hz
theorem Ed:∀l,(l3 l).Pairwise (·<=·)
 |[]=>xn
 |x::r=>Eb x (Ed r)
def NW{a b:Ti}(e:a.Perm b)(ha:a.Pairwise (·<=·))(f:b.Pairwise (·<=·)):a=b :=
 e.eq_of_pairwise (λx y _ _ c d=>Int.le_antisymm c d) ha f
theorem Ee:∀(ns:Ti) (a:T9),a.length=ns.length->(∀(j:Nat) (v:Value),a[j]?=some v->∃i,ns[j]?=some i/\∃t:Tok,v=Value.int i t)->IntsAre a ns
 |[],[],_,_=>.nil
 |[],_::_,h,_=>by simp at h
 |_::_,[],h,_=>by simp at h
 |n::ns,u::a,h,f=>by
  have⟨i,b,t,rfl⟩:=f 0 u rfl;cases b;rwa[.cons _ t (Ee ns a (by simpa using h) λj v e=>f (j+1) v (by simpa using e))]
theorem KV.fst:∀{kvs:List (κ×V)}{vs:List (κ×Value)},KV kvs vs->vs.map fst=kvs.map fst
 |_,_,.nil=>rfl
 |_,_,.cons a b=>by rw[oa,oa,a.1,KV.fst b]
def KV.len(h:KV kvs vs):kvs.length=vs.length:=Paired.length h
def NX:T6->Hp->VK->Prop:=λxs H Q=>∃a kvs ns,xs=[.ref a]/\Rd H a (.dK kvs)/\kvs.map fst=ns.map Sum.inl/\ns.length<64/\∀p,H p=none->Q (.ref p) (aI H p (.lst ((l3 ns).map V.int)))
section
variable {X:Cx}
def NY(hc:X.k=true):dI X (.builtin "sorted") NX:=by
 intro p s T H xs us Q I U h;have⟨a,kvs,ns,rfl,Y,J,B,q⟩:=h;have⟨u,rfl,Z⟩:=gF U;cases Z;have⟨z,hd,vs,r,dd⟩:=mB I.hok Y;have⟨ep,C⟩:=dd.dictAt;have g:vs.length=ns.length:=by rw[<-KV.len r,<-ba (f:=fst),J,ba]
 refine PySem.Calls.call_function_entry kind_sorted plain_sorted entry_sorted (args_sorted1 _) ?_
 delta Builtin.«sorted»;erw[aa (m:=checkCount "sorted" 1 1 _) (ja ?_)];erw[aa (kdu_collect (A:=X.A.in1) (PySem.W.kdl_dict (knd:=gg X.p X.w) (kvs:=vs) (ep:=ep) hd) (I.ok.hd hc) C (by rw[g];rwa[sz 'o']) λh' G c l d=>?_)];have n:c.toList.length=ns.length:=by rw[xf,<-g];rwa[d.1]
 have hI:IntsAre c.toList ns:=Ee ns _ n λj v e=>by
  have⟨k,x,e1,e2⟩:=d.2 j v (by rw[<-jh];rwa[e]);have L:(vs.map fst)[j]?=some k:=by rw[yc,e1];rfl
  rw[KV.fst r,J,yc]at L;have⟨i,h1,h2⟩:=yb.mp L;subst h2;rcases kE (show nB (Sum.inl i) v=true from e2) with⟨i',t,E,K⟩|⟨x',t,E,K⟩
  ·cases E;exact⟨i,h1,t,K⟩
  ·cases E
 refine aa (wpAny_newList ?_ (by rw[n];exact sz 'o'));have o:(h'.push (seqObj "list" c.toList.toArray 0)).get? h'.objs.size=some (seqObj "list" c.toList.toArray 0):=bc _ rfl;refine aa (ve (il slot_list_sort ⟨_,o,rfl⟩ entry_list_sort (list_sort_tree o hI (by rw[n];exact B) λout N O P R=>⟨_,rfl,?_⟩) (args_list_sort _)));refine ja ⟨_,rfl,?_⟩;have⟨e,he⟩:=sortedHeap_at (out:=out) o;have M:ax X p T H { s with heap:=h',toks:=G }:=I.kept l;have e2:=NW (P.trans (vy ns).symm) R (Ed ns);subst e2;refine⟨.ref h'.objs.size,aI H h'.objs.size (.lst ((l3 ns).map V.int)),M.laid (t':=G) (λb ob y=>?_) (ib _) ?_,rfl,q _ (M.hok.fresh (ib _))⟩
 ·have y:h'.get? b=some ob:=y
  have F:b<h'.objs.size:=wb y;rw[sortedHeap_old (vc F) (by rw[size_push'];rwa[oq F]),Heap.get?_push_ne _ _ _ (vc F)];rwa[y]
 ·refine⟨by rw[ba,(vy ns).length_eq];exact sz 'o',out.toList,e,xw O,?_⟩
  simpa using he
noncomputable def qi:List aW->Option Ti
 |[]=>some []
 |.inl i::r=>(qi r).map (i::·)
 |.inr _::_=>none
theorem Ef:∀{ks:List aW}{ns:Ti},qi ks=some ns->ks=ns.map Sum.inl
 |[],_,h=>by cases h;rfl
 |.inl i::r,ns,h=>by
  unfold qi at h;have⟨m,a,b⟩:=yb.mp h;subst b;rw[Ef a];rfl
 |.inr _::_,_,h=>by cases h
def NZ(ns:Ti):qi (ns.map Sum.inl)=some ns:=by
 induction ns with
 |nil=>rfl
 |cons a r b=>rw[oa,qi,b];rfl
noncomputable def sk:T4->T0
 |[.dk ks _]=>(qi ks).bind λns=>if ns.length<64 then some ((l3 ns).map D.int) else none
 |_=>none
variable {a:Expr}{pos:Pos}
def N0(n:X.k=true)(r:Gl X "sorted")(hm:X.mg "sorted" = none)(ha:PA X [a] (aB X.K B fr))(he:starEach [a] X.u=[(false,eval a X.u)]:=by rfl):PE X (.Call (.Name "sorted" p) [a] [] pos) (eW X.K B (wN sk fr)) :=
 (nI (NY n) r hm xT ha 'd' 'd' he rfl).imp λs H Q ⟨Hf,ρ,z,I,hz,q⟩=>by
  have⟨ds,h,hz⟩:=bind_some hz;erw[⟨Hf,ρ,ds,I,h,λd u vs c e=>?_⟩];unfold sk at hz
  split at hz
  ·have⟨ns,i,hz⟩:=bind_some hz
   split at hz
   ·rename_i g
    cases hz;have⟨x,rfl,j⟩:=gK e
    have⟨b,kvs,rfl,l,m,_⟩:=j.dk c.fh;exact⟨b,kvs,ns,rfl,.of l,by rw[m];exact Ef i,g,λp f=>q d _ p _ (c.trans (Ex.made (o:=.lst ((l3 ns).map V.int)) c.fh f)) (c.hh.free f) (c.fh.free f) aZ (yJ _)⟩
   ·cases hz
  ·cases hz
end
noncomputable def sv:Sl->D
 |.sh d=>d
 |.ow ds=>.lst ds
 |.dk ks ds=>.dk ks ds
 |.dt ks ds=>.dt ks ds
section
variable {X:Cx}{K:Fg1}
def VI.frzG(I:VI K B Hf ρ σ H)(A:ρ[i]?=some (some sl))(r:dC sl=true):∃Hf',aQ Hf Hf'/\VI K B Hf' (ρ.set i (some (.sh (sv sl)))) σ H:=by
 have⟨v,C,f⟩:=I.ok i _ A;have⟨p,w,rfl,N,b⟩:=f.own r;have Y:=I.own i _ p A r C;have hs:=gI (o:=w) N
 have Z:Dn K (aI Hf p w) (sv sl) (.ref p):=by
  cases sl with
  |sh d=>cases r
  |ow ds=>have⟨q,xs,e,_,c,m⟩:=f;cases e;rw[c]at b;cases b;rwa[iL (bH.of aZ) (aY.same m hs)]
  |dk ks ds=>have⟨q,xs,e,_,c,m,E⟩:=f;cases e;rw[c]at b;cases b;rwa[C3 aZ m (aY.same E hs)]
  |dt ks ds=>have⟨q,xs,e,_,c,m,E⟩:=f;cases e;rw[c]at b;cases b;rwa[yw aZ m (aY.same E hs)]
 have F:=(qa.mp A).1
 have g:∀{j:Nat} {s:Sl},(ρ.set i (some (.sh (sv sl))))[j]?=some (some s)->(j=i/\s=.sh (sv sl))\/(j≠i/\ρ[j]?=some (some s)):=λ{j s} e=>by
  by_cases l:i=j
  ·subst l
   rw[dc F]at e;cases e;rwa[.inl ⟨rfl,rfl⟩]
  ·rw[za l]at e
   rwa[.inr ⟨λz=>l z.symm,e⟩]
 have G:∀x u,w≠.frz x u:=λx u z=>by
  subst z
  cases sl with
  |sh d=>cases r
  |ow ds=>have⟨q,xs,e,_,c,_⟩:=f;cases e;rw[c]at b;cases b
  |dk ks ds=>have⟨q,xs,e,_,c,_⟩:=f;cases e;rw[c]at b;cases b
  |dt ks ds=>have⟨q,xs,e,_,c,_⟩:=f;cases e;rw[c]at b;cases b
 erw[⟨aI Hf p w,hs,I.ex.frz Y b N G,by simp[I.len],λj s e=>?_,λj s a e o q=>?_,λj k P Q a e1 e2 L M R T=>?_⟩]
 ·rcases g e with⟨rfl,rfl⟩|⟨l,e⟩
  ·exact⟨_,C,Z⟩
  ·have⟨u,O,y⟩:=I.ok j s e
   erw[⟨u,O,?_⟩]
   have J:∀{a:Addr},dC s=true->u=.ref a->a≠p:=λ{a} o U X=>by
    subst U X;rwa[l (I.dis j i s _ _ e A o r O C)]
   cases s with
   |sh d=>rwa[Dn.same y hs]
   |ow d=>have⟨a,xs,e1,e2,n,h⟩:=y;exact⟨a,xs,e1,by rw[aK (J rfl e1)];exact e2,n,aY.same h hs⟩
   |dk ks d=>have⟨a,xs,e1,e2,n,h⟩:=y;exact⟨a,xs,e1,by rw[aK (J rfl e1)];exact e2,n,h.1,aY.same h.2 hs⟩
   |dt ks d=>have⟨a,xs,e1,e2,n,h⟩:=y;exact⟨a,xs,e1,by rw[aK (J rfl e1)];exact e2,n,h.1,aY.same h.2 hs⟩
 ·rcases g e with⟨rfl,rfl⟩|⟨l,e⟩
  ·cases o
  ·rwa[I.own j s a e o q]
 ·rcases g e1 with⟨rfl,rfl⟩|⟨l,e1⟩
  ·cases L
  ·rcases g e2 with⟨rfl,rfl⟩|⟨hk,e2⟩
   ·cases M
   ·rwa[I.dis j k P Q a e1 e2 L M R T]
noncomputable def vz(i:Nat)(f:av->aR):av->aR:=λρ=>match ρ[i]? with
 |some (some sl)=>if dC sl=true then f (ρ.set i (some (.sh (sv sl)))) else f ρ
 |_=>f ρ
def Eg(i:Nat)(h:bR X sts (sV X.K B f)):bR X sts (sV X.K B (vz i f)):=h.imp λD d H ⟨Hf,ρ,I,q⟩=>by
 unfold vz at q
 split at q
 ·rename_i sl e
  split at q
  ·rename_i b
   have⟨a,z,c⟩:=I.frzG e b;exact⟨a,_,c,gM.mono q z⟩
  ·exact⟨Hf,ρ,I,q⟩
 ·exact⟨Hf,ρ,I,q⟩
def sw(ds:T4)(k d:D):T0:=(j0 k).bind λn=>(iG ds.length n).map λj=>ds.set j d
def qj(i:Nat)(fk fv:av->T5):av->aR:=λρ=>match ρ[i]? with
 |some (some (.ow ds))=>match (fv ρ).bind λd=>(fk ρ).bind λk=>sw ds k d with|some ds'=>.nx (ρ.set i (some (.ow ds')))|none=>.bad
 |_=>.bad
variable {pos:Pos}
def N2(F:X.N[j]?=some x)(G:PE X ix (eB X.K B fk))(J:PE X value (eV X.K B fv))(e:gY X.u.scope x:=by first|exact ub rfl|exact fg (ub rfl)|exact fg (fg rfl))(L:(x == 'g')=false:=by decide)(r:(x == 'c')=false:=by decide)(ha:∀ v,assign (.Subscript (.Name x p1) ix pos') X.u v=(do
   let f ← holding [v] (eval (.Name x p1) X.u)
   let o ← holding [v,f] (eval ix X.u)
   standAt pos'
   holding [v,f,o] (setItem f o v)
   release [v,f,o] []):=by intro _;rfl)(hs:swapsWithSole [.Subscript (.Name x p1) ix pos'] value pos.line X.u=pure false:=by rfl)(M:swappedStores [.Subscript (.Name x p1) ix pos'] value X.u=pure none:=by rfl)(O:(assignEach [.Subscript (.Name x p1) ix pos'] X.u).map (·.2)=[assign (.Subscript (.Name x p1) ix pos') X.u]:=by rfl) :
  PS X (.Assign [.Subscript (.Name x p1) ix pos'] value pos) (sV X.K B (qj j fk fv)) :=
 (IT J (IS (gh F e L r) G J2 ha) hs M O).imp λD w H ⟨Hf,ρ,I,q⟩=>by
  unfold qj at q
  split at q
  ·rename_i ds c
   split at q
   ·rename_i ds' hz
    have⟨d,i,hz⟩:=bind_some hz;have⟨k,l,hz⟩:=bind_some hz;have⟨n,hn,hz⟩:=bind_some hz;have⟨m,hm,hz⟩:=yb.mp hz;subst hz;have⟨A,s,C⟩:=I.ok j _ c;erw[⟨Hf,ρ,d,I,i,λg P v a z=>⟨A,s,g,ρ,k,I.ext a,l,λh Q y b dk=>?_⟩⟩];have⟨p,xs,rfl,R,E,u⟩:=(jL.ext C a).ext b;unfold j0 at hn
    split at hn
    ·cases hn
     erw[⟨p,xs,_,m,rfl,dk.sc.2,E,by rw[<-u.length];exact hm,q h w _ (a.ff.trans b.ff) ?_⟩];exact((I.ext a).ext b).mut c s (u.zset (z.same b.ff) m)
    ·cases hn
   ·rwa[q.elim]
  ·rwa[q.elim]
end
noncomputable def sy:T4->T5
 |[.sc (.int i)]=>if i.natAbs.log2<1920 then some (.sc (.str (toString i:String))) else none
 |_=>none
def N3{K:Fg1}:PN K (λxs H Q=>∃i,xs=[.int i]/\i.natAbs.log2<1920/\Q (.str (toString i:String)) H) sy:=by
 intro Hf H xs ds z Q s a hz q;unfold sy at hz
 split at hz
 ·split at hz
  ·rename_i b
   cases hz;have⟨x,rfl,c⟩:=gK a
   rw[c.sc.2];exact⟨_,rfl,b,q Hf H _ (.refl s) (cE rfl)⟩
  ·cases hz
 ·cases hz
def N4:=fD λi j=>.bl (decide (i<j))
def N5:typeLookup (.type "list_reverseiterator") "__len__" = pure none:=by rw[vm,ak];kernel_rfl
def N6:typeLookup (.type "list_reverseiterator") "__length_hint__" = pure (some (.builtin "list_reverseiterator.__length_hint__")):=by rw[vm,ak];kernel_rfl
section
variable {A:Around}{s:Shared}
def N7(a:s.heap.IsRevIter I l i)(h:Q false s):wpAny (model prog w) A (Builtin.List.listLengthHint (.ref I)) Q E s:=by
 delta Builtin.List.listLengthHint;erw[aa (wm a.typeIs N5 ?_)];show wpAny _ A (specialOf (ref I) (ofString "__length_hint__") >>= _) _ _ _;erw[aa (wm a.typeIs N6 ?_)];generalize c:("list_reverseiterator.__length_hint__" : String)=id0
 wp_delta
 rw[show splitId id0=some ("list_reverseiterator","__length_hint__") from by subst c;decide];subst c;erw[aa (mr (T:="list_reverseiterator") (b:=true) a.typeIs (by rw[isSubtype_type];kernel_rfl) ?_)];rwa[ja h]
def N8(O:A.handled=none)(p:s.heap.IsRevIter I l ((items.size:Int) - 1))(hl:s.heap.IsList l items)(H:l≠I)(hn:items.size<=sizeLine)(P:∀h' tk q c,(∀b o,b≠I->s.heap.get? b=some o->h'.get? b=some o)->h'.get? s.heap.objs.size=some { cls:=.type "list",dict:=none,data:=.seq q c,slots:=#[] }->ItemsOf (λi v=>items[items.size - 1 - i]?=some v) q items.size->Q (.ref s.heap.objs.size) { s with heap:=h',toks:=tk }) :
  wpAny (model prog w) A (call (.type "list") [.ref I]) Q E s:=by
 have z:I<s.heap.objs.size:=by have⟨o,y,_⟩:=p;rwa[wb y]
 have K:l<s.heap.objs.size:=by have⟨o,y,_⟩:=hl;rwa[wb y]
 refine callType_codes (Q₁:=λh d=>h=.ref s.heap.objs.size/\d={ s with heap:=s.heap.push { cls:=.type "list",data:=.seq #[] } }) PySem.F.called_list (PySem.F.typeCall_list_1 _) PySem.F.entry_list_init (code_list_new _ ⟨rfl,rfl⟩) λh d j=>?_
 have⟨rfl,rfl⟩:=j;have r:(s.heap.push { cls:=.type "list",data:=.seq #[] }).get? s.heap.objs.size=some { cls:=.type "list",data:=.seq #[] }:=bc _ rfl;erw[⟨⟨_,r,rfl⟩,PySem.F.args_list_init_2 _ _,?_⟩];show wpAny _ _ (do let B ← Builtin.List.listItems (.ref s.heap.objs.size);Builtin.List.listUpdate (.ref s.heap.objs.size) (λ_=>#[]);letGo B.toList.reverse;Builtin.List.listExtendWith (.ref s.heap.objs.size) (.ref I) .none) _ _ _;erw[aa (listItems_at r rfl ?_)];erw[aa (bp r rfl ?_ (ae _) (ae _))];erw[aa (mn ?_)];have f:=be (mapSeq (λ_=>(#[]:Tf))) r rfl;have g:∀b o,b≠s.heap.objs.size->s.heap.get? b=some o->((s.heap.push { cls:=.type "list",data:=.seq #[] }).update s.heap.objs.size (mapSeq (λ_=>(#[]:Tf)))).get? b=some o:=λb o u e=>(qc _ _ (vf u)).trans (na _ e)
 have a:=p.at (h':=(s.heap.push { cls:=.type "list",data:=.seq #[] }).update s.heap.objs.size (mapSeq (λ_=>(#[]:Tf)))) λo e=>g I o (vc z) e
 have C:=hl.at (h':=(s.heap.push { cls:=.type "list",data:=.seq #[] }).update s.heap.objs.size (mapSeq (λ_=>(#[]:Tf)))) λo e=>g l o (vc K) e
 have W:=Walks.listRev (prog:=prog) (w:=w) (A:=A.in1.in1) O I l H items;have N:Builtin.List.listSameRef (.ref s.heap.objs.size) (.ref I)=false:=by simp[Builtin.List.listSameRef,yl z]
 have G:s.heap.objs.size ∉ [I,l]:=by simp only[cb,lr,or_false,not_or];exact⟨yl z,yl K⟩
 delta Builtin.List.listExtendWith;erw[aa (ao (T:="list_reverseiterator") a.typeIs ?_)];rw[wa (by rw[N];decide)];erw[aa (wpAny_pyIter_revIter a ?_)];erw[aa (ve (N7 a ?_))];rw[wa 'd'];erw[ja ⟨aj PySem.F.plain_extend_loop _,codeAny_extend_loopS W.toS hn _ G _ items.size 0 _ #[] _ rfl (ae _) ⟨ae _,by simpa using a,C⟩ f (ItemsOf.nil _) λJ m L hm x n=>?_⟩];rw[Moved.eq_with hm];erw[⟨rfl,P J.heap J.toks m L (λb o u e=>hm.heap b o (λhmem=>?_) (g b o (vc (wb e)) e)) x n⟩];rcases cb.mp hmem with M|hmem
 ·rwa[absurd (wb e) (by rw[M];rwa[zi _])]
 ·rwa[u (ya.mp hmem)]
end
def vA:T4->T0
 |[.lst ds]=>some ds.reverse
 |_=>none
section
variable {X:Cx}{a:Expr}{pos:Pos}
def N9(r:bD ys its){a:Tf}(h:ItemsOf (λi v=>its.toArray[its.toArray.size - 1 - i]?=some v) a its.toArray.size):bD ys.reverse a.toList:=by
 have e:a.toList=its.reverse:=by
  apply cm;intro i;have⟨b,c⟩:=h;have b:a.size=its.length:=b.trans 'm';by_cases d:i<a.size
  ·have e1:a[i]?=some a[i]:=yg d
   have:=c i _ e1
   rw[jh,e1,<-this,List.getElem?_reverse 'o'];simp
  ·rw[jh,wl 'o',kh (by rw[aq];omega)]
 rw[e];rwa[Paired.zrev r]
def Oa(K:Fg1):T6->Hp->VK->Prop:=λxs H Q=>∃p ys,xs=[.ref p]/\bH K H p ys/\∀l,H l=none->Q (.ref l) (aI H l (.lst ys.reverse))
def Ob(hc:X.k=true)(hg:Gl X "list")(hm:X.mg "list" = none)(C:Gl X "reversed")(E:X.mg "reversed" = none)(ha:PA X [a] t)(he:starEach [a] X.u=[(false,eval a X.u)]:=by rfl)(x:starEach [.Call (.Name "reversed" p2) [a] [] pos2] X.u=[(false,eval (.Call (.Name "reversed" p2) [a] [] pos2) X.u)]:=by rfl):PE X (.Call (.Name "list" p) [.Call (.Name "reversed" p2) [a] [] pos2] [] pos) (uz (Oa X.K) t):=by
 intro j s J H Q I h;erw[dg (kF I hg hm rz ?_ 'd' 'd')];erw[xh ?_ x rfl];rw[x];show wpAny _ _ (spliced [(false,eval (.Call (.Name "reversed" p2) [a] [] pos2) X.u)]) _ _ s;erw[wj (dg (kF I C E Ll ?_ 'd' 'd'))];erw[xh (aU (ha pos2 j s J H _ I h) λus d D=>?_) he rfl];have⟨vs,F,y,M,f,ys,e,N,q⟩:=D;subst e;have⟨u,rfl,P⟩:=gF M;cases P;have⟨its,r,z,hz⟩:=y.list N;have e:its.toArray.size=ys.length:=by rw[xa];rwa[r.length.symm]
 have A:f<d.heap.objs.size:=by have⟨_,R,_⟩:=z.isList;rwa[wb R]
 erw[call_reversed_list z.isList (wn ?_)];have L:ax X j J F { d with heap:=d.heap.push (revObj f ((its.toArray.size:Int) - 1)) }:=y.kept (t':=d.toks) λb o e=>na _ e
 have l2:({ d with heap:=d.heap.push (revObj f ((its.toArray.size:Int) - 1)) }:Shared).heap.IsList f its.toArray:=z.isList.push _;erw[N8 (l:=f) (I:=d.heap.objs.size) (items:=its.toArray) (I.ok.hd hc) ⟨_,bc _ rfl,rfl,rfl⟩ l2 (vc A) (by rw[e];rwa[hz]) λh' G i c n hl v=>?_]
 have m:=N9 r v;have fp:=y.fpOk (H':=F) (ib d.heap.objs.size) (y.hok.fresh (ib _));have⟨T,U,f2,Y,Z,f5⟩:=fp;have B:(d.heap.push (revObj f ((its.toArray.size:Int) - 1))).objs.size=d.heap.objs.size+1:=size_push' _ _
 have I3:=L.laid (a:=(d.heap.push (revObj f ((its.toArray.size:Int) - 1))).objs.size) (o:=.lst ys.reverse) (t':=G) (h':=(d.heap.push (revObj f ((its.toArray.size:Int) - 1))).push { cls:=.type "list",dict:=none,data:=.seq i c,slots:=#[] }) (λb ob g=>na _ g) (ib _)
  ⟨by rw[aq];exact hz,i.toList,c,m,bc _ rfl⟩
 have I4:=I3.turned (t':=G) (it:=d.heap.objs.size) (h':=h') (λ b ob O g=>by
  by_cases w:b=(d.heap.push (revObj f ((its.toArray.size:Int) - 1))).objs.size
  ·subst w
   have g:((d.heap.push (revObj f ((its.toArray.size:Int) - 1))).push { cls:=.type "list",dict:=none,data:=.seq i c,slots:=#[] }).get? (d.heap.push (revObj f ((its.toArray.size:Int) - 1))).objs.size=some ob:=g;rw[bc _ rfl]at g;cases g;rwa[hl]
  ·have g:((d.heap.push (revObj f ((its.toArray.size:Int) - 1))).push { cls:=.type "list",dict:=none,data:=.seq i c,slots:=#[] }).get? b=some ob:=g
   rw[Heap.get?_push_ne _ _ _ w]at g;rwa[n b ob O g]) (by rw[aK (by rw[B];rwa[vc (vo _)])];rwa[T]) U Y Z f5
 exact⟨.ref _,_,I4,rfl,q _ (L.hok.fresh (ib _))⟩
def Oc(r:X.k=true)(s:Gl X "list")(hm:X.mg "list" = none)(f:Gl X "reversed")(g:X.mg "reversed" = none)(ha:PA X [a] (aB X.K B fr))(he:starEach [a] X.u=[(false,eval a X.u)]:=by rfl)(h:starEach [.Call (.Name "reversed" p2) [a] [] pos2] X.u=[(false,eval (.Call (.Name "reversed" p2) [a] [] pos2) X.u)]:=by rfl):PE X (.Call (.Name "list" p) [.Call (.Name "reversed" p2) [a] [] pos2] [] pos) (eW X.K B (wN vA fr)) :=
 (Ob r s hm f g ha he h).imp λu H Q t=>by
  have⟨Hf,ρ,z,I,hz,q⟩:=t;have⟨ds,i,hz⟩:=bind_some hz;erw[⟨Hf,ρ,ds,I,i,λd v vs c e=>?_⟩];unfold vA at hz
  split at hz
  ·cases hz
   have⟨x,rfl,j⟩:=gK e;have⟨b,ys,rfl,m,n⟩:=j.lst c.fh;exact⟨b,ys,rfl,m,λl hl=>q d _ l ys.reverse (c.trans (Ex.made (o:=.lst ys.reverse) c.fh hl)) (c.hh.free hl) (c.fh.free hl) aZ n.zrev⟩
  ·cases hz
end
section
variable {A:Around}{s:Shared}
def Od(p:Paired (HD s.heap k) ds its)(o:Paired (HD s.heap k) es its')(r:∀q∈ds.zip es,iK k q.1 q.2)(g:A.units+k<cLine)(j:Nat)(h:j<its.toArray.size)(i:j<its'.toArray.size) :
  SeqAt.EqAt A s its.toArray[j] its'.toArray[j] (bX (bB k) ds es j)/\(bX (bB k) ds es j=false->nL A s its.toArray[j] its'.toArray[j] (bX (dU k) ds es j)):=by
 have l:its[j]?=some its.toArray[j]:=by simp at h;simp[h]
 have m:its'[j]?=some its'.toArray[j]:=by simp at i;simp[i]
 have⟨d,a,c⟩:=gj p l;have⟨e,b,f⟩:=gj o m;have z:bX (bB k) ds es j=bB k d e:=by delta bX;rw[a,b]
 have n:bX (dU k) ds es j=dU k d e:=by delta bX;rw[a,b]
 rw[z,n];exact⟨lI c f g,λ_=>uG c f (r (d,e) (xG a b)) g⟩
def Eh(G:HD s.heap (k+1) (.lst ds) u)(H:HD s.heap (k+1) (.lst es) v)(I:iK (k+1) (.lst ds) (.lst es))(J:A.units+(k+1)<cLine)(q:Q (dU (k+1) (.lst ds) (.lst es)) s):wpAny (model prog w) A (oneLt' true u v) Q E s:=by
 have⟨a,its,rfl,t,p⟩:=G;have⟨r,its',rfl,t',i⟩:=H;have z:=p.length;have B:=i.length;have⟨⟨x,dd,j,sl⟩,d,l,n,m⟩:=t.isList;have⟨⟨o,e,f,g⟩,h,b,y,c⟩:=t'.isList;simp only at l m b c;subst l m b c
 have C:Q (gl (bX (bB k) ds es) (bX (dU k) ds es) its.toArray.size its'.toArray.size its.toArray.size 0) s:=by
  simp only[xa];rw[<-z,<-B,xF];rwa[q]
 rw[oneLt'_eq];simp only[jp];refine aa (wpAny_cRoomFor_or (.inr 'o') ?_);refine aa (wpAny_callSpecialIfBound?_slot (name:=ofString "__lt__") ⟨_,d,rfl⟩ slot_list_lt (iq slot_list_lt ⟨_,d,rfl⟩ entry_list_lt (args_list_lt_2 _ _) (Cp a r its.toArray its'.toArray n y dd e sl g _ _) ⟨d,h,Od p i I (by show A.units+1+k<cLine;omega),?_⟩));exact zg C
noncomputable def iT:D->Bool|.lst _=>true|_=>false
theorem Ei(g:A.units+(k+1)<cLine):∀{ds es:T4}{its its':T9} (i:Nat),Paired (HD s.heap (k+1)) ds its->Paired (HD s.heap (k+1)) es its'->(∀q∈ds.zip es,iK (k+1) q.1 q.2) →
  (i=0->(ds.head?.map iT).getD true=true/\(es.head?.map iT).getD true=true)->fin=decide (ds.length<es.length)->Q (fA (bB (k+1)) (dU (k+1)) ds es) s->KatLex prog w A true fin Q (its.zip its') i s
 |[],[],_,_,i,.nil,.nil,_,_,c,q=>by subst c;rwa[kat_nil (by simpa [fA] using q)]
 |[],_::_,_,_,i,.nil,.cons _ _,_,_,c,q=>by subst c;rwa[kat_nil (by simpa [fA] using q)]
 |_::_,[],_,_,i,.cons _ _,.nil,_,_,c,q=>by subst c;rwa[kat_nil (by simpa [fA] using q)]
 |d::ds,e::es,_,_,i,.cons a b,.cons j r,m,u,c,q=>by
  rw[ph];have h:∀q∈ds.zip es,iK (k+1) q.1 q.2:=λq n=>m q (by rw[ph];rwa[ia _ n])
  have f:=m (d,e) (by rw[ph];rwa[da]);erw[PySem.W.kat_cons (lI a j g prog w _ _ (kat_go (λhe=>PySem.W.kat_yes ?_) λhe=>kat_no ?_))]
  ·refine Ei g (i+1) b r h (λz=>'o') (by rw[c];simp) ?_
   rw[fA,la he]at q;rwa[q]
  ·rw[fA,wa (by rw[he];rwa[ua])]at q
   by_cases l:i=0
   ·subst l
    have⟨o,p⟩:=u rfl
    cases d with
    |lst ds' =>
     cases e with
     |lst v=>rwa[Eh a j f g q]
     |_=>cases p
    |_=>cases o
   ·have:(true && (i == 0))=false:=by simp[l]
    rw[this];rwa[PySem.W.kat_one _ _ (uG a j f g prog w _ _ q)]
def oJ:D->Bool
 |.lst _=>true
 |.tup (.lst _::_)=>true
 |_=>false
def Oe(j:HD s.heap (k+2) d u)(l:HD s.heap (k+2) e v)(m:iK (k+2) d e)(z:A.units+(k+2)<cLine)(B:(κ=oneType'/\iT d=true/\iT e=true)\/(κ=tuples' true/\iT d=false/\iT e=false/\oJ d=true/\oJ e=true))(q:Q (dU (k+2) d e) s):wpAny (model prog w) A (keyLt' κ u v) Q E s:=by
 rcases B with⟨rfl,g,h⟩|⟨rfl,g,h,b,c⟩
 ·cases d with
  |lst ds =>
   cases e with
   |lst es=>rw[keyLt'_oneType];rwa[Eh j l m z q]
   |_=>cases h
  |_=>cases g
 ·cases d with
  |tup ds =>
   cases e with
   |tup es =>
    have⟨a,its,rfl,t,p⟩:=j;have⟨G,its',rfl,t',i⟩:=l;have⟨H,o,I,n,r⟩:=t;have⟨J,x,y,K,f⟩:=t';erw[kat_lt o r x f (Ei (k:=k) 'o' 0 p i m (λ_=>?_) ?_ q)]
    ·cases ds with
     |nil=>cases b
     |cons C ds =>
      cases es with
      |nil=>cases c
      |cons F es =>
       erw[⟨?_,?_⟩]
       ·cases C <;> first|rfl|cases b
       ·cases F <;> first|rfl|cases c
    ·rw[xa,xa,<-p.length,<-i.length]
   |sc _=>cases c
   |lst _=>cases h
   |dk _ _=>cases c
   |dt _ _=>cases c
   |er _ _ _=>cases c
  |sc _=>cases b
  |lst _=>cases g
  |dk _ _=>cases b
  |dt _ _=>cases b
  |er _ _ _=>cases b
end
def Ej:∀{k:Nat}{d e:D}{u v:Value},HD h k d u->HD h k e v->dU k d e=bY d e/\(cV d e=true->iK k d e):=by
 intro k
 induction k with
 |zero =>
  intro d e u v c f
  cases d with
  |sc a =>
   cases e with
   |sc b=>rw[bY,cV];exact⟨rfl,λh=>h⟩
   |_=>rwa[f.elim]
  |_=>rwa[c.elim]
 |succ k s =>
  intro d e u v c f
  have all:∀{ds es:T4} {j vs:T9},Paired (HD h k) ds j->Paired (HD h k) es vs->fA (bB k) (dU k) ds es=cU ds es/\(gw ds es=true->∀p∈ds.zip es,iK k p.1 p.2):=by
   intro ds es j vs p
   induction p generalizing es vs with
   |nil=>intro q;cases q <;> simp[fA,cU]
   |cons a b i =>
    intro q
    cases q with
    |nil=>simp[fA,cU]
    |cons l w =>
     have⟨m,n⟩:=i w;have⟨o,r⟩:=s a l;erw[⟨?_,λh=>?_⟩]
     ·rw[fA,cU,C8 a l,m,o]
     ·rw[gw,pb]at h
      intro p hp;rw[ph]at hp;rcases cb.mp hp with rfl|hp
      ·rwa[r h.1]
      ·rwa[n h.2 p hp]
  cases d with
  |sc a =>
   cases e with
   |sc b=>rw[bY,cV];exact⟨rfl,λh=>h⟩
   |_=>simp[dU,bY,cV]
  |tup ds =>
   cases e with
   |tup es=>have⟨_,_,_,_,p⟩:=c;have⟨_,_,_,_,g⟩:=f;rw[bY,cV];rwa[all p g]
   |_=>simp[dU,bY,cV]
  |lst ds =>
   cases e with
   |lst es=>have⟨_,_,_,_,p⟩:=c;have⟨_,_,_,_,g⟩:=f;rw[bY,cV];rwa[all p g]
   |_=>simp[dU,bY,cV]
  |_=>rwa[c.elim]
noncomputable def atObj(a:Addr)(o:Obj):HO:=.ext λh=>h.get? a=some o
structure kl(rs:T4)(lt:Nat->Nat->Bool):Prop where
 wo:WO lt
 ok:∀r∈rs,bO LV r=true
 kd:(∀r∈rs,iT r=true)\/∀r∈rs,iT r=false/\oJ r=true
 lo:∀(i j:Nat) (r t:D),rs[i]?=some r->rs[j]?=some t->cV r t=true/\lt i j=bY r t
section
variable {X:Cx}{H:Hp}{s:Shared}{a:Addr}{e1:Nat}{P:PySem.Fin->Shared->Prop}{A:Around}
def Of{P:Program}{H:Hp}{h:Heap}{a:Addr}(e:h.get? a=some o):cw P w H h a (atObj a o):=⟨e,⟨o,e⟩,λ_ _ p k=>k o p⟩
theorem ax.atObj(I:ax X pins σ H s)(h:H a=some (atObj a o)):s.heap.get? a=some o:=(show cw X.p X.w H s.heap a (L2.atObj a o) from I.hok a _ h).1
def Og(I:ax X pins σ H s)(l:H kS=some (.lst ks))(ha:H a=some (atObj a (seqObj "list" #[] e1)))(g:kS≠a)(y:(arrOf st').map (·.2)=out.toArray)(z:failedOf st'=none)(m:bD ys out)(hz:out.length<=1000)(q:∀s',ax X pins σ (aI (aI H kS (.lst [])) a (.lst ys)) s'->P (.done (.ret .none)) s'):wpAny (model X.p X.w) A (ksk_tail a false e1 (.ref kS) st') P E s:=by
 have⟨its,n,rk,f,h⟩:=I.lst l;have i:=I.atObj ha;have r:ax X pins σ (aI H kS (.lst [])) { s with heap:=s.heap.update kS (mapSeq λ_=>(#[]:Tf)),toks:=s.toks }:=I.lstUpd (its':=[]) (n':=if (#[]:Tf).size == its.toArray.size then n else n+1) l f rfl .nil (ae _) s.toks;have c:(s.heap.update kS (mapSeq λ_=>(#[]:Tf))).get? a=some (seqObj "list" #[] e1):=(qc _ _ g).trans i;have d:=get?_update_seq c (λ_=>out.toArray);have j:(aI H kS (.lst [])) a=some (atObj a (seqObj "list" #[] e1)):=by rw[aK g.symm];rwa[ha]
 have v:=r.write (x:=a) (e:=a) (o:=.lst ys) (t':=s.toks) (h':=(s.heap.update kS (mapSeq λ_=>(#[]:Tf))).update a (mapSeq λ_=>out.toArray)) (by rw[j];trivial) 'j' (λb u p e=>(qc _ _ (vf p)).trans e) ⟨_,d⟩
  ⟨by rw[m.length];exact sz 'o',out,_,m,d⟩
 delta ksk_tail;dsimp only;erw[aa (bp f rfl ?_ (by rw[xa,<-rk.length];rwa[h]) (ae _))];erw[aa (mn ?_)];erw[aa (seqEpoch_at c rfl ?_)];rw[y];erw[aa (bp c rfl ?_ (ae _) (by show out.toArray.size<=_;rw[xa];rwa[rq (sz 'o')]))];rw[z];simp only[bne_self_eq_false,lc,qg];rwa[ja (q _ v)]
def y2(I:ax X pins σ H s)(fh:aQ Hf H)(a:Dn X.K Hf r k)(o:bO LV r=true)(b:bj k u):HD s.heap LV r u:=I.den ((a.same fh).at o) b
theorem Ek:∀{rs:T4}{e:T9},Paired (HD h LV) rs e->(∀r∈rs,iT r=false/\oJ r=true)->∃fs,PySem.W.KatTups h e fs/\fs.length=e.length/\∀v∈fs,∃b o,v=.ref b/\h.get? b=some o/\o.cls=.type "list"
 |_,_,.nil,_=>⟨[],.nil,rfl,λv hv=>by cases hv⟩
 |r::rs,u::e,.cons a b,s=>by
  have⟨fs,t,l,g⟩:=Ek b λx w=>s x (ia _ w)
  have⟨y,d⟩:=s r da
  cases r with
  |tup ds =>
   cases ds with
   |nil=>cases d
   |cons G ds =>
    cases G with
    |lst es =>
     have⟨c,its,rfl,z,p⟩:=a;have⟨o,A,B,n,C⟩:=z
     cases p with
     |cons H I =>
      have⟨i,q,rfl,E,_⟩:=H;have⟨F,j,m,_⟩:=E.isList;erw[⟨.ref i::fs,.cons (f:=.ref i) A B C 'm' t,by simp[l],λv hv=>?_⟩];rcases cb.mp hv with rfl|hv
      ·exact⟨i,F,rfl,j,m⟩
      ·rwa[g v hv]
    |sc _=>cases d
    |tup _=>cases d
    |dk _ _=>cases d
    |dt _ _=>cases d
    |er _ _ _=>cases d
  |lst _=>cases y
  |sc _=>cases d
  |dk _ _=>cases d
  |dt _ _=>cases d
  |er _ _ _=>cases d
def El(a:h.get? b=some o)(c:o.cls=T):Looks M h (typeOf (.ref b)) T:=by
 subst c;exact(Looks.ld a).andThen .now
def sA(_:Nat->Nat->Bool)(n:Nat):Prop:=n<64/\n<=1000
def Oh{l vs:T9}{f:Nat}(B:Paired (HD s.heap LV) rs l)(ord:kl rs lt)(hl:l.length=vs.length)(R:sA lt vs.length)(hu:A.units+LV<cLine)(p:∀(m:SortSt) (n:Array Nat),Ix vs.length n->Up lt n vs.length->(arrOf m).map (·.2)=(n.toList.map λi=>vs.getD i Value.none).toArray->failedOf m=none->wpAny (model X.p X.w) A (ksk_tail a false f d m) P E s) :
  wpAny (model X.p X.w) A (ksk_end a false vs.toArray f d l.toArray) P E s:=by
 have h6:=R.1;delta ksk_end;dsimp only;simp only[lc,qg];have hrl:=B.length;by_cases q:vs.toArray.size<2
 ·rw[la q,la q]
  erw[aa (ja ?_)];rw[StateT.run_pure];erw[aa (ja ?_)];dsimp only;rw[xa]at q;erw[p _ (range vs.length).toArray (yj _) (λi j hij hj=>?_) ?_ rfl]
  ·have:i=j:=by omega
   rw[this];rwa[ord.wo.irr _]
  ·show ((l.toArray.zip vs.toArray)).map (·.2)=_
   have e1:(l.toArray.zip vs.toArray).map (·.2)=vs.toArray:=by
    apply xv;simp[List.map_snd_zip,hl]
   rw[e1]
   congr 1
   apply cm;intro i;by_cases u:i<vs.length
   ·simp[u]
   ·simp[u]
 ·rw[wa q,wa q]
  rw[xa]at q
  have run:∀κ:SortKind,((κ=oneType'/\∀r∈rs,iT r=true)\/(κ=tuples' true/\∀r∈rs,iT r=false/\oJ r=true))->wpAny (model X.p X.w) A (sortRuns'.run (SortSt.mk' κ (l.toArray.zip vs.toArray) #[] 7 none) >>= λx=>ksk_tail a false f d x.2) P E s:=by
   intro κ K;erw[aa (PySem.W.kat_run (ks:=l) (vs:=vs) (Q:=λm F=>wpAny (model X.p X.w) A (ksk_tail a false f d m) P E F) (G:=λn F=>F=s/\Ix vs.length n/\Up lt n vs.length) hl 'o' h6 (λn m F hs H hf ⟨e,g1,g2⟩=>?_) ?_)]
   ·subst e
    rwa[p m n g1 g2 (PySem.W.kat_snds hl H) hf]
   ·refine dR.wp (λi j C u hj hC=>?_) (λn I=>⟨rfl,I⟩) (NV ord.wo 'o')
    delta PySem.W.kas_ask;have y:i<l.length:=by omega
    have z:j<l.length:=by omega
    have⟨ri,U,Y⟩:=gj B (show l[i]?=some l[i] by simp[y]);have⟨rj,Z,dj⟩:=gj B (show l[j]?=some l[j] by simp[z]);have ei:l.getD i Value.none=l[i]:=by simp[y]
    have ej:l.getD j Value.none=l[j]:=by simp[z]
    rw[ei,ej];have⟨o1,o2⟩:=ord.lo i j ri rj U Z;have N:=me U;have O:=me Z;have lo:=Ej Y dj;erw[Oe (k:=7) Y dj (lo.2 o1) 'o' ?_ (by rw[lo.1,<-o2];rwa[hC])];rcases K with⟨rfl,h⟩|⟨rfl,h⟩
    ·rwa[.inl ⟨rfl,h _ N,h _ O⟩]
    ·rwa[.inr ⟨rfl,(h _ N).1,(h _ O).1,(h _ N).2,(h _ O).2⟩]
  rcases ord.kd with hk|hk
  ·refine aa (PySem.W.kas_kind (T:=.type "list") 'o' (λv J=>?_) rfl rfl (run _ (.inl ⟨rfl,hk⟩)))
   have⟨i,u⟩:=List.getElem?_of_mem J;have⟨r,qr,dr⟩:=gj B u
   have:=hk r (me qr)
   cases r with
   |lst es =>
    have⟨c,its,rfl,pl,_⟩:=dr;have⟨o,L,M,_⟩:=pl.isList;rwa[El L M]
   |_=>cases this
  ·have⟨fs,t,lf,g⟩:=Ek B hk
   erw[aa (PySem.W.kat_kind (T:=.type "list") t 'o' (λv J=>?_) rfl (run _ (.inr ⟨rfl,hk⟩)))];have⟨b,o,rfl,L,M⟩:=g v J;rwa[El L M]
end
section
variable {X:Cx}{pins:T1}{σ:St}{H Hf:Hp}{s:Shared}{a kS:Addr}{e1 k:Nat}{P:PySem.Fin->Shared->Prop}
def Oi(G:aG X.p X.w X.K X.mg X.base bC k f fd [p] sp)(c:aL k X.A.in1.in1)(d:dq X.K fd [p] [])(I:ax X pins σ H s)(r:bj v u)(h:sp [v] H Q E0):wpAny (model X.p X.w) X.A.in1.in1 (call (.ref f) [u]) (EP X pins σ Q) (λ_ _=>False) s:=by
 have b:BindsTo s fd ⟨[u],[]⟩ ([p].zip [u]):=by have:=d s [u] I.kIn rfl;(rw[jd]at this;rwa[this])
 erw[qm (jk (G.run X.A.in1.in1 X.t s H ⟨[u],[]⟩ [u] [v] Q E0 c I.env0.in1.in1 b (.cons r .nil) h) λr i a=>?_)]
 cases r with
 |error e=>rwa[a.elim]
 |ok g =>
  cases g with
  |ret u=>rwa[I.after a]
  |next=>rwa[elim a]
  |brk=>rwa[elim a]
  |cont=>rwa[elim a]
structure KI(X:Cx)(pins:T1)(σ:St)(Hf H:Hp)(a kS:Addr)(o:Obj)(rs:T4)(s:Shared)(Hf' H':Hp)(ks:T6):Prop where
 inv:ax X pins σ H' s
 st:H' kS=some (.lst ks)
 at_:H' a=some (atObj a o)
 fr:∀b ob,b≠kS->H b=some ob->H' b=some ob
 ff:aQ Hf Hf'
 fh:aQ Hf' H'
 nw:∀b,Hf' b≠none->Hf b≠none\/kK H b
 nf:∀b o u,Hf' b=some (.frz o u)->Hf b=some (.frz o u)
 dn:aY X.K Hf' rs ks
def Oj(G:aG X.p X.w X.K X.mg X.base bC k f fd [p] (bQ X.K 1 F))(hr:aL k X.A.in1.in1)(J:dq X.K fd [p] [])(I:ax X pins σ H s)(Y:H kS=some (.lst []))(ha:H a=some (atObj a (seqObj "list" #[] e1)))(Z:kS≠a)(hfk:Hf kS=none)(fh:aQ Hf H)(hd:aY X.K Hf ds xs)(rv:bD xs vs)(hF:∀(i:Nat) d,ds[i]?=some d->∃r,rs[i]?=some r/\F [d]=some r)(hl:rs.length=ds.length)(M:sA lt ds.length)(ord:kl rs lt)(q:∀Hf' H' ks s' (L:Array Nat) B ys,KI X pins σ Hf H a kS (seqObj "list" #[] e1) rs s' Hf' H' ks->Ix ds.length L->Up lt L ds.length->ys=L.toList.map (λi=>xs.getD i V.non)->ax X pins σ (aI (aI H' kS (.lst [])) a (.lst ys)) B->P (.done (.ret .none)) B) :
  wpAny (model X.p X.w) X.A.in1.in1 (ksk_rest a (.ref f) false vs.toArray e1 (.ref kS)) P E s:=by
 have l1:ds.length=xs.length:=hd.length;have l2:xs.length=vs.length:=rv.length;have h6:=M.2;delta ksk_rest;erw[aa (zo ?_)];rw[List.forIn_toArray];erw[aa (ksk_fold (λi s'=>∃Hf' H' ks,KI X pins σ Hf H a kS (seqObj "list" #[] e1) (rs.take i) s' Hf' H' ks) vs 0 s ⟨Hf,H,[],⟨I,Y,ha,λ_ _ _ h=>h,aQ.refl _,fh,λ_ h=>.inl h,λ_ _ _ h=>h,by rw[List.take_zero];rwa[.nil]⟩⟩ ?step ?done)]
 case step =>
  rintro j x s' hx ⟨Hf',H',ks,K⟩;simp only[yf]at K ⊢;have hj:j<vs.length:=(qa.mp hx).1;have⟨v,qv,rx⟩:=gj rv hx;have⟨d,qd,dd⟩:=gj hd qv;have⟨r,qr,hr'⟩:=hF j d qd;have hkl:ks.length<=1000:=by rw[<-K.dn.length,de];omega
  erw[aa (wpAny_attempt (gf (Oi (Q:=λv N=>∃g,Ex Hf' H' g N/\Dn X.K g r v) G hr J K.inv rx ⟨Hf',[d],r,K.fh,.cons (dd.same K.ff) .nil,rfl,hr',λg N v m dv=>⟨g,m,dv⟩⟩) (λu B he=>?_) λ_ _ h=>h.elim))];have⟨w,N,I2,lz,g,m,dw⟩:=he;dsimp only;have O:N kS=some (.lst ks):=m.hh _ _ K.st;have⟨its,n,rk,C,hkz⟩:=I2.lst O
  have R:g kS=none:=by
   cases z:g kS with
   |none=>rfl
   |some o =>
    rcases m.nw kS (by rw[z];rwa[λz=>nomatch z]) with y|y
    ·rcases K.nw kS y with y|y
     ·rwa[absurd hfk y]
     ·exact(y.no Y (λ_ z=>nomatch z)).elim
    ·exact(y.no K.st (λ_ z=>nomatch z)).elim
  have I3:ax X pins σ (aI N kS (.lst (ks++[w]))) { B with heap:=B.heap.update kS (mapSeq (·.push u)),toks:=B.toks }:=I2.lstUpd (its':=its++[u]) (n':=if (its.toArray.push u).size == its.toArray.size then n else n+1) O C (by show Obj.mk _ _ _ _=_;simp[mapSeq]) (rk.append (.cons lz .nil)) (by rw[ma,nb];rwa[sz 'o']) B.toks;have T:=rk.length;erw[aa (bp C rfl ?_ (by rw[xa,<-T];rwa[sz 'o']) (by show (its.toArray.push u).size<=_;rw[size_push,xa,<-T];rwa[rq (sz 'o')]))];erw[ja ⟨rfl,g,aI N kS (.lst (ks++[w])),ks++[w],⟨I3,aZ,by rw[aK Z.symm];exact m.hh _ _ K.at_,λb ob J e=>by rw[aK J];exact m.hh _ _ (K.fr b ob J e),K.ff.trans m.ff,λb ob e=>?_,λb h=>?_,λb o u h=>K.nf b o u (m.nf b o u h),?_⟩⟩]
  ·rw[aK (cG e R)];rwa[m.fh b ob e]
  ·rcases m.nw b h with y|y
   ·rwa[K.nw b y]
   ·by_cases J:b=kS
    ·subst J;exact(y.no K.st (λ_ z=>nomatch z)).elim
    ·cases z:H b with
     |none=>rwa[.inr (.inl z)]
     |some o =>
      rcases y with y|⟨xs,y⟩
      ·rw[K.fr b o J z]at y;cases y
      ·rw[K.fr b o J z]at y;cases y;rwa[.inr (.inr ⟨xs,z⟩)]
  ·have:rs.take (j+1)=rs.take j++[r]:=by rw[List.take_add_one,qr];rfl
   rw[this];exact(K.dn.same m.ff).zsnoc dw
 case done =>
  rintro s' ⟨Hf',H',ks,K⟩;rw[yf,xg 'o']at K;have⟨its,n,rk,C,hkz⟩:=K.inv.lst K.st;erw[aa (listItems_at C rfl ?_)]
  have hp:Paired (HD s'.heap LV) rs its:=by
   have all:∀{rs:T4} {ks:T6} {us:T9},aY X.K Hf' rs ks->bD ks us->(∀r∈rs,bO LV r=true)->Paired (HD s'.heap LV) rs us:=by
    intro rs ks us d
    induction d generalizing us with
    |nil=>intro v _;cases v;rwa[.nil]
    |cons a b ih=>intro v o;cases v with|cons c e=>rwa[.cons (y2 K.inv K.fh a (o _ da) c) (ih e λr h=>o r (ia _ h))]
   rwa[all K.dn rk ord.ok]
  have hil:its.length=vs.length:=by rw[<-hp.length];omega
  erw[Oh (vs:=vs) hp ord hil (by rw[<-l2,<-l1];rwa[M]) (by have:=hr.units;show _+9<cLine;omega) λst' L h1 h2 h3 h4=>?_]
  have hn:vs.length=ds.length:=by omega
  rw[hn]at h1 h2;erw[Og (ys:=L.toList.map λi=>xs.getD i V.non) K.inv K.st K.at_ Z h3 h4 ?_ (by rw[ba,xf,h1.size];rwa[M.2]) λB I2=>q Hf' H' ks s' L B _ K h1 h2 rfl I2]
  have bd:∀i∈L.toList,i<ds.length:=λi hi=>uf.mp (h1.mem_iff.mp hi)
  have U:∀l:T7,(∀i∈l,i<ds.length)->bD (l.map λi=>xs.getD i V.non) (l.map λi=>vs.getD i Value.none):=by
   intro l
   induction l with
   |nil=>intro _;rwa[.nil]
   |cons i r ih =>
    intro h;have hi:=h i da;erw[.cons ?_ (ih λj hj=>h j (ia _ hj))];have hiv:i<vs.length:=by omega
    have ev:vs[i]?=some vs[i]:=cc hiv;have⟨v,qv,rx⟩:=gj rv ev;show bj (xs.getD i V.non) (vs.getD i Value.none);rw[bb,qv,bb,ev];rwa[rx]
  rwa[U _ bd]
end
section
variable {X:Cx}{pins:T1}{σ:St}{H Hf:Hp}{s:Shared}{a:Addr}
structure y3(X:Cx)(pins:T1)(σ:St)(Hf H:Hp)(a:Addr)(xs:T6)(n:Nat)(lt:Nat->Nat->Bool)(s:Shared)(Hf' H':Hp)(π:Array Nat):Prop where
 inv:ax X pins σ H' s
 at_:H' a=some (.lst (π.toList.map λi=>xs.getD i V.non))
 fa:Hf' a=none
 ff:aQ Hf Hf'
 fh:aQ Hf' H'
 fr:∀b ob,b≠a->H b=some ob->H' b=some ob
 nw:∀b,Hf' b≠none->Hf b≠none\/kK H b
 nf:∀b o u,Hf' b=some (.frz o u)->Hf b=some (.frz o u)
 ix:Ix n π
 up:Up lt π n
def Ol(G:aG X.p X.w X.K X.mg X.base bC k f fd [p] (bQ X.K 1 F))(hr:aL k X.A.in1.in1)(N:dq X.K fd [p] [])(I:ax X pins σ H s)(ha:H a=some (.lst xs))(L:Hf a=none)(fh:aQ Hf H)(hd:aY X.K Hf ds xs)(hF:∀(i:Nat) d,ds[i]?=some d->∃r,rs[i]?=some r/\F [d]=some r)(hl:rs.length=ds.length)(M:sA lt ds.length)(ord:kl rs lt)(q:∀Hf' H' s' (O:Array Nat),y3 X pins σ Hf H a xs ds.length lt s' Hf' H' O->P (.done (.ret .none)) s') :
  wpAny (model X.p X.w) X.A.in1.in1 (ksk_tree a (.ref f) false) P E s:=by
 have⟨vs,n,Z,U,hz⟩:=I.lst ha;have lv:=Z.length;have ld:=hd.length;have h6:=M.2;have g:=get?_update_seq U (λ_=>(#[]:Tf));generalize he1:(if (#[]:Tf).size == vs.toArray.size then n else n+1)=e1 at g;have I1:ax X pins σ (aI H a (atObj a (seqObj "list" #[] e1))) { s with heap:=s.heap.update a (mapSeq λ_=>(#[]:Tf)),toks:=s.toks }:=I.write (x:=a) (e:=a) (by rw[ha];trivial) 'j' (λb u N e=>(qc _ _ (vf N)).trans e) ⟨_,g⟩ (Of g);have I2:ax X pins σ (aI H a (atObj a (seqObj "list" #[] e1))) { s with heap:=(s.heap.update a (mapSeq λ_=>(#[]:Tf))).push (seqObj "tuple" vs.toArray 0),toks:=s.toks }:=I1.kept λb o e=>na _ e
 have I3:=I2.laid (a:=((s.heap.update a (mapSeq λ_=>(#[]:Tf))).push (seqObj "tuple" vs.toArray 0)).objs.size) (o:=.lst []) (t':=s.toks) (h':=((s.heap.update a (mapSeq λ_=>(#[]:Tf))).push (seqObj "tuple" vs.toArray 0)).push (seqObj "list" #[] 0)) (λb o e=>na _ e) (ib _) ⟨ae _,[],0,.nil,bc _ rfl⟩;have c:(aI H a (atObj a (seqObj "list" #[] e1))) ((s.heap.update a (mapSeq λ_=>(#[]:Tf))).push (seqObj "tuple" vs.toArray 0)).objs.size=none:=I2.hok.fresh (ib _);delta ksk_tree;erw[aa (listItems_at U rfl ?_)];erw[aa (bp U rfl ?_ (by rw[xa,<-lv];rwa[hz]) (ae _))];erw[aa (seqEpoch_at g rfl ?_)];erw[aa (wpAny_newTuple ?_ (by show vs.length<=_;rw[<-lv];rwa[hz]))];erw[aa (wpAny_newList ?_ (ae _))];erw[ve ?_];generalize hkS:((s.heap.update a (mapSeq λ_=>(#[]:Tf))).push (seqObj "tuple" vs.toArray 0)).objs.size=kS at I3 c;have j:kS≠a:=λz=>by subst z;rw[aZ]at c;cases c
 have C:H kS=none:=by rw[aK j]at c;rwa[c]
 have m:Hf kS=none:=fh.free C
 have Y:aQ Hf (aI (aI H a (atObj a (seqObj "list" #[] e1))) kS (.lst [])):=λb o e=>by
  rw[aK (cG e m),aK (cG e L)];rwa[fh b o e]
 have h3:∀{b:Addr},b≠a->b≠kS->(aI (aI H a (atObj a (seqObj "list" #[] e1))) kS (.lst [])) b=H b:=λ{b} B l=>by rw[aK l,aK B]
 erw[Oj (kS:=kS) G hr N I3 aZ (by rw[aK j.symm,aZ]) j m Y hd Z hF hl M ord λHf' H' ks s' O s2 ys K Q R T I4=>q Hf' (aI (aI H' kS (.lst [])) a (.lst ys)) s2 O ?_]
 have v:Hf' a=none:=by
  cases z:Hf' a with
  |none=>rfl
  |some o =>
   rcases K.nw a (by rw[z];rwa[λz=>nomatch z]) with y|y
   ·rwa[absurd L y]
   ·exact(y.no (by rw[aK j.symm,aZ]) (λ_ z=>by unfold atObj at z;cases z)).elim
 have J:Hf' kS=none:=by
  cases z:Hf' kS with
  |none=>rfl
  |some o =>
   rcases K.nw kS (by rw[z];rwa[λz=>nomatch z]) with y|y
   ·rwa[absurd m y]
   ·exact(y.no aZ (λ_ z=>nomatch z)).elim
 subst T;erw[⟨I4,aZ,v,K.ff,λb o e=>?_,λb ob B e=>?_,λb h=>?_,K.nf,Q,R⟩]
 ·rw[aK (cG e v),aK (cG e J)];rwa[K.fh b o e]
 ·have l:b≠kS:=λz=>by subst z;rw[C]at e;cases e
  rw[aK B,aK l];rwa[K.fr b ob l (by rw[h3 B l];rwa[e])]
 ·rcases K.nw b h with y|y
  ·rwa[.inl y]
  ·have B:b≠a:=λz=>by subst z;exact h v
   have l:b≠kS:=λz=>by subst z;rwa[h J]
   unfold kK at y;rw[h3 B l]at y;rwa[.inr y]
def Em(G:aG X.p X.w X.K X.mg X.base bC k f fd [p] (bQ X.K 1 F))(M:aL k X.A.in1.in1)(N:dq X.K fd [p] [])(I:ax X pins σ H s)(fh:aQ Hf H)(C:aY X.K Hf ds xs)(n:∀R:T9->Shared->Prop,(∀h' tk vs,(∀b o,s.heap.get? b=some o->h'.get? b=some o)->bD xs vs->R vs { s with heap:=h',toks:=tk })->wpAny (model X.p X.w) X.A.in1 (collect u) R X.xe s)(O:∀(i:Nat) d,ds[i]?=some d->∃r,rs[i]?=some r/\F [d]=some r)(hl:rs.length=ds.length)(v:sA lt ds.length)(ord:kl rs lt)(q:∀Hf' H' l (j:Array Nat),Ex Hf H Hf' H'->H l=none->Hf' l=none->H' l=some (.lst (j.toList.map λi=>xs.getD i V.non))->Ix ds.length j->Up lt j ds.length->Q (.ref l) H') :
  wpAny (model X.p X.w) X.A (call (.builtin "sorted") [u] [(ofString "key",.ref f)]) (EP X pins σ Q) X.xe s:=by
 have T:=C.length;have U:=v.2;refine call_function_entry_kw kind_sorted plain_sorted entry_sorted (ksk_s1 _ _) ?_
 unfold Builtin.«sorted»;refine aa (m:=checkCount "sorted" 1 1 _) (ja ?_);refine aa (n _ λh' tk vs g z=>?_);have E:=z.length;refine aa (wpAny_newList ?_ (by rw[<-E];exact sz 'o'));have B:ax X pins σ H { s with heap:=h',toks:=tk }:=I.kept g;have J:=B.laid (a:=h'.objs.size) (o:=.lst xs) (t':=tk) (h':=h'.push (seqObj "list" vs.toArray 0)) (λb o e=>na _ e) (ib _) ⟨sz 'o',vs,0,z,bc _ rfl⟩;have c:H h'.objs.size=none:=B.hok.fresh (ib _);have x:(h'.push (seqObj "list" vs.toArray 0)).get? h'.objs.size=some (seqObj "list" vs.toArray 0):=bc _ rfl;refine aa (ve (wpAny_call_entry_kw slot_list_sort ⟨_,x,rfl⟩ entry_list_sort ?body (ksk_l1 _ _)))
 case body =>
  have L:=ksk_t1 f h'.objs.size;show wpAny (model X.p X.w) X.A.in1.in1 (Builtin.«list.sort» ⟨[.ref h'.objs.size],[(ofString "key",.ref f)]⟩) _ _ _;rw[L];erw[Ol G M N J aZ (fh.free c) (fh.trans (gI c)) C O hl v ord λHf' H' P j K=>?_]
  erw[⟨_,rfl,ja ⟨_,rfl,.ref h'.objs.size,H',K.inv,rfl,q Hf' H' _ j ⟨K.ff,λb o e=>?_,K.fh,λb h=>?_,K.nf⟩ c K.fa K.at_ K.ix K.up⟩⟩]
  ·have hn:b≠h'.objs.size:=cG e c
   rwa[K.fr b o hn (by rw[aK hn];rwa[e])]
  ·rcases K.nw b h with y|y
   ·rwa[.inl y]
   ·by_cases hn:b=h'.objs.size
    ·subst hn;rwa[.inr (.inl c)]
    ·unfold kK at y;rw[aK hn]at y;rwa[.inr y]
end
def jz(h:Heap)(d:Addr)(es:Array DictEntry)(ep:Nat):Prop:=∃o,h.get? d=some o/\o.ExactDict/\o.data=.dict es ep
section
variable {A:Around}{s:Shared}{es:Array DictEntry}
def jz.ty(x:jz s.heap d es ep):s.TypeIs (.ref d) "dict":=let ⟨o,a,b,_⟩:=x;⟨o,a,b.1⟩
def jz.at(x:jz h d es ep)(e:∀o,h.get? d=some o->h'.get? d=some o):jz h' d es ep:=let ⟨o,a,r⟩:=x;⟨o,e _ a,r⟩
def jz.lt(x:jz h d es ep):d<h.objs.size:=let ⟨_,a,_⟩:=x;wb a
def Om(c:(d == sysModules)=false)(hm:jz s.heap d es ep)(e:Q (.ref s.heap.objs.size) { s with heap:=s.heap.push { cls:=.type "dict_keyiterator",data:=.fields #[.ref d,.int 0 0,.int es.size 0,.int ep 0] } }):wpAny (model prog w) A (pyIter (.ref d)) Q E s:=by
 have⟨o,b,f,a⟩:=id hm;refine wpAny_pyIter_slot hm.ty slot_dict_iter (il slot_dict_iter hm.ty PySem.F.entry_dict_iter ?_ (PySem.F.args_dict_iter_1 _));unfold Builtin.«dict.__iter__»;refine aa ?_;unfold Builtin.Dict.dictSlotNone;refine aa (wpAny_notOrdered_dict hm.ty ?_);show wpAny _ _ (pure (ref d)) _ _ s;refine ja ?_;show wpAny _ _ (Builtin.Dict.showsAll d >>= _) _ _ s;unfold Builtin.Dict.showsAll;rw[wa (by rw[c];exact ua)];refine aa (ja ?_);refine aa (yn b a ?_);refine aa (qt b a ?_);refine aa (pf (ja ⟨_,rfl,"dict_keyiterator",_,⟨_,bc _ rfl,rfl⟩,slot_dict_keyiterator_next.lookup,?_⟩));simpa [rawInt] using e
def On(a:s.heap.IsKeyIter it d i es.size ep)(hm:jz s.heap d es ep)(m:i<es.size)(n:∀h',h'.IsKeyIter it d (i+1) es.size ep->Heap.SameBut it s.heap h'->Q (some es[i].key) { s with heap:=h' }):wpAny (model prog w) A (pyNext (.ref it)) Q E s:=by
 have⟨o,h,j,c⟩:=id a;have⟨p,e,l,f⟩:=id hm;unfold pyNext;refine aa (wpAny_attempt (wk (name:=ofString "__next__") a.typeIs slot_dict_keyiterator_next (il slot_dict_keyiterator_next a.typeIs PySem.F.entry_dict_keyiterator_next ?_ (PySem.F.args_dict_keyiterator_next_1 _))));refine aa (ja ?_);refine aa ?_;refine aa ?_
 first|refine aa (cj a.typeIs (ja ?_));refine aa (gq h c ?_)|refine aa (qk a.typeIs (ja ?_));refine aa (gq h c ?_)
 have g:Builtin.Dict_items.ownsTuple "dict_keyiterator" = false:=by decide
 simp only[g,lc,qg];show wpAny _ _ (if (ref d == Value.none)=true then _ else _) _ _ s;rw[wa (show ¬((ref d == Value.none)=true) from ua)];erw[aa (ja ?_)];erw[aa (yn e f ?_)];rw[wa 'm'];erw[aa (ja ?_)];erw[aa (qt e f ?_)];rw[wa 'm'];erw[ja ?_];simp only[show ¬((i:Int)<0) from by omega,qg,ai,yg m];erw[aa ?_]
 first|refine aa (cj a.typeIs (ja ?_));refine aa (ko a.typeIs ?_)|refine aa (qk a.typeIs (ja ?_));refine aa (ko a.typeIs ?_)
 show wpAny _ _ (setField (.ref it) 1 (rawInt ((i:Int)+1)) >>= _) _ _ s;erw[aa (ii h c 'm' ?_)];have b:(s.heap.update it (mapFields (·.setIfInBounds 1 (rawInt ((i:Int)+1))))).IsKeyIter it d (i+1) es.size ep:=⟨_,be _ h (dh (cf c _)),(Obj.cls_mapFields ..).trans j,by rw[cf c];simp[rawInt]⟩
 erw[aa (ve ?_)];erw[aa (ko (s:={ s with heap:=s.heap.update it (mapFields (·.setIfInBounds 1 (rawInt ((i:Int)+1)))) }) b.typeIs ?_)];show wpAny _ _ (pure es[i].key) _ _ _;rwa[ja (ja ⟨_,rfl,ja (n _ b (oi ..))⟩)]
def Oo(n:A.handled=none)(c:s.heap.IsKeyIter it d i es.size ep)(hm:jz s.heap d es ep)(p:es.size<=i)(q:∀h',Heap.ExtBut it s.heap h'->Q none { s with heap:=h' }):wpAny (model prog w) A (pyNext (.ref it)) Q E s:=by
 have⟨o,h,r,j⟩:=id c;have⟨u,e,l,f⟩:=id hm;unfold pyNext;refine aa (wpAny_attempt (wk (name:=ofString "__next__") c.typeIs slot_dict_keyiterator_next (il slot_dict_keyiterator_next c.typeIs PySem.F.entry_dict_keyiterator_next ?_ (PySem.F.args_dict_keyiterator_next_1 _))));refine aa (ja ?_);refine aa ?_;refine aa ?_
 first|refine aa (cj c.typeIs (ja ?_));refine aa (gq h j ?_)|refine aa (qk c.typeIs (ja ?_));refine aa (gq h j ?_)
 have g:Builtin.Dict_items.ownsTuple "dict_keyiterator" = false:=by decide
 simp only[g,lc,qg];show wpAny _ _ (if (ref d == Value.none)=true then _ else _) _ _ s;rw[wa (show ¬((ref d == Value.none)=true) from ua)];erw[aa (ja ?_)];erw[aa (yn e f ?_)];rw[wa 'm'];erw[aa (ja ?_)];erw[aa (qt e f ?_)];rw[wa 'm'];erw[ja ?_];simp only[show ¬((i:Int)<0) from by omega,qg,ai,wl p];erw[aa ?_]
 first|refine aa (cj c.typeIs (ja ?_));show wpAny _ _ (setField (.ref it) 0 .none >>= _) _ _ s|refine aa (qk c.typeIs (ja ?_));show wpAny _ _ (setField (.ref it) 0 .none >>= _) _ _ s
 refine aa (ii h j 'm' ?_);show wpAny _ _ (newExc (.type "StopIteration") [] >>= _) _ _ _;refine aa ?_;simp only[newExc,newTuple];refine aa (pf ?_ (by size_fits));refine aa (m:=firstArgMember _ _) (ju (a:=Value.none) (by first|rfl|(simp only[firstArgMember];rfl)) ?_);refine pf ?_ (by size_fits);simp only[raiseNew];refine aa (wpAny_handled ?_);rw[show A.in1.handled=none from n];refine aa (ja (wpAny_throw ?_));refine aa (mr (T:="StopIteration") (b:=true) ⟨_,bc _ rfl,rfl⟩ isSubtype_stop ?_);exact ja (q _ (((oi ..).extBut.push _).push _))
def Op(hh:A.handled=none)(I d:Addr)(hne:d≠I)(es:Array DictEntry)(ep:Nat):Walks prog w A I [I,d] [I] es.size (λi v=>∃e,es[i]?=some e/\v=e.key) (λi h=>h.IsKeyIter I d i es.size ep/\jz h d es ep) where
 sub:=λb hb=>by simp at hb;simp[hb]
 frame:=λ_ _ _ x hk=>⟨x.1.at λo e=>hk I 'm' o e,x.2.at λo e=>hk d 'm' o e⟩
 item:=λi s Q E hi x hQ=>On x.1 x.2 hi λh' hit' hs'=>hQ _ h' s.toks ⟨es[i],by simp[hi],rfl⟩ ⟨hit',x.2.at λo e=>(hs'.2 d hne).trans e⟩ λb o hb e=>hs'.extBut b o (λz=>hb (by simp[z])) e
 done:=λs Q E x hQ=>Oo hh x.1 x.2 (ib _) λh' he'=>hQ h' s.toks λb o hb e=>he' b o (λz=>hb (by simp[z])) e
 self:=λ_ _ _ _ x hQ=>wpAny_pyIter_keyiter x.1 hQ
def Oq(lo:(d == sysModules)=false):KdlSrc prog w "dict" d d es.size (λi v=>∃e,es[i]?=some e/\v=e.key) (λh=>jz h d es ep) where
 type:=λ_ x=>x.ty
 there:=λ_ x=>⟨x.lt,x.lt⟩
 keep:=λ_ _ x hk=>x.at λo e=>hk d 'j' o e
 notList:=by decide
 notTuple:=by decide
 hint:=λ_ _ _ _ x hq=>PySem.W.kdl_hint_dict x.ty hq
 iter:=λ_ _ hh x=>⟨_,_,(λ_ _ hq=>Om lo x hq),Op hh _ d (vc x.lt) es ep,⟨⟨_,bc _ rfl,rfl,rfl⟩,x.at λo e=>na _ e⟩⟩
def Eo(n:A.handled=none)(p:(d == sysModules)=false)(x:jz s.heap d es ep)(hn:es.size<=sizeLine)(h:∀h' tk,(∀b o,s.heap.get? b=some o->h'.get? b=some o)->R (es.toList.map (·.key)) { s with heap:=h',toks:=tk }):wpAny (model prog w) A (collect (.ref d)) R E s:=by
 erw[kdu_collect (Oq (es:=es) (ep:=ep) p) n x hn λh' tk a c f=>?_]
 have e:a.toList=es.toList.map (·.key):=by
  apply cm;intro i;have⟨q,j⟩:=f;by_cases g:i<a.size
  ·have⟨e,l,m⟩:=j i _ (yg g)
   rw[jh,yg g,m,yc,jh,l];rfl
  ·rw[jh,wl 'o',kh (by rw[ba,xf];omega)]
 rw[e];rwa[h h' tk c]
end
noncomputable def oK:D->Bool|.sc (.str _)=>true|_=>false
def sB:Nat->D->Bool
 |0,.sc (.int _)=>true
 |1,.sc (.bl _)=>true
 |2,.tup ds=>ds.all oK
 |_,_=>false
def kn:T7->T4->Bool
 |[],[]=>true
 |n::ns,d::ds=>sB n d && kn ns ds
 |_,_=>false
def fw(sg:T7):D->Bool
 |.tup ds=>kn sg ds
 |_=>false
mutual
def dS:D->Bool
 |.sc (.int _)=>true
 |.sc (.bl _)=>true
 |.sc (.str _)=>true
 |.tup ds=>gz ds
 |_=>false
def gz:T4->Bool
 |[]=>true
 |d::ds=>dS d && gz ds
end
mutual
def hD(w:World):D->Int
 |.sc (.int i)=>hashInt i
 |.sc (.bl b)=>if b then 1 else 0
 |.sc (.str x)=>hashStr w x
 |.tup ds=>reduceHash (Builtin.Tuple.tupleHashOf (sC w ds))
 |_=>0
def sC(w:World):List D->Ti
 |[]=>[]
 |d::ds=>hD w d::sC w ds
end
mutual
def dr:D->Nat
 |.tup ds=>sF ds+1
 |_=>1
def sF:List D->Nat
 |[]=>0
 |d::ds=>dr d+sF ds
end
section
theorem Ep(f:∀{s:Shared}{d:D}{u:Value}{Q:Int->Shared->Prop},HD s.heap k d u->dS d=true->Q (hD w d) { s with toks:=s.toks+dr d }->wpAny (model prog w) A (pyHash u) Q E s) :
  ∀{ds:List D} {its:T9} {s:Shared} {b:Array Int} {Q:Array Int->Shared->Prop},Paired (HD s.heap k) ds its->gz ds=true->(∀c:Array Int,c.toList=b.toList++sC w ds->Q c { s with toks:=s.toks+sF ds }) →
  wpAny (model prog w) A (forIn its b λx r=>do let h ← pyHash x;pure PUnit.unit;pure (ForInStep.yield (r.push h))) Q E s
 |_,_,s,b,Q,.nil,_,h=>by rw[List.forIn_nil];rwa[ja (by have:=h b (by simp[sC]);simpa [sF] using this)]
 |d::ds,u::its,s,b,Q,.cons a r,e,h=>by
  rw[gz,pb]at e;rw[List.forIn_cons];erw[aa (aa (f a e.1 ?_))];erw[aa (ja (ja ?_))];erw[Ep f (s:={ s with toks:=s.toks+dr d }) r e.2 λc g=>?_]
  have:=h c (by rw[g,sC];simp)
  rw[sF]at this
  simpa [Nat.add_assoc] using this
def Es:∀{k:Nat}{A:Around}{s:Shared}{d:D}{u:Value}{Q:Int->Shared->Prop},HD s.heap k d u->dS d=true->A.units+k<cLine->Q (hD w d) { s with toks:=s.toks+dr d }->wpAny (model prog w) A (pyHash u) Q E s:=by
 intro k
 induction k with
 |zero =>
  intro A s d u Q h c y q
  cases d with
  |sc v =>
   have⟨_,r⟩:=h
   cases v with
   |int i=>have⟨t,rfl⟩:=r;rwa[ar q]
   |str x=>have⟨t,rfl⟩:=r;rwa[br q]
   |bl b =>
    cases r;refine pyHash_slot (T:="bool") rfl slot_bool_hash entry_int_hash (args_int_hash _) (nr _) (.inr 'o') ?_
    cases b
    ·exact(show wpAny _ _ (do ret (← mkInt 0)) _ _ s from aa (tq (ja ⟨_,_,rfl,q⟩)))
    ·exact(show wpAny _ _ (do ret (← mkInt 1)) _ _ s from aa (tq (ja ⟨_,_,rfl,q⟩)))
   |_=>cases c
  |_=>rwa[h.elim]
 |succ k C =>
  intro A s d u Q h c y q
  cases d with
  |sc v =>
   have⟨_,r⟩:=h
   cases v with
   |int i=>have⟨t,rfl⟩:=r;rwa[ar q]
   |str x=>have⟨t,rfl⟩:=r;rwa[br q]
   |bl b =>
    cases r;refine pyHash_slot (T:="bool") rfl slot_bool_hash entry_int_hash (args_int_hash _) (nr _) (.inr 'o') ?_
    cases b
    ·exact(show wpAny _ _ (do ret (← mkInt 0)) _ _ s from aa (tq (ja ⟨_,_,rfl,q⟩)))
    ·exact(show wpAny _ _ (do ret (← mkInt 1)) _ _ s from aa (tq (ja ⟨_,_,rfl,q⟩)))
   |_=>cases c
  |tup ds =>
   have⟨a,its,rfl,t,p⟩:=h;have⟨o,e,z,n,B⟩:=t;rw[dS]at c;refine pyHash_slot (T:="tuple") ⟨_,e,z⟩ PySem.F.slot_tuple_hash PySem.F.entry_tuple_hash (PySem.F.args_tuple_hash_1 _) (nr _) (.inr 'o') ?_;show wpAny _ _ (Builtin.Tuple.tupleItemsOf (.ref a) >>= _) _ _ s;refine aa (wpAny_tupleItemsOf e B ?_);refine aa ?_;rw[<-bn];refine Ep (A:=A.in1) (k:=k) (λ{s d u Q} f g j=>C f g (by show A.units+1+k<cLine;omega) j) p c λl m=>?_
   show wpAny _ _ (retInt (Builtin.Tuple.tupleHashOf l.toList)) _ _ _;rw[m];erw[aa (tq (ja ⟨_,_,rfl,?_⟩))];rw[hD,dr]at q
   simpa [Nat.add_assoc] using q
  |_=>cases c
def y4:∀{k n:Nat}{A:Around}{s:Shared}{d:D}{u:Value}{Q:Bool->Shared->Prop},HD s.heap k d u->dS d=true->k<=n->Q true s->wpAny (model prog w) A (eqIsQuiet n u) Q E s:=by
 have f:∀{n:Nat} {A:Around} {s:Shared} {v:V} {u:Value} {Q:Bool->Shared->Prop},bj v u->dS (.sc v)=true->Q true s->wpAny (model prog w) A (eqIsQuiet n u) Q E s:=by
  intro n A s v u Q r e q
  have C:carriedByValue u=true:=by
   cases v with
   |int i=>have⟨t,rfl⟩:=r;rfl
   |str x=>have⟨t,rfl⟩:=r;rfl
   |bl b=>cases r;rfl
   |_=>cases e
  rw[eqIsQuiet_byValue n C];rwa[ja q]
 intro k
 induction k with
 |zero =>
  intro n A s d u Q h e hn q
  cases d with
  |sc v=>rwa[f h.2 e q]
  |_=>rwa[h.elim]
 |succ k G =>
  intro n A s d u Q h e hn q
  cases d with
  |sc v=>rwa[f h.2 e q]
  |tup ds =>
   have⟨a,its,rfl,t,p⟩:=h;have⟨o,l,y,m,B⟩:=t;rw[dS]at e;obtain⟨n',rfl⟩:∃n',n=n'+1:=⟨n - 1,'o'⟩
   delta eqIsQuiet;erw[aa (wm (T:="tuple") ⟨_,l,y⟩ PySem.F.slot_tuple_eq.lookup ?_)];show wpAny _ _ (isInstance (.ref a) (.type "tuple") >>= _) _ _ s;erw[aa (mr (T:="tuple") ⟨_,l,y⟩ isSubtype_tuple_tuple ?_)];simp only[oh,lc,qg];erw[aa (km l B ?_)];erw[aa ?_];show wpAny _ _ (forIn its.toArray _ _) _ _ s;rw[<-bn];erw[ll _ (λc r g=>r.1=none/\g=s/\∃es,Paired (HD s.heap k) es c/\gz es=true) _ ?_ ?_ _ _ ⟨rfl,rfl,ds,p,e⟩]
   ·rintro v c r g ⟨j,rfl,es,z,he⟩
    cases z with
    |cons H I =>
     rw[gz,pb]at he;erw[aa (G H he.1 'o' ?_)];simp only[oh,lc,qg];rwa[ja ⟨rfl,rfl,_,I,he.2⟩]
   ·rintro⟨J,K⟩ g ⟨j,rfl,_⟩
    simp only at j;subst j;rwa[ja q]
  |_=>cases e
def Os(q:h.get? c=some o)(r:o.data=.dict es ep)(hs:Heap.SameBut c h h'):∀{k:Nat}{d:D}{u:Value},HD h k d u->HD h' k d u:=by
 intro k
 induction k with
 |zero=>intro d u x;cases d <;> rwa[x]
 |succ k m =>
  intro d u x
  have l:∀{b:Addr} {f:Obj} {xs:Tf} {n:Nat},h.get? b=some f->f.data=.seq xs n->b≠c:=λ{b f xs n} e1 e2 z=>by
   subst z;rw[q]at e1;cases e1;rw[r]at e2;cases e2
  cases d with
  |sc v=>rwa[x]
  |tup ds =>
   have⟨a,its,e,⟨f,i,j,n,g⟩,p⟩:=x;exact⟨a,its,e,⟨f,(hs.2 a (l i g)).trans i,j,n,g⟩,p.zmap λ_ _=>m⟩
  |lst ds =>
   have⟨a,its,e,⟨f,n,i,j,g⟩,p⟩:=x;exact⟨a,its,e,⟨f,n,(hs.2 a (l i (by first|exact g.2.1|exact g.2|exact g.2.2))).trans i,j,g⟩,p.zmap λ_ _=>m⟩
  |_=>exact x.elim
end
theorem Et:∀{ds es:List D},ds.all oK=true->es.all oK=true->(cz ds es=true↔ds=es)
 |[],[],_,_=>by simp[cz]
 |[],_::_,_,_=>by simp[cz]
 |_::_,[],_,_=>by simp[cz]
 |d::ds,e::es,c,f=>by
  rw[uk,pb]at c f;have g:=Et c.2 f.2
  cases d with
  |sc a =>
   cases a with
   |str x =>
    cases e with
    |sc b =>
     cases b with
     |str y=>rw[cz,pb,g,bI];simp[i5]
     |_=>cases f.1
    |_=>cases f.1
   |_=>cases c.1
  |_=>cases c.1
def Ot(a:sB n d=true)(b:sB n e=true):bI d e=true↔d=e:=by
 match n,d,e,a,b with
 |0,.sc (.int i),.sc (.int j),_,_=>rw[bI];simp[i5]
 |1,.sc (.bl i),.sc (.bl j),_,_=>rw[bI];simp[i5]
 |2,.tup ds,.tup es,a,b=>rw[bI,Et a b];simp
theorem Eu:∀{sg:T7}{ds es:List D},kn sg ds=true->kn sg es=true->(cz ds es=true↔ds=es)
 |[],[],[],_,_=>by simp[cz]
 |n::sg,d::ds,e::es,a,b=>by
  rw[kn,pb]at a b;rw[cz,pb,Ot a.1 b.1,Eu a.2 b.2];simp
def Ou(h:sB n d=true):dS d=true:=by
 match n,d,h with
 |0,.sc (.int i),_=>simp[dS]
 |1,.sc (.bl i),_=>simp[dS]
 |2,.tup ds,h =>
  rw[dS]
  have:∀l:List D,l.all oK=true->gz l=true:=by
   intro l
   induction l with
   |nil=>intro _;simp[gz]
   |cons a r b =>
    intro h;rw[uk,pb]at h;rw[gz,b h.2]
    cases a with
    |sc v=>cases v <;> first|(simp[dS];done)|cases h.1
    |_=>cases h.1
  rwa[this ds h]
theorem Ev:∀{sg:T7}{ds:List D},kn sg ds=true->gz ds=true
 |[],[],_=>by simp[gz]
 |n::sg,d::ds,h=>by
  rw[kn,pb]at h;rw[gz,Ou h.1,Ev h.2];rfl
def mT(h:fw sg d=true):dS d=true:=by
 cases d with
 |tup ds=>rw[dS];rwa[Ev h]
 |_=>cases h
def Ew(a:fw sg d=true)(b:fw sg e=true):bI d e=true↔d=e:=by
 cases d with
 |tup ds =>
  cases e with
  |tup es=>rw[bI,Eu a b];simp
  |_=>cases b
 |_=>cases a
open Classical in
def sH(prog:Program)(w:World)(sg:T7):HeapKind prog w D where
 is:=λh d a=>fw sg d=true/\HD h 3 d (.ref a)
 hash:=hD w
 draws:=dr
 room:=λA=>A.units+3<cLine
 inj:=λh1 h2=>uQ h1.2 h2.2
 keeps:=λh ho hd hs=>⟨h.1,Os ho hd hs h.2⟩
 pyHash:=λhu hk h=>Es hk.2 (mT hk.1) hu h
 eqBool:=λ{A E s x y a b Q} hu hx hy h=>by
  erw[lI hx.2 hy.2 hu prog w E Q ?_];rw[C8 hx.2 hy.2]
  have:bI x y=decide (x=y):=by
   by_cases e:x=y
   ·rw[db e];exact(Ew hx.1 hy.1).mpr e
   ·rw[ac e];rwa[bf.mpr λz=>e ((Ew hx.1 hy.1).mp z)]
  rw[this];rwa[h]
 quiet:=λhk h=>y4 hk.2 (mT hk.1) 'o' h
noncomputable def qw(lt:D->D->Bool)(x:D):List D->List D
 |[]=>[x]
 |y::r=>if lt x y=true then x::y::r else y::qw lt x r
def gA(lt:D->D->Bool):List D->List D
 |[]=>[]
 |x::r=>qw lt x (gA lt r)
structure sI(lt:D->D->Bool)(S:List D):Prop where
 tr:∀a∈S,∀b∈S,∀c∈S,lt a b=true->lt b c=true->lt a c=true
 tot:∀a∈S,∀b∈S,a=b\/lt a b=true\/lt b a=true
 as:∀a∈S,∀b∈S,lt a b=true->lt b a=false
theorem y6(lt:D->D->Bool)(x:D):∀l,(qw lt x l).Perm (x::l)
 |[]=>yj _
 |y::r=>by
  delta qw;split
  ·rwa[yj _]
  ·exact((y6 lt x r).cons y).trans (iu x y r)
theorem kW(lt:D->D->Bool):∀l,(gA lt l).Perm l
 |[]=>yj _
 |x::r=>(y6 lt x _).trans ((kW lt r).cons x)
theorem Ey{lt:D->D->Bool}{S:List D}(T:sI lt S)(d:x∈S):∀{l:List D},(∀y∈l,y∈S)->x ∉ l->l.Pairwise (λa b=>lt a b=true)->(qw lt x l).Pairwise (λa b=>lt a b=true)
 |[],_,_,_=>yq _ _
 |y::r,f,hn,h=>by
  have g:=f y da;delta qw;split
  ·rename_i c
   erw[we.mpr ⟨λz hz=>?_,h⟩];rcases cb.mp hz with rfl|hz
   ·rwa[c]
   ·rwa[T.tr x d y g z (f z (ia _ hz)) c ((we.mp h).1 z hz)]
  ·rename_i c
   erw[we.mpr ⟨λz hz=>?_,Ey T d (λz hz=>f z (ia _ hz)) (λz=>hn (ia _ z)) (we.mp h).2⟩];rcases cb.mp ((y6 lt x r).mem_iff.mp hz) with rfl|hz
   ·rcases T.tot _ d y g with e|e|e
    ·rwa[absurd (e ▸ da) hn]
    ·rwa[absurd e c]
    ·rwa[e]
   ·exact(we.mp h).1 z hz
theorem y7{lt:D->D->Bool}{S:List D}(T:sI lt S):∀{l:List D},(∀y∈l,y∈S)->l.Nodup->(gA lt l).Pairwise (λa b=>lt a b=true)
 |[],_,_=>xn
 |x::r,d,hn=>by
  have hn:=se.mp hn;rwa[Ey T (d x da) (λy c=>d y (ia _ ((kW lt r).mem_iff.mp c))) (λz=>hn.1 ((kW lt r).mem_iff.mp z)) (y7 T (λy c=>d y (ia _ c)) hn.2)]
def Ez(T:sI lt l)(hn:l.Nodup)(h:out.Perm l)(p:out.Pairwise λa b=>lt b a=false):out=gA lt l:=by
 have c:=kW lt l
 have o:(gA lt l).Pairwise λa b=>lt b a=false:=by
  have up:=y7 T (λy m=>m) hn;rw[ui]at up ⊢;intro i j f g d;rwa[T.as _ (c.mem_iff.mp (jg f)) _ (c.mem_iff.mp (jg g)) (up i j f g d)]
 refine(h.trans c.symm).eq_of_pairwise (λa b ha n e1 e2=>?_) p o;rcases T.tot a (h.mem_iff.mp ha) b (c.mem_iff.mp n) with e|e|e
 ·rwa[e]
 ·rw[e]at e2;cases e2
 ·rw[e]at e1;cases e1
noncomputable def rk(F:List D->Option D)(d:D):D:=(F [d]).getD .non
def d6(F:List D->Option D)(d e:D):Bool:=bY (rk F d) (rk F e)
structure h8(F:List D->Option D)(ks:List D):Prop where
 ex:∀d∈ks,∃r,F [d]=some r/\bO LV r=true
 kd:(∀d∈ks,iT (rk F d)=true)\/∀d∈ks,iT (rk F d)=false/\oJ (rk F d)=true
 ok:∀d∈ks,∀e∈ks,cV (rk F d) (rk F e)=true
 lt:sI (d6 F) ks
 nd:ks.Nodup
 sm:(ks.length<64\/False)/\ks.length<=1000
open Classical in
def kX(F:List D->Option D)(ks:List D):Option (List D):=if h8 F ks then some (gA (d6 F) ks) else none
def gP(h:F [d]=some r):rk F d=r:=by delta rk;rw[h];rfl
def oM(F:List D->Option D)(ks:List D)(i j:Nat):Bool:=d6 F (ks.getD (min i (ks.length - 1)) .non) (ks.getD (min j (ks.length - 1)) .non)
def h8.irr(h:h8 F ks)(a:d∈ks):d6 F d d=false:=by
 cases e:d6 F d d with
 |false=>rfl
 |true=>have:=h.lt.as d a d a e;rw[e]at this;cases this
def h8.wo(h:h8 F ks)(hn:0<ks.length):WO (oM F ks):=by
 have m:∀i,ks.getD (min i (ks.length - 1)) .non∈ks:=λi=>by
  have g:min i (ks.length - 1)<ks.length:=by omega
  rw[bb,cc g];rwa[jg g]
 erw[⟨λa=>h.irr (m a),λa b c d=>?_,λa b f=>h.lt.as _ (m a) _ (m b) f⟩];unfold oM at d ⊢;rcases h.lt.tot _ (m a) _ (m b) with e|e|e
 ·rw[<-e];rwa[.inr d]
 ·rwa[.inl e]
 ·rwa[.inr (h.lt.tr _ (m b) _ (m a) _ (m c) e d)]
def h8.sz(h:h8 F ks):sA (if 0<ks.length then oM F ks else λ_ _=>false) ks.length:=⟨h.sm.1.resolve_right id,h.sm.2⟩
def h8.ord(h:h8 F ks):kl (ks.map (rk F)) (if 0<ks.length then oM F ks else λ_ _=>false):=by
 erw[⟨?_,λr b=>?_,?_,λi j r t c f=>?_⟩]
 ·split
  ·rename_i hn;rwa[h.wo hn]
  ·exact⟨λ_=>rfl,(λ_ _ _ z=>nomatch z),(λ_ _ z=>nomatch z)⟩
 ·have⟨d,a,rfl⟩:=va.mp b
  have⟨r,g,l⟩:=h.ex d a;rw[gP g];rwa[l]
 ·rcases h.kd with k|k
  ·exact .inl λr b=>by have⟨d,a,rfl⟩:=va.mp b;rwa[k d a]
  ·exact .inr λr b=>by have⟨d,a,rfl⟩:=va.mp b;rwa[k d a]
 ·rw[yc]at c f
  have⟨d,a,rfl⟩:=yb.mp c;have⟨e,he,rfl⟩:=yb.mp f;have m:=(qa.mp a).1;have n:=(qa.mp he).1;erw[⟨h.ok d (me a) e (me he),?_⟩];rw[la 'o'];delta oM d6;rw[show min i (ks.length - 1)=i by omega,show min j (ks.length - 1)=j by omega,bb,a,bb,he];rfl
def h8.out{a:Array Nat}(h:h8 F ks)(c:Ix ks.length a)(d:Up (if 0<ks.length then oM F ks else λ_ _=>false) a ks.length):a.toList.map (λi=>ks.getD i .non)=gA (d6 F) ks:=by
 have hsz:=c.size;have bd:∀i∈a.toList,i<ks.length:=λi b=>uf.mp (c.mem_iff.mp b)
 erw[Ez h.lt h.nd ?_ ?_]
 ·have e:(range ks.length).map (λi=>ks.getD i D.non)=ks:=by
   apply cm;intro i;by_cases b:i<ks.length
   ·simp[b]
   ·simp[b]
  have:=c.map λi=>ks.getD i D.non
  (rw[e]at this;rwa[this])
 ·rw[ui]
  intro i j b f g;rw[ba,xf]at b f;have u:=d i j 'o' 'o';rw[la 'o']at u;have l:gp a i=a[i]:=by rw[mS];simp[b]
  have m:gp a j=a[j]:=by rw[mS];simp[f]
  have n:=bd a[i] 'm';have o:=bd a[j] 'm';unfold oM at u;rw[l,m,show min a[i] (ks.length - 1)=a[i] by omega,show min a[j] (ks.length - 1)=a[j] by omega]at u
  simpa using u
noncomputable abbrev gQ:DecidableEq D:=λa b=>Classical.propDecidable (a=b)
def kY(prog:Program)(w:World)(sg:T7)(p:Addr)(xs:List (D×Addr×Value)):HO:=.ext λh=>(p == sysModules)=false/\∃o es ep,h.get? p=some o/\o.ExactDict/\o.data=.dict es ep/\es.toList=xs.map (@entryOfKey prog w D gQ (sH prog w sg))/\(xs.map (·.1)).Nodup
def sJ(K:Fg1)(Hf:Hp)(sg:T7)(xs:List (D×Addr×Value)):Prop:=∀x∈xs,fw sg x.1=true/\Dn K Hf x.1 (.ref x.2.1)/\x.2.2=.bool true
open Classical in
noncomputable def dZ(ks:List D)(d:D):List D:=if d∈ks then ks else ks++[d]
section
variable {X:Cx}{s:Shared}{xs:List (D×Addr×Value)}
def EA(b:φ h)(c:∃o,h.get? a=some o)(d:∀b c:Heap,φ b->(∀o,b.get? a=some o->c.get? a=some o)->φ c):cw P w H h a (.ext φ):=⟨b,c,d⟩
def EB(d:(p == sysModules)=false)(a:h.get? p=some o)(e:o.ExactDict)(f:o.data=.dict es ep)(he:es.toList=xs.map (@entryOfKey P w D gQ (sH P w sg)))(hn:(xs.map (·.1)).Nodup):cw P w H h p (kY P w sg p xs) :=
 EA ⟨d,o,es,ep,a,e,f,he,hn⟩ ⟨o,a⟩ λ_ _ ⟨b,o,es,ep,c,r⟩ k=>⟨b,o,es,ep,k o c,r⟩
def ax.ndict(I:ax X pins σ H s)(h:H p=some (kY X.p X.w sg p xs)):(p == sysModules)=false/\∃o es ep,s.heap.get? p=some o/\o.ExactDict/\o.data=.dict es ep/\es.toList=xs.map (@entryOfKey X.p X.w D gQ (sH X.p X.w sg))/\(xs.map (·.1)).Nodup :=
 (show cw X.p X.w H s.heap p (kY X.p X.w sg p xs) from I.hok p _ h).1
def Ov(h:oK x=true):bO 1 x=true:=by
 cases x with
 |sc v=>rfl
 |_=>cases h
def EC(h:fw sg d=true):bO 3 d=true:=by
 cases d with
 |tup ds =>
  have str:∀l:List D,l.all oK=true->l.all (bO 1)=true:=λl h=>ud.mpr λx a=>(Ov (ud.mp h x a))
  have one:∀(n:Nat) (d:D),sB n d=true->bO 2 d=true:=λn d h=>by
   match n,d,h with
   |0,.sc (.int i),_=>rfl
   |1,.sc (.bl i),_=>rfl
   |2,.tup ds,h=>rwa[str ds h]
  have all:∀{sg:T7} {ds:List D},kn sg ds=true->ds.all (bO 2)=true:=by
   intro sg
   induction sg with
   |nil=>intro ds h;cases ds with|nil=>rfl|cons _ _=>cases h
   |cons n sg b =>
    intro ds h
    cases ds with
    |nil=>cases h
    |cons d ds =>
     rw[kn,pb]at h;rw[uk,one n d h.1,b h.2];rfl
  rwa[all h]
 |_=>cases h
def ED{a:Addr}(I:ax X pins σ H s)(fh:aQ Hf H)(b:fw sg d=true)(c:Dn X.K Hf d (.ref a)):fw sg d=true/\HD s.heap 3 d (.ref a):=⟨b,I.den ((c.same fh).at (EC b)) rfl⟩
def EE{xs:List (D×Addr×Value)}{K:Fg1}(f:sJ K Hf sg xs){a:Addr}(g:fw sg d=true)(i:Dn K Hf d (.ref a)):sJ K Hf sg (@storedH D gQ xs d a (.bool true))/\(@storedH D gQ xs d a (.bool true)).map (·.1)=dZ (xs.map (·.1)) d:=by
 delta storedH dZ;by_cases h:d∈xs.map (·.1)
 ·have c:(@atKey D gQ xs d).isSome=true:=by
   delta atKey;rw[ci,List.find?_isSome];have⟨x,hx1,b⟩:=va.mp h;exact⟨x,hx1,@db _ (gQ _ _) b⟩
  rw[la c,la h]
  have e:xs.map (@putAt D gQ d (.bool true))=xs:=by
   refine(kg λx hx1=>?_).trans (ux _);show @putAt D gQ d (.bool true) x=x;delta putAt;split
   ·rw[<-(f x hx1).2.2]
   ·rfl
  rw[e];exact⟨f,rfl⟩
 ·have c:¬(@atKey D gQ xs d).isSome=true:=λz=>by
   unfold atKey at z;rw[ci,List.find?_isSome]at z;have⟨x,hx1,b⟩:=z;rwa[h (va.mpr ⟨x,hx1,@ic _ (gQ _ _) b⟩)]
  rw[wa c,wa h];erw[⟨λx hx1=>?_,by rw[gb];rfl⟩];rcases jb.mp hx1 with hx1|hx1
  ·rwa[f x hx1]
  ·rw[ya.mp hx1];exact⟨g,i,rfl⟩
def Ox(O:X.A.units+4<cLine)(I:ax X pins σ H s)(fh:aQ Hf H)(h:H p=some (kY X.p X.w sg p xs))(i:sJ X.K Hf sg xs)(hl:xs.length<=100000)(L:fw sg d=true)(M:Dn X.K Hf d (.ref a))(q:∀s',ax X pins σ (aI H p (kY X.p X.w sg p (@storedH D gQ xs d a (.bool true)))) s'->Q () s'):wpAny (model X.p X.w) X.A (setItem (.ref p) (.ref a) (.bool true)) Q E s:=by
 have⟨l,o,es,ep,m,n,r,v,y⟩:=I.ndict h;refine@wpAny_setItem_heap X.p X.w D gQ (sH X.p X.w sg) X.A E s p a d xs (.bool true) Q (show X.A.units+1+3<cLine by omega) (ED I fh L M) ⟨o,es,ep,m,n,r,v,λx c=>ED I fh (i x c).1 (i x c).2.1,y⟩ (λh' f hs=>q _ ?_) (sz hl);have⟨N,z,B,g,C,F,G,_,J⟩:=f;rwa[I.write (x:=p) (e:=p) (by rw[h];trivial) 'j' (λb u j e=>(hs.2 b j).trans e) ⟨_,g⟩ (EB l g C F G J)]
end
structure NS(X:Cx)(B:Bs)(sg:T7)(j:Nat)(Hf:Hp)(ρ:av)(σ:St)(H:Hp)(ks:List D):Prop where
 vi:VI X.K B Hf ρ σ H
 nj:ρ[j]?=some none
 ex:∃p xs,σ[j]?=some (some (.ref p))/\Hf p=none/\B.h p=none/\H p=some (kY X.p X.w sg p xs)/\xs.map (·.1)=ks/\sJ X.K Hf sg xs
abbrev GN:=av->List D->Option (av×List D)
def qx(X:Cx)(B:Bs)(sg:T7)(j:Nat)(g:GN):TS:=λD σ H=>∃Hf ρ ks ρ' a,NS X B sg j Hf ρ σ H ks/\g ρ ks=some (ρ',a)/\∀Hf' b H',aQ Hf Hf'->NS X B sg j Hf' ρ' b H' a->D.nx b H'
def oO(sg:T7)(fk:av->Option D):GN:=λρ ks=>(fk ρ).bind λd=>if fw sg d=true/\ks.length<=100000 then some (ρ,dZ ks d) else none
noncomputable def jA(gt:D->av->Option av)(f:GN):List D->GN
 |[],ρ,ks=>some (ρ,ks)
 |d::r,ρ,ks=>(gt d ρ).bind λρ1=>(f ρ1 ks).bind λz=>jA gt f r z.1 z.2
def fU(fi:av->Option (List D))(gt:D->av->Option av)(f:GN):GN:=λρ ks=>(fi ρ).bind λds=>jA gt f ds ρ ks
def y8(e:Ex Hf H Hf' H')(a:Hf p=none)(b:H p=some o)(c:∀xs,o≠.tup xs:=by intro xs z;cases z):Hf' p=none:=by
 cases z:Hf' p with
 |none=>rfl
 |some u =>
  rcases e.nw p (by rw[z];rwa[λz=>nomatch z]) with y|y
  ·rwa[absurd a y]
  ·exact(y.no b c).elim
section
variable {X:Cx}{B:Bs}{sg:T7}{j:Nat}{Hf Hf' H H':Hp}{ρ:av}{σ:St}{ks:List D}{K:Fg1}
theorem NS.ext(I:NS X B sg j Hf ρ σ H ks)(e:Ex Hf H Hf' H'):NS X B sg j Hf' ρ σ H' ks :=
 ⟨I.vi.ext e,I.nj,let ⟨p,xs,d,f,g,c,h,b⟩:=I.ex;⟨p,xs,d,y8 e f c (λ_ z=>nomatch z),g,e.hh _ _ c,h,λx a=>⟨(b x a).1,(b x a).2.1.same e.ff,(b x a).2.2⟩⟩⟩
def VI.setU(I:VI K B Hf ρ σ H)(n:ρ[j]?=some none):VI K B Hf ρ (σ.set j x) H:=by
 have c:∀{i:Nat} {sl:Sl},ρ[i]?=some (some sl)->j≠i:=λ{i sl} h z=>by subst z;rw[n]at h;cases h
 erw[⟨I.ex,by simp[I.len],λi sl h=>?_,λi sl p h o q=>?_,λi k f g p a b l m d e=>?_⟩]
 ·have⟨v,a,b⟩:=I.ok i sl h
  exact⟨v,by rw[za (c h)];exact a,b⟩
 ·rw[za (c h)]at q;rwa[I.own i sl p h o q]
 ·rw[za (c a)]at d
  rw[za (c b)]at e;rwa[I.dis i k f g p a b l m d e]
def VI.offE(I:VI K B Hf ρ σ H)(j:Hf p=none)(l:B.h p=none)(f:H p=some (.ext φ)):VI K B Hf ρ σ (aI H p o):=by
 erw[⟨⟨I.ex.ff,λb u h=>?_,λb u h=>?_,I.ex.nw,I.ex.nf⟩,I.len,λi sl h=>?_,I.own,I.dis⟩]
 ·rw[aK (cG h l)];rwa[I.ex.hh b u h]
 ·rw[aK (cG h j)];rwa[I.fh b u h]
 ·have⟨v,g,c⟩:=I.ok i sl h
  erw[⟨v,g,c.away λo z=>?_⟩];subst z
  cases sl with
  |sh d=>cases o
  |ow ds=>have⟨q,xs,e,_,a,_⟩:=c;cases e;rw[f]at a;cases a
  |dk ks ds=>have⟨q,xs,e,_,a,_⟩:=c;cases e;rw[f]at a;cases a
  |dt ks ds=>have⟨q,xs,e,_,a,_⟩:=c;cases e;rw[f]at a;cases a
variable {pos:Pos}
def EF(hr:aL n X.A)(hN:X.N[j]?=some x)(hk:PE X key (eV X.K B fk))(L:gY X.u.scope x:=by first|exact ub rfl|exact fg (ub rfl)|exact fg (fg rfl))(hd:(x == 'g')=false:=by decide)(T:(x == 'c')=false:=by decide)(hs:W0 X (.Constant (.bool true) kk cp) (some (.Subscript (.Name x p1) key pos')) pos:=by rfl):PS X (.Assign [.Subscript (.Name x p1) key pos'] (.Constant (.bool true) kk cp) pos) (qx X B sg j (oO sg fk)):=by
 intro c s m H D I h;have⟨Hf,ρ,ks,ρ',ks',N,C,q⟩:=h;have⟨d,c6,C⟩:=bind_some C
 split at C
 ·rename_i o
  cases C;have⟨p,xs,E,hf,U,Y,F,l⟩:=N.ex
  erw[wpAny_Assign_Subscript (aU (BK c s m H (λv M=>v=.bl true/\M=H) I ⟨rfl,rfl⟩) λr s1 k=>?_) hs];have⟨v,M,I1,rv,e1,e2⟩:=k;subst e1 e2;cases rv;erw[aU (gh hN L hd T c s1 m M (λv O=>v=.ref p/\O=M) I1 ⟨_,E,rfl,rfl⟩) λu s2 k=>?_];have⟨v,O,I2,ru,e1,e2⟩:=k
  subst e1 e2;cases ru;erw[aU (hk c s2 m O (λv P=>∃b,Ex Hf O b P/\Dn X.K b d v) I2 ⟨Hf,ρ,d,N.vi,c6,λb P v i dv=>⟨b,i,dv⟩⟩) λiv s3 k=>?_];have⟨y,P,I3,ry,b,i,Q⟩:=k
  have Z:=N.ext i
  obtain⟨a,rfl⟩:∃a,y=.ref a:=by
   cases d with
   |tup ds=>have⟨a,_,e,_⟩:=Q.tupU;exact⟨a,e⟩
   |_=>cases o.1
  cases ry;have G:P p=some (kY X.p X.w sg p xs):=i.hh _ _ Y
  have J:=y8 i hf Y (λ_ z=>nomatch z);have g:sJ X.K b sg xs:=λx R=>⟨(l x R).1,(l x R).2.1.same i.ff,(l x R).2.2⟩
  erw[Ox (by have:=hr.units;omega) I3 i.fh G g (by rw[<-ba (f:=(·.1)),F];rwa[o.2]) o.1 Q λs4 I4=>⟨m,_,I4,q b m _ i.ff ⟨Z.vi.offE J U G,Z.nj,p,_,E,J,U,aZ,?_,(EE g o.1 Q).1⟩⟩]
  rw[(EE g o.1 Q).2,F]
 ·cases C
def vB(hp:PassesOwn (model X.p X.w) X.A X.u X.xe)(hc:X.k=true)(hi:PI X tg iter (iV X.K B fi))(hg:PG X tg (gV X.K B sl gt))(hj:j ∉ sl)(T:∀d ρ ρ1,gt d ρ=some ρ1->ρ1[j]?=ρ[j]?)(hb:bR X body (qx X B sg j g))(hs:∀x,foldedSetIterable iter X.u x=pure x:=by intro _;rfl):PS X (.For tg iter body [] pos) (qx X B sg j (fU fi gt g)):=(wW hp hc hi hg hb hs).imp λD U H t=>by
 have⟨Hf,ρ,ks,ρ',v,N,n,q⟩:=t;have⟨ds,e,n⟩:=bind_some n;erw[⟨Hf,ρ,ds,N.vi,e,λJ o H1 C ok=>?_⟩];erw[⟨λi m U H=>m=ds.length - i/\i<=ds.length/\∃a f h,NS X B sg j a f U H h/\aQ o a/\jA gt g (ds.drop i) f h=some (ρ',v),⟨ds.length,'m',ae _,o,ρ,ks,N.ext C,aQ.refl _,n⟩,?_⟩];rintro i m P Z t;have⟨rfl,hi,a,f,h,M,l,c⟩:=t;have G:=ok a Z (l.trans M.vi.fh) l M.vi.fh i;by_cases u:i<ds.length
 ·have⟨go,Q⟩:=G.1 ds[i] (by simp[u])
  erw[.inr ⟨go,λs H'=>∃b I L,NS X B sg j b I s H' L/\aQ o b/\jA gt g (ds.drop (i+1)) I L=some (ρ',v),λs H' z=>⟨ds.length - (i+1),'o',rfl,u,z⟩,λx H3 y=>?_⟩];have⟨b,E,dx⟩:=Q x H3 y;rw[vd u]at c;unfold jA at c;have⟨ρ1,F,c⟩:=bind_some c;have⟨z,hz,c⟩:=bind_some c;have R:=M.ext E;erw[⟨b,f,_,ρ1,R.vi,dx,F,λs I' _ hk=>⟨b,ρ1,h,z.1,z.2,⟨I',(T _ _ _ F).trans R.nj,?_⟩,hz,λO Y H'' sm N'=>⟨O,z.1,z.2,N',(l.trans E.ff).trans sm,c⟩⟩⟩];have⟨p,xs,h1,r⟩:=R.ex;exact⟨p,xs,(hk j hj).trans h1,r⟩
 ·have e:i=ds.length:=by omega
  subst e;rw[tj]at c;unfold jA at c;cases c;rwa[.inl ⟨G.2 (ib _),q a P Z (C.ff.trans l) M⟩]
def vC{st:Stmt}(h:PS X st (qx X B sg j g)):bR X [st] (qx X B sg j g):=qX h
end
section
variable {X:Cx}{pos:Pos}
def Oy(sg:T7):PE X (.Dict [] [] pos) (λ_ H Q=>∀p,H p=none->Q (.ref p) (aI H p (kY X.p X.w sg p []))):=λb s c H Q I h =>
 kr ⟨.ref s.heap.objs.size,_,I.laid (a:=s.heap.objs.size) (o:=kY X.p X.w sg s.heap.objs.size []) (t':=s.toks) (λ_ _ q=>na _ q) (ib _) (EB (ji.mpr (vf (vc I.big))) (es:=#[]) (ep:=0) (bc _ rfl) ⟨rfl,rfl,rfl⟩ rfl rfl mh),rfl,h _ (I.hok.fresh (ib _))⟩
def Oz(X:Cx)(B:Bs)(sg:T7)(j:Nat)(F:List D->Option D):TE:=λσ H Q=>∃Hf ρ ks,NS X B sg j Hf ρ σ H ks/\h8 F ks/\∀Hf' H' l ys,Ex Hf H Hf' H'->H l=none->Hf' l=none->H' l=some (.lst ys)->aY X.K Hf' (gA (d6 F) ks) ys->Q (.ref l) H'
def OA(hc:X.k=true)(G:aG X.p X.w X.K X.mg X.base bC k f fd [p] (bQ X.K 1 F))(hr:aL k X.A.in1.in1)(hg:Gl X "sorted")(hm:X.mg "sorted" = none)(hgf:Gl X fn)(hmf:X.mg fn=some (.ref f))(hb:dq X.K fd [p] [])(hN:X.N[j]?=some x)(E:gY X.u.scope x:=by first|exact ub rfl|exact fg (ub rfl)|exact fg (fg rfl))(M:(x == 'g')=false:=by decide)(hcd:(x == 'c')=false:=by decide)(hfd:(fn == 'g')=false:=by decide) :
  PE X (.Call (.Name "sorted" p1) [.Name x p2] [⟨some "key",.Name fn p3,p4⟩] pos) (Oz X B sg j F):=by
 intro b s σ H Q I h;have⟨Hf,ρ,ks,N,ok,q⟩:=h;have⟨a,xs,hσ,hf,hB,hp,n,hxs⟩:=N.ex;erw[dg (kF I hg hm xT ?_ 'd' 'd')];erw[callWith_kw (aU ((dL (gh hN E M hcd) gG 'r') pos b s σ H (λvs L=>vs=[.ref a]/\L=H) I ⟨_,hσ,rfl,rfl⟩) λus s1 ⟨vs,L,I1,O,e1,e2⟩=>?_) 'r' 'r' 'r' 'r'];subst e1 e2;have⟨u,rfl,ru⟩:=gF O;cases ru;erw[aU ((w6 (tY (v:=.ref f) hgf hmf rfl hfd) w5) pos b s1 σ L (λvs H2=>vs=[.ref f]/\H2=L) I1 ⟨rfl,rfl⟩) λus s2 ⟨vs,H2,I2,O,e1,e2⟩=>?_]
 subst e1 e2;have⟨u,rfl,ru⟩:=gF O;cases ru;show wpAny (model X.p X.w) X.A (call (.builtin "sorted") [.ref a] [(ofString "key",.ref f)]) _ _ _;have⟨h0,o,es,ep,h1,h2,h3,h4,h5⟩:=I2.ndict hp;have hl:xs.length=ks.length:=by rw[<-n,ba]
 have hsm:=ok.sm.2
 have dn:aY X.K Hf ks (xs.map λx=>V.ref x.2.1):=by
  rw[<-n]
  have:∀l:List (D×Addr×Value),(∀x∈l,x∈xs)->aY X.K Hf (l.map (·.1)) (l.map λx=>V.ref x.2.1):=by
   intro l
   induction l with
   |nil=>intro _;rwa[.nil]
   |cons y r J=>intro m;rwa[.cons (hxs y (m y da)).2.1 (J λz hz=>m z (ia _ hz))]
  rwa[this xs λx hx=>hx]
 have hes:es.toList.map (·.key)=xs.map λx=>ref x.2.1:=by rw[h4,pc];rfl
 have hsz:es.size=xs.length:=by rw[<-xf,h4,ba]
 erw[Em (rs:=ks.map (rk F)) G hr hb I2 N.vi.fh dn (λR hR=>Eo (A:=X.A.in1) (I.ok.hd hc) h0 ⟨o,h1,h2,h3⟩ (by rw[hsz];rwa[sz 'o']) λh' tk e=>?_) (λi d M=>?_) (by rw[ba]) ok.sz ok.ord λc H' l π ex P T U g Y=>q c H' l _ ex P T U ?_]
 ·rw[hes]
  erw[hR h' tk _ e ?_]
  have:∀l:List (D×Addr×Value),bD (l.map λx=>V.ref x.2.1) (l.map λx=>ref x.2.1):=by
   intro l
   induction l with
   |nil=>rwa[.nil]
   |cons y r J=>rwa[.cons rfl J]
  rwa[this xs]
 ·have⟨r,e1,_⟩:=ok.ex d (me M)
  exact⟨r,by rw[yc,M];show some (rk F d)=_;rw[gP e1],e1⟩
 ·rw[<-ok.out g Y]
  have dn':=dn.same ex.ff
  have C:∀l:T7,(∀i∈l,i<ks.length)->aY X.K c (l.map λi=>ks.getD i D.non) (l.map λi=>(xs.map λx=>V.ref x.2.1).getD i V.non):=by
   intro l
   induction l with
   |nil=>intro _;rwa[.nil]
   |cons i r J =>
    intro m;erw[.cons ?_ (J λz hz=>m z (ia _ hz))];have Z:=m i da;have e1:ks[i]?=some ks[i]:=cc Z;have⟨v,e2,dv⟩:=dn'.zget e1;show Dn X.K c (ks.getD i D.non) ((xs.map λx=>V.ref x.2.1).getD i V.non);rw[bb,e1,bb,e2];rwa[dv]
  rwa[C _ λi Z=>uf.mp (g.mem_iff.mp Z)]
def mU(j:Nat)(g:GN)(F:List D->Option D):av->aR:=λρ=>match ρ[j]? with
 |some none=>(match g ρ [] with|some z=>(match kX F z.2 with|some out=>.rw out|none=>.bad)|none=>.bad)
 |_=>.bad
def EG(sg:T7)(u:X.N.Nodup)(L:X.N[j]?=some x)(d:jE X.u.scope x)(U:PS X s2 (qx X B sg j g))(Y:X.k=true)(G:aG X.p X.w X.K X.mg X.base bC k f fd [p] (bQ X.K 1 F))(Z:aL k X.A.in1.in1)(hg:Gl X "sorted")(hm:X.mg "sorted" = none)(v:Gl X fn)(y:X.mg fn=some (.ref f))(hb:dq X.K fd [p] [])(hs:W0 X (.Dict [] [] q1) (some (.Name x q2)) q3:=by rfl)(hf:W3 X x:=by first|exact .inl rfl|exact .inr rfl|assumption)(c:gY X.u.scope x:=by first|exact ub rfl|exact fg (ub rfl)|exact fg (fg rfl))(hd:(x == 'g')=false:=by decide)(C:(x == 'c')=false:=by decide)(E:(fn == 'g')=false:=by decide) :
  bR X [.Assign [.Name x q2] (.Dict [] [] q1) q3,s2,.Return (some (.Call (.Name "sorted" p1) [.Name x p2] [⟨some "key",.Name fn p3,p4⟩] pos)) pos'] (sV X.K B (mU j g F)) :=
 (iD (mx u L d (Oy sg) hs hf) (iD U (qX (tZ (OA (B:=B) (sg:=sg) Y G Z hg hm v y hb L c hd C E))))).imp λD J H ⟨Hf,ρ,I,q⟩=>by
  unfold mU at q
  split at q
  ·rename_i r
   split at q
   ·rename_i z hz
    split at q
    ·rename_i out b
     intro a ha
     have ok:h8 F z.2:=by
      unfold kX at b
      split at b
      ·assumption
      ·cases b
     have R:out=gA (d6 F) z.2:=by
      unfold kX at b;rw[la ok]at b;exact(md b).symm
     have s:j<J.length:=by rw[<-I.len];exact(qa.mp r).1
     have T:VI X.K B Hf ρ (J.set j (some (.ref a))) (aI H a (kY X.p X.w sg a [])):=(I.setU r).ext (Ex.made I.fh ha);erw[⟨Hf,ρ,[],z.1,z.2,⟨T,r,a,[],by rw[dc s],I.fh.free ha,I.ex.hh.free ha,aZ,rfl,λx d=>by cases d⟩,hz,λe M H' sm h=>⟨e,z.1,z.2,h,ok,λi O l ys P m n o Q=>?_⟩⟩];rwa[q i O l ys (h.vi.ex.trans P) (h.vi.ex.hh.free m) n o (by rw[R];rwa[Q])]
    ·rwa[q.elim]
   ·rwa[q.elim]
  ·rwa[q.elim]
end
def aL.in2(h:aL (k+1) A):aL k A.in1.in1:=⟨h.hd,by have:=h.dp;show A.depth+3 * k+5<_;omega,by have:=h.un;show A.units+1+1+16 * k+200<_;omega⟩
def HG(j:Nat)(r:List D->av->Option av):Prop:=∀ds ρ ρ1,r ds ρ=some ρ1->ρ1[j]?=ρ[j]?
def iU(h:i≠j):∀d ρ ρ1,gN i d ρ=some ρ1->ρ1[j]?=ρ[j]?:=λd ρ ρ1 e=>by cases e;rwa[za h]
def y9:HG j dO:=λds ρ ρ1 e=>by
 unfold dO at e
 split at e
 ·cases e;rfl
 ·cases e
def kZ(b:∀d ρ ρ1,g d ρ=some ρ1->ρ1[j]?=ρ[j]?)(c:HG j r):HG j (bJ g r):=λds ρ ρ1 e=>by
 unfold bJ at e
 split at e
 ·have⟨a,e1,e2⟩:=bind_some e
  exact(c _ _ _ e2).trans (b _ _ _ e1)
 ·cases e
def zr(h:HG j r):∀d ρ ρ1,gT n r d ρ=some ρ1->ρ1[j]?=ρ[j]?:=λd ρ ρ1 e=>by
 unfold gT at e
 split at e
 ·split at e
  ·rwa[h _ _ _ e]
  ·cases e
 ·cases e
end L2
namespace L2
open PySem PyProof.Rows
noncomputable def gR(es:T4)(i j:Nat):Bool:=bY (es.getD i (.sc .non)) (es.getD j (.sc .non))
def qy:T4->T5:=λl=>match l with
 |[.lst es]=>if es≠[]/\es.all (bO LV)=true/\(∀d∈es,∀e∈es,cV d e=true) then es[argBest (gR es) (es.length - 1)]? else none
 |_=>none
theorem vD(a:Nat->Nat->Bool):∀k,argBest a k<=k
 |0=>ib _
 |k+1=>by rw[argBest];have:=vD a k;split <;> omega
variable {K:Fg1}
end L2
namespace L2
open PySem PySem.Spec PyProof.Rows
section
variable {X:Cx}
def zt(K:Fg1):R2:=λx y H Q=>match x,y with|.ref l,.int k=>∃xs,bH K H l xs /\ -(2 ^ 63)<=k/\k<2 ^ 63/\xs.length * k.toNat<=sizeLine/\∀p,H p=none->Q (.ref p) (aI H p (.lst (replicate k.toNat xs).flatten))|_,_=>False
def OB:bF X (binaryOp .Mult) (zt X.K):=by
 intro p s P H x y v u Q I C E h;unfold zt at h
 split at h
 ·rename_i l k
  have⟨xs,hl,G,J,hz,q⟩:=h;cases C;have⟨t,rfl⟩:=E;have⟨its,r,L,_⟩:=I.list hl;have N:=r.length;have⟨⟨M,dd,w,sl⟩,n,e,z,c,A⟩:=L;simp only at z A c;subst z A c;have d:its.toArray.size * k.toNat<=sizeLine:=by rw[xa,<-N];rwa[hz]
  have f:¬its.toArray.size * k.toNat > (2 ^ 63 - 1) / 8:=by have:(sizeLine:Nat)<=(2 ^ 63 - 1) / 8:='d';omega
  have g:¬(!Builtin.List.listFitsIndex k)=true:=by rw[fitsIndex_both G J];rwa[ua]
  have b:¬Builtin.List.listTooLong (its.toArray.size * k.toNat)=true:=by rw[Ki d];rwa[ua]
  have i:foldl (λj o=>j++o) #[] (replicate (if its.toArray.isEmpty=true then 0 else k.toNat) its.toArray)=(replicate k.toNat its).flatten.toArray:=by
   have O:∀m:Nat,foldl (λj o=>j++o) #[] (replicate m its.toArray)=(replicate m its).flatten.toArray:=λm=>by have:=Cg its m [];rw[ze]at this;rwa[this]
   rw[O];cases its with
   |nil=>simp
   |cons a R=>rw[wa 'm']
  refine wpAny_binaryOp_repeat_ref (T:="list") (U:="int") 'd' ⟨_,e,rfl⟩ (λB=>typeIs_int B k t) noFill_list_mul F.fills_int_mul F.slot_int_rmul repeat_list F.slot_int_index.lookup (iq F.slot_int_rmul (typeIs_int s k t) F.entry_int_rmul (F.args_int_rmul_2 _ _) (lm_int_rmul_list_any k t l its.toArray n none sl) ⟨e,rfl,⟨_,e,rfl⟩,iq F.slot_list_mul ⟨_,e,rfl⟩ F.entry_list_mul (F.args_list_mul_2 _ _) (lm_list_mul_any l its.toArray n none sl k t g f b) ⟨e,?_⟩⟩);rw[i];exact⟨.ref _,_,I.lnew (t':=s.toks) (r.rep k.toNat) (by rw[Kk,Nat.mul_comm];exact hz),rfl,q _ I.fresh⟩
 ·rwa[h.elim]
end
noncomputable def vE(d e:D):T5:=match d,e with
 |.lst ds,.sc (.int k)=>if -(2 ^ 63)<=k/\k<2 ^ 63/\ds.length * k.toNat<=sizeLine then some (.lst (replicate k.toNat ds).flatten) else none
 |_,_=>none
abbrev EH:=zt
def OC:bF X (binaryOp .Mult) (EH X.K):=OB
theorem aY.rep{K:Fg1}(h:aY K H ds xs):∀k:Nat,aY K H (replicate k ds).flatten (replicate k xs).flatten
 |0=>.nil
 |k+1=>by rw[ki,ki,je,je];rwa[h.zapp (aY.rep h k)]
def OD{K:Fg1}:P2 K (EH K) vE:=by
 intro Hf H x y d e z Q s g he hz q;unfold vE at hz
 split at hz
 ·split at hz
  ·rename_i h b
   cases hz;have⟨a,xs,rfl,i,c⟩:=g.lst s
   rw[he.sc.2];erw[⟨xs,i,b.1,b.2.1,by rw[<-c.length];exact b.2.2,λp f=>?_⟩];have e2:=Ex.new (o:=.lst (replicate h.toNat xs).flatten) s f;rwa[q _ _ _ e2 (iL (bH.of aZ) ((aY.rep c _).zmap λ_ _ z=>z.same e2.ff))]
  ·cases hz
 ·cases hz
section
variable {a b c d:Expr}{fa fb:av->T5}{pos:Pos}
def EI(r i a:R2)(ta tb tc td:TE):TE:=λσ H Q=>ta σ H λx H1=>tb σ H1 λy H2=>r x y H2 λz b=>∃k,z=.bl k ∧
 (if k=true then tc σ b λc e=>i y c e λf d=>∃k2,f=.bl k2/\(if k2=true then td σ d λg h=>a c g h Q else Q (.bl false) d) else Q (.bl false) b)
def sK(g g' a:D->D->T5)(fa fb fc fd:av->T5):av->T5:=λρ=>(fa ρ).bind λd=>(fb ρ).bind λe=>(g d e).bind λz=>(fZ z).bind λk=>if k=true then (fc ρ).bind λw=>(g' e w).bind λb=>(fZ b).bind λk2=>if k2=true then (fd ρ).bind λu=>a w u else some (.bl false) else some (.bl false)
def OE(hf:∀i j,d9 (h i j)=true)(Z:∀i j,d9 (h' i j)=true)(s:∀i j,d9 (h'' i j)=true){K:Fg1}(hh:eV K B (sK (fD h) (fD h') (fD h'') fa fb fc fd) σ H Q):EI (fB h) (fB h') (fB h'') (eB K B fa) (eB K B fb) (eB K B fc) (eB K B fd) σ H Q:=by
 have⟨Hf,ρ,z,I,hz,q⟩:=hh;have⟨d,hd,hz⟩:=bind_some hz;have⟨e,he,hz⟩:=bind_some hz;have⟨k,hk,hz⟩:=bind_some hz;have⟨m,hm,A⟩:=bind_some hz;clear hz;erw[⟨Hf,ρ,d,I,hd,λC H1 x l dx=>⟨C,ρ,e,I.ext l,he,λE H2 y c dy=>?_⟩⟩];have T:=dy;refine(pN (K:=K) hf) E H2 x y d e k _ c.fh (dx.ext c) dy hk λn H3 v o dv=>?_
 unfold fZ at hm
 split at hm
 ·cases hm
  erw[⟨m,dv.bl,?_⟩];have U:=(l.trans c).trans o
  cases m with
  |true =>
   rw[la rfl]at A ⊢;have⟨w,hw,hz⟩:=bind_some A;have⟨k2,P,hz⟩:=bind_some hz;have⟨m2,a,b⟩:=bind_some hz;clear hz;erw[⟨n,ρ,w,I.ext U,hw,λF H4 u f du=>?_⟩];have X:=du;refine(pN (K:=K) Z) F H4 y u e w k2 _ f.fh ((T.ext o).ext f) du P λp H5 v5 r G=>?_
   unfold fZ at a
   split at a
   ·cases a
    erw[⟨m2,G.bl,?_⟩];have Y:=(U.trans f).trans r
    cases m2 with
    |true =>
     rw[la rfl]at b ⊢;have⟨w2,R,hz⟩:=bind_some b;exact⟨p,ρ,w2,I.ext Y,R,λJ H6 u6 g L=>(pN (K:=K) s) J H6 u u6 w w2 z Q g.fh ((X.ext r).ext g) L hz λM H' v' N O=>q M H' v' ((Y.trans g).trans N) O⟩
    |false=>rw[wa ua]at b ⊢;cases b;rwa[q p H5 _ Y (cE rfl)]
   ·cases a
  |false=>rw[wa ua]at A ⊢;cases A;rwa[q n H3 _ U (cE rfl)]
 ·cases hm
def OF{g g' b:D->D->T5}{a k2 c:Bool}(ha:fa ρ=some x)(d:fb ρ=some y)(e:g x y=some (.bl a))(f:a=true->fc ρ=some z)(h:a=true->g' y z=some (.bl k2))(i:a=true->k2=true->fd ρ=some w)(j:a=true->k2=true->b z w=some (.bl c)):sK g g' b fa fb fc fd ρ=some (.bl (a && (k2 && c))):=by
 delta sK;rw[ha,d,lb,lb,e,lb]
 cases a with
 |false=>rfl
 |true =>
  show ((fc ρ).bind _)=_;rw[f rfl,lb,h rfl,lb]
  cases k2 with
  |false=>rfl
  |true=>show ((fd ρ).bind _)=_;rw[i rfl rfl,lb,j rfl rfl];rfl
end
def qz:∀d ρ ρ1,gN i d ρ=some ρ1->(∀(k:Nat) s,ρ[k]?=some (some s)->dC s=false)->∀(k:Nat) s,ρ1[k]?=some (some s)->dC s=false:=λd ρ ρ1 e h k s q=>by
 cases e;by_cases a:i=k
 ·subst a
  rw[List.getElem?_set]at q
  split at q
  ·split at q
   ·cases q;rfl
   ·cases q
  ·rwa[h _ s q]
 ·rw[za a]at q;rwa[h k s q]
def NG(r:T4->av->Option av):Prop:=∀ds ρ ρ1,r ds ρ=some ρ1->(∀(k:Nat) s,ρ[k]?=some (some s)->dC s=false)->∀(k:Nat) s,ρ1[k]?=some (some s)->dC s=false
def OG:NG dO:=λds ρ ρ1 e h=>by
 unfold dO at e
 split at e
 ·cases e;rwa[h]
 ·cases e
def zu(b:∀d ρ ρ1,g d ρ=some ρ1->(∀(k:Nat) s,ρ[k]?=some (some s)->dC s=false)->∀(k:Nat) s,ρ1[k]?=some (some s)->dC s=false)(c:NG r):NG (bJ g r):=λds ρ ρ1 e h=>by
 unfold bJ at e
 split at e
 ·have⟨a,e1,e2⟩:=bind_some e
  rwa[c _ _ _ e2 (b _ _ _ e1 h)]
 ·cases e
def OH(h:NG r):∀d ρ ρ1,gT n r d ρ=some ρ1->(∀(k:Nat) s,ρ[k]?=some (some s)->dC s=false)->∀(k:Nat) s,ρ1[k]?=some (some s)->dC s=false:=λd ρ ρ1 e a=>by
 unfold gT at e
 split at e
 ·split at e
  ·rwa[h _ _ _ e a]
  ·cases e
 ·cases e
def jn(A C:Hp):Hp:=λb=>match A b with|some o=>some o|none=>C b
section
def zw:aQ A (jn A C):=λb u h=>by delta jn;rw[h]
def EJ(a:aQ A H)(c:aQ C H):aQ (jn A C) H:=λb u h=>by
 unfold jn at h
 cases e:A b with
 |some o=>rw[e]at h;cases h;rwa[a b _ e]
 |none=>rw[e]at h;rwa[c b u h]
def EK(a:aQ A H)(c:aQ C H):aQ C (jn A C):=λb u h=>by
 delta jn
 cases e:A b with
 |some o =>
  have z:=a b o e;rw[c b u h]at z;rwa[z.symm]
 |none=>rwa[h]
def iW(C:Hp):Hp:=λb=>match C b with|some (.frz _ _)=>none|x=>x
def EL:aQ (iW C) C:=λb u h=>by
 unfold iW at h
 split at h
 ·cases h
 ·rwa[h]
def OI(h:iW C b≠none):C b≠none:=λz=>h (by delta iW;rw[z])
def OJ(h:C b=some (.lst xs)):iW C b=some (.lst xs):=by delta iW;rw[h]
def OK(h:C b=some (.dT xs)):iW C b=some (.dT xs):=by delta iW;rw[h]
def OL(h:jn A (iW C) b=some (.frz o u)):A b=some (.frz o u):=by
 unfold jn at h
 cases e:A b with
 |some x=>rw[e]at h;rwa[h]
 |none =>
  rw[e]at h;have h:iW C b=some (.frz o u):=h;unfold iW at h
  split at h
  ·cases h
  ·rename_i n;rwa[absurd h (n o u)]
def EM(h:jn A C b≠none):A b≠none\/C b≠none:=by
 unfold jn at h
 cases e:A b with
 |some o=>rwa[.inl λz=>nomatch z]
 |none=>rw[e]at h;rwa[.inr h]
end
def emp:Hp:=λ_=>none
def OM(h:H p=some o):aQ (aI emp p o) H:=λb u e=>by
 by_cases a:b=p
 ·subst a;rw[aZ]at e;cases e;rwa[h]
 ·rw[aK a]at e;cases e
def ON(h:aI emp p o b≠none):b=p:=by
 by_cases a:b=p
 ·rwa[a]
 ·rw[aK a]at h;rwa[absurd rfl h]
def VI.offH{K:Fg1}{B:Bs}{a:St}(I:VI K B Hf ρ a H)(no:∀(i:Nat) sl,ρ[i]?=some (some sl)->dC sl=true->a[i]?≠some (some (.ref p)))(e:Hf p=none)(f:B.h p=none):VI K B Hf ρ a (aI H p o):=by
 erw[⟨⟨I.ex.ff,λb u h=>?_,λb u h=>?_,I.ex.nw,I.ex.nf⟩,I.len,λi sl h=>?_,I.own,I.dis⟩]
 ·rw[aK (cG h f)];rwa[I.ex.hh b u h]
 ·rw[aK (cG h e)];rwa[I.fh b u h]
 ·have⟨v,c,d⟩:=I.ok i sl h
  exact⟨v,c,d.away λo z=>no i sl h o (by rw[c,z])⟩
section
variable {X:Cx}{a:Expr}{fa fb:av->T5}{pos:Pos}
def OO(ho:bF X (compareOp op) r)(n:bF X (compareOp j) r')(l:bF X (compareOp g) m)(ha:PE X a ta)(hb:PE X b tb)(hc:PE X c tc)(hd:PE X d td)(hm:lastMarks [op,j,g] [b,c,d]=false:=by with_unfolding_all rfl):PE X (.Compare a [op,j,g] [b,c,d] pos) (EI r r' m ta tb tc td):=by
 intro f s i H Q I h;erw[Compare_chain (aU (ha f s i H _ I h) λv J ⟨x,K,L,M,N⟩=>chain_link (aU (hb f J i K _ L N) λu O ⟨y,P,R,o,T⟩=>aU (ho f O i P x y v u _ R M o T) λd U t=>?_)) hm];have⟨z,p,q,Y,k,e,w⟩:=t;subst e;cases Y;erw[zg ?_]
 cases k with
 |false=>rwa[ite_ff ⟨.bl false,p,q,rfl,w⟩]
 |true =>
  erw[ite_tt (chain_link (aU (hc f U i p _ q w) λA Z ⟨B,H4,I4,C,q4⟩=>aU (n f Z i H4 y B u A _ I4 o C q4) λd' s5 t=>?_))];have⟨z2,E,F,r5,k2,e2,G⟩:=t;subst e2;cases r5;erw[zg ?_]
  cases k2 with
  |false=>rwa[ite_ff ⟨.bl false,E,F,rfl,G⟩]
  |true=>rwa[ite_tt (chain_last (aU (hd f s5 i E _ F G) λw2 s6 ⟨z3,H6,I6,r6,q6⟩=>l f s6 i H6 B z3 A w2 Q I6 C r6 q6))]
def OP(p:bF X (compareOp op) (fB h))(n:bF X (compareOp f) (fB h'))(l:bF X (compareOp e) (fB g))(ha:PE X a (eB X.K B fa))(q:PE X b (eB X.K B fb))(r:PE X c (eB X.K B fc))(s:PE X d (eB X.K B fd))(u:∀i j,d9 (h i j)=true:=by rwa[λ_ _=>rfl])(o:∀i j,d9 (h' i j)=true:=by rwa[λ_ _=>rfl])(m:∀i j,d9 (g i j)=true:=by rwa[λ_ _=>rfl])(hm:lastMarks [op,f,e] [b,c,d]=false:=by with_unfolding_all rfl):PE X (.Compare a [op,f,e] [b,c,d] pos) (eV X.K B (sK (fD h) (fD h') (fD g) fa fb fc fd)):=(OO p n l ha q r s hm).imp λv H Q z=>OE u o m z
end
def ku:av->aR:=λ_=>.bad
def l4{X:Cx}{st:Stmt}:PS X st (sV X.K B ku):=(II (X:=X) (st:=st)).imp λD a H ⟨Hf,ρ,I,q⟩=>q
end L2
namespace L2
open PySem
def zx(h:fa ρ=some a)(c:a=true->fb ρ=some b):cH fa fb ρ=some (a && b):=by
 cases a with
 |false=>rwa[mO h]
 |true=>rwa[kQ h (c rfl)]
def EN(h:fa ρ=some a)(c:a=false->fb ρ=some b):cN fa fb ρ=some (a || b):=by
 cases a with
 |false=>rwa[mM h (c rfl)]
 |true=>rwa[DW h]
def k4(a:g x ρ=some ρ1)(b:f ρ1=.nx ρ2):eH g f (x::r) ρ=eH g f r ρ2:=by
 rw[eH,a];dsimp only;rw[b]
def jB(ha:fa ρ=some d)(a:g d=some z):e1 g fa ρ=some z:=by delta e1;rw[ha];rwa[a]
def oP(a:ρ[i]?=some (some (.ow ds)))(b:fe ρ=some d)(c:ds.length<=100000):dP i fe ρ=.nx (ρ.set i (some (.ow (ds++[d])))):=by
 delta dP;rw[a];dsimp only;rw[b];dsimp only;rw[la (mR c)]
def OQ{l:Ti}:bP [.lst (l.map D.int)]=some (.int l.length):=by delta bP;dsimp only;rw[ba]
noncomputable def mV(l:Ti)(i:Nat):Int:=l.getD i 0
def OR(h:i<l.length):aS (.lst (l.map D.int)) (.int (i:Nat))=some (.int (mV l i)):=by
 erw[kG ?_];rw[yc];simp[mV,h]
def oQ:cR (.int i)=some (.int (-i)):=rfl
def OS{l:Ti}{a:Nat}(h:a<=b):jN (.lst (l.map D.int)) (some (a:Int)) (some (b:Int))=some (.lst (((l.drop a).take (b - a)).map D.int)):=by
 delta jN;dsimp only;rw[p9,D5 _ _ _ h]
end L2
namespace L2
open PySem PySem.Spec PyProof.Rows
def OT{K:Fg1}:p0 K []:=λ_ h=>nomatch h
def mW{K:Fg1}(h:ee K n C)(r:p0 K l):p0 K ((n,C)::l):=λq hq=>by
 rcases cb.mp hq with rfl|hq
 ·rwa[h]
 ·rwa[r q hq]
def OU:bootBuiltins "ValueError" = some (.type "ValueError"):=by decide
def vF:("path" : Str)∈hG:=by simp[hG]
def OV:("goal" : Str)∈hG:=by simp[hG]
def zy:("ring" : Str)∈hG:=by simp[hG]
section
variable {K:Fg1}
def OW{st:Stmt}{a:Str}(F:ec K x g st f N)(S:az [a,b,d] [a,b,d] (bw st))(r:h∈hG)(v:l∈hG)(hb:fM st=[.Assign [.Attribute (.Name a X) h Y] (.Name b Z) p4,.Assign [.Attribute (.Name a q1) l q2] (.Name d q3) q4])(O:(bw st).names.lookup a=some .local)(m:(bw st).names.lookup b=some .local)(n:(bw st).names.lookup d=some .local)(c6:(a == 'g')=false:=by decide)(j:(a == 'c')=false:=by decide)(gU:(b == 'g')=false:=by decide)(y:(b == 'c')=false:=by decide)(z:(d == 'g')=false:=by decide)(B:(d == 'c')=false:=by decide)(G:(l == h)=false:=by decide):aG P w K mg base bC 1 f N [a,b,d] (nU K nm [h,l]):=by
 erw[F.ok (k:=0) S (λvs H Q E t=>by have⟨e,I,_,_,_,_,m,n,_⟩:=t;rw[m,zb,n];rfl) λR A o s H vs Q E hr t=>?_];have⟨e,I,C,J,L,M,T,hl,c,he,q⟩:=t
 match I,hl with
 |[u,u2],_ =>
  subst T;rw[hb];erw[⟨_,iD (uL (gh (i:=1) rfl (ub m) gU y) (i:=0) rfl (ub O) c6 j rfl) (iD (uL (gh (i:=2) rfl (ub n) z B) (i:=0) rfl (ub O) c6 j rfl) pz),?_⟩];erw[⟨u,rfl,e,nm,C,J,L,rfl,c,r,.inl ⟨M,he,λdx U p=>?_⟩⟩];erw[⟨u2,rfl,e,nm,C,J,L,rfl,c,v,.inr ⟨dx,M,[(h,u)],by rw[aK (vf p),aZ],aZ,p,by simp[List.lookup,G],'m',?_⟩⟩];rw[py];rwa[q dx U p]
end
end L2
namespace L2
open PySem PySem.Spec PyProof.Rows
open Sem (wp)
section
variable {K:Type}[DecidableEq K]{knd:HeapKind prog w K}{A:Around}{s:Shared}{a:Addr}{xs:List (K×Addr×Value)}
def OX(r:knd.room A)(dS:knd.is s.heap k a)(hm:s.heap.DictOfH knd d xs)(c:∀p,atKey xs k=some p->Q p.2 { s with toks:=s.toks+knd.draws k })(m:atKey xs k=none->∀h',h'.DictOfH knd d (xs++[(k,a,b)])->Heap.SameBut d s.heap h'->Q b { s with heap:=h',toks:=s.toks+knd.draws k })(hsz:xs.length<=sizeLine) :
  wpAny (model prog w) A (dictSetDefault d (.ref a) b) Q E s:=by
 have⟨o,es,ep,g,u,f,he,i,hn⟩:=hm;delta dictSetDefault
 try with_reducible refine ve ?_
 erw[aa (knd.pyHash r dS ?_)];erw[aa (wpAny_dictFind_heap (s:={ s with toks:=s.toks+knd.draws k }) r dS g f he i hn ?_ ?_)]
 ·intro h
  have l:k ∉ xs.map (·.1):=not_mem_keys_of_get h
  refine wpAny_bind (wpAny_rule (wpAny_bind (wpAny_updateDictKeys (hz:=by have e:=size_of_entries he;omega) (s:={ s with toks:=s.toks+knd.draws k }) g f (wpAny_pure (m (atKey_none_of_get h) _ ⟨_,_,ep+1,Heap.get?_update_self _ g (Obj.isFreed_of_dict (Obj.data_mapDictKeys f _)),
   u.mapDictKeys _,Obj.data_mapDictKeys f _,?_,?_,?_⟩ (oi ..))))))
  ·simp[he,entryOfKey]
  ·intro x hx
   rcases jb.mp hx with hx|hx
   ·rwa[knd.keeps (i x hx) g f (oi ..)]
   ·simp only[ya]at hx
    subst hx;rwa[knd.keeps dS g f (oi ..)]
  ·rw[gb,jc]
   erw[⟨hn,'m',?_⟩];intro x hx y n;simp only[oa,oj,ya]at n;subst n;rwa[λe=>l (e ▸ hx)]
 ·intro j p q
  refine aa (yn (s:={ s with toks:=s.toks+knd.draws k }) g f ?_);rw[entry_at he j,q];exact aa (zo (ja (c _ (atKey_of_get hn q))))
def OY(j:(d == sysModules)=false)(b:Value) :
  MeetsIn prog w (Builtin.«dict.setdefault» ⟨[.ref d,.ref a,b],[]⟩) (λ A R s=>knd.room A.in1/\∃ k xs,knd.is s.heap k a/\s.heap.DictOfH knd d xs/\xs.length<=sizeLine ∧
   (∀p,atKey xs k=some p->R (.ok (.ret p.2)) { s with toks:=s.toks+knd.draws k }) ∧
   (atKey xs k=none->∀h',h'.DictOfH knd d (xs++[(k,a,b)])->Heap.SameBut d s.heap h'->R (.ok (.ret b)) { s with heap:=h',toks:=s.toks+knd.draws k })) :=
 .of_wp λA R s z=>by
  have⟨f,k,xs,dS,hm,hz,g,h⟩:=z;delta Builtin.«dict.setdefault»;erw[aa ?_];delta Builtin.Dict.keyAndDefault;erw[aa (wpAny_notOrdered_dict hm.typeIs ?_)];show wpAny _ _ (pure (d,ref a,some b)) _ _ s;erw[ja ?_];show wpAny _ _ (if (d == sysModules)=true then _ else (dictSetDefault d (.ref a) b >>= _)) _ _ s;rw[wa (by rw[j];rwa[ua])];rwa[aa (OX f dS hm (λp i=>ja ⟨p.2,rfl,g p i⟩) (λhn h' c e=>ja ⟨b,rfl,h hn h' c e⟩) hz)]
end
end L2
namespace L2
open PySem PySem.Spec PyProof.Rows
def lh(H:Hp):Hp:=λb=>match H b with|some (.tup xs)=>some (.tup xs)|_=>none
def EO:aQ (lh H) H:=λb u h=>by
 unfold lh at h
 split at h
 ·rename_i e;cases h;rwa[e]
 ·cases h
def OZ(h:H b=some (.tup xs)):lh H b=some (.tup xs):=by delta lh;rw[h]
def Ex.tups(s:aQ Hf H):Ex Hf H (jn Hf (lh H)) H:=by
 erw[⟨zw,aQ.refl _,EJ s EO,λb a=>?_,λb o u h=>?_⟩];rcases EM a with z|z
 ·rwa[.inl z]
 ·unfold lh at z
  split at z
  ·rename_i xs e;rwa[.inr (.inr ⟨xs,e⟩)]
  ·rwa[absurd rfl z]
 ·unfold jn at h
  cases e:Hf b with
  |some x=>rw[e]at h;rwa[h]
  |none =>
   rw[e]at h;have h:lh H b=some (.frz o u):=h;unfold lh at h
   split at h <;> cases h
def EQ:aW->D
 |.inl i=>.int i
 |.inr x=>.sc (.str x)
theorem zA{K:Fg1}:∀ks:List aW,aY K H (ks.map EQ) (ks.map kV)
 |[]=>.nil
 |.inl i::r=>.cons (cE rfl) (zA r)
 |.inr x::r=>.cons (cE rfl) (zA r)
def jC(ks:List aW):D:=.tup (ks.map EQ)
def ER(F:T4->T5)(fa:av->T5):av->T0:=λρ=>(fa ρ).bind λd=>match d with
 |.dt ks _=>kX F (ks.map jC)
 |_=>none
section
variable {X:Cx}{pos:Pos}{a:Expr}{fa:av->T5}
def O0(hc:X.k=true)(G:aG X.p X.w X.K X.mg X.base bC k f fd [p] (bQ X.K 1 F))(hr:aL k X.A.in1.in1)(hg:Gl X "sorted")(hm:X.mg "sorted" = none)(hgf:Gl X fn)(hmf:X.mg fn=some (.ref f))(hb:dq X.K fd [p] [])(ha:PE X a (eB X.K B fa))(hfd:(fn == 'g')=false:=by decide)(hs0:W1 X [a] a []:=by rfl)(e:backTo pos (starEach [a] X.u)=(false,eval a X.u)::backTo pos (starEach [] X.u):=by rfl)(g:((backTo pos (starEach [a] X.u)).any λx=>x.1)=false:=by rfl) :
  PE X (.Call (.Name "sorted" p1) [a] [⟨some "key",.Name fn p3,p4⟩] pos) (eW X.K B (ER F fa)):=by
 intro j s σ H Q I h;have⟨Hf,ρ,out,N,hz,q⟩:=h;have⟨d,c6,hz⟩:=bind_some hz
 split at hz
 ·rename_i ks dvs
  unfold kX at hz
  split at hz
  ·rename_i ok
   cases hz;erw[dg (kF I hg hm xT ?_ 'd' 'd')]
   refine callWith_kw (aU ((dL ha gG hs0) pos j s σ H (λvs C=>∃b v,vs=[v]/\Ex Hf H b C/\cX X.K b C (.dt ks dvs) v) I ⟨Hf,ρ,_,N,c6,λb C v T J=>⟨b,v,rfl,T,J⟩⟩) λus s1 ⟨vs,C,I1,U,b,v,e1,c,J⟩=>?_) (by first|exact e|exact g|rfl) (by first|exact e|exact g|rfl) (by first|exact e|exact g|rfl) (by first|exact e|exact g|rfl);subst e1;have⟨u,rfl,ru⟩:=gF U;have⟨ad,kvs,rfl,h3,h4,h5⟩:=J.dt c.fh;cases ru;refine aU ((w6 (tY (v:=.ref f) hgf hmf rfl hfd) w5) pos j s1 σ C (λvs E=>vs=[.ref f]/\E=C) I1 ⟨rfl,rfl⟩) λus s2 ⟨vs,E,I2,U,e1,e2⟩=>?_
   subst e1 e2;have⟨u,rfl,ru⟩:=gF U;cases ru;show wpAny (model X.p X.w) X.A (call (.builtin "sorted") [.ref ad] [(ofString "key",.ref f)]) _ _ _;have⟨z1,h0,xs,rel,o,es,ep,g1,g2,g3,g4,g5⟩:=(show cw X.p X.w E s2.heap ad (.dT kvs) from I2.hok ad _ h3)
   have ext:=Ex.tups c.fh
   have dn:aY X.K (jn b (lh E)) (ks.map jC) (xs.map λx=>V.ref x.2.1):=by
    rw[<-h4]
    have:∀{l:List (List aW×V)} {m:List (List aW×Addr×Value)},Paired (λ(p:List aW×V) (q:List aW×Addr×Value)=>p.1=q.1/\E q.2.1=some (.tup (p.1.map kV))/\bj p.2 q.2.2) l m->aY X.K (jn b (lh E)) ((l.map fst).map jC) (m.map λx=>V.ref x.2.1):=by
     intro l m pr
     induction pr with
     |nil=>rwa[.nil]
     |cons r t P=>rwa[.cons (nV (gJ.of (EK c.fh EO _ _ (OZ r.2.1))) (zA _)) P]
    rwa[this rel]
   have hl:xs.length=(ks.map jC).length:=by rw[dn.length,ba]
   have hes:es.toList.map (·.key)=xs.map λx=>ref x.2.1:=by rw[g4,pc];rfl
   have hsz:es.size=xs.length:=by rw[<-xf,g4,ba]
   have hsm:=ok.sm.2;erw[Em (rs:=(ks.map jC).map (rk F)) G hr hb I2 ext.fh dn (λR hR=>Eo (A:=X.A.in1) (I.ok.hd hc) h0 ⟨o,g1,g2,g3⟩ (by rw[hsz];rwa[sz 'o']) λh' tk L=>?_) (λi d hd=>?_) (by rw[ba]) ok.sz ok.ord λn H' l π T Y Z hl3 M hup=>q n H' l _ (c.trans (ext.trans T)) (c.hh.free Y) Z hl3 ?_]
   ·rw[hes]
    erw[hR h' tk _ L ?_]
    have:∀l:List (List aW×Addr×Value),bD (l.map λx=>V.ref x.2.1) (l.map λx=>ref x.2.1):=by
     intro l
     induction l with
     |nil=>rwa[.nil]
     |cons y r P=>rwa[.cons rfl P]
    rwa[this xs]
   ·have⟨r,e1,_⟩:=ok.ex d (me hd)
    exact⟨r,by rw[yc,hd];show some (rk F d)=_;rw[gP e1],e1⟩
   ·rw[<-ok.out M hup]
    have dn':=dn.same T.ff
    have O:∀l:T7,(∀i∈l,i<(ks.map jC).length)->aY X.K n (l.map λi=>(ks.map jC).getD i D.non) (l.map λi=>(xs.map λx=>V.ref x.2.1).getD i V.non):=by
     intro l
     induction l with
     |nil=>intro _;rwa[.nil]
     |cons i r P =>
      intro hh;erw[.cons ?_ (P λz hz=>hh z (ia _ hz))];have hi:=hh i da;have e1:(ks.map jC)[i]?=some (ks.map jC)[i]:=cc hi;have⟨v,e2,J⟩:=dn'.zget e1;show Dn X.K n ((ks.map jC).getD i D.non) ((xs.map λx=>V.ref x.2.1).getD i V.non);rw[bb,e1,bb,e2];rwa[J]
    rwa[O _ λi hi=>uf.mp (M.mem_iff.mp hi)]
  ·cases hz
 ·cases hz
end
section
variable {X:Cx}{a:Addr}{A:Around}{kvs:List (List aW×V)}{k:List aW}
def O1(K:A.units+1<cLine)(I:ax X pins σ H s)(e:H a=some (.dT kvs))(u:H b=some (.tup (k.map kV)))(hl:kvs.length<sizeLine)(L:bj v r)(M:∀g x s',dB kvs k=some g->bj g x->ax X pins σ H s'->Q x s')(N:dB kvs k=none->∀s',ax X pins σ (aI H a (.dT (fN kvs k v))) s'->Q r s') :
  wpAny (model X.p X.w) A (call (.builtin "dict.setdefault") [.ref a,.ref b,r]) Q E s:=by
 have⟨z,m,xs,f,dd⟩:=CS I.hok e;have hz:xs.length<=sizeLine:=by rw[<-Paired.length f];rwa[z]
 have d:=f.val k;refine call_meetsIn PySem.F.slot_dict_setdefault dd.typeIs PySem.F.entry_dict_setdefault (PySem.F.args_dict_setdefault_3 _ _ _) (OY (knd:=tupleKind (gg X.p X.w)) m r) ⟨xj K,k,xs,nR I.hok u,dd,hz,λp y=>?_,λhn h' h hs=>?_⟩
 ·rw[y]at d
  cases l:dB kvs k with
  |none=>rw[l]at d;rwa[d.elim]
  |some g=>rw[l]at d;rwa[M g p.2 _ l d (I.tok _)]
 ·rw[hn]at d
  cases l:dB kvs k with
  |some g=>rw[l]at d;rwa[d.elim]
  |none =>
   erw[N l _ ?_];have o:=f.put k u L;rw[storedH_new hn]at o;have i:(fN kvs k v).length<=sizeLine:=by have:=x6 kvs k v;omega
   have⟨q,es,ep,n,B,C,G,_,J⟩:=h;erw[x8 I (by rw[e];rwa[qh]) hs ⟨q,n⟩ ⟨i,m,_,o.keeps λc ys j=>?_,q,es,ep,n,B,C,G,J⟩];rw[aK (gD j e (λz=>nomatch z))];rwa[j]
end
def O2(td ty tx:TE):TE:=λσ H Q=>td σ H λx H1=>∃a,x=.ref a/\rC H1 a/\ty σ H1 λy H2=>tx σ H2 λz c=>∃b kvs k,y=.ref b/\c a=some (.dT kvs)/\c b=some (.tup (k.map kV))/\kvs.length<sizeLine ∧
 (∀w,dB kvs k=some w->Q w c)/\(dB kvs k=none->Q z (aI c a (.dT (fN kvs k z))))
section
variable {X:Cx}
def ES(hu:X.A.units+1<cLine)(ho:PE X o td)(he:PE X e ty)(hf:PE X f tx)(m:M2 X o "setdefault" apos e f cpos):PE X (.Call (.Attribute o "setdefault" apos) [e,f] [] cpos) (O2 td ty tx):=by
 intro c s j H Q I h;erw[wpAny_Call_method m.base m.few m.line PySem.F.plainAttrs_dict PySem.F.slot_dict_setdefault PySem.F.type_dict_setdefault (aU (ho c s j H _ I h) λu r t=>?_)];have⟨x,v,n,w,a,B,d,C⟩:=t;subst B;obtain rfl:u=ref a:=w;have⟨t1,t2,_⟩:=CU n d;erw[⟨t1,t2,?_⟩];rw[m.trees]
 refine Calls.callWith_builtin rfl (Calls.evalArgs_plain (Calls.spliced_cons (aU (he c r j v _ n C) λ E G ⟨y,J,K,L,M⟩ =>
  wj (aU (hf c G j J _ K M) λfv s3 ⟨z,N,O,p,b,kvs,k,P,R,T,hl,U,Y⟩=>wn ?_))))
 subst P;obtain rfl:E=ref b:=L;rwa[O1 hu O R T hl p (λq u' Z l g i=>⟨q,N,i,g,U q l⟩) λl Z i=>⟨z,_,i,p,Y l⟩]
end
abbrev GD:=List (List aW×T4)
structure GS(X:Cx)(B:Bs)(j:Nat)(Hf:Hp)(ρ:av)(σ:St)(H:Hp)(gd:GD)(Hn:Hp):Prop where
 vi:VI X.K B Hf ρ σ H
 nj:ρ[j]?=some none
 nh:aQ Hn H
 nt:∀b xs,Hn b≠some (.tup xs)
 fr:∀b,Hn b≠none->Hf b=none/\B.h b=none
 no:∀(i:Nat) sl,ρ[i]?=some (some sl)->dC sl=false
 ex:∃p kvs,σ[j]?=some (some (.ref p))/\Hn p=some (.dT kvs)/\kvs.map fst=gd.map fst/\(kvs.map snd).Nodup/\Paired (λds v=>∃l xs,v=.ref l/\Hn l=some (.lst xs)/\aY X.K Hf ds xs) (gd.map snd) (kvs.map snd)
section
variable {X:Cx}{B:Bs}{j:Nat}{Hf Hf' H H' Hn:Hp}{ρ:av}{σ:St}{gd:GD}
theorem GS.ext(I:GS X B j Hf ρ σ H gd Hn)(e:Ex Hf H Hf' H'):GS X B j Hf' ρ σ H' gd Hn:=by
 erw[⟨I.vi.ext e,I.nj,I.nh.trans e.hh,I.nt,λb a=>⟨?_,(I.fr b a).2⟩,I.no,?_⟩]
 ·cases z:Hn b with
  |none=>rwa[absurd z a]
  |some o=>rwa[y8 e (I.fr b a).1 (I.nh b o z) (λxs c=>I.nt b xs (by rw[z,c]))]
 ·have⟨p,kvs,h,i,m,n,q⟩:=I.ex
  exact⟨p,kvs,h,i,m,n,q.zmap λ_ _ ⟨l,xs,d,f,g⟩=>⟨l,xs,d,f,g.same e.ff⟩⟩
end
abbrev GG:=av->GD->Option (av×GD)
def sG(X:Cx)(B:Bs)(j:Nat)(g:GG):TS:=λD σ H=>∃Hf ρ gd Hn ρ' a,GS X B j Hf ρ σ H gd Hn/\g ρ gd=some (ρ',a)/\∀Hf' b H' c,aQ Hf Hf'->GS X B j Hf' ρ' b H' a c->D.nx b H'
def fK(gd:GD)(k:List aW):GD:=if (bN gd k).isSome=true then gd else gd++[(k,[])]
noncomputable def iX(k:List aW)(d:D):GD->GD
 |[]=>[]
 |x::r=>if x.1=k then (x.1,x.2++[d])::r else x::iX k d r
theorem zB(k:List aW)(d:D):∀gd:GD,(iX k d gd).map fst=gd.map fst
 |[]=>rfl
 |x::r=>by
  delta iX;split
  ·rfl
  ·rw[oa,zB k d r];rfl
def ET{gd:GD}:∀{kvs:List (List aW×V)},kvs.map fst=gd.map fst->(dB kvs k).isSome=(bN gd k).isSome:=by
 induction gd with
 |nil=>intro kvs h;cases kvs with|nil=>rfl|cons _ _=>simp at h
 |cons x r b =>
  intro kvs h
  cases kvs with
  |nil=>simp at h
  |cons y m =>
   simp only[oa,ym]at h;by_cases e:y.1=k
   ·have a:x.1=k:=by rw[<-h.1];exact e
    simp[dB,bN,ig,e,a]
   ·have a:¬x.1=k:=by rw[<-h.1];exact e
    rw[mz e,b h.2];simp[bN,ig,a]
def EU{kvs:List (List aW×V)}{k:List aW}(h:dB kvs k=none):fN kvs k v=kvs++[(k,v)]:=by
 delta fN;rw[x5,h];rfl
section
variable {K:Fg1}
def O3(E:Hn l=some (.lst xs))(F:Dn K Hf d y):∀{gd:GD}{kvs:List (List aW×V)},kvs.map fst=gd.map fst->(kvs.map snd).Nodup->dB kvs k=some (.ref l)->Paired (λds v=>∃l xs,v=.ref l/\Hn l=some (.lst xs)/\aY K Hf ds xs) (gd.map snd) (kvs.map snd) →
  Paired (λds v=>∃l' c,v=.ref l'/\aI Hn l (.lst (xs++[y])) l'=some (.lst c)/\aY K Hf ds c) ((iX k d gd).map snd) (kvs.map snd):=by
 intro gd
 induction gd with
 |nil=>intro kvs h _ f _;cases kvs with|nil=>cases f|cons _ _=>simp at h
 |cons x r G =>
  intro kvs h j f u
  cases kvs with
  |nil=>simp at h
  |cons z m =>
   simp only[oa,ym]at h;rw[oa,se]at j;rw[oa,oa]at u
   cases u with
   |cons B C =>
    have i:∀{a:List T4} {b:T6},(.ref l) ∉ b->Paired (λds v=>∃l xs,v=.ref l/\Hn l=some (.lst xs)/\aY K Hf ds xs) a b->Paired (λds v=>∃l' c,v=.ref l'/\aI Hn l (.lst (xs++[y])) l'=some (.lst c)/\aY K Hf ds c) a b:=by
     intro a b A q
     induction q with
     |nil=>rwa[.nil]
     |cons H I s =>
      have⟨l',c,e1,e2,g⟩:=H;erw[.cons ⟨l',c,e1,?_,g⟩ (s λw=>A (ia _ w))];rw[aK (λw=>A (by rw[e1,w];rwa[da]))];rwa[e2]
    delta iX;by_cases e:x.1=k
    ·have p:z.1=k:=by rw[h.1];exact e
     rw[nQ p]at f;have hz:z.2=.ref l:=md f;rw[la e,oa,oa];have⟨l',c,e1,e2,g⟩:=B;rw[hz]at e1;cases e1;rw[E]at e2;cases e2;erw[.cons ⟨l,_,hz,aZ,g.zsnoc F⟩ (i (by rw[<-hz];rwa[j.1]) C)]
    ·have p:¬z.1=k:=by rw[h.1];exact e
     rw[mz p]at f;rw[wa e,oa,oa];have⟨l',c,e1,e2,g⟩:=B
     have hm:(.ref l)∈m.map snd:=by
      unfold dB at f;have⟨w,n,o⟩:=yb.mp f;rw[<-o];rwa[ou (mq n)]
     erw[.cons ⟨l',c,e1,?_,g⟩ (G h.2 j.2 f C)];rw[aK (λw=>j.1 (by rw[e1,w];rwa[hm]))];rwa[e2]
end
section
variable {X:Cx}{gd:GD}
def GS.app(I:GS X B j Hf ρ σ H gd Hn)(e:σ[j]?=some (some (.ref p)))(f:Hn p=some (.dT kvs))(x:dB kvs k=some (.ref l))(m:Hn l=some (.lst xs))(A:Dn X.K Hf d y):GS X B j Hf ρ σ (aI H l (.lst (xs++[y]))) (iX k d gd) (aI Hn l (.lst (xs++[y]))):=by
 have hn:Hn l≠none:=by rw[m];rwa[λz=>nomatch z]
 have g:p≠l:=λz=>by rw[z,m]at f;cases f
 erw[⟨I.vi.offH (λi sl h o z=>by have:=I.no i sl h;rw[o]at this;cases this) (I.fr l hn).1 (I.fr l hn).2,I.nj,λb u z=>?_,λb ys z=>?_,λb a=>?_,I.no,?_⟩]
 ·by_cases a:b=l
  ·subst a;rw[aZ]at z ⊢;rwa[z]
  ·rw[aK a]at z ⊢;rwa[I.nh b u z]
 ·by_cases a:b=l
  ·subst a;rw[aZ]at z;cases z
  ·rw[aK a]at z;rwa[I.nt b ys z]
 ·by_cases c:b=l
  ·rw[c];rwa[I.fr l hn]
  ·rw[aK c]at a;rwa[I.fr b a]
 ·have⟨C,n,q,r,s,v,w⟩:=I.ex
  rw[e]at q;cases q;rw[f]at r;cases r;exact⟨p,kvs,e,by rw[aK g];exact f,by rw[zB];exact s,v,O3 m A s v x w⟩
def GS.new(I:GS X B j Hf ρ σ H gd Hn)(r:σ[j]?=some (some (.ref p)))(s:Hn p=some (.dT kvs))(hl:H l=none):GS X B j Hf ρ σ (aI (aI H l (.lst [])) p (.dT (kvs++[(k,.ref l)]))) (gd++[(k,[])]) (aI (aI Hn l (.lst [])) p (.dT (kvs++[(k,.ref l)]))):=by
 have hn:Hn p≠none:=by rw[s];rwa[λz=>nomatch z]
 have x:p≠l:=λz=>by have:=I.nh p _ s;rw[z,hl]at this;cases this
 have m:Hn l=none:=I.nh.free hl;have N:=I.ext (Ex.made (o:=.lst []) I.vi.fh hl);erw[⟨N.vi.offH (λi sl h o z=>by have:=I.no i sl h;rw[o]at this;cases this) (I.fr p hn).1 (I.fr p hn).2,I.nj,λb u z=>?_,λb ys z=>?_,λb f=>?_,I.no,?_⟩]
 ·by_cases f:b=p
  ·subst f;rw[aZ]at z ⊢;rwa[z]
  ·rw[aK f]at z ⊢
   by_cases d:b=l
   ·subst d;rw[aZ]at z ⊢;rwa[z]
   ·rw[aK d]at z ⊢;rwa[I.nh b u z]
 ·by_cases f:b=p
  ·subst f;rw[aZ]at z;cases z
  ·rw[aK f]at z
   by_cases d:b=l
   ·subst d;rw[aZ]at z;cases z
   ·rw[aK d]at z;rwa[I.nt b ys z]
 ·by_cases n:b=p
  ·rw[n];rwa[I.fr p hn]
  ·rw[aK n]at f
   by_cases d:b=l
   ·rw[d];exact⟨I.vi.fh.free hl,I.vi.ex.hh.free hl⟩
   ·rw[aK d]at f;rwa[I.fr b f]
 ·have⟨Q,A,C,E,L,M,F⟩:=I.ex
  rw[r]at C;cases C;rw[s]at E;cases E
  have hm:∀v∈kvs.map snd,∃l' c,v=.ref l'/\Hn l'=some (.lst c):=by
   have:∀{a:List T4} {b:T6},Paired (λds v=>∃l xs,v=.ref l/\Hn l=some (.lst xs)/\aY X.K Hf ds xs) a b->∀v∈b,∃l' c,v=.ref l'/\Hn l'=some (.lst c):=by
    intro a b q
    induction q with
    |nil=>intro v hv;cases hv
    |cons O R P =>
     intro v hv;have⟨l',c,e1,e2,_⟩:=O;rcases cb.mp hv with rfl|hv
     ·exact⟨l',c,e1,e2⟩
     ·rwa[P v hv]
   rwa[this F]
  erw[⟨p,_,r,aZ,by rw[gb,gb,L];rfl,?_,?_⟩]
  ·rw[gb,jc]
   erw[⟨M,'m',λv hv w y e=>?_⟩];have⟨l',c,e1,e2⟩:=hm v hv;simp at y;rw[e,y]at e1;cases e1;rw[m]at e2;cases e2
  ·rw[gb,gb]
   refine(F.zmap λds v ⟨l',c,G,g,J⟩=>⟨l',c,G,?_,J⟩).zsnoc ⟨l,[],rfl,by rw[aK x.symm,aZ],.nil⟩;rw[aK (λw=>by rw[w,s]at g;cases g),aK (λw=>by rw[w,m]at g;cases g)];rwa[g]
end
def kw(gd:GD)(k:List aW)(d:D):GD:=iX k d (fK gd k)
def oR(fk:av->T5):GG:=λρ gd=>(fk ρ).bind λa=>(kL a).bind λk=>if gd.length<100000 then some (ρ,fK gd k) else none
def jQ(fk fv:av->T5):GG:=λρ gd=>(fk ρ).bind λa=>(kL a).bind λk=>(fv ρ).bind λd=>if gd.length<100000/\(gd.all λx=>decide (x.2.length<100000))=true then some (ρ,kw gd k d) else none
noncomputable def vG(i:Nat)(fe:av->T5):GG:=λρ gd=>(fe ρ).map λd=>(ρ.set i (some (.sh d)),gd)
def qA:GG:=λρ gd=>some (ρ,gd)
def qB(g h:GG):GG:=λρ gd=>(g ρ gd).bind λz=>h z.1 z.2
def qC(ft:av->Te)(g h:GG):GG:=λρ gd=>(ft ρ).bind λb=>if b=true then g ρ gd else h ρ gd
noncomputable def jR(gt:D->av->Option av)(f:GG):T4->GG
 |[],ρ,gd=>some (ρ,gd)
 |d::r,ρ,gd=>(gt d ρ).bind λρ1=>(f ρ1 gd).bind λz=>jR gt f r z.1 z.2
def kx(fi:av->T0)(gt:D->av->Option av)(f:GG):GG:=λρ gd=>(fi ρ).bind λds=>jR gt f ds ρ gd
theorem EV:∀{l:List α}{r:List β},Paired F l r->∀y∈r,∃x∈l,F x y
 |_,_,.nil,y,h=>by cases h
 |_,_,.cons p q,y,h=>by
  rcases cb.mp h with rfl|h
  ·exact⟨_,da,p⟩
  ·have⟨x,a,b⟩:=EV q y h
   exact⟨x,ia _ a,b⟩
def O4{kvs:List (List aW×V)}(h:dB kvs k=some v):v∈kvs.map snd:=by
 unfold dB at h;have⟨w,a,b⟩:=yb.mp h;rw[<-b];rwa[ou (mq a)]
def O5{kvs:List (List aW×V)}{k:List aW}(h:dB kvs k=none):dB (kvs++[(k,v)]) k=some v:=by
 induction kvs with
 |nil=>rwa[nQ rfl]
 |cons x r a =>
  by_cases e:x.1=k
  ·rw[nQ e]at h;cases h
  ·rw[mz e]at h
   rw[jf,mz e];rwa[a h]
section
variable {X:Cx}{pos:Pos}
def O6(T:aL n X.A)(U:X.N[j]?=some x)(Y:PE X key (eB X.K B fk))(m:M2 X (.Name x p1) "setdefault" p2 key (.List [] p3) p4)(r:gY X.u.scope x:=by first|exact ub rfl|exact fg (ub rfl)|exact fg (fg rfl))(Z:(x == 'g')=false:=by decide)(F:(x == 'c')=false:=by decide)(hs:W0 X (.Call (.Attribute (.Name x p1) "setdefault" p2) [key,.List [] p3] [] p4) none pos:=by rfl) :
  PS X (.Expr (.Call (.Attribute (.Name x p1) "setdefault" p2) [key,.List [] p3] [] p4) pos) (sG X B j (oR fk)) :=
 (pA (ES (by have:=T.units;omega) (gh U r Z F) Y (uy gG) m) hs).imp λD G H t=>by
  have⟨Hf,ρ,gd,L,ρ',M,N,d,q⟩:=t;have⟨Q,v,d⟩:=bind_some d;have⟨k,z,d⟩:=bind_some d
  split at d
  ·rename_i I
   cases d;have⟨p,kvs,h,C,J,h4,h5⟩:=N.ex
   erw[⟨_,h,p,rfl,.inr ⟨kvs,.inl (N.nh _ _ C)⟩,Hf,ρ,Q,N.vi,v,λg O y a P=>⟨ae _,λl hl=>?_⟩⟩];have u:=N.ext a;have⟨b,rfl,R⟩:=uO P z;have i:O p=some (.dT kvs):=u.nh _ _ C;have o:=a.fh _ _ R;have E:kvs.length=gd.length:=by rw[<-ba (f:=fst),J,ba]
   have c:=ET (k:=k) J;erw[⟨b,kvs,k,rfl,by rw[aK (cG i hl)];exact i,by rw[aK (cG o hl)];exact o,by rw[E];exact mR 'o',λw s=>?_,λs=>?_⟩]
   ·rw[s]at c
    have e:fK gd k=gd:=by delta fK;rwa[la c.symm]
    rw[e]at q;rwa[q g G _ L a.ff (u.ext (Ex.made u.vi.fh hl))]
   ·rw[s]at c
    have e:fK gd k=gd++[(k,[])]:=by delta fK;rw[wa (by rw[<-c];decide)]
    rw[e]at q;rw[EU s];rwa[q g G _ _ a.ff (u.new h C hl)]
  ·cases d
def EW(hr:aL n X.A)(hN:X.N[j]?=some x)(hk:PE X key (eB X.K B fk))(hv:PE X v (eV X.K B fv))(m:M2 X (.Name x M) "setdefault" O key (.List [] P) Q)(Z:gY X.u.scope x:=by first|exact ub rfl|exact fg (ub rfl)|exact fg (fg rfl))(hd:(x == 'g')=false:=by decide)(hcd:(x == 'c')=false:=by decide)(J:attributeBase (.Call (.Attribute (.Name x M) "setdefault" O) [key,.List [] P] [] Q) "append" X.u (eval (.Call (.Attribute (.Name x M) "setdefault" O) [key,.List [] P] [] Q) X.u)=eval (.Call (.Attribute (.Name x M) "setdefault" O) [key,.List [] P] [] Q) X.u:=by rfl)(hfew:((backTo R (starEach [v] X.u)).all (λx=>!x.1) && (backToKw R (keywordEach [] X.u)).all (λx=>x.1.isSome) && decide ([v].length+([]:List Keyword).length+'e'<30))=true:=by rfl)(L:(p5.endLine == R.line)=true:=by rfl)(hst:W1 X [v] v []:=by rfl)(r:W2 X R []:=by rfl)(hs:swapsWith (.Call (.Attribute (.Call (.Attribute (.Name x M) "setdefault" O) [key,.List [] P] [] Q) "append" p5) [v] [] R) none pos.line X.u=pure false:=by rfl) :
  PS X (.Expr (.Call (.Attribute (.Call (.Attribute (.Name x M) "setdefault" O) [key,.List [] P] [] Q) "append" p5) [v] [] R) pos) (sG X B j (jQ fk fv)) :=
 (pA (xu plainAttrs_list PySem.F.slot_list_append PySem.F.type_list_append CA (ES (by have:=hr.units;omega) (gh hN Z hd hcd) hk (uy gG) m) (dL hv gG hst) J hfew L hst r) hs).imp λD σ H t=>by
  have⟨Hf,ρ,gd,Hn,ρ',gd',N,c,q⟩:=t;have⟨kd,hk0,c⟩:=bind_some c;have⟨k,hk1,c⟩:=bind_some c;have⟨d,c6,c⟩:=bind_some c
  split at c
  ·rename_i hc
   cases c;have⟨p,kvs,h,hp,h3,h4,h5⟩:=N.ex
   erw[⟨_,h,p,rfl,.inr ⟨kvs,.inl (N.nh _ _ hp)⟩,Hf,ρ,kd,N.vi,hk0,λT H1 y g dy=>⟨ae _,λl hl=>?_⟩⟩];have N1:=N.ext g;have⟨b,rfl,hb⟩:=uO dy hk1;have G:H1 p=some (.dT kvs):=N1.nh _ _ hp;have U:=g.fh _ _ hb;have hkl:kvs.length=gd.length:=by rw[<-ba (f:=fst),h3,ba]
   have i:=ET (k:=k) h3;erw[⟨b,kvs,k,rfl,by rw[aK (cG G hl)];exact G,by rw[aK (cG U hl)];exact U,by rw[hkl];exact mR 'o',λw s=>?_,λs=>?_⟩]
   ·rw[s]at i
    have e:fK gd k=gd:=by delta fK;rwa[la i.symm]
    unfold kw at q;rw[e]at q;have I:=N1.ext (Ex.made (o:=.lst []) N1.vi.fh hl);have⟨ds,hds,l',xs,rfl,E,dx⟩:=EV h5 w (O4 s);erw[⟨.inl ⟨rfl,xs,bH.of (I.nh _ _ E)⟩,T,ρ,d,I.vi,c6,λu H2 y a C=>?_⟩];have Y:=I.ext a;erw[⟨xs,Y.nh _ _ E,?_,q u σ _ _ (g.ff.trans a.ff) (Y.app h hp s E C)⟩];have⟨z,hz,rfl⟩:=va.mp hds
    have:=ic (ud.mp hc.2 z hz)
    rw[<-dx.length];rwa[mR 'o']
   ·rw[s]at i
    have e:fK gd k=gd++[(k,[])]:=by delta fK;rw[wa (by rw[<-i];decide)]
    unfold kw at q;rw[e]at q;rw[EU s];have I:=N1.new (k:=k) h hp hl;have hpl:p≠l:=cG G hl;have E:(aI (aI Hn l (.lst [])) p (.dT (kvs++[(k,.ref l)]))) l=some (.lst []):=by rw[aK hpl.symm,aZ]
    erw[⟨.inl ⟨rfl,[],bH.of (I.nh _ _ E)⟩,T,ρ,d,I.vi,c6,λu H2 y a C=>?_⟩];have Y:=I.ext a;exact⟨[],Y.nh _ _ E,mR 'd',q u σ _ _ (g.ff.trans a.ff) (Y.app h aZ (O5 s) E C)⟩
  ·cases c
variable {st:Stmt}
def vH(h:PS X st (sG X B j g)):bR X [st] (sG X B j g):=qX h
def O7:bR X [] (sG X B j qA):=pz.imp λD a H z=>by
 have⟨Hf,ρ,gd,b,ρ',c,N,d,q⟩:=z;cases d;rwa[q Hf a H b (aQ.refl _) N]
def EX(u:PS X st (sG X B j g))(v:bR X rest (sG X B j h)):bR X (st::rest) (sG X B j (qB g h)):=(iD u v).imp λD w H k=>by
 have⟨Hf,ρ,gd,l,ρ',a,N,b,q⟩:=k;have⟨z,hz,b⟩:=bind_some b;exact⟨Hf,ρ,gd,l,z.1,z.2,N,hz,λc m x d n o=>⟨c,z.1,z.2,d,ρ',a,o,b,λe f p i r s=>q e f p i (n.trans r) s⟩⟩
def O8(v:PT X c (tV X.K B ft))(ha:bR X as (sG X B j g))(w:bR X bs (sG X B j h)):PS X (.If c as bs pos) (sG X B j (qC ft g h)):=(wR v ha w).imp λD x H z=>by
 have⟨Hf,ρ,gd,s,ρ',l,N,i,q⟩:=z;have⟨b,r,i⟩:=bind_some i;erw[⟨Hf,ρ,b,N.vi,r,λm y a=>?_⟩];have u:=N.ext a
 cases b with
 |true =>
  rw[la rfl]at i;show if true=true then _ else _
  rw[la rfl];exact⟨m,ρ,gd,s,ρ',l,u,i,λd e n f o p=>q d e n f (a.ff.trans o) p⟩
 |false =>
  rw[wa ua]at i;show if false=true then _ else _
  rw[wa ua];exact⟨m,ρ,gd,s,ρ',l,u,i,λd e n f o p=>q d e n f (a.ff.trans o) p⟩
theorem GS.set(N:GS X B j Hf ρ σ H gd Hn)(a:i≠j)(c:Dn X.K Hf d w):GS X B j Hf (ρ.set i (some (.sh d))) (σ.set i (some w)) H gd Hn:=by
 erw[⟨N.vi.set c,by rw[za a];exact N.nj,N.nh,N.nt,N.fr,qz (i:=i) d ρ _ rfl N.no,?_⟩]
 ·have⟨p,kvs,b,r⟩:=N.ex
  exact⟨p,kvs,by rw[za a];exact b,r⟩
def O9(f:i≠j)(g:X.N.Nodup)(o:X.N[i]?=some y)(p:jE X.u.scope y)(he:PE X e (eV X.K B fe))(hs:W0 X e (some (.Name y pos')) pos:=by rfl)(r:W3 X y:=by first|exact .inl rfl|exact .inr rfl|assumption):PS X (.Assign [.Name y pos'] e pos) (sG X B j (vG i fe)):=(mx g o p he hs r).imp λD s H z=>by
 have⟨Hf,ρ,gd,h,ρ',l,N,b,q⟩:=z;have⟨d,c6,b⟩:=yb.mp b;cases b;exact⟨Hf,ρ,d,N.vi,c6,λc m w a n=>q c _ m h a.ff ((N.ext a).set f n)⟩
variable {sl:T7}
def zC(hp:PassesOwn (model X.p X.w) X.A X.u X.xe)(hc:X.k=true)(hi:PI X tg iter (iV X.K B fi))(hg:PG X tg (gV X.K B sl gt))(hj:j ∉ sl)(Z:∀d ρ ρ1,gt d ρ=some ρ1->ρ1[j]?=ρ[j]?)(hno:∀d ρ ρ1,gt d ρ=some ρ1->(∀(i:Nat) s,ρ[i]?=some (some s)->dC s=false)->∀(i:Nat) s,ρ1[i]?=some (some s)->dC s=false)(hb:bR X body (sG X B j g))(hs:∀x,foldedSetIterable iter X.u x=pure x:=by intro _;rfl):PS X (.For tg iter body [] pos) (sG X B j (kx fi gt g)):=(wW hp hc hi hg hb hs).imp λD σ H t=>by
 have⟨Hf,ρ,gd,Hn,ρ',G,N,o,q⟩:=t;have⟨ds,e,o⟩:=bind_some o;erw[⟨Hf,ρ,ds,N.vi,e,λJ u H1 I ok=>?_⟩];erw[⟨λi m σ H=>m=ds.length - i/\i<=ds.length/\∃a f h l,GS X B j a f σ H h l/\aQ u a/\jR gt g (ds.drop i) f h=some (ρ',G),⟨ds.length,'m',ae _,u,ρ,gd,Hn,N.ext I,aQ.refl _,o⟩,?_⟩];rintro i m U H2 t;have⟨rfl,hi,a,f,h,l,Q,n,c⟩:=t;have M:=ok a H2 (n.trans Q.vi.fh) n Q.vi.fh i;by_cases F:i<ds.length
 ·have⟨go,Y⟩:=M.1 ds[i] (by simp[F])
  erw[.inr ⟨go,λv H'=>∃b O P Hn3,GS X B j b O v H' P Hn3/\aQ u b/\jR gt g (ds.drop (i+1)) O P=some (ρ',G),λv H' z=>⟨ds.length - (i+1),'o',rfl,F,z⟩,λx H3 y=>?_⟩];have⟨b,L,dx⟩:=Y x H3 y;rw[vd F]at c;unfold jR at c;have⟨ρ1,C,c⟩:=bind_some c;have⟨z,hz,c⟩:=bind_some c;have E:=Q.ext L;erw[⟨b,f,_,ρ1,E.vi,dx,C,λv I' _ hk=>⟨b,ρ1,h,l,z.1,z.2,⟨I',(Z _ _ _ C).trans E.nj,E.nh,E.nt,E.fr,hno _ _ _ C E.no,?_⟩,hz,λR σ'' H'' T sm N'=>⟨R,z.1,z.2,T,N',(n.trans L.ff).trans sm,c⟩⟩⟩];have⟨p,xs,h1,r⟩:=E.ex;exact⟨p,xs,(hk j hj).trans h1,r⟩
 ·have e:i=ds.length:=by omega
  subst e;rw[tj]at c;unfold jR at c;cases c;rwa[.inl ⟨M.2 (ib _),q a U H2 l (I.ff.trans n) Q⟩]
noncomputable def mX(j:Nat)(g:GG):av->aR:=λρ=>match ρ[j]? with
 |some none=>if (ρ.all λs=>match s with|some sl=>!dC sl|none=>true)=true then (match g ρ [] with|some z=>.rt (.dt (z.2.map fst) (z.2.map λx=>.lst x.2))|none=>.bad) else .bad
 |_=>.bad
def EY(G:X.N.Nodup)(M:X.N[j]?=some x)(hx:jE X.u.scope x)(C:PS X s2 (sG X B j g))(hs:W0 X (.Dict [] [] q1) (some (.Name x q2)) q3:=by rfl)(hf:W3 X x:=by first|exact .inl rfl|exact .inr rfl|assumption)(y:gY X.u.scope x:=by first|exact ub rfl|exact fg (ub rfl)|exact fg (fg rfl))(hd:(x == 'g')=false:=by decide)(J:(x == 'c')=false:=by decide) :
  bR X [.Assign [.Name x q2] (.Dict [] [] q1) q3,s2,.Return (some (.Name x p2)) pos'] (sV X.K B (mX j g)) :=
 (iD (mx G M hx CT hs hf) (iD C (qX (tZ (gh M y hd J))))).imp λD L H ⟨Hf,ρ,I,q⟩=>by
  unfold mX at q
  split at q
  ·rename_i A
   split at q
   ·rename_i n
    split at q
    ·rename_i z hz
     intro a ha;have E:j<L.length:=by rw[<-I.len];exact(qa.mp A).1
     have Y:VI X.K B Hf ρ (L.set j (some (.ref a))) (aI H a (.dT [])):=(I.setU A).ext (Ex.made I.fh ha)
     have F:∀(i:Nat) sl,ρ[i]?=some (some sl)->dC sl=false:=λi sl h=>by
      have:=ud.mp n _ (me h)
      simpa using this
     erw[⟨Hf,ρ,[],aI emp a (.dT []),z.1,z.2,⟨Y,A,OM aZ,λb xs h=>?_,λb m=>?_,F,a,[],by rw[dc E],aZ,rfl,mh,.nil⟩,hz,λf O H' c sm d=>?_⟩]
     ·by_cases m:b=a
      ·subst m;rw[aZ]at h;cases h
      ·rw[aK m]at h;cases h
     ·rw[ON m];exact⟨I.fh.free ha,I.ex.hh.free ha⟩
     ·have⟨p,kvs,Q,C,R,h4,T⟩:=d.ex
      have s:=EK d.vi.fh (EL.trans d.nh);have Z:∀b xs,c b=some (.lst xs)->jn f (iW c) b=some (.lst xs):=λb xs e=>s _ _ (OJ e)
      erw[⟨_,Q,q (jn f (iW c)) H' _ ⟨d.vi.ex.ff.trans zw,d.vi.ex.hh,EJ d.vi.fh (EL.trans d.nh),λb m=>?_,λb o u h=>d.vi.ex.nf b o u (OL h)⟩ ?_⟩]
      ·rcases EM m with w|w
       ·rwa[d.vi.ex.nw b w]
       ·rwa[.inr (.inl (d.fr b (OI w)).2)]
      ·refine yw (s _ _ (OK C)) R ?_
       have:∀{a:List (List L2.D)} {b:T6},Paired (λds v=>∃l xs,v=.ref l/\c l=some (.lst xs)/\aY X.K f ds xs) a b->aY X.K (jn f (iW c)) (a.map L2.D.lst) b:=by
        intro a b P
        induction P with
        |nil=>rwa[.nil]
        |cons r t ih =>
         have⟨l,xs,rfl,e2,U⟩:=r;rwa[.cons (iL (bH.of (Z _ _ e2)) (U.same zw)) ih]
       have e:=this T;rw[pc]at e;rwa[e]
    ·rwa[q.elim]
   ·rwa[q.elim]
  ·rwa[q.elim]
end
def ls(e:D):T4->Nat->Option Nat
 |[],_=>none
 |d::r,n=>if bI d e=true then some n else ls e r (n+1)
theorem EZ:∀{ds:T4}{n j:Nat},ls e ds n=some j->n<=j/\(∃d,ds[j - n]?=some d/\bI d e=true)/\∀m d,m<j - n->ds[m]?=some d->bI d e=false
 |[],n,j,h=>by cases h
 |d::r,n,j,h=>by
  unfold ls at h
  split at h
  ·rename_i b
   cases h;exact⟨ib _,⟨d,by rw[nk];rfl,b⟩,λm d' hm=>'o'⟩
  ·rename_i b
   have⟨l,⟨c,f,g⟩,i⟩:=EZ h;erw[⟨'o',⟨c,?_,g⟩,λm d' hm a=>?_⟩]
   ·rw[show j - n=(j - (n+1))+1 by omega,pd];rwa[f]
   ·cases m with
    |zero=>cases a;rwa[bf.mpr b]
    |succ m=>rw[pd]at a;rwa[i m d' 'o' a]
def E1(K:Fg1)(k:Nat):V->T6->Hp->VK->Prop:=λx vs H Q=>∃p xs ds e y j,x=.ref p/\vs=[y]/\bH K H p xs/\c9 K H k e y/\Paired (c9 K H k) ds xs/\(∃d,ds[j]?=some d/\bB k d e=true)/\(∀m d,m<j->ds[m]?=some d->bB k d e=false)/\Q (.int ((j:Nat):Int)) H
section
variable {X:Cx}
theorem sM:∀{l:List α}{r:List β},Paired F l r->∀{j:Nat}{a:α},l[j]?=some a->∃b,r[j]?=some b/\F a b
 |_,_,.nil,j,a,e=>by simp at e
 |_,_,.cons p q,0,a,e=>by simp at e;subst e;exact⟨_,rfl,p⟩
 |_,_,.cons p q,j+1,a,e=>by
  rw[pd]at e;have⟨b,c,d⟩:=sM q e;exact⟨b,by rw[pd];exact c,d⟩
def vI(k:Nat)(hr:aL n X.A)(hk:k<=9):iH X "list.index" (E1 X.K k):=by
 intro E s σ H x vs v us Q I N O h;have⟨p,xs,ds,e,y,j,rfl,rfl,P,R,T,⟨d0,U,Y⟩,Z,q⟩:=h;cases N;have⟨u,rfl,ru⟩:=O.one;have⟨its,r,pl,hz⟩:=I.list P;have i:=I.dens T r;have hv:=I.den R ru;have hu:=hr.units;have⟨w0,a,o⟩:=sM i U;have B:j<its.length:=(qa.mp a).1;have hl:its.length=xs.length:=r.length.symm;have hsz:=nF;have⟨⟨cls,dd,G,sl⟩,J,L,c,b⟩:=pl.isList;simp only at L b;subst L b;refine iq slot_list_index ⟨_,J,rfl⟩ PySem.F.entry_list_index (PySem.F.args_list_index_2 _ _) (SeqAt.list_indexAt p its.toArray c dd sl u (gv s.heap k e) j (by simpa using B) 'o' ?_ λm hm l=>?_) ⟨J,λw M=>pI (A:=X.A.in1) hv (by show X.A.units+1+k<cLine;omega) i w (by simpa using M),.int ((j:Nat):Int),H,I.tok _,⟨_,rfl⟩,q⟩
 ·have C:its.toArray[j]'(by simpa using B)=w0:=by
   have:=cc B
   rw[this]at a
   simpa using a
  rw[C,uR o];rwa[Y]
 ·have f:m<its.length:=by simpa using hm
  have g:m<ds.length:=by rw[i.length];rwa[f]
  have⟨w1,d,z⟩:=sM i (cc g)
  have C:its.toArray[m]=w1:=by
   have:=cc f
   rw[this]at d
   simpa using d
  rw[C,uR z];rwa[Z m _ l (cc g)]
noncomputable def ge(d:D)(es:T4):T5:=match d,es with
 |.lst ds,[e]=>if bO LV e && ds.all (bO LV) then (ls e ds 0).map λj=>.int ((j:Nat):Int) else none
 |_,_=>none
def vJ{K:Fg1}:PM K "list" (E1 K LV) ge:=by
 intro Hf H x xs d ds z Q s c f hz q;unfold ge at hz
 split at hz
 ·rename_i es e
  split at hz
  ·rename_i g
   rw[pb]at g
   cases i:ls e es 0 with
   |none=>rw[i]at hz;cases hz
   |some j =>
    rw[i]at hz;cases hz;have⟨y,rfl,a⟩:=gK f;have⟨p,ys,rfl,n,b⟩:=c.lst s;have a:=(a.whole s).at g.1;have b:=(b.same s).at g.2;have⟨_,⟨o,l,r⟩,u⟩:=EZ i;erw[⟨p,ys,es,e,y,j,rfl,rfl,n,a,b,⟨o,l,?_⟩,λm d hm c=>?_,q Hf H _ (.refl s) (cE rfl)⟩]
    ·have⟨v,_,h⟩:=sM b l
     rw[mE h a];rwa[r]
    ·have⟨v,_,h⟩:=sM b c
     rw[mE h a];rwa[u m d 'o' c]
  ·cases hz
 ·cases hz
end
def E2(K:Fg1):R2:=λx y H Q=>∃t b xs zs,x=.ref t/\y=.ref b/\cZ K H t xs/\cZ K H b zs/\xs≠[]/\zs≠[]/\xs.length+zs.length<=sizeLine/\∀p,H p=none->Q (.ref p) (aI H p (.tup (xs++zs)))
section
variable {X:Cx}
def E3:bF X (binaryOp .Add) (E2 X.K):=by
 intro p s σ H x y v u Q I L M h;have⟨t,b,xs,N,rfl,rfl,O,P,R,T,hz,q⟩:=h;cases L;cases M;have⟨its,r,U,_⟩:=I.tuple O;have⟨a,A,g,_⟩:=I.tuple P;have Z:=r.length;have l2:=A.length;have m1:its≠[]:=λz=>R (ql (by rw[Z,z];rfl))
 have m2:a≠[]:=λz=>T (ql (by rw[l2,z];rfl))
 have⟨⟨Y,dd,B,sl⟩,C,E,n,G⟩:=id U;have⟨⟨J,i,j,l⟩,c,d,m,f⟩:=id g;simp only at E G d f;subst E G d f;refine concat_meets ⟨_,C,rfl⟩ ⟨_,c,rfl⟩ noFill_tuple_add seq_tuple_add PySem.F.slot_tuple_add PySem.F.entry_tuple_add (PySem.F.args_tuple_add_2 _ _) (tuple_addW2 t b its.toArray a.toArray n m dd i sl l (by simpa using m1) (by simpa using m2) 's') ⟨C,c,?_⟩;have ea:its.toArray++a.toArray=(its++a).toArray:=by simp
 rw[ea];exact⟨.ref _,_,I.laid (t':=s.toks) (λb o e=>na _ e) (ib _) (show cw X.p X.w _ _ _ (.tup (xs++N)) from⟨by rw[ma];omega,its++a,r.append A,IsTup.new _ _⟩),rfl,q _ I.fresh⟩
end
noncomputable def sO(d e:D):T5:=match d,e with
 |.tup ds,.tup es=>if 0<ds.length/\0<es.length/\ds.length+es.length<=sizeLine then some (.tup (ds++es)) else none
 |_,_=>none
def E4{K:Fg1}:P2 K (E2 K) sO:=by
 intro Hf H x y d e z Q s l he hz q;unfold sO at hz
 split at hz
 ·split at hz
  ·rename_i ds es c
   cases hz;have⟨a,xs,rfl,f,i⟩:=l.tupU
   have⟨b,ys,rfl,g,j⟩:=he.tupU;have f:Hf a=some (.tup xs):=f;have g:Hf b=some (.tup ys):=g;have m:=i.length;have n:=j.length;erw[⟨a,b,xs,ys,rfl,rfl,cZ.of (s _ _ f),cZ.of (s _ _ g),λz=>?_,λz=>?_,'o',λp h=>q (aI Hf p (.tup (xs++ys))) _ _ (Ex.new s h) (nV (gJ.of aZ) ((show aY K Hf (ds++es) (xs++ys) from i.zapp j).same (gI (s.free h))))⟩]
   ·subst z;rw[m]at c;rwa[absurd c.1 'm']
   ·subst z;rw[n]at c;rwa[absurd c.2.1 'm']
  ·cases hz
 ·cases hz
def zD(Y:Cx)(W:XK):T2:=λv s'=>∃e C dx fs H1 a,v=.ref e/\ax Y [] a H1 s'/\H1 e=some (.ext (di e C dx))/\H1 dx=some (.ext (eS dx fs))/\dx≠e/\jJ s'.heap e/\W v (some dx) H1
def E5(X:Cx)(W:XK):Prop:=∀e C dx fs H1 a s',ax X [] a H1 s'->H1 e=some (.ext (di e C dx))->H1 dx=some (.ext (eS dx fs))->dx≠e->(jJ s'.heap e\/∃T L,pX s'.heap e L T/\X.s₀.heap.objs.size<=T/\H1 T=none)->W (.ref e) (some dx) H1->X.xe (.ref e) s'
def Pb{Y:Cx}:pC (cW Y.p Y.w) (Y.wish (zD Y W)) W:=by
 intro d f j l v m I k;have⟨e,C,dx,fs,H',g,os,a,un,b,h,he,i,c,q⟩:=k;subst g;exact⟨e,C,dx,fs,H',f,rfl,u1 (I.unwish.call' (ch:=[]) os un b a (λ_ z=>nomatch z)),he,i,c,h,q⟩
def Pc{K:Fg1}{a:Scope}:E5 ((c0 (cW P w) P w K i base N d a f j A b s H E).wish (pY (c0 (cW P w) P w K i base N d a f j A b s H E) E)) E :=
 λe C dx fs l g n I he m h c q=>⟨e,C,dx,fs,l,g,rfl,I.unwish,he,m,h,.inr c,q⟩
noncomputable def ky(g:D->av->Option av)(te gx:av->T5)(ρ:av):T4->T5
 |[]=>none
 |d::r=>(g d ρ).bind λρ1=>match gx ρ1 with|some z=>some z|none=>(te ρ1).bind λ_=>ky g te gx ρ r
noncomputable def zE(n:Nat)(cap:T7)(fi:av->T0)(g:D->av->Option av)(te gx:av->T5):av->T5 :=
 λρ=>(fi ρ).bind λds=>if ds.length<=sizeLine then ky g te gx (gL n cap ρ) ds else none
section
variable {X:Cx}{scope:Scope}{vars:T8}{cap sl:T7}{pos:Pos}
def PE.or(h:PE X e t)(h':PE X e t'):PE X e (λσ H Q=>t σ H Q\/t' σ H Q):=λa s σ H Q I q=>q.elim (h a s σ H Q I) (h' a s σ H Q I)
def Pd(a:X.k=true)(hst:X.t=X.u::X.outer/\X.u.frame=some X.u.locals)(hpn:X.pn=[])(hX:E5 X W)(S:cy X scope)(hcap:∀i∈cap,i<X.N.length/\scope.names.lookup (X.N.getD i "")≠some .local)(hn:cap.Nodup)(hsl:sl.all (·<vars.length)=true)(hi:PI X tg iter (iB X.K B fi))(hg:∀s H C ex,PG (cM X scope C vars cap s H ex) tg (gV X.K B sl g))(he:∀s H C ex,PE (cM X scope C vars cap s H ex) elt (eV X.K B te))(hx:∀s H C ex,PE ((cM X scope C vars cap s H ex).wish (zD (cM X scope C vars cap s H ex) W)) elt (eX X.K B W gx))(hs:∀x,foldedSetIterable iter X.u x=pure x:=by intro _;rfl):PE X (.ListComp elt [⟨tg,iter,[],0⟩] scope pos) (eX X.K B W (zE vars.length cap fi g te gx)):=by
 intro l s F H Q I z0;have⟨Hf,ρ,n,ks,es,V,hz,q⟩:=z0;have⟨ds,hd,hz⟩:=bind_some hz
 split at hz
 ·rename_i hl
  rw[eval_ListComp];erw[tm (use:=none) rfl hs (xz (S.cells I)) S.kind S.names ?_];erw[aU (hi l s F H (λJ E=>uC J (gV X.K B sl g) (tV X.K B λ_=>some true) (λF H Q=>eV X.K B te F H Q\/eX X.K B W gx F H Q) (fY vars.length cap F) (λys H'=>ys.length<=sizeLine/\False) E) I ⟨Hf,ρ,ds,V,hd,λJ G E ex1 ok=>?_⟩) λv s1 Z=>aU Z λitv s2 h2=>?_]
  ·have V1:=(V.ext ex1).comp (n:=vars.length) hn
   erw[⟨λi m ys H'=>m=ds.length - i/\i<=ds.length/\ys.length<=i/\∃O,Ex G E O H'/\ky g te gx (gL vars.length cap ρ) (ds.drop i)=some (.er n ks es),⟨ds.length,'m',ae _,ib _,G,.refl V1.fh,hz⟩,?_⟩];rintro i m ys H' z0;have⟨rfl,hi,hyl,O,ex,a⟩:=z0;have ok:=ok O H' ex.hh ex.ff ex.fh i;by_cases U:i<ds.length
   ·have⟨go,yld⟩:=ok.1 ds[i] (by simp[U])
    erw[.inr ⟨go,'o',λys' H2=>ys'.length<=i+1/\∃r,Ex G E r H2/\ky g te gx (gL vars.length cap ρ) (ds.drop (i+1))=some (.er n ks es),λys' H2 z=>⟨ds.length - (i+1),'o',rfl,U,z⟩,λx H2 y=>?_⟩];have⟨r,ex2,dx⟩:=yld x H2 y;rw[vd U]at a;unfold ky at a;have⟨ρ1,hg,a⟩:=bind_some a;have e2:=ex.trans ex2;erw[⟨r,_,_,ρ1,V1.ext e2,dx,hg,λσ' I' hle hk=>⟨⟨hle,λj v hv=>?_⟩,r,ρ1,true,I',rfl,λHf3 H3 L=>?_⟩⟩]
    ·rw[hk j λz=>?_]
     ·rwa[hv]
     ·have hj:=ud.mp hsl j z
      have hj:j<vars.length:=by simpa using hj
      unfold fY at hv;rw[ke (by simpa using hj),lg,la hj]at hv;cases hv
    ·show if true=true then _ else _
     rw[la rfl]
     cases hx:gx ρ1 with
     |some z=>rw[hx]at a;cases a;rwa[.inr ⟨Hf3,ρ1,n,ks,es,I'.ext L,hx,q⟩]
     |none =>
      rw[hx]at a;have⟨y,hy,a⟩:=bind_some a;rwa[.inl ⟨Hf3,ρ1,y,I'.ext L,hy,λHf4 H4 v ex4 dv=>⟨by simp;omega,Hf4,(e2.trans L).trans ex4,a⟩⟩]
   ·have e:i=ds.length:=by omega
    subst e;rw[tj]at a;cases a
  ·have⟨it,fp,tn,J,H2,e,P,T,st2,f2,q2⟩:=h2
   subst e;erw[xC (xc:=λs H C ex=>zD (cM X scope C vars cap s H ex) W) (RR:=λacc C=>compPost (model X.p X.w) X.A X.xe none (EP X l F Q) acc C) (Q:=λ_ _=>False) a S hcap P T st2 f2 hg (λ_ _ _ _=>mG) (λs H C ex=>PE.or ((he s H C ex).nox) (hx s H C ex)) ?_ q2 (λ_ _ _ _ _ _ z=>z.elim)];rintro D C v s' hC z0;have⟨e,Ce,dx,fs,E,σ1,rfl,I1,Z,h2,hne,tr,w⟩:=z0;erw[DG (Y:=cM X scope C vars cap s2 H2 fp) (env0:=X.u) (out0:=X.outer) hst.1 hst.2 hpn I1 Z (.inr (.inl tr)) λs3 T M z z2 z3=>?_]
   have⟨m,hm,_⟩:=id M.loc;erw[⟨m,hm,λh' hh h _=>?_⟩];have⟨oe,vs,oT,ts,a1,a2,a3,a4,a5,R,a7⟩:=z;have lt:∀b o,s2.heap.get? b=some o->b≠C:=λb o z=>vc (xb (wb z) hC)
   have IX:ax X l F E s3:=P.call' (ch:=fp) M.os M.base M.hok M.bare λb hb=>by
    have⟨f0,f1,f2,f3,f4,f5⟩:=f2 b hb;exact⟨f3,f1,f4,f5⟩
   have hCe:e≠C:=λz=>by rw[z,show E C=none from M.free]at Z;cases Z
   have hCT:T≠C:=λz=>by
    have⟨o,_,_,ho,hdd,_⟩:=hm;rw[z]at a5;rw[show s3.heap.get? C=some o from ho]at a5;cases a5;rw[R]at hdd;cases hdd
   have IY:=u1 (IX.turned (it:=C) (t':=s3.toks) (λb o hb e=>hh.extBut b o hb e) M.free (vf (vc (xb P.lt hC))) (.inr (zc P.sz hC)) (λx c e=>by have⟨v,z⟩:=P.cell x c e;exact vc (xb z.lt hC)) λp hp=>lt _ _ (P.pin p hp).1);have b1:=hh.extBut _ _ hCe a1;have b5:=hh.extBut _ _ hCT a5;unfold PySem.passOn;refine aa (vh b1 a2 a3 ?_);rw[wa 'm'];unfold setFlight;refine aa (aa (vh b1 a2 a3 ?_));rw[la (show (ref T != Value.none)=true from by simp)];have h3:=(yd.mp a7).1;refine ii b5 R h3 ?_;have d:=be (mapFields (·.setIfInBounds 3 (h.frame.elim Value.none λf=>rawInt f))) b5 (dh (cf R _));have u:=(qc h' (mapFields (·.setIfInBounds 3 (h.frame.elim Value.none λf=>rawInt f))) a4).trans b1;have hlo:=zc P.sz z2;refine wpAny_throw (hX e Ce dx fs E F _ (IY.entry (e:=e) (C:=Ce) (dx:=dx) (by rw[hpn];rfl) b5 R hlo (λhm=>?_) z3) Z h2 hne ?_ w)
   ·have⟨_,o,ho,hnf⟩:=IY.stack.mem hm
    rw[show h'.get? T=some o from ho]at b5;cases b5;rwa[hnf ts R]
   ·cases hf:h.frame with
    |none=>rw[hf]at d u;rwa[.inl ⟨oe,vs,T,_,_,u,a2,a3,a4,d,cf R _,by simp[h3]⟩]
    |some f'=>rw[hf]at d u;rwa[.inr ⟨T,f',⟨oe,vs,_,_,u,a2,a3,a4,d,cf R _,by simp[h3]⟩,hlo,z3⟩]
 ·cases hz
end
noncomputable def sQ(K:Fg1)(P:Addr):Bool:=specialIn K (.ref P) "__getattribute__" == some (some (.builtin "type.__getattribute__")) && PySem.W.readsIn K P (.type "type") && (match PySem.W.findCls K (.ref P) (.type "type") "__init__" with|some (.val v)=>v == .builtin "ValueError.__init__" | _=>false)
section
variable {X:Cx}{a:Expr}{q2 pos:Pos}
def Pe{a:T1}{P:Addr}(I:ax X a l H s)(c:c1 X.K nm C P L)(he:H e=some (.ext (g9 e C n)))(q:∀M s',ax X a l (aI H e (.ext (g9 e C M))) s'->Q .none s') :
  wpAny (model X.p X.w) A (call (.builtin "ValueError.__init__") [.ref e,u]) Q E s:=by
 have⟨mN,mP,xc,_,_,r⟩:=c.at_ s.heap I.kIn;have⟨⟨O,N,bs,R,v,U,y,dd,Y,Z,k2,k3,k5,B,hn⟩,a1,a2,a3,a4,a5,a6,a7,a8,a9,b0,b1,b2,b3,b4,b5,F,G⟩:=xc;have j:=vp;have T:OwnTail s.heap dM (.ref P::dM):=.own F G r .base;have m:s.heap.get? e=some ⟨.ref C,none,.fields #[.ref n,.none,.none,.none,.bool false,.none],#[]⟩:=I.hok.ext he;have⟨f,g,d,i,os⟩:=s;refine qm (rh j.init.plain j.initEntry (wpAny_check_init_subT j T B m rfl ?_));unfold Builtin.«BaseException.__init__»;dsimp only;rw[wa 'm'];unfold newTuple Builtin.BaseException.bexcPut;have e1:=na (h:=f) { cls:=.type "tuple",data:=.seq #[u] } m;refine aa (pf ?_);refine aa (aa (vh e1 rfl rfl (aa (ii e1 rfl (Nat.zero_lt_succ _) (mn (ja ?_))))));have J:ax X a l H ⟨f.push { cls:=.type "tuple",data:=.seq #[u] },g,d,i,os⟩:=I.kept (t':=i) λb o z=>na _ z
 have e2:=be (mapFields (·.setIfInBounds 0 (ref f.objs.size))) e1 rfl;rwa[q f.objs.size _ (J.write (t':=i) (x:=e) (e:=e) (by rw[he];trivial) 'j' (λb o p z=>(qc _ _ (vf p)).trans z) ⟨_,e2⟩ (CV e2))]
def Pf(z:Gl X "PageError")(hm:X.mg "PageError" = some (.ref P))(g:sQ X.K P=true)(ha:PA X (a::as) t)(hl:(q2.endLine == pos.line)=true)(i:methodCallForm (a::as).length (backTo pos (starEach (a::as) X.u)) (backToKw pos (keywordEach [] X.u))=true)(he:W1 X (a::as) a as)(j:W2 X pos as) :
  PE X (.Call (.Attribute (.Name "PageError" q1) "__init__" q2) (a::as) [] pos) (λσ H Q=>t σ H λvs H1=>∃e v nm C P fI t0,vs=[.ref e,v]/\c1 X.K nm C P fI/\H1 e=some (.ext (g9 e C t0))/\∀f,Q .non (aI H1 e (.ext (g9 e C f)))):=by
 intro b s σ H Q I h;unfold sQ at g;rw[pb,pb]at g;have⟨⟨u,w⟩,d⟩:=g
 split at d
 ·rename_i v p
  have d:=cn.mp d;subst d;rw[arm_eval_Call];erw[aa (nC I z hm (aa (am ?_)))];delta methodCall;rw[show methodCallForm ((a::as).length+([]:List Keyword).length) (backTo pos (starEach (a::as) X.u)) (backToKw pos (keywordEach [] X.u))=true from i];erw[aa (ve (PySem.W.method_cls I.kIn (cn.mp u) (PySem.W.cls_value I.kIn w p rfl ?_)))];erw[aa (ju (show methodCallPos true (.Name "PageError" q1) X.u q2 pos=pure pos by delta methodCallPos;simp[hl]) ?_)];have y:ax X b σ H { s with toks:=s.toks+1 }:=I.tok _;erw[qo (aU (ha pos b _ σ H _ y h) λA B k=>?_) he j];have⟨vs,H1,l,r,e,v,nm,C,P,fI,t0,m,c,n,q⟩:=k;subst m;have⟨F,G,rfl,x,J⟩:=nG r;cases x;rwa[Pe l c n λf E o=>⟨.non,_,o,rfl,q f⟩]
 ·cases d
end
def zF(K:Fg1)(nm f:Str):Sp:=λvs H Q _=>∃e a ys C P fI t0,vs=[.ref e,.ref a]/\bH K H a ys/\c1 K nm C P fI/\H e=some (.ext (g9 e C t0))/\∀b l dx c,H b=none->b≠e->H l=none->l≠e->l≠b->H dx=none->dx≠e->dx≠l->dx≠b->Q .non (aI (aI (aI (aI (aI H b (.lst ys)) e (.ext (g9 e C c))) l (.lst ys)) e (.ext (kJ e C dx c))) dx (.ext (eS dx [(f,.ref l)])))
section
variable {K:Fg1}
def Pg{st:Stmt}{q2 q7:Pos}(hm:mg "PageError" = some (.ref Pa))(ri:sQ K Pa=true)(R:mg "list" = none)(F:ec K x j st f fd)(S:az [d,g] [d,g] (bw st))(T:O∈hG)(hb:fM st=[.Expr (.Call (.Attribute (.Name "PageError" q1) "__init__" q2) [.Name d q3,.Call (.Name "list" q4) [.Name g q5] [] q6] [] q7) q8,.Assign [.Attribute (.Name d p1) O p2] (.Call (.Name "list" B) [.Name g G] [] I) p6])(h0:(bw st).names.lookup d=some .local)(L:(bw st).names.lookup g=some .local)(U:(bw st).names.lookup ("PageError" : Str)=some .globalImplicit)(X:(bw st).names.lookup ("list" : Str)=some .globalImplicit)(hl:(q2.endLine == q7.line)=true)(c6:(d == 'g')=false:=by decide)(y:(d == 'c')=false:=by decide)(gU:(g == 'g')=false:=by decide)(Y:(g == 'c')=false:=by decide):aG P w K mg base bC 1 f fd [d,g] (zF K nm O):=by
 erw[F.ok (k:=0) S (λvs H Q E t=>by have⟨e,a,_,_,_,_,_,L,_⟩:=t;rw[L];rfl) λM A m s H vs Q E hr t=>?_];have⟨e,a,ys,C,Z,fI,t0,ev,hq,c,he,q⟩:=t
 subst ev;rw[hb];have pl:∀{B G I:Pos},PE (c0 bC P w K mg base [d,g] j (bw st) f M A m s H E).nox (.Call (.Name "list" B) [.Name g G] [] I) _:=λ{B G I}=>w9 Cy X R rz (dL (gh (i:=1) rfl (ub L) gU Y) gG rfl) 'd' 'd' rfl rfl
 erw[⟨_,iD (pA (Pf U hm ri (dL (gh (i:=0) rfl (ub h0) c6 y) (dL pl gG rfl) rfl) hl rfl rfl rfl) rfl) (iD (uL pl (i:=0) rfl (ub h0) c6 y rfl) pz),?_⟩];erw[⟨.ref e,rfl,.ref a,rfl,ys,.inl hq,λp d=>?_⟩];have v:=cG he d;erw[⟨e,.ref p,nm,C,Z,fI,t0,rfl,c,by rw[aK v];exact he,λJ=>?_⟩];have up:∀{b:Addr} {u:HO},H b=some u->(∀φ,u≠.ext φ)->aI (aI H p (.lst ys)) e (.ext (g9 e C J)) b=some u:=λ{b u} z hu=>by rw[aK (gD z he (hu _)),aK (cG z d)];rwa[z]
 have N:bH K (aI (aI H p (.lst ys)) e (.ext (g9 e C J))) a ys:=by
  rcases hq with(z|⟨o,z⟩)|z
  ·rwa[.inl (.inl (up z λ_ z=>nomatch z))]
  ·rwa[.inl (.inr ⟨o,up z λ_ z=>nomatch z⟩)]
  ·rwa[.inr z]
 erw[⟨.ref a,rfl,ys,.inl N,λl h=>⟨e,nm,C,Z,fI,rfl,c,T,.inl ⟨J,?_,λdx n r=>?_⟩⟩⟩]
 ·rw[aK (λz=>?_),aZ]
  rw[<-z,aZ]at h;cases h
 ·have g:l≠e:=λz=>by rw[z,aZ]at h;cases h
  rw[aK g]at h;have n2:l≠p:=λz=>by rw[z,aZ]at h;cases h
  rw[aK n2]at h;have n3:dx≠l:=λz=>by rw[z,aZ]at n;cases n
  rw[aK n3,aK r]at n;have n4:dx≠p:=λz=>by rw[z,aZ]at n;cases n
  rw[aK n4]at n;rwa[q p l dx J d (vf v) h g n2 n r n3 n4]
end
noncomputable def zG(nm f:Str)(fr:av->T0):av->T5:=λρ=>(fr ρ).bind λds=>match ds with|[.lst es]=>some (.er nm [f] [.lst es])|_=>none
def Ph(hc:X.k=true)(c:c1 X.K nm C P (some i))(hP:nsIn X.K mainGlobals "PageError" = some (some (.ref P)))(y:nsIn X.K mainGlobals nm=some (some (.ref C)))(z:∃o,X.K.lookup i=some o/\o.cls=.type "function")(E:keepIn X.K (.ref C)=true)(F:aG X.p X.w X.K X.mg X.base bC k i Y ps (zF X.K nm f))(hr:aL (k+1) X.A)(m:Gl X x)(hm:X.mg x=some (.ref C))(hb:dq X.K Y ps [])(G:uK X W)(ha:PA X (a::as) (aV X.K B T))(J:(x == 'g')=false:=by decide)(he:W1 X (a::as) a as:=by rfl)(L:W2 X U as:=by rfl):PS X (.Raise (some (.Call (.Name x p) (a::as) [] U)) none v) (xV X.K B W (zG nm f T)) :=
 (C0 hc c hP y z E F hr m hm hb G ha J he L).imp λD σ H t=>by
  have⟨Hf,ρ,n,ks,es,I,m,q⟩:=t;have⟨ds,hd,hz⟩:=bind_some m
  split at hz
  ·rename_i ds
   cases hz;erw[⟨Hf,ρ,_,I,hd,λh H1 vs d r=>?_⟩]
   obtain⟨x,rfl,hx⟩:∃x,vs=[x]/\Dn X.K h (.lst ds) x:=by
    cases r with
    |cons a b=>cases b;exact⟨_,rfl,a⟩
   have⟨a,ys,rfl,h1,h2⟩:=hx.lst;erw[⟨by show 1<=10;decide,λe C P i Z he cl c=>⟨e,a,ys,C,P,i,Z,rfl,aQ.seq (Ex.made d.fh he).fh h1,c,aZ,λl0 l dx t1 M s N j a5 O g Q a9=>⟨rfl,dx,t1,_,g,by rw[aK (vf g),aZ],aZ,?_⟩⟩⟩];rw[aK s]at M;rw[aK j]at N;rw[aK g]at O;rw[u3 g,py,u3 j,py,u3 s,py];have e1:=Ex.new (o:=.ext (di e C dx)) d.fh he;have e2:=Ex.made (o:=.lst ys) e1.fh (by rw[aK s];rwa[M]);have u:=Ex.new (o:=.lst ys) e2.fh (p:=l) (by rw[aK a5,aK j];rwa[N]);have R:=Ex.new (o:=.ext (eS dx [(f,.ref l)])) u.fh (p:=dx) (by rw[aK Q,aK a9,aK g];rwa[O]);have dl:aY X.K (aI (aI (aI h e (.ext (di e C dx))) l (.lst ys)) dx (.ext (eS dx [(f,.ref l)]))) [.lst ds] [.ref l]:=.cons (iL (bH.of (by rw[aK (vf Q),aZ])) (h2.same (e1.trans (e2.trans (u.trans R))).ff)) .nil;have⟨k,dk⟩:=dl.level;rwa[q _ _ e dx (I.ex.trans (d.trans (e1.trans (e2.trans (u.trans R))))) ⟨k+1,e,C,dx,[(f,.ref l)],rfl,by rw[aK (vf g),aK (vf j),aZ],cl,g,aZ,rfl,dk⟩]
  ·cases hz
end L2
namespace L2
open PySem PySem.SetTable
noncomputable def vK(m i:Nat):T7:=(range (runEnd m i+1 - i)).map (i+·)
def l5(m:Nat):Nat->Nat->Nat->T7
 |0,_,_=>[]
 |n+1,i,p=>vK m i++l5 m n (leap m i p).1 (leap m i p).2
def sL(m:Nat)(h:Int):T7:=l5 m (turns m) (bits h % (m+1)) (bits h)
def E6(m i:Nat):i<=runEnd m i/\runEnd m i<=i+9:=by delta runEnd;split <;> omega
noncomputable def gB(m:Nat):Nat->Nat×Nat->Nat×Nat
 |0,x=>x
 |k+1,x=>gB m k (leap m x.1 x.2)
theorem E7:∀{k n i p:Nat},k<n->(gB m k (i,p)).1∈l5 m n i p
 |0,n+1,i,p,_=>ie _ (va.mpr ⟨0,uf.mpr (by have:=(E6 m i).1;omega),rfl⟩)
 |k+1,n+1,i,p,h=>gc _ (E7 (xl h))
theorem zH:∀(k:Nat) (x:Nat×Nat),(gB m k x).2=x.2 / 32 ^ k
 |0,_=>(Nat.div_one _).symm
 |k+1,x=>by rw[gB,zH k,leap,Nat.div_div_eq_div_mul,Nat.pow_succ,Nat.mul_comm]
theorem E8:∀(k:Nat) (x:Nat×Nat),x.1<=m->(gB m k x).1<=m
 |0,_,h=>h
 |k+1,x,_=>E8 k _ (dm (yv _ (bo m)))
theorem sR:∀(a b:Nat) (x:Nat×Nat),gB m (a+b) x=gB m b (gB m a x)
 |0,b,_=>by rw[yf];rfl
 |a+1,b,x=>by rw[Nat.succ_add];rwa[sR a b _]
noncomputable def zI(m:Nat):Nat->Nat->T7
 |0,_=>[]
 |n+1,i=>i::zI m n ((i * 5+1) % (m+1))
theorem E9:∀{n i:Nat},e∈zI m n i->∃k,k<n/\(gB m k (i,0)).1=e
 |n+1,i,h=>by
  rcases cb.mp h with rfl|h
  ·exact⟨0,bo n,rfl⟩
  ·have ⟨k,a,e⟩:=E9 h
   exact⟨k+1,Nat.succ_lt_succ a,by rw[gB,leap,Nat.zero_div];rwa[e]⟩
def M3(m:Nat):Prop:=m=7\/m=31\/m=127
noncomputable def Pi(m:Nat):Bool:=(range (m+1)).all λe=>(zI m (m+1) 0).contains e
def Pj(h:(gB m k (0,0)).1=i):gB m k (0,0)=(i,0):=jq h (by rw[zH];rwa[Nat.zero_div _])
def Fa(h:M3 m)(he:e<=m):∃k,k<m+1/\gB m k (0,0)=(e,0):=by
 have k:Pi m=true:=by rcases h with rfl|rfl|rfl <;> decide
 have ⟨k,a,z⟩:=E9 (List.contains_iff_mem.mp (ud.mp k e (uf.mpr (Nat.lt_succ_of_le he))));exact⟨k,a,Pj z⟩
def Pk(h:M3 m)(g:i<=m)(he:e<=m):∃k,k<m+1/\(gB m k (i,0)).1=e:=by
 have ⟨a,ha,d⟩:=Fa h g;have ⟨b,j,f⟩:=Fa h he;have z:gB m (m+1) (0,0)=(0,0):=by rcases h with rfl|rfl|rfl <;> decide
 by_cases c:a<=b
 ·exact⟨b - a,'o',by rw[<-d,<-sR,Nat.add_sub_cancel' c,f]⟩
 ·exact⟨m+1 - a+b,'o',by rw[<-d,<-sR,show a+(m+1 - a+b)=m+1+b by omega,sR,z,f]⟩
def Pl(h:Int):bits h<2 ^ 64:=by delta bits;omega
def Fb(hm:M3 m)(h:Int)(he:e<=m):e∈sL m h:=by
 have a:bits h % (m+1)<=m:=dm (yv _ (bo m));have z:gB m 13 (bits h % (m+1),bits h)=((gB m 13 (bits h % (m+1),bits h)).1,0):=jq rfl (by rw[zH];rwa[Nat.div_eq_of_lt (xb (Pl h) 'd')]);have ⟨k,b,e⟩:=Pk hm (E8 13 (bits h % (m+1),bits h) a) he;rw[<-e,<-z,<-sR];rwa[E7 (by delta turns;omega)]
noncomputable def jS(t:SetTable):Nat->Probe->T7
 |0,_=>[]
 |n+1,p=>p.j::jS t n (t.advance p)
noncomputable def Fc(t:SetTable)(p:Probe):Probe:={ p with j:=(leap t.mask p.i p.perturb).1,more:=runEnd t.mask (leap t.mask p.i p.perturb).1 - (leap t.mask p.i p.perturb).1,i:=(leap t.mask p.i p.perturb).1,perturb:=(leap t.mask p.i p.perturb).2 }
theorem Fd(n:Nat):∀(r:Nat) (p:Probe),p.more=r->jS t (r+1+n) p=(range (r+1)).map (p.j+·)++jS t n (Fc t p)
 |0,p,h=>by
  rw[yf,Nat.add_comm,jS,advance,h];rfl
 |r+1,p,h=>by
  have z:t.advance p={ p with j:=p.j+1,more:=r }:=by delta advance;rw[h,la (bo r)];rfl
  rw[show r+1+1+n=(r+1+n)+1 by omega,jS,z,Fd n r _ rfl,@on (r+1),oa,pc];show p.j::_=(p.j+0)::_
  congr 1
  congr 1
  exact kg λa _=>by show p.j+1+a=p.j+(a+1);omega
theorem Fe:∀(n:Nat) (q:Probe),q.j=q.i->q.more=runEnd t.mask q.i - q.i->∃k,k<=10 * n/\jS t k q=l5 t.mask n q.i q.perturb
 |0,q,_,_=>⟨0,ib _,rfl⟩
 |n+1,q,a,b=>by
  have ⟨k,c,e⟩:=Fe n (Fc t q) rfl rfl
  have:=E6 t.mask q.i
  erw[⟨q.more+1+k,'o',?_⟩];rw[Fd k q.more q rfl,e,a,b,l5,vK,show runEnd t.mask q.i+1 - q.i=runEnd t.mask q.i - q.i+1 by omega];rfl
def Pm(t:SetTable)(h:Int):∃k,k<=10 * turns t.mask/\jS t k (t.probeStart h)=sL t.mask h:=Fe (turns t.mask) (t.probeStart h) rfl rfl
def zJ(t:SetTable)(p:Probe):(t.advance p).dummy=p.dummy:=by delta advance;split <;> rfl
theorem zK(t:SetTable):∀(n:Nat) (p:Probe),(jS t n p).length=n
 |0,_=>rfl
 |n+1,_=>qe (·+1) (zK t n _)
theorem Ff{a:T7}:∀{pre:T7}{k f:Nat}{p:Probe},p.dummy=none->jS t k p=pre++j::a->(∀x∈pre,∃i,t.slot x=.live i/\ha i≠h)->t.slot j=.empty->pre.length<f->probe.go t ha h f p=some (.empty j none)
 |pre,0,f,p,b,e,_,_,_=>by cases pre <;> cases e
 |[],k+1,f+1,p,b,e,_,c,_=>by
  have⟨e1,_⟩:=ef e;rw[probe.go,e1,c,b]
 |x::pre,k+1,f+1,p,b,e,d,c,m=>by
  have⟨e1,e2⟩:=ef e;have⟨i,l,hn⟩:=d x da;rw[probe.go,e1,l];dsimp only;rw[wa (by simpa using hn)];rwa[Ff ((zJ t p).trans b) e2 (λy g=>d y (ia _ g)) c (xl m)]
theorem Fg{a:T7}:∀{pre:T7}{k f:Nat}{p:Probe},p.dummy=none->jS t k p=pre++j::a->(∀x∈pre,∃i,t.slot x=.live i/\ha i≠h)->t.slot j=.live i->ha i=h->pre.length<f->∃q,probe.go t ha h f p=some (.candidate j i q)/\q.dummy=none/\jS t a.length q=a
 |pre,0,f,p,b,e,_,_,_,_=>by cases pre <;> cases e
 |[],k+1,f+1,p,b,e,_,d,g,_=>by
  have⟨e1,e2⟩:=ef e;erw[⟨t.advance p,?_,(zJ t p).trans b,?_⟩]
  ·rw[probe.go,e1,d];dsimp only;rw[la (by simpa using g)]
  ·have l:k=a.length:=by rw[<-e2];exact(zK t k _).symm
   rw[<-l,e2]
 |x::pre,k+1,f+1,p,b,e,m,d,g,o=>by
  have⟨e1,e2⟩:=ef e;have⟨s,c,hn⟩:=m x da;have ⟨q,r⟩:=Fg ((zJ t p).trans b) e2 (λy n=>m y (ia _ n)) d g (xl o);erw[⟨q,?_,r.2⟩];rw[probe.go,e1,c];dsimp only;rw[wa (by simpa using hn)];rwa[r.1]
abbrev Rs(l:T7):Prop:=l.Pairwise (·<·)
theorem zL{A:T7}(g:∀x∈A,x<j)(h:∀x∈B,j<=x):∀{f b a:Nat},b<=A.length->A.length<=a->a<=(A++B).length->a - b<=f->below.go (A++B).toArray j f b a=A.length
 |0,b,a,i,l,_,m=>by rw[below.go];omega
 |f+1,b,a,i,l,n,m=>by
  rw[below.go];by_cases c:b<a
  ·rw[la c]
   have hm:(b+a) / 2<(A++B).length:=by omega
   have e:(A++B).toArray.getD ((b+a) / 2) j=(A++B)[(b+a) / 2]:=by delta getD;rw[dif_pos (show (b+a) / 2<(A++B).toArray.size from hm)];rfl
   by_cases d:(b+a) / 2<A.length
   ·have:(A++B)[(b+a) / 2]<j:=by rw[List.getElem_append_left d];exact g _ (jg d)
    dsimp only;rw[e,la this];rwa[zL g h 'o' l n 'o']
   ·have:¬(A++B)[(b+a) / 2]<j:=by
     rw[nq (uo d)];rwa[Nat.not_lt.mpr (h _ (jg _))]
    dsimp only;rw[e,wa this];rwa[zL g h i 'o' 'o' 'o']
  ·rw[wa c];omega
def zM{A:T7}(a:∀x∈A,x<j)(b:∀x∈B,j<=x):below (A++B).toArray j=A.length :=
 zL a b (ae _) 'm' 'm' 'm'
theorem zN(j:Nat):∀{l:T7},Rs l->∃A B,l=A++B/\(∀x∈A,x<j)/\∀x∈B,j<=x
 |[],_=>⟨[],[],rfl,nofun,nofun⟩
 |y::l,h=>by
  have⟨f,g⟩:=we.mp h;by_cases c:y<j
  ·have ⟨A,B,e,a,b⟩:=zN j g
   exact⟨y::A,B,by rw[e];rfl,λx d=>(cb.mp d).elim (λz=>z ▸ c) (a x),b⟩
  ·exact⟨[],y::l,rfl,nofun,λx d=>(cb.mp d).elim (λz=>z ▸ uo c) λz=>by have:=f x z;omega⟩
structure Tb(t:SetTable)(l:T7):Prop where
 p:t.place=l.toArray
 d:t.dummies=#[]
 r:Rs l
 m:M3 t.mask
 b:∀x∈l,x<=t.mask
theorem Tb.live(T:Tb t l)(e:l=A++j::B):t.slot j=.live A.length:=by
 have r:=xp.mp (e ▸ T.r)
 have z:below t.place j=A.length:=by
  rw[T.p,e];rwa[zM (λx a=>r.2.2 x a j da) λx a=>(cb.mp a).elim (λz=>bx z.symm) λz=>et ((we.mp r.2.1).1 x z)]
 delta slot;dsimp only;rw[z,T.p,e];simp
def Tb.emp(T:Tb t l)(h:j ∉ l):t.slot j=.empty:=by
 have ⟨A,B,e,a,b⟩:=zN j T.r;have z:below t.place j=A.length:=by rw[T.p,e];rwa[zM a b]
 have y:t.place[A.length]?≠some j:=λy=>h (by rw[T.p,List.getElem?_toArray]at y;rwa[me y])
 delta slot has;dsimp only;rw[z,T.d,wa (by simpa using y)];rfl
def Fh{a:Type}(A B:List a)(x:a):insertAt (A++B).toArray A.length x=(A++x::B).toArray:=by
 delta insertAt;apply xv;simp
theorem Tb.put(T:Tb t l)(h:j ∉ l)(hm:j<=t.mask):∃A B,l=A++B/\(t.put j).2=A.length/\Tb (t.put j).1 (A++j::B)/\(t.put j).1.mask=t.mask:=by
 have ⟨A,B,e,a,b⟩:=zN j T.r;have z:below t.place j=A.length:=by rw[T.p,e];rwa[zM a b]
 have r:=xp.mp (e ▸ T.r);erw[⟨A,B,e,z,⟨?_,?_,?_,T.m,?_⟩,rfl⟩]
 ·show insertAt t.place (below t.place j) j=_
  rw[z,T.p,e,Fh]
 ·show (if has t.dummies j then _ else t.dummies)=_
  rw[T.d];rfl
 ·refine xp.mpr ⟨r.1,we.mpr ⟨λx hx=>?_,r.2.1⟩,λx hx y hy=>?_⟩
  ·have:=b x hx
   have:j≠x:=λq=>h (by rw[e,q];rwa[gc _ hx])
   omega
  ·rcases cb.mp hy with rfl|hy
   ·rwa[a x hx]
   ·rwa[r.2.2 x hx y hy]
 ·intro x hx
  rcases jb.mp hx with hx|hx
  ·rwa[T.b x (by rw[e];rwa[ie _ hx])]
  ·rcases cb.mp hx with rfl|hx
   ·rwa[hm]
   ·rwa[T.b x (by rw[e];rwa[gc _ hx])]
abbrev SE:=Int×Value
def Fs(m:Nat)(Z:List (Nat×SE)):Prop:=∀z∈Z,∃a b,sL m z.2.1=a++z.1::b/\∀x∈a,x∈Z.map fst
abbrev Ow:=List (Option Nat)
def Fi{a:Type}(l:List a)(j:Nat)(d:a):l.toArray.getD j d=l.getD j d:=by
 delta getD;split
 ·rename_i h
  have h':j<l.length:=h;rw[bb,cc h'];rfl
 ·rename_i h
  have h':¬j<l.length:=h;rw[bb,kh (uo h')];rfl
theorem Fj{O:Ow}:∀{n i p:Nat},layClean.free m O.toArray n i p=(l5 m n i p).find? λj=>(O.getD j (some 0)).isNone
 |0,_,_=>rfl
 |n+1,i,p=>by
  rw[layClean.free,l5,List.find?_append,vK,List.find?_map];simp only[Fi]
  cases h:find? ((λj=>(O.getD j (some 0)).isNone) ∘ λx=>i+x) (range (runEnd m i+1 - i)) with
  |none =>
   have h':find? (λk=>(O.getD (i+k) (some 0)).isNone) (range (runEnd m i+1 - i))=none:=h;rw[h'];rwa[Fj]
  |some k =>
   have h':find? (λk=>(O.getD (i+k) (some 0)).isNone) (range (runEnd m i+1 - i))=some k:=h;rw[h'];rfl
def Pn(b:i<=m)(h:x∈vK m i):x<=m:=by
 have⟨k,a,rfl⟩:=va.mp h;have a:=uf.mp a;show i+k<=m;unfold runEnd at a
 split at a <;> omega
theorem Fk:∀{n i p:Nat},i<=m->x∈l5 m n i p->x<=m
 |_+1,_,_,a,h=>(jb.mp h).elim (Pn a) (Fk (dm (yv _ (bo m))))
def zO(z:x∈sL m h):x<=m:=Fk (dm (yv _ (bo m))) z
structure Wi(m:Nat)(hs:Ti)(O:Ow):Prop where
 sz:O.length=m+1
 ct:O.count none+hs.length=m+1
 a:∀{j i:Nat},O[j]?=some (some i)->∃h,hs[i]?=some h/\∃pre post,sL m h=pre++j::post/\∀x∈pre,∃i',O[x]?=some (some i')
 b:∀{i:Nat},i<hs.length->∃j:Nat,O[j]?=some (some i)
def Wi.next(hm:M3 m)(W:Wi m hs O)(h:Int)(hl:hs.length<=m):∃j,(sL m h).find? (λj=>(O.getD j (some 0)).isNone)=some j/\Wi m (hs++[h]) (O.set j (some hs.length)):=by
 have B:0<O.count none:=by have:=W.ct;omega
 have⟨e,he⟩:=mo.mp (List.count_pos_iff.mp B);have o:∀{j:Nat} {x:Option Nat},O[j]?=some x->j<=m:=λz=>by have:=(qa.mp z).1;rw[W.sz]at this;omega
 have gd:∀{j:Nat},(O.getD j (some 0)).isNone=true->O[j]?=some none:=λ{j} z=>by
  rw[bb]at z
  cases q:O[j]? with
  |none=>rw[q]at z;cases z
  |some y=>rw[q]at z;cases y with
   |none=>rfl
   |some _=>cases z
 cases q:(sL m h).find? λj=>(O.getD j (some 0)).isNone with
 |none =>
  have:=List.find?_eq_none.mp q e (Fb hm h (o he))
  rw[bb,he]at this;rwa[absurd rfl this]
 |some j =>
  have⟨v,d,f,s,w⟩:=List.find?_eq_some_iff_append.mp q;have p:=gd v;have lt:=(qa.mp p).1
  have st:∀{x i:Nat},O[x]?=some (some i)->(O.set j (some hs.length))[x]?=some (some i):=λ{x i} z=>by
   rw[za (λy=>by rw[<-y,p]at z;cases z)];rwa[z]
  have C:∀x∈d,∃E,(O.set j (some hs.length))[x]?=some (some E):=λx n=>by
   have:=w x n
   cases q:O[x]? with
   |none =>
    have l:x<=m:=by
     rwa[zO (h:=h) (by rw[s];rwa[ie _ n])]
    rw[lq,W.sz]at q;omega
   |some y=>cases y with
    |none=>rw[bb,q]at this;rwa[absurd this 'd']
    |some i=>exact⟨i,st q⟩
  erw[⟨j,rfl,⟨by rw[List.length_set];exact W.sz,?_,?_,?_⟩⟩]
  ·rw[List.count_set (h:=lt)]
   have y:O[j]=none:=(qa.mp p).2
   have:=W.ct
   simp only[y,ma,nb];simp;omega
  ·intro x i z
   by_cases y:j=x
   ·subst y
    rw[dc lt]at z;cases z;exact⟨h,List.getElem?_concat_length,d,f,s,C⟩
   ·rw[za y]at z
    have⟨h',e1,g,c,e2,A⟩:=W.a z;exact⟨h',by rw[ke (qa.mp e1).1];exact e1,g,c,e2,λx n=>let ⟨i,r⟩:=A x n;⟨i,st r⟩⟩
  ·intro i u
   rw[ma,nb]at u;by_cases y:i<hs.length
   ·have⟨x,r⟩:=W.b y
    exact⟨x,st r⟩
   ·have:i=hs.length:=by omega
    exact⟨j,by rw[dc lt,this]⟩
noncomputable def zP(m:Nat)(a:Option (Array (Option Nat)×Nat))(h:Int):Option (Array (Option Nat)×Nat):=a.bind λx=>(layClean.free m x.1 (turns m) (bits h % (m+1)) (bits h)).bind λj=>some (x.1.setIfInBounds j (some x.2),x.2+1)
theorem Fl(hm:M3 m):∀(hs a:Ti) (O:Ow),Wi m a O->a.length+hs.length<=m+1->∃b,Wi m (a++hs) b/\hs.foldl (zP m) (some (O.toArray,a.length))=some (b.toArray,(a++hs).length)
 |[],a,O,W,_=>⟨O,by rw[jd];exact W,by rw[jd];rfl⟩
 |h::hs,a,O,W,hl=>by
  rw[zb]at hl;have⟨j,e,d⟩:=W.next hm h 'o'
  have⟨b,c,r⟩:=Fl hm hs (a++[h]) _ d (by rw[ma,nb];omega);rw[qf]at c r;erw[⟨b,c,?_⟩];rw[gk]
  have z:zP m (some (O.toArray,a.length)) h=some ((O.set j (some a.length)).toArray,(a++[h]).length):=by
   show (layClean.free m O.toArray _ _ _).bind _=_;rw[Fj,show l5 m (turns m) (bits h % (m+1)) (bits h)=sL m h from rfl,e,ma];show some (O.toArray.setIfInBounds j (some a.length),a.length+1)=_;rw[List.setIfInBounds_toArray];rfl
  rw[z];rwa[r]
def Po(hm:M3 m)(hl:hs.length<=m+1):∃O,Wi m hs O/\layClean m hs.toArray=some O.toArray:=by
 have⟨O,W,r⟩:=Fl hm hs [] (replicate (m+1) none) ⟨List.length_replicate,by rw[List.count_replicate_self];rfl,λ {j i} z=>by
  (rw[lg]at z;split at z <;> cases z),λz=>absurd z (Nat.not_lt_zero _)⟩ (by simpa using hl)
 erw[⟨O,W,?_⟩]
 have z:layClean m hs.toArray=(hs.foldl (zP m) (some ((replicate (m+1) none).toArray,0))).map (·.1):=by
  delta layClean;rw[List.foldl_toArray,List.toArray_replicate];rfl
 rw[z,show some ((replicate (m+1) none).toArray,0)=some ((replicate (m+1) (none:Option Nat)).toArray,([]:Ti).length) from rfl,r];rfl
noncomputable def kB(m:Nat)(O:Ow):List (Nat×Nat):=(range (m+1)).filterMap λj=>(O.getD j none).map (j,·)
def vL(W:Wi m hs O):(j,i)∈kB m O↔O[j]?=some (some i):=by
 delta kB;rw[fq];constructor
 ·rintro⟨x,_,e⟩
  rw[bb]at e
  cases q:O[x]? with
  |none=>rw[q]at e;cases e
  |some y=>cases y with
   |none=>rw[q]at e;cases e
   |some y=>rw[q]at e;cases e;rwa[q]
 ·intro e
  have:=(qa.mp e).1
  exact⟨j,uf.mpr (by rw[<-W.sz];rwa[this]),by rw[bb,e];rfl⟩
def Pp(W:Wi m hs O):(kB m O).length=hs.length:=by
 have e:O=(range (m+1)).map λj=>O.getD j none:=by
  apply List.ext_getElem (by rw[ba,bh,W.sz]);intro i d f;rw[List.getElem_map,List.getElem_range,bb,cc d];rfl
 have a:(kB m O).length=O.countP isSome:=by
  delta kB;rw[List.length_filterMap_eq_countP]
  conv=>rhs;rw[e]
  rw[List.countP_map];rwa[List.countP_congr λx _=>'m']
 have b:=List.length_eq_countP_add_countP (l:=O) isSome
 have c:O.count none=O.countP λa=>decide (¬a.isSome=true):=by
  delta List.count;exact List.countP_congr λx _=>by cases x <;> simp
 have:=W.ct
 have:=W.sz
 omega
theorem Fm{a b:Type}{f:a->Option b}{g:a->b}:∀{l:List a},(∀p∈l,f p=some (g p))->l.filterMap f=l.map g
 |[],_=>rfl
 |x::l,h=>by rw[List.filterMap_cons_some (h x da),Fm λp c=>h p (ia _ c)];rfl
def Pq(hm:M3 m)(E:List SE)(hl:E.length<=m)(f v:Nat)(w A:Bool):∃(t:SetTable) (ord:T7) (Z:List (Nat×SE)),laid m f v w A (E.map fst).toArray=some (t,ord.toArray)/\Tb t (Z.map fst)/\t.mask=m/\ord.filterMap (E[·]?)=Z.map snd/\Z.length=E.length/\(∀e,e∈Z.map snd↔e∈E)/\Fs m Z:=by
 have⟨O,W,e⟩:=Po hm (hs:=E.map fst) (by rw[ba];omega)
 have at_:∀p∈kB m O,∃x,E[p.2]?=some x/\∃g c,sL m x.1=g++p.1::c/\∀x∈g,∃F,O[x]?=some (some F):=λp d=>by
  have⟨h,o,r⟩:=W.a ((vL W).mp d);rw[yc]at o
  cases q:E[p.2]? with
  |none=>rw[q]at o;cases o
  |some x=>rw[q]at o;cases o;exact⟨x,rfl,r⟩
 have gd:∀p∈kB m O,E[p.2]?=some (E.getD p.2 (0,.none)):=λp d=>by
  have⟨x,h,_⟩:=at_ p d;rw[bb,h];rfl
 erw[⟨⟨m,((kB m O).map fst).toArray,#[],f,w,v,A⟩,(kB m O).map snd,(kB m O).map λp=>(p.1,E.getD p.2 (0,.none)),?_,⟨?_,rfl,?_,hm,?_⟩,rfl,?_,?_,?_,?_⟩]
 ·delta laid
  rw[e];simp only[Option.bind_eq_bind,lb,Fi];rfl
 ·rw[pc];rfl
 ·rw[pc]
  show ((kB m O).map fst).Pairwise _;rw[zn]
  exact List.Pairwise.filterMap _ (λ a G h b u H n=>by
   rw[yb]at u n;have⟨_,_,rfl⟩:=u;have⟨_,_,rfl⟩:=n;rwa[h]) List.pairwise_lt_range
 ·intro x l
  rw[pc]at l;have⟨p,d,rfl⟩:=va.mp l
  have:=(qa.mp ((vL W).mp d)).1
  have:=W.sz
  show p.1<=m;omega
 ·rw[pc]
  rw[List.filterMap_map];rwa[Fm gd]
 ·rw[ba,Pp W,ba]
 ·intro x
  rw[pc];constructor
  ·intro l
   have⟨p,d,rfl⟩:=va.mp l;rwa[me (gd p d)]
  ·intro l
   have⟨i,s⟩:=mo.mp l;have⟨j,C⟩:=W.b (i:=i) (by rw[ba];exact(qa.mp s).1);erw[va.mpr ⟨(j,i),(vL W).mpr C,?_⟩];show E.getD i _=x;rw[bb,s];rfl
 ·intro z hz
  have⟨p,d,rfl⟩:=va.mp hz;have⟨x,h,g,c,e1,e2⟩:=at_ p d
  have:=gd p d
  rw[h]at this;cases this;erw[⟨g,c,e1,λy B=>?_⟩];have⟨i,s⟩:=e2 y B;rw[pc];rwa[va.mpr ⟨(y,i),(vL W).mpr s,rfl⟩]
end L2
namespace L2
open PySem PySem.Spec PyProof.Rows
section
def vM{d:Type}{M:Model}{A:Around}{s:Shared}{c:Prop}[Decidable c]{a b:Sem d}{Q:d->Shared->Prop}(e:c->wpAny M A a Q E s)(f:¬c->wpAny M A b Q E s):wpAny M A (if c then a else b) Q E s:=by
 by_cases z:c
 ·rw[la z];rwa[e z]
 ·rw[wa z];rwa[f z]
theorem HD.cases(x:HD h k d u)(f:dS d=true):(carriedByValue u=true/\∀n,∃b,hashByValue n u=pure b)\/∃g ds a its,k=g+1/\d=.tup ds/\u=.ref a/\IsTup h a its.toArray/\Paired (HD h g) ds its/\gz ds=true:=by
 have c:∀{v:V},bj v u->dS (.sc v)=true->carriedByValue u=true/\∀n,∃b,hashByValue n u=pure b:=λ{v} r f=>by
  cases v with
  |int i=>have⟨t,rfl⟩:=r;exact⟨rfl,λn=>⟨true,by cases n <;> rfl⟩⟩
  |str x=>have⟨t,rfl⟩:=r;exact⟨rfl,λn=>⟨false,by cases n <;> rfl⟩⟩
  |bl b=>cases r;exact⟨rfl,λn=>⟨true,by cases n <;> rfl⟩⟩
  |_=>cases f
 cases k with
 |zero=>cases d with
  |sc v=>rwa[.inl (c x.2 f)]
  |_=>rwa[x.elim]
 |succ k=>cases d with
  |sc v=>rwa[.inl (c x.2 f)]
  |tup ds=>have⟨a,its,e,t,p⟩:=x;rw[dS]at f;rwa[.inr ⟨k,ds,a,its,rfl,rfl,e,t,p,f⟩]
  |_=>cases f
def Fn:∀{k n:Nat}{A:Around}{s:Shared}{d:D}{u:Value}{Q:Bool->Shared->Prop},HD s.heap k d u->dS d=true->k<=n->Q false s->wpAny (model prog w) A (ofAClassStatement n u) Q E s:=by
 intro k
 induction k with
 |zero =>
  intro n A s d u Q h g hn q;rcases h.cases g with⟨c,_⟩|⟨y,_,_,_,e,_⟩
  ·unfold ofAClassStatement;cases u <;> first|exact ja q|cases c
  ·cases e
 |succ k C =>
  intro n A s d u Q h g hn q;rcases h.cases g with⟨c,_⟩|⟨y,ds,a,its,e,rfl,rfl,⟨o,l,z,m,B⟩,p,j⟩
  ·unfold ofAClassStatement;cases u <;> first|exact ja q|cases c
  ·cases e
   obtain⟨n',rfl⟩:∃n',n=n'+1:=⟨n - 1,'o'⟩
   delta ofAClassStatement;erw[aa (ao (T:="tuple") ⟨_,l,z⟩ ?_)];dsimp only;erw[aa (ja ?_)];simp only[oh,lc,qg];erw[aa (km l B ?_)];dsimp only;erw[aa ?_];show wpAny _ _ (forIn its.toArray _ _) _ _ s;rw[<-bn];erw[ll _ (λb r f=>r.1=none/\f=s/\∃es,Paired (HD s.heap k) es b/\gz es=true) _ ?_ ?_ _ _ ⟨rfl,rfl,ds,p,j⟩]
   ·rintro v b r f ⟨i,rfl,es,x,he⟩
    cases x with
    |cons F G =>
     rw[gz,pb]at he;erw[aa (C F he.1 'o' ?_)];simp only[lc,qg];rwa[ja ⟨rfl,rfl,_,G,he.2⟩]
   ·rintro⟨H,I⟩ f ⟨i,rfl,_⟩
    simp only at i;subst i;rwa[ja q]
def Pr:∀{k n:Nat}{A:Around}{s:Shared}{d:D}{u:Value}{Q:Bool->Shared->Prop},HD s.heap k d u->dS d=true->(∀b,Q b s)->wpAny (model prog w) A (hashByValue n u) Q E s:=by
 intro k
 induction k with
 |zero =>
  intro n A s d u Q h i q;rcases h.cases i with⟨_,c⟩|⟨z,_,_,_,e,_⟩
  ·have⟨b,e⟩:=c n;rw[e];rwa[ja (q b)]
  ·cases e
 |succ k G =>
  intro n A s d u Q h i q;rcases h.cases i with⟨_,c⟩|⟨z,ds,a,its,e,rfl,rfl,⟨o,x,B,m,C⟩,p,l⟩
  ·have⟨b,e⟩:=c n;rw[e];rwa[ja (q b)]
  ·cases e
   cases n with
   |zero=>rwa[ja (q false)]
   |succ n =>
    delta hashByValue;erw[aa (wm (T:="tuple") ⟨_,x,B⟩ PySem.F.slot_tuple_hash.lookup ?_)];show wpAny _ _ (seqItems? (.ref a) >>= _) _ _ s;erw[aa (km x C ?_)];erw[aa ?_];show wpAny _ _ (forIn its.toArray _ _) _ _ s;rw[<-bn];erw[ll _ (λf r g=>r.1=none/\g=s/\∃es,Paired (HD s.heap k) es f/\gz es=true) _ ?_ ?_ _ _ ⟨rfl,rfl,ds,p,l⟩]
    ·rintro v f r g ⟨j,rfl,es,y,he⟩
     cases y with
     |cons H I =>
      rw[gz,pb]at he;erw[aa (G H he.1 λb=>?_)];cases b
      ·rwa[ja (ja (q false))]
      ·rwa[ja ⟨rfl,rfl,_,I,he.2⟩]
    ·rintro⟨J,K⟩ g ⟨j,rfl,_⟩
     simp only at j;subst j;rwa[ja (q true)]
def vN(hs:∀b o xs n,h.get? b=some o->o.data=.seq xs n->h'.get? b=some o):∀{k:Nat}{d:D}{u:Value},HD h k d u->HD h' k d u:=by
 intro k
 induction k with
 |zero=>intro d u x;cases d <;> rwa[x]
 |succ k j =>
  intro d u x
  cases d with
  |sc v=>rwa[x]
  |tup ds =>
   have⟨a,its,e,⟨f,g,i,n,c⟩,p⟩:=x;exact⟨a,its,e,⟨f,hs _ _ _ _ g c,i,n,c⟩,p.zmap λ_ _=>j⟩
  |lst ds =>
   have⟨a,its,e,⟨f,n,g,i,c⟩,p⟩:=x;exact⟨a,its,e,⟨f,n,hs _ _ _ _ g (by first|exact c.2.1|exact c.2|exact c.2.2),i,c⟩,p.zmap λ_ _=>j⟩
  |_=>exact x.elim
def zQ(a:h.get? c=some o)(e:∀xs n,o.data≠.seq xs n)(hs:Heap.SameBut c h h'):HD h k d u->HD h' k d u :=
 vN λb f xs n e1 e2=>(hs.2 b λz=>by subst z;rw[a]at e1;cases e1;rwa[e _ _ e2]).trans e1
def dX(sg:T7)(h:Heap)(d:D)(u:Value):Prop:=fw sg d=true/\HD h 3 d u
def Ps(b:dX sg s.heap d u)(h:∀y∈ys,∃e,dX sg s.heap e y)(q:Q false s):wpAny (model prog w) A (searchCouldBeSeen u ys) Q E s:=by
 delta searchCouldBeSeen;erw[aa ?_];erw[ll _ (λa r c=>r.1=none/\c=s/\∀y∈a,∃e,dX sg s.heap e y) _ ?_ ?_ _ _ ⟨rfl,rfl,h⟩]
 ·rintro y a r c ⟨f,rfl,hl⟩
  have g:=λz hz=>hl z (ia _ hz)
  have⟨e,he⟩:=hl y da;dsimp only;erw[vM (λ_=>ja ⟨rfl,rfl,g⟩) λ_=>?_]
  ·erw[aa (y4 b.2 (mT b.1) 'o' ?_)];simp only[oh,lc,qg]
   erw[aa (y4 he.2 (mT he.1) 'o' ?_)];simp only[oh,lc,qg];erw[aa (Fn b.2 (mT b.1) 'o' ?_)];simp only[lc,qg];erw[aa (Fn he.2 (mT he.1) 'o' ?_)];simp only[lc,qg];rwa[ja ⟨rfl,rfl,g⟩]
 ·rintro⟨i,j⟩ c ⟨f,rfl,_⟩
  simp only at f;subst f;rwa[ja q]
end
structure eJ(w:World)(sg:T7)(h:Heap)(a:Addr)(ds:T4)(o:Obj)(es:Array SE)(ep:Nat)(t:SetTable)(Z:List (Nat×SE)):Prop where
 ho:h.get? a=some o
 cl:o.ExactSet
 hd:o.data=.set es ep t
 ez:es.toList=Z.map snd
 tb:Tb t (Z.map fst)
 fs:Fs t.mask Z
 fl:Z.length<=t.mask
 ln:ds.length=Z.length
 nd:ds.Nodup
 zd:∀z∈Z,∃d∈ds,dX sg h d z.2.2/\z.2.1=hD w d
 dz:∀d∈ds,∃z∈Z,dX sg h d z.2.2/\z.2.1=hD w d
def Tb.odd(T:Tb t l):t.gaveWay=false:=by delta SetTable.gaveWay;rcases T.m with e|e|e <;> rw[e] <;> rfl
section
variable {A:Around}{s:Shared}{a:Addr}{ds:T4}{o:Obj}{es:Array SE}{t:SetTable}{Z:List (Nat×SE)}
theorem eJ.size(S:eJ w sg h a ds o es ep t Z):es.size=Z.length:=by rw[<-xf,S.ez,ba]
def eJ.psize(S:eJ w sg h a ds o es ep t Z):t.fill=Z.length:=by delta SetTable.fill;rw[S.tb.p,S.tb.d];simp
theorem eJ.fits(S:eJ w sg h a ds o es ep t Z):t.fits es.size=true:=by
 have:=S.fl
 delta SetTable.fits;rw[S.psize,S.size,S.tb.p];simp;omega
theorem eJ.at(S:eJ w sg h a ds o es ep t Z)(b:y∈Z.map fst):∃z∈Z,z.1=y/\∃i,t.slot y=.live i/\es[i]?=some z.2:=by
 have⟨z,hz,rfl⟩:=va.mp b;have⟨P,R,e⟩:=og hz;erw[⟨z,hz,rfl,P.length,?_,?_⟩]
 ·have:=S.tb.live (A:=P.map fst) (B:=R.map fst) (j:=z.1) (by rw[e,gb];rfl)
  rw[ba]at this;rwa[this]
 ·rw[<-jh,S.ez,e,gb,oa,af 'm']
  simp
theorem Fo(P:T7)(d:Nat->Prop):∀{l:T7},(∃j∈l,j ∉ P)->∃b j a,l=b++j::a/\(∀y∈b,y∈P/\¬d y)/\(j ∉ P\/(j∈P/\d j))
 |[],h=>by have⟨_,h,_⟩:=h;cases h
 |y::l,h=>by
  by_cases c:y∈P
  ·by_cases f:d y
   ·exact⟨[],y,l,rfl,nofun,.inr ⟨c,f⟩⟩
   ·have⟨b,j,a,e,g,i⟩:=Fo P d (l:=l) (by
     have⟨j,hj,hn⟩:=h;rcases cb.mp hj with rfl|hj
     ·rwa[absurd c hn]
     ·exact⟨j,hj,hn⟩)
    exact⟨y::b,j,a,by rw[e];rfl,λz hz=>(cb.mp hz).elim (λq=>q ▸ ⟨c,f⟩) (g z),i⟩
  ·exact⟨[],y,l,rfl,nofun,.inl c⟩
theorem dX.ref(k:dX sg h d x):∃b,x=.ref b:=by
 have⟨a,k2⟩:=k
 cases d with
 |tup ds=>have⟨b,_,e,_⟩:=k2;exact⟨b,e⟩
 |_=>cases a
def Pt{d:Type}{M:Model}{c:Prop}[Decidable c]{a b:Sem d}{Q:d->Shared->Prop}(e:wpAny M A b Q E s)(ha:wpAny M A b Q E s->wpAny M A a Q E s):wpAny M A (if c then a else b) Q E s:=vM (λ_=>ha e) λ_=>e
theorem zR{c d:Type}:∀{Z:List (c×d)},(Z.map fst).Pairwise (·≠·)->∀{y z},y∈Z->z∈Z->y.1=z.1->y=z
 |[],_,_,_,h,_,_=>by cases h
 |x::Z,h,y,z,f,hz,e=>by
  have⟨a,b⟩:=we.mp h;rcases cb.mp f with y1|y1 <;> rcases cb.mp hz with z1|z1
  ·rw[y1,z1]
  ·rwa[absurd (y1 ▸ e) (a _ (va.mpr ⟨z,z1,rfl⟩))]
  ·rwa[absurd (z1 ▸ e.symm) (a _ (va.mpr ⟨y,y1,rfl⟩))]
  ·rwa[zR b y1 z1 e]
def Pu(S:eJ w sg s.heap a ds o es ep t Z)(hu:A.units+3<cLine)(hx:dX sg s.heap d x)(hit:d∈ds->Q (.there none) s) :
  ∀(n:Nat) (l:T7) (f:Nat) (p:SetTable.Probe),l.length<=n->p.dummy=none->jS t l.length p=l->(∃j∈l,j ∉ Z.map fst)->l.length<=10 * SetTable.turns t.mask->l.length<f->∀o:Option SetTable.Probe,o.getD (t.probeStart (hD w d))=p →
  (∀u j m,l=u++j::m->(∀y∈u,y∈Z.map fst)->j ∉ Z.map fst->(∀z∈Z,z.1∈u->¬dX sg s.heap d z.2.2)->Q (.free j false) s)->wpAny (model prog w) A (setSearchFrom a x (hD w d) true f o) Q E s:=by
 intro n
 induction n with
 |zero =>
  intro l f p hl _ _ I;have⟨j,I,_⟩:=I
  cases l with
  |nil=>cases I
  |cons _ _=>cases hl
 |succ n ih =>
  intro l f p hl hp hw I ht hf o ho B;obtain⟨f,rfl⟩:∃f',f=f'+1:=⟨f - 1,'o'⟩
  have⟨u,j,m,e,J,C⟩:=Fo (Z.map fst) (λy=>∃z∈Z,z.1=y/\z.2.1=hD w d) I
  have F:∀y∈u,∃i,t.slot y=.live i/\(es[i]?.map (·.1)).getD 0≠hD w d:=λy hy=>by
   have⟨z,hz,e1,i,e2,L⟩:=S.at (J y hy).1;exact⟨i,e2,by rw[L];rwa[λq=>(J y hy).2 ⟨z,hz,e1,q⟩]⟩
  have T:∀z∈Z,z.1∈u->¬dX sg s.heap d z.2.2:=λz hz hm hk=>by
   have⟨N,_,O,k2⟩:=S.zd z hz;have q:N=d:=uQ O.2 hk.2;exact(J z.1 hm).2 ⟨z,hz,rfl,by rw[<-q];rwa[k2]⟩
  have G:u.length<10 * SetTable.turns t.mask:=by rw[e,ma,zb]at ht;omega
  delta setSearchFrom;erw[aa (fm S.ho S.hd S.fits ?_)];dsimp only;rw[S.tb.odd,ho];simp only[lc,qg];rcases C with C|⟨C,z,hz,z1,z2⟩
  ·have g:=Ff (ha:=λi=>(es[i]?.map (·.1)).getD 0) (h:=hD w d) hp (hw.trans e) F (S.tb.emp C) G
   generalize v:t.probe _ (hD w d) p=q;obtain rfl:q=some (.empty j none):=v.symm.trans g;rwa[ja (B u j m e (λy hy=>(J y hy).1) C T)]
  ·have⟨U,X,e1,i,e2,L⟩:=S.at C
   have zz:U=z:=by
    have⟨P,R,e⟩:=og hz;have r:=S.tb.r;rwa[zR (r.imp vc) X hz (e1.trans z1.symm)]
   subst zz;have⟨Y,g,g1,g2⟩:=Fg (ha:=λi=>(es[i]?.map (·.1)).getD 0) (h:=hD w d) hp (hw.trans e) F e2 (by show (es[i]?.map (·.1)).getD 0=_;rw[L];rwa[z2]) G;generalize v:t.probe _ (hD w d) p=q;obtain rfl:q=some (.candidate j i Y):=v.symm.trans g;dsimp only;have⟨N,he',O,k2⟩:=S.zd U hz
   have hys:∀y∈map (λx=>x.2) (Array.filter (λx=>x.1 == hD w d) es).toList,∃e,dX sg s.heap e y:=λy hy=>by
    have⟨q,v,rfl⟩:=va.mp hy;have v:=(Array.mem_filter.mp (jm.mp v)).1;have v:q∈Z.map snd:=by rw[<-S.ez];rwa[jm.mpr v]
    have⟨r,hr,rfl⟩:=va.mp v;have⟨e,_,k,_⟩:=S.zd r hr;exact⟨e,k⟩
   have⟨zs,zh,zv⟩:=U;have⟨b,rfl⟩:=O.ref;erw[Pt ?_ λM=>aa (Ps hx hys M)]
   rw[L];dsimp only;erw[aa (ve ?_)];have⟨c,rfl⟩:=hx.ref;refine@HeapKind.eqBool prog w D gQ (sH prog w sg) _ _ _ _ _ _ _ _ hu O hx ?_;erw[aa (fm S.ho S.hd S.fits ?_)];by_cases c:N=d
   ·rw[@db _ (gQ N d) c];rwa[ja (hit (c ▸ he'))]
   ·rw[@ac _ (gQ N d) c]
    have sm:t.sameMemory t.moves t.mask=some true:=by delta SetTable.sameMemory;rw[la (jr _)]
    simp only[sm,e2,L,jp,Bool.and_false,lc,qg];erw[aa (wpAny_isSame_ref_self ?_)];erw[aa (ja ?_)]
    have lp:m.length<=n/\m.length<=10 * SetTable.turns t.mask/\m.length<f:=by
     rw[e,ma,zb]at hl ht hf;omega
    erw[ih m f Y lp.1 g1 g2 ?_ lp.2.1 lp.2.2 (some Y) rfl λK j' H e4 m1 m2 m3=>?_]
    ·have⟨y,hy,hn⟩:=I
     rw[e]at hy;rcases jb.mp hy with hy|hy
     ·rwa[absurd (J y hy).1 hn]
     ·rcases cb.mp hy with rfl|hy
      ·rwa[absurd C hn]
      ·exact⟨y,hy,hn⟩
    ·refine B (u++j::K) j' H (by rw[e,e4];simp) (λy hy=>?_) m2 λq v hm=>?_
     ·rcases jb.mp hy with hy|hy
      ·exact(J y hy).1
      ·rcases cb.mp hy with rfl|hy
       ·rwa[C]
       ·rwa[m1 y hy]
     ·rcases jb.mp hm with hm|hm
      ·rwa[T q v hm]
      ·rcases cb.mp hm with hm|hm
       ·intro kq
        have:=zR (S.tb.r.imp vc) v hz (hm.trans z1.symm)
        rw[this]at kq;rwa[c (uQ O.2 kq.2)]
       ·rwa[m3 q v hm]
theorem Fp{c:Type}[DecidableEq c]:∀{l m:List c},l.Nodup->(∀x∈l,x∈m)->l.length<=m.length
 |[],_,_,_=>ae _
 |a::l,m,hn,hs=>by
  have⟨d,e⟩:=se.mp hn;have ha:=hs a da
  have:=Fp (l:=l) (m:=m.erase a) e λx b=>(bu (λz:x=a=>d (z ▸ b))).mpr (hs x (ia _ b))
  rw[wq ha]at this
  have:=ss ha
  rw[zb];omega
def eJ.path(S:eJ w sg h a ds o es ep t Z)(d:D):∃j∈sL t.mask (hD w d),j ∉ Z.map fst:=by
 have:∃e,e<=t.mask/\e ∉ Z.map fst:=ck λc=>by
  have b:∀e∈range (t.mask+1),e∈Z.map fst:=λe he=>ck λq=>c ⟨e,dm (uf.mp he),q⟩
  have:=Fp List.nodup_range b
  rw[bh,ba]at this
  have:=S.fl
  omega
 have⟨e,f,g⟩:=this;exact⟨e,Fb S.tb.m _ f,g⟩
theorem Fq{P:T7}{j y:Nat}{d b:T7}(g:y∈P)(f:j ∉ P):∀{c a:T7},c++j::d=a++y::b->(∀x∈a,x∈P)->y∈c
 |[],[],e,_=>absurd ((ef e).1 ▸ g) f
 |[],x::_,e,h=>absurd ((ef e).1 ▸ h x da) f
 |x::_,[],e,_=>(ef e).1 ▸ da
 |x::c,_::a,e,h=>ia _ (Fq g f (ef e).2 λz hz=>h z (ia _ hz))
theorem eJ.put(S:eJ w sg h a ds o es ep t Z)(M:dX sg h d x)(K:d ∉ ds)(e1:sL t.mask (hD w d)=g++j::c)(U:∀y∈g,y∈Z.map fst)(X:j ∉ Z.map fst)(L:Z.length<t.mask)(b:Bool)(hs:Heap.SameBut a h h')(Y:h'.get? a=some H)(h1:H.ExactSet)(h2:H.data=.set (SetTable.insertAt es (t.put j).2 (hD w d,x)) F { (t.put j).1 with plain:=b }) :
  ∃N,eJ w sg h' a (ds++[d]) H (SetTable.insertAt es (t.put j).2 (hD w d,x)) F { (t.put j).1 with plain:=b } N/\N.length=Z.length+1:=by
 have G:∀{e:D} {u:Value},dX sg h e u->dX sg h' e u:=λk=>⟨k.1,zQ S.ho (λxs n z=>by rw[S.hd]at z;cases z) hs k.2⟩
 have hm:j<=t.mask:=zO (h:=hD w d) (by rw[e1];rwa[gc _ da]);have⟨A,B,O,P,T,eM⟩:=S.tb.put X hm;have⟨i,v,rfl,rfl,rfl⟩:=List.map_eq_append_iff.mp O
 have J:SetTable.insertAt es (t.put j).2 (hD w d,x)=(i.map snd++(hD w d,x)::v.map snd).toArray:=by
  have:es=(i.map snd++v.map snd).toArray:=by apply xv;rw[S.ez,gb]
  rw[P,this,ba,<-ba (f:=snd) (as:=i),Fh]
 have mem:∀{z},z∈i++(j,hD w d,x)::v↔z=(j,hD w d,x)\/z∈i++v:=λ{z}=>by simp only[jb,cb];constructor <;> (rintro(h|h|h) <;> simp[h])
 have l:∀{y},y∈(i++v).map fst->y∈(i++(j,hD w d,x)::v).map fst:=λ{y} s=>by
  have⟨z,hz,rfl⟩:=va.mp s;rwa[va.mpr ⟨z,mem.mpr (.inr hz),rfl⟩]
 erw[⟨i++(j,hD w d,x)::v,⟨Y,h1,h2,?_,?_,?_,?_,?_,?_,?_,?_⟩,?_⟩]
 ·rw[J,gb];rfl
 ·rw[gb]
  exact⟨T.p,T.d,T.r,T.m,T.b⟩
 ·intro z hz
  show ∃g c,sL (t.put j).1.mask z.2.1=_/\_;rw[eM];rcases mem.mp hz with rfl|hz
  ·exact⟨g,c,e1,λy s=>l (U y s)⟩
  ·have⟨E,C,Q,R⟩:=S.fs z hz
   exact⟨E,C,Q,λy s=>l (R y s)⟩
 ·show _<=(t.put j).1.mask
  rw[eM];simp only[ma,zb]at L ⊢;omega
 ·rw[ma,S.ln];simp only[ma,zb,ye];omega
 ·rwa[jc.mpr ⟨S.nd,'m',λy s z hz q=>K (by rw[<-ya.mp hz,<-q];rwa[s])⟩]
 ·intro z hz
  rcases mem.mp hz with rfl|hz
  ·exact⟨d,'m',G M,rfl⟩
  ·have⟨e,he,I,k2⟩:=S.zd z hz
   exact⟨e,ie _ he,G I,k2⟩
 ·intro e he
  rcases jb.mp he with he|he
  ·have⟨z,hz,I,k2⟩:=S.dz e he
   exact⟨z,mem.mpr (.inr hz),G I,k2⟩
  ·rw[ya.mp he]
   exact⟨_,mem.mpr 'j',G M,rfl⟩
 ·simp only[ma,zb];omega
def Pv(S:eJ w sg s.heap a ds o es ep t Z)(hm:M3 (SetTable.sizeAbove c - 1))(hz:SetTable.sizeAbove c<=sizeLine)(hl:Z.length<=SetTable.sizeAbove c - 1)(h:∀h',Heap.SameBut a s.heap h'->(∃o es ep t' b,eJ w sg h' a ds o es ep t' b/\b.length=Z.length/\t'.mask=SetTable.sizeAbove c - 1)->Q () { s with heap:=h' }):wpAny (model prog w) A (setRelay a c) Q E s:=by
 have⟨t',ord,b,e1,T,eM,e2,d,l,F⟩:=Pq hm (Z.map snd) (by rw[ba];rwa[hl]) t.finger (t.movedTo (SetTable.sizeAbove c - 1)) t.led t.plain;have f:es=(Z.map snd).toArray:=by apply xv;rw[S.ez]
 have g:es.map (·.1)=((Z.map snd).map fst).toArray:=by rw[f];simp
 delta setRelay;erw[aa (fm S.ho S.hd S.fits ?_)];dsimp only;rw[wa (Nat.not_lt.mpr hz)];delta SetTable.relaid;rw[g,e1]
 have r:filterMap (λx=>es[x]?) ord.toArray=(b.map snd).toArray:=by
  rw[f,<-e2];simp
 have hsz:((b.map snd).toArray).size=es.size:=by rw[S.size];simp[d]
 erw[aa ?_];show wpAny _ _ (if ((filterMap (λx=>es[x]?) ord.toArray).size != es.size)=true then _ else pure (filterMap (λx=>es[x]?) ord.toArray,t')) _ _ s;rw[r,wa (by rw[hsz];simp)];erw[ja (wpAny_storeSet_of S.ho S.hd ?_ (by rw[hsz,S.size];erw[zc hl (zc (Nat.sub_le _ _) hz)]))];have m:=be (putSet (b.map snd).toArray t') S.ho (by rw[putSet_of _ t' S.hd];rfl);rw[putSet_of _ t' S.hd]at m;have hs:=oi s.heap a (putSet (b.map snd).toArray t');have p:∀{e:D} {u:Value},dX sg s.heap e u->dX sg (s.heap.update a (putSet (b.map snd).toArray t')) e u:=λk=>⟨k.1,zQ S.ho (λxs n z=>by rw[S.hd]at z;cases z) hs k.2⟩
 have v:∀z∈b,∃y∈Z,y.2=z.2:=λz hz=>va.mp ((l z.2).mp (va.mpr ⟨z,hz,rfl⟩))
 rw[ba]at d;erw[h _ hs ⟨_,_,_,t',b,⟨m,S.cl,rfl,rfl,T,by rw[eM];exact F,by rw[eM,d];exact hl,by rw[d];exact S.ln,S.nd,λz hz=>?_,λe he=>?_⟩,d,eM⟩]
 ·have⟨y,i,q⟩:=v z hz
  have⟨e,he,j,k2⟩:=S.zd y i;exact⟨e,he,by rw[<-q];exact p j,by rw[<-q];rwa[k2]⟩
 ·have⟨y,i,j,k2⟩:=S.dz e he
  have⟨z,hz,q⟩:=va.mp ((l y.2).mpr (va.mpr ⟨y,i,rfl⟩));exact⟨z,hz,by rw[q];exact p j,by rw[q];rwa[k2]⟩
def Fr{n:Nat}(S:eJ w sg s.heap a ds o es ep t Z)(O:dX sg s.heap d x)(v:d ∉ ds)(e1:sL t.mask (hD w d)=f++j::g)(P:∀y∈f,y∈Z.map fst)(G:j ∉ Z.map fst)(H:Z.length * 5<t.mask * 3)(hl:Z.length<=60)(b:Bool)(h:∀h',Heap.SameBut a s.heap h'->(∃o es ep t Z,eJ w sg h' a (ds++[d]) o es ep t Z/\Z.length * 5<t.mask * 3)->Q true { s with heap:=h' })(z:SetTable)(e2:z={ (t.put j).1 with plain:=b }) :
  wpAny (model prog w) A (do
   storeSet a (SetTable.insertAt es (t.put j).2 (hD w d,x)) z
   if (!false && z.tooFull)=true then do
     setRelay a (SetTable.grown (es.size+1))
     pure true
    else pure true) Q E s:=by
 subst e2;have C:=S.tb.m;have p:Z.length<t.mask:=by rcases C with q|q|q <;> rw[q]at H ⊢ <;> omega
 have hm:j<=t.mask:=zO (h:=hD w d) (by rw[e1];rwa[gc _ da]);have⟨_,_,_,_,_,eM⟩:=S.tb.put G hm;have F:=be (putSet (SetTable.insertAt es (t.put j).2 (hD w d,x)) { (t.put j).1 with plain:=b }) S.ho (by rw[putSet_of _ _ S.hd];rfl);rw[putSet_of _ _ S.hd]at F;have hs:=oi s.heap a (putSet (SetTable.insertAt es (t.put j).2 (hD w d,x)) { (t.put j).1 with plain:=b });have⟨e,i,B⟩:=S.put O v e1 P G p b hs F S.cl rfl;erw[aa (wpAny_storeSet_of S.ho S.hd ?_ (zc (by rw[i.size,B];omega) (show 128<=sizeLine by decide)))]
 have L:({ (t.put j).1 with plain:=b }:SetTable).tooFull=decide (t.mask * 3<=e.length * 5):=by
  delta SetTable.tooFull;rw[i.psize];show decide ((t.put j).1.mask * 3<=_)=_;rw[eM]
 rw[L];erw[vM (λc=>?_) λc=>?_]
 ·have c:t.mask * 3<=e.length * 5:=by simpa using c
  have M:SetTable.grown (es.size+1)=4 * e.length:=by delta SetTable.grown;rw[S.size,B,wa 'o'];omega
  have N:(e.length=5\/e.length=19):=by rcases C with q|q|q <;> rw[q]at H c <;> omega
  have u:M3 (SetTable.sizeAbove (4 * e.length) - 1)/\SetTable.sizeAbove (4 * e.length)<=128/\e.length * 5<(SetTable.sizeAbove (4 * e.length) - 1) * 3:=by
   rcases N with q|q <;> rw[q]
   ·exact⟨.inr 'j','d','d'⟩
   ·exact⟨.inr (.inr rfl),'d','d'⟩
  rw[M];erw[aa (Pv i u.1 (zc u.2.1 (show 128<=sizeLine by decide)) 'o' λh' l r=>?_)];have⟨o,es,ep,t',Z2,I,J,K⟩:=r;rwa[ja (h h' (hs.trans l) ⟨o,es,ep,t',Z2,I,by rw[J,K];rwa[u.2.2]⟩)]
 ·have c:¬t.mask * 3<=e.length * 5:=by simpa using c
  rwa[ja (h _ hs ⟨_,_,_,_,_,i,by show _<(t.put j).1.mask * 3;rw[eM];omega⟩)]
open Classical in
def Pw(S:eJ w sg s.heap a ds o es ep t Z)(O:A.units+3<cLine)(i:dX sg s.heap d x)(hl:ds.length<=60)(v:Z.length * 5<t.mask * 3)(h:∀b h' ds',Heap.SameBut a s.heap h'->(∃o es ep t Z,eJ w sg h' a ds' o es ep t Z/\Z.length * 5<t.mask * 3)->ds'=(if d∈ds then ds else ds++[d])->Q b { s with heap:=h' }):wpAny (model prog w) A (setAddHashed a x (hD w d)) Q E s:=by
 have⟨c,rfl⟩:=i.ref;delta setAddHashed setAddHashedIn;erw[ve (aa (fm S.ho S.hd S.fits ?_))];dsimp only;rw[show byScan (.ref c) es=false from rfl];simp only[lc,qg];have⟨k,C,e⟩:=Pm t (hD w d);have f:(sL t.mask (hD w d)).length=k:=by rw[<-e];rwa[zK t k _]
 erw[aa (Pu S O i (λp=>?_) k (sL t.mask (hD w d)) 100000 (t.probeStart (hD w d)) (bx f) rfl (by rw[f];rwa[e]) (S.path d) (by rw[f];rwa[C]) (by rw[f];erw[Nat.lt_of_le_of_lt C ?_];delta SetTable.turns;rcases S.tb.m with q|q|q <;> rw[q] <;> decide) none rfl λI j y e1 B r J=>?_)]
 ·rwa[ja (h false s.heap ds (Heap.SameBut.refl a s.heap) ⟨_,_,_,_,_,S,v⟩ (by rw[la p]))]
 ·have g:d ∉ ds:=λp=>by
   have⟨z,hz,M,k2⟩:=S.dz d p;have⟨F,u,G,N⟩:=S.fs z hz;rw[k2,e1]at G;rwa[J z hz (Fq (va.mpr ⟨z,hz,rfl⟩) r G N) M]
  dsimp only;erw[aa (fm S.ho S.hd S.fits ?_)];dsimp only;have H:∀h',Heap.SameBut a s.heap h'->(∃o es ep t Z,eJ w sg h' a (ds++[d]) o es ep t Z/\Z.length * 5<t.mask * 3)->Q true { s with heap:=h' }:=λh' K L=>h true h' _ K L (by rw[wa g])
  have l:Z.length<=60:=by rw[<-S.ln];rwa[hl]
  erw[vM (λ_=>?_) λ_=>?_]
  ·refine aa (Pr i.2 (mT i.1) λb=>?_)
   erw[Fr (n:=0) S i g e1 B r v l (if b then (t.put j).1.plain else false) H _ ?_]
   cases b <;> rfl
  ·refine aa (ja ?_)
   rwa[Fr (n:=0) S i g e1 B r v l (t.put j).1.plain H _ rfl]
end
end L2
set_option maxHeartbeats 3200000
namespace L2
open PySem PySem.Spec PyProof.Rows
open Classical in
def fV:T4->T4->T4
 |acc,[]=>acc
 |acc,d::r=>fV (if d∈acc then acc else acc++[d]) r
def mY(w:World)(sg:T7)(h:Heap)(a:Addr)(ds:T4):Prop:=∃o es ep t Z,eJ w sg h a ds o es ep t Z/\Z.length * 5<t.mask * 3
def mY.keeps{a:Addr}(S:mY w sg h a ds)(g:∀o,h.get? a=some o->h'.get? a=some o)(hs:∀b o xs n,h.get? b=some o->o.data=.seq xs n->h'.get? b=some o):mY w sg h' a ds:=by
 have⟨o,es,ep,t,Z,S,f⟩:=S;have d:∀{e:D} {u:Value},dX sg h e u->dX sg h' e u:=λk=>⟨k.1,vN hs k.2⟩
 exact⟨o,es,ep,t,Z,⟨g _ S.ho,S.cl,S.hd,S.ez,S.tb,S.fs,S.fl,S.ln,S.nd,λz hz=>let ⟨e,he,c,k2⟩:=S.zd z hz;⟨e,he,d c,k2⟩,λe he=>let ⟨z,hz,c,k2⟩:=S.dz e he;⟨z,hz,d c,k2⟩⟩,f⟩
section
variable {A:Around}{a:Addr}{its:T9}
theorem Ft:∀(r a:T4),(fV a r).length<=a.length+r.length
 |[],a=>ib _
 |d::r,a=>by
  rw[fV];erw[zc (Ft r _) ?_]
  split <;> simp <;> omega
open Classical in
def Px(hh:A.in1.handled=none)(hu:A.in1.units+3<cLine)(H:l≠I)(Y:a≠I)(h2:a≠l)(hl:its.length<=60)(M:Shared)(fin:∀h' tk ds,mY w sg h' a ds->ds=fV [] vs->(∀b o,b≠a->b≠I->M.heap.get? b=some o->h'.get? b=some o)->R (.ok (.ret .none)) { M with heap:=h',toks:=tk }) :
  ∀(c g:T4) (s:Shared) (ds:T4),vs=g++c->Paired (dX sg s.heap) vs its->ds.length<=g.length->(∀r,fV ds r=fV [] (g++r))->(∃o,s.heap.get? I=some o/\o.cls=.type "list_iterator" /\ o.data=.fields #[.ref l,.int g.length 0])->s.heap.IsList l its.toArray->mY w sg s.heap a ds →
   (∃h tk,s={ M with heap:=h,toks:=tk }/\∀b o,b≠a->b≠I->M.heap.get? b=some o->h.get? b=some o)->codeAny (model prog w) A (.builtin "set.update.loop" ⟨[.ref a,.ref I],[]⟩) R s:=by
 intro c
 induction c with
 |nil =>
  intro g s ds e L _ N C O S p;have⟨h,tk,rfl,p⟩:=p;have ed:=N [];rw[jd]at e ed;subst e;erw[vg rm ?_];rw[cg ij _];show wpAny _ A.in1 (pyNext (.ref I) >>= _) _ _ _;have hz:its.toArray.size=vs.length:=by rw[xa,L.length]
  erw[aa ((aw (A:=A.in1) hh I l H its.toArray).done _ _ _ ⟨by rw[hz];exact C,O⟩ λh' i j=>?_)];show wpAny _ A.in1 (ret Value.none) _ _ _;erw[ja (fin h' i ds (S.keeps (λo z=>j a o (by simpa using Y) z) λb o xs n m y=>j b o (λz=>?_) m) ed λb o J B z=>j b o (by simpa using B) (p b o J B z))];have⟨oI,q,E,F⟩:=C;rw[ya.mp z]at m
  cases (q.symm.trans m)
  rw[F]at y;cases y
 |cons d c ih =>
  intro g s ds e L el N C O S p;have hd:vs[g.length]?=some d:=by rw[e,af (ib _),nk];rfl
  have x:g.length<its.toArray.size:=by
   rw[xa,<-L.length];exact(qa.mp hd).1
  erw[vg rm ?_];rw[cg ij _];show wpAny _ A.in1 (pyNext (.ref I) >>= _) _ _ s;erw[aa ((aw (A:=A.in1) hh I l H its.toArray).item g.length s _ _ x ⟨C,O⟩ λv h' i hP st j=>?_)]
  have sq:∀ b o xs n,s.heap.get? b=some o->o.data=.seq xs n->h'.get? b=some o:=λ b o xs n m y=>j b o (λ z=>by
   have⟨oI,q,E,F⟩:=C;rw[ya.mp z]at m
   cases (q.symm.trans m)
   rw[F]at y;cases y) m
  have G:Paired (dX sg h') vs its:=L.zmap λ_ _ k=>⟨k.1,vN sq k.2⟩
  have S1:=S.keeps (λo z=>j a o (by simpa using Y) z) sq;have⟨d',P,Q⟩:=gj G (show its[g.length]?=some v by simpa using hP)
  cases (hd.symm.trans P)
  show wpAny _ A.in1 (holding [v] (setAdd a v) >>= _) _ _ _;erw[aa (ve ?_)];delta setAdd;erw[ve (aa (Es Q.2 (mT Q.1) hu ?_))];have⟨o,es,ep,t,Z,T,f⟩:=S1;have hln:g.length<60:=xb (by rw[xa]at x;rwa[x]) hl;erw[Pw (s:={ s with heap:=h',toks:=i+dr d }) T hu Q 'o' f λb h3 ds' K S3 e3=>?_]
  have kp:∀{e:D} {u:Value},dX sg h' e u->dX sg h3 e u:=λk=>⟨k.1,zQ T.ho (λxs n z=>by rw[T.hd]at z;cases z) K k.2⟩
  have X:∀r,fV ds' r=fV [] (g++[d]++r):=λr=>by
   rw[qf,<-N,e3];rfl
  erw[ja ⟨aj ij _,ih (g++[d]) _ ds' (by rw[e];simp) (G.zmap λ_ _=>kp) ?_ X ?_ ?_ S3 ?_⟩]
  ·rw[e3,ma,nb];split
   ·omega
   ·rw[ma,nb];omega
  ·have⟨U,q,E,F⟩:=st.1
   exact⟨U,(K.2 I (λz=>Y z.symm)).trans q,E,by rw[ma];rwa[F]⟩
  ·have⟨U,q,E⟩:=st.2
   exact⟨U,(K.2 l (λz=>h2 z.symm)).trans q,E⟩
  ·have⟨h0,tk0,rfl,p⟩:=p
   exact⟨h3,_,rfl,λb o J B z=>(K.2 b J).trans (j b o (by simpa using B) (p b o J B z))⟩
noncomputable def l6(a:Bool):Obj:={ cls:=.type "set",dict:=none,data:=.set #[] 0 (.fresh 0 0 a) }
def Py(g:h.get? a=some (l6 b)):mY w sg h a [] :=
 ⟨_,#[],0,.fresh 0 0 b,[],⟨g,⟨rfl,rfl,rfl⟩,rfl,rfl,⟨rfl,rfl,xn,.inl rfl,nofun⟩,nofun,ae _,rfl,mh,nofun,nofun⟩,by show 0<7 * 3;decide⟩
def Pz(J:A.handled=none)(hu:A.units+9<cLine)(hl:s.heap.IsList l its.toArray)(K:Paired (dX sg s.heap) vs its)(hn:its.length<=60)(h:∀h' tk,mY w sg h' s.heap.objs.size (fV [] vs)->(∀b o,s.heap.get? b=some o->h'.get? b=some o)->Q (.ref s.heap.objs.size) { s with heap:=h',toks:=tk }):wpAny (model prog w) A (call (.type "set") [.ref l]) Q E s:=by
 have ⟨M,N,u⟩:=PySem.F.called_set.mro;have X:=PySem.F.called_set.made;have k2:=PySem.F.called_set.sub;have Y:=PySem.F.called_set.notType;have Z:=PySem.F.called_set.canCreate;have k5:=PySem.F.typeCall_set_1 (.ref l);refine qm (codeAny_of_tree ?_);show wpAny _ _ (callAny (.type "set") _) _ _ _;refine ja ⟨zm _ 'd',vg PySem.F.entry_type_call ?_⟩;rw[Around.under_plain (weight_type_call_type "set" [.ref l] []) rfl]
 repeat (any_goals (first|assumption|wp_step))
 erw[jk (code_set_new_1 (.ref l) (E:=E) (Q₁:=λx n=>∃a,x=.ref s.heap.objs.size/\n={ s with heap:=s.heap.push (l6 a) }) λa=>⟨a,rfl,rfl⟩) λr n f=>?_]
 cases r with
 |error e=>exact f
 |ok L=>cases L with
  |ret x =>
   have⟨a,rfl,rfl⟩:=f;have C:(s.heap.push (l6 a)).get? s.heap.objs.size=some (l6 a):=bc _ rfl;have I:Shared.TypeIs { s with heap:=s.heap.push (l6 a) } (.ref s.heap.objs.size) "set":=⟨_,C,rfl⟩
   have k6:=PySem.F.called_set.init.lookup;have k7:=PySem.F.called_set.init.bind (.ref s.heap.objs.size)
   repeat (any_goals (first|assumption|wp_step))
   refine jk (rh (R:=wants (λr p=>r=.none/\∃h' tk,p={ s with heap:=h',toks:=tk }/\mY w sg h' s.heap.objs.size (fV [] vs)/\∀b o,s.heap.get? b=some o->h'.get? b=some o) E) PySem.F.called_set.init.plain PySem.F.entry_set_init (check_set_init_1 I ?_)) λG p c=>?_
   ·have⟨⟨O,P,T,U⟩,v,y,H,B⟩:=hl
    simp only at y B;subst y B;have i:=na (l6 a) v;have k8:=PySem.F.sub_list_set;have k9:=PySem.F.sub_list_frozenset;have kA:(Value.type "list" == Value.type "dict")=false:=by decide
    have d:(s.heap.push (l6 a)).IsList l its.toArray:=⟨_,i,rfl,H,rfl⟩
    have lt:l<s.heap.objs.size:=wb v;delta Builtin.«set.__init__» noKeywords Builtin.Frozenset.updateFrom;generalize j:pyIter=PI
    wp_walk
    subst j;erw[qq d ?_];erw[aa (wpAny_runValue ?_)];have e1:(s.heap.push (l6 a)).objs.size=s.heap.objs.size+1:=Heap.size_push _ _;erw[Px (vs:=vs) (sg:=sg) (l:=l) (its:=its) ?_ ?_ (by rw[e1];rwa[vc (oq lt)]) (by rw[e1];rwa[vc (vo _)]) (yl lt) hn { s with heap:=(s.heap.push (l6 a)).push { cls:=.type "list_iterator",data:=.fields #[.ref l,.int 0 0] } } ?_ vs [] _ [] rfl ?_ (ib _) (λr=>rfl) ⟨_,bc _ rfl,rfl,rfl⟩ (d.push _) (Py (na _ C)) ⟨_,_,rfl,λb o _ _ z=>z⟩]
    ·simp[J]
    ·show A.units+1+1+1+3<cLine;omega
    ·intro h' tk ds S e g
     show wpAny _ _ _ _ _ _;erw[ja ?_];show wpAny _ _ (ret Value.none) _ _ _;erw[ja ⟨rfl,h',tk,rfl,e ▸ S,λb o z=>g b o (λq=>?_) (λq=>?_) (na _ (na _ z))⟩]
     ·rwa[zi _ (q ▸ wb z)]
     ·have:=wb z
      rw[q,e1]at this;rwa[Nat.not_succ_lt_self this]
    ·rwa[K.zmap λ_ _ k=>⟨k.1,vN (λb o _ _ z _=>na _ (na _ z)) k.2⟩]
   ·cases G with
    |error e=>rwa[c]
    |ok m=>cases m with
     |ret r =>
      have⟨rfl,h',tk,rfl,S,g⟩:=c
      repeat (any_goals (first|assumption|wp_step))
      rwa[h _ _ S g]
     |_=>exact c.elim
  |_=>exact f.elim
end
end L2
set_option maxHeartbeats 1000000
namespace L2
open PySem PySem.Spec PyProof.Rows
def Ex.put(e:Ex Hf H Hf' H')(a:H c=none)(d:Hf' c=none):Ex Hf H Hf' (aI H' c o) :=
 ⟨e.ff,λb u z=>by rw[aK (cG z a)];exact e.hh b u z,λb u z=>by rw[aK (cG z d)];exact e.fh b u z,e.nw,e.nf⟩
def Ex.stays(e:Ex Hf H Hf' H')(h:H c=some o)(a:∀xs,o≠.tup xs)(b:Hf c=none):Hf' c=none:=by
 cases z:Hf' c with
 |none=>rfl
 |some u =>
  rcases e.nw c (by rw[z];rwa[λz=>nomatch z]) with y|y
  ·rwa[absurd b y]
  ·exact(y.no h a).elim
def PB(a v:Value):argsOk "min" ⟨[a],[(ofString "key",v)]⟩:=by delta argsOk;kernel_rfl
section
variable {X:Cx}{pins:T1}{σ:St}{Hf H:Hp}{p S it:Addr}{ys:T6}{rs:T4}
def vO(p:Addr)(j:Nat)(o:Obj):Prop:=o.cls=.type "list_iterator" /\ o.data=.fields #[.ref p,.int j 0]
structure MI(X:Cx)(pins:T1)(σ:St)(Hf H:Hp)(p S it:Addr)(ys:T6)(rs:T4)(j b:Nat)(s:Shared)(Hf' H':Hp)(v r:V)(o:Obj):Prop where
 inv:ax X (pins++[(it,o)]) σ H' s
 ex:Ex Hf H Hf' H'
 st:H' S=some (.lst [v,r])
 fS:Hf' S=none
 li:vO p j o
 vb:ys[b]?=some v
 rb:Dn X.K Hf' (rs.getD b (.sc .non)) r
def Fu(X:Cx)(pins:T1)(σ:St)(rs:T4)(i:Nat)(Hf' H':Hp)(w:Value)(b:Shared):Prop:=∃r a H2,ax X pins σ H2 b/\bj r w/\Ex Hf' H' a H2/\Dn X.K a (rs.getD i (.sc .non)) r
def Kc(X:Cx)(σ:St)(Hf H:Hp)(ys:T6)(rs:T4)(κ:Value):Prop:=∀pins i x u Hf' H' s,ys[i]?=some x->bj x u->Ex Hf H Hf' H'->ax X pins σ H' s →
 (κ=.none/\Fu X pins σ rs i Hf' H' u s)\/(∃f,κ=.ref f/\wpAny (model X.p X.w) X.A.in1 (call κ [u]) (Fu X pins σ rs i Hf' H') (λ_ _=>False) s)
def Fv(y:X.k=true)(B:bH X.K H p ys)(c:p≠it)(e:jF X pins H0 it)(C:Ex Hf H Hf' H')(I:ax X (pins++[(it,o)]) σ H' s)(F:vO p j o)(G:j<ys.length)(q:∀x u s' o',ys[j]?=some x->bj x u->ax X (pins++[(it,o')]) σ H' s'->vO p (j+1) o'->Q (some u) s'):wpAny (model X.p X.w) X.A.in1 (pyNext (.ref it)) Q E s:=by
 have⟨its,r,i,_⟩:=I.list (aQ.seq C.hh B);have a:j<its.toArray.size:=by rw[xa,<-r.length];rwa[G]
 refine(aw (A:=X.A.in1) (I.ok.hd y) it p c its.toArray).item j s _ _ a ⟨⟨o,(I.pin (it,o) 'm').1,F⟩,i.isList⟩ λv h' J f st g=>?_
 have⟨o',l,d⟩:=st.1;have⟨x,m,n⟩:=gj r (show its[j]?=some v by simpa using f);rwa[q x v _ o' m n (I.repin e.2.2.2.2.2 e.2.2.2.1 (λb u h z=>g b u (by simpa using h) z) l λv z=>by rw[d.2]at z;cases z) d]
def vP(hc:X.k=true)(hu:X.A.units+1+9<cLine)(hS:H S=none)(N:S≠it)(O:p≠it)(P:jF X pins H0 it)(hq:bH X.K H p ys)(hn:rs.length=ys.length)(Q:∀r∈rs,bO LV r=true)(hlt:∀d∈rs,∀e∈rs,cV d e=true)(kc:Kc X σ Hf H ys rs κ)(fin:∀v u s' Hf' H',Ex Hf H Hf' H'->ax X pins σ H' s'->bj v u->ys[argBest (gR rs) (ys.length - 1)]?=some v->R (.ok (.ret u)) s') :
  ∀(k j:Nat) (s:Shared) Hf' H' v r o,ys.length - (j+1)=k->j+1<=ys.length->MI X pins σ Hf H p S it ys rs (j+1) (argBest (gR rs) j) s Hf' H' v r o->codeAny (model X.p X.w) X.A (.builtin "min.loop" ⟨[.ref it,κ,.ref S],[]⟩) R s:=by
 have J:(toString "min" ++ toString ".loop" : String) = "min.loop":=by decide
 intro k
 induction k with
 |zero =>
  intro j s Hf' H' v r o hk hj M;have L:j+1=ys.length:=by omega
  have⟨its,n,Z,B,_⟩:=M.inv.lst M.st;have⟨a,b,rfl,ra,rb⟩:=nG Z;refine vg entry_min_loop ?_;rw[cg plain_min_loop _];show wpAny _ X.A.in1 (seqItems? (.ref S) >>= _) _ _ s;refine aa (km B rfl ?_);have⟨its',r',pl,_⟩:=M.inv.list (aQ.seq M.ex.hh hq);show wpAny _ X.A.in1 (tryCatch (pyNext (.ref it)) _ >>= _) _ _ s;have pn:=M.inv.pin (it,o) 'm';refine aa (om ((aw (A:=X.A.in1) (M.inv.ok.hd hc) it p O its'.toArray).done s _ _ ⟨⟨o,pn.1,by rw[xa,<-r'.length,<-L];exact M.li⟩,pl.isList⟩ λh' tk U=>?_));have Y:ax X pins σ H' { s with heap:=h',toks:=tk }:=M.inv.unpinned.turned (λb u g z=>U b u (by simpa using g) z) pn.2.1 P.2.1 P.2.2.2.1 P.2.2.2.2.1 P.2.2.2.2.2;show wpAny _ X.A.in1 (updateSeq S (λ_=>#[]) >>= _) _ _ _;refine aa ?_;refine ut (U S _ (by simpa using N) B) rfl (aa (mn (ja ?_)));exact fin v a _ Hf' _ (M.ex.put hS M.fS) (Y.lstUpd (ys:=[]) (its':=[]) (n':=_) M.st (U S _ (by simpa using N) B) (by show Obj.mk _ _ _ _=_;rfl) .nil (ae _) tk) ra (by rw[<-L];exact M.vb)
 |succ k ih =>
  intro j s Hf' H' v r o hk hj M;have lt:j+1<ys.length:=by omega
  have⟨its,n,Z,B,_⟩:=M.inv.lst M.st;have⟨a,b,rfl,ra,rb⟩:=nG Z;refine vg entry_min_loop ?_;rw[cg plain_min_loop _];show wpAny _ X.A.in1 (seqItems? (.ref S) >>= _) _ _ s;refine aa (km B rfl ?_);show wpAny _ X.A.in1 (tryCatch (pyNext (.ref it)) _ >>= _) _ _ s;refine aa (om (Fv hc hq O P M.ex M.inv M.li lt λx u s1 o1 hx rx Y q=>?_));rcases kc _ _ _ _ _ _ _ hx rx M.ex Y with⟨rfl,T⟩|⟨f,rfl,T⟩
  case' inl =>
   obtain⟨w,ew⟩:∃w,w=u:=⟨u,rfl⟩
   obtain⟨y,es⟩:∃y,y=s1:=⟨s1,rfl⟩
   subst ew es
  case' inr=>erw[aa (om (ve (gf T (λw y T=>?_) λ_ _ z=>z.elim)))]
  all_goals
   have⟨rr,C,H2,E,lz,c,G⟩:=T;have l:=c.hh _ _ M.st;have⟨its2,n2,rv2,I,_⟩:=E.lst l;have⟨a2,b2,rfl,_,_⟩:=nG rv2;have m:=c.stays M.st (λ_ z=>nomatch z) M.fS
   have mem:∀i,i<ys.length->rs.getD i (.sc .non)∈rs:=λi h=>by
    have h:i<rs.length:=by omega
    rw[bb,cc h];rwa[jg h]
   have m1:=mem (j+1) lt;have m2:=mem (argBest (gR rs) j) (by have:=vD (gR rs) j;omega);have x1:=y2 E c.fh G (Q _ m1) lz;have x2:=y2 E c.fh (M.rb.same c.ff) (Q _ m2) rb;have⟨j1,j2⟩:=Ej x1 x2;have z:=uG (A:=X.A.in1) x1 x2 (j2 (hlt _ m1 _ m2)) hu;rw[j1]at z;show wpAny _ X.A.in1 (tryCatch (holding [_,w] (richCompare .Lt w b >>= _)) _ >>= _) _ _ y;refine aa (om (ve (aa (z _ _ _ _ ?_))));refine aa (ve (zg ?_));refine aa (mn (ja ?_))
   cases g:gR rs (j+1) (argBest (gR rs) j) with
   |true =>
    rw[show bY (rs.getD (j+1) (.sc .non)) (rs.getD (argBest (gR rs) j) (.sc .non))=true from g];simp only[jp];erw[aa ?_];erw[ut I rfl (aa (mn ?_))];rw[J];rwa[ja ⟨aj plain_min_loop _,ih (j+1) _ C _ x rr o1 'o' lt ⟨E.lstUpd (ys:=[x,rr]) (its':=[_,w]) (n':=_) l I (by show Obj.mk _ _ _ _=_;rfl) (.cons rx (.cons lz .nil)) (sz 'm') y.toks,(M.ex.trans c).put hS m,aZ,m,q,by simp only[argBest,g,jp];exact hx,by simp only[argBest,g,jp];rwa[G]⟩⟩]
   |false =>
    rw[show bY (rs.getD (j+1) (.sc .non)) (rs.getD (argBest (gR rs) j) (.sc .non))=false from g];simp only[lc,qg];erw[aa (mn ?_)];rw[J];rwa[ja ⟨aj plain_min_loop _,ih (j+1) _ C _ v r o1 'o' lt ⟨E,M.ex.trans c,l,m,q,by simp only[argBest,g,lc,qg];exact M.vb,by simp only[argBest,g,lc,qg];rwa[M.rb.same c.ff]⟩⟩]
def Fw(hc:X.k=true)(hu:X.A.units+1+9<cLine)(Z:bH X.K H p ys)(hn:rs.length=ys.length)(M:ys≠[])(hok:∀r∈rs,bO LV r=true)(hlt:∀d∈rs,∀e∈rs,cV d e=true)(kc:Kc X σ Hf H ys rs κ)(fh:aQ Hf H)(I:ax X pins σ H s)(c:∀v u s' Hf' H',Ex Hf H Hf' H'->ax X pins σ H' s'->bj v u->ys[argBest (gR rs) (ys.length - 1)]?=some v->R (.ok (.ret u)) s') :
  wpAny (model X.p X.w) X.A.in1 (do let it ← pyIter (.ref p);again (.builtin (toString "min" ++ toString ".loop") ⟨[it,κ,<-newList []],[]⟩)) (λc s'=>match c with|.done f=>R (.ok f) s'|.again c'=>c'.quiet=true/\codeAny (model X.p X.w) X.A c' R s') E s:=by
 have m:(toString "min" ++ toString ".loop" : String) = "min.loop":=by decide
 have⟨its,r,pl,_⟩:=I.list Z;have q:p<s.heap.objs.size:=by have⟨_,e,_⟩:=pl.isList;rwa[wb e]
 erw[aa (qq pl.isList ?_)];erw[aa (pf ?_)];rw[m];erw[ja ⟨aj plain_min_loop _,?_⟩];generalize i:({ cls:=.type "list_iterator",data:=.fields #[.ref p,.int 0 0] }:Obj)=io;have U:vO p 0 io:=by rw[<-i];exact⟨rfl,rfl⟩
 have gi:(s.heap.push io).get? s.heap.objs.size=some io:=bc _ (by rw[<-i];rfl);have y:H s.heap.objs.size=none:=I.hok.fresh (ib _);have J:=I.fpOk (ib _) y;have I0:ax X pins σ H { s with heap:=s.heap.push io }:=I.kept (t':=s.toks) λb u z=>na _ z
 have N:=I0.pinnew gi y J.2.1 J.2.2.1 λv z=>by rw[<-i]at z;cases z
 have L:H (s.heap.push io).objs.size=none:=I0.hok.fresh (ib _);have Y:(s.heap.push io).objs.size≠s.heap.objs.size:=by show (s.heap.objs.push io).size≠_;rw[size_push];omega
 have I2:ax X (pins++[(s.heap.objs.size,io)]) σ (aI H (s.heap.push io).objs.size (.lst [])) { s with heap:=(s.heap.push io).push { cls:=.type "list",data:=.seq #[] } }:=N.laid (t':=s.toks) (λb u z=>na _ z) (ib _) ⟨ae _,[],0,.nil,bc _ rfl⟩;have B:p≠s.heap.objs.size:=vc q;have h:=Ex.made (o:=.lst []) fh L;have M:0<ys.length:=jj.mpr M;show codeAny (model X.p X.w) X.A (.builtin "min.loop" ⟨[.ref s.heap.objs.size,κ,.ref (s.heap.push io).objs.size],[]⟩) R { s with heap:=(s.heap.push io).push { cls:=.type "list",data:=.seq #[] } };generalize (s.heap.push io).objs.size=S at *;generalize s.heap.objs.size=it at *;generalize ({ s with heap:=(s.heap.push io).push { cls:=.type "list",data:=.seq #[] } }:Shared)=s2 at *;have⟨its,n,rv,ho,_⟩:=I2.lst (xs:=[]) aZ;cases rv;refine vg entry_min_loop ?_;rw[cg plain_min_loop _];show wpAny _ X.A.in1 (seqItems? (.ref S) >>= _) _ _ s2;refine aa (km ho rfl ?_);show wpAny _ X.A.in1 (tryCatch (pyNext (.ref it)) _ >>= _) _ _ s2;refine aa (om (Fv hc Z B J h I2 U M λx u s1 o1 hx rx N O=>?_));rcases kc _ _ _ _ _ _ _ hx rx h N with⟨rfl,G⟩|⟨f,rfl,G⟩
 case' inl =>
  obtain⟨w,ew⟩:∃w,w=u:=⟨u,rfl⟩
  obtain⟨j,es⟩:∃j,j=s1:=⟨s1,rfl⟩
  subst ew es
 case' inr=>erw[aa (om (ve (gf G (λw j G=>?_) λ_ _ z=>z.elim)))]
 all_goals
  have⟨rr,P,H3,I3,lz,g,Q⟩:=G;have iC:=g.hh _ _ (aZ (H:=H) (a:=S));have⟨its3,n3,T,l,_⟩:=I3.lst iC;cases T;have C:=g.stays aZ (λ_ z=>nomatch z) (fh.free L);show wpAny _ X.A.in1 (updateSeq S (λ_=>#[_,w]) >>= _) _ _ j;erw[aa ?_];erw[ut l rfl ?_];rw[m];rwa[ja ⟨aj plain_min_loop _,vP hc hu L Y B J Z hn hok hlt kc c _ 0 _ P _ x rr o1 rfl M ⟨I3.lstUpd (ys:=[x,rr]) (its':=[_,w]) (n':=_) iC l (by show Obj.mk _ _ _ _=_;rfl) (.cons rx (.cons lz .nil)) (sz 'm') j.toks,(h.trans g).put L C,aZ,C,O,hx,Q⟩⟩]
def Fx{id:String}{a:T9}{A:Around}(i:builtinKind id=none)(j:plainId id=true)(l:entryFor table id=some b)(ha:argsOk id ⟨a,d⟩)(h:wpAny (model M w) A.in1 (b ⟨a,d⟩) (λg s'=>match g with|.done f=>(λr s'=>match r with|.ok (.ret v)=>Q v s'|.ok _=>False|.error e=>E e s':Result->Shared->Prop) (.ok f) s'|.again c=>c.quiet=true/\codeAny (model M w) A c (λr s'=>match r with|.ok (.ret v)=>Q v s'|.ok _=>False|.error e=>E e s') s') E s):wpAny (model M w) A (call (.builtin id) a d) Q E s:=by
 erw[qm (rh j l ?_)];delta checkBuiltinCall;rw[i]
 cases hs:Manifest.signature? id with
 |none=>rwa[ja h]
 |some sg =>
  unfold argsOk at ha;rw[hs]at ha;show wpAny _ A.in1 (Bind.checkArgs id sg ⟨a,d⟩) _ _ s;rw[show Bind.checkArgs id sg ⟨a,d⟩=pure () from ha];rwa[ja h]
def Fy(K:Fg1):T6->Hp->VK->Prop:=λxs H Q=>∃p ys ds Hf,xs=[.ref p]/\bH K H p ys/\aQ Hf H/\aY K Hf ds ys/\ds≠[]/\(∀d∈ds,bO LV d=true)/\(∀d∈ds,∀e∈ds,cV d e=true)/\∀x Hf' H',Ex Hf H Hf' H'->ys[argBest (gR ds) (ds.length - 1)]?=some x->Q x H'
def PC{K:Fg1}{ds:T4}(h:aY K Hf ds ys)(c:ys[i]?=some x):Dn K Hf (ds.getD i (.sc .non)) x:=by
 have⟨d,a,b⟩:=gj h c;rw[bb,a];rwa[b]
def PD(E:X.k=true)(G:aL k X.A):dI X (.builtin "min") (Fy X.K):=by
 intro a s w H xs J Q I f h;have⟨p,ys,ds,Hf,rfl,y,fh,l,B,g,j,q⟩:=h;have⟨u,rfl,C⟩:=gF f;cases C;have hl:=l.length
 have:=G.units
 refine Fx kind_min plain_min entry_min (PySem.F.args_min1 _) ?_;show wpAny _ X.A.in1 (Builtin.Builtins.bindParams "min" ["key","default"] 0 ⟨[],[]⟩ >>= _) _ _ s;refine aa (ju (show Builtin.Builtins.bindParams "min" ["key","default"] 0 ⟨[],[]⟩=pure [none,none] from rfl) ?_);refine aa (ja ?_);refine Fw (R:=λr d=>match r with|.ok (.ret v)=>EP X a w Q v d|.ok _=>False|.error e=>X.xe e d) (κ:=.none) (rs:=ds) E 'o' y hl (λz=>B (zq.mp (by rw[hl,z];rfl))) g j (λa i x u b H' s m n c I=>.inl ⟨rfl,x,b,H',I,n,.refl c.fh,(PC l m).same c.ff⟩) fh I λv u d b H' c I f o=>⟨v,H',I,f,q v b H' c (by rw[hl];exact o)⟩
def PF{K:Fg1}:PN K (Fy K) qy:=by
 intro Hf H xs ds z Q s b hz q;unfold qy at hz
 split at hz
 ·split at hz
  ·rename_i es f
   have⟨x,rfl,e⟩:=gK b;have⟨a,ys,rfl,j,h⟩:=e.lst s;erw[⟨a,ys,es,Hf,rfl,j,s,h,f.1,λd b=>ud.mp f.2.1 d b,f.2.2,λx c H' g e=>?_⟩];have⟨m,i,l⟩:=h.zget hz;rw[e]at i;cases i;rwa[q c H' _ g (l.same g.ff)]
  ·cases hz
 ·cases hz
open Classical in
def vQ(F:T4->T5)(ds:T4):T5:=if ds≠[]/\(∀d∈ds,∃r,F [d]=some r/\bO LV r=true)/\(∀d∈ds,∀e∈ds,cV ((F [d]).getD .non) ((F [e]).getD .non)=true) then ds[argBest (gR (ds.map λd=>(F [d]).getD .non)) (ds.length - 1)]? else none
def zS(F:T4->T5)(fa:av->T5):av->T5:=λρ=>(fa ρ).bind λd=>match d with|.lst ds=>vQ F ds|_=>none
def PH{fa:av->T5}(hc:X.k=true)(G:aG X.p X.w X.K X.mg X.base bC k f fd [pn] (bQ X.K 1 F))(E:aL k X.A.in1)(hg:Gl X "min")(hm:X.mg "min" = none)(hgf:Gl X U)(hmf:X.mg U=some (.ref f))(hb:dq X.K fd [pn] [])(ha:PE X a (eV X.K B fa))(hfd:(U == 'g')=false:=by decide)(hs0:W1 X [a] a []:=by rfl)(m:backTo h (starEach [a] X.u)=(false,eval a X.u)::backTo h (starEach [] X.u):=by rfl)(n:((backTo h (starEach [a] X.u)).any λx=>x.1)=false:=by rfl) :
  PE X (.Call (.Name "min" p1) [a] [⟨some "key",.Name U p3,p4⟩] h) (eV X.K B (zS F fa)):=by
 intro b s Z H Q I D;have⟨Hf,ρ,z,N,hz,q⟩:=D;have⟨d,c6,hz⟩:=bind_some hz
 split at hz
 ·rename_i ds
  unfold vQ at hz
  split at hz
  ·rename_i ok
   refine dg (kF I hg hm CF ?_ 'd' 'd');refine callWith_kw (aU ((dL ha gG hs0) h b s Z H (λvs J=>∃c v,vs=[v]/\Ex Hf H c J/\Dn X.K c (.lst ds) v) I ⟨Hf,ρ,_,N,c6,λc J v j L=>⟨c,v,rfl,j,L⟩⟩) λus s1 ⟨vs,J,I1,M,c,v,e1,o,L⟩=>?_) (by first|exact m|exact n|rfl) (by first|exact m|exact n|rfl) (by first|exact m|exact n|rfl) (by first|exact m|exact n|rfl);subst e1;have⟨u,rfl,ru⟩:=gF M;have⟨p,ys,rfl,h3,h4⟩:=L.lst;cases ru;refine aU ((w6 (tY (v:=.ref f) hgf hmf rfl hfd) w5) h b s1 Z J (λvs C=>vs=[.ref f]/\C=J) I1 ⟨rfl,rfl⟩) λus s2 ⟨vs,C,Y,M,e1,e2⟩=>?_
   subst e1 e2;have⟨u,rfl,ru⟩:=gF M;cases ru;have hl:=h4.length
   have:=E.units
   have e1:X.A.in1.units=X.A.units+1:=rfl;show wpAny (model X.p X.w) X.A (call (.builtin "min") [.ref p] [(ofString "key",.ref f)]) _ _ _;refine Fx kind_min plain_min entry_min (PB _ _) ?_;show wpAny _ X.A.in1 (Builtin.Builtins.bindParams "min" ["key","default"] 0 ⟨[],[(ofString "key",.ref f)]⟩ >>= _) _ _ s2;refine aa (ju (show Builtin.Builtins.bindParams "min" ["key","default"] 0 ⟨[],[(ofString "key",.ref f)]⟩=pure [some (.ref f),none] from rfl) ?_);refine aa (ja ?_);refine Fw (R:=λr P=>match r with|.ok (.ret v)=>EP X b Z Q v P|.ok _=>False|.error e=>X.xe e P) (κ:=.ref f) (rs:=ds.map λd=>(F [d]).getD .non) (Hf:=c) hc 'o' (aQ.seq o.fh h3) (by rw[ba];exact hl) (λz=>ok.1 (zq.mp (by rw[hl,z];rfl))) (λr E=>?_) (λr E e he=>?_) (λb i x u l H' s hx rx j I=>.inr ⟨f,rfl,?_⟩) o.fh Y λv u P l H' j I M hv=>⟨v,H',I,M,?_⟩
   ·have⟨d,hd,rfl⟩:=va.mp E
    have⟨r,T,h2⟩:=ok.2.1 d hd;rw[T];rwa[h2]
   ·have⟨d,hd,rfl⟩:=va.mp E
    have⟨e',he',rfl⟩:=va.mp he;rwa[ok.2.2 d hd e' he']
   ·have⟨d,T,h2⟩:=gj h4 hx
    have⟨r,h5,h6⟩:=ok.2.1 d (me T);have e3:(ds.map λd=>(F [d]).getD .non).getD i (.sc .non)=r:=by rw[bb,yc,T];show (F [d]).getD .non=r;rw[h5];rfl
    have hbb:BindsTo s fd ⟨[u],[]⟩ ([pn].zip [u]):=by have:=hb s [u] I.kIn rfl;(rw[jd]at this;rwa[this])
    erw[qm (jk (G.run X.A.in1 X.t s H' ⟨[u],[]⟩ [u] [x] (λv C=>∃g,Ex l H' g C/\Dn X.K g r v) E0 E I.env0.in1 hbb (.cons rx .nil) ⟨l,[d],r,j.fh,.cons (h2.same j.ff) .nil,rfl,h5,λg C v j L=>⟨g,j,L⟩⟩) λr' P O=>?_)]
    cases r' with
    |error e=>rwa[O.elim]
    |ok fl =>
     cases fl with
     |ret u =>
      have⟨w,C,Y,lz,g,ex2,dw⟩:=I.after O;exact⟨w,g,C,Y,lz,ex2,by rw[e3];rwa[dw]⟩
     |next=>rwa[elim O]
     |brk=>rwa[elim O]
     |cont=>rwa[elim O]
   ·have⟨y,g1,g2⟩:=h4.zget hz
    rw[<-hl,g1]at hv;cases hv;rwa[q l H' _ (o.trans j) (g2.same j.ff)]
  ·cases hz
 ·cases hz
end
noncomputable def vR(n:Nat)(p:Addr):HO:=.ext λh=>∃o es ep t,h.get? p=some o/\o.ExactSet/\o.data=.set es ep t/\t.fits es.size=true/\es.size=n
def PJ(K:Fg1)(sg:T7):T6->Hp->VK->Prop:=λxs H Q=>∃p ys ds,xs=[.ref p]/\bH K H p ys/\Paired (c9 K H 3) ds ys/\(∀d∈ds,fw sg d=true)/\ds.length<=60/\∀a,H a=none->Q (.ref a) (aI H a (vR (fV [] ds).length a))
section
variable {X:Cx}
def PL(x:X.k=true)(y:aL k X.A):dI X (.type "set") (PJ X.K sg):=by
 intro e s F H xs G Q I r h;have⟨p,ys,ds,rfl,l,c,m,hl,q⟩:=h;have⟨u,rfl,n⟩:=gF r;cases n;have⟨its,r,v,hz⟩:=I.list l;have f:=I.dens c r;have J:=y.units
 have w:∀{ds:T4} {its:T9},Paired (HD s.heap 3) ds its->(∀d∈ds,fw sg d=true)->Paired (dX sg s.heap) ds its:=λp=>by
  induction p with
  |nil=>rwa[λ_=>.nil]
  |cons a b B=>rwa[λh=>.cons ⟨h _ da,a⟩ (B λd c=>h d (ia _ c))]
 erw[Pz (sg:=sg) (I.ok.hd x) 'o' v.isList (w f m) (by rw[<-f.length];rwa[hl]) λh' i S j=>?_]
 have⟨o,es,ep,t,Z,S,_⟩:=S;exact⟨.ref s.heap.objs.size,_,I.laid (t':=i) (o:=vR (fV [] ds).length s.heap.objs.size) j (ib _) (EA ⟨o,es,ep,t,S.ho,S.cl,S.hd,S.fits,by rw[S.size,S.ln]⟩ ⟨o,S.ho⟩ λC E ⟨o,es,ep,t,g,r⟩ z=>⟨o,es,ep,t,z _ g,r⟩),rfl,q _ I.fresh⟩
def PP:dI X (.builtin "len") (λxs H Q=>∃p n,xs=[.ref p]/\H p=some (vR n p)/\n<=1000/\Q (.int ((n:Nat):Int)) H):=by
 intro a s i H xs j Q I r h;have⟨p,n,rfl,b,hn,q⟩:=h;have⟨u,rfl,c⟩:=gF r;cases c;have⟨⟨o,es,ep,t,d,e,f,g,rfl⟩,_⟩:=(show cw X.p X.w H s.heap p (vR n p) from I.hok p _ b)
 rwa[PySem.call_len_set d e f g 'o' ⟨.int ((es.size:Nat):Int),H,I.tok _,⟨_,rfl⟩,q⟩]
def qD(sg:T7):T4->T5
 |[.lst ds]=>if ds.all (fw sg)=true/\ds.length<=60 then some (.int (fV [] ds).length) else none
 |_=>none
def PQ(sg:T7)(J:X.k=true)(L:aL k X.A)(M:Gl X "len")(hm:X.mg "len" = none)(o:Gl X "set")(r:X.mg "set" = none)(ha:PA X [e] (aB X.K B w))(he:starEach [e] X.u=[(false,eval e X.u)]:=by rfl)(j:starEach [Expr.Call (.Name "set" s) [e] [] f] X.u=[(false,eval (.Call (.Name "set" s) [e] [] f) X.u)]:=by rfl):PE X (.Call (.Name "len" p) [.Call (.Name "set" s) [e] [] f] [] u) (eV X.K B (eN (qD sg) w)) :=
 (nI PP M hm rfl (dL (w9 (PL J L) o r rfl ha (he:=he)) gG j) (he:=j)).imp λO H Q h=>by
  have⟨Hf,ρ,z,I,hz,q⟩:=h;have⟨ds,n,hz⟩:=bind_some hz;erw[⟨Hf,ρ,ds,I,n,λi y vs g m=>?_⟩];unfold qD at hz
  split at hz
  ·split at hz
   ·rename_i l c
    cases hz;have⟨x,rfl,dx⟩:=gK m
    have⟨a,xs,rfl,E,F⟩:=dx.lst g.fh;have v:=ud.mp c.1
    have G:∀{l:T4} {xs:T6},aY X.K i l xs->(∀d∈l,fw sg d=true)->Paired (c9 X.K y 3) l xs:=λp=>by
     induction p with
     |nil=>rwa[λ_=>.nil]
     |cons a b N=>rwa[λh=>.cons ((a.same g.fh).at (EC (h _ da))) (N λd n=>h d (ia _ n))]
    exact⟨a,xs,l,rfl,E,G F v,v,c.2,λp C=>⟨p,_,rfl,aZ,zc (Ft l []) (by simpa using zc c.2 'd'),q i _ _ (g.trans (Ex.made g.fh C)) (cE rfl)⟩⟩
   ·cases hz
  ·cases hz
end
end L2
namespace L2
open PySem
structure cS(C:D->Prop):Prop where
 eq:∀a b,C a->C b->(bI a b=true↔a=b)
 ok:∀a b,C a->C b->cV a b=true
 tr:∀a b c,C a->C b->C c->bY a b=true->bY b c=true->bY a c=true
 tot:∀a b,C a->C b->a=b\/bY a b=true\/bY b a=true
 as:∀a b,C a->C b->bY a b=true->bY b a=false
def cS.irr{a:D}(T:cS C)(h:C a):bY a a=false:=by
 cases e:bY a a with
 |false=>rfl
 |true=>rw[T.as a a h h e]at e;cases e
def zT(d:D):Prop:=∃i:Int,d=.int i
def zU(d:D):Prop:=∃b:Bool,d=.bl b
def zV(d:D):Prop:=∃l:T7,d=.str l
def vS(i j:Int):bY (.int i) (.int j)=decide (i<j):=by rw[bY];rfl
def Fz:cS zT where
 eq:=λa b ⟨i,x⟩ ⟨j,y⟩=>by subst x y;rw[NP];simp
 ok:=λa b ⟨i,x⟩ ⟨j,y⟩=>by subst x y;rw[cV];rfl
 tr:=λa b c ⟨i,x⟩ ⟨j,y⟩ ⟨k,z⟩ h1 h2=>by
  subst x y z;rw[vS]at *
  have:=ic h1
  have:=ic h2
  rwa[db 'o']
 tot:=λa b ⟨i,x⟩ ⟨j,y⟩=>by
  subst x y;rw[vS,vS];rcases Int.lt_trichotomy i j with h|h|h
  ·rwa[.inr (.inl (db h))]
  ·rwa[.inl (by rw[h])]
  ·rwa[.inr (.inr (db h))]
 as:=λa b ⟨i,x⟩ ⟨j,y⟩ h=>by
  subst x y;rw[vS]at *
  have:=ic h
  rwa[ac 'o']
def vT(i j:Bool):bY (.bl i) (.bl j)=(!i && j):=by rw[bY];cases i <;> cases j <;> rfl
def FA:cS zU where
 eq:=λa b ⟨i,x⟩ ⟨j,y⟩=>by subst x y;rw[NQ];cases i <;> cases j <;> simp
 ok:=λa b ⟨i,x⟩ ⟨j,y⟩=>by subst x y;rw[cV];rfl
 tr:=λa b c ⟨i,x⟩ ⟨j,y⟩ ⟨k,z⟩ h1 h2=>by
  subst x y z;rw[vT]at *
  cases i <;> cases j <;> cases k <;> simp_all
 tot:=λa b ⟨i,x⟩ ⟨j,y⟩=>by
  subst x y;rw[vT,vT]
  cases i <;> cases j <;> simp
 as:=λa b ⟨i,x⟩ ⟨j,y⟩ h=>by
  subst x y;rw[vT]at *
  cases i <;> cases j <;> simp_all
def vU(l m:T7):bY (.str l) (.str m)=decide (l<m):=by rw[bY];rfl
def FB(h:D.str i=D.str j):i=j:=by
 have a:S i=S j:=V.str.inj (D.sc.inj h);have b:i.toArray=j.toArray:=Str.mk.inj a
 simpa using b
def FC:cS zV where
 eq:=λa b ⟨i,x⟩ ⟨j,y⟩=>by subst x y;rw[yU];exact⟨λh=>by rw[ic h],λh=>db (FB h)⟩
 ok:=λa b ⟨i,x⟩ ⟨j,y⟩=>by subst x y;rw[cV];rfl
 tr:=λa b c ⟨i,x⟩ ⟨j,y⟩ ⟨k,z⟩ h1 h2=>by
  subst x y z;rw[vU]at *;rwa[db (List.lt_trans (ic h1) (ic h2))]
 tot:=λa b ⟨i,x⟩ ⟨j,y⟩=>by
  subst x y;rw[vU,vU];by_cases h:i<j
  ·rwa[.inr (.inl (db h))]
  ·by_cases h':j<i
   ·rwa[.inr (.inr (db h'))]
   ·rwa[.inl (by rw[List.le_antisymm (List.not_lt.mp h') (List.not_lt.mp h)])]
 as:=λa b ⟨i,x⟩ ⟨j,y⟩ h=>by
  subst x y;rw[vU]at *;rwa[ac (List.lt_asymm (ic h))]
def h9(C:Nat->D->Prop):T4->Prop
 |[]=>True
 |d::r=>C 0 d/\h9 (λi=>C (i+1)) r
theorem vV:∀{C:Nat->D->Prop},(∀i,cS (C i))->∀as bs,h9 C as->h9 C bs->(cz as bs=true↔as=bs)
 |C,T,[],[],_,_=>by simp[cz]
 |C,T,[],_::_,_,_=>by simp[cz]
 |C,T,_::_,[],_,_=>by simp[cz]
 |C,T,a::as,b::bs,ha,c=>by
  rw[cz,pb,(T 0).eq a b ha.1 c.1,vV (λi=>T (i+1)) as bs ha.2 c.2];simp
theorem zW:∀{C:Nat->D->Prop},(∀i,cS (C i))->∀as bs,h9 C as->h9 C bs->gw as bs=true
 |C,T,[],[],_,_=>by simp[gw]
 |C,T,[],_::_,_,_=>by simp[gw]
 |C,T,_::_,[],_,_=>by simp[gw]
 |C,T,a::as,b::bs,ha,c=>by rw[gw,(T 0).ok a b ha.1 c.1,zW (λi=>T (i+1)) as bs ha.2 c.2];rfl
theorem zX:∀{C:Nat->D->Prop},(∀i,cS (C i))->∀as bs,h9 C as->h9 C bs->as=bs\/cU as bs=true\/cU bs as=true
 |C,T,[],[],_,_=>.inl rfl
 |C,T,[],_::_,_,_=>.inr (.inl (by rw[cU]))
 |C,T,_::_,[],_,_=>.inr (.inr (by rw[cU]))
 |C,T,a::as,b::bs,ha,c=>by
  by_cases e:a=b
  ·subst e
   have h:=((T 0).eq a a ha.1 ha.1).mpr rfl;rw[cU,cU,h,la rfl,la rfl];rcases zX (λi=>T (i+1)) as bs ha.2 c.2 with z|z|z
   ·rwa[.inl (by rw[z])]
   ·rwa[.inr (.inl z)]
   ·rwa[.inr (.inr z)]
  ·have d:¬bI a b=true:=λz=>e (((T 0).eq a b ha.1 c.1).mp z)
   have f:¬bI b a=true:=λz=>e (((T 0).eq b a c.1 ha.1).mp z).symm
   rw[cU,cU,wa d,wa f];rcases(T 0).tot a b ha.1 c.1 with z|z|z
   ·rwa[absurd z e]
   ·rwa[.inr (.inl z)]
   ·rwa[.inr (.inr z)]
theorem zY:∀{C:Nat->D->Prop},(∀i,cS (C i))->∀as bs,h9 C as->h9 C bs->cU as bs=true->cU bs as=false
 |C,T,[],[],_,_,h=>by rw[cU]at h;cases h
 |C,T,[],_::_,_,_,_=>by rw[cU]
 |C,T,_::_,[],_,_,h=>by rw[cU]at h;cases h
 |C,T,a::as,b::bs,ha,c,h=>by
  by_cases e:a=b
  ·subst e
   have d:=((T 0).eq a a ha.1 ha.1).mpr rfl;rw[cU,d,la rfl]at h ⊢;rwa[zY (λi=>T (i+1)) as bs ha.2 c.2 h]
  ·have f:¬bI a b=true:=λz=>e (((T 0).eq a b ha.1 c.1).mp z)
   have g:¬bI b a=true:=λz=>e (((T 0).eq b a c.1 ha.1).mp z).symm
   rw[cU,wa f]at h;rw[cU,wa g];exact(T 0).as a b ha.1 c.1 h
open Classical in
theorem zZ:∀{C:Nat->D->Prop},(∀i,cS (C i))->∀as bs f,h9 C as->h9 C bs->h9 C f->cU as bs=true->cU bs f=true->cU as f=true
 |C,T,as,[],f,_,_,_,h,h'=>by cases as <;> (rw[cU]at h;cases h)
 |C,T,as,b::bs,[],_,_,_,h,h'=>by rw[cU]at h';cases h'
 |C,T,[],b::bs,c::f,_,_,_,h,h'=>by rw[cU]
 |C,T,a::as,b::bs,c::f,ha,g,j,h,h'=>by
  have d:∀x y,C 0 x->C 0 y->∀p q:Bool,(if bI x y=true then p else q)=if x=y then p else q:=λx y m n p q=>by
   by_cases e:x=y
   ·rw[la (((T 0).eq x y m n).mpr e),la e]
   ·rw[wa (λz=>e (((T 0).eq x y m n).mp z)),wa e]
  rw[cU,d a b ha.1 g.1]at h;rw[cU,d b c g.1 j.1]at h';rw[cU,d a c ha.1 j.1];by_cases e1:a=b
  ·subst e1
   rw[la rfl]at h;by_cases e2:a=c
   ·subst e2
    rw[la rfl]at h' ⊢;rwa[zZ (λi=>T (i+1)) as bs f ha.2 g.2 j.2 h h']
   ·rw[wa e2]at h' ⊢;rwa[h']
  ·rw[wa e1]at h
   by_cases e2:b=c
   ·subst e2
    rw[wa e1];rwa[h]
   ·rw[wa e2]at h'
    have l:=(T 0).tr a b c ha.1 g.1 j.1 h h';by_cases o:a=c
    ·subst o;rw[(T 0).irr ha.1]at l;cases l
    ·rw[wa o];rwa[l]
def FD(C:Nat->D->Prop)(d:D):Prop:=∃ds,d=.lst ds/\h9 C ds
def oU(C:Nat->D->Prop)(d:D):Prop:=∃ds,d=.tup ds/\h9 C ds
def PR(T:∀i,cS (C i)):cS (FD C) where
 eq:=λa b ⟨i,x,p⟩ ⟨j,y,q⟩=>by subst x y;rw[bI,vV T i j p q];simp
 ok:=λa b ⟨i,x,p⟩ ⟨j,y,q⟩=>by subst x y;rw[cV];rwa[zW T i j p q]
 tr:=λa b c ⟨i,x,p⟩ ⟨j,y,q⟩ ⟨k,z,r⟩ h1 h2=>by subst x y z;rw[bY]at *;rwa[zZ T i j k p q r h1 h2]
 tot:=λa b ⟨i,x,p⟩ ⟨j,y,q⟩=>by
  subst x y;rw[bY,bY];rcases zX T i j p q with z|z
  ·rwa[.inl (by rw[z])]
  ·rwa[.inr z]
 as:=λa b ⟨i,x,p⟩ ⟨j,y,q⟩ h=>by subst x y;rw[bY]at *;rwa[zY T i j p q h]
def vW(T:∀i,cS (C i)):cS (oU C) where
 eq:=λa b ⟨i,x,p⟩ ⟨j,y,q⟩=>by subst x y;rw[bI,vV T i j p q];simp
 ok:=λa b ⟨i,x,p⟩ ⟨j,y,q⟩=>by subst x y;rw[cV];rwa[zW T i j p q]
 tr:=λa b c ⟨i,x,p⟩ ⟨j,y,q⟩ ⟨k,z,r⟩ h1 h2=>by subst x y z;rw[bY]at *;rwa[zZ T i j k p q r h1 h2]
 tot:=λa b ⟨i,x,p⟩ ⟨j,y,q⟩=>by
  subst x y;rw[bY,bY];rcases zX T i j p q with z|z
  ·rwa[.inl (by rw[z])]
  ·rwa[.inr z]
 as:=λa b ⟨i,x,p⟩ ⟨j,y,q⟩ h=>by subst x y;rw[bY]at *;rwa[zY T i j p q h]
theorem FE:∀{ds:T4},(∀d∈ds,C d)->h9 (λ_=>C) ds
 |[],_=>qh
 |d::r,h=>⟨h d da,FE λe he=>h e (ia _ he)⟩
end L2
namespace K21
open PySem L2
def f_q1f:av->aR :=
  (aP (bS (tE (e2 d3 (eC (.str [124])) (au 0))) (bK (ay 0)) cC)
  (aP (bt 1 (eM "str" rM (au 0) (aC (eC (.str [124])) aN)))
  (bK (e2 bG (e2 bG (cv (au 0) (oS (e2 bG (au 1) (eC (.int 1)))) oN) (eC (.str [44,32]))) (cv (au 0) oN (oS (au 1)))))))
def sT:List D->Option D:=bU 1 2 f_q1f
def f_q1b:av->aR :=
  (bK (eM "str" uX (eM "str" rN (eC (.str [])) (aC (eL (dV 1 [] (iE (a0 1 sT (aC (ay 0) aN))) (gN 0) (tE (e2 em (au 0) (eC (.str LF)))) (ay 0))) aN)) aN))
def vX:List D->Option D:=bU 1 1 f_q1b
def f_q20:av->aR :=
  (bK (eL (dV 1 [] (iE (au 0)) (gN 0) (λ_=>some true) (eN cP (aC (a0 1 vX (aC (ay 0) aN)) (aC (a0 1 sT (aC (ay 0) aN)) aN))))))
def fW:List D->Option D:=bU 1 1 f_q20
def f_q22:av->aR :=
  (bK (sK yB yB N4 (eC (.int 0)) (e2 aS (au 0) (eC (.int 1))) (e2 aS (au 0) (eC (.int 2))) (au 1)))
def vY:List D->Option D:=bU 2 2 f_q22
noncomputable def f_q1c:av->aR :=
  (bK (eN uT (aC (eN yC (aC (au 0) aN)) aN)))
def mZ:List D->Option D:=bU 1 1 f_q1c
def f_q14:av->aR :=
  (bK (eN cP (aC (a0 1 fW (aC (e2 aS (au 0) (eC (.int 0))) aN)) (aC (e2 aS (au 0) (eC (.int 1))) (aC (e2 aS (au 0) (eC (.int 2))) (aC (e2 aS (au 0) (eC (.int 3))) aN))))))
def l7:List D->Option D:=bU 1 1 f_q14
def f_q1d:av->aR :=
  (mU 1 (fU (iE (ay 0)) (gN 2) (fU (iE (ay 2)) (gT 4 (bJ (gN 3) (bJ (gN 4) (bJ (gN 5) (bJ (gN 6) dO))))) (oO [2,0,0,1] (eN cP (aC (a0 1 mZ (aC (ay 3) aN)) (aC (ay 4) (aC (ay 5) (aC (ay 6) aN)))))))) l7)
def vZ:List D->Option (List D):=iP 1 7 f_q1d
def f_q17:av->aR :=
  (bK (eN cP (aC (a0 1 fW (aC (e2 aS (au 0) (eC (.int 0))) aN)) (aC (e2 aS (au 0) (eC (.int 2))) (aC (a0 1 fW (aC (e2 aS (au 0) (eC (.int 1))) aN)) aN)))))
def l9:List D->Option D:=bU 1 1 f_q17
def f_qc:av->aR :=
  (mU 1 (fU (iE (ay 0)) (gN 2) (fU (iE (ay 2)) (gT 3 (bJ (gN 3) (bJ (gN 4) (bJ (gN 5) dO)))) (oO [2,2,1] (eN cP (aC (a0 1 mZ (aC (ay 3) aN)) (aC (a0 1 mZ (aC (ay 4) aN)) (aC (ay 5) aN))))))) l9)
def oW:List D->Option (List D):=iP 1 6 f_qc
def f_q2:av->aR :=
  (mX 1 (kx (iE (ay 0)) (gT 3 (bJ (gN 2) (bJ (gN 3) (bJ (gN 4) dO)))) (qC (cO (tE (ay 4))) (jQ (au 2) (ay 3)) qA)))
def sU:List D->Option D:=bU 1 5 f_q2
def f_q3:av->aR :=
  (aP (rZ 1 (.dt [] []))
  (aP (en (iE (ay 0)) (gT 2 (bJ (gN 2) (bJ (gN 3) dO))) (kU 1 (au 2) (e2 fE (eN bP (aC (au 3) aN)) (eC (.int 0)))))
  (vz 1 (bK (ay 1)))))
def sW:List D->Option D:=bU 1 4 f_q3
def f_q10:av->aR :=
  (aP (bt 1 (eM "list" ge (au 0) (aC (zS fW (ay 0)) aN)))
  (bK (e2 bG (cv (au 0) (oS (au 1)) oN) (cv (au 0) oN (oS (au 1))))))
def sX:List D->Option D:=bU 1 2 f_q10
def f_q5:av->aR :=
  (aP (bS (tE (e2 cQ (au 1) (au 0))) ku cC)
  (aP (bS (cH (cO (tE (ay 2))) (tE (j9 (au 3) (au 0) (eC (.bl false))))) ku cC)
  (bS (cH (cO (tE (ay 2))) (tE (e2 fE (eN bP (aC (e2 d5 (au 4) (au 0)) aN)) (eC (.int 1))))) ku cC)))
def qE:List D->Option D:=bU 5 5 f_q5
def FF:av->Option D :=
  (fR (bS (tE (e2 cQ (au 1) (au 0))) ku cC) (j7 (tE (e2 cQ (au 1) (au 0))) (rR "SentHere" ["path"] (aC (ay 0) aN)) gO)
  (fR (bS (cH (cO (tE (ay 2))) (tE (j9 (au 3) (au 0) (eC (.bl false))))) ku cC) (j7 (cH (cO (tE (ay 2))) (tE (j9 (au 3) (au 0) (eC (.bl false))))) (rR "Both" ["path"] (aC (ay 0) aN)) gO)
  (j7 (cH (cO (tE (ay 2))) (tE (e2 fE (eN bP (aC (e2 d5 (au 4) (au 0)) aN)) (eC (.int 1))))) (rR "TwoWays" ["path"] (aC (ay 0) aN)) gO)))
def sY:List D->Option D:=oB 5 5 FF
def f_q18:av->aR :=
  (bK (cv (au 0) (oS (eM "list" ge (au 0) (aC (e2 aS (au 0) (e1 cR (eC (.int 1)))) aN))) (oS (e1 cR (eC (.int 1))))))
def m5:List D->Option D:=bU 1 1 f_q18
def f_q9:av->aR :=
  (aP (fQ 2 (iO (aC (ay 0) aN)))
  (aP (rZ 3 (.dt [] []))
  (aP (yF (λ _=>1000) (cH (tE (e2 em (e2 aS (au 2) (e1 cR (eC (.int 1)))) (au 1))) (tE (e2 d3 (e2 aS (au 2) (e1 cR (eC (.int 1)))) (au 3)))) (aP (kU 3 (e2 aS (au 2) (e1 cR (eC (.int 1)))) (eC (.bl true)))
  (dP 2 (e2 aS (e2 d5 (au 1) (e2 aS (au 2) (e1 cR (eC (.int 1))))) (eC (.int 0))))))
  (hZ 2 (bK (ay 2))))))
def sZ:List D->Option D:=bU 2 4 f_q9
def f_q11:av->aR :=
  (aP (bt 3 (e2 aS (au 0) (eC (.int 0))))
  (aP (bt 4 (e2 aS (au 0) (eC (.int 1))))
  (aP (bt 5 (e2 aS (au 0) (eC (.int 2))))
  (aP (gy (a0 5 qE (aC (ay 3) (aC (ay 4) (aC (ay 5) (aC (ay 1) (aC (ay 2) aN)))))))
  (aP (bt 6 (a0 2 sZ (aC (ay 4) (aC (ay 2) aN))))
  (aP (bt 7 (a0 1 m5 (aC (ay 6) aN)))
  (aP (bS (tE (e2 fE (eN bP (aC (au 7) aN)) (eC (.int 0)))) ku cC)
  (aP (bt 8 (e2 aS (au 6) (e1 cR (eC (.int 1)))))
  (aP (bS (cN (tE (e2 d3 (au 8) (au 1))) (cN (cH (tE (ay 5)) (tE (e2 d3 (au 3) (au 1)))) (tE (e2 cQ (au 8) (au 3))))) ku cC)
  (bK (eN cP (aC (ay 3) (aC (ay 4) (aC (ay 5) (aC (ay 8) (aC (eN bP (aC (au 6) aN)) aN))))))))))))))))
def mi:List D->Option D:=bU 3 9 f_q11
def FG:av->Option D :=
  (fR (bt 3 (e2 aS (au 0) (eC (.int 0)))) gO
  (fR (bt 4 (e2 aS (au 0) (eC (.int 1)))) gO
  (fR (bt 5 (e2 aS (au 0) (eC (.int 2)))) gO
  (fR (gy (a0 5 qE (aC (ay 3) (aC (ay 4) (aC (ay 5) (aC (ay 1) (aC (ay 2) aN))))))) (mK 5 sY (aC (ay 3) (aC (ay 4) (aC (ay 5) (aC (ay 1) (aC (ay 2) aN))))))
  (fR (bt 6 (a0 2 sZ (aC (ay 4) (aC (ay 2) aN)))) gO
  (fR (bt 7 (a0 1 m5 (aC (ay 6) aN))) gO
  (fR (bS (tE (e2 fE (eN bP (aC (au 7) aN)) (eC (.int 0)))) ku cC) (j7 (tE (e2 fE (eN bP (aC (au 7) aN)) (eC (.int 0)))) (zG "Ring" "ring" (aC (a0 1 sX (aC (ay 7) aN)) aN)) gO)
  (fR (bt 8 (e2 aS (au 6) (e1 cR (eC (.int 1))))) gO
  (j7 (cN (tE (e2 d3 (au 8) (au 1))) (cN (cH (tE (ay 5)) (tE (e2 d3 (au 3) (au 1)))) (tE (e2 cQ (au 8) (au 3))))) (rR "Nowhere" ["path","goal"] (aC (ay 3) (aC (ay 4) aN))) gO)))))))))
def qF:List D->Option D:=oB 3 9 FG
def f_q21:av->aR :=
  (aP (bt 2 (eL (iQ 1 oW (aC (eN f7 (aC (ay 1) aN)) aN))))
  (aP (bt 3 (a0 1 sW (aC (ay 0) aN)))
  (aP (bt 4 (a0 1 sU (aC (ay 2) aN)))
  (bK (eL (dV 1 [3,4] (iE (au 2)) (gN 0) (λ_=>some true) (a0 3 mi (aC (ay 0) (aC (ay 1) (aC (ay 2) aN))))))))))
def m6:List D->Option D:=bU 2 5 f_q21
def FH:av->Option D :=
  (fR (bt 2 (eL (iQ 1 oW (aC (eN f7 (aC (ay 1) aN)) aN)))) gO
  (fR (bt 3 (a0 1 sW (aC (ay 0) aN))) gO
  (fR (bt 4 (a0 1 sU (aC (ay 2) aN))) gO
  (zE 1 [3,4] (iE (au 2)) (gN 0) (a0 3 mi (aC (ay 0) (aC (ay 1) (aC (ay 2) aN)))) (mK 3 qF (aC (ay 0) (aC (ay 1) (aC (ay 2) aN))))))))
def s0:List D->Option D:=oB 2 5 FH
def f_q1e:av->aR :=
  (aP (fQ 3 (iO aN))
  (aP (bt 4 (ay 2))
  (aP (bt 5 (eC (.int 0)))
  (aP (en (iE (ay 0)) (gN 6) (aP (bS (cH (tE (e2 fE (au 5) (eC (.int 0)))) (cN (tE (ay 6)) (tE (e2 Db (au 5) (au 1))))) (aP (bt 4 (e2 bG (au 4) (eC (.int 1))))
  (bt 5 (eC (.int 0)))) cC)
  (aP (bt 5 (e2 bG (au 5) (eC (.int 1))))
  (dP 3 (ay 4)))))
  (hZ 3 (bK (ay 3)))))))
def z5:List D->Option D:=bU 3 7 f_q1e
def f_q1a:av->aR :=
  (bK (eT (cH (tE (e2 cQ (e2 bG (e2 aS (au 0) (eC (.int 1))) (eC (.int 1))) (au 1))) (tE (e2 cQ (e2 aS (au 0) (eC (.int 2))) (au 2))))))
def s9:List D->Option D:=bU 3 3 f_q1a
def f_q0:av->aR :=
  (aP (rZ 2 (.dk [] []))
  (aP (en (iE (ay 1)) (gT 4 (bJ (gN 3) (bJ (gN 4) (bJ (gN 5) (bJ (gN 6) dO))))) (en (iE (cv (au 0) (oS (au 4)) (oS (e2 bG (au 5) (eC (.int 1)))))) (gN 7) (kU 2 (au 7) (eT (cN (tE (ay 6)) (tE (j9 (au 2) (au 7) (eC (.bl false)))))))))
  (vz 2 (bK (ay 2)))))
def z6:List D->Option D:=bU 2 8 f_q0
def f_q15:av->aR :=
  (aP (bt 2 (a0 2 z6 (aC (ay 0) (aC (ay 1) aN))))
  (aP (fQ 3 (iO aN))
  (aP (en (iE (eL (wN sk (aC (au 2) aN)))) (gN 4) (bS (cH (tE (e2 fE (eN bP (aC (au 3) aN)) (eC (.int 0)))) (tE (a0 3 s9 (aC (e2 aS (au 3) (e1 cR (eC (.int 1)))) (aC (ay 4) (aC (e2 d5 (au 2) (au 4)) aN)))))) (qj 3 (e1 cR (eC (.int 1))) (eN cP (aC (e2 aS (e2 aS (au 3) (e1 cR (eC (.int 1)))) (eC (.int 0))) (aC (ay 4) (aC (e2 d5 (au 2) (au 4)) aN))))) (dP 3 (eN cP (aC (ay 4) (aC (ay 4) (aC (e2 d5 (au 2) (au 4)) aN)))))))
  (hZ 3 (bK (ay 3))))))
def v0:List D->Option D:=bU 2 5 f_q15
def f_q1:av->aR :=
  (mX 1 (kx (iE (ay 0)) (gN 2) (qB (vG 3 (e2 aS (au 2) (eC (.int 0))))
  (qB (kx (iR mF (aC (eC (.int 1)) (aC (eN bP (aC (au 3) aN)) aN))) (gN 4) (oR (cv (au 3) oN (oS (au 4)))))
  (jQ (au 3) (ay 2))))))
def z7:List D->Option D:=bU 1 5 f_q1
def f_q4:av->aR :=
  (en (iE (ay 0)) (gN 2) (bS (cO (tE (a0 2 vY (aC (ay 2) (aC (ay 1) aN))))) ku cC))
def z8:List D->Option D:=bU 2 3 f_q4
def f_q19:av->aR :=
  (aP (bt 4 (eL (iQ 1 vZ (aC (eN f7 (aC (ay 3) aN)) aN))))
  (aP (gy (a0 2 z8 (aC (ay 4) (aC (eN bP (aC (au 0) aN)) aN))))
  (aP (bt 5 (a0 3 z5 (aC (ay 0) (aC (ay 1) (aC (ay 2) aN)))))
  (aP (bt 6 (a0 1 z7 (aC (ay 4) aN)))
  (bK (eL (dV 1 [5,6] (iE (eL (ER fW (au 6)))) (gN 0) (λ_=>some true) (eN cP (aC (ay 0) (aC (a0 2 v0 (aC (ay 1) (aC (e2 d5 (au 2) (au 0)) aN))) aN))))))))))
def z9:List D->Option D:=bU 4 7 f_q19
def f_q16:av->aR :=
  (bK (eT (cH (tE (e1 (n7 "int") (au 0))) (tE (eT (cO (tE (e1 (n7 "bool") (au 0)))))))))
def v1:List D->Option D:=bU 1 1 f_q16
def f_qb:av->aR :=
  (aP (bS (tE (e2 n6 (au 1) (eN bP (aC (au 0) aN)))) (bK (e2 aS (au 0) (au 1))) cC)
  (bK (eC (.int 0))))
def kC:List D->Option D:=bU 2 2 f_qb
def f_qd:av->aR :=
  (aP (bt 2 (eC (.str SG)))
  (aP (bt 3 (eC (.str [])))
  (aP (en (iR jl (aC (e2 bG (eC (.int 1)) (e2 b7 (au 0) (eC (.int 3)))) aN)) (gN 4) (bt 3 (e2 bG (au 3) (e2 aS (au 2) (e2 b7 (e2 bG (e2 eG (au 0) (e2 bG (au 4) (eC (.int 5)))) (e2 d4 (e2 d4 (eC (.int 7)) (au 4)) (au 4))) (eC (.int 63)))))))
  (aP (bt 5 (e2 b7 (e2 eG (au 0) (eC (.int 15))) (e2 bG (eN bP (aC (au 3) aN)) (eC (.int 1)))))
  (aP (bt 6 (e2 bG (e2 bG (cv (au 3) oN (oS (au 5))) (eN sy (aC (e2 eG (au 1) (eC (.int 2))) aN))) (cv (au 3) (oS (au 5)) oN)))
  (aP (bt 7 (e2 b7 (e2 bG (e2 eG (au 0) (eC (.int 240))) (e2 eG (au 1) (eC (.int 2)))) (eC (.int 6))))
  (aP (bS (tE (e2 cQ (au 7) (eC (.int 1)))) (bt 6 (e2 bG (e2 bG (au 6) (eC (.str [124]))) (au 3))) cC)
  (aP (bS (tE (e2 cQ (au 7) (eC (.int 5)))) (bt 6 (e2 bG (e2 bG (e2 bG (e2 bG (au 6) (eC (.str [124]))) (cv (au 3) oN (oS (eC (.int 3))))) (eC (.str [32]))) (cv (au 3) oN (oS (eC (.int 3)))))) cC)
  (aP (bS (tE (e2 cQ (au 7) (eC (.int 2)))) (bt 6 (e2 bG (e2 bG (au 3) (eC (.str [32]))) (au 6))) cC)
  (aP (bS (tE (e2 cQ (au 7) (eC (.int 3)))) (bt 6 (e2 bG (eC (.str [45])) (au 6))) cC)
  (aP (bS (tE (e2 cQ (e2 b7 (au 1) (eC (.int 2))) (eC (.int 1)))) (bK (e2 bG (au 6) (eC (.str [45])))) cC)
  (bK (ay 6)))))))))))))
def oX:List D->Option D:=bU 2 8 f_qd
def f_qe:av->aR :=
  (aP (bt 2 (e2 aS (eN f7 (aC (eC (.int 1)) (aC (eC (.int 1)) (aC (eC (.int 2)) (aC (eC (.int 3)) (aC (eC (.int 2)) (aC (eC (.int 6)) aN))))))) (e2 b7 (au 0) (eC (.int 6)))))
  (bK (eN uT (aC (eL (dV 1 [0,1] (iR jl (aC (au 2) aN)) (gN 0) (λ_=>some true) (a0 2 oX (aC (ay 2) (aC (e2 b7 (e2 eG (au 1) (e2 bG (eC (.int 7)) (e2 d4 (eC (.int 5)) (au 0)))) (eC (.int 6))) aN))))) aN))))
def v3:List D->Option D:=bU 2 3 f_qe
def f_q12:av->aR :=
  (aP (bt 4 (a0 2 oX (aC (ay 3) (aC (e2 bG (eC (.int 20)) (au 1)) aN))))
  (aP (bt 5 (e2 aS (au 0) (e2 b7 (e2 eG (au 2) (eC (.int 3))) (eN bP (aC (au 0) aN)))))
  (aP (bS (tE (e2 cQ (e2 b7 (au 2) (eC (.int 3))) (eC (.int 0)))) (bK (eN cP (aC (ay 4) aN))) cC)
  (aP (bS (tE (e2 n6 (eN bP (aC (au 5) aN)) (eC (.int 6)))) (bK (e2 sO (au 5) (eN cP (aC (ay 4) aN)))) cC)
  (bK (e2 sO (eN cP (aC (ay 4) aN)) (cv (au 5) oN (oS (eC (.int 2))))))))))
def m7:List D->Option D:=bU 4 6 f_q12
def f_q13:av->aR :=
  (aP (fQ 2 (iO aN))
  (aP (en (iR jl (aC (e2 bG (eC (.int 1)) (e2 b7 (au 0) (eC (.int 7)))) aN)) (gN 3) (aP (bt 4 (e2 b7 (e2 d4 (e2 bG (au 0) (e2 d4 (au 3) (au 3))) (eC (.int 1583458089))) (eC (.int 2147483647))))
  (dP 2 (eN cP (aC (a0 2 v3 (aC (ay 4) (aC (ay 1) aN))) (aC (e2 b7 (au 3) (eC (.int 5))) (aC (e2 b7 (au 3) (eC (.int 5))) (aC (e2 cQ (e2 b7 (au 4) (eC (.int 2))) (eC (.int 0))) aN))))))))
  (hZ 2 (bK (ay 2)))))
def v4:List D->Option D:=bU 2 5 f_q13
def f_q8:av->aR :=
  (aP (fQ 3 (iO aN))
  (aP (en (iR jl (aC (e2 bG (eC (.int 2)) (e2 b7 (au 1) (eC (.int 7)))) aN)) (gN 4) (dP 3 (a0 4 m7 (aC (ay 0) (aC (e2 bG (eC (.int 60)) (e2 b7 (e2 d4 (au 4) (eC (.int 5))) (eC (.int 13)))) (aC (e2 b7 (e2 d4 (e2 bG (au 1) (e2 d4 (au 4) (au 4))) (eC (.int 1583458089))) (eC (.int 2147483647))) (aC (ay 2) aN)))))))
  (hZ 3 (bK (ay 3)))))
def Aa:List D->Option D:=bU 3 5 f_q8
def f_qf:av->aR :=
  (aP (fQ 4 (j5 (au 1) (au 2)))
  (aP (fQ 5 (iO aN))
  (aP (en (iR jl (aC (eN bP (aC (au 0) aN)) aN)) (gN 6) (aP (bt 7 (e2 b7 (e2 d4 (e2 aS (au 0) (au 6)) (eC (.int 1583458089))) (eC (.int 2147483647))))
  (aP (bt 8 (e2 aS (au 4) (e2 b7 (e2 eG (au 7) (eC (.int 7))) (eN bP (aC (au 4) aN)))))
  (aP (bt 9 (a0 4 m7 (aC (ay 1) (aC (ay 6) (aC (e2 eG (au 7) (eC (.int 31))) (aC (ay 3) aN))))))
  (bS (tE (e2 fE (e2 b7 (au 7) (eC (.int 3))) (eC (.int 0)))) (aP (dP 4 (ay 9))
  (dP 5 (eN cP (aC (ay 9) (aC (ay 8) (aC (eC (.bl false)) aN)))))) (bS (cH (tE (e2 d2 (e2 aS (au 1) (eC (.int 0))) (e2 aS (au 1) (e1 cR (eC (.int 1)))))) (tE (e2 em (au 8) (au 2)))) (dP 5 (eN cP (aC (e2 aS (au 1) (e1 cR (eC (.int 1)))) (aC (ay 8) (aC (eC (.bl true)) aN))))) cC))))))
  (hZ 5 (bK (ay 5))))))
def Ab:List D->Option D:=bU 4 10 f_qf
def f_q7:av->aR :=
  (aP (bt 2 (eC .non))
  (aP (rT 2 3 2 m6 s0 (aC (ay 0) (aC (ay 1) aN)))
  (bK (ay 2))))
def tf:List D->Option D:=bU 2 4 f_q7
def f_qa:av->aR :=
  (aP (bS (cN (cO (tE (e1 (u5 "Ring") (ay 0)))) (cO (tE (e1 u7 (ay 0))))) (bK (eC (.bl false))) cC)
  (aP (bS (tE (e1 (u8 ["Both","NoMark","NoRow","NoText","Nowhere","OutOfBook","SentHere","TwoWays"]) (ay 0))) (bK (eC (.bl false))) cC)
  (aP (bt 2 (eL (dV 1 [] (iE (au 1)) (gN 0) (λ _=>some true) (a0 1 fW (aC (ay 0) aN)))))
  (aP (bt 3 (eM "list" ge (au 2) (aC (eN qy (aC (au 2) aN)) aN)))
  (bK (eT (cH (tE (e1 (n7 "list") (e1 (rV "ring") (ay 0)))) (tE (e2 cQ (e1 (rV "ring") (ay 0)) (e2 bG (cv (au 1) (oS (au 3)) oN) (cv (au 1) oN (oS (au 3)))))))))))))
def v6:List D->Option D:=bU 2 4 f_qa
def f_q6:av->aR :=
  (aP (bS (cN (cO (tE (e1 (n7 "list") (au 0)))) (tE (e2 d2 (eN bP (aC (au 0) aN)) (au 1)))) (bK (eC (.bl false))) cC)
  (aP (en (iE (ay 0)) (gT 5 (bJ (gN 4) (bJ (gN 5) (bJ (gN 6) (bJ (gN 7) (bJ (gN 8) dO)))))) (aP (bS (cN (tE (e2 d3 (au 7) (au 2))) (cN (cO (tE (a0 1 v1 (aC (ay 8) aN)))) (cH (tE (e2 em (au 5) (au 2))) (cN (tE (e2 d2 (au 7) (au 5))) (tE (e2 d2 (au 8) (eC (.int 1)))))))) (bK (eC (.bl false))) cC)
  (bS (cH (tE (e2 em (au 5) (au 3))) (cN (tE (e2 d2 (au 7) (e2 aS (au 2) (eC (.int 0))))) (tE (e2 d2 (au 8) (e2 bG (e2 pO (eN bP (aC (au 3) aN)) (eM "list" ge (au 3) (aC (au 5) aN))) (eC (.int 1))))))) (bK (eC (.bl false))) cC)))
  (bK (eC (.bl true)))))
def v7:List D->Option D:=bU 4 9 f_q6
def f_q23:av->aR :=
  (aP (bt 1 (a0 2 kC (aC (ay 0) (aC (eC (.int 0)) aN))))
  (aP (bt 2 (a0 4 z9 (aC (e2 vE (eN f7 (aC (eC (.bl false)) aN)) (eC (.int 5))) (aC (eC (.int 2)) (aC (eC (.int 7)) (aC (a0 2 v4 (aC (a0 2 kC (aC (ay 0) (aC (eC (.int 1)) aN))) (aC (ay 1) aN))) aN))))))
  (aP (bt 3 (eL (dV 1 [] (iE (au 2)) (gN 0) (λ _=>some true) (e2 aS (au 0) (eC (.int 0))))))
  (aP (bt 4 (a0 3 Aa (aC (ay 3) (aC (a0 2 kC (aC (ay 0) (aC (eC (.int 2)) aN))) (aC (ay 1) aN)))))
  (aP (bt 5 (a0 4 Ab (aC (cv (au 0) (oS (eC (.int 3))) (oS (eC (.int 17)))) (aC (ay 3) (aC (ay 4) (aC (ay 1) aN))))))
  (aP (bt 6 (eL (dV 1 [4] (iR jl (aC (eN bP (aC (au 4) aN)) aN)) (gN 0) (λ _=>some true) (eN cP (aC (e2 aS (au 1) (e2 pO (au 0) (eC (.int 1)))) (aC (e2 aS (au 1) (au 0)) (aC (eC (.bl false)) aN)))))))
  (aP (bt 7 (e2 b7 (e2 eG (a0 2 kC (aC (ay 0) (aC (eC (.int 2)) aN))) (eC (.int 7))) (e2 bG (eN bP (aC (au 5) aN)) (eC (.int 1)))))
  (aP (bt 8 (e2 bG (e2 bG (cv (au 5) oN (oS (au 7))) (au 6)) (cv (au 5) (oS (au 7)) oN)))
  (aP (bS (cO (tE (a0 2 v6 (aC (a0 2 tf (aC (ay 2) (aC (ay 8) aN))) (aC (ay 4) aN))))) (bK (eC (.bl false))) cC)
  (aP (bt 9 (e2 bG (e2 bG (au 5) (cv (au 6) (oS (eC (.int 1))) oN)) (eN f7 (aC (eN cP (aC (e2 aS (au 4) (e1 cR (eC (.int 1)))) (aC (e2 aS (au 3) (eC (.int 0))) (aC (eC (.bl false)) aN)))) aN))))
  (aP (bS (cO (tE (a0 4 v7 (aC (a0 2 m6 (aC (ay 2) (aC (ay 9) aN))) (aC (eN (qD [2,2,1]) (aC (au 9) aN)) (aC (ay 3) (aC (ay 4) aN))))))) (bK (eC (.bl false))) cC)
  (bK (a0 2 v6 (aC (a0 2 tf (aC (ay 2) (aC (eL (wN vA (aC (au 8) aN))) aN))) (aC (ay 4) aN)))))))))))))))
def qG:List D->Option D:=bU 1 10 f_q23
end K21
namespace K21
open PySem L2
open PyProof.Rows (lo1)
noncomputable abbrev sh(d:D):Option Sl:=some (.sh d)
abbrev sN(l:Ti):Option Sl:=sh (.lst (l.map D.int))
def ti(p:Int)(n:Nat):e6 p (n+1)=.int p::e6 (p+1) n:=by
 delta e6;rw[on,oa,pc];erw[congr (qe _ ?_) (kg λk _=>?_)]
 ·show D.int (p+((0:Nat):Int))=_;rw[show p+((0:Nat):Int)=p by omega]
 ·show D.int (p+((k+1:Nat):Int))=_;rw[show p+((k+1:Nat):Int)=p+1+(k:Int) by omega]
noncomputable def fL(l:T7):T7:=if 124∈l then l.drop (dA 124 l+1)++[44,32]++l.take (dA 124 l) else l
def FI(l:T7)(h:l.length<=1000):sT [.str l]=some (.str (fL l)):=by
 delta sT f_q1f fL;have hz:l.length<=sizeLine:=sz 'o';by_cases a:124∈l
 ·have b:=CH 124 l a
  have e1:bG (D.int (dA 124 l)) (D.int 1)=some (.int ((dA 124 l+1:Nat):Int)):=rfl;simp only[bU,iP,dW,aP,bS,bt,fQ,gy,bK,n9,ox,oy,dP,hZ,en,cC,eC,ay,au,L2.e1,L2.e2,eN,aN,aC,tE,cH,cN,cO,eT,cv,oN,oS,j0,fZ,eM,fH,a0,oA,iQ,eL,iO,wN,j5,dV,gL,iE,iR,gN,gT,bJ,dO,em,d3,cQ,d2,fD,hW,bP,f7,cP,oa,oj,zb,ye,jf,ze,replicate,nk,reduceAdd,reduceSub,reduceLeDiff,yf,xi,yi,ue,pd,lb,uj,zf,ik,vj,la,yr,bq,reduceIte,oh,ol,lc,reduceCtorEq,jd,jI,jO,yR,a,decide_true,NE 124 l a,e1,DX l _ hz b,yS l _ hz];rw[h7 _ _ (sz 's')];simp only[bU,iP,dW,aP,bS,bt,fQ,gy,bK,n9,ox,oy,dP,hZ,en,cC,eC,ay,au,L2.e1,L2.e2,eN,aN,aC,tE,cH,cN,cO,eT,cv,oN,oS,j0,fZ,eM,fH,a0,oA,iQ,eL,iO,wN,j5,dV,gL,iE,iR,gN,gT,bJ,dO,em,d3,cQ,d2,fD,hW,bP,f7,cP,oa,oj,zb,ye,jf,ze,replicate,nk,reduceAdd,reduceSub,reduceLeDiff,yf,xi,yi,ue,pd,lb,uj,zf,ik,vj,la,yr,bq,reduceIte,oh,ol,lc,reduceCtorEq,jd,jI,jO];rw[h7 _ _ (sz 's')]
 ·simp only[bU,iP,dW,aP,bS,bt,fQ,gy,bK,n9,ox,oy,dP,hZ,en,cC,eC,ay,au,L2.e1,L2.e2,eN,aN,aC,tE,cH,cN,cO,eT,cv,oN,oS,j0,fZ,eM,fH,a0,oA,iQ,eL,iO,wN,j5,dV,gL,iE,iR,gN,gT,bJ,dO,em,d3,cQ,d2,fD,hW,bP,f7,cP,oa,oj,zb,ye,jf,ze,replicate,nk,reduceAdd,reduceSub,reduceLeDiff,yf,xi,yi,ue,pd,lb,uj,zf,ik,vj,la,yr,bq,reduceIte,oh,ol,lc,reduceCtorEq,jd,jI,jO,yR,a,decide_false]
def asc(l:T7):Prop:=∀c∈l,c<128
def PU(h:asc l):asc (fL l):=by
 delta fL;split
 ·intro c hc
  simp only[jb]at hc;rcases hc with(hc|hc)|hc
  ·rwa[h c (uh hc)]
  ·simp at hc;omega
  ·rwa[h c (mf hc)]
 ·rwa[h]
def PV:(fL l).length<=l.length+2:=by
 delta fL;split
 ·simp;omega
 ·omega
def Ac(l:T7):T7:=((fL l).filter λc=>decide (c∈LF)).map lo1
def PX(l:T7):((l.map λc=>[c]).map length).sum=l.length:=by
 induction l with
 |nil=>rfl
 |cons a r b=>simp only[oa,List.sum_cons,b,zb,ye];omega
def PY(l:T7):(l.map λc=>[c]).flatten=l:=by
 induction l with
 |nil=>rfl
 |cons a r b=>simp[b]
def PZ(l:T7)(ha:asc l)(h:l.length<=1000):vX [.str l]=some (.str (Ac l)):=by
 delta vX f_q1b Ac;have hs:=PV (l:=l)
 have a:e8 (gN 0) (tE (e2 em (au 0) (eC (.str LF)))) (ay 0) [none] ((fL l).map λc=>.str [c])=some (((fL l).filter λc=>decide (c∈LF)).map λc=>D.str [c]) :=
  yQ (λc=>D.str [c]) (λc=>decide (c∈LF)) (λc=>D.str [c]) (fL l) λc b=>⟨_,rfl,by simp only[bU,iP,dW,aP,bS,bt,fQ,gy,bK,n9,ox,oy,dP,hZ,en,cC,eC,ay,au,L2.e1,L2.e2,eN,aN,aC,tE,cH,cN,cO,eT,cv,oN,oS,j0,fZ,eM,fH,a0,oA,iQ,eL,iO,wN,j5,dV,gL,iE,iR,gN,gT,bJ,dO,em,d3,cQ,d2,fD,hW,bP,f7,cP,oa,oj,zb,ye,jf,ze,replicate,nk,reduceAdd,reduceSub,reduceLeDiff,yf,xi,yi,ue,pd,lb,uj,zf,ik,vj,la,yr,bq,reduceIte,oh,ol,lc,reduceCtorEq,jd,jI,jO,yR],λ_=>by simp only[bU,iP,dW,aP,bS,bt,fQ,gy,bK,n9,ox,oy,dP,hZ,en,cC,eC,ay,au,L2.e1,L2.e2,eN,aN,aC,tE,cH,cN,cO,eT,cv,oN,oS,j0,fZ,eM,fH,a0,oA,iQ,eL,iO,wN,j5,dV,gL,iE,iR,gN,gT,bJ,dO,em,d3,cQ,d2,fD,hW,bP,f7,cP,oa,oj,zb,ye,jf,ze,replicate,nk,reduceAdd,reduceSub,reduceLeDiff,yf,xi,yi,ue,pd,lb,uj,zf,ik,vj,la,yr,bq,reduceIte,oh,ol,lc,reduceCtorEq,jd,jI,jO]⟩
 have d:((fL l).filter λc=>decide (c∈LF)).length<=l.length+2:=zc (List.length_filter_le _ _) hs;simp only[bU,iP,dW,aP,bS,bt,fQ,gy,bK,n9,ox,oy,dP,hZ,en,cC,eC,ay,au,L2.e1,L2.e2,eN,aN,aC,tE,cH,cN,cO,eT,cv,oN,oS,j0,fZ,eM,fH,a0,oA,iQ,eL,iO,wN,j5,dV,gL,iE,iR,gN,gT,bJ,dO,em,d3,cQ,d2,fD,hW,bP,f7,cP,oa,oj,zb,ye,jf,ze,replicate,nk,reduceAdd,reduceSub,reduceLeDiff,yf,xi,yi,ue,pd,lb,uj,zf,ik,vj,la,yr,bq,reduceIte,oh,ol,lc,reduceCtorEq,jd,jI,jO,FI l h,ND,ba,sz (show (fL l).length<=100000 by omega),a];have e:(map (λc=>D.str [c]) (filter (λc=>decide (c∈LF)) (fL l)))=((filter (λc=>decide (c∈LF)) (fL l)).map λc=>[c]).map D.str:=by rw[pc];rfl
 rw[e,NF,CK,PY]
 ·simp only[bU,iP,dW,aP,bS,bt,fQ,gy,bK,n9,ox,oy,dP,hZ,en,cC,eC,ay,au,L2.e1,L2.e2,eN,aN,aC,tE,cH,cN,cO,eT,cv,oN,oS,j0,fZ,eM,fH,a0,oA,iQ,eL,iO,wN,j5,dV,gL,iE,iR,gN,gT,bJ,dO,em,d3,cQ,d2,fD,hW,bP,f7,cP,oa,oj,zb,ye,jf,ze,replicate,nk,reduceAdd,reduceSub,reduceLeDiff,yf,xi,yi,ue,pd,lb,uj,zf,ik,vj,la,yr,bq,reduceIte,oh,ol,lc,reduceCtorEq,jd,jI,jO]
  rw[NI]
  ·intro c b
   rwa[PU ha c (ug.mp b).1]
  ·rwa[sz 'o']
 ·rw[PX]
  simp;omega
def v8:∀c∈SG,c<128/\c≠44/\c≠124/\c≠32:=by decide
def FJ:SG.length=63:=rfl
def gd(c:Nat):Prop:=c∈SG\/c=32\/c=124
def P0(h:gd c):c<128:=by
 rcases h with h|h|h
 ·exact(v8 c h).1
 ·omega
 ·omega
def P1(h:gd c):c≠44:=by
 rcases h with h|h|h
 ·exact(v8 c h).2.1
 ·omega
 ·omega
structure v9(l:T7):Prop where
 g:∀c∈l,gd c
 len:l.length<=60
 pos:1<=l.length
noncomputable def fX(i:Int):T7:=(ofString (toString i)).cps.toList
def FK(n:Nat):Bool:=(fX (n:Int)).all (λc=>decide (c∈SG)) && decide ((fX (n:Int)).length<=3) && decide (1<=(fX (n:Int)).length)
def P3:∀n,n<500->FK n=true:=by decide
def Ad(a:0<=k)(b:k<1000):(∀c∈fX (k / 2),c∈SG)/\(fX (k / 2)).length<=3/\1<=(fX (k / 2)).length:=by
 have⟨n,hn⟩:=ag (show 0<=k / 2 by omega);rw[hn]
 have:=P3 n 'o'
 unfold FK at this;simp only[pb,sf,ud]at this;exact⟨this.1.1,this.1.2,this.2⟩
def P4(i:Int)(h:i.natAbs.log2<1920):sy [.int i]=some (.str (fX i)):=by
 delta sy;dsimp only;rw[la h];show some (D.sc (.str _))=some (D.sc (.str (S (ofString (toString i)).cps.toList)));rw[<-Lp]
def iw(c:Int)(n:Nat):T7:=(range n).map λ(j:Nat)=>SG.getD ((c / ((j:Int)+5)+7 * (j:Int) * (j:Int)) % 63).toNat 0
def c6(c k:Int)(b:T7):T7:=b.take (c / 15 % ((b.length:Nat)+1)).toNat++fX (k / 2)++b.drop (c / 15 % ((b.length:Nat)+1)).toNat
noncomputable def gU(c k:Int)(b h:T7):T7:=if (c / 240+k / 2) % 6=1 then h++[124]++b else if (c / 240+k / 2) % 6=5 then h++[124]++b.take 3++[32]++b.take 3 else if (c / 240+k / 2) % 6=2 then b++[32]++h else if (c / 240+k / 2) % 6=3 then [45]++h else h
def fy(c k:Int):T7:=if k % 2=1 then gU c k (iw c (1+c % 3).toNat) (c6 c k (iw c (1+c % 3).toNat))++[45] else gU c k (iw c (1+c % 3).toNat) (c6 c k (iw c (1+c % 3).toNat))
def Ae(c:Int)(n:Nat):(iw c n).length=n:=by delta iw;rw[ba,bh]
def FL(c:Int)(n:Nat):∀z∈iw c n,z∈SG:=λz hz=>by
 have⟨j,_,rfl⟩:=va.mp hz;have b:=wg (c / ((j:Int)+5)+7 * (j:Int) * (j:Int)) (show (63:Int)≠0 by decide);have d:=eg (c / ((j:Int)+5)+7 * (j:Int) * (j:Int)) (show (0:Int)<63 by decide);generalize (c / ((j:Int)+5)+7 * (j:Int) * (j:Int)) % 63=i at b d;have a:i.toNat<SG.length:=by rw[FJ];omega
 rw[bb,cc a];rwa[jg a]
def P5:av->aR:=bt 3 (e2 bG (au 3) (e2 aS (au 2) (e2 b7 (e2 bG (e2 eG (au 0) (e2 bG (au 4) (eC (.int 5)))) (e2 d4 (e2 d4 (eC (.int 7)) (au 4)) (au 4))) (eC (.int 63)))))
theorem FM(c:Int)(b:Option Sl):∀(n m:Nat) (z:Option Sl),m+n<=1000->∃a,eH (gN 4) P5 (e6 ((m:Nat):Int) n) [sh (.int c),b,sh (.str SG),sh (.str (iw c m)),z,none,none,none]=.nx [sh (.int c),b,sh (.str SG),sh (.str (iw c (m+n))),a,none,none,none]
 |0,m,z,_=>⟨z,rfl⟩
 |n+1,m,z,h=>by
  have⟨a,e⟩:=FM c b n (m+1) (sh (.int (m:Nat))) 'o';erw[⟨a,?_⟩];rw[ti,show ((m:Nat):Int)+1=((m+1:Nat):Int) by omega,show m+(n+1)=m+1+n by omega];refine(k4 rfl ?_).trans e;have d:=wg (c / ((m:Int)+5)+7 * (m:Int) * (m:Int)) (show (63:Int)≠0 by decide);have f:=eg (c / ((m:Int)+5)+7 * (m:Int) * (m:Int)) (show (0:Int)<63 by decide)
  have g:iw c (m+1)=iw c m++[SG.getD ((c / ((m:Int)+5)+7 * (m:Int) * (m:Int)) % 63).toNat 0]:=by
   delta iw;rw[List.range_succ,gb];rfl
  have l:aS (.str SG) (.int ((c / ((m:Int)+5)+7 * (m:Int) * (m:Int)) % 63))=some (.str [SG.getD ((c / ((m:Int)+5)+7 * (m:Int) * (m:Int)) % 63).toNat 0]):=by
   generalize (c / ((m:Int)+5)+7 * (m:Int) * (m:Int)) % 63=i at d f;have⟨j,rfl⟩:=ag d;erw[NK (sz 'd') (kG ?_)];have o:j<SG.length:=by rw[FJ];omega
   rw[ai,bb,cc o];rfl
  refine(bW (aJ rfl (aJ rfl (aJ (aJ (aJ rfl (aJ rfl rfl iS) (kR 'o')) (aJ (aJ rfl rfl (lZ (rX ⟨'o','o'⟩))) rfl (lZ (rX ⟨'o','o'⟩))) iS) rfl (fJ 'd')) l) (h7 _ _ (sz (by rw[Ae];simp;omega))))).trans ?_;rw[g];rfl
def tu(h:n<=1000000):jl [.int (n:Nat)]=some (e6 ((0:Nat):Int) n):=by
 rw[D4 rfl h];delta e6;erw[qe some (kg λk _=>?_)];show D.int _=D.int _;rw[show ((0:Nat):Int)+(k:Nat)=((k:Nat):Int) by omega]
def FN{b d:T7}(n:Nat):(b.take n++d++b.drop n).length=b.length+d.length:=by
 rw[ma,ma,de,pj];omega
def FO(c k:Int)(H:0<=k)(I:k<1000):oX [.int c,.int k]=some (.str (fy c k)):=by
 have M:=wg c (show (3:Int)≠0 by decide);have N:=eg c (show (0:Int)<3 by decide);have⟨n,hn⟩:=ag (show 0<=1+c % 3 by omega);delta fy;rw[hn,ai];have A:n<=16:=by omega
 have⟨r,z⟩:=FM c (sh (.int k)) n 0 none 'o';rw[yf]at z;have bl:=Ae c n;generalize U:iw c n=b at *;have⟨J,K,L⟩:=Ad H I;have F:=wg (c / 15) (show (((b.length:Nat):Int)+1)≠0 by omega);have O:=eg (c / 15) (show (0:Int)<((b.length:Nat):Int)+1 by omega);delta c6;have⟨a,s⟩:=ag F;rw[s,ai];have y:a<=b.length:=by omega
 have u:(k / 2).natAbs.log2<1920:=by
  by_cases hz:k / 2=0
  ·rw[hz];decide
  ·rwa[xb ((Nat.log2_lt 'o').mpr (show (k / 2).natAbs<2 ^ 10 by omega)) 'd']
 have P:=FN (b:=b) (d:=fX (k / 2)) a;erw[c4 rfl (st rfl (st rfl (st (kP (oC (ds:=[.int (n:Nat)]) (aO (aJ rfl (aJ rfl rfl (fJ 'd')) (iS.trans (by rw[hn]))) rfl) (tu 'o')) z) ?_)))];erw[st (bW (d:=.int (a:Nat)) (aJ (aJ rfl rfl (kR 'd')) (aJ (bZ rfl (show bP [.str b]=some (.int (b.length:Nat)) by delta bP;dsimp only;rw[kI,la (sz 'o')])) rfl iS) ((fJ 'o').trans (by rw[s])))) ?_];erw[st (bW (d:=.str (b.take a++fX (k / 2)++b.drop a)) (aJ (aJ (yS b a (sz 'o')) (bZ (aO (aJ rfl rfl (kR 'd')) rfl) (P4 _ u)) (h7 _ _ (sz (by rw[de];omega)))) (DX b a (sz 'o') y) (h7 _ _ (sz (by rw[ma,de,pj];omega))))) ?_];generalize b.take a++fX (k / 2)++b.drop a=h at *;have Q:=wg (c / 240+k / 2) (show (6:Int)≠0 by decide);have R:=eg (c / 240+k / 2) (show (0:Int)<6 by decide);erw[st (bW (aJ (aJ (aJ rfl rfl (kR 'd')) (aJ rfl rfl (kR 'd')) iS) rfl (fJ 'd'))) ?_];delta gU;generalize (c / 240+k / 2) % 6=w at *;have B:∀(x:Int) (e:T7),tE (e2 cQ (au 7) (eC (.int x))) [sh (.int c),sh (.int k),sh (.str SG),sh (.str b),r,sh (.int (a:Nat)),sh (.str e),sh (.int w)]=some (decide (w=x)):=λx e=>b8 (aJ rfl rfl (lX mQ))
 have G:∀e:T7,tE (e2 cQ (e2 b7 (au 1) (eC (.int 2))) (eC (.int 1))) [sh (.int c),sh (.int k),sh (.str SG),sh (.str b),r,sh (.int (a:Nat)),sh (.str e),sh (.int w)]=some (decide (k % 2=1)):=λe=>b8 (aJ (aJ rfl rfl (fJ 'd')) rfl (lX mQ))
 have g:∀e:T7,e.length<=1000->aP (bS (tE (e2 cQ (e2 b7 (au 1) (eC (.int 2))) (eC (.int 1)))) (bK (e2 bG (au 6) (eC (.str [45])))) cC) (bK (ay 6)) [sh (.int c),sh (.int k),sh (.str SG),sh (.str b),r,sh (.int (a:Nat)),sh (.str e),sh (.int w)]=.rt (.str (if k % 2=1 then e++[45] else e)):=λe hl=>by
  have q:=G e;by_cases j:k % 2=1
  ·rw[db j]at q
   rw[la j];rwa[vr ((jv q).trans (eI (aJ rfl rfl (h7 e [45] (sz 's')))))]
  ·rw[ac j]at q
   rw[wa j];rwa[st ((cY q).trans rfl) rfl]
 have no:∀(x:Int) (e:T7) (f:av->aR),w≠x->bS (tE (e2 cQ (au 7) (eC (.int x)))) f cC [sh (.int c),sh (.int k),sh (.str SG),sh (.str b),r,sh (.int (a:Nat)),sh (.str e),sh (.int w)]=.nx [sh (.int c),sh (.int k),sh (.str SG),sh (.str b),r,sh (.int (a:Nat)),sh (.str e),sh (.int w)]:=λx e f v=>by
  have q:=B x e;rw[ac v]at q;exact(cY q).trans rfl
 have T:(b.take 3).length<=3:=by rw[de];omega
 have i:∀(x:Int) (f:av->aR) (ρ:av),w=x->f [sh (.int c),sh (.int k),sh (.str SG),sh (.str b),r,sh (.int (a:Nat)),sh (.str h),sh (.int w)]=.nx ρ->bS (tE (e2 cQ (au 7) (eC (.int x)))) f cC [sh (.int c),sh (.int k),sh (.str SG),sh (.str b),r,sh (.int (a:Nat)),sh (.str h),sh (.int w)]=.nx ρ:=λx f ρ he E=>by
  have q:=B x h;rw[db he]at q;exact(jv q).trans E
 by_cases l:w=1
 ·rw[la l]
  erw[st (i 1 _ _ l (bW (d:=.str (h++[124]++b)) (aJ (aJ rfl rfl (h7 h [124] (sz 's'))) rfl (h7 _ b (sz 's'))))) ?_];rwa[st (no 5 _ _ 'o') (st (no 2 _ _ 'o') (st (no 3 _ _ 'o') (g _ 's')))]
 ·rw[wa l]
  erw[st (no 1 _ _ l) ?_];by_cases m:w=5
  ·rw[la m]
   have C:cv (au 3) oN (oS (eC (.int 3))) [sh (.int c),sh (.int k),sh (.str SG),sh (.str b),r,sh (.int (a:Nat)),sh (.str h),sh (.int w)]=some (.str (b.take 3)):=yS b 3 (sz 'o');erw[st (i 5 _ _ m (bW (d:=.str (h++[124]++b.take 3++[32]++b.take 3)) (aJ (aJ (aJ (aJ rfl rfl (h7 h [124] (sz 's'))) C (h7 _ _ (sz 's'))) rfl (h7 _ [32] (sz 's'))) C (h7 _ _ (sz 's'))))) ?_];rwa[st (no 2 _ _ 'o') (st (no 3 _ _ 'o') (g _ 's'))]
  ·rw[wa m]
   erw[st (no 5 _ _ m) ?_];by_cases o:w=2
   ·rw[la o]
    erw[st (i 2 _ _ o (bW (d:=.str (b++[32]++h)) (aJ (aJ rfl rfl (h7 b [32] (sz 's'))) rfl (h7 _ h (sz 's'))))) ?_];rwa[st (no 3 _ _ 'o') (g _ 's')]
   ·rw[wa o]
    erw[st (no 2 _ _ o) ?_];by_cases p:w=3
    ·rw[la p]
     rwa[st (i 3 _ _ p (bW (d:=.str ([45]++h)) (aJ rfl rfl (h7 [45] h (sz 's'))))) (g _ 's')]
    ·rw[wa p]
     rwa[st (no 3 _ _ p) (g _ 'o')]
def FP{l:T7}(h:∀z∈l,z∈SG):∀z∈l,gd z:=λz hz=>.inl (h z hz)
def jT{a:T7}(ha:∀z∈a,gd z)(c:∀z∈b,gd z):∀z∈a++b,gd z:=λz hz=>(jb.mp hz).elim (ha z) (c z)
def Af(h:gd c):∀z∈[c],gd z:=λz hz=>by rw[ya.mp hz];rwa[h]
def FQ(c k:Int)(l:0<=k)(m:k<1000):v9 (fy c k):=by
 have q:=wg c (show (3:Int)≠0 by decide);have s:=eg c (show (0:Int)<3 by decide);have⟨n,hn⟩:=ag (show 0<=1+c % 3 by omega);delta fy c6;rw[hn,ai];have bl:=Ae c n;have bs:=FP (FL c n);generalize iw c n=b at *;have⟨j,o,p⟩:=Ad l m;generalize (c / 15 % ((b.length:Nat)+1)).toNat=at';have u:=FN (b:=b) (d:=fX (k / 2)) at';have e:∀z∈b.take at'++fX (k / 2)++b.drop at',gd z:=jT (jT (λz hz=>bs z (mf hz)) (FP j)) λz hz=>bs z (uh hz)
 generalize b.take at'++fX (k / 2)++b.drop at'=h at *;have i:∀z∈b.take 3,gd z:=λz hz=>bs z (mf hz)
 have v:(b.take 3).length<=3:=by rw[de];omega
 have a:=Af (c:=124) (.inr (.inr rfl));have f:=Af (c:=32) (.inr 'j');have g:=Af (c:=45) (.inl 'd')
 have r:(∀z∈gU c k b h,gd z)/\(gU c k b h).length<=55/\1<=(gU c k b h).length:=by
  delta gU;split
  ·exact⟨jT (jT e a) bs,by simp;omega,by simp;omega⟩
  ·split
   ·exact⟨jT (jT (jT (jT e a) i) f) i,by simp;omega,by simp;omega⟩
   ·split
    ·exact⟨jT (jT bs f) e,by simp;omega,by simp;omega⟩
    ·split
     ·exact⟨jT g e,by simp;omega,'m'⟩
     ·exact⟨e,'o','o'⟩
 split
 ·exact⟨jT r.1 g,by simp;omega,'m'⟩
 ·exact⟨r.1,'o',r.2.2⟩
def P6(h:v9 l):asc l:=λc a=>P0 (h.g c a)
def P7(h:v9 l):44 ∉ l:=λa=>P1 (h.g 44 a) rfl
theorem Ag:∀{a r:T7},c ∉ a->dA c (a++c::r)=a.length
 |[],r,_=>by simp[dA]
 |x::a,r,h=>by
  have b:¬x=c:=λe=>h (by simp[e])
  have d:=Ag (c:=c) (a:=a) (r:=r) (λz=>h (ia _ z));show (if x=c then 0 else dA c (a++c::r)+1)=a.length+1;rw[wa b,d]
def FR(h:c∈l):l=l.take (dA c l)++c::l.drop (dA c l+1):=by
 have⟨b,_⟩:=uI c l h;have a:=CH c l h;have e:=vd a
 have e2:l[dA c l]=c:=by
  rw[cc a]at b;rwa[md b]
 rw[e2]at e;rw[<-e,oo]
def P8(hl:44 ∉ l)(hm:44 ∉ m)(h:fL l=fL m):l=m:=by
 unfold fL at h;have c:∀{x y:T7},44 ∉ x->124∈y->44 ∉ y->x=y.drop (dA 124 y+1)++[44,32]++y.take (dA 124 y)->False:=λ{x y} d _ _ e=>d (by rw[e];simp)
 by_cases b:124∈l
 ·by_cases a:124∈m
  ·rw[la b,la a]at h
   have i:44 ∉ l.drop (dA 124 l+1):=λz=>hl (uh z)
   have j:44 ∉ m.drop (dA 124 m+1):=λz=>hm (uh z)
   have e1:=Ag (r:=32::l.take (dA 124 l)) i;have e2:=Ag (r:=32::m.take (dA 124 m)) j;have h':l.drop (dA 124 l+1)++44::32::l.take (dA 124 l)=m.drop (dA 124 m+1)++44::32::m.take (dA 124 m):=by simpa using h
   rw[h',e2]at e1;have⟨f,g⟩:=List.append_inj h' e1.symm;have n:l.take (dA 124 l)=m.take (dA 124 m):=by simpa using g
   rw[FR b,FR a,f,n]
  ·rw[la b,wa a]at h
   exact(c hm b hl h.symm).elim
 ·by_cases a:124∈m
  ·rw[wa b,la a]at h
   exact(c hl a hm h).elim
  ·rw[wa b,wa a]at h
   rwa[h]
def dG(l:T7):D:=.tup [.str (Ac l),.str (fL l)]
def P9(a b c d:T7):cz [.str a,.str b] [.str c,.str d]=(decide (a=c) && decide (b=d)):=by
 simp only[cz,yU,ip]
def Qa(hl:44 ∉ l)(hm:44 ∉ m):bI (dG l) (dG m)=decide (l=m):=by
 delta dG;rw[bI,P9];by_cases h:l=m
 ·subst h;simp
 ·have:¬fL l=fL m:=λz=>h (P8 hl hm z)
  simp[h,this]
theorem wd:∀{as bs:List T7},(∀a∈as,44 ∉ a)->(∀b∈bs,44 ∉ b)->cz (as.map dG) (bs.map dG)=decide (as=bs)
 |[],[],_,_=>by simp[cz]
 |[],b::bs,_,_=>by simp[cz]
 |a::as,[],_,_=>by simp[cz]
 |a::as,b::bs,d,f=>by
  simp only[oa,cz];rw[Qa (d a 'm') (f b 'm'),wd (λx c=>d x (by simp[c])) (λx c=>f x (by simp[c]))];by_cases e:a=b <;> simp[e]
theorem Ah:∀(as bs:List T7),cz (as.map D.str) (bs.map D.str)=decide (as=bs)
 |[],[]=>by simp[cz]
 |[],b::bs=>by simp[cz]
 |a::as,[]=>by simp[cz]
 |a::as,b::bs=>by
  simp only[oa,cz];rw[yU,Ah as bs];by_cases e:a=b <;> simp[e]
theorem Ai:∀(as bs:List T7),gw (as.map dG) (bs.map dG)=true
 |[],_=>by simp[gw]
 |_::_,[]=>by simp[gw]
 |a::as,b::bs=>by
  simp only[oa,gw,Ai as bs,ip];delta dG;rw[cV];simp only[gw,cV,rl,ip]
def tw(as:List T7):bO LV (.lst (as.map dG))=true:=by
 show (as.map dG).all (bO 8)=true;rw[cx,ud];intro x _;rfl
def tz(as:List T7):bO LV (.tup (as.map D.str))=true:=by
 show (as.map D.str).all (bO 8)=true;rw[cx,ud];intro x _;rfl
def wh(hs:List T7)(ha:∀h∈hs,asc h/\h.length<=1000)(hn:hs.length<=1000):fW [.tup (hs.map D.str)]=some (.lst (hs.map dG)):=by
 erw[c4 rfl (eI (jw (oE (ds:=hs.map D.str) rfl (by rw[ba];rwa[sz 'o']) ?_)))];rwa[oF D.str dG hs λh a=>⟨_,rfl,rfl,bZ (aO (b6 rfl rfl (PZ h (ha h a).1 (ha h a).2)) (aO (b6 rfl rfl (FI h (ha h a).2)) rfl)) rfl⟩]
def Aj(ns:Ti)(k:Nat):kC [.lst (ns.map D.int),.int (k:Nat)]=some (.int (mV ns k)):=by
 have q:tE (e2 n6 (au 1) (eN bP (aC (au 0) aN))) [sN ns,sh (.int (k:Nat))]=some (decide (((k:Nat):Int)<(ns.length:Nat))):=b8 (aJ rfl (bZ rfl OQ) D1)
 cases a:decide (((k:Nat):Int)<(ns.length:Nat)) with
 |true =>
  rw[a]at q;rwa[c4 rfl (vr ((jv q).trans (eI (aJ rfl rfl (OR (by have:=ic a;omega))))))]
 |false =>
  rw[a]at q;erw[c4 rfl (st ((cY q).trans rfl) (eI ?_))]
  have:mV ns k=0:=by
   delta mV
   have:=of_decide_eq_false a
   rw[bb,kh 'o'];rfl
  rw[this];rfl
structure bA(hs:List T7):Prop where
 g:∀h∈hs,v9 h
 len:hs.length<=6
 pos:1<=hs.length
noncomputable def mj(hs:List T7)(f l:Int)(m:Bool):D:=.tup [.tup (hs.map D.str),.int f,.int l,.bl m]
def qH(d:D):Prop:=∃hs f l m,bA hs/\d=mj hs f l m
theorem bA.asc(h:bA hs):∀l∈hs,asc l/\l.length<=1000:=λl hl=>⟨P6 (h.g l hl),zc (h.g l hl).len 'd'⟩
def bA.nc(h:bA hs):∀l∈hs,44 ∉ l:=λl hl=>P7 (h.g l hl)
def oY(h:bA hs)(f l:Int)(m:Bool):l7 [mj hs f l m]=some (.tup [.lst (hs.map dG),.int f,.int l,.bl m]) :=
 c4 rfl (eI (bZ (aO (b6 (aO (aJ rfl rfl rfl) rfl) rfl (wh hs h.asc (zc h.len 'd'))) (aO (aJ rfl rfl rfl) (aO (aJ rfl rfl rfl) (aO (aJ rfl rfl rfl) rfl)))) rfl))
abbrev tB:D->Prop:=FD λ_=>oU λ_=>zV
def kD:cS tB:=PR λ_=>vW λ_=>FC
def eK(hs:List T7):tB (.lst (hs.map dG)):=⟨_,rfl,FE λd a=>by
 have⟨l,_,rfl⟩:=va.mp a;exact⟨_,rfl,⟨_,rfl⟩,⟨_,rfl⟩,qh⟩⟩
noncomputable def FS:Nat->D->Prop|0=>tB|1=>zT|2=>zT|_=>zU
def Qb:cS (oU FS):=vW λi=>match i with|0=>kD|1=>Fz|2=>Fz|_+3=>FA
def ws(h:bA hs)(g:bA gs)(e:hs.map dG=gs.map dG):hs=gs:=by
 have a:=wd h.nc g.nc;rw[<-e]at a;have⟨ds,e1,e2⟩:=eK hs;have e1:hs.map dG=ds:=D.lst.inj e1;have b:=(vV (C:=λ_=>oU λ_=>zV) (λ_=>vW λ_=>FC) (hs.map dG) (hs.map dG) (by rw[e1];rwa[e2]) (by rw[e1];rwa[e2])).mpr rfl;rw[b]at a;rwa[ic a.symm]
structure qI(F:List D->Option D)(C Gd:D->Prop):Prop where
 T:cS C
 ex:∀d,Gd d->F [d]=some (rk F d)
 cl:∀d,Gd d->C (rk F d)
 dk:∀d,Gd d->bO LV (rk F d)=true
 kb:∀d,Gd d->iT (rk F d)=false/\oJ (rk F d)=true
 inj:∀d e,Gd d->Gd e->rk F d=rk F e->d=e
def Qc:qI l7 (oU FS) qH where
 T:=Qb
 ex:=λd ⟨hs,f,l,m,h,e⟩=>by subst e;rw[gP (oY h f l m)];rwa[oY h f l m]
 cl:=λd ⟨hs,f,l,m,h,e⟩=>by subst e;rw[gP (oY h f l m)];exact⟨_,rfl,eK hs,⟨_,rfl⟩,⟨_,rfl⟩,⟨_,rfl⟩,qh⟩
 dk:=λd ⟨hs,f,l,m,h,e⟩=>by subst e;rw[gP (oY h f l m)];simp[bO,LV,dG]
 kb:=λd ⟨hs,f,l,m,h,e⟩=>by subst e;rw[gP (oY h f l m)];exact⟨rfl,rfl⟩
 inj:=λd e ⟨hs,f,l,m,h,e1⟩ ⟨gs,f',l',m',h',e2⟩ z=>by
  subst e1 e2;rw[gP (oY h f l m),gP (oY h' f' l' m')]at z;have z:=D.tup.inj z;simp only[ym,D.lst.injEq]at z;have⟨z1,z2,z3,z4,_⟩:=z
  have:=ws h h' z1
  subst this;delta mj;rw[z2,z3,z4]
section
variable (R:qI F C Gd)
include R
theorem qI.ltT(hg:∀d∈ks,Gd d):sI (d6 F) ks where
 tr:=λa ha b hb c hc h1 h2=>R.T.tr _ _ _ (R.cl a (hg a ha)) (R.cl b (hg b hb)) (R.cl c (hg c hc)) h1 h2
 tot:=λa ha b hb=>by
  rcases R.T.tot _ _ (R.cl a (hg a ha)) (R.cl b (hg b hb)) with z|z
  ·rwa[.inl (R.inj a b (hg a ha) (hg b hb) z)]
  ·rwa[.inr z]
 as:=λa ha b hb h=>R.T.as _ _ (R.cl a (hg a ha)) (R.cl b (hg b hb)) h
theorem qI.kok(hg:∀d∈ks,Gd d)(nd:ks.Nodup)(sm:ks.length<64):h8 F ks where
 ex:=λd hd=>⟨_,R.ex d (hg d hd),R.dk d (hg d hd)⟩
 kd:=.inr λd hd=>R.kb d (hg d hd)
 ok:=λd hd e he=>R.T.ok _ _ (R.cl d (hg d hd)) (R.cl e (hg e he))
 lt:=R.ltT hg
 nd:=nd
 sm:=⟨.inl 'o','o'⟩
end
def dd(l:List D):List D:=l.foldl dZ []
theorem Ak:∀(l c:List D),c.Nodup->(l.foldl dZ c).Nodup/\∀d,d∈l.foldl dZ c↔d∈c\/d∈l
 |[],c,h=>⟨h,λd=>'m'⟩
 |x::r,c,h=>by
  rw[gk]
  have g:(dZ c x).Nodup/\∀d,d∈dZ c x↔d∈c\/d=x:=by
   delta dZ;split
   ·rename_i f;exact⟨h,λd=>⟨.inl,λz=>z.elim id λe=>by rw[e];rwa[f]⟩⟩
   ·rename_i f;exact⟨jc.mpr ⟨h,'m',λa ha b i e=>f (by rw[ya.mp i]at e;rw[<-e];rwa[ha])⟩,λd=>'m'⟩
  have⟨j,m⟩:=Ak r (dZ c x) g.1;erw[⟨j,λd=>?_⟩];rw[m,g.2,cb,or_assoc]
def lu(l:List D):(dd l).Nodup:=(Ak l [] mh).1
def iY:d∈dd l↔d∈l:=by
 have:=(Ak l [] mh).2 d
 simpa [dd] using this
theorem wt:∀{l m:List D},l.Nodup->(∀d∈l,d∈m)->l.length<=m.length
 |[],m,_,_=>ae _
 |x::r,m,h,hs=>by
  have h':=se.mp h;have⟨c,f,e⟩:=og (hs x da)
  have:=wt (m:=c++f) h'.2 λd b=>by
   have h1:=hs d (ia _ b);rw[e]at h1;have a:d≠x:=λz=>h'.1 (by rw[<-z];rwa[b])
   simp only[jb,cb]at h1 ⊢;rcases h1 with h1|h1|h1
   ·rwa[.inl h1]
   ·rwa[absurd h1 a]
   ·rwa[.inr h1]
  rw[e];simp at this ⊢;omega
def Qd(R:qI F C c)(n:∀d∈l,c d)(h:∀d,d∈l↔d∈m):gA (d6 F) (dd m)=gA (d6 F) (dd l):=by
 have g:∀d∈dd m,c d:=λd e=>n d ((h d).mpr (iY.mp e))
 have i:∀d∈dd l,c d:=λd e=>n d (iY.mp e)
 have T:=R.ltT i;erw[Ez T (lu l) ?_ ?_]
 ·refine(kW _ _).trans ((List.perm_ext_iff_of_nodup (lu m) (lu l)).mpr λd=>?_)
  rw[iY,iY,h]
 ·have j:=R.ltT g
  have up:=y7 j (l:=dd m) (λy o=>o) (lu m);erw[List.Pairwise.imp_of_mem (λ{a b} ha p f=>?_) up];rwa[j.as a ((kW _ _).mem_iff.mp ha) b ((kW _ _).mem_iff.mp p) f]
def Al(hs:List T7):mZ [.tup (hs.map D.str)]=some (.tup (hs.map D.str)):=c4 rfl (eI (bZ (aO (bZ rfl rfl) rfl) rfl))
def wu(ks:List D)(d:D):(dZ ks d).length<=ks.length+1:=by delta dZ;split <;> simp
def Am(hs:List T7):(hs.map D.str).all oK=true:=ud.mpr λd a=>by have⟨l,_,rfl⟩:=va.mp a;rfl
def Qe(hs:List T7)(f l:Int)(m:Bool):fw [2,0,0,1] (mj hs f l m)=true:=by
 simp only[fw,mj,kn,pb,ip];exact⟨Am hs,rfl,rfl,rfl⟩
abbrev tD:D->av->Option av:=gT 4 (bJ (gN 3) (bJ (gN 4) (bJ (gN 5) (bJ (gN 6) dO))))
abbrev tF:GN:=oO [2,0,0,1] (eN cP (aC (a0 1 mZ (aC (ay 3) aN)) (aC (ay 4) (aC (ay 5) (aC (ay 6) aN)))))
def wv{a:av}(c:b d ρ=some ρ1)(e:f ρ1 ks=some (a,ks2)):jA b f (d::r) ρ ks=jA b f r a ks2:=by
 rw[jA,c,lb,e,lb]
def FT(h:fk ρ=some d)(a:fw sg d=true)(b:ks.length<=100000):oO sg fk ρ ks=some (ρ,dZ ks d):=by
 delta oO;rw[h,lb,la ⟨a,b⟩]
theorem FU(a b:Option Sl):∀(h ks:List D) (c g i j:Option Sl),(∀d∈h,qH d)->ks.length+h.length<=100000->∃n o p q,jA tD tF h [a,none,b,c,g,i,j] ks=some ([a,none,b,n,o,p,q],h.foldl dZ ks)
 |[],ks,c,g,i,j,_,_=>⟨c,g,i,j,rfl⟩
 |d::r,ks,c,g,i,j,s,hl=>by
  have⟨hs,f,l,m,_,rfl⟩:=s _ da;rw[zb]at hl;have v:=wu ks (mj hs f l m);have⟨n,o,p,q,u⟩:=FU a b r (dZ ks (mj hs f l m)) (sh (.tup (hs.map D.str))) (sh (.int f)) (sh (.int l)) (sh (.bl m)) (λe he=>s e (ia _ he)) 'o';exact⟨n,o,p,q,(wv rfl (FT (bZ (aO (b6 rfl rfl (Al hs)) (aO rfl (aO rfl (aO rfl rfl)))) rfl) (Qe hs f l m) 'o')).trans u⟩
theorem FV(a:Option Sl):∀(hs:List (List D)) (ks:List D) (b e f g i:Option Sl),(∀d∈hs.flatten,qH d)->ks.length+hs.flatten.length<=100000->∃B m n o p,jA (gN 2) (fU (iE (ay 2)) tD tF) (hs.map D.lst) [a,none,b,e,f,g,i] ks=some ([a,none,B,m,n,o,p],hs.flatten.foldl dZ ks)
 |[],ks,b,e,f,g,i,_,_=>⟨b,e,f,g,i,rfl⟩
 |h::r,ks,b,e,f,g,i,q,hl=>by
  rw[je,ma]at hl
  have z:∀(l c:List D),(l.foldl dZ c).length<=c.length+l.length:=λl=>by
   induction l with
   |nil=>intro c;simp
   |cons x l C=>intro c;rw[gk,zb];have:=C (dZ c x);have:=wu c x;omega
  have A:=z h ks;have⟨m,n,o,p,e1⟩:=FU a (sh (.lst h)) h ks e f g i (λd j=>q d (by rw[je];rwa[ie _ j])) 'o';have⟨s,u,v,w,y,e2⟩:=FV a r (h.foldl dZ ks) (sh (.lst h)) m n o p (λd j=>q d (by rw[je];rwa[gc _ j])) 'o';erw[⟨s,u,v,w,y,?_⟩];rw[oa,je,List.foldl_append,<-e2];erw[wv rfl ?_];show fU (iE (ay 2)) tD tF [a,none,sh (.lst h),e,f,g,i] ks=_;delta fU;rwa[e1]
def Qf{hs:List (List D)}(a:∀d∈hs.flatten,qH d)(hl:hs.flatten.length<=10000)(l:(dd hs.flatten).length<64):vZ [.lst (hs.map D.lst)]=some (gA (d6 l7) (dd hs.flatten)):=by
 have⟨c,f,g,h,i,e⟩:=FV (sh (.lst (hs.map D.lst))) hs [] none none none none none a (by rw[ye];omega);erw[DV rfl ?_];have ok:=Qc.kok (λd b=>a d (iY.mp b)) (lu hs.flatten) l;have j:fU (iE (ay 0)) (gN 2) (fU (iE (ay 2)) tD tF) [sh (.lst (hs.map D.lst)),none,none,none,none,none,none] []=some ([sh (.lst (hs.map D.lst)),none,c,f,g,h,i],dd hs.flatten):=e;show mU 1 (fU (iE (ay 0)) (gN 2) (fU (iE (ay 2)) tD tF)) l7 [sh (.lst (hs.map D.lst)),none,none,none,none,none,none]=_;delta mU;simp only[pd,ue];rw[j];dsimp only;delta kX;rw[la ok]
theorem FW:∀{l:List D},(∀d∈l,bI d d=true)->cz l l=true
 |[],_=>by simp[cz]
 |d::r,h=>by rw[cz,h d da,FW λe he=>h e (ia _ he)];rfl
def An{a:Nat}(ha:b ρ=some ds)(hn:ds.length=a)(c:F ds=some z):iQ a F b ρ=some z:=by delta iQ;rw[ha];show (if ds.length=a then F ds else none)=_;rw[la hn];rwa[c]
section
variable {κ α:Type}[DecidableEq κ]
def eo(a:κ×α)(m:List (κ×α))(k:κ):bN (a::m) k=if a.1=k then some a.2 else bN m k:=by
 delta bN;rw[ig];by_cases h:a.1=k
 ·rw[la h,db h];rfl
 ·rw[wa h,ac h]
def FX{m:List (κ×α)}(h:k ∉ m.map fst):bN m k=none:=by
 induction m with
 |nil=>rfl
 |cons a r b =>
  rw[oa,cb]at h;rw[eo,wa (λz=>h (.inl z.symm)),b λz=>h (.inr z)]
def ww{m:List (κ×α)}(h:k∈m.map fst):∃v,bN m k=some v:=by
 induction m with
 |nil=>simp at h
 |cons a r b =>
  rw[eo];by_cases e:a.1=k
  ·exact⟨_,la e⟩
  ·rw[wa e]
   rw[oa,cb]at h;exact b (h.resolve_left λz=>e z.symm)
def FY(m:List (κ×α))(k:κ):(m.any λb=>decide (b.1=k))=decide (k∈m.map fst):=by
 induction m with
 |nil=>simp
 |cons a r c =>
  rw[yh,c,oa];by_cases e:a.1=k
  ·simp[e]
  ·have e2:¬k=a.1:=λz=>e z.symm
   simp[e,e2]
def oZ{m:List (κ×α)}(v:α)(h:k ∉ m.map fst):fO m k v=m++[(k,v)]:=by
 delta fO;rw[FY,ac h,wa ua]
def wx{m:List (κ×α)}(v:α)(h:k∈m.map fst):fO m k v=m.map λkv=>if kv.1=k then (kv.1,v) else kv:=by
 delta fO;rw[FY,db h,la rfl]
def FZ(m:List (κ×α))(k:κ)(v:α):(fO m k v).map fst=if k∈m.map fst then m.map fst else m.map fst++[k]:=by
 by_cases h:k∈m.map fst
 ·rw[wx v h,la h,pc]
  erw[kg λa _=>?_]
  show (if a.1=k then (a.1,v) else a).1=a.1
  split <;> rfl
 ·rw[oZ v h,wa h,gb];rfl
def F2(m:List (κ×α))(k k':κ)(v:α):bN (fO m k v) k'=if k'=k then some v else bN m k':=by
 by_cases h:k∈m.map fst
 ·rw[wx v h]
  induction m with
  |nil=>simp at h
  |cons a r f =>
   rw[oa,eo,eo];by_cases e:a.1=k
   ·rw[la e]
    by_cases e2:a.1=k'
    ·rw[la e2,la (e2.symm.trans e)]
    ·rw[wa e2,wa e2,wa (λz=>e2 (e.trans z.symm))]
     have:∀l:List (κ×α),¬k'=k->bN (l.map λd=>if d.1=k then (d.1,v) else d) k'=bN l k':=by
      intro l i
      induction l with
      |nil=>rfl
      |cons b l g =>
       rw[oa,eo,eo,g];by_cases c:b.1=k
       ·rw[la c,wa (λz=>i (z.symm.trans c)),wa (λz=>i (z.symm.trans c))]
       ·rw[wa c]
     rwa[this r λz=>e2 (e.trans z.symm)]
   ·rw[wa e]
    rw[oa,cb]at h;by_cases e2:a.1=k'
    ·rw[la e2,wa (λz=>e (e2.trans z)),la e2]
    ·rw[wa e2,wa e2,f (h.resolve_left λz=>e z.symm)]
 ·rw[oZ v h]
  induction m with
  |nil =>
   rw[ze,eo];by_cases e:k=k'
   ·rw[la e,la e.symm]
   ·rw[wa e,wa (λz=>e z.symm)]
  |cons a r f =>
   rw[oa,cb]at h;rw[jf,eo,eo,f λz=>h (.inr z)];by_cases e2:a.1=k'
   ·rw[la e2,la e2,wa (λz=>h (.inl (z.symm.trans e2.symm)))]
   ·rw[wa e2,wa e2]
end
noncomputable def kz(m:T3):List aW:=m.map λp=>Sum.inl p.1
noncomputable def dz(m:T3):List D:=m.map λp=>D.bl p.2
def ml(p:Int×Bool):aW×D:=(Sum.inl p.1,D.bl p.2)
def F3(m:T3):(kz m).zip (dz m)=m.map ml:=by
 induction m with
 |nil=>rfl
 |cons a r b=>show (_::_)=_;rw[oa];rwa[qe _ b]
def F4(m:T3):(m.map ml).map fst=kz m:=by rw[pc];rfl
def Qg(m:T3):(m.map ml).map snd=dz m:=by rw[pc];rfl
def F5(m:T3):kz m=(m.map fst).map Sum.inl:=by rw[pc];rfl
def F6{m:T3}:(Sum.inl k:aW)∈(m.map ml).map fst↔k∈m.map fst:=by
 rw[F4,F5,va];exact⟨λ⟨x,a,b⟩=>by cases b;exact a,λh=>⟨k,h,rfl⟩⟩
def Qh(m:T3)(k:Int):bN (m.map ml) (Sum.inl k)=(bN m k).map D.bl:=by
 induction m with
 |nil=>rfl
 |cons a r b =>
  rw[oa,eo,eo,b];by_cases e:a.1=k
  ·rw[la e,la (by show Sum.inl a.1=Sum.inl k;rw[e])];rfl
  ·rw[wa e,wa (by show ¬Sum.inl a.1=Sum.inl k;rwa[λz=>e (px z)])]
def Qi(m:T3)(k:Int)(b:Bool):fO (m.map ml) (Sum.inl k) (D.bl b)=(fO m k b).map ml:=by
 by_cases h:k∈m.map fst
 ·rw[wx _ (F6.mpr h),wx _ h,pc,pc]
  erw[kg λa _=>?_]
  show (if (Sum.inl a.1:aW)=Sum.inl k then ((Sum.inl a.1:aW),D.bl b) else ml a)=ml (if a.1=k then (a.1,b) else a);by_cases e:a.1=k
  ·rw[la e,la (by rw[e])];rfl
  ·rw[wa e,wa (λz=>e (px z))]
 ·rw[oZ _ (λz=>h (F6.mp z)),oZ _ h,gb];rfl
def F7(m:T3)(k:Int):f8 (.dk (kz m) (dz m)) (.int k)=some ((bN m k).map D.bl):=by
 delta f8;show some (bN ((kz m).zip (dz m)) (Sum.inl k))=_;rw[F3,Qh]
def Qj(h:bN m k=some b):d5 (.dk (kz m) (dz m)) (.int k)=some (.bl b):=by
 delta d5;rw[F7,h];rfl
def Qk(k:Int)(b:Bool)(h:m.length<=100000):kT (.dk (kz m) (dz m)) (.int k) (.bl b)=some (.dk (kz (fO m k b)) (dz (fO m k b))):=by
 delta kT;show (if (kz m).length<sizeLine then some (Sl.dk _ _) else none)=_;rw[la (by delta kz;rw[ba];rwa[mR h]),F3,Qi,F4,Qg]
theorem F8:∀{l m:Ti},l.Nodup->(∀x∈l,x∈m)->l.length<=m.length
 |[],_,_,_=>ae _
 |a::l,m,hn,hs=>by
  have ha:=hs a 'm';have hn:=se.mp hn
  have:=F8 (l:=l) (m:=m.erase a) hn.2 λx b=>(bu (λz:x=a=>hn.1 (z ▸ b))).mpr (hs x (ia _ b))
  rw[wq ha]at this;have c:=ss ha;rw[zb];omega
structure dE(pg:Ti)(m:T3):Prop where
 nd:(m.map fst).Nodup
 sub:∀x∈m.map fst,x∈pg
def dE.len(h:dE pg m):m.length<=pg.length:=by
 have:=F8 h.nd h.sub
 (rw[ba]at this;rwa[this])
def dE.put(h:dE pg m)(c:k∈pg)(b:Bool):dE pg (fO m k b):=by
 constructor
 ·rw[FZ]
  split
  ·rwa[h.nd]
  ·rename_i hn
   exact nodup_append.mpr ⟨h.nd,'m',λ x hx y a z=>by
    rw[ya]at a;subst a z;rwa[hn hx]⟩
 ·rw[FZ]
  split
  ·rwa[h.sub]
  ·intro x hx
   rcases jb.mp hx with hx|hx
   ·rwa[h.sub x hx]
   ·rw[ya.mp hx];rwa[c]
def F9(a:fo ρ=some d)(b:fk ρ=some k)(c:fz ρ=some z)(e:f8 d k=some o):j9 fo fk fz ρ=some (o.getD z):=by
 delta j9;rw[a,b,c];show (f8 d k).map _=_;rw[e];rfl
def Ao{a:Sl}(c:ρ[i]?=some (some sl))(e:b ρ=some d)(f:fk ρ=some k)(g:kT sl k d=some a):kU i fk b ρ=.nx (ρ.set i (some a)):=by
 delta kU;rw[c];dsimp only;rw[e,f];show (match kT sl k d with|some a=>aR.nx (ρ.set i (some a))|none=>aR.bad)=_;rw[g]
def Ql{a:av->Option D}(b:ρ[i]?=some (some (.ow ds)))(c:a ρ=some d)(e:fk ρ=some k)(f:sw ds k d=some ds'):qj i fk a ρ=.nx (ρ.set i (some (.ow ds'))):=by
 delta qj;rw[b];dsimp only;rw[c,e];show (match sw ds k d with|some ds'=>aR.nx (ρ.set i (some (.ow ds')))|none=>aR.bad)=_;rw[f]
abbrev Mk:=Nat×Nat×Bool
noncomputable def m8(p:D)(m:Mk):D:=.tup [p,.int (m.1:Nat),.int (m.2.1:Nat),.bl m.2.2]
def m9(most:Bool)(m:T3)(a:Int):T3:=fO m a (most || (bN m a).getD false)
noncomputable def mt(pg:Ti)(k:Mk):Ti:=(pg.drop k.1).take (k.2.1+1 - k.1)
def lw(pg:Ti)(a:List Mk):T3:=a.foldl (λm k=>(mt pg k).foldl (m9 k.2.2) m) []
def Ap(h:x∈mt pg k):x∈pg:=uh (mf h)
theorem dE.stps:∀{ps:Ti}{m:T3},dE pg m->(∀x∈ps,x∈pg)->dE pg (ps.foldl (m9 most) m)
 |[],_,h,_=>h
 |x::r,m,h,hs=>dE.stps (ps:=r) (h.put (hs x 'm') _) λy a=>hs y (ia _ a)
theorem Ga(pg:Ti):∀(a:List Mk) (m:T3),dE pg m->dE pg (a.foldl (λm k=>(mt pg k).foldl (m9 k.2.2) m) m)
 |[],_,h=>h
 |k::r,m,h=>Ga pg r _ (h.stps λ_ b=>Ap b)
def Qm(pg:Ti)(a:List Mk):dE pg (lw pg a):=Ga pg a [] ⟨mh,λx b=>by simp at b⟩
def Gb:av->aR:=kU 2 (au 7) (eT (cN (tE (ay 6)) (tE (j9 (au 2) (au 7) (eC (.bl false))))))
theorem Gc(h:pg.length<=1000)(a b c d e:Option Sl)(most:Bool):∀(ps:Ti) (m:T3) (z:Option Sl),dE pg m->(∀x∈ps,x∈pg) →
  ∃f,eH (gN 7) Gb (ps.map D.int) [a,b,some (.dk (kz m) (dz m)),c,d,e,sh (.bl most),z]=.nx [a,b,some (.dk (kz (ps.foldl (m9 most) m)) (dz (ps.foldl (m9 most) m))),c,d,e,sh (.bl most),f]
 |[],m,z,_,_=>⟨z,rfl⟩
 |x::r,m,z,hm,hs=>by
  have⟨f,j⟩:=Gc h a b c d e most r (m9 most m x) (sh (.int x)) (hm.put (hs x 'm') _) λy i=>hs y (ia _ i)
  erw[⟨f,?_⟩];rw[oa,gk,<-j];erw[k4 rfl ?_];have hl:m.length<=100000:=zc hm.len 'o'
  have g:tE (j9 (au 2) (au 7) (eC (.bl false))) [a,b,some (.dk (kz m) (dz m)),c,d,e,sh (.bl most),sh (.int x)]=some ((bN m x).getD false):=by
   erw[b8 ((F9 (z:=.bl false) rfl rfl rfl (F7 m x)).trans ?_)]
   cases bN m x <;> rfl
  have l:eT (cN (tE (ay 6)) (tE (j9 (au 2) (au 7) (eC (.bl false))))) [a,b,some (.dk (kz m) (dz m)),c,d,e,sh (.bl most),sh (.int x)]=some (.bl (most || (bN m x).getD false)):=by
   erw[yP ?_]
   cases most with
   |true=>rwa[DW rfl]
   |false=>rwa[mM rfl g]
  exact(Ao rfl l rfl (Qk x _ hl)).trans rfl
def Qn:av->aR:=en (iE (cv (au 0) (oS (au 4)) (oS (e2 bG (au 5) (eC (.int 1)))))) (gN 7) Gb
theorem Ge(g:pg.length<=1000)(p:D)(b:Option Sl):∀(a:List Mk) (m:T3) (c d e f z:Option Sl),dE pg m->(∀k∈a,k.1<=k.2.1) →
  ∃i d' l n o,eH (gT 4 (bJ (gN 3) (bJ (gN 4) (bJ (gN 5) (bJ (gN 6) dO))))) Qn (a.map (m8 p)) [sN pg,b,some (.dk (kz m) (dz m)),c,d,e,f,z] =
   .nx [sN pg,b,some (.dk (kz (a.foldl (λm k=>(mt pg k).foldl (m9 k.2.2) m) m)) (dz (a.foldl (λm k=>(mt pg k).foldl (m9 k.2.2) m) m))),i,d',l,n,o]
 |[],m,c,d,e,f,z,_,_=>⟨c,d,e,f,z,rfl⟩
 |k::r,m,c,d,e,f,z,hm,q=>by
  have⟨u,v⟩:=Gc g (sN pg) b (sh p) (sh (.int (k.1:Nat))) (sh (.int (k.2.1:Nat))) k.2.2 (mt pg k) m z hm λx h=>Ap h
  have⟨i,d',l,n,o,w⟩:=Ge g p b r _ (sh p) (sh (.int (k.1:Nat))) (sh (.int (k.2.1:Nat))) (sh (.bl k.2.2)) u (hm.stps (most:=k.2.2) λx h=>Ap h) λj s=>q j (ia _ s)
  erw[⟨i,d',l,n,o,?_⟩];rw[oa,gk,<-w];erw[k4 (ρ1:=[sN pg,b,some (.dk (kz m) (dz m)),sh p,sh (.int (k.1:Nat)),sh (.int (k.2.1:Nat)),sh (.bl k.2.2),z]) rfl ?_];erw[kP (ds:=(mt pg k).map D.int) (p7 (d:=.lst ((mt pg k).map D.int)) ?_ rfl) v]
  have y:dN (pg.map D.int) (some ((k.1:Nat):Int)) (some ((k.2.1:Nat)+1:Int))=(mt pg k).map D.int:=by
   have A:((k.2.1:Nat)+1:Int)=((k.2.1+1:Nat):Int):=by omega
   rw[A,p9,D5 _ _ _ (by have:=q k 'm';omega)];rfl
  show (jN (.lst (pg.map D.int)) (some ((k.1:Nat):Int)) (some ((k.2.1:Nat)+1:Int)))=_;delta jN;dsimp only;rw[y]
def Qo(b:pg.length<=1000)(p:D)(a:List Mk)(i:∀k∈a,k.1<=k.2.1):z6 [.lst (pg.map D.int),.lst (a.map (m8 p))]=some (.dk (kz (lw pg a)) (dz (lw pg a))):=by
 have⟨c,d,e,f,z,h⟩:=Ge b p (sh (.lst (a.map (m8 p)))) a [] none none none none none ⟨mh,λx g=>by simp at g⟩ i;rwa[c4 rfl (st rfl (st (kP (p7 rfl rfl) h) rfl))]
abbrev Td:=Int×Int×Bool
noncomputable def dH(t:Td):D:=.tup [.int t.1,.int t.2.1,.bl t.2.2]
def Qp(t:Td)(a:Int)(s:Bool):s9 [dH t,.int a,.bl s]=some (.bl (decide (t.2.1+1=a) && (t.2.2 == s))):=by
 erw[c4 rfl (eI (yP ?_))];have b:tE (e2 cQ (e2 bG (e2 aS (au 0) (eC (.int 1))) (eC (.int 1))) (au 1)) (dW 3 [dH t,.int a,.bl s])=some (decide (t.2.1+1=a)):=b8 (aJ (d:=.int (t.2.1+1)) rfl rfl (lX mQ));have c:tE (e2 cQ (e2 aS (au 0) (eC (.int 2))) (au 2)) (dW 3 [dH t,.int a,.bl s])=some (t.2.2 == s):=b8 (aJ (d:=.bl t.2.2) rfl rfl (lX NJ))
 cases h:decide (t.2.1+1=a) with
 |false=>rw[h]at b;rwa[mO b]
 |true=>rw[h]at b;rwa[kQ b c]
def Aq:av->aR:=bS (cH (tE (e2 fE (eN bP (aC (au 3) aN)) (eC (.int 0)))) (tE (a0 3 s9 (aC (e2 aS (au 3) (e1 cR (eC (.int 1)))) (aC (ay 4) (aC (e2 d5 (au 2) (au 4)) aN)))))) (qj 3 (e1 cR (eC (.int 1))) (eN cP (aC (e2 aS (e2 aS (au 3) (e1 cR (eC (.int 1)))) (eC (.int 0))) (aC (ay 4) (aC (e2 d5 (au 2) (au 4)) aN))))) (dP 3 (eN cP (aC (ay 4) (aC (ay 4) (aC (e2 d5 (au 2) (au 4)) aN)))))
def nu{a:Type}(l:List a)(x:a):d1 (l++[x]) (-1)=some x:=by
 delta d1
 have e:iG (l++[x]).length (-1)=some l.length:=by
  delta iG;rw[wa 'o',la 's']
  congr 1
  simp;omega
 rw[e];show (l++[x])[l.length]?=_;simp
def Qq(l:List D)(x d:D):sw (l++[x]) (.int (-1)) d=some (l++[d]):=by
 delta sw
 have e:iG (l++[x]).length (-1)=some l.length:=by
  delta iG;rw[wa 'o',la 's']
  congr 1
  simp;omega
 show (iG (l++[x]).length (-1)).map _=_;rw[e];show some ((l++[x]).set l.length d)=_
 congr 1
 simp
theorem Gf(n k:Option Sl):∀(r:Ti) (l:List Td) (z:Option Sl),(∀x∈r,∃s,bN m x=some s)->l.length+r.length<=5000 →
  ∃(l':List Td) (j:Option Sl),eH (gN 4) Aq (r.map D.int) [n,k,sh (.dk (kz m) (dz m)),some (.ow (l.map dH)),z]=.nx [n,k,sh (.dk (kz m) (dz m)),some (.ow (l'.map dH)),j]
 |[],l,z,_,_=>⟨l,z,rfl⟩
 |page::r,l,z,q,hl=>by
  have⟨s,hs⟩:=q page da;have a:d5 (.dk (kz m) (dz m)) (.int page)=some (.bl s):=Qj hs;rw[zb]at hl
  have f:∀{l':List Td},l'.length<=l.length+1->Aq [n,k,sh (.dk (kz m) (dz m)),some (.ow (l.map dH)),sh (.int page)]=.nx [n,k,sh (.dk (kz m) (dz m)),some (.ow (l'.map dH)),sh (.int page)]->∃(l':List Td) (j:Option Sl),eH (gN 4) Aq ((page::r).map D.int) [n,k,sh (.dk (kz m) (dz m)),some (.ow (l.map dH)),z]=.nx [n,k,sh (.dk (kz m) (dz m)),some (.ow (l'.map dH)),j]:=λ{l'} h e=>by
   have⟨v,w,y⟩:=Gf n k r l' (sh (.int page)) (λx u=>q x (ia _ u)) 'o';exact⟨v,w,by rw[<-y];rwa[k4 rfl e]⟩
  have ap:dP 3 (eN cP (aC (ay 4) (aC (ay 4) (aC (e2 d5 (au 2) (au 4)) aN)))) [n,k,sh (.dk (kz m) (dz m)),some (.ow (l.map dH)),sh (.int page)]=.nx [n,k,sh (.dk (kz m) (dz m)),some (.ow ((l++[(page,page,s)]).map dH)),sh (.int page)]:=by
   rw[gb];exact(oP (ds:=l.map dH) (d:=dH (page,page,s)) rfl (bZ (aO rfl (aO rfl (aO (aJ rfl rfl a) rfl))) rfl) (by rw[ba];omega)).trans rfl
  rcases List.eq_nil_or_concat l with e|⟨i,t,e⟩ <;> (try rw[List.concat_eq_append]at e) <;> subst e
  ·rwa[f 'm' ((cY (mO (b8 (aJ (bZ rfl rfl) rfl oG)))).trans ap)]
  ·have g:∀x:Td,(i++[x]).map dH=i.map dH++[dH x]:=λx=>by rw[gb];rfl
   have b:d1 ((i++[t]).map dH) (-1)=some (dH t):=by rw[g];rwa[nu _ _]
   have o:tE (e2 fE (eN bP (aC (au 3) aN)) (eC (.int 0))) [n,k,sh (.dk (kz m) (dz m)),some (.ow ((i++[t]).map dH)),sh (.int page)]=some true:=by
    refine(b8 (aJ (bZ (z:=.int ((i++[t]).map dH).length) rfl rfl) rfl oG)).trans ?_;rw[db (by rw[ba,ma,nb];omega)]
   have c:tE (a0 3 s9 (aC (e2 aS (au 3) (e1 cR (eC (.int 1)))) (aC (ay 4) (aC (e2 d5 (au 2) (au 4)) aN)))) [n,k,sh (.dk (kz m) (dz m)),some (.ow ((i++[t]).map dH)),sh (.int page)]=some (decide (t.2.1+1=page) && (t.2.2 == s)) :=
    b8 (b6 (aO (aJ rfl rfl b) (aO rfl (aO (aJ rfl rfl a) rfl))) rfl (Qp t page s))
   cases p:decide (t.2.1+1=page) && (t.2.2 == s) with
   |true =>
    rw[p]at c;erw[f (l':=i++[(t.1,page,s)]) 'm' ((jv (kQ o c)).trans ((Ql (ds':=(i++[(t.1,page,s)]).map dH) rfl (bZ (aO (aJ (aJ rfl rfl b) rfl rfl) (aO rfl (aO (aJ rfl rfl a) rfl))) rfl) rfl ?_).trans rfl))];rw[g,g];rwa[Qq _ _ _]
   |false =>
    rw[p]at c;rwa[f 'm' ((cY (kQ o c)).trans ap)]
def Qr{pg:Ti}(e:pg.length<=62)(p:D)(a:List Mk)(f:∀k∈a,k.1<=k.2.1):∃b:List Td,v0 [.lst (pg.map D.int),.lst (a.map (m8 p))]=some (.lst (b.map dH)):=by
 have hl:=(Qm pg a).len;have sp:=vy ((lw pg a).map fst);have⟨b,z,h⟩:=Gf (m:=lw pg a) (sN pg) (sh (.lst (a.map (m8 p)))) (l3 ((lw pg a).map fst)) [] none (λx c=>ww (sp.mem_iff.mp c)) (by rw[sp.length_eq,ba,ye];omega);erw[⟨b,c4 rfl (st (bW (b6 rfl rfl (Qo 'o' p a f))) (st rfl (st (kP (p7 (d:=.lst ((l3 ((lw pg a).map fst)).map D.int)) (jw ?_) rfl) h) rfl)))⟩];show sk [.dk (kz (lw pg a)) (dz (lw pg a))]=_;delta sk;dsimp only;rw[F5,NZ];show (if ((lw pg a).map fst).length<64 then some _ else none)=_;rw[la (by rw[ba];omega)]
abbrev aD:=List T7
abbrev M4:=aD×Nat×Nat×Bool
def bL(x:M4):D:=mj x.1 ((x.2.1:Nat):Int) ((x.2.2.1:Nat):Int) x.2.2.2
structure nv(n:Nat)(x:M4):Prop where
 p:bA x.1
 lo:x.2.1<=x.2.2.1
 hi:x.2.2.1<n
def Qs(h:nv n x):vY [bL x,.int (n:Nat)]=some (.bl true):=by
 erw[c4 rfl (eI ?_)];have a:=h.lo;have b:=h.hi;refine(OF (x:=.int 0) (y:=.int ((x.2.1:Nat):Int)) (z:=.int ((x.2.2.1:Nat):Int)) (w:=.int (n:Nat)) rfl (aJ rfl rfl rfl) D2 (λ_=>aJ rfl rfl rfl) (λ_=>D2) (λ_ _=>rfl) (λ_ _=>rfl)).trans ?_;rw[db (show (0:Int)<=((x.2.1:Nat):Int) by omega),db (show ((x.2.1:Nat):Int)<=((x.2.2.1:Nat):Int) by omega),db (show ((x.2.2.1:Nat):Int)<((n:Nat):Int) by omega)];rfl
def Gg{a:Nat}(hl:ds.length=a)(h:f (dW n ds)=.nx ρ):bU a n f ds=some .non:=by delta bU;rw[la hl,h]
def Qt{os:List M4}(h:∀x∈os,nv n x):z8 [.lst (os.map bL),.int (n:Nat)]=some .non:=by
 have c:∀(r:List M4) (a z:Option Sl),(∀x∈r,nv n x)->∃y,eH (gN 2) (bS (cO (tE (a0 2 vY (aC (ay 2) (aC (ay 1) aN))))) ku cC) (r.map bL) [a,sh (.int (n:Nat)),z]=.nx [a,sh (.int (n:Nat)),y]:=by
  intro r
  induction r with
  |nil=>intro a z _;exact⟨z,rfl⟩
  |cons x r g =>
   intro a z d;have⟨y,e⟩:=g a (sh (bL x)) λw f=>d w (ia _ f)
   erw[⟨y,?_⟩];rw[oa,<-e];rwa[k4 rfl ((cY (lY (b:=true) (b8 (b6 rfl rfl (Qs (d x da)))))).trans rfl)]
 have⟨y,e⟩:=c os (sh (.lst (os.map bL))) none h;rwa[Gg rfl (kP rfl e)]
def Qu(h:bA x.1):qH (bL x):=⟨_,_,_,_,h,rfl⟩
theorem Ar{a b:Type}{f:a->b}{ms:List a}:∀(l:List b),(∀d∈l,d∈ms.map f)->∃os:List a,l=os.map f/\∀x∈os,x∈ms
 |[],_=>⟨[],rfl,λx c=>by cases c⟩
 |d::r,h=>by
  have⟨x,g,i⟩:=va.mp (h d da);have⟨os,j,m⟩:=Ar r λe he=>h e (ia _ he)
  erw[⟨x::os,by rw[oa,i,<-j],λy hy=>?_⟩];rcases cb.mp hy with rfl|hy
  ·rwa[g]
  ·rwa[m y hy]
def Qv(h:∀x∈ms,bA x.1)(hl:ms.length<=60):∃os:List M4,vZ [.lst [.lst (ms.map bL)]]=some (os.map bL)/\(∀x∈os,x∈ms)/\os.length<=ms.length/\(ms≠[]->os≠[]):=by
 have n:∀d∈[ms.map bL].flatten,qH d:=λd a=>by
  rw[je,ur,jd]at a;have⟨x,c,rfl⟩:=va.mp a;rwa[Qu (h x c)]
 have b:[ms.map bL].flatten=ms.map bL:=by rw[je,ur,jd]
 have a:(dd [ms.map bL].flatten).length<=ms.length:=by
  have:=wt (lu [ms.map bL].flatten) λd a=>iY.mp a
  rw[b,ba]at this;rw[b];rwa[this]
 have e:=Qf (hs:=[ms.map bL]) n (by rw[b,ba];omega) 'o';have l:=kW (d6 l7) (dd [ms.map bL].flatten)
 have⟨os,j,m⟩:=Ar (f:=bL) (ms:=ms) (gA (d6 l7) (dd [ms.map bL].flatten)) λd a=>by
  have:=iY.mp (l.mem_iff.mp a)
  rw[b]at this;rwa[this]
 erw[⟨os,by rw[<-j];exact e,m,?_,λg i=>?_⟩]
 ·have:=qe length j
  rw[l.length_eq,ba]at this;omega
 ·have⟨x,r,rfl⟩:=im g
  have c:bL x∈gA (d6 l7) (dd [(x::r).map bL].flatten):=l.mem_iff.mpr (iY.mpr (by rw[b];rwa[va.mpr ⟨x,da,rfl⟩]));rw[j,i]at c;cases c
abbrev pD(p:aD):D:=.tup (p.map D.str)
def pK(p:aD):List aW:=p.map λl=>Sum.inr (S l)
def xU(h:S i=S j):i=j:=FB (show D.str i=D.str j by delta D.str;rw[h])
theorem o0:∀{p q:aD},pK p=pK q->p=q
 |[],[],_=>rfl
 |a::p,b::q,h=>by
  have h:(Sum.inr (S a):aW)::pK p=Sum.inr (S b)::pK q:=h;have⟨c,d⟩:=ef h;rw[xU (Sum.inr.inj c),o0 d]
 |[],_::_,h=>by cases h
 |_::_,[],h=>by cases h
theorem Gh:∀p:aD,nX (p.map D.str)=some (pK p)
 |[]=>rfl
 |a::p=>by
  rw[oa,nX,Gh p];rfl
def mu(p:aD):kL (pD p)=some (pK p):=Gh p
def As(h:pD p=pD q):p=q:=by
 have a:=mu p;rw[h,mu]at a;rwa[o0 (md a.symm)]
def Qw(p:aD):jC (pK p)=pD p:=by
 delta jC pK;rw[pc];rfl
theorem Au{c d:Type}(b:c->d)(p:aD):∀m:List (aD×c),bN (m.map λe=>(pK e.1,b e.2)) (pK p)=(bN m p).map b
 |[]=>rfl
 |a::m=>by
  rw[oa,eo,eo,Au b p m];by_cases e:a.1=p
  ·rw[la e,la (by rw[e])];rfl
  ·rw[wa e,wa (λz=>e (o0 z))]
theorem wy{c:Type}(b:c->D):∀m:List (aD×c),(m.map λe=>pK e.1).zip (m.map λe=>b e.2)=m.map λe=>(pK e.1,b e.2)
 |[]=>rfl
 |a::m=>by rw[oa,oa,ph,wy b m,oa]
def Av{b:Type}(a:b->D)(m:List (aD×b))(p:aD):f8 (.dt (m.map λe=>pK e.1) (m.map λe=>a e.2)) (pD p)=some ((bN m p).map a):=by
 delta f8;show (kL (pD p)).map _=_;rw[mu,zf,wy,Au]
theorem qJ{g:Type}:∀{l m:List g},l.Nodup->(∀d∈l,d∈m)->l.length<=m.length
 |[],m,_,_=>ae _
 |x::r,m,h,hs=>by
  have h':=se.mp h;have⟨c,f,e⟩:=og (hs x da)
  have:=qJ (m:=c++f) h'.2 λd b=>by
   have h1:=hs d (ia _ b);rw[e]at h1;have a:d≠x:=λz=>h'.1 (by rw[<-z];rwa[b])
   simp only[jb,cb]at h1 ⊢;rcases h1 with h1|h1|h1
   ·rwa[.inl h1]
   ·rwa[absurd h1 a]
   ·rwa[.inr h1]
  rw[e];simp at this ⊢;omega
noncomputable def jU(ms:List M4):List aD:=ms.flatMap λx=>(range x.1.length).map λk=>x.1.take (k+1)
def Gi(a:x∈ms)(b:1<=k)(c:k<=x.1.length):x.1.take k∈jU ms :=
 wr.mpr ⟨x,a,va.mpr ⟨k - 1,uf.mpr 'o',by rw[show k - 1+1=k by omega]⟩⟩
def Gj(h:∀x∈ms,bA x.1)(e:p∈jU ms):bA p:=by
 have⟨x,c,d⟩:=wr.mp e;have⟨k,a,rfl⟩:=va.mp d;have g:=h x c;have a:=uf.mp a
 have:=g.len
 exact⟨λy b=>g.g y (mf b),by rw[de];omega,by rw[de];omega⟩
theorem Aw:∀{ms:List M4},(∀x∈ms,bA x.1)->(jU ms).length<=6 * ms.length
 |[],_=>ae _
 |x::ms,h=>by
  have b:=Aw (ms:=ms) λy a=>h y (ia _ a)
  have:=(h x da).len
  unfold jU at b ⊢;rw[List.flatMap_cons,ma,ba,bh,zb];omega
def gE(e:aD×List M4):List aW×List D:=(pK e.1,e.2.map bL)
structure MI(ms:List M4)(N:Nat)(m:List (aD×List M4)):Prop where
 nd:(m.map fst).Nodup
 sub:∀e∈m,e.1∈jU ms
 mm:∀e∈m,∀x∈e.2,x.1=e.1/\x∈ms
 ln:∀e∈m,e.2.length<=N
def MI.len(h:MI ms N m)(b:∀x∈ms,bA x.1):m.length<=6 * ms.length:=by
 have:=qJ h.nd (m:=jU ms) λp a=>by
  have⟨e,he,rfl⟩:=va.mp a;rwa[h.sub e he]
 rw[ba]at this;rwa[zc this (Aw b)]
def sd(m:List (aD×List M4))(p:aD):List (aD×List M4):=if (bN m p).isSome=true then m else m++[(p,[])]
def Gk(m:List (aD×List M4))(p:aD):fK (m.map gE) (pK p)=(sd m p).map gE:=by
 delta fK sd
 have:bN (m.map gE) (pK p)=(bN m p).map (map bL):=Au (map bL) p m
 rw[this,ci];split
 ·rfl
 ·rw[gb];rfl
def Ax{a:Type}{m:List (aD×a)}:(bN m p).isSome=true↔p∈m.map fst:=by
 constructor
 ·intro h
  erw[ck λz=>?_]
  rw[FX z]at h;cases h
 ·intro h
  have⟨v,e⟩:=ww h;rw[e];rfl
theorem MI.sd(h:MI ms N m)(f:p∈jU ms):MI ms N (K21.sd m p)/\p∈(K21.sd m p).map fst:=by
 delta K21.sd;split
 ·rename_i hs
  exact⟨h,Ax.mp hs⟩
 ·rename_i hs
  have hn:p ∉ m.map fst:=λz=>hs (Ax.mpr z)
  erw[⟨⟨?_,λe he=>?_,λe he=>?_,λe he=>?_⟩,'m'⟩]
  ·rw[gb]
   exact nodup_append.mpr ⟨h.nd,'m',λ a ha b c z=>hn (by
    have:b=p:=by simpa using c
    rw[<-this,<-z];rwa[ha])⟩
  ·rcases jb.mp he with he|he
   ·rwa[h.sub e he]
   ·rw[ya.mp he];rwa[f]
  ·rcases jb.mp he with he|he
   ·rwa[h.mm e he]
   ·rw[ya.mp he];intro x d;cases d
  ·rcases jb.mp he with he|he
   ·rwa[h.ln e he]
   ·rw[ya.mp he];rwa[ae _]
noncomputable def ap(p:aD)(x:M4):List (aD×List M4)->List (aD×List M4)
 |[]=>[]
 |e::r=>if e.1=p then (e.1,e.2++[x])::r else e::ap p x r
theorem Gm(p:aD)(x:M4):∀m:List (aD×List M4),iX (pK p) (bL x) (m.map gE)=(ap p x m).map gE
 |[]=>rfl
 |e::r=>by
  rw[oa,iX,ap];by_cases h:e.1=p
  ·rw[la h,la (show (gE e).1=pK p by rw[<-h];rfl),oa]
   erw[qe (·::_) ?_];show (pK e.1,e.2.map bL++[bL x])=(pK e.1,(e.2++[x]).map bL);rw[gb];rfl
  ·rw[wa h,wa (show ¬(gE e).1=pK p from λz=>h (o0 z)),oa,Gm p x r]
theorem Ay(p:aD)(x:M4):∀m:List (aD×List M4),(ap p x m).map fst=m.map fst
 |[]=>rfl
 |e::r=>by
  rw[ap];split
  ·rfl
  ·rw[oa,oa,Ay p x r]
theorem wz:∀{m:List (aD×List M4)},e∈ap p x m->e∈m\/∃f∈m,f.1=p/\e=(f.1,f.2++[x])
 |[],h=>by cases h
 |f::r,h=>by
  rw[ap]at h
  split at h
  ·rename_i a
   rcases cb.mp h with rfl|h
   ·rwa[.inr ⟨f,da,a,rfl⟩]
   ·rwa[.inl (ia _ h)]
  ·rcases cb.mp h with rfl|h
   ·rwa[.inl da]
   ·rcases wz h with h|⟨g,b,c⟩
    ·rwa[.inl (ia _ h)]
    ·rwa[.inr ⟨g,ia _ b,c⟩]
theorem MI.ap(h:MI ms N m)(hx:x∈ms):MI ms (N+1) (K21.ap x.1 x m) where
 nd:=by rw[Ay];rwa[h.nd]
 sub:=λe he=>by
  rcases wz he with he|⟨f,h1,_,rfl⟩
  ·rwa[h.sub e he]
  ·rwa[h.sub f h1]
 mm:=λe he y hy=>by
  rcases wz he with he|⟨f,h1,h2,rfl⟩
  ·rwa[h.mm e he y hy]
  ·rcases jb.mp hy with hy|hy
   ·rwa[h.mm f h1 y hy]
   ·rw[ya.mp hy];exact⟨h2.symm,hx⟩
 ln:=λe he=>by
  rcases wz he with he|⟨f,h1,_,rfl⟩
  ·rwa[rq (h.ln e he)]
  ·have:=h.ln f h1
   show (f.2++[x]).length<=_;rw[ma,nb];omega
def Az{a:D->av->Option av}{gd:GD}{z:av×GD}(b:a d ρ=some ρ1)(c:f ρ1 gd=some z):jR a f (d::r) ρ gd=jR a f r z.1 z.2:=by
 rw[jR,b,lb,c,lb]
def Qx(h:fk ρ=some (pD p))(hl:m.length<100000):oR fk ρ (m.map gE)=some (ρ,(sd m p).map gE):=by
 delta oR;rw[h,lb,mu,lb,la (by rw[ba];rwa[hl]),Gk]
def Qy{a:av->Option D}(h:fk ρ=some (pD p))(d:a ρ=some (bL x))(hl:m.length<100000)(hn:∀e∈m,e.2.length<100000):jQ fk a ρ (m.map gE)=some (ρ,(ap p x (sd m p)).map gE):=by
 delta jQ
 have c:(m.map gE).length<100000/\((m.map gE).all λx=>decide (x.2.length<100000))=true:=by
  erw[⟨by rw[ba];exact hl,ud.mpr λy b=>?_⟩];have⟨e,he,rfl⟩:=va.mp b;erw[db ?_];show (e.2.map bL).length<_;rw[ba];rwa[hn e he]
 rw[h,lb,mu,lb,d,lb,la c,kw,Gk,Gm]
abbrev Gn:av->Option D:=cv (au 3) oN (oS (au 4))
theorem Go(d:∀x∈ms,bA x.1)(hm:ms.length<=60)(f:x∈ms)(a b:Option Sl):∀(n k:Nat) (m:List (aD×List M4)) (z:Option Sl),1<=k->k+n<=x.1.length->MI ms N m →
  ∃c y,jR (gN 4) (oR Gn) (e6 ((k:Nat):Int) n) [a,none,b,sh (pD x.1),z] (m.map gE)=some ([a,none,b,sh (pD x.1),y],c.map gE)/\MI ms N c
 |0,k,m,z,_,_,h=>⟨m,z,rfl,h⟩
 |n+1,k,m,z,j,l,h=>by
  have i:=(h.sd (Gi f j 'o')).1;have⟨c,y,e,g⟩:=Go d hm f a b n (k+1) (sd m (x.1.take k)) (sh (.int (k:Nat))) 'o' 'o' i;erw[⟨c,y,?_,g⟩];rw[ti,<-e]
  have hs:Gn [a,none,b,sh (pD x.1),sh (.int (k:Nat))]=some (pD (x.1.take k)):=by
   show some (D.tup (dN (x.1.map D.str) none (some ((k:Nat):Int))))=_;rw[vv,<-xq]
  have:=h.len d
  rwa[Az rfl (Qx hs 'o')]
def tG:GG:=(qB (vG 3 (e2 aS (au 2) (eC (.int 0))))
  (qB (kx (iR mF (aC (eC (.int 1)) (aC (eN bP (aC (au 3) aN)) aN))) (gN 4) (oR (cv (au 3) oN (oS (au 4)))))
  (jQ (au 3) (ay 2))))
theorem Gp(j:∀x∈ms,bA x.1)(hm:ms.length<=60)(a:Option Sl):∀(os:List M4) (m:List (aD×List M4)) (N:Nat) (n g b:Option Sl),(∀x∈os,x∈ms)->N+os.length<=1000->MI ms N m →
  ∃f ρ',jR (gN 2) tG (os.map bL) [a,none,n,g,b] (m.map gE)=some (ρ',f.map gE)/\MI ms (N+os.length) f/\(m≠[]\/os≠[]->f≠[])
 |[],m,N,n,g,b,_,_,h=>⟨m,_,rfl,h,λz=>z.resolve_right λz=>z rfl⟩
 |x::os,m,N,n,g,b,hs,B,h=>by
  rw[zb]at B;have i:=hs x da;have gx:=j x i;have C:=gx.len;have gp:=gx.pos;have⟨c,y,e1,l⟩:=Go j hm i a (sh (bL x)) (x.1.length - 1) 1 m b (ib _) 'o' h
  have s:x.1∈jU ms:=by
   have:=Gi i gp (ib _)
   (rw[List.take_length]at this;rwa[this])
  have⟨p,d⟩:=l.sd s;have⟨f,ρ',e,q,r⟩:=Gp j hm a os (ap x.1 x (sd c x.1)) (N+1) (sh (bL x)) (sh (pD x.1)) y (λy o=>hs y (ia _ o)) 'o' (p.ap i);erw[⟨f,ρ',?_,by rw[zb,show N+(os.length+1)=N+1+os.length by omega];exact q,λ_=>r (.inl λz=>by rw[<-Ay x.1 x,z]at d;cases d)⟩];rw[oa,<-e];erw[Az (ρ1:=[a,none,sh (bL x),g,b]) (z:=([a,none,sh (bL x),sh (pD x.1),y],(ap x.1 x (sd c x.1)).map gE)) rfl ?_];have u:vG 3 (e2 aS (au 2) (eC (.int 0))) [a,none,sh (bL x),g,b] (m.map gE)=some ([a,none,sh (bL x),sh (pD x.1),b],m.map gE):=rfl
  have v:iR mF (aC (eC (.int 1)) (aC (eN bP (aC (au 3) aN)) aN)) [a,none,sh (bL x),sh (pD x.1),b]=some (e6 ((1:Nat):Int) (x.1.length - 1)):=by
   erw[oC (ds:=[.int 1,.int ((x.1.length:Nat):Int)]) (aO rfl (aO (bZ rfl ?_) rfl)) ?_]
   ·show some (D.int (((x.1.map D.str).length:Nat):Int))=_
    rw[ba]
   ·refine(NM 'd' 'd' 'o' 'o').trans ?_
    rw[show (((x.1.length:Nat):Int) - 1).toNat=x.1.length - 1 by omega];rfl
  have w:kx (iR mF (aC (eC (.int 1)) (aC (eN bP (aC (au 3) aN)) aN))) (gN 4) (oR (cv (au 3) oN (oS (au 4)))) [a,none,sh (bL x),sh (pD x.1),b] (m.map gE)=some ([a,none,sh (bL x),sh (pD x.1),y],c.map gE):=by
   delta kx;rw[v,lb];rwa[e1]
  have A:jQ (au 3) (ay 2) [a,none,sh (bL x),sh (pD x.1),y] (c.map gE)=some ([a,none,sh (bL x),sh (pD x.1),y],(ap x.1 x (sd c x.1)).map gE):=by
   have:=l.len j
   exact Qy rfl rfl 'o' λe he=>by have:=l.ln e he;omega
  show tG _ _=_;delta tG qB;rw[u,lb];dsimp only;rw[w,lb];rwa[A]
def AB(m:List (aD×List M4)):D:=.dt (m.map λe=>pK e.1) (m.map λe=>.lst (e.2.map bL))
def Qz{ms os:List M4}(c:∀x∈ms,bA x.1)(hm:ms.length<=60)(hs:∀x∈os,x∈ms)(hl:os.length<=60):∃m,z7 [.lst (os.map bL)]=some (AB m)/\MI ms os.length m/\(os≠[]->m≠[]):=by
 have⟨m,ρ',e,h,a⟩:=Gp c hm (sh (.lst (os.map bL))) os [] 0 none none none hs 'o' ⟨mh,(λe he=>nomatch he),(λe he=>nomatch he),(λe he=>nomatch he)⟩;rw[yf]at h;erw[⟨m,c4 rfl ?_,h,λz=>a (.inr z)⟩];show mX 1 (kx (iE (ay 0)) (gN 2) tG) [sh (.lst (os.map bL)),none,none,none,none]=_;delta mX;have b:kx (iE (ay 0)) (gN 2) tG [sh (.lst (os.map bL)),none,none,none,none] []=some (ρ',m.map gE):=e;simp only[pd,ue];refine(la rfl).trans ?_;rw[b];dsimp only;rw[pc,pc];rfl
def o4(h:bA p):fW [pD p]=some (.lst (p.map dG)):=wh p h.asc (zc h.len 'd')
def QA{ks:List aD}(u:∀p∈ks,bA p)(w:ks.Nodup)(y:ks.length<64):h8 fW (ks.map pD):=by
 have f:∀d∈ks.map pD,∃p,bA p/\d=pD p/\rk fW d=.lst (p.map dG):=λd i=>by
  have⟨p,o,rfl⟩:=va.mp i;exact⟨p,u p o,rfl,gP (o4 (u p o))⟩
 erw[⟨λd i=>?_,.inl λd i=>?_,λd i e he=>?_,⟨λa ha b j c v m n=>?_,λa ha b j=>?_,λa ha b j h=>?_⟩,?_,by rw[ba];exact⟨.inl 'o','o'⟩⟩]
 ·have⟨p,g,rfl,_⟩:=f d i
  exact⟨_,o4 g,tw p⟩
 ·have⟨p,g,rfl,e⟩:=f d i
  rw[e];rfl
 ·have⟨p,g,rfl,e1⟩:=f d i
  have⟨q,l,rfl,e2⟩:=f e he;rw[e1,e2];rwa[kD.ok _ _ (eK p) (eK q)]
 ·have⟨p,g,rfl,e1⟩:=f a ha
  have⟨q,l,rfl,e2⟩:=f b j;have⟨r,x,rfl,s⟩:=f c v;unfold d6 at m n ⊢;rw[e1,e2]at m;rw[e2,s]at n;rw[e1,s];rwa[kD.tr _ _ _ (eK p) (eK q) (eK r) m n]
 ·have⟨p,g,rfl,e1⟩:=f a ha
  have⟨q,l,rfl,e2⟩:=f b j;delta d6;rw[e1,e2];rcases kD.tot _ _ (eK p) (eK q) with z|z
  ·rwa[.inl (by rw[ws g l (D.lst.inj z)])]
  ·rwa[.inr z]
 ·have⟨p,g,rfl,e1⟩:=f a ha
  have⟨q,l,rfl,e2⟩:=f b j;unfold d6 at h ⊢;rw[e1,e2]at h;rw[e1,e2];rwa[kD.as _ _ (eK p) (eK q) h]
 ·rwa[zn.mpr (List.Pairwise.imp (λ{a b} h e=>h (As e)) w)]
def QB{i o:Type}{f:i->o}{l m:List o}(h:l.Perm m):∀{ks:List i},m=ks.map f->∃c:List i,l=c.map f/\c.Perm ks:=by
 induction h with
 |nil =>
  intro ks e
  cases ks with
  |nil=>exact⟨[],rfl,.refl _⟩
  |cons a r=>cases e
 |cons x _ w =>
  intro ks e
  cases ks with
  |nil=>cases e
  |cons a r =>
   have⟨e1,e2⟩:=ef e;have⟨p,d,g⟩:=w e2;exact⟨a::p,by rw[oa,e1,d],g.cons a⟩
 |swap x y l =>
  intro ks e
  match ks,e with
  |[],e=>cases e
  |[a],e=>cases e
  |a::b::r,e =>
   have⟨e1,e2⟩:=ef e;have⟨e2,q⟩:=ef e2;exact⟨b::a::r,by rw[oa,oa,e1,e2,q],iu a b r⟩
 |trans _ _ j n =>
  intro ks e;have⟨k2,d,g⟩:=n e;have⟨s,u,v⟩:=j d;exact⟨s,u,v.trans g⟩
def QC(d:∀p∈ks,bA p)(e:ks.Nodup)(f:ks.length<64):∃a:List aD,kX fW (ks.map pD)=some (a.map pD)/\a.Perm ks:=by
 have⟨a,b,c⟩:=QB (kW (d6 fW) (ks.map pD)) rfl;erw[⟨a,?_,c⟩];delta kX;rw[la (QA d e f),b]
theorem Gq{b:Type}{p:aD}{v:b}:∀{m:List (aD×b)},bN m p=some v->(p,v)∈m
 |[],h=>by cases h
 |a::m,h=>by
  rw[eo]at h
  split at h
  ·rename_i e
   cases h;rw[<-e];rwa[da]
  ·rwa[ia _ (Gq h)]
noncomputable def gW(e:aD×List Td):D:=.tup [pD e.1,.lst (e.2.map dH)]
def Gr{a:av->Option D}(h:a ρ=some d):gy a ρ=.nx ρ:=by delta gy;rw[h]
def QD(o:∀x∈ms,nv 5 x)(hm:ms.length<=10)(q:ms≠[]):∃E:List (aD×List Td),z9 [.lst ([false,false,false,false,false].map D.bl),.int 2,.int 7,.lst (ms.map bL)]=some (.lst (E.map gW))/\(E.map fst).Nodup/\(∀e∈E,e.1∈jU ms)/\E≠[]:=by
 have h:∀x∈ms,bA x.1:=λx g=>(o x g).p
 have⟨os,v,r,G,w⟩:=Qv h 'o';have B:=Qt (os:=os) λx g=>o x (r x g)
 have C:z5 [.lst ([false,false,false,false,false].map D.bl),.int 2,.int 7]=some (.lst ([7,7,8,8,9].map D.int)):=c4 rfl rfl;have⟨m,y,M,j⟩:=Qz h 'o' r 'o';have H:=M.len h
 have⟨ks,A,l⟩:=QC (ks:=m.map fst) (λ p a=>by
  have⟨e,he,rfl⟩:=va.mp a;rwa[Gj h (M.sub e he)]) M.nd (by rw[ba];omega)
 have u:=l.length_eq;rw[ba]at u
 have F:∀p,∃n:List Td,p∈ks->p∈jU ms/\eN cP (aC (ay 0) (aC (a0 2 v0 (aC (ay 1) (aC (e2 d5 (au 2) (au 0)) aN))) aN)) [sh (pD p),sh (.lst ([7,7,8,8,9].map D.int)),sh (AB m)]=some (gW (p,n)):=λp=>by
  by_cases a:p∈ks
  ·have⟨xs,g⟩:=ww (l.mem_iff.mp a)
   have c:=Gq g
   have i:∀k∈xs.map (·.2),k.1<=k.2.1:=λk i=>by
    have⟨x,b,rfl⟩:=va.mp i;exact(o x (M.mm _ c x b).2).lo
   have⟨n,hs⟩:=Qr (pg:=[7,7,8,8,9]) 'd' (pD p) (xs.map (·.2)) i
   have he:(xs.map (·.2)).map (m8 (pD p))=xs.map bL:=by
    rw[pc];erw[kg λx b=>?_]
    show m8 (pD p) x.2=bL x;delta m8 bL mj;rw[(M.mm _ c x b).1]
   rw[he]at hs;erw[⟨n,λ_=>⟨M.sub _ c,bZ (aO rfl (aO (b6 (aO rfl (aO (aJ (d:=AB m) (e:=pD p) rfl rfl ?_) rfl)) rfl hs) rfl)) rfl⟩⟩];delta d5
   have:=Av (λxs:List M4=>D.lst (xs.map bL)) m p
   rw[g]at this;show (f8 (.dt (m.map λe=>pK e.1) (m.map λe=>D.lst (e.2.map bL))) (pD p)).bind id=_;rw[this];rfl
  ·exact⟨[],λz=>absurd z a⟩
 have⟨f,s⟩:=Classical.skolem.mp F;erw[⟨ks.map λp=>(p,f p),?_,?_,λe he=>?_,λz=>?_⟩]
 ·refine c4 rfl (st (bW (jw (An (aO (bZ rfl rfl) rfl) rfl v))) (st (Gr (b6 (ds:=[.lst (os.map bL),.int ((5:Nat):Int)]) (aO rfl (aO (bZ rfl rfl) rfl)) rfl B)) (st (bW (b6 rfl rfl C)) (st (bW (b6 rfl rfl y)) (eI ?_)))))
  refine(jw (oE (ds:=ks.map pD) (p7 (d:=.lst (ks.map pD)) (jw ?_) rfl) (sz (by rw[ba];omega)) (oF pD (λp=>gW (p,f p)) ks λp a=>⟨_,rfl,rfl,(s p a).2⟩))).trans ?_
  rotate_left
  ·rw[pc];rfl
  show kX fW ((m.map λe=>pK e.1).map jC)=_;rw[<-A,pc,pc];rwa[qe _ (kg λe _=>Qw e.1)]
 ·rw[pc]
  exact(ux ks).symm ▸ l.nodup_iff.mpr M.nd
 ·have⟨p,a,rfl⟩:=va.mp he
  exact(s p a).1
 ·have:=qe length z
  rw[ba,u]at this;rwa[j (w q) (ql this)]
noncomputable def ny(hs gs:List T7)(a:Bool):D:=.tup [.tup (hs.map D.str),.tup (gs.map D.str),.bl a]
def qK(d:D):Prop:=∃hs gs a,bA hs/\bA gs/\d=ny hs gs a
def o5(h:bA hs)(b:bA gs)(a:Bool):l9 [ny hs gs a]=some (.tup [.lst (hs.map dG),.bl a,.lst (gs.map dG)]) :=
 c4 rfl (eI (bZ (aO (b6 (aO (aJ rfl rfl rfl) rfl) rfl (wh hs h.asc (zc h.len 'd'))) (aO (aJ rfl rfl rfl) (aO (b6 (aO (aJ rfl rfl rfl) rfl) rfl (wh gs b.asc (zc b.len 'd'))) rfl))) rfl))
noncomputable def Gu:Nat->D->Prop|0=>tB|1=>zU|_=>tB
def QE:cS (oU Gu):=vW λi=>match i with|0=>kD|1=>FA|_+2=>kD
def Gv:qI l9 (oU Gu) qK where
 T:=QE
 ex:=λd ⟨hs,gs,a,h,g,e⟩=>by subst e;rw[gP (o5 h g a)];rwa[o5 h g a]
 cl:=λd ⟨hs,gs,a,h,g,e⟩=>by subst e;rw[gP (o5 h g a)];exact⟨_,rfl,eK hs,⟨_,rfl⟩,eK gs,qh⟩
 dk:=λd ⟨hs,gs,a,h,g,e⟩=>by subst e;rw[gP (o5 h g a)];simp[bO,LV,dG]
 kb:=λd ⟨hs,gs,a,h,g,e⟩=>by subst e;rw[gP (o5 h g a)];exact⟨rfl,rfl⟩
 inj:=λd e ⟨hs,gs,a,h,g,e1⟩ ⟨hs',gs',a',h',g',e2⟩ z=>by
  subst e1 e2;rw[gP (o5 h g a),gP (o5 h' g' a')]at z;have z:=D.tup.inj z;simp only[ym,D.lst.injEq]at z;have⟨z1,z2,z3,_⟩:=z;have e1:=ws h h' z1;have e2:=ws g g' z3;subst e1 e2;delta ny;rw[z2]
def Gw(hs gs:List T7)(a:Bool):fw [2,2,1] (ny hs gs a)=true:=by
 simp only[fw,ny,kn,pb,ip];exact⟨Am hs,Am gs,rfl⟩
abbrev tH:D->av->Option av:=gT 3 (bJ (gN 3) (bJ (gN 4) (bJ (gN 5) dO)))
abbrev tI:GN:=oO [2,2,1] (eN cP (aC (a0 1 mZ (aC (ay 3) aN)) (aC (a0 1 mZ (aC (ay 4) aN)) (aC (ay 5) aN))))
theorem Gx(a b:Option Sl):∀(h ks:List D) (c f g:Option Sl),(∀d∈h,qK d)->ks.length+h.length<=100000->∃i j l,jA tH tI h [a,none,b,c,f,g] ks=some ([a,none,b,i,j,l],h.foldl dZ ks)
 |[],ks,c,f,g,_,_=>⟨c,f,g,rfl⟩
 |d::r,ks,c,f,g,n,hl=>by
  have⟨hs,gs,m,_,_,rfl⟩:=n _ da;rw[zb]at hl;have p:=wu ks (ny hs gs m);have⟨i,j,l,o⟩:=Gx a b r (dZ ks (ny hs gs m)) (sh (.tup (hs.map D.str))) (sh (.tup (gs.map D.str))) (sh (.bl m)) (λe he=>n e (ia _ he)) 'o';exact⟨i,j,l,(wv rfl (FT (bZ (aO (b6 rfl rfl (Al hs)) (aO (b6 rfl rfl (Al gs)) (aO rfl rfl))) rfl) (Gw hs gs m) 'o')).trans o⟩
theorem Gy(a:Option Sl):∀(hs:List (List D)) (ks:List D) (b e f g:Option Sl),(∀d∈hs.flatten,qK d)->ks.length+hs.flatten.length<=100000->∃y j m n,jA (gN 2) (fU (iE (ay 2)) tH tI) (hs.map D.lst) [a,none,b,e,f,g] ks=some ([a,none,y,j,m,n],hs.flatten.foldl dZ ks)
 |[],ks,b,e,f,g,_,_=>⟨b,e,f,g,rfl⟩
 |h::r,ks,b,e,f,g,o,hl=>by
  rw[je,ma]at hl
  have v:∀(l c:List D),(l.foldl dZ c).length<=c.length+l.length:=λl=>by
   induction l with
   |nil=>intro c;simp
   |cons x l z=>intro c;rw[gk,zb];have:=z (dZ c x);have:=wu c x;omega
  have w:=v h ks;have⟨j,m,n,e1⟩:=Gx a (sh (.lst h)) h ks e f g (λd i=>o d (by rw[je];rwa[ie _ i])) 'o';have⟨p,q,s,u,e2⟩:=Gy a r (h.foldl dZ ks) (sh (.lst h)) j m n (λd i=>o d (by rw[je];rwa[gc _ i])) 'o';erw[⟨p,q,s,u,?_⟩];rw[oa,je,List.foldl_append,<-e2];erw[wv rfl ?_];show fU (iE (ay 2)) tH tI [a,none,sh (.lst h),e,f,g] ks=_;delta fU;rwa[e1]
def QF{hs:List (List D)}(a:∀d∈hs.flatten,qK d)(hl:hs.flatten.length<=10000)(j:(dd hs.flatten).length<64):oW [.lst (hs.map D.lst)]=some (gA (d6 l9) (dd hs.flatten)):=by
 have⟨c,f,g,h,e⟩:=Gy (sh (.lst (hs.map D.lst))) hs [] none none none none a (by rw[ye];omega);erw[DV rfl ?_];have ok:=Gv.kok (λd b=>a d (iY.mp b)) (lu hs.flatten) j;have i:fU (iE (ay 0)) (gN 2) (fU (iE (ay 2)) tH tI) [sh (.lst (hs.map D.lst)),none,none,none,none,none] []=some ([sh (.lst (hs.map D.lst)),none,c,f,g,h],dd hs.flatten):=e;show mU 1 (fU (iE (ay 0)) (gN 2) (fU (iE (ay 2)) tH tI)) l9 [sh (.lst (hs.map D.lst)),none,none,none,none,none]=_;delta mU;simp only[pd,ue];rw[i];dsimp only;delta kX;rw[la ok]
def QG(n y:Int):∃hs,v3 [.int n,.int y]=some (.tup (hs.map D.str))/\bA hs/\∀h∈hs,∃k:Nat,k<6/\h=fy y ((k:Nat):Int):=by
 have hn:∃q:Nat,aS (.lst [.int 1,.int 1,.int 2,.int 3,.int 2,.int 6]) (.int (n % 6))=some (.int (q:Nat))/\1<=q/\q<=6:=by
  have:n % 6=0\/n % 6=1\/n % 6=2\/n % 6=3\/n % 6=4\/n % 6=5:=by omega
  rcases this with h|h|h|h|h|h <;> rw[h]
  ·exact⟨1,rfl,'o','o'⟩
  ·exact⟨1,rfl,'o','o'⟩
  ·exact⟨2,rfl,'o','o'⟩
  ·exact⟨3,rfl,'o','o'⟩
  ·exact⟨2,rfl,'o','o'⟩
  ·exact⟨6,rfl,'o','o'⟩
 have⟨q,f,l,m⟩:=hn
 have a:∀j:Nat,0<=n / (7+5 * (j:Int)) % 6/\n / (7+5 * (j:Int)) % 6<1000:=λj=>by
  have e:=wg (n / (7+5 * (j:Int))) (show (6:Int)≠0 by decide);have g:=eg (n / (7+5 * (j:Int))) (show (0:Int)<6 by decide);omega
 erw[⟨(range q).map λj:Nat=>fy y (n / (7+5 * (j:Int)) % 6),?_,⟨λh b=>?_,by rw[ba,bh];omega,by rw[ba,bh];omega⟩,λh b=>?_⟩]
 ·have c:∀j:Nat,j<q->a0 2 oX (aC (ay 2) (aC (e2 b7 (e2 eG (au 1) (e2 bG (eC (.int 7)) (e2 d4 (eC (.int 5)) (au 0)))) (eC (.int 6))) aN)) [sh (.int (j:Nat)),sh (.int n),sh (.int y)]=some (.str (fy y (n / (7+5 * (j:Int)) % 6))):=λj d =>
   b6 (ds:=[.int y,.int (n / (7+5 * (j:Int)) % 6)]) (aO rfl (aO (aJ (aJ rfl (aJ rfl (aJ rfl rfl (lZ (vu ⟨'d','d'⟩))) iS) (kR (show 0<7+5 * (j:Int)/\7+5 * (j:Int)<1073741824 by omega))) rfl (fJ 'd')) rfl)) rfl (FO _ _ (a j).1 (a j).2)
  have i:eL (dV 1 [0,1] (iR jl (aC (au 2) aN)) (gN 0) (λ_=>some true) (a0 2 oX (aC (ay 2) (aC (e2 b7 (e2 eG (au 1) (e2 bG (eC (.int 7)) (e2 d4 (eC (.int 5)) (au 0)))) (eC (.int 6))) aN)))) [sh (.int n),sh (.int y),sh (.int (q:Nat))]=some (.lst (((range q).map λj:Nat=>fy y (n / (7+5 * (j:Int)) % 6)).map D.str)):=by
   refine(jw (oE (oC (ds:=[.int (q:Nat)]) rfl (D4 (n:=q) rfl 'o')) (sz (by rw[ba,bh];omega)) (oF (λk:Nat=>D.int ((k:Nat):Int)) (λj:Nat=>D.str (fy y (n / (7+5 * (j:Int)) % 6))) (range q) λj d=>⟨_,rfl,rfl,c j (uf.mp d)⟩))).trans ?_;rw[pc];rfl
  rwa[c4 rfl (st (bW (aJ rfl (aJ rfl rfl (fJ 'd')) f)) (eI (bZ (aO i rfl) rfl)))]
 ·have⟨j,_,rfl⟩:=va.mp b
  rwa[FQ _ _ (a j).1 (a j).2]
 ·have⟨j,_,rfl⟩:=va.mp b
  have e:=wg (n / (7+5 * (j:Int))) (show (6:Int)≠0 by decide);have g:=eg (n / (7+5 * (j:Int))) (show (0:Int)<6 by decide);exact⟨(n / (7+5 * (j:Int)) % 6).toNat,'o',by rw[Int.toNat_of_nonneg e]⟩
def QH:∀i,i<47->∀j,j<47->fX ((i:Nat):Int)=fX ((j:Nat):Int)->i=j:=by decide
def QI:∀i,i<47->∀c∈fX ((i:Nat):Int),c≠45:=by decide
theorem wA:∀{e u:T7},(∀c∈e,p c=true)->(e++u).dropWhile p=u.dropWhile p
 |[],u,_=>rfl
 |c::e,u,h=>by
  rw[jf,pi,la (h c da)];rwa[wA λx a=>h x (ia _ a)]
theorem AC(a:p c=false):∀(P:T7),(P++c::z).dropWhile p=P.dropWhile p++c::z
 |[]=>by rw[ze,pi,wa (by rw[a];rwa[ua])];rfl
 |x::P=>by
  rw[jf,pi,pi];by_cases h:p x=true
  ·rw[la h,la h,AC a P]
  ·rw[wa h,wa h];rfl
def gX(c:Nat):Bool:=c == 45
noncomputable def AD(u:T7):T7:=((u.dropWhile gX).reverse.dropWhile gX).reverse
def QJ(he:∀c∈e,c=45)(i:∀c∈t,c=45)(hs:s≠[])(hn:∀c∈s,c≠45):AD (e++(P++s++R)++t)=P.dropWhile gX++s++(R.reverse.dropWhile gX).reverse:=by
 have⟨c,z,rfl⟩:=im hs
 have g:(e++(P++c::z++R)++t).dropWhile gX=P.dropWhile gX++c::(z++R++t):=by
  rw[show e++(P++c::z++R)++t=e++(P++c::(z++R++t)) by simp,wA λx a=>by rw[he x a];rfl];rwa[AC (by delta gX;rwa[ji.mpr (hn c da)]) P]
 delta AD;rw[g];have⟨d,y,b⟩:=im (show (c::z).reverse≠[] by simp)
 have f:gX d=false:=by
  delta gX;rwa[ji.mpr (hn d (yo.mp (by rw[b];rwa[da])))]
 have h:(P.dropWhile gX++c::(z++R++t)).reverse=t.reverse++(R.reverse++d::(y++(P.dropWhile gX).reverse)):=by
  rw[show P.dropWhile gX++c::(z++R++t)=P.dropWhile gX++(c::z)++R++t by simp,vk,vk,vk,b];simp
 rw[h,wA λx a=>by rw[i x (yo.mp a)];rfl,AC f,vk,pq,vk,cu]
 have:y.reverse++[d]=c::z:=by
  have:=qe List.reverse b
  rw[cu,pq]at this;rwa[this.symm]
 rw[qf (P.dropWhile gX),this]
noncomputable def lx(u:T7):T7:=if 124∈u then u.takeWhile (λc=>c != 124) else if 32∈u then (u.dropWhile (λc=>c != 32)).drop 1 else u
theorem AE(a:p c=false):∀{P:T7},(∀x∈P,p x=true)->(P++c::z).takeWhile p=P
 |[],_=>by rw[ze,qu,wa (by rw[a];rwa[ua])]
 |x::P,h=>by rw[jf,qu,la (h x da),AE a λy b=>h y (ia _ b)]
def Gz{l:T7}(h:∀z∈l,z∈SG):124 ∉ l/\32 ∉ l:=⟨λz=>(v8 _ (h _ z)).2.2.1 rfl,λz=>(v8 _ (h _ z)).2.2.2 rfl⟩
def QK(c:Int):∃A C:T7,∀k:Nat,k<94->AD (lx (fy c ((k:Nat):Int)))=A++fX ((k / 2:Nat):Int)++C:=by
 generalize y:iw c (1+c % 3).toNat=b;have i:∀z∈b,z∈SG:=by rw[<-y];rwa[FL c _]
 have j:=Gz i;generalize u:(c / 15 % ((b.length:Nat)+1)).toNat=at_;erw[⟨(b.take at_).dropWhile gX,((b.drop at_).reverse.dropWhile gX).reverse,λk E=>?_⟩];have l:(((k:Nat):Int) / 2)=((k / 2:Nat):Int):=by omega
 have⟨n,F,m⟩:=Ad (k:=((k:Nat):Int)) 'o' 'o';rw[l]at n m;generalize hs:fX ((k / 2:Nat):Int)=s at n m;have hn:∀x∈s,x≠45:=by rw[<-hs];rwa[QI (k / 2) 'o']
 have o:s≠[]:=λz=>by rw[z]at m;simp at m
 have d:∀z∈b.take at_++s++b.drop at_,z∈SG:=λz hz=>by
  rcases jb.mp hz with hz|hz
  ·rcases jb.mp hz with hz|hz
   ·rwa[i z (mf hz)]
   ·rwa[n z hz]
  ·rwa[i z (uh hz)]
 have v:c6 c ((k:Nat):Int) b=b.take at_++s++b.drop at_:=by delta c6;rw[u,l,hs]
 have f:=Gz d
 have p:∃e t:T7,(∀x∈e,x=45)/\(∀x∈t,x=45)/\lx (fy c ((k:Nat):Int))=e++(b.take at_++s++b.drop at_)++t:=by
  generalize G:b.take at_++s++b.drop at_=h at v f d ⊢
  have q:∃t:T7,(∀x∈t,x=45)/\fy c ((k:Nat):Int)=gU c ((k:Nat):Int) b h++t:=by
   delta fy;rw[y,v];split
   ·exact⟨[45],λx a=>by simpa using a,rfl⟩
   ·exact⟨[],(λx a=>nomatch a),by rw[jd]⟩
  have⟨t,g,e⟩:=q;have r:124 ∉ t:=λz=>by have:=g _ z;omega
  have w:32 ∉ t:=λz=>by have:=g _ z;omega
  rw[e];delta gU;split
  ·refine⟨[],[],λx a=>(by cases a),λx a=>(by cases a),?_⟩
   delta lx;rw[la 'm',show h++[124]++b++t=h++124::(b++t) by simp,AE 'd' λx a=>bne_iff_ne.mpr λz=>f.1 (by rw[<-z];rwa[a])];simp
  ·split
   ·refine⟨[],[],λx a=>(by cases a),λx a=>(by cases a),?_⟩
    delta lx;rw[la 'm',show h++[124]++b.take 3++[32]++b.take 3++t=h++124::(b.take 3++[32]++b.take 3++t) by simp,AE 'd' λx a=>bne_iff_ne.mpr λz=>f.1 (by rw[<-z];rwa[a])];simp
   ·split
    ·refine⟨[],t,λx a=>(by cases a),g,?_⟩
     delta lx;rw[wa (by simp[j.1,f.1,r]),la 'm',show b++[32]++h++t=b++32::(h++t) by simp]
     have:(b++32::(h++t)).dropWhile (λc=>c != 32)=32::(h++t):=by
      rw[wA λx a=>bne_iff_ne.mpr λz=>j.2 (by rw[<-z];rwa[a]),pi,wa 'd']
     rw[this];simp
    ·split
     ·refine⟨[45],t,λx a=>by simpa using a,g,?_⟩
      delta lx;rw[wa (by simp[f.1,r]),wa (by simp[f.2,w])]
     ·refine⟨[],t,λx a=>(by cases a),g,?_⟩
      delta lx;rw[wa (by simp[f.1,r]),wa (by simp[f.2,w])];simp
 have⟨e,t,he,g,B⟩:=p;rw[B];rwa[QJ he g o hn]
def QL(c:Int)(g:k<94)(i:j<94)(h:fy c ((k:Nat):Int)=fy c ((j:Nat):Int)):k=j:=by
 have⟨A,C,a⟩:=QK c;have b:=a k g;rw[h,a j i]at b;have f:=QH (k / 2) 'o' (j / 2) 'o' (List.append_cancel_left (List.append_cancel_right b)).symm;have hl:=qe length h;unfold fy gU c6 at hl;rw[show ((k:Nat):Int) / 2=((k / 2:Nat):Int) by omega,show ((j:Nat):Int) / 2=((j / 2:Nat):Int) by omega,f]at hl;by_cases d:((k:Nat):Int) % 2=1 <;> by_cases e:((j:Nat):Int) % 2=1
 ·omega
 ·rw[la d,wa e,ma,nb]at hl;omega
 ·rw[wa d,la e,ma,nb]at hl;omega
 ·omega
abbrev En:=List (aD×List Td)
def HP(y:Int)(n:Nat)(p:aD):Prop:=∀h∈p,∃k:Nat,k<n/\h=fy y ((k:Nat):Int)
def QM:av->aR:=(aP (bt 4 (e2 b7 (e2 d4 (e2 bG (au 0) (e2 d4 (au 3) (au 3))) (eC (.int 1583458089))) (eC (.int 2147483647))))
  (dP 2 (eN cP (aC (a0 2 v3 (aC (ay 4) (aC (ay 1) aN))) (aC (e2 b7 (au 3) (eC (.int 5))) (aC (e2 b7 (au 3) (eC (.int 5))) (aC (e2 cQ (e2 b7 (au 4) (eC (.int 2))) (eC (.int 0))) aN)))))))
theorem vP(c y:Int):∀(n k:Nat) (ms:List M4) (b e:Option Sl),k+n<=10->ms.length=k->(∀x∈ms,nv 5 x/\HP y 6 x.1)->∃(a:List M4) (f g:Option Sl),eH (gN 3) QM (e6 ((k:Nat):Int) n) [sh (.int c),sh (.int y),some (.ow (ms.map bL)),b,e]=.nx [sh (.int c),sh (.int y),some (.ow (a.map bL)),f,g]/\a.length=k+n/\∀x∈a,nv 5 x/\HP y 6 x.1
 |0,k,ms,b,e,_,hl,h=>⟨ms,b,e,rfl,hl,h⟩
 |n+1,k,ms,b,e,r,hl,h=>by
  have⟨hs,l,gp,m⟩:=QG ((c+((k:Nat):Int) * ((k:Nat):Int)) * 1583458089 % 2147483647) y;generalize j:(hs,k % 5,k % 5,decide ((c+((k:Nat):Int) * ((k:Nat):Int)) * 1583458089 % 2147483647 % 2=0))=x;have gx:nv 5 x/\HP y 6 x.1:=by rw[<-j];exact⟨⟨gp,ib _,by show k % 5<5;omega⟩,m⟩
  have⟨a,f,g,o,q,p⟩:=vP c y n (k+1) (ms++[x]) (sh (.int (k:Nat))) (sh (.int ((c+((k:Nat):Int) * ((k:Nat):Int)) * 1583458089 % 2147483647))) 'o' (by rw[ma,nb,hl]) λz hz=>by
   rcases jb.mp hz with hz|hz
   ·rwa[h z hz]
   ·rw[ya.mp hz];rwa[gx]
  erw[⟨a,f,g,?_,'o',p⟩];rw[ti,<-o];erw[k4 rfl ((st (bW (d:=.int ((c+((k:Nat):Int) * ((k:Nat):Int)) * 1583458089 % 2147483647)) (aJ (aJ (aJ rfl (aJ rfl rfl (lZ (vu ⟨'o','o'⟩))) iS) rfl (lZ (rX ⟨'d','d'⟩))) rfl (fJ 'd'))) ((oP (ds:=ms.map bL) (d:=bL x) rfl ?_ (by rw[ba];omega)).trans ?_)))]
  ·rw[<-j]
   have i:b7 (.int ((k:Nat):Int)) (.int 5)=some (.int ((k % 5:Nat):Int)):=(fJ 'd').trans (by rw[show ((k:Nat):Int) % 5=((k % 5:Nat):Int) by omega]);rwa[bZ (aO (b6 rfl rfl l) (aO (aJ rfl rfl i) (aO (aJ rfl rfl i) (aO (aJ (aJ rfl rfl (fJ 'd')) rfl (lX mQ)) rfl)))) rfl]
  ·rw[gb];rfl
def QN(c y:Int):∃ms:List M4,v4 [.int c,.int y]=some (.lst (ms.map bL))/\(∀x∈ms,nv 5 x/\HP y 6 x.1)/\ms.length<=7/\ms≠[]:=by
 have⟨n,hn⟩:=ag (show 0<=1+c % 7 by omega);have h:n<=7/\1<=n:=by omega
 have⟨ms,f,g,e,a,d⟩:=vP c y n 0 [] none none 'o' rfl λx b=>by cases b
 erw[⟨ms,c4 rfl (st rfl (st (kP (oC (ds:=[.int (n:Nat)]) (aO ((aJ rfl (aJ rfl rfl (fJ 'd')) iS).trans (by rw[hn])) rfl) (tu 'o')) e) rfl)),d,'o',λz=>by rw[z]at a;simp at a;omega⟩]
def GA(a:0<ds.length)(b:0<es.length)(h:ds.length+es.length<=sizeLine):sO (.tup ds) (.tup es)=some (.tup (ds++es)):=la ⟨a,b,h⟩
def GB(h:HP y n p)(hm:n<=m):HP y m p:=λx a=>let ⟨k,b,c⟩:=h x a;⟨k,xb b hm,c⟩
abbrev rf(E:En)(k:Nat)(n y:Int)(a b:Option Sl):av:=[sh (.lst (E.map λe=>pD e.1)),sh (.int (k:Nat)),sh (.int n),sh (.int y),a,b]
def QO{E:En}(G:∀e∈E,bA e.1/\HP y 6 e.1)(q:E≠[])(hl:E.length<=100)(k:Nat)(H:k<74)(n:Int):∃p:aD,m7 [.lst (E.map λe=>pD e.1),.int (k:Nat),.int n,.int y]=some (pD p)/\bA p/\HP y (21+k) p/\fy y ((20+k:Nat):Int)∈p:=by
 have r:=FO y ((20+k:Nat):Int) 'o' 'o';have i:=FQ y ((20+k:Nat):Int) 'o' 'o';generalize F:fy y ((20+k:Nat):Int)=h at r i;have s:0<E.length:=jj.mpr q;have A:=wg (n / 3) (show ((E.length:Nat):Int)≠0 by omega);have B:=eg (n / 3) (show (0:Int)<((E.length:Nat):Int) by omega);have⟨d,w,l⟩:=D3 (xs:=E.map λe=>pD e.1) A (by rw[ba];rwa[B]);have⟨e,he,rfl⟩:=va.mp w;have⟨f,b⟩:=G e he
 have m:a0 2 oX (aC (ay 3) (aC (e2 bG (eC (.int 20)) (au 1)) aN)) (rf E k n y none none)=some (.str h) :=
  b6 (ds:=[.int y,.int ((20+k:Nat):Int)]) (aO rfl (aO (aJ rfl rfl (show bG (.int 20) (.int ((k:Nat):Int))=some (.int ((20+k:Nat):Int)) by rw[iS];congr 3)) rfl)) rfl r
 have o:e2 aS (au 0) (e2 b7 (e2 eG (au 2) (eC (.int 3))) (eN bP (aC (au 0) aN))) (rf E k n y (sh (.str h)) none)=some (pD e.1) :=
  aJ rfl (aJ (aJ rfl rfl (kR 'd')) (bZ (z:=.int ((E.length:Nat):Int)) rfl (by show some (D.int (((E.map λe=>pD e.1).length:Nat):Int))=_;rw[ba])) (fJ 'o')) l
 have a:HP y (21+k) [h]:=λx hx=>by rw[ya.mp hx];exact⟨20+k,'o',F.symm⟩
 have C:bA [h]:=⟨λx hx=>by rw[ya.mp hx];exact i,'m','m'⟩
 have c:tE (e2 cQ (e2 b7 (au 2) (eC (.int 3))) (eC (.int 0))) (rf E k n y (sh (.str h)) (sh (pD e.1)))=some (decide (n % 3=0)):=b8 (aJ (aJ rfl rfl (fJ 'd')) rfl (lX mQ));by_cases u:n % 3=0
 ·rw[db u]at c
  exact⟨[h],c4 rfl (st (bW m) (st (bW o) (vr ((jv c).trans (eI (bZ (aO rfl rfl) rfl)))))),C,a,ya.mpr rfl⟩
 ·rw[ac u]at c
  have j:tE (e2 n6 (eN bP (aC (au 5) aN)) (eC (.int 6))) (rf E k n y (sh (.str h)) (sh (pD e.1)))=some (decide (e.1.length<6)):=by
   erw[b8 ((aJ (bZ (z:=.int ((e.1.length:Nat):Int)) rfl (by show some (D.int (((e.1.map D.str).length:Nat):Int))=_;rw[ba])) rfl D1).trans ?_)];rw[xr.mpr (show (((e.1.length:Nat):Int)<6↔e.1.length<6) by omega)]
  by_cases v:e.1.length<6
  ·rw[db v]at j
   erw[⟨e.1++[h],c4 rfl (st (bW m) (st (bW o) (st ((cY c).trans rfl) (vr ((jv j).trans (eI (aJ (e:=.tup [.str h]) rfl (bZ (aO rfl rfl) rfl) ?_))))))),⟨λx hx=>?_,by rw[ma,nb];omega,by rw[ma,nb];omega⟩,λx hx=>?_,'m'⟩]
   ·have:=GA (ds:=e.1.map D.str) (es:=[.str h]) (by rw[ba];have:=f.pos;omega) 'm' (sz (by rw[ba,nb];omega))
    rw[this];show some (D.tup (e.1.map D.str++[h].map D.str))=some (D.tup ((e.1++[h]).map D.str));rw[gb]
   ·rcases jb.mp hx with hx|hx
    ·rwa[f.g x hx]
    ·rw[ya.mp hx];rwa[i]
   ·rcases jb.mp hx with hx|hx
    ·rwa[GB b 'o' x hx]
    ·rwa[a x hx]
  ·rw[ac v]at j
   erw[⟨h::e.1.take 2,c4 rfl (st (bW m) (st (bW o) (st ((cY c).trans rfl) (st ((cY j).trans rfl) (eI (aJ (d:=.tup [.str h]) (e:=.tup ((e.1.take 2).map D.str)) (bZ (aO rfl rfl) rfl) ?_ ?_)))))),⟨λx hx=>?_,by rw[zb,de];omega,by rw[zb];omega⟩,λx hx=>?_,da⟩]
   ·show some (D.tup (dN (e.1.map D.str) none (some ((2:Nat):Int))))=_
    rw[vv,xq]
   ·rwa[GA (ds:=[.str h]) (es:=(e.1.take 2).map D.str) 'm' (by rw[ba,de];have:=f.pos;omega) (sz (by rw[ba,nb,de];omega))]
   ·rcases cb.mp hx with rfl|hx
    ·rwa[i]
    ·rwa[f.g x (mf hx)]
   ·rcases cb.mp hx with rfl|hx
    ·rwa[a _ (ya.mpr rfl)]
    ·rwa[GB b 'o' x (mf hx)]
abbrev sP(l:List aD):Option Sl:=sh (.lst (l.map pD))
abbrev aT:=aD×aD×Bool
def aX(s:aT):D:=ny s.1 s.2.1 s.2.2
def tJ(a b:aD):fP (pD a) (pD b)=some (decide (a=b)):=by
 show fP (.tup (a.map D.str)) (.tup (b.map D.str))=_;rw[NN (by rw[tz,tz];rfl),Ah]
noncomputable def tK(E:En):List aD:=(E.filter λe=>!e.2.isEmpty).map fst
def GC(h:aX s=aX t):s=t:=by
 have h:D.tup [pD s.1,pD s.2.1,.bl s.2.2]=D.tup [pD t.1,pD t.2.1,.bl t.2.2]:=h;have h:=D.tup.inj h;simp only[ym]at h;have⟨b,c,a,_⟩:=h;have a:s.2.2=t.2.2:=by injection a with a;injection a
 rwa[jq (As b) (jq (As c) a)]
def GE{A:List aT}:aX s∈A.map aX↔s∈A:=by
 rw[va];exact⟨λ⟨t,a,b⟩=>by rw[<-GC b];exact a,λh=>⟨s,h,rfl⟩⟩
def QP(a:bA s.1)(b:bA s.2.1):qK (aX s):=⟨_,_,_,a,b,rfl⟩
def GF{A:List aT}(q:∀s∈A,bA s.1/\bA s.2.1)(hl:A.length<64):∃O:List aT,(∀s,s∈O↔s∈A)/\O.Nodup/\O.length<=A.length/\∀H:List aT,(∀s,s∈H↔s∈A)->H.length<=5000->oW [.lst [.lst (H.map aX)]]=some (O.map aX):=by
 have g:∀d∈A.map aX,qK d:=λd c=>by have⟨s,hs,rfl⟩:=va.mp c;rwa[QP (q s hs).1 (q s hs).2]
 have j:=kW (d6 l9) (dd (A.map aX));have⟨O,i,u⟩:=Ar (f:=aX) (ms:=A) (gA (d6 l9) (dd (A.map aX))) λd c=>iY.mp (j.mem_iff.mp c)
 have p:(dd (A.map aX)).length<=A.length:=by
  have:=wt (lu (A.map aX)) λd c=>iY.mp c
  (rw[ba]at this;rwa[this])
 erw[⟨O,λs=>⟨u s,λhs=>?_⟩,?_,?_,λH o r=>?_⟩]
 ·have:aX s∈gA (d6 l9) (dd (A.map aX)):=j.mem_iff.mpr (iY.mpr (GE.mpr hs))
  rw[i]at this;rwa[GE.mp this]
 ·have:(O.map aX).Nodup:=by rw[<-i];exact j.nodup_iff.mpr (lu _)
  rwa[List.Pairwise.imp (λh e=>h (by rw[e])) (zn.mp this)]
 ·have:=qe length i
  rw[j.length_eq,ba]at this;omega
 ·have hm:∀d,d∈A.map aX↔d∈H.map aX:=λd=>by
   rw[va,va];exact⟨λ⟨s,a,b⟩=>⟨s,(o s).mpr a,b⟩,λ⟨s,a,b⟩=>⟨s,(o s).mp a,b⟩⟩
  have l:[H.map aX].flatten=H.map aX:=by rw[je,ur,jd]
  have n:(dd (H.map aX)).length<64:=by
   have:=wt (lu (H.map aX)) (m:=dd (A.map aX)) λd c=>iY.mpr ((hm d).mpr (iY.mp c))
   omega
  have e:=QF (hs:=[H.map aX]) (by rw[l];rwa[λd c=>g d ((hm d).mpr c)]) (by rw[l,ba];omega) (by rw[l];rwa[n]);rw[l]at e;erw[e.trans ?_];rw[Qd Gv g hm,i]
noncomputable abbrev d7(E:En):D:=.dt (E.map λe=>pK e.1) (E.map λe=>.bl (!e.2.isEmpty))
noncomputable def jV(E:En):Sl:=.dt (E.map λe=>pK e.1) (E.map λe=>.bl (!e.2.isEmpty))
def QQ{a:List Td}(h:p ∉ E.map fst)(hl:E.length<=1000):kT (jV E) (pD p) (.bl (!a.isEmpty))=some (jV (E++[(p,a)])):=by
 delta kT jV;dsimp only;rw[mu,lb,la (by rw[ba];rwa[mR 'o']),wy (λa:List Td=>D.bl (!a.isEmpty)),oZ]
 ·rw[gb,gb,pc,pc,gb,gb];rfl
 ·intro z
  rw[pc]at z;have⟨e,b,c⟩:=va.mp z;rwa[h (va.mpr ⟨e,b,o0 c⟩)]
theorem GH(a:Option Sl):∀(E b:En) (c d:Option Sl),((b++E).map fst).Nodup->b.length+E.length<=1000->∃f g,eH (gT 2 (bJ (gN 2) (bJ (gN 3) dO))) (kU 1 (au 2) (e2 fE (eN bP (aC (au 3) aN)) (eC (.int 0)))) (E.map gW) [a,some (jV b),c,d]=.nx [a,some (jV (b++E)),f,g]
 |[],b,c,d,_,_=>⟨c,d,by rw[jd];rfl⟩
 |e::E,b,c,d,hn,hl=>by
  rw[zb]at hl;have⟨f,g,h⟩:=GH a E (b++[e]) (sh (pD e.1)) (sh (.lst (e.2.map dH))) (by rw[qf];rwa[hn]) (by rw[ma,nb];omega);erw[⟨f,g,?_⟩];rw[qf]at h;rw[oa,<-(show (b++([e]++E))=b++e::E from rfl),<-h]
  have i:e.1 ∉ b.map fst:=λz=>by
   rw[gb]at hn;exact(jc.mp hn).2.2 e.1 z e.1 'm' rfl
  have j:e2 fE (eN bP (aC (au 3) aN)) (eC (.int 0)) [a,some (jV b),sh (pD e.1),sh (.lst (e.2.map dH))]=some (.bl (!e.2.isEmpty)):=by
   refine(aJ (bZ (z:=.int ((e.2.length:Nat):Int)) rfl (by show some (D.int (((e.2.map dH).length:Nat):Int))=_;rw[ba])) rfl oG).trans ?_
   cases e.2 with
   |nil=>rfl
   |cons t r=>rw[db (by rw[zb];omega)];rfl
  rwa[k4 (ρ1:=[a,some (jV b),sh (pD e.1),sh (.lst (e.2.map dH))]) rfl (Ao (sl:=jV b) rfl j rfl (QQ i 'o'))]
def GJ(a:(E.map fst).Nodup)(hl:E.length<=100):sW [.lst (E.map gW)]=some (d7 E):=by
 have⟨b,c,e⟩:=GH (sh (.lst (E.map gW))) E [] none none a (by rw[ye];omega);rwa[c4 rfl (st rfl (st (kP rfl e) rfl))]
abbrev Sq:=List (aD×Bool)
noncomputable def iy(m:Sq):Sl:=.dt (m.map λe=>pK e.1) (m.map λe=>.bl e.2)
abbrev QR(m:Sq):D:=.dt (m.map λe=>pK e.1) (m.map λe=>.bl e.2)
def QS(h:p ∉ m.map fst)(hl:m.length<=1000):kT (iy m) (pD p) (.bl true)=some (iy (m++[(p,true)])):=by
 delta kT iy;dsimp only;rw[mu,lb,la (by rw[ba];rwa[mR 'o']),wy D.bl,oZ]
 ·rw[gb,gb,pc,pc,gb,gb];rfl
 ·intro z
  rw[pc]at z;have⟨e,a,b⟩:=va.mp z;rwa[h (va.mpr ⟨e,a,o0 b⟩)]
def GK{b:Type}(a:b->D)(m:List (aD×b))(p:aD):iM (pD p) (.dt (m.map λe=>pK e.1) (m.map λe=>a e.2))=some (decide (p∈m.map fst)):=by
 show (f8 _ (pD p)).map isSome=_;rw[Av a m p,zf,ci];by_cases h:p∈m.map fst
 ·rw[db h,Ax.mpr h]
 ·rw[ac h,FX h];rfl
abbrev wB:av->Option D:=e2 aS (au 2) (e1 cR (eC (.int 1)))
def wC{a:Option Sl}:wB [a,b,some (.ow ((l++[c]).map pD)),d]=some (pD c):=by
 erw[aJ (d:=.lst ((l++[c]).map pD)) (e:=.int (-1)) rfl (jB rfl oQ) ?_];rw[jy,gb];rwa[nu (l.map pD) (pD c)]
def qL:av->Te:=cH (tE (e2 em (e2 aS (au 2) (e1 cR (eC (.int 1)))) (au 1))) (tE (e2 d3 (e2 aS (au 2) (e1 cR (eC (.int 1)))) (au 3)))
def wD:av->aR:=(aP (kU 3 (e2 aS (au 2) (e1 cR (eC (.int 1)))) (eC (.bl true)))
  (dP 2 (e2 aS (e2 d5 (au 1) (e2 aS (au 2) (e1 cR (eC (.int 1))))) (eC (.int 0)))))
def tL(a b:aD):bI (pD a) (pD b)=decide (a=b):=by rw[bI,Ah]
theorem AF(k b:List aW)(d:D):∀gd:GD,bN (iX k d gd) b=if b=k then (bN gd k).map (·++[d]) else bN gd b
 |[]=>by
  rw[iX]
  split <;> rfl
 |x::r=>by
  have c:=AF k b d r;rw[iX];by_cases h:x.1=k
  ·rw[la h,eo]
   by_cases a:b=k
   ·rw[la (by rw[a];rwa[h]),la a,eo,la h];rfl
   ·rw[wa (λz=>a (z.symm.trans h)),wa a,eo,wa (λz=>a (z.symm.trans h))]
  ·rw[wa h,eo,c,eo,eo]
   by_cases a:b=k
   ·subst a
    rw[wa h,la rfl,la rfl,wa h]
   ·rw[wa a,wa a]
def QT(gd:GD)(k k':List aW)(d:D):bN (kw gd k d) k'=if k'=k then some ((bN gd k).getD []++[d]) else bN gd k':=by
 cases e:bN gd k with
 |some v =>
  have hs:fK gd k=gd:=by delta fK;rw[e];rfl
  rw[kw,hs,AF,e];rfl
 |none =>
  have b:k ∉ gd.map fst:=λz=>by
   have⟨v,h⟩:=ww z;rw[e]at h;cases h
  have hs:fK gd k=fO gd k []:=by delta fK;rw[e,oZ [] b];rfl
  rw[kw,hs,AF,F2,F2,la rfl];by_cases a:k'=k
  ·rw[la a,la a];rfl
  ·rw[wa a,wa a,wa a]
theorem GL:∀{gd:GD},(∀x∈gd,x.2.length<=n)->∀x∈iX k d gd,x.2.length<=n+1
 |[],_,x,h=>nomatch h
 |y::r,hn,x,h=>by
  rw[iX]at h
  split at h
  ·rcases cb.mp h with rfl|h
   ·have:=hn y da
    show (y.2++[d]).length<=n+1;rw[ma,nb];omega
   ·have:=hn x (ia _ h);omega
  ·rcases cb.mp h with rfl|h
   ·have:=hn x da;omega
   ·rwa[GL (λz hz=>hn z (ia _ hz)) x h]
noncomputable def cL(O:List aT)(p:aD):List aD:=(O.filter λs=>!s.2.2 && decide (s.1=p)).map λs=>s.2.1
def AG(O:List aT)(s:aT)(p:aD):cL (O++[s]) p=cL O p++if s.2.2=false/\s.1=p then [s.2.1] else []:=by
 delta cL;rw[List.filter_append,gb]
 congr 1
 by_cases h:s.2.2=false/\s.1=p
 ·rw[la h,xk (by rw[h.1,db h.2];rfl)];rfl
 ·rw[wa h,yk (λz=>h ?_)]
  ·rfl
  ·rw[pb,ah,sf]at z;rwa[z]
structure GI(gd:GD)(O:List aT):Prop where
 v:∀p,bN gd (pK p)=if cL O p=[] then none else some ((cL O p).map pD)
 l:gd.length<=O.length
 n:∀x∈gd,x.2.length<=O.length
def GI.skip{gd:GD}{s:aT}(h:GI gd O)(hs:s.2.2=true):GI gd (O++[s]):=by
 have e:∀p,cL (O++[s]) p=cL O p:=λp=>by rw[AG,wa (by rw[hs];rwa[λz=>nomatch z.1]),jd]
 exact⟨λp=>by rw[e];exact h.v p,by rw[ma];have:=h.l;omega,λx a=>by rw[ma];have:=h.n x a;omega⟩
def GI.add{gd:GD}{s:aT}(h:GI gd O)(hs:s.2.2=false):GI (kw gd (pK s.1) (pD s.2.1)) (O++[s]):=by
 erw[⟨λp=>?_,?_,λx b=>?_⟩]
 ·rw[QT]
  by_cases e:s.1=p
  ·subst e
   have a:cL (O++[s]) s.1=cL O s.1++[s.2.1]:=by rw[AG,la ⟨hs,rfl⟩]
   rw[la rfl,a,wa 'm',h.v];by_cases z:cL O s.1=[]
   ·rw[la z,z];rfl
   ·rw[wa z,gb];rfl
  ·have a:cL (O++[s]) p=cL O p:=by rw[AG,wa (λz=>e z.2),jd]
   rw[wa (λz=>e (o0 z).symm),a];rwa[h.v p]
 ·have:(kw gd (pK s.1) (pD s.2.1)).length<=gd.length+1:=by
   have e:=qe length (zB (pK s.1) (pD s.2.1) (fK gd (pK s.1)));rw[ba,ba]at e;delta kw;rw[e];delta fK;split
   ·omega
   ·rw[ma,nb];omega
  have:=h.l
  rw[ma,nb];omega
 ·rw[ma,nb]
  erw[GL (n:=O.length) (gd:=fK gd (pK s.1)) (λy hy=>?_) x b];unfold fK at hy
  split at hy
  ·rwa[h.n y hy]
  ·rcases jb.mp hy with hy|hy
   ·rwa[h.n y hy]
   ·rw[ya.mp hy];rwa[ae _]
theorem GM(a:Option Sl):∀(O P:List aT) (gd:GD) (g i j:Option Sl),GI gd P->P.length+O.length<=1000->∃ρ' c,jR (gT 3 (bJ (gN 2) (bJ (gN 3) (bJ (gN 4) dO)))) (qC (cO (tE (ay 4))) (jQ (au 2) (ay 3)) qA) (O.map aX) [a,none,g,i,j] gd=some (ρ',c)/\GI c (P++O)
 |[],P,gd,g,i,j,h,_=>⟨_,gd,rfl,by rw[jd];rwa[h]⟩
 |s::O,P,gd,g,i,j,h,hl=>by
  rw[zb]at hl
  have step:∃b,qC (cO (tE (ay 4))) (jQ (au 2) (ay 3)) qA [a,none,sh (pD s.1),sh (pD s.2.1),sh (.bl s.2.2)] gd=some ([a,none,sh (pD s.1),sh (pD s.2.1),sh (.bl s.2.2)],b)/\GI b (P++[s]):=by
   by_cases e:s.2.2=true
   ·refine⟨gd,?_,h.skip e⟩
    show (if (!s.2.2)=true then _ else _)=_;rw[wa (by rw[e];rwa[ua])];rfl
   ·have e:s.2.2=false:=bf.mpr e
    erw[⟨_,?_,h.add e⟩];show (if (!s.2.2)=true then _ else _)=_;rw[la (by rw[e];rfl)];delta jQ;show ((kL (pD s.1)).bind λk=>(some (pD s.2.1)).bind λd=>if gd.length<100000/\(gd.all λx=>decide (x.2.length<100000))=true then some ([a,none,sh (pD s.1),sh (pD s.2.1),sh (.bl s.2.2)],kw gd k d) else none)=_
    have:=h.l
    rw[mu,lb,lb,la ⟨'o',ud.mpr λx o=>db (by have:=h.n x o;omega)⟩]
  have⟨b,e1,p⟩:=step;have⟨ρ',c,f,m⟩:=GM a O (P++[s]) b (sh (pD s.1)) (sh (pD s.2.1)) (sh (.bl s.2.2)) p (by rw[ma,nb];omega);erw[⟨ρ',c,?_,by rw[qf]at m;rwa[m]⟩];rw[oa,<-f];rwa[Az (ρ1:=[a,none,sh (pD s.1),sh (pD s.2.1),sh (.bl s.2.2)]) (z:=(_,b)) rfl e1]
noncomputable abbrev sD(gd:GD):D:=.dt (gd.map fst) (gd.map λx=>.lst x.2)
def GO(hl:O.length<=100):∃gd,sU [.lst (O.map aX)]=some (sD gd)/\GI gd O:=by
 have⟨ρ',gd,e,g⟩:=GM (sh (.lst (O.map aX))) O [] [] none none none ⟨λp=>rfl,ib _,λx a=>nomatch a⟩ (by rw[ye];omega);rw[ze]at g;erw[⟨gd,c4 rfl ?_,g⟩];show mX 1 (kx (iE (ay 0)) (gT 3 (bJ (gN 2) (bJ (gN 3) (bJ (gN 4) dO)))) (qC (cO (tE (ay 4))) (jQ (au 2) (ay 3)) qA)) [sh (.lst (O.map aX)),none,none,none,none]=_;delta mX;have b:kx (iE (ay 0)) (gT 3 (bJ (gN 2) (bJ (gN 3) (bJ (gN 4) dO)))) (qC (cO (tE (ay 4))) (jQ (au 2) (ay 3)) qA) [sh (.lst (O.map aX)),none,none,none,none] []=some (ρ',gd):=e;simp only[pd,ue];refine(la rfl).trans ?_;rw[b]
def GP(gd:GD)(p:aD):f8 (sD gd) (pD p)=some ((bN gd (pK p)).map D.lst):=by
 have hz:∀gd:GD,(gd.map fst).zip (gd.map λx=>D.lst x.2)=gd.map λx=>(x.1,D.lst x.2):=λgd=>by
  induction gd with
  |nil=>rfl
  |cons x r a=>rw[oa,oa,ph,a];rfl
 have b:∀gd:GD,bN (gd.map λx=>(x.1,D.lst x.2)) (pK p)=(bN gd (pK p)).map D.lst:=λgd=>by
  induction gd with
  |nil=>rfl
  |cons x r a=>rw[oa,eo,eo,a];split <;> rfl
 show ((kL (pD p)).map λk=>bN ((gd.map fst).zip (gd.map λx=>D.lst x.2)) k)=_;rw[mu,zf,hz,b]
def QU{gd:GD}(h:GI gd O)(p:aD):iM (pD p) (sD gd)=some (decide (cL O p≠[])):=by
 show (f8 _ (pD p)).map isSome=_;rw[GP,zf,ci,h.v];by_cases z:cL O p=[]
 ·rw[la z,ac (λw=>w z)];rfl
 ·rw[wa z,db z];rfl
def GQ{gd:GD}(h:GI gd O)(a:cL O p≠[]):d5 (sD gd) (pD p)=some (.lst ((cL O p).map pD)):=by
 delta d5;rw[GP,h.v,wa a];rfl
abbrev sS(l:List aT):Option Sl:=sh (.lst (l.map aX))
abbrev sE(l:En):Option Sl:=sh (.lst (l.map gW))
def ey(O:List aT)(p:aD):Option aD:=(cL O p).head?
noncomputable def o7(O:List aT)(s:aT):Bool:=O.any λt=>!t.2.2 && (!s.2.2 && (decide (t.1=s.1) && !decide (t.2.1=s.2.1)))
def QV(o:O.Nodup)(hs:s∈O)(i:s.2.2=false):decide (1<(cL O s.1).length)=o7 O s:=by
 have hm:∀t,t∈O.filter (λt=>!t.2.2 && decide (t.1=s.1))↔t∈O/\t.2.2=false/\t.1=s.1:=λt=>by
  rw[ug,pb,ah,sf]
 have b:=o.filter (λt:aT=>!t.2.2 && decide (t.1=s.1));have hl:(cL O s.1).length=(O.filter λt=>!t.2.2 && decide (t.1=s.1)).length:=by delta cL;rw[ba]
 rw[hl];generalize q:O.filter (λt=>!t.2.2 && decide (t.1=s.1))=l at hm b;have d:=(hm s).mpr ⟨hs,i,rfl⟩
 cases m:o7 O s with
 |true =>
  have⟨t,c,a⟩:=List.any_eq_true.mp m;simp only[pb,ah,sf,zk]at a;have e:=(hm t).mpr ⟨c,a.1,a.2.2.1⟩;have f:t≠s:=λz=>a.2.2.2 (by rw[z])
  erw[db ?_]
  match l,b,d,e with
  |[],_,h,_=>cases h
  |[x],_,p,g=>rwa[absurd ((ya.mp g).trans (ya.mp p).symm) f]
  |x::y::r,_,_,_=>simp
 |false =>
  erw[ac λz=>?_]
  have all:∀t∈l,t=s:=λt h=>by
   have⟨c,a,j⟩:=(hm t).mp h
   have:=vn.mp m t c
   rw[a,i,db j]at this;have n:t.2.1=s.2.1:=by simpa using this
   rwa[jq j (jq n (a.trans i.symm))]
  match l,b,all,z with
  |[],_,_,z=>simp at z
  |[x],_,_,z=>simp at z
  |x::y::r,b,all,_ =>
   have:=all x da
   have g:=all y (ia _ da);exact(se.mp b).1 (by rw[this,<-g];rwa[da])
inductive Rn
 |fin (w:List aD)
 |ring (w:List aD) (g:aD)
noncomputable def run(O:List aT):Nat->List aD->aD->Rn
 |0,l,c=>.fin (l++[c])
 |n+1,l,c=>match ey O c with
  |none=>.fin (l++[c])
  |some g=>if g∈l++[c] then .ring (l++[c]) g else run O n (l++[c]) g
def AH:ey O p=none↔cL O p=[]:=by
 delta ey
 cases cL O p <;> simp
def QW(h:ey O p≠none):p∈O.map fst:=by
 have h:cL O p≠[]:=λz=>h (AH.mpr z)
 have⟨g,b⟩:=List.exists_mem_of_ne_nil _ h;have⟨s,hs,_⟩:=va.mp b;have⟨c,a⟩:=ug.mp hs;rw[pb,sf]at a;rwa[va.mpr ⟨s,c,a.2⟩]
def few{O:List aT}{l:List aD}(c:O.length<=100)(b:l.Nodup)(h:∀x∈l,ey O x≠none):l.length<=100:=by
 have:=qJ b λx a=>QW (h x a)
 rw[ba]at this;omega
def AI(a:(l++[c]).Nodup):l.Nodup/\c ∉ l:=⟨(jc.mp a).1,λz=>(jc.mp a).2.2 c z c (ya.mpr rfl) rfl⟩
def GR(c:l.Nodup)(h:g ∉ l):(l++[g]).Nodup:=jc.mpr ⟨c,'m',λx a y b z=>h (by rw[<-ya.mp b,<-z];rwa[a])⟩
abbrev sq(l:List aD):Sq:=l.map λp=>(p,true)
def GT(l:List aD):(sq l).map fst=l:=by rw[pc];rwa[ux l]
def QX{gd:GD}{O:List aT}(h:GI gd O)(I:O.length<=100)(a:Option Sl):∀(n:Nat) (l:List aD) (c:aD) (b:Nat),(l++[c]).Nodup->l.length+n=200->(∀x∈l,ey O x≠none)->n+1<b →
  ∃(i:List aD) (C:Option Sl),jP qL wD b [a,sh (sD gd),some (.ow ((l++[c]).map pD)),some (iy (sq l))]=.nx [a,sh (sD gd),some (.ow (i.map pD)),C]/\(match run O n l c with|.fin w=>i=w|.ring w g=>i=w++[g]):=by
 intro n
 induction n with
 |zero =>
  intro l c b s hl y
  have:=few I (AI s).1 y
  omega
 |succ n J =>
  intro l c b s hl y K;obtain⟨b,rfl⟩:∃f,b=f+1:=⟨b - 1,'o'⟩
  have u:∀{l:List aD} {c:aD} {z:Option Sl},tE (e2 em wB (au 1)) [a,sh (sD gd),some (.ow ((l++[c]).map pD)),z]=some (decide (cL O c≠[])):=λ{l c z}=>b8 (aJ (e:=sD gd) wC rfl (vt (QU h c)))
  have E:∀{l m:List aD} {c:aD},tE (e2 d3 wB (au 3)) [a,sh (sD gd),some (.ow ((l++[c]).map pD)),some (iy (sq m))]=some (!decide (c∈m)):=λ{l m c}=>by
   have:=b8 (aJ (fb:=au 3) (ρ:=[a,sh (sD gd),some (.ow ((l++[c]).map pD)),some (iy (sq m))]) (e:=QR (sq m)) wC rfl (yO (GK D.bl (sq m) c)))
   rw[GT]at this;rwa[this]
  delta run
  cases o:ey O c with
  |none =>
   erw[⟨l++[c],some (iy (sq l)),?_,rfl⟩];delta jP;rw[show qL _=some false from mO (u.trans (by rw[ac λz=>z (AH.mp o)]))]
  |some g =>
   have p:cL O c≠[]:=λz=>by rw[AH.mpr z]at o;cases o
   have q:=(AI s).2
   have A:e2 aS (e2 d5 (au 1) wB) (eC (.int 0)) [a,sh (sD gd),some (.ow ((l++[c]).map pD)),some (iy (sq (l++[c])))]=some (pD g):=by
    erw[aJ (d:=.lst ((cL O c).map pD)) (aJ (d:=sD gd) rfl wC (GQ h p)) rfl ?_];unfold ey at o
    obtain⟨r,G⟩:∃r,cL O c=g::r:=by
     cases e:cL O c with
     |nil=>rw[e]at o;cases o
     |cons x r=>rw[e]at o;cases o;exact⟨r,rfl⟩
    rw[G];rwa[jy.trans (kG (j:=0) rfl)]
   have B:sq l++[(c,true)]=sq (l++[c]):=by show _=map _ _;rw[gb];rfl
   have v:wD [a,sh (sD gd),some (.ow ((l++[c]).map pD)),some (iy (sq l))]=.nx [a,sh (sD gd),some (.ow ((l++[c]++[g]).map pD)),some (iy (sq (l++[c])))]:=by
    erw[st ((Ao (sl:=iy (sq l)) rfl rfl wC (QS (by rw[GT];rwa[q]) (by rw[ba];omega))).trans (by rw[B];rfl)) ((oP (ds:=(l++[c]).map pD) (d:=pD g) rfl A (by rw[ba,ma,nb];omega)).trans ?_)];rw[gb (l₁:=l++[c])];rfl
   have H:jP qL wD (b+1) [a,sh (sD gd),some (.ow ((l++[c]).map pD)),some (iy (sq l))]=jP qL wD b [a,sh (sD gd),some (.ow ((l++[c]++[g]).map pD)),some (iy (sq (l++[c])))]:=by
    rw[jP,show qL [a,sh (sD gd),some (.ow ((l++[c]).map pD)),some (iy (sq l))]=some true from kQ (u.trans (by rw[db p])) (E.trans (by rw[ac q];rfl))];dsimp only;rw[v]
   rw[H];dsimp only;by_cases hm:g∈l++[c]
   ·rw[la hm]
    obtain⟨b,rfl⟩:∃f,b=f+1:=⟨b - 1,'o'⟩
    erw[⟨l++[c]++[g],some (iy (sq (l++[c]))),?_,rfl⟩];delta jP;have F:=E (l:=l++[c]) (m:=l++[c]) (c:=g);rw[db hm]at F
    rw[show qL _=some false from by
     cases v:decide (cL O g≠[]) with
     |true=>rwa[kQ (u.trans (by rw[v])) F]
     |false=>rwa[mO (u.trans (by rw[v]))]]
   ·rw[wa hm]
    erw[J (l++[c]) g b (GR s hm) (by rw[ma,nb];omega) (λx hxx=>?_) 'o'];rcases jb.mp hxx with hxx|hxx
    ·rwa[y x hxx]
    ·rw[ya.mp hxx,o];rwa[λz=>nomatch z]
theorem GU:∀(n:Nat) (l:List aD) (c:aD),(l++[c]).Nodup->(match run O n l c with|.fin w=>w.Nodup/\w≠[]|.ring w g=>w.Nodup/\g∈w)
 |0,l,c,a=>⟨a,'m'⟩
 |n+1,l,c,a=>by
  delta run
  cases b:ey O c with
  |none=>exact⟨a,'m'⟩
  |some g =>
   dsimp only;by_cases hm:g∈l++[c]
   ·rw[la hm];exact⟨a,hm⟩
   ·rw[wa hm];rwa[GU n (l++[c]) g (GR a hm)]
def QY(h:ey O p=some g):∃s∈O,s.2.1=g:=by
 unfold ey at h;have a:g∈cL O p:=List.mem_of_head? h;have⟨s,hs,e⟩:=va.mp a;exact⟨s,(ug.mp hs).1,e⟩
theorem GV(a:∀s∈O,bA s.1/\bA s.2.1):∀(n:Nat) (l:List aD) (c:aD),(∀p∈l++[c],bA p)->(match run O n l c with|.fin w=>∀p∈w,bA p|.ring w _=>∀p∈w,bA p)
 |0,l,c,h=>h
 |n+1,l,c,h=>by
  delta run
  cases b:ey O c with
  |none=>rwa[h]
  |some g =>
   dsimp only;by_cases hm:g∈l++[c]
   ·rw[la hm];rwa[h]
   ·rw[wa hm]
    have⟨s,hs,e⟩:=QY b
    exact GV a n (l++[c]) g λp hp=>by
     rcases jb.mp hp with hp|hp
     ·rwa[h p hp]
     ·rw[ya.mp hp,<-e];exact(a s hs).2
theorem GW:∀(n:Nat) (l:List aD) (c:aD),(match run O n l c with|.fin w=>w.length<=l.length+n+1|.ring w _=>w.length<=l.length+n+1)
 |0,l,c=>by show (l++[c]).length<=_;simp
 |n+1,l,c=>by
  delta run
  cases a:ey O c with
  |none=>show (l++[c]).length<=_;simp
  |some g =>
   dsimp only;by_cases hm:g∈l++[c]
   ·rw[la hm];show (l++[c]).length<=_;simp
   ·rw[wa hm]
    have:=GW (O:=O) n (l++[c]) g
    rw[ma,nb]at this
    split at this <;> omega
def QZ{gd:GD}{O:List aT}(h:GI gd O)(f:O.length<=100)(g:aD):∃a:List aD,sZ [pD g,sD gd]=some (.lst (a.map pD))/\(match run O 200 [] g with|.fin w=>a=w|.ring w g'=>a=w++[g']):=by
 have⟨a,c,e,d⟩:=QX h f (sh (pD g)) 200 [] g 1000 'm' rfl (λx b=>nomatch b) 'o';exact⟨a,c4 rfl (st rfl (st rfl (st e rfl))),d⟩
theorem AJ{c:Type}{f:c->D}{g:c}{b:List c}:∀{a:List c}{n:Nat},(∀x∈a,bI (f x) (f g)=false)->bI (f g) (f g)=true->ls (f g) ((a++g::b).map f) n=some (n+a.length)
 |[],n,_,h=>by show ls (f g) (f g::b.map f) n=_;rw[ls,la h];rfl
 |x::r,n,d,h=>by
  show ls (f g) (f x::(r++g::b).map f) n=_;rw[ls,wa (by rw[d x da];rwa[ua]),AJ (λy e=>d y (ia _ e)) h,zb]
  congr 1
  omega
def GX(l:List aD):(l.map pD).all (bO LV)=true:=ud.mpr λd a=>by have⟨p,_,rfl⟩:=va.mp a;rwa[tz p]
def wE{a:List aD}(h:g ∉ a):ge (.lst ((a++g::b).map pD)) [pD g]=some (.int ((a.length:Nat):Int)):=by
 delta ge;dsimp only;rw[show bO LV (pD g)=true from tz g,GX];refine(la rfl).trans ?_;rw[AJ (f:=pD) (λx c=>by rw[tL,ac λz=>h (by rw[<-z];rwa[c])]) (by rw[tL,db rfl]),yf];rfl
def GY{b:Type}{xs:List b}(h:i<xs.length):dN xs (some (i:Int)) (some (-1))=(xs.drop i).take (xs.length - 1 - i):=by
 delta dN;rw[HT.sIx_nat]
 have a:HT.sIx xs.length xs.length (some (-1))=xs.length - 1:=by
  delta HT.sIx;dsimp only;rw[la 'd'];omega
 rw[a,show min i xs.length=i by omega]
abbrev dF(p:aD):D:=.lst (p.map dG)
def iz(r:List aD):Nat:=argBest (gR (r.map dF)) (r.length - 1)
def iA(r:List aD):List aD:=r.drop (iz r)++r.take (iz r)
def Q0(b:(w++[c]).Nodup):m5 [.lst ((w++[c]).map pD)]=some (.lst []):=by
 have a:eM "list" ge (au 0) (aC (e2 aS (au 0) (e1 cR (eC (.int 1)))) aN) [sP (w++[c])]=some (.int ((w.length:Nat):Int)) :=
  rW (d:=.lst ((w++[c]).map pD)) (ds:=[pD c]) rfl (aO (aJ (d:=.lst ((w++[c]).map pD)) (e:=.int (-1)) rfl (jB rfl oQ) (by rw[jy,gb];rwa[nu (w.map pD) (pD c)])) rfl) rfl (wE (AI b).2)
 erw[c4 rfl (eI ?_)];show cv (au 0) (oS (eM "list" ge (au 0) (aC (e2 aS (au 0) (e1 cR (eC (.int 1)))) aN))) (oS (e1 cR (eC (.int 1)))) [sP (w++[c])]=_;delta cv oS;rw[a];show some (D.lst (dN ((w++[c]).map pD) (some ((w.length:Nat):Int)) (some (-1))))=_;rw[p9,GY 'm',show (w++[c]).length - 1 - w.length=0 by simp,List.take_zero];rfl
def Q1{a:List aD}(h:g ∉ a):m5 [.lst ((a++g::b++[g]).map pD)]=some (.lst ((g::b).map pD)):=by
 have c:eM "list" ge (au 0) (aC (e2 aS (au 0) (e1 cR (eC (.int 1)))) aN) [sP (a++g::b++[g])]=some (.int ((a.length:Nat):Int)) :=
  rW (d:=.lst ((a++g::b++[g]).map pD)) (ds:=[pD g]) rfl (aO (aJ (d:=.lst ((a++g::b++[g]).map pD)) (e:=.int (-1)) rfl (jB rfl oQ) (by rw[jy,gb];rwa[nu ((a++g::b).map pD) (pD g)])) rfl) rfl (by rw[qf];rwa[wE (b:=b++[g]) h])
 erw[c4 rfl (eI ?_)];show cv (au 0) (oS (eM "list" ge (au 0) (aC (e2 aS (au 0) (e1 cR (eC (.int 1)))) aN))) (oS (e1 cR (eC (.int 1)))) [sP (a++g::b++[g])]=_;delta cv oS;rw[c];show some (D.lst (dN ((a++g::b++[g]).map pD) (some ((a.length:Nat):Int)) (some (-1))))=_;rw[p9,GY 'm',show (a++g::b++[g]).length - 1 - a.length=(g::b).length by simp,qf,List.drop_left,List.take_left]
def qM(h:r≠[]):iz r<r.length:=by
 have:=vD (gR (r.map dF)) (r.length - 1)
 have:=jj.mpr h
 delta iz;omega
def GZ(a:r.Nodup)(h:k<r.length):r=r.take k++r[k]::r.drop (k+1)/\(r.take k).length=k/\r[k] ∉ r.take k:=by
 have e:r=r.take k++r[k]::r.drop (k+1):=by rw[<-vd h,oo]
 erw[⟨e,by rw[de];omega,λz=>?_⟩];rw[e]at a;exact(jc.mp a).2.2 _ z _ da rfl
def G0{a b:Option Sl}{r:List aD}(d:au i ρ=some (.lst (r.map pD)))(e:au j ρ=some (.int ((k:Nat):Int)))(hl:r.length<=1000):e2 bG (cv (au i) (oS (au j)) oN) (cv (au i) oN (oS (au j))) ρ=some (.lst ((r.drop k++r.take k).map pD)):=by
 have e1:cv (au i) (oS (au j)) oN ρ=some (.lst ((r.drop k).map pD)):=by
  delta cv oS;rw[d,e];show some (D.lst (dN (r.map pD) (some ((k:Nat):Int)) none))=_;rw[p9,yT]
 have c:cv (au i) oN (oS (au j)) ρ=some (.lst ((r.take k).map pD)):=by
  delta cv oS;rw[d,e];show some (D.lst (dN (r.map pD) none (some ((k:Nat):Int))))=_;rw[p9,vv]
 refine(aJ e1 c (rY (sz (by rw[ba,ba,pj,de];omega)))).trans ?_;rw[gb]
def Q2(b:∀p∈r,bA p)(h:r≠[]):vQ fW (r.map pD)=some (pD (r[iz r]'(qM h))):=by
 delta vQ
 have e:(r.map pD).map (λd=>(fW [d]).getD .non)=r.map dF:=by
  rw[pc];exact kg λp a=>by show (fW [pD p]).getD .non=_;rw[o4 (b p a)];rfl
 refine(la ⟨λz=>h (su.mp z),λd c=>?_,λd c e he=>?_⟩).trans ?_
 ·have g:=qM h
  rw[e,ba];show (r.map pD)[iz r]?=_;rw[yc,cc g];rfl
 ·have⟨p,a,rfl⟩:=va.mp c
  exact⟨_,o4 (b p a),tw p⟩
 ·have⟨p,a,rfl⟩:=va.mp c
  have⟨q,f,rfl⟩:=va.mp he;rw[o4 (b p a),o4 (b q f)];show cV (.lst (p.map dG)) (.lst (q.map dG))=true;rw[cV,Ai]
def Q3(hg:∀p∈r,bA p)(h:r≠[])(nd:r.Nodup)(hl:r.length<=1000):sX [.lst (r.map pD)]=some (.lst ((iA r).map pD)):=by
 have hb:=qM h;have⟨e1,e2',e3⟩:=GZ nd hb
 have hi:eM "list" ge (au 0) (aC (zS fW (ay 0)) aN) [sP r,none]=some (.int ((iz r:Nat):Int)):=by
  erw[rW (d:=.lst (r.map pD)) (ds:=[pD (r[iz r]'hb)]) rfl (aO (Q2 hg h) rfl) rfl ?_]
  have:=wE (b:=r.drop (iz r+1)) e3
  rw[<-e1,e2']at this;rwa[this]
 rwa[c4 rfl (st (bW hi) (eI (G0 (a:=none) (b:=none) rfl rfl hl)))]
def Q4{a:List aD}(c:∀p∈a++g::b,bA p)(h:g ∉ a):ge (.lst ((a++g::b).map dF)) [dF g]=some (.int ((a.length:Nat):Int)):=by
 have m:=(c g 'm').nc;delta ge;dsimp only;rw[show bO LV (dF g)=true from tw g,show ((a++g::b).map dF).all (bO LV)=true from ud.mpr λd j=>by have⟨p,_,rfl⟩:=va.mp j;rwa[tw p]];refine(la rfl).trans ?_;have i:∀p,bA p->bI (dF p) (dF g)=decide (p=g):=λp l=>by rw[bI,wd l.nc m]
 rw[AJ (f:=dF) (λx e=>by rw[i x (c x (ie _ e)),ac λz=>h (by rw[<-z];rwa[e])]) (by rw[i g (c g 'm'),db rfl]),yf];rfl
def Q5(h:r≠[]):qy [.lst (r.map dF)]=some (dF (r[iz r]'(qM h))):=by
 delta qy;dsimp only;refine(la ⟨λz=>h (su.mp z),ud.mpr λd a=>?_,λd a e he=>?_⟩).trans ?_
 ·have b:=qM h
  rw[ba];show (r.map dF)[iz r]?=_;rw[yc,cc b];rfl
 ·have⟨p,_,rfl⟩:=va.mp a;rwa[tw p]
 ·have⟨p,c,rfl⟩:=va.mp a
  have⟨q,f,rfl⟩:=va.mp he;rw[cV,Ai]
def tM(w:List aD)(g:aD):List aD:=iA (w.dropWhile λx=>!decide (x=g))
def G1{a:List aD}(h:g ∉ a):(a++g::b).dropWhile (λx=>!decide (x=g))=g::b:=by
 induction a with
 |nil=>rw[ze,pi,wa 'm']
 |cons x r c=>rw[jf,pi,la (by simp only[ah,zk];rwa[λz=>h (by rw[z];rwa[da])]),c λz=>h (ia _ z)]
def AK(p:aD)(l:List aD):iM (pD p) (.lst (l.map pD))=some (decide (p∈l)):=by
 show (if bO LV (pD p) && (l.map pD).all (bO LV) then some ((l.map pD).any λz=>bI z (pD p)) else none)=_;rw[show bO LV (pD p)=true from tz p,GX,Bool.and_self,la rfl,any_map]
 congr 1
 rw[um,List.any_eq_true,sf];exact⟨λ⟨x,b,a⟩=>by rw[<-show x=p from by have a:bI (pD x) (pD p)=true:=a;rw[tL,sf]at a;rwa[a]];exact b,λh=>⟨p,h,by show bI (pD p) (pD p)=true;rw[tL,db rfl]⟩⟩
def c7{a:av->Option D}(b:gs ρ=none)(h:f ρ=.nx ρ'):fR f gs a ρ=a ρ':=by delta fR;rw[b];dsimp only;rw[h]
def wF{a:av->Option D}(b:gs ρ=some d):fR f gs a ρ=some d:=by delta fR;rw[b]
def tN{a:av->Te}(h:a ρ=some true):j7 a f g ρ=f ρ:=by delta j7;rw[h]
def mv{a:av->Te}(h:a ρ=some false):j7 a f g ρ=g ρ:=by delta j7;rw[h]
def o8{a:Nat}(h:ds.length=a)(b:f (dW n ds)=.bad):bU a n f ds=none:=by delta bU;rw[la h,b]
def mw{a:Nat}(h:ds.length=a)(b:g (dW n ds)=o):oB a n g ds=o:=by delta oB;rw[la h,b]
def tO(h:f ρ=.bad):aP f g ρ=.bad:=by delta aP;rw[h]
def wG{a:Nat}(h:b ρ=some ds)(hn:ds.length=a)(c:G ds=o):mK a G b ρ=o:=by delta mK;rw[h,lb,la hn,c]
def G3{a:av->Option (List D)}(h:a ρ=some ds)(c:F ds=none):a0 b F a ρ=none:=by
 delta a0;rw[h,lb];split
 ·rwa[c]
 ·rfl
def Q6{a:av->Option D}(h:a ρ=none):gy a ρ=.bad:=by delta gy;rw[h]
abbrev Er:=Str×T8×List D
def G4(e:Er):D:=.er e.1 e.2.1 e.2.2
noncomputable def iC(O:List aT)(E:En)(s:aT):Option Str :=
 if s.2.1=s.1 then some "SentHere" else if (!s.2.2 && decide (s.1∈tK E))=true then some "Both" else if o7 O s=true then some "TwoWays" else none
def Q7(g:(E.map fst).Nodup)(p:aD):((bN E p).map λc=>!c.isEmpty).getD false=decide (p∈tK E):=by
 delta tK
 induction E with
 |nil=>rfl
 |cons e r i =>
  have b:=se.mp g;rw[eo];by_cases h:e.1=p
  ·subst h
   rw[la rfl]
   have hn:e.1 ∉ (r.filter λe=>!e.2.isEmpty).map fst:=λz=>by
    have⟨x,d,f⟩:=va.mp z;rwa[b.1 (va.mpr ⟨x,(ug.mp d).1,f⟩)]
   cases a:e.2.isEmpty with
   |true=>rw[yk (by rw[a];rwa[ua]),ac hn];show (!e.2.isEmpty)=false;rw[a];rfl
   |false=>rw[xk (by rw[a];rfl),db 'm'];show (!e.2.isEmpty)=true;rw[a];rfl
  ·rw[wa h,i b.2]
   by_cases a:(!e.2.isEmpty)=true
   ·rw[xk (p:=λe:aD×List Td=>!e.2.isEmpty) a,oa]
    erw[xr.mpr ⟨λz=>ia _ z,λz=>?_⟩];rcases cb.mp z with z|z
    ·rwa[absurd z.symm h]
    ·rwa[z]
   ·rw[yk (p:=λe:aD×List Td=>!e.2.isEmpty) a]
section
variable {E:En}{O:List aT}{gd:GD}(nE:(E.map fst).Nodup)(nO:O.Nodup)(h:GI gd O){s:aT}(hs:s∈O)
abbrev r5(E:En)(gd:GD)(s:aT):av:=[sh (pD s.1),sh (pD s.2.1),sh (.bl s.2.2),sh (d7 E),sh (sD gd)]
def Q8:tE (e2 cQ (au 1) (au 0)) (r5 E gd s)=some (decide (s.2.1=s.1)):=b8 (aJ rfl rfl (lX (tJ s.2.1 s.1)))
include nE in
theorem Q9:cH (cO (tE (ay 2))) (tE (j9 (au 3) (au 0) (eC (.bl false)))) (r5 E gd s)=some (!s.2.2 && decide (s.1∈tK E)):=by
 erw[zx (lY (b8 rfl)) λ_=>?_]
 have e:=F9 (fo:=au 3) (fk:=au 0) (fz:=eC (.bl false)) (ρ:=r5 E gd s) (d:=d7 E) (k:=pD s.1) (z:=.bl false) rfl rfl rfl (Av (λa:List Td=>D.bl (!a.isEmpty)) E s.1);erw[b8 (e.trans ?_)];rw[<-Q7 nE s.1]
 cases bN E s.1 <;> rfl
include nO h hs in
theorem Ra:cH (cO (tE (ay 2))) (tE (e2 fE (eN bP (aC (e2 d5 (au 4) (au 0)) aN)) (eC (.int 1)))) (r5 E gd s)=some (o7 O s):=by
 have b:cO (tE (ay 2)) (r5 E gd s)=some (!s.2.2):=lY (b8 rfl)
 cases a:s.2.2 with
 |true =>
  rw[a]at b;rw[show o7 O s=false from vn.mpr λt _=>by rw[a];simp];rwa[mO b]
 |false =>
  rw[a]at b
  have c:cL O s.1≠[]:=λz=>by
   have:s.2.1∈cL O s.1:=va.mpr ⟨s,ug.mpr ⟨hs,by rw[a,db rfl];rfl⟩,rfl⟩
   rw[z]at this;cases this
  erw[kQ b (b8 ((aJ (bZ (z:=.int (((cL O s.1).length:Nat):Int)) (aO (aJ rfl rfl (GQ h c)) rfl) (by show some (D.int ((((cL O s.1).map pD).length:Nat):Int))=_;rw[ba])) rfl oG).trans ?_))];rw[<-QV nO hs a,xr.mpr (show ((1:Int)<(((cL O s.1).length:Nat):Int)↔1<(cL O s.1).length) by omega)]
include nE nO h hs in
theorem Rb:match iC O E s with
  |none=>qE [pD s.1,pD s.2.1,.bl s.2.2,d7 E,sD gd]=some .non/\sY [pD s.1,pD s.2.1,.bl s.2.2,d7 E,sD gd]=none
  |some x=>qE [pD s.1,pD s.2.1,.bl s.2.2,d7 E,sD gd]=none/\sY [pD s.1,pD s.2.1,.bl s.2.2,d7 E,sD gd]=some (.er x ["path"] [pD s.1]):=by
 have a:=Q8 (E:=E) (gd:=gd) (s:=s);have b:=Q9 (gd:=gd) (s:=s) nE;have c:=Ra (E:=E) nO h hs;delta iC;by_cases d:s.2.1=s.1
 ·rw[la d]
  rw[db d]at a;exact⟨o8 rfl (tO ((jv a).trans rfl)),mw rfl (wF ((tN a).trans rfl))⟩
 ·rw[wa d]
  rw[ac d]at a;by_cases e:(!s.2.2 && decide (s.1∈tK E))=true
  ·rw[la e]
   rw[e]at b;exact⟨o8 rfl (st ((cY a).trans rfl) (tO ((jv b).trans rfl))),mw rfl ((c7 ((mv a).trans rfl) ((cY a).trans rfl)).trans (wF ((tN b).trans rfl)))⟩
  ·rw[wa e]
   rw[bf.mpr e]at b;by_cases f:o7 O s=true
   ·rw[la f]
    rw[f]at c;exact⟨o8 rfl (st ((cY a).trans rfl) (st ((cY b).trans rfl) ((jv c).trans rfl))),mw rfl ((c7 ((mv a).trans rfl) ((cY a).trans rfl)).trans ((c7 ((mv b).trans rfl) ((cY b).trans rfl)).trans ((tN c).trans rfl)))⟩
   ·rw[wa f]
    rw[bf.mpr f]at c;exact⟨Gg rfl (st ((cY a).trans rfl) (st ((cY b).trans rfl) ((cY c).trans rfl))),mw rfl ((c7 ((mv a).trans rfl) ((cY a).trans rfl)).trans ((c7 ((mv b).trans rfl) ((cY b).trans rfl)).trans ((mv c).trans rfl)))⟩
end
noncomputable def tP(E:En)(s:aT)(e:aD):Bool:=!decide (e∈E.map fst) || ((s.2.2 && !decide (s.1∈E.map fst)) || decide (e=s.1))
def res(O:List aT)(E:En)(s:aT):D×Option Er :=
 match iC O E s with
 |some x=>(.non,some (x,["path"],[pD s.1]))
 |none=>match run O 200 [] s.2.1 with
  |.ring w g=>(.non,some ("Ring",["ring"],[.lst ((tM w g).map pD)]))
  |.fin w=>if tP E s (w.getLastD [])=true then (.non,some ("Nowhere",["path","goal"],[pD s.1,pD s.2.1])) else (.tup [pD s.1,pD s.2.1,.bl s.2.2,pD (w.getLastD []),.int ((w.length:Nat):Int)],none)
abbrev r9(s:aT)(E:En)(gd:GD)(a b c d e f:Option Sl):av:=[sh (aX s),sh (d7 E),sh (sD gd),a,b,c,d,e,f]
abbrev q9(s:aT)(E:En)(gd:GD)(d e f:Option Sl):av:=r9 s E gd (sh (pD s.1)) (sh (pD s.2.1)) (sh (.bl s.2.2)) d e f
def AL{E:En}{O:List aT}{gd:GD}(X:(E.map fst).Nodup)(Y:O.Nodup)(Z:O.length<=100)(N:∀s∈O,bA s.1/\bA s.2.1)(h:GI gd O){s:aT}(hs:s∈O) :
  match (res O E s).2 with
  |none=>mi [aX s,d7 E,sD gd]=some (res O E s).1/\qF [aX s,d7 E,sD gd]=none
  |some e=>mi [aX s,d7 E,sD gd]=none/\qF [aX s,d7 E,sD gd]=some (G4 e):=by
 have C:=Rb X Y h hs;have j:bt 3 (e2 aS (au 0) (eC (.int 0))) (r9 s E gd none none none none none none)=.nx (r9 s E gd (sh (pD s.1)) none none none none none):=bW (aJ rfl rfl rfl);have m:bt 4 (e2 aS (au 0) (eC (.int 1))) (r9 s E gd (sh (pD s.1)) none none none none none)=.nx (r9 s E gd (sh (pD s.1)) (sh (pD s.2.1)) none none none none):=bW (aJ rfl rfl rfl);have n:bt 5 (e2 aS (au 0) (eC (.int 2))) (r9 s E gd (sh (pD s.1)) (sh (pD s.2.1)) none none none none)=.nx (q9 s E gd none none none):=bW (aJ rfl rfl rfl);delta res
 cases B:iC O E s with
 |some x =>
  rw[B]at C;have⟨I,J⟩:=C;exact⟨o8 rfl (st j (st m (st n (tO (Q6 (G3 rfl I)))))),mw rfl ((c7 rfl j).trans ((c7 rfl m).trans ((c7 rfl n).trans (wF (wG rfl rfl J)))))⟩
 |none =>
  rw[B]at C;have⟨I,J⟩:=C;have⟨a,Q,f⟩:=QZ h Z s.2.1;have b:=GU (O:=O) 200 [] s.2.1 'm';have d:=GV N 200 [] s.2.1 (λp H=>by rw[ya.mp H];exact(N s hs).2);have y:=GW (O:=O) 200 [] s.2.1;have q:gy (a0 5 qE (aC (ay 3) (aC (ay 4) (aC (ay 5) (aC (ay 1) (aC (ay 2) aN)))))) (q9 s E gd none none none)=.nx (q9 s E gd none none none):=Gr (b6 rfl rfl I);have K:mK 5 sY (aC (ay 3) (aC (ay 4) (aC (ay 5) (aC (ay 1) (aC (ay 2) aN))))) (q9 s E gd none none none)=none:=wG rfl rfl J;have r:bt 6 (a0 2 sZ (aC (ay 4) (aC (ay 2) aN))) (q9 s E gd none none none)=.nx (q9 s E gd (sP a) none none):=bW (b6 rfl rfl Q)
  cases M:run O 200 [] s.2.1 with
  |ring w g =>
   rw[M]at f b d y;have f:a=w++[g]:=f;have b:w.Nodup/\g∈w:=b;have d:∀p∈w,bA p:=d;have y:w.length<=0+200+1:=y;have⟨a',i,e1,v⟩:=List.eq_append_cons_of_mem b.2;subst f;have R:tM w g=iA (g::i):=by delta tM;rw[e1,G1 v]
   have T:m5 [.lst ((w++[g]).map pD)]=some (.lst ((g::i).map pD)):=by rw[e1];rwa[Q1 v]
   have U:sX [.lst ((g::i).map pD)]=some (.lst ((iA (g::i)).map pD)):=Q3 (λp H=>d p (by rw[e1];rwa[gc _ H])) 'm' (by rw[e1]at b;exact(jc.mp b.1).2.1) (by rw[e1,ma]at y;omega);have o:bt 7 (a0 1 m5 (aC (ay 6) aN)) (q9 s E gd (sP (w++[g])) none none)=.nx (q9 s E gd (sP (w++[g])) (sP (g::i)) none):=bW (b6 rfl rfl T);have t:tE (e2 fE (eN bP (aC (au 7) aN)) (eC (.int 0))) (q9 s E gd (sP (w++[g])) (sP (g::i)) none)=some true:=(b8 (aJ (bZ rfl rfl) rfl oG)).trans (by rw[db 'm']);have z:aC (a0 1 sX (aC (ay 7) aN)) aN (q9 s E gd (sP (w++[g])) (sP (g::i)) none)=some [.lst ((iA (g::i)).map pD)]:=aO (b6 rfl rfl U) rfl;dsimp only;rw[R];exact⟨o8 rfl (st j (st m (st n (st q (st r (st o (tO ((jv t).trans rfl)))))))),mw rfl ((c7 rfl j).trans ((c7 rfl m).trans ((c7 rfl n).trans ((c7 K q).trans ((c7 rfl r).trans ((c7 rfl o).trans (wF ((tN t).trans (by delta zG;rw[z];rfl)))))))))⟩
  |fin w =>
   rw[M]at f b y;have f:a=w:=f;have b:w.Nodup/\w≠[]:=b;subst f;obtain⟨l,c,rfl⟩:∃l c,a=l++[c]:=⟨a.dropLast,a.getLast b.2,(fj b.2).symm⟩
   have L:(l++[c]).getLastD []=c:=by simp
   have o:bt 7 (a0 1 m5 (aC (ay 6) aN)) (q9 s E gd (sP (l++[c])) none none)=.nx (q9 s E gd (sP (l++[c])) (sh (.lst [])) none):=bW (b6 rfl rfl (Q0 b.1));have t:tE (e2 fE (eN bP (aC (au 7) aN)) (eC (.int 0))) (q9 s E gd (sP (l++[c])) (sh (.lst [])) none)=some false:=(b8 (aJ (bZ rfl rfl) rfl oG)).trans rfl;have he:aS (.lst ((l++[c]).map pD)) (.int (-1))=some (pD c):=by rw[jy,gb];rwa[nu (l.map pD) (pD c)]
   have F:bt 8 (e2 aS (au 6) (e1 cR (eC (.int 1)))) (q9 s E gd (sP (l++[c])) (sh (.lst [])) none)=.nx (q9 s E gd (sP (l++[c])) (sh (.lst [])) (sh (pD c))):=bW (aJ rfl (jB rfl oQ) he);have A:∀p:aD,d3 (pD p) (d7 E)=some (.bl (!decide (p∈E.map fst))):=λp=>yO (GK (λP:List Td=>D.bl (!P.isEmpty)) E p)
   have u:cN (tE (e2 d3 (au 8) (au 1))) (cN (cH (tE (ay 5)) (tE (e2 d3 (au 3) (au 1)))) (tE (e2 cQ (au 8) (au 3)))) (q9 s E gd (sP (l++[c])) (sh (.lst [])) (sh (pD c)))=some (tP E s c) :=
    EN (b8 (aJ rfl rfl (A c))) λ_=>EN (zx (b8 rfl) λ_=>b8 (aJ rfl rfl (A s.1))) λ_=>b8 (aJ rfl rfl (lX (tJ c s.1)))
   dsimp only;rw[L];by_cases G:tP E s c=true
   ·rw[la G]
    rw[G]at u;exact⟨o8 rfl (st j (st m (st n (st q (st r (st o (st ((cY t).trans rfl) (st F (tO ((jv u).trans rfl)))))))))),mw rfl ((c7 rfl j).trans ((c7 rfl m).trans ((c7 rfl n).trans ((c7 K q).trans ((c7 rfl r).trans ((c7 rfl o).trans ((c7 ((mv t).trans rfl) ((cY t).trans rfl)).trans ((c7 rfl F).trans ((tN u).trans rfl)))))))))⟩
   ·rw[wa G]
    rw[bf.mpr G]at u;have hl:bP [.lst ((l++[c]).map pD)]=some (.int (((l++[c]).length:Nat):Int)):=by show some (D.int ((((l++[c]).map pD).length:Nat):Int))=_;rw[ba]
    exact⟨c4 rfl (st j (st m (st n (st q (st r (st o (st ((cY t).trans rfl) (st F (st ((cY u).trans rfl) (eI (bZ (aO rfl (aO rfl (aO rfl (aO rfl (aO (bZ rfl hl) rfl))))) rfl))))))))))),mw rfl ((c7 rfl j).trans ((c7 rfl m).trans ((c7 rfl n).trans ((c7 K q).trans ((c7 rfl r).trans ((c7 rfl o).trans ((c7 ((mv t).trans rfl) ((cY t).trans rfl)).trans ((c7 rfl F).trans ((mv u).trans rfl)))))))))⟩
abbrev qN(E:En)(H:List aT)(a b c:Option Sl):av:=[sE E,sS H,a,b,c]
theorem G5(h:∃ρ1,g (aX s) ρ=some ρ1/\te ρ1=none):∀P:List aT,e8 g (λ_=>some true) te ρ ((P++s::Q).map aX)=none
 |[]=>by
  have⟨ρ1,a,b⟩:=h;show e8 g _ te ρ (aX s::Q.map aX)=none;rw[e8,a,lb,lb,la rfl,b];rfl
 |p::P=>by
  show e8 g _ te ρ (aX p::(P++s::Q).map aX)=none;rw[e8,G5 h P]
  cases g (aX p) ρ with
  |none=>rfl
  |some ρ1 =>
   rw[lb,lb,la rfl]
   cases te ρ1 <;> rfl
theorem G6(h:∃ρ1,g (aX s) ρ=some ρ1/\gx ρ1=some z):∀P:List aT,(∀p∈P,∃ρ1 y,g (aX p) ρ=some ρ1/\gx ρ1=none/\te ρ1=some y)->ky g te gx ρ ((P++s::Q).map aX)=some z
 |[],_=>by
  have⟨ρ1,a,b⟩:=h;show ky g te gx ρ (aX s::Q.map aX)=some z;rw[ky,a,lb,b]
 |p::P,c=>by
  have⟨ρ1,y,a,b,e⟩:=c p da;show ky g te gx ρ (aX p::(P++s::Q).map aX)=some z;rw[ky,a,lb,b];show (te ρ1).bind _=_;rw[e,lb];rwa[G6 h P λq d=>c q (ia _ d)]
section
variable {E:En}{O H:List aT}(nE:(E.map fst).Nodup)(hE:E.length<=100)(nO:O.Nodup)(hO:O.length<=100)(hg:∀s∈O,bA s.1/\bA s.2.1)(hp:oW [.lst [.lst (H.map aX)]]=some (O.map aX))
include nE hE nO hO hg hp
theorem Rc(c:∀s∈O,(res O E s).2=none):m6 [.lst (E.map gW),.lst (H.map aX)]=some (.lst (O.map λs=>(res O E s).1)):=by
 have⟨gd,a,b⟩:=GO hO;erw[c4 rfl (st (bW (jw (An (aO (bZ rfl rfl) rfl) rfl hp))) (st (bW (b6 rfl rfl (GJ nE hE))) (st (bW (b6 rfl rfl a)) (eI (jw (oE (ds:=O.map aX) rfl (sz (by rw[ba];omega)) (oF aX (λs=>(res O E s).1) O λs hs=>⟨[sh (aX s),sh (d7 E),sh (sD gd)],rfl,rfl,?_⟩)))))))]
 have:=AL nE nO hO hg b hs
 rw[c s hs]at this;rwa[b6 rfl rfl this.1]
theorem Re(hs:O=P++s::Q)(m:∀t∈P,(res O E t).2=none)(hn:(res O E s).2=some e):m6 [.lst (E.map gW),.lst (H.map aX)]=none/\s0 [.lst (E.map gW),.lst (H.map aX)]=some (G4 e):=by
 have⟨gd,l,f⟩:=GO hO;have h:bt 2 (eL (iQ 1 oW (aC (eN f7 (aC (ay 1) aN)) aN))) (qN E H none none none)=.nx (qN E H (sS O) none none):=bW (jw (An (aO (bZ rfl rfl) rfl) rfl hp));have i:bt 3 (a0 1 sW (aC (ay 0) aN)) (qN E H (sS O) none none)=.nx (qN E H (sS O) (sh (d7 E)) none):=bW (b6 rfl rfl (GJ nE hE));have j:bt 4 (a0 1 sU (aC (ay 2) aN)) (qN E H (sS O) (sh (d7 E)) none)=.nx (qN E H (sS O) (sh (d7 E)) (sh (sD gd))):=bW (b6 rfl rfl l);have a:=AL nE nO hO hg f (s:=s) (by rw[hs];simp);rw[hn]at a;have hz:(O.map aX).length<=sizeLine:=sz (by rw[ba];omega);erw[⟨o8 rfl (st h (st i (st j ?_))),mw rfl ((c7 rfl h).trans ((c7 rfl i).trans ((c7 rfl j).trans ?_)))⟩]
 ·delta bK eL dV
  show (match ((some (O.map aX)).bind λds=>if ds.length<=sizeLine then e8 (gN 0) (λ_=>some true) (a0 3 mi (aC (ay 0) (aC (ay 1) (aC (ay 2) aN)))) [none,sh (d7 E),sh (sD gd)] ds else none).map D.lst with|some d=>aR.rt d|none=>.bad)=_
  have:=G5 (g:=gN 0) (te:=a0 3 mi (aC (ay 0) (aC (ay 1) (aC (ay 2) aN)))) (ρ:=[none,sh (d7 E),sh (sD gd)]) (s:=s) (Q:=Q) ⟨[sh (aX s),sh (d7 E),sh (sD gd)],rfl,G3 rfl a.1⟩ P
  rw[<-hs]at this;rw[lb,la hz,this];rfl
 ·delta zE
  show ((some (O.map aX)).bind λds=>if ds.length<=sizeLine then ky (gN 0) (a0 3 mi (aC (ay 0) (aC (ay 1) (aC (ay 2) aN)))) (mK 3 qF (aC (ay 0) (aC (ay 1) (aC (ay 2) aN)))) [none,sh (d7 E),sh (sD gd)] ds else none)=_
  have:=G6 (g:=gN 0) (te:=a0 3 mi (aC (ay 0) (aC (ay 1) (aC (ay 2) aN)))) (gx:=mK 3 qF (aC (ay 0) (aC (ay 1) (aC (ay 2) aN)))) (ρ:=[none,sh (d7 E),sh (sD gd)]) (s:=s) (Q:=Q) ⟨[sh (aX s),sh (d7 E),sh (sD gd)],rfl,wG rfl rfl a.2⟩ P λt c=>by
   have b:=AL nE nO hO hg f (s:=t) (by rw[hs];rwa[ie _ c]);rw[m t c]at b;exact⟨[sh (aX t),sh (d7 E),sh (sD gd)],_,rfl,wG rfl rfl b.2,b6 rfl rfl b.1⟩
  rw[<-hs]at this;rw[lb,la hz,this]
end
theorem G7{a:Nat->Nat->Bool}(b:∀j,j<i->a i j=true)(d:∀j,i<j->a j i=false):∀{n:Nat},i<=n->argBest a n=i
 |0,h=>by rw[Nat.le_zero.mp h];rfl
 |n+1,h=>by
  rw[argBest];by_cases c:i<=n
  ·rw[G7 b d c,d (n+1) 'o'];rfl
  ·have e:i=n+1:=by omega
   subst e;rw[b _ (Nat.lt_succ_of_le (vD a n))];rfl
def tQ(p q:aD):Prop:=bY (dF p) (dF q)=true
def Rf(a:bA p)(b:bA q)(h:p≠q):tQ p q\/tQ q p:=by
 rcases kD.tot (dF p) (dF q) (eK p) (eK q) with e|e
 ·refine absurd ?_ h
  have:=(kD.eq _ _ (eK p) (eK q)).mpr e
  rw[bI,wd a.nc b.nc,sf]at this;rwa[this]
 ·rwa[e]
theorem G8:∀{r:List aD},(∀p∈r,bA p)->r≠[]->∃m∈r,∀x∈r,x≠m->tQ m x
 |[],_,h=>absurd rfl h
 |p::r,b,_=>by
  by_cases c:r=[]
  ·subst c;exact⟨p,da,λx a hn=>absurd (ya.mp a) hn⟩
  ·have⟨m,hm,h⟩:=G8 (λq d=>b q (ia _ d)) c
   by_cases e:p=m
   ·subst e
    exact⟨p,da,λx a hn=>(cb.mp a).elim (λz=>absurd z hn) λz=>h x z hn⟩
   ·rcases Rf (b p da) (b m (ia _ hm)) e with q|q
    ·refine⟨p,da,λx a hn=>(cb.mp a).elim (λz=>absurd z hn) λz=>?_⟩
     by_cases e2:x=m
     ·rw[e2];rwa[q]
     ·rwa[kD.tr _ _ _ (eK p) (eK m) (eK x) q (h x z e2)]
    ·erw[⟨m,ia _ hm,λx a hn=>(cb.mp a).elim (λz=>by rw[z];rwa[q]) λz=>h x z hn⟩]
def wH{a:List aD}(i:(a++m::b).Nodup)(h:∀x∈a++m::b,x≠m->tQ m x):iA (a++m::b)=m::b++a:=by
 have ha:∀x∈a,x≠m:=λx d z=>(jc.mp i).2.2 x d m da z
 have n:∀x∈b,x≠m:=λx d z=>(se.mp (jc.mp i).2.1).1 (z ▸ d)
 have g:((a++m::b).map dF).getD a.length (.sc .non)=dF m:=by simp
 have e:iz (a++m::b)=a.length:=by
  erw[G7 (λj f=>?_) (λj f=>?_) 'm']
  ·delta gR
   rw[g]
   have:((a++m::b).map dF).getD j (.sc .non)=dF a[j]:=by rw[bb,yc,ke f,cc f];rfl
   rw[this];rwa[h _ (ie _ (jg f)) (ha _ (jg f))]
  ·delta gR
   rw[g];by_cases c:j<(a++m::b).length
   ·have d:(a++m::b)[j]∈b:=by
     rw[nq 'o'];obtain⟨k,l⟩:∃k,j - a.length=k+1:=⟨j - a.length - 1,'o'⟩
     simp only[l,List.getElem_cons_succ];rwa[jg _]
    have:((a++m::b).map dF).getD j (.sc .non)=dF (a++m::b)[j]:=by
     rw[bb,yc,cc c];rfl
    rw[this];rwa[kD.as _ _ (eK _) (eK _) (h _ (gc _ (ia _ d)) (n _ d))]
   ·have:((a++m::b).map dF).getD j (.sc .non)=.sc .non:=by
     rw[bb,kh (by rw[ba];omega)];rfl
    rw[this];rfl
 delta iA;rw[e,List.drop_left,List.take_left]
def Rh{a:List aD}(i:∀p∈a++b,bA p)(d:(a++b).Nodup)(f:a++b≠[]):iA (b++a)=iA (a++b):=by
 have⟨m,hm,h⟩:=G8 i f;have hs:∀x∈b++a,x≠m->tQ m x:=λx e hn=>h x (jb.mpr (jb.mp e).symm) hn
 have c:(b++a).Nodup:=jc.mpr ⟨(jc.mp d).2.1,(jc.mp d).1,λx e y g z=>(jc.mp d).2.2 y g x e z.symm⟩;rcases jb.mp hm with q|q
 ·have⟨u,v,rfl⟩:=og q
  have e1:b++(u++m::v)=(b++u)++m::v:=by simp
  have e2:(u++m::v)++b=u++m::(v++b):=by simp
  rw[e1]at c hs ⊢;rw[e2]at d h ⊢;rw[wH c hs,wH d h];simp
 ·have⟨u,v,rfl⟩:=og q
  have e1:(u++m::v)++a=u++m::(v++a):=by simp
  have e2:a++(u++m::v)=(a++u)++m::v:=by simp
  rw[e1]at c hs ⊢;rw[e2]at d h ⊢;rw[wH c hs,wH d h];simp
def Lk(O:List aT):List aD->aD->Prop
 |[],_=>True
 |c::u,d=>ey O c=some (u.headD d)/\Lk O u d
theorem qO:∀{a b:List aD},Lk O (a++b) d↔Lk O a (b.headD d)/\Lk O b d
 |[],b=>⟨λh=>⟨trivial,h⟩,λh=>h.2⟩
 |c::a,b=>by
  have e:(a++b).headD d=a.headD (b.headD d):=by cases a <;> rfl
  show (ey O c=some ((a++b).headD d)/\Lk O (a++b) d)↔_;rw[qO,e];exact⟨λh=>⟨⟨h.1,h.2.1⟩,h.2.2⟩,λh=>⟨h.1.1,h.1.2,h.2⟩⟩
theorem G9:∀{u:List aD},Lk O u d->∀x∈u,ey O x≠none
 |c::u,h,x,hx=>by
  rcases cb.mp hx with rfl|hx
  ·rw[h.1];rwa[λz=>nomatch z]
  ·rwa[G9 h.2 x hx]
theorem Ha(b:ey O d=none):∀{u:List aD}{n:Nat}{l:List aD},Lk O u d->u.length<n->(l++(u++[d])).Nodup->run O n l (u.headD d)=.fin (l++(u++[d]))
 |[],n+1,l,_,_,_=>by show run O (n+1) l d=_;rw[run,b];rfl
 |c::u,n+1,l,h,hl,a=>by
  show run O (n+1) l c=_;have e:l++(c::u++[d])=(l++[c])++(u++[d]):=by simp
  rw[e]at a ⊢;rw[run,h.1];have hm:u.headD d ∉ l++[c]:=λz=>(jc.mp a).2.2 _ z (u.headD d) (by cases u <;> simp) rfl
  dsimp only;rw[wa hm];rwa[Ha b h.2 (by simp at hl;omega) a]
theorem Hb:∀{u:List aD}{n:Nat}{l:List aD} (d:aD),u≠[]->Lk O u g->u.length<=n->(l++u).Nodup->g∈l++u->run O n l (u.headD d)=.ring (l++u) g
 |[],_,_,_,h,_,_,_,_=>absurd rfl h
 |[c],n+1,l,d,_,h,_,a,b=>by
  show run O (n+1) l c=_;rw[run,h.1];dsimp only[headD];rw[la b]
 |c::e::u,n+1,l,d,_,h,hl,a,b=>by
  show run O (n+1) l c=_;have e1:l++(c::e::u)=(l++[c])++(e::u):=by simp
  rw[e1]at a b ⊢;rw[run,h.1];have hm:e ∉ l++[c]:=λz=>(jc.mp a).2.2 _ z e da rfl
  dsimp only[headD];rw[wa hm];rwa[Hb (u:=e::u) g 'm' h.2 (by simp at hl ⊢;omega) a b]
 |_::_,0,_,_,_,_,hl,_,_=>by simp at hl
def gC(y:Int)(n:Nat)(p:aD):Prop:=bA p/\HP y (n+1) p/\fy y ((n:Nat):Int)∈p
def AM(b:HP y n p)(c:fy y ((m:Nat):Int)∈p)(hn:n<=94)(hm:m<94):m<n:=by
 have⟨k,a,e⟩:=b _ c;rw[QL y hm 'o' e];rwa[a]
def ly(c:gC y n p)(d:gC y m q)(hn:n<94)(hm:m<94)(h:n≠m):p≠q:=λe=>by
 have a:=AM c.2.1 (e ▸ d.2.2) 'o' hm;have b:=AM d.2.1 (e ▸ c.2.2) 'o' hn;omega
def Ri(a:HP y 6 p)(b:gC y n q)(hn:20<=n)(hm:n<94):p≠q:=λe=>by
 have:=AM a (e ▸ b.2.2) 'o' hm
 omega
def tR(O:List aT):Prop:=∀s∈O,∀t∈O,s.2.2=false->t.2.2=false->s.1=t.1->s.2.1=t.2.1
def AN:g∈cL O p↔(p,g,false)∈O:=by
 delta cL;rw[va];constructor
 ·rintro⟨s,hs,rfl⟩
  have⟨b,a⟩:=ug.mp hs;rw[pb,ah,sf]at a;rw[<-a.1,<-a.2];rwa[b]
 ·intro h
  exact⟨_,ug.mpr ⟨h,'m'⟩,rfl⟩
def Hc(F:tR O)(h:(p,g,false)∈O):ey O p=some g:=by
 delta ey
 cases q:cL O p with
 |nil=>have:=AN.mpr h;rw[q]at this;cases this
 |cons x r =>
  have a:(p,x,false)∈O:=AN.mp (by rw[q];rwa[da]);rwa[qe some (F _ a _ h rfl rfl rfl)]
def Rj(h:∀g,(p,g,false) ∉ O):ey O p=none:=by
 delta ey
 cases q:cL O p with
 |nil=>rfl
 |cons x r=>rwa[absurd (AN.mp (by rw[q];rwa[da])) (h x)]
def Rk(F:tR O)(hs:s∈O):o7 O s=false:=vn.mpr λt a=>by
 intro z;simp only[pb,ah,sf,zk]at z;rwa[z.2.2.2 (F t a s hs z.1 z.2.1 z.2.2.1)]
noncomputable def dY:List aD->aD->List aT
 |[],_=>[]
 |c::u,d=>(c,u.headD d,false)::dY u d
theorem wI:∀{u:List aD},dY (u++[z]) d=dY u z++[(z,d,false)]
 |[]=>rfl
 |c::u=>by
  have e:(u++[z]).headD d=u.headD z:=by cases u <;> rfl
  show (c,(u++[z]).headD d,false)::dY (u++[z]) d=_;rw[wI,e];rfl
theorem Hd(F:tR O):∀{u:List aD},(∀s∈dY u d,s∈O)->Lk O u d
 |[],_=>trivial
 |c::u,h=>⟨Hc F (h _ da),Hd F λs hs=>h s (ia _ hs)⟩
theorem o9:∀{u:List aD},s∈dY u d->s.2.2=false/\∃a b,u=a++s.1::b/\s.2.1=b.headD d
 |c::u,h=>by
  rcases cb.mp h with rfl|h
  ·exact⟨rfl,[],u,rfl,rfl⟩
  ·have⟨f,a,b,e,r⟩:=o9 h
   exact⟨f,c::a,b,by rw[e];rfl,r⟩
theorem AO:∀{a d:List aD},(a++x::b).Nodup->a++x::b=d++x::f->b=f
 |[],[],_,e=>(ef e).2
 |[],y::d,c,e=>absurd (show x∈b by rw[(ef e).2];simp) (se.mp c).1
 |y::a,[],c,e=>absurd (show y∈a++x::b by rw[(ef e).1];simp) (se.mp c).1
 |y::a,z::d,c,e=>AO (se.mp c).2 (ef e).2
def Rl(c:u.Nodup)(hs:s∈dY u d)(i:t∈dY u d)(e:s.1=t.1):s.2.1=t.2.1:=by
 have⟨_,a,b,e1,f⟩:=o9 hs;have⟨_,j,g,e2,h⟩:=o9 i
 have:b=g:=by
  rw[e1]at e2 c;rw[e]at e2 c;rwa[AO c e2]
 rw[f,h,this]
structure Bd(y:Int)(Th R:List aD)(k:Nat)(S:List aT):Prop where
 fr:∀s∈S,s.2.2=false->∃n,20<=n/\n<20+k/\gC y n s.1/\(s.2.1∈Th\/s.2.1∈R\/∃m,m<n/\20<=m/\gC y m s.2.1/\∃t∈S,t.2.2=false/\t.1=s.2.1)
 un:tR S
 al:∀s∈S,s.2.2=true->s.2.1∈R/\s.1∈Th/\Th.headD []≠s.1
structure Rg(y:Int)(R:List aD):Prop where
 tp:∀p∈R,∃n,80<=n/\n<94/\gC y n p
 nd:R.Nodup
 l2:2<=R.length
 l8:R.length<=8
section
variable {y:Int}{E:En}{R:List aD}{S O:List aT}(nE:(E.map fst).Nodup)(gE:∀e∈E,bA e.1/\HP y 6 e.1)(B:Bd y (E.map fst) R 14 S)(G:Rg y R)(hO:∀s,s∈O↔s∈S\/s∈dY R d)
include gE
theorem tS(a:p∈E.map fst)(b:gC y n q)(c:20<=n)(d:n<94):p≠q:=by
 have⟨e,he,rfl⟩:=va.mp a;rwa[Ri (gE e he).2 b c d]
theorem pe(G:Rg y R)(b:p∈E.map fst):p ∉ R:=λh=>by
 have⟨n,c,a,t⟩:=G.tp p h;rwa[tS gE b t 'o' a rfl]
omit gE
include B G hO
theorem AQ:tR O:=by
 have c:∀s∈S,s.2.2=false->∀t∈dY R d,s.1≠t.1:=λs hs i t f z=>by
  have⟨n,h1,h2,j,_⟩:=B.fr s hs i;have⟨_,a,b,e,_⟩:=o9 f;have⟨m,p,l,o⟩:=G.tp t.1 (by rw[e];simp);rwa[ly j o 'o' l 'o' z]
 intro s hs t f g h e;rcases(hO s).mp hs with h1|h1 <;> rcases(hO t).mp f with h2|h2
 ·rwa[B.un s h1 t h2 g h e]
 ·rwa[absurd e (c s h1 g t h2)]
 ·rwa[absurd e.symm (c t h2 h s h1)]
 ·rwa[Rl G.nd h1 h2 e]
theorem He:Lk O R d:=Hd (AQ B G hO) λs hs=>(hO s).mpr (.inr hs)
include gE
theorem Rm(c:p∈E.map fst):ey O p=none:=Rj λg d=>by
 rcases(hO _).mp d with h|h
 ·have⟨n,f,i,t,_⟩:=B.fr _ h rfl
  rwa[tS gE c t f 'o' rfl]
 ·have⟨_,a,b,e,_⟩:=o9 h
  rwa[pe gE G c (by rw[e];simp)]
theorem Hg:∀(n m:Nat) (c:aD),m<n->20<=m->m<34->gC y m c->(∃t∈S,t.2.2=false/\t.1=c)->∃u f,Lk O u f/\u.headD f=c/\u.Nodup/\(∀x∈u,∃j,20<=j/\j<=m/\gC y j x)/\(f∈E.map fst\/f∈R)
 |0,_,_,h,_,_,_,_=>'o'
 |n+1,m,c,P,s,Q,b,h=>by
  have⟨t,g,l,rfl⟩:=h;have F:=AQ B G hO;have⟨a,M,k2,d,r⟩:=B.fr t g l;have L:a=m:=ck λz=>ly d b 'o' 'o' z rfl
  subst L;have q:ey O t.1=some t.2.1:=Hc F (by rw[<-l];exact(hO t).mpr (.inl g));have one:(t.2.1∈E.map fst\/t.2.1∈R)->∃u f,Lk O u f/\u.headD f=t.1/\u.Nodup/\(∀x∈u,∃j,20<=j/\j<=a/\gC y j x)/\(f∈E.map fst\/f∈R):=λh=>⟨[t.1],t.2.1,⟨q,trivial⟩,rfl,'m',λx hx=>by rw[ya.mp hx];exact⟨a,s,ib _,b⟩,h⟩
  rcases r with r|r|⟨j,N,I,J,K⟩
  ·rwa[one (.inl r)]
  ·rwa[one (.inr r)]
  ·have⟨u,f,v,w,A,o,C⟩:=Hg n j t.2.1 'o' I 'o' J K
   erw[⟨t.1::u,f,⟨by rw[w];exact q,v⟩,rfl,se.mpr ⟨λz=>?_,A⟩,λx hx=>?_,C⟩]
   ·have⟨i,p,H,e⟩:=o _ z
    rwa[ly b e 'o' 'o' 'o' rfl]
   ·rcases cb.mp hx with rfl|hx
    ·exact⟨a,s,ib _,b⟩
    ·have⟨i,p,H,e⟩:=o x hx
     exact⟨i,p,'o',e⟩
def AR(E:En)(R:List aD)(O:List aT)(y:Int)(g:aD)(u:List aD)(f:aD):Prop:=Lk O u f/\u.headD f=g/\u.Nodup/\(∀x∈u,∃j,20<=j/\j<34/\gC y j x)/\(f∈E.map fst\/f∈R)/\((g∈E.map fst\/g∈R)->u=[]/\f=g)
theorem tT(X:d∈E.map fst\/d∈R)(hz:∀a z,R=a++[z]->d≠z)(hs:s∈O):s.2.1≠s.1/\(s.2.2=false->s.1 ∉ E.map fst)/\(s.2.2=true->s.2.1∈R/\s.1∈E.map fst/\(E.map fst).headD []≠s.1)/\∃u f,AR E R O y s.2.1 u f:=by
 have c:∀{g:aD},(g∈E.map fst\/g∈R)->∃u f,AR E R O y g u f:=λ{g} h=>⟨[],g,trivial,rfl,mh,nofun,h,λ_=>⟨rfl,rfl⟩⟩
 rcases(hO s).mp hs with h|h
 ·cases p:s.2.2 with
  |true =>
   have⟨v,C,I⟩:=B.al s h p;exact⟨λz=>pe gE G C (z ▸ v),λz=>(nomatch z),λ_=>⟨v,C,I⟩,c (.inr v)⟩
  |false =>
   have⟨n,J,Y,t,r⟩:=B.fr s h p;have q:s.1 ∉ E.map fst:=λz=>tS gE z t J 'o' rfl
   erw[⟨?_,λ_=>q,λz=>(nomatch z),?_⟩]
   ·rcases r with r|r|⟨m,Q,A,l,_⟩
    ·rwa[λz=>q (z ▸ r)]
    ·have⟨j,w,o,i⟩:=G.tp _ r
     rwa[ly i t o 'o' 'o']
    ·rwa[ly l t 'o' 'o' 'o']
   ·rcases r with r|r|⟨m,Q,A,l,T⟩
    ·rwa[c (.inl r)]
    ·rwa[c (.inr r)]
    ·have⟨u,f,K,L,M,N,P⟩:=Hg gE B G hO 34 m s.2.1 'o' A 'o' l T
     erw[⟨u,f,K,L,M,λx H=>let ⟨j,w,o,i⟩:=N x H;⟨j,w,'o',i⟩,P,λz=>?_⟩];rcases z with z|z
     ·rwa[absurd rfl (tS gE z l A 'o')]
     ·have⟨j,w,o,i⟩:=G.tp _ z
      rwa[absurd rfl (ly i l o 'o' 'o')]
 ·have⟨p,a,b,e,r⟩:=o9 h
  have U:s.1∈R:=by rw[e];simp
  have q:s.1 ∉ E.map fst:=λz=>pe gE G z U
  erw[⟨λz=>?_,λ_=>q,(λz=>by rw[p]at z;cases z),c ?_⟩]
  ·cases b with
   |nil =>
    have r:s.2.1=d:=r;rwa[hz a s.1 e (by rw[<-r];rwa[z])]
   |cons x b =>
    have r:s.2.1=x:=r;have F:=G.nd;rw[e]at F
    have:=(se.mp (jc.mp F).2.1).1
    rwa[this (by rw[<-z,r];rwa[da])]
  ·cases b with
   |nil=>have r:s.2.1=d:=r;rw[r];rwa[X]
   |cons x b=>have r:s.2.1=x:=r;rw[r,e];right;simp
theorem Hh(f:d∈E.map fst\/d∈R)(hz:∀a z,R=a++[z]->d≠z)(hs:s∈O):iC O E s=none:=by
 have⟨b,c,_⟩:=tT gE B G hO f hz hs;delta iC;rw[wa b,Rk (AQ B G hO) hs,wa (λz=>?_),wa ua];rw[pb,ah,sf]at z;erw[c z.1 ?_];have⟨e,he,r⟩:=va.mp z.2;rwa[va.mpr ⟨e,(ug.mp he).1,r⟩]
theorem AS(hl:O.length<=100)(h:Lk O u f)(a:u.Nodup):u.length<=100:=few hl a (G9 h)
theorem AT{u v:List aD}(h:u.Nodup)(l:∀x∈u,∃j,20<=j/\j<34/\gC y j x)(m:v.Nodup)(n:∀x∈v,x∈E.map fst\/x∈R):(u++v).Nodup:=jc.mpr ⟨h,m,λa ha b d z=>by
 subst z;have⟨j,e,o,c⟩:=l a ha;rcases n a d with q|q
 ·rwa[tS gE q c e 'o' rfl]
 ·have⟨i,p,f,g⟩:=G.tp a q
  rwa[ly g c f 'o' 'o' rfl]⟩
omit B G hO gE in
theorem Ro(b:e∈E.map fst)(c:s.2.2=true->s.1∈E.map fst)(d:e≠s.1):tP E s e=false:=by
 delta tP;rw[db b,ac d]
 cases a:s.2.2 with
 |true=>rw[db (c a)];rfl
 |false=>rfl
end
section
variable {y:Int}{E:En}{R:List aD}{S O:List aT}{d:aD}(gE:∀e∈E,bA e.1/\HP y 6 e.1)(B:Bd y (E.map fst) R 14 S)(G:Rg y R)(hO:∀s,s∈O↔s∈S\/s∈dY R d)(hl:O.length<=100)
include gE B G hO hl
theorem Hi(b:d∈E.map fst\/d∈R)(hz:∀a z,R=a++[z]->d≠z)(hs:s∈O)(g:Lk O u f)(h:u.headD f=s.2.1)(i:(u++[f]).Nodup)(j:u.length<=150)(c:f∈E.map fst)(hn:f≠s.1):res O E s=(.tup [pD s.1,pD s.2.1,.bl s.2.2,pD f,.int ((u.length+1:Nat):Int)],none):=by
 have r:=Ha (Rm gE B G hO c) (n:=200) (l:=[]) g 'o' i;rw[h]at r;have⟨_,_,e,_⟩:=tT gE B G hO b hz hs;delta res;rw[Hh gE B G hO b hz hs,r];dsimp only;rw[ze,show (u++[f]).getLastD []=f by simp,Ro c (λz=>(e z).2.1) hn,wa ua,ma,nb]
theorem Hj(j:d∈E.map fst\/d∈R)(hz:∀a z,R=a++[z]->d≠z)(hs:s∈O)(h:AR E R O y s.2.1 u f)(b:f∈E.map fst):res O E s=(.tup [pD s.1,pD s.2.1,.bl s.2.2,pD f,.int ((u.length+1:Nat):Int)],none)/\s.2.1 ∉ R:=by
 have⟨c,m,e,n,r,o⟩:=h
 have g:s.2.1 ∉ R:=λz=>by
  have:=(o (.inr z)).2
  rwa[pe gE G b (this ▸ z)]
 have⟨_,p,q,_⟩:=tT gE B G hO j hz hs
 have:=AS gE B G hO hl c e
 erw[⟨Hi gE B G hO hl j hz hs c m (AT gE B G hO e n 'm' λx l=>by rw[ya.mp l];rwa[.inl b]) 'o' b λz=>?_,g⟩]
 cases i:s.2.2 with
 |true=>rwa[g (q i).1]
 |false=>rwa[p i (z ▸ b)]
theorem Rp(o:d=R.headD [])(hs:s∈O):((res O E s).2=none/\s.2.1 ∉ R)\/(res O E s).2=some (("Ring",["ring"],[.lst ((iA R).map pD)]):Er):=by
 have w:R≠[]:=λz=>by have:=G.l2;rw[z]at this;simp at this
 have c:d∈R:=by rw[o];cases R with
  |nil=>rwa[absurd rfl w]
  |cons x r=>rwa[da]
 have hz:∀a z,R=a++[z]->d≠z:=λa z e q=>by
  have L:=G.nd;have M:=G.l2;rw[e]at L M o
  cases a with
  |nil=>simp at M
  |cons x a=>exact(jc.mp L).2.2 x da z 'm' (by rw[<-q,o];rfl)
 have⟨_,_,_,u,f,h⟩:=tT gE B G hO (.inr c) hz hs;have⟨I,T,J,K,U,h6⟩:=id h;rcases U with hf|hf
 ·have⟨X,Y⟩:=Hj gE B G hO hl (.inr c) hz hs h hf
  rwa[.inl ⟨by rw[X],Y⟩]
 ·right
  have⟨b,R2,e⟩:=og hf;have A:=He B G hO;rw[e,qO]at A;have hh:d=b.headD f:=by rw[o,e];cases b <;> rfl
  have C:Lk O (f::R2++b) f:=qO.mpr ⟨by rw[<-hh];exact A.2,A.1⟩;have F:Lk O (u++(f::R2++b)) f:=qO.mpr ⟨I,C⟩;have m:=G.nd;rw[e]at m;have H:(f::R2++b).Nodup:=jc.mpr ⟨(jc.mp m).2.1,(jc.mp m).1,λx v y P z=>(jc.mp m).2.2 y P x v z.symm⟩;have nn:=AT gE B G hO J K H λx v=>.inr (by rw[e];rwa[jb.mpr (jb.mp v).symm])
  have:=AS gE B G hO hl I J
  have N:=G.l8;have r:=Hb (g:=f) (u:=u++(f::R2++b)) (n:=200) (l:=[]) f 'm' F (by rw[e]at N;simp at N ⊢;omega) nn 'm';rw[show (u++(f::R2++b)).headD f=u.headD f by cases u <;> rfl,T]at r;delta res;rw[Hh gE B G hO (.inr c) hz hs,r]
  have hu:f ∉ u:=λz=>by
   have⟨j,j1,j2,Z⟩:=K f z;have⟨i,i1,i2,i3⟩:=G.tp f hf;rwa[ly i3 Z i2 'o' 'o' rfl]
  have rg:tM ([]++(u++(f::R2++b))) f=iA R:=by
   delta tM;rw[ze,show u++(f::R2++b)=u++f::(R2++b) by simp,G1 hu,show f::(R2++b)=(f::R2)++b by simp,e];rwa[Rh (λp Q=>by have⟨_,_,_,t⟩:=G.tp p (by rw[e];rwa[Q]);rwa[t.1]) m 'm']
  dsimp only;rw[rg]
theorem Rq(b:d∈E.map fst)(c6:d=(E.map fst).headD [])(hs:s∈O):∃e n,res O E s=(.tup [pD s.1,pD s.2.1,.bl s.2.2,pD e,.int ((n:Nat):Int)],none)/\e∈E.map fst/\(s.2.1∈E.map fst->e=s.2.1/\n=1)/\∀g R2,R=g++s.2.1::R2->e=d/\n=R2.length+2:=by
 have hz:∀a z,R=a++[z]->d≠z:=λa z e q=>pe gE G b (by rw[e,q];simp)
 have⟨_,I,J,u,f,h⟩:=tT gE B G hO (.inl b) hz hs;have⟨r,K,v,L,M,j⟩:=id h;rcases M with hf|hf
 ·have⟨N,P⟩:=Hj gE B G hO hl (.inl b) hz hs h hf
  erw[⟨f,u.length+1,N,hf,λz=>?_,λg R2 z=>absurd (by rw[z];simp) P⟩];have⟨l,m⟩:=j (.inl z);exact⟨m,by rw[l];rfl⟩
 ·have⟨g,R2,e⟩:=og hf
  have w:=He B G hO;rw[e,qO]at w;have c:=G.nd;rw[e]at c;have o:Lk O (u++(f::R2)) d:=qO.mpr ⟨r,w.2⟩
  have Q:(u++(f::R2++[d])).Nodup:=AT gE B G hO v L (jc.mpr ⟨(jc.mp c).2.1,'m',λx hx y F z=>pe gE G b (by rw[<-ya.mp F,<-z,e];rwa[gc _ hx])⟩) λx hx=>by
   rcases jb.mp hx with hx|hx
   ·right;rw[e];rwa[gc _ hx]
   ·left;rw[ya.mp hx];rwa[b]
  have:=AS gE B G hO hl r v
  have A:=G.l8;have T:(u++(f::R2)).headD d=s.2.1:=by rw[<-K];cases u <;> rfl
  have p:s.2.1 ∉ E.map fst:=λz=>by
   have:=(j (.inl z)).2
   rwa[pe gE G z (this ▸ hf)]
  erw[⟨d,_,Hi gE B G hO hl (.inl b) hz hs o T (by rw[qf];rwa[Q]) (by rw[e]at A;simp at A ⊢;omega) b (λz=>?_),b,λz=>absurd z p,λH i z=>⟨rfl,?_⟩⟩]
  ·cases C:s.2.2 with
   |true=>exact(J C).2.2 (by rw[<-c6];rwa[z])
   |false=>rwa[I C (z ▸ b)]
  ·have⟨l,m⟩:=j (.inr (by rw[z];simp))
   have:R2=i:=by
    rw[m]at e c;rwa[AO c (e.symm.trans z)]
   rw[l,this];simp
end
abbrev eA(E:En):D:=.lst (E.map λe=>pD e.1)
section
variable {E:En}{y:Int}(hE:∀e∈E,bA e.1/\HP y 6 e.1)(hne:E≠[])(hl:E.length<=100)
include hE hne hl
theorem Hk(k:Nat)(a:k<74)(n:Int):∃p,m7 [eA E,.int (k:Nat),.int n,.int y]=some (pD p)/\gC y (20+k) p:=by
 have⟨p,e,g,h,m⟩:=QO hE hne hl k a n;exact⟨p,e,g,(by rw[show 20+k+1=21+k by omega];rwa[h]),m⟩
def Rr:av->aR:=dP 3 (a0 4 m7 (aC (ay 0) (aC (e2 bG (eC (.int 60)) (e2 b7 (e2 d4 (au 4) (eC (.int 5))) (eC (.int 13)))) (aC (e2 b7 (e2 d4 (e2 bG (au 1) (e2 d4 (au 4) (au 4))) (eC (.int 1583458089))) (eC (.int 2147483647))) (aC (ay 2) aN)))))
theorem Hl(c:Int):∀(n k:Nat) (R:List aD) (f:Option Sl),k+n<=8->R.length=k->(∀i p,R[i]?=some p->gC y (80+i * 5 % 13) p)->∃(b:List aD) (g:Option Sl),eH (gN 4) Rr (e6 ((k:Nat):Int) n) [sh (eA E),sh (.int c),sh (.int y),some (.ow (R.map pD)),f]=.nx [sh (eA E),sh (.int c),sh (.int y),some (.ow (b.map pD)),g]/\b.length=k+n/\∀i p,b[i]?=some p->gC y (80+i * 5 % 13) p
 |0,k,R,f,_,h,j=>⟨R,f,rfl,h,j⟩
 |n+1,k,R,f,u,h,j=>by
  have⟨p,e,t⟩:=Hk hE hne hl (60+k * 5 % 13) 'o' ((c+((k:Nat):Int) * ((k:Nat):Int)) * 1583458089 % 2147483647)
  have⟨b,g,l,s,o⟩:=Hl c n (k+1) (R++[p]) (sh (.int (k:Nat))) 'o' (by rw[ma,nb,h]) λi q a=>by
   by_cases r:i<R.length
   ·rw[ke r]at a;rwa[j i q a]
   ·rw[af 'o']at a
    have:i - R.length=0:=by
     have:=(qa.mp a).1
     simp at this;omega
    rw[this]at a;cases a;rw[show i=k by omega,show 80+k * 5 % 13=20+(60+k * 5 % 13) by omega];rwa[t]
  erw[⟨b,g,?_,'o',o⟩];rw[ti,show ((k:Nat):Int)+1=((k+1:Nat):Int) by omega,<-l]
  have m:e2 bG (eC (.int 60)) (e2 b7 (e2 d4 (au 4) (eC (.int 5))) (eC (.int 13))) [sh (eA E),sh (.int c),sh (.int y),some (.ow (R.map pD)),sh (.int (k:Nat))]=some (.int ((60+k * 5 % 13:Nat):Int)):=by
   refine(aJ rfl (aJ (aJ rfl rfl (lZ (vu ⟨'o','o'⟩))) rfl (fJ 'd')) iS).trans ?_;rw[show (60:Int)+((k:Nat):Int) * 5 % 13=((60+k * 5 % 13:Nat):Int) by omega]
  erw[k4 rfl ((oP (ds:=R.map pD) (d:=pD p) rfl (b6 (aO rfl (aO m (aO (aJ (aJ (aJ rfl (aJ rfl rfl (lZ (vu ⟨'o','o'⟩))) iS) rfl (lZ (rX ⟨'d','d'⟩))) rfl (fJ 'd')) (aO rfl rfl)))) rfl e) (by rw[ba];omega)).trans ?_)];rw[gb];rfl
theorem Rt(c:Int):∃R,Aa [eA E,.int c,.int y]=some (.lst (R.map pD))/\Rg y R:=by
 have⟨n,hn⟩:=ag (show 0<=2+c % 7 by omega);have l:2<=n/\n<=8:=by omega
 have⟨R,m,e,o,b⟩:=Hl hE hne hl c n 0 [] none 'o' rfl λi p h=>by simp at h
 erw[⟨R,c4 rfl (st rfl (st (kP (oC (ds:=[.int (n:Nat)]) (aO ((aJ rfl (aJ rfl rfl (fJ 'd')) iS).trans (by rw[hn])) rfl) (tu 'o')) e) rfl)),λp d=>?_,?_,'o','o'⟩]
 ·have⟨i,a⟩:=mo.mp d
  exact⟨_,'o','o',b i p a⟩
 ·refine ui.mpr λi j a f g=>?_
  have inj:∀i,i<8->∀j,j<8->i≠j->80+i * 5 % 13≠80+j * 5 % 13:=by decide
  rwa[ly (b i _ (cc a)) (b j _ (cc f)) 'o' 'o' (inj i 'o' j 'o' 'o')]
end
structure Bq(y:Int)(Th R:List aD)(k:Nat)(Gs:List aD)(S:List aT):Prop where
 bd:Bd y Th R k S
 gs:∀g∈Gs,g∈Th\/g∈R\/∃m,20<=m/\m<20+k/\gC y m g/\∃t∈S,t.2.2=false/\t.1=g
 ln:Gs.length<=Th.length+R.length+k
 ne:Gs≠[]
 sl:S.length<=k
section
variable {y:Int}{Th R Gs:List aD}{k:Nat}{S:List aT}
def Bd.up{a:Nat}(B:Bd y Th R k S)(h:k<=a):Bd y Th R a S:=⟨λs hs b=>let ⟨n,c,d,r⟩:=B.fr s hs b;⟨n,c,'o',r⟩,B.un,B.al⟩
def Bq.stay(B:Bq y Th R k Gs S):Bq y Th R (k+1) Gs S:=⟨B.bd.up 'o',λg a=>by
 rcases B.gs g a with h|h|⟨m,b,c,r⟩
 ·rwa[.inl h]
 ·rwa[.inr (.inl h)]
 ·exact .inr (.inr ⟨m,b,'o',r⟩),by have:=B.ln;omega,B.ne,by have:=B.sl;omega⟩
def Bq.also(B:Bq y Th R k Gs S)(C:g∈R)(E:p∈Th)(hn:Th.headD []≠p):Bq y Th R (k+1) Gs (S++[(p,g,true)]):=by
 have b:=B.stay;have up:∀{q:aD},(∃t∈S,t.2.2=false/\t.1=q)->∃t∈S++[(p,g,true)],t.2.2=false/\t.1=q:=λ⟨t,l,o⟩=>⟨t,ie _ l,o⟩
 have mem:∀{s:aT},s∈S++[(p,g,true)]->s.2.2=false->s∈S:=λ{s} h a=>(jb.mp h).elim id λz=>by rw[ya.mp z]at a;cases a
 erw[⟨⟨λs hs a=>?_,λs hs t u i j=>b.bd.un s (mem hs i) t (mem u j) i j,λs hs a=>?_⟩,λq v=>?_,b.ln,b.ne,by rw[ma,nb];have:=B.sl;omega⟩]
 ·have⟨n,w,x,A,r⟩:=b.bd.fr s (mem hs a) a
  erw[⟨n,w,x,A,?_⟩];rcases r with r|r|⟨m,c,d,e,f⟩
  ·rwa[.inl r]
  ·rwa[.inr (.inl r)]
  ·rwa[.inr (.inr ⟨m,c,d,e,up f⟩)]
 ·rcases jb.mp hs with h|h
  ·rwa[b.bd.al s h a]
  ·rw[ya.mp h];exact⟨C,E,hn⟩
 ·rcases b.gs q v with h|h|⟨m,c,d,e,f⟩
  ·rwa[.inl h]
  ·rwa[.inr (.inl h)]
  ·rwa[.inr (.inr ⟨m,c,d,e,up f⟩)]
def Bq.add(B:Bq y Th R k Gs S)(E:k<14)(o:gC y (20+k) p)(C:g∈Gs):Bq y Th R (k+1) (Gs++[p]) (S++[(p,g,false)]):=by
 have l:=B.stay;have up:∀{q:aD},(∃t∈S,t.2.2=false/\t.1=q)->∃t∈S++[(p,g,false)],t.2.2=false/\t.1=q:=λ⟨t,h1,h2⟩=>⟨t,ie _ h1,h2⟩
 have i:∀s∈S,s.2.2=false->s.1≠p:=λs hs a=>by
  have⟨n,w,x,j,_⟩:=B.bd.fr s hs a;rwa[ly j o 'o' 'o' 'o']
 erw[⟨⟨λs hs a=>?_,λs hs t z u v e=>?_,λs hs a=>?_⟩,λq A=>?_,by rw[ma,nb];have:=B.ln;omega,'m',by rw[ma,nb];have:=B.sl;omega⟩]
 ·rcases jb.mp hs with h|h
  ·have⟨n,w,x,j,r⟩:=l.bd.fr s h a
   erw[⟨n,w,x,j,?_⟩];rcases r with r|r|⟨m,b,c,d,f⟩
   ·rwa[.inl r]
   ·rwa[.inr (.inl r)]
   ·rwa[.inr (.inr ⟨m,b,c,d,up f⟩)]
  ·rw[ya.mp h]
   erw[⟨20+k,'o','o',o,?_⟩];rcases B.gs g C with r|r|⟨m,b,c,d,f⟩
   ·rwa[.inl r]
   ·rwa[.inr (.inl r)]
   ·rwa[.inr (.inr ⟨m,c,b,d,up f⟩)]
 ·rcases jb.mp hs with h1|h1 <;> rcases jb.mp z with h2|h2
  ·rwa[B.bd.un s h1 t h2 u v e]
  ·rw[ya.mp h2]at e;rwa[absurd e (i s h1 u)]
  ·rw[ya.mp h1]at e;rwa[absurd e.symm (i t h2 v)]
  ·rw[ya.mp h1,ya.mp h2]
 ·rcases jb.mp hs with h|h
  ·rwa[l.bd.al s h a]
  ·rw[ya.mp h]at a;cases a
 ·rcases jb.mp A with h|h
  ·rcases l.gs q h with h|h|⟨m,b,c,d,f⟩
   ·rwa[.inl h]
   ·rwa[.inr (.inl h)]
   ·rwa[.inr (.inr ⟨m,b,c,d,up f⟩)]
  ·rw[ya.mp h]
   rwa[.inr (.inr ⟨20+k,'o','o',o,_,gc _ (ya.mpr rfl),rfl,rfl⟩)]
end
def AU:av->aR:=(aP (bt 7 (e2 b7 (e2 d4 (e2 aS (au 0) (au 6)) (eC (.int 1583458089))) (eC (.int 2147483647))))
  (aP (bt 8 (e2 aS (au 4) (e2 b7 (e2 eG (au 7) (eC (.int 7))) (eN bP (aC (au 4) aN)))))
  (aP (bt 9 (a0 4 m7 (aC (ay 1) (aC (ay 6) (aC (e2 eG (au 7) (eC (.int 31))) (aC (ay 3) aN))))))
  (bS (tE (e2 fE (e2 b7 (au 7) (eC (.int 3))) (eC (.int 0)))) (aP (dP 4 (ay 9))
  (dP 5 (eN cP (aC (ay 9) (aC (ay 8) (aC (eC (.bl false)) aN)))))) (bS (cH (tE (e2 d2 (e2 aS (au 1) (eC (.int 0))) (e2 aS (au 1) (e1 cR (eC (.int 1)))))) (tE (e2 em (au 8) (au 2)))) (dP 5 (eN cP (aC (e2 aS (au 1) (e1 cR (eC (.int 1)))) (aC (ay 8) (aC (eC (.bl true)) aN))))) cC)))))
abbrev rb(e:Ti)(E:En)(R:List aD)(y:Int)(Gs:List aD)(S:List aT)(a b c d:Option Sl):av:=[sN e,sh (eA E),sP R,sh (.int y),some (.ow (Gs.map pD)),some (.ow (S.map aX)),a,b,c,d]
section
variable {E:En}{y:Int}{R:List aD}(hE:∀e∈E,bA e.1/\HP y 6 e.1)(hne:E≠[])(hl:E.length<=100)(l8:R.length<=8)
include hE hne hl l8
theorem Hm(l:Ti)(hc:l.length<=14):∀(n k:Nat) (f:List aD) (S:List aT) (a b c d:Option Sl),k+n=l.length->Bq y (E.map fst) R k f S->∃(i:List aD) (S':List aT) (q s u d':Option Sl),eH (gN 6) AU (e6 ((k:Nat):Int) n) (rb l E R y f S a b c d)=.nx (rb l E R y i S' q s u d')/\Bq y (E.map fst) R (k+n) i S'
 |0,k,f,S,a,b,c,d,_,B=>⟨f,S,a,b,c,d,rfl,B⟩
 |n+1,k,f,S,a,b,c,d,hk,B=>by
  have J:k<l.length:=by omega
  obtain⟨N,U⟩:∃N,N=l[k] * 1583458089 % 2147483647:=⟨_,rfl⟩
  have P:0<f.length:=jj.mpr B.ne;have hE':=jj.mpr hne;have l1:=B.ln;have l2:=B.sl;rw[ba]at l1
  obtain⟨g,G,H⟩:∃g∈f,aS (.lst (f.map pD)) (.int (N / 7 % ((f.length:Nat):Int)))=some (pD g):=by
   have i1:=wg (N / 7) (show ((f.length:Nat):Int)≠0 by omega);have i2:=eg (N / 7) (show (0:Int)<((f.length:Nat):Int) by omega);have⟨x,X,h⟩:=D3 (xs:=f.map pD) i1 (by rw[ba];rwa[i2]);have⟨g,Y,rfl⟩:=va.mp X;exact⟨g,Y,h⟩
  have⟨p,Z,tp⟩:=Hk hE hne hl k 'o' (N / 31)
  have K:bt 7 (e2 b7 (e2 d4 (e2 aS (au 0) (au 6)) (eC (.int 1583458089))) (eC (.int 2147483647))) (rb l E R y f S (sh (.int (k:Nat))) b c d)=.nx (rb l E R y f S (sh (.int (k:Nat))) (sh (.int N)) c d):=by
   refine(bW (d:=.int N) ?_).trans rfl;rw[U];rwa[aJ (d:=.int (l[k] * 1583458089)) (aJ (d:=.int l[k]) (aJ rfl rfl (jy.trans (kG (by rw[yc,cc J];rfl)))) rfl (lZ (rX ⟨'d','d'⟩))) rfl (fJ 'd')]
  have L:bt 8 (e2 aS (au 4) (e2 b7 (e2 eG (au 7) (eC (.int 7))) (eN bP (aC (au 4) aN)))) (rb l E R y f S (sh (.int (k:Nat))) (sh (.int N)) c d)=.nx (rb l E R y f S (sh (.int (k:Nat))) (sh (.int N)) (sh (pD g)) d):=by
   refine(bW (d:=pD g) (aJ (d:=.lst (f.map pD)) (e:=.int (N / 7 % ((f.length:Nat):Int))) rfl (aJ (aJ rfl rfl (kR 'd')) (bZ (z:=.int ((f.length:Nat):Int)) rfl (by show some (D.int (((f.map pD).length:Nat):Int))=_;rw[ba])) (fJ 'o')) H)).trans rfl
  have M:bt 9 (a0 4 m7 (aC (ay 1) (aC (ay 6) (aC (e2 eG (au 7) (eC (.int 31))) (aC (ay 3) aN))))) (rb l E R y f S (sh (.int (k:Nat))) (sh (.int N)) (sh (pD g)) d)=.nx (rb l E R y f S (sh (.int (k:Nat))) (sh (.int N)) (sh (pD g)) (sh (pD p))) :=
   (bW (d:=pD p) (b6 (aO rfl (aO rfl (aO (aJ rfl rfl (kR 'd')) (aO rfl rfl)))) rfl Z)).trans rfl
  have A:tE (e2 fE (e2 b7 (au 7) (eC (.int 3))) (eC (.int 0))) (rb l E R y f S (sh (.int (k:Nat))) (sh (.int N)) (sh (pD g)) (sh (pD p)))=some (decide (0<N % 3)):=b8 (aJ (aJ rfl rfl (fJ 'd')) rfl oG)
  have m:∀{i:List aD} {S':List aT},AU (rb l E R y f S (sh (.int (k:Nat))) b c d)=.nx (rb l E R y i S' (sh (.int (k:Nat))) (sh (.int N)) (sh (pD g)) (sh (pD p)))->Bq y (E.map fst) R (k+1) i S'->∃(i:List aD) (S':List aT) (q s u d':Option Sl),eH (gN 6) AU (e6 ((k:Nat):Int) (n+1)) (rb l E R y f S a b c d)=.nx (rb l E R y i S' q s u d')/\Bq y (E.map fst) R (k+(n+1)) i S':=λ{i S'} h T=>by
   have⟨G2,S2,q,s,u,d',e,r⟩:=Hm l hc n (k+1) i S' _ _ _ _ 'o' T;erw[⟨G2,S2,q,s,u,d',?_,by rw[show k+(n+1)=k+1+n by omega];rwa[r]⟩];rw[ti,show ((k:Nat):Int)+1=((k+1:Nat):Int) by omega,<-e];rwa[k4 rfl h]
  by_cases Q:0<N % 3
  ·rw[db Q]at A
   erw[m (st K (st L (st M ((jv A).trans (st (oP (ds:=f.map pD) (d:=pD p) rfl rfl (by rw[ba];omega)) ((oP (ds:=S.map aX) (d:=aX (p,g,false)) rfl (bZ (aO rfl (aO rfl (aO rfl rfl))) rfl) (by rw[ba];omega)).trans ?_)))))) (B.add 'o' tp G)];show aR.nx [_,_,_,_,some (Sl.ow (f.map pD++[pD p])),some (Sl.ow (S.map aX++[aX (p,g,false)])),_,_,_,_]=_;rw[rb,gb,gb];rfl
  ·rw[ac Q]at A
   obtain⟨o,I⟩:∃o r,E=o::r:=by cases E with|nil=>rwa[absurd rfl hne]|cons x r=>exact⟨x,r,rfl⟩
   have⟨r0,v⟩:=I;obtain⟨O,z,w⟩:∃O z,E=O++[z]:=⟨E.dropLast,E.getLast hne,(fj hne).symm⟩
   have f0:aS (eA E) (.int 0)=some (pD o.1):=by rw[v];rwa[jy.trans (kG (j:=0) rfl)]
   have fz:aS (eA E) (.int (-1))=some (pD z.1):=by rw[w,eA,gb];rwa[jy.trans (nu _ _)]
   have F:cH (tE (e2 d2 (e2 aS (au 1) (eC (.int 0))) (e2 aS (au 1) (e1 cR (eC (.int 1)))))) (tE (e2 em (au 8) (au 2))) (rb l E R y f S (sh (.int (k:Nat))) (sh (.int N)) (sh (pD g)) (sh (pD p)))=some (!decide (o.1=z.1) && decide (g∈R)) :=
    zx (b8 (aJ (aJ rfl rfl f0) (aJ rfl (jB rfl oQ) fz) (p8 (tJ o.1 z.1)))) λ_=>b8 (aJ rfl rfl (vt (AK g R)))
   by_cases C:(!decide (o.1=z.1) && decide (g∈R))=true
   ·rw[C]at F
    rw[pb,ah,zk,sf]at C;erw[m (st K (st L (st M ((cY A).trans ((jv F).trans ((oP (ds:=S.map aX) (d:=aX (z.1,g,true)) rfl (bZ (aO (aJ rfl (jB rfl oQ) fz) (aO rfl (aO rfl rfl))) rfl) (by rw[ba];omega)).trans ?_)))))) (B.also C.2 (p:=z.1) (by rw[w];simp) (by rw[v];rwa[C.1]))];show aR.nx [_,_,_,_,_,some (Sl.ow (S.map aX++[aX (z.1,g,true)])),_,_,_,_]=_;rw[rb,gb];rfl
   ·rw[bf.mpr C]at F
    rwa[m (st K (st L (st M ((cY A).trans ((cY F).trans rfl))))) B.stay]
theorem Ru(i:Ti)(n:i.length<=14):∃S,Ab [.lst (i.map D.int),eA E,.lst (R.map pD),.int y]=some (.lst (S.map aX))/\Bd y (E.map fst) R 14 S/\S.length<=14:=by
 have l:=jj.mpr hne;have m:Bq y (E.map fst) R 0 (E.map fst++R) []:=⟨⟨nofun,nofun,nofun⟩,λg j=>(jb.mp j).elim .inl λh=>.inr (.inl h),by rw[ma];omega,by cases E with|nil=>rwa[absurd rfl hne]|cons x r=>simp,ae _⟩
 have⟨o,S,a,b,c,d,e,B⟩:=Hm hE hne hl l8 i n i.length 0 (E.map fst++R) [] none none none none 'o' m
 have w:j5 (au 1) (au 2) [sN i,sh (eA E),sP R,sh (.int y),none,none,none,none,none,none]=some ((E.map fst++R).map pD):=by
  show (if (E.map λe=>pD e.1).length+(R.map pD).length<=sizeLine then some ((E.map λe=>pD e.1)++R.map pD) else none)=_;rw[la (sz (by rw[ba,ba];omega)),gb,pc];rfl
 erw[⟨S,c4 rfl (st (f:=fQ 4 (j5 (au 1) (au 2))) (ρ':=[sN i,sh (eA E),sP R,sh (.int y),some (.ow ((E.map fst++R).map pD)),none,none,none,none,none]) ?_ (st rfl (st (kP (oC (ds:=[.int (i.length:Nat)]) (aO (bZ rfl ?_) rfl) (tu 'o')) e) rfl))),B.bd.up 'o',by have:=B.sl;omega⟩]
 ·exact(NC w).trans rfl
 ·show some (D.int (((i.map D.int).length:Nat):Int))=_;rw[ba]
end
def Rv(p:aD):bI (pD p) (pD p)=true:=by rw[tL,db rfl]
def Rw(p:aD)(n:Nat):bO (n+1) (pD p)=true:=by
 rw[bO];exact ud.mpr λd a=>by have⟨t,_,rfl⟩:=va.mp a;rw[bO]
def Rx(l:List aD):fP (.lst (l.map pD)) (.lst (l.map pD))=some true:=by
 have:bO LV (.lst (l.map pD))=true:=by
  rw[show LV=8+1 from rfl,bO];exact ud.mpr λd a=>by have⟨p,_,rfl⟩:=va.mp a;rwa[Rw p 7]
 rw[NO (by rw[this];rfl),FW λd a=>by have⟨p,_,rfl⟩:=va.mp a;rwa[Rv p]]
def pk(R:List aD):D:=.er "Ring" ["ring"] [.lst ((iA R).map pD)]
def Ry(hg:∀p∈R,bA p)(nd:R.Nodup)(hne:R≠[])(hl:R.length<=1000):v6 [pk R,.lst (R.map pD)]=some (.bl true):=by
 have hb:=qM hne;have⟨p1,p2,p3⟩:=GZ nd hb
 have t1:cN (cO (tE (e1 (u5 "Ring") (ay 0)))) (cO (tE (e1 u7 (ay 0)))) [sh (pk R),sP R,none,none]=some false :=
  mM (lY (b:=true) (b8 (jB rfl (by show some (D.bl (decide (("Ring" : Str) = "Ring")))=_;rw[db rfl])))) (lY (b:=true) (b8 (jB rfl rfl)))
 have t2:tE (e1 (u8 ["Both","NoMark","NoRow","NoText","Nowhere","OutOfBook","SentHere","TwoWays"]) (ay 0)) [sh (pk R),sP R,none,none]=some false:=by
  erw[b8 (jB rfl ?_)];show some (D.bl (["Both","NoMark","NoRow","NoText","Nowhere","OutOfBook","SentHere","TwoWays"].any λn=>decide (("Ring" : Str)=n)))=_
  congr 2
 have s2:eL (dV 1 [] (iE (au 1)) (gN 0) (λ_=>some true) (a0 1 fW (aC (ay 0) aN))) [sh (pk R),sP R,none,none]=some (.lst (R.map dF)) :=
  jw (oE (ds:=R.map pD) rfl (sz (by rw[ba];omega)) (oF pD dF R λp hp=>⟨_,rfl,rfl,b6 rfl rfl (o4 (hg p hp))⟩))
 have s3:eM "list" ge (au 2) (aC (eN qy (aC (au 2) aN)) aN) [sh (pk R),sP R,sh (.lst (R.map dF)),none]=some (.int ((iz R:Nat):Int)):=by
  erw[rW (d:=.lst (R.map dF)) (ds:=[dF (R[iz R]'hb)]) rfl (aO (bZ rfl (Q5 hne)) rfl) rfl ?_]
  have:=Q4 (b:=R.drop (iz R+1)) (by rw[<-p1];rwa[hg]) p3
  rw[<-p1,p2]at this;rwa[this]
 have ga:∀ρ:av,ay 0 ρ=some (pk R)->L2.e1 (rV "ring") (ay 0) ρ=some (.lst ((iA R).map pD)):=λρ h=>jB h rfl
 erw[c4 rfl (st ((cY t1).trans rfl) (st ((cY t2).trans rfl) (st (bW s2) (st (bW s3) (eI (yP (b:=true) (kQ (b8 (jB (ga _ rfl) rfl)) (b8 (aJ (ga _ rfl) (G0 (a:=none) (b:=none) rfl rfl hl) (lX (Rx (iA R))))))))))))]
def Rz(b:m6 [A,H]=none)(c:s0 [A,H]=some (.er n ks es)):tf [A,H]=some (.er n ks es):=by
 have a:rT 2 3 2 m6 s0 (aC (ay 0) (aC (ay 1) aN)) [sh A,sh H,sh .non,none]=.nx [sh A,sh H,sh (.er n ks es),none]:=by
  delta rT;rw[show aC (ay 0) (aC (ay 1) aN) [sh A,sh H,sh .non,none]=some [A,H] from rfl];dsimp only;rw[la ⟨rfl,rfl,'d'⟩,b];dsimp only;rw[c];rfl
 rwa[c4 rfl (st (bW (d:=.non) rfl) (st a rfl))]
theorem Ho{c m:Type}(f:c->Option m):∀{l:List c}{x:c},x∈l->f x≠none->∃P s Q,l=P++s::Q/\(∀t∈P,f t=none)/\f s≠none
 |[],_,h,_=>nomatch h
 |a::l,x,h,d=>by
  cases q:f a with
  |some b=>exact⟨[],a,l,rfl,nofun,by rw[q];rwa[λz=>nomatch z]⟩
  |none =>
   rcases cb.mp h with rfl|h
   ·rwa[absurd q d]
   ·have⟨P,s,Q,e,i,j⟩:=Ho f h d
    exact⟨a::P,s,Q,by rw[e];rfl,λt g=>(cb.mp g).elim (λz=>z ▸ q) (i t),j⟩
def Hq{y:Int}{E:En}{R:List aD}{S H:List aT}(v:(E.map fst).Nodup)(w:E.length<=100)(gE:∀e∈E,bA e.1/\HP y 6 e.1)(B:Bd y (E.map fst) R 14 S)(G:Rg y R)(i:∀s∈H,bA s.1/\bA s.2.1)(A:∀s,s∈H↔s∈S\/s∈dY R (R.headD []))(hl:H.length<60):tf [.lst (E.map gW),.lst (H.map aX)]=some (pk R):=by
 have⟨O,f,l,C,m⟩:=GF i 'o';have g:∀s,s∈O↔s∈S\/s∈dY R (R.headD []):=λs=>(f s).trans (A s)
 have h:=λ{s:aT} (hs:s∈O)=>Rp gE B G g 'o' rfl hs
 have a:R≠[]:=λz=>by have:=G.l2;rw[z]at this;simp at this
 obtain⟨U,z,b⟩:∃U z,R=U++[z]:=⟨R.dropLast,R.getLast a,(fj a).symm⟩
 have hz:(z,R.headD [],false)∈O:=(g _).mpr (.inr (by rw[b,wI];simp))
 have c:(res O E (z,R.headD [],false)).2≠none:=λq=>by
  rcases h hz with r|r
  ·refine r.2 ?_
   show R.headD []∈R
   cases R with
   |nil=>rwa[absurd rfl a]
   |cons x r=>rwa[da]
  ·rw[q]at r;cases r
 obtain⟨P,s,Q,e,n,hs⟩:∃P s Q,O=P++s::Q/\(∀t∈P,(res O E t).2=none)/\(res O E s).2≠none:=Ho (λt=>(res O E t).2) hz c;have d:s∈O:=by rw[e];simp
 have u:(res O E s).2=some (("Ring",["ring"],[.lst ((iA R).map pD)]):Er):=(h d).resolve_left λq=>hs q.1
 have⟨o,p⟩:=Re v w l 'o' (λt j=>i t ((f t).mp j)) (m H (λ_=>Iff.rfl) 'o') e n u;rwa[Rz o p]
theorem Hr:∀{r c:List D},c.Nodup->(fV c r).Nodup
 |[],_,h=>h
 |d::r,c,h=>by
  rw[fV];erw[Hr ?_];split
  ·rwa[h]
  ·rename_i hn
   rwa[jc.mpr ⟨h,'m',λa ha b e z=>hn (by rw[<-ya.mp e,<-z];rwa[ha])⟩]
theorem Hs:∀{r a:List D},x∈fV a r↔x∈a\/x∈r
 |[],a=>⟨.inl,λh=>h.elim id λz=>nomatch z⟩
 |d::r,a=>by
  rw[fV,Hs];split
  ·rename_i b
   exact⟨λh=>h.imp_right (ia _),λh=>h.elim .inl λz=>(cb.mp z).elim (λq=>.inl (q ▸ b)) .inr⟩
  ·rw[jb,ya,cb,or_assoc]
def RA{A O:List aT}(h:∀s,s∈O↔s∈A)(j:O.Nodup)(hl:A.length<=60):qD [2,2,1] [.lst (A.map aX)]=some (.int ((O.length:Nat):Int)):=by
 delta qD;dsimp only;rw[la ⟨ud.mpr λd c=>by have⟨s,_,rfl⟩:=va.mp c;exact Gw _ _ _,by rw[ba];rwa[hl]⟩];have f:(O.map aX).Nodup:=zn.mpr (j.imp λhn e=>hn (GC e))
 have m:∀d,d∈fV [] (A.map aX)↔d∈O.map aX:=λd=>by
  rw[Hs,va,va];exact⟨λz=>z.elim (λq=>nomatch q) λ⟨s,a,b⟩=>⟨s,(h s).mpr a,b⟩,λ⟨s,a,b⟩=>.inr ⟨s,(h s).mp a,b⟩⟩
 have g:=qJ (Hr (r:=A.map aX) mh) λd c=>(m d).mp c
 have i:=qJ f λd c=>(m d).mpr c
 rw[ba]at g i;rw[show (fV [] (A.map aX)).length=O.length by omega]
def RB(i:Int):v1 [.int i]=some (.bl true):=c4 rfl (eI rfl)
def Ht(p:aD)(E:En):iM (pD p) (eA E)=some (decide (p∈E.map fst)):=by
 have:=AK p (E.map fst)
 rw[pc]at this;rwa[this]
abbrev Hu:av->Te:=cN (tE (e2 d3 (au 7) (au 2))) (cN (cO (tE (a0 1 v1 (aC (ay 8) aN)))) (cH (tE (e2 em (au 5) (au 2))) (cN (tE (e2 d2 (au 7) (au 5))) (tE (e2 d2 (au 8) (eC (.int 1)))))))
abbrev Hv:av->Te:=cH (tE (e2 em (au 5) (au 3))) (cN (tE (e2 d2 (au 7) (e2 aS (au 2) (eC (.int 0))))) (tE (e2 d2 (au 8) (e2 bG (e2 pO (eN bP (aC (au 3) aN)) (eM "list" ge (au 3) (aC (au 5) aN))) (eC (.int 1))))))
def RC:av->aR:=aP (bS Hu (bK (eC (.bl false))) cC) (bS Hv (bK (eC (.bl false))) cC)
abbrev ro(a b:Option Sl)(E:En)(R:List aD)(s:aT)(e:aD)(n:Nat):av:=[a,b,sh (eA E),sP R,sh (pD s.1),sh (pD s.2.1),sh (.bl s.2.2),sh (pD e),sh (.int ((n:Nat):Int))]
noncomputable abbrev RD:D->av->Option av:=gT 5 (bJ (gN 4) (bJ (gN 5) (bJ (gN 6) (bJ (gN 7) (bJ (gN 8) dO)))))
section
variable {R:List aD}{O:List aT}(G:Rg y R)(hd:∃e r,E=e::r/\e.1=d)(hr:∀s∈O,∃e n,res O E s=(.tup [pD s.1,pD s.2.1,.bl s.2.2,pD e,.int ((n:Nat):Int)],none)/\e∈E.map fst/\(s.2.1∈E.map fst->e=s.2.1/\n=1)/\∀R1 R2,R=R1++s.2.1::R2->e=d/\n=R2.length+2)
include G hd hr
theorem Hw(a b:Option Sl):∀(l:List aT) (g h i m o:Option Sl),(∀s∈l,s∈O)->∃r u v w x,eH RD RC (l.map λs=>(res O E s).1) [a,b,sh (eA E),sP R,g,h,i,m,o]=.nx [a,b,sh (eA E),sP R,r,u,v,w,x]
 |[],g,h,i,m,o,_=>⟨g,h,i,m,o,rfl⟩
 |s::l,g,h,i,m,o,hs=>by
  have⟨e,n,p,H,I,J⟩:=hr s (hs s da);have⟨r,u,v,w,x,K⟩:=Hw a b l (sh (pD s.1)) (sh (pD s.2.1)) (sh (.bl s.2.2)) (sh (pD e)) (sh (.int ((n:Nat):Int))) λt F=>hs t (ia _ F)
  erw[⟨r,u,v,w,x,?_⟩];rw[oa,<-K,show (res O E s).1=.tup [pD s.1,pD s.2.1,.bl s.2.2,pD e,.int ((n:Nat):Int)] by rw[p]]
  have M:Hu (ro a b E R s e n)=some false:=by
   erw[mM ((b8 (aJ rfl rfl (yO (Ht e E)))).trans (by rw[db H];rfl)) (mM (lY (b:=true) (b8 (b6 rfl rfl (RB _)))) ?_)];have q:=b8 (aJ (ρ:=(ro a b E R s e n)) (fa:=au 5) (fb:=au 2) rfl rfl (vt (Ht s.2.1 E)));by_cases c:s.2.1∈E.map fst
   ·have⟨y,L⟩:=I c
    rw[db c]at q;erw[kQ q (mM ((b8 (aJ rfl rfl (p8 (tJ e s.2.1)))).trans (by rw[db y];rfl)) ((b8 (aJ rfl rfl (p8 mQ))).trans ?_))];rw[db 'o'];rfl
   ·rw[ac c]at q
    rwa[mO q]
  have N:Hv (ro a b E R s e n)=some false:=by
   have q:=b8 (aJ (ρ:=(ro a b E R s e n)) (fa:=au 5) (fb:=au 3) rfl rfl (vt (AK s.2.1 R)));by_cases c:s.2.1∈R
   ·have⟨A,R2,f⟩:=og c
    have⟨y,L⟩:=J A R2 f;have⟨T,U,B,c6⟩:=hd;have C:=G.nd;rw[f]at C;have P:aS (eA E) (.int 0)=some (pD d):=by rw[B,<-c6];rwa[jy.trans (kG (j:=0) rfl)]
    have Q:ge (.lst (R.map pD)) [pD s.2.1]=some (.int ((A.length:Nat):Int)):=by rw[f];rwa[wE λz=>(jc.mp C).2.2 _ z _ da rfl]
    rw[db c]at q;erw[kQ q (mM ((b8 (aJ rfl (aJ rfl rfl P) (p8 (tJ e d)))).trans (by rw[db y];rfl)) ((b8 (aJ rfl (aJ (aJ (bZ (z:=.int ((R.length:Nat):Int)) rfl (by show some (D.int (((R.map pD).length:Nat):Int))=_;rw[ba])) (rW (d:=.lst (R.map pD)) (ds:=[pD s.2.1]) rfl rfl rfl Q) D0) rfl iS) (p8 mQ))).trans ?_))]
    have:R.length=A.length+(R2.length+1):=by rw[f];simp
    rw[db 'o'];rfl
   ·rw[ac c]at q
    rwa[mO q]
  rwa[k4 rfl (st ((cY M).trans rfl) ((cY N).trans rfl))]
theorem RE:v7 [.lst (O.map λs=>(res O E s).1),.int ((O.length:Nat):Int),eA E,.lst (R.map pD)]=some (.bl true):=by
 have⟨c,f,g,h,i,e⟩:=Hw G hd hr (sh (.lst (O.map λs=>(res O E s).1))) (sh (.int ((O.length:Nat):Int))) O none none none none none λs hs=>hs
 have a:cN (cO (tE (e1 (n7 "list") (au 0)))) (tE (e2 d2 (eN bP (aC (au 0) aN)) (au 1))) [sh (.lst (O.map λs=>(res O E s).1)),sh (.int ((O.length:Nat):Int)),sh (eA E),sP R,none,none,none,none,none]=some false:=by
  erw[mM (lY (b:=true) (b8 (jB (d:=.lst (O.map λs=>(res O E s).1)) rfl rfl))) ((b8 (aJ (bZ (z:=.int ((O.length:Nat):Int)) rfl ?_) rfl (p8 mQ))).trans ?_)]
  ·show some (D.int (((O.map λs=>(res O E s).1).length:Nat):Int))=_;rw[ba]
  ·rw[db rfl];rfl
 rwa[c4 rfl (st ((cY a).trans rfl) (st (kP (p7 rfl rfl) e) rfl))]
end
def RF{y:Int}{E:En}{R:List aD}{S A:List aT}(o:(E.map fst).Nodup)(p:E.length<=100)(gE:∀e∈E,bA e.1/\HP y 6 e.1)(B:Bd y (E.map fst) R 14 S)(G:Rg y R)(h:∃e r,E=e::r/\e.1=d)(i:∀s∈A,bA s.1/\bA s.2.1)(u:∀s,s∈A↔s∈S\/s∈dY R d)(hl:A.length<60):∃O:List aT,m6 [.lst (E.map gW),.lst (A.map aX)]=some (.lst (O.map λs=>(res O E s).1))/\qD [2,2,1] [.lst (A.map aX)]=some (.int ((O.length:Nat):Int))/\v7 [.lst (O.map λs=>(res O E s).1),.int ((O.length:Nat):Int),eA E,.lst (R.map pD)]=some (.bl true):=by
 have⟨O,b,f,v,l⟩:=GF i 'o';have m:∀s,s∈O↔s∈S\/s∈dY R d:=λs=>(b s).trans (u s)
 have⟨w,x,a,c6⟩:=id h;have c:d∈E.map fst:=by rw[a,<-c6];simp
 have g:=λs (hs:s∈O)=>Rq gE B G m 'o' c (by rw[a,<-c6];rfl) hs
 erw[⟨O,Rc o p f 'o' (λt j=>i t ((b t).mp j)) (l A (λ_=>Iff.rfl) 'o') (λs hs=>by have⟨e,n,q,_⟩:=g s hs;rw[q]),RA b f 'o',RE G h g⟩]
noncomputable def qP(R:List aD)(k:Nat):aT:=(if k=0 then R.getLastD [] else R.getD (k - 1) [],R.getD k [],false)
theorem Hx:∀{u:List aD}{i:Nat},i<u.length->(dY u d)[i]?=some (u.getD i [],(u++[d]).getD (i+1) [],false)
 |c::u,0,_=>by cases u <;> rfl
 |c::u,i+1,h=>by
  show (dY u d)[i]?=_;rw[Hx (xl h)];rfl
theorem qQ:∀{u:List aD},(dY u d).length=u.length
 |[]=>rfl
 |c::u=>qe (·+1) qQ
def RG:(range (U++[z]).length).map (qP (U++[z]))=(z,(U++[z]).headD [],false)::dY U z:=by
 apply cm;intro i;rw[yc]
 cases i with
 |zero =>
  rw[zp 'm'];show some ((U++[z]).getLastD [],(U++[z]).getD 0 [],false)=_;rw[show (U++[z]).getLastD []=z by simp]
  cases U <;> rfl
 |succ i =>
  rw[pd];by_cases h:i<U.length
  ·rw[zp 's',Hx h]
   show some ((if i+1=0 then _ else (U++[z]).getD (i+1 - 1) []),_,false)=_;rw[wa 'o',Nat.add_sub_cancel,bb,ke h,<-bb]
  ·rw[kh (by rw[bh,ma,nb];omega),kh (by rw[qQ];omega)];rfl
def RH(h:∀x∈ms,HP y 6 x.1)(d:p∈jU ms):HP y 6 p:=by
 have⟨x,b,c⟩:=wr.mp d;have⟨k,_,rfl⟩:=va.mp c;rwa[λa ha=>h x b a (mf ha)]
def RI{y:Int}{E:En}{R:List aD}{S:List aT}(gE:∀e∈E,bA e.1/\HP y 6 e.1)(B:Bd y (E.map fst) R 14 S)(G:Rg y R):∀s∈S,bA s.1/\bA s.2.1:=λs hs=>by
 have a:∀{p:aD},p∈E.map fst->bA p:=λ{p} h=>by have⟨e,he,rfl⟩:=va.mp h;exact(gE e he).1
 have b:∀{p:aD},p∈R->bA p:=λ{p} h=>by have⟨_,_,_,t⟩:=G.tp p h;rwa[t.1]
 cases c:s.2.2 with
 |true=>have⟨d,f,_⟩:=B.al s hs c;exact⟨a f,b d⟩
 |false =>
  have⟨n,_,_,t,r⟩:=B.fr s hs c;erw[⟨t.1,?_⟩];rcases r with r|r|⟨_,_,_,g,_⟩
  ·rwa[a r]
  ·rwa[b r]
  ·rwa[g.1]
def Hy(c:∀p∈R,bA p)(f:bA d):∀s∈dY R d,bA s.1/\bA s.2.1:=λs hs=>by
 have⟨_,a,b,e,r⟩:=o9 hs;erw[⟨c _ (by rw[e];simp),?_⟩];rw[r]
 cases b with
 |nil=>rwa[f]
 |cons x b=>rwa[c x (by rw[e];simp)]
abbrev lz(ns:Ti)(y:Int)(a b c d e f g h:Option Sl):av:=[sN ns,sh (.int y),a,b,c,d,e,f,g,h]
def RJ(ns:Ti)(hl:ns.length<=63):qG [.lst (ns.map D.int)]=some (.bl true):=by
 generalize hy:mV ns 0=y;generalize hc:mV ns 1=c;generalize hc2:mV ns 2=c2;have r1:kC [.lst (ns.map D.int),.int 0]=some (.int y):=by rw[<-hy];rwa[Aj ns 0]
 have r0:kC [.lst (ns.map D.int),.int 1]=some (.int c):=by rw[<-hc];rwa[Aj ns 1]
 have J:kC [.lst (ns.map D.int),.int 2]=some (.int c2):=by rw[<-hc2];rwa[Aj ns 2]
 have⟨ms,r2,Q,lm,nm⟩:=QN c y;have hp:∀x∈ms,bA x.1:=λx I=>(Q x I).1.p
 have⟨E,r3,q,o,w⟩:=QD (λx I=>(Q x I).1) 'o' nm
 have K:E.length<=100:=by
  have:=qJ q (m:=jU ms) λp N=>by
   have⟨e,he,rfl⟩:=va.mp N;rwa[o e he]
  rw[ba]at this
  have:=Aw hp
  omega
 have F:∀e∈E,bA e.1/\HP y 6 e.1:=λe he=>⟨Gj hp (o e he),RH (λx I=>(Q x I).2) (o e he)⟩
 obtain⟨v,T,C⟩:∃v T,E=v::T:=by
  cases E with
  |nil=>rwa[absurd rfl w]
  |cons x r=>exact⟨x,r,rfl⟩
 have⟨R,r4,G⟩:=Rt F w K c2;generalize L:(ns.drop 3).take 14=cs;have X:cs.length<=14:=by rw[<-L,de];omega
 have s1:jN (.lst (ns.map D.int)) (some 3) (some 17)=some (.lst (cs.map D.int)):=by rw[<-L];rwa[OS (l:=ns) (a:=3) (b:=17) 'd']
 have⟨S,r5,B,lS⟩:=Ru F w K G.l8 cs X;have l8:=G.l8;have n:R≠[]:=λz=>by have:=G.l2;rw[z]at this;simp at this
 obtain⟨U,z,i⟩:∃U z,R=U++[z]:=⟨R.dropLast,R.getLast n,(fj n).symm⟩
 have lU:U.length+1=R.length:=by rw[i];simp
 have M:∀p∈R,bA p:=λp h=>by have⟨_,_,_,t⟩:=G.tp p h;rwa[t.1]
 have Y:R.headD []∈R:=by cases R with|nil=>rwa[absurd rfl n]|cons x r=>rwa[da]
 generalize u:(z,R.headD [],false)::dY U z=RS;have lRS:RS.length=R.length:=by rw[<-u,zb,qQ];rwa[lU]
 have Z:∀s,s∈RS↔s∈dY R (R.headD []):=λs=>by
  rw[<-u]
  conv=>rhs;rw[i]
  rw[wI,cb,jb,ya,<-i];rwa[or_comm]
 have⟨a,ha⟩:=ag (wg (c2 / 7) (show (((S.length:Nat):Int)+1)≠0 by omega));generalize hH:S.take a++RS++S.drop a=H
 have lH:H.length=S.length+RS.length:=by
  rw[<-hH,ma,ma,de,pj];omega
 have mH:∀s,s∈H↔s∈S\/s∈dY R (R.headD []):=λs=>by
  rw[<-hH,jb,jb,Z];constructor
  ·rintro((h|h)|h)
   ·rwa[.inl (mf h)]
   ·rwa[.inr h]
   ·rwa[.inl (uh h)]
  ·rintro(h|h)
   ·rw[<-oo a S]at h
    rcases jb.mp h with h|h
    ·rwa[.inl (.inl h)]
    ·rwa[.inr h]
   ·rwa[.inl (.inr h)]
 have gS:=RI F B G;have gH:∀s∈H,bA s.1/\bA s.2.1:=λs hs=>((mH s).mp hs).elim (gS s) (Hy M (M _ Y) s)
 have w1:=Hq q K F B G gH mH 'o';have w2:=Hq (H:=H.reverse) q K F B G (λs hs=>gH s (yo.mp hs)) (λs=>yo.trans (mH s)) (by rw[aq];omega);have so:=Ry M G.nd n 'o';generalize hA:S++dY U z++[(z,v.1,false)]=A;have lA:A.length=S.length+R.length:=by rw[<-hA,ma,ma,qQ,nb];omega
 have mA:∀s,s∈A↔s∈S\/s∈dY R v.1:=λs=>by
  rw[<-hA,i,wI,qf,jb]
 have⟨O,o1,o2,o3⟩:=RF q K F B G ⟨v,T,C,rfl⟩ (λs hs=>((mA s).mp hs).elim (gS s) (Hy M (F v (by rw[C];rwa[da])).1 s)) mA 'o'
 have t3:∀ρ:av,au 2 ρ=some (.lst (E.map gW))->eL (dV 1 [] (iE (au 2)) (gN 0) (λ_=>some true) (e2 aS (au 0) (eC (.int 0)))) ρ=some (eA E):=λρ h =>
  jw (oE (ds:=E.map gW) (p7 h rfl) (sz (by rw[ba];omega)) (oF gW (λe=>pD e.1) E λe _=>⟨[sh (gW e)],rfl,rfl,aJ rfl rfl (NL.trans (kG (j:=0) rfl))⟩))
 have rsE:(range R.length).map (qP R)=RS:=by
  rw[<-u]
  conv=>lhs;rw[i]
  rw[RG,<-i]
 have t6:∀a b c d e f g:Option Sl,eL (dV 1 [4] (iR jl (aC (eN bP (aC (au 4) aN)) aN)) (gN 0) (λ_=>some true) (eN cP (aC (e2 aS (au 1) (e2 pO (au 0) (eC (.int 1)))) (aC (e2 aS (au 1) (au 0)) (aC (eC (.bl false)) aN))))) [a,b,c,d,sP R,e,f,g,none,none]=some (.lst (RS.map aX)):=λa b c d e f g=>by
  refine(jw (oE (ds:=e6 ((0:Nat):Int) R.length) (oC (ds:=[.int (R.length:Nat)]) (aO (bZ rfl (by show some (D.int (((R.map pD).length:Nat):Int))=_;rw[ba])) rfl) (tu 'o')) (sz (by delta e6;rw[ba,bh];omega)) (oF (λk:Nat=>D.int (((0:Nat):Int)+(k:Int))) (λk=>aX (qP R k)) (range R.length) λk P=>⟨[sh (.int (((0:Nat):Int)+(k:Int))),sP R],rfl,rfl,?_⟩))).trans ?_
  ·have P:=uf.mp P
   have at_:∀{j:Nat},j<R.length->d1 (R.map pD) ((j:Nat):Int)=some (pD (R.getD j [])):=λ{j} hj=>kG (by rw[yc,bb,cc hj];rfl)
   have g1:aS (.lst (R.map pD)) (.int (((0:Nat):Int)+(k:Int) - 1))=some (pD (qP R k).1):=by
    rw[jy];delta qP;by_cases h0:k=0
    ·subst h0
     rw[la rfl,i,show (U++[z]).getLastD []=z by simp,gb];rwa[nu _ _]
    ·rw[wa h0,show ((0:Nat):Int)+(k:Int) - 1=((k - 1:Nat):Int) by omega]
     rwa[at_ 'o']
   have g2:aS (.lst (R.map pD)) (.int (((0:Nat):Int)+(k:Int)))=some (pD (qP R k).2.1):=by
    rw[jy,show ((0:Nat):Int)+(k:Int)=((k:Nat):Int) by omega];rwa[at_ P]
   rwa[bZ (aO (aJ rfl (aJ rfl rfl D0) g1) (aO (aJ rfl rfl g2) (aO rfl rfl))) rfl]
  ·rw[<-rsE,pc];rfl
 have t7:∀b c d e f g:Option Sl,e2 b7 (e2 eG (a0 2 kC (aC (ay 0) (aC (eC (.int 2)) aN))) (eC (.int 7))) (e2 bG (eN bP (aC (au 5) aN)) (eC (.int 1))) [sN ns,b,c,d,e,sS S,f,g,none,none]=some (.int ((a:Nat):Int)):=λb c d e f g=>by
  refine(aJ (aJ (b6 (aO rfl (aO rfl rfl)) rfl J) rfl (kR 'd')) (aJ (bZ (z:=.int ((S.length:Nat):Int)) rfl (by show some (D.int (((S.map aX).length:Nat):Int))=_;rw[ba])) rfl iS) (fJ 'o')).trans ?_;rw[ha]
 have t8:∀b c d e f:Option Sl,e2 bG (e2 bG (cv (au 5) oN (oS (au 7))) (au 6)) (cv (au 5) (oS (au 7)) oN) [b,c,d,e,f,sS S,sS RS,sh (.int ((a:Nat):Int)),none,none]=some (.lst (H.map aX)):=λb c d e f=>by
  refine(aJ (e:=.lst ((S.drop a).map aX)) (aJ (d:=.lst ((S.take a).map aX)) ?_ rfl (rY (sz (by rw[ba,ba,de];omega)))) ?_ (rY (sz (by rw[ma,ba,ba,ba,de,pj];omega)))).trans ?_
  ·show some (D.lst (dN (S.map aX) none (some ((a:Nat):Int))))=_
   rw[vv,xq]
  ·show some (D.lst (dN (S.map aX) (some ((a:Nat):Int)) none))=_
   rw[yT,uu]
  ·rw[<-hH,gb,gb]
 have t9:∀b c d e f:Option Sl,e2 bG (e2 bG (au 5) (cv (au 6) (oS (eC (.int 1))) oN)) (eN f7 (aC (eN cP (aC (e2 aS (au 4) (e1 cR (eC (.int 1)))) (aC (e2 aS (au 3) (eC (.int 0))) (aC (eC (.bl false)) aN)))) aN)) [b,c,d,sh (eA E),sP R,sS S,sS RS,e,f,none]=some (.lst (A.map aX)):=λb c d e f=>by
  have f0:aS (eA E) (.int 0)=some (pD v.1):=by rw[C];rwa[jy.trans (kG (j:=0) rfl)]
  have fz:aS (.lst (R.map pD)) (.int (-1))=some (pD z):=by rw[i,gb];rwa[jy.trans (nu _ _)]
  refine(aJ (e:=.lst [aX (z,v.1,false)]) (aJ (e:=.lst ((dY U z).map aX)) rfl ?_ (rY (sz (by rw[ba,ba,qQ];omega)))) (bZ (aO (bZ (aO (aJ rfl (jB rfl oQ) fz) (aO (aJ rfl rfl f0) (aO rfl rfl))) rfl) rfl) rfl) (rY (sz (by rw[ma,ba,ba,qQ];show _+1<=_;omega)))).trans ?_
  ·show some (D.lst (dN (RS.map aX) (some ((1:Nat):Int)) none))=_
   rw[yT,<-uu,<-u];rfl
  ·rw[<-hA,gb,gb];rfl
 have tr:∀ρ:av,au 8 ρ=some (.lst (H.map aX))->eL (wN vA (aC (au 8) aN)) ρ=some (.lst (H.reverse.map aX)):=λρ h=>by
  refine(jw (xs:=(H.map aX).reverse) ?_).trans (by rw[List.map_reverse]);delta wN;rw[aO h rfl];rfl
 have mm:aC (e2 vE (eN f7 (aC (eC (.bl false)) aN)) (eC (.int 5))) (aC (eC (.int 2)) (aC (eC (.int 7)) (aC (a0 2 v4 (aC (a0 2 kC (aC (ay 0) (aC (eC (.int 1)) aN))) (aC (ay 1) aN))) aN))) (lz ns y none none none none none none none none)=some [.lst ([false,false,false,false,false].map D.bl),.int 2,.int 7,.lst (ms.map bL)] :=
  aO (aJ (bZ rfl rfl) rfl rfl) (aO rfl (aO rfl (aO (b6 (aO (b6 rfl rfl r0) rfl) rfl r2) rfl)))
 erw[c4 rfl (st (bW (b6 rfl rfl r1)) (st (bW (b6 mm rfl r3)) (st (bW (t3 _ rfl)) (st (bW (b6 (aO rfl (aO (b6 rfl rfl J) (aO rfl rfl))) rfl r4)) (st (bW (b6 (aO (d:=.lst (cs.map D.int)) ?_ (aO rfl (aO rfl (aO rfl rfl)))) rfl r5)) (st (bW (t6 _ _ _ _ _ _ _)) (st (bW (t7 _ _ _ _ _ _)) (st (bW (t8 _ _ _ _ _)) (st ((cY (lY (b:=true) (b8 (b6 (aO (b6 rfl rfl w1) (aO rfl rfl)) rfl so)))).trans rfl) (st (bW (t9 _ _ _ _ _)) (st ((cY (lY (b:=true) (b8 (b6 (aO (b6 rfl rfl o1) (aO (bZ rfl o2) (aO rfl (aO rfl rfl)))) rfl o3)))).trans rfl) (eI (b6 (aO (b6 (aO rfl (aO (tr _ rfl) rfl)) rfl w2) (aO rfl rfl)) rfl so)))))))))))))];rwa[s1]
end K21
set_option maxHeartbeats 0
namespace K21
open PySem L2
abbrev AV:Stmt:=bT 13
abbrev AW:Stmt:=bT 14
abbrev AX:Stmt:=bT 15
abbrev AY:Stmt:=bT 17
abbrev AZ:Stmt:=bT 18
abbrev A0:Stmt:=bT 19
abbrev A1:Stmt:=bT 20
abbrev A2:Stmt:=bT 21
abbrev A3:Stmt:=bT 22
abbrev A4:Stmt:=bT 24
abbrev A5:Stmt:=bT 25
abbrev A6:Stmt:=bT 26
abbrev A7:Stmt:=bT 27
abbrev A8:Stmt:=bT 28
abbrev A9:Stmt:=bT 29
abbrev Ba:Stmt:=bT 30
abbrev Bb:Stmt:=bT 31
abbrev Bc:Stmt:=bT 33
abbrev Be:Stmt:=bT 35
abbrev Bf:Stmt:=bT 36
abbrev Bg:Stmt:=bT 37
abbrev Bh:Stmt:=bT 39
abbrev Bi:Stmt:=bT 40
abbrev Bj:Stmt:=bT 41
abbrev Bk:Stmt:=bT 43
abbrev Bl:Stmt:=bT 44
abbrev Bm:Stmt:=bT 45
abbrev Bn:Stmt:=bT 46
abbrev Bo:Stmt:=bT 47
abbrev Bp:Stmt:=bT 48
abbrev Br:Stmt:=bT 49
abbrev Bt:Stmt:=bT 50
abbrev Bu:Stmt:=bT 51
abbrev Bv:Stmt:=bT 52
abbrev Bw:Stmt:=bT 53
abbrev qR:Stmt:=bT 54
def Hz:az ["head","bar"] ["head"] (bw AV):=‹0›
def RK:az ["head"] ["head"] (bw AW):=‹0›
def RL:az ["path"] ["path"] (bw AX):=‹0›
def RM:az ["mark","many"] ["mark","many"] (bw AY):=‹0›
def pu:az ["hands","found","hand","path","first","last","most"] ["hands"] (bw AZ):=‹0›
def qS:az ["hands","found","hand","path","goal","also"] ["hands"] (bw A0):=‹0›
def RN:az ["path"] ["path"] (bw A1):=‹0›
def RO:az ["mark"] ["mark"] (bw A2):=‹0›
def RP:az ["see"] ["see"] (bw A3):=‹0›
def nz:az ["rows","sees","ordered","has_pages","sent"] ["rows","sees"] (bw A4):=‹0›
def wJ:az ["rows","has_pages","path","found"] ["rows"] (bw A5):=‹0›
def tU:az ["ordered","sent","path","goal","also"] ["ordered"] (bw A6):=‹0›
def iZ:az ["see","has_pages","sent","path","goal","also","come","ring","end"] ["see","has_pages","sent"] (bw A7):=‹0›
def HA:az ["path","goal","also","has_pages","sent"] ["path","goal","also","has_pages","sent"] (bw A8):=‹0›
def Bx:az ["goal","sent","come","seen"] ["goal","sent"] (bw A9):=‹0›
def RQ:az ["come"] ["come"] (bw Ba):=‹0›
def HB:az ["ring","start"] ["ring"] (bw Bb):=‹0›
def nA:az ["book","most","first","told","page","filled","new"] ["book","most","first"] (bw Bc):=‹0›
def wK:az ["numbers","marks","strong","told","page"] ["numbers","marks"] (bw Be):=‹0›
def pv:az ["numbers","marks","strong","path","first","last","most","page"] ["numbers","marks"] (bw Bf):=‹0›
def RT:az ["stretch","page","is_strong"] ["stretch","page","is_strong"] (bw Bg):=‹0›
def wL:az ["book","most","first","marks","ordered","numbers","found"] ["book","most","first","marks"] (bw Bh):=‹0›
def HC:az ["ordered","many","mark"] ["ordered","many"] (bw Bi):=‹0›
def tW:az ["ordered","found","mark","path","many"] ["ordered"] (bw Bj):=‹0›
def RU:az ["_law_found"] ["_law_found"] (bw Bk):=‹0›
def RV:az ["_law_script","_law_k"] ["_law_script","_law_k"] (bw Bl):=‹0›
def jW:az ["_law_cell","_law_k","_law_signs","_law_base","_law_j","_law_at","_law_head","_law_way"] ["_law_cell","_law_k"] (bw Bm):=‹0›
def HE:az ["_law_number","_law_by","_law_many"] ["_law_number","_law_by"] (bw Bn):=‹0›
def By:az ["_law_there","_law_k","_law_number","_law_by","_law_head","_law_base"] ["_law_there","_law_k","_law_number","_law_by"] (bw Bo):=‹0›
def wM:az ["_law_cell","_law_by","_law_marks_here","_law_k","_law_number"] ["_law_cell","_law_by"] (bw Bp):=‹0›
def Bz:az ["_law_there","_law_cell","_law_by","_law_ring","_law_k"] ["_law_there","_law_cell","_law_by"] (bw Br):=‹0›
def pw:az ["_law_cells","_law_there","_law_ring","_law_by","_law_goals","_law_sees","_law_k","_law_number","_law_goal","_law_path"] ["_law_cells","_law_there","_law_ring","_law_by"] (bw Bt):=‹0›
def BA:az ["_law_rows","_law_sees","_law_told","e"] ["_law_rows","_law_sees"] (bw Bu):=‹0›
def BB:az ["_law_told","_law_ring","_law_ranks","_law_at"] ["_law_told","_law_ring"] (bw Bv):=‹0›
def qT:az ["_law_found","_law_count","_law_there","_law_ring","_law_path","_law_goal","_law_also","_law_end","_law_steps"] ["_law_found","_law_count","_law_there","_law_ring"] (bw Bw):=‹0›
def lB:az ["_law_script","_law_by","_law_rows","_law_there","_law_ring","_law_sees","_law_round_sees","_law_at","_law_handed","_law_opened"] ["_law_script"] (bw qR):=‹0›
noncomputable abbrev BC:Str:="abcdefghijklmnopqrstuvwxyzABCDEFGHIJKLMNOPQRSTUVWXYZ0123456789"
abbrev BD:Stmt:=(jD (bT 4)).getD 0 (.Pass ⟨0,0,0,0⟩)
def RW:az ["self","path"] ["self","path"] (bw BD):=‹0›
abbrev BE:Stmt:=(jD (bT 7)).getD 0 (.Pass ⟨0,0,0,0⟩)
def RX:az ["self","path","goal"] ["self","path","goal"] (bw BE):=‹0›
abbrev HF:Stmt:=(jD (bT 2)).getD 0 (.Pass ⟨0,0,0,0⟩)
abbrev BF:Stmt:=(jD (bT 6)).getD 0 (.Pass ⟨0,0,0,0⟩)
def RY:az ["self","ring"] ["self","ring"] (bw BF):=‹0›
abbrev BG:Stmt:=(jD (bT 3)).getD 0 (.Pass ⟨0,0,0,0⟩)
def RZ:az ["self","path"] ["self","path"] (bw BG):=‹0›
abbrev BH:Stmt:=(jD (bT 5)).getD 0 (.Pass ⟨0,0,0,0⟩)
def R0:az ["self","path"] ["self","path"] (bw BH):=‹0›
set_option genInjectivity false in
structure Adr where
 zb:Addr
 yj:FuncData
 zc:Addr
 yk:FuncData
 zm:Addr
 yl:FuncData
 zn:Addr
 ym:FuncData
 zo:Addr
 yn:FuncData
 zp:Addr
 yo:FuncData
 zq:Addr
 yp:FuncData
 zr:Addr
 yq:FuncData
 zs:Addr
 yr:FuncData
 ze:Addr
 ya:FuncData
 zt:Addr
 ys:FuncData
 zu:Addr
 yt:FuncData
 zf:Addr
 yb:FuncData
 zg:Addr
 yc:FuncData
 zv:Addr
 yu:FuncData
 zw:Addr
 yv:FuncData
 zx:Addr
 yw:FuncData
 zy:Addr
 yx:FuncData
 zz:Addr
 yy:FuncData
 zA:Addr
 yz:FuncData
 zB:Addr
 yA:FuncData
 zC:Addr
 yB:FuncData
 zD:Addr
 yC:FuncData
 zE:Addr
 yD:FuncData
 zF:Addr
 yE:FuncData
 zG:Addr
 yF:FuncData
 zH:Addr
 yG:FuncData
 zI:Addr
 yH:FuncData
 zJ:Addr
 yI:FuncData
 zK:Addr
 yJ:FuncData
 zL:Addr
 yK:FuncData
 zM:Addr
 yL:FuncData
 zN:Addr
 yM:FuncData
 zO:Addr
 yN:FuncData
 zP:Addr
 yO:FuncData
 zQ:Addr
 yP:FuncData
 yR:Tok
 zh:Addr
 zV:Addr
 yd:FuncData
 zR:Addr
 yS:Tk
 zS:Addr
 yT:Tk
 zT:Addr
 yU:Tk
 zi:Addr
 zW:Addr
 ye:FuncData
 zj:Addr
 yf:Addr
 yQ:FuncData
 za:Addr
 zU:Addr
 zX:Addr
 yg:FuncData
 zk:Addr
 zY:Addr
 yh:FuncData
 zl:Addr
 zZ:Addr
 yi:FuncData
structure Txt(K:Fg1)(mg:Str->Ta)(t:Adr):Prop where
 xu:Df K mg "shown" AV ["head"] t.zb t.yj
 xO:Df K mg "key_of" AW ["head"] t.zc t.yk
 yW:Df K mg "rank" AX ["path"] t.zm t.yl
 xP:Df K mg "fits" AY ["mark","many"] t.zn t.ym
 xj:Df K mg "poured" AZ ["hands"] t.zo t.yn
 yX:Df K mg "poured_sees" A0 ["hands"] t.zp t.yo
 xk:Df K mg "copied" A1 ["path"] t.zq t.yp
 xv:Df K mg "mark_rank" A2 ["mark"] t.zr t.yq
 xw:Df K mg "see_rank" A3 ["see"] t.zs t.yr
 xa:Df K mg "ways" A4 ["rows","sees"] t.ze t.ya
 xx:Df K mg "pages_by_path" A5 ["rows"] t.zt t.ys
 xy:Df K mg "goals_by_path" A6 ["ordered"] t.zu t.yt
 yY:Df K mg "way_of_see" A7 ["see","has_pages","sent"] t.zf t.yb
 yZ:Df K mg "refuse_start" A8 ["path","goal","also","has_pages","sent"] t.zg t.yc
 xz:Df K mg "way_of_goal" A9 ["goal","sent"] t.zv t.yu
 xA:Df K mg "ring_in" Ba ["come"] t.zw t.yv
 xQ:Df K mg "from_least" Bb ["ring"] t.zx t.yw
 xR:Df K mg "pages" Bc ["book","most","first"] t.zy t.yx
 xS:Df K mg "stretches" Be ["numbers","marks"] t.zz t.yy
 xT:Df K mg "strong_by_page" Bf ["numbers","marks"] t.zA t.yz
 xU:Df K mg "goes_on" Bg ["stretch","page","is_strong"] t.zB t.yA
 xV:Df K mg "entries" Bh ["book","most","first","marks"] t.zC t.yB
 xW:Df K mg "refuse_unfit" Bi ["ordered","many"] t.zD t.yC
 xX:Df K mg "marks_by_path" Bj ["ordered"] t.zE t.yD
 xY:Df K mg "_law_whole" Bk ["_law_found"] t.zF t.yE
 xb:Df K mg "_law_cell_at" Bl ["_law_script","_law_k"] t.zG t.yF
 xB:Df K mg "_law_head_by" Bm ["_law_cell","_law_k"] t.zH t.yG
 xZ:Df K mg "_law_path_by" Bn ["_law_number","_law_by"] t.zI t.yH
 xC:Df K mg "_law_fresh" Bo ["_law_there","_law_k","_law_number","_law_by"] t.zJ t.yI
 wa:Df K mg "_law_marks" Bp ["_law_cell","_law_by"] t.zK t.yJ
 wb:Df K mg "_law_ring_by" Br ["_law_there","_law_cell","_law_by"] t.zL t.yK
 wc:Df K mg "_law_beside" Bt ["_law_cells","_law_there","_law_ring","_law_by"] t.zM t.yL
 xD:Df K mg "_law_told_of" Bu ["_law_rows","_law_sees"] t.zN t.yM
 xE:Df K mg "_law_ring_so" Bv ["_law_told","_law_ring"] t.zO t.yN
 wd:Df K mg "_law_open_so" Bw ["_law_found","_law_count","_law_there","_law_ring"] t.zP t.yO
 wk:Df K mg "law" qR ["_law_script"] t.zQ t.yP
 ValueError:mg "ValueError" = none
 bool:mg "bool" = none
 int:mg "int" = none
 isinstance:mg "isinstance" = none
 len:mg "len" = none
 list:mg "list" = none
 min:mg "min" = none
 range:mg "range" = none
 reversed:mg "reversed" = none
 set:mg "set" = none
 sorted:mg "sorted" = none
 str:mg "str" = none
 tuple:mg "tuple" = none
 ri:sQ K t.za=true
 wl:mg "LETTERS_AND_FIGURES" = some (.str BC t.yR)
 xc:nsIn K mainGlobals "Both" = some (some (.ref t.zh))
 we:mg "Both" = some (.ref t.zh)
 xl:c1 K "Both" t.zh t.za (some t.zV)
 wm:∃o,K.lookup t.zV=some o/\o.cls=.type "function"
 xF:keepIn K (.ref t.zh)=true
 wn:ec K "__init__" "Both.__init__" BD t.zV t.yd
 wq:dq K t.yd ["self","path"] []
 xm:nsIn K mainGlobals "NoMark" = some (some (.ref t.zR))
 wr:mg "NoMark" = some (.ref t.zR)
 xG:c1 K "NoMark" t.zR t.za t.yS
 xn:nsIn K mainGlobals "NoRow" = some (some (.ref t.zS))
 ws:mg "NoRow" = some (.ref t.zS)
 xH:c1 K "NoRow" t.zS t.za t.yT
 xo:nsIn K mainGlobals "NoText" = some (some (.ref t.zT))
 wt:mg "NoText" = some (.ref t.zT)
 xI:c1 K "NoText" t.zT t.za t.yU
 xf:nsIn K mainGlobals "Nowhere" = some (some (.ref t.zi))
 wf:mg "Nowhere" = some (.ref t.zi)
 xp:c1 K "Nowhere" t.zi t.za (some t.zW)
 wu:∃o,K.lookup t.zW=some o/\o.cls=.type "function"
 xJ:keepIn K (.ref t.zi)=true
 wv:ec K "__init__" "Nowhere.__init__" BE t.zW t.ye
 ww:dq K t.ye ["self","path","goal"] []
 xq:nsIn K mainGlobals "OutOfBook" = some (some (.ref t.zj))
 wx:mg "OutOfBook" = some (.ref t.zj)
 xK:c1 K "OutOfBook" t.zj t.za (some t.yf)
 wI:∃o,K.lookup t.yf=some o/\o.cls=.type "function"
 wg:keepIn K (.ref t.zj)=true
 wJ:ec K "__init__" "OutOfBook.__init__" HF t.yf t.yQ
 wK:dq K t.yQ ["self","path","first","last"] []
 yV:nsIn K mainGlobals "PageError" = some (some (.ref t.za))
 wy:mg "PageError" = some (.ref t.za)
 xg:nsIn K mainGlobals "Ring" = some (some (.ref t.zU))
 wh:mg "Ring" = some (.ref t.zU)
 xr:c1 K "Ring" t.zU t.za (some t.zX)
 wz:∃o,K.lookup t.zX=some o/\o.cls=.type "function"
 xL:keepIn K (.ref t.zU)=true
 wA:ec K "__init__" "Ring.__init__" BF t.zX t.yg
 wB:dq K t.yg ["self","ring"] []
 xh:nsIn K mainGlobals "SentHere" = some (some (.ref t.zk))
 wi:mg "SentHere" = some (.ref t.zk)
 xs:c1 K "SentHere" t.zk t.za (some t.zY)
 wC:∃o,K.lookup t.zY=some o/\o.cls=.type "function"
 xM:keepIn K (.ref t.zk)=true
 wD:ec K "__init__" "SentHere.__init__" BG t.zY t.yh
 wE:dq K t.yh ["self","path"] []
 xi:nsIn K mainGlobals "TwoWays" = some (some (.ref t.zl))
 wj:mg "TwoWays" = some (.ref t.zl)
 xt:c1 K "TwoWays" t.zl t.za (some t.zZ)
 wF:∃o,K.lookup t.zZ=some o/\o.cls=.type "function"
 xN:keepIn K (.ref t.zl)=true
 wG:ec K "__init__" "TwoWays.__init__" BH t.zZ t.yi
 wH:dq K t.yi ["self","path"] []
section
variable {K:Fg1}{t:Adr}
def Txt.cl_Both(T:Txt K mg t):ee K "Both" t.zh:=⟨_,_,T.xl,T.yV,T.xc⟩
def R3(T:Txt K mg t):aG P w K mg base bC 1 t.zV t.yd ["self","path"] (nU K "Both" ["path"]):=yu T.wn RW vF rfl rfl rfl
def Txt.cl_NoMark(T:Txt K mg t):ee K "NoMark" t.zR:=⟨_,_,T.xG,T.yV,T.xm⟩
def Txt.cl_NoRow(T:Txt K mg t):ee K "NoRow" t.zS:=⟨_,_,T.xH,T.yV,T.xn⟩
def Txt.cl_NoText(T:Txt K mg t):ee K "NoText" t.zT:=⟨_,_,T.xI,T.yV,T.xo⟩
def Txt.cl_Nowhere(T:Txt K mg t):ee K "Nowhere" t.zi:=⟨_,_,T.xp,T.yV,T.xf⟩
def R4(T:Txt K mg t):aG P w K mg base bC 1 t.zW t.ye ["self","path","goal"] (nU K "Nowhere" ["path","goal"]):=OW T.wv RX vF OV rfl rfl rfl rfl
def Txt.cl_OutOfBook(T:Txt K mg t):ee K "OutOfBook" t.zj:=⟨_,_,T.xK,T.yV,T.xq⟩
def Txt.cl_Ring(T:Txt K mg t):ee K "Ring" t.zU:=⟨_,_,T.xr,T.yV,T.xg⟩
def R5(T:Txt K mg t):aG P w K mg base bC 1 t.zX t.yg ["self","ring"] (zF K "Ring" "ring"):=Pg T.wy T.ri T.list T.wA RY zy rfl rfl rfl rfl rfl rfl
def Txt.cl_SentHere(T:Txt K mg t):ee K "SentHere" t.zk:=⟨_,_,T.xs,T.yV,T.xh⟩
def R6(T:Txt K mg t):aG P w K mg base bC 1 t.zY t.yh ["self","path"] (nU K "SentHere" ["path"]):=yu T.wD RZ vF rfl rfl rfl
def Txt.cl_TwoWays(T:Txt K mg t):ee K "TwoWays" t.zl:=⟨_,_,T.xt,T.yV,T.xi⟩
def R7(T:Txt K mg t):aG P w K mg base bC 1 t.zZ t.yi ["self","path"] (nU K "TwoWays" ["path"]):=yu T.wG R0 vF rfl rfl rfl
def bV{X:Cx}{st:Stmt}{a:Pos}(G:aG X.p X.w X.K X.mg X.base bC k f i ps (bQ X.K h F))(l:aL n X.A)(d:Df X.K X.mg x st ps f i)(ha:PA X (e::es) (aV X.K B j))(o:k<=n:=by decide)(q:Gl X x:=by rfl)(c:(x == 'g')=false:=by decide)(he:W1 X (e::es) e es:=by rfl)(g:W2 X a es:=by rfl):PE X (.Call (.Name x p) (e::es) [] a) (eV X.K B (a0 h F j)):=M6 G (l.mono o) q d.m d.F.kp d.b ha c he g
def HH(T:Txt K mg t):aG P w K mg base bC 1 t.zb t.yj ["head"] (bQ K 1 sT):=by
 exact c3 (k:=0) (fs:=f_q1f) rfl rfl rfl T.xu.F Hz λ b A a s H E B c=>(@bv _ _ _ _ _ _ (dD (cI (n0 c) n5 (aA (jM (l:=[124]) 'd')) (aE 0) (by with_unfolding_all rfl)) (bE (cD (aH 0))) dQ)
   (@bv _ _ _ _ _ _ (@bM _ _ _ _ _ 1 _ _ Hz.nd rfl 'i' (pP plainAttrs_str PySem.F.slot_str_index PySem.F.type_str_index Lx MS (aE 0) (cA (aA (jM (l:=[124]) 'd')) cF)) rfl 'j')
   (bE (cD (bz cJ cK (aA (bz cJ cK (aA (f9 (aE 0) (eZ (aA (bz cJ cK (aE 1) (aA aM)))) hY)) (aA (jM (l:=[44,32]) 'd')))) (aA (f9 (aE 0) hY (eZ (aE 1)))))))))
def R8(T:Txt K mg t):aG P w K mg base bC 2 t.zc t.yk ["head"] (bQ K 1 vX):=by
 rwa[c3 (k:=1) (fs:=f_q1b) rfl rfl rfl T.xO.F RK λc A a s H E B b=>(bE (cD (MP plainAttrs_str PySem.F.slot_str_lower PySem.F.type_str_lower Lw MR (aA (pP plainAttrs_str PySem.F.slot_str_join PySem.F.type_str_join Ly MT (aA (jM (l:=[]) 'd')) (cA (aA (j3 (rO rfl (vars:=["sign"]) (cap:=[]) (lM [] rfl 'd' 'd' 'd' .nil) (lN .nil) 'd' 'd' (n8 (aA (bV (HH T) b T.xu (aF (aH 0) bi)))) (λ_ _ _ _=>(cB (i:=0) (show Nodup (["sign"]:T8) by decide) rfl (ub rfl))) (λ_ _ _ _=>(MY (cI (rK b) rL (aE 0) (aA (M7 (x:=BC) (l:=LF) 'd' 'r' T.wl)) (by with_unfolding_all rfl)))) (λ_ _ _ _=>(aH 0))))) cF))))))]
def qU(T:Txt K mg t):aG P w K mg base bC 3 t.zm t.yl ["path"] (bQ K 1 fW):=by
 rwa[c3 (k:=2) (fs:=f_q20) rfl rfl rfl T.yW.F RL λc A a s H E B b=>(bE (cD (j3 (rO rfl (vars:=["head"]) (cap:=[]) (lM [] rfl 'd' 'd' 'd' .nil) (lN .nil) 'd' 'd' (n8 (aE 0)) (λ_ _ _ _=>(cB (i:=0) (show Nodup (["head"]:T8) by decide) rfl (ub rfl))) (λ_ _ _ _=>mG) (λ_ _ _ _=>(gm (aF (bV (R8 T) b T.xO (aF (aH 0) bi)) (aF (bV (HH T) b T.xu (aF (aH 0) bi)) bi))))))))]
def R9(T:Txt K mg t):aG P w K mg base bC 1 t.zn t.ym ["mark","many"] (bQ K 2 vY):=by
 rwa[c3 (k:=0) (fs:=f_q22) rfl rfl rfl T.xP.F RM λb A a s H E B c=>(bE (cD (OP Cv Cv Cu (aA aM) (aA (b9 (aE 0) (aA aM) (λ_ _=>rfl))) (aA (b9 (aE 0) (aA aM) (λ_ _=>rfl))) (aE 1))))]
def BI(T:Txt K mg t):aG P w K mg base bC 1 t.zq t.yp ["path"] (bQ K 1 mZ):=by
 rwa[c3 (k:=0) (fs:=f_q1c) rfl rfl rfl T.xk.F RN λb A a s H E B c=>(bE (cD (uS Cd Dq 'r' T.tuple CG (cA (aA (uS Cy MK 'r' T.list rz (cA (aE 0) cF))) cF))))]
def Sa(T:Txt K mg t):aG P w K mg base bC 4 t.zr t.yq ["mark"] (bQ K 1 l7):=by
 rwa[c3 (k:=3) (fs:=f_q14) rfl rfl rfl T.xv.F RO λb A a s H E B c=>(bE (cD (gm (aF (bV (qU T) c T.yW (aF (b9 (aE 0) (aA aM) (λ_ _=>rfl)) bi)) (aF (b9 (aE 0) (aA aM) (λ_ _=>rfl)) (aF (b9 (aE 0) (aA aM) (λ_ _=>rfl)) (aF (b9 (aE 0) (aA aM) (λ_ _=>rfl)) bi)))))))]
def Sb(T:Txt K mg t):aG P w K mg base bC 6 t.zo t.yn ["hands"] (pW K 1 vZ):=by
 rwa[DE (k:=5) (fs:=f_q1d) rfl rfl rfl T.xj.F pu λd A a s H E B c=>(EG (j:=1) [2,0,0,1] pu.nd rfl (ub rfl) (vB re rfl (i9 (aH 0)) (cB (i:=2) pu.nd rfl (ub rfl)) 'd' (iU 'd') (vC (vB re rfl (i9 (aH 2)) (pT rfl (e7 (cB (i:=3) pu.nd rfl (ub rfl)) (e7 (cB (i:=4) pu.nd rfl (ub rfl)) (e7 (cB (i:=5) pu.nd rfl (ub rfl)) (e7 (cB (i:=6) pu.nd rfl (ub rfl)) pS))))) 'd' (zr (kZ (iU 'd') (kZ (iU 'd') (kZ (iU 'd') (kZ (iU 'd') y9))))) (vC (EF c rfl (gm (aF (bV (BI T) c T.xk (aF (aH 3) bi)) (aF (aH 4) (aF (aH 5) (aF (aH 6) bi)))))))))) rfl (Sa T) (c.mono 'd').in2 'r' T.sorted 'r' T.xv.m T.xv.b)]
def Sc(T:Txt K mg t):aG P w K mg base bC 4 t.zs t.yr ["see"] (bQ K 1 l9):=by
 rwa[c3 (k:=3) (fs:=f_q17) rfl rfl rfl T.xw.F RP λc A a s H E B b=>(bE (cD (gm (aF (bV (qU T) b T.yW (aF (b9 (aE 0) (aA aM) (λ_ _=>rfl)) bi)) (aF (b9 (aE 0) (aA aM) (λ_ _=>rfl)) (aF (bV (qU T) b T.yW (aF (b9 (aE 0) (aA aM) (λ_ _=>rfl)) bi)) bi))))))]
def HI(T:Txt K mg t):aG P w K mg base bC 6 t.zp t.yo ["hands"] (pW K 1 oW):=by
 rwa[DE (k:=5) (fs:=f_qc) rfl rfl rfl T.yX.F qS λd A c s H E B a=>(EG (j:=1) [2,2,1] qS.nd rfl (ub rfl) (vB re rfl (i9 (aH 0)) (cB (i:=2) qS.nd rfl (ub rfl)) 'd' (iU 'd') (vC (vB re rfl (i9 (aH 2)) (pT rfl (e7 (cB (i:=3) qS.nd rfl (ub rfl)) (e7 (cB (i:=4) qS.nd rfl (ub rfl)) (e7 (cB (i:=5) qS.nd rfl (ub rfl)) pS)))) 'd' (zr (kZ (iU 'd') (kZ (iU 'd') (kZ (iU 'd') y9)))) (vC (EF a rfl (gm (aF (bV (BI T) a T.xk (aF (aH 3) bi)) (aF (bV (BI T) a T.xk (aF (aH 4) bi)) (aF (aH 5) bi))))))))) rfl (Sc T) (a.mono 'd').in2 'r' T.sorted 'r' T.xw.m T.xw.b)]
def HK(T:Txt K mg t):aG P w K mg base bC 1 t.zu t.yt ["ordered"] (bQ K 1 sU):=by
 exact c3 (k:=0) (fs:=f_q2) rfl rfl rfl T.xy.F tU λ b A a s H E B c=>(EY (j:=1) tU.nd rfl 'i' (zC PassesOwn.never rfl (i9 (aH 0)) (pT rfl (e7 (cB (i:=2) tU.nd rfl 'i') (e7 (cB (i:=3) tU.nd rfl 'i') (e7 (cB (i:=4) tU.nd rfl 'i') pS)))) 'd' (zr (kZ (iU 'd') (kZ (iU 'd') (kZ (iU 'd') y9)))) (OH (zu qz (zu qz (zu qz OG))))
   (vH (O8 (i6 (eU (aH 4))) (vH (EW c rfl (aE 2) (aH 3) ⟨rfl,rfl,rfl,rfl⟩)) O7))))
def HL(T:Txt K mg t):aG P w K mg base bC 1 t.zt t.ys ["rows"] (bQ K 1 sW):=by
 exact c3 (k:=0) (fs:=f_q3) rfl rfl rfl T.xx.F wJ λ b A a s H E B c=>(@bv _ _ _ _ _ _ (D6 (j:=1) wJ.nd rfl 'i')
   (@bv _ _ _ _ _ _ (j6 PassesOwn.never rfl (i9 (aH 0)) (pT rfl (e7 (cB (i:=2) wJ.nd rfl 'i') (e7 (cB (i:=3) wJ.nd rfl 'i') pS))) (bE (yV (j:=1) c rfl (aE 2) (rG lJ lP (aA (e5 fF fG 'r' T.len fC (cA (aE 3) cF))) (aA aM) (c5 _)))))
   (Eg 1 (bE (cD (aH 1))))))
def Sd(T:Txt K mg t):aG P w K mg base bC 5 t.zx t.yw ["ring"] (bQ K 1 sX):=by
 exact c3 (k:=4) (fs:=f_q10) rfl rfl rfl T.xQ.F HB λ d A a s H E B c=>(@bv _ _ _ _ _ _ (@bM _ _ _ _ _ 1 _ _ HB.nd rfl 'i' (pP plainAttrs_list slot_list_index type_list_index (vI LV c 'd') vJ (aE 0) (cA (aA (PH rfl (qU T) (c.mono 'd').in1 'r' T.min 'r' T.yW.m T.yW.b (aH 0))) cF)) rfl 'j')
   (bE (cD (bz cJ cK (aA (f9 (aE 0) (eZ (aE 1)) hY)) (aA (f9 (aE 0) hY (eZ (aE 1))))))))
def HM(T:Txt K mg t):aG P w K mg base bC 3 t.zg t.yc ["path","goal","also","has_pages","sent"] (bQ K 5 qE):=by
 exact c3 (k:=2) (fs:=f_q5) rfl rfl rfl T.yZ.F HA λ c A a s H E B b=>(@bv _ _ _ _ _ _ (dD (cI (hU b) hV (aE 1) (aE 0) (c5 _)) (bE l4) dQ)
   (@bv _ _ _ _ _ _ (dD (PW.pt (i8 (i6 (eU (aH 2))) (i7 (eU (vw b (aE 3) (aE 0) f6))))) (bE l4) dQ)
   (bE (dD (PW.pt (i8 (i6 (eU (aH 2))) (i7 (cI lJ lP (aA (e5 fF fG 'r' T.len fC (cA (aA (oH b (aE 4) (aE 0) (λ_ _=>rfl))) cF))) (aA aM) (c5 _))))) (bE l4) dQ))))
theorem Se(T:Txt K mg t):aG P w K mg base (cW P w) 3 t.zg t.yc ["path","goal","also","has_pages","sent"] (mJ K 5 sY):=by
 exact yM (k:=2) (gs:=FF) T.yZ.F HA λ c A b s H E B a=>(js (dD (cI (hU a) hV (aE 1) (aE 0) (c5 _)) (bE l4) dQ) (rS (cI (hU a) hV (aE 1) (aE 0) (c5 _)) (mL (u4 rfl T.xs T.yV T.xh T.wC T.xM (R6 T) (a.mono 'd') 'r' T.wi T.wE rQ 'd' (aF (aH 0) bi))) pZ)
   (js (dD (PW.pt (i8 (i6 (eU (aH 2))) (i7 (eU (vw a (aE 3) (aE 0) f6))))) (bE l4) dQ) (rS (PW.pt (i8 (i6 (eU (aH 2))) (i7 (eU (vw a (aE 3) (aE 0) f6))))) (mL (u4 rfl T.xl T.yV T.xc T.wm T.xF (R3 T) (a.mono 'd') 'r' T.we T.wq rQ 'd' (aF (aH 0) bi))) pZ)
   (mL (rS (PW.pt (i8 (i6 (eU (aH 2))) (i7 (cI lJ lP (aA (e5 fF fG 'r' T.len fC (cA (aA (oH a (aE 4) (aE 0) (λ_ _=>rfl))) cF))) (aA aM) (c5 _))))) (mL (u4 rfl T.xt T.yV T.xi T.wF T.xN (R7 T) (a.mono 'd') 'r' T.wj T.wH rQ 'd' (aF (aH 0) bi))) pZ))))
def HN(T:Txt K mg t):aG P w K mg base bC 1 t.zw t.yv ["come"] (bQ K 1 m5):=by
 rwa[c3 (k:=0) (fs:=f_q18) rfl rfl rfl T.xA.F RQ λb A a s H E B c=>(bE (cD (f9 (aE 0) (eZ (aA (pP plainAttrs_list slot_list_index type_list_index (vI LV c 'd') vJ (aE 0) (cA (aA (b9 (aE 0) (aA (iN aM)) (λ_ _=>rfl))) cF)))) (eZ (aA (iN aM))))))]
def HQ(T:Txt K mg t):aG P w K mg base bC 1 t.zv t.yu ["goal","sent"] (bQ K 2 sZ):=by
 exact c3 (k:=0) (fs:=f_q9) rfl rfl rfl T.xz.F Bx λ c A b s H E B a=>(@bv _ _ _ _ _ _ (oz (i:=2) Bx.nd rfl 'i' (pU (aF (aH 0) bi)))
   (@bv _ _ _ _ _ _ (D6 (j:=3) Bx.nd rfl 'i')
   (@bv _ _ _ _ _ _ (M0 (λ _=>1000) PassesOwn.never (PW.pt (i8 (cI (rK a) rL (aA (b9 (aE 2) (aA (iN aM)) 'k')) (aE 1) (by with_unfolding_all rfl)) (i7 (cI (n0 a) n5 (aA (b9 (aE 2) (aA (iN aM)) 'k')) (aE 3) (by with_unfolding_all rfl))))) (@bv _ _ _ _ _ _ (yV (j:=3) a rfl (aA (b9 (aE 2) (aA (iN aM)) 'k')) f6)
   (bE (mI (i:=2) rfl (b9 (aA (oH a (aE 1) (aA (b9 (aE 2) (aA (iN aM)) (λ_ _=>rfl))) (λ_ _=>rfl))) (aA aM) (λ_ _=>rfl))))))
   (pV 2 (bE (cD (aH 2)))))))
def HR(T:Txt K mg t):aG P w K mg base bC 6 t.zf t.yb ["see","has_pages","sent"] (bQ K 3 mi):=by
 exact c3 (k:=5) (fs:=f_q11) rfl rfl rfl T.yY.F iZ λ c A b s H E B a=>(@bv _ _ _ _ _ _ (@bM _ _ _ _ _ 3 _ _ iZ.nd rfl 'i' (b9 (aE 0) (aA aM) 'k') rfl 'j')
   (@bv _ _ _ _ _ _ (@bM _ _ _ _ _ 4 _ _ iZ.nd rfl 'i' (b9 (aE 0) (aA aM) 'k') rfl 'j')
   (@bv _ _ _ _ _ _ (@bM _ _ _ _ _ 5 _ _ iZ.nd rfl 'i' (b9 (aE 0) (aA aM) 'k') rfl 'j')
   (@bv _ _ _ _ _ _ (yH (bV (HM T) a T.yZ (aF (aH 3) (aF (aH 4) (aF (aH 5) (aF (aH 1) (aF (aH 2) bi)))))))
   (@bv _ _ _ _ _ _ (@bM _ _ _ _ _ 6 _ _ iZ.nd rfl 'i' (bV (HQ T) a T.xz (aF (aH 4) (aF (aH 2) bi))) rfl 'j')
   (@bv _ _ _ _ _ _ (@bM _ _ _ _ _ 7 _ _ iZ.nd rfl 'i' (bV (HN T) a T.xA (aF (aH 6) bi)) rfl 'j')
   (@bv _ _ _ _ _ _ (dD (cI lJ lP (aA (e5 fF fG 'r' T.len fC (cA (aE 7) cF))) (aA aM) (c5 _)) (bE l4) dQ)
   (@bv _ _ _ _ _ _ (@bM _ _ _ _ _ 8 _ _ iZ.nd rfl 'i' (b9 (aE 6) (aA (iN aM)) 'k') rfl 'j')
   (@bv _ _ _ _ _ _ (dD (PW.pt (jY (cI (n0 a) n5 (aE 8) (aE 1) (by with_unfolding_all rfl)) (jY (PW.pt (i8 (eU (aH 5)) (i7 (cI (n0 a) n5 (aE 3) (aE 1) (by with_unfolding_all rfl))))) (mD (cI (hU a) hV (aE 8) (aE 3) (c5 _)))))) (bE l4) dQ)
   (bE (cD (gm (aF (aH 3) (aF (aH 4) (aF (aH 5) (aF (aH 8) (aF (e5 fF fG 'r' T.len fC (cA (aE 6) cF)) bi)))))))))))))))))
theorem Sf(T:Txt K mg t):aG P w K mg base (cW P w) 6 t.zf t.yb ["see","has_pages","sent"] (mJ K 3 qF):=by
 exact yM (k:=5) (gs:=FG) T.yY.F iZ λ cdv A outer s H E B hr=>(js (@bM _ _ _ _ _ 3 _ _ iZ.nd rfl 'i' (b9 (aE 0) (aA aM) 'k') rfl 'j') lT
   (js (@bM _ _ _ _ _ 4 _ _ iZ.nd rfl 'i' (b9 (aE 0) (aA aM) 'k') rfl 'j') lT
   (js (@bM _ _ _ _ _ 5 _ _ iZ.nd rfl 'i' (b9 (aE 0) (aA aM) 'k') rfl 'j') lT
   (js (yH (bV (HM T) hr T.yZ (aF (aH 3) (aF (aH 4) (aF (aH 5) (aF (aH 1) (aF (aH 2) bi))))))) (No (DL (Se T) (hr.mono 'd') 'r' T.yZ.m T.yZ.F.kp T.yZ.b Ni (aF (aH 3) (aF (aH 4) (aF (aH 5) (aF (aH 1) (aF (aH 2) bi)))))))
   (js (@bM _ _ _ _ _ 6 _ _ iZ.nd rfl 'i' (bV (HQ T) hr T.xz (aF (aH 4) (aF (aH 2) bi))) rfl 'j') lT
   (js (@bM _ _ _ _ _ 7 _ _ iZ.nd rfl 'i' (bV (HN T) hr T.xA (aF (aH 6) bi)) rfl 'j') lT
   (js (dD (cI lJ lP (aA (e5 fF fG 'r' T.len fC (cA (aE 7) cF))) (aA aM) (c5 _)) (bE l4) dQ) (rS (cI lJ lP (aA (e5 fF fG 'r' T.len fC (cA (aE 7) cF))) (aA aM) (c5 _)) (mL (Ph rfl T.xr T.yV T.xg T.wz T.xL (R5 T) (hr.mono 'd') 'r' T.wh T.wB rQ (aF (bV (Sd T) hr T.xQ (aF (aH 7) bi)) bi))) pZ)
   (js (@bM _ _ _ _ _ 8 _ _ iZ.nd rfl 'i' (b9 (aE 6) (aA (iN aM)) 'k') rfl 'j') lT
   (mL (rS (PW.pt (jY (cI (n0 hr) n5 (aE 8) (aE 1) (by with_unfolding_all rfl)) (jY (PW.pt (i8 (eU (aH 5)) (i7 (cI (n0 hr) n5 (aE 3) (aE 1) (by with_unfolding_all rfl))))) (mD (cI (hU hr) hV (aE 8) (aE 3) (c5 _)))))) (mL (u4 rfl T.xp T.yV T.xf T.wu T.xJ (R4 T) (hr.mono 'd') 'r' T.wf T.ww rQ 'd' (aF (aH 3) (aF (aH 4) bi)))) pZ))))))))))
def HS(T:Txt K mg t):aG P w K mg base bC 7 t.ze t.ya ["rows","sees"] (bQ K 2 m6):=by
 exact c3 (k:=6) (fs:=f_q21) rfl rfl rfl T.xa.F nz λ d A c s H E B a=>(@bv _ _ _ _ _ _ (@bM _ _ _ _ _ 2 _ _ nz.nd rfl 'i' (j3 (yI (HI T) (a.mono 'd') 'r' T.yX.m T.yX.F.kp T.yX.b (aF (@pH _ _ _ _ _ (aF (aH 1) bi)) bi))) rfl 'j')
   (@bv _ _ _ _ _ _ (@bM _ _ _ _ _ 3 _ _ nz.nd rfl (Or.inr rfl) (bV (HL T) a T.xx (aF (aH 0) bi)) rfl 'j')
   (@bv _ _ _ _ _ _ (@bM _ _ _ _ _ 4 _ _ nz.nd rfl (Or.inr rfl) (bV (HK T) a T.xy (aF (aH 2) bi)) rfl 'j')
   (bE (cD (j3 (rO rfl (vars:=["see"]) (cap:=[3,4]) (lM ["has_pages","sent"] rfl 'd' 'd' 'd' (.cons (ub rfl) (.cons (ub rfl) .nil))) (lN (.cons (⟨ic 'r',ic 'r'⟩) (.cons (⟨ic 'r',ic 'r'⟩) .nil))) 'd' 'd' (n8 (aE 2)) (λ_ _ _ _=>(cB (i:=0) (show Nodup (["see","has_pages","sent"]:T8) by decide) rfl (ub rfl))) (λ_ _ _ _=>mG) (λ_ _ _ _=>(bV (HR T) a T.yY (aF (aH 0) (aF (aH 1) (aF (aH 2) bi))))))))))))
theorem Sg(T:Txt K mg t):aG P w K mg base (cW P w) 7 t.ze t.ya ["rows","sees"] (mJ K 2 s0):=by
 exact yM (k:=6) (gs:=FH) T.xa.F nz λ d A c s H E B a=>(js (@bM _ _ _ _ _ 2 _ _ nz.nd rfl 'i' (j3 (yI (HI T) (a.mono 'd') 'r' T.yX.m T.yX.F.kp T.yX.b (aF (@pH _ _ _ _ _ (aF (aH 1) bi)) bi))) rfl 'j') lT
   (js (@bM _ _ _ _ _ 3 _ _ nz.nd rfl (Or.inr rfl) (bV (HL T) a T.xx (aF (aH 0) bi)) rfl 'j') lT
   (js (@bM _ _ _ _ _ 4 _ _ nz.nd rfl (Or.inr rfl) (bV (HK T) a T.xy (aF (aH 2) bi)) rfl 'j') lT
   (mL (Np (Pd rfl ⟨rfl,rfl⟩ rfl Pc (vars:=["see"]) (cap:=[3,4]) (lM ["has_pages","sent"] rfl 'd' 'd' 'd' (.cons (ub rfl) (.cons (ub rfl) .nil))) (lN (.cons (⟨ic 'r',ic 'r'⟩) (.cons (⟨ic 'r',ic 'r'⟩) .nil))) 'd' 'd' (n8 (aE 2)) (λ_ _ _ _=>(cB (i:=0) (show Nodup (["see","has_pages","sent"]:T8) by decide) rfl (ub rfl))) (λ_ _ _ _=>(bV (HR T) a T.yY (aF (aH 0) (aF (aH 1) (aF (aH 2) bi))))) (λ_ _ _ _=>(DL (Sf T) (a.mono 'd') 'r' T.yY.m T.yY.F.kp T.yY.b Pb (aF (aH 0) (aF (aH 1) (aF (aH 2) bi)))))))))))
def Sh(T:Txt K mg t):aG P w K mg base bC 1 t.zy t.yx ["book","most","first"] (bQ K 3 z5):=by
 exact c3 (k:=0) (fs:=f_q1e) rfl rfl rfl T.xR.F nA λ b A a s H E B c=>(@bv _ _ _ _ _ _ (oz (i:=3) nA.nd rfl 'i' (pU bi))
   (@bv _ _ _ _ _ _ (@bM _ _ _ _ _ 4 _ _ nA.nd rfl 'i' (aH 2) rfl 'j')
   (@bv _ _ _ _ _ _ (@bM _ _ _ _ _ 5 _ _ nA.nd rfl 'i' aM rfl 'j')
   (@bv _ _ _ _ _ _ (j6 PassesOwn.never rfl (i9 (aH 0)) (cB (i:=6) nA.nd rfl 'i') (@bv _ _ _ _ _ _ (dD (PW.pt (i8 (cI lJ lP (aE 5) (aA aM) (c5 _)) (i7 (PW.pt (jY (eU (aH 6)) (mD (cI KL MA (aE 5) (aE 1) (c5 _)))))))) (@bv _ _ _ _ _ _ (@bM _ _ _ _ _ 4 _ _ nA.nd rfl 'i' (bz cJ cK (aE 4) (aA aM)) rfl 'j')
   (bE (@bM _ _ _ _ _ 5 _ _ nA.nd rfl (ub rfl) aM rfl 'j'))) dQ)
   (@bv _ _ _ _ _ _ (@bM _ _ _ _ _ 5 _ _ nA.nd rfl 'i' (bz cJ cK (aE 5) (aA aM)) rfl 'j')
   (bE (mI (i:=3) rfl (aH 4))))))
   (pV 3 (bE (cD (aH 3))))))))
def Si(T:Txt K mg t):aG P w K mg base bC 1 t.zB t.yA ["stretch","page","is_strong"] (bQ K 3 s9):=by
 rwa[c3 (k:=0) (fs:=f_q1a) rfl rfl rfl T.xU.F RT λc A a s H E B b=>(bE (cD (yx (rG (hU b) hV (aA (bz cJ cK (aA (b9 (aE 0) (aA aM) (λ_ _=>rfl))) (aA aM))) (aE 1) (c5 _)) (uN (rG (hU b) hV (aA (b9 (aE 0) (aA aM) (λ_ _=>rfl))) (aE 2) (c5 _))))))]
def Sj(T:Txt K mg t):aG P w K mg base bC 1 t.zA t.yz ["numbers","marks"] (bQ K 2 z6):=by
 exact c3 (k:=0) (fs:=f_q0) rfl rfl rfl T.xT.F pv λ c A a s H E B b=>(@bv _ _ _ _ _ _ (NR (j:=2) pv.nd rfl 'i')
   (@bv _ _ _ _ _ _ (j6 PassesOwn.never rfl (i9 (aH 1)) (pT rfl (e7 (cB (i:=3) pv.nd rfl 'i') (e7 (cB (i:=4) pv.nd rfl 'i') (e7 (cB (i:=5) pv.nd rfl 'i') (e7 (cB (i:=6) pv.nd rfl 'i') pS))))) (bE (j6 PassesOwn.never rfl (i9 (f9 (aE 0) (eZ (aE 4)) (eZ (aA (bz cJ cK (aE 5) (aA aM)))))) (cB (i:=7) pv.nd rfl 'i') (bE (yV (j:=2) b rfl (aE 7) (Ms (aH 6) (uN (vw b (aE 2) (aE 7) f6))))))))
   (Eg 2 (bE (cD (aH 2))))))
def Sk(T:Txt K mg t):aG P w K mg base bC 2 t.zz t.yy ["numbers","marks"] (bQ K 2 v0):=by
 exact c3 (k:=1) (fs:=f_q15) rfl rfl rfl T.xS.F wK λ c A b s H E B a=>(@bv _ _ _ _ _ _ (@bM _ _ _ _ _ 2 _ _ wK.nd rfl 'i' (bV (Sj T) a T.xT (aF (aH 0) (aF (aH 1) bi))) rfl 'j')
   (@bv _ _ _ _ _ _ (oz (i:=3) wK.nd rfl 'i' (pU bi))
   (@bv _ _ _ _ _ _ (j6 PassesOwn.never rfl (i9 (j3 (N0 rfl 'r' T.sorted (cA (aE 2) cF)))) (cB (i:=4) wK.nd rfl 'i') (bE (dD (PW.pt (i8 (cI lJ lP (aA (e5 fF fG 'r' T.len fC (cA (aE 3) cF))) (aA aM) (c5 _)) (i7 (eU (bV (Si T) a T.xU (aF (b9 (aE 3) (aA (iN aM)) 'k') (aF (aH 4) (aF (oH a (aE 2) (aE 4) 'k') bi)))))))) (bE (N2 (j:=3) rfl (aA (iN aM)) (gm (aF (b9 (aA (b9 (aE 3) (aA (iN aM)) 'k')) (aA aM) 'k') (aF (aH 4) (aF (oH a (aE 2) (aE 4) 'k') bi)))))) (bE (mI (i:=3) rfl (gm (aF (aH 4) (aF (aH 4) (aF (oH a (aE 2) (aE 4) 'k') bi)))))))))
   (pV 3 (bE (cD (aH 3)))))))
def Sm(T:Txt K mg t):aG P w K mg base bC 1 t.zE t.yD ["ordered"] (bQ K 1 z7):=by
 exact c3 (k:=0) (fs:=f_q1) rfl rfl rfl T.xX.F tW λ c A a s H E B b=>(EY (j:=1) tW.nd rfl 'i' (zC PassesOwn.never rfl (i9 (aH 0)) (cB (i:=2) tW.nd rfl 'i') 'd' (iU 'd') qz
   (EX (O9 (i:=3) 'd' tW.nd rfl 'i' (b9 (aE 2) (aA aM) 'k'))
   (EX (zC PassesOwn.never rfl (MV 'r' T.range (cA (aA aM) (cA (aA (e5 fF fG 'r' T.len fC (cA (aE 3) cF))) cF))) (cB (i:=4) tW.nd rfl 'i') 'd' (iU 'd') qz
   (vH (O6 b rfl (aA (f9 (aE 3) hY (eZ (aE 4)))) ⟨rfl,rfl,rfl,rfl⟩)))
   (vH (EW b rfl (aE 3) (aH 2) ⟨rfl,rfl,rfl,rfl⟩))))))
def Sn(T:Txt K mg t):aG P w K mg base bC 3 t.zD t.yC ["ordered","many"] (bQ K 2 z8):=by
 rwa[c3 (k:=2) (fs:=f_q4) rfl rfl rfl T.xW.F HC λb A a s H E B c=>(bE (j6 re rfl (i9 (aH 0)) (cB (i:=2) HC.nd rfl (ub rfl)) (bE (dD (i6 (eU (bV (R9 T) c T.xP (aF (aH 2) (aF (aH 1) bi))))) (bE l4) dQ))))]
def So(T:Txt K mg t):aG P w K mg base bC 8 t.zC t.yB ["book","most","first","marks"] (bQ K 4 z9):=by
 exact c3 (k:=7) (fs:=f_q19) rfl rfl rfl T.xV.F wL λ d A c s H E B a=>(@bv _ _ _ _ _ _ (@bM _ _ _ _ _ 4 _ _ wL.nd rfl 'i' (j3 (yI (Sb T) (a.mono 'd') 'r' T.xj.m T.xj.F.kp T.xj.b (aF (@pH _ _ _ _ _ (aF (aH 3) bi)) bi))) rfl 'j')
   (@bv _ _ _ _ _ _ (yH (bV (Sn T) a T.xW (aF (aH 4) (aF (e5 fF fG 'r' T.len fC (cA (aE 0) cF)) bi))))
   (@bv _ _ _ _ _ _ (@bM _ _ _ _ _ 5 _ _ wL.nd rfl (Or.inr rfl) (bV (Sh T) a T.xR (aF (aH 0) (aF (aH 1) (aF (aH 2) bi)))) rfl 'j')
   (@bv _ _ _ _ _ _ (@bM _ _ _ _ _ 6 _ _ wL.nd rfl (Or.inr rfl) (bV (Sm T) a T.xX (aF (aH 4) bi)) rfl 'j')
   (bE (cD (j3 (rO rfl (vars:=["path"]) (cap:=[5,6]) (lM ["numbers","found"] rfl 'd' 'd' 'd' (.cons (ub rfl) (.cons (ub rfl) .nil))) (lN (.cons (⟨ic 'r',ic 'r'⟩) (.cons (⟨ic 'r',ic 'r'⟩) .nil))) 'd' 'd' (n8 (aA (j3 (O0 rfl (qU T) (a.mono 'd').in2 'r' T.sorted 'r' T.yW.m T.yW.b (aE 6))))) (λ_ _ _ _=>(cB (i:=0) (show Nodup (["path","numbers","found"]:T8) by decide) rfl (ub rfl))) (λ_ _ _ _=>mG) (λ_ _ _ _=>(gm (aF (aH 0) (aF (bV (Sk T) a T.xS (aF (aH 1) (aF (oH a (aE 2) (aE 0) (λ_ _=>rfl)) bi))) bi))))))))))))
def Sr(T:Txt K mg t):aG P w K mg base bC 1 t.zF t.yE ["_law_found"] (bQ K 1 v1):=by
 rwa[c3 (k:=0) (fs:=f_q16) rfl rfl rfl T.xY.F RU λb A a s H E B c=>(bE (cD (yx (uV MN 'r' T.isinstance (qW (v:=.ty "int") 'r' T.int Lm rfl) (aE 0)) (uN (Mt (uV MO 'r' T.isinstance (qW (v:=.ty "bool") 'r' T.bool Lo rfl) (aE 0)))))))]
def wO(T:Txt K mg t):aG P w K mg base bC 1 t.zG t.yF ["_law_script","_law_k"] (bQ K 2 kC):=by
 exact c3 (k:=0) (fs:=f_qb) rfl rfl rfl T.xb.F RV λ b A a s H E B c=>(@bv _ _ _ _ _ _ (dD (cI (Dg c) Dh (aE 1) (aA (e5 fF fG 'r' T.len fC (cA (aE 0) cF))) (c5 _)) (bE (cD (b9 (aE 0) (aE 1) 'k'))) dQ)
   (bE (cD aM)))
def HU(T:Txt K mg t):aG P w K mg base bC 1 t.zH t.yG ["_law_cell","_law_k"] (bQ K 2 oX):=by
 exact c3 (k:=0) (fs:=f_qd) rfl rfl rfl T.xB.F jW λ c A b s H E B a=>(@bv _ _ _ _ _ _ (@bM _ _ _ _ _ 2 _ _ jW.nd rfl 'i' (jM (l:=SG) 'd') rfl 'j')
   (@bv _ _ _ _ _ _ (@bM _ _ _ _ _ 3 _ _ jW.nd rfl 'i' (jM (l:=[]) 'd') rfl 'j')
   (@bv _ _ _ _ _ _ (j6 PassesOwn.never rfl (pR 'r' T.range (cA (aA (bz cJ cK (aA aM) (aA (bz eR eY (aE 0) (aA aM))))) cF)) (cB (i:=4) jW.nd rfl 'i') (bE (@bM _ _ _ _ _ 3 _ _ jW.nd rfl 'i' (bz cJ cK (aE 3) (aA (b9 (aE 2) (aA (bz eR eY (aA (bz cJ cK (aA (bz kH kN (aE 0) (aA (bz cJ cK (aE 4) (aA aM))))) (aA (bz lR lQ (aA (bz lR lQ (aA aM) (aE 4))) (aE 4))))) (aA aM))) 'k'))) rfl 'j')))
   (@bv _ _ _ _ _ _ (@bM _ _ _ _ _ 5 _ _ jW.nd rfl 'i' (bz eR eY (aA (bz kH kN (aE 0) (aA aM))) (aA (bz cJ cK (aA (e5 fF fG 'r' T.len fC (cA (aE 3) cF))) (aA aM)))) rfl 'j')
   (@bv _ _ _ _ _ _ (@bM _ _ _ _ _ 6 _ _ jW.nd rfl 'i' (bz cJ cK (aA (bz cJ cK (aA (f9 (aE 3) hY (eZ (aE 5)))) (aA (uS Jw N3 'r' T.str Ln (cA (aA (bz kH kN (aE 1) (aA aM))) cF))))) (aA (f9 (aE 3) (eZ (aE 5)) hY))) rfl 'j')
   (@bv _ _ _ _ _ _ (@bM _ _ _ _ _ 7 _ _ jW.nd rfl 'i' (bz eR eY (aA (bz cJ cK (aA (bz kH kN (aE 0) (aA aM))) (aA (bz kH kN (aE 1) (aA aM))))) (aA aM)) rfl 'j')
   (@bv _ _ _ _ _ _ (dD (cI (hU a) hV (aE 7) (aA aM) (c5 _)) (bE (@bM _ _ _ _ _ 6 _ _ jW.nd rfl 'i' (bz cJ cK (aA (bz cJ cK (aE 6) (aA (jM (l:=[124]) 'd')))) (aE 3)) rfl 'j')) dQ)
   (@bv _ _ _ _ _ _ (dD (cI (hU a) hV (aE 7) (aA aM) (c5 _)) (bE (@bM _ _ _ _ _ 6 _ _ jW.nd rfl 'i' (bz cJ cK (aA (bz cJ cK (aA (bz cJ cK (aA (bz cJ cK (aE 6) (aA (jM (l:=[124]) 'd')))) (aA (f9 (aE 3) hY (eZ (aA aM)))))) (aA (jM (l:=[32]) 'd')))) (aA (f9 (aE 3) hY (eZ (aA aM))))) rfl 'j')) dQ)
   (@bv _ _ _ _ _ _ (dD (cI (hU a) hV (aE 7) (aA aM) (c5 _)) (bE (@bM _ _ _ _ _ 6 _ _ jW.nd rfl 'i' (bz cJ cK (aA (bz cJ cK (aE 3) (aA (jM (l:=[32]) 'd')))) (aE 6)) rfl 'j')) dQ)
   (@bv _ _ _ _ _ _ (dD (cI (hU a) hV (aE 7) (aA aM) (c5 _)) (bE (@bM _ _ _ _ _ 6 _ _ jW.nd rfl 'i' (bz cJ cK (aA (jM (l:=[45]) 'd')) (aE 6)) rfl 'j')) dQ)
   (@bv _ _ _ _ _ _ (dD (cI (hU a) hV (aA (bz eR eY (aE 1) (aA aM))) (aA aM) (c5 _)) (bE (cD (bz cJ cK (aE 6) (aA (jM (l:=[45]) 'd'))))) dQ)
   (bE (cD (aH 6))))))))))))))
def Ss(T:Txt K mg t):aG P w K mg base bC 2 t.zI t.yH ["_law_number","_law_by"] (bQ K 2 v3):=by
 exact c3 (k:=1) (fs:=f_qe) rfl rfl rfl T.xZ.F HE λ b A a s H E B c=>(@bv _ _ _ _ _ _ (@bM _ _ _ _ _ 2 _ _ HE.nd rfl 'i' (b9 (@aA _ _ _ _ (@pH _ _ _ _ _ (aF aM (aF aM (aF aM (aF aM (aF aM (aF aM bi)))))))) (@aA _ _ _ _ (@bz _ _ _ _ _ _ _ _ _ _ eR eY (aE 0) (@aA _ _ _ _ aM))) 'k') rfl 'j')
   (bE (cD (uS Cd Dq 'r' T.tuple CG (cA (aA (j3 (rO rfl (vars:=["_law_j"]) (cap:=[0,1]) (lM ["_law_number","_law_by"] rfl 'd' 'd' 'd' (.cons (ub rfl) (.cons (ub rfl) .nil))) (lN (.cons (⟨ic 'r',ic 'r'⟩) (.cons (⟨ic 'r',ic 'r'⟩) .nil))) 'd' 'd' (Du (pR 'r' T.range (cA (aE 2) cF))) (λ_ _ _ _=>(cB (i:=0) (show Nodup (["_law_j","_law_number","_law_by"]:T8) by decide) rfl (ub rfl))) (λ_ _ _ _=>mG) (λ_ _ _ _=>(bV (HU T) c T.xB (aF (aH 2) (aF (bz eR eY (aA (bz kH kN (aE 1) (aA (bz cJ cK (aA aM) (aA (bz lR lQ (aA aM) (aE 0))))))) (aA aM)) bi))))))) cF)))))
def HV(T:Txt K mg t):aG P w K mg base bC 2 t.zJ t.yI ["_law_there","_law_k","_law_number","_law_by"] (bQ K 4 m7):=by
 exact c3 (k:=1) (fs:=f_q12) rfl rfl rfl T.xC.F By λ c A a s H E B b=>(@bv _ _ _ _ _ _ (@bM _ _ _ _ _ 4 _ _ By.nd rfl 'i' (bV (HU T) b T.xB (aF (aH 3) (aF (bz cJ cK (aA aM) (aE 1)) bi))) rfl 'j')
   (@bv _ _ _ _ _ _ (@bM _ _ _ _ _ 5 _ _ By.nd rfl 'i' (b9 (aE 0) (aA (bz eR eY (aA (bz kH kN (aE 2) (aA aM))) (aA (e5 fF fG 'r' T.len fC (cA (aE 0) cF))))) 'k') rfl 'j')
   (@bv _ _ _ _ _ _ (dD (cI (hU b) hV (aA (bz eR eY (aE 2) (aA aM))) (aA aM) (c5 _)) (bE (cD (gm (aF (aH 4) bi)))) dQ)
   (@bv _ _ _ _ _ _ (dD (cI (Dg b) Dh (aA (e5 fF fG 'r' T.len fC (cA (aE 5) cF))) (aA aM) (c5 _)) (bE (cD (bz E3 E4 (aE 5) (aA (gm (aF (aH 4) bi)))))) dQ)
   (bE (cD (bz E3 E4 (aA (gm (aF (aH 4) bi))) (aA (f9 (aE 5) hY (eZ (aA aM)))))))))))
def Su(T:Txt K mg t):aG P w K mg base bC 3 t.zK t.yJ ["_law_cell","_law_by"] (bQ K 2 v4):=by
 exact c3 (k:=2) (fs:=f_q13) rfl rfl rfl T.wa.F wM λ c A a s H E B b=>(@bv _ _ _ _ _ _ (oz (i:=2) wM.nd rfl 'i' (pU bi))
   (@bv _ _ _ _ _ _ (j6 PassesOwn.never rfl (pR 'r' T.range (cA (aA (bz cJ cK (aA aM) (aA (bz eR eY (aE 0) (aA aM))))) cF)) (cB (i:=3) wM.nd rfl 'i') (@bv _ _ _ _ _ _ (@bM _ _ _ _ _ 4 _ _ wM.nd rfl 'i' (bz eR eY (aA (bz lR lQ (aA (bz cJ cK (aE 0) (aA (bz lR lQ (aE 3) (aE 3))))) (aA aM))) (aA aM)) rfl 'j')
   (bE (mI (i:=2) rfl (gm (aF (bV (Ss T) b T.xZ (aF (aH 4) (aF (aH 1) bi))) (aF (bz eR eY (aE 3) (aA aM)) (aF (bz eR eY (aE 3) (aA aM)) (aF (rG (hU b) hV (aA (bz eR eY (aE 4) (aA aM))) (aA aM) (c5 _)) bi)))))))))
   (pV 2 (bE (cD (aH 2))))))
def Sv(T:Txt K mg t):aG P w K mg base bC 3 t.zL t.yK ["_law_there","_law_cell","_law_by"] (bQ K 3 Aa):=by
 exact c3 (k:=2) (fs:=f_q8) rfl rfl rfl T.wb.F Bz λ b A a s H E B c=>(@bv _ _ _ _ _ _ (oz (i:=3) Bz.nd rfl 'i' (pU bi))
   (@bv _ _ _ _ _ _ (j6 PassesOwn.never rfl (pR 'r' T.range (cA (aA (bz cJ cK (aA aM) (aA (bz eR eY (aE 1) (aA aM))))) cF)) (cB (i:=4) Bz.nd rfl 'i') (bE (mI (i:=3) rfl (bV (HV T) c T.xC (aF (aH 0) (aF (bz cJ cK (aA aM) (aA (bz eR eY (aA (bz lR lQ (aE 4) (aA aM))) (aA aM)))) (aF (bz eR eY (aA (bz lR lQ (aA (bz cJ cK (aE 1) (aA (bz lR lQ (aE 4) (aE 4))))) (aA aM))) (aA aM)) (aF (aH 2) bi))))))))
   (pV 3 (bE (cD (aH 3))))))
def Sw(T:Txt K mg t):aG P w K mg base bC 3 t.zM t.yL ["_law_cells","_law_there","_law_ring","_law_by"] (bQ K 4 Ab):=by
 exact c3 (k:=2) (fs:=f_qf) rfl rfl rfl T.wc.F pw λ c A a s H E B b=>(@bv _ _ _ _ _ _ (oz (i:=4) pw.nd rfl 'i' (MZ (aE 1) (aE 2)))
   (@bv _ _ _ _ _ _ (oz (i:=5) pw.nd rfl 'i' (pU bi))
   (@bv _ _ _ _ _ _ (j6 PassesOwn.never rfl (pR 'r' T.range (cA (aA (e5 fF fG 'r' T.len fC (cA (aE 0) cF))) cF)) (cB (i:=6) pw.nd rfl 'i') (@bv _ _ _ _ _ _ (@bM _ _ _ _ _ 7 _ _ pw.nd rfl 'i' (bz eR eY (aA (bz lR lQ (aA (b9 (aE 0) (aE 6) 'k')) (aA aM))) (aA aM)) rfl 'j')
   (@bv _ _ _ _ _ _ (@bM _ _ _ _ _ 8 _ _ pw.nd rfl 'i' (b9 (aE 4) (aA (bz eR eY (aA (bz kH kN (aE 7) (aA aM))) (aA (e5 fF fG 'r' T.len fC (cA (aE 4) cF))))) 'k') rfl 'j')
   (@bv _ _ _ _ _ _ (@bM _ _ _ _ _ 9 _ _ pw.nd rfl 'i' (bV (HV T) b T.xC (aF (aH 1) (aF (aH 6) (aF (bz kH kN (aE 7) (aA aM)) (aF (aH 3) bi))))) rfl 'j')
   (bE (dD (cI lJ lP (aA (bz eR eY (aE 7) (aA aM))) (aA aM) (c5 _)) (@bv _ _ _ _ _ _ (mI (i:=4) rfl (aH 9))
   (bE (mI (i:=5) rfl (gm (aF (aH 9) (aF (aH 8) (aF f6 bi))))))) (bE (dD (PW.pt (i8 (cI (pL b) pM (aA (b9 (aE 1) (aA aM) (λ_ _=>rfl))) (aA (b9 (aE 1) (aA (iN aM)) (λ_ _=>rfl))) (c5 _)) (i7 (cI (rK b) rL (aE 8) (aE 2) (by with_unfolding_all rfl))))) (bE (mI (i:=5) rfl (gm (aF (b9 (aE 1) (aA (iN aM)) (λ_ _=>rfl)) (aF (aH 8) (aF f6 bi)))))) dQ))))))))
   (pV 5 (bE (cD (aH 5)))))))
def HW(T:Txt K mg t):aG P w K mg base bC 8 t.zN t.yM ["_law_rows","_law_sees"] (bQ K 2 tf):=by
 exact c3 (k:=7) (fs:=f_q7) rfl rfl rfl T.xD.F BA λ c A a s H E B d=>(@bv _ _ _ _ _ _ (@bM _ _ _ _ _ 2 _ _ BA.nd rfl 'i' Mp rfl 'j')
   (@bv _ _ _ _ _ _ (Nu (i:=2) (j:=3) (HS T) (Sg T) (d.mono 'd') 'r' T.xa.m T.xa.F.kp T.xa.b 'r' ⟨rfl,rfl⟩ BA.nd rfl rfl rfl rfl (λ _=>(aF (aH 0) (aF (aH 1) bi))))
   (bE (cD (aH 2)))))
def HX(T:Txt K mg t):aG P w K mg base bC 4 t.zO t.yN ["_law_told","_law_ring"] (bQ K 2 v6):=by
 exact c3 (k:=3) (fs:=f_qa) rfl rfl rfl T.xE.F BB λ cdv A outer s H E B hr=>(@bv _ _ _ _ _ _ (dD (PW.pt (jY (i6 (eU (Nw T.cl_Ring 'r' T.isinstance 'r' T.wh (aH 0)))) (mD (i6 (eU (Nx (C:=0) 'r' T.isinstance (qW (v:=.ty "ValueError") 'r' T.ValueError OU rfl) (aH 0))))))) (bE (cD f6)) dQ)
   (@bv _ _ _ _ _ _ (dD (eU (NA (l:=[("Both",t.zh),("NoMark",t.zR),("NoRow",t.zS),("NoText",t.zT),("Nowhere",t.zi),("OutOfBook",t.zj),("SentHere",t.zk),("TwoWays",t.zl)]) (mW T.cl_Both (mW T.cl_NoMark (mW T.cl_NoRow (mW T.cl_NoText (mW T.cl_Nowhere (mW T.cl_OutOfBook (mW T.cl_SentHere (mW T.cl_TwoWays OT)))))))) (Nat.le_of_ble_eq_true rfl) 'r' T.isinstance (dL (lV 'r' T.we) (dL (lV 'r' T.wr) (dL (lV 'r' T.ws) (dL (lV 'r' T.wt) (dL (lV 'r' T.wf) (dL (lV 'r' T.wx) (dL (lV 'r' T.wi) (dL (lV 'r' T.wj) gG)))))))) (aH 0))) (bE (cD f6)) dQ)
   (@bv _ _ _ _ _ _ (yG (i:=2) BB.nd rfl rfl rfl (vars:=["_law_path"]) (cap:=[]) (lM [] rfl 'd' 'd' 'd' .nil) (lN .nil) 'd' 'd' (n8 (aE 1)) (λ _ _ _ _=>(cB (i:=0) (show Nodup (["_law_path"]:T8) by decide) rfl 'i')) (λ _ _ _ _=>mG) (λ _ _ _ _=>(bV (qU T) hr T.yW (aF (aH 0) bi))))
   (@bv _ _ _ _ _ _ (@bM _ _ _ _ _ 3 _ _ BB.nd rfl 'i' (pP plainAttrs_list slot_list_index type_list_index (vI LV hr 'd') vJ (aE 2) (cA (aA (e5 (PD rfl hr) PF 'r' T.min CF (cA (aE 2) cF))) cF)) rfl 'j')
   (bE (cD (yx (uV Dr 'r' T.isinstance (qW (v:=.ty "list") 'r' T.list rz rfl) (aA (DN zy (aH 0)))) (uN (rG (hU hr) hV (aA (DN zy (aH 0))) (aA (bz cJ cK (aA (f9 (aE 1) (eZ (aE 3)) hY)) (aA (f9 (aE 1) hY (eZ (aE 3)))))) (c5 _))))))))))
def Sx(T:Txt K mg t):aG P w K mg base bC 2 t.zP t.yO ["_law_found","_law_count","_law_there","_law_ring"] (bQ K 4 v7):=by
 exact c3 (k:=1) (fs:=f_q6) rfl rfl rfl T.wd.F qT λ c A b s H E B a=>(@bv _ _ _ _ _ _ (dD (PW.pt (jY (i6 (eU (uV Dr 'r' T.isinstance (qW (v:=.ty "list") 'r' T.list rz rfl) (aE 0)))) (mD (cI (pL a) pM (aA (e5 fF fG 'r' T.len fC (cA (aE 0) cF))) (aE 1) (c5 _))))) (bE (cD f6)) dQ)
   (@bv _ _ _ _ _ _ (j6 PassesOwn.never rfl (i9 (aH 0)) (pT rfl (e7 (cB (i:=4) qT.nd rfl 'i') (e7 (cB (i:=5) qT.nd rfl 'i') (e7 (cB (i:=6) qT.nd rfl 'i') (e7 (cB (i:=7) qT.nd rfl 'i') (e7 (cB (i:=8) qT.nd rfl 'i') pS)))))) (@bv _ _ _ _ _ _ (dD (PW.pt (jY (cI (n0 a) n5 (aE 7) (aE 2) (by with_unfolding_all rfl)) (jY (i6 (eU (bV (Sr T) a T.xY (aF (aH 8) bi)))) (mD (PW.pt (i8 (cI (rK a) rL (aE 5) (aE 2) (by with_unfolding_all rfl)) (i7 (PW.pt (jY (cI (pL a) pM (aE 7) (aE 5) (c5 _)) (mD (cI (pL a) pM (aE 8) (aA aM) (c5 _)))))))))))) (bE (cD f6)) dQ)
   (bE (dD (PW.pt (i8 (cI (rK a) rL (aE 5) (aE 3) (by with_unfolding_all rfl)) (i7 (PW.pt (jY (cI (pL a) pM (aE 7) (aA (b9 (aE 2) (aA aM) (λ_ _=>rfl))) (c5 _)) (mD (cI (pL a) pM (aE 8) (aA (bz cJ cK (aA (bz Ct Dc (aA (e5 fF fG 'r' T.len fC (cA (aE 3) cF))) (aA (pP plainAttrs_list slot_list_index type_list_index (vI LV a 'd') vJ (aE 3) (cA (aE 5) cF))))) (aA aM))) (c5 _)))))))) (bE (cD f6)) dQ))))
   (bE (cD f6))))
def Sy(T:Txt K mg t):aG P w K mg base bC 9 t.zQ t.yP ["_law_script"] (bQ K 1 qG):=by
 exact c3 (k:=8) (fs:=f_q23) rfl rfl rfl T.wk.F lB λ c A b s H E B a=>(@bv _ _ _ _ _ _ (@bM _ _ _ _ _ 1 _ _ lB.nd rfl 'i' (bV (wO T) a T.xb (aF (aH 0) (aF aM bi))) rfl 'j')
   (@bv _ _ _ _ _ _ (@bM _ _ _ _ _ 2 _ _ lB.nd rfl 'i' (bV (So T) a T.xV (aF (@bz _ _ _ _ _ _ _ _ _ _ OC OD (@aA _ _ _ _ (@pH _ _ _ _ _ (aF f6 bi))) (@aA _ _ _ _ aM)) (aF aM (aF aM (aF (bV (Su T) a T.wa (aF (bV (wO T) a T.xb (aF (aH 0) (aF aM bi))) (aF (aH 1) bi))) bi))))) rfl 'j')
   (@bv _ _ _ _ _ _ (yG (i:=3) lB.nd rfl rfl rfl (vars:=["_law_row"]) (cap:=[]) (lM [] rfl 'd' 'd' 'd' .nil) (lN .nil) 'd' 'd' (n8 (aE 2)) (λ _ _ _ _=>(cB (i:=0) (show Nodup (["_law_row"]:T8) by decide) rfl 'i')) (λ _ _ _ _=>mG) (λ _ _ _ _=>(b9 (aE 0) (aA aM) 'k')))
   (@bv _ _ _ _ _ _ (@bM _ _ _ _ _ 4 _ _ lB.nd rfl (Or.inr rfl) (bV (Sv T) a T.wb (aF (aH 3) (aF (bV (wO T) a T.xb (aF (aH 0) (aF aM bi))) (aF (aH 1) bi)))) rfl 'j')
   (@bv _ _ _ _ _ _ (@bM _ _ _ _ _ 5 _ _ lB.nd rfl 'i' (bV (Sw T) a T.wc (aF (f9 (aE 0) (eZ (aA aM)) (eZ (aA aM))) (aF (aH 3) (aF (aH 4) (aF (aH 1) bi))))) rfl 'j')
   (@bv _ _ _ _ _ _ (yG (i:=6) lB.nd rfl rfl rfl (vars:=["_law_k"]) (cap:=[4]) (lM ["_law_ring"] rfl 'd' 'd' 'd' (.cons 'i' .nil)) (lN (.cons (⟨of_decide_eq_true 'r',of_decide_eq_true 'r'⟩) .nil)) 'd' 'd' (Du (pR 'r' T.range (cA (aA (e5 fF fG 'r' T.len fC (cA (aE 4) cF))) cF))) (λ _ _ _ _=>(cB (i:=0) (show Nodup (["_law_k","_law_ring"]:T8) by decide) rfl 'i')) (λ _ _ _ _=>mG) (λ _ _ _ _=>(gm (aF (b9 (aE 1) (aA (bz Ct Dc (aE 0) (aA aM))) 'k') (aF (b9 (aE 1) (aE 0) 'k') (aF f6 bi))))))
   (@bv _ _ _ _ _ _ (@bM _ _ _ _ _ 7 _ _ lB.nd rfl 'i' (bz eR eY (aA (bz kH kN (aA (bV (wO T) a T.xb (aF (aH 0) (aF aM bi)))) (aA aM))) (aA (bz cJ cK (aA (e5 fF fG 'r' T.len fC (cA (aE 5) cF))) (aA aM)))) rfl 'j')
   (@bv _ _ _ _ _ _ (@bM _ _ _ _ _ 8 _ _ lB.nd rfl 'i' (bz cJ cK (aA (bz cJ cK (aA (f9 (aE 5) hY (eZ (aE 7)))) (aE 6))) (aA (f9 (aE 5) (eZ (aE 7)) hY))) rfl 'j')
   (@bv _ _ _ _ _ _ (dD (i6 (eU (bV (HX T) a T.xE (aF (bV (HW T) a T.xD (aF (aH 2) (aF (aH 8) bi))) (aF (aH 4) bi))))) (bE (cD f6)) dQ)
   (@bv _ _ _ _ _ _ (@bM _ _ _ _ _ 9 _ _ lB.nd rfl 'i' (@bz _ _ _ _ _ _ _ _ _ _ cJ cK (@aA _ _ _ _ (@bz _ _ _ _ _ _ _ _ _ _ cJ cK (aE 5) (@aA _ _ _ _ (f9 (aE 6) (eZ (@aA _ _ _ _ aM)) hY)))) (@aA _ _ _ _ (@pH _ _ _ _ _ (aF (gm (aF (b9 (aE 4) (@aA _ _ _ _ (iN aM)) 'k') (aF (b9 (aE 3) (@aA _ _ _ _ aM) 'k') (aF f6 bi)))) bi)))) rfl 'j')
   (@bv _ _ _ _ _ _ (dD (i6 (eU (bV (Sx T) a T.wd (aF (bV (HS T) a T.xa (aF (aH 2) (aF (aH 9) bi))) (aF (PQ [2,2,1] rfl a 'r' T.len 'r' T.set (cA (aE 9) cF)) (aF (aH 3) (aF (aH 4) bi))))))) (bE (cD f6)) dQ)
   (bE (cD (bV (HX T) a T.xE (aF (bV (HW T) a T.xD (aF (aH 2) (aF (j3 (Oc rfl 'r' T.list 'r' T.reversed (cA (aE 8) cF))) bi))) (aF (aH 4) bi))))))))))))))))
end
def Sz{K:Fg1}{a:Addr}{ns:Ti}(hl:ns.length<=63)(d:bH K H a (ns.map V.int))(q:∀H',Q (.bl true) H'):bQ K 1 qG [.ref a] H Q E:=by
 erw[⟨H,[.lst (ns.map D.int)],.bl true,aQ.refl _,.cons (iL d (yJ ns)) .nil,rfl,RJ ns hl,λb H' v _ c=>?_⟩];rw[c.bl];rwa[q H']
abbrev fT(K:Fg1)(x:String)(s:Stmt)(f:Addr)(a:Value):Prop:=nsIn K mainGlobals x=some (some (.ref f))/\K.lookup f=some (Zf x x s a (.ref (f - 1)))/\codeIn K (.ref (f - 1)) x=true/\keepIn K (.ref f)=true
abbrev nN(K:Fg1)(x:String):Prop:=nsIn K mainGlobals x=some none
abbrev nS(K:Fg1)(x:String)(f:Addr):Prop:=nsIn K mainGlobals x=some (some (.ref f))
def Q_:T8->(T9->Prop)->Prop
 |[],P=>P []
 |_::l,P=>∀v,Q_ l λa=>P (v::a)
theorem R_:∀{l P},Q_ l P->∀a:T9,a.length=l.length->P a
 |[],_,h,[],_=>h
 |_::_,_,h,v::_,e=>R_ (h v) _ (Nat.succ.inj e)
abbrev S_(p:T8)(x q)(s:Stmt):=∀a b c d e f,Q_ p λt=>bindArgs (fnOf x q (lC s) (fM s) (bw s) .none a b c d e f) ⟨t,[]⟩=pure (p.zip t)
def bd{st:Stmt}(F:ec K x q st f d)(h:S_ p x q st:=by(repeat intro _);rfl):dq K d p []:=F.binds λ_ _ _ _ _ _=>R_ (h _ _ _ _ _ _)
def df(X:K.In h)(G:h.Ns mainGlobals e)(t:fT K x s f m)(b:S_ p x x s:=by(repeat intro _);rfl):Df K e x s p f (fnOf x x (lC s) (fM s) (bw s) .none .none .none m none (.ref (f - 1)) .none):=⟨iI t.2.1 t.2.2.1 t.2.2.2,mg_of X G t.1,(iI t.2.1 t.2.2.1 t.2.2.2).binds λ_ _ _ _ _ _=>R_ (b _ _ _ _ _ _)⟩
def HY(K:Fg1):Prop:=((fT K "shown" AV 198 Z2/\fT K "key_of" AW 203 Z2/\fT K "rank" AX 208 Z2/\fT K "fits" AY 215 Z3/\fT K "poured" AZ 222 Z3)/\(fT K "poured_sees" A0 229 Z3/\fT K "copied" A1 236 Z3/\fT K "mark_rank" A2 243 Z3/\fT K "see_rank" A3 250 Z3/\fT K "ways" A4 255 Z4)/\(fT K "pages_by_path" A5 262 Z4/\fT K "goals_by_path" A6 269 Z4/\fT K "way_of_see" A7 276 Z4/\fT K "refuse_start" A8 283 Z4/\fT K "way_of_goal" A9 290 Z4)/\(fT K "ring_in" Ba 297 Z4/\fT K "from_least" Bb 304 Z4/\fT K "pages" Bc 311 Z5/\fT K "stretches" Be 318 Z6/\fT K "strong_by_page" Bf 325 Z6)/\(fT K "goes_on" Bg 332 Z6/\fT K "entries" Bh 337 Z7/\fT K "refuse_unfit" Bi 344 Z7/\fT K "marks_by_path" Bj 351 Z7/\fT K "_law_whole" Bk 358 Zm))/\((fT K "_law_cell_at" Bl 365 Zm/\fT K "_law_head_by" Bm 372 Zm/\fT K "_law_path_by" Bn 377 Zm/\fT K "_law_fresh" Bo 384 Zm/\fT K "_law_marks" Bp 391 Zm)/\(fT K "_law_ring_by" Br 398 Zm/\fT K "_law_beside" Bt 405 Zm/\fT K "_law_told_of" Bu 412 Zm/\fT K "_law_ring_so" Bv 417 Zm/\fT K "_law_open_so" Bw 424 Zm)/\(fT K "law" qR 429 Zm/\nN K "ValueError"/\nN K "bool"/\nN K "int"/\nN K "isinstance")/\(nN K "len"/\nN K "list"/\nN K "min"/\nN K "range"/\nN K "reversed")/\(nN K "set"/\nN K "sorted"/\nN K "str"/\nN K "tuple"/\nS K "PageError" 24))/\((sQ K 24=true/\nS K "Both" 82/\j8 K "Both" 82 24 (some 79)=true/\K.lookup 79=some (Zf "__init__" "Both.__init__" BD Z1 (.ref 78))/\codeIn K (.ref 78) "Both.__init__" = true)/\(keepIn K (.ref 79)=true/\keepIn K (.ref 82)=true/\nS K "NoMark" 170/\j8 K "NoMark" 170 24 none=true/\nS K "NoRow" 158)/\(j8 K "NoRow" 158 24 (some 155)=true/\nS K "NoText" 189/\j8 K "NoText" 189 24 (some 186)=true/\nS K "Nowhere" 139/\j8 K "Nowhere" 139 24 (some 136)=true)/\(K.lookup 136=some (Zf "__init__" "Nowhere.__init__" BE Z1 (.ref 135))/\codeIn K (.ref 135) "Nowhere.__init__" = true/\keepIn K (.ref 136)=true/\keepIn K (.ref 139)=true/\nS K "OutOfBook" 44)/\(j8 K "OutOfBook" 44 24 (some 41)=true/\K.lookup 41=some (Zf "__init__" "OutOfBook.__init__" HF Z1 (.ref 40))/\codeIn K (.ref 40) "OutOfBook.__init__" = true/\keepIn K (.ref 41)=true/\keepIn K (.ref 44)=true))/\((nS K "Ring" 120/\j8 K "Ring" 120 24 (some 117)=true/\K.lookup 117=some (Zf "__init__" "Ring.__init__" BF Z1 (.ref 116))/\codeIn K (.ref 116) "Ring.__init__" = true/\keepIn K (.ref 117)=true)/\(keepIn K (.ref 120)=true/\nS K "SentHere" 63/\j8 K "SentHere" 63 24 (some 60)=true/\K.lookup 60=some (Zf "__init__" "SentHere.__init__" BG Z1 (.ref 59))/\codeIn K (.ref 59) "SentHere.__init__" = true)/\(keepIn K (.ref 60)=true/\keepIn K (.ref 63)=true/\nS K "TwoWays" 101/\j8 K "TwoWays" 101 24 (some 98)=true/\K.lookup 98=some (Zf "__init__" "TwoWays.__init__" BH Z1 (.ref 97)))/\(codeIn K (.ref 97) "TwoWays.__init__" = true/\keepIn K (.ref 98)=true/\keepIn K (.ref 101)=true/\nsIn K mainGlobals "LETTERS_AND_FIGURES" = some (some (.str BC 431))))
def fts(w:World):HY (KK w.params):=by delta HY;and_intros <;> kernel_rfl
def all_mk{l:PySem.W.OpenLaw}{w:World}{h:Heap}{fa:Addr}(X:(KK w.params).In h)(G:h.Ns mainGlobals mg)(hfa:mg "law" = some (.ref fa)) :
  ∃fd:FuncData,(∀(s:Shared) (v:Value),BindsTo s fd ⟨[v],[]⟩ [("_law_script",v)])/\∀base:Heap,(KK w.params).In base->base.Ns mainGlobals mg->aG l.prog w (KK w.params) mg base bC 9 fa fd ["_law_script"] (bQ (KK w.params) 1 qG):=by
 have ⟨⟨⟨ac,ad,ae,af,ag⟩,⟨aB,ah,ai,aj,ak⟩,⟨aC,aD,al,aE,aF⟩,⟨am,an,ao,ap,aH⟩,⟨aq,ar,aI,aJ,as⟩⟩,⟨⟨aK,aL,aM,au,av⟩,⟨aN,aO,aP,aQ,aR⟩,⟨a2,A,a8,aw,B⟩,⟨ax,a9,ay,a3,O⟩,⟨az,Z,aA,a4,j⟩⟩,⟨⟨aS,S,aa,u,I⟩,⟨J,a5,C,a0,L⟩,⟨a6,D,a1,y,U⟩,⟨d,o,p,P,k⟩,⟨F,a,g,i,E⟩⟩,⟨⟨V,ab,x,M,N⟩,⟨a7,q,Q,b,m⟩,⟨n,H,z,Y,f⟩,⟨r,t,R,c⟩⟩⟩:=fts w;generalize KK w.params=K at *;have e:=hfa.symm.trans (mg_of X G a2.1);cases e;have T:Txt K mg ⟨198,_,203,_,208,_,215,_,222,_,229,_,236,_,243,_,250,_,255,_,262,_,269,_,276,_,283,_,290,_,297,_,304,_,311,_,318,_,325,_,332,_,337,_,344,_,351,_,358,_,365,_,372,_,377,_,384,_,391,_,398,_,405,_,412,_,417,_,424,_,429,_,431,82,79,_,170,none,158,(some 155),189,(some 186),139,136,_,44,41,_,24,120,117,_,63,60,_,101,98,_⟩:=⟨df X G ac,df X G ad,df X G ae,df X G af,df X G ag,df X G aB,df X G ah,df X G ai,df X G aj,df X G ak,df X G aC,df X G aD,df X G al,df X G aE,df X G aF,df X G am,df X G an,df X G ao,df X G ap,df X G aH,df X G aq,df X G ar,df X G aI,df X G aJ,df X G as,df X G aK,df X G aL,df X G aM,df X G au,df X G av,df X G aN,df X G aO,df X G aP,df X G aQ,df X G aR,df X G a2,mg_none_of X G A,mg_none_of X G a8,mg_none_of X G aw,mg_none_of X G B,mg_none_of X G ax,mg_none_of X G a9,mg_none_of X G ay,mg_none_of X G a3,mg_none_of X G O,mg_none_of X G az,mg_none_of X G Z,mg_none_of X G aA,mg_none_of X G a4,aS,mg_of X G c,S,mg_of X G S,lW aa,⟨_,u,rfl⟩,a5,iI u I J,bd (iI u I J),C,mg_of X G C,lW a0,L,mg_of X G L,lW a6,D,mg_of X G D,lW a1,y,mg_of X G y,lW U,⟨_,d,rfl⟩,P,iI d o p,bd (iI d o p),k,mg_of X G k,lW F,⟨_,a,rfl⟩,E,iI a g i,bd (iI a g i),j,mg_of X G j,V,mg_of X G V,lW ab,⟨_,x,rfl⟩,a7,iI x M N,bd (iI x M N),q,mg_of X G q,lW Q,⟨_,b,rfl⟩,H,iI b m n,bd (iI b m n),z,mg_of X G z,lW Y,⟨_,f,rfl⟩,R,iI f r t,bd (iI f r t)⟩
 exact⟨fnOf "law" "law" (lC qR) (fM qR) (bw qR) .none .none .none Zm none (.ref 428) .none,λs v=>.of_eq rfl,λbase _ _=>Sy T⟩
def walk{l:PySem.W.OpenLaw}{d:DefRec}{K:Params->Fg1}(hn:l.most=some 63)(c:d.params.defaults=[])(i:∀(w:World) (h:Heap),e w h->(K w.params).In h)(F:∀ (w:World) (b:Str->Ta) (fa:Addr) (h:Heap),(K w.params).In h->h.Ns mainGlobals b->b d.name=some (.ref fa) →
   ∃fd:FuncData,(∀(s:Shared) (u:Value),BindsTo s fd ⟨[u],[]⟩ [("_law_script",u)])/\∀base:Heap,(K w.params).In base->base.Ns mainGlobals b->aG l.prog w (K w.params) b base bC 9 fa fd ["_law_script"] (bQ (K w.params) 1 qG)) :
  PySem.W.WalkO q loose XP e l.row.toRowW d [] (λf vs=>PySem.call f vs) :=
 L2.walk_of (n:=63) (k:=9) (x:="_law_script") (CX:=λ_=>bC) (sp:=λw=>bQ (K w.params) 1 qG) hn 'd' c ⟨rfl,'d','d'⟩ i F (λ_ H a ns hl j g=>Sz hl g λ_=>rfl) λ_ _ _ _ _ z=>z
end K21
open PySem PySem.W PyProof.Rows
set_option maxRecDepth 100000 in
set_option maxHeartbeats 0 in
theorem PySem.Challenge.cw_pageback_k21_rings_told_holds : PySem.Challenge.rw_pageback_k21_rings_told.Holds := by
 refine PySem.W.holds_law K21.wsl λsaid=>?_
 refine PySem.W.holds_open (q:=K21.VV) (loose:=[]) (XP:=XL K21.VV []) (kwd:=[]) K21.hl (kHook K21.KK K21.AA K21.ka).of (kHook K21.KK K21.AA K21.ka).keeps (λs e=>xl_of s (gu.mp e).left) XL.keeps 'r' 'r' 'r' (λs e=>PySem.W.recFacts_of (gu.mp e).right) 'r' ?said 'd' ⟨rfl,rfl,rfl,rfl,rfl,'d'⟩ ?hw ?hc
 case said=>assumption
 case hw=>w_witness2
 refine K21.walk (l:=Fg3) rfl rfl (λw h Y=>kIn_of Y) ?F
 case F =>
  intro w c fa h b G a;exact K21.all_mk b G a
end
