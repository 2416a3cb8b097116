import PyProof.Rows.All
import Wide.All
import OpenK.AllK
import Wide.FinOn
import Lean
import PyProof.EqAt
import PyProof.EqKinds
import PyProof.TupleCall
import PyProof.Draws
import PyProof.ZipIter
import PyProof.SeqI3
import PyProof.CallStr
import PyProof.StrHeap
import PyProof.ReprBulk
import PyProof.Rows.ListRangeD
import PyProof.EnumFor
import PyProof.EnumStmt
import PyProof.EnumMake
import PyProof.AutoListH
import PyProof.RangeFor
import PyProof.Rows.Range3
import KE.KUnpack
import PyProof.ReprRoads
import PyProof.ReprLen
import PyProof.FitsInt
import PyProof.DictCompW
import KE.KDictSum
import PyProof.NeKinds
import PyProof.SumWalk
import PyProof.SliceStr2
import PyProof.StrCalls2
import PyProof.Rows.StrNews
import PyProof.Rows.StrJoin2
import PyProof.StrWalks
import KE.KUnpackStar
import KE.KIntText
import PyProof.StrLawsTight
import PyProof.Rows.StrItems
import PyProof.Rows.StrClose3
import PyProof.SetRoads
import PyProof.Rows.FStr
import KE.KxText
import PySem.Challenge.RW_nearpool_k50_whole_made_cells_run
set_option compiler.extract_closed false
set_option genSizeOf false
set_option Elab.async false
set_option linter.all false
set_option maxRecDepth 100000
set_option maxHeartbeats 0
noncomputable section
def Daa:=@of_decide_eq_true
def Dab:=@decide_eq_false
def Dac:=@decide_eq_true
def Dad:=@of_decide_eq_false
abbrev Waa:=PySem.W.Frag
def acs:=@PySem.wpAny_bind
def acu:=@PySem.Heap.lt_size
def acv:=@PySem.wpAny_pure
def acw:=@PySem.Heap.get?_push_of_some
def acx:=@PySem.Heap.get?_push_size
def acy:=@PySem.wpAny_mono
def acz:=@PySem.wpAny_field
def acA:=@PySem.wpAny_truthy_bool
def acB:=@PySem.wpAny_holding
def acC:=@PySem.wpAny_standAt
def acD:=@PySem.wpAny_seqItems
def acE:=@PySem.wpAny_passesOwn
def acF:=@PyProof.Rows.assignInOrder_cons
def acG:=@PySem.wpAny_newObj_type
def acH:=@PySem.wpAny_rule
def acI:=@PySem.wpAny_setField_rec
def acJ:=@PySem.wpAny_bindName
def acK:=@PySem.Heap.size_push
def acL:=@PySem.call_meets
def acM:=@PySem.wpAny_call_entry
def acN:=@PySem.tupleKind_room_in1
def acO:=@PySem.Paired.length
def acP:=@PySem.codeAny_mono
def acQ:=@PySem.wpAny_Call_Name_kw
def acR:=@PySem.wpAny_callSpecial?_slot
def acS:=@PySem.F.slot_tuple_iterator_next
def acT:=@PySem.wpAny_onRaise
def acU:=@PySem.F.slot_zip_next
def acV:=@PySem.wpAny_loadPart'
def acW:=@PySem.wpAny_execs_nil
def acX:=@PySem.wpAny_pyIter_list
def acY:=@PySem.wpAny_updateSeq_pair
def acZ:=@PySem.Calls.Name_function_global
def ac0:=@PySem.F.entry_tuple_iterator_next
def ac1:=@PySem.F.args_tuple_iterator_next_1
def aaa:=@List.mem_cons
def aab:=@List.append_assoc
def aac:=@Nat.le_refl
def aad:=@List.mem_append_right
def aae:=@List.length_map
def aaf:=@List.mem_cons_of_mem
def aag:=@List.mem_cons_self
def aah:=@List.mem_append_left
def aai:=@List.getElem?_eq_some_iff
def aaj:=@List.mem_append
def aak:=@List.length_append
def aal:=@List.map_cons
def aam:=@List.getElem?_eq_getElem
def aan:=@Nat.le_trans
def aao:=@Nat.ne_of_lt
def aap:=@List.append_nil
def aaq:=@List.not_mem_nil
def aar:=@Bool.false_ne_true
def aas:=@Nat.lt_of_lt_of_le
def aat:=@List.nodup_cons
def aau:=@List.nodup_append
def aav:=@List.perm_middle
def aaw:=@List.mem_singleton
def aax:=@List.mem_of_getElem?
def aay:=@List.map_nil
def aaz:=@List.getElem?_map
def aaA:=@List.set_cons_succ
def aaB:=@Nat.zero_le
def aaC:=@Bool.and_eq_true
def aaD:=@List.length_cons
def aaE:=@List.map_append
def aaF:=@Option.bind_eq_some_iff
def aaG:=@Ne.symm
def aaH:=@List.mem_map
def aaI:=@List.nil_append
def aaJ:=@Option.map_eq_some_iff
def aaK:=@List.cons_append
def aaL:=@Nat.le_of_lt
def aaM:=@Int.toNat_natCast
def aaN:=@List.of_mem_zip
def aaO:=@List.any_cons
def aaP:=@Nat.zero_add
def aaQ:=@List.findIdx?_cons
def aaR:=@List.length_singleton
def aaS:=@Nat.le_add_right
def aaT:=@List.pairwise_cons
def aaU:=@List.map_map
def aaV:=@List.mem_filter
def aaW:=@List.find?_cons
def aaX:=@Nat.lt_irrefl
def aaY:=@List.getElem?_set_self
def aaZ:=@List.getElem?_set_ne
def aa0:=@Option.some.inj
def aa1:=@Option.isSome_iff_exists
def aa2:=@PySem.mem_of_lookup
def aa3:=@List.replicate_succ
def aa4:=@List.getElem?_append_right
def aa5:=@List.perm_append_comm
def aa6:=@List.Perm.append_left
def aa7:=@Nat.ne_of_gt
def aa8:=@Nat.lt_succ_self
def aa9:=@Nat.le_succ
def aba:=@Bool.or_eq_true
def abb:=@List.nodup_nil
def abc:=@List.getElem?_append_left
def abd:=@Int.zero_add
def abe:=@List.getD_eq_getElem?_getD
def abf:=@PyProof.Rows.callWith_type1
def abg:=@Bool.false_or
def abh:=@List.all_eq_true
def abi:=@Int.emod_nonneg
def abj:=@Int.emod_lt_of_pos
def abk:=@List.pairwise_append
def abl:=@List.length_filter_le
def abm:=@List.set_comm
def abn:=@Bool.eq_iff_iff
def abo:=@List.size_toArray
def abp:=@List.flatten_cons
def abq:=@List.lookup_cons
def abr:=@List.zip_cons_cons
def abt:=@List.getElem?_zip_eq_some
def abu:=@List.append_of_mem
def abv:=@Bool.or_eq_false_iff
def abw:=@List.drop_eq_getElem_cons
def abx:=@Bool.not_eq_true'
def aby:=@List.getElem?_cons_succ
def abz:=@List.countP_cons
def abA:=@Nat.sub_self
def abB:=@PySem.W.mg_of
def abC:=@PySem.W.plainGet_of
def abD:=@Nat.le_of_eq
def abE:=@PySem.W.callWith_K
def abF:=@List.forIn_cons
def abG:=@List.length_replicate
def abH:=@Nat.add_sub_cancel_left
def abI:=@Nat.lt_trans
def abJ:=@Option.isSome_map
def abK:=@PySem.F.slot_dict_get
def abL:=@Int.le_trans
def abM:=@List.set_cons_zero
def abN:=@List.length_set
def abO:=@List.perm_append_comm_assoc
def abP:=@List.ext_getElem?
def abQ:=@Classical.axiomOfChoice
def abR:=@Option.bind_some
def abS:=@List.drop_length
def abT:=@PySem.F.plainAttrs_list
def abU:=@PySem.F.slot_list_append
def abV:=@PySem.F.type_list_append
def abW:=@Bool.and_eq_true_iff
def abX:=@List.any_eq_true
def abY:=@Bool.true_and
def abZ:=@List.filter_cons_of_pos
def ab0:=@List.filter_cons_of_neg
def ab1:=@List.length_take
def ab2:=@Nat.min_eq_left
def ab3:=@Sum.inl.inj
def ab4:=@List.filter_eq_nil_iff
def ab5:=@List.filterMap_cons
def ab6:=@PyProof.noPylong_small
def ab7:=@PySem.W.methodCall_KW
def ab8:=@PySem.W.cellsFrom_some
def ab9:=@PySem.F.entry_dict_get
def aca:=@PySem.F.args_dict_get_2
def acb:=@List.Perm.append_right
def acd:=@List.map_congr_left
def ace:=@List.findIdx?_eq_some_iff_getElem
def acf:=@List.findIdx?_eq_none_iff
def acg:=@Bool.or_eq_true_iff
def ach:=@Nat.add_le_add_right
def aci:=@Nat.mul_le_mul_left
def acj:=@Nat.add_le_add_left
def ack:=@List.eq_nil_or_concat
def acl:=@List.getElem?_concat_length
def acm:=@List.mem_of_mem_take
def acn:=@List.countP_eq_length_filter
def aco:=@List.length_pos_iff
def acp:=@List.take_append_drop
def acq:=@List.countP_eq_length
def acr:=@List.getElem?_eq_none_iff
namespace L2
open PySem
noncomputable def cD(s:Stmt):Arguments:=match s with
 |.FunctionDef _ a _ _ _ _ _ _ _ _=>a
 |_=>{ posonlyargs:=[],args:=[],vararg:=none,kwonlyargs:=[],kw_defaults:=[],kwarg:=none,defaults:=[] }
def bC(s:Stmt):List Stmt:=match s with
 |.FunctionDef _ _ b _ _ _ _ _ _ _=>b
 |_=>[]
def aK(s:Stmt):Scope:=match s with
 |.FunctionDef _ _ _ _ _ _ sc _ _ _=>sc
 |_=>{ kind:=.function,names:=[],isGenerator:=false,isCoroutine:=false }
end L2
namespace Np
open PySem L2
noncomputable abbrev Zpw:=PySem.Challenge.pw_nearpool_k50_whole_made_cells_run
abbrev Zrw:=PySem.Challenge.rw_nearpool_k50_whole_made_cells_run
def top(i:Nat):Stmt:=Zpw.main.body.getD i (.Pass ⟨0,0,0,0⟩)
def bY(j:Nat):Stmt->Stmt
 |.ClassDef _ _ _ body ..=>body.getD j (.Pass ⟨0,0,0,0⟩)
 |s=>s
def lQ:Str:="law_nearpool_k50_whole_made_cells_run"
def vI(n:Int):Value:=.int n 0
def vR(a:Addr):Value:=.ref a
def vS(x:Str)(t:Nat):Value:=.str x t
def nT(P:Params)(k:Str)(t:Nat)(v:Value):DictEntry:=⟨PyData.keyHash P k,.str k t,v⟩
noncomputable def LG(vS:List Value):Obj:=⟨.type "code",none,.fields (List.toArray vS),List.toArray []⟩
def Mo(n q:Str)(t l a r T:Nat):Obj:=LG [vS n t,vS q (t+1),vS "/claim/cut.py" (t+2),vI l,vI a,vI 0,vI 0,vI 3,vR r,.bool true,vI 181,vR (r+1),.none,vR (r+2),vR (r+3),vR (r+4),vI T,vI l,vS "/claim/cut.py" (T+1)]
def Mp(n q:Str)(t l a r T:Nat):Obj:=LG [vS n t,vS q (t+1),vS "/claim/cut.py" (t+2),vI l,vI a,vI 0,vI 0,vI 3,vR r,.bool true,vI 181,vR (r+1),.none,.none,.none,vR (r+2),vI T,vI l,vS "/claim/cut.py" (T+1)]
def Cv(c:Nat)(o:Obj)(r:Waa):Waa:=(c,o)::r
def nI(P:Params)(k:Str)(t:Nat)(n:Int):DictEntry:=nT P k t (.int n (t-1))
def nR(P:Params)(k:Str)(t:Nat)(a:Addr):DictEntry:=nT P k t (.ref a)
def yC:Str×Nat:=("nearpool.rows",187)
def nz:Str×Nat:=("nearpool.codes",228)
def Bt:Str×Nat:=("nearpool.places",346)
def ll:Str×Nat:=("nearpool.pooling",384)
def F7:Str×Nat:=("nearpool.growing",497)
def Bu:Str×Nat:=("nearpool.laying",525)
def F8:Str×Nat:=("nearpool.plainrun",563)
def Bv:Str×Nat:=("nearpool.machine",596)
def jd:Str×Nat:=(lQ,644)
def sN(s:Stmt):Str:=match s with
 |.FunctionDef n _ _ _ _ _ _ _ _ _=>n
 |_=>""
def Gm(n q:Str)(s:Stmt)(m:Str)(t c:Nat):Obj:=⟨.type "function",none,.func (PySem.W.fnOf n q (cD s) (bC s) (aK s) .none .none .none (.str m t) none (.ref c) .none),List.toArray []⟩
def lp(c:Nat)(s:Stmt)(q:Str)(n:Nat)(m:Str×Nat)(t l T:Nat)(r:Waa):Waa:=(c,Mo (sN s) q t l n (c-5) T)::(c+1,Gm (sN s) q s m.1 m.2 c)::r
def Gn(c:Nat)(s:Stmt)(q:Str)(n:Nat)(m:Str×Nat)(t l T:Nat)(r:Waa):Waa:=(c,Mp (sN s) q t l n (c-3) T)::(c+1,Gm (sN s) q s m.1 m.2 c)::r
def bf(c i n:Nat)(m:Str×Nat)(t l T:Nat)(r:Waa):Waa:=lp c (top i) (sN (top i)) n m t l T r
def jN(c i n:Nat)(m:Str×Nat)(t l T:Nat)(r:Waa):Waa:=Gn c (top i) (sN (top i)) n m t l T r
def kK(P:Params):Waa:=Cv 3 ⟨(.type "dict"),none,(.dict (List.toArray [nT P "__name__" 165 (vS lQ 644),nT P "__doc__" 166 .none,nT P "__package__" 167 .none,nT P "__loader__" 168 (.builtin "__main__.__loader__#opaque"),nT P "__spec__" 169 .none,nR P "__annotations__" 170 6,nR P "__builtins__" 171 4,nT P "__file__" 173 (vS "/claim/cut.py" 172),nT P "__cached__" 174 .none,nI P "REGISTERS" 190 5,nI P "NUMBERS" 192 100000000,nI P "GREATEST_SMALL" 194 99,nR P "is_great" 201 21,nR P "is_jump" 208 28,nR P "greats_of" 214 33,nR P "jumps_of" 220 38,nR P "falls" 227 45,nI P "STOP" 231 0,nI P "SET" 233 1000,nI P "SUM" 235 2000,nI P "LESS" 237 3000,nI P "TELL" 239 4000,nI P "GREAT" 241 5000,nI P "SHORT_GO" 243 6500,nI P "LONG_GO" 245 7000,nI P "OVER" 247 7001,nI P "PAD" 249 7002,nI P "POOL" 251 7100,nI P "SHORT_NIL" 253 8100,nI P "LONG_NIL" 255 9000,nI P "SAME_PLACE" 257 5000,nI P "FARTHEST_GO" 259 499,nI P "FARTHEST_NIL" 261 99,nI P "NILS_OF_ONE" 263 200,nI P "MOST_WORDS" 265 100,nI P "HALF_WORD" 267 10000,nR P "jump_cells" 277 52,nR P "row_cells" 290 59,nR P "pair_seen" 300 66,nR P "nil_seen" 311 73,nR P "lone_seen" 319 80,nR P "two_seen" 328 87,nR P "pool_seen" 334 92,nR P "seen_at" 345 99,nI P "OVER_CELLS" 349 2,nI P "WORD_CELLS" 351 2,nR P "size_of" 360 106,nR P "has_over" 368 113,nR P "first_word" 377 120,nR P "placed" 383 125,nR P "Going" 485 189,nR P "pools_for" 496 200,nR P "farthest" 506 207,nR P "too_short" 512 212,nR P "settled" 524 219,nR P "pool_cells" 539 226,nR P "goals_of" 545 231,nR P "laid_cells" 551 236,nR P "made" 562 243,nR P "carry_out" 574 250,nR P "jumps_now" 582 257,nR P "told_plainly" 595 264,nR P "word_at" 607 271,nR P "past_overs" 616 278,nR P "row_at" 628 285,nR P "run" 643 292,nR P "_law_cell_at" 653 299,nR P "_law_tape" 662 306,nR P "_law_take" 672 313,nR P "_law_great" 681 320,nR P "_law_rows" 698 327,nR P "_law_is_great" 705 334,nR P "_law_size" 714 341,nR P "_law_placed" 729 348,nR P "_law_plain" 743 355,nR P "_law_same" 749 360,nR P "law" 755 365]) 77),List.toArray []⟩ (
 bf 20 4 1 yC 195 5 199 (
 bf 27 5 1 yC 202 7 206 (
 jN 32 6 1 yC 209 9 212 (
 jN 37 7 1 yC 215 11 218 (
 bf 44 8 1 yC 221 13 225 (
 bf 51 29 4 nz 268 35 275 (
 bf 58 30 4 nz 278 41 288 (
 bf 65 31 2 nz 291 57 298 (
 bf 72 32 2 nz 301 60 309 (
 bf 79 33 2 nz 312 64 317 (
 bf 86 34 3 nz 320 82 326 (
 jN 91 35 2 nz 329 92 332 (
 bf 98 36 2 nz 335 99 343 (
 bf 105 40 3 Bt 352 115 358 (
 bf 112 41 2 Bt 361 117 366 (
 bf 119 42 3 Bt 369 119 375 (
 jN 124 43 3 Bt 378 123 381 (
 lp 138 (bY 0 (top 45)) "Going.__init__" 4 ll 398 139 405 (
 lp 145 (bY 1 (top 45)) "Going.is_due" 2 ll 408 150 416 (
 lp 152 (bY 2 (top 45)) "Going.lay" 2 ll 419 159 427 (
 lp 159 (bY 3 (top 45)) "Going.finds" 2 ll 430 171 435 (
 lp 166 (bY 4 (top 45)) "Going.may_put" 2 ll 438 176 443 (
 lp 173 (bY 5 (top 45)) "Going.come" 2 ll 446 181 452 (
 lp 180 (bY 6 (top 45)) "Going.cross" 2 ll 455 191 460 (
 Gn 185 (bY 7 (top 45)) "Going.plan" 1 ll 463 199 466 (
 Cv 188 ⟨(.type "dict"),none,(.dict (List.toArray [nT P "__module__" 393 (vS "nearpool.pooling" 384),nI P "__firstlineno__" 397 137,nR P "__init__" 407 139,nR P "is_due" 418 146,nR P "lay" 429 153,nR P "finds" 437 160,nR P "may_put" 445 167,nR P "come" 454 174,nR P "cross" 462 181,nR P "plan" 468 186,nR P "__static_attributes__" 478 187,nR P "__dict__" 480 190,nR P "__weakref__" 482 191,nT P "__doc__" 483 .none]) 4),List.toArray []⟩ (
 Cv 189 ⟨(.type "type"),none,(.cls ⟨"Going",[(.type "object")],[(vR 189),(.type "object")],188,"Going",true,[],[],false,none,false⟩),List.toArray [none,none,(some (vS "Going" 386)),(some (vS "Going" 394)),(some (.builtin "object.__new__")),(some (.bool true))]⟩ (
 bf 199 46 3 ll 486 202 494 (
 bf 206 48 2 F7 499 208 504 (
 jN 211 49 4 F7 507 210 510 (
 bf 218 50 3 F7 513 215 522 (
 bf 225 52 4 Bu 527 225 537 (
 jN 230 53 3 Bu 540 236 543 (
 jN 235 54 3 Bu 546 244 549 (
 bf 242 55 3 Bu 552 254 560 (
 bf 249 57 3 F8 565 258 572 (
 bf 256 58 2 F8 575 268 580 (
 bf 263 59 2 F8 583 270 593 (
 bf 270 61 3 Bv 598 284 605 (
 bf 277 62 2 Bv 608 289 614 (
 bf 284 63 2 Bv 617 295 626 (
 bf 291 64 2 Bv 629 304 641 (
 bf 298 66 2 jd 646 322 651 (
 bf 305 67 2 jd 654 324 660 (
 bf 312 68 2 jd 663 327 670 (
 bf 319 69 1 jd 673 336 679 (
 bf 326 70 1 jd 682 340 696 (
 bf 333 71 1 jd 699 356 703 (
 bf 340 72 3 jd 706 358 712 (
 bf 347 73 3 jd 715 360 727 (
 bf 354 74 2 jd 730 373 741 (
 jN 359 75 2 jd 744 391 747 (
 jN 364 76 1 jd 750 403 753 [])))))))))))))))))))))))))))))))))))))))))))))))))))))
def Zqv:Program:=PySem.W.view Zpw ((List.range 77).filter λi=>![0,9,37,44,47,51,56,60,65].contains i)
def Zhk:PySem.W.Hook:=PySem.W.kHook kK (3::[20,27,32,37,44,51,58,65,72,79,86,91,98,105,112,119,124,138,145,152,159,166,173,180,185,188,199,206,211,218,225,230,235,242,249,256,263,270,277,284,291,298,305,312,319,326,333,340,347,354,359,364].flatMap λc=>[c,c+1]) (λ_=>by kernel_rfl)
abbrev Zxt(s:Shared):Bool:=PySem.W.xlAt Zqv [] s&&PySem.W.recOk (PySem.W.RowW.records Zrw.row.toRowW) s
section
open PySem.W PyProof.Rows
abbrev yH:=openSeen Zqv [] (importedModules Zpw.main.body) Zxt true
def Cw(p:Program)(N:Nat)(w:World)(os:OsState):Option Shared:=topFrom treeTable p w N ⟨boot_heap w.params,Array.mk [],boot_drawn,boot_toks,os⟩
theorem yI{p:Program}{Y:Type}{y:Shared->Y}{a:World->Y}{N:Nat}(e:opening p=plainProg p.main.scope.names)(u:Nat.ble 600 N=true)(f:∀s,fenceModules? p s=some s)
  (h:∀(w:World) (C:OsState),(Cw p N w C).map y=some (a w)):∀w,(openEnds treeTable p w N).map y=some (a w):=λw=>by
 obtain⟨⟨L,S,d,k,C⟩,J,B⟩:=aaJ.mp (boot_open e u f w);obtain⟨rfl,rfl,rfl,rfl⟩:L=boot_heap w.params/\S=Array.mk []/\d=boot_drawn/\k=boot_toks:=by simpa using B
 unfold openEnds;rw[J];exact h w C
theorem LH{A B C:Type}{o:Option A}{f:A->B}{g:A->C}{a:B}{b:C}(h:o.map f=some a)(k:o.map g=some b):o.map (λs=>(f s,g s))=some (a,b):=by
 cases o with
 |none=>cases h
 |some s=>cases h;cases k;rfl
theorem JG{A B C D:Type}{o:Option A}{f:A->B}{g:A->C}{j:A->D}{a:B}{b:C}{c:D}(h:o.map (λs=>(f s,g s))=some (a,b))(k:o.map j=some c):o.map (λs=>(f s,g s,j s))=some (a,b,c):=by
 cases o with
 |none=>cases h
 |some s=>cases h;cases k;rfl
theorem Mq(w:World)(os:OsState):(Cw Zpw 4300 w os).map (λs=>(yH s).1)=some (expectedOf Zqv):=by kernel_rfl
theorem Mr(w:World)(os:OsState):(Cw Zpw 4300 w os).map (λs=>((yH s).2.1,(yH s).2.2.1))=some (bltViewBooted,true):=by kernel_rfl
theorem Ms(w:World)(os:OsState):(Cw Zpw 4300 w os).map (λs=>((yH s).2.2.2.1,(yH s).2.2.2.2.1))=some (true,pinGoodD (drecsOf Zqv)):=by kernel_rfl
theorem Mt(w:World)(os:OsState):(Cw Zpw 4300 w os).map (λs=>((yH s).2.2.2.2.2.1,(yH s).2.2.2.2.2.2.1))=some (plainGoodE Zqv (looseW Zqv []),plainGoodD Zqv []):=by kernel_rfl
theorem Mu(w:World)(os:OsState):(Cw Zpw 4300 w os).map (λs=>((yH s).2.2.2.2.2.2.2.1,(yH s).2.2.2.2.2.2.2.2))=some (wideGood Zqv,clsGoodW Zqv []):=by kernel_rfl
theorem Mv(w:World)(os:OsState):(Cw Zpw 4300 w os).map (λs=>PySem.W.Hook.obs Zhk s)=some (PySem.W.Hook.val Zhk w):=by kernel_rfl
theorem left:PySem.W.LeftO Zpw Zqv [] Zxt (PySem.W.Hook.obs Zhk) (PySem.W.Hook.val Zhk) 4300:=yI (by kernel_rfl) (by rfl) (λs=>by kernel_rfl) λw C=>LH (LH (Mq w C) (JG (Mr w C) (JG (Ms w C) (JG (Mt w C) (Mu w C))))) (Mv w C)
end
theorem said:Zrw.wellSaid=true:=by kernel_rfl
end Np
namespace L2
open PySem PySem.Spec PyProof.Rows
section
abbrev Key:=Sum Int Str
noncomputable def keyIs:Key->Value->Bool
 |.inl k,v=>Value.isInt k v
 |.inr x,v=>Value.isStrOf x v
noncomputable def keyH(w:World):Key->Int
 |.inl k=>hashInt k
 |.inr x=>hashStr w x
theorem aV:∀{k:Key}{v:Value},keyIs k v=true->(∃i t,k=Sum.inl i/\v=Value.int i t)\/(∃x t,k=Sum.inr x/\v=Value.str x t)
 |.inl i,v,h=>by obtain⟨t,e⟩:=Value.isInt_shape h;exact .inl ⟨i,t,rfl,e⟩
 |.inr x,v,h=>by obtain⟨t,e⟩:=Value.isStrOf_shape h;exact .inr ⟨x,t,rfl,e⟩
theorem se(i:Int)(t:Tok):keyIs (.inl i) (.int i t)=true:=by simp[keyIs,Value.isInt]
theorem sf(x:Str)(t:Tok):keyIs (.inr x) (.str x t)=true:=by simp[keyIs,Value.isStrOf]
theorem Cz(a b:Int):decide ((Sum.inl a:Key)=Sum.inl b)=(a==b):=by
 grind
theorem CA(a b:Str):decide ((Sum.inr a:Key)=Sum.inr b)=decide (a=b):=by simp
theorem CB(a:Int)(b:Str):decide ((Sum.inl a:Key)=Sum.inr b)=false:=by rfl
theorem CD(a:Str)(b:Int):decide ((Sum.inr a:Key)=Sum.inl b)=false:=by rfl
def aP(prog:Program)(w:World):PySem.KeyKind prog w Key where
 is:=keyIs
 hash:=keyH w
 inj:=λv a b m S=>by
  rcases aV m with ⟨i,t,rfl,rfl⟩|⟨x,t,rfl,rfl⟩
  ·rcases aV S with ⟨j,u,rfl,e⟩|⟨y,u,rfl,e⟩
   ·injection e with e1 _;rw[e1]
   ·exact nomatch e
  ·rcases aV S with ⟨j,u,rfl,e⟩|⟨y,u,rfl,e⟩
   ·exact nomatch e
   ·injection e with e1 _;rw[e1]
 byValue:=λk v h=>by rcases aV h with ⟨i,t,rfl,rfl⟩|⟨x,t,rfl,rfl⟩<;>rfl
 pyHash:=λo h=>by
  rcases aV o with ⟨i,t,rfl,rfl⟩|⟨x,t,rfl,rfl⟩
  ·exact wpAny_pyHash_int h
  ·exact wpAny_pyHash_str h
 eqBool:=λU o h=>by
  rcases aV U with ⟨i,t,rfl,rfl⟩|⟨x,t,rfl,rfl⟩
  ·rcases aV o with ⟨j,u,rfl,rfl⟩|⟨y,u,rfl,rfl⟩
   ·rw[Cz]at h;exact wpAny_eqBool_int h
   ·rw[CB]at h;exact SeqAt.EqAt.int_str i t y u _ _ _ _ h
  ·rcases aV o with ⟨j,u,rfl,rfl⟩|⟨y,u,rfl,rfl⟩
   ·rw[CD]at h;exact SeqAt.EqAt.str_int x t j u _ _ _ _ h
   ·rw[CA]at h;exact wpAny_eqBool_str h
 «strs»:=λk x t v h=>by
  rcases aV h with ⟨i,u,rfl,e⟩|⟨y,u,rfl,e⟩
  ·exact nomatch e
  ·injection e with e1 _;subst e1;cases v<;>rfl
theorem lq(prog:Program)(w:World)(i:Int)(t:Tok):(aP prog w).is (.inl i) (.int i t)=true:=se i t
theorem mixKind_str(prog:Program)(w:World)(x:Str)(t:Tok):(aP prog w).is (.inr x) (.str x t)=true:=sf x t
end
section
inductive V where
 |non|bl (b:Bool)|int (i:Int)|str (x:Str)|byt (b:Array UInt8)|flt (b:UInt64)|ref (a:Addr)|ty (n:String)
 deriving DecidableEq
def RelV:V->Value->Prop
 |.non,u=>u=Value.none
 |.bl b,u=>u=Value.bool b
 |.int i,u=>∃t,u=Value.int i t
 |.str x,u=>∃t,u=Value.str x t
 |.byt b,u=>∃t,u=Value.bytes b t
 |.flt b,u=>∃t,u=Value.float b t
 |.ref a,u=>u=Value.ref a
 |.ty n,u=>u=Value.type n
abbrev Vals:List V->List Value->Prop:=Paired RelV
theorem Vals.length{xs:List V}{us:List Value}(r:Vals xs us):xs.length=us.length:=acO r
theorem Vals.get:∀{xs:List V}{us:List Value}{i:Nat}{x:V},Vals xs us->xs[i]?=some x->∃u,us[i]?=some u/\RelV x u
 |_,_,_,_,.nil,e=>by simp at e
 |_,_,0,_,.cons r _,e=>by simp at e;subst e;exact⟨_,rfl,r⟩
 |_,_,i+1,x,.cons _ t,e=>by obtain⟨u,O,Z⟩:=Vals.get (i:=i) (x:=x) t (by simpa using e);exact⟨u,by simpa using O,Z⟩
theorem Vals.set(r:RelV x u):∀{xs:List V}{us:List Value} (i:Nat),Vals xs us->Vals (xs.set i x) (us.set i u)
 |_,_,_,.nil=>.nil
 |_,_,0,.cons _ t=>.cons r t
 |_,_,i+1,.cons q t=>.cons q (Vals.set r i t)
theorem Vals.append:∀{xs ys:List V}{us ws:List Value},Vals xs us->Vals ys ws->Vals (xs++ys) (us++ws)
 |_,_,_,_,.nil,s=>s
 |_,_,_,_,.cons r t,s=>.cons r (Vals.append t s)
theorem Vals.take:∀{xs:List V}{us:List Value} (n:Nat),Vals xs us->Vals (xs.take n) (us.take n)
 |_,_,0,_=>.nil
 |_,_,_+1,.nil=>.nil
 |_,_,n+1,.cons r t=>.cons r (Vals.take n t)
theorem Vals.drop:∀{xs:List V}{us:List Value} (n:Nat),Vals xs us->Vals (xs.drop n) (us.drop n)
 |_,_,0,r=>r
 |_,_,_+1,.nil=>.nil
 |_,_,n+1,.cons _ t=>Vals.drop n t
theorem Vals.none_of:∀{xs:List V}{us:List Value}{i:Nat},Vals xs us->xs[i]?=none->us[i]?=none:=λ{xs us i} r e=>by
 have O:=r.length
 grind
def RelO:Option V->Option Value->Prop
 |some v,some u=>RelV v u
 |none,none=>True
 |_,_=>False
def KV{A:Type}:List (A×V)->List (A×Value)->Prop:=Paired λ(p:A×V) (q:A×Value)=>p.1=q.1/\RelV p.2 q.2
def kV:Key->V
 |.inl i=>.int i
 |.inr x=>.str x
inductive HO where
 |lst (xs:List V)
 |tup (xs:List V)
 |dK (kvs:List (Key×V))|dT (kvs:List (List Key×V))
 |set (S:Int->Bool) (n:Nat)
 |ins (C dx:Addr) (fs:List (Str×V))
 |own (x:Addr)
 |xd (fs:List (Str×V))
 |met (f x:Addr)
 |rng (lo hi:Int)
 |frz (o:Obj) (u:HO)
 |tbl (ps:Array Value)
 |ext (φ:Heap->Prop)
abbrev Hp:=Addr->Option HO
def upd(H:Hp)(a:Addr)(o:HO):Hp:=λb=>if b=a then some o else H b
theorem aB{H:Hp}:upd H a o a=some o:=by unfold upd;simp
theorem upd_ne{H:Hp}(h:b≠a):upd H a o b=H b:=by unfold upd;rw[if_neg h]
theorem Gp{H:Hp}(h:H a=some o)(h':H b=some u)(d:o≠u):a≠b:=by
 grind
theorem au{H:Hp}(h:H a=some o)(h':H b=none):a≠b:=by
 grind
section
variable(P:Program)(w:World)
def JH(h:Heap)(a:Addr)(items:Array Value):Prop:=∃o,h.get? a=some o/\o.cls=.type "tuple"/\∃n,o.data=.seq items n/\o.dict=none
def ObjOk(H:Hp)(h:Heap)(a:Addr):HO->Prop
 |.lst xs=>xs.length<=sizeLine/\∃(D:List Value) (n:Nat),Vals xs D/\h.get? a=some { cls:=.type "list",data:=.seq D.toArray n }
 |.tup xs=>xs.length<=sizeLine/\∃D:List Value,Vals xs D/\JH h a D.toArray
 |.dK kvs=>kvs.length<=sizeLine/\(a==sysModules)=false/\∃c,KV kvs c/\h.DictOf (aP P w) a c
 |.dT kvs=>kvs.length<=sizeLine/\(a==sysModules)=false/\∃xs:List (List Key×Addr×Value),
   Paired (λ(p:List Key×V) (q:List Key×Addr×Value)=>p.1=q.1/\H q.2.1=some (.tup (p.1.map kV))/\RelV p.2 q.2.2) kvs xs /\
   ∃o L J,h.get? a=some o/\o.ExactDict/\o.data=.dict L J/\L.toList=xs.map (entryOfKey (tupleKind (aP P w)))/\(xs.map (·.1)).Nodup
 |.set S n=>h.SetOf (intKind P w) a S n
 |.ins C dx fs=>H dx=some (.own a)/\fs.length<=1000/\dx≠a/\h.get? a=some (PySem.W.instObj C dx) /\
   ∃M,h.Ns1 dx M/\(∀f,RelO (fs.lookup f) (M f))/\PySem.Within M (fs.map (·.1))
 |.own _=>∃o,h.get? a=some o
 |.xd fs=>∃M,h.Ns1 a M/\∀f,RelO (fs.lookup f) (M f)
 |.rng lo hi=>∃t u v,h.get? a=some { cls:=.type "range",data:=.fields #[.int lo t,.int hi u,.int 1 v] }
 |.frz o u=>h.get? a=some o/\ObjOk H h a u
 |.tbl ps=>h.get? a=some { cls:=.none,data:=.fields ps }
 |.met f x=>h.get? a=some (PySem.W.methodObj (.ref f) (.ref x))
 |.ext φ=>φ h/\(∃o,h.get? a=some o)/\∀O Z:Heap,φ O->(∀o,O.get? a=some o->Z.get? a=some o)->φ Z
def HOk(H:Hp)(h:Heap):Prop:=∀a o,H a=some o->ObjOk P w H h a o
end
theorem ObjOk.lt(x:ObjOk P w H h a o):a<h.objs.size:=by
 cases o with
 |lst Y=>obtain⟨_,_,_,_,e⟩:=x;exact acu e
 |tup Y=>obtain⟨_,_,_,o,e,_⟩:=x;exact acu e
 |dK N=>obtain⟨_,_,_,_,o,_,_,e,_⟩:=x;exact acu e
 |dT N=>obtain⟨_,_,_,_,o,_,_,e,_⟩:=x;exact acu e
 |set S n=>obtain⟨o,_,_,_,e,_⟩:=x;exact acu e
 |ins C i F=>obtain⟨_,_,_,e,_⟩:=x;exact acu e
 |own y=>obtain⟨_,e⟩:=x;exact acu e
 |xd F=>obtain⟨_,⟨_,_,_,e,_⟩,_⟩:=x;exact acu e
 |rng L r=>obtain⟨_,_,_,e⟩:=x;exact acu e
 |frz g u=>obtain⟨e,_⟩:=x;exact acu e
 |tbl W=>exact acu (x)
 |met f y=>exact acu (x)
 |ext I=>obtain⟨_,⟨_,e⟩,_⟩:=x;exact acu e
theorem Paired.mapP{Y C:Type}{F G:Y->C->Prop}:∀{l:List Y}{L:List C},Paired F l L->(∀a b,F a b->G a b)->Paired G l L
 |_,_,.nil,_=>.nil
 |_,_,.cons r t,f=>.cons (f _ _ r) (Paired.mapP t f)
theorem ObjOk.j2(x:ObjOk P w H h a o)(k:∀b u,(b=a\/H b=some (.own a))->h.get? b=some u->h'.get? b=some u)
  (T:∀b,H b=some (.own a)->H' b=some (.own a)) (X:∀b xs,H b=some (.tup xs)->H' b=some (.tup xs)):ObjOk P w H' h' a o:=by
 induction o with
 |lst xs=>obtain⟨z,D,n,r,e⟩:=x;exact⟨z,D,n,r,k _ _ (.inl rfl) e⟩
 |tup xs=>obtain⟨z,D,r,g,e,c⟩:=x;exact⟨z,D,r,g,k _ _ (.inl rfl) e,c⟩
 |dK N=>obtain⟨z,y,U,r,g,L,J,e,c⟩:=x;exact⟨z,y,U,r,g,L,J,k _ _ (.inl rfl) e,c⟩
 |dT N=>obtain⟨z,y,xs,r,g,L,J,e,c⟩:=x;exact⟨z,y,xs,Paired.mapP r λp q z=>⟨z.1,X _ _ z.2.1,z.2.2⟩,g,L,J,k _ _ (.inl rfl) e,c⟩
 |set S n=>obtain⟨g,L,J,t,e,c⟩:=x;exact⟨g,L,J,t,k _ _ (.inl rfl) e,c⟩
 |ins C j F=>obtain⟨d,z,A,e,M,⟨Z,L,J,B,c⟩,r⟩:=x;exact⟨T _ d,z,A,k _ _ (.inl rfl) e,M,⟨Z,L,J,k _ _ (.inr d) B,c⟩,r⟩
 |own y=>obtain⟨g,e⟩:=x;exact⟨g,k _ _ (.inl rfl) e⟩
 |xd F=>obtain⟨M,⟨Z,L,J,e,c⟩,r⟩:=x;exact⟨M,⟨Z,L,J,k _ _ (.inl rfl) e,c⟩,r⟩
 |rng i l=>obtain⟨t,u,v,e⟩:=x;exact⟨t,u,v,k _ _ (.inl rfl) e⟩
 |frz g u Y=>obtain⟨e,q⟩:=x;exact⟨k _ _ (.inl rfl) e,Y q⟩
 |tbl s=>have e:h.get? a=some { cls:=.none,data:=.fields s }:=x;show h'.get? a=some { cls:=.none,data:=.fields s };exact k a _ (.inl rfl) e
 |met f y=>have e:h.get? a=some (PySem.W.methodObj (.ref f) (.ref y)):=x;show h'.get? a=some (PySem.W.methodObj (.ref f) (.ref y));exact k a _ (.inl rfl) e
 |ext I=>obtain⟨p,⟨o,e⟩,m⟩:=x;exact⟨m _ _ p λo q=>k _ _ (.inl rfl) q,⟨o,k _ _ (.inl rfl) e⟩,m⟩
theorem HOk.lt(x:HOk P w H h)(e:H a=some o):a<h.objs.size:=(x a o e).lt
theorem HOk.fresh(x:HOk P w H h)(e:h.objs.size<=a):H a=none:=by
 cases q:H a with
 |none=>rfl
 |some u=>exact absurd (aas (x.lt q) e) (aaX _)
theorem HOk.kept(x:HOk P w H h)(k:∀b u,h.get? b=some u->h'.get? b=some u):HOk P w H h':=λa o e=>
 (x a o e).j2 (λb u _ q=>k b u q) (λ_ q=>q) λ_ _ q=>q
theorem HOk.laid(x:HOk P w H h)(k:∀b u,h.get? b=some u->h'.get? b=some u)(m:h.objs.size<=a)(N:ObjOk P w (upd H a o) h' a o):HOk P w (upd H a o) h':=λb u e=>by
 have l:=x.fresh m;by_cases S:b=a
 ·subst S;rw[aB]at e;grind
 ·rw[upd_ne S]at e;exact(x b u e).j2 (λc v _ q=>k c v q) (λc q=>by rw[upd_ne (au q l)];exact q) λc Y q=>by rw[upd_ne (au q l)];exact q
def Rd(H:Hp)(a:Addr)(u:HO):Prop:=H a=some u\/∃o,H a=some (.frz o u)
theorem Rd.of(h:H a=some u):Rd H a u:=.inl h
theorem Rd.ok{P:Program}{w:World}(r:Rd H a u)(x:HOk P w H h):ObjOk P w H h a u:=by
 rcases r with r|⟨o,r⟩
 ·exact x a u r
 ·obtain⟨_,q⟩:=x a _ r;exact q
def Gq:Option HO->Prop
 |some (.lst _)=>True
 |some (.dK _)=>True
 |some (.dT _)=>True
 |some (.set _ _)=>True
 |some (.ins _ _ _)=>True
 |some (.ext _)=>True
 |_=>False
theorem HOk.write(T:HOk P w H h)(M:Gq (H x))(n:e=x\/H e=some (.own x))(k:∀b u,b≠e->h.get? b=some u->h'.get? b=some u)(O:∃u,h'.get? e=some u)
  (N:ObjOk P w (upd H x o') h' x o'):HOk P w (upd H x o') h':=λb u q=>by
 have A:∀c y,H c=some (.own y)->c≠x:=λc y r z=>by subst z;rw[r]at M;exact M
 have p:∀c Y,H c=some (.tup Y)->c≠x:=λc Y r z=>by subst z;rw[r]at M;exact M
 by_cases S:b=x
 ·subst S;rw[aB]at q;grind
 ·rw[upd_ne S]at q;by_cases B:b=e
  ·have D:H b=some (.own x):=by
    grind
   rw[q]at D;cases D;obtain⟨v,o⟩:=O;exact⟨v,by grind⟩
  ·refine(T b u q).j2 (λc v U r=>k c v ?_ r) (λc r=>by rw[upd_ne (A c b r)];exact r) λc Y r=>by rw[upd_ne (p c Y r)];exact r
   grind
structure Un (fs ex:List Addr)(H H':Hp)(h h':Heap):Prop where
 keep:∀b o,h.get? b=some o->H b=none->b ∉ fs->b ∉ ex->h'.get? b=some o
 slot:∀b o,h.get? b=some o->H b=none->b∈fs->b ∉ ex->∃sl,h'.get? b=some { o with slots:=sl }
 free:∀b o,h.get? b=some o->H b=none->b ∉ ex->H' b=none
 there:∀b o,h.get? b=some o->b ∉ ex->∃o',h'.get? b=some o'
 tups:∀b xs,H b=some (.tup xs)->H' b=some (.tup xs)
 frzs:∀b o u,H b=some (.frz o u)->H' b=some (.frz o u)
 tbls:∀b ps,H b=some (.tbl ps)->∃more,H' b=some (.tbl (ps++more))
theorem Un.any(u:Un fs ex H H1 h h1){b:Addr}{g:Obj}(q:h.get? b=some g)(n:H b=none)(C:b ∉ ex):∃Z,h1.get? b=some { g with slots:=Z }:=by
 by_cases S:b∈fs
 ·exact u.slot b g q n S C
 ·exact⟨g.slots,u.keep b g q n S C⟩
theorem Un.trans(a:Un fs ex H H1 h h1)(b:Un fs ex H1 H2 h1 h2):Un fs ex H H2 h h2 where
 keep:=λc g q n U C=>b.keep c g (a.keep c g q n U C) (a.free c g q n C) U C
 slot:=λc g q n U C=>by
  obtain⟨Z,J⟩:=a.slot c g q n U C;obtain⟨f,B⟩:=b.slot c _ J (a.free c g q n C) U C
  grind
 free:=λc g q n C=>by obtain⟨P,J⟩:=a.there c g q C;exact b.free c P J (a.free c g q n C) C
 there:=λc g q C=>by obtain⟨P,J⟩:=a.there c g q C;exact b.there c P J C
 tups:=λc Y q=>b.tups c Y (a.tups c Y q)
 frzs:=λc g Y q=>b.frzs c g Y (a.frzs c g Y q)
 tbls:=λc W q=>by
  obtain⟨t,J⟩:=a.tbls c W q;obtain⟨Q,B⟩:=b.tbls c _ J
  grind
theorem Un.kept(k:∀b u,h.get? b=some u->h'.get? b=some u):Un fs ex H H h h':=
 ⟨λb g q _ _ _=>k b g q,λb g q _ _ _=>⟨g.slots,k b g q⟩,λ_ _ _ n _=>n,λb g q _=>⟨g,k b g q⟩,λ_ _ q=>q,λ_ _ _ q=>q,λ_ W q=>⟨#[],by rw[q];simp⟩⟩
theorem Un.refl:Un fs ex H H h h:=Un.kept λ_ _ q=>q
theorem Un.laid(k:∀b u,h.get? b=some u->h'.get? b=some u)(m:h.objs.size<=a)(l:H a=none):Un fs ex H (upd H a o) h h' where
 keep:=λb u q _ _ _=>k b u q
 slot:=λb u q _ _ _=>⟨u.slots,k b u q⟩
 free:=λb u q n _=>by rw[upd_ne (aao (aas (acu q) m))];exact n
 there:=λb u q _=>⟨u,k b u q⟩
 tups:=λb Y q=>by rw[upd_ne (au q l)];exact q
 frzs:=λb u Y q=>by rw[upd_ne (au q l)];exact q
 tbls:=λb W q=>⟨#[],by rw[upd_ne (au q l),q];simp⟩
theorem Un.write(M:Gq (H x))(Z:e=x\/H e=some (.own x))(k:∀b u,b≠e->h.get? b=some u->h'.get? b=some u)(O:∃u,h'.get? e=some u):Un fs ex H (upd H x o) h h':=by
 have C:∀b,H b=none->b≠x:=λb n z=>by subst z;rw[n]at M;exact M
 have S:∀b,H b=none->b≠e:=λb n z=>by
  grind
 have Y:∀b u,H b=some u->¬ Gq (some u)->b≠x:=λb u q a z=>by grind
 refine⟨λb u q n _ _=>k b u (S b n) q,λb u q n _ _=>⟨u.slots,k b u (S b n) q⟩,λb u q n _=>by rw[upd_ne (C b n)];exact n,λb u q _=>?_,
  λb T q=>by rw[upd_ne (Y b _ q λz=>z)];exact q,λb u T q=>by rw[upd_ne (Y b _ q λz=>z)];exact q,λb W q=>⟨#[],by rw[upd_ne (Y b _ q λz=>z),q];simp⟩⟩
 grind
theorem Un.mono(u:Un fs ex H H1 h h1)(f:∀b∈fs,b∈fs')(C:∀b∈ex,b∈ex'):Un fs' ex' H H1 h h1:=
 ⟨λb g q n S a=>u.keep b g q n (λz=>S (f b z)) λz=>a (C b z),λ_ _ q n _ a=>u.any q n λz=>a (C _ z),λb g q n a=>u.free b g q n λz=>a (C b z),λb g q a=>u.there b g q λz=>a (C b z),u.tups,u.frzs,u.tbls⟩
def trk(h:Heap)(H:Hp):List Addr:=(List.range h.objs.size).filter λa=>(H a).isSome
def lr(h:Heap)(H:Hp):Heap:=PySem.W.hideAll h (trk h H)
theorem si(h:Heap)(H:Hp):(lr h H).objs.size=h.objs.size:=PySem.W.hideAll_size _ _
theorem hidT_get(e:h.get? b=some o)(n:H b=none):(lr h H).get? b=some o:=
 PySem.W.hideAll_get _ e λY=>by
  have q:=(aaV.mp Y).2
  grind
theorem yJ(e:(lr h H).get? b=some o):h.get? b=some o/\H b=none:=by
 have L:=PySem.W.of_hideAll (trk h H) e;refine⟨L,?_⟩;cases q:H b with
 |none=>rfl
 |some x=>
  have Y:b∈trk h H:=aaV.mpr ⟨List.mem_range.mpr (acu L),by simp[q]⟩;have z:(lr h H).get? b=none:=PySem.W.hideAll_none (trk h H) Y
  grind
noncomputable def yK(g h:Heap)(L:Addr):List (Addr×Obj):=(List.range h.objs.size).filterMap λa=>if a=L\/(g.get? a).isSome=true then none else (h.get? a).map λo=>(a,o)
def rest(g h:Heap)(L d:Addr):List (Addr×Obj):=(yK g h L).filter λp=>decide (p.1≠d)
end
section
structure Mod (K:Waa)(mg:Str->Option Value)(base:Heap):Prop where
 kin:K.In base
 glob:base.Ns mainGlobals mg
 blt:∃mb,base.Ns builtinsNs mb/\∀x:Str,x≠"__name__"->mb x=bootBuiltins x
 nolimit:base.NoLimit
structure Cx where
 prog:Program
 w:World
 K:Waa
 mg:Str->Option Value
 base:Heap
 A:Around
 N:List Str
 s₀:Shared
 H₀:Hp
 env:Env
 outer:List Env
 stack:List Env
 ex:List Addr
 fn:Str->Bool
 calm:Bool
 pn:List (Addr×Obj)
 xe:Value->Shared->Prop
def uJ(l:List Env):List Addr:=l.filterMap (·.frame)
abbrev Cx.fs(X:Cx):List Addr:=uJ X.outer
def Vis(sc:Scope)(x:Str):Prop:=sc.names.lookup x=some .local\/sc.names.lookup x=some .cell\/sc.names.lookup x=some .free
def Loc(sc:Scope)(x:Str):Prop:=sc.names.lookup x=some .local\/sc.names.lookup x=some .cell
def Look(env:Env)(h:Heap)(m:Str->Option Value)(x:Str)(u:Value):Prop:=
 (env.kindOf x=some .local/\m x=some u)\/((env.kindOf x=some .cell\/env.kindOf x=some .free)/\∃c,env.cells.lookup x=some c/\h.IsCell c (some u))
structure Cx.Ok (X:Cx):Prop where
 mod:Mod X.K X.mg X.base
 kind:X.env.scope.kind=.function
 glob:X.env.globals=mainGlobals
 blt:X.env.builtins=builtinsNs
 above:X.s₀.heap.objs.size<=X.env.locals
 inj:∀x y c,X.env.cells.lookup x=some c->X.env.cells.lookup y=some c->x=y
 has:∀x,(X.env.kindOf x=some .cell\/X.env.kindOf x=some .free)->∃c,X.env.cells.lookup x=some c
 cab:∀x c,X.fn x=true->X.env.cells.lookup x=some c->X.s₀.heap.objs.size<=c
 hd:X.calm=true->X.A.handled=none
 frames:X.A.frames=some X.stack
 stk:X.stack=X.outer\/(X.stack=X.env::X.outer/\X.env.frame=some X.env.locals)
 exf:∀b∈X.ex,b≠X.env.locals/\∀x c,X.env.cells.lookup x=some c->c≠b
 bs:∀b o,X.base.get? b=some o->X.s₀.heap.get? b=some o/\X.H₀ b=none
 bsz:X.base.objs.size<=X.s₀.heap.objs.size
 noex:∀b o,X.base.get? b=some o->b ∉ X.ex
 exfs:∀b∈X.ex,b ∉ X.fs
 funs:X.s₀.heap.FunFrames X.base X.outer
 frf:∀b∈X.fs,X.H₀ b=none
structure Inv (X:Cx)(pins:List (Addr×Obj))(σ:List (Option V))(H:Hp)(s:Shared):Prop where
 ok:X.Ok
 os:s.os=X.s₀.os
 bare:AllBare s.gens
 base:Un X.fs X.ex X.H₀ H X.s₀.heap s.heap
 loc:∃m,s.heap.Ns X.env.locals m/\∀(i:Nat) (x:Str) (v:V),X.N[i]?=some x->σ[i]?=some (some v)->Vis X.env.scope x->∃u,RelV v u/\Look X.env s.heap m x u
 cell:∀x c,X.env.cells.lookup x=some c->∃v,s.heap.IsCell c v
 free:H X.env.locals=none
 freeC:∀x c,X.env.cells.lookup x=some c->H c=none
 pin:∀p∈X.pn++pins,s.heap.get? p.1=some p.2/\H p.1=none/\p.1≠X.env.locals/\p.1 ∉ X.fs/\∀v,p.2.data≠.cell v
 hok:HOk X.prog X.w H s.heap
 len:σ.length=X.N.length
section
variable{X:Cx}
theorem Cx.Ok.nofr(T:X.Ok)(e:X.base.get? b=some o):b ∉ X.fs:=λS=>by
 have:=(T.funs.mem S).1
 grind
theorem Inv.bs(I:Inv X pins σ H s):∀b o,X.base.get? b=some o->s.heap.get? b=some o/\H b=none:=λb o e=>
 ⟨I.base.keep b o (I.ok.bs b o e).1 (I.ok.bs b o e).2 (I.ok.nofr e) (I.ok.noex b o e),I.base.free b o (I.ok.bs b o e).1 (I.ok.bs b o e).2 (I.ok.noex b o e)⟩
theorem Inv.bk(I:Inv X pins σ H s):∀b o,X.base.get? b=some o->s.heap.get? b=some o:=λb o e=>(I.bs b o e).1
theorem Inv.mod(I:Inv X pins σ H s):Mod X.K X.mg X.base:=I.ok.mod
theorem Inv.nc(I:Inv X pins σ H s):X.K.In s.heap:=I.ok.mod.kin.keeps I.bk
theorem Inv.nolimit(I:Inv X pins σ H s):s.heap.NoLimit:=I.ok.mod.nolimit.keeps I.bk
theorem Inv.fr(I:Inv X pins σ H s):∃m,Fr X.base X.env.locals s.heap m:=
 let ⟨m,l,_⟩:=I.loc
 ⟨m,l,I.bk,aan I.ok.bsz I.ok.above⟩
theorem Inv.lt(I:Inv X pins σ H s):X.env.locals<s.heap.objs.size:=let ⟨_,l,_⟩:=I.loc;l.lt
theorem Inv.sz(I:Inv X pins σ H s):X.s₀.heap.objs.size<=s.heap.objs.size:=aan I.ok.above (aaL I.lt)
theorem Inv.nofs(I:Inv X pins σ H s)(h:s.heap.objs.size<=a):a ∉ X.fs:=λS=>by obtain⟨_,o,T,_⟩:=I.ok.funs.mem S;exact absurd (aas (acu T) (aan I.sz h)) (aaX _)
theorem Inv.cne(I:Inv X pins σ H s):∀x c,X.env.cells.lookup x=some c->c≠X.env.locals:=λx c e z=>by
 obtain⟨v,o,T,W⟩:=I.cell x c e;obtain⟨m,⟨P,L,J,t,k,_⟩,_⟩:=I.loc
 grind
theorem Inv.funs(I:Inv X pins σ H s):s.heap.FunFrames X.base X.outer:=by
 have A:∀(l:List Env),(∀b∈uJ l,b∈X.fs)->X.s₀.heap.FunFrames X.base l->s.heap.FunFrames X.base l:=by
  intro l;induction l with
  |nil=>intro _ _;trivial
  |cons v r Y=>intro g j;obtain⟨F,⟨L,o,y,Q,T,W⟩,D⟩:=j;have h:=g L (by unfold uJ;grind);obtain⟨Z,e⟩:=I.base.slot L o T (I.ok.frf L h) h λz=>I.ok.exfs L z h;exact⟨F,⟨L,_,y,Q,e,W⟩,Y (λb S=>g b (by unfold uJ;rw[ab5,y];exact aaf _ S)) D⟩
 exact A X.outer (λ_ S=>S) I.ok.funs
theorem Inv.stack(I:Inv X pins σ H s):s.heap.FunFrames X.base X.stack:=by
 rcases I.ok.stk with e|⟨e,y⟩
 ·rw[e];exact I.funs
 ·rw[e];obtain⟨m,l,_⟩:=I.loc;refine .cons (by rw[I.ok.kind];decide) y l ?_ I.funs;exact Heap.get?_none_of_le (aan I.ok.bsz I.ok.above)
theorem Inv.jo(I:Inv X pins σ H s):∀b∈uJ X.stack,b∈X.env.locals::X.fs:=λb S=>by
 rcases I.ok.stk with e|⟨e,y⟩
 ·grind
 ·rw[e]at S;unfold uJ at S;rw[ab5,y]at S;exact S
theorem Inv.rr(I:Inv X pins σ H s):∀b∈uJ X.stack,H b=none:=λb S=>by
 rcases aaa.mp (I.jo b S) with e|S
 ·rw[e];exact I.free
 ·obtain⟨_,o,T,_⟩:=I.ok.funs.mem S;exact I.base.free b o T (I.ok.frf b S) λz=>I.ok.exfs b z S
theorem Inv.step{g':Array GenState}{t':Nat}{d':Drawn}{ch:List Addr}(I:Inv X pins σ H s)
  (D:∀b∈ch,(b∈X.ex\/X.s₀.heap.objs.size<=b)/\b≠X.env.locals/\(∀x c,X.env.cells.lookup x=some c->c≠b)/\∀p∈X.pn++pins,p.1≠b)
  (F:∀b o,b≠X.env.locals->b ∉ X.fs->b ∉ ch->s.heap.get? b=some o->H b=none->h'.get? b=some o)
  (a:∀b o,b≠X.env.locals->b∈X.fs->b ∉ ch->s.heap.get? b=some o->H b=none->∃Z,h'.get? b=some { o with slots:=Z }) (free:∀b o,b ∉ ch->s.heap.get? b=some o->H b=none->H' b=none)
  (a0:∀b o,b ∉ ch->s.heap.get? b=some o->∃P,h'.get? b=some P)
  (t:∀b Y,H b=some (.tup Y)->H' b=some (.tup Y)) (y:∀b o u,H b=some (.frz o u)->H' b=some (.frz o u)) (a2:∀b W,H b=some (.tbl W)->∃g,H' b=some (.tbl (W++g)))
  (ns:∀m,s.heap.Ns X.env.locals m->h'.Ns X.env.locals m) (a1:HOk X.prog X.w H' h') (N:AllBare g'):
  Inv X pins σ H' { s with heap:=h',gens:=g',drawn:=d',toks:=t' }:=by
 have Q:∀b o,X.s₀.heap.get? b=some o->b≠X.env.locals:=λb o e=>aao (aas (acu e) I.ok.above);have L:∀b o,X.s₀.heap.get? b=some o->b ∉ X.ex->b ∉ ch:=λb o e C S=>by
  rcases (D b S).1 with z|z
  ·grind
  ·exact absurd (aas (acu e) z) (aaX _)
 have M:∀x c,X.env.cells.lookup x=some c->∀v,s.heap.IsCell c v->h'.IsCell c v:=λx c e v ⟨o,T,hd⟩=>by
  have h:=λz=>(D c z).2.2.1 x c e rfl;by_cases U:c∈X.fs
  ·obtain⟨Z,q⟩:=a c o (I.cne x c e) U h T (I.freeC x c e);exact⟨_,q,hd⟩
  ·exact⟨o,F c o (I.cne x c e) U h T (I.freeC x c e),hd⟩
 refine⟨I.ok,I.os,N,⟨λb o e n S C=>?_,λb o e n S C=>?_,λb o e n C=>?_,λb o e C=>?_,λb Y e=>t b Y (I.base.tups b Y e),λb o Y e=>y b o Y (I.base.frzs b o Y e),λb W e=>?_⟩,?_,λx c e=>?_,?_,λx c e=>?_,λp hp=>?_,a1,I.len⟩
 ·exact F b o (Q b o e) S (L b o e C) (I.base.keep b o e n S C) (I.base.free b o e n C)
 ·obtain⟨Z,J⟩:=I.base.slot b o e n S C;obtain⟨f,B⟩:=a b _ (Q b o e) S (L b o e C) J (I.base.free b o e n C)
  grind
 ·obtain⟨P,J⟩:=I.base.there b o e C;exact free b P (L b o e C) J (I.base.free b o e n C)
 ·obtain⟨P,J⟩:=I.base.there b o e C
  grind
 ·obtain⟨m1,J⟩:=I.base.tbls b W e
  grind
 ·obtain⟨m,hn,j⟩:=I.loc;refine⟨m,ns m hn,λi x v J B e3=>?_⟩;obtain⟨u,r,l⟩:=j i x v J B e3;refine⟨u,r,?_⟩;rcases l with l|⟨k,c,e,z⟩
  ·exact .inl l
  ·exact .inr ⟨k,c,e,M x c e _ z⟩
 ·obtain⟨v,z⟩:=I.cell x c e;exact⟨v,M x c e v z⟩
 ·obtain⟨m,⟨o,_,_,T,_⟩,_⟩:=I.loc;exact free _ o (λz=>(D _ z).2.1 rfl) T I.free
 ·obtain⟨v,o,T,hd⟩:=I.cell x c e;exact free c o (λz=>(D c z).2.2.1 x c e rfl) T (I.freeC x c e)
 ·obtain⟨e,n,A,O,d⟩:=I.pin p hp;have h:=λz=>(D p.1 z).2.2.2 p hp rfl;exact⟨F p.1 p.2 A O h e n,free p.1 p.2 h e n,A,O,d⟩
theorem Inv.un{t':Nat}(I:Inv X pins σ H s)(u:Un X.fs [] H H' s.heap h')(k:HOk X.prog X.w H' h'):Inv X pins σ H' { s with heap:=h',toks:=t' }:=by
 obtain⟨m,⟨o,L,J,T,r⟩,_⟩:=id I.loc;obtain⟨Z,h⟩:=u.any T I.free (by simp);exact I.step (ch:=[]) (λ_ z=>nomatch z) (λb o _ S _ e n=>u.keep b o e n S (by simp)) (λb o _ S _ e n=>u.slot b o e n S (by simp)) (λb o _ e n=>u.free b o e n (by simp)) (λb o _ e=>u.there b o e (by simp)) u.tups u.frzs u.tbls (λy Y=>by
  obtain⟨P,c,A,t,f⟩:=Y;rw[T]at t;cases t;exact⟨_,c,A,h,f⟩) k I.bare
theorem Inv.call{t':Nat}{d':Drawn}(I:Inv X pins σ H s)(u:Un (uJ X.stack) ch H H' s.heap h')(k:HOk X.prog X.w H' h')(N:AllBare g')
  (D:∀b∈ch,(b∈X.ex\/X.s₀.heap.objs.size<=b)/\b≠X.env.locals/\(∀x c,X.env.cells.lookup x=some c->c≠b)/\∀p∈X.pn++pins,p.1≠b):
  Inv X pins σ H' { s with heap:=h',gens:=g',drawn:=d',toks:=t' }:=by
 obtain⟨m,⟨o,L,J,T,r⟩,_⟩:=id I.loc;obtain⟨Z,h⟩:=u.any T I.free λz=>(D _ z).2.1 rfl;exact I.step D (λb o h S U e n=>u.keep b o e n (λz=>(aaa.mp (I.jo b z)).elim h S) U) (λb o _ _ U e n=>u.any e n U) (λb o U e n=>u.free b o e n U) (λb o U e=>u.there b o e U) u.tups u.frzs u.tbls (λy Y=>by
  obtain⟨P,j,A,t,f⟩:=Y;rw[T]at t;cases t;exact⟨_,j,A,h,f⟩) k N
theorem Inv.turned{t':Nat}(I:Inv X pins σ H s)(k:∀b o,b≠it->s.heap.get? b=some o->h'.get? b=some o)(l:H it=none)(h:it≠X.env.locals)
  (O:it∈X.ex\/X.s₀.heap.objs.size<=it) (Z:∀x c,X.env.cells.lookup x=some c->c≠it) (M:∀p∈X.pn++pins,p.1≠it):Inv X pins σ H { s with heap:=h',toks:=t' }:=by
 have t:∀b u,H b=some u->b≠it:=λb u e z=>by grind
 refine I.step (ch:=[it]) (λb S=>?_) (λb o _ _ U e _=>k b o (λz=>U (by simp[z])) e) (λb o _ _ U e _=>⟨o.slots,k b o (λz=>U (by simp[z])) e⟩) (λ_ _ _ _ n=>n)
  (λb o U e=>⟨o,k b o (λz=>U (by simp[z])) e⟩) (λ_ _ e=>e) (λ_ _ _ e=>e) (λb W e=>⟨#[],by rw[e];simp⟩) (λm Y=>?_) (λb u e=>?_) I.bare
 ·have e:b=it:=by simpa using S
  subst e;exact⟨O,h,Z,M⟩
 ·obtain⟨o,L,J,T,r⟩:=Y;exact⟨o,L,J,k _ o (aaG h) T,r⟩
 ·refine(I.hok b u e).j2 (λc v U q=>k c v ?_ q) (λ_ q=>q) λ_ _ q=>q;rcases U with z|z
  ·rw[z];exact t b u e
  ·exact t c _ z
theorem Inv.tok(I:Inv X pins σ H s)(t:Nat):Inv X pins σ H { s with toks:=t }:=I.un (h':=s.heap) (t':=t) Un.refl I.hok
theorem Inv.kept{t':Nat}(I:Inv X pins σ H s)(k:∀b u,s.heap.get? b=some u->h'.get? b=some u):Inv X pins σ H { s with heap:=h',toks:=t' }:=I.un (Un.kept k) (I.hok.kept k)
theorem Inv.laid{a:Addr}{o:HO}{t':Nat}(I:Inv X pins σ H s)(k:∀b u,s.heap.get? b=some u->h'.get? b=some u)(m:s.heap.objs.size<=a)(N:ObjOk X.prog X.w (upd H a o) h' a o):
  Inv X pins σ (upd H a o) { s with heap:=h',toks:=t' }:=I.un (Un.laid k m (I.hok.fresh m)) (I.hok.laid k m N)
theorem Inv.write{t':Nat}(I:Inv X pins σ H s)(M:Gq (H x))(n:e=x\/H e=some (.own x))(k:∀b u,b≠e->s.heap.get? b=some u->h'.get? b=some u)(O:∃u,h'.get? e=some u)
  (N:ObjOk X.prog X.w (upd H x o) h' x o):Inv X pins σ (upd H x o) { s with heap:=h',toks:=t' }:=I.un (Un.write M n k O) (I.hok.write M n k O N)
theorem Inv.weak(I:Inv X pins σ H s)(j:σ'.length=σ.length)(w:∀(i:Nat) v,σ'[i]?=some (some v)->σ[i]?=some (some v)):Inv X pins σ' H s:=
 ⟨I.ok,I.os,I.bare,I.base,let ⟨m,l,A⟩:=I.loc;⟨m,l,λi x v J B U=>A i x v J (w i v B) U⟩,I.cell,I.free,I.freeC,I.pin,I.hok,j.trans I.len⟩
theorem Inv.rx(I:Inv X pins σ H s)(h:∀p∈pins',s.heap.get? p.1=some p.2/\H p.1=none/\p.1≠X.env.locals/\p.1 ∉ X.fs/\∀v,p.2.data≠.cell v):Inv X pins' σ H s:=
 ⟨I.ok,I.os,I.bare,I.base,I.loc,I.cell,I.free,I.freeC,λp m=>(aaj.mp m).elim (λz=>I.pin p (aah _ z)) (h p),I.hok,I.len⟩
theorem lu{N:List Str}(u:N.Nodup){i j:Nat}(a:N[i]?=some x)(b:N[j]?=some x):i=j:=by obtain⟨O,J⟩:=aai.mp a;obtain⟨Z,B⟩:=aai.mp b;exact(List.getElem_inj u).mp (J.trans B.symm)
theorem jr{M:Model}{A:Around}{E:Value->Shared->Prop}(I:Inv X pins σ H s)(hN:X.N.Nodup)(hi:X.N[i]?=some x)(C:Loc X.env.scope x)(r:RelV v u)
  (h:∀s',Inv X pins (σ.set i (some v)) H s'->(∃a,Heap.SameBut a s.heap s'.heap/\(a=X.env.locals\/X.env.cells.lookup x=some a))->Q () s') (hf:X.fn x=true\/X.env.scope.names.lookup x=some .local:=by first|exact .inl rfl|exact .inr rfl|assumption):wpAny M A (storeName X.env x u) Q E s:=by
 obtain⟨m,l,hl⟩:=id I.loc;have a3:(X.env.scope.kind==.class||(X.env.scope.kind==.module&&X.env.locals !=X.env.globals))=false:=by rw[I.ok.kind];rfl
 have a1:i<σ.length:=by rw[I.len];grind
 have T:=I.cne;have a0:∀{a:Addr}{h':Heap},(∃o,s.heap.get? a=some o/\H a=none)->Heap.SameBut a s.heap h'->HOk X.prog X.w H h':=λ{a h'} ha g b ob e=>by
  obtain⟨_,_,a5⟩:=ha;refine(I.hok b ob e).j2 (λc D U q=>(g.2 c ?_).trans q) (λ_ q=>q) λ_ _ q=>q
  grind
 rcases C with F|F
 ·refine wpAny_storeName_local F l (λh' a7 g=>?_) a3;obtain⟨oL,_,_,a6,_⟩:=id l;refine h _ ⟨I.ok,I.os,I.bare,⟨λb o e n S C=>?_,λb o e n S C=>?_,I.base.free,λb o e C=>?_,I.base.tups,I.base.frzs,I.base.tbls⟩,⟨_,a7,λj y L J B e3=>?_⟩,λy c e=>?_,I.free,I.freeC,λp hp=>?_,a0 ⟨oL,a6,I.free⟩ g,by simpa using I.len⟩ ⟨_,g,.inl rfl⟩
  ·exact(g.2 b (aao (aas (acu e) I.ok.above))).trans (I.base.keep b o e n S C)
  ·obtain⟨Z,J⟩:=I.base.slot b o e n S C;exact⟨Z,(g.2 b (aao (aas (acu e) I.ok.above))).trans J⟩
  ·obtain⟨o',J⟩:=I.base.there b o e C;exact⟨o',(g.2 b (aao (aas (acu e) I.ok.above))).trans J⟩
  ·by_cases W:j=i
   ·subst W;rw[hi]at J;cases J;rw[aaY a1]at B;cases B;exact⟨u,r,.inl ⟨F,by simp⟩⟩
   ·rw[aaZ (aaG W)]at B;obtain⟨u',f,q⟩:=hl j y L J B e3;refine⟨u',f,?_⟩;rcases q with ⟨k,e⟩|⟨k,c,e,z⟩
    ·refine .inl ⟨k,?_⟩;have:y≠x:=λe=>W (lu hN J (e▸hi))
     grind
    ·exact .inr ⟨k,c,e,z.sameBut g (T y c e)⟩
  ·obtain⟨D,z⟩:=I.cell y c e;exact⟨D,z.sameBut g (T y c e)⟩
  ·obtain⟨e,n,ne,O,d⟩:=I.pin p hp;exact⟨(g.2 p.1 ne).trans e,n,ne,O,d⟩
 ·have t:X.fn x=true:=by
   grind
  obtain⟨c,U⟩:=I.ok.has x (.inl F);obtain⟨D,z⟩:=I.cell x c U;refine wpAny_storeName_cell I.ok.kind F U z (λh' P g=>?_);obtain⟨oc,a2,a4⟩:=id z;refine h { s with heap:=h' } ⟨I.ok,I.os,I.bare,⟨λb o e n S C=>?_,λb o e n S C=>?_,I.base.free,λb o e C=>?_,I.base.tups,I.base.frzs,I.base.tbls⟩,⟨m,l.sameBut g (aaG (T x c U)),λj y L J B e3=>?_⟩,λy c' e=>?_,I.free,I.freeC,λp hp=>?_,a0 ⟨oc,a2,I.freeC x c U⟩ g,by simpa using I.len⟩ ⟨c,g,.inr U⟩
  ·exact(g.2 b (aao (aas (acu e) (I.ok.cab x c t U)))).trans (I.base.keep b o e n S C)
  ·obtain⟨Z,J⟩:=I.base.slot b o e n S C;exact⟨Z,(g.2 b (aao (aas (acu e) (I.ok.cab x c t U)))).trans J⟩
  ·obtain⟨o',J⟩:=I.base.there b o e C;exact⟨o',(g.2 b (aao (aas (acu e) (I.ok.cab x c t U)))).trans J⟩
  ·by_cases W:j=i
   ·subst W;rw[hi]at J;cases J;rw[aaY a1]at B;cases B;exact⟨u,r,.inr ⟨.inl F,c,U,P⟩⟩
   ·rw[aaZ (aaG W)]at B;obtain⟨u',f,q⟩:=hl j y L J B e3;refine⟨u',f,?_⟩;rcases q with q|⟨k,c',e,z'⟩
    ·exact .inl q
    ·refine .inr ⟨k,c',e,z'.sameBut g ?_⟩;rintro rfl;exact W (lu hN J (I.ok.inj _ _ _ e U▸hi))
  ·by_cases Y:c'=c
   ·subst Y;exact⟨_,P⟩
   ·obtain⟨w2,z2⟩:=I.cell y c' e;exact⟨w2,z2.sameBut g Y⟩
  ·obtain⟨e,n,ne,O,d⟩:=I.pin p hp;refine⟨(g.2 p.1 ?_).trans e,n,ne,O,d⟩;intro q;rw[q,a2]at e;have q':=aa0 e;exact d D (by rw[<-q'];exact a4)
theorem bP{M:Model}{A:Around}{E:Value->Shared->Prop}(I:Inv X pins σ H s)(a:X.N.Nodup)(k:X.N[i]?=some x)(C:Loc X.env.scope x)(r:RelV v u)
  (h:∀B,Inv X pins (σ.set i (some v)) H B->Q () B) (y:X.fn x=true\/X.env.scope.names.lookup x=some .local:=by first|exact .inl rfl|exact .inr rfl|assumption):wpAny M A (storeName X.env x u) Q E s:=
 jr I a k C r (λB J _=>h B J) y
theorem Inv.call'(I:Inv X pins σ H s)(T:s'.os=s.os)(u:Un (uJ X.stack) ch H H' s.heap s'.heap)(k:HOk X.prog X.w H' s'.heap)(N:AllBare s'.gens)
  (D:∀b∈ch,(b∈X.ex\/X.s₀.heap.objs.size<=b)/\b≠X.env.locals/\(∀x c,X.env.cells.lookup x=some c->c≠b)/\∀p∈X.pn++pins,p.1≠b):Inv X pins σ H' s':=by
 obtain⟨v,A,l,F,P⟩:=s';have e:=T;subst e;exact I.call u k N D
end
abbrev XK:=Value->Option Addr->Hp->Prop
abbrev St:=List (Option V)
abbrev VK:=V->Hp->Prop
abbrev TE:=St->Hp->VK->Prop
abbrev TT:=St->Hp->(Bool->Hp->Prop)->Prop
abbrev TA:=St->Hp->(List V->Hp->Prop)->Prop
structure Ends where
 nx:St->Hp->Prop
 rt:VK
 bk:St->Hp->Prop:=λ_ _=>False
 ct:St->Hp->Prop:=λ_ _=>False
abbrev TS:=Ends->St->Hp->Prop
def EP(X:Cx)(M:List (Addr×Obj))(σ:St)(Q:VK)(u:Value)(B:Shared):Prop:=∃v l,Inv X M σ l B/\RelV v u/\Q v l
def TP(X:Cx)(M:List (Addr×Obj))(σ:St)(Q:Bool->Hp->Prop)(b:Bool)(B:Shared):Prop:=∃l,Inv X M σ l B/\Q b l
def AP(X:Cx)(M:List (Addr×Obj))(σ:St)(Q:List V->Hp->Prop)(us:List Value)(B:Shared):Prop:=∃c l,Inv X M σ l B/\Vals c us/\Q c l
def SP(X:Cx)(M:List (Addr×Obj))(D:Ends)(f:Flow)(B:Shared):Prop:=
 match f with
 |.next=>∃a l,Inv X M a l B/\D.nx a l
 |.brk=>∃a l,Inv X M a l B/\D.bk a l
 |.cont=>∃a l,Inv X M a l B/\D.ct a l
 |.ret u=>∃v a l,Inv X M a l B/\RelV v u/\D.rt v l
def PE(X:Cx)(e:Expr)(t:TE):Prop:=
 ∀(M:List (Addr×Obj)) (s:Shared) (L:St) (H:Hp) (Q:VK),Inv X M L H s->t L H Q->wpAny (model X.prog X.w) X.A (eval e X.env) (EP X M L Q) X.xe s
def PT(X:Cx)(e:Expr)(t:TT):Prop:=
 ∀(M:List (Addr×Obj)) (s:Shared) (L:St) (H:Hp) (Q:Bool->Hp->Prop),Inv X M L H s->t L H Q->wpAny (model X.prog X.w) X.A (isTrue e X.env (eval e X.env)) (TP X M L Q) X.xe s
def PW(X:Cx)(e:Expr)(t:TT):Prop:=
 ∀(W:Sem Value) (M:List (Addr×Obj)) (s:Shared) (L:St) (H:Hp) (Q:Bool->Hp->Prop),Inv X M L H s->t L H Q->wpAny (model X.prog X.w) X.A (isTrue e X.env W) (TP X M L Q) X.xe s
theorem PW.pt(h:PW X e t):PT X e t:=h _
def PA(X:Cx)(es:List Expr)(t:TA):Prop:=
 ∀(S:Pos) (M:List (Addr×Obj)) (s:Shared) (L:St) (H:Hp) (Q:List V->Hp->Prop),Inv X M L H s->t L H Q->wpAny (model X.prog X.w) X.A (spliced (backTo S (starEach es X.env))) (AP X M L Q) X.xe s
def PS(X:Cx)(st:Stmt)(t:TS):Prop:=
 ∀(M:List (Addr×Obj)) (s:Shared) (L:St) (H:Hp) (D:Ends),Inv X M L H s->t D L H->wpAny (model X.prog X.w) X.A (exec st X.env) (SP X M D) X.xe s
def PSs(X:Cx)(st:List Stmt)(t:TS):Prop:=
 ∀(M:List (Addr×Obj)) (s:Shared) (L:St) (H:Hp) (D:Ends),Inv X M L H s->t D L H->wpAny (model X.prog X.w) X.A (execs st X.env) (SP X M D) X.xe s
theorem thn{Y:Type}{t:Sem Y}{Q O:Y->Shared->Prop}{A:Around}(h:wpAny M A t Q E s)(J:∀a s,Q a s->O a s):wpAny M A t O E s:=acy h J λ_ _ x=>x
end
section
section
variable{X:Cx}
def tVar(i:Nat):TE:=λL H Q=>∃v,L[i]?=some (some v)/\Q v H
def tC(v:V):TE:=λ_ H Q=>Q v H
theorem bD{pos:Pos} (a:X.N[i]?=some x) (o:Vis X.env.scope x) (W:(x==("__debug__":Str))=false:=by decide) (L:(x==("__classdict__":Str))=false:=by decide):PE X (.Name x pos) (tVar i):=by
 intro M s B H Q I h;obtain⟨v,e,h⟩:=h;obtain⟨m,T,j⟩:=I.loc;obtain⟨u,r,l⟩:=j i x v a e o;have C:EP X M B Q u s:=⟨v,H,I,r,h⟩
 rcases l with ⟨F,Y⟩|⟨F,c,U,S⟩
 ·exact wpAny_Name (wpAny_loadName_local I.ok.kind F T Y C) W
 ·rcases F with F|F
  ·exact wpAny_Name (wpAny_loadName_cell I.ok.kind F U S C) W
  ·exact wpAny_Name (wpAny_loadName_free I.ok.kind F U S C L) W
theorem gT{i j pos}:PE X (.Constant (.int i) j pos) (tC (.int i)):=λ_ _ _ H _ I h=>wpAny_Constant_int ⟨.int i,H,I.tok _,⟨_,rfl⟩,h⟩
theorem Gr{b j pos}:PE X (.Constant (.bool b) j pos) (tC (.bl b)):=λ_ _ _ H _ I h=>Constant_bool ⟨.bl b,H,I,rfl,h⟩
theorem CF{j pos}:PE X (.Constant .none j pos) (tC .non):=λ_ _ _ H _ I h=>Constant_none ⟨.non,H,I,rfl,h⟩
theorem nG{x j pos}:PE X (.Constant (.str x) j pos) (tC (.str x)):=λ_ _ _ H _ I h=>Calls.Constant_str ⟨.str x,H,I.tok _,⟨_,rfl⟩,h⟩
def Gl(X:Cx)(x:Str):Prop:=X.env.kindOf x=some .globalImplicit
theorem jO{E:Value->Shared->Prop}{pos:Pos}(I:Inv X pins σ H s)(N:Gl X x)(Y:X.mg x=some u)(h:Q u s)
  (W:(x==("__debug__":Str))=false:=by decide):wpAny (model X.prog X.w) X.A (eval (.Name x pos) X.env) Q E s:=
 acZ I.ok.kind N (Calls.loadGlobal_global (by rw[I.ok.glob];exact I.mod.glob.keeps I.bk) Y h) W
theorem fe{E:Value->Shared->Prop}{M:List (Addr×Obj)}{s:Shared}{pos:Pos}(I:Inv X M σ H s)(N:Gl X x)(Y:X.mg x=none)(o:bootBuiltins x=some u)(h:Q u s)
  (l:x≠"__name__":=by decide) (W:(x==("__debug__":Str))=false:=by rfl):wpAny (model X.prog X.w) X.A (eval (.Name x pos) X.env) Q E s:=by
 obtain⟨m,O,Z⟩:=I.mod.blt;exact acZ I.ok.kind N (Calls.loadGlobal_builtin (by rw[I.ok.glob];exact I.mod.glob.keeps I.bk) Y (by rw[I.ok.blt];exact O.keeps I.bk) ((Z x l).trans o) h) W
theorem yL{pos:Pos} (N:Gl X x) (Y:X.mg x=some u) (r:RelV v u) (W:(x==("__debug__":Str))=false:=by decide):PE X (.Name x pos) (tC v):=
 λ_ _ _ H _ I h=>jO I N Y ⟨v,H,I,r,h⟩ W
theorem yM{pos:Pos} (N:Gl X x) (Y:X.mg x=none) (o:bootBuiltins x=some u) (r:RelV v u) (l:x≠"__name__":=by decide) (W:(x==("__debug__":Str))=false:=by decide):PE X (.Name x pos) (tC v):=
 λ_ _ _ H _ I h=>fe I N Y o ⟨v,H,I,r,h⟩ l W
def PC(X:Cx)(U:CmpOp)(a b:Expr)(t:TE):Prop:=
 ∀(M:List (Addr×Obj)) (s:Shared) (L:St) (H:Hp) (Q:VK),Inv X M L H s->t L H Q ->
  wpAny (model X.prog X.w) X.A (eval a X.env) (λv C=>wpAny (model X.prog X.w) X.A (eval b X.env) (λu O=>wpAny (model X.prog X.w) X.A (compareOp U v u) (EP X M L Q) X.xe O) X.xe C) X.xe s
theorem nobehind(b:Expr)(h:op≠.In)(Z:op≠.NotIn):behindInMarks op b=false:=by
 have J:(op==CmpOp.In)=false:=by grind
 have B:(op==CmpOp.NotIn)=false:=by grind
 cases b<;>simp[behindInMarks,J,B]
def JI(Z:TE):TE:=λL H Q=>Z L H λx P=>Q (.bl (decide (x=.non))) P
def Gs(Z:TE):TE:=λL H Q=>Z L H λx P=>Q (.bl (!decide (x=.non))) P
theorem RelV.n8{x:V}{v:Value}(r:RelV x v):(v==Value.none)=decide (x=.non):=by
 cases x with
 |non=>cases r;rfl
 |bl _=>cases r;rfl
 |int _=>obtain⟨t,rfl⟩:=r;rfl
 |str _=>obtain⟨t,rfl⟩:=r;rfl
 |byt _=>obtain⟨t,rfl⟩:=r;rfl
 |flt _=>obtain⟨t,rfl⟩:=r;rfl
 |ref _=>cases r;rfl
 |ty _=>cases r;rfl
theorem uK{j o}(i:PE X a ta):PC X .Is a (.Constant .none j o) (JI ta):=by intro M s L H Q I h;refine thn (i M s L H _ I h) λv f t=>?_;obtain⟨x,P,B,w,m⟩:=t;exact Constant_none (is_none_gen ⟨.bl _,P,B,by rw[w.n8];rfl,m⟩)
theorem pT{j o}(i:PE X a ta):PC X .IsNot a (.Constant .none j o) (Gs ta):=by intro M s L H Q I h;refine thn (i M s L H _ I h) λv f t=>?_;obtain⟨x,P,B,w,m⟩:=t;exact Constant_none (isnot_none_gen ⟨.bl _,P,B,by rw[w.n8];rfl,m⟩)
def tB(t:TE):TT:=λL H Q=>t L H λx P=>∃c,x=.bl c/\Q c P
theorem jP(h:PC X op a b t)(O:behindInMarks op b=false:=by first|exact nobehind _ (by decide) (by decide)|rfl):PE X (.Compare a [op] [b] pos) t:=λM s L H Q I c=>wpAny_Compare1 (h M s L H Q I c) O
theorem jQ{U:CmpOp}{t:TE}(h:PC X U a b t)(O:behindInMarks U b=false:=by first|exact nobehind _ (by decide) (by decide)|rfl):PT X (.Compare a [U] [b] pos) (tB t):=by intro M s L H Q I o;refine wpAny_isTrue_Compare1 (thn (h M s L H _ I o) λv f O=>thn O λu W Z=>thn Z λc e Y=>?_) O;obtain⟨x,P,B,w,m⟩:=Y;obtain⟨d,rfl,q⟩:=m;cases w;exact acA ⟨P,B,q⟩
variable{rest:List Expr}
def JJ(t u:TT):TT:=λL H Q=>t L H λc P=>if c=true then u L P Q else Q false P
def Mw(t u:TT):TT:=λL H Q=>t L H λc P=>if c=true then Q true P else u L P Q
def JK(t:TT):TT:=λL H Q=>t L H λc P=>Q (!c) P
theorem yN(i:PT X a tA):PW X (.BoolOp .And [a] pos) tA:=by
 intro W M s L H Q I h;refine isTrue_and (thn (i M s L H Q I h) λc f e=>?_);cases c with
 |true=>exact isTrue_and_nil e
 |false=>exact e
theorem CG(i:PT X a tA):PW X (.BoolOp .Or [a] pos) tA:=by
 intro W M s L H Q I h;refine isTrue_or (thn (i M s L H Q I h) λc f e=>?_);cases c with
 |false=>exact isTrue_or_nil e
 |true=>exact e
theorem CH(i:PT X a tA)(S:PW X (.BoolOp .And (b::rest) pos) tB'):PW X (.BoolOp .And (a::b::rest) pos) (JJ tA tB'):=by
 intro W M s L H Q I h;refine isTrue_and (thn (i M s L H _ I h) λc f t=>?_);obtain⟨P,B,m⟩:=t;cases c with
 |true=>exact S W M f L P Q B m
 |false=>exact⟨P,B,m⟩
theorem Gu(i:PT X a tA)(S:PW X (.BoolOp .Or (b::rest) pos) tB'):PW X (.BoolOp .Or (a::b::rest) pos) (Mw tA tB'):=by
 intro W M s L H Q I h;refine isTrue_or (thn (i M s L H _ I h) λc f t=>?_);obtain⟨P,B,m⟩:=t;cases c with
 |true=>exact⟨P,B,m⟩
 |false=>exact S W M f L P Q B m
theorem CI(i:PT X a tA):PT X (.UnaryOp .Not a pos) (JK tA):=by intro M s L H Q I h;exact isTrue_not (i M s L H (λc P=>Q (!c) P) I h)
def Gv(Z T:TE):TE:=λL H Q=>Z L H λx P=>∃c,x=.bl c/\if c=true then T L P Q else Q (.bl false) P
def JL(Z T:TE):TE:=λL H Q=>Z L H λx P=>∃c,x=.bl c/\if c=true then Q (.bl true) P else T L P Q
def Gw(Z:TE):TE:=λL H Q=>Z L H λx P=>∃c,x=.bl c/\Q (.bl (!c)) P
theorem CJ{U}(h:PE X a t):PE X (.BoolOp U [a] pos) t:=by trivial
theorem CK(i:PE X a ta)(S:PE X (.BoolOp .And (b::rest) pos) tb):PE X (.BoolOp .And (a::b::rest) pos) (Gv ta tb):=by
 intro M s L H Q I h;refine BoolOp_and (thn (i M s L H _ I h) λv f t=>?_);obtain⟨x,P,B,w,m⟩:=t;obtain⟨c,rfl,m⟩:=m;cases w;refine acA ?_;cases c with
 |true=>exact S M f L P Q B m
 |false=>exact⟨.bl false,P,B,rfl,m⟩
theorem Gx(i:PE X a ta)(S:PE X (.BoolOp .Or (b::rest) pos) tb):PE X (.BoolOp .Or (a::b::rest) pos) (JL ta tb):=by
 intro M s L H Q I h;refine BoolOp_or (thn (i M s L H _ I h) λv f t=>?_);obtain⟨x,P,B,w,m⟩:=t;obtain⟨c,rfl,m⟩:=m;cases w;refine acA ?_;cases c with
 |false=>exact S M f L P Q B m
 |true=>exact⟨.bl true,P,B,rfl,m⟩
theorem CL(i:PE X a ta):PE X (.UnaryOp .Not a pos) (Gw ta):=by intro M s L H Q I h;refine UnaryOp_ (thn (i M s L H _ I h) λv f t=>?_);obtain⟨x,P,B,w,m⟩:=t;obtain⟨c,rfl,m⟩:=m;cases w;exact not_of (acA ⟨.bl (!c),P,B,rfl,m⟩)
def Mx(t:TT)(Z T:TE):TE:=λL H Q=>t L H λc P=>if c=true then Z L P Q else T L P Q
theorem uL{c:Expr}(U:PT X c tA)(i:PE X a ta)(S:PE X b tb):PE X (.IfExp c a b pos) (Mx tA ta tb):=by
 intro M s L H Q I h;refine wpAny_IfExp (thn (U M s L H _ I h) λd f t=>?_);obtain⟨P,B,m⟩:=t;cases d with
 |true=>exact i M f L P Q B m
 |false=>exact S M f L P Q B m
end
end
section
def SqL(K:Waa)(H:Hp)(a:Addr)(xs:List V):Prop:=
 Rd H a (.lst xs) \/
  ∃(o:Obj) (D:Array Value) (n:Nat),K.lookup a=some o/\o.cls=.type "list"/\o.dict=none/\o.data=.seq D n/\D.size<=sizeLine/\Vals xs D.toList
def SqT(K:Waa)(H:Hp)(a:Addr)(xs:List V):Prop:=
 Rd H a (.tup xs) \/
  ∃(o:Obj) (D:Array Value) (n:Nat),K.lookup a=some o/\o.cls=.type "tuple"/\o.dict=none/\o.data=.seq D n/\D.size<=sizeLine/\Vals xs D.toList
noncomputable def JM:Value->Option V
 |.none=>some .non
 |.bool b=>some (.bl b)
 |.int i _=>some (.int i)
 |.str x _=>some (.str x)
 |.bytes b _=>some (.byt b)
 |.float b _=>some (.flt b)
 |.ref a=>some (.ref a)
 |.type n=>some (.ty n)
 |_=>none
theorem RelV.abs(r:RelV x u):JM u=some x:=by
 cases x with
 |non=>cases r;rfl
 |bl _=>cases r;rfl
 |int _=>obtain⟨t,rfl⟩:=r;rfl
 |str _=>obtain⟨t,rfl⟩:=r;rfl
 |byt _=>obtain⟨t,rfl⟩:=r;rfl
 |flt _=>obtain⟨t,rfl⟩:=r;rfl
 |ref _=>cases r;rfl
 |ty _=>cases r;rfl
theorem RelV.inj{x y:V}{u:Value}(r:RelV x u)(q:RelV y u):x=y:=aa0 (r.abs.symm.trans q.abs)
theorem Vals.inj{xs ys:List V}{us:List Value}(h:Vals xs us)(h':Vals ys us):xs=ys:=by
 induction us generalizing xs ys with
 |nil=>cases h;cases h';rfl
 |cons u us Y=>cases h with|cons r t=>cases h' with|cons f F=>rw[r.inj f,Y t F]
theorem SqL.of{K:Waa}(h:H a=some (.lst xs)):SqL K H a xs:=.inl (.inl h)
theorem SqT.of{K:Waa}(h:H a=some (.tup xs)):SqT K H a xs:=.inl (.inl h)
theorem Inv.list(I:Inv X pins σ H s)(h:SqL X.K H a xs):∃D:List Value,Vals xs D/\PlainL s.heap a D.toArray/\xs.length<=sizeLine:=by
 rcases h with h|⟨o,D,n,F,U,W,g,d,r⟩
 ·obtain⟨z,D,n,r,e⟩:=h.ok I.hok;exact⟨D,r,⟨_,n,e,rfl,rfl,rfl⟩,z⟩
 ·refine⟨D.toList,r,⟨o,n,I.nc a o F,U,W,by omega⟩,?_⟩;have e:=r.length
  grind
theorem Inv.tuple(I:Inv X pins σ H s)(h:SqT X.K H a xs):∃D:List Value,Vals xs D/\IsTup s.heap a D.toArray/\xs.length<=sizeLine:=by
 rcases h with h|⟨o,D,n,F,U,_,g,f,r⟩
 ·obtain⟨z,D,r,o,e,c,n,d,_⟩:=h.ok I.hok;exact⟨D,r,⟨o,e,c,n,d⟩,z⟩
 ·refine⟨D.toList,r,⟨o,I.nc a o F,U,n,by omega⟩,?_⟩;have e:=r.length
  grind
theorem Inv.n7(I:Inv X pins σ H s)(h:SqL X.K H a xs)(h':SqL X.K H a ys):xs=ys:=by
 obtain⟨D,r,⟨o,n,e,_,_,d⟩,_⟩:=I.list h;obtain⟨B,f,⟨P,C,L,_,_,l⟩,_⟩:=I.list h';rw[e]at L;cases L;rw[d]at l;injection l with d1 _;have:D=B:=by grind
 subst this;exact r.inj f
theorem Inv.tupN(I:Inv X pins σ H s)(h:SqT X.K H a xs):∃o,s.heap.get? a=some o/\o.cls=.type "tuple"/\o.dict=none:=by
 rcases h with h|⟨o,D,n,F,U,W,g,f,r⟩
 ·obtain⟨_,_,_,o,e,c,_,_,d⟩:=h.ok I.hok;exact⟨o,e,c,d⟩
 ·exact⟨o,I.nc a o F,U,W⟩
theorem Inv.rz(I:Inv X pins σ H s)(h:SqT X.K H a xs)(h':SqT X.K H a ys):xs=ys:=by
 obtain⟨D,r,⟨o,e,_,n,d⟩,_⟩:=I.tuple h;obtain⟨B,f,⟨P,L,_,C,l⟩,_⟩:=I.tuple h';rw[e]at L;cases L;rw[d]at l;injection l with d1 _;have:D=B:=by grind
 subst this;exact r.inj f
noncomputable abbrev Cx.eu(X:Cx)(E:Value->Shared->Prop):Cx:={ X with xe:=E }
abbrev Cx.u2(X:Cx):Cx:=X.eu λ_ _=>False
theorem Cx.Ok.eu{X:Cx}(T:X.Ok)(E:Value->Shared->Prop):(X.eu E).Ok:=
 ⟨T.mod,T.kind,T.glob,T.blt,T.above,T.inj,T.has,T.cab,T.hd,T.frames,T.stk,T.exf,T.bs,T.bsz,T.noex,T.exfs,T.funs,T.frf⟩
theorem Cx.Ok.dn{X:Cx}(T:(X.eu E).Ok):X.Ok:=
 ⟨T.mod,T.kind,T.glob,T.blt,T.above,T.inj,T.has,T.cab,T.hd,T.frames,T.stk,T.exf,T.bs,T.bsz,T.noex,T.exfs,T.funs,T.frf⟩
theorem Inv.eu(I:Inv X pins σ H s)(E:Value->Shared->Prop):Inv (X.eu E) pins σ H s:=⟨I.ok.eu E,I.os,I.bare,I.base,I.loc,I.cell,I.free,I.freeC,I.pin,I.hok,I.len⟩
theorem Inv.dn(I:Inv (X.eu E) pins σ H s):Inv X pins σ H s:=⟨I.ok.dn,I.os,I.bare,I.base,I.loc,I.cell,I.free,I.freeC,I.pin,I.hok,I.len⟩
theorem SP.dn{D:Ends}(h:SP (X.eu E) pins D f s'):SP X pins D f s':=by
 cases f with
 |next=>obtain⟨a,l,I,q⟩:=h;exact⟨a,l,I.dn,q⟩
 |brk=>obtain⟨a,l,I,q⟩:=h;exact⟨a,l,I.dn,q⟩
 |cont=>obtain⟨a,l,I,q⟩:=h;exact⟨a,l,I.dn,q⟩
 |ret u=>obtain⟨v,a,l,I,r,q⟩:=h;exact⟨v,a,l,I.dn,r,q⟩
theorem PE.u2(h:PE X.u2 e t):PE X e t:=λM s L H Q I c=>
 acy (h M s L H Q (I.eu _) c) (λ_ _ ⟨v,l,J,r,q⟩=>⟨v,l,J.dn,r,q⟩) λ_ _ z=>False.elim z
theorem PT.u2(h:PT X.u2 e t):PT X e t:=λM s L H Q I c=>
 acy (h M s L H Q (I.eu _) c) (λ_ _ ⟨l,J,q⟩=>⟨l,J.dn,q⟩) λ_ _ z=>False.elim z
theorem PSs.u2{m:List Stmt}(h:PSs X.u2 m t):PSs X m t:=λM s L H D I Q=>
 acy (h M s L H D (I.eu _) Q) (λ_ _ q=>q.dn) λ_ _ z=>False.elim z
section
variable{st:Stmt}{rest:List Stmt}
def tNext:TS:=λD L H=>D.nx L H
def JN(t u:TS):TS:=λD L H=>t { D with nx:=u D } L H
theorem yO:PSs X [] tNext:=λ_ _ L H _ I h=>acW ⟨L,H,I,h⟩
theorem lx(O:PS X st t)(Z:PSs X rest u):PSs X (st::rest) (JN t u):=by
 intro M s L H D I h;refine wpAny_execs_cons (thn (O M s L H { D with nx:=u D } I h) λf n q=>?_);cases f with
 |next=>obtain⟨a,l,J,q⟩:=q;exact Z M n a l D J q
 |ret v=>exact q
 |brk=>exact q
 |cont=>exact q
def tCont:TS:=λD L H=>D.ct L H
theorem ly:PS X (.Continue pos) tCont:=λ_ _ L H _ I h=>wpAny_Continue ⟨L,H,I,h⟩
theorem Inv.quiet{M:List (Addr×Obj)}{σ:St}(I:Inv X M σ H s):interactive X.env=false:=by simp[interactive,I.ok.kind]
def Gy(o:TE):TS:=λD L H=>o L H λ_ P=>D.nx L P
theorem gJ(n:PE X e te)(g:swapsWith e none pos.line X.env=pure false:=by rfl):PS X (.Expr e pos) (Gy te):=by intro M s L H D I h;exact wpAny_Expr_any (thn (n M s L H _ I h) λv f ⟨x,P,B,w,m⟩=>⟨L,P,B,m⟩) I.quiet g
def JO(o:TE):TS:=λD L H=>o L H D.rt
theorem CM(n:PE X e te):PS X (.Return (some e) pos) (JO te):=by intro M s L H D I h;exact wpAny_Return_some (thn (n M s L H _ I h) λv f ⟨x,P,B,w,m⟩=>⟨x,L,P,B,w,m⟩)
def JP(c:TT)(t u:TS):TS:=λD L H=>c L H λb P=>if b=true then t D L P else u D L P
theorem Gz{c:Expr}{a b:List Stmt}{tc:TT}(U:PT X c tc)(i:PSs X a t)(S:PSs X b u):PS X (.If c a b pos) (JP tc t u):=by
 intro M s L H D I h;refine wpAny_If (thn (U M s L H _ I h) λd f Y=>?_);obtain⟨P,B,m⟩:=Y;cases d with
 |true=>exact i M f L P D B m
 |false=>exact S M f L P D B m
def tNever:TS:=λ_ _ _=>False
theorem lz:PS X st tNever:=λ_ _ _ _ _ _ h=>h.elim
end
abbrev TG:=V->St->Hp->(St->Hp->Prop)->Prop
abbrev TGs:=List V->St->Hp->(St->Hp->Prop)->Prop
def PG(X:Cx)(T:Expr)(t:TG):Prop:=
 ∀(M:List (Addr×Obj)) (s:Shared) (L:St) (H:Hp) (v:V) (u:Value) (Q:St->Hp->Prop),Inv X M L H s->RelV v u->t v L H Q ->
  wpAny (model X.prog X.w) X.A (assign T X.env u) (λ_ B=>∃a l,Inv X M a l B/\Q a l) X.xe s
def F9(X:Cx)(P:List Expr)(t:TGs):Prop:=
 ∀(M:List (Addr×Obj)) (s:Shared) (L:St) (H:Hp) (c:List V) (C:List Value) (Q:St->Hp->Prop),Inv X M L H s->Vals c C->t c L H Q ->
  wpAny (model X.prog X.w) X.A (assignInOrder ((assignEach P X.env).map (·.2)) C) (λ_ B=>∃a l,Inv X M a l B/\Q a l) X.xe s
abbrev CN:=V->V->V->Hp->(Hp->Prop)->Prop
def PSet(X:Cx)(t:CN):Prop:=
 ∀(M:List (Addr×Obj)) (s:Shared) (L:St) (H:Hp) (o i v:V) (Y S u:Value) (Q:Hp->Prop),Inv X M L H s->RelV o Y->RelV i S->RelV v u->t o i v H Q ->
  wpAny (model X.prog X.w) X.A (setItem Y S u) (λ_ B=>∃l,Inv X M L l B/\Q l) X.xe s
abbrev TIp:=V->V->Hp->VK->Prop
def GA(X:Cx)(U:Operator)(t:TIp):Prop:=
 ∀(M:List (Addr×Obj)) (s:Shared) (L:St) (H:Hp) (x y:V) (v u:Value) (Q:VK),Inv X M L H s->RelV x v->RelV y u->t x y H Q ->
  wpAny (model X.prog X.w) X.A (inplaceOp U v u) (EP X M L Q) X.xe s
def gU(i:Nat):TG:=λv L H Q=>Q (L.set i (some v)) H
theorem yP(a:X.N.Nodup)(k:X.N[i]?=some x)(C:Loc X.env.scope x)(y:X.fn x=true\/X.env.scope.names.lookup x=some .local:=by first|exact .inl rfl|exact .inr rfl|assumption):PG X (.Name x pos) (gU i):=by intro M s L H v u Q I r h;exact wpAny_assign_Name (bP I a k C r (λB J=>⟨_,H,J,h⟩) y)
def gNil:TGs:=λc L H Q=>c=[]/\Q L H
def GB(t:TG)(u:TGs):TGs:=λc L H Q=>∃v r,c=v::r/\t v L H λa l=>u r a l Q
theorem yQ:F9 X [] gNil:=by intro M s L H c C Q I r h;obtain⟨e,h⟩:=h;subst e;cases r;exact assignInOrder_nil ⟨L,H,I,h⟩
theorem uM{e:Expr}{es:List Expr}(O:PG X e t)(Z:F9 X es u)
  (g:(assignEach (e::es) X.env).map (·.2)=assign e X.env::(assignEach es X.env).map (·.2):=by rfl):F9 X (e::es) (GB t u):=by
 intro M s L H c C Q I r h;obtain⟨v,A,J,h⟩:=h;subst J;cases r with
 |cons r U=>rw[g];refine acF (thn (O M s L H _ _ _ I r h) λ_ f Y=>?_);obtain⟨i,P,B,m⟩:=Y;exact Z M f i P _ _ Q B U m
def JQ(K:Waa)(n:Nat)(t:TGs):TG:=λv L H Q=>∃a Y,v=.ref a/\SqT K H a Y/\Y.length=n/\t Y L H Q
theorem CO{k:Nat}(U:X.calm=true)(h:F9 X es t)
  (l:(assignEach es X.env).length=n:=by rfl) (p:(assignEach es X.env).findIdx? (·.1)=none:=by rfl):PG X (.Tuple es k pos) (JQ X.K n t):=by
 intro M s L H v u Q I r c;obtain⟨a,Y,J,A,j,c⟩:=c;subst J;cases r;obtain⟨D,O,Z,d⟩:=I.tuple A;refine assign_Tuple_tuple (I.ok.hd U) Z (by simp[l,<-j,O.length]) p λm C=>?_;have B:Inv X M L H { s with heap:=m }:=I.kept λb o e=>C b o (aao (acu e)) e;exact h M _ L H Y _ Q B (by omega) c
def JR(O A:TE)(t:CN):TG:=λv L H Q=>O L H λo P=>A L P λi j=>t o i v j λq=>Q L q
theorem CP{o i:Expr}{O A:TE}{t:CN}(T:PE X o O)(a:PE X i A)(g:PSet X t)
  (l:∀v,assign (.Subscript o i pos) X.env v=(do
   let Y <-holding [v] (eval o X.env)
   let S <-holding [v,Y] (eval i X.env)
   standAt pos
   holding [v,Y,S] (setItem Y S v)
   release [v,Y,S] []):=by intro _;rfl):PG X (.Subscript o i pos) (JR O A t):=by
 intro M s L H v u Q I r h;rw[l];refine acs (acB (thn (T M s L H _ I h) λY f c=>?_));obtain⟨x,P,B,w,m⟩:=c;refine acs (acB (thn (a M f L P _ B m) λS Z c=>?_));obtain⟨y,j,W,p,b⟩:=c;refine acs (acC (acs (acB (thn (g M Z L j x y v Y S u _ W w p r b) λ_ e c=>?_))));obtain⟨q,z,d⟩:=c;exact wpAny_release ⟨L,q,z,d⟩
def nH(o:TE)(g:TG):TS:=λD L H=>o L H λx P=>g x L P D.nx
theorem uN{f e:Expr}{o:TE}{g:TG}(n:PE X e o)(N:PG X f g)(W:swapsWithSole [f] e pos.line X.env=pure false:=by rfl)(Q:swappedStores [f] e X.env=pure none:=by rfl)
  (O:(assignEach [f] X.env).map (·.2)=[assign f X.env]:=by rfl):PS X (.Assign [f] e pos) (nH o g):=by
 intro M s L H D I h;refine wpAny_Assign_stores (thn (n M s L H _ I h) λv z t=>?_) W Q;obtain⟨x,P,B,w,m⟩:=t;rw[O];exact thn (N M z L P x v _ B w m) λ_ Z q=>q
theorem CQ{i:Nat}{x:Str}(u:X.N.Nodup)(r:X.N[i]?=some x)(C:Loc X.env.scope x)(n:PE X e te)(g:swapsWith e (some (.Name x pos')) pos.line X.env=pure false:=by rfl)(J:X.fn x=true\/X.env.scope.names.lookup x=some .local:=by first|exact .inl rfl|exact .inr rfl|assumption):
  PS X (.Assign [.Name x pos'] e pos) (nH te (gU i)):=by
 intro M s L H D I h;refine wpAny_Assign_Name (thn (n M s L H _ I h) λv f t=>?_) g;obtain⟨y,P,B,w,m⟩:=t;exact bP B u r C w (λZ W=>⟨_,P,W,m⟩) J
def JS(i j:Nat)(Z:TA):TS:=λD L H=>Z L H λc P=>∃v w,c=[v,w]/\D.nx ((L.set i (some v)).set j (some w)) P
theorem CS{i j:Nat}{x y:Str}{A l Y}(U:X.calm=true)(u:X.N.Nodup)(r:X.N[i]?=some x)(W:X.N[j]?=some y)(S:i≠j)
  (C:X.env.scope.names.lookup x=some .local) (t:X.env.scope.names.lookup y=some .local) (ha:PA X [a,b] ta)
  (Q:swappedStores [.Tuple [.Name x px,.Name y py] A pt] (.Tuple [a,b] l Y) X.env=pure (some [x,y]))
  (g:swapsWithSole [.Tuple [.Name x px,.Name y py] A pt] (.Tuple [a,b] l Y) pos.line X.env=pure false:=by rfl):
  PS X (.Assign [.Tuple [.Name x px,.Name y py] A pt] (.Tuple [a,b] l Y) pos) (JS i j ta):=by
 intro M s L H D I h;rw[exec_Assign_arm];refine acs (acC ?_);rw[g];refine acs (acv ?_);rw[if_neg (by decide)];refine acs (Tuple_ (thn (ha _ M s L H _ I h) λus f hZ=>?_));obtain⟨c,P,B,r1,m⟩:=hZ;obtain⟨v,w,J,m⟩:=m;subst J;obtain⟨n,T,rfl,O,d⟩:∃n T,us=[n,T]/\RelV v n/\RelV w T:=by
  cases r1 with
  |cons p q=>
   cases q with
   |cons p' q'=>
    cases q'
    grind
 refine acG ?_ (by show 2<=sizeLine;decide);have I2:Inv X M L P { f with heap:=f.heap.push { cls:=.type "tuple",data:=.seq [n,T].toArray } }:=B.kept λb o e=>acw _ e;rw[Q];refine acs (acv ?_);refine acs (acH (acs (unpackItems_tuple (items:=#[n,T]) (I.ok.hd U) (IsTup.new f.heap _) λh' k=>?_)));have z:=I2.kept (t':=f.toks) λb o e=>k b o (aao (acu e)) e;refine acs (acF (acJ (bP z u W (.inl t) d (λZ I4=>?_) (.inr t))));refine acF (acJ (bP I4 u r (.inl C) O (λs3 F=>assignInOrder_nil (acv ?_)) (.inr C)));rw[abm _ _ (aaG S)]at F;exact⟨_,P,F,m⟩
def JT(i:Nat)(o:TE)(A:TIp):TS:=λD L H=>∃x,L[i]?=some (some x)/\o L H λy P=>A x y P λz j=>D.nx (L.set i (some z)) j
theorem uO{i:Nat}{x:Str}{o:Pos}(hN:X.N.Nodup)(a:X.N[i]?=some x)(C:Loc X.env.scope x)(n:PE X e te)(T:GA X op ti)(hf:X.fn x=true\/X.env.scope.names.lookup x=some .local:=by first|exact .inl rfl|exact .inr rfl|assumption):
  PS X (.AugAssign (.Name x o) op e pos) (JT i te ti):=by
 intro M s L H D I h;obtain⟨v,J,h⟩:=h;obtain⟨m,hn,j⟩:=I.loc;have Q:Vis X.env.scope x:=by rcases C with k|k;exact .inl k;exact .inr (.inl k)
 obtain⟨u,r,l⟩:=j i x v a J Q;refine wpAny_AugAssign_Name ?_;have g:wpAny (model X.prog X.w) X.A (eval e X.env) (λw O=>wpAny (model X.prog X.w) X.A (inplaceOp op u w) (λr q=>wpAny (model X.prog X.w) X.A (storeName X.env x r) (λ_=>SP X M D .next) X.xe q) X.xe O) X.xe s:=by refine thn (n M s L H _ I h) λw f t=>?_;obtain⟨y,P,B,r1,q1⟩:=t;refine thn (T M f L P v y u w _ B r r1 q1) λz Z t=>?_;obtain⟨zv,d,W,p,b⟩:=t;exact bP W hN a C p (λs3 I3=>⟨_,d,I3,b⟩) hf
 rcases l with ⟨F,Y⟩|⟨F,c,U,S⟩
 ·exact wpAny_loadName_local I.ok.kind F hn Y g
 ·rcases F with F|F
  ·exact wpAny_loadName_cell I.ok.kind F U S g
  ·rcases C with k|k
   ·have:X.env.scope.names.lookup x=some .free:=F
    grind
   ·have:X.env.scope.names.lookup x=some .free:=F
    grind
def JU(f:Int->Int->Int):TIp:=λx y H Q=>∃i j,x=.int i/\y=.int j/\Q (.int (f i j)) H
theorem CT:GA X .Add (JU λi j=>i+j):=by intro M s L H x y v u Q I w p h;obtain⟨i,j,J,B,q⟩:=h;subst J;subst B;obtain⟨t,rfl⟩:=w;obtain⟨F,rfl⟩:=p;exact iadd_int ⟨.int _,H,I.tok _,⟨_,rfl⟩,q⟩
theorem CU:GA X .Sub (JU λi j=>i-j):=by intro M s L H x y v u Q I w p h;obtain⟨i,j,J,B,q⟩:=h;subst J;subst B;obtain⟨t,rfl⟩:=w;obtain⟨F,rfl⟩:=p;exact isub_int ⟨.int _,H,I.tok _,⟨_,rfl⟩,q⟩
def CV(c:TT)(T:TS):TS:=λD L H=>∃W:Nat->St->Hp->Prop,(∃m,W m L H)/\∀m L H,W m L H ->
 c L H λb P=>if b=true then ∃N:St->Hp->Prop,(∀a l,N a l->∃y,y<m/\W y a l)/\T { D with nx:=N,ct:=N,bk:=D.nx } L P else D.nx L P
theorem uP{c:Expr}{C:List Stmt}(m:PassesOwn (model X.prog X.w) X.A X.env X.xe)(U:PT X c tc)(S:PSs X C tb):PS X (.While c C [] pos) (CV tc tb):=by
 intro M s L H D I h;obtain⟨W,⟨x,k⟩,o⟩:=h;refine wpAny_While (codeAny_whileLoop (λn B=>∃a l,Inv X M a l B/\W n a l) ?_ x ⟨L,H,I,k⟩);rintro n T ⟨i,P,Q,r⟩;refine acE m (thn (U M T i P _ Q (o n i P r)) λb Z t=>?_);obtain⟨j,p,F⟩:=t;cases b with
 |true=>
  obtain⟨N,u,F⟩:=F;rw[if_pos rfl];refine acE m (thn (S M Z i j _ p F) λf e d=>?_);cases f with
  |next=>obtain⟨O,q,z,g⟩:=d;obtain⟨y,Y,J⟩:=u O q g;exact⟨y,Y,O,q,z,J⟩
  |cont=>obtain⟨O,q,z,g⟩:=d;obtain⟨y,Y,J⟩:=u O q g;exact⟨y,Y,O,q,z,J⟩
  |brk=>exact d
  |ret v=>exact d
 |false=>rw[if_neg aar];exact acW ⟨i,j,p,F⟩
structure It where
 go:Nat->Hp->Prop
 yld:Nat->Hp->V->Hp->Prop
 stop:Nat->Hp->Prop
def FpOk(X:Cx)(M:List (Addr×Obj))(H:Hp)(b:Addr):Prop:=
 H b=none/\b≠X.env.locals/\b ∉ X.fs/\(b∈X.ex\/X.s₀.heap.objs.size<=b)/\(∀x c,X.env.cells.lookup x=some c->c≠b)/\∀p∈X.pn++M,p.1≠b
theorem Inv.pa(I:Inv X pins σ H s)(S:s.heap.objs.size<=b)(l:H' b=none):FpOk X pins H' b:=by
 refine⟨l,aa7 (aas I.lt S),I.nofs S,.inr (aan I.sz S),λx c e z=>?_,λp m z=>?_⟩
 ·obtain⟨v,q⟩:=I.cell x c e;exact absurd (aas q.lt (by rw[z];exact S)) (aaX _)
 ·exact absurd (aas (acu (I.pin p m).1) (by rw[z];exact S)) (aaX _)
structure Turn (P:Program)(w:World)(K:Waa)(tg:Expr)(J:It)(fp:List Addr)(it:Addr)(tn:Nat->Heap->Prop):Prop where
 mem:it∈fp
 obj:∀i h,tn i h->∀b∈fp,∃o,h.get? b=some o/\∀v,o.data≠.cell v
 keep:∀i h h',tn i h->(∀b∈fp,∀o,h.get? b=some o->h'.get? b=some o)->tn i h'
 item:∀(X:Cx),X.prog=P->X.w=w->X.K=K->X.calm=true->∀(i:Nat) (pins:List (Addr×Obj)) (s:Shared) (σ:St) (H:Hp) (E:Value->Shared->Prop),Inv X pins σ H s->(∀b∈fp,FpOk X pins H b)->tn i s.heap->J.go i H ->
  wpAny (model P w) X.A (pyNext (.ref it)) (λr s1=>∃u,r=some u /\
   wpAny (model P w) X.A (letOwnedTupleGo tg (.ref it) u) (λ_ s2=>∃x H',Inv X pins σ H' s2/\RelV x u/\J.yld i H x H'/\tn (i+1) s2.heap/\∀b∈fp,H' b=none) E s1) E s
 done:∀(X:Cx),X.prog=P->X.w=w->X.K=K->X.calm=true->∀(i:Nat) (pins:List (Addr×Obj)) (s:Shared) (σ:St) (H:Hp) (E:Value->Shared->Prop),Inv X pins σ H s->(∀b∈fp,FpOk X pins H b)->tn i s.heap->J.stop i H ->
  wpAny (model P w) X.A (pyNext (.ref it)) (λr s1=>r=none/\Inv X pins σ H s1) E s
 self:∀(A:Around) (i:Nat) (s:Shared) (Q:Value->Shared->Prop) (E:Value->Shared->Prop),tn i s.heap->Q (.ref it) s->wpAny (model P w) A (pyIter (.ref it)) Q E s
abbrev TI:=St->Hp->(It->Hp->Prop)->Prop
def LI(X:Cx)(M:List (Addr×Obj))(σ:St)(f:Expr)(R:It->Hp->Prop)(D:Value)(Z:Shared):Prop:=
 ∃(j:Addr) (d:List Addr) (B:Nat->Heap->Prop) (J:It) (l:Hp),D=.ref j/\Inv X M σ l Z/\Turn X.prog X.w X.K f J d j B/\B 0 Z.heap/\(∀b∈d,FpOk X M l b)/\R J l
def PI(X:Cx)(tg iter:Expr)(Z:TI):Prop:=
 ∀(M:List (Addr×Obj)) (s:Shared) (L:St) (H:Hp) (R:It->Hp->Prop),Inv X M L H s->Z L H R ->
  wpAny (model X.prog X.w) X.A (eval iter X.env) (λv f=>wpAny (model X.prog X.w) X.A (pyIter v) (LI X M L tg R) X.xe f) X.xe s
theorem pU(T:s.heap.get? it=some o)(U:o.cls=.type n)(W:o.data=.fields vs)
  (l:["enumerate","zip","dict_itemiterator","dict_reverseitemiterator","odict_iterator","itertools.zip_longest","itertools.pairwise"].contains n=false) (J:Q () s):wpAny M A (letOwnedTupleGo tg (.ref it) u) Q E s:=by
 unfold letOwnedTupleGo;cases tg<;>first
  |exact acv J
  | (cases u<;>first
    |exact acv J
    | (refine acs (wpAny_load T ?_)
       rw[U,W];show wpAny M A (if (["enumerate","zip","dict_itemiterator","dict_reverseitemiterator","odict_iterator","itertools.zip_longest","itertools.pairwise"].contains n&&vs[0]?==some (rawInt _))=true then _ else _) Q E s;rw[if_neg (by intro h;rw[l,Bool.false_and]at h;cases h)];exact acv J))
def JV(K:Waa)(a:Addr):It:=
 ⟨λi H=>∃Y x,SqL K H a Y/\Y[i]?=some x,λi H x l=>l=H/\∀Y,SqL K H a Y->Y[i]?=some x,λi H=>∃Y,SqL K H a Y/\Y.length<=i⟩
def JW(K:Waa)(a:Addr):It:=
 ⟨λi H=>∃Y x,SqT K H a Y/\Y[i]?=some x,λi H x l=>l=H/\∀Y,SqT K H a Y->Y[i]?=some x,λi H=>∃Y,SqT K H a Y/\Y.length<=i⟩
def Jr(lo:Int)(n:Nat):It:=⟨λi _=>i<n,λi H x l=>l=H/\x=.int (lo+i),λi _=>n<=i⟩
theorem sj{K:Waa}(a it:Addr):Turn P w K tg (JV K a) [it] it (λi h=>h.IsListIter it a i) where
 mem:=by simp
 obj:=λi h m b S=>by
  have e:b=it:=by grind
  subst e;obtain⟨o,e,c,d⟩:=m
  grind
 keep:=λi h v m k=>m.at λo e=>k it (by simp) o e
 item:=by intro X z Q T U i M s L H E I y m N;subst z Q T;obtain⟨Y,x,A,C⟩:=N;obtain⟨D,O,p,J⟩:=I.list A;obtain⟨u,hu,ru⟩:=O.get C;obtain⟨q,r,F,g,Z,l⟩:=y it (by simp);refine wpAny_pyNext_list_item m p.isList (by simpa using hu) λv n W=>?_;have B:Inv X M L H { s with heap:=v }:=I.turned (λb o S e=>(W.2 b S).trans e) q r g Z l;obtain⟨o,e,c,d⟩:=id n;exact⟨u,rfl,pU e c d (by rfl) ⟨x,H,B,ru,⟨rfl,λys t=>by rw[I.n7 t A];omega⟩,n,λb S=>(y b S).1⟩⟩
 done:=by
  intro X z Q T U i M s L H E I y m N;subst z Q T;obtain⟨Y,A,C⟩:=N;obtain⟨D,O,p,J⟩:=I.list A;obtain⟨q,r,F,g,Z,l⟩:=y it (by simp);have j:=O.length;exact wpAny_pyNext_list_end (I.ok.hd U) m p.isList (by grind) λv f=>⟨rfl,I.turned (λb o S e=>f b o S e) q r g Z l⟩
 self:=λ_ _ _ _ _ m h=>wpAny_pyIter_listiter m h
theorem nJ{K:Waa}(a it:Addr):Turn P w K tg (JW K a) [it] it (λi h=>h.IsTupleIter it a i) where
 mem:=by simp
 obj:=λi h m b S=>by
  have e:b=it:=by grind
  subst e;obtain⟨o,e,c,d⟩:=m
  grind
 keep:=λi h v m k=>m.at λo e=>k it (by simp) o e
 item:=by intro X z Q T U i M s L H E I y m N;subst z Q T;obtain⟨Y,x,A,C⟩:=N;obtain⟨D,O,p,J⟩:=I.tuple A;obtain⟨u,hu,ru⟩:=O.get C;obtain⟨q,r,F,g,Z,l⟩:=y it (by simp);refine wpAny_pyNext_tuple_item m (p) (by simpa using hu) λv n W=>?_;have B:Inv X M L H { s with heap:=v }:=I.turned (λb o S e=>(W.2 b S).trans e) q r g Z l;obtain⟨o,e,c,d⟩:=id n;exact⟨u,rfl,pU e c d (by rfl) ⟨x,H,B,ru,⟨rfl,λys t=>by rw[I.rz t A];lia⟩,n,λb S=>(y b S).1⟩⟩
 done:=by
  intro X z Q T U i M s L H E I y m N;subst z Q T;obtain⟨Y,A,C⟩:=N;obtain⟨D,O,p,J⟩:=I.tuple A;obtain⟨q,r,F,g,Z,l⟩:=y it (by simp);have j:=O.length;exact wpAny_pyNext_tuple_end (I.ok.hd U) m (p) (by grind) λv f=>⟨rfl,I.turned (λb o S e=>f b o S e) q r g Z l⟩
 self:=λ_ _ _ _ _ m h=>wpAny_pyIter_tupleiter m h
theorem nK{K:Waa}(it:Addr)(lo:Int)(n:Nat):Turn P w K tg (Jr lo n) [it] it (λi h=>IsRangeIter h it (lo+(i:Nat)*1) ((n:Int)-(i:Nat)) 1) where
 mem:=by simp
 obj:=λi h m b S=>by
  grind
 keep:=λi h O m k=>k it (by simp) _ m
 item:=by intro X z Q T U i M s L H E I y m N;subst z Q T;obtain⟨q,r,F,g,Z,l⟩:=y it (by simp);have W:=Walks.range (prog:=X.prog) (w:=X.w) (I.ok.hd U) it lo 1 n;refine W.item i s _ _ N m λv O Y u a c=>?_;obtain⟨t,rfl⟩:=u;have B:Inv X M L H { s with heap:=O,toks:=Y }:=I.turned (λb o S e=>c b o (by grind) e) q r g Z l;refine⟨_,rfl,pU a rfl rfl (by rfl) ⟨.int (lo+i),H,B,⟨t,?_⟩,⟨rfl,rfl⟩,a,λb S=>(y b S).1⟩⟩;simp
 done:=by
  intro X z Q T U i M s L H E I y m N;subst z Q T;obtain⟨q,r,F,g,Z,l⟩:=y it (by simp);exact wpAny_pyNext_range_end (I.ok.hd U) m (by have:n<=i:=N;lia) λO x=>⟨rfl,I.turned (λb o S e=>x b o S e) q r g Z l⟩
 self:=λ_ _ _ _ _ m h=>wpAny_pyIter_rangeiter m h
end
section
def GC(K:Waa)(T:TE):TI:=λL H R=>T L H λx P=>∃a,x=.ref a/\(∃Y,SqL K P a Y)/\R (JV K a) P
def JX(K:Waa)(T:TE):TI:=λL H R=>T L H λx P=>∃a,x=.ref a/\(∃Y,SqT K P a Y)/\R (JW K a) P
theorem yR{l:Expr}{T:TE}(j:PE X l T):PI X tg l (GC X.K T):=by
 intro M s L H R I h;refine thn (j M s L H _ I h) λv f t=>?_;obtain⟨x,P,B,w,m⟩:=t;obtain⟨a,e,⟨Y,A⟩,q⟩:=m;subst e;cases w;obtain⟨D,O,p,d⟩:=B.list A;refine acX p.isList ?_;refine⟨f.heap.objs.size,[f.heap.objs.size],_,_,P,rfl,B.kept (t':=f.toks) λb o e=>acw _ e,sj a _,⟨_,acx _ rfl,rfl,rfl⟩,λb S=>?_,q⟩;have e:b=f.heap.objs.size:=by simpa using S
 subst e;exact B.pa (aac _) (B.hok.fresh (aac _))
theorem CW{l:Expr}{T:TE}(j:PE X l T):PI X tg l (JX X.K T):=by
 intro M s L H R I h;refine thn (j M s L H _ I h) λv f t=>?_;obtain⟨x,P,B,w,m⟩:=t;obtain⟨a,e,⟨Y,A⟩,q⟩:=m;subst e;cases w;obtain⟨D,O,p,d⟩:=B.tuple A;refine wpAny_pyIter_tuple (p) ?_;refine⟨f.heap.objs.size,[f.heap.objs.size],_,_,P,rfl,B.kept (t':=f.toks) λb o e=>acw _ e,nJ a _,⟨_,acx _ rfl,rfl,rfl⟩,λb S=>?_,q⟩;have e:b=f.heap.objs.size:=by grind
 subst e;exact B.pa (aac _) (B.hok.fresh (aac _))
theorem uQ{R:It->Hp->Prop}{lo r:Int}{t u v:Tok}{Y:Nat}(I:Inv X pins σ H s)(O:-(2^62)<=lo)(Z:lo<2^62)(M:-(2^62)<=r)(P:r<2^62)
  (q:R (Jr lo (r-lo).toNat) H):wpAny (model X.prog X.w) X.A (pyIter (.ref s.heap.objs.size)) (LI X pins σ tg R) E { s with heap:=s.heap.push { cls:=.type "range",data:=.fields #[.int lo t,.int r u,.int 1 v] },toks:=Y }:=by
 refine wpAny_pyIter_range (IsRange.new ..) (small_one O Z M P) ?_;have B:Inv X pins σ H { s with heap:=s.heap.push { cls:=.type "range",data:=.fields #[.int lo t,.int r u,.int 1 v] },toks:=Y }:=I.kept λb o e=>acw _ e;refine⟨(s.heap.push { cls:=.type "range",data:=.fields #[.int lo t,.int r u,.int 1 v] }).objs.size,[(s.heap.push { cls:=.type "range",data:=.fields #[.int lo t,.int r u,.int 1 v] }).objs.size],_,_,H,rfl,
  B.kept λb o e=>acw _ e,nK _ lo (r-lo).toNat,?_,λb S=>?_,q⟩
 ·have J:lo+((0:Nat))*1=lo:=by simp
  have T:(((r-lo).toNat))-((0:Nat))=Builtin.Range.rangeSize lo r 1:=by rw[rangeSize_one];grind
  rw[J,T];exact acx _ rfl
 ·have e:b=(s.heap.push { cls:=.type "range",data:=.fields #[.int lo t,.int r u,.int 1 v] }).objs.size:=by grind
  subst e;exact B.pa (aac _) (B.hok.fresh (aac _))
def GD(Z:TA):TI:=λL H R=>Z L H λc P=>∃j:Int,c=[.int j]/\-(2^62)<=j/\j<2^62/\R (Jr 0 j.toNat) P
theorem sk{a:Expr}{Z:TA}{p pos:Pos} (N:Gl X "range") (Y:X.mg "range"=none) (i:PA X [a] Z) (g:starEach [a] X.env=[(false,eval a X.env)]:=by rfl):PI X tg (.Call (.Name "range" p) [a] [] pos) (GD Z):=by
 intro M s L H R I h;refine Call_ (fe I N Y boot_range (abf (thn (i pos M s L H _ I h) λC f n=>?_) g rfl));obtain⟨c,P,B,w,m⟩:=n;obtain⟨j,e,m,b,q⟩:=m;subst e;cases w with
 |cons r U=>cases U;obtain⟨t,rfl⟩:=r;exact call_range_1 (uQ B (by lia) (by lia) m b (by grind))
def JY(Z:TI)(g:TG)(T:TS):TS:=λD L H=>Z L H λJ P=>∃W:Nat->Nat->St->Hp->Prop,(∃m,W 0 m L P)/\∀i m L H,W i m L H ->
 (J.stop i H/\D.nx L H)\/(J.go i H/\∃N:St->Hp->Prop,(∀a l,N a l->∃y,y<m/\W (i+1) y a l)/\∀x l,J.yld i H x l->g x L l λd j=>T { D with nx:=N,ct:=N,bk:=D.nx } d j)
def pinsAt(d:List Addr)(h:Heap):List (Addr×Obj):=d.filterMap λb=>(h.get? b).map λo=>(b,o)
theorem fg(S:b∈fp)(e:h.get? b=some o):(b,o)∈pinsAt fp h:=List.mem_filterMap.mpr ⟨b,S,by rw[e];rfl⟩
theorem sm(m:p∈pinsAt fp h):p.1∈fp/\h.get? p.1=some p.2:=by
 obtain⟨b,S,e⟩:=List.mem_filterMap.mp m;cases q:h.get? b with
 |none=>grind
 |some o=>
  grind
theorem Inv.pinned(I:Inv X pins σ H s)(y:∀b∈fp,FpOk X pins H b)(T:∀b∈fp,∃o,s.heap.get? b=some o/\∀v,o.data≠.cell v):Inv X (pins++pinsAt fp s.heap) σ H s:=
 I.rx λp m=>(aaj.mp m).elim (λz=>I.pin p (aad _ z)) λz=>by
  obtain⟨S,e⟩:=sm z;obtain⟨q,r,F,_⟩:=y p.1 S
  grind
theorem Inv.en(I:Inv X (pins++pl) σ H s):Inv X pins σ H s:=I.rx λp m=>I.pin p (aad _ (aah _ m))
theorem CY{k:Expr}{a1:List Stmt}{pos:Pos}(hp:PassesOwn (model X.prog X.w) X.A X.env X.xe)(U:X.calm=true)(hi:PI X tg k wi)(hg:PG X tg g)(S:PSs X a1 tb)
  (hs:∀x,foldedSetIterable k X.env x=pure x:=by intro _;rfl):PS X (.For tg k a1 [] pos) (JY wi g tb):=by
 intro M s σ H D I h;refine wpAny_For (thn (hi M s σ H _ I h) λv s1 h1=>thn h1 λa9 s2 h2=>?_) hs;obtain⟨it,fp,tn,J,H2,e,I2,T,c,F,W,⟨m0,w0⟩,a2⟩:=h2;subst e;have L:∀{l:Hp},(∀b∈fp,l b=none)->∀b∈fp,FpOk X M l b:=λhn b S=>⟨hn b S,(F b S).2⟩
 refine codeAny_forLoop_any (λn B=>∃i a l,Inv X M a l B/\tn i B.heap/\(∀b∈fp,l b=none)/\W i n a l) ?_ m0 ⟨0,σ,H2,I2,c,λb S=>(F b S).1,w0⟩;rintro n s3 ⟨i,O,q,z,j,a3,w3⟩;rcases a2 i n O q w3 with ⟨a4,qn⟩|⟨go,N,hN,a5⟩
 ·refine acE hp (thn (T.done X rfl rfl rfl U i M s3 O q X.xe z (L a3) j a4) λr s4 t=>?_);obtain⟨hr,I4⟩:=t;subst hr;exact acW ⟨O,q,I4,qn⟩
 ·refine acE hp (thn (T.item X rfl rfl rfl U i M s3 O q X.xe z (L a3) j go) λr s4 t=>?_);obtain⟨u,hr,h4⟩:=t;subst hr;refine acE hp (thn h4 λ_ s5 t=>?_);obtain⟨x,H5,I5,r5,y,Z,a7⟩:=t;have a8:=I5.pinned (L a7) (T.obj _ _ Z);refine acE hp (thn (hg _ s5 O H5 x u _ a8 r5 (a5 x H5 y)) λ_ s6 t=>?_);obtain⟨a6,H6,I6,q6⟩:=t;refine acE hp (thn (S _ s6 a6 H6 _ I6 q6) λf s7 P=>?_);have a0:∀{p:St}{C:Hp},Inv X (M++pinsAt fp s5.heap) p C s7->N p C->∃m,m<n/\∃i a l,Inv X M a l s7/\tn i s7.heap/\(∀b∈fp,l b=none)/\W i m a l:=λ{p C} Q Y=>by obtain⟨m',hm,w7⟩:=hN p C Y;refine⟨m',hm,i+1,p,C,Q.en,T.keep _ _ _ Z λb S o e=>(Q.pin (b,o) (aad _ (aad _ (fg S e)))).1,λb S=>?_,w7⟩;obtain⟨o,e,d⟩:=T.obj _ _ Z b S;exact(Q.pin (b,o) (aad _ (aad _ (fg S e)))).2.1
  cases f with
  |next=>obtain⟨p,C,Q,Y⟩:=P;exact a0 Q Y
  |cont=>obtain⟨p,C,Q,Y⟩:=P;exact a0 Q Y
  |brk=>obtain⟨p,C,Q,P⟩:=P;exact⟨p,C,Q.en,P⟩
  |ret v=>obtain⟨x7,p,C,Q,r7,P⟩:=P;exact⟨x7,p,C,Q.en,r7,P⟩
end
section
abbrev R2:=V->V->Hp->VK->Prop
def OpR(X:Cx)(f:Value->Value->Sem Value)(r:R2):Prop:=
 ∀(M:List (Addr×Obj)) (s:Shared) (L:St) (H:Hp) (x y:V) (v u:Value) (Q:VK),Inv X M L H s->RelV x v->RelV y u->r x y H Q ->
  wpAny (model X.prog X.w) X.A (f v u) (EP X M L Q) X.xe s
def JZ(X:Cx)(f:Value->Sem Value)(r:V->Hp->VK->Prop):Prop:=
 ∀(M:List (Addr×Obj)) (s:Shared) (L:St) (H:Hp) (x:V) (v:Value) (Q:VK),Inv X M L H s->RelV x v->r x H Q ->
  wpAny (model X.prog X.w) X.A (f v) (EP X M L Q) X.xe s
def CallR(X:Cx)(f:Value)(r:List V->Hp->VK->Prop):Prop:=
 ∀(M:List (Addr×Obj)) (s:Shared) (L:St) (H:Hp) (Y:List V) (C:List Value) (Q:VK),Inv X M L H s->Vals Y C->r Y H Q ->
  wpAny (model X.prog X.w) X.A (call f C) (EP X M L Q) X.xe s
def J0(X:Cx)(r:V->Hp->(Bool->Hp->Prop)->Prop):Prop:=
 ∀(M:List (Addr×Obj)) (s:Shared) (L:St) (H:Hp) (x:V) (v:Value) (Q:Bool->Hp->Prop),Inv X M L H s->RelV x v->r x H Q ->
  wpAny (model X.prog X.w) X.A (truthy v) (TP X M L Q) X.xe s
def CZ(r:R2)(Z T:TE):TE:=λL H Q=>Z L H λx P=>T L P λy j=>r x y j Q
def My(r:V->Hp->VK->Prop)(Z:TE):TE:=λL H Q=>Z L H λx P=>r x P Q
def rI(C:Int->Int->Prop)(g:Int->Int->V):R2:=λx y H Q=>∃i j,x=.int i/\y=.int j/\C i j/\Q (g i j) H
def yD(g:Int->Int->V):R2:=λx y H Q=>∃i j,x=.int i/\y=.int j/\Q (g i j) H
def rU(g:Int->V):V->Hp->VK->Prop:=λx H Q=>∃i,x=.int i/\Q (g i) H
theorem C0(i:PE X a ta)(S:PE X b tb){M:List (Addr×Obj)}{s:Shared}{R:V->V->Hp->Prop}(I:Inv X M σ H s)
  (h:ta σ H λx P=>tb σ P λy j=>R x y j) {f:Value->Value->Sem Value}
  (J:∀v u Z x y j,Inv X M σ j Z->RelV x v->RelV y u->R x y j->wpAny (model X.prog X.w) X.A (f v u) Q X.xe Z):
  wpAny (model X.prog X.w) X.A (eval a X.env) (λv C=>wpAny (model X.prog X.w) X.A (eval b X.env) (λu O=>wpAny (model X.prog X.w) X.A (f v u) Q X.xe O) X.xe C) X.xe s:=by
 refine thn (i M s σ H _ I h) λv n t=>?_;obtain⟨x,P,B,F,m⟩:=t;refine thn (S M n σ P _ B m) λu Z t=>?_;obtain⟨y,j,W,p,z⟩:=t;exact J v u Z x y j W F p z
theorem uR(T:OpR X (binaryOp op) r)(i:PE X a ta)(S:PE X b tb):PE X (.BinOp a op b pos) (CZ r ta tb):=by intro M s L H Q I h;exact wpAny_BinOp (C0 i S I h λv u Z x y j W N J q=>T M Z L j x y v u Q W N J q)
theorem Bw{U:UnaryOp}(T:JZ X (unaryOp U) r)(i:PE X a ta):PE X (.UnaryOp U a pos) (My r ta):=by intro M s L H Q I h;exact UnaryOp_ (thn (i M s L H _ I h) λv f ⟨x,P,B,w,m⟩=>T M f L P x v Q B w m)
theorem Js{f:Value->Value->Sem Value}{g:Int->Int->Int}
  (rule:∀(i j:Int) (t u:Tok) (s:Shared) (Q:Value->Shared->Prop) (E:Value->Shared->Prop),C i j->Q (.int (g i j) s.toks) { s with toks:=s.toks+1 }->wpAny (model X.prog X.w) X.A (f (.int i t) (.int j u)) Q E s):
  OpR X f (rI C λi j=>.int (g i j)):=by
 intro M s L H x y v u Q I N J h;obtain⟨i,j,rfl,rfl,U,q⟩:=h;obtain⟨t,rfl⟩:=N;obtain⟨F,rfl⟩:=J;exact rule i j t F s _ _ U ⟨.int (g i j),H,I.tok _,⟨_,rfl⟩,q⟩
theorem GE{f:Value->Value->Sem Value}{g:Int->Int->Int}
  (rule:∀(i j:Int) (t u:Tok) (s:Shared) (Q:Value->Shared->Prop) (E:Value->Shared->Prop),Q (.int (g i j) s.toks) { s with toks:=s.toks+1 }->wpAny (model X.prog X.w) X.A (f (.int i t) (.int j u)) Q E s):
  OpR X f (yD λi j=>.int (g i j)):=by
 intro M s L H x y v u Q I N J h;obtain⟨i,j,rfl,rfl,q⟩:=h;obtain⟨t,rfl⟩:=N;obtain⟨F,rfl⟩:=J;exact rule i j t F s _ _ ⟨.int (g i j),H,I.tok _,⟨_,rfl⟩,q⟩
theorem yS{g:Int->Int->Bool}
  (rule:∀(i j:Int) (t u:Tok) (s:Shared) (Q:Value->Shared->Prop) (E:Value->Shared->Prop),Q (.bool (g i j)) s->wpAny (model X.prog X.w) X.A (f (.int i t) (.int j u)) Q E s):
  OpR X f (yD λi j=>.bl (g i j)):=by
 intro M s L H x y v u Q I N J h;obtain⟨i,j,rfl,rfl,q⟩:=h;obtain⟨t,rfl⟩:=N;obtain⟨F,rfl⟩:=J;exact rule i j t F s _ _ ⟨.bl (g i j),H,I,rfl,q⟩
def J1(i j:Int):Prop:=0<j/\j<1073741824
def J2(i j:Int):Prop:=0<=j/\j<=1000000/\i.natAbs<2^64
def CMul(i j:Int):Prop:=(-(2^64)<i/\i<2^64)\/(-(2^64)<j/\j<2^64)
theorem CMul.ok{i j:Int}(h:CMul i j):IntMulOk i j:=by
 rcases h with ⟨O,Z⟩|⟨O,Z⟩
 ·exact .of_left (intBits_le_64 O Z)
 ·exact .of_right (intBits_le_64 O Z)
theorem C1:OpR X (binaryOp .Add) (yD λi j=>.int (i+j)):=GE λ_ _ _ _ _ _ _ q=>add_int q
theorem C3:OpR X (binaryOp .Sub) (yD λi j=>.int (i-j)):=GE λ_ _ _ _ _ _ _ q=>sub_int q
theorem C4:OpR X (binaryOp .Mult) (rI CMul λi j=>.int (i*j)):=Js λ_ _ _ _ _ _ _ U q=>mul_int q U.ok
theorem yT:OpR X (binaryOp .FloorDiv) (rI J1 λi j=>.int (i/j)):=Js λi j _ _ _ _ _ U q=>by have O:=U.1;have Z:=U.2;exact floordiv_int (by omega) (by grind) (.inl (ab6 (by omega)))
theorem C5:OpR X (binaryOp .Mod) (rI (λ_ j=>0<j) λi j=>.int (i%j)):=Js λi j _ _ _ _ _ U q=>by have O:=U;exact mod_int' (by lia) (by grind)
theorem C6:OpR X (binaryOp .Pow) (rI J2 λi j=>.int (i^j.toNat)):=Js λ_ _ _ _ _ _ _ U q=>pow_int_small U.1 U.2.1 U.2.2 q
theorem Mz{f:Value->Sem Value}{g:Int->Int}
  (rule:∀(i:Int) (t:Tok) (s:Shared) (Q:Value->Shared->Prop) (E:Value->Shared->Prop),Q (.int (g i) s.toks) { s with toks:=s.toks+1 }->wpAny (model X.prog X.w) X.A (f (.int i t)) Q E s):
  JZ X f (rU λi=>.int (g i)):=by
 intro M s L H x v Q I N h;obtain⟨i,rfl,q⟩:=h;obtain⟨t,rfl⟩:=N;exact rule i t s _ _ ⟨.int (g i),H,I.tok _,⟨_,rfl⟩,q⟩
theorem uS:JZ X (unaryOp .USub) (rU λi=>.int (-i)):=Mz λ_ _ _ _ _ q=>neg_int q
noncomputable def C7:V->V->Bool
 |.non,.non=>true|.non,.int _=>true|.int _,.non=>true|.non,.bl _=>true|.bl _,.non=>true|.non,.str _=>true|.str _,.non=>true
 |.int _,.int _=>true|.bl _,.bl _=>true|.str _,.str _=>true|.byt _,.byt _=>true
 |.int _,.str _=>true|.str _,.int _=>true|.bl _,.str _=>true|.str _,.bl _=>true
 |_,_=>false
def rEq:R2:=λx y H Q=>C7 x y=true/\Q (.bl (decide (x=y))) H
def rNe:R2:=λx y H Q=>C7 x y=true/\Q (.bl (!decide (x=y))) H
theorem pV:decide (V.int i=V.int j)=(i==j):=by rw[abn];simp
theorem uT:decide (V.bl i=V.bl j)=(i==j):=by rw[abn];simp
theorem pW:decide (V.str i=V.str j)=(i==j):=by rw[abn];simp
theorem pX:decide (V.byt i=V.byt j)=(i.toList==j.toList):=by rw[abn];simp
theorem aG(I:Inv X pins σ H s)(q:Q (.bl k) H)(e:k=k'):EP X pins σ Q (.bool k') s:=by subst e;exact⟨.bl k,H,I,rfl,q⟩
theorem op_eq:OpR X (compareOp .Eq) rEq:=by
 intro M s L H x y v u Q I N J h;obtain⟨g,q⟩:=h;cases x with
 |non=>
  cases N;cases y with
  |non=>cases J;exact PySem.EqNone.eq_none_none (aG I q (by simp))
  |bl j=>cases J;exact PySem.EqNone.eq_none_bool (aG I q (by simp))
  |int j=>obtain⟨F,rfl⟩:=J;exact PySem.EqNone.eq_none_int (aG I q (by simp))
  |str j=>obtain⟨F,rfl⟩:=J;exact PySem.EqNone.eq_none_str (aG I q (by simp))
  |_=>trivial
 |bl i=>
  cases N;cases y with
  |non=>cases J;exact PySem.EqNone.eq_bool_none (aG I q (by simp))
  |bl j=>cases J;exact eq_bool (aG I q uT)
  |str j=>obtain⟨F,rfl⟩:=J;exact PySem.EqMixed.eq_bool_str (aG I q (by simp))
  |_=>trivial
 |int i=>
  obtain⟨t,rfl⟩:=N;cases y with
  |non=>cases J;exact PySem.EqNone.eq_int_none (aG I q (by simp))
  |int j=>obtain⟨F,rfl⟩:=J;exact eq_int (aG I q pV)
  |str j=>obtain⟨F,rfl⟩:=J;exact PySem.EqMixed.eq_int_str (aG I q (by simp))
  |_=>trivial
 |str i=>
  obtain⟨t,rfl⟩:=N;cases y with
  |non=>cases J;exact PySem.EqNone.eq_str_none (aG I q (by simp))
  |bl j=>cases J;exact PySem.EqMixed.eq_str_bool (aG I q (by simp))
  |int j=>obtain⟨F,rfl⟩:=J;exact PySem.EqMixed.eq_str_int (aG I q (by simp))
  |str j=>obtain⟨F,rfl⟩:=J;exact eq_str (aG I q pW)
  |_=>trivial
 |byt i=>
  obtain⟨t,rfl⟩:=N;cases y with
  |byt j=>obtain⟨F,rfl⟩:=J;exact PySem.W.eq_bytes (aG I q pX)
  |_=>trivial
 |_=>trivial
theorem op_ne:OpR X (compareOp .NotEq) rNe:=by
 intro M s L H x y v u Q I N J h;obtain⟨g,q⟩:=h;cases x with
 |non=>
  cases N;cases y with
  |non=>cases J;exact PySem.EqNone.ne_none_none (aG I q (by simp))
  |bl j=>cases J;exact PySem.EqNone.ne_none_bool (aG I q (by simp))
  |int j=>obtain⟨F,rfl⟩:=J;exact PySem.EqNone.ne_none_int (aG I q (by simp))
  |str j=>obtain⟨F,rfl⟩:=J;exact PySem.EqNone.ne_none_str (aG I q (by simp))
  |_=>trivial
 |bl i=>
  cases N;cases y with
  |non=>cases J;exact PySem.EqNone.ne_bool_none (aG I q (by simp))
  |bl j=>cases J;exact ne_bool (aG I q (congrArg not uT))
  |str j=>obtain⟨F,rfl⟩:=J;exact PySem.EqMixed.ne_bool_str (aG I q (by simp))
  |_=>trivial
 |int i=>
  obtain⟨t,rfl⟩:=N;cases y with
  |non=>cases J;exact PySem.EqNone.ne_int_none (aG I q (by simp))
  |int j=>obtain⟨F,rfl⟩:=J;exact ne_int (aG I q (congrArg not pV))
  |str j=>obtain⟨F,rfl⟩:=J;exact PySem.EqMixed.ne_int_str (aG I q (by simp))
  |_=>trivial
 |str i=>
  obtain⟨t,rfl⟩:=N;cases y with
  |non=>cases J;exact PySem.EqNone.ne_str_none (aG I q (by simp))
  |bl j=>cases J;exact PySem.EqMixed.ne_str_bool (aG I q (by simp))
  |int j=>obtain⟨F,rfl⟩:=J;exact PySem.EqMixed.ne_str_int (aG I q (by simp))
  |str j=>obtain⟨F,rfl⟩:=J;exact ne_str (aG I q (congrArg not pW))
  |_=>trivial
 |byt i=>
  obtain⟨t,rfl⟩:=N;cases y with
  |byt j=>obtain⟨F,rfl⟩:=J;exact PySem.W.ne_bytes (aG I q (congrArg not pX))
  |_=>trivial
 |_=>trivial
theorem GF:OpR X (compareOp .Lt) (yD λi j=>.bl (decide (i<j))):=yS λ_ _ _ _ _ _ _ q=>lt_int q
theorem GG:OpR X (compareOp .LtE) (yD λi j=>.bl (decide (i<=j))):=yS λ_ _ _ _ _ _ _ q=>le_int q
theorem GH:OpR X (compareOp .Gt) (yD λi j=>.bl (decide (j<i))):=yS λ_ _ _ _ _ _ _ q=>gt_int q
theorem GI:OpR X (compareOp .GtE) (yD λi j=>.bl (decide (j<=i))):=yS λ_ _ _ _ _ _ _ q=>ge_int q
theorem OpR.or(h:OpR X f r)(h':OpR X f r'):OpR X f (λx y H Q=>r x y H Q\/r' x y H Q):=by
 intro M s L H x y v u Q I N J q;rcases q with q|q
 ·exact h M s L H x y v u Q I N J q
 ·exact h' M s L H x y v u Q I N J q
theorem pY(T:OpR X (compareOp op) r)(i:PE X a ta)(S:PE X b tb)(Y:behindInMarks op b=false):PE X (.Compare a [op] [b] pos) (CZ r ta tb):=by intro M s L H Q I h;exact wpAny_Compare1 (C0 i S I h λv u Z x y j W N J q=>T M Z L j x y v u Q W N J q) Y
def uU(t:TE):TT:=λL H Q=>t L H λx l=>∃k,x=.bl k/\Q k l
theorem pZ{U:CmpOp}{r:R2}(T:OpR X (compareOp U) r)(i:PE X a ta)(S:PE X b tb)(Y:behindInMarks U b=false):PT X (.Compare a [U] [b] pos) (uU (CZ r ta tb)):=by
 intro M s L H Q I h;refine wpAny_isTrue_Compare1 (thn (i M s L H _ I h) λv f ⟨x,P,B,w,m⟩=>thn (S M f L P _ B m) λu Z ⟨y,j,W,p,F⟩=>
  thn (T M Z L j x y v u _ W w p F) λc C ⟨z,q,O,N,k,e,d⟩=>?_) Y
 subst e;cases N;exact acA ⟨q,O,d⟩
def nL(r f:R2)(Z T tc:TE):TE:=λL H Q=>Z L H λx P=>T L P λy j=>r x y j λz q=>∃k,z=.bl k /\
 (if k=true then tc L q λD C=>f y D C Q else Q (.bl false) q)
theorem uV{U O:CmpOp}{r f:R2}(T:OpR X (compareOp U) r)(t:OpR X (compareOp O) f)(i:PE X a ta)(S:PE X b tb)(hc:PE X c tc)
  (Y:lastMarks [U,O] [b,c]=false:=by with_unfolding_all rfl):PE X (.Compare a [U,O] [b,c] pos) (nL r f ta tb tc):=by
 intro M s L H Q I h;refine Compare_chain (thn (i M s L H _ I h) λv o ⟨x,P,B,w,m⟩=>chain_link (thn (S M o L P _ B m) λu Z ⟨y,j,W,p,l⟩=>
  thn (T M Z L j x y v u _ W w p l) λd s3 ⟨z,q,n,N,k,e,F⟩=>?_)) Y
 subst e;cases N;refine acA ?_;cases k with
 |false=>exact ite_ff ⟨.bl false,q,n,rfl,F⟩
 |true=>exact ite_tt (chain_last (thn (hc M s3 L q _ n F) λD s4 ⟨z',C,A,J,g⟩=>t M s4 L C y z' u D Q A p J g))
theorem uX{U O:CmpOp}{r f:R2}(T:OpR X (compareOp U) r)(t:OpR X (compareOp O) f)(i:PE X a ta)(S:PE X b tb)(hc:PE X c tc)
  (Y:lastMarks [U,O] [b,c]=false:=by with_unfolding_all rfl):PT X (.Compare a [U,O] [b,c] pos) (uU (nL r f ta tb tc)):=by
 intro M s L H Q I h;refine isTrue_chain (thn (i M s L H _ I h) λv s1 ⟨x,P,B,w,m⟩=>test_link (thn (S M s1 L P _ B m) λu Z ⟨y,j,W,p,q2⟩=>
  thn (T M Z L j x y v u _ W w p q2) λd s3 ⟨z,q,I3,N,k,e,q3⟩=>?_)) Y
 subst e;cases N;refine acA ?_;cases k with
 |false=>obtain⟨k',e',D⟩:=q3;cases e';exact ite_ff ⟨q,I3,D⟩
 |true=>refine ite_tt (test_last (thn (hc M s3 L q _ I3 q3) λw' s4 ⟨z',C,A,J,g⟩=>thn (t M s4 L C y z' u w' _ A p J g) λd' s5 hZ=>?_));obtain⟨z2,H5,F,n,l,e2,o⟩:=hZ;subst e2;cases n;exact acA ⟨H5,F,o⟩
def C8(K:Waa)(x:V)(H:Hp)(k:Bool):Prop:=
 match x with
 |.non=>k=false
 |.bl b=>k=b
 |.int i=>k=(i !=0)
 |.str y=>y.length<=sizeLine/\k=((y.length:Int) !=0)
 |.byt y=>y.size<=sizeLine/\k=((y.size:Int) !=0)
 |.ref p=>(∃Y,SqL K H p Y/\k=!Y.isEmpty)\/(∃Y,SqT K H p Y/\k=!Y.isEmpty)\/∃N,H p=some (.dK N)/\k=!N.isEmpty
 |_=>False
theorem nM{A:Type}{N:List (A×V)}{vs:List (A×Value)}(r:KV N vs):(!vs.isEmpty)=!N.isEmpty:=by cases r<;>rfl
theorem gW{xs:List V}{D:List Value}(r:Vals xs D):(!D.toArray.isEmpty)=!xs.isEmpty:=by cases r<;>simp
theorem line63:(sizeLine:Nat)<2^63:=by decide
theorem C9:J0 X (λx H Q=>∃k,C8 X.K x H k/\Q k H):=by
 intro M s U H x v Q I N h;obtain⟨k,e,q⟩:=h;have j:=line63;have g:=sizeLine_eq;cases x with
 |non=>cases N;have L:=e;subst L;exact truthy_none ⟨H,I,q⟩
 |bl b=>cases N;have L:=e;subst L;exact acA ⟨H,I,q⟩
 |int i=>obtain⟨t,rfl⟩:=N;have L:=e;subst L;exact PySem.P.truthy_int ⟨H,I,q⟩
 |str y=>obtain⟨t,rfl⟩:=N;obtain⟨J,L⟩:=e;subst L;exact PySem.P.truthy_str (by lia) ⟨H,I.tok _,q⟩
 |byt y=>obtain⟨t,rfl⟩:=N;obtain⟨J,L⟩:=e;subst L;exact PySem.W.truthy_bytes (by lia) ⟨H,I.tok _,q⟩
 |ref p=>
  cases N;have L:=e;rcases L with ⟨Y,C,L⟩|⟨Y,C,L⟩|⟨F,C,L⟩
  ·subst L;obtain⟨D,r,a,d⟩:=I.list C;have S:=r.length;exact wpAny_truthy_list a.isList (by grind) ⟨H,I.tok _,by rw[gW r];exact q⟩
  ·subst L;obtain⟨D,r,a,d⟩:=I.tuple C;have S:=r.length;exact truthy_tuple a (by grind) ⟨H,I.tok _,by rw[gW r];exact q⟩
  ·subst L;obtain⟨d,Z,c,r,m⟩:=I.hok p _ C;have S:=acO r;exact wpAny_truthy_dict Z m (by lia) ⟨H,I.tok _,by rw[nM r];exact q⟩
 |_=>trivial
theorem lA(i:PE X a ta)(n:∀W,isTrue a X.env W=(do let v <-W;standAt a.pos;holding [v] (truthy v))):
  PT X a (λσ H Q=>ta σ H λx l=>∃k,C8 X.K x l k/\Q k l):=by
 intro M s σ H Q I h;exact isTrue_plain (thn (i M s σ H _ I h) λv f ⟨x,P,B,w,m⟩=>C9 M f σ P x v Q B w m) (n _)
theorem vals1(r:Vals [x] us):∃u,us=[u]/\RelV x u:=by
 cases r with
 |cons w p=>cases p;exact⟨_,rfl,w⟩
theorem vals2(r:Vals [x,y] us):∃u D,us=[u,D]/\RelV x u/\RelV y D:=by
 cases r with
 |cons w p=>
  cases p with
  |cons N J=>cases J;exact⟨_,_,rfl,w,N⟩
theorem uY:CallR X (.builtin "abs") (λxs H Q=>∃i,xs=[.int i]/\Q (.int (if i<0 then -i else i)) H):=by
 intro M s L H xs C Q I r h;obtain⟨i,rfl,q⟩:=h;obtain⟨u,rfl,t,rfl⟩:=vals1 r;exact call_abs_int λu Y=>⟨.int (if i<0 then -i else i),H,I.tok _,⟨_,rfl⟩,q⟩
theorem so(U:X.calm=true):CallR X (.builtin "max") (λxs H Q=>∃i j,xs=[.int i,.int j]/\Q (.int (if j>i then j else i)) H):=by
 intro M s L H xs C Q I r h;obtain⟨i,j,rfl,q⟩:=h;obtain⟨u,D,rfl,⟨t,rfl⟩,⟨F,rfl⟩⟩:=vals2 r;refine max_two_ints (I.ok.hd U) λv Y k=>⟨_,H,I.kept k,?_,q⟩
 by_cases W:j>i
 ·rw[if_pos W,if_pos W];exact⟨_,rfl⟩
 ·rw[if_neg W,if_neg W];exact⟨_,rfl⟩
theorem sq(U:X.calm=true):CallR X (.builtin "min") (λxs H Q=>∃i j,xs=[.int i,.int j]/\Q (.int (if j<i then j else i)) H):=by
 intro M s L H xs C Q I r h;obtain⟨i,j,rfl,q⟩:=h;obtain⟨u,D,rfl,⟨t,rfl⟩,⟨F,rfl⟩⟩:=vals2 r;refine min_two_ints (I.ok.hd U) λv Y k=>⟨_,H,I.kept k,?_,q⟩
 by_cases W:j<i
 ·rw[if_pos W,if_pos W];exact⟨_,rfl⟩
 ·rw[if_neg W,if_neg W];exact⟨_,rfl⟩
theorem sr:CallR X (.type "int") (λxs H Q=>(∃i,xs=[.int i]/\Q (.int i) H)\/∃k,xs=[.bl k]/\Q (.int (if k then 1 else 0)) H):=by
 intro M s L H xs C Q I r h;rcases h with ⟨i,rfl,q⟩|⟨k,rfl,q⟩
 ·obtain⟨u,rfl,t,rfl⟩:=vals1 r;exact call_int_int ⟨.int i,H,I,⟨_,rfl⟩,q⟩
 ·obtain⟨u,rfl,w⟩:=vals1 r;cases w;exact call_int_bool ⟨.int (if k then 1 else 0),H,I.tok _,⟨_,rfl⟩,q⟩
def GJ(K:Waa)(x:V)(H:Hp)(n:Nat):Prop:=
 match x with
 |.str y=>y.length<=sizeLine/\n=y.length
 |.byt y=>y.size<=sizeLine/\n=y.size
 |.ref p=>(∃Y,SqL K H p Y/\n=Y.length)\/∃Y,SqT K H p Y/\n=Y.length
 |_=>False
theorem lC:CallR X (.builtin "len") (λxs H Q=>∃x n,xs=[x]/\GJ X.K x H n/\Q (.int n) H):=by
 intro M s U H xs k Q I r h;obtain⟨x,n,rfl,e,q⟩:=h;obtain⟨u,rfl,N⟩:=vals1 r;have j:=line63;have g:=sizeLine_eq;cases x with
 |str y=>obtain⟨t,rfl⟩:=N;obtain⟨J,L⟩:=e;subst L;exact len_str (by lia) ⟨.int _,H,I.tok _,⟨_,rfl⟩,q⟩
 |byt y=>obtain⟨t,rfl⟩:=N;obtain⟨J,L⟩:=e;subst L;exact PySem.W.len_bytes (by lia) ⟨.int _,H,I.tok _,⟨_,rfl⟩,q⟩
 |ref p=>
  cases N;have L:=e;rcases L with ⟨xs,C,L⟩|⟨xs,C,L⟩
  ·subst L;obtain⟨D,f,a,d⟩:=I.list C;have S:=f.length;exact Calls.call_len_list a.isList (by grind) ⟨.int xs.length,H,I.tok _,⟨_,by simp only[abo];rw[S]⟩,q⟩
  ·subst L;obtain⟨D,f,a,d⟩:=I.tuple C;have S:=f.length;exact len_tuple a (by grind) ⟨.int xs.length,H,I.tok _,⟨_,by simp only[abo];rw[S]⟩,q⟩
 |_=>trivial
end
section
structure ObjM (h:Heap)(x dx C:Addr)(mA:Str->Option Value):Prop where
 obj:h.get? x=some (PySem.W.instObj C dx)
 ns:h.Ns1 dx mA
 ne:dx≠x
theorem su{h:Heap}(n:h.Ns1 dx mA):∃Z,h.get? dx=some Z/\∀N,PySem.W.lookIn N Z=some (mA N):=by
 obtain⟨o,L,J,T,m,F,_,Y⟩:=n;refine⟨o,T,λN=>?_⟩;have e:=Y N;unfold nsFind findBy at e;rw[<-Array.find?_toList]at e;unfold PySem.W.lookIn;rw[m];dsimp only;split
 ·grind
 ·rename_i q;rw[q]at e;have a:L.toList.any (·.refKey)=false:=by rw[List.any_eq_false];intro y X;obtain⟨z,t,H⟩:=F y (Array.mem_toList_iff.mp X);simp[DictEntry.refKey,H]
  grind
theorem ObjM.look(I:ObjM h x dx C mA):∃Z,PySem.W.InstAt h x (PySem.W.instObj C dx) C (some Z)/\∀N,PySem.W.lookIn N Z=some (mA N):=
 let ⟨Z,T,j⟩:=su I.ns
 ⟨Z,⟨I.obj,rfl,rfl,T⟩,j⟩
section
variable{K:Waa}
theorem get_map{r:Bool}(X:K.In s.heap)(I:ObjM s.heap x dx C mA)(N:PySem.W.plainGet K C name=true)(L:PySem.W.hasDictIn K C=true)
  (i:PySem.W.findIn K (.ref C) name=some none) (o:mA name=some v) (P:PySem.W.handedIn v=true) (h:Q v { s with toks:=s.toks+1 }):
  wpAny (model prog w) A (getAttr (.ref x) name r) Q E s:=by
 obtain⟨Z,J,j⟩:=I.look;exact PySem.W.get_value X J (abC N).1 (PySem.W.findObj_own L i rfl (by rw[j,o])) P h
theorem uZ(X:K.In s.heap)(I:ObjM s.heap x dx C mA)(N:PySem.W.plainGet K C name=true)
  (y:PySem.W.findIn K (.ref C) name=some (some (.ref f))) (H:PySem.W.isFn K (.ref f)=true) (o:mA name=none) (h:Q (.ref f,[.ref x]) s):
  wpAny (model prog w) A (getMethod (.ref x) name pl) Q E s:=by
 obtain⟨Z,J,j⟩:=I.look;exact PySem.W.method_fn X J (abC N).1 (abC N).2 y (beq_iff_eq.mp H) (by show (PySem.W.lookIn name Z).map (·.isSome)=some false;rw[j,o];rfl) h
theorem yU(X:K.In s.heap)(I:ObjM s.heap x dx C mA)
  (g:PySem.W.findIn K (.ref C) "__setattr__"=some (some (.builtin "object.__setattr__"))) (m:PySem.W.plainOver K C=true) (c:PySem.W.takerIn K C name=some none) (L:PySem.W.hasDictIn K C=true)
  (o:PySem.Within mA ns) (f:ns.length<=sizeLine)
  (h:∀h',ObjM h' x dx C (λy=>if y=name then some v else mA y)->Heap.SameBut dx s.heap h'->Q () { s with heap:=h',toks:=s.toks+2 }):
  wpAny (model prog w) A (setAttr (.ref x) name v) Q E s:=by
 obtain⟨Z,J,j⟩:=I.look;refine PySem.W.set_plain X J g (PySem.W.osa_open X J m c λb=>?_);obtain⟨t,U,k⟩:=PySem.W.any_some L;have N:s.heap.get? x=some ⟨.ref C,some dx,.plain,#[]⟩:=I.obj;refine acs (acv (acs (acs (wpAny_loadPart N (acs (PySem.W.Looks.here (PySem.W.looks_clsIn X U) ?_))))));rw[k];refine acv (acs (acv (acs ?_)));refine wpAny_nsSet1 I.ns λh' i d=>?_;obtain⟨O,e,F,B,H,D⟩:=i.count (PySem.Within.cons name v o);refine acs (wpAny_lookBehind B (by rw[H];exact pastItsLine_dict (aan D (by grind))) ?_);exact acv (h _ ⟨(d.2 _ (aaG I.ne)).trans I.obj,i,I.ne⟩ d)
theorem u6(X:K.In s.heap)(Y:PySem.W.makesIn K C=true)
  (r:PySem.W.findIn K (.ref C) "__init__"=some (some (.ref f))) (y:PySem.W.typeIn K (.ref f)=some (.type "function"))
  (h:codeAny (model prog w) (A.under (.builtin "type.__call__" ⟨.ref C::vs,kw⟩)) (.call (.ref f) ⟨.ref (s.heap.objs.size+1)::vs,kw⟩) (PySem.W.InitBack (s.heap.objs.size+1) R)
   { s with heap:=(s.heap.push PySem.W.emptyDict).push (PySem.W.instObj C s.heap.objs.size) }):
  codeAny (model prog w) A (.call (.ref C) ⟨vs,kw⟩) R s:=by
 obtain⟨L,g,d,t,I⟩:=s;exact PySem.W.make_core (PySem.W.makes_of X Y) (PySem.W.looks_findIn X r) (λself=>PySem.W.bind_fn X self y) (.inl rfl) h
end
noncomputable def cj(f:Str)(v:V):List (Str×V)->List (Str×V)
 |[]=>[(f,v)]
 | (g,x)::r=>if g=f then (g,v)::r else (g,x)::cj f v r
theorem gw(f g:Str)(v:V):∀fs:List (Str×V),(cj f v fs).lookup g=if g=f then some v else fs.lookup g
 |[]=>by
  show List.lookup g [(f,v)]=_
  grind
 | (k,x)::r=>by
  have Y:=gw f g v r;rw[show cj f v ((k,x)::r)=(if k=f then (k,v)::r else (k,x)::cj f v r) from rfl]
  grind
theorem fU(f:Str)(v:V):∀fs:List (Str×V),f∈(cj f v fs).map (·.1)/\∀g,g∈fs.map (·.1)->g∈(cj f v fs).map (·.1)
 |[]=>⟨by simp[cj],λg h=>by grind⟩
 | (k,x)::r=>by
  obtain⟨i,L⟩:=fU f v r;rw[show cj f v ((k,x)::r)=(if k=f then (k,v)::r else (k,x)::cj f v r) from rfl]
  grind
theorem gx(f:Str)(v:V):∀fs:List (Str×V),(cj f v fs).length<=fs.length+1
 |[]=>by simp[cj]
 | (k,x)::r=>by
  have Y:=gx f v r;rw[show cj f v ((k,x)::r)=(if k=f then (k,v)::r else (k,x)::cj f v r) from rfl]
  grind
theorem RelO.some_of(r:RelO (some v) o):∃u,o=some u/\RelV v u:=by
 cases o with
 |none=>trivial
 |some u=>exact⟨u,rfl,r⟩
theorem RelO.none_of(r:RelO none o):o=none:=by
 cases o with
 |none=>rfl
 |some u=>trivial
theorem sv(r:RelV v u):PySem.W.handedIn u=true:=by
 cases v with
 |non=>cases (show u=Value.none from r);rfl
 |bl b=>cases (show u=Value.bool b from r);rfl
 |int i=>obtain⟨t,e⟩:=(show ∃t,u=Value.int i t from r);cases e;rfl
 |str x=>obtain⟨t,e⟩:=(show ∃t,u=Value.str x t from r);cases e;rfl
 |byt b=>obtain⟨t,e⟩:=(show ∃t,u=Value.bytes b t from r);cases e;rfl
 |flt b=>obtain⟨t,e⟩:=(show ∃t,u=Value.float b t from r);cases e;rfl
 |ref a=>cases (show u=Value.ref a from r);rfl
 |ty n=>cases (show u=Value.type n from r);rfl
theorem jR(k:HOk P w H h)(e:H a=some (.ins C dx fs)):∃M,ObjM h a dx C M/\(∀f,RelO (fs.lookup f) (M f))/\PySem.Within M (fs.map (·.1))/\fs.length<=1000/\H dx=some (.own a):=by
 obtain⟨d,z,A,g,M,n,r,q⟩:=(show ObjOk P w H h a (.ins C dx fs) from k a _ e)
 exact⟨M,⟨g,n,A⟩,r,q,z,d⟩
structure Cls (K:Waa)(C:Addr):Prop where
 pg:PySem.W.plainGet K C Str.empty=true
 hd:PySem.W.hasDictIn K C=true
 po:PySem.W.plainOver K C=true
 sa:PySem.W.findIn K (.ref C) "__setattr__"=some (some (.builtin "object.__setattr__"))
theorem Cls.get{K:Waa}{C:Addr}(c:Cls K C)(f:Str):PySem.W.plainGet K C f=true:=c.pg
def NoAttr(K:Waa)(C:Addr)(f:Str):Prop:=PySem.W.findIn K (.ref C) f=some none
theorem NoAttr.taker{K:Waa}(n:NoAttr K C f):PySem.W.takerIn K C f=some none:=by unfold PySem.W.takerIn;rw[show PySem.W.findIn K (.ref C) f=some none from n];rfl
structure Meth (K:Waa)(C:Addr)(m:Str)(f:Addr):Prop where
 at_:PySem.W.findIn K (.ref C) m=some (some (.ref f))
 fn:PySem.W.isFn K (.ref f)=true
 kp:PySem.W.keepIn K (.ref f)=true
theorem gX{b:Bool}{Q:Value->Shared->Prop}(I:Inv X pins σ H s)(e:H a=some (.ins C dx fs))(c:Cls X.K C)(n:NoAttr X.K C f)(l:fs.lookup f=some v)
  (h:∀u B,Inv X pins σ H B->RelV v u->Q u B):wpAny (model X.prog X.w) A (getAttr (.ref a) f b) Q E s:=by
 obtain⟨M,O,r,_,_,_⟩:=jR I.hok e;obtain⟨u,U,p⟩:=RelO.some_of (by rw[<-l];exact r f);exact get_map I.nc O (c.get f) c.hd n U (sv p) (h u _ (I.tok _) p)
theorem gY(I:Inv X pins σ H s)(e:H a=some (.ins C dx fs))(c:Cls X.K C)(k:Meth X.K C m g)(l:fs.lookup m=none)
  (h:Q (.ref g,[.ref a]) s):wpAny (model X.prog X.w) A (getMethod (.ref a) m pl) Q E s:=by
 obtain⟨M,O,r,_,_,_⟩:=jR I.hok e;have T:M m=none:=RelO.none_of (by rw[<-l];exact r m);exact uZ I.nc O (c.get m) k.at_ k.fn T h
theorem gZ{y:V}{u:Value}(I:Inv X pins σ H s)(e:H a=some (.ins C dx fs))(c:Cls X.K C)(n:NoAttr X.K C f)(j:fs.length<1000)(J:RelV y u)
  (h:∀B,Inv X pins σ (upd H a (.ins C dx (cj f y fs))) B->Q () B):wpAny (model X.prog X.w) A (setAttr (.ref a) f u) Q E s:=by
 obtain⟨M,O,r,Z,_,T⟩:=jR I.hok e;have d:(fs.map (·.1)).length<=sizeLine:=by rw[aae,sizeLine_eq];lia
 refine yU I.nc O c.sa c.po n.taker c.hd Z d λv D W=>h _ ?_;have m:∃o,v.get? dx=some o:=let ⟨o,_,_,L,_⟩:=D.ns;⟨o,L⟩
 refine I.write (by rw[e];trivial) (.inr T) (λb q S z=>(W.2 b S).trans z) m ?_;refine⟨by rw[upd_ne O.ne];lia,?_,O.ne,D.obj,_,D.ns,λg=>?_,λg N=>?_⟩
 ·have:=gx f y fs;lia
 ·show RelO ((cj f y fs).lookup g) (if g=f then some u else M g);rw[gw];by_cases q:g=f
  ·rw[if_pos q,if_pos q];exact J
  ·grind
 ·by_cases q:g=f
  ·rw[q];exact(fU f y fs).1
  ·refine(fU f y fs).2 g (Z g λz=>N ?_)
   grind
theorem Inv.made(I:Inv X pins σ H s):Inv X pins σ (upd (upd H s.heap.objs.size (.own (s.heap.objs.size+1))) (s.heap.objs.size+1) (.ins C s.heap.objs.size []))
  { s with heap:=(s.heap.push PySem.W.emptyDict).push (PySem.W.instObj C s.heap.objs.size) }:=by
 have J:(s.heap.push PySem.W.emptyDict).get? s.heap.objs.size=some PySem.W.emptyDict:=acx s.heap rfl;have B:((s.heap.push PySem.W.emptyDict).push (PySem.W.instObj C s.heap.objs.size)).get? (s.heap.objs.size+1)=some (PySem.W.instObj C s.heap.objs.size):=by have:=acx (s.heap.push PySem.W.emptyDict) (o:=PySem.W.instObj C s.heap.objs.size) rfl;simp_all
 have l:(s.heap.push PySem.W.emptyDict).Ns s.heap.objs.size (λ_=>none):=⟨PySem.W.emptyDict,#[],_,J,rfl,(λe n=>absurd n (by simp)),λ_=>rfl⟩
 have m:=I.laid (o:=.own (s.heap.objs.size+1)) (t':=s.toks) (λb u q=>acw _ q) (aac _) ⟨_,J⟩;refine m.laid (λb u q=>acw _ q) (abD (acK _ _)) ?_;have A:s.heap.objs.size≠s.heap.objs.size+1:=aao (aa8 _);refine⟨by rw[upd_ne A,aB],aaB _,A,B,λ_=>none,(Heap.Ns1.of_empty l).at λo q=>acw _ q,λ_=>True.intro,λy t=>absurd rfl t⟩
theorem attr_of{prog:Program}{w:World}(S:attributeBase e f env (eval e env)=eval e env)
  (h:wpAny (model prog w) A (eval e env) (λo C=>wpAny (model prog w) A (getAttr o f true) Q E C) E s):wpAny (model prog w) A (eval (.Attribute e f pos) env) Q E s:=
 Attribute_any_ h (by rw[arm_eval_Attribute,S])
def J3(K:Waa)(Z:TE)(f:Str):TE:=λL H Q=>Z L H λx P=>∃a C n F v,x=.ref a/\P a=some (.ins C n F)/\Cls K C/\NoAttr K C f/\F.lookup f=some v/\Q v P
def J4(K:Waa)(Z I:TE)(f:Str):TS:=λD L H=>I L H λy P=>Z L P λx j=>∃a C n F,x=.ref a/\j a=some (.ins C n F)/\Cls K C/\NoAttr K C f/\F.length<1000 /\
 D.nx L (upd j a (.ins C n (cj f y F)))
def yV(X:Cx)(U:Operator)(O:V->V->Hp->VK->Prop):Prop:=
 ∀(M:List (Addr×Obj)) (s:Shared) (L:St) (H:Hp) (x y:V) (u v:Value) (Q:VK),Inv X M L H s->RelV x u->RelV y v->O x y H Q->wpAny (model X.prog X.w) X.A (inplaceOp U u v) (EP X M L Q) X.xe s
def yW(K:Waa)(Z I:TE)(O:V->V->Hp->VK->Prop)(f:Str):TS:=λD L H=>Z L H λx P=>∃a C n F v,x=.ref a/\P a=some (.ins C n F)/\Cls K C/\NoAttr K C f/\F.lookup f=some v /\
 I L P λy j=>O v y j λz q=>∃Q g,q a=some (.ins C Q g)/\g.length<1000/\D.nx L (upd q a (.ins C Q (cj f z g)))
theorem Da(b:PE X e ta)(S:attributeBase e f X.env (eval e X.env)=eval e X.env):PE X (.Attribute e f pos) (J3 X.K ta f):=by
 intro M s L H Q I h;refine attr_of S (thn (b M s L H _ I h) λu z t=>?_);obtain⟨x,P,B,N,a,C,g,F,v,k,T,c,n,l,q⟩:=t;subst k;obtain rfl:u=Value.ref a:=N;exact gX B T c n l λo Z W p=>⟨v,P,W,p,q⟩
theorem Dc(i:PE X o ta)(U:PE X value tv)(g:swapsWith value (some (.Attribute o f pos')) pos.line X.env=pure false):PS X (.Assign [.Attribute o f pos'] value pos) (J4 X.K ta tv f):=by
 intro M s L H D I h;refine plainObj_wpAny_Assign_Attribute (thn (U M s L H _ I h) λu m ⟨y,P,B,J,q⟩=>thn (i M m L P _ B q) λY Z t=>?_) g;obtain⟨x,j,W,N,a,C,d,F,k,T,c,n,l,b⟩:=t;subst k;obtain rfl:Y=Value.ref a:=N;exact gZ W T c n l J λe z=>⟨L,_,z,b⟩
theorem sy{U:Operator}{O:V->V->Hp->VK->Prop}(i:PE X o ta)(hv:PE X value tv)(hop:yV X U O):PS X (.AugAssign (.Attribute o f tpos) U value pos) (yW X.K ta tv O f):=by
 intro M s L H D I h;refine wpAny_AugAssign_AttributeAny (thn (i M s L H _ I h) λY s1 t=>?_);obtain⟨x,P,B,N,a,C,dx,fs,v,k,T,c,n,l,q⟩:=t;subst k;obtain rfl:Y=Value.ref a:=N;refine gX B T c n l λu Z W p=>thn (hv M Z L P _ W q) λJ e ⟨y,j,m,ry,d⟩=>thn (hop M e L j v y u J _ m p ry d) λw s4 t=>?_;obtain⟨z,H3,A,b,Q,a0,S,r,g⟩:=t;exact gZ A S c n r b λs5 F=>⟨L,_,F,g⟩
def rAdd:V->V->Hp->VK->Prop:=λx y H Q=>∃i j,x=.int i/\y=.int j/\Q (.int (i+j)) H
def rSub:V->V->Hp->VK->Prop:=λx y H Q=>∃i j,x=.int i/\y=.int j/\Q (.int (i-j)) H
theorem De:yV X .Add rAdd:=by
 rintro M s L H x y u v Q I N J ⟨i,j,rfl,rfl,q⟩;obtain⟨t,rfl⟩:=(show ∃t,u=Value.int i t from N)
 obtain⟨F,rfl⟩:=(show ∃F,v=Value.int j F from J)
 exact PyProof.Rows.iadd_int ⟨.int (i+j),H,I.tok _,⟨_,rfl⟩,q⟩
theorem Dg:yV X .Sub rSub:=by
 rintro M s L H x y u v Q I N J ⟨i,j,rfl,rfl,q⟩;obtain⟨t,rfl⟩:=(show ∃t,u=Value.int i t from N)
 obtain⟨F,rfl⟩:=(show ∃F,v=Value.int j F from J)
 exact PyProof.Rows.isub_int ⟨.int (i-j),H,I.tok _,⟨_,rfl⟩,q⟩
end
section
structure Room (k:Nat)(A:Around):Prop where
 hd:A.handled=none
 dp:A.depth+3*k+5<recursionLimit
 un:A.units+16*k+200<cLine
 gd:A.guards=some []
theorem Room.mono(r:Room k A)(h:j<=k):Room j A:=⟨r.hd,by have:=r.dp;lia,by have:=r.un;lia,r.gd⟩
theorem Room.deeper(r:Room (k+1) A)(env:Env):Room k (A.deeper env):=
 ⟨r.hd,by have:=r.dp;show A.depth+1+3*k+5<_;lia,by have:=r.un;show A.units+3+16*k+200<_;lia,r.gd⟩
theorem Room.in1(r:Room (k+1) A):Room k A.in1:=
 ⟨r.hd,by have:=r.dp;show A.depth+3*k+5<_;omega,by have:=r.un;show A.units+1+16*k+200<_;omega,r.gd⟩
theorem nN{A:Around}:(A.under (.builtin "type.__call__" ⟨.ref C::us,kw⟩)).depth=A.depth+1:=by rfl
theorem nO{A:Around}:(A.under (.builtin "type.__call__" ⟨.ref C::us,kw⟩)).units=A.units+1:=by rfl
theorem Room.make(r:Room (k+1) A)(C:Addr)(us:List Value)(W:List (Str×Value)):Room k (A.under (.builtin "type.__call__" ⟨.ref C::us,W⟩)):=
 ⟨r.hd,by have:=r.dp;rw[nN];lia,by have:=r.un;rw[nO];lia,by first|exact r.gd|simp[Around.under,Code.isGuard,guardIds,r.gd]⟩
theorem Room.depth(r:Room k A):A.depth<recursionLimit:=by have:=r.dp;lia
theorem Room.units{A:Around}(r:Room k A):A.units+64<cLine:=by have:=r.un;lia
def tNil:TA:=λ_ H Q=>Q [] H
def GK(Z:TE)(r:TA):TA:=λL H Q=>Z L H λx P=>r L P λY j=>Q (x::Y) j
theorem ck:PA X [] tNil:=λ_ _ _ _ H Q I h=>Calls.spliced_nil ⟨[],H,I,.nil,h⟩
theorem aZ(i:PE X e te)(D:PA X es t)(g:starEach (e::es) X.env=(false,eval e X.env)::starEach es X.env:=by rfl):PA X (e::es) (GK te t):=by
 intro S M s L H Q I h;rw[g];refine Calls.spliced_cons (thn (i M s L H _ I h) λu f c=>?_);obtain⟨x,P,B,w,m⟩:=c;exact thn (D S M f L P _ B m) λC Z ⟨Y,j,W,p,b⟩=>⟨x::Y,j,W,.cons w p,b⟩
def J5(t:TA):TE:=λL H Q=>t L H λY P=>Y.length<=sizeLine/\∀p,P p=none->Q (.ref p) (upd P p (.tup Y))
def J6(t:TA):TE:=λL H Q=>t L H λY P=>Y.length<=sizeLine/\∀p,P p=none->Q (.ref p) (upd P p (.lst Y))
theorem nP{x}(h:PA X es t):PE X (.Tuple es x pos) (J5 t):=by intro M s L H Q I A;refine wpAny_Tuple_spliced (thn (h pos M s L H _ I A) λC f ⟨Y,P,B,r,z,q⟩=>⟨by rw[<-r.length];exact z,?_⟩);have y:=B.hok.fresh (aac _);refine⟨.ref f.heap.objs.size,upd P f.heap.objs.size (.tup Y),B.laid (t':=f.toks) (λb u e=>acw _ e) (aac _) ?_,rfl,q _ y⟩;exact⟨z,C,r,⟨_,acx _ rfl,rfl,_,rfl,rfl⟩⟩
theorem Dh(h:PA X es t):PE X (.List es pos) (J6 t):=by intro M s L H Q I A;refine wpAny_List_spliced (thn (h pos M s L H _ I A) λC f ⟨Y,P,B,r,z,q⟩=>⟨by rw[<-r.length];exact z,?_⟩);have y:=B.hok.fresh (aac _);refine⟨.ref f.heap.objs.size,upd P f.heap.objs.size (.lst Y),B.laid (t':=f.toks) (λb u e=>acw _ e) (aac _) ?_,rfl,q _ y⟩;exact⟨z,C,0,r,acx _ rfl⟩
abbrev Sp:=List V->Hp->VK->XK->Prop
abbrev CXT:=List Env->Hp->Shared->XK->Value->Shared->Prop
structure Env0 (P:Program)(w:World)(K:Waa)(mg:Str->Option Value)(base:Heap)(A:Around)(outer:List Env)(s:Shared)(H:Hp):Prop where
 frames:A.frames=some outer
 mod:Mod K mg base
 bs:∀b o,base.get? b=some o->s.heap.get? b=some o/\H b=none
 bsz:base.objs.size<=s.heap.objs.size
 funs:s.heap.FunFrames base outer
 frf:∀b∈uJ outer,H b=none
 hok:HOk P w H s.heap
 bare:AllBare s.gens
def CE(M:List Env)(P:Program)(w:World)(H:Hp)(s:Shared)(Q:VK)(u:Value)(B:Shared):Prop:=
 ∃v l,B.os=s.os/\AllBare B.gens/\Un (uJ M) [] H l s.heap B.heap/\HOk P w l B.heap/\RelV v u/\Q v l
def CR(CX:CXT)(M:List Env)(P:Program)(w:World)(H:Hp)(s:Shared)(Q:VK)(E:XK)(r:Result)(B:Shared):Prop:=
 match r with
 |.ok (.ret u)=>CE M P w H s Q u B
 |.ok _=>False
 |.error e=>CX M H s E e B
structure FnOk (P:Program)(w:World)(K:Waa)(mg:Str->Option Value)(base:Heap)(CX:CXT)(k:Nat)(f:Addr)(fd:FuncData)(ps:List Str)(sp:Sp):Prop where
 len:∀vs H Q E,sp vs H Q E->vs.length=ps.length
 run:∀(A:Around) (outer:List Env) (s:Shared) (H:Hp) (args:Args) (us:List Value) (vs:List V) (Q:VK) (E:XK),Room k A->Env0 P w K mg base A outer s H->BindsTo s fd args (ps.zip us)->Vals vs us->sp vs H Q E ->
  codeAny (model P w) A (.call (.ref f) args) (CR CX outer P w H s Q E) s
theorem FnOk.mono{K:Waa}(F:FnOk P w K mg base CX j f fd ps sp)(h:j<=k):
  FnOk P w K mg base CX k f fd ps sp:=⟨F.len,λA M s H b C c Q E D=>F.run A M s H b C c Q E (D.mono h)⟩
theorem FnOk.imp{K:Waa}(F:FnOk P w K mg base CX k f fd ps sp)
  (h:∀vs H Q E,sp' vs H Q E->sp vs H Q E):FnOk P w K mg base CX k f fd ps sp':=
 ⟨λvs H Q E q=>F.len vs H Q E (h _ _ _ _ q),λA M s H b C vs Q E D n S o g=>F.run A M s H b C vs Q E D n S o (h _ _ _ _ g)⟩
theorem Env0.make{K:Waa}(e:Env0 P w K mg base A outer s H)(C:Addr)(us:List Value)(W:List (Str×Value)):
  Env0 P w K mg base (A.under (.builtin "type.__call__" ⟨.ref C::us,W⟩)) outer s H:=⟨by first|exact e.frames|(simpa[Around.under,Code.envs,Code.isFrame,pushEnvs] using e.frames),e.mod,e.bs,e.bsz,e.funs,e.frf,e.hok,e.bare⟩
theorem Env0.in1{K:Waa}(e:Env0 P w K mg base A outer s H):
  Env0 P w K mg base A.in1 outer s H:=⟨e.frames,e.mod,e.bs,e.bsz,e.funs,e.frf,e.hok,e.bare⟩
theorem Inv.env0(I:Inv X pins σ H s):Env0 X.prog X.w X.K X.mg X.base X.A X.stack s H:=
 ⟨I.ok.frames,I.ok.mod,I.bs,aan I.ok.bsz I.sz,I.stack,I.rr,I.hok,I.bare⟩
theorem Inv.after(I:Inv X pins σ H s)(h:CE X.stack X.prog X.w H s Q u s'):EP X pins σ Q u s':=by obtain⟨v,l,C,e,U,k,r,q⟩:=h;obtain⟨L,g,d,t,O⟩:=s';obtain rfl:=C;exact⟨v,l,I.call U k e (λb z=>absurd z (by simp)),r,q⟩
def By(sp:Sp)(S:List V)(E:XK)(t:TA):TE:=λL H Q=>t L H λc P=>sp (c++S) P Q E
def u7(C:Addr)(m:Str)(sp:Sp)(S:List V)(E:XK)(Z:TE)(t:TA):TE:=λL H Q=>Z L H λx P=>∃a n F,x=.ref a/\P a=some (.ins C n F)/\F.lookup m=none /\
 t L P λc j=>sp (x::(c++S)) j Q E
def Bz(C:Addr)(sp:Sp)(S:List V)(E:XK)(t:TA):TE:=λL H Q=>t L H λc P=>∀x n,P x=none->P n=none->n≠x ->
 sp (.ref x::(c++S)) (upd (upd P n (.own x)) x (.ins C n [])) (λv j=>v=.non/\Q (.ref x) j) E
def Binds(K:Waa)(y:FuncData)(ps:List Str)(ds:List Value):Prop:=
 ∀(s:Shared) (C:List Value),K.In s.heap->(C++ds).length=ps.length->BindsTo s y ⟨C,[]⟩ (ps.zip (C++ds))
theorem Binds.all{K:Waa}{y:FuncData}{ps:List Str}(h:∀us:List Value,us.length=ps.length->bindArgs y ⟨us,[]⟩=pure (ps.zip us)):Binds K y ps []:=λs us _ j=>by rw[aap]at j ⊢;exact .of_eq (h us j)
def Passes(CX:CXT)(X:Cx)(E:XK):Prop:=∀(M:List (Addr×Obj)) (L:St) (H:Hp) (s:Shared) (e:Value) (B:Shared),Inv X M L H s->CX X.stack H s E e B->X.xe e B
theorem nQ(F:FnOk X.prog X.w X.K X.mg X.base CX k f fd ps sp)(D:Room k X.A)(S:Binds X.K fd ps ds)(W:Vals dvs ds)(C:Passes CX X E)
  (I:Inv X pins σ H s) (r:Vals vs us) (h:sp (vs++dvs) H Q E):wpAny (model X.prog X.w) X.A (call (.ref f) us) (EP X pins σ Q) X.xe s:=by
 have p:=r.append W;have j:(us++ds).length=ps.length:=by rw[<-p.length];exact F.len _ _ _ _ h
 refine wpAny_call (acP (F.run X.A X.stack s H ⟨us,[]⟩ (us++ds) (vs++dvs) Q E D I.env0 (S s us I.nc j) p h) λr B T=>?_);cases r with
 |error e=>exact C pins σ H s e B I T
 |ok c=>
  cases c with
  |ret u=>exact I.after T
  |next=>trivial
  |brk=>trivial
  |cont=>trivial
theorem qa(F:FnOk X.prog X.w X.K X.mg X.base CX k f fd ps sp)(D:Room k X.A)(N:Gl X x)(Y:X.mg x=some (.ref f))(T:PySem.W.keepIn X.K (.ref f)=true)(S:Binds X.K fd ps ds)(m:Vals dvs ds)(C:Passes CX X E)
  (i:PA X (e::es) t) (Z:(x==("__debug__":Str))=false:=by decide) (n:starEach (e::es) X.env=(false,eval e X.env)::starEach es X.env:=by rfl) (y:(backTo pos (starEach es X.env)).any (·.1)=false:=by rfl):
  PE X (.Call (.Name x p) (e::es) [] pos) (By sp dvs E t):=by
 intro M s L H Q I h;refine acQ (jO I N Y ?_ Z);refine abE (h₀:=X.base) I.ok.mod.kin T (thn (i pos M s L H _ I h) λo z ⟨c,P,B,r,q⟩=>⟨B.nc,?_⟩) n y;exact nQ F D S m C B r q
theorem yX{pl:Sem Bool}(n:PE X o ta)(c:Cls X.K C)(Y:Meth X.K C m f)(F:FnOk X.prog X.w X.K X.mg X.base CX k f fd ps sp)(D:Room k X.A)(S:Binds X.K fd ps ds)(U:Vals dvs ds)(d:Passes CX X E)(i:PA X (e::es) t)
  (p:starEach (e::es) X.env=(false,eval e X.env)::starEach es X.env:=by rfl) (y:(backTo pos (starEach es X.env)).any (·.1)=false:=by rfl)
  (O:eval (.Call (.Attribute o m apos) (e::es) [] pos) X.env=(do
   let ov <-eval o X.env
   standAt apos.atName
   let (f,first) <-holding [ov] (getMethod ov m pl)
   callWith pos f first (backTo pos (starEach (e::es) X.env)) (backToKw pos (keywordEach [] X.env))):=by rfl):
  PE X (.Call (.Attribute o m apos) (e::es) [] pos) (u7 C m sp dvs E ta t):=by
 intro M s L H Q I h;refine ab7 (pl:=pl) (thn (n M s L H _ I h) λu z g=>?_) O;obtain⟨x,P,B,N,a,dx,fs,v,T,l,q⟩:=g;subst v;obtain rfl:u=Value.ref a:=N;refine gY B T c Y l ?_;refine abE (first:=[.ref a]) I.ok.mod.kin Y.kp (thn (i pos M z L P _ B q) λJ Z ⟨vs,j,W,r,b⟩=>⟨W.nc,?_⟩) p y;exact nQ (vs:=.ref a::vs) F D S U d W (.cons rfl r) b
theorem u9{pl:Sem Bool}(n:PE X o ta)(c:Cls X.K C)(Y:Meth X.K C m f)(F:FnOk X.prog X.w X.K X.mg X.base CX k f fd ps sp)(D:Room k X.A)(S:Binds X.K fd ps ds)(j:Vals dvs ds)(d:Passes CX X E)
  (Z:eval (.Call (.Attribute o m apos) [] [] pos) X.env=(do
   let ov <-eval o X.env
   standAt apos.atName
   let (f,first) <-holding [ov] (getMethod ov m pl)
   callWith pos f first (backTo pos (starEach [] X.env)) (backToKw pos (keywordEach [] X.env))):=by rfl):
  PE X (.Call (.Attribute o m apos) [] [] pos) (u7 C m sp dvs E ta tNil):=by
 intro M s L H Q I h;refine ab7 (pl:=pl) (thn (n M s L H _ I h) λu z t=>?_) Z;obtain⟨x,P,B,N,a,g,U,b,T,l,q⟩:=t;subst b;obtain rfl:u=Value.ref a:=N;refine gY B T c Y l ?_;exact PySem.W.callWith_K0 B.nc Y.kp (nQ (vs:=[.ref a]) F D S j d B (.cons rfl .nil) q)
structure Mk (K:Waa)(C f:Addr):Prop where
 makes:PySem.W.makesIn K C=true
 init:PySem.W.findIn K (.ref C) "__init__"=some (some (.ref f))
 fn:PySem.W.isFn K (.ref f)=true
 kp:PySem.W.keepIn K (.ref C)=true
theorem vc{Y:List (Addr×Obj)}{σ:St}(M:Mk X.K C f)(F:FnOk X.prog X.w X.K X.mg X.base CX k f fd ps sp)(D:Room (k+1) X.A)(S:Binds X.K fd ps ds)(m:Vals dvs ds)
  (t:Passes CX X E) (I:Inv X Y σ H s) (r:Vals vs us)
  (h:∀x dx,H x=none->H dx=none->dx≠x->sp (.ref x::(vs++dvs)) (upd (upd H dx (.own x)) x (.ins C dx [])) (λv N=>v=.non/\Q (.ref x) N) E):
  wpAny (model X.prog X.w) X.A (call (.ref C) us) (EP X Y σ Q) X.xe s:=by
 have T:=h (s.heap.objs.size+1) s.heap.objs.size (I.hok.fresh (aa9 _)) (I.hok.fresh (aac _)) (aao (aa8 _));have W:=Inv.made (C:=C) I;have p:Vals (V.ref (s.heap.objs.size+1)::(vs++dvs)) (Value.ref (s.heap.objs.size+1)::(us++ds)):=.cons rfl (r.append m);have j:(Value.ref (s.heap.objs.size+1)::us++ds).length=ps.length:=by
  have e:=p.length;rw[F.len _ _ _ _ T]at e
  grind
 refine wpAny_call (u6 I.nc M.makes M.init (beq_iff_eq.mp M.fn) (acP (F.run _ X.stack _ _ ⟨Value.ref (s.heap.objs.size+1)::us,[]⟩ (Value.ref (s.heap.objs.size+1)::(us++ds)) _ _ E (D.make C us [])
  (W.env0.make C us []) (S _ (Value.ref (s.heap.objs.size+1)::us) W.nc j) p T) λr B J=>?_))
 cases r with
 |error e=>exact t Y σ _ _ e B W J
 |ok c=>
  cases c with
  |ret u=>obtain⟨v,l,z,O,a,d⟩:=W.after J;subst a;exact⟨O,⟨V.ref (s.heap.objs.size+1),l,z,rfl,d⟩⟩
  |next=>trivial
  |brk=>trivial
  |cont=>trivial
theorem yY(M:Mk X.K C f)(F:FnOk X.prog X.w X.K X.mg X.base CX k f fd ps sp)(D:Room (k+1) X.A)(N:Gl X x)(Y:X.mg x=some (.ref C))(S:Binds X.K fd ps ds)(W:Vals dvs ds)(j:Passes CX X E)
  (i:PA X (e::es) t) (Z:(x==("__debug__":Str))=false:=by decide) (n:starEach (e::es) X.env=(false,eval e X.env)::starEach es X.env:=by rfl) (y:(backTo pos (starEach es X.env)).any (·.1)=false:=by rfl):
  PE X (.Call (.Name x p) (e::es) [] pos) (Bz C sp dvs E t):=by
 intro T s L H Q I h;refine acQ (jO I N Y ?_ Z);refine abE (h₀:=X.base) I.ok.mod.kin M.kp (thn (i pos T s L H _ I h) λo z ⟨c,P,B,r,q⟩=>⟨B.nc,?_⟩) n y;exact vc M F D S W j B r q
structure FnScope (N P:List Str)(sc:Scope):Prop where
 kind:sc.kind=.function
 co:sc.isCoroutine=false
 gen:sc.isGenerator=false
 nd:N.Nodup
 pre:N.take P.length=P
 par:∀x∈P,sc.names.lookup x=some .local\/sc.names.lookup x=some .cell
 nofree:∀y∈sc.names,y.2≠.free
theorem jt{F:Str->Option NameKind}:∀{S:List (Str×Value)}{m:Str->Option Value},(∀v,(x,v) ∉ S)->bindL F S m x=m x
 |[],_,_=>rfl
 | (n,v)::r,m,h=>by
  unfold bindL;rw[jt λw Q=>h w (aaf _ Q)];split
  ·grind
  ·rfl
theorem ju{F:Str->Option NameKind}:∀{S:List (Str×Value)}{m:Str->Option Value},(∀v,(x,v) ∉ S)->bindC F S m x=m x
 |[],_,_=>rfl
 | (n,v)::r,m,h=>by
  unfold bindC;rw[ju λw Q=>h w (aaf _ Q)];split
  ·rfl
  ·grind
theorem jv{F:Str->Option NameKind}:∀{P:List Str}{vs:List Value}{i:Nat}{m:Str->Option Value},P.Nodup->P[i]?=some x->vs[i]?=some v->F x=some .local ->
  bindL F (P.zip vs) m x=some v
 |[],_,_,_,_,h,_,_=>by simp at h
 |_::_,[],_,_,_,_,h,_=>by simp at h
 |p::P,w::vs,0,m,nd,h1,h2,hk=>by simp at h1 h2;subst h1;subst h2;show bindL F ((p,w)::P.zip vs) m p=_;unfold bindL;rw[jt λv o=>(aat.mp nd).1 (aaN o).1,if_pos hk];simp
 |p::P,w::vs,i+1,m,nd,h1,h2,hk=>by show bindL F ((p,w)::P.zip vs) m x=_;unfold bindL;exact jv (i:=i) (aat.mp nd).2 (by simpa using h1) (by simpa using h2) hk
theorem jw{F:Str->Option NameKind}:∀{P:List Str}{vs:List Value}{i:Nat}{m:Str->Option Value},P.Nodup->P[i]?=some x->vs[i]?=some v->F x≠some .local ->
  bindC F (P.zip vs) m x=some v
 |[],_,_,_,_,h,_,_=>by grind
 |_::_,[],_,_,_,_,h,_=>by grind
 |p::P,w::vs,0,m,nd,h1,h2,hk=>by simp at h1 h2;subst h1;subst h2;show bindC F ((p,w)::P.zip vs) m p=_;unfold bindC;rw[ju λv o=>(aat.mp nd).1 (aaN o).1,if_neg hk];simp
 |p::P,w::vs,i+1,m,nd,h1,h2,hk=>by unfold bindC;exact jw (i:=i) (aat.mp nd).2 (by grind) (by grind) hk
def start(N:List Str)(vs:List V):St:=vs.map some++List.replicate (N.length-vs.length) none
noncomputable def jS(CX:CXT)(P:Program)(w:World)(K:Waa)(mg:Str->Option Value)(base:Heap)(N:List Str)(C:Str)(S:Scope)(f:Addr)(t:Value)(A:Around)(outer:List Env)(s:Shared)(H:Hp)(E:XK):Cx where
 prog:=P
 w:=w
 K:=K
 mg:=mg
 base:=base
 A:=A.deeper (envOfC C S s.heap.objs.size f t)
 N:=N
 s₀:=s
 H₀:=H
 env:=envOfC C S s.heap.objs.size f t
 outer:=outer
 stack:=envOfC C S s.heap.objs.size f t::outer
 ex:=[]
 calm:=true
 fn:=λ_=>true
 pn:=[]
 xe:=λe B=>wpAny (model P w) (A.deeper (envOfC C S s.heap.objs.size f t)) (leaving (envOfC C S s.heap.objs.size f t) e) (λ_ D=>CX outer H s E e D) (λL D=>CX outer H s E L D) B
theorem lD{sc:Scope}(h:sc.names.lookup x=some .cell):∃c,(cellsFrom n sc.names []).lookup x=some c:=by have q:=ab8 sc.names n [] (.inl h);exact aa1.mp q
theorem sA{K:Waa}
  (S:FnScope N ps scope) (W:A.handled=none) (X:Env0 P w K mg base A outer s H) (j:vs.length=ps.length) (r:Vals vs us)
  (x:InCallC s s.heap.objs.size (bindL (envOfC qual scope s.heap.objs.size f cd).kindOf (ps.zip us) λ_=>none) (cellsFrom (s.heap.objs.size+1) scope.names []) (bindC (envOfC qual scope s.heap.objs.size f cd).kindOf (ps.zip us) λ_=>none) s1):
  Inv (jS CX P w K mg base N qual scope f cd A outer s H E) [] (start N vs) H s1:=by
 have d:ps.length<=N.length:=by have:=congrArg List.length S.pre;grind
 obtain⟨O,Y,rfl,F⟩:=x.done;have a:∀b:Addr,b ∉ (jS CX P w K mg base N qual scope f cd A outer s H E).ex:=λb z=>absurd (show b∈([]:List Addr) from z) (by simp);refine⟨⟨X.mod,S.kind,rfl,rfl,aac _,λy z c O Z=>?_,λy t=>?_,λy c _ h=>?_,λ_=>W,Around.frames_deeper X.frames,.inr ⟨rfl,rfl⟩,λb z=>absurd z (a b),X.bs,X.bsz,λb _ _=>a b,λb z=>absurd z (a b),X.funs,X.frf⟩,
  rfl,X.bare,Un.kept F,⟨_,x.toInCall.ns,λi y v O Z M=>?_⟩,λy c h=>⟨_,x.cell y c h⟩,X.hok.fresh (aac _),λy c h=>?_,λp m=>absurd (show p∈([]:List (Addr×Obj)) from m) (by simp),X.hok.kept F,?_⟩
 ·exact name_of_addr x.apart (aa2 O) (aa2 Z)
 ·have t:=t;rcases t with t|t
  ·exact lD t
  ·exact absurd rfl (S.nofree _ (aa2 t))
 ·exact aaL (x.above y c (aa2 h))
 ·have l:i<vs.length:=by
   unfold start at Z
   grind
  have T:vs[i]?=some v:=by
   unfold start at Z
   grind
  obtain⟨u,U,g⟩:=r.get T;have m:ps[i]?=some y:=by rw[<-S.pre,List.getElem?_take_of_lt (by lia)];exact O
  have n:ps.Nodup:=by rw[<-S.pre];exact S.nd.sublist (List.take_sublist _ _)
  refine⟨u,g,?_⟩;rcases S.par y (aax m) with k|k
  ·exact .inl ⟨k,jv n m U k⟩
  ·obtain⟨c,e⟩:=lD k;refine .inr ⟨.inl k,c,e,?_⟩;have q:=x.cell y c e;rw[jw n m U (by show scope.names.lookup y≠_;grind)]at q;exact q
 ·exact X.hok.fresh (aaL (x.above y c (aa2 h)))
 ·unfold start;show _=N.length
  grind
theorem GL{K:Waa}{F d a1 z U T p:Value}{i Z:Option Addr}
  {a2:Array (Option Value)}{N ps:List Str}{sp:Sp} (Y:K.lookup f=some ⟨p,Z,.func (PySem.W.fnOf name qual params body scope F d a1 z i U T),a2⟩) (L:PySem.W.codeIn K U qual=true) (S:FnScope N ps scope)
  (len:∀vs H Q E,sp vs H Q E->vs.length=ps.length)
  (h:∀(A:Around) (M:List Env) (s:Shared) (H:Hp) (vs:List V) (Q:VK) (E:XK),Room k (A.deeper (envOfC qual scope s.heap.objs.size f U))->sp vs H Q E ->
   ∃t,PSs (jS CX P w K mg base N qual scope f U A M s H E) body t/\t { nx:=λ_ l=>Q .non l,rt:=Q } (start N vs) H):
  FnOk P w K mg base CX (k+1) f (PySem.W.fnOf name qual params body scope F d a1 z i U T) ps sp:=by
 refine⟨len,λA M s H a4 C vs Q E D X hb r c=>?_⟩;have j:=len _ _ _ _ c;have KX:K.In s.heap:=X.mod.kin.keeps λb o e=>(X.bs b o e).1;have a3:s.heap.NoLimit:=X.mod.nolimit.keeps λb o e=>(X.bs b o e).1;have a0:∀y∈ps.zip C,scope.names.lookup y.1=some .local\/(scope.names.lookup y.1=some .cell/\((cellsFrom (s.heap.objs.size+1) scope.names []).lookup y.1).isSome=true):=λ⟨n,v⟩ hy=>by
  rcases S.par n (aaN hy).1 with q|q
  ·exact .inl q
  ·exact .inr ⟨q,ab8 _ _ _ (.inl q)⟩
 refine codeAny_call_function D.depth (KX _ _ Y) rfl S.co S.gen rfl (PySem.W.codeRec_of KX L) (hb _ _ _ _ ?_);refine wpAny_newFunctionEnv_cells S.kind a0 λa5 he s1 x=>?_;subst he;refine⟨a3.keeps x.toInCall.keep,codeAny_func ?_⟩;obtain⟨t,ht,hq⟩:=h A M s H vs Q E (D.deeper _) c;have I:Inv (jS CX P w K mg base N qual scope f U A M s H E) [] (start N vs) H s1:=sA S D.hd X j r x;refine acy (ht [] s1 (start N vs) H _ I hq) (λfl B g=>?_) λe B g=>g;have m:∀{a:St}{l:Hp}{v:V}{u:Value},Inv (jS CX P w K mg base N qual scope f U A M s H E) [] a l B->RelV v u->Q v l->CE M P w H s Q u B:=
  λ{a l v u} J O q=>⟨v,l,J.os,J.bare,J.base,J.hok,O,q⟩
 cases fl with
 |ret u=>obtain⟨v,a,l,J,O,q⟩:=g;exact m J O q
 |next=>obtain⟨a,l,J,q⟩:=g;exact m (v:=V.non) (u:=Value.none) J rfl q
 |brk=>obtain⟨_,_,_,q⟩:=g;exact False.elim q
 |cont=>obtain⟨_,_,_,q⟩:=g;exact False.elim q
end
section
section
variable{id T:String}
def J7(r:List V->Hp->VK->Prop)(t:TA):TE:=λL H Q=>t L H λc P=>r c P Q
theorem dO(U:CallR X (.builtin id) r) (N:Gl X x) (Y:X.mg x=none) (o:bootBuiltins x=some (.builtin id)) (i:PA X (e::es) t) (l:x≠"__name__":=by decide) (Z:(x==("__debug__":Str))=false:=by decide)
  (n:starEach (e::es) X.env=(false,eval e X.env)::starEach es X.env:=by rfl) (y:(backTo pos (starEach es X.env)).any (·.1)=false:=by rfl):PE X (.Call (.Name x p) (e::es) [] pos) (J7 r t):=by
 intro M s L H Q I h;refine acQ (fe I N Y o ?_ l Z);exact PyProof.Rows.callWith_builtin1 (thn (i pos M s L H _ I h) λC f ⟨c,P,B,w,m⟩=>U M f L P c C Q B w m) n y
theorem fV(U:CallR X (.type T) r) (N:Gl X x) (Y:X.mg x=none) (o:bootBuiltins x=some (.type T)) (i:PA X (e::es) t) (l:x≠"__name__":=by decide) (Z:(x==("__debug__":Str))=false:=by decide)
  (n:starEach (e::es) X.env=(false,eval e X.env)::starEach es X.env:=by rfl) (y:(backTo pos (starEach es X.env)).any (·.1)=false:=by rfl):PE X (.Call (.Name x p) (e::es) [] pos) (J7 r t):=by
 intro M s L H Q I h;refine acQ (fe I N Y o ?_ l Z);exact abf (thn (i pos M s L H _ I h) λC f ⟨c,P,B,w,m⟩=>U M f L P c C Q B w m) n y
end
end
end L2
namespace HT
open PySem PyProof.Rows
end HT
namespace L2
open PySem PySem.Spec PyProof.Rows
section
abbrev TO:=St->Hp->(Option Int->Hp->Prop)->Prop
section
variable{lo hi:Option Expr}
def SlR(X:Cx)(r:V->Option Int->Option Int->Hp->VK->Prop):Prop:=
 ∀(M:List (Addr×Obj)) (s:Shared) (L:St) (H:Hp) (x:V) (v l U:Value) (lo hi:Option Int) (Z:Addr) (Q:VK),Inv X M L H s->RelV x v->s.heap.IsSliceOf Z l U .none->IsPart l lo->IsPart U hi->r x lo hi H Q ->
  ∃T d,typeLookup (.type T) "__getitem__"=pure (some (.builtin d))/\s.TypeIs v T/\wpAny (model X.prog X.w) X.A (getItem v (.ref Z)) (EP X M L Q) X.xe s
theorem SlR.or(h:SlR X r)(h':SlR X r'):SlR X (λx lo hi H Q=>r x lo hi H Q\/r' x lo hi H Q):=by
 intro M s L H x v l U lo hi Z Q I N g a u q;rcases q with q|q
 ·exact h M s L H x v l U lo hi Z Q I N g a u q
 ·exact h' M s L H x v l U lo hi Z Q I N g a u q
end
end
section
noncomputable def ixN(n:Nat)(i:Int):Option Nat:=if 0<=i then (if i<n then some i.toNat else none) else if -(n:Int)<=i then some (i+n).toNat else none
def atI{Y:Type}(xs:List Y)(i:Int):Option Y:=(ixN xs.length i).bind λj=>xs[j]?
theorem ixN_seq(h:ixN n i=some j):seqIndex? i n=some j/\j<n/\-(n:Int)<=i/\i<n:=by
 unfold ixN at h;by_cases T:0<=i
 ·rw[if_pos T]at h;by_cases O:i<n
  ·rw[if_pos O]at h;have e:=aa0 h;exact⟨by rw[seqIndex_of T O,e],by lia,by lia,O⟩
  ·grind
 ·rw[if_neg T]at h;by_cases O:-(n)<=i
  ·rw[if_pos O]at h;have e:=aa0 h;exact⟨by rw[seqIndex_neg (by lia) O,e],by lia,O,by lia⟩
  ·grind
theorem atI_get{Y:Type}{xs:List Y}{i:Int}{v:Y}(h:atI xs i=some v):∃j,seqIndex? i xs.length=some j/\xs[j]?=some v/\j<xs.length/\-(xs.length:Int)<=i/\i<xs.length:=by
 unfold atI at h;cases e:ixN xs.length i with
 |none=>rw[e]at h;cases h
 |some j=>rw[e]at h;obtain⟨O,Z,M,P⟩:=ixN_seq e;exact⟨j,O,h,Z,M,P⟩
theorem atI_last{Y:Type}(xs:List Y)(v:Y):atI (xs++[v]) (-1)=some v:=by
 have j:(xs++[v]).length=xs.length+1:=by simp
 have e:ixN (xs++[v]).length (-1)=some xs.length:=by unfold ixN;rw[j,if_neg (by decide),if_pos (by omega)];congr 1;omega
 unfold atI;rw[e];show (xs++[v])[xs.length]?=some v;simp
def PlainIx(b:Expr):Prop:=∀o i,subscripted b false o i=operate [o,i] (getItem o i)
def IxR(X:Cx)(r:R2):Prop:=
 ∀(C e:Expr) (M:List (Addr×Obj)) (s:Shared) (L:St) (H:Hp) (x y:V) (v u:Value) (Q:VK),Inv X M L H s->RelV x v->RelV y u->r x y H Q ->
  subscripted e false v u=operate [v,u] (getItem v u)->wpAny (model X.prog X.w) X.A (subscriptTail C e v u) (EP X M L Q) X.xe s
def MtR(X:Cx)(id:String)(r:V->List V->Hp->VK->Prop):Prop:=
 ∀(M:List (Addr×Obj)) (s:Shared) (L:St) (H:Hp) (x:V) (Y:List V) (v:Value) (C:List Value) (Q:VK),Inv X M L H s->RelV x v->Vals Y C->r x Y H Q ->
  wpAny (model X.prog X.w) X.A (call (.builtin id) (v::C)) (EP X M L Q) X.xe s
section
theorem IxR.or(h:IxR X r)(h':IxR X r'):IxR X (λx y H Q=>r x y H Q\/r' x y H Q):=by
 intro C e M s L H x y v u Q I N J q g;rcases q with q|q
 ·exact h C e M s L H x y v u Q I N J q g
 ·exact h' C e M s L H x y v u Q I N J q g
theorem MtR.or{d:String}(h:MtR X d r)(h':MtR X d r'):MtR X d (λx xs H Q=>r x xs H Q\/r' x xs H Q):=by
 intro M s L H x xs v C Q I N U q;rcases q with q|q
 ·exact h M s L H x xs v C Q I N U q
 ·exact h' M s L H x xs v C Q I N U q
theorem vd(D:IxR X r)(i:PE X a ta)(S:PE X b tb)(g:PlainIx b):PE X (.Subscript a b pos) (CZ r ta tb):=by intro M s L H Q I h;exact Subscript_ (C0 i S I h λv u Z x y j W N J q=>D a b M Z L j x y v u Q W N J q (g _ _))
def GM(K:Waa):R2:=λx y H Q=>∃p Y i v,x=.ref p/\y=.int i/\SqL K H p Y/\atI Y i=some v/\Q v H
def GN(K:Waa):R2:=λx y H Q=>∃p Y i v,x=.ref p/\y=.int i/\SqT K H p Y/\atI Y i=some v/\Q v H
def rIxS:R2:=λx y H Q=>∃z i c,x=.str z/\y=.int i/\z.length<=sizeLine/\atI z.cps.toList i=some c/\Q (.str ⟨#[c]⟩) H
theorem ix_list:IxR X (GM X.K):=by
 intro C e M s L H x y v u Q I N J h g;obtain⟨p,Y,i,z,rfl,rfl,A,n,q⟩:=h;cases N;obtain⟨t,rfl⟩:=J;obtain⟨D,r,a,d⟩:=I.list A;obtain⟨j,O,Z,U,P,f⟩:=atI_get n;obtain⟨w,F,o⟩:=r.get Z;have c:=r.length;have l:=line63;have m:EP X M L Q w s:=⟨z,H,I,o,q⟩
 by_cases T:0<=i
 ·have W:i.toNat=j:=by
   rw[seqIndex_of T f]at O
   grind
  exact item_listR a.isList T (by lia) (by grind) m g
 ·have W:(i+(D.toArray.size)).toNat=j:=by
   rw[seqIndex_neg (by lia) P]at O
   grind
  exact subscriptTail_builtinR (x:=w) a.isList.typeIs slot_list_getitem.lookup
   (wpAny_getItem_list_neg (Q:=λr B=>r=w/\EP X M L Q r B) a.isList (by lia) (by grind) (by lia) (by grind) ⟨rfl,m⟩) g
theorem ix_tup:IxR X (GN X.K):=by
 intro C e M s L H x y v u Q I N J h g;obtain⟨p,Y,i,z,rfl,rfl,A,n,q⟩:=h;cases N;obtain⟨t,rfl⟩:=J;obtain⟨D,r,a,d⟩:=I.tuple A;obtain⟨j,O,Z,T,P,f⟩:=atI_get n;obtain⟨w,F,o⟩:=r.get Z;have c:=r.length;have l:=line63;have m:EP X M L Q w s:=⟨z,H,I,o,q⟩
 exact subscriptTail_builtinR (x:=w) a.typeIs slot_tuple_getitem.lookup
  (getItem_tuple (j:=j) (Q:=λr B=>r=w/\EP X M L Q r B) a (by lia) (by lia) (by grind) (by grind) ⟨rfl,m⟩) g
theorem Di:IxR X rIxS:=by
 intro C e M s L H x y v u Q I N J h g;obtain⟨z,i,c,rfl,rfl,d,n,q⟩:=h;obtain⟨t,rfl⟩:=N;obtain⟨F,rfl⟩:=J;obtain⟨j,O,Z,T,P,f⟩:=atI_get n;have A:z.cps.toList.length=z.length:=by rfl
 rw[A]at O P f;have l:=line63;exact tail_any (typeIs_str s z t) slot_str_getitem.lookup (getItem_str (c:=c) (by
  grind) (by grind) ⟨.str ⟨#[c]⟩,H,I.tok _,⟨_,rfl⟩,q⟩) g
def LJ(K:Waa):R2:=λx y H Q=>GM K x y H Q\/GN K x y H Q\/rIxS x y H Q
theorem nS:IxR X (LJ X.K):=ix_list.or (ix_tup.or Di)
theorem nU(D:List Value)(n j:Nat)(u:Value):Obj.mapSeq (·.setIfInBounds j u) { cls:=.type "list",data:=.seq D.toArray n }={ cls:=.type "list",data:=.seq (D.set j u).toArray n }:=by simp[Obj.mapSeq]
theorem Inv.lst{M:List (Addr×Obj)}{σ:St}(I:Inv X M σ H s)(h:H p=some (.lst xs)):
  ∃(D:List Value) (n:Nat),Vals xs D/\s.heap.get? p=some { cls:=.type "list",data:=.seq D.toArray n }/\xs.length<=sizeLine:=by
 obtain⟨z,D,n,r,e⟩:=I.hok p _ h;exact⟨D,n,r,e,z⟩
theorem Inv.lstUpd{xs ys:List V}{D B:List Value}{n C:Nat}{f:Obj->Obj}(I:Inv X pins σ H s)(h:H p=some (.lst xs))
  (T:s.heap.get? p=some { cls:=.type "list",data:=.seq D.toArray n }) (y:f { cls:=.type "list",data:=.seq D.toArray n }={ cls:=.type "list",data:=.seq B.toArray C }) (r:Vals ys B) (d:ys.length<=sizeLine) (t:Nat):
  Inv X pins σ (upd H p (.lst ys)) { s with heap:=s.heap.update p f,toks:=t }:=by
 have e:(s.heap.update p f).get? p=some { cls:=.type "list",data:=.seq B.toArray C }:=by rw[Heap.get?_update_self f T (by rw[y]<;>rfl),y]
 refine I.write (by rw[h];trivial) (.inl rfl) (λb u S q=>(Heap.get?_update_other _ _ (aaG S)).trans q) ⟨_,e⟩ ?_;exact⟨d,B,C,r,e⟩
def rSetL:V->V->V->Hp->(Hp->Prop)->Prop:=λo i v H Q=>∃p Y k j,o=.ref p/\i=.int k/\H p=some (.lst Y)/\ixN Y.length k=some j/\Q (upd H p (.lst (Y.set j v)))
theorem set_list:PSet X rSetL:=by
 intro M s L H o i v C S u Q I A B f h;obtain⟨p,Y,k,j,rfl,rfl,m,c,q⟩:=h;cases A;obtain⟨t,rfl⟩:=B;obtain⟨D,n,r,T,d⟩:=I.lst m;obtain⟨O,Z,U,P⟩:=ixN_seq c;have y:=r.length;have l:=line63;have J:=
  I.lstUpd m T (nU D n j u) (r.set f j) (by grind) s.toks
 by_cases N:0<=k
 ·have F:k.toNat=j:=by
   rw[seqIndex_of N P]at O
   grind
  exact PySem.W.ki_setAt T N (by lia) (by grind) (by grind)
 ·have F:(k+(D.toArray.size)).toNat=j:=by
   rw[seqIndex_neg (by lia) U]at O
   grind
  exact PySem.W.ki_setBack T (by lia) (by grind) (by lia) (by grind)
def cF:V->Bool
 |.non=>true
 |.bl _=>true
 |.int _=>true
 |.str _=>true
 |_=>false
noncomputable def eqV:V->V->Bool
 |.non,.non=>true
 |.bl a,.bl b=>a==b
 |.bl a,.int b=>(if a then 1 else 0)==b
 |.int a,.bl b=>a==(if b then 1 else 0)
 |.int a,.int b=>a==b
 |.str a,.str b=>a==b
 |_,_=>false
theorem Dj(J:RelV y u)(N:RelV x v)(Y:cF y=true)(fx:cF x=true):SeqAt.EqAt A s u v (eqV y x):=by
 cases y with
 |non=>
  cases J;cases x with
  |non=>cases N;exact SeqAt.EqAt.same _
  |bl b=>cases N;exact SeqAt.EqAt.none_bool b
  |int b=>obtain⟨t,rfl⟩:=N;exact SeqAt.EqAt.none_int b t
  |str b=>obtain⟨t,rfl⟩:=N;exact SeqAt.EqAt.none_str b t
  |_=>trivial
 |bl a=>
  cases J;cases x with
  |non=>cases N;exact SeqAt.EqAt.bool_none a
  |bl b=>cases N;exact SeqAt.EqAt.bool_bool a b
  |int b=>obtain⟨t,rfl⟩:=N;exact SeqAt.EqAt.bool_int a b t
  |str b=>obtain⟨t,rfl⟩:=N;exact SeqAt.EqAt.bool_str a b t
  |_=>trivial
 |int a=>
  obtain⟨F,rfl⟩:=J;cases x with
  |non=>cases N;exact SeqAt.EqAt.int_none a F
  |bl b=>cases N;exact SeqAt.EqAt.int_bool a F b
  |int b=>obtain⟨t,rfl⟩:=N;exact SeqAt.EqAt.int_int a F b t
  |str b=>obtain⟨t,rfl⟩:=N;exact SeqAt.EqAt.int_str a F b t
  |_=>trivial
 |str a=>
  obtain⟨F,rfl⟩:=J;cases x with
  |non=>cases N;exact SeqAt.EqAt.str_none a F
  |bl b=>cases N;exact SeqAt.EqAt.str_bool a F b
  |int b=>obtain⟨t,rfl⟩:=N;exact SeqAt.EqAt.str_int a F b t
  |str b=>obtain⟨t,rfl⟩:=N;exact SeqAt.EqAt.str_str a F b t
  |_=>trivial
 |_=>trivial
def nV(x:V)(u:Value):Bool:=match u with
 |.none=>eqV .non x
 |.bool b=>eqV (.bl b) x
 |.int i _=>eqV (.int i) x
 |.str z _=>eqV (.str z) x
 |_=>false
theorem vf(r:RelV y u)(f:cF y=true):nV x u=eqV y x:=by
 cases y with
 |non=>cases r;rfl
 |bl b=>cases r;rfl
 |int i=>obtain⟨t,rfl⟩:=r;rfl
 |str z=>obtain⟨t,rfl⟩:=r;rfl
 |_=>trivial
theorem fD:∀{xs:List V}{us:List Value},Vals xs us->xs.all cF=true->us.any (nV x)=xs.any λy=>eqV y x
 |_,_,.nil,_=>rfl
 |y::xs,u::us,.cons r t,f=>by rw[List.all_cons,aaC]at f;rw[aaO,aaO,vf r f.1,fD t f.2]
theorem dP(N:RelV x v)(fx:cF x=true):∀{xs:List V}{us:List Value},Vals xs us->xs.all cF=true->∀u∈us,SeqAt.EqAt A s u v (nV x u)
 |_,_,.nil,_=>by simp
 |y::xs,u::us,.cons r t,f=>λo U=>by
  rw[List.all_cons,aaC]at f;rcases aaa.mp U with rfl|U
  ·rw[vf r f.1];exact Dj r N f.1 fx
  ·exact dP N fx t f.2 o U
def inV(x:V)(xs:List V):Bool:=xs.any λy=>eqV y x
def J8(K:Waa)(M:Bool):R2:=λx y H Q=>∃p Y,y=.ref p/\(SqL K H p Y\/SqT K H p Y)/\cF x=true/\Y.all cF=true/\Q (.bl (if M then !inV x Y else inV x Y)) H
theorem sC:OpR X (compareOp .In) (J8 X.K false):=by
 intro M s L H x y v u Q I N J h;obtain⟨p,Y,rfl,A,f,F,q⟩:=h;cases J;rcases A with A|A
 ·obtain⟨D,r,a,d⟩:=I.list A;refine SeqAt.in_listAt (nV x) a.isList (λw c=>dP N f r F w (by grind)) ⟨.bl _,H,I,rfl,?_⟩;rw[show D.toArray.any (nV x)=D.any (nV x) by simp,fD r F];exact q
 ·obtain⟨D,r,a,d⟩:=I.tuple A;refine SeqAt.in_tupleAt (nV x) a (λw c=>dP N f r F w (by grind)) ⟨.bl _,H,I,rfl,?_⟩;rw[show D.toArray.any (nV x)=D.any (nV x) by simp,fD r F];exact q
theorem jT:OpR X (compareOp .NotIn) (J8 X.K true):=by
 intro M s L H x y v u Q I N J h;obtain⟨p,Y,rfl,A,f,F,q⟩:=h;cases J;rcases A with A|A
 ·obtain⟨D,r,a,d⟩:=I.list A;refine SeqAt.notIn_listAt (nV x) a.isList (λw c=>dP N f r F w (by grind)) ⟨.bl _,H,I,rfl,?_⟩;rw[show D.toArray.any (nV x)=D.any (nV x) by simp,fD r F];exact q
 ·obtain⟨D,r,a,d⟩:=I.tuple A;refine SeqAt.notIn_tupleAt (nV x) a (λw c=>dP N f r F w (by grind)) ⟨.bl _,H,I,rfl,?_⟩;rw[show D.toArray.any (nV x)=D.any (nV x) by simp,fD r F];exact q
theorem CallR.or(h:CallR X f r)(h':CallR X f r'):CallR X f (λxs H Q=>r xs H Q\/r' xs H Q):=by
 intro M s L H xs C Q I U q;rcases q with q|q
 ·exact h M s L H xs C Q I U q
 ·exact h' M s L H xs C Q I U q
theorem jU:CallR X (.type "list") (λxs H Q=>∃p ys,xs=[.ref p]/\(SqL X.K H p ys\/SqT X.K H p ys)/\∀l,H l=none->Q (.ref l) (upd H l (.lst ys))):=by
 intro Y s L H xs C Q I r h;obtain⟨p,ys,rfl,A,q⟩:=h;obtain⟨u,rfl,N⟩:=vals1 r;cases N;have m:∀(D:List Value),Vals ys D->ys.length<=sizeLine->∀(v:Heap) (M:Nat),(∀b P,s.heap.get? b=some P->v.get? b=some P) ->
   v.get? s.heap.objs.size=some { cls:=.type "list",dict:=none,data:=.seq D.toArray M,slots:=#[] }->EP X Y L Q (.ref s.heap.objs.size) { s with heap:=v }:=λD f d v M Z e=>
  ⟨.ref s.heap.objs.size,_,I.laid Z (aac _) (show ObjOk X.prog X.w _ v _ (.lst ys) from ⟨d,D,M,f,e⟩),rfl,q _ (I.hok.fresh (aac _))⟩
 rcases A with A|A
 ·obtain⟨D,f,a,d⟩:=I.list A;have S:=f.length;obtain⟨o,T,U,n,W⟩:=a.isList;exact call_list_seq p (.inl rfl) T U W (λv M Z e=>m D f d v M Z e) (by grind)
 ·obtain⟨D,f,a,d⟩:=I.tuple A;have S:=f.length;obtain⟨o,T,U,n,W⟩:=a;exact call_list_seq p (.inr rfl) T U W (λv M Z e=>m D f d v M Z e) (by grind)
theorem je:CallR X (.type "tuple") (λxs H Q=>∃p ys,xs=[.ref p]/\((SqL X.K H p ys/\∀l,H l=none->Q (.ref l) (upd H l (.tup ys)))\/(SqT X.K H p ys/\Q (.ref p) H))):=by
 intro M s L H xs C Q I r h;obtain⟨p,ys,rfl,h⟩:=h;obtain⟨u,rfl,N⟩:=vals1 r;cases N;rcases h with ⟨A,q⟩|⟨A,q⟩
 ·obtain⟨D,f,a,d⟩:=I.list A;have S:=f.length;refine call_tuple_list a.isList (λv Z=>?_) (by grind);have B:Inv X M L H { s with heap:=v }:=I.kept Z;have W:Inv X M L (upd H v.objs.size (.tup ys)) { s with heap:=v.push { cls:=.type "tuple",data:=.seq D.toArray } }:=
   B.laid (λb o e=>acw _ e) (aac _) (⟨d,D,f,⟨_,acx _ rfl,rfl,_,rfl,rfl⟩⟩)
  exact⟨.ref v.objs.size,_,W,rfl,q _ (B.hok.fresh (aac _))⟩
 ·obtain⟨D,f,a,d⟩:=I.tuple A;exact call_tuple_same a ⟨.ref p,H,I,rfl,q⟩
def LK(K:Waa)(T:String)(x:V)(H:Hp):Prop:=match x with
 |.str _=>T="str"
 |.int _=>T="int"
 |.ref p=>(T="list"/\∃Y,SqL K H p Y)\/(T="tuple"/\∃Y,SqT K H p Y) \/
   (T="dict"/\((∃N,H p=some (.dK N))\/∃N,H p=some (.dT N)))\/(T="set"/\∃S n,H p=some (.set S n))
 |_=>False
theorem Dm{M:List (Addr×Obj)}{σ:St}(I:Inv X M σ H s)(r:RelV x v)(d:LK X.K T x H):
  s.TypeIs v T/\∀a,v=.ref a->∃g,s.heap.get? a=some g/\g.dict=none:=by
 cases x with
 |str z=>obtain⟨t,rfl⟩:=r;cases (d);exact⟨typeIs_str s z t,λ_ e=>nomatch e⟩
 |int i=>obtain⟨t,rfl⟩:=r;cases (d);exact⟨typeIs_int s i t,λ_ e=>nomatch e⟩
 |ref p=>
  cases r;rcases d with ⟨rfl,Y,A⟩|⟨rfl,Y,F⟩|⟨rfl,F⟩|⟨rfl,S,n,F⟩
  ·obtain⟨D,_,l,_⟩:=I.list A;refine⟨l.isList.typeIs,λa e=>?_⟩;cases e;obtain⟨o,n,e,c,W,_⟩:=l
   grind
  ·obtain⟨o,O,Z,Q⟩:=I.tupN F;refine⟨⟨o,O,Z⟩,λa e=>?_⟩
   grind
  ·have z:∃o,s.heap.get? p=some o/\o.ExactDict:=by
    rcases F with ⟨N,F⟩|⟨N,F⟩
    ·obtain⟨_,_,_,_,o,_,_,e,k,_⟩:=I.hok p _ F
     grind
    ·obtain⟨_,_,_,_,o,_,_,e,k,_⟩:=I.hok p _ F
     grind
   obtain⟨o,e,k⟩:=z;refine⟨⟨o,e,k.1⟩,λa B=>?_⟩;cases B;exact⟨o,e,k.2.1⟩
  ·obtain⟨o,_,_,_,e,k,_⟩:=I.hok p _ F;refine⟨⟨o,e,k.1⟩,λa B=>?_⟩;cases B;exact⟨o,e,k.2.1⟩
 |_=>trivial
def MA(K:Waa)(T:String)(r:V->List V->Hp->VK->Prop)(O:TE)(t:TA):TE:=λL H Q=>O L H λx P=>LK K T x P/\t L P λY j=>r x Y j Q
variable{T id:String}
theorem qb(J:PlainAttrs T) (a:Slot T name id) (y:typeOf (.builtin id)=pure (.type "method_descriptor")) (Y:MtR X id r) (q:PE X o to) (i:PA X (e::es) t)
  (A:attributeBase o name X.env (eval o X.env)=eval o X.env:=by rfl)
  (D:((backTo cpos (starEach (e::es) X.env)).all (λx=>!x.1)&&(backToKw cpos (keywordEach [] X.env)).all (λx=>x.1.isSome)
   && decide ((e::es).length+([]:List Keyword).length+(if ([]:List Keyword).isEmpty then 0 else 1)<30))=true:=by rfl)
  (l:(apos.endLine==cpos.line)=true:=by rfl) (g:starEach (e::es) X.env=(false,eval e X.env)::starEach es X.env:=by rfl) (N:(backTo cpos (starEach es X.env)).any (·.1)=false:=by rfl):
  PE X (.Call (.Attribute o name apos) (e::es) [] cpos) (MA X.K T r to t):=by
 intro M s L H Q I h;refine wpAny_Call_method_late A D l rfl (thn (q M s L H _ I h) λv f n=>?_);obtain⟨x,P,B,w,d,m⟩:=n;obtain⟨O,Z⟩:=Dm B w d;refine⟨T,id,J,a,y,O,Z,?_⟩;have F:=i cpos M f L P _ B m;rw[g]at F ⊢;refine Calls.callWith_builtin (by show (false||(backTo cpos (starEach es X.env)).any (·.1))=false;rw[N]<;>rfl) (Calls.evalArgs_plain ?_);exact thn F λC k ⟨c,j,W,p,b⟩=>Y M k L j x c v C Q W w p b
end
end
section
def MB(X:Cx)(id:String)(r:V->List V->Hp->VK->Prop):Prop:=
 ∀(M:List (Addr×Obj)) (s:Shared) (L:St) (H:Hp) (x:V) (Y:List V) (v:Value) (C:List Value) (Q:VK),Inv X M L H s->RelV x v->Vals Y C->r x Y H Q ->
  wpAny (model X.prog X.w) X.A (call (.builtin id) (v::C)) (EP X M L Q) X.xe s
theorem Vals.one(h:Vals [x] us):∃u,us=[u]/\RelV x u:=by
 cases h with|cons r t=>cases t;exact⟨_,rfl,r⟩
theorem Vals.two(h:Vals [x,y] us):∃u v,us=[u,v]/\RelV x u/\RelV y v:=by
 cases h with|cons r t=>cases t with|cons q t=>cases t;exact⟨_,_,rfl,r,q⟩
theorem Vals.zero:∀{us:List Value},Vals [] us->us=[]
 |_,.nil=>rfl
theorem Vals.rep(h:Vals xs us):∀k:Nat,Vals (List.replicate k xs).flatten (List.replicate k us).flatten
 |0=>.nil
 |k+1=>by rw[aa3,aa3,abp,abp];exact Vals.append h (Vals.rep h k)
theorem foldl_rep(D:List Value):∀(k:Nat) (s:List Value),
  List.foldl (λx C=>x++C) s.toArray (List.replicate k D.toArray)=(s++(List.replicate k D).flatten).toArray
 |0,s=>by simp
 |k+1,s=>by
  have e:s.toArray++D.toArray=(s++D).toArray:=by simp
  have B:(s++D)++(List.replicate k D).flatten=s++(List.replicate (k+1) D).flatten:=by
   grind
  rw[<-B,<-foldl_rep D k (s++D),<-e,aa3,List.foldl_cons]
theorem Inv.lset{D B:List Value}{n:Nat}{f:Array Value->Array Value}{t':Nat}(I:Inv X pins σ H s)(m:H l=some (.lst xs))
  (e:s.heap.get? l=some { cls:=.type "list",data:=.seq D.toArray n }) (y:f D.toArray=B.toArray) (o:Vals ys B) (d:ys.length<=sizeLine):
  Inv X pins σ (upd H l (.lst ys)) { s with heap:=s.heap.update l (Obj.mapSeq f),toks:=t' }:=by
 have q:=PySem.IsL.update e f;rw[y]at q;refine I.write (by rw[m];trivial) (.inl rfl) (λw u S U=>(Heap.get?_update_other s.heap (Obj.mapSeq f) (aaG S)).trans U) ⟨_,q⟩ ?_;exact⟨d,B,_,o,q⟩
theorem Inv.lnew{t':Nat}(I:Inv X pins σ H s)(o:Vals ys its)(d:ys.length<=sizeLine):
  Inv X pins σ (upd H s.heap.objs.size (.lst ys)) { s with heap:=s.heap.push { cls:=.type "list",data:=.seq its.toArray },toks:=t' }:=
 I.laid (λ_ _ q=>acw _ q) (aac _) ⟨d,its,0,o,acx _ rfl⟩
theorem Inv.fresh(I:Inv X pins σ H s):H s.heap.objs.size=none:=I.hok.fresh (aac _)
theorem Inv.y2(I:Inv X pins σ H s)(m:H l=some (.lst xs)):xs.length<=sizeLine/\∃(D:List Value) (n:Nat),Vals xs D/\xs.length=D.length/\s.heap.get? l=some { cls:=.type "list",data:=.seq D.toArray n }:=by obtain⟨z,D,n,r,e⟩:=I.hok l _ m;exact⟨z,D,n,r,r.length,e⟩
theorem lE(h:n<=sizeLine):Builtin.List.listTooLong n=false:=by
 unfold Builtin.List.listTooLong
 grind
def rAppend:V->List V->Hp->VK->Prop:=λx c H Q=>∃l Y y,x=.ref l/\c=[y]/\H l=some (.lst Y)/\Y.length<sizeLine/\Q .non (upd H l (.lst (Y++[y])))
theorem eG:MB X "list.append" rAppend:=by
 intro M s L H x c v C Q I N O h;obtain⟨l,Y,y,rfl,rfl,m,d,q⟩:=h;cases N;obtain⟨u,rfl,p⟩:=O.one;obtain⟨z,D,n,r,j,e⟩:=I.y2 m;refine acL F.slot_list_append ⟨_,e,rfl⟩ F.entry_list_append (F.args_list_append_2 _ _) (PySem.list_append l D.toArray n u (by grind)) ⟨e,?_⟩;refine⟨.non,_,I.lset m e (by simp) (r.append (.cons p .nil)) ?_,rfl,q⟩
 grind
def rRep:R2:=λx y H Q=>∃l k Y,x=.ref l/\y=.int k/\H l=some (.lst Y)/\-(2^63)<=k/\k<2^63/\Y.length*k.toNat<=sizeLine /\
 ∀p,H p=none->Q (.ref p) (upd H p (.lst (List.replicate k.toNat Y).flatten))
theorem len_rep{Y:Type}(xs:List Y)(k:Nat):(List.replicate k xs).flatten.length=k*xs.length:=by simp
theorem Dn:OpR X (binaryOp .Mult) rRep:=by
 intro M s L H x y v u Q I N J h;obtain⟨l,k,Y,rfl,rfl,w,O,Z,d,q⟩:=h;cases N;obtain⟨t,rfl⟩:=J;obtain⟨z,D,n,r,j,e⟩:=I.y2 w;have S:D.toArray.size*k.toNat<=sizeLine:=by grind
 have p:¬ D.toArray.size*k.toNat>(2^63-1)/8:=by
  have:(sizeLine:Nat)<=(2^63-1)/8:=by decide
  omega
 have T:¬ (!Builtin.List.listFitsIndex k)=true:=by rw[fitsIndex_both O Z];simp
 have P:¬ Builtin.List.listTooLong (D.toArray.size*k.toNat)=true:=by rw[lE S];simp
 have W:List.foldl (λg C=>g++C) #[] (List.replicate (if D.toArray.isEmpty=true then 0 else k.toNat) D.toArray)=(List.replicate k.toNat D).flatten.toArray:=by
  have b:∀m:Nat,List.foldl (λg C=>g++C) #[] (List.replicate m D.toArray)=(List.replicate m D).flatten.toArray:=λm=>by
   have:=foldl_rep D m []
   grind
  rw[b];cases D with
  |nil=>simp
  |cons a f=>rfl
 refine wpAny_binaryOp_repeat_ref (by rfl) ⟨_,e,rfl⟩ (λB=>typeIs_int B k t) noFill_list_mul F.fills_int_mul F.slot_int_rmul repeat_list F.slot_int_index.lookup
  (acL F.slot_int_rmul (typeIs_int s k t) F.entry_int_rmul (F.args_int_rmul_2 _ _) (int___rmul___int_list k t l D.toArray n)
   ⟨e,rfl,⟨_,e,rfl⟩,acL F.slot_list_mul ⟨_,e,rfl⟩ F.entry_list_mul (F.args_list_mul_2 _ _) (AutoListH.list___mul___list_int_3 l D.toArray n k t T p P) ⟨e,?_⟩⟩)
 rw[W];exact⟨.ref _,_,I.lnew (r.rep k.toNat) (by rw[len_rep,Nat.mul_comm];omega),rfl,q _ I.fresh⟩
end
end L2
namespace Att
open PySem PySem.W PySem.Calls PyProof.Rows
theorem gF:∀(ns:List Int) (vs:List Value),WellAll P h vs (ns.map WData.int)->IntsAre vs ns:=by
 intro ns;induction ns with
 |nil=>intro vs w;rw[aay]at w;cases w;exact .nil
 |cons n ns Y=>
  intro vs w;rw[aal]at w;cases w with
  |cons a b=>cases a;exact .cons _ _ (Y _ b)
theorem sE{l:OpenLaw}(Q:l.most=some n)
  (e:l.row.toRowW.claim.pre args=true) (H:WellAll P h vals args):
  ∃a vs ns,vals=[Value.ref a]/\args=[WData.list (ns.map WData.int)]/\h.get? a=some { cls:=.type "list",data:=.seq vs.toArray }/\IntsAre vs ns/\ns.length<=n:=by
 have A:=(pre_splitW e).1;have U:l.pre.holds [] { args:=args }=true:=(pre_splitW e).2;obtain⟨d,r,rfl,O,Z⟩:=hasAllW_cons A;obtain rfl:=hasAllW_nil Z;obtain⟨Y,rfl,M⟩:=hasW_list O;obtain⟨ns,rfl⟩:=items_int M;have S:ns.length<=n:=by
  unfold OpenLaw.pre at U;have F:(WTm.not (.lt (.lit (.int (n))) (.len (.arg 0)))).holds [] { args:=[.list (ns.map .int)] }=true:=by
   have F:=(holds_andW U).1
   grind
  have s:=condW_of F (w_not (w_lt w_lit (w_len_list (w_arg rfl))))
  grind
 cases H with
 |cons f o=>
  cases o;cases f with
  |list T L=>exact⟨_,_,ns,rfl,rfl,T,gF ns _ L,S⟩
theorem sF(l:OpenLaw)(b:List WData):l.row.toRowW.claim.post b (.bool true) b=true:=
 postW_of
  (show WShape.has [] (.bool true) .bool=true by rfl)
  (w_eq_bool (w_res rfl) w_lit) rfl
theorem attach_call{l:OpenLaw}
  (v:l.most=some n) (Q:d.params.defaults=[])
  (call:∀(w:World) (U C:Shared) (I m:Str->Option Value) (p:Addr) (o:Obj) (z t J:Value) (a:Addr) (vs:List Value) (ns:List Int),
   Ground q loose [] XP w U I m C.heap->YP w C.heap ->
   C.heap.get? p=some o->o.data=.func (docDef d.name d.params d.body d.scope z t J)->C.heap.CodeRec t d.name->I d.name=some (.ref p) ->
   C.heap.get? a=some { cls:=.type "list",data:=.seq vs.toArray }->IntsAre vs ns->ns.length<=n->C.gens=#[] ->
   codeAny (model l.prog w) callerA (.call (.ref p) ⟨[.ref a],[]⟩) (λr B=>r=.ok (.ret (.bool true))/\OldK C.heap B.heap/\B.os=C.os/\AllBare B.gens) C):
  WalkO q loose XP YP l.row.toRowW d [] (λf vs=>PySem.call f vs):=by
 intro w U C I m G Y p o z t J F g T W L i O N b s c e y D H h;obtain rfl:=Dflts.none i Q;obtain rfl:=Dflts.noKw i;obtain⟨a,vs,ns,rfl,rfl,j,X,S⟩:=sE v e H;refine enter_call (acP (call w U C I m p o z t J a vs ns G Y T (fd_plain W) L O j X S N) λr B A=>?_);obtain⟨rfl,Z,M,P⟩:=A;exact⟨.inl ⟨.bool true,.bool true,[],rfl,λ_=>rfl,.bool true,sF l _,λ_=>⟨List.Pairwise.nil,λ_ u=>(nomatch u)⟩⟩,Z,M,P⟩
section
variable{K:Frag}
end
end Att
namespace L2
open PySem PySem.Spec PyProof.Rows
section
theorem vals_ints:∀{vs:List Value}{ns:List Int},IntsAre vs ns->Vals (ns.map V.int) vs
 |_,_,.nil=>.nil
 |_,_,.cons n t h=>.cons ⟨t,rfl⟩ (vals_ints h)
def Do(H:Hp):Prop:=∀b,H b=none\/∃o Y,H b=some (.frz o (.lst Y))
theorem vg{P:Program}{w:World}{K:Waa}{CX:CXT}{k:Nat}{p a:Addr}{y:FuncData}{sp:Sp}{vs:List Value}{ns:List Int}
  (KX:K.In s₁.heap) (a2:s₁.heap.Ns mainGlobals mg) (S:s₁.heap.Ns builtinsNs mb) (a7:∀x:Str,x≠"__name__"->mb x=bootBuiltins x) (a1:s₁.heap.NoLimit) (N:s₁.gens=#[])
  (i:s₁.heap.get? a=some { cls:=.type "list",data:=.seq vs.toArray }) (hi:IntsAre vs ns) (j:ns.length<=sizeLine) (hr:Room k callerA)
  (F:∀A:Heap,K.In A->A.Ns mainGlobals mg->FnOk P w K mg A CX k p y [x] sp) (a0:∀(s:Shared) (u:Value),BindsTo s y ⟨[u],[]⟩ [(x,u)])
  (c:∀H:Hp,Do H->SqL K H a (ns.map V.int)->sp [.ref a] H (λv _=>v=.bl true) λ_ _ _=>False)
  (a8:∀H e B,CX [] H s₁ (λ_ _ _=>False) e B->False):
  codeAny (model P w) callerA (.call (.ref p) ⟨[.ref a],[]⟩) (λr B=>r=.ok (.ret (.bool true))/\OldK s₁.heap B.heap/\B.os=s₁.os/\AllBare B.gens) s₁:=by
 have O:=vals_ints hi;have a3:=hi.length;have Y:∀H:Hp,Do H->SqL K H a (ns.map V.int)->HOk P w H s₁.heap->(∀b,H b≠none->b=a)->(H a≠none->K.lookup a=none) ->
   codeAny (model P w) callerA (.call (.ref p) ⟨[.ref a],[]⟩) (λr B=>r=.ok (.ret (.bool true))/\OldK s₁.heap B.heap/\B.os=s₁.os/\AllBare B.gens) s₁:=by
  intro H hO M a4 hA hK;have T:∀{b:Addr}{o:Obj},s₁.heap.get? b=some o->H b=none->(lr s₁.heap H).get? b=some o:=λe n=>hidT_get e n;have a9:∀{b:Addr}{o:Obj}{L:Array DictEntry}{J:Nat},s₁.heap.get? b=some o->o.data=.dict L J->H b=none:=λ{b o L J} e d=>by
   grind
  have t:∀{b:Addr}{m:Str->Option Value},s₁.heap.Ns b m->(lr s₁.heap H).Ns b m:=λ{b m} ⟨o,L,J,e,d,r⟩=>⟨o,L,J,T e (a9 e d),d,r⟩
  have l:=λb o e=>T (KX b o e) (by
   grind)
  have hM:Mod K mg (lr s₁.heap H):=⟨l,t a2,⟨mb,t S,a7⟩,let ⟨mc,h1,Z⟩:=a1;⟨mc,t h1,Z⟩⟩
  have X:Env0 P w K mg (lr s₁.heap H) callerA [] s₁ H:=⟨rfl,hM,λb o e=>yJ e,abD (si _ _),trivial,λb S=>absurd (show b∈([]:List Addr) from S) (by simp),a4,.of_eq N⟩
  refine acP ((F _ l (t a2)).run callerA [] s₁ H ⟨[.ref a],[]⟩ [.ref a] [.ref a] _ _ hr X (a0 s₁ (.ref a)) (.cons rfl .nil) (c H hO M)) λr B h=>?_;cases r with
  |error e=>exact(a8 H e B h).elim
  |ok Q=>
   cases Q with
   |next=>trivial
   |brk=>trivial
   |cont=>trivial
   |ret u=>
    obtain⟨v,H',C,a6,U,a5,f,q⟩:=h;have D:=q;subst D;obtain rfl:=f;refine⟨rfl,OldK.of_keep λb o e=>?_,C,a6⟩;cases q:H b with
    |none=>exact U.keep b o e q (by intro z;exact absurd (show b∈([]:List Addr) from z) (by simp)) (by simp)
    |some u=>
     rcases hO b with z|⟨g,xs,z⟩
     ·rw[q]at z;cases z
     ·have W:=U.frzs b g _ z;obtain⟨e1,_⟩:=a4 b _ z;obtain⟨e2,_⟩:=a5 b _ W;rw[e]at e1;cases e1;exact e2
 cases hk:K.lookup a with
 |some o=>have e:=KX a o hk;rw[i]at e;cases e;refine Y (λ_=>none) (λ_=>.inl rfl) (.inr ⟨_,vs.toArray,_,hk,rfl,rfl,rfl,by rw[abo,a3];exact j,O⟩) (λb u z=>by have I:=z;cases I) (λb z=>absurd rfl z) λz=>absurd rfl z
 |none=>
  refine Y (λb=>if b=a then some (.frz { cls:=.type "list",data:=.seq vs.toArray } (.lst (ns.map V.int))) else none) (λb=>?_) (.inl (.inr ⟨{ cls:=.type "list",data:=.seq vs.toArray },if_pos rfl⟩)) (λb u z=>?_) (λb z=>?_) λ_=>hk
  ·by_cases S:b=a
   ·exact .inr ⟨_,_,if_pos S⟩
   ·exact .inl (if_neg S)
  ·by_cases S:b=a
   ·have I:=(if_pos S).symm.trans z;cases I;subst S;exact⟨i,by rw[aae];exact j,vs,_,O,i⟩
   ·have I:=(if_neg S).symm.trans z;cases I
  ·by_cases S:b=a
   ·exact S
   ·exact absurd (if_neg S) z
end
section
theorem walk_of{l:PySem.W.OpenLaw}{K:Params->Waa}{CX:World->CXT}{sp:World->Sp}{x:Str}
  (hn:l.most=some n) (i:n<=sizeLine) (Q:d.params.defaults=[]) (D:Room k callerA)
  (A:∀(w:World) (h:Heap),YP w h->(K w.params).In h)
  (F:∀(w:World) (I:Str->Option Value) (p:Addr) (h:Heap),(K w.params).In h->h.Ns mainGlobals I->I d.name=some (.ref p) ->
   ∃y:FuncData,(∀(s:Shared) (u:Value),BindsTo s y ⟨[u],[]⟩ [(x,u)]) /\
    ∀base:Heap,(K w.params).In base->base.Ns mainGlobals I->FnOk l.prog w (K w.params) I base (CX w) k p y [x] (sp w))
  (c:∀(w:World) (H:Hp) (a:Addr) (ns:List Int),ns.length<=n->Do H->SqL (K w.params) H a (ns.map V.int)->sp w [.ref a] H (λv _=>v=.bl true) λ_ _ _=>False)
  (r:∀(w:World) (H:Hp) (s:Shared) (e:Value) (B:Shared),CX w [] H s (λ_ _ _=>False) e B->False):
  PySem.W.WalkO q loose XP YP l.row.toRowW d [] (λf vs=>PySem.call f vs):=by
 refine Att.attach_call hn Q λw U C I m p o z t J a vs ns G Y ho hd L O j X S N=>?_;have P:=A w _ Y;obtain⟨y,hb,Z⟩:=F w I p _ P G.T.g O;exact vg P G.T.g G.T.b G.T.builtins G.T.nolimit N j X (aan S i) D Z hb (λH hO M=>c w H a ns S hO M) λH e B=>r w H C e B
end
section
abbrev CX0:CXT:=λ_ _ _ _ _ _=>False
abbrev E0:XK:=λ_ _ _=>False
theorem lF:Passes CX0 X E0:=λ_ _ _ _ _ _ _ h=>h.elim
structure Fun (K:Waa)(x qual:Str)(st:Stmt)(f:Addr)(fd:FuncData):Prop where
 ex:∃(oc:Value) (od:Option Addr) (kV doc pm:Value) (an:Option Addr) (cdv ct:Value) (osl:Array (Option Value)),
  fd=PySem.W.fnOf x qual (cD st) (bC st) (aK st) .none kV doc pm an cdv ct/\K.lookup f=some ⟨oc,od,.func fd,osl⟩/\PySem.W.codeIn K cdv qual=true
 kp:PySem.W.keepIn K (.ref f)=true
section
variable{K:Waa}
theorem Fun.ok{x C:Str}{m:Stmt}(F:Fun K x C m f fd)(S:FnScope N ps (aK m))(len:∀vs H Q E,sp vs H Q E->vs.length=ps.length)
  (e:∀(U:Value) (A:Around) (M:List Env) (s:Shared) (H:Hp) (vs:List V) (Q:VK) (E:XK),Room k (A.deeper (envOfC C (aK m) s.heap.objs.size f U))->sp vs H Q E ->
   ∃t,PSs (jS CX0 P w K mg base N C (aK m) f U A M s H E).u2 (bC m) t/\t { nx:=λ_ l=>Q .non l,rt:=Q } (start N vs) H):FnOk P w K mg base CX0 (k+1) f fd ps sp:=by
 obtain⟨p,Z,d,J,z,i,U,T,o,rfl,Y,L⟩:=F.ex;refine GL Y L S len λA M s H vs Q E D c=>?_;obtain⟨t,h,q⟩:=e U A M s H vs Q E D c;exact⟨t,h.u2,q⟩
theorem jV{m:Stmt}{d J z U T:Value}(l:K.lookup f=some ⟨oc,od,.func (PySem.W.fnOf x qual (cD m) (bC m) (aK m) .none d J z an U T),osl⟩)
  (c:PySem.W.codeIn K U qual=true) (k:PySem.W.keepIn K (.ref f)=true):Fun K x qual m f (PySem.W.fnOf x qual (cD m) (bC m) (aK m) .none d J z an U T):=⟨⟨oc,od,d,J,z,an,U,T,osl,rfl,l,c⟩,k⟩
end
def Same(H l:Hp):Prop:=∀b o,H b=some o->l b=some o
theorem Same.refl(H:Hp):Same H H:=λ_ _ h=>h
theorem Same.trans(a:Same H H1)(b:Same H1 H2):Same H H2:=λc o h=>b c o (a c o h)
theorem Same.free{H Y:Hp}(e:Same H Y)(h:Y l=Option.none):H l=Option.none:=by
 cases q:H l with
 |none=>rfl
 |some o=>rw[e l o q]at h;cases h
theorem Same.seq{K:Waa}(e:Same H H')(h:SqL K H a xs):SqL K H' a xs:=by
 rcases h with (h|⟨o,h⟩)|h
 ·exact .inl (.inl (e _ _ h))
 ·exact .inl (.inr ⟨o,e _ _ h⟩)
 ·exact .inr h
end
section
theorem nW:∀(N:List (Str×NameKind)) (s:List (Str×Addr)),(∀x∈N,x.2=.free->∃c,env.cells.lookup x.1=some c) ->
  (∀x c,s.lookup x=some c->env.cells.lookup x=some c) ->
  ∃L:List (Str×Addr),forIn N s (λ(x:Str×NameKind) (r:List (Str×Addr))=>match x with
    | (name,kind)=>(if kind==NameKind.free then do let c <-cellOf env name;pure (ForInStep.yield ((name,c)::r)) else pure (ForInStep.yield r):Sem (ForInStep (List (Str×Addr)))))=pure L /\
   (∀x c,L.lookup x=some c->env.cells.lookup x=some c)/\(∀x∈N,x.2=.free->∃c,L.lookup x.1=some c)/\(∀x c,s.lookup x=some c->∃M,L.lookup x=some M):=by
 intro N;induction N with
 |nil=>intro s _ Z;exact⟨s,rfl,Z,λ_ h=>(nomatch h),λx c h=>⟨c,h⟩⟩
 |cons p r Y=>
  intro s O Z;obtain⟨n,k⟩:=p;rw[abF];have D:=λx C=>O x (aaf _ C);by_cases F:k=.free
  ·subst F;obtain⟨c,U⟩:=O (n,.free) aag rfl;have J:cellOf env n=pure c:=by unfold cellOf;rw[U]
   have f:∀x M,((n,c)::s).lookup x=some M->env.cells.lookup x=some M:=λx M h=>by
    rw[abq]at h;cases C:x==n with
    |true=>rw[C]at h;cases h;rw[eq_of_beq C];exact U
    |false=>rw[C]at h;exact Z x M h
   obtain⟨L,e,a,b,d⟩:=Y ((n,c)::s) D f;refine⟨L,?_,a,λx C y=>?_,λx M h=>?_⟩
   ·show ((cellOf env n >>= λc=>pure (ForInStep.yield ((n,c)::s))) >>= _)=_;rw[J];exact e
   ·rcases aaa.mp C with rfl|C
    ·exact d n c (by simp[abq])
    ·exact b x C y
   ·cases C:x==n with
    |true=>exact d x c (by rw[abq,C])
    |false=>exact d x M (by rw[abq,C];exact h)
  ·have S:(k==NameKind.free)=false:=by simpa using F
   obtain⟨L,e,a,b,d⟩:=Y s D Z;refine⟨L,?_,a,λx C y=>?_,d⟩
   ·show ((if (k==NameKind.free)=true then _ else _) >>= _)=_;rw[S];exact e
   ·rcases aaa.mp C with rfl|C
    ·exact absurd y F
    ·exact b x C y
theorem nY(h:∀x∈scope.names,x.2=.free->∃c,env.cells.lookup x.1=some c):
  ∃L:List (Str×Addr),closureFor scope env=pure L/\(∀x c,L.lookup x=some c->env.cells.lookup x=some c)/\(∀x∈scope.names,x.2=.free->∃c,L.lookup x.1=some c):=by
 obtain⟨L,e,a,b,_⟩:=nW scope.names [] h (λ_ _ h=>nomatch h);refine⟨L,?_,a,b⟩;have q:closureFor scope env=(forIn scope.names ([]:List (Str×Addr)) (λ(x:Str×NameKind) (r:List (Str×Addr))=>match x with
    | (name,kind)=>(if kind==NameKind.free then do let c <-cellOf env name;pure (ForInStep.yield ((name,c)::r)) else pure (ForInStep.yield r):Sem (ForInStep (List (Str×Addr))))) >>= λr=>pure r):=rfl
 rw[q,e];rfl
noncomputable def fW(X:Cx)(N:List Str)(S:Scope)(L:List (Str×Addr))(s:Shared)(H:Hp)(d:List Addr)(M:List (Addr×Obj)):Cx where
 prog:=X.prog
 w:=X.w
 K:=X.K
 mg:=X.mg
 base:=X.base
 A:=X.A
 N:=N
 s₀:=s
 H₀:=H
 env:=compEnvC S L s.heap.objs.size X.env
 outer:=X.stack
 stack:=X.stack
 ex:=d
 fn:=λ_=>false
 calm:=X.calm
 pn:=X.pn++M
 xe:=λ_ _=>False
structure CC where
 cl:List (Str×Addr)
 s:Shared
 H:Hp
 fp:List Addr
 pins:List (Addr×Obj)
abbrev cB(X:Cx)(N:List Str)(scope:Scope)(c:CC):Cx:=fW X N scope c.cl c.s c.H c.fp c.pins
def bV(nt:Nat)(fr:List Nat)(σ:St):St:=List.replicate nt none++fr.map λj=>(σ[j]?).join
structure CompScope (N:List Str)(nt:Nat)(fr:List Nat)(ON:List Str)(sc osc:Scope):Prop where
 kind:sc.kind=.function
 nocell:∀x∈sc.names,x.2≠.cell
 names:∀x∈sc.names,x.2=.local->sc.names.lookup x.1=some .local
 len:N.length=nt+fr.length
 out:∀(i:Nat) (j:Nat),fr[i]?=some j->∃x,N[nt+i]?=some x/\ON[j]?=some x/\osc.names.lookup x=some .cell/\sc.names.lookup x=some .free
 cells:∀x∈sc.names,x.2=.free->osc.names.lookup x.1=some .cell
 looks:∀x∈sc.names,x.2=.free->sc.names.lookup x.1=some .free
theorem cg{sc:Scope}{env:Env}:∀(N:List (Str×NameKind)) (x:Str) (k:NameKind),
  (N.map λ(n,k)=>if (k==NameKind.free&&env.scope.kind==.function&&env.kindOf n==some .cell) then (n,NameKind.cell) else (n,k)).lookup x=some k ->
  N.lookup x=some k\/(k=.cell/\N.lookup x=some .free)
 |[],_,_,h=>by grind
 | (n,k0)::r,x,k,h=>by
  have Y:=cg (sc:=sc) (env:=env) r x k
  grind
theorem nZ(S:CompScope N nt fr X.N scope X.env.scope)(I:Inv X pins σ H s)
  (hf:∀b∈fp,FpOk X pins H b) (k:∀b∈fp,b<s.heap.objs.size)
  (a:∀x c,cl.lookup x=some c->X.env.cells.lookup x=some c) (a0:∀x∈scope.names,x.2=.free->∃c,cl.lookup x.1=some c)
  (F:∀b o,s.heap.get? b=some o->s4.heap.get? b=some o) (hn:∃m,s4.heap.Ns s.heap.objs.size m) (T:s4.os=s.os) (hg:s4.gens=s.gens):
  Inv (fW X N scope cl s H fp pins) [] (bV nt fr σ) H s4:=by
 have f:=I.hok.fresh (aac _);have L:∀b o,s.heap.get? b=some o->b≠s.heap.objs.size:=λb o e=>aao (acu e);have kd:=S.kind;have Y:=λx h=>a0 (x,.free) (aa2 h) rfl;refine⟨⟨I.ok.mod,kd,I.ok.glob,I.ok.blt,aac _,λx y c O Z=>I.ok.inj x y c (a x c O) (a y c Z),λx C=>?_,λ_ _ h _=>absurd (h) aar,I.ok.hd,I.ok.frames,.inl rfl,λb hb=>⟨aao (k b hb),λx c e=>(hf b hb).2.2.2.2.1 x c (a x c e)⟩,
  I.bs,aan I.ok.bsz I.sz,λb o e hb=>?_,λb hb g=>?_,I.stack,I.rr⟩,T,by rw[hg];exact I.bare,Un.kept F,?_,λx c e=>?_,f,λx c e=>I.freeC x c (a x c e),λp hp=>?_,I.hok.kept F,?_⟩
 ·have a1:=C;rcases a1 with h|h
  ·rcases cg (sc:=scope) scope.names x _ h with q|⟨_,q⟩
   ·exact absurd rfl (S.nocell _ (aa2 q))
   ·exact Y x q
  ·rcases cg (sc:=scope) scope.names x _ h with q|⟨q,_⟩
   ·exact Y x q
   ·cases q
 ·rcases (hf b hb).2.2.2.1 with z|z
  ·exact I.ok.noex b o e z
  ·exact absurd (aas (acu e) (aan I.ok.bsz z)) (aaX _)
 ·rcases aaa.mp (I.jo b g) with z|z
  ·exact(hf b hb).2.1 z
  ·exact(hf b hb).2.2.1 z
 ·obtain⟨m,hm⟩:=hn;refine⟨m,hm,λi x v O Z h3=>?_⟩;obtain⟨m0,a2,A⟩:=I.loc;have hi:nt<=i:=by
   refine Nat.le_of_not_lt λk=>?_;unfold bV at Z
   grind
  obtain⟨d,rfl⟩:∃d,i=nt+d:=⟨i-nt,by lia⟩
  unfold bV at Z;rw[aa4 (by simp),abG,abH,aaz]at Z;cases U:fr[d]? with
  |none=>grind
  |some j=>
   rw[U]at Z;have a3:=aa0 Z;have Q:σ[j]?=some (some v):=by
    grind
   obtain⟨y,J,B,e3,e4⟩:=S.out d j U;have r:N[nt+d]?=some x:=O;rw[J]at r;cases r;obtain⟨u,ru,l⟩:=A j x v B Q (.inr (.inl e3));refine⟨u,ru,?_⟩;rcases l with ⟨q,_⟩|⟨_,c,ec,z⟩
   ·have D:X.env.scope.names.lookup x=some .local:=q
    grind
   ·obtain⟨M,P⟩:=Y x e4;have:M=c:=by grind
    subst this;obtain⟨o,t,W⟩:=z;refine .inr ⟨?_,M,P,⟨o,F _ _ t,W⟩⟩;rcases h3 with q|q|q
    ·have D:=q;rcases cg (sc:=scope) scope.names x _ D with z|⟨z,_⟩
     ·grind
     ·cases z
    ·exact .inl q
    ·exact .inr q
 ·obtain⟨v,o,t,W⟩:=I.cell x c (a x c e);exact⟨v,o,F _ _ t,W⟩
 ·have w:p∈X.pn++pins:=by
   rcases aaj.mp hp with z|z
   ·exact z
   ·grind
  obtain⟨e,n,ne,nf,d⟩:=I.pin p w;refine⟨F _ _ e,n,L _ _ e,λz=>?_,d⟩;rcases aaa.mp (I.jo p.1 z) with q|q
  ·grind
  ·grind
 ·show (bV nt fr σ).length=N.length;unfold bV;rw[aak,abG,aae,S.len]
theorem vh(I:Inv X pins σ H s)(y:∀b∈fp,FpOk X pins H b)
  (i:H D=none) (h:s.heap.objs.size<=D) (M:D<s3.heap.objs.size) (F:∀b o,s.heap.get? b=some o->s3.heap.get? b=some o) (L:s3.os=s.os)
  (J:Inv (fW X N scope cl s3 (upd H D o0) fp pins) pins' σ' H1 s5) (g:Heap.SameBut s3.heap.objs.size s5.heap h'):
  Inv X pins σ H1 { s5 with heap:=h' }:=by
 have A:=aaL (Nat.lt_of_le_of_lt h M);have B:∀b,b<s.heap.objs.size->b≠D/\b≠s3.heap.objs.size:=λb S=>⟨aao (aas S h),aao (aas S A)⟩
 have O:∀b,b≠D->(upd H D o0) b=H b:=λb S=>upd_ne S;refine I.call' (ch:=fp) (J.os.trans L) ⟨λb o e n S C=>?_,λb o e n S C=>?_,λb o e n C=>?_,λb o e C=>?_,λb T e=>?_,λb o u e=>?_,λb W e=>?_⟩ ?_ J.bare λb S=>?_
 ·obtain⟨Y,a⟩:=B b (acu e);exact(g.2 b a).trans (J.base.keep b o (F b o e) ((O b Y).trans n) S C)
 ·obtain⟨Y,a⟩:=B b (acu e);obtain⟨Z,q⟩:=J.base.slot b o (F b o e) ((O b Y).trans n) S C;exact⟨Z,(g.2 b a).trans q⟩
 ·obtain⟨Y,a⟩:=B b (acu e);exact J.base.free b o (F b o e) ((O b Y).trans n) C
 ·obtain⟨Y,a⟩:=B b (acu e);obtain⟨P,q⟩:=J.base.there b o (F b o e) C;exact⟨P,(g.2 b a).trans q⟩
 ·exact J.base.tups b T ((O b (au e i)).trans e)
 ·exact J.base.frzs b o u ((O b (au e i)).trans e)
 ·exact J.base.tbls b W ((O b (au e i)).trans e)
 ·intro b u e;refine(J.hok b u e).j2 (λc v U q=>(g.2 c ?_).trans q) (λ_ q=>q) λ_ _ q=>q;have k:H1 s3.heap.objs.size=none:=J.free
  grind
 ·obtain⟨w,r,d,f,j,l⟩:=y b S
  grind
def Ga(e:Expr):Prop:=(∃a b c d,e=.ListComp a b c d)\/(∃a b c d f,e=.DictComp a b c d f)\/∃a b c d,e=.SetComp a b c d
noncomputable abbrev cV(e:Expr)(d:Nat)(tg:Expr)(p:Pos)(it acc:Value)(env:Env)(body:Sem Unit):Sem Fin:=
 standAt p >>= λ_=>pyNext it >>= λr=>match r with
  |none=>pure (.done .next)
  |some v=>letOwnedTupleGo tg it v >>= λ_=>assign tg env v >>= λ_=>body >>= λ_=>again (.compLoop e d it acc env)
abbrev TB:=St->Hp->(St->Hp->Prop)->Prop
def PB(Y:Cx)(C:Sem Unit)(T:TB):Prop:=∀(M:List (Addr×Obj)) (s:Shared) (L:St) (H:Hp) (Q:St->Hp->Prop),Inv Y M L H s->T L H Q->wpAny (model Y.prog Y.w) Y.A C (λ_ B=>∃a l,Inv Y M a l B/\Q a l) Y.xe s
theorem sG(a:Ga e)
  (X:compTurn e d it acc env=cV e d tg p it acc env body) (I:Nat->Shared->Prop)
  (o:∀n s,I n s->wpAny (model prog w) A (pyNext it) (λr f=>match r with
   |none=>R (.ok .next) f
   |some v=>wpAny (model prog w) A (letOwnedTupleGo tg it v) (λ_ Z=>wpAny (model prog w) A (assign tg env v) (λ_ k=>wpAny (model prog w) A body (λ_ c=>∃m,m<n/\I m c) (λ_ _=>False) k) (λ_ _=>False) Z) (λ_ _=>False) f) (λ_ _=>False) s)
  (n:Nat) (h:I n s):codeAny (model prog w) A (.compLoop e d it acc env) R s:=by
 rcases a with ⟨x,C,t,u,rfl⟩|⟨x,C,t,u,y,rfl⟩|⟨x,C,t,u,rfl⟩ <;>
 ·refine codeAny_loop rfl I (λn s J=>?_) n h;refine wpAny_noted ?_;rw[X];refine acs (acC (acs (acy (o n s J) (λr f O=>?_) λ_ _ z=>z.elim)));cases r with
  |none=>exact acv O
  |some v=>refine acs (acy O (λ_ Z Y=>?_) λ_ _ z=>z.elim);refine acs (acy Y (λ_ k M=>?_) λ_ _ z=>z.elim);exact acs (acy M (λ_ c P=>acv ⟨rfl,P⟩) λ_ _ z=>z.elim)
def J9(J:It)(g:TG)(T:TB)(σ:St)(H:Hp)(Q:St->Hp->Prop):Prop:=∃W:Nat->Nat->St->Hp->Prop,(∃m,W 0 m σ H)/\∀i m σ H,W i m σ H->(J.stop i H/\Q σ H)\/(J.go i H/\∀x l,J.yld i H x l->g x σ l λd j=>T d j λO q=>∃y,y<m/\W (i+1) y O q)
theorem sH(he:Ga e)(U:Y.calm=true)(hx:Y.xe=λ_ _=>False)
  (ht:compTurn e d (.ref it) acc Y.env=cV e d tg p (.ref it) acc Y.env body)
  (T:Turn Y.prog Y.w Y.K tg J fp it tn) (N:PG Y tg g) (S:PB Y body tb) (I:Inv Y pins σ H s) (st:tn 0 s.heap) (f:∀b∈fp,FpOk Y pins H b) (w:J9 J g tb σ H Q) (fin:∀a l B,Inv Y pins a l B->(∀b∈fp,l b=none)->Q a l->R (.ok .next) B):
  codeAny (model Y.prog Y.w) Y.A (.compLoop e d (.ref it) acc Y.env) R s:=by
 obtain⟨W,⟨m0,k⟩,a0⟩:=w;unfold PG at N;unfold PB at S;rw[hx]at N S;have L:∀{l:Hp},(∀b∈fp,l b=none)->∀b∈fp,FpOk Y pins l b:=λhn b S=>⟨hn b S,(f b S).2⟩
 refine sG he ht (λn B=>∃i a l,Inv Y pins a l B/\tn i B.heap/\(∀b∈fp,l b=none)/\W i n a l) ?_ m0 ⟨0,σ,H,I,st,λb S=>(f b S).1,k⟩;rintro n s3 ⟨i,O,q,z,j,M,w3⟩;rcases a0 i n O q w3 with ⟨a2,qn⟩|⟨h,a3⟩
 ·refine thn (T.done Y rfl rfl rfl U i pins s3 O q _ z (L M) j a2) λr c t=>?_;obtain⟨D,I4⟩:=t;subst D;exact fin O q c I4 M qn
 ·refine thn (T.item Y rfl rfl rfl U i pins s3 O q _ z (L M) j h) λr c t=>?_;obtain⟨u,D,P⟩:=t;subst D;refine thn P λ_ v t=>?_;obtain⟨x,X,F,r5,y5,Z,a4⟩:=t;refine thn (N _ v O X x u _ (F.pinned (L a4) (T.obj _ _ Z)) r5 (a3 x X y5)) λ_ s6 t=>?_;obtain⟨m,H6,I6,q6⟩:=t;refine thn (S _ s6 m H6 _ I6 q6) λ_ s7 t=>?_;obtain⟨a5,C,I7,y,hm,w7⟩:=t;have a1:=λb (S:b∈fp) o e=>I7.pin (b,o) (aad _ (aad _ (fg S e)));refine⟨y,hm,i+1,a5,C,I7.en,T.keep _ _ _ Z λb S o e=>(a1 b S o e).1,λb S=>?_,w7⟩;obtain⟨o,e,_⟩:=T.obj _ _ Z b S;exact(a1 b S o e).2.1
theorem Dp(n:Ga e)(W:(clausesOf e)[d]?=some c)(i:c.is_async=0)
  (T:codeAny (model prog w) A (.compLoop e d it acc env) R s) (h:wpAny (model prog w) A (pyIter it) (λI B=>codeAny (model prog w) A (.compLoop e d I acc env) R B) (λ_ _=>False) s):
  codeAny (model prog w) A (.compStart e d it acc env) R s:=by
 have J:((clausesOf e)[d]?).elim false (·.is_async !=0)=false:=by
  grind
 rcases n with ⟨x,C,t,u,rfl⟩|⟨x,C,t,u,y,rfl⟩|⟨x,C,t,u,rfl⟩ <;>
 ·refine codeAny_of_tree (wpAny_notedAt ?_);unfold compStart;rw[J,W];refine acs (wpAny_askSetting (wpAny_ite ?_));split
  ·first
    |exact acs (acv (acv ⟨rfl,T⟩))
    |exact acv ⟨rfl,T⟩
  ·refine acs (acH ?_);exact acs (acC (acs (acy h (λI B v=>acv ⟨rfl,v⟩) λ_ _ z=>z.elim)))
structure MkC (X:Cx)(mk:Sem Value)(o:Obj)(o0:HO):Prop where
 new:∀{s:Shared}{Q:Value->Shared->Prop},Q (.ref s.heap.objs.size) { s with heap:=s.heap.push o }->wpAny (model X.prog X.w) X.A mk Q X.xe s
 laid:∀{pins:List (Addr×Obj)}{σ:St}{H:Hp}{s:Shared},Inv X pins σ H s->Inv X pins σ (upd H s.heap.objs.size o0) { s with heap:=s.heap.push o }
def g6(B:HO)(Z:TI)(nt:Nat)(fr:List Nat)(g:CC->TG)(T:CC->Addr->TB):TE:=λL H Q=>Z L H λJ P=>∀(c:CC) D,P D=none->J9 J (g c) (T c D) (bV nt fr L) (upd P D B) λ_ l=>Q (.ref D) l
section
variable{rest:List Comprehension}{body:Addr->Env->Sem Unit}
theorem g7{a4:Option (Value->Sem Unit)}{B:Value->Shared->Prop}(n:Ga e)(a:clausesOf e=⟨tg,iter,ifs,0⟩::rest)(ht:∀it D env,compTurn e 0 it (.ref D) env=cV e 0 tg iter.pos it (.ref D) env (body D env))(M:MkC X mk o o0)(U:X.calm=true)(S:CompScope N nt fr X.N scope X.env.scope)(r:PI X tg iter wi)
  (hg:∀c:CC,PG (cB X N scope c) tg (g c)) (ha:∀(c:CC) D,PB (cB X N scope c) (body D (cB X N scope c).env) (tb c D))
  (I:Inv X pins σ H s) (h:g6 o0 wi nt fr g tb σ H Q) (b3:∀x∈scope.names,x.2=.free->X.env.kindOf x.1=some .cell)
  (fin:∀(D C:Addr) (v:Shared) (P:Hp),FpOk X pins P C->v.heap.get? C≠none->C≠X.env.locals->(∃m,v.heap.Ns C m)->(∀h',Heap.SameBut C v.heap h'->Inv X pins σ P { v with heap:=h' })->Q (.ref D) P ->
   compPost (model X.prog X.w) X.A X.xe a4 B (.ref D) C (.ok .next) v)
  (hs:∀x,foldedSetIterable iter X.env x=pure x:=by intro _;rfl):
  wpAny (model X.prog X.w) X.A (comprehension e scope X.env pos mk false (eval iter X.env) a4) B X.xe s:=by
 have a2:=λx hx y=>I.ok.has x.1 (.inl (b3 x hx y));obtain⟨L,a7,h1,h2⟩:=nY a2;refine wpAny_comprehension_free a hs a7 S.kind S.names (thn (r pins s σ H _ I h) λxv s1 hx=>thn hx λb5 Z a9=>?_);obtain⟨it,d,tn,J,j,rfl,W,T,a5,F,f⟩:=a9;have b2:=λb hb=>let ⟨o,e,_⟩:=T.obj 0 _ a5 b hb;acu e
 refine M.new (wpAny_newFunctionEnv S.nocell (by simp) (λu a1 a0=>?_) S.kind);have i:=W.hok.fresh (aac _);have I3:=M.laid W;generalize hs3:({ Z with heap:=Z.heap.push o })=s3 at a1 a0 I3 ⊢;have f:=f ⟨L,s3,upd j Z.heap.objs.size o0,d,pins⟩ _ i;have k:∀b o,Z.heap.get? b=some o->s3.heap.get? b=some o:=λb o e=>by rw[<-hs3];exact acw _ e
 have q:s3.heap.objs.size=Z.heap.objs.size+1:=by rw[<-hs3];simp
 have O:s3.os=Z.os:=by grind
 have f3:∀b∈d,FpOk X pins (upd j Z.heap.objs.size o0) b:=λb hb=>⟨by rw[upd_ne (aao (b2 b hb))];exact(F b hb).1,(F b hb).2⟩
 have b4:=λb o e=>a0.extBut b o (aao (acu e)) (acw _ e);generalize hs4:({ s3 with heap:=u,toks:=s3.toks+([]).length })=s4;have b1:s4.heap=u:=by grind
 have I4:Inv (fW X N scope L s3 (upd j Z.heap.objs.size o0) d pins) [] (bV nt fr σ) (upd j Z.heap.objs.size o0) s4:=
  nZ S I3 f3 (λb hb=>by grind) h1 h2 (λb o e=>by grind) ⟨_,by rw[b1];omega⟩ (by grind) (by grind)
 have a8:tn 0 s4.heap:=T.keep 0 _ _ a5 λb hb o e=>by grind
 have a3:codeAny (model X.prog X.w) X.A (.compLoop e 0 (.ref it) (.ref Z.heap.objs.size) (compEnvC scope L s3.heap.objs.size X.env))
   (compPost (model X.prog X.w) X.A X.xe a4 B (.ref Z.heap.objs.size) s3.heap.objs.size) s4:=by
  have a6:∀{l:Hp},(∀b∈d,l b=none)->∀b∈d,FpOk (fW X N scope L s3 (upd j Z.heap.objs.size o0) d pins) [] l b:=λ{l} hn b hb=>
   ⟨hn b hb,aao (show b<s3.heap.objs.size by grind),λz=>I4.ok.exfs b hb z,.inl hb,λx c e=>(F b hb).2.2.2.2.1 x c (h1 x c e),λp hp=>(F b hb).2.2.2.2.2 p (by
    rcases aaj.mp hp with z|z
    ·exact z
    ·grind)⟩
  refine sH n (Y:=fW X N scope L s3 (upd j Z.heap.objs.size o0) d pins) U rfl (ht ..) T (hg ⟨L,s3,upd j Z.heap.objs.size o0,d,pins⟩) (ha ⟨L,s3,upd j Z.heap.objs.size o0,d,pins⟩ _) I4 a8 (a6 λb hb=>(f3 b hb).1) f λb6 H6 s6 I6 _ qn=>?_;obtain⟨m,hm,_⟩:=id I6.loc;refine fin _ _ s6 H6 (W.pa (by rw[q];exact aa9 _) I6.free) ?_ ?_ ⟨m,hm⟩ (λh' b0=>vh W F i (aac _) (by rw[q];exact aa8 _) k O I6 b0) qn
  ·obtain⟨o,_,_,ho,_⟩:=hm;intro z;have t:s6.heap.get? s3.heap.objs.size=some o:=ho;rw[z]at t;cases t
  ·exact aa7 (abI W.lt (by rw[q];exact aa8 _))
 exact Dp n (by rw[a];rfl) rfl a3 (T.self X.A 0 s4 _ _ a8 a3)
theorem qc{Z O:Pos}(n:Ga e)(a0:clausesOf e=⟨tg,iter,ifs,0⟩::rest)(ht:∀it D env,compTurn e 0 it (.ref D) env=cV e 0 tg iter.pos it (.ref D) env (body D env))(M:MkC X mk o o0)(hu:∀Q,evalThenUse e X.env Q=(do let _ <-comprehension e scope X.env pos mk false (eval iter X.env) (some Q)))(u:X.N.Nodup)(t:X.N[i]?=some y)(j:X.env.scope.names.lookup y=some .local)(U:X.calm=true)(S:CompScope N nt fr X.N scope X.env.scope)(r:PI X tg iter wi)
  (hg:∀c:CC,PG (cB X N scope c) tg (g c)) (ha:∀(c:CC) D,PB (cB X N scope c) (body D (cB X N scope c).env) (tb c D))
  (hs:∀x,foldedSetIterable iter X.env x=pure x:=by intro _;rfl)
  (B:swapsWith e (some (.Name y Z)) O.line X.env=pure true):
  PS X (.Assign [.Name y Z] e O) (nH (g6 o0 wi nt fr g tb) (gU i)):=by
 intro a1 s L H D I h;rw[exec_Assign_Name_used _ _ _ _ B];refine acs (acC (acs ?_));rw[hu];refine acs (acy (g7 n a0 ht M U S r hg ha I h (λx hx hf=>S.cells x hx hf) (λw C s5 P d f _ Y J q=>?_) hs) (λ_ s' A=>acv (acv A)) λ_ _ e=>e);obtain⟨m,Y⟩:=Y;have F:=J s5.heap ⟨rfl,λ_ _=>rfl⟩;refine wpAny_assign_Name (jr F u t (.inl j) (v:=.ref w) rfl (λs6 I6 T=>?_) (.inr j));obtain⟨a,l,k⟩:=T;have W:C≠a:=by
  rcases k with e|e
  ·rw[e];exact d.2.1
  ·exact λz=>d.2.2.2.2.1 _ _ e z.symm
 exact⟨m,Y.sameBut l W,λh' p=>⟨_,P,I6.turned (λb o hb e=>(p.2 b hb).trans e) d.1 d.2.1 d.2.2.2.1 d.2.2.2.2.1 d.2.2.2.2.2,q⟩⟩
theorem vi(n:Ga e)(a:clausesOf e=⟨tg,iter,ifs,0⟩::rest)(Z:∀it D env,compTurn e 0 it (.ref D) env=cV e 0 tg iter.pos it (.ref D) env (body D env))(M:MkC X mk o o0)(l:eval e X.env=comprehension e scope X.env pos mk false (eval iter X.env))(U:X.calm=true)(S:CompScope N nt fr X.N scope X.env.scope)(r:PI X tg iter wi)
  (j:∀c:CC,PG (cB X N scope c) tg (g c)) (i:∀(c:CC) D,PB (cB X N scope c) (body D (cB X N scope c).env) (tb c D)) (f:∀x,foldedSetIterable iter X.env x=pure x):PE X e (g6 o0 wi nt fr g tb):=by
 intro B s L H Q I h;rw[l];refine g7 n a Z M U S r j i I h (λx t y=>S.cells x t y) (λD C b P _ _ _ Y J q=>?_) f;obtain⟨m,Y⟩:=Y;exact⟨m,Y,λv p=>⟨.ref D,P,J v p,rfl,q⟩⟩
end
abbrev TC:=Addr->St->Hp->(Hp->Prop)->Prop
def qe(W:TE):TC:=λD L H Q=>W L H λy P=>∃o,P D=some (.lst o)/\o.length<sizeLine/\Q (upd P D (.lst (o++[y])))
def GP(T:TT)(o:TE):TC:=λD L H Q=>T L H λb P=>if b=true then qe o D L P Q else Q P
abbrev tZ(tc:CC->TC):CC->Addr->TB:=λc D σ H Q=>tc c D σ H (Q σ)
abbrev qf(wi:TI)(nt:Nat)(fr:List Nat)(g:CC->TG)(tc:CC->TC):TE:=g6 (.lst []) wi nt fr g (tZ tc)
def MC(o:TE)(D:Addr):TB:=λL H Q=>qe o D L H (Q L)
noncomputable abbrev Ka(elt tg iter tg2 iter2:Expr)(scope:Scope)(pos:Pos):Expr:=.ListComp elt [⟨tg,iter,[],0⟩,⟨tg2,iter2,[],0⟩] scope pos
abbrev Jt(elt:Expr)(acc:Value)(env:Env):Sem Unit:=eval elt env >>= λx=>call (.builtin "list.append") [acc,x] >>= λ_=>pure ()
abbrev inB(elt tg iter tg2 iter2:Expr)(scope:Scope)(pos:Pos)(acc:Value)(env:Env):Sem Unit:=eval iter2 env >>= λx=>standAt iter2.pos >>= λ_=>foldedSetIterable iter2 env x >>= λx=>holding [x] (pyIter x) >>= λit=>runOwn (.compStart (Ka elt tg iter tg2 iter2 scope pos) 1 it acc env) env >>= λ_=>pure ()
theorem BA(n:PE Y elt te):PB Y (Jt elt (.ref D) Y.env) (MC te D):=λM s L H Q I h=>by
 refine acs (thn (n M s L H _ I h) λu f t=>?_);obtain⟨y,P,B,w,o,i,d,q⟩:=t;exact acs (thn (eG M f L P (.ref D) [y] (.ref D) [u] (λv l=>v=.non/\Q L l) B rfl (.cons w .nil) ⟨D,o,y,rfl,rfl,i,d,rfl,q⟩) λv Z t=>by
  obtain⟨z,j,W,_,_,b⟩:=t;exact acv ⟨L,j,W,b⟩)
noncomputable abbrev BB(ifs:List Expr)(act:Sem Unit)(env:Env):Sem Unit:=(forIn ifs true λc r=>if r=true then do let ok <-isTrue c env (eval c env);pure (ForInStep.yield ok) else pure (ForInStep.yield r)) >>= λok=>if ok=true then act else pure ()
theorem vj(h:PB Y act tb):PB Y (BB [] act Y.env) tb:=by grind
theorem Dq(U:PT Y c tt)(h:PB Y act tb):PB Y (BB [c] act Y.env) (λσ H Q=>tt σ H λb P=>if b=true then tb σ P Q else Q σ P):=λM s σ H Q I q=>by
 refine acs (wpAny_tests_one (thn (U M s σ H _ I q) λb f t=>?_));obtain⟨P,B,m⟩:=t;cases b with
 |true=>exact h M f σ P Q B m
 |false=>exact acv ⟨σ,P,B,m⟩
def n5(Y:Cx)(D:Addr)(S:List Expr)(elt:Expr)(tc:TC):Prop:=PB Y (BB S (Jt elt (.ref D) Y.env) Y.env) (λL H Q=>tc D L H (Q L))
theorem sI(n:PE Y elt te):n5 Y D [] elt (qe te):=vj (BA n)
theorem vk(U:PT Y c tt)(n:PE Y elt te):n5 Y D [c] elt (GP tt te):=Dq U (BA n)
theorem LL:MkC X (newList []) { cls:=.type "list",dict:=none,data:=.seq ([]:List Value).toArray } (.lst []):=⟨λh=>acG h (by show 0<=sizeLine;simp),λI=>I.lnew .nil (aaB _)⟩
theorem jp{Y:Type}(m:Sem Bool)(a:Sem Unit)(k:Sem Y):(m >>= λT=>if T=true then a >>= λ_=>k else k)=((m >>= λT=>if T=true then a else pure ()) >>= λ_=>k):=by rw[bind_assoc];congr 1;funext T;cases T<;>rfl
theorem vm(it s:Value)(env:Env):compTurn (.ListComp elt [⟨tg,iter,ifs,0⟩] scope pos) 0 it s env=cV (.ListComp elt [⟨tg,iter,ifs,0⟩] scope pos) 0 tg iter.pos it s env (BB ifs (Jt elt s env) env):=by rw[compTurn_list];simp only[cV,BB,<-jp,Jt];rfl
theorem yZ(U:X.calm=true)(S:CompScope N nt fr X.N scope X.env.scope)(r:PI X tg iter wi)(m:∀c:CC,PG (cB X N scope c) tg (g c))(i:∀(c:CC) D,n5 (cB X N scope c) D ifs elt (tc c))(f:∀x,foldedSetIterable iter X.env x=pure x:=by intro _;rfl):
  PE X (.ListComp elt [⟨tg,iter,ifs,0⟩] scope pos) (qf wi nt fr g tc):=vi (.inl ⟨_,_,_,_,rfl⟩) rfl (λ_ _ _=>vm ..) LL rfl U S r m i f
theorem y3(u:X.N.Nodup)(t:X.N[i]?=some y)(j:X.env.scope.names.lookup y=some .local)(U:X.calm=true)(S:CompScope N nt fr X.N scope X.env.scope)(r:PI X tg iter wi)(A:∀c:CC,PG (cB X N scope c) tg (g c))(m:∀(c:CC) D,n5 (cB X N scope c) D ifs elt (tc c))(f:∀x,foldedSetIterable iter X.env x=pure x)
  (B:swapsWith (.ListComp elt [⟨tg,iter,ifs,0⟩] scope pos) (some (.Name y py)) spos.line X.env=pure true):PS X (.Assign [.Name y py] (.ListComp elt [⟨tg,iter,ifs,0⟩] scope pos) spos) (nH (qf wi nt fr g tc) (gU i)):=
 qc (.inl ⟨_,_,_,_,rfl⟩) rfl (λ_ _ _=>vm ..) LL (λ_=>rfl) u t j U S r A m f B
end
section
theorem fE{items}(u:s.heap.IsTupleIter it t i)
  (X:s.heap.IsTuple t items) (C:items[i]?=some x)
  (J:∀h',h'.IsTupleIter it t (i+1)->Heap.SameBut it s.heap h'->Q x { s with heap:=h' }):
  wpAny (model prog w) A (Builtin.SmallTypes.nextOf (.ref it)) Q E s:=by
 obtain⟨o,T,U,W⟩:=id u;obtain⟨O,H,_,N,l⟩:=X;unfold Builtin.SmallTypes.nextOf;refine acs (acR u.typeIs acS
  (acM acS u.typeIs ac0 ?_ (ac1 _)))
 show wpAny _ _ (field (.ref it) 0 >>= _) _ _ s;refine acs (acz T W rfl ?_);show wpAny _ _ (if (Value.ref t==Value.none)=true then _ else _) _ _ s;rw[if_neg (show ¬ ((Value.ref t==Value.none)=true) from aar)];refine acs (acz T W rfl ?_);refine acs (acD H l ?_);simp only[aaM,C];refine acs (wpAny_setField T W (by simp) (acv ⟨x,rfl,acv (J _ ?_ (Heap.SameBut.update ..))⟩));exact⟨_,Heap.get?_update_self _ T (Obj.isFreed_of_fields (Obj.data_mapFields W _)),(Obj.cls_mapFields ..).trans U,by
  rw[Obj.data_mapFields W];rfl⟩
theorem fX{items}{Q:Value->Shared->Prop}(L:A.handled=none)
  (u:s.heap.IsTupleIter it t i) (X:s.heap.IsTuple t items) (C:items[i]?=none)
  (hE:∀h' e,Heap.ExtBut it s.heap h'->(∃o,h'.get? e=some o/\o.cls=.type "StopIteration")->E (.ref e) { s with heap:=h' }):
  wpAny (model prog w) A (Builtin.SmallTypes.nextOf (.ref it)) Q E s:=by
 obtain⟨o,T,U,W⟩:=id u;obtain⟨O,H,_,N,l⟩:=X;unfold Builtin.SmallTypes.nextOf;refine acs (acR u.typeIs acS
  (acM acS u.typeIs ac0 ?_ (ac1 _)))
 show wpAny _ _ (field (.ref it) 0 >>= _) _ _ s;refine acs (acz T W rfl ?_);show wpAny _ _ (if (Value.ref t==Value.none)=true then _ else _) _ _ s;rw[if_neg (show ¬ ((Value.ref t==Value.none)=true) from aar)];refine acs (acz T W rfl ?_);refine acs (acD H l ?_);simp only[aaM,C];refine acs (acH (acs (wpAny_setField T W (by simp) ?_)));refine acs ?_;simp only[newExc,newTuple];refine acs (acG ?_ (by size_fits));refine acs (wpAny_of_eq (by rfl) ?_);refine acG ?_ (by size_fits);simp only[raiseNew];refine acs (wpAny_handled ?_)
 first|rw[L]|rw[L]
 refine acs (acv (wpAny_throw ?_));exact hE _ _ (((Heap.SameBut.update ..).extBut.push _).push _) ⟨_,acx _ rfl,rfl⟩
inductive ZS where
 |lst (a:Addr) (xs:List V)
 |tup (a:Addr) (xs:List V)
 |str (z:Str)
noncomputable def ZS.items:ZS->List V
 |.lst _ xs=>xs
 |.tup _ xs=>xs
 |.str z=>z.cps.toList.map λc=>.str ⟨#[c]⟩
def ZS.val:ZS->V
 |.lst a _=>.ref a
 |.tup a _=>.ref a
 |.str z=>.str z
def ZS.ok(K:Waa)(H:Hp):ZS->Prop
 |.lst a xs=>SqL K H a xs
 |.tup a xs=>SqT K H a xs
 |.str _=>True
structure Sub (prog:Program)(w:World)(A:Around)(i:Addr)(sl:List Addr)(src:Heap->Prop)(st:Nat->Heap->Prop)(vs:List V):Prop where
 sfr:∀h h',src h->(∀b∈sl,∀o,h.get? b=some o->h'.get? b=some o)->src h'
 ifr:∀k h h',st k h->(∀o,h.get? i=some o->h'.get? i=some o)->st k h'
 item:∀(k:Nat) (s:Shared) (x:V) (Q:Value->Shared->Prop) (E:Value->Shared->Prop),vs[k]?=some x->src s.heap->st k s.heap ->
  (∀v h' tk,RelV x v->st (k+1) h'->Heap.SameBut i s.heap h'->Q v { s with heap:=h',toks:=tk })->wpAny (model prog w) A (Builtin.SmallTypes.nextOf (.ref i)) Q E s
 done:∀(k:Nat) (s:Shared) (Q:Value->Shared->Prop) (E:Value->Shared->Prop),vs.length<=k->src s.heap->st k s.heap ->
  (∀h' e,Heap.ExtBut i s.heap h'->(∃o,h'.get? e=some o/\o.cls=.type "StopIteration")->E (.ref e) { s with heap:=h' })->wpAny (model prog w) A (Builtin.SmallTypes.nextOf (.ref i)) Q E s
theorem Sub.list(L:A.handled=none)(i l:Addr)(r:Vals xs its):
  Sub prog w A i [l] (λh=>h.IsList l its.toArray) (λk h=>h.IsListIter i l k) xs where
 sfr:=λh v x k=>x.at λo e=>k l (by simp) o e
 ifr:=λk h v x f=>x.at λo e=>f o e
 item:=λk s x Q E C g m J=>by obtain⟨u,U,p⟩:=r.get C;exact wpAny_nextOf_list_item m g (by simpa using U) λv a W=>J u v s.toks p a W
 done:=λk s Q E F g m H=>by have j:=r.length;exact wpAny_nextOf_list_end L m g (by simp;omega) H
theorem Sub.tuple(L:A.handled=none)(i l:Addr)(r:Vals xs its):
  Sub prog w A i [l] (λh=>h.IsTuple l its.toArray) (λk h=>h.IsTupleIter i l k) xs where
 sfr:=λh v ⟨o,e,c⟩ k=>⟨o,k l (by simp) o e,c⟩
 ifr:=λk h v ⟨o,e,c⟩ f=>⟨o,f o e,c⟩
 item:=λk s x Q E C g m J=>by obtain⟨u,U,p⟩:=r.get C;exact fE m g (by grind) λv a W=>J u v s.toks p a W
 done:=λk s Q E F g m H=>by have j:=r.length;exact fX L m g (by grind) H
theorem Sub.strs(I:A.handled=none)(i:Addr)(z:Str)(t:Tok):
  Sub prog w A i [] (λ_=>True) (λk h=>h.IsStrIter i (strIterType z) z t k) (z.cps.toList.map λc=>V.str ⟨#[c]⟩) where
 sfr:=λh v x k=>trivial
 ifr:=λk h v ⟨o,e,c⟩ f=>⟨o,f o e,c⟩
 item:=λk s x Q E C g m J=>by
  rw[aaz]at C;cases e:z.cps.toList[k]? with
  |none=>rw[e]at C;cases C
  |some c=>
   rw[e]at C;have b:V.str ⟨#[c]⟩=x:=aa0 C;subst b;have L:z.cps[k]?=some c:=by rw[<-Array.getElem?_toList];exact e
   unfold strIterType at m J;split at m
   ·rename_i d;rw[if_pos d]at J;exact wpAny_nextOf_ascii_item m L λv a W=>J _ v _ ⟨_,rfl⟩ a W
   ·rename_i d;rw[if_neg d]at J;exact wpAny_nextOf_wide_item m L λv a W=>J _ v _ ⟨_,rfl⟩ a W
 done:=λk s Q E F g m H=>by
  have L:z.cps[k]?=none:=by rw[aae,Array.length_toList]at F;exact Array.getElem?_eq_none F
  unfold strIterType at m;split at m
  ·exact wpAny_nextOf_ascii_end I m L H
  ·exact wpAny_nextOf_wide_end I m L H
structure ZApart (z TI TO i1 i2:Addr)(sl1 sl2:List Addr):Prop where
 TIz:TI≠z
 TOz:TO≠z
 i1z:i1≠z
 i2z:i2≠z
 TITO:TI≠TO
 TIi1:TI≠i1
 TIi2:TI≠i2
 TOi1:TO≠i1
 TOi2:TO≠i2
 i12:i1≠i2
 s1:∀b∈sl1,b≠z/\b≠TO/\b≠i1/\b≠i2
 s2:∀b∈sl2,b≠z/\b≠TO/\b≠i1/\b≠i2
theorem sJ{z M H i L:Addr}{Q:Value->Shared->Prop}(D:ZApart z M H i L sl1 sl2)
  (g:Sub prog w A i sl1 src1 st1 xs) (j:Sub prog w A L sl2 src2 st2 ys)
  (d:IsZip s.heap z M H .none) (b5:IsPair s.heap M (.ref i) (.ref L)) (m:IsPair s.heap H a b)
  (O:st1 k s.heap) (h2:st2 k s.heap) (b7:src1 s.heap) (r:src2 s.heap) (hx:xs[k]?=some x) (hy:ys[k]?=some y)
  (hQ:∀u v h' tk,RelV x u->RelV y v->IsZip h' z M H (rawInt s.heap.objs.size)->IsPair h' H u v->st1 (k+1) h'->st2 (k+1) h'->IsPair h' s.heap.objs.size u v->h'.objs.size=s.heap.objs.size+1 ->
   (∀c o,c≠z->c≠H->c≠i->c≠L->s.heap.get? c=some o->h'.get? c=some o)->Q (.ref s.heap.objs.size) { s with heap:=h',toks:=tk })
  (c7:i<s.heap.objs.size) (c8:L<s.heap.objs.size):
  wpAny (model prog w) A (Builtin.«zip.__next__» ⟨[.ref z],[]⟩) (λb8 s'=>∃v,b8=.done (.ret v)/\Q v s') E s:=by
 show wpAny _ _ (field (.ref z) 2 >>= _) _ _ _;refine acs (acz d rfl rfl ?_);refine acs (acz d rfl rfl ?_);refine acs (acD b5 rfl ?_);refine acs ?_;unfold Builtin.SmallTypes.ownedTupleIsFree;refine acs (acz d rfl rfl (acv ?_));simp only[if_true];refine acs (acH ?_);refine acs (acz d rfl rfl ?_);refine acs (acI d (by simp) λc5 B N=>?_);replace B:=B;refine acs ?_;simp only[List.zipIdx_cons,List.zipIdx_nil,abF,List.forIn_nil];refine acs (acs (acT ?_));refine acs (g.item k _ x _ _ hx (g.sfr _ _ b7 λb S o e=>N.extBut b o (D.s1 b S).1 e) (g.ifr _ _ _ O λo e=>N.extBut _ o D.i1z e) λu c6 b6 p a6 F=>acv ?_);have F:=F;have a2:=F.extBut _ _ D.TOi1 (N.extBut _ _ D.TOz m);refine acs (acD a2 rfl ?_);refine acs (acY a2 λb9 a0 I=>?_);replace a0:=a0;have I:=I;refine acs (wpAny_letGo (acv ?_));refine acs (acs (acT ?_));refine acs (j.item k _ y _ _ hy (j.sfr _ _ r λb S o e=>I.extBut b o (D.s2 b S).2.1 (F.extBut b o (D.s2 b S).2.2.1 (N.extBut b o (D.s2 b S).1 e)))
  (j.ifr _ _ _ h2 λo e=>I.extBut _ o D.TOi2.symm (F.extBut _ o D.i12.symm (N.extBut _ o D.i2z e))) λv c0 t rv a9 U=>acv ?_)
 have U:=U;have a1:=U.extBut _ _ D.TOi2 a0;refine acs (acD a1 rfl ?_);refine acs (acY a1 λT C f=>?_);replace C:IsPair T H u v:=C;have f:=f;refine acs (wpAny_letGo (acv (acv ?_)));refine acs (acD C rfl ?_);refine acs (wpAny_newTuple ?_);have b3:T.objs.size=s.heap.objs.size:=by rw[f.1,U.1,I.1,F.1,N.1]
 have a4:=f.extBut _ _ D.TOz.symm (U.extBut _ _ D.i2z.symm (I.extBut _ _ D.TOz.symm (F.extBut _ _ D.i1z.symm B)));have a7:∀c o,c≠z->c≠H->c≠i->c≠L->s.heap.get? c=some o->T.get? c=some o:=λc o P q X h e=>
  f.extBut _ _ q (U.extBut _ _ h (I.extBut _ _ q (F.extBut _ _ X (N.extBut _ _ P e))))
 have a8:=g.ifr _ _ _ a6 λo e=>f.extBut _ o D.TOi1.symm (U.extBut _ o D.i12 (I.extBut _ o D.TOi1.symm e));have b1:=j.ifr _ _ _ a9 λo e=>f.extBut _ o D.TOi2.symm e;have a5:=acu a4;refine acs ?_;unfold Builtin.SmallTypes.ownedTupleHandOut;have b0:IsZip (T.push { cls:=.type "tuple",data:=.seq #[u,v] }) z M H .ellipsis:=acw _ a4;refine acs (acI b0 (by simp) λb2 W Z=>?_);replace W:IsZip b2 z M H (rawInt T.objs.size):=W;refine acI W (by simp) λn J Y=>?_;replace J:IsZip n z M H (rawInt T.objs.size):=J;have l:∀c o,c≠z->T.get? c=some o->n.get? c=some o:=λc o P e=>Y.extBut _ _ P (Z.extBut _ _ P (acw _ e));have a3:IsPair n T.objs.size u v:=Y.extBut _ _ (aa7 a5) (Z.extBut _ _ (aa7 a5) (acx _ rfl));have b4:n.objs.size=T.objs.size+1:=by rw[Y.1,Z.1,acK]
 rw[b3]at J a3 b4;refine acv ⟨_,rfl,?_⟩;show Q (.ref T.objs.size) _;rw[b3];exact hQ u v n _ p rv J (l _ _ D.TOz C) (g.ifr _ _ _ a8 λo e=>l _ o D.i1z e) (j.ifr _ _ _ b1 λo e=>l _ o D.i2z e) a3 b4 λc o P q X h e=>l c o P (a7 c o P q X h e)
theorem vn{z M H i L:Addr}{Q:Fin->Shared->Prop}(D:ZApart z M H i L sl1 sl2)
  (g:Sub prog w A i sl1 src1 st1 xs) (j:Sub prog w A L sl2 src2 st2 ys)
  (d:IsZip s.heap z M H .none) (y:IsPair s.heap M (.ref i) (.ref L)) (m:IsPair s.heap H a b)
  (O:st1 k s.heap) (h2:st2 k s.heap) (W:src1 s.heap) (r:src2 s.heap) (a4:xs.length<=k\/ys.length<=k)
  (hE:∀h' Y e,(∀c o,c≠z->c≠H->c≠i->c≠L->s.heap.get? c=some o->h'.get? c=some o)->(∃o,h'.get? e=some o/\o.cls=.type "StopIteration")->E (.ref e) { s with heap:=h',toks:=Y }):
  wpAny (model prog w) A (Builtin.«zip.__next__» ⟨[.ref z],[]⟩) Q E s:=by
 show wpAny _ _ (field (.ref z) 2 >>= _) _ _ _;refine acs (acz d rfl rfl ?_);refine acs (acz d rfl rfl ?_);refine acs (acD y rfl ?_);refine acs ?_;unfold Builtin.SmallTypes.ownedTupleIsFree;refine acs (acz d rfl rfl (acv ?_));simp only[if_true];refine acs (acH ?_);refine acs (acz d rfl rfl ?_);refine acs (acI d (by simp) λb1 B N=>?_);replace B:=B;refine acs ?_;simp only[List.zipIdx_cons,List.zipIdx_nil,abF,List.forIn_nil];refine acs (acs (acT ?_));have l:=g.sfr _ _ W λb S o e=>N.extBut b o (D.s1 b S).1 e;have v:=g.ifr _ _ _ O λo e=>N.extBut _ o D.i1z e;by_cases C:xs.length<=k
 ·refine acs (g.done k _ _ _ C l v λa5 e F n=>?_);have F:=F;obtain⟨oe,p,J⟩:=n;have a2:=F _ _ D.i1z.symm B;have Z:e≠z:=λx=>by subst x;rw[a2]at p;cases p;simp at J
  refine acI a2 (by simp) λa3 _ I=>hE a3 _ e (λc o P _ X _ x=>I.extBut _ _ P (F _ _ X (N.extBut _ _ P x))) ⟨oe,I.extBut _ _ Z p,J⟩
 ·have t:ys.length<=k:=by rcases a4 with h|h;exact absurd h C;exact h
  obtain⟨x,a9⟩:∃x,xs[k]?=some x:=⟨_,aam (Nat.lt_of_not_le C)⟩
  refine acs (g.item k _ x _ _ a9 l v λu a5 a8 ru a7 F=>acv ?_);have F:=F;have a0:=F.extBut _ _ D.TOi1 (N.extBut _ _ D.TOz m);refine acs (acD a0 rfl ?_);refine acs (acY a0 λa3 a6 I=>?_);have I:=I;refine acs (wpAny_letGo (acv ?_));refine acs (acs (acT ?_));refine acs (j.done k _ _ _ t (j.sfr _ _ r λb S o e=>I.extBut b o (D.s2 b S).2.1 (F.extBut b o (D.s2 b S).2.2.1 (N.extBut b o (D.s2 b S).1 e)))
   (j.ifr _ _ _ h2 λo e=>I.extBut _ o D.TOi2.symm (F.extBut _ o D.i12.symm (N.extBut _ o D.i2z e))) λb0 e U n=>?_)
  have U:=U;obtain⟨oe,p,J⟩:=n;have a1:=U _ _ D.i2z.symm (I.extBut _ _ D.TOz.symm (F.extBut _ _ D.i1z.symm B));have Z:e≠z:=λx=>by subst x;rw[a1]at p;cases p;simp at J
  refine acI a1 (by simp) λT _ f=>hE T _ e (λc o P q X c4 x=>f.extBut _ _ P (U _ _ c4 (I.extBut _ _ q (F.extBut _ _ X (N.extBut _ _ P x))))) ⟨oe,f.extBut _ _ Z p,J⟩
theorem n6{z M H i L:Addr}(D:ZApart z M H i L sl1 sl2)
  (g:Sub prog w A.in1 i sl1 src1 st1 xs) (j:Sub prog w A.in1 L sl2 src2 st2 ys)
  (d:IsZip s.heap z M H .none) (e:IsPair s.heap M (.ref i) (.ref L)) (m:IsPair s.heap H a b)
  (O:st1 k s.heap) (Z:st2 k s.heap) (W:src1 s.heap) (r:src2 s.heap) (C:xs[k]?=some x) (t:ys[k]?=some y)
  (J:∀u v h' Y,RelV x u->RelV y v->IsZip h' z M H (rawInt s.heap.objs.size)->IsPair h' H u v->st1 (k+1) h'->st2 (k+1) h'->IsPair h' s.heap.objs.size u v->h'.objs.size=s.heap.objs.size+1 ->
   (∀c o,c≠z->c≠H->c≠i->c≠L->s.heap.get? c=some o->h'.get? c=some o)->Q (some (.ref s.heap.objs.size)) { s with heap:=h',toks:=Y })
  (h:i<s.heap.objs.size) (P:L<s.heap.objs.size):
  wpAny (model prog w) A (pyNext (.ref z)) Q E s:=by
 have f:s.TypeIs (.ref z) "zip":=⟨_,d,rfl⟩
 unfold pyNext;exact acs (wpAny_attempt (acR f acU
  (acM acU f F.entry_zip_next
   (sJ D g j d e m O Z W r C t (λu v h' Y q p I U T l S N n=>acv (J u v h' Y q p I U T l S N n)) h P) (F.args_zip_next_1 _))))
theorem sL{z M H i L:Addr}(D:ZApart z M H i L sl1 sl2)
  (g:Sub prog w A.in1 i sl1 src1 st1 xs) (j:Sub prog w A.in1 L sl2 src2 st2 ys)
  (d:IsZip s.heap z M H .none) (y:IsPair s.heap M (.ref i) (.ref L)) (m:IsPair s.heap H a b)
  (O:st1 k s.heap) (Z:st2 k s.heap) (W:src1 s.heap) (r:src2 s.heap) (I:xs.length<=k\/ys.length<=k)
  (J:∀h' Y,(∀c o,c≠z->c≠H->c≠i->c≠L->s.heap.get? c=some o->h'.get? c=some o)->Q none { s with heap:=h',toks:=Y }):wpAny (model prog w) A (pyNext (.ref z)) Q E s:=by
 have f:s.TypeIs (.ref z) "zip":=⟨_,d,rfl⟩
 unfold pyNext;refine acs (wpAny_attempt (acR f acU
  (acM acU f F.entry_zip_next (vn D g j d y m O Z W r I λh' Y e N n=>?_) (F.args_zip_next_1 _))))
 obtain⟨o,T,U⟩:=n;refine acs (wpAny_isInstance ⟨o,T,U⟩ isSubtype_stop ?_);exact acv (J _ _ N)
end
section
def Kb(K:Waa)(a b:ZS):It:=
 ⟨λi H=>a.ok K H/\b.ok K H/\i<a.items.length/\i<b.items.length,
  λi H v l=>∃T x y,a.items[i]?=some x/\b.items[i]?=some y/\H T=none/\v=.ref T/\l=upd H T (.tup [x,y]),
  λi H=>a.ok K H/\b.ok K H/\(a.items.length<=i\/b.items.length<=i)⟩
noncomputable def ZS.rcd:ZS->Value->Obj
 |.lst _ _,v=>{ cls:=.type "list_iterator",data:=.fields #[v,.int 0 0] }
 |.tup _ _,v=>{ cls:=.type "tuple_iterator",data:=.fields #[v,.int 0 0] }
 |.str z,v=>{ cls:=.type (strIterType z),data:=.fields #[v,.int 0 0] }
def ZS.st(a:ZS)(v:Value)(i:Addr)(k:Nat)(h:Heap):Prop:=match a,v with
 |.lst l _,_=>h.IsListIter i l k
 |.tup l _,_=>h.IsTupleIter i l k
 |.str z,.str _ t=>h.IsStrIter i (strIterType z) z t k
 |.str _,_=>False
def ZS.sl:ZS->List Addr
 |.lst l _=>[l]
 |.tup l _=>[l]
 |.str _=>[]
theorem ZS.lk{a:ZS}(x:a.st v i k h):∃o,h.get? i=some o/\∀c,o.data≠.cell c:=by
 cases a with
 |lst l Y=>obtain⟨o,e,c,d⟩:=(x);grind
 |tup l Y=>obtain⟨o,e,c,d⟩:=(x);grind
 |str z=>
  cases v with
  |str y t=>obtain⟨o,e,c,d⟩:=(x);grind
  |_=>trivial
theorem ZS.ez{a:ZS}(x:a.st v i k h)(f:∀o,h.get? i=some o->h'.get? i=some o):a.st v i k h':=by
 cases a with
 |lst l Y=>obtain⟨o,e,c⟩:=(x);exact⟨o,f o e,c⟩
 |tup l Y=>obtain⟨o,e,c⟩:=(x);exact⟨o,f o e,c⟩
 |str z=>
  cases v with
  |str y t=>obtain⟨o,e,c⟩:=(x);exact⟨o,f o e,c⟩
  |_=>trivial
theorem ZS.sub(a:ZS)(I:Inv X pins σ H s)(T:a.ok X.K H)(O:RelV a.val v)(A:Around)(L:A.handled=none)(i:Addr):
  ∃C:Heap->Prop,C s.heap/\Sub X.prog X.w A i a.sl C (a.st v i) a.items/\(∀b∈a.sl,∃o,s.heap.get? b=some o/\(H b≠none\/X.base.get? b=some o)):=by
 cases a with
 |lst l Y=>
  have T:SqL X.K H l Y:=T;obtain⟨D,r,p,d⟩:=I.list T;refine⟨_,p.isList,Sub.list L i l r,λb S=>?_⟩;have e:b=l:=by simpa[ZS.sl] using S
  subst e;rcases T with (h|⟨o,h⟩)|⟨o,B,n,F,_⟩
  ·obtain⟨_,_,_,_,e⟩:=I.hok _ _ h;exact⟨_,e,.inl (by rw[h];simp)⟩
  ·obtain⟨e,_⟩:=I.hok _ _ h;exact⟨_,e,.inl (by rw[h];simp)⟩
  ·exact⟨o,I.nc _ _ F,.inr (I.ok.mod.kin _ _ F)⟩
 |tup l Y=>
  have T:SqT X.K H l Y:=T;obtain⟨D,r,p,d⟩:=I.tuple T;refine⟨_,p,Sub.tuple L i l r,λb S=>?_⟩;have e:b=l:=by simpa[ZS.sl] using S
  subst e;rcases T with (h|⟨o,h⟩)|⟨o,B,n,F,_⟩
  ·obtain⟨_,_,_,o,e,_⟩:=I.hok _ _ h;exact⟨_,e,.inl (by rw[h];simp)⟩
  ·obtain⟨e,_⟩:=I.hok _ _ h;exact⟨_,e,.inl (by rw[h];simp)⟩
  ·exact⟨o,I.nc _ _ F,.inr (I.ok.mod.kin _ _ F)⟩
 |str z=>obtain⟨t,rfl⟩:=O;exact⟨_,trivial,Sub.strs L i z t,λb S=>by simp[ZS.sl]at S⟩
theorem aQ{a:ZS}(I:Inv X pins σ H s)(f:FpOk X pins H b)(h:∀c∈a.sl,∃o,s.heap.get? c=some o/\(H c≠none\/X.base.get? c=some o)):∀c∈a.sl,c≠b:=by
 intro c U e;subst e;obtain⟨o,_,q⟩:=h c U;rcases q with q|q
 ·exact q f.1
 ·rcases f.2.2.2.1 with z|z
  ·exact I.ok.noex c o q z
  ·exact absurd (aas (acu q) (aan I.ok.bsz z)) (aaX _)
structure ZRec (z TI TO i1 i2:Addr):Prop where
 TIz:TI≠z
 TOz:TO≠z
 i1z:i1≠z
 i2z:i2≠z
 TITO:TI≠TO
 TIi1:TI≠i1
 TIi2:TI≠i2
 TOi1:TO≠i1
 TOi2:TO≠i2
 i12:i1≠i2
theorem Inv.fi{t':Nat}{d:List Addr}(I:Inv X pins σ H s)(k:∀b o,b ∉ d->s.heap.get? b=some o->h'.get? b=some o)(f:∀b∈d,FpOk X pins H b)
  : Inv X pins σ H { s with heap:=h',toks:=t' }:=by
 have t:∀b u,H b=some u->b ∉ d:=λb u e z=>by rw[(f b z).1]at e;cases e
 refine I.step (λb S=>?_) (λb o _ _ U e _=>k b o U e) (λb o _ _ U e _=>⟨o.slots,k b o U e⟩) (λ_ _ _ _ n=>n)
  (λb o U e=>⟨o,k b o U e⟩) (λ_ _ e=>e) (λ_ _ _ e=>e) (λb W e=>⟨#[],by rw[e];simp⟩) (λm Y=>?_) (λb u e=>?_) I.bare
 ·obtain⟨D,P,F,g,Z,l⟩:=f b S;exact⟨g,P,Z,l⟩
 ·obtain⟨o,L,J,T,r⟩:=Y;exact⟨o,L,J,k _ o (λz=>(f _ z).2.1 rfl) T,r⟩
 ·refine(I.hok b u e).j2 (λc v U q=>k c v ?_ q) (λ_ q=>q) λ_ _ q=>q;rcases U with z|z
  ·rw[z];exact t b u e
  ·exact t c _ z
theorem vo{P:Program}{w:World}{K:Waa}{es:List Expr}{x1}{pos:Pos}(a b:ZS)(va vb:Value)(ra:RelV a.val va)(rb:RelV b.val vb)(z TI TO i1 i2:Addr)(R:ZRec z TI TO i1 i2):
  Turn P w K (.Tuple es x1 pos) (Kb K a b) [z,TI,TO,i1,i2] z
   (λi h=>IsZip h z TI TO .none/\IsPair h TI (.ref i1) (.ref i2)/\(∃p q,IsPair h TO p q)/\a.st va i1 i h/\b.st vb i2 i h) where
 mem:=by simp
 obj:=λi h ⟨O,Z,⟨p,q,h3⟩,h4,f⟩ c U=>by
  simp only[aaa,aaq,or_false]at U;rcases U with rfl|rfl|rfl|rfl|rfl
  ·grind
  ·grind
  ·grind
  ·exact ZS.lk h4
  ·exact ZS.lk f
 keep:=λi h h' ⟨O,Z,⟨p,q,h3⟩,h4,f⟩ k=>
  ⟨k z (by simp) _ O,k TI (by simp) _ Z,⟨p,q,k TO (by simp) _ h3⟩,ZS.ez h4 (λo e=>k i1 (by simp) o e),ZS.ez f (λo e=>k i2 (by simp) o e)⟩
 item:=by
  intro X hP hw T U i M s σ H E I hf ⟨O,Z,⟨p,q,h3⟩,h4,f⟩ hg;subst hP hw T;obtain⟨a0,a2,la,lb⟩:=hg;have L:=I.ok.hd U;obtain⟨a4,a3,g,C⟩:=a.sub I a0 ra X.A.in1 L i1;obtain⟨a9,d,j,J⟩:=b.sub I a2 rb X.A.in1 L i2;obtain⟨x,hx⟩:∃x,a.items[i]?=some x:=⟨_,aam la⟩
  obtain⟨y,t⟩:∃y,b.items[i]?=some y:=⟨_,aam lb⟩
  have D:ZApart z TI TO i1 i2 a.sl b.sl:=⟨R.TIz,R.TOz,R.i1z,R.i2z,R.TITO,R.TIi1,R.TIi2,R.TOi1,R.TOi2,R.i12,
   λc U=>⟨aQ I (hf z (by simp)) C c U,aQ I (hf TO (by simp)) C c U,aQ I (hf i1 (by simp)) C c U,aQ I (hf i2 (by simp)) C c U⟩,
   λc U=>⟨aQ I (hf z (by simp)) J c U,aQ I (hf TO (by simp)) J c U,aQ I (hf i1 (by simp)) J c U,aQ I (hf i2 (by simp)) J c U⟩⟩
  have Q:∀c∈([z,TI,TO,i1,i2]:List Addr),c<s.heap.objs.size:=λc U=>by
   simp only[aaa,aaq,or_false]at U;rcases U with rfl|rfl|rfl|rfl|rfl
   ·exact acu O
   ·exact acu Z
   ·exact acu h3
   ·obtain⟨o,e,_⟩:=ZS.lk h4;exact acu e
   ·obtain⟨o,e,_⟩:=ZS.lk f;exact acu e
  refine n6 D g j O Z h3 h4 f a3 d hx t (λu v h' Y ru rv b0 a7 a5 S hT b3 F=>?_) (Q i1 (by simp)) (Q i2 (by simp));refine⟨.ref s.heap.objs.size,rfl,?_⟩;refine wpAny_letOwnedTupleGo_zip b0 λa1 N B=>?_;have B:=B;have k1:∀c o,c ∉ ([z,TI,TO,i1,i2]:List Addr)->s.heap.get? c=some o->a1.get? c=some o:=λc o U e=>by simp only[aaa,aaq,or_false,not_or]at U;exact B.extBut _ _ U.1 (F c o U.1 U.2.2.1 U.2.2.2.1 U.2.2.2.2 e)
  have l:=I.hok.fresh (aac _);have I1:Inv X M σ H { s with heap:=a1,toks:=Y }:=I.fi k1 hf;have b2:=aa7 (Q z (by simp));have a8:=B.extBut _ _ b2 hT;have W:Inv X M σ (upd H s.heap.objs.size (.tup [x,y])) { s with heap:=a1,toks:=Y }:=by
   refine I.step (g':=s.gens) (d':=s.drawn) (ch:=[z,TI,TO,i1,i2]) (λb hb=>?_) (λb o _ _ U e _=>k1 b o U e) (λb o _ _ U e _=>⟨o.slots,k1 b o U e⟩) (λb o U e n=>?_)
    (λb o U e=>⟨o,k1 b o U e⟩) (λb ys e=>?_) (λb o u e=>?_) (λb ps e=>⟨#[],?_⟩) (λm hm=>?_) (λb o e=>?_) I.bare
   ·obtain⟨f0,f1,f2,f3,f4,f5⟩:=hf b hb
    grind
   ·rw[upd_ne (aao (acu e))];exact n
   ·rw[upd_ne (au e l)];exact e
   ·rw[upd_ne (au e l)];exact e
   ·rw[upd_ne (au e l),e];simp
   ·obtain⟨o,b1,ep,ho,r⟩:=hm;exact⟨o,b1,ep,k1 _ o (λz=>(hf _ z).2.1 rfl) ho,r⟩
   ·by_cases hb:b=s.heap.objs.size
    ·subst hb;rw[aB]at e;cases e;exact⟨(by show 2<=sizeLine;decide),[u,v],.cons ru (.cons rv .nil),⟨_,a8,rfl,_,rfl,rfl⟩⟩
    ·rw[upd_ne hb]at e;refine(I1.hok b o e).j2 (λc v U q=>q) (λc q=>by rw[upd_ne (au q l)];exact q) λc ys q=>by rw[upd_ne (au q l)];exact q
  refine⟨.ref s.heap.objs.size,_,W,rfl,⟨_,x,y,hx,t,l,rfl,rfl⟩,⟨N,?_,⟨u,v,B.extBut _ _ R.TOz a7⟩,ZS.ez a5 (λo e=>B.extBut _ _ R.i1z e),ZS.ez S (λo e=>B.extBut _ _ R.i2z e)⟩,λc U=>?_⟩
  ·exact B.extBut _ _ R.TIz (F _ _ R.TIz R.TITO R.TIi1 R.TIi2 Z)
  ·rw[upd_ne (aao (Q c U))];exact(hf c U).1
 done:=by
  intro X hP hw T U i M s σ H E I hf ⟨O,Z,⟨p,q,h3⟩,h4,f⟩ hg;subst hP hw T;obtain⟨a0,a2,a6⟩:=hg;have L:=I.ok.hd U;obtain⟨a4,a3,g,C⟩:=a.sub I a0 ra X.A.in1 L i1;obtain⟨a9,d,j,J⟩:=b.sub I a2 rb X.A.in1 L i2;have D:ZApart z TI TO i1 i2 a.sl b.sl:=⟨R.TIz,R.TOz,R.i1z,R.i2z,R.TITO,R.TIi1,R.TIi2,R.TOi1,R.TOi2,R.i12,
   λc U=>⟨aQ I (hf z (by simp)) C c U,aQ I (hf TO (by simp)) C c U,aQ I (hf i1 (by simp)) C c U,aQ I (hf i2 (by simp)) C c U⟩,
   λc U=>⟨aQ I (hf z (by simp)) J c U,aQ I (hf TO (by simp)) J c U,aQ I (hf i1 (by simp)) J c U,aQ I (hf i2 (by simp)) J c U⟩⟩
  refine sL D g j O Z h3 h4 f a3 d a6 λh' Y F=>⟨rfl,I.fi (λc o U e=>?_) hf⟩
  simp only[aaa,aaq,or_false,not_or]at U;exact F c o U.1 U.2.2.1 U.2.2.2.1 U.2.2.2.2 e
 self:=λ_ _ _ _ _ ⟨O,_⟩ h=>wpAny_pyIter_zip O h
theorem g8(I S:Value)(X k:Obj)(e H:Heap->Prop)(a:∀h o,H h->H (h.push o))
  (y:∀(prog:Program) (w:World) (A:Around) (E:Value->Shared->Prop) (s:Shared) (Q:Value->Shared->Prop),e s.heap->Q (.ref s.heap.objs.size) { s with heap:=s.heap.push X }->wpAny (model prog w) A (pyIter I) Q E s)
  (v:∀(prog:Program) (w:World) (A:Around) (E:Value->Shared->Prop) (s:Shared) (Q:Value->Shared->Prop),H s.heap->Q (.ref s.heap.objs.size) { s with heap:=s.heap.push k }->wpAny (model prog w) A (pyIter S) Q E s):
  Meets (Builtin.«zip.__new__» ⟨[.type "zip",I,S],[]⟩) (λ_ R s=>e s.heap/\H s.heap /\
   R (.ok (.ret (.ref ((((s.heap.push X).push k).push { cls:=.type "tuple",data:=.seq #[.ref s.heap.objs.size,.ref (s.heap.push X).objs.size] }).push { cls:=.type "tuple",data:=.seq #[.none,.none] }).objs.size)))
    { s with heap:=((((s.heap.push X).push k).push { cls:=.type "tuple",data:=.seq #[.ref s.heap.objs.size,.ref (s.heap.push X).objs.size] }).push { cls:=.type "tuple",data:=.seq #[.none,.none] }).push { cls:=.type "zip",data:=.fields #[.none,.bool false,.bool false,.ref ((s.heap.push X).push k).objs.size,.ref (((s.heap.push X).push k).push { cls:=.type "tuple",data:=.seq #[.ref s.heap.objs.size,.ref (s.heap.push X).objs.size] }).objs.size] } }):=
 .of_wp λprog w A R s h=>by
  obtain⟨m,g,d,Y,C⟩:=s;obtain⟨W,r,h⟩:=h;have B:=sub_zip;have z:∀{A:Around}{E:Value->Shared->Prop}{Q:Value->Shared->Prop},Q (.ref m.objs.size) ⟨m.push X,g,d,Y,C⟩->wpAny (model prog w) A (pyIter I) Q E ⟨m,g,d,Y,C⟩:=λJ=>y _ _ _ _ ⟨m,g,d,Y,C⟩ _ W J;have b:∀{A:Around}{E:Value->Shared->Prop}{Q:Value->Shared->Prop},Q (.ref (m.push X).objs.size) ⟨(m.push X).push k,g,d,Y,C⟩->wpAny (model prog w) A (pyIter S) Q E ⟨m.push X,g,d,Y,C⟩:=λJ=>v _ _ _ _ ⟨m.push X,g,d,Y,C⟩ _ (a _ _ r) J
  wp_walk using z,b
  exact⟨_,rfl,h⟩
end
section
theorem boot_zip:bootBuiltins "zip"=some (.type "zip"):=by rfl
theorem ZS.iter(a:ZS)(I:Inv X pins σ H s)(T:a.ok X.K H)(O:RelV a.val v):
  ∃C:Heap->Prop,C s.heap/\(∀h o,C h->C (h.push o)) /\
   ∀(prog:Program) (w:World) (A:Around) (E:Value->Shared->Prop) (s:Shared) (Q:Value->Shared->Prop),C s.heap->Q (.ref s.heap.objs.size) { s with heap:=s.heap.push (a.rcd v) }->wpAny (model prog w) A (pyIter v) Q E s:=by
 cases a with
 |lst l Y=>obtain⟨D,r,p,d⟩:=I.list (T);cases O;exact⟨λh=>h.IsList l D.toArray,p.isList,λh o x=>x.push o,λprog w A E s Q h q=>acX h q⟩
 |tup l Y=>obtain⟨D,r,p,d⟩:=I.tuple (T);cases O;exact⟨λh=>h.IsTuple l D.toArray,p,λh o x=>x.push o,λprog w A E s Q h q=>wpAny_pyIter_tuple h q⟩
 |str z=>obtain⟨t,rfl⟩:=O;exact⟨λ_=>True,trivial,λ_ _ _=>trivial,λprog w A E s Q _ q=>wpAny_pyIter_strU q⟩
theorem ZS.st0(a:ZS)(O:RelV a.val v)(e:h.get? i=some (a.rcd v)):a.st v i 0 h:=by
 cases a with
 |lst l Y=>cases O;exact⟨_,e,rfl,rfl⟩
 |tup l Y=>cases O;exact⟨_,e,rfl,rfl⟩
 |str z=>obtain⟨t,rfl⟩:=O;exact⟨_,e,rfl,rfl⟩
theorem lG(a:ZS)(v:Value):(a.rcd v).isFreed=false:=by cases a<;>rfl
def Kc(K:Waa)(Z:TA):TI:=λL H R=>Z L H λc P=>∃a b:ZS,c=[a.val,b.val]/\a.ok K P/\b.ok K P/\R (Kb K a b) P
theorem Ds{es:List Expr}{x}{W:Pos}{a b:Expr}{p pos:Pos} (N:Gl X "zip") (Y:X.mg "zip"=none) (i:PA X [a,b] ta) (hs:starEach [a,b] X.env=[(false,eval a X.env),(false,eval b X.env)]:=by rfl) (d:starEach [b] X.env=[(false,eval b X.env)]:=by rfl):
  PI X (.Tuple es x W) (.Call (.Name "zip" p) [a,b] [] pos) (Kc X.K ta):=by
 intro M s L H R I h;refine Call_ (fe I N Y boot_zip (abf (thn (i pos M s L H _ I h) λus f t=>?_) (by grind) (by rw[d];rfl)));obtain⟨vs,P,B,w,m⟩:=t;obtain⟨z,l,e,a3,a2,q⟩:=m;subst e;obtain⟨g,C,rfl,D,k⟩:=w.two;obtain⟨a0,O,_,y⟩:=z.iter B a3 D;obtain⟨a1,Z,a4,p2⟩:=l.iter B a2 k;refine callType_new F.called_zip (by rfl) (F.typeCall_zip_2 _ _) (F.newCall_zip_2 _ _) (λa5=>F.args_object_init_3 a5 _ _) F.entry_zip_new
  (g8 g C (z.rcd g) (l.rcd C) a0 a1 a4 y p2) ⟨O,Z,?_⟩
 generalize hA:f.heap.push (z.rcd g)=A1;generalize hB:A1.push (l.rcd C)=A2;generalize hC:A2.push { cls:=.type "tuple",data:=.seq #[.ref f.heap.objs.size,.ref A1.objs.size] }=A3;generalize hD:A3.push { cls:=.type "tuple",data:=.seq #[.none,.none] }=A4;generalize hE:A4.push { cls:=.type "zip",data:=.fields #[.none,.bool false,.bool false,.ref A2.objs.size,.ref A3.objs.size] }=A5;have r:A1.objs.size=f.heap.objs.size+1:=by rw[<-hA];simp
 have z2:A2.objs.size=f.heap.objs.size+2:=by rw[<-hB,acK,r]
 have z3:A3.objs.size=f.heap.objs.size+3:=by rw[<-hC,acK,z2]
 have z4:A4.objs.size=f.heap.objs.size+4:=by rw[<-hD,acK,z3]
 have v:A5.get? A4.objs.size=some { cls:=.type "zip",data:=.fields #[.none,.bool false,.bool false,.ref A2.objs.size,.ref A3.objs.size] }:=by rw[<-hE];exact acx _ rfl
 have u5:∀c o,A4.get? c=some o->A5.get? c=some o:=λc o e=>by rw[<-hE];exact acw _ e
 have u4:=λc o e=>u5 c o (by rw[<-hD];exact acw _ e);have U:=λc o e=>u4 c o (by rw[<-hC];exact acw _ e);have T:=λc o e=>U c o (by rw[<-hB];exact acw _ e);have n:=λc o e=>T c o (by rw[<-hA];exact acw _ e);have u:=u5 _ _ (by rw[<-hD];exact acx _ rfl);have J:=u4 _ _ (by rw[<-hC];exact acx _ rfl);have A:=U _ _ (by rw[<-hB];exact acx _ (lG _ _));have g1:=T _ _ (by rw[<-hA];exact acx _ (lG _ _));refine⟨⟨_,v,rfl⟩,?_⟩;have Q:=v;refine wpAny_pyIter_zip Q ?_;have R:ZRec A4.objs.size A2.objs.size A3.objs.size f.heap.objs.size A1.objs.size:=by rw[r,z2,z3,z4];refine⟨?_,?_,?_,?_,?_,?_,?_,?_,?_,?_⟩<;>first|simp|simp|simp
 have I5:Inv X M L P { f with heap:=A5 }:=B.kept n;refine⟨A4.objs.size,[A4.objs.size,A2.objs.size,A3.objs.size,f.heap.objs.size,A1.objs.size],_,_,P,rfl,I5,vo z l g C D k _ _ _ _ _ R,
  ⟨Q,J,⟨_,_,u⟩,z.st0 D g1,l.st0 k A⟩,λb S=>?_,q⟩
 have j:f.heap.objs.size<=b:=by simp only[aaa,aaq,or_false]at S;rcases S with rfl|rfl|rfl|rfl|rfl<;>first|exact aac _|(rw[z4];exact aaS _ _)|(rw[z3];exact aaS _ _)|(rw[z2];exact aaS _ _)|(rw[r];exact aaS _ _)
 exact B.pa j (B.hok.fresh j)
theorem y4:∀{us:List Value},Vals (T.map V.bl) us->LSm.BoolsAre us T:=by
 induction T with
 |nil=>intro us r;rw[aay]at r;cases r;exact .nil
 |cons b T Y=>
  intro us r;rw[aal]at r;cases r with
  |cons w p=>cases w;exact .cons b (Y p)
theorem vp(U:X.calm=true):CallR X (.builtin "all") (λxs H Q=>∃(p:Addr) (T:List Bool),xs=[.ref p]/\SqL X.K H p (T.map V.bl)/\Q (.bl (T.all id)) H):=by
 intro M s L H xs C Q I r h;obtain⟨p,T,rfl,c,q⟩:=h;obtain⟨u,rfl,N⟩:=vals1 r;cases N;obtain⟨D,f,a,d⟩:=I.list c;obtain⟨m,F⟩:=I.fr;have k:p<s.heap.objs.size:=by obtain⟨_,_,e,_⟩:=a;exact acu e
 have S:=y4 f;refine call_all_walk (acX a.isList ?_);refine⟨s.heap.objs.size,[s.heap.objs.size,p],[s.heap.objs.size],D.toArray.size,_,_,λi=>(T[i]?).getD true,rfl,Walks.list (A:=X.A.in1) (I.ok.hd U) _ p (aao k) D.toArray,
  ⟨⟨_,acx _ rfl,rfl,rfl⟩,a.isList.push _⟩,λi v B O P z J=>?_,λt Y l=>?_⟩
 ·obtain⟨b,e,rfl⟩:=S.get i v (by simpa using z);simp only[e,Option.getD_some]at J;exact acA J
 ·have e:((List.range D.toArray.size).all λi=>(T[i]?).getD true)=T.all id:=by rw[abo,S.length];exact LSm.range_all T
  rw[e];exact⟨.bl (T.all id),H,I.kept (LSm.kept_iter l),rfl,q⟩
end
section
mutual
inductive Dt (K:Waa)(H:Hp):V->PyData->Prop
 |non:Dt K H .non .none
 |bl (b:Bool):Dt K H (.bl b) (.bool b)
 |int (i:Int):Dt K H (.int i) (.int i)
 |str (x:Str):Dt K H (.str x) (.str x)
 |lst {a xs ds}:SqL K H a xs->DtAll K H xs ds->Dt K H (.ref a) (.list ds)
 |tup {a xs ds}:SqT K H a xs->DtAll K H xs ds->Dt K H (.ref a) (.tuple ds)
inductive DtAll (K:Waa)(H:Hp):List V->List PyData->Prop
 |nil:DtAll K H [] []
 |cons {x d xs ds}:Dt K H x d->DtAll K H xs ds->DtAll K H (x::xs) (d::ds)
end
theorem DtAll.length{K:Waa}(h:DtAll K H xs ds):xs.length=ds.length:=by
 induction xs generalizing ds with
 |nil=>cases h;rfl
 |cons v c Y=>cases h with|cons _ t=>rw[aaD,aaD,Y t]
theorem DtAll.get{K:Waa}{i:Nat}(h:DtAll K H xs ds)(e:ds[i]?=some d):∃x,xs[i]?=some x/\Dt K H x d:=by
 induction xs generalizing ds i with
 |nil=>cases h;cases i<;>cases e
 |cons v c Y=>
  cases h with
  |cons r t=>
   cases i with
   |zero=>cases e;exact⟨_,rfl,r⟩
   |succ i=>exact Y t e
theorem DtAll.append{K:Waa}(h:DtAll K H xs ds)(h':DtAll K H ys es):DtAll K H (xs++ys) (ds++es):=by
 induction xs generalizing ds with
 |nil=>cases h;exact h'
 |cons v c Y=>cases h with|cons r t=>exact .cons r (Y t)
theorem DtAll.ints{K:Waa}:∀(ns:List Int),DtAll K H (ns.map V.int) (ns.map PyData.int)
 |[]=>.nil
 |n::ns=>.cons (.int n) (DtAll.ints ns)
theorem Same.tupS{K:Waa}{H l:Hp}(e:Same H l)(h:SqT K H a xs):SqT K l a xs:=by
 rcases h with (h|⟨o,h⟩)|h
 ·exact .inl (.inl (e _ _ h))
 ·exact .inl (.inr ⟨o,e _ _ h⟩)
 ·exact .inr h
theorem Dt.ind{K:Waa}{P:V->PyData->Prop}{Q:List V->List PyData->Prop}(N:P .non .none)(L:∀b,P (.bl b) (.bool b))(t:∀i,P (.int i) (.int i))(r:∀x,P (.str x) (.str x))
  (T:∀{a xs ds},SqL K H a xs->Q xs ds->P (.ref a) (.list ds)) (p:∀{a xs ds},SqT K H a xs->Q xs ds->P (.ref a) (.tuple ds)) (nil:Q [] []) (cons:∀{x d xs ds},P x d->Q xs ds->Q (x::xs) (d::ds)):
  (∀{v d},Dt K H v d->P v d)/\∀{vs ds},DtAll K H vs ds->Q vs ds:=
 ⟨λh=>Dt.rec N L t r (λh _ i=>T h i) (λh _ i=>p h i) nil (λ_ _ i j=>cons i j) h,
  λh=>DtAll.rec N L t r (λh _ i=>T h i) (λh _ i=>p h i) nil (λ_ _ i j=>cons i j) h⟩
theorem Dt.mono_{K:Waa}{H l:Hp}(s:Same H l):(∀{x:V}{d:PyData},Dt K H x d->Dt K l x d)/\∀{xs:List V}{ds:List PyData},DtAll K H xs ds->DtAll K l xs ds:=
 Dt.ind .non .bl .int .str (λh t=>.lst (s.seq h) t) (λh t=>.tup (s.tupS h) t) .nil (λr t=>.cons r t)
theorem Dt.mono{K:Waa}(s:Same H H')(h:Dt K H x d):Dt K H' x d:=(Dt.mono_ s).1 h
theorem DtAll.mono{K:Waa}(s:Same H H')(h:DtAll K H xs ds):DtAll K H' xs ds:=(Dt.mono_ s).2 h
theorem Dt.sx(I:Inv X pins σ H s):(∀{x:V}{d:PyData},Dt X.K H x d->∀{u:Value},RelV x u->∃as,Reads s.heap u d as)/\∀{xs:List V}{ds:List PyData},DtAll X.K H xs ds->∀{us:List Value},Vals xs us->∃as,ReadsAll s.heap us ds as:=by
 refine Dt.ind (P:=λx d=>∀{u:Value},RelV x u->∃as,Reads s.heap u d as) ?_ ?_ ?_ ?_ ?_ ?_ ?_ ?_
 ·intro u r;cases r;exact⟨_,.none⟩
 ·intro b u r;cases r;exact⟨_,.bool b⟩
 ·intro i u r;obtain⟨t,rfl⟩:=r;exact⟨_,.int i t⟩
 ·intro x u r;obtain⟨t,rfl⟩:=r;exact⟨_,.str x t⟩
 ·intro a xs ds h i u r;cases r;obtain⟨D,O,⟨o,n,e,U,_,W⟩,_⟩:=I.list h;obtain⟨as,q⟩:=i O;exact⟨_,.list e U W (by omega)⟩
 ·intro a xs ds h i u r;cases r;obtain⟨D,O,⟨o,e,U,n,W⟩,_⟩:=I.tuple h;obtain⟨as,q⟩:=i O;exact⟨_,.tuple e U W (by omega)⟩
 ·intro us r;cases r;exact⟨_,.nil⟩
 ·intro x d xs ds i j us r;cases r with
  |cons w g=>obtain⟨as,q⟩:=i w;obtain⟨T,p⟩:=j g;exact⟨_,.cons q p⟩
theorem Dt.reads(I:Inv X pins σ H s)(h:Dt X.K H x d)(r:RelV x u):∃as,Reads s.heap u d as:=(Dt.sx I).1 h r
theorem DtAll.reads(I:Inv X pins σ H s)(h:DtAll X.K H xs ds)(r:Vals xs us):∃as,ReadsAll s.heap us ds as:=(Dt.sx I).2 h r
mutual
theorem eqv_refl:∀(d:PyData),d.canLay0=true->PyData.eqv d d=true
 |.none,_=>by rfl
 |.bool b,_=>by simp[PyData.eqv]
 |.int i,_=>by simp[PyData.eqv]
 |.str x,_=>by simp[PyData.eqv]
 |.list xs,h=>by simp only[PyData.eqv];exact eqvAll_refl xs (by trivial)
 |.tuple xs,h=>by simp only[PyData.eqv];exact eqvAll_refl xs (by trivial)
 |.dict _,h=>by trivial
theorem eqvAll_refl:∀(ds:List PyData),PyData.canLayAll0 ds=true->PyData.eqvAll ds ds=true
 |[],_=>by rfl
 |d::ds,h=>by simp only[PyData.canLayAll0,aaC]at h;simp only[PyData.eqvAll,aaC];exact⟨eqv_refl d h.1,eqvAll_refl ds h.2⟩
end
def GQ(K:Waa):R2:=λx y H Q=>∃a X,Dt K H x a/\Dt K H y X/\SeqAt.shaped a=true/\SeqAt.shaped X=true/\Q (.bl (PyData.eqv a X)) H
def GR(K:Waa):R2:=λx y H Q=>∃a X,Dt K H x a/\Dt K H y X/\SeqAt.shaped a=true/\SeqAt.shaped X=true/\Q (.bl (!PyData.eqv a X)) H
theorem Du(U:X.A.units+64<cLine):OpR X (compareOp .Eq) (GQ X.K):=by intro M s L H x y v u Q I N J h;obtain⟨a,B,D,k,S,W,q⟩:=h;obtain⟨c,w⟩:=D.reads I N;obtain⟨T,p⟩:=k.reads I J;exact eq_dataH w p S W U ⟨.bl _,H,I,rfl,q⟩
theorem Dv(U:X.A.units+64<cLine):OpR X (compareOp .NotEq) (GR X.K):=by intro M s L H x y v u Q I N J h;obtain⟨a,B,D,k,S,W,q⟩:=h;obtain⟨c,w⟩:=D.reads I N;obtain⟨T,p⟩:=k.reads I J;exact ne_dataH w p S W U ⟨.bl _,H,I,rfl,q⟩
theorem kit_same(K:Waa)(T:String):PySem.W.kitOne K (.type T) (.type T)=some true:=by unfold PySem.W.kitOne;simp
theorem kit_lt(K:Waa):PySem.W.kitOne K (.type "list") (.type "tuple")=some false:=by rfl
theorem kit_tl(K:Waa):PySem.W.kitOne K (.type "tuple") (.type "list")=some false:=by rfl
theorem kit_il(K:Waa):PySem.W.kitOne K (.type "int") (.type "list")=some false:=by rfl
theorem kit_it(K:Waa):PySem.W.kitOne K (.type "int") (.type "tuple")=some false:=by rfl
theorem kit_is(K:Waa):PySem.W.kitOne K (.type "int") (.type "str")=some false:=by rfl
theorem kit_sl(K:Waa):PySem.W.kitOne K (.type "str") (.type "list")=some false:=by rfl
theorem kit_st(K:Waa):PySem.W.kitOne K (.type "str") (.type "tuple")=some false:=by rfl
theorem kit_sb(K:Waa):PySem.W.kitOne K (.type "str") (.type "bool")=some false:=by rfl
theorem kit_bl(K:Waa):PySem.W.kitOne K (.type "bool") (.type "list")=some false:=by rfl
theorem kit_bt(K:Waa):PySem.W.kitOne K (.type "bool") (.type "tuple")=some false:=by rfl
theorem kit_nl(K:Waa):PySem.W.kitOne K (.type "NoneType") (.type "list")=some false:=by rfl
theorem kit_nt(K:Waa):PySem.W.kitOne K (.type "NoneType") (.type "tuple")=some false:=by rfl
theorem kit_ns(K:Waa):PySem.W.kitOne K (.type "NoneType") (.type "str")=some false:=by rfl
theorem kit_nb(K:Waa):PySem.W.kitOne K (.type "NoneType") (.type "bool")=some false:=by rfl
theorem kit_ti(K:Waa):PySem.W.kitOne K (.type "tuple") (.type "int")=some false:=by rfl
theorem kit_ls(K:Waa):PySem.W.kitOne K (.type "list") (.type "str")=some false:=by rfl
theorem kit_ts(K:Waa):PySem.W.kitOne K (.type "tuple") (.type "str")=some false:=by rfl
theorem kit_lb(K:Waa):PySem.W.kitOne K (.type "list") (.type "bool")=some false:=by rfl
theorem kit_tb(K:Waa):PySem.W.kitOne K (.type "tuple") (.type "bool")=some false:=by rfl
inductive Ty (K:Waa)(H:Hp):V->String->Prop
 |non:Ty K H .non "NoneType"
 |bl (b:Bool):Ty K H (.bl b) "bool"
 |int (i:Int):Ty K H (.int i) "int"
 |str (x:Str):Ty K H (.str x) "str"
 |lst {a xs}:SqL K H a xs->Ty K H (.ref a) "list"
 |tup {a xs}:SqT K H a xs->Ty K H (.ref a) "tuple"
theorem Ty.kitx(I:Inv X pins σ H s)(d:Ty X.K H x n)(N:RelV x u):
  ∃Z:Heap->Prop,PySem.W.KitX X.K u (.type n) Z/\Z s.heap/\u≠.builtin "__main__.__loader__#opaque":=by
 cases d with
 |non=>cases N;exact⟨_,PySem.W.kitx_none,trivial,λz=>nomatch z⟩
 |bl b=>cases N;exact⟨_,PySem.W.kitx_bool,trivial,λz=>nomatch z⟩
 |int i=>obtain⟨t,rfl⟩:=N;exact⟨_,PySem.W.kitx_int,trivial,λz=>nomatch z⟩
 |str x=>obtain⟨t,rfl⟩:=N;exact⟨_,PySem.W.kitx_str,trivial,λz=>nomatch z⟩
 |lst h=>cases N;obtain⟨D,_,⟨o,n,e,U,_⟩,_⟩:=I.list h;exact⟨_,PySem.W.kitx_list,⟨o,e,U⟩,λz=>nomatch z⟩
 |tup h=>cases N;obtain⟨D,_,⟨o,e,U,_⟩,_⟩:=I.tuple h;exact⟨_,PySem.W.kitx_tuple,⟨o,e,U⟩,λz=>nomatch z⟩
theorem vq(T:String):CallR X (.builtin "isinstance") (λxs H Q=>∃x n b,xs=[x,.ty T]/\Ty X.K H x n/\PySem.W.kitOne X.K (.type n) (.type T)=some b/\Q (.bl b) H):=by
 intro M s L H xs C Q I r h;obtain⟨x,n,b,rfl,d,e,q⟩:=h;obtain⟨u,v,rfl,N,J⟩:=r.two;cases J;obtain⟨Z,k,z,A⟩:=d.kitx I N;exact PySem.W.kia_one k I.nc z e A λY=>⟨.bl b,H,I.tok _,rfl,q⟩
theorem sM(S T:String):CallR X (.builtin "isinstance") (λxs H Q=>∃x n b p,xs=[x,.ref p]/\H p=some (.tup [.ty S,.ty T])/\Ty X.K H x n/\PySem.W.kitAny X.K (.type n) [.type S,.type T]=some b/\Q (.bl b) H):=by
 intro M s L H xs C Q I r h;obtain⟨x,n,b,p,rfl,m,d,e,q⟩:=h;obtain⟨u,v,rfl,N,J⟩:=r.two;cases J;obtain⟨Z,k,z,A⟩:=d.kitx I N;obtain⟨_,D,O,⟨⟨c,t,o,F⟩,B,U,y,f⟩⟩:=I.hok p _ m;obtain⟨a,j,rfl,w,g⟩:=O.two;cases w;cases g;replace U:=U;replace f:=f.1;subst U f;exact PySem.W.kia_tup k I.nc z B e A λY=>⟨.bl b,H,I.tok _,rfl,q⟩
theorem g9(K:Waa)(O:PySem.W.kitOne K (.type n) (.type S)=some true\/(PySem.W.kitOne K (.type n) (.type S)=some false/\PySem.W.kitOne K (.type n) (.type T)=some true)):
  PySem.W.kitAny K (.type n) [.type S,.type T]=some true:=by
 rcases O with h|⟨h,v⟩
 ·simp[PySem.W.kitAny,h]
 ·simp[PySem.W.kitAny,h,v]
theorem eI(K:Waa)(h:PySem.W.kitOne K (.type n) (.type S)=some false)(h':PySem.W.kitOne K (.type n) (.type T)=some false):
  PySem.W.kitAny K (.type n) [.type S,.type T]=some false:=by
 simp[PySem.W.kitAny,h,h']
end
section
def GS(i j k:Nat)(Z:TA):TS:=λD L H=>Z L H λc P=>∃v w u,c=[v,w,u]/\D.nx (((L.set i (some v)).set j (some w)).set k (some u)) P
theorem y6{A l Y}(hc:X.calm=true)(hN:X.N.Nodup)(r:X.N[i]?=some x)(W:X.N[j]?=some y)(F:X.N[k]?=some z)(a1:i≠j)(a3:i≠k)(a4:j≠k)
  (C:X.env.scope.names.lookup x=some .local) (t:X.env.scope.names.lookup y=some .local) (d:X.env.scope.names.lookup z=some .local) (ha:PA X [a,b,c] ta)
  (Q:swappedStores [.Tuple [.Name x px,.Name y py,.Name z pz] A pt] (.Tuple [a,b,c] l Y) X.env=pure (some [x,y,z]))
  (g:swapsWithSole [.Tuple [.Name x px,.Name y py,.Name z pz] A pt] (.Tuple [a,b,c] l Y) pos.line X.env=pure false:=by rfl):
  PS X (.Assign [.Tuple [.Name x px,.Name y py,.Name z pz] A pt] (.Tuple [a,b,c] l Y) pos) (GS i j k ta):=by
 intro M s L H D I h;rw[exec_Assign_arm];refine acs (acC ?_);rw[g];refine acs (acv ?_);rw[if_neg (by decide)];refine acs (Tuple_ (thn (ha _ M s L H _ I h) λus f ⟨vs,P,B,r1,m⟩=>?_));obtain⟨v,w,u,J,m⟩:=m;subst J;obtain⟨n,T,U,rfl,O,a0,ru⟩:∃n T U,us=[n,T,U]/\RelV v n/\RelV w T/\RelV u U:=by
  cases r1 with
  |cons p q=>
   cases q with
   |cons p' q'=>
    cases q' with
    |cons a5 S=>
     cases S
     grind
 refine acG ?_ (by show 3<=sizeLine;decide);have I2:Inv X M L P { f with heap:=f.heap.push { cls:=.type "tuple",data:=.seq [n,T,U].toArray } }:=B.kept λb o e=>acw _ e;rw[Q];refine acs (acv ?_);refine acs (acH (acs (unpackItems_tuple (items:=#[n,T,U]) (I.ok.hd hc) (IsTup.new f.heap _) λh' a2=>?_)));have I3:=I2.kept (t':=f.toks) λb o e=>a2 b o (aao (acu e)) e;refine acs (acF (acJ (bP I3 hN F (.inl d) ru (λZ I4=>?_) (.inr d))));refine acF (acJ (bP I4 hN W (.inl t) a0 (λs3 I5=>?_) (.inr t)));refine acF (acJ (bP I5 hN r (.inl C) O (λs4 I6=>assignInOrder_nil (acv ?_)) (.inr C)));have e:((L.set k (some u)).set j (some w)).set i (some v)=((L.set i (some v)).set j (some w)).set k (some u):=by rw[abm _ _ (aaG a1),abm _ _ (aaG a3),abm _ _ (aaG a4)]
 rw[e]at I6;exact⟨_,P,I6,m⟩
def Keep(S:List Addr)(H l:Hp):Prop:=∀b o,H b=some o->b ∉ S->l b=some o
theorem Keep.refl(S:List Addr)(H:Hp):Keep S H H:=λ_ _ h _=>h
theorem Keep.trans(a:Keep S H H1)(b:Keep S H1 H2):Keep S H H2:=λc o h n=>b c o (a c o h n) n
theorem Keep.new(a:Keep S H H1)(n:H1 p=none):Keep S H (upd H1 p o):=λc u h m=>by have q:=a c u h m;rw[upd_ne (au q n)];exact q
theorem Keep.put(a:Keep S H H1)(n:p∈S\/H p=none):Keep S H (upd H1 p o):=λc u h m=>by
 have A:c≠p:=λe=>by
  grind
 rw[upd_ne A];exact a c u h m
theorem Keep.at(a:Keep S H H')(h:H b=some o)(n:b ∉ S):H' b=some o:=a b o h n
theorem Keep.same(a:Keep [] H H'):Same H H':=λb o h=>a b o h (by simp)
theorem Keep.sub(a:Keep S H H')(h:∀b∈S,b∈T):Keep T H H':=λb o e n=>a b o e λz=>n (h b z)
theorem Keep.free(e:Keep S H H')(h:H' l=none)(n:l ∉ S):H l=none:=by
 cases q:H l with
 |none=>rfl
 |some o=>rw[e l o q n]at h;cases h
end
section
theorem vw:bootBuiltins "len"=some (.builtin "len"):=by rfl
theorem Dw:bootBuiltins "abs"=some (.builtin "abs"):=by rfl
theorem Dx:bootBuiltins "max"=some (.builtin "max"):=by rfl
theorem Dy:bootBuiltins "min"=some (.builtin "min"):=by rfl
theorem Dz:bootBuiltins "all"=some (.builtin "all"):=by rfl
theorem eY:bootBuiltins "isinstance"=some (.builtin "isinstance"):=by rfl
theorem vy:bootBuiltins "int"=some (.type "int"):=by rfl
theorem y7:bootBuiltins "bool"=some (.type "bool"):=by rfl
theorem DB:bootBuiltins "str"=some (.type "str"):=by rfl
theorem jW:bootBuiltins "list"=some (.type "list"):=by rfl
theorem hU:bootBuiltins "tuple"=some (.type "tuple"):=by rfl
section
variable{Q:VK}{K:Waa}
theorem n9(h:n<=1000000):n<=sizeLine:=aan h (by decide)
end
end
section
section
variable{X:Cx}
end
end
section
section
variable{κ:Type}[DecidableEq κ]
noncomputable def valV(N:List (κ×V))(k:κ):Option V:=(N.find? λB=>decide (B.1=k)).map (·.2)
def putK(N:List (κ×V))(k:κ)(v:V):List (κ×V):=
 if (N.any λB=>decide (B.1=k))=true then N.map (λB=>if B.1=k then (B.1,v) else B) else N++[(k,v)]
def BC(N:List (κ×V))(k:κ):List (κ×V):=N.filter λB=>decide (B.1≠k)
theorem dQ{k:κ}(e:p.1=k):valV (p::r) k=some p.2:=by simp[valV,aaW,e]
theorem hX{k:κ}(e:¬ p.1=k):valV (p::r) k=valV r k:=by simp[valV,aaW,e]
theorem ia(k:κ):∀N:List (κ×V),(N.any λB=>decide (B.1=k))=(valV N k).isSome
 |[]=>rfl
 |p::r=>by
  rw[aaO];by_cases e:p.1=k
  ·simp only[dQ e,Dac e,Bool.true_or,Option.isSome_some]
  ·rw[hX e,Dab e,abg];exact ia k r
theorem dR(N:List (κ×V))(k:κ)(v:V):(putK N k v).length<=N.length+1:=by
 unfold putK
 grind
theorem putK_new{k:κ}(v:V)(h:valV kvs k=none):putK kvs k v=kvs++[(k,v)]:=by unfold putK;rw[ia,h];rfl
theorem RelO.dv(r:RelO o u):o.isSome=u.isSome:=by
 cases o with
 |none=>cases u with
  |none=>rfl
  |some _=>trivial
 |some _=>cases u with
  |none=>trivial
  |some _=>rfl
theorem RelO.getD(r:RelO o u)(O:RelV d d'):RelV (o.getD d) (u.getD d'):=by
 cases o with
 |none=>cases u with
  |none=>grind
  |some _=>trivial
 |some _=>cases u with
  |none=>trivial
  |some _=>exact r
theorem KV.val(r:KV kvs vs)(k:κ):RelO (valV kvs k) (valueAt vs k):=by
 unfold KV at r;induction r with
 |nil=>trivial
 |@cons p q ps qs h t ih=>
  obtain⟨O,Z⟩:=h;by_cases e:p.1=k
  ·have L:=O.symm.trans e;have b:valueAt (q::qs) k=some q.2:=by simp[valueAt,aaW,L]
   rw[dQ e,b];exact Z
  ·have L:¬ q.1=k:=λz=>e (O.trans z);have b:valueAt (q::qs) k=valueAt qs k:=by simp[valueAt,aaW,L]
   rw[hX e,b];omega
theorem KV.any{vs:List (κ×Value)}(r:KV kvs vs)(k:κ):(kvs.any λB=>decide (B.1=k))=vs.any λB=>decide (B.1=k):=by
 unfold KV at r;induction r with
 |nil=>rfl
 |cons h t Y=>rw[aaO,aaO,Y,h.1]
theorem KV.repl(r:KV kvs vs)(k:κ)(J:RelV y u):
  KV (kvs.map λB=>if B.1=k then (B.1,y) else B) (vs.map λB=>if B.1=k then (B.1,u) else B):=by
 unfold KV at r ⊢;induction r with
 |nil=>exact .nil
 |@cons p q ps qs h t ih=>
  rw[aal,aal];refine .cons ?_ ih
  grind
theorem KV.put(r:KV kvs vs)(k:κ)(J:RelV y u):KV (putK kvs k y) (stored vs k u):=by
 unfold putK stored;rw[r.any k];by_cases e:(vs.any λB=>decide (B.1=k))=true
 ·rw[if_pos e,if_pos e];exact r.repl k J
 ·rw[if_neg e,if_neg e];exact Paired.snoc r ⟨rfl,J⟩
theorem KV.drop(r:KV kvs vs)(k:κ):KV (BC kvs k) (without vs k):=by
 unfold KV at r ⊢;unfold BC without;induction r with
 |nil=>exact .nil
 |@cons p q ps qs h t ih=>
  obtain⟨O,Z⟩:=h;rw[List.filter_cons,List.filter_cons];by_cases e:p.1=k
  ·grind
  ·have L:=λz=>e (O.trans z);have a:decide (p.1≠k)=true:=by simp[e]
   have b:decide (q.1≠k)=true:=by grind
   rw[if_pos a,if_pos b];exact .cons ⟨O,Z⟩ ih
theorem KV.length{vs:List (κ×Value)}(r:KV kvs vs):kvs.length=vs.length:=acO r
end
theorem ib(r:RelV (kV k) u):(aP P w).is k u=true:=by
 cases k with
 |inl i=>obtain⟨t,e⟩:=(r);subst e;exact lq P w i t
 |inr x=>obtain⟨t,e⟩:=(r);subst e;exact mixKind_str P w x t
theorem jx:∀{ks:List Key}{us:List Value},Vals (ks.map kV) us->ItemsAre (aP P w) ks us
 |[],_,r=>by rw[aay]at r;cases r;exact .nil
 |k::ks,_,r=>by
  rw[aal]at r;cases r with
  |cons h t=>exact .cons (ib h) (jx t)
abbrev KT(H:Hp):List (List Key×V)->List (List Key×Addr×Value)->Prop:=Paired λp q=>p.1=q.1/\H q.2.1=some (.tup (p.1.map kV))/\RelV p.2 q.2.2
theorem KT.val(r:KT H kvs xs)(k:List Key):RelO (valV kvs k) ((atKey xs k).map (·.2)):=by
 induction r with
 |nil=>trivial
 |@cons p q ps qs h t ih=>
  obtain⟨O,_,Z⟩:=h;by_cases e:p.1=k
  ·have L:=O.symm.trans e;have b:atKey (q::qs) k=some q.2:=by simp[atKey,aaW,L]
   rw[dQ e,b];exact Z
  ·have L:¬ q.1=k:=λz=>e (O.trans z);have b:atKey (q::qs) k=atKey qs k:=by simp[atKey,aaW,L]
   rw[hX e,b];omega
theorem KT.repl(r:KT H kvs xs)(k:List Key)(J:RelV y u):
  KT H (kvs.map λB=>if B.1=k then (B.1,y) else B) (xs.map (putAt k u)):=by
 induction r with
 |nil=>exact .nil
 |@cons p q ps qs h t ih=>
  rw[aal,aal];refine .cons ?_ ih;obtain⟨O,Z,M⟩:=h;unfold putAt;by_cases e:p.1=k
  ·rw[if_pos e,if_pos (O.symm.trans e)];exact⟨O,Z,J⟩
  ·rw[if_neg e,if_neg (λz=>e (O.trans z))];exact⟨O,Z,M⟩
theorem KT.put(r:KT H kvs xs)(k:List Key)(S:H b=some (.tup (k.map kV)))(J:RelV y u):
  KT H (putK kvs k y) (storedH xs k b u):=by
 have e:(kvs.any λB=>decide (B.1=k))=(atKey xs k).isSome:=by rw[ia,(r.val k).dv,abJ]
 unfold putK storedH;rw[e];by_cases q:(atKey xs k).isSome=true
 ·rw[if_pos q,if_pos q];exact r.repl k J
 ·rw[if_neg q,if_neg q];exact Paired.snoc r ⟨rfl,S,J⟩
theorem KT.keeps(r:KT H kvs xs)(X:∀b ys,H b=some (.tup ys)->H' b=some (.tup ys)):KT H' kvs xs:=
 Paired.mapP r λ_ _ z=>⟨z.1,X _ _ z.2.1,z.2.2⟩
theorem BD(T:HOk P w H h)(e:Rd H a u):ObjOk P w H h a u:=e.ok T
theorem ic(T:HOk P w H h)(e:Rd H a (.dK kvs)):kvs.length<=sizeLine/\(a==sysModules)=false/\∃vs,KV kvs vs/\h.DictOf (aP P w) a vs:=
 BD T e
theorem BE(T:HOk P w H h)(e:H a=some (.dK kvs)):kvs.length<=sizeLine/\(a==sysModules)=false/\∃vs,KV kvs vs/\h.DictOf (aP P w) a vs:=ic T (.inl e)
theorem fY(T:HOk P w H h)(e:H a=some (.tup (ks.map kV))):(tupleKind (aP P w)).is h ks a:=by
 obtain⟨_,D,r,o,O,Z,n,M⟩:=(T a _ e)
 exact⟨o,D.toArray,n,O,Z,M.1,jx r⟩
theorem ie(T:HOk P w H h)(e:Rd H a (.dT kvs)):kvs.length<=sizeLine/\(a==sysModules)=false /\
  ∃xs,KT H kvs xs/\h.DictOfH (tupleKind (aP P w)) a xs:=by
 obtain⟨z,y,xs,r,o,L,J,O,Z,M,F,f⟩:=(BD T e)
 refine⟨z,y,xs,r,o,L,J,O,Z,M,F,λx C=>?_,f⟩;have A:∀{l:List (List Key×V)}{m:List (List Key×Addr×Value)},KT H l m->∀x∈m,(tupleKind (aP P w)).is h x.1 x.2.1:=by
  intro l m q;induction q with
  |nil=>simp
  |@cons p q ps qs hq t ih=>
   intro x C;rcases aaa.mp C with e|C
   ·subst e;exact fY T (by grind)
   ·grind
 grind
theorem GT(T:HOk P w H h)(e:H a=some (.dT kvs)):kvs.length<=sizeLine/\(a==sysModules)=false /\
  ∃xs,KT H kvs xs/\h.DictOfH (tupleKind (aP P w)) a xs:=ie T (.inl e)
def DGet(H:Hp)(a:Addr)(y:V)(r:Option V):Prop:=
 (∃N k,Rd H a (.dK N)/\y=kV k/\r=valV N k)\/∃N k b,Rd H a (.dT N)/\y=.ref b/\H b=some (.tup (k.map kV))/\r=valV N k
def DPut(H:Hp)(a:Addr)(y v:V)(l:Hp):Prop:=
 (∃N k,H a=some (.dK N)/\y=kV k/\N.length<sizeLine/\l=upd H a (.dK (putK N k v))) \/
 ∃N k b,H a=some (.dT N)/\y=.ref b/\H b=some (.tup (k.map kV))/\N.length<sizeLine/\l=upd H a (.dT (putK N k v))
theorem DGet.k{H:Hp}{a:Addr}{N:List (Key×V)}{k:Key}(e:H a=some (.dK N)):DGet H a (kV k) (valV N k):=.inl ⟨N,k,.inl e,rfl,rfl⟩
theorem DGet.t{H:Hp}{a b:Addr}{N:List (List Key×V)}{k:List Key}(e:H a=some (.dT N))(i:H b=some (.tup (k.map kV))):DGet H a (.ref b) (valV N k):=.inr ⟨N,k,b,.inl e,rfl,i,rfl⟩
theorem DPut.k{H:Hp}{a:Addr}{N:List (Key×V)}{k:Key}{v:V}(e:H a=some (.dK N))(j:N.length<sizeLine):DPut H a (kV k) v (upd H a (.dK (putK N k v))):=.inl ⟨N,k,e,rfl,j,rfl⟩
theorem DPut.t{H:Hp}{a b:Addr}{N:List (List Key×V)}{k:List Key}{v:V}(e:H a=some (.dT N))(i:H b=some (.tup (k.map kV)))(j:N.length<sizeLine):
  DPut H a (.ref b) v (upd H a (.dT (putK N k v))):=.inr ⟨N,k,b,e,rfl,i,j,rfl⟩
theorem Inv.big(I:Inv X pins σ H s):sysModules<s.heap.objs.size:=by have h:=(I.mod.glob.keeps I.bk).lt;exact abI (by decide) h
theorem sO(U:A.units+1<cLine)(I:Inv X pins σ H s)(g:DGet H a y (some v))(J:RelV y u)(h:∀D B,Inv X pins σ H B->RelV v D->Q D B):
  wpAny (model X.prog X.w) A (getItem (.ref a) u) Q E s:=by
 rcases g with ⟨N,k,e,C,l⟩|⟨N,k,b,e,C,i,l⟩
 ·subst C;obtain⟨z,W,c,S,t⟩:=ic I.hok e;obtain⟨D,P,o⟩:=RelO.some_of (by rw[l];exact S.val k);exact wpAny_getItem_of (ib J) t.mapOf P (h D _ (I.tok _) o)
 ·subst C;cases (J);obtain⟨z,W,Y,S,t⟩:=ie I.hok e;obtain⟨D,P,o⟩:=RelO.some_of (by rw[l];exact S.val k);obtain⟨p,m,F⟩:=aaJ.mp P;refine wpAny_getItem_heap (acN U) (fY I.hok i) t m ?_;rw[F];exact h D _ (I.tok _) o
theorem Kl(U:A.units+1<cLine)(I:Inv X pins σ H s)(g:DGet H a y o)(J:RelV y u)(h:∀B,Inv X pins σ H B->Q (.bool o.isSome) B):
  wpAny (model X.prog X.w) A (compareOp .In u (.ref a)) Q E s:=by
 rcases g with ⟨N,k,e,C,l⟩|⟨N,k,b,e,C,i,l⟩
 ·subst C;obtain⟨z,W,c,S,t⟩:=ic I.hok e;refine wpAny_in_of (ib J) W t.mapOf ?_;rw[<-(S.val k).dv,<-l];exact h _ (I.tok _)
 ·subst C;cases (J);obtain⟨z,W,Y,S,t⟩:=ie I.hok e;refine wpAny_in_heap (acN U) (fY I.hok i) W t ?_;have q:=(S.val k).dv;rw[abJ]at q;rw[<-q,<-l];exact h _ (I.tok _)
theorem y8(U:A.units+1<cLine)(I:Inv X pins σ H s)(g:DGet H a y o)(J:RelV y u)(h:∀B,Inv X pins σ H B->Q (.bool (!o.isSome)) B):
  wpAny (model X.prog X.w) A (compareOp .NotIn u (.ref a)) Q E s:=by
 rcases g with ⟨N,k,e,C,l⟩|⟨N,k,b,e,C,i,l⟩
 ·subst C;obtain⟨z,W,c,S,t⟩:=ic I.hok e;refine wpAny_notIn_of (ib J) W t.mapOf ?_;rw[<-(S.val k).dv,<-l];exact h _ (I.tok _)
 ·subst C;cases (J);obtain⟨z,W,Y,S,t⟩:=ie I.hok e;refine wpAny_notIn_heap (acN U) (fY I.hok i) W t ?_;have q:=(S.val k).dv;rw[abJ]at q;rw[<-q,<-l];exact h _ (I.tok _)
theorem jX{t':Nat}(I:Inv X pins σ H s)(M:Gq (H a))(g:Heap.SameBut a s.heap h')(n:∃q,h'.get? a=some q)(N:ObjOk X.prog X.w (upd H a ob) h' a ob):
  Inv X pins σ (upd H a ob) { s with heap:=h',toks:=t' }:=
 I.write M (.inl rfl) (λb q S z=>(g.2 b S).trans z) n N
theorem vz(z:kvs.length<=sizeLine)(W:(a==sysModules)=false)(S:KV kvs vs)(t:h'.DictOf (aP P w) a vs):
  ObjOk P w H' h' a (.dK kvs):=⟨z,W,vs,S,t⟩
theorem sR(U:A.units+1<cLine)(I:Inv X pins σ H s)(g:DPut H a y v H')(J:RelV y u)(O:RelV v r)(h:∀B,Inv X pins σ H' B->Q () B):
  wpAny (model X.prog X.w) A (setItem (.ref a) u r) Q E s:=by
 rcases g with ⟨N,k,e,C,l,F⟩|⟨N,k,b,e,C,i,l,F⟩
 ·subst C F;obtain⟨z,W,vs,S,t⟩:=BE I.hok e;have d:vs.length<=sizeLine:=by rw[<-S.length];exact z
  have j:(putK N k v).length<=sizeLine:=by have:=dR N k v;lia
  refine wpAny_setItem_pairs (ib J) t λx D m=>h _ ?_;have n:∃q,x.get? a=some q:=let ⟨q,_,_,T,_⟩:=D;⟨q,T⟩
  exact jX I (by rw[e];trivial) m n (vz j W (S.put k O) D)
 ·subst C F;cases (J);obtain⟨z,W,Y,S,t⟩:=GT I.hok e;have d:Y.length<=sizeLine:=by rw[<-acO S];exact z
  have j:(putK N k v).length<=sizeLine:=by have:=dR N k v;lia
  refine wpAny_setItem_heap (acN U) (fY I.hok i) t λx D m=>h _ ?_;obtain⟨q,L,p,T,Z,M,P,_,f⟩:=D;refine jX I (by rw[e];trivial) m ⟨q,T⟩ ⟨j,W,_,(S.put k i O).keeps λc o ec=>?_,q,L,p,T,Z,M,P,f⟩;rw[upd_ne (Gp ec e (λz=>nomatch z))]
  lia
def NoSl(i:Expr):Prop:=∀Y S,subscripted i false Y S=operate [Y,S] (getItem Y S)
theorem subD_of{T d:String}
  (j:typeLookup (.type T) "__getitem__"=pure (some (.builtin d))) (g:NoSl slice)
  (h:wpAny (model prog w) A (eval value env) (λo C=>wpAny (model prog w) A (eval slice env) (λi O=>O.TypeIs o T/\wpAny (model prog w) A (getItem o i) Q E O) E C) E s):
  wpAny (model prog w) A (eval (.Subscript value slice pos) env) Q E s:=by
 refine Subscript_ (acy h (λo C u=>acy u (λi O D=>?_) λ_ _ x=>x) λ_ _ x=>x);obtain⟨f,D⟩:=D;unfold subscriptTail;refine acs ?_;rw[getitemInPython_of_ne f.not_modules];refine acs (wpAny_specialOf f j ?_);have m:wpAny (model prog w) A (subscripted slice false o i) (λr q=>wpAny (model prog w) A (letTemporaryGo value o r >>= λ_=>pure r) Q E q) E O:=by rw[g o i];exact wpAny_operating (acy D (λr q a=>acs (wpAny_letTemporaryGo (acv a))) λ_ _ x=>x)
 first
  |exact acv (acs m)
  |exact acs (acv (acs m))
  |exact acs m
theorem lH(I:Inv X pins σ H s)(g:DGet H a y o):s.TypeIs (.ref a) "dict":=by
 rcases g with ⟨N,k,e,_,_⟩|⟨N,k,b,e,_,_,_⟩
 ·obtain⟨_,_,c,_,t⟩:=ic I.hok e;exact t.typeIs
 ·obtain⟨_,_,Y,_,t⟩:=ie I.hok e;exact t.typeIs
def GU(T d:TE):TE:=λL H Q=>T L H λx P=>d L P λy j=>∃a v,x=.ref a/\DGet j a y (some v)/\Q v j
def GV(d T:TE):TE:=λL H Q=>d L H λy P=>T L P λx j=>∃a o,x=.ref a/\DGet j a y o/\Q (.bl o.isSome) j
def qg(d T:TE):TE:=λL H Q=>d L H λy P=>T L P λx j=>∃a o,x=.ref a/\DGet j a y o/\Q (.bl (!o.isSome)) j
def GW(T d I:TE):TS:=λD L H=>I L H λv P=>T L P λx j=>d L j λy q=>∃a C,x=.ref a/\DPut q a y v C/\D.nx L C
theorem y9(U:X.A.units+1<cLine)(T:PE X o td)(r:PE X i ty)(Y:NoSl i):PE X (.Subscript o i pos) (GU td ty):=by intro M s L H Q I h;refine subD_of PySem.F.slot_dict_getitem.lookup Y (thn (T M s L H _ I h) λu f ⟨x,P,B,N,m⟩=>thn (r M f L P _ B m) λS Z t=>?_);obtain⟨y,j,W,J,a,v,k,g,b⟩:=t;subst k;obtain rfl:=N;exact⟨lH W g,sO U W g J λD e z q=>⟨v,j,z,q,b⟩⟩
theorem vA(U:X.A.units+1<cLine)(r:PE X i ty)(T:PE X o td):PC X .In i o (GV ty td):=by
 intro M s L H Q I h;refine thn (r M s L H _ I h) λS f ⟨y,P,B,J,m⟩=>thn (T M f L P _ B m) λu Z t=>?_;obtain⟨x,j,W,N,a,Y,k,g,b⟩:=t;subst k;obtain rfl:=N;exact Kl U W g J λe z=>⟨.bl Y.isSome,j,z,rfl,b⟩
theorem jy(U:X.A.units+1<cLine)(r:PE X i ty)(T:PE X o td):PC X .NotIn i o (qg ty td):=by
 intro M s L H Q I h;refine thn (r M s L H _ I h) λS f ⟨y,P,B,J,m⟩=>thn (T M f L P _ B m) λu Z t=>?_;obtain⟨x,j,W,N,a,Y,k,g,b⟩:=t;subst k;obtain rfl:=N;exact y8 U W g J λe z=>⟨.bl (!Y.isSome),j,z,rfl,b⟩
theorem qh(U:X.A.units+1<cLine)(T:PE X o td)(p:PE X i ty)(n:PE X value tv)(Y:swapsWith value (some (.Subscript o i pos')) pos.line X.env=pure false):
  PS X (.Assign [.Subscript o i pos'] value pos) (GW td ty tv):=by
 intro M s L H D I h;refine wpAny_Assign_Subscript (thn (n M s L H _ I h) λr f ⟨v,P,B,O,m⟩=>thn (T M f L P _ B m) λu Z ⟨x,j,W,N,b⟩=>thn (p M Z L j _ W b) λS e t=>?_) Y;obtain⟨y,q,z,J,a,C,k,g,d⟩:=t;subst k;obtain rfl:=N;exact sR U z g J O λc Q=>⟨L,C,Q,d⟩
theorem lI(h:Heap)(S:sysModules<h.objs.size):ObjOk P w H (h.push { cls:=.type "dict",data:=.dict #[] }) h.objs.size (.dK []):=
 ⟨aaB _,beq_eq_false_iff_ne.mpr (aaG (aao S)),[],.nil,Heap.DictOf.new h⟩
def tDNewK:TE:=λ_ H Q=>∀p,H p=none->Q (.ref p) (upd H p (.dK []))
theorem vB:PE X (.Dict [] [] pos) tDNewK:=λM s L H Q I h=>
 wpAny_Dict_empty ⟨.ref s.heap.objs.size,_,I.laid (λ_ _ q=>acw _ q) (aac _) (lI s.heap I.big),rfl,h _ (I.hok.fresh (aac _))⟩
structure M1 (X:Cx)(o:Expr)(m:Str)(apos:Pos)(e:Expr)(cpos:Pos):Prop where
 base:attributeBase o m X.env (eval o X.env)=eval o X.env
 few:((backTo cpos (starEach [e] X.env)).all (λx=>!x.1)&&(backToKw cpos (keywordEach [] X.env)).all (λx=>x.1.isSome)
  && decide (([e]:List Expr).length+([]:List Keyword).length+(if ([]:List Keyword).isEmpty then 0 else 1)<30))=true
 line:(apos.endLine==cpos.line)=true
 trees:backTo cpos (starEach [e] X.env)=[(false,eval e X.env)]
def LN(H:Hp)(a:Addr):Prop:=(∃N,Rd H a (.dK N))\/∃N,Rd H a (.dT N)
theorem DD(I:Inv X pins σ H s)(d:LN H a):
  s.TypeIs (.ref a) "dict"/\(∀b,Value.ref a=.ref b->∃g,s.heap.get? b=some g/\g.dict=none)/\(a==sysModules)=false:=by
 rcases d with ⟨N,e⟩|⟨N,e⟩
 ·obtain⟨_,W,c,_,t⟩:=ic I.hok e;refine⟨t.typeIs,λb q=>?_,W⟩;cases q;obtain⟨g,_,_,O,Z,_⟩:=t;exact⟨g,O,Z.2.1⟩
 ·obtain⟨_,W,Y,_,t⟩:=ie I.hok e;refine⟨t.typeIs,λb q=>?_,W⟩;cases q;obtain⟨g,_,_,O,Z,_⟩:=t;exact⟨g,O,Z.2.1⟩
theorem DF(U:A.units+1<cLine)(I:Inv X pins σ H s)(g:DGet H a y o)(J:RelV y u)(h:∀D B,Inv X pins σ H B->RelV (o.getD .non) D->Q D B):
  wpAny (model X.prog X.w) A (call (.builtin "dict.get") [.ref a,u]) Q E s:=by
 rcases g with ⟨N,k,e,C,l⟩|⟨N,k,b,e,C,i,l⟩
 ·subst C;obtain⟨z,W,c,S,t⟩:=ic I.hok e;refine call_meetsIn abK t.typeIs ab9 (aca _ _) (meets_dict_get (aP X.prog X.w) a (ib J) W) ⟨_,t.mapOf,h _ _ (I.tok _) ?_⟩;rw[l];exact(S.val k).getD rfl
 ·subst C;cases (show u=Value.ref b from J);obtain⟨z,W,Y,S,t⟩:=ie I.hok e;refine call_meetsIn abK t.typeIs ab9 (aca _ _) (meetsH_dict_get (tupleKind (aP X.prog X.w)) a b W) ⟨acN U,k,Y,fY I.hok i,t,h _ _ (I.tok _) ?_⟩;rw[l];exact(S.val k).getD rfl
def vC(T d:TE):TE:=λL H Q=>T L H λx P=>∃a,x=.ref a/\LN P a/\d L P λy j=>∃o,DGet j a y o/\Q (o.getD .non) j
theorem vD(U:X.A.units+1<cLine) (T:PE X o td) (n:PE X e ty) (m:M1 X o "get" apos e cpos):PE X (.Call (.Attribute o "get" apos) [e] [] cpos) (vC td ty):=by
 intro M s L H Q I h;refine wpAny_Call_method m.base m.few m.line PySem.F.plainAttrs_dict abK PySem.F.type_dict_get (thn (T M s L H _ I h) λu f t=>?_);obtain⟨x,P,B,N,a,k,d,w⟩:=t;subst k;obtain rfl:u=Value.ref a:=N;obtain⟨v,S,_⟩:=DD B d;refine⟨v,S,?_⟩;rw[m.trees];refine Calls.callWith_builtin rfl (Calls.evalArgs_plain (Calls.spliced_cons (thn (n M f L P _ B w) λC Z ⟨y,j,W,J,Y,g,b⟩=>Calls.spliced_nil ?_)));exact DF U W g J λD O z q=>⟨_,j,z,q,b⟩
end
end L2
namespace L2
open PySem PySem.Spec PyProof.Rows
section
def Km(K:Waa)(l:Addr):It:=
 ⟨λi H=>∃Y x,SqL K H l Y/\Y[i]?=some x,
  λi H v j=>∃T x,(∀Y,SqL K H l Y->Y[i]?=some x)/\H T=none/\v=.ref T/\j=upd H T (.tup [.int i,x]),
  λi H=>∃Y,SqL K H l Y/\Y.length<=i⟩
theorem sS{P:Program}{w:World}{K:Waa}{es:List Expr}{x1}{pos:Pos}(l e it:Addr)(a1:e≠it):
  Turn P w K (.Tuple es x1 pos) (Km K l) [e,it] e (λi h=>(∃g,IsEnum h e it (i:Int) g)/\h.IsListIter it l i) where
 mem:=by simp
 obj:=λi h ⟨⟨g,O⟩,Z⟩ c U=>by
  simp only[aaa,aaq,or_false]at U;rcases U with rfl|rfl
  ·grind
  ·obtain⟨o,e,c,d⟩:=Z;grind
 keep:=λi h h' ⟨⟨g,O⟩,Z⟩ k=>⟨⟨g,k e (by simp) _ O⟩,Z.at λo e=>k it (by simp) o e⟩
 item:=by
  intro X hP Q T U i M s L H E I y ⟨⟨g,O⟩,Z⟩ N;subst hP Q T;obtain⟨Y,x,A,C⟩:=N;obtain⟨D,rv,p,hz⟩:=I.list A;obtain⟨u,hu,ru⟩:=rv.get C;have j:=acu O;have li:it<s.heap.objs.size:=by obtain⟨o,e',_⟩:=id Z;exact acu e'
  refine wpAny_pyNext_enum_item O Z p.isList (x:=u) (by grind) a1 λh' a3 a0 f a6 F=>?_;refine⟨.ref s.heap.objs.size,rfl,?_⟩;refine wpAny_letOwnedTupleGo_enum a3 λa a5 B=>?_;have B:=B;have k1:∀c o,c ∉ ([e,it]:List Addr)->s.heap.get? c=some o->a.get? c=some o:=λc o U q=>by simp only[aaa,aaq,or_false,not_or]at U;exact B.extBut _ _ U.1 (F c o U.1 U.2 q)
  have hn:=I.hok.fresh (aac _);have I1:Inv X M L H { s with heap:=a,toks:=s.toks+1 }:=I.fi k1 y;have a2:=B.extBut _ _ (aa7 j) f;have W:Inv X M L (upd H s.heap.objs.size (.tup [.int i,x])) { s with heap:=a,toks:=s.toks+1 }:=by
   refine I.step (g':=s.gens) (d':=s.drawn) (ch:=[e,it]) (λb S=>?_) (λb o _ _ U e _=>k1 b o U e) (λb o _ _ U e _=>⟨o.slots,k1 b o U e⟩) (λb o U e n=>?_)
    (λb o U e=>⟨o,k1 b o U e⟩) (λb ys e=>?_) (λb o u e=>?_) (λb ps e=>⟨#[],?_⟩) (λm hm=>?_) (λb o e=>?_) I.bare
   ·obtain⟨f0,f1,f2,f3,f4,f5⟩:=y b S
    grind
   ·rw[upd_ne (aao (acu e))];exact n
   ·rw[upd_ne (au e hn)];exact e
   ·rw[upd_ne (au e hn)];exact e
   ·rw[upd_ne (au e hn),e];simp
   ·obtain⟨o,a4,J,ho,r⟩:=hm;exact⟨o,a4,J,k1 _ o (λz=>(y _ z).2.1 rfl) ho,r⟩
   ·by_cases S:b=s.heap.objs.size
    ·subst S;rw[aB]at e;cases e;exact⟨(by show 2<=sizeLine;decide),[.int i s.toks,u],.cons ⟨_,rfl⟩ (.cons ru .nil),⟨_,a2,rfl,_,rfl,rfl⟩⟩
    ·rw[upd_ne S]at e;refine(I1.hok b o e).j2 (λc v U q=>q) (λc q=>by rw[upd_ne (au q hn)];exact q) λc ys q=>by rw[upd_ne (au q hn)];exact q
  refine⟨.ref s.heap.objs.size,_,W,rfl,⟨_,x,λys t=>by rw[I.n7 t A];omega,hn,rfl,rfl⟩,⟨⟨u,by grind⟩,a0.at λo q=>B.extBut _ _ (aaG a1) q⟩,λc U=>?_⟩;simp only[aaa,aaq,or_false]at U;rcases U with rfl|rfl
  ·rw[upd_ne (aao j)];exact(y _ (by simp)).1
  ·rw[upd_ne (aao li)];exact(y _ (by simp)).1
 done:=by
  intro X hP Q T U i M s L H E I y ⟨⟨g,O⟩,Z⟩ N;subst hP Q T;obtain⟨Y,A,C⟩:=N;obtain⟨D,rv,p,hz⟩:=I.list A;have hl:=rv.length;refine wpAny_pyNext_enum_end (I.ok.hd U) O Z p.isList (by grind) λh' eb=>⟨rfl,I.fi (t':=s.toks) (λc o U q=>?_) y⟩
  simp only[aaa,aaq,or_false,not_or]at U;exact eb c o U.2 q
 self:=λ_ _ _ _ _ ⟨⟨g,O⟩,_⟩ h=>wpAny_pyIter_enum O h
theorem sU:bootBuiltins "enumerate"=some (.type "enumerate"):=by rfl
section
variable{X:Cx}
def GY(K:Waa)(Z:TA):TI:=λL H R=>Z L H λc P=>∃l Y,c=[.ref l]/\SqL K P l Y/\R (Km K l) P
theorem zd{es:List Expr}{x}{W:Pos}{a:Expr}{p pos:Pos} (N:Gl X "enumerate") (Y:X.mg "enumerate"=none) (i:PA X [a] ta) (g:starEach [a] X.env=[(false,eval a X.env)]:=by rfl):
  PI X (.Tuple es x W) (.Call (.Name "enumerate" p) [a] [] pos) (GY X.K ta):=by
 intro M s L H R I h;refine Call_ (fe I N Y sU (abf (thn (i pos M s L H _ I h) λC f t=>?_) g rfl));obtain⟨c,P,B,w,m⟩:=t;obtain⟨l,o,e,T,q⟩:=m;subst e;cases w with
 |cons r U=>
  cases U;cases r;obtain⟨D,O,k,d⟩:=B.list T;refine call_enumerate_list k.isList λv n u A Z=>?_;refine wpAny_pyIter_enum n ?_;have F:Inv X M L P { f with heap:=v }:=B.kept Z;refine⟨f.heap.objs.size+1,[f.heap.objs.size+1,f.heap.objs.size],_,_,P,rfl,F,sS l _ _ (by simp),⟨⟨_,n⟩,u⟩,λb S=>?_,q⟩;have j:f.heap.objs.size<=b:=by
   grind
  exact B.pa j (B.hok.fresh j)
end
end
section
end
section
def Kn(lo c:Int)(n:Nat):It:=⟨λi _=>i<n,λi H x l=>l=H/\x=.int (lo+i*c),λi _=>n<=i⟩
theorem sW{K:Waa}(it:Addr)(lo c:Int)(n:Nat):Turn P w K tg (Kn lo c n) [it] it (λi h=>IsRangeIter h it (lo+(i:Nat)*c) ((n:Int)-(i:Nat)) c) where
 mem:=by simp
 obj:=λi h m b S=>by
  grind
 keep:=λi h O m k=>k it (by simp) _ m
 item:=by intro X z Q T U i M s L H E I y m N;subst z Q T;obtain⟨q,r,F,g,Z,l⟩:=y it (by simp);have W:=Walks.range (prog:=X.prog) (w:=X.w) (I.ok.hd U) it lo c n;refine W.item i s _ _ N m λv O Y u a D=>?_;obtain⟨t,rfl⟩:=u;have B:Inv X M L H { s with heap:=O,toks:=Y }:=I.turned (λb o S e=>D b o (by grind) e) q r g Z l;exact⟨_,rfl,pU a rfl rfl (by rfl) ⟨.int (lo+i*c),H,B,⟨t,rfl⟩,⟨rfl,rfl⟩,a,λb S=>(y b S).1⟩⟩
 done:=by
  intro X z Q T U i M s L H E I y m N;subst z Q T;obtain⟨q,r,F,g,Z,l⟩:=y it (by simp);exact wpAny_pyNext_range_end (I.ok.hd U) m (by have:n<=i:=N;lia) λO x=>⟨rfl,I.turned (λb o S e=>x b o S e) q r g Z l⟩
 self:=λ_ _ _ _ _ m h=>wpAny_pyIter_rangeiter m h
def GZ(Z:TA):TI:=λL H R=>Z L H λU P=>∃(i j c:Int) (n:Nat),U=[.int i,.int j,.int c]/\(-1000000<=i/\i<=1000000/\-1000000<=j/\j<=1000000/\0<c/\c<=1000)/\Builtin.Range.rangeSize i j c=(n:Int)/\R (Kn i c n) P
theorem og(O:-1000000<=a)(Z:a<=1000000)(M:-1000000<=b)(P:b<=1000000)(h5:0<c)(F:c<=1000):Builtin.Range.small a b c=true:=by
 have H:0<=(if a<b then (b-a-1)/c+1 else 0)/\(if a<b then (b-a-1)/c+1 else 0)<=3000000:=by
  split
  ·have x:0<=(b-a-1)/c:=Int.ediv_nonneg (by lia) (by lia);have C:(b-a-1)/c<=b-a-1:=Int.ediv_le_self _ (by lia)
   lia
  ·lia
 have m:(if a<b then (b-a-1)/c+1 else 0)*c<=3000000000/\0<=(if a<b then (b-a-1)/c+1 else 0)*c:=by generalize (if a<b then (b-a-1)/c+1 else 0)=n at *;exact⟨abL (Int.mul_le_mul H.2 F (by lia) (by lia)) (by decide),Int.mul_nonneg H.1 (by lia)⟩
 unfold Builtin.Range.small;unfold Builtin.Range.rangeSize;rw[if_pos h5];generalize (if a<b then (b-a-1)/c+1 else 0)=n at *;simp only[Builtin.Range.rangeFitsLong,aaC,aba,decide_eq_true_eq,beq_iff_eq,if_pos h5]
 lia
theorem sX{p pos:Pos} (N:Gl X "range") (Y:X.mg "range"=none) (u:PA X [a,b,c] ta) (g:starEach [a,b,c] X.env=[(false,eval a X.env),(false,eval b X.env),(false,eval c X.env)]:=by rfl)
  (d:starEach [b,c] X.env=[(false,eval b X.env),(false,eval c X.env)]:=by rfl):
  PI X tg (.Call (.Name "range" p) [a,b,c] [] pos) (GZ ta):=by
 intro M s L H R I h;refine Call_ (fe I N Y boot_range (abf (thn (u pos M s L H _ I h) λC f ⟨vs,P,B,w,m⟩=>?_) (by grind) (by rw[d];rfl)));obtain⟨i,j,k,n,e,⟨Q,v,A,z,D,x⟩,l,q⟩:=m;subst e;cases w with
 |cons r U=>
  cases U with
  |cons y U=>
   cases U with
   |cons Z U=>
    cases U;obtain⟨t,rfl⟩:=r;obtain⟨F,rfl⟩:=y;obtain⟨T,rfl⟩:=Z;refine call_range_3 (by omega) ?_ (Or.inl (ab6 (by omega)));refine wpAny_pyIter_range (IsRange.new ..) (og Q v A z D x) ?_;have O:Inv X M L P { f with heap:=f.heap.push { cls:=.type "range",data:=.fields #[.int i t,.int j F,.int k T] },toks:=f.toks }:=B.kept λb o e=>acw _ e;refine⟨(f.heap.push { cls:=.type "range",data:=.fields #[.int i t,.int j F,.int k T] }).objs.size,[(f.heap.push { cls:=.type "range",data:=.fields #[.int i t,.int j F,.int k T] }).objs.size],_,_,P,rfl,
     O.kept λb o e=>acw _ e,sW _ i k n,?_,λb S=>?_,q⟩
    ·have J:i+((0:Nat):Int)*k=i:=by simp
     have W:(n:Int)-((0:Nat):Int)=Builtin.Range.rangeSize i j k:=by grind
     show IsRangeIter _ _ (i+((0:Nat):Int)*k) ((n:Int)-((0:Nat):Int)) k;rw[J,W];exact acx _ rfl
    ·have e:b=(f.heap.push { cls:=.type "range",data:=.fields #[.int i t,.int j F,.int k T] }).objs.size:=by grind
     subst e;exact O.pa (aac _) (O.hok.fresh (aac _))
end
section
def BF(w:World)(e:DictEntry)(B:Str×Str):Prop:=e.hash=hashStr w B.1/\(∃t,e.key=.str B.1 t)/\∃t,e.val=.str B.2 t
def KDict(K:Waa)(w:World)(c:Addr)(N:List (Str×Str)):Prop:=
 ∃o L J,K.lookup c=some o/\o.ExactDict/\o.data=.dict L J/\Paired (BF w) L.toList N/\(N.map (·.1)).Nodup/\(c==sysModules)=false
def keysOf(N:List (Str×Str)):List (Key×V):=N.map λB=>(.inr B.1,.str B.2)
theorem sY{N:List (Str×Str)}(h:(N.map (·.1)).Nodup):(N.map λB=>(.inr B.1:Key)).Nodup:=by
 grind
theorem KDict.dict{K:Waa}(D:KDict K w c kvs)(X:K.In h):∃vs,KV (keysOf kvs) vs/\h.DictOf (aP P w) c vs:=by
 obtain⟨o,L,J,j,C,W,y,Q,_⟩:=D;have N:∀{l:List DictEntry}{m:List (Str×Str)},Paired (BF w) l m->∃vs:List (Key×Value),KV (keysOf m) vs/\Pairs (aP P w) l vs/\vs.map (·.1)=m.map (λB=>(.inr B.1:Key))/\∀e∈l,∃k,(aP P w).is k e.key=true/\e.hash=(aP P w).hash k:=by
  intro l m r;induction r with
  |nil=>exact⟨[],.nil,.nil,rfl,λe n=>by cases n⟩
  |@cons e B l m h t ih=>
   obtain⟨vs,z,b,d,g⟩:=ih;obtain⟨O,⟨v,Z⟩,⟨S,M⟩⟩:=h;have F:(aP P w).is (.inr B.1) e.key=true:=by rw[Z];exact mixKind_str P w B.1 v
   refine⟨(.inr B.1,.str B.2 S)::vs,.cons ⟨rfl,⟨S,rfl⟩⟩ z,.cons F M b,by rw[aal,aal,d],λU n=>?_⟩;rcases aaa.mp n with rfl|n
   ·exact⟨_,F,O⟩
   ·exact g U n
 obtain⟨vs,z,b,d,g⟩:=N y;refine⟨vs,z,o,L,J,X _ _ j,C,W,λe n=>g e (by simpa using n),b,?_⟩;rw[d];exact sY Q
def Fit(d:PyData)(n:Nat):Prop:=d.showable=true/\d.hasDict=false/\d.shown.length<=n
theorem Fit.le(h:Fit d n)(Y:n<=m):Fit d m:=⟨h.1,h.2.1,aan h.2.2 Y⟩
def Ko(K:Waa)(n:Nat)(t:TGs):TG:=λv L H Q=>∃a Y,v=.ref a/\SqL K H a Y/\Y.length=n/\t Y L H Q
theorem DH{k:Nat}(U:X.calm=true)(h:F9 X es t)
  (l:(assignEach es X.env).length=n:=by rfl) (p:(assignEach es X.env).findIdx? (·.1)=none:=by rfl):PG X (.Tuple es k pos) (Ko X.K n t):=by
 intro M s L H v u Q I r c;obtain⟨a,Y,J,A,j,c⟩:=c;subst J;cases r;obtain⟨D,f,⟨g,y,O,Z,_,P⟩,d⟩:=I.list A;have F:s.heap.IsList a D.toArray:=⟨g,O,Z,y,P⟩
 rw[assign_Tuple];refine acs (acC ?_);unfold unpack;rw[show (assignEach es X.env).length=D.toArray.size by simp[l,<-j,f.length],p];refine acs (acB (PySem.W.kun_itemsOf (I.ok.hd U) F λm C=>?_));have B:Inv X M L H { s with heap:=m }:=I.kept λb o e=>C b o (aao (acu e)) e;exact h M _ L H Y _ Q B (by omega) c
end
section
def BG(H:Hp)(a:Addr)(y v:V)(l:Hp):Prop:=∃N k,H a=some (.dK N)/\y=kV k/\N.length<sizeLine/\l=upd H a (.dK (putK N k v))
def ze(Y I:TE):TC:=λD L H Q=>Y L H λk P=>I L P λv j=>∃q,BG j D k v q/\Q q
abbrev vE(wi:TI)(nt:Nat)(fr:List Nat)(g:CC->TG)(tc:CC->TC):TE:=g6 (.dK []) wi nt fr g (tZ tc)
noncomputable abbrev Ju(kx vx:Expr)(D:Addr)(env:Env):Sem Unit:=eval kx env >>= λkv=>holding [kv] (eval vx env) >>= λvv=>standAt { kx.pos with endLine:=vx.pos.endLine,endCol:=vx.pos.endCol } >>= λ_=>holding [kv,vv] (dictSet D kv vv)
def vF(Y:Cx)(D:Addr)(S:List Expr)(k X:Expr)(tc:TC):Prop:=PB Y (BB S (Ju k X D Y.env) Y.env) (λL H Q=>tc D L H (Q L))
theorem sZ(U:A.units+1<cLine)(I:Inv X pins σ H s)(g:BG H a y v H')(J:RelV y u)(O:RelV v r)(h:∀B,Inv X pins σ H' B->Q () B):
  wpAny (model X.prog X.w) A (dictSet a u r) Q E s:=by
 obtain⟨N,k,e,C,l,F⟩:=g;subst C F;obtain⟨z,W,c,S,t⟩:=BE I.hok e;have d:c.length<=sizeLine:=by rw[<-S.length];exact z
 have j:(putK N k v).length<=sizeLine:=by have:=dR N k v;lia
 refine wpAny_dictSet_pairs (ib J) t λm D f=>h _ ?_;have n:∃q,m.get? a=some q:=let ⟨q,_,_,T,_⟩:=D;⟨q,T⟩
 exact jX I (by rw[e];trivial) f n (vz j W (S.put k O) D)
theorem DJ(U:Y.A.units+1<cLine)(F:PE Y kx tk)(o:PE Y vx tv):PB Y (Ju kx vx D Y.env) (λσ H Q=>ze tk tv D σ H (Q σ)):=λM s σ H Q I h=>by refine acs (thn (F M s σ H _ I h) λu f t=>?_);obtain⟨y,P,B,w,O⟩:=t;refine acs (acB (thn (o M f σ P _ B O) λr Z t=>?_));obtain⟨v,j,W,p,d,g,q⟩:=t;exact acs (acC (acB (sZ U W g w p λe z=>⟨σ,d,z,q⟩)))
theorem oh(U:Y.A.units+1<cLine)(F:PE Y kx tk)(o:PE Y vx tv):vF Y D [] kx vx (ze tk tv):=vj (DJ U F o)
theorem MD:MkC X newDict { cls:=.type "dict",data:=.dict #[] } (.dK []):=⟨λh=>acG h (by first|trivial|exact aaB _|decide),λI=>I.laid (λ_ _ q=>acw _ q) (aac _) (lI _ I.big)⟩
theorem DL(it:Value)(D:Addr)(env:Env):compTurn (.DictComp kx vx [⟨tg,iter,ifs,0⟩] scope pos) 0 it (.ref D) env=cV (.DictComp kx vx [⟨tg,iter,ifs,0⟩] scope pos) 0 tg iter.pos it (.ref D) env (BB ifs (Ju kx vx D env) env):=by rw[compTurn_dict];simp only[cV,BB,<-jp,Ju];rfl
theorem vG(u:X.N.Nodup)(t:X.N[i]?=some y)(j:X.env.scope.names.lookup y=some .local)(U:X.calm=true)(S:CompScope N nt fr X.N scope X.env.scope)(r:PI X tg iter wi)(A:∀c:CC,PG (cB X N scope c) tg (g c))(m:∀(c:CC) D,vF (cB X N scope c) D ifs kx vx (tc c))(f:∀x,foldedSetIterable iter X.env x=pure x)
  (B:swapsWith (.DictComp kx vx [⟨tg,iter,ifs,0⟩] scope pos) (some (.Name y py)) spos.line X.env=pure true):PS X (.Assign [.Name y py] (.DictComp kx vx [⟨tg,iter,ifs,0⟩] scope pos) spos) (nH (vE wi nt fr g tc) (gU i)):=
 qc (.inr (.inl ⟨_,_,_,_,_,rfl⟩)) rfl (λ_ _ _=>DL ..) MD (λ_=>rfl) u t j U S r A m f B
end
end L2
set_option genInjectivity false
namespace L2
open PySem PySem.Spec PyProof.Rows
section
structure Kp (S:Addr->Prop)(H H':Hp):Prop where
 k:∀b o,H b=some o->¬ S b->H' b=some o
 n:∀b,H' b=none->H b=none
theorem Kp.refl(S:Addr->Prop)(H:Hp):Kp S H H:=⟨λ_ _ h _=>h,λ_ h=>h⟩
theorem Kp.trans(a:Kp S H H1)(b:Kp S H1 H2):Kp S H H2:=⟨λc o h n=>b.k c o (a.k c o h n) n,λc h=>a.n c (b.n c h)⟩
theorem Kp.weak(a:Kp S H H')(h:∀b,S b->T b\/H b=none):Kp T H H':=⟨λb o e n=>a.k b o e λz=>(h b z).elim n λq=>(by grind),a.n⟩
theorem Kp.put(m:S p\/H p=none):Kp S H (upd H p o):=by
 refine⟨λb u h n=>?_,λb h=>?_⟩
 ·have A:b≠p:=λe=>by
   grind
  rw[upd_ne A];exact h
 ·by_cases e:b=p
  ·subst e;rw[aB]at h;cases h
  ·rw[upd_ne e]at h;exact h
theorem Kp.ne(a:Kp S H H')(h:H b≠none):H' b≠none:=λe=>h (a.n b e)
theorem Kp.keep(a:Kp (λ_=>False) H H'):Keep [] H H':=λb o h _=>a.k b o h (λz=>z)
def Bx(S:Addr->Prop)(F:Hp->Prop)(H:Hp):Prop:=∀l,Kp S H l->F l
theorem Bx.now{F:Hp->Prop}(h:Bx S F H):F H:=h H (Kp.refl _ _)
theorem Bx.step{F:Hp->Prop}(h:Bx S F H)(k:Kp S H H')(n:∀b,S' b->S b\/H b=none):Bx S' F H':=λj r=>
 h j ⟨λb o e i=>r.k b o (k.k b o e i) λz=>(n b z).elim i λq=>(by grind),λb e=>k.n b (r.n b e)⟩
mutual
inductive Fz (K:Waa)(S:Addr->Prop)(H:Hp):V->PyData->Prop
 |non:Fz K S H .non .none
 |bl (b:Bool):Fz K S H (.bl b) (.bool b)
 |int (i:Int):Fz K S H (.int i) (.int i)
 |str (x:Str):Fz K S H (.str x) (.str x)
 |lst {a xs ds}:Bx S (λH=>SqL K H a xs) H->FzA K S H xs ds->Fz K S H (.ref a) (.list ds)
 |tup {a xs ds}:Bx S (λH=>SqT K H a xs) H->FzA K S H xs ds->Fz K S H (.ref a) (.tuple ds)
inductive FzA (K:Waa)(S:Addr->Prop)(H:Hp):List V->List PyData->Prop
 |nil:FzA K S H [] []
 |cons {x d xs ds}:Fz K S H x d->FzA K S H xs ds->FzA K S H (x::xs) (d::ds)
end
section
variable{K:Waa}
theorem Fz.ind{P:V->PyData->Prop}{Q:List V->List PyData->Prop}(N:P .non .none)(L:∀b,P (.bl b) (.bool b))(t:∀i,P (.int i) (.int i))(r:∀x,P (.str x) (.str x))
  (T:∀{a xs ds},Bx S (λH=>SqL K H a xs) H->Q xs ds->P (.ref a) (.list ds)) (p:∀{a xs ds},Bx S (λH=>SqT K H a xs) H->Q xs ds->P (.ref a) (.tuple ds)) (nil:Q [] []) (cons:∀{x d xs ds},P x d->Q xs ds->Q (x::xs) (d::ds)):
  (∀{v d},Fz K S H v d->P v d)/\∀{vs ds},FzA K S H vs ds->Q vs ds:=
 ⟨λh=>Fz.rec N L t r (λh _ i=>T h i) (λh _ i=>p h i) nil (λ_ _ i j=>cons i j) h,
  λh=>FzA.rec N L t r (λh _ i=>T h i) (λh _ i=>p h i) nil (λ_ _ i j=>cons i j) h⟩
theorem Fz.il(k:Kp S H H')(n:∀b,S' b->S b\/H b=none):(∀{v:V}{d:PyData},Fz K S H v d->Fz K S' H' v d)/\∀{vs:List V}{ds:List PyData},FzA K S H vs ds->FzA K S' H' vs ds:=
 Fz.ind .non .bl .int .str (λh t=>.lst (h.step k n) t) (λh t=>.tup (h.step k n) t) .nil (λr t=>.cons r t)
theorem Fz.step(k:Kp S H H')(n:∀b,S' b->S b\/H b=none){v:V}{d:PyData}(h:Fz K S H v d):Fz K S' H' v d:=(Fz.il k n).1 h
theorem FzA.step(k:Kp S H H')(n:∀b,S' b->S b\/H b=none){vs:List V}{ds:List PyData}(h:FzA K S H vs ds):FzA K S' H' vs ds:=(Fz.il k n).2 h
theorem Fz.dt_:(∀{v:V}{d:PyData},Fz K S H v d->Dt K H v d)/\∀{vs:List V}{ds:List PyData},FzA K S H vs ds->DtAll K H vs ds:=
 Fz.ind .non .bl .int .str (λh t=>.lst h.now t) (λh t=>.tup h.now t) .nil (λr t=>.cons r t)
theorem Fz.dt(h:Fz K S H v d):Dt K H v d:=Fz.dt_.1 h
theorem FzA.dt(h:FzA K S H vs ds):DtAll K H vs ds:=Fz.dt_.2 h
theorem Fz.of0(h:Dt K H v d):Fz K (λ_=>False) H v d:=
 Dt.rec .non .bl .int .str (λh _ t=>.lst (λl k=>k.keep.same.seq h) t) (λh _ t=>.tup (λl k=>k.keep.same.tupS h) t) .nil (λ_ _ r t=>.cons r t) h
theorem FzA.of0:∀{vs:List V}{ds:List PyData},DtAll K H vs ds->FzA K (λ_=>False) H vs ds:=by
 intro vs;induction vs with
 |nil=>intro ds h;cases h;exact .nil
 |cons v vs Y=>intro ds h;cases h with|cons r t=>exact .cons (Fz.of0 r) (Y t)
theorem Fz.sub(h:∀b,S' b->S b)(f:Fz K S H v d):Fz K S' H v d:=f.step (Kp.refl _ _) λb z=>.inl (h b z)
theorem FzA.sub(h:∀b,S' b->S b)(f:FzA K S H v d):FzA K S' H v d:=f.step (Kp.refl _ _) λb z=>.inl (h b z)
theorem FzA.length(h:FzA K S H vs ds):vs.length=ds.length:=by
 induction vs generalizing ds with
 |nil=>cases h;rfl
 |cons v vs Y=>cases h with|cons _ t=>grind
theorem FzA.get{i:Nat}(h:FzA K S H vs ds)(e:ds[i]?=some d):∃v,vs[i]?=some v/\Fz K S H v d:=by
 induction vs generalizing ds i with
 |nil=>cases h;cases i<;>cases e
 |cons v vs Y=>
  cases h with
  |cons r t=>
   cases i with
   |zero=>cases e;exact⟨_,rfl,r⟩
   |succ i=>exact Y t e
theorem FzA.append(h:FzA K S H vs ds)(h':FzA K S H ws es):FzA K S H (vs++ws) (ds++es):=by
 induction vs generalizing ds with
 |nil=>cases h;exact h'
 |cons v vs Y=>cases h with|cons r t=>exact .cons r (Y t)
theorem FzA.take:∀(n:Nat) {vs:List V}{ds:List PyData},FzA K S H vs ds->FzA K S H (vs.take n) (ds.take n)
 |0,_,_,_=>.nil
 |_+1,_,_,.nil=>.nil
 |n+1,_,_,.cons r t=>.cons r (FzA.take n t)
theorem FzA.drop:∀(n:Nat) {vs:List V}{ds:List PyData},FzA K S H vs ds->FzA K S H (vs.drop n) (ds.drop n)
 |0,_,_,h=>h
 |_+1,_,_,.nil=>.nil
 |n+1,_,_,.cons _ t=>FzA.drop n t
theorem FzA.set(h:Fz K S H u d):∀(n:Nat) {vs:List V}{ds:List PyData},FzA K S H vs ds->FzA K S H (vs.set n u) (ds.set n d)
 |_,_,_,.nil=>.nil
 |0,_,_,.cons _ t=>.cons h t
 |n+1,_,_,.cons r t=>.cons r (FzA.set h n t)
theorem FzA.ints:∀(ns:List Int),FzA K S H (ns.map V.int) (ns.map PyData.int)
 |[]=>.nil
 |n::ns=>.cons (.int n) (FzA.ints ns)
theorem Fz.mn(h:Fz K S H v (.list ds)):∃a xs,v=.ref a/\Bx S (λH=>SqL K H a xs) H/\FzA K S H xs ds:=by
 cases h with|lst h t=>exact⟨_,_,rfl,h,t⟩
theorem Fz.qd(h:Fz K S H v (.tuple ds)):∃a xs,v=.ref a/\Bx S (λH=>SqT K H a xs) H/\FzA K S H xs ds:=by
 cases h with|tup h t=>exact⟨_,_,rfl,h,t⟩
theorem DM(h:H a=some (.lst xs))(n:¬ S a):Bx S (λH=>SqL K H a xs) H:=λ_ k=>SqL.of (k.k _ _ h n)
theorem vH(h:H a=some (.tup xs))(n:¬ S a):Bx S (λH=>SqT K H a xs) H:=λ_ k=>SqT.of (k.k _ _ h n)
end
inductive OD where
 |fz (d:PyData)|lst (xs:List OD)|tup (xs:List OD)|dic (ks:List Key) (xs:List OD)|obj (c:Str) (ns:List Str) (xs:List OD)|pin (l:Bool) (xs:List V) (ds:List PyData)|hole (v:V)|st (ns:List Int)
mutual
noncomputable def OD.dat:OD->Option PyData
 |.fz d=>some d
 |.lst xs=>match OD.dd xs with|some ds=>some (.list ds)|none=>none
 |.tup xs=>match OD.dd xs with|some ds=>some (.tuple ds)|none=>none
 |.dic _ _=>none
 |.obj _ _ _=>none
 |.pin l _ ds=>some (if l then .list ds else .tuple ds)
 |.hole _=>none
 |.st _=>none
noncomputable def OD.dd:List OD->Option (List PyData)
 |[]=>some []
 |x::xs=>match x.dat with
  |some d=>match OD.dd xs with|some ds=>some (d::ds)|none=>none
  |none=>none
end
noncomputable def av(K:Waa)(c:Str):Addr:=match PySem.W.nsIn K mainGlobals c with|some (some (.ref C))=>C|_=>0
structure Bs where
 K:Waa
 H0:Hp
 S0:Addr->Prop
 C:Addr->Prop
mutual
inductive Ow (b:Bs)(S:Addr->Prop)(H:Hp):V->OD->List Addr->Prop
 |fz {v d}:Fz b.K S H v d->Ow b S H v (.fz d) []
 |lst {a vs xs A}:H a=some (.lst vs)->Ows b S H vs xs A->Ow b S H (.ref a) (.lst xs) (a::A)
 |tup {a vs xs A}:H a=some (.tup vs)->Ows b S H vs xs A->Ow b S H (.ref a) (.tup xs) A
 |dic {a ws ks vs xs A}:H a=some (.dK ws)->ws.map (·.1)=ks->ws.map (·.2)=vs->Ows b S H vs xs A->Ow b S H (.ref a) (.dic ks xs) (a::A)
 |obj {a dx c fs ns vs xs A}:H a=some (.ins (av b.K c) dx fs)->H dx=some (.own a)->fs.map (·.1)=ns->fs.map (·.2)=vs->Ows b S H vs xs A->Ow b S H (.ref a) (.obj c ns xs) (a::dx::A)
 |pinL {a xs ds}:Bx S (λH=>SqL b.K H a xs) H->FzA b.K S H xs ds->Ow b S H (.ref a) (.pin true xs ds) []
 |pinT {a xs ds}:Bx S (λH=>SqT b.K H a xs) H->FzA b.K S H xs ds->Ow b S H (.ref a) (.pin false xs ds) []
 |hole {v u}:v=u->Ow b S H v (.hole u) []
 |st {a ns M n}:H a=some (.set M n)->(∀k,M k=decide (k∈ns))->n<=ns.length->Ow b S H (.ref a) (.st ns) [a]
inductive Ows (b:Bs)(S:Addr->Prop)(H:Hp):List V->List OD->List Addr->Prop
 |nil:Ows b S H [] [] []
 |cons {v x A vs xs B}:Ow b S H v x A->Ows b S H vs xs B->Ows b S H (v::vs) (x::xs) (A++B)
end
abbrev OwL(b:Bs)(S:Addr->Prop)(H:Hp)(L:List (V×OD))(A:List Addr):Prop:=Ows b S H (L.map (·.1)) (L.map (·.2)) A
def MutO:HO->Prop
 |.lst _=>True|.dK _=>True|.ins _ _ _=>True|.own _=>True|.set _ _=>True
 |_=>False
theorem Ows.len(h:Ows b S H vs xs A):vs.length=xs.length:=by
 induction vs generalizing xs A with
 |nil=>cases h;rfl
 |cons v vs Y=>cases h with|cons _ t=>grind
theorem Ow.ind{P:V->OD->List Addr->Prop}{Q:List V->List OD->List Addr->Prop}(z:∀{v d},Fz b.K S H v d->P v (.fz d) [])(T:∀{a vs xs A},H a=some (.lst vs)->Q vs xs A->P (.ref a) (.lst xs) (a::A))(p:∀{a vs xs A},H a=some (.tup vs)->Q vs xs A->P (.ref a) (.tup xs) A)
  (D:∀{a ws ks vs xs A},H a=some (.dK ws)->ws.map (·.1)=ks->ws.map (·.2)=vs->Q vs xs A->P (.ref a) (.dic ks xs) (a::A)) (I:∀{a dx c fs ns vs xs A},H a=some (.ins (av b.K c) dx fs)->H dx=some (.own a)->fs.map (·.1)=ns->fs.map (·.2)=vs->Q vs xs A->P (.ref a) (.obj c ns xs) (a::dx::A))
  (L:∀{a xs ds},Bx S (λH=>SqL b.K H a xs) H->FzA b.K S H xs ds->P (.ref a) (.pin true xs ds) []) (t:∀{a xs ds},Bx S (λH=>SqT b.K H a xs) H->FzA b.K S H xs ds->P (.ref a) (.pin false xs ds) []) (C:∀{v u},v=u->P v (.hole u) []) (st:∀{a ns M n},H a=some (.set M n)->(∀k,M k=decide (k∈ns))->n<=ns.length->P (.ref a) (.st ns) [a])
  (nil:Q [] [] []) (cons:∀{v x A vs xs B},P v x A->Q vs xs B->Q (v::vs) (x::xs) (A++B)):(∀{v x A},Ow b S H v x A->P v x A)/\∀{vs xs A},Ows b S H vs xs A->Q vs xs A:=
 ⟨λh=>Ow.rec z (λe _ i=>T e i) (λe _ i=>p e i) (λe O Z _ i=>D e O Z i) (λe Y O Z _ i=>I e Y O Z i) L t C st nil (λ_ _ i j=>cons i j) h,
  λh=>Ows.rec z (λe _ i=>T e i) (λe _ i=>p e i) (λe O Z _ i=>D e O Z i) (λe Y O Z _ i=>I e Y O Z i) L t C st nil (λ_ _ i j=>cons i j) h⟩
theorem lK{P:Addr->Prop}(h:P a)(t:∀c∈A,P c):∀c∈a::A,P c:=by grind
theorem Ow.mu_:(∀{v:V}{x:OD}{A:List Addr},Ow b S H v x A->∀a∈A,∃o,H a=some o/\MutO o)/\∀{vs:List V}{xs:List OD}{A:List Addr},Ows b S H vs xs A->∀a∈A,∃o,H a=some o/\MutO o:=
 Ow.ind (λ_ _ h=>absurd h aaq) (λe i=>lK ⟨_,e,trivial⟩ i) (λ_ i=>i) (λe _ _ i=>lK ⟨_,e,trivial⟩ i) (λe B _ _ i=>lK ⟨_,e,trivial⟩ (lK ⟨_,B,trivial⟩ i)) (λ_ _ _ h=>absurd h aaq) (λ_ _ _ h=>absurd h aaq) (λ_ _ h=>absurd h aaq) (λe _ _=>lK ⟨_,e,trivial⟩ λ_ h=>absurd h aaq) (λ_ h=>absurd h aaq) (λi j a h=>(aaj.mp h).elim (i a) (j a))
theorem Ow.mu(h:Ow b S H v x A):∀a∈A,∃o,H a=some o/\MutO o:=Ow.mu_.1 h
theorem Ows.mu(h:Ows b S H vs xs A):∀a∈A,∃o,H a=some o/\MutO o:=Ow.mu_.2 h
theorem Ows.ne(h:Ows b S H vs xs A):∀a∈A,H a≠none:=λa i e=>by
 obtain⟨o,q,_⟩:=h.mu a i
 grind
theorem Ow.ne(h:Ow b S H v x A):∀a∈A,H a≠none:=λa i e=>by
 obtain⟨o,q,_⟩:=h.mu a i
 grind
theorem Ows.tl(h:Ows b S H vs xs A):∀a∈A,∀ys,H a≠some (.tup ys):=λa i ys e=>by obtain⟨o,q,m⟩:=h.mu a i;rw[q]at e;cases e;exact m
theorem Ow.tl(h:Ow b S H v x A):∀a∈A,∀ys,H a≠some (.tup ys):=λa i ys e=>by obtain⟨o,q,m⟩:=h.mu a i;rw[q]at e;cases e;exact m
theorem Ow.il(T:b2.K=b.K)(k:Kp S H H')(n:∀b,S' b->S b\/H b=none)(g:∀a xs,H a=some (.tup xs)->¬ S a):(∀{v:V}{x:OD}{A:List Addr},Ow b S H v x A->(∀a∈A,H' a=H a)->Ow b2 S' H' v x A)/\∀{vs:List V}{xs:List OD}{A:List Addr},Ows b S H vs xs A->(∀a∈A,H' a=H a)->Ows b2 S' H' vs xs A:=
 Ow.ind (λf _=>.fz (T▸f.step k n)) (λe i s=>.lst ((s _ aag).trans e) (i λa h=>s a (aaf _ h))) (λe i s=>.tup (k.k _ _ e (g _ _ e)) (i s)) (λe O Z i s=>.dic ((s _ aag).trans e) O Z (i λa h=>s a (aaf _ h)))
  (λe B O Z i s=>.obj (T▸(s _ aag).trans e) ((s _ (aaf _ aag)).trans B) O Z (i λa h=>s a (aaf _ (aaf _ h)))) (λh t _=>.pinL (T▸h.step k n) (T▸t.step k n)) (λh t _=>.pinT (T▸h.step k n) (T▸t.step k n)) (λe _=>.hole e) (λe m l s=>.st ((s _ aag).trans e) m l) (λ_=>.nil) (λi j s=>.cons (i λa h=>s a (aah _ h)) (j λa h=>s a (aad _ h)))
theorem Ow.step(k:Kp S H H')(n:∀b,S' b->S b\/H b=none)(g:∀a xs,H a=some (.tup xs)->¬ S a){v:V}{x:OD}{A:List Addr}(s:∀a∈A,H' a=H a)(h:Ow b S H v x A):Ow b S' H' v x A:=(Ow.il rfl k n g).1 h s
theorem Ows.step(k:Kp S H H')(n:∀b,S' b->S b\/H b=none)(g:∀a xs,H a=some (.tup xs)->¬ S a){vs:List V}{xs:List OD}{A:List Addr}(s:∀a∈A,H' a=H a)(h:Ows b S H vs xs A):Ows b S' H' vs xs A:=(Ow.il rfl k n g).2 h s
theorem Ow.sub(g:∀a xs,H a=some (.tup xs)->¬ S a)(n:∀c,S' c->S c)(h:Ow b S H v x A):Ow b S' H v x A:=h.step (Kp.refl _ _) (λc z=>.inl (n c z)) g (λ_ _=>rfl)
theorem Ows.sub(g:∀a xs,H a=some (.tup xs)->¬ S a)(n:∀c,S' c->S c)(h:Ows b S H v x A):Ows b S' H v x A:=h.step (Kp.refl _ _) (λc z=>.inl (n c z)) g (λ_ _=>rfl)
theorem Ows.subB(T:b2.K=b.K)(g:∀a xs,H a=some (.tup xs)->¬ S a)(n:∀c,S' c->S c)(h:Ows b S H v x A):Ows b2 S' H v x A:=(Ow.il T (Kp.refl _ _) (λc z=>.inl (n c z)) g).2 h λ_ _=>rfl
theorem zf(h:(OD.lst xs).dat=some d):∃ds,OD.dd xs=some ds/\d=.list ds:=by
 rw[OD.dat]at h
 grind
theorem zg(h:(OD.tup xs).dat=some d):∃ds,OD.dd xs=some ds/\d=.tuple ds:=by
 rw[OD.dat]at h
 grind
theorem tf(h:OD.dd (x::xs)=some es):∃d ds,x.dat=some d/\OD.dd xs=some ds/\es=d::ds:=by
 rw[OD.dd]at h
 grind
theorem Ow.frz_(M:∀a,S' a->S a)(nt:∀a xs,H a=some (.tup xs)->¬ S a):(∀{v:V}{x:OD}{A:List Addr},Ow b S H v x A->∀d:PyData,(∀a∈A,¬ S' a)->x.dat=some d->Fz b.K S' H v d)/\∀{vs:List V}{xs:List OD}{A:List Addr},Ows b S H vs xs A->∀ds:List PyData,(∀a∈A,¬ S' a)->OD.dd xs=some ds->FzA b.K S' H vs ds:=by
 refine Ow.ind (P:=λv x A=>∀d:PyData,(∀a∈A,¬ S' a)->x.dat=some d->Fz b.K S' H v d) (Q:=λvs xs A=>∀ds:List PyData,(∀a∈A,¬ S' a)->OD.dd xs=some ds->FzA b.K S' H vs ds) ?_ ?_ ?_ (λ_ _ _ _ _ _ q=>?_) (λ_ _ _ _ _ _ _ q=>?_) ?_ ?_ (λ_ _ _ q=>?_) (λ_ _ _ _ _ q=>?_) ?_ ?_
 ·intro v d f l _ q;cases q;exact f.sub M
 ·intro a vs xs A e i d F q;obtain⟨ds,z,rfl⟩:=zf q;exact .lst (DM e (F _ aag)) (i ds (λa h=>F a (aaf _ h)) z)
 ·intro a vs xs A e i d F q;obtain⟨ds,z,rfl⟩:=zg q;exact .tup (vH e λy=>nt _ _ e (M _ y)) (i ds F z)
 ·cases q
 ·cases q
 ·intro a xs ds h t d _ q;cases q;exact .lst (h.step (Kp.refl _ _) λc z=>.inl (M c z)) (t.sub M)
 ·intro a xs ds h t d _ q;cases q;exact .tup (h.step (Kp.refl _ _) λc z=>.inl (M c z)) (t.sub M)
 ·cases q
 ·cases q
 ·intro ds _ q;cases q;exact .nil
 ·intro v x A vs xs B i j L F q;obtain⟨d,ds,r,W,rfl⟩:=tf q;exact .cons (i d (λa h=>F a (aah _ h)) r) (j ds (λa h=>F a (aad _ h)) W)
theorem Ow.frz(M:∀a,S' a->S a)(nt:∀a xs,H a=some (.tup xs)->¬ S a)(F:∀a∈A,¬ S' a)(h:Ow b S H v x A)(q:x.dat=some d):Fz b.K S' H v d:=(Ow.frz_ M nt).1 h d F q
theorem Ows.frz(M:∀a,S' a->S a)(nt:∀a xs,H a=some (.tup xs)->¬ S a)(F:∀a∈A,¬ S' a)(h:Ows b S H vs xs A)(q:OD.dd xs=some ds):FzA b.K S' H vs ds:=(Ow.frz_ M nt).2 h ds F q
theorem Ows.append(h:Ows b S H vs xs A)(h':Ows b S H us ys B):Ows b S H (vs++us) (xs++ys) (A++B):=by
 induction vs generalizing xs A with
 |nil=>cases h;exact h'
 |cons v vs Y=>cases h with|cons r t=>rw[aab];exact .cons r (Y t)
theorem Ows.split(e:vs.length=xs.length)(h:Ows b S H (vs++us) (xs++ys) A):∃F X,A=F++X/\Ows b S H vs xs F/\Ows b S H us ys X:=by
 induction vs generalizing xs A with
 |nil=>
  cases xs with
  |nil=>exact⟨[],A,rfl,.nil,h⟩
  |cons _ _=>cases e
 |cons v vs Y=>
  cases xs with
  |nil=>cases e
  |cons x xs=>
   cases h with
   |cons r t=>obtain⟨F,X,rfl,O,Z⟩:=Y (Nat.succ.inj e) t;exact⟨_,X,(aab ..).symm,.cons r O,Z⟩
theorem OwL.eo(h:OwL b S H (L1++L2) A):∃F X,A=F++X/\OwL b S H L1 F/\OwL b S H L2 X:=by unfold OwL at h;rw[aaE,aaE]at h;exact Ows.split (by simp) h
theorem OwL.h9(O:OwL b S H L1 A1)(Z:OwL b S H L2 A2):OwL b S H (L1++L2) (A1++A2):=by unfold OwL;rw[aaE,aaE];exact Ows.append O Z
theorem OwL.perm(p:L.Perm L'):∀{A:List Addr},OwL b S H L A->∃j,OwL b S H L' j/\A.Perm j:=by
 induction p with
 |nil=>intro A h;exact⟨A,h,.refl _⟩
 |cons x _ Y=>
  intro A h;cases h with
  |cons r t=>obtain⟨B,Z,q⟩:=Y t;exact⟨_,.cons r Z,q.append_left _⟩
 |swap x y l=>
  intro A h;cases h with
  |cons r t=>
   cases t with
   |cons f F=>refine⟨_,.cons f (.cons r F),?_⟩;rw[<-aab,<-aab];exact aa5.append_right _
 |trans _ _ g I=>intro A h;obtain⟨B,O,u⟩:=g h;obtain⟨C,Z,o⟩:=I O;exact⟨C,Z,u.trans o⟩
theorem OwL.mem:∀{A:List Addr},OwL b S H L A->∀{x:V×OD},x∈L->∃B,Ow b S H x.1 x.2 B:=by
 induction L with
 |nil=>simp
 |cons y L Y=>
  intro A h x C;cases h with
  |cons r t=>
   grind
theorem Ows.zip(h:Ows b S H vs xs A)(e:xs[k]?=some x):∃v F B X,vs[k]?=some v/\A=F++(B++X)/\Ow b S H v x B /\
  ∀{J:Addr->Prop}{l:Hp}{u:V}{y:OD}{T:List Addr},Ow b J l u y T->(∀{v:V}{x:OD}{C:List Addr},(∀a∈C,a∈F\/a∈X)->Ow b S H v x C->Ow b J l v x C)->Ows b J l (vs.set k u) (xs.set k y) (F++(T++X)):=by
 induction vs generalizing xs A k with
 |nil=>cases h;cases k<;>cases e
 |cons v vs Y=>
  cases h with
  |@cons _ x0 A _ xs B r t=>
   cases k with
   |zero=>
    cases e;refine⟨v,[],A,B,rfl,rfl,r,λ{J l u y T} h g=>Ows.cons (B:=B) h ?_⟩;have i:∀{vs:List V}{xs:List OD}{D:List Addr},(∀a∈D,a∈B)->Ows b S H vs xs D->Ows b J l vs xs D:=λ{vs xs D} s h=>by
     induction xs generalizing vs D with
     |nil=>cases h;exact .nil
     |cons x xs Y=>cases h with|cons r t=>exact .cons (g (λa h=>.inr (s a (aah _ h))) r) (Y (λa h=>s a (aad _ h)) t)
    exact i (λa h=>h) t
   |succ k=>obtain⟨L,F,I,X,O,Z,M,P⟩:=Y t e;subst Z;refine⟨L,A++F,I,X,O,(aab ..).symm,M,λh g=>?_⟩;rw[aaA,aaA,aab];exact .cons (g (λa h=>.inl (aah _ h)) r) (P h λs h=>g (λa z=>(s a z).imp (aad _) id) h)
end
section
structure Wd (b:Bs)(H:Hp)(L:List (V×OD)):Prop where
 out:∃A,OwL b (λa=>a∈A\/b.S0 a) H L A/\A.Nodup/\∀a∈A,b.H0 a=none\/b.C a
 fr:Kp b.C b.H0 H
 s0:∀a,b.S0 a->b.H0 a≠none/\¬ b.C a
 nt:∀a xs,H a=some (.tup xs)->¬ b.S0 a
theorem Wd.l3(w:Wd b H L)(h:OwL b (λa=>a∈A\/b.S0 a) H L A):∀a xs,H a=some (.tup xs)->¬ (a∈A\/b.S0 a):=λa xs e z=>z.elim (λz=>Ows.tl h a z xs e) (w.nt a xs e)
theorem Wd.al(w:Wd b H L)(h:OwL b (λa=>a∈A\/b.S0 a) H L A)(e:H a=none):¬ (a∈A\/b.S0 a):=λz=>z.elim (λz=>Ows.ne h a z e) λz=>(w.s0 a z).1 (w.fr.n a e)
theorem Wd.dj(w:Wd b H L){A:List Addr}(N:∀a∈A,b.H0 a=none\/b.C a):∀a∈A,¬ b.S0 a:=λa i z=>(N a i).elim (w.s0 a z).1 (w.s0 a z).2
theorem Wd.perm(w:Wd b H L)(q:L.Perm L'):Wd b H L':=by obtain⟨A,h,Q,N⟩:=w.out;obtain⟨j,v,X⟩:=OwL.perm q h;refine⟨⟨j,Ows.step (Kp.refl _ _) (λc z=>.inl (z.imp (X.mem_iff.mpr) id)) (w.l3 h) (λ_ _=>rfl) v,X.nodup_iff.mp Q,λa i=>N a (X.mem_iff.mpr i)⟩,w.fr,w.s0,w.nt⟩
theorem Wd.drop(w:Wd b H ((v,x)::L)):Wd b H L:=by
 obtain⟨A,h,Q,N⟩:=w.out;have I:=w.l3 h;cases h with
 |@cons _ _ A _ _ B r t=>exact⟨⟨B,Ows.step (Kp.refl _ _) (λc z=>.inl (z.imp (aad _) id)) I (λ_ _=>rfl) t,(aau.mp Q).2.1,λa i=>N a (aad _ i)⟩,w.fr,w.s0,w.nt⟩
theorem Wd.drops(w:Wd b H (L1++L2)):Wd b H L2:=by
 induction L1 with
 |nil=>exact w
 |cons z L1 Y=>exact Y (Wd.drop w)
theorem Wd.puts(w:Wd b H (L1++L))(h:∀(S:Addr->Prop) (A:List Addr),OwL b S H L1 A->A.Nodup->(∀a∈A,S a)->(∀a,H a=none->¬ S a)->(∀a xs,H a=some (.tup xs)->¬ S a) ->
  ∃j,OwL b (λa=>(S a/\a ∉ A)\/a∈j) H L2 j/\j.Nodup/\∀a∈j,a∈A):Wd b H (L2++L):=by
 obtain⟨P,T,Q,N⟩:=w.out;have I:=w.l3 T;have W:=λ{a}=>w.al T (a:=a);have D:=w.dj N;obtain⟨A,B,rfl,r,t⟩:=OwL.eo T;obtain⟨Y,m,M⟩:=aau.mp Q;obtain⟨j,O,C,p⟩:=h _ A r Y (λa z=>.inl (aah _ z)) (λa e=>W e) I;have s:∀c,(c∈j++B\/b.S0 c)->(c∈A++B\/b.S0 c):=λc z=>z.imp (λz=>(aaj.mp z).elim (λz=>aah _ (p c z)) (aad _)) id;refine⟨⟨j++B,OwL.h9 (Ows.step (Kp.refl _ _) (λc z=>.inl ?_) (λa xs e z=>?_) (λ_ _=>rfl) O) (Ows.step (Kp.refl _ _) (λc z=>.inl (s c z)) I (λ_ _=>rfl) t),aau.mpr ⟨C,m,λa i c U=>M a (p a i) c U⟩,λa i=>?_⟩,w.fr,w.s0,w.nt⟩
 ·grind
 ·grind
 ·grind
theorem OwL.one(h:OwL b S H [(v,x)] A):Ow b S H v x A:=by
 cases h with
 |cons r t=>cases t;grind
theorem OwL.of1(h:Ow b S H v x A):OwL b S H [(v,x)] A:=by have:=Ows.cons h (Ows.nil );rw[aap]at this;exact this
theorem Wd.frz(w:Wd b H ((v,x)::L))(e:x.dat=some d):Wd b H ((v,.fz d)::L):=by
 refine Wd.puts (L1:=[(v,x)]) w λS A h Q F W I=>⟨[],OwL.of1 (.fz ?_),abb,λa z=>by cases z⟩
 exact Ow.frz (λa z=>z.elim (·.1) (λz=>by cases z)) I (λa i z=>z.elim (λz=>z.2 i) (λz=>by cases z)) h.one e
theorem Wd.dt(w:Wd b H ((v,x)::L))(e:x.dat=some d):Dt b.K H v d:=by obtain⟨A,T,Q,N⟩:=w.out;obtain⟨B,h⟩:=OwL.mem T (x:=(v,x)) (by simp);exact(Ow.frz (λa z=>z.elim) (w.l3 T) (λa _ z=>z) h e).dt
theorem Wd.memDt(w:Wd b H L)(m:(v,x)∈L)(e:x.dat=some d):Dt b.K H v d:=by obtain⟨A,T,Q,N⟩:=w.out;obtain⟨B,h⟩:=OwL.mem T m;exact(Ow.frz (λa z=>z.elim) (w.l3 T) (λa _ z=>z) h e).dt
def FrzIn(b:Bs)(S:Addr->Prop)(H:Hp)(L:List (V×OD)):Prop:=∀u e,(u,OD.fz e)∈L->Fz b.K S H u e
theorem OwL.vl(h:OwL b S H L A):FrzIn b S H L:=λu e m=>by obtain⟨B,q⟩:=OwL.mem h m;cases q with|fz f=>exact f
theorem FrzIn.all(h:FrzIn b S H L):∀{vs:List V}{ds:List PyData},vs.length=ds.length->(∀z∈vs.zip (ds.map OD.fz),z∈L)->FzA b.K S H vs ds
 |[],[],_,_=>.nil
 |v::vs,d::ds,e,m=>.cons (h v d (m _ (by simp))) (FrzIn.all h (by simpa using e) λz f=>m z (by simp[f]))
theorem Wd.add(w:Wd b H L)(h:∀S:Addr->Prop,(∀(x:V×OD),x∈L->∃A,Ow b S H x.1 x.2 A)->(∀a,H a=none->¬ S a)->(∀a xs,H a=some (.tup xs)->¬ S a)->Fz b.K S H v d):Wd b H ((v,.fz d)::L):=by obtain⟨A,T,Q,N⟩:=w.out;exact⟨⟨A,Ows.cons (.fz (h _ (λx C=>OwL.mem T C) (λa e=>w.al T e) (w.l3 T))) T,Q,N⟩,w.fr,w.s0,w.nt⟩
theorem Wd.adds(w:Wd b H L)(h:∀S:Addr->Prop,(∀(x:V×OD),x∈L->∃A,Ow b S H x.1 x.2 A)->FzA b.K S H vs ds):Wd b H (vs.zip (ds.map OD.fz)++L):=by
 obtain⟨A,T,Q,N⟩:=w.out;have q:∀{vs:List V}{ds:List PyData},FzA b.K (λa=>a∈A\/b.S0 a) H vs ds->OwL b (λa=>a∈A\/b.S0 a) H (vs.zip (ds.map OD.fz)) []:=by
  intro vs;induction vs with
  |nil=>intro ds h;cases h;exact .nil
  |cons v vs Y=>intro ds h;cases h with|cons r t=>exact Ows.cons (.fz r) (Y t)
 exact⟨⟨A,OwL.h9 (q (h _ λx C=>OwL.mem T C)) T,Q,N⟩,w.fr,w.s0,w.nt⟩
theorem Wd.dup(w:Wd b H ((v,.fz d)::L)):Wd b H ((v,.fz d)::(v,.fz d)::L):=w.add λS h _ _=>by obtain⟨A,q⟩:=h (v,.fz d) (by simp);cases q with|fz f=>exact f
inductive Sc:V->PyData->Prop
 |non:Sc .non .none
 |bl (b:Bool):Sc (.bl b) (.bool b)
 |int (i:Int):Sc (.int i) (.int i)
 |str (x:Str):Sc (.str x) (.str x)
theorem Sc.fz{K:Waa}(h:Sc v d):Fz K S H v d:=by cases h<;>constructor
theorem Wd.sc(w:Wd b H L)(h:Sc v d):Wd b H ((v,.fz d)::L):=w.add λS _ _ _=>h.fz
theorem Wd.new(w:Wd b H L)(m:H p=none):Wd b (upd H p o) L:=by
 obtain⟨A,h,Q,N⟩:=w.out;have P:=w.al h m;refine⟨⟨A,Ows.step (Kp.put (.inr m)) (λc z=>.inl z) (w.l3 h) (λa i=>upd_ne λe=>P (.inl (e▸i))) h,Q,N⟩,w.fr.trans (Kp.put (.inr m)),w.s0,λa Y e z=>?_⟩;by_cases q:a=p
 ·grind
 ·rw[upd_ne q]at e;exact w.nt a Y e z
theorem Wd.u3(w:Wd b H L)(m:H p=none):b.H0 p=none:=w.fr.n p m
theorem jY:∀{vs:List V}{xs:List OD},vs.length=xs.length->(vs.zip xs).map (·.1)=vs
 |[],[],_=>rfl
 |_::_,_::_,e=>by rw[abr,aal,jY (by simpa using e)]
 |[],_::_,e=>by simp at e
 |_::_,[],e=>by simp at e
theorem jZ:∀{vs:List V}{xs:List OD},vs.length=xs.length->(vs.zip xs).map (·.2)=xs
 |[],[],_=>rfl
 |_::_,_::_,e=>by rw[abr,aal,jZ (by simpa using e)]
 |[],_::_,e=>by simp at e
 |_::_,[],e=>by simp at e
theorem OwL.r4(e:vs.length=xs.length)(h:OwL b S H (vs.zip xs) A):Ows b S H vs xs A:=by unfold OwL at h;rw[jY e,jZ e]at h;exact h
theorem OwL.gp(h:Ows b S H vs xs A):OwL b S H (vs.zip xs) A:=by unfold OwL;rw[jY h.len,jZ h.len];exact h
theorem Wd.h8(w:Wd b H L)(h:∀S,FrzIn b S H L->FzA b.K S H vs ds)(m:H p=none):Wd b (upd H p (.tup vs)) ((.ref p,.fz (.tuple ds))::L):=by obtain⟨A,T,Q,N⟩:=w.out;have P:=w.al T m;have y:=h _ (OwL.vl T);have D:=w.new m (o:=.tup vs);refine⟨⟨A,Ows.cons (.fz (.tup (vH aB P) (y.step (Kp.put (.inr m)) λc z=>.inl z))) (Ows.step (Kp.put (.inr m)) (λc z=>.inl z) (w.l3 T) (λa i=>upd_ne λe=>P (.inl (e▸i))) T),Q,N⟩,D.fr,D.s0,D.nt⟩
theorem Wd.x9(w:Wd b H (vs.zip xs++L))(e:vs.length=xs.length)(m:H p=none):Wd b (upd H p (.tup vs)) ((.ref p,.tup xs)::L):=by obtain⟨A,T,Q,N⟩:=w.out;have P:=w.al T m;have I:=w.l3 T;have D:=w.new m (o:=.tup vs);have l:∀a∈A,upd H p (.tup vs) a=H a:=λa i=>upd_ne λe=>P (.inl (e▸i));obtain⟨F,X,rfl,O,Z⟩:=OwL.eo T;refine⟨⟨F++X,Ows.cons (.tup aB (Ows.step (Kp.put (.inr m)) (λc z=>.inl z) I (λa i=>l a (aah _ i)) (OwL.r4 e O))) (Ows.step (Kp.put (.inr m)) (λc z=>.inl z) I (λa i=>l a (aad _ i)) Z),Q,N⟩,D.fr,D.s0,D.nt⟩
theorem Wd.eg(w:Wd b H (vs.zip xs++L))(e:vs.length=xs.length)(m:H p=none):Wd b (upd H p (.lst vs)) ((.ref p,.lst xs)::L):=by
 obtain⟨A,T,Q,N⟩:=w.out;have P:=w.al T m;have I:=w.l3 T;have D:=w.new m (o:=.lst vs);have l:∀a∈A,upd H p (.lst vs) a=H a:=λa i=>upd_ne λe=>P (.inl (e▸i));obtain⟨F,X,rfl,O,Z⟩:=OwL.eo T;have n:∀c,(c∈p::(F++X)\/b.S0 c)->(c∈F++X\/b.S0 c)\/H c=none:=λc z=>by
  grind
 refine⟨⟨p::(F++X),Ows.cons (.lst aB (Ows.step (Kp.put (.inr m)) n I (λa i=>l a (aah _ i)) (OwL.r4 e O))) (Ows.step (Kp.put (.inr m)) n I (λa i=>l a (aad _ i)) Z),aat.mpr ⟨λz=>P (.inl z),Q⟩,λa i=>?_⟩,D.fr,D.s0,D.nt⟩;rcases aaa.mp i with rfl|i
 ·exact .inl (w.u3 m)
 ·grind
theorem Wd.tr(w:Wd b H L)(m:H p=none):Wd b (upd H p (.dK [])) ((.ref p,.dic [] [])::L):=by
 obtain⟨A,T,Q,N⟩:=w.out;have P:=w.al T m;have I:=w.l3 T;have D:=w.new m (o:=.dK []);have n:∀c,(c∈p::A\/b.S0 c)->(c∈A\/b.S0 c)\/H c=none:=λc z=>by
  grind
 refine⟨⟨p::A,Ows.cons (A:=[p]) (.dic aB rfl rfl .nil) (Ows.step (Kp.put (.inr m)) n I (λa i=>upd_ne λe=>P (.inl (e▸i))) T),aat.mpr ⟨λz=>P (.inl z),Q⟩,λa i=>?_⟩,D.fr,D.s0,D.nt⟩;rcases aaa.mp i with rfl|i
 ·exact .inl (w.u3 m)
 ·grind
noncomputable def OD.kids:OD->List OD
 |.lst xs=>xs|.tup xs=>xs|.dic _ xs=>xs|.obj _ _ xs=>xs
 |_=>[]
def OD.dw(k:Nat)(y:OD):OD->OD
 |.lst xs=>.lst (xs.set k y)|.tup xs=>.tup (xs.set k y)|.dic ks xs=>.dic ks (xs.set k y)|.obj c ns xs=>.obj c ns (xs.set k y)
 |x=>x
def OD.at:List Nat->OD->Option OD
 |[],x=>some x
 |k::ks,x=>match x.kids[k]? with|some z=>OD.at ks z|none=>none
def OD.put(y:OD):List Nat->OD->OD
 |[],_=>y
 |k::ks,x=>match x.kids[k]? with|some z=>OD.dw k (OD.put y ks z) x|none=>x
inductive Chd (b:Bs)(H:Hp):V->OD->Nat->V->OD->Prop
 |lst {a vs xs k w z}:H a=some (.lst vs)->vs.length=xs.length->vs[k]?=some w->xs[k]?=some z->Chd b H (.ref a) (.lst xs) k w z
 |tup {a vs xs k w z}:H a=some (.tup vs)->vs.length=xs.length->vs[k]?=some w->xs[k]?=some z->Chd b H (.ref a) (.tup xs) k w z
 |dic {a ws ks xs k w z}:H a=some (.dK ws)->ws.map (·.1)=ks->ws.length=xs.length->(ws[k]?).map (·.2)=some w->xs[k]?=some z->Chd b H (.ref a) (.dic ks xs) k w z
 |obj {a dx c fs ns xs k w z}:H a=some (.ins (av b.K c) dx fs)->fs.map (·.1)=ns->fs.length=xs.length->(fs[k]?).map (·.2)=some w->xs[k]?=some z->Chd b H (.ref a) (.obj c ns xs) k w z
inductive Chn (b:Bs)(H:Hp):V->OD->List Nat->V->OD->Prop
 |nil {v x}:Chn b H v x [] v x
 |cons {v x k w z ks u y}:Chd b H v x k w z->Chn b H w z ks u y->Chn b H v x (k::ks) u y
theorem cm{Y:Type}(F B X:List Y):(F++(B++X)).Perm (B++(F++X)):=by rw[<-aab,<-aab];exact aa5.append_right _
theorem bE{Y:Type}:∀{l:List Y}{i:Nat}{x:Y},l[i]?=some x->l.set i x=l
 |[],_,_,e=>by simp at e
 |_::_,0,_,e=>by simp at e;subst e;rfl
 |y::l,i+1,x,e=>by rw[aaA,bE (by simpa using e)]
theorem Ow.kid(h:Ow b S H v x A)(e:x.kids[k]?=some z):∃w B j,Chd b H v x k w z/\Ow b S H w z B/\A.Perm (B++j) /\
  ∀{J:Addr->Prop}{l:Hp}{I:OD}{T:List Addr},Kp S H l->(∀c,J c->S c\/H c=none)->(∀a xs,H a=some (.tup xs)->¬ S a)->(∀a∈j,l a=H a)->Ow b J l w I T->∃p,Ow b J l v (OD.dw k I x) p/\p.Perm (T++j):=by
 cases h with
 |fz _=>trivial
 |pinL _ _=>trivial
 |pinT _ _=>trivial
 |hole _=>trivial
 |st _ _ _=>trivial
 |@lst a vs xs A e1 t=>obtain⟨w,F,B,X,O,rfl,M,P⟩:=t.zip e;refine⟨w,B,a::(F++X),.lst e1 t.len O e,M,((cm F B X).cons a).trans aav.symm,λ{J l I T} k n hs s h=>?_⟩;have:=P h λW h=>Ow.step k n hs (λa i=>s a (aaf _ (aaj.mpr (W a i)))) h;rw[bE O]at this;exact⟨_,.lst ((s a aag).trans e1) this,((cm F T X).cons a).trans aav.symm⟩
 |@tup a vs xs A e1 t=>obtain⟨w,F,B,X,O,rfl,M,P⟩:=t.zip e;refine⟨w,B,F++X,.tup e1 t.len O e,M,cm F B X,λ{J l I T} k n hs s h=>?_⟩;have:=P h λW h=>Ow.step k n hs (λa i=>s a (aaj.mpr (W a i))) h;rw[bE O]at this;exact⟨_,.tup (k.k _ _ e1 (hs _ _ e1)) this,cm F T X⟩
 |@dic a ws ks vs xs A e1 h5 h6 t=>obtain⟨w,F,B,X,O,rfl,M,P⟩:=t.zip e;refine⟨w,B,a::(F++X),.dic e1 h5 (by rw[<-t.len,<-h6,aae]) (by grind) e,M,((cm F B X).cons a).trans aav.symm,λ{J l I T} k n hs s h=>?_⟩;have:=P h λW h=>Ow.step k n hs (λa i=>s a (aaf _ (aaj.mpr (W a i)))) h;rw[bE O]at this;exact⟨_,.dic ((s a aag).trans e1) h5 h6 this,((cm F T X).cons a).trans aav.symm⟩
 |@obj a dx c fs ns vs xs A e1 e2 h5 h6 t=>
  obtain⟨w,F,B,X,O,rfl,M,P⟩:=t.zip e;have u:∀B:List Addr,(a::dx::(F++(B++X))).Perm (B++(a::dx::(F++X))):=λB=>by
   grind
  refine⟨w,B,a::dx::(F++X),.obj e1 h5 (by rw[<-t.len,<-h6,aae]) (by grind) e,M,u B,λ{J l I T} k n hs s h=>?_⟩;have:=P h λW h=>Ow.step k n hs (λa i=>s a (aaf _ (aaf _ (aaj.mpr (W a i))))) h;rw[bE O]at this;exact⟨_,.obj ((s a aag).trans e1) ((s dx (aaf _ aag)).trans e2) h5 h6 this,u T⟩
theorem Ow.path:∀{ks:List Nat}{v:V}{x:OD}{A:List Addr}{y:OD},Ow b S H v x A->x.at ks=some y->∃u B j,Chn b H v x ks u y/\Ow b S H u y B/\A.Perm (B++j) /\
  ∀{J:Addr->Prop}{l:Hp}{g:OD}{T:List Addr},Kp S H l->(∀c,J c->S c\/H c=none)->(∀a xs,H a=some (.tup xs)->¬ S a)->(∀a∈j,l a=H a)->Ow b J l u g T->∃p,Ow b J l v (OD.put g ks x) p/\p.Perm (T++j)
 |[],v,x,A,y,h,e=>by simp only[OD.at]at e;cases e;exact⟨v,A,[],.nil,h,by simp,λ{J l g T} _ _ _ _ h=>⟨T,h,by simp⟩⟩
 |k::ks,v,x,A,y,h,e=>by
  simp only[OD.at]at e;cases Q:x.kids[k]? with
  |none=>grind
  |some z=>rw[Q]at e;simp only at e;obtain⟨w,B,j,P,O,U,r⟩:=h.kid Q;obtain⟨u,L,X,q,Z,o,F⟩:=Ow.path O e;refine⟨u,L,X++j,.cons P q,Z,U.trans (by grind),λ{J l g T} k' n hs s h=>?_⟩;obtain⟨N,M,I⟩:=F k' n hs (λa i=>s a (aah _ i)) h;obtain⟨D,W,C⟩:=r k' n hs (λa i=>s a (aad _ i)) M;refine⟨D,?_,C.trans (by grind)⟩;simp only[OD.put,Q];omega
end
section
theorem Wd.wh(w:Wd b H (us.zip zs++((v,x)::L)))(el:us.length=zs.length)(e:x.at ks=some y):∃(S:Addr->Prop) (u:V) (B C:List Addr),Chn b H v x ks u y/\Ow b S H u y B/\Ows b S H us zs C/\(B++C).Nodup/\(∀c∈B,S c)/\(∀c,H c=none->¬ S c)/\(∀c xs,H c=some (.tup xs)->¬ S c)/\FrzIn b S H L /\
  ∀{l:Hp}{g:OD}{D:List Addr},(∀c,c ∉ B->l c=H c)->(∀c∈B,∃o,l c=some o/\MutO o)->D.Nodup->(∀c∈D,c∈B\/c∈C)->(∀J:Addr->Prop,(∀c,J c->S c)->(∀c∈B,J c->c∈D)->Ow b J l u g D)->Wd b l ((v,OD.put g ks x)::L):=by
 obtain⟨A0,T,Q,N⟩:=w.out;have I:=w.l3 T;have W:=λ{a}=>w.al T (a:=a);obtain⟨C,A1,rfl,hz,O⟩:=OwL.eo T;cases O with
 |@cons _ _ A _ _ E r t=>
  obtain⟨u,B,j,f,hy,pB,h⟩:=Ow.path r e;obtain⟨nC,a3,a0⟩:=aau.mp Q;obtain⟨Y,nE,d⟩:=aau.mp a3;have a7:=pB.nodup_iff.mp Y;obtain⟨nB,a5,a1⟩:=aau.mp a7;have i:∀c,c∈A ↔ c∈B\/c∈j:=λc=>by rw[pB.mem_iff,aaj]
  refine⟨_,u,B,C,f,hy,OwL.r4 el hz,aau.mpr ⟨nB,nC,λc U M P e=>a0 M P c (aah _ ((i c).mpr (.inl U))) e.symm⟩,λc U=>.inl (aad _ (aah _ ((i c).mpr (.inl U)))),λc e=>W e,I,OwL.vl t,λ{l g D} hk hm nD sD hO=>?_⟩;have Z:Kp (λc=>c∈C++(A++E)\/b.S0 c) H l:=⟨λc o e n=>by
    rw[hk c λz=>n (.inl (aad _ (aah _ ((i c).mpr (.inl z)))))];exact e,λc e=>by
    by_cases z:c∈B
    ·obtain⟨o,q,_⟩:=hm c z;rw[q]at e;cases e
    ·rw[hk c z]at e;exact e⟩
  have s:∀c,(c∈(D++j)++E\/b.S0 c)->(c∈C++(A++E)\/b.S0 c):=λc z=>z.imp (λz=>by
   rcases aaj.mp z with z|z
   ·rcases aaj.mp z with z|z
    ·rcases sD c z with z|z
     ·exact aad _ (aah _ ((i c).mpr (.inl z)))
     ·exact aah _ z
    ·exact aad _ (aah _ ((i c).mpr (.inr z)))
   ·exact aad _ (aad _ z)) id
  obtain⟨p,hx,X⟩:=h Z (λc z=>.inl (s c z)) I (λc U=>hk c λz=>a1 c z c U rfl) (hO _ s λc U z=>by
   rcases z with z|z
   ·rcases aaj.mp z with z|z
    ·rcases aaj.mp z with z|z
     ·exact z
     ·exact absurd rfl (a1 c U c z)
    ·exact absurd rfl (d c ((i c).mpr (.inl U)) c z)
   ·exact absurd z (w.dj N c (aad _ (aah _ ((i c).mpr (.inl U))))))
  have F:∀c,c∈p ↔ c∈D++j:=λc=>X.mem_iff;have a2:∀c xs,l c=some (.tup xs)->¬ (c∈(D++j)++E\/b.S0 c):=λc xs e z=>by
   by_cases q:c∈B
   ·obtain⟨o,m,q2⟩:=hm c q;rw[m]at e;cases e;exact q2
   ·rw[hk c q]at e;exact I c xs e (s c z)
  have a6:∀c∈D,∀M∈j,c≠M:=λc U M P e=>by
   subst e;rcases sD c U with z|z
   ·exact a1 c z c P rfl
   ·exact a0 c z c (aah _ ((i c).mpr (.inr P))) rfl
  refine⟨⟨p++E,Ows.cons (Ow.sub a2 (λc z=>z.imp (λz=>(aaj.mp z).elim (λz=>aah _ ((F c).mp z)) (aad _)) id) hx) (Ows.step Z (λc z=>.inl (s c (z.imp (λz=>(aaj.mp z).elim (λz=>aah _ ((F c).mp z)) (aad _)) id))) I (λc U=>hk c λz=>d c ((i c).mpr (.inl z)) c U rfl) t),?_,λc U=>?_⟩,?_,w.s0,λc xs e z=>?_⟩
  ·refine aau.mpr ⟨X.nodup_iff.mpr (aau.mpr ⟨nD,a5,a6⟩),nE,λc U M P e=>?_⟩;subst e;rcases aaj.mp ((F c).mp U) with z|z
   ·rcases sD c z with z|z
    ·exact d c ((i c).mpr (.inl z)) c P rfl
    ·exact a0 c z c (aad _ P) rfl
   ·exact d c ((i c).mpr (.inr z)) c P rfl
  ·have:c∈C++(A++E)\/b.S0 c:=s c (.inl ((aaj.mp U).elim (λz=>aah _ ((F c).mp z)) (aad _)));have a4:c∈C++(A++E):=by
    rcases aaj.mp U with z|z
    ·rcases aaj.mp ((F c).mp z) with z|z
     ·rcases sD c z with z|z
      ·exact aad _ (aah _ ((i c).mpr (.inl z)))
      ·exact aah _ z
     ·exact aad _ (aah _ ((i c).mpr (.inr z)))
    ·exact aad _ (aad _ z)
   exact N c a4
  ·refine⟨λc o e n=>?_,λc e=>w.fr.n c (Z.n c e)⟩;rw[hk c λz=>?_]
   ·exact w.fr.k c o e n
   ·rcases N c (aad _ (aah _ ((i c).mpr (.inl z)))) with q|q
    ·rw[q]at e;cases e
    ·exact n q
  ·exact a2 c xs e (.inr z)
theorem Wd.vr(w:Wd b H (us.zip zs++((v,x)::L)))(r:us.length=zs.length)(e:x.at ks=some (.lst xs)):∃a vs,Chn b H v x ks (.ref a) (.lst xs)/\H a=some (.lst vs)/\vs.length=xs.length /\
  ∀N j,(∀(S:Addr->Prop) (H:Hp) (A C:List Addr),(∀c xs,H c=some (.tup xs)->¬ S c)->Ows b S H vs xs A->Ows b S H us zs C->(A++C).Nodup->∃D,Ows b S H N j D/\D.Nodup/\∀c∈D,c∈A\/c∈C)->Wd b (upd H a (.lst N)) ((v,OD.put (.lst j) ks x)::L):=by
 obtain⟨S,u,B,C,f,s,d,Q,M,W,I,O,h⟩:=w.wh r e;cases s with
 |@lst a vs _ A e1 t=>
  refine⟨a,vs,f,e1,t.len,λN j y=>?_⟩;obtain⟨Y,X⟩:=aat.mp (Q);have F:∀c,c≠a->upd H a (.lst N) c=H c:=λc n=>upd_ne n;have Z:Kp S H (upd H a (.lst N)):=Kp.put (.inl (M a (by simp)));have p:∀J:Addr->Prop,(∀c,J c->S c)->∃D,Ows b J (upd H a (.lst N)) N j D/\D.Nodup/\∀c∈D,c∈A\/c∈C:=λJ l=>by
   refine y J _ A C (λc xs e z=>?_) (Ows.step Z (λc z=>.inl (l c z)) I (λc U=>F c λe=>Y (e▸aah _ U)) t) (Ows.step Z (λc z=>.inl (l c z)) I (λc U=>F c λe=>Y (e▸aad _ U)) d) X;by_cases q:c=a
   ·subst q;rw[aB]at e;cases e
   ·rw[upd_ne q]at e;exact I c xs e (l c z)
  obtain⟨D,i,k,T⟩:=p S λ_ z=>z;have P:∀c xs,upd H a (.lst N) c=some (.tup xs)->¬ S c:=λc xs e z=>by
   by_cases q:c=a
   ·subst q;rw[aB]at e;cases e
   ·rw[upd_ne q]at e;exact I c xs e z
  refine h (λc n=>F c λe=>n (by simp[e])) (λc U=>?_) (aat.mpr ⟨λz=>Y (by rcases T a z with z|z<;>simp[z]),k⟩) (λc U=>?_) λJ l _=>.lst aB (Ows.sub P l i)
  ·rcases aaa.mp U with rfl|U
   ·exact⟨_,aB,trivial⟩
   ·obtain⟨o,q,m⟩:=t.mu c U;exact⟨o,by rw[F c λe=>Y (e▸aah _ U)];exact q,m⟩
  ·rcases aaa.mp U with rfl|U
   ·exact .inl (by simp)
   ·exact(T c U).imp (aaf _) id
theorem Wd.r3(w:Wd b H (us.zip zs++((v,x)::L)))(g:us.length=zs.length)(e:x.at ks=some (.dic kk xs)):∃a ws,Chn b H v x ks (.ref a) (.dic kk xs)/\H a=some (.dK ws)/\ws.map (·.1)=kk/\ws.length=xs.length /\
  ∀N r j,N.map (·.1)=r->(∀(S:Addr->Prop) (H:Hp) (A C:List Addr),(∀c xs,H c=some (.tup xs)->¬ S c)->Ows b S H (ws.map (·.2)) xs A->Ows b S H us zs C->(A++C).Nodup->∃D,Ows b S H (N.map (·.2)) j D/\D.Nodup/\∀c∈D,c∈A\/c∈C)->Wd b (upd H a (.dK N)) ((v,OD.put (.dic r j) ks x)::L):=by
 obtain⟨S,u,B,C,f,O,d,Q,M,W,I,p,h⟩:=w.wh g e;cases O with
 |@dic a ws _ vs _ A e1 h5 h6 t=>
  subst h6;refine⟨a,ws,f,e1,h5,by have:=t.len;rwa [aae]at this,λN r j s y=>?_⟩;obtain⟨Y,X⟩:=aat.mp (Q);have F:∀c,c≠a->upd H a (.dK N) c=H c:=λc n=>upd_ne n;have Z:Kp S H (upd H a (.dK N)):=Kp.put (.inl (M a (by simp)));have P:∀c xs,upd H a (.dK N) c=some (.tup xs)->¬ S c:=λc xs e z=>by
   by_cases q:c=a
   ·subst q;rw[aB]at e;cases e
   ·rw[upd_ne q]at e;exact I c xs e z
  obtain⟨D,i,k,T⟩:=y S _ A C P (Ows.step Z (λc z=>.inl z) I (λc U=>F c λe=>Y (e▸aah _ U)) t) (Ows.step Z (λc z=>.inl z) I (λc U=>F c λe=>Y (e▸aad _ U)) d) X;refine h (λc n=>F c λe=>n (by simp[e])) (λc U=>?_) (aat.mpr ⟨λz=>Y (by rcases T a z with z|z<;>simp[z]),k⟩) (λc U=>?_) λJ l _=>.dic aB s rfl (Ows.sub P l i)
  ·rcases aaa.mp U with rfl|U
   ·exact⟨_,aB,trivial⟩
   ·obtain⟨o,q,m⟩:=t.mu c U;exact⟨o,by rw[F c λe=>Y (e▸aah _ U)];exact q,m⟩
  ·rcases aaa.mp U with rfl|U
   ·exact .inl (by simp)
   ·exact(T c U).imp (aaf _) id
theorem Wd.mutO(w:Wd b H (us.zip zs++((v,x)::L)))(el:us.length=zs.length)(e:x.at ks=some (.obj c ns xs)):∃a dx fs,Chn b H v x ks (.ref a) (.obj c ns xs)/\H a=some (.ins (av b.K c) dx fs)/\fs.map (·.1)=ns/\fs.length=xs.length /\
  ∀g O j,g.map (·.1)=O->(∀(S:Addr->Prop) (H:Hp) (A C:List Addr),(∀c xs,H c=some (.tup xs)->¬ S c)->Ows b S H (fs.map (·.2)) xs A->Ows b S H us zs C->(A++C).Nodup->∃D,Ows b S H (g.map (·.2)) j D/\D.Nodup/\∀c∈D,c∈A\/c∈C)->Wd b (upd H a (.ins (av b.K c) dx g)) ((v,OD.put (.obj c O j) ks x)::L):=by
 obtain⟨S,u,B,C,f,hy,d,Q,M,W,I,p,go⟩:=w.wh el e;cases hy with
 |@obj a dx _ fs _ vs _ A e1 e2 h5 h6 t=>
  subst h6;refine⟨a,dx,fs,f,e1,h5,by have:=t.len;grind,λg O j a0 y=>?_⟩;obtain⟨Y,X⟩:=aat.mp (show (a::(dx::(A++C))).Nodup from Q);obtain⟨r,X⟩:=aat.mp X;have F:∀z,z≠a->upd H a (.ins (av b.K c) dx g) z=H z:=λz n=>upd_ne n;have Z:Kp S H (upd H a (.ins (av b.K c) dx g)):=Kp.put (.inl (M a (by simp)));have P:∀z xs,upd H a (.ins (av b.K c) dx g) z=some (.tup xs)->¬ S z:=λz xs e s=>by
   by_cases q:z=a
   ·subst q;rw[aB]at e;cases e
   ·grind
  obtain⟨D,i,k,T⟩:=y S _ A C P (Ows.step Z (λc z=>.inl z) I (λc U=>F c λe=>Y (e▸aaf _ (aah _ U))) t) (Ows.step Z (λc z=>.inl z) I (λc U=>F c λe=>Y (e▸aaf _ (aad _ U))) d) X;have N:dx≠a:=λe=>Y (e▸aag);refine go (λz n=>F z λe=>n (by simp[e])) (λz U=>?_) (aat.mpr ⟨λz=>?_,aat.mpr ⟨λz=>?_,k⟩⟩) (λz U=>?_) λJ l _=>.obj aB (by rw[F dx N];exact e2) a0 rfl (Ows.sub P l i)
  ·rcases aaa.mp U with rfl|U
   ·exact⟨_,aB,trivial⟩
   ·rcases aaa.mp U with rfl|U
    ·exact⟨.own a,by rw[F _ N];exact e2,trivial⟩
    ·obtain⟨o,q,m⟩:=t.mu z U;exact⟨o,by rw[F z λe=>Y (e▸aaf _ (aah _ U))];exact q,m⟩
  ·rcases aaa.mp z with z|z
   ·exact N z.symm
   ·exact Y (aaf _ (aaj.mpr (T a z)))
  ·exact r (aaj.mpr (T dx z))
  ·rcases aaa.mp U with rfl|U
   ·exact .inl (by simp)
   ·rcases aaa.mp U with rfl|U
    ·exact .inl (by simp)
    ·exact(T z U).imp (λh=>aaf _ (aaf _ h)) id
theorem Chd.det(h:Chd b H v x k w z)(h':Chd b H v x k w' z'):w=w'/\z=z':=by
 cases h with
 |lst J B s e=>cases h' with|lst r F g Z=>grind
 |tup J B s e=>cases h' with|tup r F g Z=>grind
 |dic J B L s e=>cases h' with|dic r F l g Z=>grind
 |obj J B L s e=>cases h' with|obj r F l g Z=>grind
theorem Chd.same(h:Chd b H v x k w z)(h':Chd b H v (OD.dw k y x) k w' y'):w=w':=by
 cases h with
 |lst J B s e=>cases h' with|lst r F g Z=>grind
 |tup J B s e=>cases h' with|tup r F g Z=>grind
 |dic J B L s e=>cases h' with|dic r F l g Z=>grind
 |obj J B L s e=>cases h' with|obj r F l g Z=>grind
theorem Chd.kid(h:Chd b H v x k w z):x.kids[k]?=some z:=by
 cases h with
 |lst _ _ _ e=>exact e
 |tup _ _ _ e=>exact e
 |dic _ _ _ _ e=>exact e
 |obj _ _ _ _ e=>exact e
theorem Chd.set(h:Chd b H v x k w z):(OD.dw k y x).kids[k]?=some y:=by
 cases h with
 |lst _ _ _ e=>exact aaY (aai.mp e).1
 |tup _ _ _ e=>exact aaY (aai.mp e).1
 |dic _ _ _ _ e=>exact aaY (aai.mp e).1
 |obj _ _ _ _ e=>exact aaY (aai.mp e).1
theorem Wd.r8(w:Wd b H ((v,x)::L))(e:x.at ks=some y)(ed:y.dat=some d):∃u,Chn b H v x ks u y/\Wd b H ((u,.fz d)::(v,OD.put (.fz d) ks x)::L):=by
 obtain⟨S,u,B,C,m,t,hz,Q,hS,W,I,p,h⟩:=Wd.wh (us:=[]) (zs:=[]) w rfl e;have n:=h (λ_ _=>rfl) (λc U=>t.mu c U) abb (λc U=>by cases U) λJ l hB=>.fz (Ow.frz l I (λa i z=>by cases hB a i z) t ed);refine⟨u,m,n.add λg O Z D=>?_⟩;obtain⟨F,X⟩:=O (v,OD.put (.fz d) ks x) (by simp);have q:∀{ks:List Nat}{v u:V}{x:OD}{A:List Addr},Chn b H v x ks u y->Ow b g H v (OD.put (.fz d) ks x) A->Fz b.K g H u d:=λ{ks}=>by
  induction ks with
  |nil=>intro v u x A c o;cases c;simp only[OD.put]at o;cases o with|fz f=>exact f
  |cons k ks Y=>
   intro v u x A c o;cases c with
   |cons P r=>have s:=P.kid;simp only[OD.put,s]at o;obtain⟨u',T,j,M,o',_⟩:=o.kid P.set;have N:=P.same M;subst N;exact Y r o'
 exact q m X
end
section
abbrev DSp:=List OD->(OD->List OD->Prop)->Prop
def LO(K:Waa)(S:Addr->Prop)(A:List Addr)(vs:List V)(H:Hp)(Q:VK)(x:OD)(ys:List OD):Prop:=∀v l B,Kp (λa=>a∈A) H l ->
 Ows ⟨K,H,S,λa=>a∈A⟩ (λa=>a∈B\/S a) l (v::vs) (x::ys) B->B.Nodup->(∀a∈B,H a=none\/a∈A)->Q v l
def toSp(K:Waa)(sp:DSp):Sp:=λc H Q _=>∃(S:Addr->Prop) (Y:List OD) (A:List Addr),(∀a,S a->H a≠none/\a ∉ A)/\(∀a Y,H a=some (.tup Y)->¬ S a) /\
 Ows ⟨K,H,S,λa=>a∈A⟩ (λa=>a∈A\/S a) H c Y A/\A.Nodup/\sp Y (LO K S A c H Q)
def vJ(sp:DSp):Prop:=∀Y (P R:OD->List OD->Prop),(∀x o,P x o->R x o)->sp Y P->sp Y R
theorem Wd.call(w:Wd b H (us.zip xs++L))(u:us.length=xs.length)(S:vJ sp)
  (h:sp xs λx ys=>us.length=ys.length->∀v l,Wd b l ((v,x)::(us.zip ys++L))->Q v l):toSp b.K sp us H Q E:=by
 obtain⟨P,T,nd,N⟩:=w.out;have I:=w.l3 T;have W:=λ{a}=>w.al T (a:=a);obtain⟨A,X,rfl,O,t⟩:=OwL.eo T;obtain⟨Y,j,M⟩:=aau.mp nd;have r:=w.dj N;refine⟨λa=>a∈X\/b.S0 a,xs,A,λa z=>⟨λe=>W e (z.imp (aad _) id),λF=>?_⟩,λa xs e z=>I a xs e (z.imp (aad _) id),?_,Y,S _ _ _ (λx ys J v l B Z q m g=>?_) h⟩
 ·grind
 ·refine Ows.subB (b2:=⟨b.K,H,λa=>a∈X\/b.S0 a,λa=>a∈A⟩) (b:=b) rfl I (λc z=>?_) (OwL.r4 u O)
  grind
 have d:us.length=ys.length:=by have:=q.len;grind
 have s:∀a,a ∉ A->H a≠none->l a=H a:=λa F i=>by
  cases e:H a with
  |none=>grind
  |some o=>exact Z.k a o e F
 have p:Kp (λa=>a∈A++X\/b.S0 a) H l:=Z.weak λc U=>.inl (.inl (aah _ U));have C:∀c,(c∈B++X\/b.S0 c)->(c∈A++X\/b.S0 c)\/H c=none:=λc z=>by
  grind
 have D:∀a xs,l a=some (.tup xs)->¬ (a∈B\/a∈X\/b.S0 a):=λa xs e z=>by
  rcases z with z|z
  ·exact q.tl a z xs e
  ·grind
 have y:((v,x)::(us.zip ys++L))=((v::us).zip (x::ys))++L:=rfl;refine J d v l ?_;rw[y];refine⟨⟨B++X,OwL.h9 (OwL.gp (Ows.subB (b2:=b) (b:=⟨b.K,H,λa=>a∈X\/b.S0 a,λa=>a∈A⟩) rfl D (λc z=>?_) q)) (Ows.step p C I (λa i=>s a (λF=>M a F a i rfl) λe=>W e (.inl (aad _ i))) t),aau.mpr ⟨m,j,λa i c U e=>?_⟩,λa i=>?_⟩,?_,w.s0,λa xs e z=>D a xs e (.inr (.inr z))⟩
 ·rcases z with z|z
  ·exact(aaj.mp z).imp id .inl
  ·exact .inr (.inr z)
 ·subst e;rcases g a i with z|z
  ·exact W z (.inl (aad _ U))
  ·exact M a z a U rfl
 ·rcases aaj.mp i with z|z
  ·rcases g a z with z|z
   ·exact .inl (w.u3 z)
   ·exact N a (aah _ z)
  ·exact N a (aad _ z)
 ·refine⟨λc o e f=>Z.k c o (w.fr.k c o e f) λF=>?_,λc e=>w.fr.n c (Z.n c e)⟩;rcases N c (aah _ F) with z|z
  ·rw[z]at e;cases e
  ·exact f z
theorem Wd.pin(w:Wd b H ((v,.fz d)::L))(e:d=if l then .list ds else .tuple ds):∃xs,Wd b H ((v,.pin l xs ds)::L):=by
 obtain⟨P,T,Q,N⟩:=w.out;cases T with
 |cons r t=>
  cases r with
  |fz r=>
   cases l with
   |true=>subst e;obtain⟨a,xs,rfl,O,Z⟩:=r.mn;exact⟨xs,⟨⟨_,Ows.cons (.pinL O Z) t,Q,N⟩,w.fr,w.s0,w.nt⟩⟩
   |false=>subst e;obtain⟨a,xs,rfl,O,Z⟩:=r.qd;exact⟨xs,⟨⟨_,Ows.cons (.pinT O Z) t,Q,N⟩,w.fr,w.s0,w.nt⟩⟩
theorem Wd.pinned(w:Wd b H L)(m:(v,OD.pin l xs ds)∈L):∃a,v=.ref a/\xs.length=ds.length/\(if l then SqL b.K H a xs else SqT b.K H a xs)/\Wd b H (xs.zip (ds.map OD.fz)++L):=by
 obtain⟨A,T,Q,N⟩:=w.out;obtain⟨B,h⟩:=OwL.mem T m;have q:=w.adds λS M=>by
  obtain⟨B,h⟩:=M _ m;cases h with
  |pinL _ t=>exact t
  |pinT _ t=>exact t
 cases h with
 |pinL O Z=>exact⟨_,rfl,Z.length,O.now,q⟩
 |pinT O Z=>exact⟨_,rfl,Z.length,O.now,q⟩
end
section
abbrev DEnv:=List (Option OD)
noncomputable def flat:St->DEnv->List (V×OD)
 |some v::σ,some x::ρ=>(v,x)::flat σ ρ
 |_::σ,_::ρ=>flat σ ρ
 |_,_=>[]
def Wf:St->DEnv->Prop
 |[],[]=>True
 |_::σ,none::ρ=>Wf σ ρ
 |some _::σ,some _::ρ=>Wf σ ρ
 |_,_=>False
theorem bA:flat (o::σ) (none::ρ)=flat σ ρ:=by cases o<;>rfl
theorem Wf.get:∀{σ:St}{ρ:DEnv}{i:Nat},Wf σ ρ->ρ[i]?=some (some x)->∃v,σ[i]?=some (some v)
 |[],[],_,_,e=>by simp at e
 |[],_::_,_,h,_=>by simp[Wf]at h
 |_::_,[],_,_,e=>by simp at e
 |some v::_,some _::_,0,_,_=>⟨v,rfl⟩
 |none::_,some _::_,_,h,_=>by simp[Wf]at h
 |o::_,none::_,0,_,e=>by simp at e
 |o::σ,none::ρ,i+1,h,e=>by obtain⟨v,q⟩:=Wf.get (ρ:=ρ) h (by simpa using e);exact⟨v,by simpa using q⟩
 |some _::σ,some _::ρ,i+1,h,e=>by obtain⟨v,q⟩:=Wf.get (ρ:=ρ) h (by simpa using e);exact⟨v,by simpa using q⟩
theorem Wf.len:∀{σ:St}{ρ:DEnv},Wf σ ρ->σ.length=ρ.length
 |[],[],_=>rfl
 |[],_::_,h=>by trivial
 |_::_,[],h=>by trivial
 |o::σ,none::ρ,h=>by simp[Wf.len (σ:=σ) h]
 |some _::σ,some _::ρ,h=>by simp[Wf.len (ρ:=ρ) h]
 |none::_,some _::_,h=>by trivial
theorem Wf.off:∀{σ:St}{ρ:DEnv}{i:Nat},Wf σ ρ->Wf σ (ρ.set i none)
 |[],[],_,_=>trivial
 |[],_::_,_,h=>by simp[Wf]at h
 |_::_,[],_,h=>by simp[Wf]at h
 |o::σ,none::ρ,0,h=>h
 |some _::σ,some _::ρ,0,h=>h
 |none::_,some _::_,_,h=>by simp[Wf]at h
 |o::σ,none::ρ,i+1,h=>Wf.off (σ:=σ) h
 |some _::σ,some _::ρ,i+1,h=>Wf.off (i:=i) h
theorem Wf.put:∀{σ:St}{ρ:DEnv}{i:Nat},Wf σ ρ->Wf (σ.set i (some v)) (ρ.set i (some x))
 |[],[],_,_=>trivial
 |[],_::_,_,h=>by trivial
 |_::_,[],_,h=>by trivial
 |o::σ,none::ρ,0,h=>h
 |some _::σ,some _::ρ,0,h=>h
 |none::_,some _::_,_,h=>by trivial
 |o::σ,none::ρ,i+1,h=>Wf.put (σ:=σ) h
 |some _::σ,some _::ρ,i+1,h=>Wf.put (i:=i) h
theorem bB:∀{σ:St}{ρ:DEnv}{i:Nat},ρ[i]?=some (some x)->σ[i]?=some (some v)->(flat σ ρ).Perm ((v,x)::flat σ (ρ.set i none))
 |[],_,_,_,e=>by simp at e
 |_::_,[],_,e,_=>by simp at e
 |some u::σ,some y::ρ,0,e,e'=>by simp at e e';subst e e';exact .refl _
 |none::_,_::_,0,_,e=>by simp at e
 |some _::_,none::_,0,e,_=>by simp at e
 |o::σ,none::ρ,i+1,e,e'=>by rw[aaA,bA,bA];exact bB (by simpa using e) (by simpa using e')
 |some u::σ,some y::ρ,i+1,e,e'=>by rw[aaA];exact((bB (σ:=σ) (by simpa using e) (by simpa using e')).cons _).trans (List.Perm.swap _ _ _)
 |none::σ,some y::ρ,i+1,e,e'=>by rw[aaA];exact bB (by simpa using e) (by simpa using e')
theorem cO:∀{σ:St}{ρ:DEnv}{i:Nat},i<ρ.length->σ.length=ρ.length->(flat (σ.set i (some v)) (ρ.set i (some x))).Perm ((v,x)::flat σ (ρ.set i none))
 |_,[],_,h,_=>by simp at h
 |[],_::_,_,_,h=>by simp at h
 |o::σ,y::ρ,0,_,_=>by rw[abM,abM,abM,bA];exact .refl _
 |o::σ,none::ρ,i+1,h,h'=>by rw[aaA,aaA,aaA,bA,bA];exact cO (by simpa using h) (by simpa using h')
 |none::σ,some _::ρ,i+1,h,h'=>by rw[aaA,aaA,aaA];exact cO (σ:=σ) (by simpa using h) (by simpa using h')
 |some u::σ,some y::ρ,i+1,h,h'=>by rw[aaA,aaA,aaA];exact((cO (by simpa using h) (by simpa using h')).cons _).trans (List.Perm.swap _ _ _)
theorem set_self{Y:Type}:∀{l:List Y}{i:Nat}{x:Y},l[i]?=some x->l.set i x=l
 |[],_,_,e=>by rfl
 |_::_,0,_,e=>by grind
 |y::l,i+1,x,e=>by rw[aaA,set_self (by grind)]
inductive OR where|val (x:OD)|rf (i:Nat)
def stk:List V->List OR->List (V×OD)
 |v::τ,.val x::θ=>(v,x)::stk τ θ
 |_::τ,.rf _::θ=>stk τ θ
 |_,_=>[]
def Al(σ:St):List V->List OR->Prop
 |[],[]=>True
 |_::τ,.val _::θ=>Al σ τ θ
 |v::τ,.rf i::θ=>σ[i]?=some (some v)/\Al σ τ θ
 |_,_=>False
structure Fr where
 σ:St
 ρ:DEnv
 τ:List V
 θ:List OR
def ff(F:List Fr):List (V×OD):=F.flatMap λf=>stk f.τ f.θ++flat f.σ f.ρ
structure Rel (b:Bs)(F:List Fr)(σ:St)(H:Hp)(ρ:DEnv)(τ:List V)(θ:List OR):Prop where
 wf:Wf σ ρ
 al:Al σ τ θ
 wff:∀f∈F,Wf f.σ f.ρ/\Al f.σ f.τ f.θ
 wd:Wd b H (stk τ θ++(flat σ ρ++ff F))
def az(ρ:DEnv):OR->Option PyData
 |.val x=>x.dat
 |.rf i=>(ρ[i]?.join).bind OD.dat
section
variable{i:Nat}
theorem join_some{Y:Type}{o:Option (Option Y)}{x:Y}(h:o.join=some x):o=some (some x):=by
 cases o with
 |none=>cases h
 |some o=>exact congrArg some h
theorem Al.len:∀{τ:List V}{θ:List OR},Al σ τ θ->τ.length=θ.length
 |[],[],_=>rfl
 |[],_::_,h=>by trivial
 |_::_,[],h=>by trivial
 |_::τ,.val _::θ,h=>by simp[Al.len (τ:=τ) h]
 |_::τ,.rf _::θ,h=>by simp[Al.len h.2]
theorem aH:∀{vs τ:List V}{rs θ:List OR},vs.length=rs.length->stk (vs++τ) (rs++θ)=stk vs rs++stk τ θ
 |[],_,[],_,_=>rfl
 |_::vs,τ,.val _::rs,θ,e=>by simp only[aaK,stk];rw[aH (by simpa using e)]
 |_::vs,τ,.rf _::rs,θ,e=>by simp only[aaK,stk];exact aH (by simpa using e)
 |[],_,_::_,_,e=>by simp at e
 |_::_,_,[],_,e=>by simp at e
theorem aS:∀{vs τ:List V}{rs θ:List OR},vs.length=rs.length->(Al σ (vs++τ) (rs++θ) ↔ Al σ vs rs/\Al σ τ θ)
 |[],_,[],_,_=>by simp[Al]
 |_::vs,τ,.val _::rs,θ,e=>by simp only[aaK,Al];exact aS (by simpa using e)
 |_::vs,τ,.rf _::rs,θ,e=>by simp only[aaK,Al];rw[aS (by simpa using e),and_assoc]
 |[],_,_::_,_,e=>by simp at e
 |_::_,_,[],_,e=>by simp at e
theorem Rel.wk(R:Rel b F σ H ρ (vs++v::τ) (rs++r::θ))(e:vs.length=rs.length):Rel b F σ H ρ (v::vs++τ) (r::rs++θ):=by
 obtain⟨I,U⟩:=(aS e).mp R.al;have T:Al σ [v] [r]/\Al σ τ θ:=(aS rfl).mp U;refine⟨R.wf,(aS (vs:=[v]) (rs:=[r]) rfl).mpr ⟨T.1,(aS e).mpr ⟨I,T.2⟩⟩,R.wff,R.wd.perm ?_⟩;refine acb _ ?_;have J:stk (v::vs++τ) (r::rs++θ)=stk [v] [r]++(stk vs rs++stk τ θ):=by rw[<-aH e,<-aH rfl];rfl
 have B:stk (vs++v::τ) (rs++r::θ)=stk vs rs++(stk [v] [r]++stk τ θ):=by rw[aH e,<-aH (rs:=[r]) rfl];rfl
 rw[J,B,<-aab,<-aab];exact aa5.append_right _
theorem Rel.wj(R:Rel b F σ H ρ (v::vs++τ) (r::rs++θ))(e:vs.length=rs.length):Rel b F σ H ρ (vs++v::τ) (rs++r::θ):=by
 obtain⟨I,U⟩:=(aS (vs:=[v]) (rs:=[r]) rfl).mp R.al;obtain⟨T,l⟩:=(aS e).mp U;refine⟨R.wf,(aS e).mpr ⟨T,(aS rfl).mpr ⟨I,l⟩⟩,R.wff,R.wd.perm ?_⟩;refine acb _ ?_;have J:stk (v::vs++τ) (r::rs++θ)=stk [v] [r]++(stk vs rs++stk τ θ):=by rw[<-aH e,<-aH rfl];rfl
 have B:stk (vs++v::τ) (rs++r::θ)=stk vs rs++(stk [v] [r]++stk τ θ):=by rw[aH e,<-aH (rs:=[r]) rfl];rfl
 rw[J,B,<-aab,<-aab];exact aa5.append_right _
theorem Rel.drop(R:Rel b F σ H ρ (v::τ) (r::θ)):Rel b F σ H ρ τ θ:=by
 cases r with
 |val x=>exact⟨R.wf,R.al,R.wff,R.wd.drop⟩
 |rf i=>exact⟨R.wf,R.al.2,R.wff,R.wd⟩
theorem Rel.drops(R:Rel b F σ H ρ (vs++τ) (rs++θ))(e:vs.length=rs.length):Rel b F σ H ρ τ θ:=by
 induction vs generalizing rs with
 |nil=>cases rs with
  |nil=>exact R
  |cons _ _=>simp at e
 |cons v vs Y=>cases rs with
  |nil=>simp at e
  |cons r rs=>exact Y (Rel.drop R) (by simpa using e)
theorem Rel.sc(R:Rel b F σ H ρ τ θ)(h:Sc v d):Rel b F σ H ρ (v::τ) (.val (.fz d)::θ):=⟨R.wf,R.al,R.wff,R.wd.sc h⟩
theorem Rel.slot(R:Rel b F σ H ρ τ θ)(e:ρ[i]?=some (some x)):∃v,σ[i]?=some (some v)/\Wd b H ((v,x)::(stk τ θ++(flat σ (ρ.set i none)++ff F))):=by obtain⟨v,a⟩:=R.wf.get e;refine⟨v,a,R.wd.perm ?_⟩;refine((bB e a).append_right _ |>.append_left _).trans ?_;simp
theorem Rel.ua(A:Wf σ ρ)(W:Al (σ.set i (some v)) τ θ)(B:∀f∈F,Wf f.σ f.ρ/\Al f.σ f.τ f.θ)(r:i<ρ.length)(w:Wd b H ((v,x)::(stk τ θ++(flat σ (ρ.set i none)++ff F)))):Rel b F (σ.set i (some v)) H (ρ.set i (some x)) τ θ:=by refine⟨A.put,W,B,w.perm ?_⟩;refine(aav.symm).trans ?_;exact((cO r A.len).symm.append_right _).append_left _
theorem Rel.back(A:Wf σ ρ)(W:Al σ τ θ)(B:∀f∈F,Wf f.σ f.ρ/\Al f.σ f.τ f.θ)(ev:σ[i]?=some (some v))(w:Wd b H ((v,x)::(stk τ θ++(flat σ (ρ.set i none)++ff F)))):Rel b F σ H (ρ.set i (some x)) τ θ:=by
 have r:i<ρ.length:=by rw[<-A.len];grind
 have e:=set_self ev;have:=Rel.ua A (by grind) B r w
 grind
theorem Rel.dt(R:Rel b F σ H ρ (v::τ) (r::θ))(e:az ρ r=some d):Dt b.K H v d:=by
 cases r with
 |val x=>exact R.wd.memDt (by simp[stk]) e
 |rf i=>
  simp only[az,aaF]at e;obtain⟨x,J,B⟩:=e;obtain⟨u,D,w⟩:=R.drop.slot (join_some J);have:v=u:=by have:=R.al.1;grind
  subst this;exact w.memDt (aag) B
theorem Rel.dt2(R:Rel b F σ H ρ (u::v::τ) (f::r::θ))(e:az ρ r=some d):Dt b.K H v d:=(R.drop).dt e
theorem Rel.frzS(R:Rel b F σ H ρ τ θ)(e:ρ[i]?=some (some x))(c:x.dat=some d):Rel b F σ H (ρ.set i (some (.fz d))) τ θ:=by obtain⟨v,a,w⟩:=R.slot e;exact Rel.back R.wf R.al R.wff a (w.frz c)
theorem Rel.dupS(R:Rel b F σ H ρ τ θ)(e:ρ[i]?=some (some (.fz d)))(ev:σ[i]?=some (some v)):Rel b F σ H ρ (v::τ) (.val (.fz d)::θ):=by
 obtain⟨u,D,w⟩:=R.slot e;rw[ev]at D;cases D;have n:=w.dup;have J:=set_self e;have:=Rel.back (i:=i) (τ:=v::τ) (θ:=.val (.fz d)::θ) R.wf R.al R.wff ev (n.perm (List.Perm.swap _ _ _))
 grind
def frz1(ρ:DEnv):OR->Option (PyData×DEnv)
 |.val x=>x.dat.map (·,ρ)
 |.rf i=>(ρ[i]?.join).bind λx=>x.dat.map λd=>(d,ρ.set i (some (.fz d)))
theorem Rel.frz1(R:Rel b F σ H ρ (v::τ) (r::θ))(e:frz1 ρ r=some (d,ρ')):Rel b F σ H ρ' (v::τ) (.val (.fz d)::θ):=by
 cases r with
 |val x=>simp only[L2.frz1,aaJ]at e;obtain⟨l,J,B⟩:=e;cases B;exact⟨R.wf,R.al,R.wff,R.wd.frz J⟩
 |rf i=>simp only[L2.frz1,aaF,aaJ]at e;obtain⟨x,J,l,B,s⟩:=e;cases s;have a:i<ρ.length:=(aai.mp (join_some J)).1;exact(R.drop.frzS (join_some J) B).dupS (by rw[aaY a]) R.al.1
def frzL(ρ:DEnv):List OR->Option (List PyData×DEnv)
 |[]=>some ([],ρ)
 |r::rs=>(L2.frz1 ρ r).bind λz=>(frzL z.2 rs).map λy=>(z.1::y.1,y.2)
theorem j3:∀{vs:List V}{rs:List OR}{ρ p:DEnv}{ds:List PyData}{τ:List V}{θ:List OR},Rel b F σ H ρ (vs++τ) (rs++θ)->vs.length=rs.length->L2.frzL ρ rs=some (ds,p)->Rel b F σ H p (vs++τ) (ds.map (λd=>OR.val (.fz d))++θ)/\vs.length=ds.length
 |[],[],_,_,_,_,_,R,_,e=>by simp only[L2.frzL]at e;grind
 |v::vs,r::rs,ρ,p,ds,τ,θ,R,e,h=>by
  simp only[L2.frzL,aaF,aaJ]at h;obtain⟨⟨d,ρ1⟩,O,⟨D,ρ2⟩,Z,Q⟩:=h;cases Q;have M:=Rel.frz1 R O;have L:vs.length=rs.length:=by grind
  obtain⟨N,B⟩:=j3 (Rel.wj M L) L Z;exact⟨Rel.wk N (by grind),by grind⟩
 |[],_::_,_,_,_,_,_,_,e,_=>by grind
 |_::_,[],_,_,_,_,_,_,e,_=>by grind
end
end
section
def G0(K:Waa):R2:=λx y H Q=>∃l b Y s,x=.ref l/\y=.ref b/\SqL K H l Y/\SqL K H b s/\Y.length+s.length<=sizeLine/\∀p,H p=none->Q (.ref p) (upd H p (.lst (Y++s)))
theorem zh:OpR X (binaryOp .Add) (G0 X.K):=by
 intro M s L H x y v u Q I N J h;obtain⟨l,b,Y,z,rfl,rfl,m,g,d,q⟩:=h;cases N;cases J;obtain⟨D,r,⟨⟨c,t,o,Z⟩,n,e,U,_,W⟩,_⟩:=I.list m;obtain⟨i,p,⟨⟨w,C,f,P⟩,a,B,A,_,O⟩,_⟩:=I.list g;have k:=r.length;have S:=p.length;simp only at U W A O;subst U W A O;refine concat_meets ⟨_,e,rfl⟩ ⟨_,B,rfl⟩ noFill_list_add seq_list_add PySem.F.slot_list_add PySem.F.entry_list_add (PySem.F.args_list_add_2 _ _) (list_addW l b D.toArray i.toArray n a t C Z P (by grind)) ⟨e,B,?_⟩;have T:D.toArray++i.toArray=(D++i).toArray:=by simp
 rw[T];exact⟨.ref _,_,I.lnew (r.append p) (by grind),rfl,q _ I.fresh⟩
abbrev DK:=OR->DEnv->Prop
abbrev DE:=DEnv->DK->Prop
abbrev DT:=DEnv->(Bool->DEnv->Prop)->Prop
abbrev DA:=DEnv->(List OR->DEnv->Prop)->Prop
abbrev DR2:=PyData->PyData->(PyData->Prop)->Prop
abbrev DR1:=PyData->(PyData->Prop)->Prop
abbrev DRn:=List PyData->(PyData->Prop)->Prop
def bJ(K:Waa)(o:TE)(e:DE):Prop:=∀(b:Bs) (F:List Fr) (L:St) (H:Hp) (I:DEnv) (z:List V) (S:List OR) (Qd:DK) (Q:VK),b.K=K->Rel b F L H I z S->e I Qd->(∀v l r p,Rel b F L l p (v::z) (r::S)->Qd r p->Q v l)->o L H Q
def SndT(K:Waa)(o:TT)(e:DT):Prop:=∀(b:Bs) (F:List Fr) (L:St) (H:Hp) (I:DEnv) (z:List V) (S:List OR) (Qd:Bool->DEnv->Prop) (Q:Bool->Hp->Prop),b.K=K->Rel b F L H I z S->e I Qd->(∀k l p,Rel b F L l p z S->Qd k p->Q k l)->o L H Q
def vK(K:Waa)(o:TA)(e:DA):Prop:=∀(b:Bs) (F:List Fr) (L:St) (H:Hp) (I:DEnv) (z:List V) (S:List OR) (Qd:List OR->DEnv->Prop) (Q:List V->Hp->Prop),b.K=K->Rel b F L H I z S->e I Qd->(∀c l U p,c.length=U.length->Rel b F L l p (c++z) (U++S)->Qd U p->Q c l)->o L H Q
inductive PDe (X:Cx)(e:Expr)(de:DE):Prop|mk (te:TE) (h:PE X e te) (s:bJ X.K te de)
inductive PDt (X:Cx)(e:Expr)(de:DT):Prop|mk (te:TT) (h:PT X e te) (s:SndT X.K te de)
inductive PDw (X:Cx)(e:Expr)(de:DT):Prop|mk (te:TT) (h:PW X e te) (s:SndT X.K te de)
inductive PDa (X:Cx)(es:List Expr)(de:DA):Prop|mk (te:TA) (h:PA X es te) (s:vK X.K te de)
section
variable{K:Waa}
noncomputable def dVar(i:Nat):DE:=λI Q=>match I[i]?.join with
 |some (.fz d)=>Q (.val (.fz d)) I
 |some _=>Q (.rf i) I
 |none=>False
theorem zi:bJ K (tVar i) (dVar i):=by
 intro b F L H I z S w Q T R h q;unfold dVar at h;cases e:I[i]?.join with
 |none=>rw[e]at h;exact h.elim
 |some x=>
  rw[e]at h;have U:=join_some e;obtain⟨v,a⟩:=R.wf.get U;have A:w (.rf i) I->tVar i L H Q:=λh=>⟨v,a,q v H (.rf i) I ⟨R.wf,show Al L (v::z) (.rf i::S) from ⟨a,R.al⟩,R.wff,R.wd⟩ h⟩
  cases x with
  |fz d=>exact⟨v,a,q v H _ I (R.dupS U a) h⟩
  |_=>exact A h
theorem DN(u:X.N[i]?=some x) (o:Vis X.env.scope x) (W:(x==("__debug__":Str))=false:=by decide) (L:(x==("__classdict__":Str))=false:=by decide):PDe X (.Name x pos) (dVar i):=⟨_,bD u o W L,zi⟩
def dC(d:PyData):DE:=λI Q=>Q (.val (.fz d)) I
theorem qj(h:Sc v d):bJ K (tC v) (dC d):=λb F L H I z S w Q T R W q=>q v H _ I (R.sc h) W
theorem pd_int{i j pos}:PDe X (.Constant (.int i) j pos) (dC (.int i)):=⟨_,gT,qj (.int i)⟩
theorem pd_bl{k j pos}:PDe X (.Constant (.bool k) j pos) (dC (.bool k)):=⟨_,Gr,qj (.bl k)⟩
theorem pd_non{j pos}:PDe X (.Constant .none j pos) (dC .none):=⟨_,CF,qj .non⟩
theorem pd_str{x j pos}:PDe X (.Constant (.str x) j pos) (dC (.str x)):=⟨_,nG,qj (.str x)⟩
theorem Rel.addK{b:Bs}(R:Rel b F σ H ρ τ θ)(h:∀S H,Fz b.K S H v d):Rel b F σ H ρ (v::τ) (.val (.fz d)::θ):=⟨R.wf,R.al,R.wff,R.wd.add λS _ _ _=>h S H⟩
theorem vL(N:Gl X x) (Y:X.mg x=some u) (r:RelV v u) (s:∀S H,Fz X.K S H v d) (W:(x==("__debug__":Str))=false:=by decide):PDe X (.Name x pos) (dC d):=
 ⟨_,yL N Y r W,λb F L H I z a w Q T R W q=>q v H _ I (R.addK (by rw[T];exact s)) W⟩
def SndR2(K:Waa)(p:R2)(r:DR2):Prop:=∀(H:Hp) (v u:V) (n l:PyData) (Qd:PyData->Prop) (Q:VK),Dt K H v n->Dt K H u l->r n l Qd->(∀w d,Sc w d->Qd d->Q w H)->p v u H Q
def zj(r:DR2)(a b:DE):DE:=λI Q=>a I λx A=>b A λy m=>∃n l,az m x=some n/\az m y=some l/\r n l λd=>Q (.val (.fz d)) m
theorem oi(D:SndR2 K r2 r)(i:bJ K ta da)(Y:bJ K tb db):bJ K (CZ r2 ta tb) (zj r da db):=by intro b F L H I z S a Q T R h q;refine i b F L H I z S _ _ T R h λv P x A o O=>Y b F L P A _ _ _ _ T o O λu j y m N Z=>?_;obtain⟨n,l,J,B,M⟩:=Z;exact D j v u n l _ _ (T▸N.dt2 J) (T▸N.dt B) M λw d C W=>q w j _ _ (N.drop.drop.sc C) W
theorem G1(T:OpR X (binaryOp op) r2)(D:SndR2 X.K r2 r):PDe X a da->PDe X b db->PDe X (.BinOp a op b pos) (zj r da db)
 |⟨_,h1,s1⟩,⟨_,h2,s2⟩=>⟨_,uR T h1 h2,oi D s1 s2⟩
def dI(C:Int->Int->Prop)(g:Int->Int->PyData):DR2:=λx y Q=>∃i j,x=.int i/\y=.int j/\C i j/\Q (g i j)
def LP(g:Int->Int->PyData):DR2:=λx y Q=>∃i j,x=.int i/\y=.int j/\Q (g i j)
theorem zk(h:∀i j,Sc (g i j) (g' i j)):SndR2 K (rI C g) (dI C g'):=by rintro H v u n l w Q o U ⟨i,j,rfl,rfl,c,A⟩ q;cases o;cases U;exact⟨i,j,rfl,rfl,c,q _ _ (h i j) A⟩
theorem vM(h:∀i j,Sc (g i j) (g' i j)):SndR2 K (yD g) (LP g'):=by rintro H v u n l w Q o U ⟨i,j,rfl,rfl,A⟩ q;cases o;cases U;exact⟨i,j,rfl,rfl,q _ _ (h i j) A⟩
theorem DP(T:OpR X (compareOp op) r2)(D:SndR2 X.K r2 r)(Y:behindInMarks op b=false):PDe X a da->PDe X b db->PDe X (.Compare a [op] [b] pos) (zj r da db)
 |⟨_,h1,s1⟩,⟨_,h2,s2⟩=>⟨_,pY T h1 h2 Y,oi D s1 s2⟩
theorem zl{g:Int->Int->Bool}:SndR2 K (yD λi j=>.bl (g i j)) (LP λi j=>.bool (g i j)):=vM λ_ _=>.bl _
noncomputable def vN:PyData->PyData->Option Bool
 |.int i,.int j=>some (decide (i=j))
 |.bool i,.bool j=>some (decide (i=j))
 |.str i,.str j=>some (decide (i=j))
 |.none,.none=>some true
 |.none,.int _=>some false|.int _,.none=>some false|.none,.str _=>some false|.str _,.none=>some false
 |.int _,.str _=>some false|.str _,.int _=>some false
 |_,_=>none
theorem qk(o:Dt K H v dx)(U:Dt K H u dy)(e:vN dx dy=some k):C7 v u=true/\decide (v=u)=k:=by cases o<;>cases U<;>cases e<;>refine⟨rfl,?_⟩<;>simp
def dEqS:DR2:=λx y Q=>∃k,vN x y=some k/\Q (.bool k)
def dNeS:DR2:=λx y Q=>∃k,vN x y=some k/\Q (.bool (!k))
theorem sr_eq:SndR2 K rEq dEqS:=by rintro H v u n l w Q o U ⟨k,e,A⟩ q;obtain⟨O,Z⟩:=qk o U e;exact⟨O,by rw[Z];exact q _ _ (.bl k) A⟩
theorem sr_ne:SndR2 K rNe dNeS:=by rintro H v u n l w Q o U ⟨k,e,A⟩ q;obtain⟨O,Z⟩:=qk o U e;exact⟨O,by rw[Z];exact q _ _ (.bl _) A⟩
def dEqD:DR2:=λx y Q=>SeqAt.shaped x=true/\SeqAt.shaped y=true/\Q (.bool (PyData.eqv x y))
def dNeD:DR2:=λx y Q=>SeqAt.shaped x=true/\SeqAt.shaped y=true/\Q (.bool (!PyData.eqv x y))
theorem DQ:SndR2 K (GQ K) dEqD:=λH v u n l w Q o U ⟨f,Z,A⟩ q=>⟨n,l,o,U,f,Z,q _ _ (.bl _) A⟩
theorem DR:SndR2 K (GR K) dNeD:=λH v u n l w Q o U ⟨f,Z,A⟩ q=>⟨n,l,o,U,f,Z,q _ _ (.bl _) A⟩
noncomputable def G2:PyData->PyData->Option Bool
 |.int i,.int j=>some (decide (i=j))
 |.str i,.str j=>some (decide (i=j))
 |.none,.none=>some true
 |.int _,.str _=>some false|.str _,.int _=>some false|.none,.int _=>some false|.int _,.none=>some false|.none,.str _=>some false|.str _,.none=>some false
 |_,_=>none
def memD(x:PyData):List PyData->Option Bool
 |[]=>some false
 |y::ys=>(G2 y x).bind λk=>(memD x ys).map (k||·)
def Gb:PyData->Bool
 |.int _=>true
 |.str _=>true
 |.none=>true
 |_=>false
def ME(M:Bool):DR2:=λx y Q=>∃D k,(y=.list D\/y=.tuple D)/\Gb x=true/\memD x D=some k/\Q (.bool (if M then !k else k))
theorem zm{x y:PyData}(o:Dt K H v x)(Q:Dt K H w y)(e:G2 y x=some k):cF w=true/\eqV w v=k:=by cases o<;>cases Q<;>cases e<;>exact⟨rfl,rfl⟩
theorem DU{x:PyData}(o:Dt K H v x)(C:Gb x=true):cF v=true:=by cases o<;>first|rfl|cases C
theorem ql{x:PyData}(o:Dt K H v x)(C:Gb x=true)(h:DtAll K H vs ds)(e:memD x ds=some k):cF v=true/\vs.all cF=true/\inV v vs=k:=by
 induction ds generalizing vs k with
 |nil=>cases h;cases e;exact⟨DU o C,rfl,rfl⟩
 |cons d ds Y=>
  cases h with
  |@cons w _ vs _ r t=>
   obtain⟨u,J,e⟩:=aaF.mp e;obtain⟨l,B,rfl⟩:=aaJ.mp e;obtain⟨O,Z,M⟩:=Y t B;obtain⟨I,U⟩:=zm o r J;refine⟨O,?_,?_⟩
   ·show (cF w&&vs.all cF)=true;rw[I,Z];rfl
   ·show (eqV w v||inV v vs)=_;rw[U,M]
theorem BH:SndR2 K (J8 K neg) (ME neg):=by
 rintro H v u n l w Q o U ⟨D,k,J,C,Y,A⟩ q;rcases J with rfl|rfl
 ·cases U with
  |lst h t=>obtain⟨O,Z,M⟩:=ql o C t Y;exact⟨_,_,rfl,.inl h,O,Z,by rw[M];exact q _ _ (.bl _) A⟩
 ·cases U with
  |tup h t=>obtain⟨O,Z,M⟩:=ql o C t Y;exact⟨_,_,rfl,.inr h,O,Z,by rw[M];exact q _ _ (.bl _) A⟩
def oj(r f:DR2)(da X C:DE):DE:=λI Q=>da I λx A=>X A λy m=>∃n l,az m x=some n/\az m y=some l/\r n l λz=>∃k,z=.bool k /\
 if k=true then C m λw F=>∃l a,az F y=some l/\az F w=some a/\f l a λd=>Q (.val (.fz d)) F else Q (.val (.fz (.bool false))) m
theorem jz(D:SndR2 K r2 r)(p:SndR2 K r2' r')(i:bJ K ta da)(hb:bJ K tb db)(U:bJ K tc dc):bJ K (nL r2 r2' ta tb tc) (oj r r' da db dc):=by
 intro b F L H I o S Qd Q T R h q;refine i b F L H I o S _ _ T R h λv t x A X O=>hb b F L t A _ _ _ _ T X O λu j y m N Z=>?_;obtain⟨n,l,J,B,M⟩:=Z;refine D j v u n l _ _ (T▸N.dt2 J) (T▸N.dt B) M λw d C W=>?_;obtain⟨k,rfl,W⟩:=W;cases C;refine⟨k,rfl,?_⟩;cases k with
 |false=>rw[if_neg aar]at W ⊢;exact q _ j _ _ (N.drop.drop.sc (.bl _)) W
 |true=>rw[if_pos rfl]at W ⊢;refine U b F L j m _ _ _ _ T N W λw c z a0 Y P=>?_;obtain⟨g,a,s,e,f⟩:=P;exact p c u w g a _ _ (T▸Y.dt2 s) (T▸Y.dt e) f λw d C W=>q w c _ _ (Y.drop.drop.drop.sc C) W
theorem vO(T:OpR X (compareOp op) r2)(D:SndR2 X.K r2 r)(t:OpR X (compareOp op') r2')(H:SndR2 X.K r2' r')(Y:lastMarks [op,op'] [b,c]=false:=by with_unfolding_all rfl):
  PDe X a da->PDe X b db->PDe X c dc->PDe X (.Compare a [op,op'] [b,c] pos) (oj r r' da db dc)
 |⟨_,h1,s1⟩,⟨_,h2,s2⟩,⟨_,h3,s3⟩=>⟨_,uV T t h1 h2 h3 Y,jz D H s1 s2 s3⟩
noncomputable def isNn:PyData->Bool|.none=>true|_=>false
def th(M:Bool)(a:DE):DE:=λI Q=>a I λx A=>∃d,az A x=some d/\Q (.val (.fz (.bool (if M then !isNn d else isNn d)))) A
theorem gK(h:Dt K H v d):decide (v=.non)=isNn d:=by cases h<;>simp[isNn]
theorem DV{j o}:PDe X a da->PDe X (.Compare a [.Is] [.Constant .none j o] pos) (th false da)
 |⟨_,O,s1⟩=>⟨_,jP (uK O),λb F σ H ρ τ θ w Q T R h q=>s1 b F σ H ρ τ θ _ _ T R h λv P x ρ1 M ⟨d,e,O⟩=>by
  rw[gK (M.dt e)];exact q _ P _ _ (M.drop.sc (.bl _)) O⟩
theorem zo{j o}:PDe X a da->PDe X (.Compare a [.IsNot] [.Constant .none j o] pos) (th true da)
 |⟨_,O,s1⟩=>⟨_,jP (pT O),λb F σ H ρ τ θ w Q T R h q=>s1 b F σ H ρ τ θ _ _ T R h λv P x ρ1 M ⟨d,e,O⟩=>by
  rw[gK (M.dt e)];exact q _ P _ _ (M.drop.sc (.bl _)) O⟩
def MF(r:DR1)(a:DE):DE:=λI Q=>a I λx A=>∃d,az A x=some d/\r d λz=>Q (.val (.fz z)) A
def Kq:DR1:=λx Q=>∃i,x=.int i/\Q (.int (-i))
theorem DW:PDe X a da->PDe X (.UnaryOp .USub a pos) (MF Kq da)
 |⟨_,O,s1⟩=>⟨_,Bw uS O,λb F σ H ρ τ θ w Q T R h q=>s1 b F σ H ρ τ θ _ _ T R h λv P x ρ1 M ⟨d,e,i,B,O⟩=>by
  subst B;cases M.dt e;exact⟨i,rfl,q _ P _ _ (M.drop.sc (.int _)) O⟩⟩
def G3(a b:DE):DE:=λI Q=>a I λx A=>∃k,az A x=some (.bool k)/\if k=true then b A Q else Q (.val (.fz (.bool false))) A
def Kr(a b:DE):DE:=λI Q=>a I λx A=>∃k,az A x=some (.bool k)/\if k=true then Q (.val (.fz (.bool true))) A else b A Q
def G4(a:DE):DE:=λI Q=>a I λx A=>∃k,az A x=some (.bool k)/\Q (.val (.fz (.bool (!k)))) A
theorem vP{U}:PDe X a da->PDe X (.BoolOp U [a] pos) da
 |⟨_,h1,s1⟩=>⟨_,CJ h1,s1⟩
theorem DX:PDe X a da->PDe X (.BoolOp .And (b::es) pos) db->PDe X (.BoolOp .And (a::b::es) pos) (G3 da db)
 |⟨_,O,s1⟩,⟨_,h2,s2⟩=>⟨_,CK O h2,λb F σ H ρ τ θ w Q T R h q=>s1 b F σ H ρ τ θ _ _ T R h λv P x ρ1 M ⟨k,e,O⟩=>by
  cases M.dt e;refine⟨k,rfl,?_⟩;cases k with
  |false=>rw[if_neg aar]at O ⊢;exact q _ P _ _ (M.drop.sc (.bl _)) O
  |true=>rw[if_pos rfl]at O ⊢;exact s2 b F σ P ρ1 τ θ _ _ T M.drop O q⟩
theorem G5:PDe X a da->PDe X (.BoolOp .Or (b::es) pos) db->PDe X (.BoolOp .Or (a::b::es) pos) (Kr da db)
 |⟨_,O,s1⟩,⟨_,h2,s2⟩=>⟨_,Gx O h2,λb F σ H ρ τ θ w Q T R h q=>s1 b F σ H ρ τ θ _ _ T R h λv P x ρ1 M ⟨k,e,O⟩=>by
  cases M.dt e;refine⟨k,rfl,?_⟩;cases k with
  |true=>rw[if_pos rfl]at O ⊢;exact q _ P _ _ (M.drop.sc (.bl _)) O
  |false=>rw[if_neg aar]at O ⊢;exact s2 b F σ P ρ1 τ θ _ _ T M.drop O q⟩
theorem DY:PDe X a da->PDe X (.UnaryOp .Not a pos) (G4 da)
 |⟨_,O,s1⟩=>⟨_,CL O,λb F σ H ρ τ θ w Q T R h q=>s1 b F σ H ρ τ θ _ _ T R h λv P x ρ1 M ⟨k,e,O⟩=>by
  cases M.dt e;exact⟨k,rfl,q _ P _ _ (M.drop.sc (.bl _)) O⟩⟩
def gy(a:DE):DT:=λI Q=>a I λx A=>∃k,az A x=some (.bool k)/\Q k A
theorem ig(f:bJ K ta da):SndT K (uU ta) (gy da):=λb F L H I z S w Q T R h q=>f b F L H I z S _ _ T R h λv P x A M ⟨k,e,O⟩=>by cases M.dt e;exact⟨k,rfl,q _ P _ M.drop O⟩
theorem om(f:bJ K ta da):SndT K (tB ta) (gy da):=λb F L H I z S w Q T R h q=>f b F L H I z S _ _ T R h λv P x A M ⟨k,e,O⟩=>by cases M.dt e;exact⟨k,rfl,q _ P _ M.drop O⟩
theorem zp(T:OpR X (compareOp op) r2)(D:SndR2 X.K r2 r)(Y:behindInMarks op b=false):PDe X a da->PDe X b db->PDt X (.Compare a [op] [b] pos) (gy (zj r da db))
 |⟨_,h1,s1⟩,⟨_,h2,s2⟩=>⟨_,pZ T h1 h2 Y,ig (oi D s1 s2)⟩
theorem tj(T:OpR X (compareOp op) r2)(D:SndR2 X.K r2 r)(t:OpR X (compareOp op') r2')(H:SndR2 X.K r2' r')(Y:lastMarks [op,op'] [b,c]=false:=by with_unfolding_all rfl):
  PDe X a da->PDe X b db->PDe X c dc->PDt X (.Compare a [op,op'] [b,c] pos) (gy (oj r r' da db dc))
 |⟨_,h1,s1⟩,⟨_,h2,s2⟩,⟨_,h3,s3⟩=>⟨_,uX T t h1 h2 h3 Y,ig (jz D H s1 s2 s3)⟩
theorem zq{j o}:PDe X a da->PDt X (.Compare a [.Is] [.Constant .none j o] pos) (gy (th false da))
 |⟨_,O,s1⟩=>⟨_,jQ (uK O),om (λb F σ H ρ τ θ w Q T R h q=>s1 b F σ H ρ τ θ _ _ T R h λv P x ρ1 M ⟨d,e,O⟩=>by
  rw[gK (M.dt e)];exact q _ P _ _ (M.drop.sc (.bl _)) O)⟩
theorem vQ{j o}:PDe X a da->PDt X (.Compare a [.IsNot] [.Constant .none j o] pos) (gy (th true da))
 |⟨_,O,s1⟩=>⟨_,jQ (pT O),om (λb F σ H ρ τ θ w Q T R h q=>s1 b F σ H ρ τ θ _ _ T R h λv P x ρ1 M ⟨d,e,O⟩=>by
  rw[gK (M.dt e)];exact q _ P _ _ (M.drop.sc (.bl _)) O)⟩
def G6(t u:DT):DT:=λI Q=>t I λc A=>if c=true then u A Q else Q false A
def Ks(t u:DT):DT:=λI Q=>t I λc A=>if c=true then Q true A else u A Q
def G7(t:DT):DT:=λI Q=>t I λc A=>Q (!c) A
theorem PDw.pt:PDw X e dt->PDt X e dt
 |⟨_,h,s⟩=>⟨_,h.pt,s⟩
theorem vT:PDt X a dt->PDw X (.BoolOp .And [a] pos) dt
 |⟨_,h,s⟩=>⟨_,yN h,s⟩
theorem zt:PDt X a dt->PDw X (.BoolOp .Or [a] pos) dt
 |⟨_,h,s⟩=>⟨_,CG h,s⟩
theorem zu:PDt X a dt->PDw X (.BoolOp .And (b::es) pos) du->PDw X (.BoolOp .And (a::b::es) pos) (G6 dt du)
 |⟨_,O,s1⟩,⟨_,h2,s2⟩=>⟨_,CH O h2,λb F σ H ρ τ θ w Q T R h q=>s1 b F σ H ρ τ θ _ _ T R h λk P ρ1 M O=>by
  cases k with
  |false=>grind
  |true=>rw[if_pos rfl]at O ⊢;exact s2 b F σ P ρ1 τ θ _ _ T M O q⟩
theorem DZ:PDt X a dt->PDw X (.BoolOp .Or (b::es) pos) du->PDw X (.BoolOp .Or (a::b::es) pos) (Ks dt du)
 |⟨_,O,s1⟩,⟨_,h2,s2⟩=>⟨_,Gu O h2,λb F σ H ρ τ θ w Q T R h q=>s1 b F σ H ρ τ θ _ _ T R h λk P ρ1 M O=>by
  cases k with
  |true=>grind
  |false=>rw[if_neg aar]at O ⊢;exact s2 b F σ P ρ1 τ θ _ _ T M O q⟩
theorem zw:PDt X a dt->PDt X (.UnaryOp .Not a pos) (G7 dt)
 |⟨_,h,s⟩=>⟨_,CI h,λb F σ H ρ τ θ w Q T R h q=>s b F σ H ρ τ θ _ _ T R h λk P ρ1 M O=>q _ P _ M O⟩
def MG(t:DT)(a b:DE):DE:=λI Q=>t I λc A=>if c=true then a A Q else b A Q
theorem G8:PDt X c dt->PDe X a da->PDe X b db->PDe X (.IfExp c a b pos) (MG dt da db)
 |⟨_,h,s⟩,⟨_,O,s1⟩,⟨_,h2,s2⟩=>⟨_,uL h O h2,λb F σ H ρ τ θ w Q T R h q=>s b F σ H ρ τ θ _ _ T R h λk P ρ1 M O=>by
  cases k with
  |true=>rw[if_pos rfl]at O ⊢;exact s1 b F σ P ρ1 τ θ _ _ T M O q
  |false=>rw[if_neg aar]at O ⊢;exact s2 b F σ P ρ1 τ θ _ _ T M O q⟩
theorem DtAll.emp(h:DtAll K H xs ds):xs.isEmpty=ds.isEmpty:=by cases h<;>rfl
end
end
section
def dNil:DA:=λI Q=>Q [] I
def G9(a:DE)(t:DA):DA:=λI Q=>a I λx A=>t A λY m=>Q (x::Y) m
theorem pda_nil:PDa X [] dNil:=⟨_,ck,λb F L H I z S w Q T R h q=>q [] H [] I rfl R h⟩
theorem vU(g:starEach (e::es) X.env=(false,eval e X.env)::starEach es X.env:=by rfl):PDe X e da->PDa X es dt->PDa X (e::es) (G9 da dt)
 |⟨_,O,s1⟩,⟨_,Z,s2⟩=>⟨_,aZ O Z g,λb F L H I z S w Q T R h q=>s1 b F L H I z S _ _ T R h λv P r A M O=>s2 b F L P A _ _ _ _ T M O λc j U m u N Z=>
  q (v::c) j (r::U) m (by simp[u]) (Rel.wk N u) Z⟩
def own1(ρ:DEnv):OR->Option (OD×DEnv)
 |.val x=>some (x,ρ)
 |.rf i=>(frz1 ρ (.rf i)).map λz=>(.fz z.1,z.2)
def mv1(ρ:DEnv):OR->Option (OD×DEnv)
 |.val x=>some (x,ρ)
 |.rf i=>(ρ[i]?.join).map λx=>(x,ρ.set i none)
noncomputable def mapR(f:DEnv->OR->Option (OD×DEnv))(ρ:DEnv):List OR->Option (List OD×DEnv)
 |[]=>some ([],ρ)
 |r::rs=>(f ρ r).bind λz=>(mapR f z.2 rs).map λy=>(z.1::y.1,y.2)
def tm:List OD->Option (List PyData)
 |[]=>some []
 |.fz d::xs=>match tm xs with|some ds=>some (d::ds)|none=>none
 |_::_=>none
def mkTup(xs:List OD):OD:=match tm xs with
 |some D=>.fz (.tuple D)
 |none=>.tup xs
theorem Rel.own1(R:Rel b F σ H ρ (v::τ) (r::θ))(e:own1 ρ r=some (x,ρ')):Rel b F σ H ρ' (v::τ) (.val x::θ):=by
 cases r with
 |val x=>simp only[L2.own1]at e;cases e;exact R
 |rf i=>simp only[L2.own1,aaJ]at e;obtain⟨⟨d,A⟩,J,B⟩:=e;cases B;exact R.frz1 J
theorem Rel.mv1(R:Rel b F σ H ρ (v::τ) (r::θ))(e:mv1 ρ r=some (x,ρ')):Rel b F σ H ρ' (v::τ) (.val x::θ):=by
 cases r with
 |val x=>simp only[L2.mv1]at e;grind
 |rf i=>
  simp only[L2.mv1,aaJ]at e;obtain⟨x,J,B⟩:=e;cases B;obtain⟨u,D,w⟩:=R.drop.slot (join_some J);have:v=u:=by have:=R.al.1;grind
  subst this;exact⟨R.wf.off,R.drop.al,R.wff,w⟩
theorem fF{f:DEnv->OR->Option (OD×DEnv)}(y:∀{ρ p:DEnv}{τ:List V}{θ:List OR}{v:V}{r:OR}{x:OD},Rel b F σ H ρ (v::τ) (r::θ)->f ρ r=some (x,p)->Rel b F σ H p (v::τ) (.val x::θ)):
  ∀{vs:List V}{rs:List OR}{ρ p:DEnv}{xs:List OD}{τ:List V}{θ:List OR},Rel b F σ H ρ (vs++τ) (rs++θ)->vs.length=rs.length->mapR f ρ rs=some (xs,p)->Rel b F σ H p (vs++τ) (xs.map OR.val++θ)/\vs.length=xs.length
 |[],[],_,_,_,_,_,R,_,e=>by simp only[mapR]at e;grind
 |v::vs,r::rs,ρ,p,ds,τ,θ,R,e,h=>by
  simp only[mapR,aaF,aaJ]at h;obtain⟨⟨d,ρ1⟩,O,⟨D,ρ2⟩,Z,M⟩:=h;cases M;have A:=y R O;have L:vs.length=rs.length:=by grind
  obtain⟨N,B⟩:=fF y (Rel.wj (vs:=vs) (rs:=rs) A L) L Z;exact⟨Rel.wk N (by grind),by grind⟩
 |[],_::_,_,_,_,_,_,_,e,_=>by grind
 |_::_,[],_,_,_,_,_,_,e,_=>by grind
theorem cq:∀{vs:List V}{xs:List OD},vs.length=xs.length->stk vs (xs.map OR.val)=vs.zip xs
 |[],[],_=>rfl
 |_::_,_::_,e=>by simp only[aal,stk,abr];rw[cq (by grind)]
 |[],_::_,e=>by rfl
 |_::_,[],e=>by rfl
theorem Rel.vals{xs:List OD}(R:Rel b F σ H ρ (vs++τ) (xs.map OR.val++θ))(e:vs.length=xs.length):Wd b H (vs.zip xs++(stk τ θ++(flat σ ρ++ff F))):=by have w:=R.wd;rw[aH (by grind),cq e,aab]at w;exact w
theorem Rel.push(R:Rel b F σ H ρ τ θ)(w:Wd b H' ((v,x)::(stk τ θ++(flat σ ρ++ff F)))):Rel b F σ H' ρ (v::τ) (.val x::θ):=⟨R.wf,R.al,R.wff,w⟩
theorem Wd.below{z:V×OD}{L1 L2:List (V×OD)}(w:Wd b H (z::(L1++L2))):Wd b H (z::L2):=Wd.drops (L1:=L1) (w.perm (aav.symm))
theorem fzL_map{xs:List OD}{ds:List PyData}(e:tm xs=some ds):xs=ds.map OD.fz:=by
 induction xs generalizing ds with
 |nil=>cases e;rfl
 |cons x xs Y=>
  cases x with
  |fz d=>
   rw[tm]at e
   grind
  |_=>cases e
theorem oo:∀(ds:List PyData),tm (ds.map OD.fz)=some ds
 |[]=>rfl
 |d::ds=>by simp only[aal,tm,oo ds]
theorem dats_fz:∀(ds:List PyData),OD.dd (ds.map OD.fz)=some ds
 |[]=>rfl
 |d::ds=>by simp only[aal,OD.dd,OD.dat,dats_fz ds]
theorem lL{xs:List OD}(w:Wd b H (vs.zip xs++L))(u:vs.length=xs.length)(m:H p=none):Wd b (upd H p (.tup vs)) ((.ref p,mkTup xs)::L):=by
 unfold mkTup;cases h:tm xs with
 |some D=>have C:=fzL_map h;subst C;refine Wd.below (L1:=vs.zip (D.map OD.fz)) (w.h8 (λS M=>M.all (by simpa using u) λz d=>aah _ d) m)
 |none=>exact w.x9 u m
def Kt(f:DEnv->OR->Option (OD×DEnv))(t:DA):DE:=λI Q=>t I λU A=>∃Y m,mapR f A U=some (Y,m)/\U.length<=1000000/\Q (.val (mkTup Y)) m
def Ku(f:DEnv->OR->Option (OD×DEnv))(t:DA):DE:=λI Q=>t I λU A=>∃Y m,mapR f A U=some (Y,m)/\U.length<=1000000/\Q (.val (.lst Y)) m
structure Hand (f:DEnv->OR->Option (OD×DEnv)):Prop where
 ok:∀{b:Bs}{F:List Fr}{σ:St}{H:Hp}{ρ ρ':DEnv}{τ:List V}{θ:List OR}{v:V}{r:OR}{x:OD},Rel b F σ H ρ (v::τ) (r::θ)->f ρ r=some (x,ρ')->Rel b F σ H ρ' (v::τ) (.val x::θ)
theorem Ha:Hand own1:=⟨Rel.own1⟩
theorem D0{x}(y:Hand f):PDa X es dt->PDe X (.Tuple es x pos) (Kt f dt)
 |⟨_,O,s1⟩=>⟨_,nP O,λb F σ H ρ τ θ w Q T R h q=>s1 b F σ H ρ τ θ _ _ T R h λvs P rs ρ1 u M ⟨xs,ρ2,J,s,O⟩=>⟨n9 (by rw[u];exact s),λp m=>by
  obtain⟨N,e⟩:=fF y.ok M u J;exact q _ _ _ _ ((N.drops (by rw[aae];exact e)).push (lL (N.vals e) e m)) O⟩⟩
theorem D1(y:Hand f):PDa X es dt->PDe X (.List es pos) (Ku f dt)
 |⟨_,O,s1⟩=>⟨_,Dh O,λb F σ H ρ τ θ w Q T R h q=>s1 b F σ H ρ τ θ _ _ T R h λvs P rs ρ1 u M ⟨xs,ρ2,J,s,O⟩=>⟨n9 (by grind),λp m=>by
  obtain⟨N,e⟩:=fF y.ok M u J;exact q _ _ _ _ ((N.drops (by grind)).push ((N.vals e).eg e m)) O⟩⟩
def dG(ρ:DEnv):OR->Option OD
 |.val x=>some x
 |.rf i=>ρ[i]?.join
def listOf:OD->Option (List PyData)
 |.fz (.list ds)=>some ds
 |.lst xs=>tm xs
 |_=>none
def vV:OD->Option (List PyData)
 |.fz (.tuple ds)=>some ds
 |_=>none
def BI(ρ:DEnv)(r:OR):Option (List PyData):=(dG ρ r).bind listOf
def itemO:OD->Int->Option OD
 |.fz (.list ds),i=>match atI ds i with|some d=>some (.fz d)|none=>none
 |.fz (.tuple ds),i=>match atI ds i with|some d=>some (.fz d)|none=>none
 |.lst xs,i=>atI xs i
 |.tup xs,i=>atI xs i
 |_,_=>none
def itemS:OD->Int->Option (PyData×OD)
 |.lst xs,i=>match ixN xs.length i with
  |some k=>match xs[k]? with
   |some c=>match c.dat with|some d=>some (d,.lst (xs.set k (.fz d)))|none=>none
   |none=>none
  |none=>none
 |.tup xs,i=>match ixN xs.length i with
  |some k=>match xs[k]? with
   |some c=>match c.dat with|some d=>some (d,.tup (xs.set k (.fz d)))|none=>none
   |none=>none
  |none=>none
 |_,_=>none
def bF(ρ:DEnv)(r:OR)(i:Int):Option (OD×DEnv):=match r with
 |.val x=>match itemO x i with|some y=>some (y,ρ)|none=>none
 |.rf j=>match ρ[j]?.join with
  |some x=>match itemS x i with|some (d,y)=>some (.fz d,ρ.set j (some y))|none=>none
  |none=>none
theorem ij{Y C:Type}{xs:List Y}{ys:List C}{i:Int}{y:C}(u:xs.length=ys.length)(h:atI ys i=some y):∃k x,ixN xs.length i=some k/\ys[k]?=some y/\xs[k]?=some x/\atI xs i=some x:=by unfold atI at h ⊢;rw[<-u]at h;simp only[aaF]at h;obtain⟨k,J,B⟩:=h;have F:=(aai.mp B).1;simp_all
theorem cW{Y C:Type}{xs:List Y}{ys:List C}{k:Nat}{x:Y}{y:C}(J:xs[k]?=some x)(B:ys[k]?=some y):(x,y)∈xs.zip ys:=by rw[List.mem_iff_getElem?];exact⟨k,by rw[abt];exact⟨J,B⟩⟩
theorem Wd.pick{z:V×OD}{Z:List (V×OD)}(w:Wd b H (Z++L))(m:z∈Z):Wd b H (z::L):=by obtain⟨B,A,rfl⟩:=abu m;refine Wd.below (L1:=B++A) (w.perm ?_);simp
theorem D2{n k:Nat}{i:Int}(h:ixN n i=some k):k<n:=by
 unfold ixN at h
 grind
theorem Wd.rd{k:Nat}{z:OD}(w:Wd b H ((v,x)::L))(e:x.kids[k]?=some z):∃u,Chd b H v x k u z/\Wd b H ((u,z)::L):=by
 obtain⟨P,T,_,_⟩:=w.out;cases T with
 |cons r t=>obtain⟨u,B,j,c,_⟩:=r.kid e;refine⟨u,c,Wd.puts (L1:=[(v,x)]) (L2:=[(u,z)]) w λS A h Q F s I=>?_⟩;obtain⟨o,B,j,M,g,a,_⟩:=(OwL.one h).kid e;have D:=(Chd.det M c).1;subst D;have W:∀c∈B,c∈A:=λc U=>a.mem_iff.mpr (aah _ U);exact⟨B,OwL.of1 (Ow.sub I (λc z=>z.elim (·.1) λz=>F c (W c z)) g),(aau.mp (a.nodup_iff.mp Q)).1,W⟩
theorem Fz.at{K:Waa}{S:Addr->Prop}{vs:List V}{ds:List PyData}{k:Nat}{v:V}{d:PyData}(h:FzA K S H vs ds)(e:vs[k]?=some v)(L:ds[k]?=some d):Fz K S H v d:=by
 obtain⟨u,O,Z⟩:=h.get L
 grind
theorem Wd.itemF{i:Int}{l:Bool}(w:Wd b H ((v,.fz (if l then .list ds else .tuple ds))::L))(e:atI ds i=some d):∃p vs u,v=.ref p/\(SqL b.K H p vs\/SqT b.K H p vs)/\atI vs i=some u/\Wd b H ((u,.fz d)::L):=by
 obtain⟨Y,n⟩:=Wd.pin w rfl;obtain⟨a,rfl,S,h,J⟩:=n.pinned aag;obtain⟨k,u,_,B,s,f⟩:=ij S e;refine⟨a,Y,u,rfl,?_,f,Wd.below (L1:=[(V.ref a,OD.pin l Y ds)]) (J.pick (cW s (by rw[aaz,B];rfl)))⟩;cases l with
 |true=>exact .inl h
 |false=>exact .inr h
theorem Wd.itemO{i:Int}(w:Wd b H ((v,x)::L))(e:itemO x i=some y):∃p vs u,v=.ref p/\(SqL b.K H p vs\/SqT b.K H p vs)/\atI vs i=some u/\Wd b H ((u,y)::L):=by
 cases x with
 |fz d=>
  cases d with
  |list D=>
   simp only[L2.itemO]at e;cases h:atI D i with
   |none=>rw[h]at e;cases e
   |some d=>rw[h]at e;cases e;exact Wd.itemF (l:=true) w h
  |tuple D=>
   simp only[L2.itemO]at e;cases h:atI D i with
   |none=>rw[h]at e;cases e
   |some d=>rw[h]at e;cases e;exact Wd.itemF (l:=false) w h
  |_=>simp[L2.itemO]at e
 |lst xs=>
  simp only[L2.itemO]at e;obtain⟨k,_,J,B,_⟩:=ij (xs:=xs) rfl e;obtain⟨u,c,n⟩:=w.rd (k:=k) (z:=y) B;cases c with
  |lst r F g Z=>exact⟨_,_,u,rfl,.inl (SqL.of r),by unfold atI;rw[F,J];exact g,n⟩
 |tup xs=>
  simp only[L2.itemO]at e;obtain⟨k,_,J,B,_⟩:=ij (xs:=xs) rfl e;obtain⟨u,c,n⟩:=w.rd (k:=k) (z:=y) B;cases c with
  |tup r F g Z=>exact⟨_,_,u,rfl,.inr (SqT.of r),by unfold atI;rw[F,J];exact g,n⟩
 |dic _ _=>simp[L2.itemO]at e
 |obj _ _ _=>simp[L2.itemO]at e
 |pin _ _ _=>simp[L2.itemO]at e
 |hole _=>simp[L2.itemO]at e
 |st _=>simp[L2.itemO]at e
theorem Wd.itemS{i:Int}(w:Wd b H ((v,x)::L))(e:itemS x i=some (d,y)):∃p vs u,v=.ref p/\(SqL b.K H p vs\/SqT b.K H p vs)/\atI vs i=some u/\Wd b H ((u,.fz d)::(v,y)::L):=by
 cases x with
 |fz d=>trivial
 |lst Y=>
  simp only[L2.itemS]at e;split at e
  ·rename_i k J;split at e
   ·rename_i c B;split at e
    ·rename_i l s;cases e;obtain⟨u,f,n⟩:=w.r8 (ks:=[k]) (y:=c) (d:=d) (by simp[OD.at,OD.kids,B]) s;cases f with
     |cons P q=>
      cases q;cases P with
      |lst r F g Z=>simp only[OD.put,OD.kids,B,OD.dw]at n;exact⟨_,_,u,rfl,.inl (SqL.of r),by unfold atI;grind,n⟩
    ·cases e
   ·cases e
  ·cases e
 |tup Y=>
  simp only[L2.itemS]at e;split at e
  ·rename_i k J;split at e
   ·rename_i c B;split at e
    ·rename_i l s;cases e;obtain⟨u,f,n⟩:=w.r8 (ks:=[k]) (y:=c) (d:=d) (by simp[OD.at,OD.kids,B]) s;cases f with
     |cons P q=>
      cases q;cases P with
      |tup r F g Z=>simp only[OD.put,OD.kids,B,OD.dw]at n;exact⟨_,_,u,rfl,.inr (SqT.of r),by unfold atI;grind,n⟩
    ·cases e
   ·cases e
  ·cases e
 |dic _ _=>trivial
 |obj _ _ _=>trivial
 |pin _ _ _=>trivial
 |hole _=>trivial
 |st _=>trivial
section
variable{K:Waa}
def MH(a b:DE):DE:=λI Q=>a I λx A=>b A λy m=>∃i z F,az m y=some (.int i)/\bF m x i=some (z,F)/\Q (.val z) F
theorem Hb(g:PlainIx b):PDe X a da->PDe X b db->PDe X (.Subscript a b pos) (MH da db)
 |⟨_,O,s1⟩,⟨_,Z,s2⟩=>⟨_,vd nS O Z g,λb F σ H ρ τ θ m Q T R h q=>s1 b F σ H ρ τ θ _ _ T R h λv P x ρ1 M O=>s2 b F σ P ρ1 _ _ _ _ T M O λu k y ρ2 N ⟨i,z,ρ3,J,B,Z⟩=>by
  have U:=N.dt J;cases U;have Y:=N.drop;cases x with
  |val x=>
   simp only[bF]at B;cases s:itemO x i with
   |none=>grind
   |some I=>rw[s]at B;cases B;obtain⟨p,c,u,rfl,g,r,w⟩:=Wd.itemO Y.wd s;have D:=q u k _ _ (Y.drop.push w) Z;rw[T]at g;exact g.elim (λg=>.inl ⟨p,c,i,u,rfl,rfl,g,r,D⟩) λg=>.inr (.inl ⟨p,c,i,u,rfl,rfl,g,r,D⟩)
  |rf j=>
   simp only[bF]at B;cases s:ρ2[j]?.join with
   |none=>grind
   |some x=>
    rw[s]at B;simp only at B;cases e:itemS x i with
    |none=>grind
    |some I=>
     obtain⟨d,S⟩:=I;rw[e]at B;cases B;obtain⟨L,f,w⟩:=Y.drop.slot (join_some s);have:v=L:=by have:=Y.al.1;grind
     subst this;obtain⟨p,c,u,rfl,g,r,n⟩:=Wd.itemS w e;have o:=Rel.back (τ:=u::τ) (θ:=.val (.fz d)::θ) Y.wf Y.drop.al Y.wff f (n.perm (List.Perm.swap _ _ _));have D:=q u k _ _ o Z;rw[T]at g;exact g.elim (λg=>.inl ⟨p,c,i,u,rfl,rfl,g,r,D⟩) λg=>.inr (.inl ⟨p,c,i,u,rfl,rfl,g,r,D⟩)⟩
variable{k:Nat}
def eW(ρ:DEnv):List OR->Option (List PyData)
 |[]=>some []
 |r::rs=>(az ρ r).bind λd=>(eW ρ rs).map (d::·)
theorem Rel.dtL{b:Bs}{F:List Fr}{σ:St}{H:Hp}{ρ:DEnv}:∀{vs:List V}{rs:List OR}{τ:List V}{θ:List OR}{ds:List PyData},Rel b F σ H ρ (vs++τ) (rs++θ)->vs.length=rs.length->eW ρ rs=some ds->DtAll b.K H vs ds
 |[],[],_,_,_,_,_,e=>by simp only[eW]at e;cases e;exact .nil
 |v::vs,r::rs,τ,θ,ds,R,el,e=>by simp only[eW,aaF,aaJ]at e;obtain⟨d,J,D,B,rfl⟩:=e;exact .cons (Rel.dt R J) (Rel.dtL (Rel.drop R) (by grind) B)
 |[],_::_,_,_,_,_,e,_=>by grind
 |_::_,[],_,_,_,_,e,_=>by grind
def SndCB(K:Waa)(p:List V->Hp->VK->Prop)(r:DRn):Prop:=∀(H:Hp) (c:List V) (D:List PyData) (Qd:PyData->Prop) (Q:VK),DtAll K H c D->r D Qd->(∀w d,Sc w d->Qd d->Q w H)->p c H Q
def Jv(r:DRn)(t:DA):DE:=λI Q=>t I λU A=>∃D,eW A U=some D/\r D λd=>Q (.val (.fz d)) A
theorem vW{p:List V->Hp->VK->Prop}{r:DRn}{Z:TA}(N:SndCB K p r)(f:vK K Z dt):bJ K (J7 p Z) (Jv r dt):=λb F L H I z S n Q T R h q=>f b F L H I z S _ _ T R h λc P U A u M ⟨D,J,O⟩=>
 N P c D _ _ (T▸M.dtL u J) O λw d C W=>q w P _ _ ((M.drops u).sc C) W
theorem dS{g:List V->Hp->VK->Prop}{r:DRn}{d:String} (U:CallR X (.builtin d) g) (D:SndCB X.K g r) (N:Gl X x) (Y:X.mg x=none) (o:bootBuiltins x=some (.builtin d)) (l:x≠"__name__":=by decide) (Z:(x==("__debug__":Str))=false:=by decide)
  (n:starEach (e::es) X.env=(false,eval e X.env)::starEach es X.env:=by rfl) (y:(backTo pos (starEach es X.env)).any (·.1)=false:=by rfl):PDa X (e::es) dt->PDe X (.Call (.Name x p) (e::es) [] pos) (Jv r dt)
 |⟨_,h1,s1⟩=>⟨_,dO U N Y o h1 l Z n y,vW D s1⟩
theorem vX{g:List V->Hp->VK->Prop}{r:DRn}{d:String} (U:CallR X (.type d) g) (D:SndCB X.K g r) (N:Gl X x) (Y:X.mg x=none) (o:bootBuiltins x=some (.type d)) (l:x≠"__name__":=by decide) (Z:(x==("__debug__":Str))=false:=by decide)
  (n:starEach (e::es) X.env=(false,eval e X.env)::starEach es X.env:=by rfl) (y:(backTo pos (starEach es X.env)).any (·.1)=false:=by rfl):PDa X (e::es) dt->PDe X (.Call (.Name x p) (e::es) [] pos) (Jv r dt)
 |⟨_,h1,s1⟩=>⟨_,fV U N Y o h1 l Z n y,vW D s1⟩
def jf:PyData->Option Nat
 |.list ds=>some ds.length
 |.tuple ds=>some ds.length
 |_=>none
def dLen:DRn:=λD Q=>∃d n,D=[d]/\jf d=some n/\Q (.int n)
theorem sc_len:SndCB K (λxs H Q=>∃x n,xs=[x]/\GJ K x H n/\Q (.int n) H) dLen:=by
 rintro H c D w Q o ⟨d,n,rfl,e,A⟩ q;cases o with
 |cons h t=>
  cases t;refine⟨_,n,rfl,?_,q _ _ (.int _) A⟩;cases h with
  |lst s t=>simp only[jf]at e;cases e;exact .inl ⟨_,s,t.length.symm⟩
  |tup s t=>simp only[jf]at e;cases e;exact .inr ⟨_,s,t.length.symm⟩
  |_=>trivial
def dAbs:DRn:=λD Q=>∃i,D=[.int i]/\Q (.int (if i<0 then -i else i))
theorem sc_abs:SndCB K (λxs H Q=>∃i,xs=[.int i]/\Q (.int (if i<0 then -i else i)) H) dAbs:=by rintro H c D w Q o ⟨i,rfl,A⟩ q;cases o with|cons h t=>cases t;cases h;exact⟨i,rfl,q _ _ (.int _) A⟩
def dMax:DRn:=λD Q=>∃i j,D=[.int i,.int j]/\Q (.int (if j>i then j else i))
theorem sc_max:SndCB K (λxs H Q=>∃i j,xs=[.int i,.int j]/\Q (.int (if j>i then j else i)) H) dMax:=by rintro H c D w Q o ⟨i,j,rfl,A⟩ q;cases o with|cons h t=>cases t with|cons v t=>cases t;cases h;cases v;exact⟨i,j,rfl,q _ _ (.int _) A⟩
def dMin:DRn:=λD Q=>∃i j,D=[.int i,.int j]/\Q (.int (if j<i then j else i))
theorem sc_min:SndCB K (λxs H Q=>∃i j,xs=[.int i,.int j]/\Q (.int (if j<i then j else i)) H) dMin:=by rintro H c D w Q o ⟨i,j,rfl,A⟩ q;cases o with|cons h t=>cases t with|cons v t=>cases t;cases h;cases v;exact⟨i,j,rfl,q _ _ (.int _) A⟩
noncomputable def toInt:PyData->Option Int
 |.int i=>some i
 |.bool k=>some (if k then 1 else 0)
 |_=>none
def dInt:DRn:=λD Q=>∃d i,D=[d]/\toInt d=some i/\Q (.int i)
theorem sc_int:SndCB K (λxs H Q=>(∃i,xs=[.int i]/\Q (.int i) H)\/∃k,xs=[.bl k]/\Q (.int (if k then 1 else 0)) H) dInt:=by
 rintro H c D w Q o ⟨d,i,rfl,e,A⟩ q;cases o with
 |cons h t=>
  cases t;cases h with
  |int j=>simp only[toInt]at e;cases e;exact .inl ⟨_,rfl,q _ _ (.int _) A⟩
  |bl k=>simp only[toInt]at e;cases e;exact .inr ⟨_,rfl,q _ _ (.int _) A⟩
  |_=>trivial
def allB:List PyData->Option (List Bool)
 |[]=>some []
 |.bool k::ds=>(allB ds).map (k::·)
 |_::_=>none
theorem lN:∀{ds:List PyData}{T:List Bool},allB ds=some T->ds=T.map PyData.bool
 |[],_,e=>by simp only[allB]at e;grind
 |.bool k::ds,_,e=>by simp only[allB,aaJ]at e;obtain⟨T,J,rfl⟩:=e;rw[lN J];rfl
 |.none::_,_,e=>by trivial
 |.int _::_,_,e=>by trivial
 |.str _::_,_,e=>by trivial
 |.list _::_,_,e=>by trivial
 |.tuple _::_,_,e=>by trivial
 |.dict _::_,_,e=>by trivial
theorem DtAll.bls{H:Hp}{vs:List V}{T:List Bool}(h:DtAll K H vs (T.map PyData.bool)):vs=T.map V.bl:=by
 induction T generalizing vs with
 |nil=>cases h;rfl
 |cons n i Y=>cases h with|cons r t=>cases r;rw[aal,Y t]
def dAll:DRn:=λD Q=>∃L T,D=[.list L]/\allB L=some T/\Q (.bool (T.all id))
theorem sc_all:SndCB K (λxs H Q=>∃(p:Addr) (T:List Bool),xs=[.ref p]/\SqL K H p (T.map V.bl)/\Q (.bl (T.all id)) H) dAll:=by
 rintro H c D w Q o ⟨L,T,rfl,e,A⟩ q;have:=lN e;subst this;cases o with
 |cons h t=>
  cases t;cases h with
  |lst s t=>rw[t.bls]at s;exact⟨_,T,rfl,s,q _ _ (.bl _) A⟩
def MI:PyData->String
 |.none=>"NoneType" |.bool _=>"bool" |.int _=>"int" |.str _=>"str" |.list _=>"list" |.tuple _=>"tuple" |.dict _=>"dict"
theorem Dt.ty{H:Hp}{v:V}{d:PyData}(h:Dt K H v d):Ty K H v (MI d):=by
 cases h with
 |non=>exact .non
 |bl b=>exact .bl b
 |int i=>exact .int i
 |str x=>exact .str x
 |lst s _=>exact .lst s
 |tup s _=>exact .tup s
end
end
section
def seqOf(x:OD):Option (List PyData):=match listOf x with
 |some D=>some D
 |none=>vV x
section
variable{ds:List PyData}
theorem Rel.mem(R:Rel b F σ H ρ (v::τ) (r::θ))(e:dG ρ r=some x):(v,x)∈stk (v::τ) (r::θ)++(flat σ ρ++ff F):=by
 cases r with
 |val y=>simp only[dG]at e;cases e;simp[stk]
 |rf i=>simp only[dG]at e;refine aad _ (aah _ ?_);exact(bB (join_some e) R.al.1).mem_iff.mpr aag
theorem Rel.mem1(R:Rel b F σ H ρ (u::v::τ) (f::r::θ))(e:dG ρ r=some x):(v,x)∈stk (u::v::τ) (f::r::θ)++(flat σ ρ++ff F):=by
 have h:=R.drop.mem e;cases f with
 |val y=>simp only[stk];exact aaf _ h
 |rf i=>exact h
theorem Rel.et(R:Rel b F σ H ρ (u::v::τ) (f::r::θ)):Rel b F σ H ρ (u::τ) (f::θ):=(Rel.wk (vs:=[u]) (rs:=[f]) R rfl).drop
theorem Ows.fzs(h:Ows b S H vs (ds.map OD.fz) A):FzA b.K S H vs ds:=by
 induction ds generalizing vs A with
 |nil=>cases h;exact .nil
 |cons d ds Y=>cases h with|cons r t=>cases r with|fz f=>exact .cons f (Y t)
theorem Wd.exp(w:Wd b H L)(T:OwL b (λa=>a∈A\/b.S0 a) H L A)(Q:A.Nodup)(N:∀a∈A,b.H0 a=none\/b.C a)(h:FzA b.K (λa=>a∈A\/b.S0 a) H vs ds):Wd b H (vs.zip (ds.map OD.fz)++L):=by
 have q:∀{vs:List V}{ds:List PyData},FzA b.K (λa=>a∈A\/b.S0 a) H vs ds->OwL b (λa=>a∈A\/b.S0 a) H (vs.zip (ds.map OD.fz)) []:=by
  intro vs;induction vs with
  |nil=>intro ds h;cases h;exact .nil
  |cons v vs Y=>intro ds h;cases h with|cons r t=>exact Ows.cons (.fz r) (Y t)
 exact⟨⟨A,OwL.h9 (q h) T,Q,N⟩,w.fr,w.s0,w.nt⟩
theorem Wd.ay(w:Wd b H L)(m:(v,x)∈L)(e:listOf x=some ds):∃a vs,v=.ref a/\vs.length=ds.length/\SqL b.K H a vs/\Wd b H (vs.zip (ds.map OD.fz)++L):=by
 obtain⟨A,T,Q,N⟩:=w.out;obtain⟨B,h⟩:=OwL.mem T m;cases h with
 |@fz _ d f=>
  cases d with
  |list J=>simp only[listOf]at e;cases e;obtain⟨a,vs,rfl,O,Z⟩:=f.mn;exact⟨a,vs,rfl,Z.length,O.now,w.exp T Q N Z⟩
  |_=>trivial
 |@lst a vs xs A' e1 t=>simp only[listOf]at e;have C:=fzL_map e;subst C;have Z:=Ows.fzs t;exact⟨a,vs,rfl,Z.length,SqL.of e1,w.exp T Q N Z⟩
 |_=>trivial
theorem Wd.fy(w:Wd b H L)(m:(v,x)∈L)(e:vV x=some ds):∃a vs,v=.ref a/\vs.length=ds.length/\SqT b.K H a vs/\Wd b H (vs.zip (ds.map OD.fz)++L):=by
 obtain⟨A,T,Q,N⟩:=w.out;obtain⟨B,h⟩:=OwL.mem T m;cases h with
 |@fz _ d f=>
  cases d with
  |tuple J=>simp only[vV]at e;cases e;obtain⟨a,vs,rfl,O,Z⟩:=f.qd;exact⟨a,vs,rfl,Z.length,O.now,w.exp T Q N Z⟩
  |_=>trivial
 |_=>trivial
theorem Wd.ro(w:Wd b H L)(m:(v,x)∈L)(e:seqOf x=some ds):∃a vs,v=.ref a/\vs.length=ds.length/\(SqL b.K H a vs\/SqT b.K H a vs)/\Wd b H (vs.zip (ds.map OD.fz)++L):=by
 unfold seqOf at e;cases h:listOf x with
 |some z=>rw[h]at e;cases e;obtain⟨a,vs,O,Z,M,P⟩:=w.ay m h;exact⟨a,vs,O,Z,.inl M,P⟩
 |none=>rw[h]at e;obtain⟨a,vs,O,Z,M,P⟩:=w.fy m e;exact⟨a,vs,O,Z,.inr M,P⟩
theorem Rel.eg(R:Rel b F σ H ρ τ θ){Z:List (V×OD)}(w:Wd b H (Z++(stk τ θ++(flat σ ρ++ff F))))(u:vs.length=ds.length)(m:∀z∈vs.zip (ds.map OD.fz),z∈Z++(stk τ θ++(flat σ ρ++ff F)))(P:H p=none):
  Rel b F σ (upd H p (.lst vs)) ρ (.ref p::τ) (.val (.lst (ds.map OD.fz))::θ):=by
 obtain⟨A,T,Q,N⟩:=w.out;have n:=Wd.exp w T Q N ((OwL.vl T).all u m);exact R.push (Wd.below (Wd.eg n (by grind) P))
theorem Rel.h8(R:Rel b F σ H ρ τ θ){Z:List (V×OD)}(w:Wd b H (Z++(stk τ θ++(flat σ ρ++ff F))))(u:vs.length=ds.length)(m:∀z∈vs.zip (ds.map OD.fz),z∈Z++(stk τ θ++(flat σ ρ++ff F)))(P:H p=none):
  Rel b F σ (upd H p (.tup vs)) ρ (.ref p::τ) (.val (.fz (.tuple ds))::θ):=R.push (Wd.below (w.h8 (λS M=>M.all u m) P))
end
section
variable{X:Cx}
def zx(t:DA):DE:=λI Q=>t I λU A=>∃r D,U=[r]/\(dG A r).bind seqOf=some D/\Q (.val (.lst (D.map OD.fz))) A
theorem tu(N:Gl X x) (Y:X.mg x=none) (o:bootBuiltins x=some (.type "list")) (t:x≠"__name__":=by decide) (Z:(x==("__debug__":Str))=false:=by decide)
  (n:starEach (e::es) X.env=(false,eval e X.env)::starEach es X.env:=by rfl) (y:(backTo pos (starEach es X.env)).any (·.1)=false:=by rfl):PDa X (e::es) dt->PDe X (.Call (.Name x p) (e::es) [] pos) (zx dt)
 |⟨_,O,s1⟩=>⟨_,fV jU N Y o O t Z n y,λb F L H I m S i Q T R h q=>s1 b F L H I m S _ _ T R h λc P U A u M ⟨r,D,J,B,O⟩=>by
  subst J;obtain⟨z,s,f⟩:=aaF.mp B
  match c,u with
  |[v],_=>
   obtain⟨a,C,rfl,u,g,w⟩:=M.wd.ro (M.mem s) f;rw[T]at g;exact⟨a,C,rfl,g,λl j=>q _ _ _ _ (Rel.et (M.eg w u (λz d=>aah _ d) j)) O⟩⟩
def D3(t:DA):DE:=λI Q=>t I λU A=>∃r D,U=[r]/\(dG A r).bind listOf=some D/\Q (.val (.fz (.tuple D))) A
theorem vY(N:Gl X x) (Y:X.mg x=none) (o:bootBuiltins x=some (.type "tuple")) (t:x≠"__name__":=by decide) (Z:(x==("__debug__":Str))=false:=by decide)
  (n:starEach (e::es) X.env=(false,eval e X.env)::starEach es X.env:=by rfl) (y:(backTo pos (starEach es X.env)).any (·.1)=false:=by rfl):PDa X (e::es) dt->PDe X (.Call (.Name x p) (e::es) [] pos) (D3 dt)
 |⟨_,O,s1⟩=>⟨_,fV je N Y o O t Z n y,λb F L H I m S i Q T R h q=>s1 b F L H I m S _ _ T R h λc P U A u M ⟨r,D,J,B,O⟩=>by
  subst J;obtain⟨z,s,f⟩:=aaF.mp B
  match c,u with
  |[v],_=>
   obtain⟨a,C,rfl,u,g,w⟩:=M.wd.ay (M.mem s) f;rw[T]at g;exact⟨a,C,rfl,.inl ⟨g,λl j=>q _ _ _ _ (Rel.et (M.h8 w u (λz d=>aah _ d) j)) O⟩⟩⟩
def Kv(a b:DE):DE:=λI Q=>a I λx A=>b A λy m=>∃D L,BI m x=some D/\BI m y=some L/\D.length+L.length<=1000000/\Q (.val (.lst ((D++L).map OD.fz))) m
theorem D4:PDe X a da->PDe X b db->PDe X (.BinOp a .Add b pos) (Kv da db)
 |⟨_,O,s1⟩,⟨_,Z,s2⟩=>⟨_,uR zh O Z,λb F σ H ρ τ θ n Q T R h q=>s1 b F σ H ρ τ θ _ _ T R h λv P x ρ1 M O=>s2 b F σ P ρ1 _ _ _ _ T M O λu k y ρ2 N ⟨ds,es,J,B,d,Z⟩=>by
  obtain⟨S,s,e⟩:=aaF.mp J;obtain⟨Y,L,f⟩:=aaF.mp B;obtain⟨a,C,rfl,o,g,w⟩:=N.wd.ay (N.mem1 s) e;obtain⟨c,i,rfl,A,p,D⟩:=w.ay (aad _ (N.mem L)) f;rw[<-aab]at D;rw[T]at g p;refine⟨a,c,C,i,rfl,rfl,g,p,n9 (by lia),λl j=>q _ _ _ _ (Rel.et (Rel.et (N.eg D (by grind) (λz d=>?_) j))) Z⟩
  grind⟩
abbrev DO:=DEnv->(Option Int->DEnv->Prop)->Prop
variable{lo hi:Option Expr}{dl dh:DO}
end
end
section
structure DEnds where
 nx:DEnv->Prop
 rt:OD->DEnv->Prop
 bk:DEnv->Prop:=λ_=>False
 ct:DEnv->Prop:=λ_=>False
abbrev DS:=DEnds->DEnv->Prop
def NoRf(W:Nat->Prop)(θ:List OR):Prop:=∀r∈θ,(∃x,r=.val x)\/∃j,W j/\r=.rf j
abbrev Ff:Nat->Prop:=λ_=>False
structure EndsOk (b:Bs)(F:List Fr)(τ:List V)(θ:List OR)(Dd:DEnds)(D:Ends):Prop where
 nx:∀σ H ρ,Rel b F σ H ρ τ θ->Dd.nx ρ->D.nx σ H
 bk:∀σ H ρ,Rel b F σ H ρ τ θ->Dd.bk ρ->D.bk σ H
 ct:∀σ H ρ,Rel b F σ H ρ τ θ->Dd.ct ρ->D.ct σ H
 rt:∀σ H ρ v x,Rel b F σ H ρ (v::τ) (.val x::θ)->Dd.rt x ρ->D.rt v H
def Hc(K:Waa)(W:Nat->Prop)(P:TS)(ds:DS):Prop:=∀(b:Bs) (F:List Fr) (L:St) (H:Hp) (I:DEnv) (z:List V) (S:List OR) (w:DEnds) (D:Ends),b.K=K->NoRf W S->Rel b F L H I z S->ds w I->EndsOk b F z S w D->P D L H
inductive PDs (X:Cx)(W:Nat->Prop)(e:Stmt)(de:DS):Prop|mk (te:TS) (h:PS X e te) (s:Hc X.K W te de)
inductive PDss (X:Cx)(W:Nat->Prop)(e:List Stmt)(de:DS):Prop|mk (te:TS) (h:PSs X e te) (s:Hc X.K W te de)
theorem NoRf.al{o:Option V}(n:NoRf W θ)(Q:¬ W i):∀{τ:List V},Al σ τ θ->Al (σ.set i o) τ θ:=by
 induction θ with
 |nil=>intro τ h;cases τ with
  |nil=>trivial
  |cons _ _=>exact h
 |cons r θ Y=>
  intro τ h;cases τ with
  |nil=>trivial
  |cons v τ=>
   rcases n r aag with ⟨x,rfl⟩|⟨j,J,rfl⟩
   ·exact Y (λr D=>n r (aaf _ D)) (τ:=τ) h
   ·refine⟨?_,Y (λr D=>n r (aaf _ D)) (τ:=τ) h.2⟩;have A:i≠j:=λe=>Q (by grind);rw[aaZ A];exact h.1
theorem NoRf.al0(n:NoRf Ff θ):∀{τ:List V},Al σ τ θ->Al σ' τ θ:=by
 induction θ with
 |nil=>intro τ h;cases τ with
  |nil=>trivial
  |cons _ _=>exact h
 |cons r θ Y=>
  intro τ h;rcases n r aag with ⟨x,rfl⟩|⟨j,J,rfl⟩
  ·cases τ with
   |nil=>exact h
   |cons v τ=>exact Y (λr D=>n r (aaf _ D)) (τ:=τ) h
  ·exact J.elim
theorem NoRf.weak(n:NoRf Ff θ):NoRf W θ:=λr D=>(n r D).imp id λ⟨j,J,_⟩=>J.elim
theorem NoRf.cons(n:NoRf W θ):NoRf W (.val x::θ):=λr D=>(aaa.mp D).elim (λe=>.inl ⟨x,e⟩) (n r)
theorem NoRf.app(Y:NoRf W rs)(n:NoRf W θ):NoRf W (rs++θ):=λr D=>(aaj.mp D).elim (Y r) (n r)
theorem Wd.j1{L1 L2:List (V×OD)}(w:Wd b H (L1++(flat σ ρ++L2)))(A:Wf σ ρ)(i:Nat):Wd b H (L1++(flat σ (ρ.set i none)++L2)):=by
 cases e:ρ[i]?.join with
 |none=>
  have:ρ.set i none=ρ:=by
   cases h:ρ[i]? with
   |none=>exact List.set_eq_of_length_le (by simpa using h)
   |some o=>rw[h]at e;have:o=none:=e;subst this;exact set_self h
  rw[this];exact w
 |some x=>have L:=join_some e;obtain⟨v,a⟩:=A.get L;exact Wd.drop (w.perm ((((bB L a).append_right _).append_left _).trans aav))
theorem Rel.store(R:Rel b F σ H ρ (v::τ) (.val x::θ))(n:NoRf W θ)(r:i<ρ.length)(Q:¬ W i):Rel b F (σ.set i (some v)) H (ρ.set i (some x)) τ θ:=by refine Rel.ua R.wf (n.al Q (Rel.drop R).al) R.wff r ?_;exact Wd.j1 (L1:=(v,x)::stk τ θ) (ρ:=ρ) R.wd R.wf i
section
variable{st:Stmt}
def dNext:DS:=λD I=>D.nx I
def Kx(t u:DS):DS:=λD I=>∃M:DEnv->Prop,(∀p,M p->u D p)/\t { D with nx:=M } I
theorem pdss_nil:PDss X W [] dNext:=⟨_,yO,λb F L H I z S w D T n R h E=>E.nx L H I R h⟩
theorem tw:PDs X W st d1->PDss X W sts d2->PDss X W (st::sts) (Kx d1 d2)
 |⟨_,O,s1⟩,⟨_,h2,s2⟩=>⟨_,lx O h2,λb F σ H ρ τ θ w D T n R ⟨M,z,h⟩ E=>s1 b F σ H ρ τ θ _ _ T n R h
  ⟨λi P ρ1 A O=>s2 b F i P ρ1 τ θ w D T n A (z ρ1 O) E,E.bk,E.ct,E.rt⟩⟩
def dCont:DS:=λD I=>D.ct I
theorem pds_cont:PDs X W (.Continue pos) dCont:=⟨_,ly,λb F L H I z S w D T n R h E=>E.ct L H I R h⟩
def Hd(a:DE):DS:=λD I=>a I λ_ A=>D.nx A
theorem vZ(g:swapsWith e none pos.line X.env=pure false:=by rfl):PDe X e da->PDs X W (.Expr e pos) (Hd da)
 |⟨_,h,s⟩=>⟨_,gJ h g,λb F L H I z S w D T n R h E=>s b F L H I z S _ _ T R h λv P r A M O=>E.nx L P A M.drop O⟩
def Ky(a:DE):DS:=λD I=>a I λr A=>∃x m,mv1 A r=some (x,m)/\D.rt x m
theorem zy:PDe X e da->PDs X W (.Return (some e) pos) (Ky da)
 |⟨_,h,s⟩=>⟨_,CM h,λb F σ H ρ τ θ w D T n R h E=>s b F σ H ρ τ θ _ _ T R h λv P r ρ1 M ⟨x,ρ2,e,O⟩=>E.rt σ P ρ2 v x (M.mv1 e) O⟩
def Kz(c:DT)(t u:DS):DS:=λD I=>c I λk A=>if k=true then t D A else u D A
theorem D5{f Z:List Stmt}:PDt X c dT->PDss X W f d1->PDss X W Z d2->PDs X W (.If c f Z pos) (Kz dT d1 d2)
 |⟨_,h,s⟩,⟨_,O,f⟩,⟨_,h2,Z⟩=>⟨_,Gz h O h2,λb F σ H ρ τ θ w D T n R h E=>s b F σ H ρ τ θ _ _ T R h λk P ρ1 M O=>by
  cases k with
  |true=>rw[if_pos rfl]at O ⊢;exact f b F σ P ρ1 τ θ _ _ T n M O E
  |false=>rw[if_neg aar]at O ⊢;exact Z b F σ P ρ1 τ θ _ _ T n M O E⟩
def KA(i:Nat)(a:DE):DS:=λD I=>a I λr A=>∃x m,own1 A r=some (x,m)/\i<m.length/\D.nx (m.set i (some x))
theorem zA{i:Nat}{o:Pos}(Q:¬ W i)(u:X.N.Nodup)(a:X.N[i]?=some x)(C:Loc X.env.scope x)(g:swapsWith e (some (.Name x o)) pos.line X.env=pure false:=by rfl)(y:X.fn x=true\/X.env.scope.names.lookup x=some .local:=by first|exact .inl rfl|exact .inr rfl|assumption):
  PDe X e da->PDs X W (.Assign [.Name x o] e pos) (KA i da)
 |⟨_,h,s⟩=>⟨_,CQ u a C h g y,λb F L H I z S w D T n R h E=>s b F L H I z S _ _ T R h λv P r A M ⟨x,m,e,a,O⟩=>E.nx _ P _ ((M.own1 e).store n a Q) O⟩
def dU:List Nat->List OD->DEnv->DEnv
 |i::is,x::xs,ρ=>dU is xs (ρ.set i (some x))
 |_,_,ρ=>ρ
def D6(is:List Nat)(t:DA):DS:=λD I=>t I λU A=>∃Y m,mapR own1 A U=some (Y,m)/\Y.length=is.length/\(∀i∈is,i<m.length)/\D.nx (dU is Y m)
def j4:List Nat->List V->St->St
 |i::is,v::vs,σ=>j4 is vs (σ.set i (some v))
 |_,_,σ=>σ
theorem Rel.storeAll{W:Nat->Prop}{b:Bs}{F:List Fr}{H:Hp}{τ:List V}{θ:List OR}:∀{is:List Nat}{vs:List V}{xs:List OD}{σ:St}{ρ:DEnv},Rel b F σ H ρ (vs++τ) (xs.map OR.val++θ)->NoRf W θ->vs.length=xs.length->xs.length=is.length->(∀i∈is,i<ρ.length)->(∀i∈is,¬ W i)->Rel b F (j4 is vs σ) H (dU is xs ρ) τ θ
 |[],[],[],_,_,R,_,_,_,_,_=>R
 |i::is,v::vs,x::xs,σ,ρ,R,n,e1,e2,h,hw=>by have y:NoRf W (xs.map OR.val++θ):=NoRf.app (λr D=>by obtain⟨x,_,rfl⟩:=aaH.mp D;exact .inl ⟨x,rfl⟩) n;show Rel b F (j4 is vs (σ.set i (some v))) H (dU is xs (ρ.set i (some x))) τ θ;exact Rel.storeAll (Rel.store (τ:=vs++τ) (θ:=xs.map OR.val++θ) R y (h i aag) (hw i aag)) n (by simpa using e1) (by simpa using e2) (λj u=>by rw[abN];exact h j (aaf _ u)) λj u=>hw j (aaf _ u)
 |[],_::_,[],_,_,_,_,e,_,_,_=>by simp at e
 |[],_,_::_,_,_,_,_,_,e,_,_=>by simp at e
 |_::_,[],_::_,_,_,_,_,e,_,_,_=>by simp at e
 |_::_,_,[],_,_,_,_,_,e,_,_=>by simp at e
theorem len2{Y:Type}{l:List Y}(h:l.length=2):∃a b,l=[a,b]:=by
 match l,h with
 |[a,b],_=>simp
theorem KB{Y:Type}{l:List Y}(h:l.length=3):∃a b c,l=[a,b,c]:=by
 match l,h with
 |[a,b,c],_=>simp
theorem zB{i j:Nat}(f:∀k∈[i,j],¬ W k){x y:Str}{J Z p:Pos}{A l Y}(U:X.calm=true)(hN:X.N.Nodup)(r:X.N[i]?=some x)(hj:X.N[j]?=some y)(q:i≠j)
  (C:X.env.scope.names.lookup x=some .local) (t:X.env.scope.names.lookup y=some .local)
  (Q:swappedStores [.Tuple [.Name x J,.Name y Z] A p] (.Tuple [a,b] l Y) X.env=pure (some [x,y]))
  (g:swapsWithSole [.Tuple [.Name x J,.Name y Z] A p] (.Tuple [a,b] l Y) pos.line X.env=pure false:=by rfl):PDa X [a,b] dt->PDs X W (.Assign [.Tuple [.Name x J,.Name y Z] A p] (.Tuple [a,b] l Y) pos) (D6 [i,j] dt)
 |⟨_,h,s⟩=>⟨_,CS U hN r hj q C t h Q g,λb F L H I z S Dd D T n R h E=>s b F L H I z S _ _ T R h λc P rs o u M ⟨xs,m,e,d,r,O⟩=>by
  obtain⟨R2,B⟩:=fF Rel.own1 M u e;obtain⟨v,w,rfl⟩:=len2 (B.trans d);exact⟨v,w,rfl,E.nx _ P _ (Rel.storeAll (is:=[i,j]) R2 n B d r f) O⟩⟩
theorem v3{i j k:Nat}(f:∀z∈[i,j,k],¬ W z){x y z:Str}{J Z o p:Pos}{A l Y}(U:X.calm=true)(hN:X.N.Nodup)(r:X.N[i]?=some x)(hj:X.N[j]?=some y)(hk:X.N[k]?=some z)(q:i≠j)(a1:i≠k)(a2:j≠k)
  (C:X.env.scope.names.lookup x=some .local) (t:X.env.scope.names.lookup y=some .local) (d:X.env.scope.names.lookup z=some .local)
  (Q:swappedStores [.Tuple [.Name x J,.Name y Z,.Name z o] A p] (.Tuple [a,b,c] l Y) X.env=pure (some [x,y,z]))
  (g:swapsWithSole [.Tuple [.Name x J,.Name y Z,.Name z o] A p] (.Tuple [a,b,c] l Y) pos.line X.env=pure false:=by rfl):PDa X [a,b,c] dt->PDs X W (.Assign [.Tuple [.Name x J,.Name y Z,.Name z o] A p] (.Tuple [a,b,c] l Y) pos) (D6 [i,j,k] dt)
 |⟨_,h,s⟩=>⟨_,y6 U hN r hj hk q a1 a2 C t d h Q g,λb F L H I τ S Dd D T n R h E=>s b F L H I τ S _ _ T R h λvs P rs a3 el M ⟨xs,m,e,a0,r,O⟩=>by
  obtain⟨R2,B⟩:=fF Rel.own1 M el e;obtain⟨v,w,u,rfl⟩:=KB (B.trans a0);exact⟨v,w,u,rfl,E.nx _ P _ (Rel.storeAll (is:=[i,j,k]) R2 n B a0 r f) O⟩⟩
abbrev DG:=OD->DEnv->(DEnv->Prop)->Prop
abbrev DGs:=List OD->DEnv->(DEnv->Prop)->Prop
def oq(K:Waa)(W:Nat->Prop)(m:Nat)(g:TG)(A:DG):Prop:=∀(b:Bs) (F:List Fr) (L:St) (H:Hp) (I:DEnv) (z:List V) (S:List OR) (v:V) (x:OD) (Qd:DEnv->Prop) (Q:St->Hp->Prop),b.K=K->NoRf W S->Rel b F L H I (v::z) (.val x::S)->A x I Qd->(∀a l p,Rel b F a l p z S->(∀j,m<=j->a[j]?=L[j]?/\p[j]?=I[j]?)->Qd p->Q a l)->g v L H Q
def He(K:Waa)(W:Nat->Prop)(m:Nat)(g:TGs)(A:DGs):Prop:=∀(b:Bs) (F:List Fr) (L:St) (H:Hp) (I:DEnv) (z:List V) (S:List OR) (c:List V) (Y:List OD) (Qd:DEnv->Prop) (Q:St->Hp->Prop),b.K=K->NoRf W S->c.length=Y.length->Rel b F L H I (c++z) (Y.map OR.val++S)->A Y I Qd->(∀a l p,Rel b F a l p z S->(∀j,m<=j->a[j]?=L[j]?/\p[j]?=I[j]?)->Qd p->Q a l)->g c L H Q
inductive PDg (X:Cx)(W:Nat->Prop)(m:Nat)(e:Expr)(dg:DG):Prop|mk (te:TG) (h:PG X e te) (s:oq X.K W m te dg)
inductive PDgs (X:Cx)(W:Nat->Prop)(m:Nat)(e:List Expr)(dg:DGs):Prop|mk (te:TGs) (h:F9 X e te) (s:He X.K W m te dg)
def D7(i:Nat):DG:=λx I Q=>i<I.length/\Q (I.set i (some x))
def dgNil:DGs:=λY I Q=>Y=[]/\Q I
def D8(t:DG)(u:DGs):DGs:=λY I Q=>∃x r,Y=x::r/\t x I λp=>u r p Q
def unpT:OD->Option (List OD)
 |.fz (.tuple ds)=>some (ds.map OD.fz)
 |.tup xs=>some xs
 |_=>none
def unpL:OD->Option (List OD)
 |.fz (.list ds)=>some (ds.map OD.fz)
 |.lst xs=>some xs
 |_=>none
def Hf(n:Nat)(t:DGs):DG:=λx I Q=>∃Y,unpT x=some Y/\Y.length=n/\t Y I Q
def Hg(n:Nat)(t:DGs):DG:=λx I Q=>∃Y,unpL x=some Y/\Y.length=n/\t Y I Q
theorem lO{i:Nat}(c:¬ W i)(u:X.N.Nodup)(r:X.N[i]?=some x)(C:Loc X.env.scope x)(M:i<m)(y:X.fn x=true\/X.env.scope.names.lookup x=some .local:=by first|exact .inl rfl|exact .inr rfl|assumption):PDg X W m (.Name x pos) (D7 i):=
 ⟨_,yP u r C y,λb F L H I z S v x w Q T n R ⟨r,h⟩ q=>q _ _ _ (R.store n r c) (λj o=>⟨aaZ (by lia),aaZ (by lia)⟩) h⟩
theorem pdgs_nil:PDgs X W m [] dgNil:=⟨_,yQ,λb F L H I z S c Y w Q T n u R ⟨e,h⟩ q=>by
 subst e;cases c with
 |nil=>exact⟨rfl,q _ _ _ R (λj o=>⟨rfl,rfl⟩) h⟩
 |cons _ _=>grind⟩
theorem tx(g:(assignEach (e::es) X.env).map (·.2)=assign e X.env::(assignEach es X.env).map (·.2):=by rfl):PDg X W m e dg->PDgs X W m es dgs->PDgs X W m (e::es) (D8 dg dgs)
 |⟨_,O,s1⟩,⟨_,Z,s2⟩=>⟨_,uM O Z g,λb F L H I z S c Y w Q T n U R ⟨x,r,e,h⟩ q=>by
  subst e;cases c with
  |nil=>grind
  |cons v c=>
   have y:NoRf W (r.map OR.val++S):=NoRf.app (λr D=>by grind) n;exact⟨v,c,rfl,s1 b F L H I (c++z) (r.map OR.val++S) v x _ _ T y R h λi P A M u O=>s2 b F i P A z S c r _ _ T n (by grind) M O λd k f N l Z=>
    q _ _ _ N (λj o=>⟨(l j o).1.trans (u j o).1,(l j o).2.trans (u j o).2⟩) Z⟩⟩
theorem Wd.unpT{b:Bs}{H:Hp}{L:List (V×OD)}{v:V}{x:OD}{xs:List OD}(w:Wd b H ((v,x)::L))(e:unpT x=some xs):∃a vs,v=.ref a/\SqT b.K H a vs/\vs.length=xs.length/\Wd b H (vs.zip xs++L):=by
 cases x with
 |fz d=>cases d<;>simp only[L2.unpT]at e<;>cases e;obtain⟨a,vs,rfl,u,g,n⟩:=w.fy aag (rfl);exact⟨a,vs,rfl,g,by grind,Wd.drop (n.perm aav)⟩
 |tup S=>
  simp only[L2.unpT]at e;cases e;obtain⟨P,T,Q,N⟩:=w.out;cases T with
  |cons r t=>
   cases r with
   |@tup a vs _ A h1 h2=>exact⟨a,vs,rfl,SqT.of h1,h2.len,⟨⟨_,OwL.h9 (OwL.gp h2) t,Q,N⟩,w.fr,w.s0,w.nt⟩⟩
 |_=>trivial
theorem Wd.unpL{b:Bs}{H:Hp}{L:List (V×OD)}{v:V}{x:OD}{xs:List OD}(w:Wd b H ((v,x)::L))(e:unpL x=some xs):∃a vs,v=.ref a/\SqL b.K H a vs/\vs.length=xs.length/\Wd b H (vs.zip xs++L):=by
 have p:∀{D:List PyData},listOf x=some D->xs=D.map OD.fz->∃a vs,v=.ref a/\SqL b.K H a vs/\vs.length=xs.length/\Wd b H (vs.zip xs++L):=λ{D} h1 h2=>by subst h2;obtain⟨a,vs,rfl,u,g,n⟩:=w.ay aag h1;exact⟨a,vs,rfl,g,by grind,Wd.drop (n.perm aav)⟩
 cases x with
 |fz d=>cases d<;>simp only[L2.unpL]at e<;>cases e;exact p rfl rfl
 |lst S=>
  simp only[L2.unpL]at e;cases e;obtain⟨P,T,Q,N⟩:=w.out;have I:=w.l3 T;cases T with
  |@cons _ _ A _ _ B0 r t=>
   cases r with
   |@lst a vs _ B h1 h2=>have s:∀c,(c∈B++B0\/b.S0 c)->(c∈a::B++B0\/b.S0 c):=λc z=>z.imp (λz=>by grind) id;exact⟨a,vs,rfl,SqL.of h1,h2.len,⟨⟨_,Ows.step (Kp.refl _ _) (λc z=>.inl (s c z)) I (λ_ _=>rfl) (OwL.h9 (OwL.gp h2) t),(aat.mp Q).2,λc U=>N c (aaf _ U)⟩,w.fr,w.s0,w.nt⟩⟩
 |_=>trivial
theorem fG{σ:St}:∀{vs:List V}{xs:List OD},vs.length=xs.length->Al σ vs (xs.map OR.val)
 |[],[],_=>trivial
 |_::vs,_::xs,e=>fG (vs:=vs) (xs:=xs) (by grind)
 |[],_::_,e=>by grind
 |_::_,[],e=>by grind
theorem Rel.spread{b:Bs}{F:List Fr}{σ:St}{H:Hp}{ρ:DEnv}{τ vs:List V}{θ:List OR}{xs:List OD}(R:Rel b F σ H ρ τ θ)(u:vs.length=xs.length)(w:Wd b H (vs.zip xs++(stk τ θ++(flat σ ρ++ff F)))):Rel b F σ H ρ (vs++τ) (xs.map OR.val++θ):=
 ⟨R.wf,(aS (by grind)).mpr ⟨fG u,R.al⟩,R.wff,by rw[aH (by grind),cq u,aab];exact w⟩
theorem zC{k:Nat}{n:Nat}(U:X.calm=true)(l:(assignEach es X.env).length=n:=by rfl)(p:(assignEach es X.env).findIdx? (·.1)=none:=by rfl):PDgs X W m es dgs->PDg X W m (.Tuple es k pos) (Hf n dgs)
 |⟨_,h,s⟩=>⟨_,CO U h l p,λb F L H I z S v x i Q T y R ⟨Y,e,j,h⟩ q=>by
  obtain⟨a,c,rfl,g,u,w⟩:=Wd.unpT R.wd e;rw[T]at g;exact⟨a,c,rfl,g,u.trans j,s b F L H I z S c Y _ _ T y u (R.drop.spread u w) h q⟩⟩
theorem zD{k:Nat}{n:Nat}(U:X.calm=true)(l:(assignEach es X.env).length=n:=by rfl)(p:(assignEach es X.env).findIdx? (·.1)=none:=by rfl):PDgs X W m es dgs->PDg X W m (.Tuple es k pos) (Hg n dgs)
 |⟨_,h,s⟩=>⟨_,DH U h l p,λb F L H I z S v x i Q T y R ⟨Y,e,j,h⟩ q=>by
  obtain⟨a,c,rfl,g,u,w⟩:=Wd.unpL R.wd e;rw[T]at g;exact⟨a,c,rfl,g,u.trans j,s b F L H I z S c Y _ _ T y u (R.drop.spread u w) h q⟩⟩
def KC(a:DE)(g:DG):DS:=λD I=>a I λr A=>∃x m,own1 A r=some (x,m)/\g x m D.nx
theorem zE{f:Expr}(g:swapsWithSole [f] e pos.line X.env=pure false:=by rfl)(Q:swappedStores [f] e X.env=pure none:=by rfl)(u:(assignEach [f] X.env).map (·.2)=[assign f X.env]:=by rfl):PDe X e da->PDg X W m f dg->PDs X W (.Assign [f] e pos) (KC da dg)
 |⟨_,O,s1⟩,⟨_,h2,s2⟩=>⟨_,uN O h2 g Q u,λb F L H I z S w D T n R h E=>s1 b F L H I z S _ _ T R h λv P r A M ⟨x,o,e,O⟩=>
  s2 b F L P o z S v x _ _ T n (M.own1 e) O λa l p j _ t=>E.nx a l p j t⟩
def D9(c:DT)(t:DS):DS:=λD I=>∃W:Nat->DEnv->Prop,(∃m,W m I)/\∀m I,W m I->c I λk A=>if k=true then ∃N:DEnv->Prop,(∀p,N p->∃y,y<m/\W y p)/\t { D with nx:=N,ct:=N,bk:=D.nx } A else D.nx A
theorem tz(d:PassesOwn (model X.prog X.w) X.A X.env X.xe):PDt X c dT->PDss X W sts d1->PDs X W (.While c sts [] pos) (D9 dT d1)
 |⟨_,h1,s1⟩,⟨_,Z,s2⟩=>⟨_,uP d h1 Z,λb F σ H ρ τ θ B D T n R ⟨W,⟨x,r⟩,step⟩ E=>by
  refine⟨λm σ H=>∃ρ,Rel b F σ H ρ τ θ/\W m ρ,⟨x,ρ,R,r⟩,?_⟩;rintro m i P ⟨ρ1,S,f⟩;refine s1 b F i P ρ1 τ θ _ _ T S (step m ρ1 f) λk j ρ2 o Z=>?_;cases k with
  |false=>rw[if_neg aar]at Z ⊢;exact E.nx i j ρ2 o Z
  |true=>
   rw[if_pos rfl]at Z ⊢;obtain⟨N,u,M⟩:=Z;refine⟨λa l=>∃p,Rel b F a l p τ θ/\N p,λa l t=>?_,s2 b F i j ρ2 τ θ _ _ T n o M ⟨λa l p g v=>⟨p,g,v⟩,λa l p g v=>E.nx a l p g v,λa l p g v=>⟨p,g,v⟩,E.rt⟩⟩;obtain⟨p,g,C⟩:=t;obtain⟨y,Y,q⟩:=u p C;exact⟨y,Y,p,g,q⟩⟩
abbrev DI:=DEnv->(List PyData->DEnv->Prop)->Prop
def jg(b:Bs)(J:It)(vs:List V)(rs:List OR)(ds:List PyData):Prop:=∀(F:List Fr) (L:St) (H:Hp) (I:DEnv) (z:List V) (S:List OR),Rel b F L H I (vs++z) (rs++S)->∀k,
 (k<ds.length->J.go k H/\∀x j d,J.yld k H x j->ds[k]?=some d->Rel b F L j I (x::(vs++z)) (.val (.fz d)::(rs++S)))/\(k=ds.length->J.stop k H)
def Hh(K:Waa)(Z:TI)(i:DI):Prop:=∀(b:Bs) (F:List Fr) (L:St) (H:Hp) (I:DEnv) (z:List V) (S:List OR) (Qd:List PyData->DEnv->Prop) (Q:It->Hp->Prop),b.K=K->Rel b F L H I z S->i I Qd ->
 (∀J l D p c U,c.length=U.length->NoRf Ff U->Rel b F L l p (c++z) (U++S)->jg b J c U D->Qd D p->Q J l)->Z L H Q
inductive PDi (X:Cx)(tg e:Expr)(di:DI):Prop|mk (te:TI) (h:PI X tg e te) (s:Hh X.K te di)
def cX(lo:Int)(n:Nat):List PyData:=(List.range n).map λ(i:Nat)=>PyData.int (lo+(i:Int))
theorem lP(lo:Int)(n:Nat):(cX lo n).length=n:=by simp[cX]
theorem v5{lo:Int}{n k:Nat}{d:PyData}(h:(cX lo n)[k]?=some d):k<n/\d=.int (lo+k):=by
 unfold cX at h
 grind
theorem v7(b:Bs)(lo:Int)(n:Nat):jg b (Jr lo n) [] [] (cX lo n):=λF L H I z S R k=>by rw[lP];refine⟨λh=>⟨h,λx j d ⟨J,B⟩ W=>?_⟩,λe=>by subst e;exact aac _⟩;subst J B;rw[(v5 W).2];exact Rel.sc R (.int _)
def Hi(t:DA):DI:=λI Q=>t I λU A=>∃j,eW A U=some [.int j]/\-(2^62)<=j/\j<2^62/\Q (cX 0 j.toNat) A
theorem ou{f:Expr} (N:Gl X "range") (Y:X.mg "range"=none) (g:starEach [a] X.env=[(false,eval a X.env)]:=by rfl):PDa X [a] dt->PDi X f (.Call (.Name "range" p) [a] [] pos) (Hi dt)
 |⟨_,h,s⟩=>⟨_,sk N Y h g,λb F L H I z S w Q T R h q=>s b F L H I z S _ _ T R h λc P U A u M ⟨j,e,B,J,O⟩=>by
  have W:=M.dtL u e;cases W with
  |cons r t=>cases t;cases r;exact⟨j,rfl,B,J,q _ P _ A [] [] rfl (λr D=>by grind) (M.drops u) (v7 b 0 _) O⟩⟩
theorem Rel.itemAt{b:Bs}{F:List Fr}{σ:St}{H:Hp}{ρ:DEnv}{τ:List V}{θ:List OR}{v:V}{x:OD}{ds:List PyData}{d:PyData}{k:Nat}(R:Rel b F σ H ρ τ θ)(m:(v,x)∈stk τ θ++(flat σ ρ++ff F))(e:seqOf x=some ds)(W:ds[k]?=some d):
  ∃a vs u,v=.ref a/\(SqL b.K H a vs\/SqT b.K H a vs)/\vs.length=ds.length/\vs[k]?=some u/\Rel b F σ H ρ (u::τ) (.val (.fz d)::θ):=by
 obtain⟨a,vs,rfl,S,g,w⟩:=R.wd.ro m e;have T:k<vs.length:=by rw[S];exact(aai.mp W).1
 refine⟨a,vs,vs[k],rfl,g,S,aam T,R.push (w.pick (cW (aam T) ?_))⟩;rw[aaz,W];rfl
theorem dW{v:V}{x:OD}{τ:List V}{θ:List OR}{L:List (V×OD)}:(v,x)∈stk ([v]++τ) ([OR.val x]++θ)++L:=by simp[stk]
theorem tD(b:Bs)(a:Addr)(ds:List PyData):jg b (JV b.K a) [.ref a] [.val (.fz (.list ds))] ds:=λF Z H I z S R k=>by
 obtain⟨o,C,e,i,g,_⟩:=R.wd.ay dW (rfl);cases e;refine⟨λh=>⟨⟨C,C[k]'(by lia),g,aam _⟩,λx j d ⟨J,B⟩ W=>?_⟩,λe=>⟨C,g,by lia⟩⟩;subst J;obtain⟨M,c,u,T,r,_,U,N⟩:=R.itemAt dW (rfl) W;cases T;obtain⟨_,O,L,A,p,D⟩:=R.wd.ay dW (rfl);cases L;have Y:k<O.length:=by grind
 have t:=B O p;refine Rel.push R (D.pick (cW t ?_))
 grind
theorem v8(b:Bs)(a:Addr)(ds:List PyData):jg b (JW b.K a) [.ref a] [.val (.fz (.tuple ds))] ds:=λF L H I z S R k=>by
 obtain⟨o,C,e,u,g,w⟩:=R.wd.fy dW (rfl);cases e;refine⟨λh=>⟨⟨C,C[k]'(by lia),g,aam _⟩,λx j d ⟨J,B⟩ W=>?_⟩,λe=>⟨C,g,by lia⟩⟩;subst J;refine Rel.push R (w.pick (cW (B C g) ?_))
 grind
def KD(a:DE):DI:=λI Q=>a I λr A=>∃D m,frz1 A r=some (.list D,m)/\Q D m
theorem v9{f:Expr}:PDe X e da->PDi X f e (KD da)
 |⟨_,h,s⟩=>⟨_,yR h,λb F σ H ρ τ θ w Q T R h q=>s b F σ H ρ τ θ _ _ T R h λv P r ρ1 M ⟨ds,ρ2,e,O⟩=>by
  have N:=M.frz1 e;obtain⟨a,C,rfl,u,g,_⟩:=N.wd.ay (N.mem rfl) (rfl);rw[T]at g;exact⟨a,rfl,⟨C,g⟩,T▸q _ P ds ρ2 [.ref a] [.val (.fz (.list ds))] rfl (λr D=>.inl ⟨_,aaw.mp D⟩) N (tD b a ds) O⟩⟩
def KF(a:DE):DI:=λI Q=>a I λr A=>∃D m,frz1 A r=some (.tuple D,m)/\Q D m
theorem zF{f:Expr}:PDe X e da->PDi X f e (KF da)
 |⟨_,h,s⟩=>⟨_,CW h,λb F σ H ρ τ θ w Q T R h q=>s b F σ H ρ τ θ _ _ T R h λv P r ρ1 M ⟨ds,ρ2,e,O⟩=>by
  have N:=M.frz1 e;obtain⟨a,C,rfl,u,g,_⟩:=N.wd.fy (N.mem rfl) (rfl);rw[T]at g;exact⟨a,rfl,⟨C,g⟩,T▸q _ P ds ρ2 [.ref a] [.val (.fz (.tuple ds))] rfl (λr D=>.inl ⟨_,aaw.mp D⟩) N (v8 b a ds) O⟩⟩
end
end
section
section
variable{K:Waa}
def enumD(ds:List PyData):List PyData:=(List.range ds.length).map λ(i:Nat)=>PyData.tuple [.int (i:Int),ds.getD i .none]
theorem fZ(ds:List PyData):(enumD ds).length=ds.length:=by simp[enumD]
theorem tF{k:Nat}(h:(enumD ds)[k]?=some d):∃e,ds[k]?=some e/\d=.tuple [.int k,e]:=by
 unfold enumD at h
 grind
theorem Rel.ri{b:Bs}{d e:PyData}{p:Addr}(R:Rel b F σ H ρ τ θ)(w:Wd b H (Z++(stk τ θ++(flat σ ρ++ff F))))(t:(v,OD.fz d)∈Z)(Q:(u,OD.fz e)∈Z)(m:H p=none):
  Rel b F σ (upd H p (.tup [v,u])) ρ (.ref p::τ) (.val (.fz (.tuple [d,e]))::θ):=R.h8 w rfl (λz f=>by
   simp at f
   grind) m
theorem tG(b:Bs)(a:Addr)(ds:List PyData):jg b (Km b.K a) [.ref a] [.val (.fz (.list ds))] (enumD ds):=λF L H I z S R k=>by
 obtain⟨o,C,e,u,g,w⟩:=R.wd.ay dW (rfl);cases e;rw[fZ];refine⟨λh=>⟨⟨C,C[k]'(by lia),g,aam _⟩,λx j d ⟨T,y,J,f,B,s⟩ W=>?_⟩,λe=>⟨C,g,by lia⟩⟩;subst B s;obtain⟨l,v,rfl⟩:=tF W;refine Rel.ri (Z:=(V.int k,OD.fz (.int k))::C.zip (ds.map OD.fz)) R (w.sc (.int _)) aag (aaf _ (cW (J C g) ?_)) f
 grind
def Hj(t:DA):DI:=λI Q=>t I λU A=>∃D m,frzL A U=some ([.list D],m)/\Q (enumD D) m
theorem wa{x}{W:Pos} (N:Gl X "enumerate") (i:X.mg "enumerate"=none) (g:starEach [a] X.env=[(false,eval a X.env)]:=by rfl):PDa X [a] dt->PDi X (.Tuple es x W) (.Call (.Name "enumerate" p) [a] [] pos) (Hj dt)
 |⟨_,h,s⟩=>⟨_,zd N i h g,λb F L H I z S w Q T R h q=>s b F L H I z S _ _ T R h λc P U A u M ⟨D,m,e,O⟩=>by
  obtain⟨k,B⟩:=j3 M u e
  match c,B with
  |[v],_=>
   have Y:Rel b F L P m (v::z) (.val (.fz (.list D))::S):=k;obtain⟨a,C,rfl,u,g,_⟩:=Y.wd.ay (Y.mem rfl) (rfl:listOf (.fz (.list D))=some D);rw[T]at g;exact⟨a,C,rfl,g,T▸q _ P _ m [.ref a] [.val (.fz (.list D))] rfl (λr j=>.inl ⟨_,aaw.mp j⟩) Y (tG b a D) O⟩⟩
def zipD(ds es:List PyData):List PyData:=List.zipWith (λd e=>PyData.tuple [d,e]) ds es
theorem wb{ds es:List PyData}{k:Nat}(h:(zipD ds es)[k]?=some d):∃x y,ds[k]?=some x/\es[k]?=some y/\d=.tuple [x,y]:=by
 unfold zipD at h
 grind
def Hk:PyData->Option (Bool×List PyData)
 |.list ds=>some (true,ds)
 |.tuple ds=>some (false,ds)
 |_=>none
def ow(l:Bool)(a:Addr)(xs:List V):ZS:=if l then .lst a xs else .tup a xs
theorem eJ{a:Addr}(h:if l then SqL K H a xs else SqT K H a xs):(ow l a xs).ok K H:=by cases l<;>exact h
theorem lR(l:Bool)(a:Addr)(xs:List V):(ow l a xs).val=.ref a:=by cases l<;>rfl
theorem cu(l:Bool)(a:Addr)(xs:List V):(ow l a xs).items=xs:=by cases l<;>rfl
theorem wc(h:Hk d=some (l,ds)):d=if l then .list ds else .tuple ds:=by cases d<;>simp only[Hk]at h<;>cases h<;>rfl
theorem we(b:Bs)(a c:Addr)(l r:Bool)(xs ys:List V)(ds es:List PyData):jg b (Kb b.K (ow l a xs) (ow r c ys)) [.ref a,.ref c] [.val (.pin l xs ds),.val (.pin r ys es)] (zipD ds es):=λF L H I i S R k=>by
 obtain⟨o,e,u,g,w⟩:=R.wd.pinned (v:=.ref a) (l:=l) (xs:=xs) (ds:=ds) (by simp[stk]);cases e;obtain⟨M,e,A,p,D⟩:=w.pinned (v:=.ref c) (l:=r) (xs:=ys) (ds:=es) (by simp[stk]);cases e;have Q:(zipD ds es).length=min ds.length es.length:=by simp[zipD]
 rw[Q];refine⟨λh=>⟨⟨eJ g,eJ p,by rw[cu];omega,by rw[cu];omega⟩,λx j d ⟨T,y,z,J,B,f,s,n⟩ W=>?_⟩,λe=>⟨eJ g,eJ p,by rw[cu,cu];omega⟩⟩;subst s n;rw[cu]at J B;obtain⟨m,Y,O,Z,rfl⟩:=wb W;rw[<-aab]at D;refine Rel.ri R D (aad _ (cW J ?_)) (aah _ (cW B ?_)) f
 ·rw[aaz,O];rfl
 ·rw[aaz,Z];rfl
def KG(t:DA):DI:=λI Q=>t I λU A=>∃x y l k D L m,frzL A U=some ([x,y],m)/\Hk x=some (l,D)/\Hk y=some (k,L)/\Q (zipD D L) m
theorem zG{i}{W:Pos} (j:Gl X "zip") (hm:X.mg "zip"=none) (g:starEach [a,b] X.env=[(false,eval a X.env),(false,eval b X.env)]:=by rfl) (d:starEach [b] X.env=[(false,eval b X.env)]:=by rfl):PDa X [a,b] dt->PDi X (.Tuple L i W) (.Call (.Name "zip" p) [a,b] [] pos) (KG dt)
 |⟨_,h,s⟩=>⟨_,Ds j hm h g d,λb F σ H I z S Qd Q T R h q=>s b F σ H I z S _ _ T R h λvs P U A Z M ⟨x,y,l,k,ds,L,m,e,ex,C,O⟩=>by
  obtain⟨N,B⟩:=j3 M Z e;obtain⟨v,u,rfl⟩:=len2 B;have w:=N.wd;have Y:=Rel.drops N rfl;obtain⟨xs,f⟩:=w.pin (wc ex);obtain⟨o,n⟩:=(f.perm (List.Perm.swap _ _ _)).pin (wc C);have J:=n.perm (List.Perm.swap _ _ _);obtain⟨a,rfl,_,g,_⟩:=J.pinned (v:=v) (l:=l) (xs:=xs) (ds:=ds) (by simp);obtain⟨c,rfl,_,t,_⟩:=J.pinned (v:=u) (l:=k) (xs:=o) (ds:=L) (by simp);rw[T]at g t;refine⟨ow l a xs,ow k c o,by rw[lR,lR],eJ g,eJ t,T▸q _ P _ m [.ref a,.ref c] [.val (.pin l xs ds),.val (.pin k o L)] rfl (λr D=>by grind) ?_ (we b a c l k xs o ds L) O⟩;exact⟨Y.wf,Y.al,Y.wff,J⟩⟩
end
end
section
noncomputable def cC:DEnv->List Nat->Option (DEnv×DEnv)
 |ρ,[]=>some ([],ρ)
 |ρ,j::js=>match ρ[j]?.join with
  |some (.fz d)=>match cC ρ js with|some z=>some (some (.fz d)::z.1,z.2)|none=>none
  |some x=>match cC (ρ.set j none) js with|some z=>some (some x::z.1,z.2)|none=>none
  |none=>none
noncomputable def dX:DEnv->List Nat->DEnv->DEnv
 |ρ,j::js,some x::os=>dX (ρ.set j (some x)) js os
 |ρ,_::js,none::os=>dX ρ js os
 |ρ,_,_=>ρ
def capV(σ:St)(js:List Nat):St:=js.map λj=>(σ[j]?).join
theorem zH(h:o=some (some v)):o.join=some v:=by rw[h];rfl
theorem qm:∀{js:List Nat}{ρ C ρ2:DEnv}{L1 L2:List (V×OD)},Wd b H (L1++(flat σ ρ++L2))->Wf σ ρ->cC ρ js=some (C,ρ2)->Wd b H (flat (capV σ js) C++(L1++(flat σ ρ2++L2)))/\Wf σ ρ2/\Wf (capV σ js) C
 |[],ρ,C,ρ2,L1,L2,w,wf,e=>by simp only[cC]at e;cases e;exact⟨w,wf,trivial⟩
 |j::js,ρ,C,ρ2,L1,L2,w,wf,e=>by
  cases h:ρ[j]?.join with
  |none=>simp[cC,h]at e
  |some x=>
   have k:=join_some h;obtain⟨v,a⟩:=wf.get k;have f:Wd b H ((v,x)::(L1++(flat σ (ρ.set j none)++L2))):=w.perm ((((bB k a).append_right _).append_left _).trans aav);have m:∀{y:OD}{A:DEnv}{z:DEnv×DEnv},Wd b H ((v,y)::(L1++(flat σ A++L2)))->Wf σ A->cC A js=some z->(some y::z.1,z.2)=(C,ρ2)->Wd b H (flat (capV σ (j::js)) C++(L1++(flat σ ρ2++L2)))/\Wf σ ρ2/\Wf (capV σ (j::js)) C:=λ{y A z} n wf1 Q B=>by
    cases B;obtain⟨J,O,I⟩:=qm (L1:=(v,y)::L1) n wf1 (show cC A js=some (z.1,z.2) from Q);have o:capV σ (j::js)=some v::capV σ js:=by unfold capV;rw[aal,zH a]
    rw[o];exact⟨J.perm aav,O,I⟩
   have M:∀{z:DEnv×DEnv},cC (ρ.set j none) js=some z->(some x::z.1,z.2)=(C,ρ2)->Wd b H (flat (capV σ (j::js)) C++(L1++(flat σ ρ2++L2)))/\Wf σ ρ2/\Wf (capV σ (j::js)) C:=λ{z} Q B=>m f wf.off Q B;have i:∀{A:DEnv}{y:OD},(match cC A js with|some z=>some (some y::z.1,z.2)|none=>none)=some (C,ρ2)->∃z,cC A js=some z/\(some y::z.1,z.2)=(C,ρ2):=λ{A y} q=>by
    cases N:cC A js with
    |none=>rw[N]at q;cases q
    |some z=>rw[N]at q;exact⟨z,rfl,aa0 q⟩
   cases x with
   |fz d=>simp only[cC,h]at e;obtain⟨z,Q,B⟩:=i e;have n:=f.dup;have W:j<ρ.length:=(aai.mp k).1;have L:σ.set j (some v)=σ:=set_self a;have s:=cO (v:=v) (x:=.fz d) W wf.len;rw[L,set_self k]at s;exact m (n.perm (List.Perm.cons _ (aav.symm.trans ((s.symm.append_right _).append_left _)))) wf Q B
   |_=>simp only[cC,h]at e;obtain⟨z,Q,B⟩:=i e;exact M Q B
theorem j5:∀{js:List Nat}{ρ C:DEnv}{L1 L2:List (V×OD)},Wd b H (L1++(flat (capV σ js) C++(flat σ ρ++L2)))->Wf σ ρ->Wf (capV σ js) C->Wd b H (L1++(flat σ (dX ρ js C)++L2))/\Wf σ (dX ρ js C)
 |[],ρ,C,L1,L2,w,wf,wf2=>by
  cases C with
  |nil=>trivial
  |cons _ _=>trivial
 |j::js,ρ,[],L1,L2,w,wf,wf2=>by trivial
 |j::js,ρ,o::C,L1,L2,w,wf,wf2=>by
  have c:capV σ (j::js)=(σ[j]?).join::capV σ js:=rfl;rw[c]at w wf2;cases o with
  |none=>rw[bA]at w;exact j5 (js:=js) w wf (by trivial)
  |some x=>
   cases h:(σ[j]?).join with
   |none=>rw[h]at wf2;trivial
   |some v=>
    rw[h]at w wf2;have f:Wd b H ((v,x)::(L1++(flat (capV σ js) C++(flat σ ρ++L2)))):=w.perm (aav )
    ·have a:=join_some h;have W:j<ρ.length:=by rw[<-wf.len];grind
     have L:=set_self a;have e:=cO (v:=v) (x:=x) W wf.len;rw[L]at e;have I:Wf σ (ρ.set j (some x)):=by have:=wf.put (i:=j) (v:=v) (x:=x);grind
     refine j5 (ρ:=ρ.set j (some x)) ?_ I wf2;have n:Wd b H (((v,x)::L1++flat (capV σ js) C)++(flat σ (ρ.set j none)++L2)):=Wd.j1 (by grind) wf j;refine n.perm ?_;rw[<-aab L1];refine List.Perm.trans ?_ ((e.symm.append_right _).append_left _);simp only[aaK];exact aav.symm
theorem Wf.drop:∀{n:Nat}{σ:St}{ρ:DEnv},Wf σ ρ->Wf (σ.drop n) (ρ.drop n)
 |0,_,_,h=>h
 |_+1,[],[],_=>trivial
 |_+1,[],_::_,h=>by trivial
 |_+1,_::_,[],h=>by trivial
 |n+1,o::σ,none::ρ,h=>Wf.drop (n:=n) h
 |n+1,some _::σ,some _::ρ,h=>Wf.drop (ρ:=ρ) h
 |_+1,none::_,some _::_,h=>by trivial
theorem f6:∀{n:Nat}{σ:St}{ρ:DEnv},Wf σ ρ->∃L,flat σ ρ=L++flat (σ.drop n) (ρ.drop n)
 |0,σ,ρ,_=>⟨[],rfl⟩
 |_+1,[],[],_=>⟨[],rfl⟩
 |_+1,[],_::_,h=>by trivial
 |_+1,_::_,[],h=>by trivial
 |n+1,o::σ,none::ρ,h=>by obtain⟨L,e⟩:=f6 (ρ:=ρ) h;exact⟨L,by rw[bA];exact e⟩
 |n+1,some v::σ,some x::ρ,h=>by obtain⟨L,e⟩:=f6 (ρ:=ρ) h;exact⟨(v,x)::L,by simp only[flat,aaK,List.drop_succ_cons];rw[e]⟩
 |_+1,none::_,some _::_,h=>by trivial
theorem wg:flat (List.replicate n none++σ) (List.replicate n none++ρ)=flat σ ρ:=by
 induction n with
 |zero=>rfl
 |succ n Y=>trivial
theorem Ea(h:Wf σ ρ):Wf (List.replicate n none++σ) (List.replicate n none++ρ):=by
 induction n with
 |zero=>exact h
 |succ n Y=>trivial
theorem Rel.grow(R:Rel b F σ H ρ (v::(vs++[.ref D])) (.val (.fz d)::(rs++[.val (.lst (out.map OD.fz))])))(u:vs.length=rs.length):
  ∃ys,H D=some (.lst ys)/\ys.length=out.length/\Rel b F σ (upd H D (.lst (ys++[v]))) ρ (vs++[.ref D]) (rs++[.val (.lst ((out++[d]).map OD.fz))]):=by
 have M:=R.drop;have Y:stk (vs++[.ref D]) (rs++[.val (.lst (out.map OD.fz))])=stk vs rs++[(.ref D,.lst (out.map OD.fz))]:=by rw[aH u];rfl
 have w:Wd b H ((v,.fz d)::((stk vs rs++[(.ref D,.lst (out.map OD.fz))])++(flat σ ρ++ff F))):=by
  have:=R.wd;simp only[stk]at this
  grind
 have n:Wd b H ([v].zip [OD.fz d]++((.ref D,.lst (out.map OD.fz))::(stk vs rs++(flat σ ρ++ff F)))):=w.perm (by
  simp)
 obtain⟨a,ys,f,i,j,h⟩:=n.vr (ks:=[]) rfl rfl;cases f;refine⟨ys,i,by grind,M.wf,?_,M.wff,?_⟩
 ·obtain⟨I,_⟩:=(aS u).mp M.al;exact(aS u).mpr ⟨I,trivial⟩
 ·have J:=h (ys++[v]) ((out++[d]).map OD.fz) λS H A C s O Z Q=>⟨A++C,by rw[aaE];exact Ows.append O Z,Q,λc U=>aaj.mp U⟩
  have B:stk (vs++[.ref D]) (rs++[.val (.lst ((out++[d]).map OD.fz))])=stk vs rs++[(.ref D,.lst ((out++[d]).map OD.fz))]:=by rw[aH u];rfl
  rw[B];refine J.perm ?_;rw[aab];exact aav.symm
theorem Eb{Y:Type}(A B C T F:List Y):(A++(B++(C++(T++F)))).Perm (B++(A++((T++C)++F))):=by refine(abO A B _).trans (aa6 _ (aa6 _ ?_));rw[<-aab];exact aa5.append_right _
abbrev DC:=DEnv->(List PyData->DEnv->Prop)->Prop
def tH(K:Waa)(tc:TC)(C:DC):Prop:=∀(b:Bs) (F:List Fr) (L:St) (H:Hp) (I:DEnv) (c:List V) (U:List OR) (D:Addr) (O:List PyData) (Qd:List PyData->DEnv->Prop) (Q:Hp->Prop),b.K=K->c.length=U.length->O.length<1000000->Rel b F L H I (c++[.ref D]) (U++[.val (.lst (O.map OD.fz))])->C I Qd ->
 (∀l p o,Rel b F L l p (c++[.ref D]) (U++[.val (.lst ((O++o).map OD.fz))])->o.length<=1->Qd o p->Q l)->tc D L H Q
inductive PDc (Y:Cx)(ifs:List Expr)(elt:Expr)(dc:DC):Prop|mk (tc:TC) (h:∀D,n5 Y D ifs elt tc) (s:tH Y.K tc dc)
section
variable{K:Waa}
def wm(a:DE):DC:=λI Q=>a I λr A=>∃d m,frz1 A r=some (d,m)/\Q [d] m
theorem lS(s:bJ K ta da):tH K (qe ta) (wm da):=λb F L H I c U D S w Q T u f R h q=>s b F L H I _ _ _ _ T R h λv P r A M ⟨d,m,e,O⟩=>by obtain⟨o,i,j,Y⟩:=(M.frz1 e).grow u;exact⟨o,i,aas (by lia) (by decide:1000001<=sizeLine),q _ _ _ Y (aac _) O⟩
theorem tJ:PDe Y elt da->PDc Y [] elt (wm da)
 |⟨_,h,s⟩=>⟨_,λD=>sI h,lS s⟩
def zI(t:DT)(a:DE):DC:=λI Q=>t I λk A=>if k=true then wm a A Q else Q [] A
theorem wo:PDt Y c dT->PDe Y elt da->PDc Y [c] elt (zI dT da)
 |⟨_,O,s1⟩,⟨_,h2,s2⟩=>⟨_,λD=>vk O h2,λb F σ H ρ vs rs D out w Q T u d R h q=>s1 b F σ H ρ _ _ _ _ T R h λk P ρ1 M O=>by
  cases k with
  |true=>rw[if_pos rfl]at O ⊢;exact lS s2 b F σ P ρ1 vs rs D out _ _ T u d M O q
  |false=>grind⟩
def qo(i:DI)(nt:Nat)(fr:List Nat)(g:DG)(l:DC):DE:=λI Q=>i I λD A=>D.length<1000000/\∃C m,cC A fr=some (C,m)/\∃B:Nat->List PyData->DEnv->Prop,B 0 [] (List.replicate nt none++C) /\
 (∀k d O I,D[k]?=some d->B k O I->g (.fz d) I λp=>l p λo z=>B (k+1) (O++o) z)/\∀O I,B D.length O I->Q (.val (.lst (O.map OD.fz))) (dX m fr (I.drop nt))
theorem Ec{Y:Type}(x:Y)(S L P T C F:List Y):(x::(S++((L++P)++((T++C)++F)))).Perm (L++((x::(S++T))++(P++(C++F)))):=by
 have e:x::(S++((L++P)++((T++C)++F)))=x::(S++(L++(P++(T++(C++F))))):=by simp
 rw[e];refine List.Perm.trans ?_ aav.symm;refine List.Perm.cons _ ((abO S L _).trans (aa6 _ ?_));show (S++(P++(T++(C++F)))).Perm ((S++T)++(P++(C++F)));rw[aab];exact aa6 _ (abO P T _)
def SndY{Y:Type}(s:Y->OD)(m:Y->Nat)(K:Waa)(tc:TC)(da:Y->DEnv->(Y->DEnv->Prop)->Prop):Prop:=∀(b:Bs) (F:List Fr) (L:St) (H:Hp) (I:DEnv) (c:List V) (U:List OR) (D:Addr) (O:Y) (Qd:Y->DEnv->Prop) (Q:Hp->Prop),b.K=K->c.length=U.length->m O<1000000->Rel b F L H I (c++[.ref D]) (U++[.val (s O)])->da O I Qd ->
 (∀l p o,Rel b F L l p (c++[.ref D]) (U++[.val (s o)])->m o<=m O+1->Qd o p->Q l)->tc D L H Q
abbrev TZ:=Addr->TB
def Hl{Y:Type}(s:Y->OD)(m:Y->Nat)(K:Waa)(nt:Nat)(tc:TZ)(da:Y->DEnv->(Y->DEnv->Prop)->Prop):Prop:=∀(b:Bs) (F:List Fr) (L:St) (H:Hp) (I:DEnv) (c:List V) (U:List OR) (D:Addr) (O:Y) (Qd:Y->DEnv->Prop) (Q:St->Hp->Prop),b.K=K->c.length=U.length->NoRf Ff U->m O<1000000->Rel b F L H I (c++[.ref D]) (U++[.val (s O)])->da O I Qd ->
 (∀a l p o,(∀j,nt<=j->a[j]?=L[j]?)->Rel b F a l p (c++[.ref D]) (U++[.val (s o)])->m o<=m O+1->Qd o p->Q a l)->tc D L H Q
theorem SndY.z{Y:Type}{s:Y->OD}{m:Y->Nat}{nt:Nat}{tc:TC}{da:Y->DEnv->(Y->DEnv->Prop)->Prop}(h:SndY s m K tc da):Hl s m K nt (λD σ H Q=>tc D σ H (Q σ)) da:=
 λb F σ H I c U D O w Q T u _ d R W q=>h b F σ H I c U D O w (Q σ) T u d R W λl p o g L A=>q σ l p o (λ_ _=>rfl) g L A
def tCZ(B:HO)(J:It)(nt:Nat)(fr:List Nat)(g:CC->TG)(tc:CC->TZ)(σ:St)(P:Hp)(Q:VK):Prop:=∀(c:CC) D,P D=none->J9 J (g c) (tc c D) (bV nt fr σ) (upd P D B) λ_ l=>Q (.ref D) l
theorem tK{Y:Type}{s:Y->OD}{ln:Y->Nat}{a0:Y}{B:HO}{nt:Nat}{fr:List Nat}{g:CC->TG}{tc:CC->TZ}{A:DG}{da:Y->DEnv->(Y->DEnv->Prop)->Prop}(N:∀{b:Bs}{H:Hp}{L:List (V×OD)}{D:Addr},Wd b H L->H D=none->Wd b (upd H D B) ((.ref D,s a0)::L))(l0:ln a0=0)(Z:∀c,oq K Ff nt (g c) A)(s3:∀c,Hl s ln K nt (tc c) da){b:Bs}{F:List Fr}{σ:St}{P:Hp}{ρ1 ρ2 C:DEnv}{τ vs:List V}{θ rs:List OR}{J:It}{ds:List PyData}{Iv:Nat->Y->DEnv->Prop}{Q:VK}(T:b.K=K)(u:vs.length=rs.length)(v:NoRf Ff rs)
  (M:Rel b F σ P ρ1 (vs++τ) (rs++θ)) (it:jg b J vs rs ds) (b0:ds.length<1000000) (U:cC ρ1 fr=some (C,ρ2)) (i0:Iv 0 a0 (List.replicate nt none++C)) (step:∀k d out ρ,ds[k]?=some d->Iv k out ρ->A (.fz d) ρ λp=>da out p λo z=>Iv (k+1) o z)
  (q:∀l D out p,Rel b F σ l (dX ρ2 fr (p.drop nt)) (.ref D::(vs++τ)) (.val (s out)::(rs++θ))->Iv ds.length out p->Q (.ref D) l):tCZ B J nt fr g tc σ P Q:=by
 intro cc D hD;have w1:Wd b P (stk vs rs++(flat σ ρ1++(stk τ θ++ff F))):=M.wd.perm (by
  rw[aH u,aab];refine aa6 _ ?_;rw[<-aab,<-aab];exact aa5.append_right _)
 obtain⟨w2,O,I⟩:=qm w1 M.wf U;have al:=(aS u).mp M.al;have w3:=N w2 hD;have R2:Rel b (⟨σ,ρ2,τ,θ⟩::F) (bV nt fr σ) (upd P D B) (List.replicate nt none++C) (vs++[.ref D]) (rs++[.val (s a0)]):=by
  refine⟨Ea I,(aS u).mpr ⟨v.al0 al.1,trivial⟩,λf y=>?_,?_⟩
  ·rcases aaa.mp y with rfl|y
   ·exact⟨O,al.2⟩
   ·exact M.wff f y
  ·have ec:flat (bV nt fr σ) (List.replicate nt none++C)=flat (capV σ fr) C:=wg;rw[ec,aH u];refine w3.perm ?_;have ef:ff (⟨σ,ρ2,τ,θ⟩::F)=(stk τ θ++flat σ ρ2)++ff F:=rfl;rw[ef];have X:stk [V.ref D] [OR.val (s a0)]=[(V.ref D,s a0)]:=rfl;rw[X];refine List.Perm.trans (List.Perm.cons _ (Eb (flat (capV σ fr) C) (stk vs rs) (flat σ ρ2) (stk τ θ) (ff F))) ?_;rw[aab (stk vs rs)];exact aav.symm
 refine⟨λi m a l=>m=ds.length-i/\i<=ds.length/\(∀j,nt<=j->a[j]?=(bV nt fr σ)[j]?)/\∃out p,ln out<=i/\Rel b (⟨σ,ρ2,τ,θ⟩::F) a l p (vs++[.ref D]) (rs++[.val (s out)])/\Iv i out p,⟨_,rfl,aaB _,λ_ _=>rfl,a0,_,abD l0,R2,i0⟩,?_⟩;rintro i m a l ⟨rfl,hi,a3,out,p,ho,R',S⟩;obtain⟨h,a2⟩:=it _ a l p [.ref D] [.val (s out)] R' i;by_cases a1:i<ds.length
 ·obtain⟨g1,g2⟩:=h a1;refine .inr ⟨g1,λx H2 t=>?_⟩;have ed:ds[i]?=some ds[i]:=aam a1;have nn:NoRf Ff (rs++[.val (s out)]):=NoRf.app v λr hr=>.inl ⟨_,aaw.mp hr⟩;refine Z cc b _ a H2 p _ _ x _ _ _ T nn (g2 x H2 _ t ed) (step i _ out p ed S) λa5 H3 a7 R3 k3 h3=>?_;exact s3 cc b _ a5 H3 a7 vs rs D out _ _ T u v (by omega) R3 h3 λa9 H4 a8 o k4 R4 lo h4=>⟨_,by omega,rfl,a1,λj W=>(k4 j W).trans ((k3 j W).1.trans (a3 j W)),o,a8,by omega,R4,h4⟩
 ·have e:i=ds.length:=by omega
  subst e;refine .inl ⟨a2 rfl,q l D out p ?_ S⟩;have ed:a.drop nt=capV σ fr:=by apply abP;intro j;rw[List.getElem?_drop,a3 _ (by omega)];unfold bV capV;rw[aa4 (by simp),abG,abH]
  have w:Wd b l ((.ref D,s out)::(stk vs rs++(flat a p++((stk τ θ++flat σ ρ2)++ff F)))):=R'.wd.perm (by
   rw[aH u];have X:stk [V.ref D] [OR.val (s out)]=[(V.ref D,s out)]:=rfl;rw[X,aab];exact aav)
  obtain⟨L0,eL⟩:=f6 (n:=nt) R'.wf;rw[eL,ed]at w;have w5:Wd b l (((.ref D,s out)::stk (vs++τ) (rs++θ))++(flat (capV σ fr) (p.drop nt)++(flat σ ρ2++ff F))):=by refine Wd.drops (L1:=L0) (w.perm ?_);rw[aH u];exact Ec (.ref D,s out) (stk vs rs) L0 (flat (capV σ fr) (p.drop nt)) (stk τ θ) (flat σ ρ2) (ff F)
  have a4:Wf (capV σ fr) (p.drop nt):=ed▸R'.wf.drop;obtain⟨w6,a6⟩:=j5 w5 O a4;exact⟨a6,M.al,M.wff,w6⟩
theorem lT{Y:Type}{s:Y->OD}{m:Y->Nat}{a0:Y}{B:HO}{nt:Nat}{fr:List Nat}{g:CC->TG}{tc:CC->TC}{A:DG}{da:Y->DEnv->(Y->DEnv->Prop)->Prop}(N:∀{b:Bs}{H:Hp}{L:List (V×OD)}{D:Addr},Wd b H L->H D=none->Wd b (upd H D B) ((.ref D,s a0)::L))(w:m a0=0)(Z:∀c,oq K Ff nt (g c) A)(e:∀c,SndY s m K (tc c) da){b:Bs}{F:List Fr}{σ:St}{P:Hp}{ρ1 ρ2 C:DEnv}{τ vs:List V}{θ rs:List OR}{J:It}{ds:List PyData}{Iv:Nat->Y->DEnv->Prop}{Q:VK}(T:b.K=K)(u:vs.length=rs.length)(v:NoRf Ff rs)
  (M:Rel b F σ P ρ1 (vs++τ) (rs++θ)) (it:jg b J vs rs ds) (a:ds.length<1000000) (U:cC ρ1 fr=some (C,ρ2)) (X:Iv 0 a0 (List.replicate nt none++C)) (step:∀k d out ρ,ds[k]?=some d->Iv k out ρ->A (.fz d) ρ λp=>da out p λo I=>Iv (k+1) o I)
  (q:∀l D out p,Rel b F σ l (dX ρ2 fr (p.drop nt)) (.ref D::(vs++τ)) (.val (s out)::(rs++θ))->Iv ds.length out p->Q (.ref D) l):tCZ B J nt fr g (tZ tc) σ P Q:=
 tK (tc:=tZ tc) N w Z (λc=>(e c).z) T u v M it a U X step q
theorem tL{C:DC}(Z:∀c,oq K Ff nt (g c) dg)(e:∀c,tH K (tc c) C){b:Bs}{F:List Fr}{Iv:Nat->List PyData->DEnv->Prop}(T:b.K=K)(u:vs.length=rs.length)(v:NoRf Ff rs)
  (M:Rel b F σ H1 ρ1 (vs++τ) (rs++θ)) (it:jg b J vs rs ds) (a:ds.length<1000000) (U:cC ρ1 fr=some (inner,ρ2)) (X:Iv 0 [] (List.replicate nt none++inner)) (step:∀k d out ρ,ds[k]?=some d->Iv k out ρ->dg (.fz d) ρ λp=>C p λo z=>Iv (k+1) (out++o) z)
  (q:∀l D out p,Rel b F σ l (dX ρ2 fr (p.drop nt)) (.ref D::(vs++τ)) (.val (.lst (out.map OD.fz))::(rs++θ))->Iv ds.length out p->Q (.ref D) l):qf (λ_ _ k=>k J H1) nt fr g tc σ H1 Q:=
 lT (da:=λout ρ Q=>C ρ λo p=>Q (out++o) p) (λw h=>Wd.eg w rfl h) rfl Z (λc b F σ H ρ vs rs D out n Q T u f R h q=>e c b F σ H ρ vs rs D out (λo p=>n (out++o) p) Q T u f R h λl p o j L A=>q l p (out++o) j (by grind) A) T u v M it a U X step q
theorem lU(f:Hh K wi di)(Z:∀c,oq K Ff nt (g c) dg)(e:∀c,tH K (tc c) dc):bJ K (qf wi nt fr g tc) (qo di nt fr dg dc):=by intro b F L H I z S w Q T R h q;refine f b F L H I z S _ _ T R h λJ P W A y k u v M j t=>?_;obtain⟨a,C,n,U,B,X,i,m⟩:=t;exact tL Z e T u v M j a U X i λl D O p o Y=>q _ l _ _ (Rel.drops (Rel.wj o u) u) (m O p Y)
end
end
section
section
variable{K:Waa}
theorem PDg.ex{Y:CC->Cx}(T:∀c,(Y c).K=K)(h:∀c,PDg (Y c) Ff m tg dg):∃g:CC->TG,∀c,PG (Y c) tg (g c)/\oq K Ff m (g c) dg:=
 abQ (r:=λc g=>PG (Y c) tg g/\oq K Ff m g dg) λc=>(by obtain⟨o,O,f⟩:=h c;exact⟨o,O,T c▸f⟩)
theorem PDc.ex{Y:CC->Cx}(T:∀c,(Y c).K=K)(h:∀c,PDc (Y c) ifs elt dc):∃g:CC->TC,∀c,(∀D,n5 (Y c) D ifs elt (g c))/\tH K (g c) dc:=
 abQ (r:=λc g=>(∀D,n5 (Y c) D ifs elt g)/\tH K g dc) λc=>(by obtain⟨o,O,f⟩:=h c;exact⟨o,O,T c▸f⟩)
theorem zJ(U:X.calm=true)(S:CompScope N nt fr X.N scope X.env.scope)(W:∀x,foldedSetIterable iter X.env x=pure x:=by intro _;rfl)(r:PDi X tg iter di)(m:∀c:CC,PDg (cB X N scope c) Ff nt tg dg)(i:∀c:CC,PDc (cB X N scope c) ifs elt dc):
  PDe X (.ListComp elt [⟨tg,iter,ifs,0⟩] scope pos) (qo di nt fr dg dc):=by
 obtain⟨Z,O,f⟩:=r;obtain⟨g,a⟩:=PDg.ex (K:=X.K) (Y:=λc=>cB X N scope c) (λ_=>rfl) m;obtain⟨H,P⟩:=PDc.ex (Y:=λc=>cB X N scope c) (λ_=>rfl) i;exact⟨_,yZ U S O (λc=>(a c).1) (λc D=>(P c).1 D) W,lU f (λc=>(a c).2) λc=>(P c).2⟩
end
def ba:List Bool->DEnv->List OR->Option (List OD×DEnv)
 |[],ρ,[]=>some ([],ρ)
 |true::ios,ρ,r::rs=>match mv1 ρ r with
  |some (x,ρ1)=>match ba ios ρ1 rs with|some (xs,ρ2)=>some (x::xs,ρ2)|none=>none
  |none=>none
 |false::ios,ρ,r::rs=>match frz1 ρ r with
  |some (d,ρ1)=>match ba ios ρ1 rs with|some (xs,ρ2)=>some (.fz d::xs,ρ2)|none=>none
  |none=>none
 |_,_,_=>none
noncomputable def dY:List Bool->List OR->List OD->DEnv->DEnv
 |true::ios,.rf j::rs,y::ys,ρ=>dY ios rs ys (ρ.set j (some y))
 |_::ios,_::rs,_::ys,ρ=>dY ios rs ys ρ
 |_,_,_,ρ=>ρ
theorem argsR_ok:∀{ios:List Bool}{vs:List V}{rs:List OR}{ρ p:DEnv}{xs:List OD}{τ:List V}{θ:List OR},Rel b F σ H ρ (vs++τ) (rs++θ)->vs.length=rs.length->ba ios ρ rs=some (xs,p)->Rel b F σ H p (vs++τ) (xs.map OR.val++θ)/\vs.length=xs.length
 |[],[],[],_,_,_,_,_,R,_,e=>by simp only[ba]at e;grind
 |true::ios,v::vs,r::rs,ρ,p,ds,τ,θ,R,e,h=>by
  simp only[ba]at h;split at h
  ·rename_i x ρ1 O;split at h
   ·rename_i xs ρ2 Z;cases h;have M:=Rel.mv1 R O;have L:vs.length=rs.length:=by grind
    obtain⟨N,B⟩:=argsR_ok (Rel.wj M L) L Z;exact⟨Rel.wk N (by grind),by grind⟩
   ·cases h
  ·cases h
 |false::ios,v::vs,r::rs,ρ,p,ds,τ,θ,R,e,h=>by
  simp only[ba]at h;split at h
  ·rename_i x ρ1 O;split at h
   ·rename_i xs ρ2 Z;cases h;have M:=Rel.frz1 R O;have L:vs.length=rs.length:=by grind
    obtain⟨N,B⟩:=argsR_ok (Rel.wj M L) L Z;exact⟨Rel.wk N (by grind),by grind⟩
   ·cases h
  ·cases h
 |_,[],_::_,_,_,_,_,_,_,e,_=>by grind
 |_,_::_,[],_,_,_,_,_,_,e,_=>by grind
 |[],_::_,_::_,_,_,_,_,_,_,_,h=>by trivial
 |true::_,[],[],_,_,_,_,_,_,_,h=>by trivial
 |false::_,[],[],_,_,_,_,_,_,_,h=>by trivial
theorem Rel.give(R:Rel b F σ H ρ (v::τ) (.val y::θ))(ev:σ[j]?=some (some v)):Rel b F σ H (ρ.set j (some y)) τ θ:=
 Rel.back R.wf (Rel.drop R).al R.wff ev (Wd.j1 R.wd R.wf j)
theorem bQ:∀{ios:List Bool}{vs:List V}{rs:List OR}{ys:List OD}{ρ:DEnv},Al σ vs rs->vs.length=ys.length->Rel b F σ H ρ (vs++τ) (ys.map OR.val++θ)->Rel b F σ H (dY ios rs ys ρ) τ θ
 |ios,[],[],[],ρ,_,_,R=>by cases ios with|nil=>exact R|cons i ios=>cases i<;>exact R
 |[],v::vs,r::rs,y::ys,ρ,al,e,R=>by
  have A:Al σ vs rs:=by cases r with|val _=>exact al|rf _=>exact al.2
  have:=bQ (ios:=[]) A (by grind) (Rel.drop R)
  trivial
 |true::ios,v::vs,.rf j::rs,y::ys,ρ,al,e,R=>bQ (ys:=ys) al.2 (by grind) (Rel.give R al.1)
 |true::ios,v::vs,.val x::rs,y::ys,ρ,al,e,R=>bQ (ys:=ys) al (by grind) (Rel.drop R)
 |false::ios,v::vs,.rf j::rs,y::ys,ρ,al,e,R=>bQ (ys:=ys) al.2 (by grind) (Rel.drop R)
 |false::ios,v::vs,.val x::rs,y::ys,ρ,al,e,R=>bQ (ys:=ys) al (by grind) (Rel.drop R)
 |_,[],_::_,_,_,al,_,_=>by trivial
 |_,_::_,[],_,_,al,_,_=>by trivial
 |_,[],_,_::_,_,_,e,_=>by grind
 |_,_::_,_,[],_,_,e,_=>by grind
structure FnD (P:Program)(w:World)(K:Waa)(mg:Str->Option Value)(base:Heap)(k:Nat)(f:Addr)(fd:FuncData)(ps:List Str)(sp:DSp):Prop where
 ok:FnOk P w K mg base CX0 k f fd ps (toSp K sp)
 mono:vJ sp
section
variable{X:Cx}
def BJ(sp:DSp)(ios:List Bool)(t:DA):DE:=λI Q=>t I λU A=>∃Y m,ba ios A U=some (Y,m)/\sp Y λx o=>Q (.val x) (dY ios U o m)
theorem wq(G:FnD X.prog X.w X.K X.mg X.base k f fd ps sp)(n:vK X.K ta dt):bJ X.K (By (toSp X.K sp) [] E0 ta) (BJ sp ios dt):=λb F L H I z S a Q T R h q=>n b F L H I z S _ _ T R h λc P U A u M ⟨j,m,J,O⟩=>by
  obtain⟨N,B⟩:=argsR_ok M u J;have W:=((aS u).mp M.al).1;have w:=N.vals B;rw[aap,<-T];refine w.call B G.mono (G.mono _ _ _ (λx o C d v l D=>q v l _ _ ?_ C) O);have Y:Rel b F L l m (v::(c++z)) (.val x::(o.map OR.val++S)):=by have i:=N.drops (by grind);refine⟨i.wf,(aS (by grind)).mpr ⟨fG d,i.al⟩,i.wff,?_⟩;show Wd b l ((v,x)::(stk (c++z) (o.map OR.val++S)++_));rw[aH (by grind),cq d,aab];omega
  exact bQ W d (Rel.wj Y (by grind))
theorem zK{ios:List Bool} (G:FnD X.prog X.w X.K X.mg X.base k f fd ps sp) (D:Room k X.A) (N:Gl X x) (Y:X.mg x=some (.ref f)) (F:PySem.W.keepIn X.K (.ref f)=true) (S:Binds X.K fd ps []) (Z:(x==("__debug__":Str))=false:=by decide)
  (n:starEach (e::es) X.env=(false,eval e X.env)::starEach es X.env:=by rfl) (y:(backTo pos (starEach es X.env)).any (·.1)=false:=by rfl):PDa X (e::es) dt->PDe X (.Call (.Name x p) (e::es) [] pos) (BJ sp ios dt)
 |⟨_,h1,s1⟩=>⟨_,qa (E:=E0) G.ok D N Y F S .nil lF h1 Z n y,wq G s1⟩
end
def Hm:PyData->Bool
 |.int _=>true
 |.bool _=>true
 |.str _=>true
 |.none=>true
 |_=>false
theorem Fz.sc{K:Waa}(h:Fz K S H v d)(e:Hm d=true):Sc v d:=by cases h<;>first|constructor|cases e
theorem Wd.kept0(w:Wd b H L)(k:Kp (λa=>a∈([]:List Addr)) H H'):Wd b H' L:=by
 obtain⟨A,T,Q,N⟩:=w.out;have I:=w.l3 T;have g:=λa o e=>k.k a o e aaq;have P:∀a,a∈A->H' a=H a:=λa i=>by
  cases e:H a with
  |none=>exact absurd e (Ows.ne T a i)
  |some o=>grind
 refine⟨⟨A,Ows.step (k.weak λc U=>absurd U aaq) (λc z=>.inl z) I P T,Q,N⟩,w.fr.trans (k.weak λc U=>absurd U aaq),w.s0,λa Y e z=>?_⟩;have O:=(w.s0 a z).1;cases B:H a with
 |none=>exact O (w.fr.n a B)
 |some o=>
  grind
def Ed(sp:DSp)(t:DA):DE:=λI Q=>t I λU A=>∃D,eW A U=some D/\sp (D.map OD.fz) λx _=>∃d,x=.fz d/\Hm d=true/\Q (.val (.fz d)) A
theorem Ee{b:Bs}:∀{vs:List V}{ds:List PyData},FzA b.K S H vs ds->Ows b S H vs (ds.map OD.fz) []:=by
 intro vs;induction vs with
 |nil=>intro ds h;cases h;exact .nil
 |cons v vs Y=>intro ds h;cases h with|cons r t=>exact Ows.cons (.fz r) (Y t)
theorem wu(G:FnD X.prog X.w X.K X.mg X.base k f fd ps sp) (hr:Room k X.A) (s:Gl X x) (Y:X.mg x=some (.ref f)) (j:PySem.W.keepIn X.K (.ref f)=true) (hb:Binds X.K fd ps []) (Z:(x==("__debug__":Str))=false:=by decide)
  (n:starEach (e::L) X.env=(false,eval e X.env)::starEach L X.env:=by rfl) (y:(backTo pos (starEach L X.env)).any (·.1)=false:=by rfl):PDa X (e::L) o->PDe X (.Call (.Name x p) (e::L) [] pos) (Ed sp o)
 |⟨_,O,s1⟩=>⟨_,qa (E:=E0) G.ok hr s Y j hb .nil lF O Z n y,λb F σ H I τ S Qd Q T R h q=>s1 b F σ H I τ S _ _ T R h λc P U i u M ⟨D,J,O⟩=>by
  have o:=M.dtL u J;rw[aap,<-T];have L:(λa=>a∈([]:List Addr)\/False)=λ_=>False:=funext λa=>by simp
  refine⟨λ_=>False,D.map OD.fz,[],λa z=>z.elim,λ_ _ _ z=>z,?_,abb,G.mono _ _ _ (λx ys C v l B kp hO m hB=>?_) O⟩
  ·rw[L];exact Ee (b:=⟨b.K,P,λ_=>False,λa=>a∈[]⟩) (FzA.of0 o)
  ·obtain⟨d,C,g,hq⟩:=C;subst C;cases hO with
   |cons r t=>
    cases r with
    |fz r=>
     have N:=M.drops u;exact q v l _ _ (Rel.sc ⟨N.wf,N.al,N.wff,N.wd.kept0 kp⟩ (r.sc g)) hq⟩
theorem bL:∀{vs:List V}{n:Nat}{ρ:DEnv},flat (vs.map some++List.replicate n none) ρ=flat (vs.map some) ρ
 |[],0,_=>rfl
 |[],n+1,[]=>rfl
 |[],n+1,o::ρ=>by
  rw[aay,aaI,aa3];have:flat (none::List.replicate n none) (o::ρ)=flat (List.replicate n none) ρ:=by rfl
  rw[this];have:=bL (vs:=[]) (n:=n) (ρ:=ρ)
  trivial
 |v::vs,n,[]=>by rfl
 |v::vs,n,none::ρ=>by simp only[aal,aaK,bA];exact bL
 |v::vs,n,some x::ρ=>by simp only[aal,aaK,flat];rw[bL]
theorem ik:∀{vs:List V}{xs:List OD}{k:Nat},vs.length=xs.length->flat (vs.map some) (xs.map some++List.replicate k none)=vs.zip xs
 |[],[],0,_=>rfl
 |[],[],_+1,_=>rfl
 |v::vs,x::xs,k,e=>by simp only[aal,aaK,flat,abr];rw[ik (by grind)]
 |[],_::_,_,e=>by rfl
 |_::_,[],_,e=>by grind
theorem ip:∀{vs:List V}{xs:List OD}{k:Nat},vs.length=xs.length->Wf (vs.map some++List.replicate k none) (xs.map some++List.replicate k none)
 |[],[],0,_=>trivial
 |[],[],k+1,_=>by
  have:=ip (vs:=[]) (xs:=[]) (k:=k) rfl
  trivial
 |v::vs,x::xs,k,e=>ip (xs:=xs) (by grind)
 |[],_::_,_,e=>by grind
 |_::_,[],_,e=>by grind
def f9(N:Nat)(xs:List OD):DEnv:=xs.map some++List.replicate (N-xs.length) none
def bR:Nat->List Bool->List OD->DEnv->Option (List OD)
 |_,[],[],_=>some []
 |i,true::ios,_::xs,ρ=>match ρ[i]?.join with
  |some y=>match bR (i+1) ios xs ρ with|some ys=>some (y::ys)|none=>none
  |none=>none
 |i,false::ios,.fz d::xs,ρ=>match bR (i+1) ios xs ρ with|some ys=>some (.fz d::ys)|none=>none
 |_,_,_,_=>none
def WS(ios:List Bool):Nat->Prop:=λj=>ios[j]?=some true
noncomputable def iq:Nat->List Bool->List V->List V
 |i,true::ios,v::vs=>v::iq (i+1) ios vs
 |i,false::ios,_::vs=>iq (i+1) ios vs
 |_,_,_=>[]
noncomputable def fH:Nat->List Bool->List OR
 |i,true::ios=>.rf i::fH (i+1) ios
 |i,false::ios=>fH (i+1) ios
 |_,[]=>[]
theorem j6:∀{ios:List Bool}{vs:List V}{i:Nat},ios.length=vs.length->(∀k v,vs[k]?=some v->σ[i+k]?=some (some v))->Al σ (iq i ios vs) (fH i ios)
 |[],[],_,_,_=>trivial
 |true::ios,v::vs,i,e,h=>⟨h 0 v rfl,j6 (ios:=ios) (by grind) λk u F=>by have:=h (k+1) u (by grind);grind⟩
 |false::ios,v::vs,i,e,h=>j6 (i:=i+1) (by grind) λk u F=>by have:=h (k+1) u (by grind);grind
 |[],_::_,_,e,_=>by grind
 |true::_,[],_,e,_=>by grind
 |false::_,[],_,e,_=>by grind
theorem j7:∀{ios:List Bool}{i:Nat}{W:Nat->Prop},(∀k,ios[k]?=some true->W (i+k))->NoRf W (fH i ios)
 |[],_,_,_=>λr D=>by trivial
 |true::ios,i,W,h=>λr D=>by
  simp only[fH]at D;rcases aaa.mp D with rfl|D
  ·exact .inr ⟨i,h 0 rfl,rfl⟩
  ·exact j7 (ios:=ios) (λk F=>by have:=h (k+1) (by grind);grind) r D
 |false::ios,i,W,h=>λr D=>j7 (i:=i+1) (λk F=>by have:=h (k+1) (by grind);grind) r D
theorem fI:∀{ios:List Bool}{vs:List V}{i:Nat},stk (iq i ios vs) (fH i ios)=[]
 |[],[],_=>rfl
 |[],_::_,_=>rfl
 |true::ios,[],i=>by rfl
 |false::ios,[],i=>by rfl
 |true::ios,v::vs,i=>fI (i:=i+1)
 |false::ios,v::vs,i=>fI (i:=i+1)
end
section
section
variable{K:Waa}
theorem Wd.addF(w:Wd b H L)(f:Fz b.K (λa=>b.C a\/b.S0 a) b.H0 v d):Wd b H ((v,.fz d)::L):=by
 obtain⟨A,T,Q,N⟩:=w.out;refine⟨⟨A,Ows.cons (.fz (f.step (w.fr.weak λc z=>.inl (.inl z)) λc z=>?_)) T,Q,N⟩,w.fr,w.s0,w.nt⟩
 grind
theorem gb:∀{ios:List Bool}{xs:List OD}{i j:Nat}{ρ:DEnv},j<i->bR i ios xs (ρ.set j none)=bR i ios xs ρ
 |[],[],_,_,_,_=>rfl
 |true::ios,_::xs,i,j,ρ,h=>by simp only[bR];rw[aaZ (by lia),gb (by lia)]
 |false::ios,.fz d::xs,i,j,ρ,h=>by simp only[bR];rw[gb (by lia)]
 |[],_::_,_,_,_,_=>rfl
 |true::_,[],_,_,_,_=>rfl
 |false::_,[],_,_,_,_=>rfl
 |false::_,.lst _::_,_,_,_,_=>rfl
 |false::_,.tup _::_,_,_,_,_=>rfl
 |false::_,.dic _ _::_,_,_,_,_=>rfl
 |false::_,.obj _ _ _::_,_,_,_,_=>rfl
 |false::_,.pin _ _ _::_,_,_,_,_=>rfl
 |false::_,.hole _::_,_,_,_,_=>rfl
 |false::_,.st _::_,_,_,_,_=>rfl
theorem j8:∀{ios:List Bool}{vs:List V}{xs ys:List OD}{i:Nat}{ρ:DEnv}{L1:List (V×OD)},vs.length=xs.length->(∀(k:Nat) v d,vs[k]?=some v->xs[k]?=some (.fz d)->Fz b.K (λa=>b.C a\/b.S0 a) b.H0 v d)->bR i ios xs ρ=some ys ->
  Al σ (iq i ios vs) (fH i ios)->Wf σ ρ->Wd b H (L1++flat σ ρ)->vs.length=ys.length/\∃R,Wd b H (L1++(vs.zip ys++R))
 |[],[],[],ys,i,ρ,L1,_,_,e,_,_,w=>by simp only[bR]at e;cases e;exact⟨rfl,_,w⟩
 |true::ios,v::vs,x::xs,ys,i,ρ,L1,el,hf,e,al,wf,w=>by
  simp only[bR]at e;split at e
  ·rename_i y S;split at e
   ·rename_i P B;cases e;have Y:=al.1;have f:Wd b H ((L1++[(v,y)])++flat σ (ρ.set i none)):=w.perm (by
     rw[aab];exact(bB (join_some S) Y).append_left _)
    obtain⟨s,R,n⟩:=j8 (by simpa using el) (λk u d O Z=>hf (k+1) u d (by grind) (by grind)) (by rw[gb (by lia)];omega) al.2 wf.off f;exact⟨by grind,R,by simp_all⟩
   ·cases e
  ·cases e
 |false::ios,v::vs,.fz d::xs,ys,i,ρ,L1,el,hf,e,al,wf,w=>by
  simp only[bR]at e;split at e
  ·rename_i P B;cases e;have f:Wd b H ((L1++[(v,.fz d)])++flat σ ρ):=(w.addF (hf 0 v d rfl rfl)).perm (by
    rw[aab];exact aav.symm)
   obtain⟨s,R,n⟩:=j8 (by grind) (λk u d O Z=>hf (k+1) u d (by grind) (by grind)) B al wf f;exact⟨by grind,R,by simp_all⟩
  ·cases e
 |[],_::_,_::_,_,_,_,_,_,_,e,_,_,_=>by trivial
 |true::_,[],[],_,_,_,_,_,_,e,_,_,_=>by trivial
 |false::_,[],[],_,_,_,_,_,_,e,_,_,_=>by trivial
 |false::_,_::_,.lst _::_,_,_,_,_,_,_,e,_,_,_=>by trivial
 |false::_,_::_,.tup _::_,_,_,_,_,_,_,e,_,_,_=>by trivial
 |false::_,_::_,.dic _ _::_,_,_,_,_,_,_,e,_,_,_=>by trivial
 |false::_,_::_,.obj _ _ _::_,_,_,_,_,_,_,e,_,_,_=>by trivial
 |false::_,_::_,.pin _ _ _::_,_,_,_,_,_,_,e,_,_,_=>by trivial
 |false::_,_::_,.hole _::_,_,_,_,_,_,_,e,_,_,_=>by trivial
 |false::_,_::_,.st _::_,_,_,_,_,_,_,e,_,_,_=>by trivial
 |_,[],_::_,_,_,_,_,e,_,_,_,_,_=>by grind
 |_,_::_,[],_,_,_,_,e,_,_,_,_,_=>by grind
theorem Ows.fzAt:∀{vs:List V}{xs:List OD}{A:List Addr}{k:Nat}{v:V}{d:PyData},Ows b S H vs xs A->vs[k]?=some v->xs[k]?=some (.fz d)->Fz b.K S H v d
 |_,_,_,0,_,_,.cons r _,e,e'=>by simp at e e';subst e e';cases r with|fz f=>exact f
 |_,_,_,k+1,_,_,.cons _ t,e,e'=>Ows.fzAt (k:=k) t (by simpa using e) (by simpa using e')
 |_,_,_,_,_,_,.nil,e,_=>by simp at e
theorem Fun.okD{m:Stmt}(F:Fun K x qual m f fd)(S:FnScope N ps (aK m))(a2:vJ sp)(a9:ios.length=ps.length)(len:∀xs Q,sp xs Q->xs.length=ps.length)
  (a1:∀(U:Value) (A:Around) (M:List Env) (s:Shared) (H:Hp) (E:XK),Room k (A.deeper (envOfC qual (aK m) s.heap.objs.size f U))->∀(xs:List OD) (Q:OD->List OD->Prop),sp xs Q ->
   ∃X,PDss (jS CX0 P w K mg base N qual (aK m) f U A M s H E).u2 (WS ios) (bC m) X/\X { nx:=λI=>∃o,bR 0 ios xs I=some o/\Q (.fz .none) o,rt:=λx I=>∃o,bR 0 ios xs I=some o/\Q x o } (f9 N.length xs)):FnD P w K mg base (k+1) f fd ps sp:=by
 refine⟨F.ok S (λvs H Q E h=>?_) (λU A M s H vs Q E hr h=>?_),a2⟩
 ·obtain⟨S,xs,A,_,_,q,_,h⟩:=h;rw[q.len]
  grind
 ·obtain⟨J,xs,j,W,nt,q,Y,h⟩:=h;obtain⟨X,⟨ts,O,s1⟩,hd⟩:=a1 U A M s H E hr xs _ h;refine⟨ts,O,?_⟩
  let b:Bs:=⟨K,H,J,λa=>a∈j⟩
  have u:=q.len;have a8:=len _ _ h;have w0:Wd b H (vs.zip xs):=⟨⟨j,OwL.gp q,Y,λa i=>.inr i⟩,Kp.refl _ _,λa z=>⟨(W a z).1,(W a z).2⟩,nt⟩
  have sg:∀(k:Nat) v,vs[k]?=some v->(start N vs)[0+k]?=some (some v):=λk v e=>by have hk:=(aai.mp e).1;unfold start;rw[aaP,abc (by simpa using hk),aaz,e];rfl
  have R:Rel b [] (start N vs) H (f9 N.length xs) (iq 0 ios vs) (fH 0 ios):=by unfold start f9;refine⟨by rw[u];exact ip u,j6 (by lia) sg,λf y=>(by cases y),?_⟩;rw[fI];show Wd b H ([]++(flat _ _++[]));rw[aaI,aap,bL,ik u];exact w0
  have a3:∀(a0:St) (l:Hp) (p:DEnv) (v:V) (x:OD),Rel b [] a0 l p (v::iq 0 ios vs) (.val x::fH 0 ios)->(∃o,bR 0 ios xs p=some o/\LO K J j vs H Q x o)->Q v l:=λa0 l p v x g ⟨o,C,i⟩=>by
   have D:Wd b l ([(v,x)]++flat a0 p):=by have:=g.wd;simp only[stk]at this;rw[fI]at this;simpa[ff] using this
   obtain⟨a4,Z,n⟩:=j8 u (λk v d O h2=>(Ows.fzAt q O h2).sub λa z=>z) C g.al g.wf D;have e1:[(v,x)]++(vs.zip o++Z)=(v::vs).zip (x::o)++Z:=rfl;rw[e1]at n;obtain⟨B0,T,nd,a7⟩:=n.out;have a5:=n.l3 T;obtain⟨B,L,rfl,r,t⟩:=OwL.eo T;refine i v l B n.fr (Ows.sub a5 (λc z=>z.imp (aah _) id) (OwL.r4 (by simp[a4]) r)) (aau.mp nd).1 λa a6=>a7 a (aah _ a6)
  refine s1 b [] (start N vs) H _ _ _ _ _ rfl (j7 λk hk=>?_) R hd ⟨λa0 l p g h'=>?_,λ_ _ _ _ h'=>h'.elim,λ_ _ _ _ h'=>h'.elim,a3⟩
  ·rw[aaP];exact hk
  ·exact a3 a0 l p .non _ (g.sc .non) h'
end
end
section
section
variable{X:Cx}
section
variable{e st:Expr}
end
end
end
section
end
section
open MeetsSeq
theorem gf{M:Model}{A:Around}{E:Value->Shared->Prop}{s:Shared}{C:Type}(n:Nat)(f:Nat->C->Sem (ForInStep C))(I:Nat->C->Shared->Prop)(Q:C->Shared->Prop)
  (o:∀i b s,i<n->I i b s->wpAny M A (f i b) (λr B=>match r with|.yield b'=>I (i+1) b' B|.done b'=>Q b' B) E s)
  (fin:∀b s,I n b s->Q b s) (b:C) (h:I 0 b s):wpAny M A (forIn [0:n] b f) Q E s:=by
 rw[Std.Legacy.Range.forIn_eq_forIn_range'];refine wpAny_forIn_list f (λl b s=>∃i,l=List.range' i (n-i)/\i<=n/\I i b s) Q ?_ ?_ _ b ⟨0,by simp,aaB _,h⟩
 ·rintro x t b s ⟨i,e,a,J⟩;have k:i<n:=by
   by_cases T:i<n
   ·lia
   ·simp_all
  rw[show n-i=(n-(i+1))+1 by lia,List.range'_succ]at e;obtain⟨rfl,rfl⟩:=List.cons.inj e;refine thn (o x b s k J) λr B D=>?_
  grind
 ·grind
theorem lV(l:Addr)(items:Array Value)(n:Nat)(t:Option Addr)(Z:Array (Option Value))(x:Value)(e:Value->Bool)(a:∀y,y∈items->EqGives y x (e y))(j:Nat)(W:j<items.size)
  (u:e items[j]=true) (T:∀m (o:m<items.size),m<j->e items[m]=false):
  Meets (Builtin.«tuple.index» ⟨[.ref l,x],[]⟩)
   (λ_ R s=>s.heap.get? l=some { cls:=.type "tuple",dict:=t,data:=.seq items n,slots:=Z }/\R (.ok (.ret (.int j s.toks))) { s with toks:=s.toks+1 }):=
 .of_wp λP w A R s h=>by
  obtain⟨M,g,d,Y,C⟩:=s;obtain⟨c,h⟩:=h
  wp_walk using acV c,gf _ _ (λi b B=>b.1=none/\B=⟨M,g,d,Y,C⟩/\i<=j) _
  ·rintro i b B r ⟨S,rfl,q⟩;have k:i<items.size:=by lia
   rw[show items[i]?=some items[i] from Array.getElem?_eq_getElem k];refine acs (a _ (Array.getElem_mem k) P w _ _ _ _ ?_);by_cases J:i=j
   ·subst J;rw[u]
    wp_walk
    grind
   ·rw[T i k (by lia)]
    wp_walk
    grind
  ·grind
  ·simp
end
section
noncomputable def BK(n:Int):Value->Bool
 |.int a _=>a==n
 |_=>false
theorem tM:MtR X "tuple.index" (λx vs H Q=>∃(l:Addr) (ns:List Int) (n:Int) (j:Nat),x=.ref l/\vs=[.int n]/\SqT X.K H l (ns.map V.int)/\ns[j]?=some n/\(∀m,m<j->ns[m]?≠some n)/\Q (.int j) H):=by
 intro M s L H x vs v C Q I N O h;obtain⟨l,ns,n,j,rfl,rfl,hS,W,T,q⟩:=h;cases N;obtain⟨u,rfl,p⟩:=O.one;obtain⟨t,rfl⟩:=p;obtain⟨D,r,p1,_⟩:=I.tuple hS;have S:D.length=ns.length:=by rw[<-r.length,aae]
 have A:∀m (Y:m<D.length),∃a t',D[m]=.int a t'/\ns[m]?=some a:=λm Y=>by
  have P:m<ns.length:=by omega
  obtain⟨u,U,p⟩:=r.get (i:=m) (x:=.int ns[m]) (by rw[aaz,aam P];rfl);obtain⟨t',rfl⟩:=p;refine⟨ns[m],t',?_,aam P⟩;have:=(aai.mp U).2;exact this
 have w:j<D.length:=by have:=(aai.mp W).1;omega
 have k:BK n D.toArray[j]=true:=by obtain⟨a,t',J,B⟩:=A j w;rw[W]at B;cases B;show BK n D[j]=true;rw[J];simp[BK]
 have f:∀m (Y:m<D.toArray.size),m<j->BK n D.toArray[m]=false:=λm Y g=>by obtain⟨a,t',J,B⟩:=A m Y;show BK n D[m]=false;rw[J];have:a≠n:=λz=>T m g (z▸B);simp[BK,this]
 have he:∀y,y∈D.toArray->MeetsSeq.EqGives y (.int n t) (BK n y):=λy hy=>by obtain⟨m,Y,rfl⟩:=List.getElem_of_mem (List.mem_toArray.mp hy);obtain⟨a,t',J,B⟩:=A m Y;rw[J];exact MeetsSeq.EqGives.int a n t' t
 obtain⟨⟨oc,od,dt,Z⟩,d,ec,n0,c⟩:=p1;cases ec;cases c;refine acL F.slot_tuple_index ⟨_,d,rfl⟩ F.entry_tuple_index (F.args_tuple_index_2 _ _) (lV l D.toArray n0 od Z (.int n t) (BK n) he j w k f) ⟨d,?_⟩;exact⟨.int j,H,I.kept (t':=s.toks+1) λb o e=>e,⟨_,rfl⟩,q⟩
end
section
def rn2(i j:Int):Nat:=((j-i+1)/2).toNat
theorem wx{a b:Int}(h:a<=b):Builtin.Range.rangeSize a b 2=(rn2 a b:Int):=by
 unfold Builtin.Range.rangeSize rn2
 grind
def ox(lo:Int)(n:Nat):List PyData:=(List.range n).map λ(i:Nat)=>PyData.int (lo+(i:Int)*2)
theorem lW(lo:Int)(n:Nat):(ox lo n).length=n:=by simp[ox]
theorem tN(b:Bs)(lo:Int)(n:Nat):jg b (Kn lo 2 n) [] [] (ox lo n):=λF L H I z S R k=>by rw[lW];refine⟨λh=>⟨h,λx N d ⟨J,B⟩ W=>?_⟩,λe=>by subst e;exact aac _⟩;subst J B;unfold ox at W;rw[aaz]at W;obtain⟨j,O,rfl⟩:=aaJ.mp W;obtain⟨Z,M⟩:=aai.mp O;simp at Z M;subst M;exact Rel.sc R (.int _)
def Hn(t:DA):DI:=λI Q=>t I λU A=>∃i j,eW A U=some [.int i,.int j,.int 2]/\(0<=i/\i<=j/\j<=1000000)/\Q (ox i (rn2 i j)) A
theorem oy{o:DA} (N:Gl X "range") (Y:X.mg "range"=none) (g:starEach [a,b,c] X.env=[(false,eval a X.env),(false,eval b X.env),(false,eval c X.env)]) (d:starEach [b,c] X.env=[(false,eval b X.env),(false,eval c X.env)]):PDa X [a,b,c] o->PDi X tg (.Call (.Name "range" p) [a,b,c] [] pos) (Hn o)
 |⟨_,h,s⟩=>⟨_,sX N Y h g d,λb F σ H ρ τ θ w Q T R h q=>s b F σ H ρ τ θ _ _ T R h λvs P rs ρ1 u M ⟨i,j,e,S,O⟩=>by
  have W:=M.dtL u e;cases W with
  |cons r t=>cases t with|cons f t=>cases t with|cons Z t=>cases t;cases r;cases f;cases Z;exact⟨i,j,2,rn2 i j,rfl,by omega,wx S.2.1,q _ P _ ρ1 [] [] rfl (λr D=>by grind) (M.drops u) (tN b i _) O⟩⟩
end
section
set_option backward.match.sparseCases true in
theorem lY{prog:Program}{w:World}{A:Around}{E:Value->Shared->Prop}(j:s.heap.IsTuple l vs.toArray)(f:vs.length<=1000)
  (h:∀h',(∀b o,s.heap.get? b=some o->h'.get? b=some o)->Q vs { s with heap:=h' }):wpAny (model prog w) A (collect (.ref l)) Q E s:=by
 obtain⟨o,T,U,n,W⟩:=id j;unfold collect;refine acs (wpAny_runValue (codeAny_builtin entry_proto_collect' ?_));show wpAny _ _ (newList [] >>= λr=>again (.builtin "list.__iadd__" ⟨[r,.ref l],[]⟩)) _ _ s;refine acs (wpAny_newList (acv ⟨Code.quiet_builtin _ (by decide +kernel),codeAny_builtin entry_list_iadd' ?_⟩));generalize hH:s.heap.push (seqObj "list" #[] 0)=g;show wpAny _ _ (Builtin.List.listExtendWith (.ref s.heap.objs.size) (.ref l) (.ref s.heap.objs.size)) _ _ { s with heap:=g };have u:g.get? s.heap.objs.size=some (seqObj "list" #[] 0):=by rw[<-hH];exact acx _ rfl
 have t:g.get? l=some o:=by rw[<-hH];exact acw _ T
 have Z:1000<=sizeLine:=by decide
 unfold Builtin.List.listExtendWith;refine acs (wpAny_typeOf ⟨o,t,U⟩ ?_);have X:(Value.type "tuple" == Value.type "tuple")=true:=by rfl
 rw[if_pos (by simp)];refine acs (listItems_at t W (acs (listItems_at u rfl ?_)));rw[if_neg (by simp)];refine acs (listUpdate_at u rfl ?_ (aaB _) (by grind));refine acv ?_;show wpAny (model prog w) A (load s.heap.objs.size >>= λo=>match o.data with
   |.seq xs _=>pure xs.toList
   |_=>unsupported "internal:collect") Q E _
 refine acs (wpAny_load (get?_update_seq u _) ?_);show wpAny _ _ (pure ((#[]:Array Value)++vs.toArray).toList) Q E _;rw[show ((#[]:Array Value)++vs.toArray).toList=vs by simp];refine acv (h _ λb o e=>?_);have P:b≠s.heap.objs.size:=aao (acu e);rw[Heap.get?_update_ne _ _ _ _ P,<-hH];exact acw _ e
end
section
end
end L2
namespace L2
open PySem PySem.Spec PyProof.Rows PySem.Builtin PySem.Builtin.Str
section
variable{X:Cx}
end
end L2
namespace L2
open PySem PySem.Spec PyProof.Rows
section
section
variable{X:Cx}{a b:Expr}{es:List Expr}{dt:DA}{pos p:Pos}
end
end
section
section
variable{X:Cx}{tg:Expr}{pos p:Pos}
end
end
section
open Sem (wp)
section
variable{X:Cx}{a b:Expr}{es:List Expr}{p pos kp:Pos}
end
end
section
inductive Bo where|add|sub|mul|fdiv|mod|pow
inductive Co where|lt|le|gt|ge|eq|ne|inn|nin
inductive O2 where|ixs|cts|tin|tni|sws|ews|six
inductive Bl where|len|abs|max|min|int|all
inductive Knd where|int|bool|str|list|tuple|seq
inductive Bn where|list|tuple|sorted
inductive Acc where|fld (c f:Str)|ix (k:Int)|key (j:Nat)
inductive Tg where|nm (i:Nat)|tp (ts:List Nat)
mutual
inductive E where
 |nm (i:Nat)|mv (i:Nat)|int (k:Int)|str (x:Str)|bl (b:Bool)|non|gc (g:Nat)
 |bop (o:Bo) (a b:E)|cat (a b:E)|rep (a b:E)
 |cmp (o:Co) (a b:E)|cmp2 (o o':Co) (a b c:E)|isn (neg:Bool) (a:E)
 |and (a b:E)|or (a b:E)|not (a:E)|neg (a:E)|ife (c a b:E)
 |tup (es:Es)|lst (es:Es)|ix (a b:E)
 |call (f:Nat) (es:Es)|callS (f:Nat) (es:Es)|blt (f:Bl) (es:Es)|bnw (f:Bn) (e:E)|isi (k:Knd) (a:E)|idx (a b:E)|dgt (i:Nat) (e:E)|dnew
 |pg (i:Nat) (ps:List Acc)|pf (i:Nat) (ps:List Acc)|pl (i:Nat) (ps:List Acc)|pt (i:Nat) (ps:List Acc)|pin (neg:Bool) (e:E) (i:Nat) (ps:List Acc)|din (neg:Bool) (e:E) (i:Nat) (ps:List Acc)
 |comp (nt:Nat) (fr:List Nat) (it:It') (tg:Tg) (ifs:Eo) (elt:E)
 |meth (c m:Str) (f:Nat) (i:Nat) (es:Es)|make (c:Str) (f:Nat) (es:Es)
inductive Es where|nil|cons (e:E)(es:Es)
inductive Eo where|none|some (e:E)
inductive It' where|seq (e:E)|rg1 (e:E)|rg3 (a b:E)|enm (e:E)|zip (a b:E)
end
mutual
inductive S' where
 |ex (e:E)|set (i:Nat) (e:E)|asg (t:Tg) (e:E)|par (is:List Nat) (es:Es)|aug (i:Nat) (o:Bo) (e:E)|agl (i:Nat) (e:E)
 |ret (e:E)|iff (c:E) (a b:Ss)|whl (c:E) (b:Ss)|fr (t:Tg) (it:It') (b:Ss)|cont
 |app (i:Nat) (e:E)|apd (i:Nat) (ps:List Acc) (e:E)|sti (i:Nat) (k e:E)|sdk (i:Nat) (k e:E)|std (i:Nat) (ps:List Acc) (j:Nat) (e:E)
 |sdc (i nt:Nat) (fr:List Nat) (it:It') (tg:Tg) (ke ve:E)|stf (i:Nat) (c f:Str) (e:E)|agf (i:Nat) (c f:Str) (o:Bo) (e:E)
inductive Ss where|nil|cons (s:S')(ss:Ss)|ali (i:Nat)(ps:List Acc)(j:Nat)(ss:Ss)
end
structure Fn where
 io:List Bool
 n:Nat
 body:Ss
structure Ct where
 io:Nat->List Bool
 call:Nat->List OD->Option (OD×List OD)
 mak:Nat->List OD->Option (OD×List OD)
 gv:Nat->PyData
 wf:Nat
def tO:OD->Option PyData|.fz d=>some d|_=>none
def nF:OD->Option (List OD)|.lst xs=>some xs|_=>none
def BL:OD->Option (List Key×List OD)|.dic ks xs=>some (ks,xs)|_=>none
def Ho:OD->Option (Str×List Str×List OD)|.obj c ns xs=>some (c,ns,xs)|_=>none
noncomputable def LQ(x:OD):Option (List OD):=match x with|.lst xs=>some xs|.tup xs=>some xs|_=>none
noncomputable def fB:PyData->Option Int|.int i=>some i|_=>none
def Jx:PyData->Option Bool|.bool k=>some k|_=>none
def KH:PyData->Option (List PyData)|.list ds=>some ds|_=>none
def tP:PyData->Option (List PyData)|.list ds=>some ds|.tuple ds=>some ds|_=>none
def KI:OR->Option (List OD)|.val x=>nF x|_=>none
noncomputable def gd(c:Prop)[Decidable c]:Option Unit:=if c then some () else none
noncomputable def eX{Y:Type}:List Y->Option Y|[x]=>some x|_=>none
noncomputable def wy{Y:Type}:List Y->Option (Y×Y×Y)|[x,y,z]=>some (x,y,z)|_=>none
noncomputable def jh{Y:Type}:List Y->Option (Y×Y)|[x,y]=>some (x,y)|_=>none
def LR(w:OD×List OD):Option (OD×List OD):=(tO w.1).bind λd=>match d,w.2 with|.none,y::ys=>some (y,ys)|_,_=>none
def LS:Bo->Int->Int->Option Int
 |.add,i,j=>some (i+j)
 |.sub,i,j=>some (i-j)
 |.mul,i,j=>(gd ((-(2^64)<i/\i<2^64)\/(-(2^64)<j/\j<2^64))).bind λ_=>some (i*j)
 |.fdiv,i,j=>(gd (0<j/\j<1073741824)).bind λ_=>some (i/j)
 |.mod,i,j=>(gd (0<j)).bind λ_=>some (i%j)
 |.pow,i,j=>(gd (0<=j/\j<=1000000/\i.natAbs<2^64)).bind λ_=>some (i^j.toNat)
def yE(o:Bo)(x y:PyData):Option PyData:=(fB x).bind λi=>(fB y).bind λj=>(LS o i j).bind λk=>some (.int k)
def Jy(x y:PyData):Option Bool:=match vN x y with
 |some k=>some k
 |none=>if SeqAt.shaped x&&SeqAt.shaped y then some (PyData.eqv x y) else none
def inA(x y:PyData):Option Bool:=(tP y).bind λD=>(gd (Gb x=true)).bind λ_=>memD x D
def oz(o:Co)(x y:PyData):Option Bool:=match o with
 |.lt=>(fB x).bind λi=>(fB y).bind λj=>some (decide (i<j))
 |.le=>(fB x).bind λi=>(fB y).bind λj=>some (decide (i<=j))
 |.gt=>(fB x).bind λi=>(fB y).bind λj=>some (decide (j<i))
 |.ge=>(fB x).bind λi=>(fB y).bind λj=>some (decide (j<=i))
 |.eq=>Jy x y
 |.ne=>(Jy x y).bind λk=>some (!k)
 |.inn=>inA x y
 |.nin=>(inA x y).bind λk=>some (!k)
noncomputable def lZ:PyData->Option Bool
 |.none=>some false|.bool b=>some b|.int i=>some (i !=0)
 |.list ds=>some (!ds.isEmpty)|.tuple ds=>some (!ds.isEmpty)
 |_=>none
noncomputable def BM:Knd->PyData->Bool
 |.int,.int _=>true|.int,.bool _=>true|.bool,.bool _=>true|.str,.str _=>true|.list,.list _=>true|.tuple,.tuple _=>true|.seq,.list _=>true|.seq,.tuple _=>true
 |_,_=>false
def gz:List PyData->Option (List Int)
 |[]=>some []
 |d::ds=>(fB d).bind λi=>(gz ds).bind λr=>some (i::r)
def zL(f:Bl)(ds:List PyData):Option PyData:=match f with
 |.len=>(eX ds).bind λd=>(jf d).bind λn=>some (.int n)
 |.abs=>(eX ds).bind λd=>(fB d).bind λi=>some (.int (if i<0 then -i else i))
 |.max=>(jh ds).bind λz=>(fB z.1).bind λi=>(fB z.2).bind λj=>some (.int (if j>i then j else i))
 |.min=>(jh ds).bind λz=>(fB z.1).bind λi=>(fB z.2).bind λj=>some (.int (if j<i then j else i))
 |.int=>(eX ds).bind λd=>(toInt d).bind λi=>some (.int i)
 |.all=>(eX ds).bind λd=>(KH d).bind λL=>(allB L).bind λT=>some (.bool (T.all id))
noncomputable def insI(i:Int):List Int->List Int
 |[]=>[i]
 |j::r=>if i<=j then i::j::r else j::insI i r
def sortI:List Int->List Int
 |[]=>[]
 |i::r=>insI i (sortI r)
noncomputable def keyOf:PyData->Option Key
 |.int i=>some (.inl i)
 |.str x=>some (.inr x)
 |_=>none
def KJ:OR->Option (List PyData)|.val (.fz (.tuple ds))=>some ds|_=>none
def dgV(ks:List Key)(xs:List OD)(k:Key):Option PyData:=match ks.findIdx? (λq=>decide (q=k)) with
 |some j=>(xs[j]?).bind tO
 |none=>some .none
def accN(ρ:DEnv)(x:OD):Acc->Option Nat
 |.fld c f=>(Ho x).bind λq=>(gd (q.1=c)).bind λ_=>q.2.1.findIdx? (λg=>decide (g=f))
 |.ix k=>(LQ x).bind λxs=>ixN xs.length k
 |.key j=>(ρ[j]?.join).bind λy=>(tO y).bind λd=>(BL x).bind λq=>(keyOf d).bind λk=>q.1.findIdx? (λq=>decide (q=k))
def aw(ρ:DEnv)(i:Nat):List Acc->Option (OD×List Nat×OD)
 |[]=>(ρ[i]?.join).bind λx=>some (x,[],x)
 |a::ps=>(aw ρ i ps).bind λp=>(accN ρ p.2.2 a).bind λk=>(p.2.2.kids[k]?).bind λz=>some (p.1,p.2.1++[k],z)
def Ef(x:OD):Option (List OD):=match unpT x with|some Y=>some Y|none=>unpL x
def KL(P:List Nat)(x:OD)(ρ:DEnv):Option DEnv:=(Ef x).bind λY=>(gd (Y.length=P.length/\∀i∈P,i<ρ.length)).bind λ_=>some (dU P Y ρ)
def bo:Tg->OD->DEnv->Option DEnv
 |.nm i,x,ρ=>(gd (i<ρ.length)).bind λ_=>some (ρ.set i (some x))
 |.tp ts,x,ρ=>KL ts x ρ
def cG(step:PyData->DEnv->Option (List PyData×DEnv)):List PyData->List PyData->DEnv->Option (List PyData×DEnv)
 |[],out,ρ=>some (out,ρ)
 |d::ds,out,ρ=>(step d ρ).bind λw=>cG step ds (out++w.1) w.2
noncomputable def eZ{Y:Type}(step:Y->PyData->DEnv->Option (Y×DEnv)):List PyData->Y->DEnv->Option (Y×DEnv)
 |[],o,ρ=>some (o,ρ)
 |d::ds,o,ρ=>(step o d ρ).bind λw=>eZ step ds w.1 w.2
inductive Fl where|nx|bk|ct|rt (x:OD)
noncomputable def bS(step:PyData->DEnv->Option (Fl×DEnv)):List PyData->DEnv->Option (Fl×DEnv)
 |[],ρ=>some (.nx,ρ)
 |d::ds,ρ=>(step d ρ).bind λw=>match w.1 with
  |.nx=>bS step ds w.2
  |.ct=>bS step ds w.2
  |.bk=>some (.nx,w.2)
  |.rt x=>some (.rt x,w.2)
noncomputable def cv(c:DEnv->Option (Bool×DEnv))(b:DEnv->Option (Fl×DEnv)):Nat->DEnv->Option (Fl×DEnv)
 |0,_=>none
 |n+1,ρ=>(c ρ).bind λx=>if x.1=true then (b x.2).bind λw=>match w.1 with
   |.nx=>cv c b n w.2
   |.ct=>cv c b n w.2
   |.bk=>some (.nx,w.2)
   |.rt x=>some (.rt x,w.2)
  else some (.nx,x.2)
def vt(f:DEnv->Option (OR×DEnv)):(DEnv->Option (OR×DEnv))×(DEnv->Option (Bool×DEnv)):=(f,λI=>(f I).bind λx=>(az x.2 x.1).bind λd=>(lZ d).bind λk=>some (k,x.2))
section
variable(C:Ct)
mutual
noncomputable def cw:E->(DEnv->Option (OR×DEnv))×(DEnv->Option (Bool×DEnv))
 |.nm i=>vt λρ=>match ρ[i]?.join with
  |some (.fz d)=>some (.val (.fz d),ρ)
  |some _=>some (.rf i,ρ)
  |none=>none
 |.mv i=>vt λρ=>(ρ[i]?.join).bind λx=>some (.val x,ρ.set i none)
 |.int k=>vt λρ=>some (.val (.fz (.int k)),ρ)
 |.str x=>vt λρ=>some (.val (.fz (.str x)),ρ)
 |.bl b=>vt λρ=>some (.val (.fz (.bool b)),ρ)
 |.non=>vt λρ=>some (.val (.fz .none),ρ)
 |.gc g=>vt λρ=>some (.val (.fz (C.gv g)),ρ)
 |.bop o a b=>vt λρ=>((cw a).1 ρ).bind λx=>((cw b).1 x.2).bind λy=>(az y.2 x.1).bind λdx=>(az y.2 y.1).bind λdy=>(yE o dx dy).bind λd=>some (.val (.fz d),y.2)
 |.cat a b=>vt λρ=>((cw a).1 ρ).bind λx=>((cw b).1 x.2).bind λy=>(BI y.2 x.1).bind λdx=>(BI y.2 y.1).bind λdy=>(gd (dx.length+dy.length<=1000000)).bind λ_=>some (.val (.lst ((dx++dy).map OD.fz)),y.2)
 |.rep a b=>vt λρ=>((cw a).1 ρ).bind λx=>((cw b).1 x.2).bind λy=>(dG y.2 x.1).bind λD=>(nF D).bind λxs=>(az y.2 y.1).bind λd=>(fB d).bind λk=>(tm xs).bind λds=>(gd (-(2^62)<=k/\k<2^62/\ds.length*k.toNat<=1000000)).bind λ_=>some (.val (.lst ((List.replicate k.toNat ds).flatten.map OD.fz)),y.2)
 |.cmp o a b=>vt λρ=>((cw a).1 ρ).bind λx=>((cw b).1 x.2).bind λy=>(az y.2 x.1).bind λdx=>(az y.2 y.1).bind λdy=>(oz o dx dy).bind λk=>some (.val (.fz (.bool k)),y.2)
 |.cmp2 o o' a b c=>vt λρ=>((cw a).1 ρ).bind λx=>((cw b).1 x.2).bind λy=>(az y.2 x.1).bind λdx=>(az y.2 y.1).bind λdy=>(oz o dx dy).bind λk=>if k=true then ((cw c).1 y.2).bind λz=>(az z.2 y.1).bind λv=>(az z.2 z.1).bind λF=>(oz o' v F).bind λr=>some (.val (.fz (.bool r)),z.2) else some (.val (.fz (.bool false)),y.2)
 |.isn neg a=>vt λρ=>((cw a).1 ρ).bind λx=>(az x.2 x.1).bind λd=>some (.val (.fz (.bool (if neg then !isNn d else isNn d))),x.2)
 |.and a b=>(λρ=>((cw a).1 ρ).bind λx=>(az x.2 x.1).bind λd=>(Jx d).bind λk=>if k=true then (cw b).1 x.2 else some (.val (.fz (.bool false)),x.2),λρ=>((cw a).2 ρ).bind λx=>if x.1=true then (cw b).2 x.2 else some (false,x.2))
 |.or a b=>(λρ=>((cw a).1 ρ).bind λx=>(az x.2 x.1).bind λd=>(Jx d).bind λk=>if k=true then some (.val (.fz (.bool true)),x.2) else (cw b).1 x.2,λρ=>((cw a).2 ρ).bind λx=>if x.1=true then some (true,x.2) else (cw b).2 x.2)
 |.not a=>(λρ=>((cw a).1 ρ).bind λx=>(az x.2 x.1).bind λd=>(Jx d).bind λk=>some (.val (.fz (.bool (!k))),x.2),λρ=>((cw a).2 ρ).bind λx=>some (!x.1,x.2))
 |.neg a=>vt λρ=>((cw a).1 ρ).bind λx=>(az x.2 x.1).bind λd=>(fB d).bind λi=>some (.val (.fz (.int (-i))),x.2)
 |.ife c a b=>vt λρ=>((cw c).2 ρ).bind λx=>if x.1=true then (cw a).1 x.2 else (cw b).1 x.2
 |.tup es=>vt λρ=>(evs es ρ).bind λx=>(mapR own1 x.2 x.1).bind λz=>(gd (x.1.length<=1000000)).bind λ_=>some (.val (mkTup z.1),z.2)
 |.lst es=>vt λρ=>(evs es ρ).bind λx=>(mapR own1 x.2 x.1).bind λz=>(gd (x.1.length<=1000000)).bind λ_=>some (.val (.lst z.1),z.2)
 |.ix a b=>vt λρ=>((cw a).1 ρ).bind λx=>((cw b).1 x.2).bind λy=>(az y.2 y.1).bind λd=>(fB d).bind λi=>(bF y.2 x.1 i).bind λz=>some (.val z.1,z.2)
 |.call f es=>vt λρ=>(evs es ρ).bind λx=>(ba (C.io f) x.2 x.1).bind λz=>(C.call f z.1).bind λw=>some (.val w.1,dY (C.io f) x.1 w.2 z.2)
 |.callS f es=>vt λρ=>(evs es ρ).bind λx=>(eW x.2 x.1).bind λds=>(C.call f (ds.map OD.fz)).bind λw=>(tO w.1).bind λd=>(gd (Hm d=true)).bind λ_=>some (.val (.fz d),x.2)
 |.blt f es=>vt λρ=>(evs es ρ).bind λx=>(eW x.2 x.1).bind λds=>(zL f ds).bind λd=>some (.val (.fz d),x.2)
 |.bnw f e=>vt λρ=>((cw e).1 ρ).bind λx=>match f with
  |.list=>((dG x.2 x.1).bind seqOf).bind λds=>some (.val (.lst (ds.map OD.fz)),x.2)
  |.tuple=>((dG x.2 x.1).bind listOf).bind λds=>some (.val (.fz (.tuple ds)),x.2)
  |.sorted=>(az x.2 x.1).bind λd=>(tP d).bind λds=>(gz ds).bind λns=>(gd (ns.length<64)).bind λ_=>some (.val (.lst ((sortI ns).map λi=>.fz (.int i))),x.2)
 |.isi k a=>vt λρ=>((cw a).1 ρ).bind λx=>(az x.2 x.1).bind λd=>some (.val (.fz (.bool (BM k d))),x.2)
 |.idx a b=>vt λρ=>((cw a).1 ρ).bind λx=>(KJ x.1).bind λds=>((cw b).1 x.2).bind λy=>(az y.2 y.1).bind λd=>(fB d).bind λn=>(gz ds).bind λns=>(ns.findIdx? λm=>decide (m=n)).bind λj=>some (.val (.fz (.int j)),y.2)
 |.dgt i e=>vt λρ=>(ρ[i]?.join).bind λD=>(BL D).bind λ_=>((cw e).1 ρ).bind λy=>(az y.2 y.1).bind λd=>(keyOf d).bind λk=>(y.2[i]?.join).bind λH=>(BL H).bind λq=>(dgV q.1 q.2 k).bind λw=>some (.val (.fz w),y.2)
 |.dnew=>vt λρ=>some (.val (.dic [] []),ρ)
 |.pg i ps=>vt λρ=>(aw ρ i ps).bind λp=>(tO p.2.2).bind λd=>some (.val (.fz d),ρ)
 |.pf i ps=>vt λρ=>(aw ρ i ps).bind λp=>(p.2.2.dat).bind λd=>some (.val (.fz d),ρ.set i (some (OD.put (.fz d) p.2.1 p.1)))
 |.pl i ps=>vt λρ=>(aw ρ i ps).bind λp=>(p.2.2.dat).bind λd=>(jf d).bind λn=>some (.val (.fz (.int n)),ρ)
 |.pt i ps=>(λ_=>none,λρ=>(aw ρ i ps).bind λp=>(p.2.2.dat).bind λd=>(lZ d).bind λk=>some (k,ρ))
 |.pin neg e i ps=>vt λρ=>((cw e).1 ρ).bind λx=>(az x.2 x.1).bind λdx=>(aw x.2 i ps).bind λp=>(p.2.2.dat).bind λd=>(oz (if neg then .nin else .inn) dx d).bind λk=>some (.val (.fz (.bool k)),x.2)
 |.din neg e i ps=>vt λρ=>((cw e).1 ρ).bind λx=>(az x.2 x.1).bind λdx=>(aw x.2 i ps).bind λp=>(keyOf dx).bind λk=>(BL p.2.2).bind λq=>some (.val (.fz (.bool (if neg then !(q.1.any λq=>decide (q=k)) else q.1.any λq=>decide (q=k)))),x.2)
 |.comp nt fr it tg ifs elt=>vt λρ=>(tQ it ρ).bind λx=>(gd (x.1.length<1000000)).bind λ_=>(cC x.2 fr).bind λz=>
   (cG (λd Y=>(bo tg (.fz d) Y).bind λρ1=>(KM ifs ρ1).bind λk=>if k.1=true then ((cw elt).1 k.2).bind λy=>(frz1 y.2 y.1).bind λq=>some ([q.1],q.2) else some ([],k.2)) x.1 [] (List.replicate nt none++z.1)).bind λw=>
    some (.val (.lst (w.1.map OD.fz)),dX z.2 fr (w.2.drop nt))
 |.meth c m f i es=>vt λρ=>(ρ[i]?.join).bind λD=>(Ho D).bind λq=>(gd (q.1=c/\m ∉ q.2.1)).bind λ_=>(evs es ρ).bind λx=>(ba (C.io f) x.2 (.rf i::x.1)).bind λz=>(C.call f z.1).bind λw=>some (.val w.1,dY (C.io f) (.rf i::x.1) w.2 z.2)
 |.make c f es=>vt λρ=>(evs es ρ).bind λx=>(ba (C.io f).tail x.2 x.1).bind λz=>(C.mak f (.obj c [] []::z.1)).bind λw=>(LR w).bind λy=>some (.val y.1,dY (C.io f).tail x.1 y.2 z.2)
noncomputable def evs:Es->DEnv->Option (List OR×DEnv)
 |.nil,ρ=>some ([],ρ)
 |.cons e es,ρ=>((cw e).1 ρ).bind λx=>(evs es x.2).bind λy=>some (x.1::y.1,y.2)
noncomputable def KM:Eo->DEnv->Option (Bool×DEnv)
 |.none,ρ=>some (true,ρ)
 |.some e,ρ=>(cw e).2 ρ
noncomputable def tQ:It'->DEnv->Option (List PyData×DEnv)
 |.seq e,ρ=>((cw e).1 ρ).bind λx=>(frz1 x.2 x.1).bind λz=>(tP z.1).bind λds=>some (ds,z.2)
 |.rg1 e,ρ=>((cw e).1 ρ).bind λx=>(az x.2 x.1).bind λd=>(fB d).bind λj=>(gd (-(2^62)<=j/\j<2^62)).bind λ_=>some (cX 0 j.toNat,x.2)
 |.rg3 a b,ρ=>((cw a).1 ρ).bind λx=>((cw b).1 x.2).bind λy=>(az y.2 x.1).bind λd=>(fB d).bind λi=>(az y.2 y.1).bind λd'=>(fB d').bind λj=>(gd (0<=i/\i<=j/\j<=1000000)).bind λ_=>some (ox i (rn2 i j),y.2)
 |.enm e,ρ=>((cw e).1 ρ).bind λx=>(frz1 x.2 x.1).bind λz=>(KH z.1).bind λds=>some (enumD ds,z.2)
 |.zip a b,ρ=>((cw a).1 ρ).bind λx=>((cw b).1 x.2).bind λy=>(frz1 y.2 x.1).bind λz=>(frz1 z.2 y.1).bind λw=>(tP z.1).bind λds=>(tP w.1).bind λes=>some (zipD ds es,w.2)
end
abbrev ev(e:E)(ρ:DEnv):=(cw C e).1 ρ
abbrev aL(e:E)(ρ:DEnv):=(cw C e).2 ρ
end
end
section
theorem bnd{Y C:Type}{o:Option Y}{f:Y->Option C}{x:C}(h:o.bind f=some x):∃a,o=some a/\f a=some x:=aaF.mp h
theorem bn2{α β γ:Type}{o:Option α}{g1:α->Option β}{f:α->β->Option γ}{r:γ}(h:(o.bind λa=>(g1 a).bind (f a))=some r):∃a b,o=some a/\g1 a=some b/\f a b=some r:=by obtain⟨a,p0,h⟩:=bnd h;obtain⟨b,p1,h⟩:=bnd h;exact⟨a,b,p0,p1,h⟩
theorem bn3{α β γ δ:Type}{o:Option α}{g1:α->Option β}{g2:α->β->Option γ}{f:α->β->γ->Option δ}{r:δ}(h:(o.bind λa=>(g1 a).bind λb=>(g2 a b).bind (f a b))=some r):∃a b c,o=some a/\g1 a=some b/\g2 a b=some c/\f a b c=some r:=by obtain⟨a,p0,h⟩:=bnd h;obtain⟨b,p1,h⟩:=bnd h;obtain⟨c,p2,h⟩:=bnd h;exact⟨a,b,c,p0,p1,p2,h⟩
theorem bn4{α β γ δ ε:Type}{o:Option α}{g1:α->Option β}{g2:α->β->Option γ}{g3:α->β->γ->Option δ}{f:α->β->γ->δ->Option ε}{r:ε}(h:(o.bind λa=>(g1 a).bind λb=>(g2 a b).bind λc=>(g3 a b c).bind (f a b c))=some r):∃a b c d,o=some a/\g1 a=some b/\g2 a b=some c/\g3 a b c=some d/\f a b c d=some r:=by obtain⟨a,p0,h⟩:=bnd h;obtain⟨b,p1,h⟩:=bnd h;obtain⟨c,p2,h⟩:=bnd h;obtain⟨d,p3,h⟩:=bnd h;exact⟨a,b,c,d,p0,p1,p2,p3,h⟩
theorem bn5{α β γ δ ε ζ:Type}{o:Option α}{g1:α->Option β}{g2:α->β->Option γ}{g3:α->β->γ->Option δ}{g4:α->β->γ->δ->Option ε}{f:α->β->γ->δ->ε->Option ζ}{r:ζ}(h:(o.bind λa=>(g1 a).bind λb=>(g2 a b).bind λc=>(g3 a b c).bind λd=>(g4 a b c d).bind (f a b c d))=some r):∃a b c d e,o=some a/\g1 a=some b/\g2 a b=some c/\g3 a b c=some d/\g4 a b c d=some e/\f a b c d e=some r:=by obtain⟨a,p0,h⟩:=bnd h;obtain⟨b,p1,h⟩:=bnd h;obtain⟨c,p2,h⟩:=bnd h;obtain⟨d,p3,h⟩:=bnd h;obtain⟨e,p4,h⟩:=bnd h;exact⟨a,b,c,d,e,p0,p1,p2,p3,p4,h⟩
theorem cL{x:OD}{d:PyData}(h:tO x=some d):x=.fz d:=by cases x<;>cases h;rfl
theorem fh{x:OD}{xs:List OD}(h:nF x=some xs):x=.lst xs:=by cases x<;>cases h;rfl
theorem ir{x:OD}{z:List Key×List OD}(h:BL x=some z):x=.dic z.1 z.2:=by cases x<;>cases h;rfl
theorem j9{x:OD}{z:Str×List Str×List OD}(h:Ho x=some z):x=.obj z.1 z.2.1 z.2.2:=by cases x<;>cases h;rfl
theorem Eg{x:OD}{xs:List OD}(h:LQ x=some xs):x=.lst xs\/x=.tup xs:=by cases x<;>cases h<;>first|simp|simp
theorem aT{d:PyData}{i:Int}(h:fB d=some i):d=.int i:=by cases d<;>cases h;rfl
theorem oA{d:PyData}{i:Bool}(h:Jx d=some i):d=.bool i:=by cases d<;>cases h;rfl
theorem wz{d:PyData}{i:List PyData}(h:KH d=some i):d=.list i:=by cases d<;>cases h;rfl
theorem iu{d:PyData}{i:List PyData}(h:tP d=some i):d=.list i\/d=.tuple i:=by cases d<;>cases h<;>first|simp|simp
theorem Eh{r:OR}{xs:List OD}(h:KI r=some xs):r=.val (.lst xs):=by
 cases r with
 |val x=>rw[fh h]
 |rf _=>cases h
theorem gd_ok{c:Prop}[Decidable c]{u:Unit}(h:gd c=some u):c:=by
 by_cases U:c
 ·omega
 ·rw[gd,if_neg U]at h;cases h
theorem one1_ok{Y:Type}{l:List Y}{x:Y}(h:eX l=some x):l=[x]:=by
 cases l with
 |nil=>cases h
 |cons y l=>cases l<;>cases h;rfl
theorem thr3_ok{Y:Type}{l:List Y}{x:Y×Y×Y}(h:wy l=some x):l=[x.1,x.2.1,x.2.2]:=by
 cases l with
 |nil=>cases h
 |cons y l=>
  cases l with
  |nil=>cases h
  |cons z l=>
   cases l with
   |nil=>cases h
   |cons w l=>cases l<;>cases h;rfl
theorem two2_ok{Y:Type}{l:List Y}{x:Y×Y}(h:jh l=some x):l=[x.1,x.2]:=by
 cases l with
 |nil=>cases h
 |cons y l=>
  cases l with
  |nil=>cases h
  |cons z l=>cases l<;>cases h;rfl
theorem Ei{w z:OD×List OD}(h:LR w=some z):w.1=.fz .none/\w.2=z.1::z.2:=by
 obtain⟨a,b⟩:=w;obtain⟨d,e,h⟩:=bnd h;cases b with
 |nil=>grind
 |cons y o=>cases d<;>cases h;exact⟨cL e,rfl⟩
section
variable(C:Ct)
mutual
noncomputable def ka:E->DEnv->Option PyData
 |.nm i,ρ=>(ρ[i]?.join).bind tO
 |.int k,_=>some (.int k)
 |.str x,_=>some (.str x)
 |.gc g,_=>some (C.gv g)
 |.bop o a b,ρ=>match o with
  |.add=>(ka a ρ).bind λx=>(ka b ρ).bind λy=>yE .add x y
  |.sub=>(ka a ρ).bind λx=>(ka b ρ).bind λy=>yE .sub x y
  |_=>none
 |.ix a b,ρ=>(ka a ρ).bind λx=>(ka b ρ).bind λy=>(tP x).bind λds=>(fB y).bind λi=>atI ds i
 |.tup es,ρ=>(oB es ρ).bind λds=>(gd (ds.length<=1000000)).bind λ_=>some (.tuple ds)
 |.pg i ps,ρ=>(aw ρ i ps).bind λp=>tO p.2.2
 |_,_=>none
noncomputable def oB:Es->DEnv->Option (List PyData)
 |.nil,_=>some []
 |.cons e es,ρ=>(ka e ρ).bind λx=>(oB es ρ).bind λy=>some (x::y)
end
def bt(f:Str)(z:OD):List Str->List OD->List Str×List OD
 |n::ns,x::xs=>if n=f then (n::ns,z::xs) else ((n::(bt f z ns xs).1),(x::(bt f z ns xs).2))
 |_,_=>([f],[z])
noncomputable def putKey(k:Key)(d:PyData)(ks:List Key)(xs:List OD):List Key×List OD:=
 if (ks.any λq=>decide (q=k))=true then (ks,List.zipWith (λq x=>if q=k then .fz d else x) ks xs) else (ks++[k],xs++[.fz d])
noncomputable def l4:Bo->Int->PyData->Option Int
 |.add,a,.int k=>some (a+k)
 |.sub,a,.int k=>some (a-k)
 |_,_,_=>none
def wA(i:Nat)(ks:List Nat)(j:Nat)(u:V)(ρ p:DEnv):Prop:=∃x y,ρ[i]?.join=some x/\x.at ks=some (.hole u)/\ρ[j]?.join=some y/\j≠i/\p=(ρ.set j none).set i (some (OD.put y ks x))
def HolOk(g:V->Option (Fl×DEnv))(i:Nat)(ks:List Nat)(j:Nat)(z:Fl×DEnv):Prop:=∀u:V,∃m,g u=some (z.1,m)/\wA i ks j u m z.2
open Classical in
def holRun(g:V->Option (Fl×DEnv))(i:Nat)(ks:List Nat)(j:Nat):Option (Fl×DEnv):=if h:∃z,HolOk g i ks j z then some (Classical.choose h) else none
theorem l5{g:V->Option (Fl×DEnv)}{i j:Nat}{ks:List Nat}{z:Fl×DEnv}(h:holRun g i ks j=some z):HolOk g i ks j z:=by
 unfold holRun at h;by_cases L:∃z,HolOk g i ks j z
 ·grind
 ·grind
theorem tR{g:V->Option (Fl×DEnv)}{i j:Nat}{ks:List Nat}{z:Fl×DEnv}(h:HolOk g i ks j z):holRun g i ks j=some z:=by
 have L:∃z,HolOk g i ks j z:=⟨z,h⟩
 have X:holRun g i ks j=some (Classical.choose L):=dif_pos L;rw[X];have v:=Classical.choose_spec L;generalize Classical.choose L=z' at v;obtain⟨m,I,x,y,Q,H,A,Z,D⟩:=h .non;obtain⟨F,U,C,Y,P,q,f,l,a⟩:=v .non
 grind
abbrev AliOk(f:DEnv->Option (Fl×DEnv))(ρ:DEnv)(i:Nat)(p:OD×List Nat×OD)(xs:List OD)(j:Nat)(z:Fl×DEnv):Prop:=HolOk (λu=>f (ρ.set i (some (OD.put (.lst (xs++[.hole u])) p.2.1 p.1)))) i (p.2.1++[xs.length]) j z
def kb(f:DEnv->Option (Fl×DEnv))(ρ:DEnv)(i:Nat)(p:OD×List Nat×OD)(j:Nat):Option (Fl×DEnv):=(nF p.2.2).bind λY=>(gd (Y.length<1000000/\j≠i/\(ρ[j]?.join).isSome)).bind λ_=>holRun (λu=>f (ρ.set i (some (OD.put (.lst (Y++[.hole u])) p.2.1 p.1)))) i (p.2.1++[Y.length]) j
theorem l6{f:DEnv->Option (Fl×DEnv)}{ρ:DEnv}{i j:Nat}{p:OD×List Nat×OD}{z:Fl×DEnv}(h:kb f ρ i p j=some z):∃xs,p.2.2=.lst xs/\xs.length<1000000/\j≠i/\(∃y,ρ[j]?.join=some y)/\AliOk f ρ i p xs j z:=by obtain⟨xs,_,k,d,h⟩:=bn2 h;have d:=gd_ok d;exact⟨xs,fh k,d.1,d.2.1,aa1.mp d.2.2,l5 h⟩
theorem tS{f:DEnv->Option (Fl×DEnv)}{ρ:DEnv}{i j:Nat}{p:OD×List Nat×OD}{xs:List OD}{y:OD}{z:Fl×DEnv}(k:p.2.2=.lst xs)(d:xs.length<1000000)(W:j≠i)(t:ρ[j]?.join=some y)(h:AliOk f ρ i p xs j z):kb f ρ i p j=some z:=by unfold kb;rw[k,show nF (.lst xs)=some xs from rfl,abR];have:gd (xs.length<1000000/\j≠i/\(ρ[j]?.join).isSome)=some ():=if_pos ⟨d,W,by rw[t];rfl⟩;rw[this,abR];exact tR h
def dAct(k ve:E)(o:List Key×List OD)(ρ:DEnv):Option ((List Key×List OD)×DEnv):=(ev C k ρ).bind λx=>(ev C ve x.2).bind λy=>(az y.2 x.1).bind λv=>(keyOf v).bind λc=>(frz1 y.2 y.1).bind λz=>some (putKey c z.1 o.1 o.2,z.2)
def l7(f:Tg)(k ve:E)(o:List Key×List OD)(d:PyData)(ρ:DEnv):Option ((List Key×List OD)×DEnv):=(bo f (.fz d) ρ).bind λA=>dAct C k ve o A
mutual
noncomputable def bG:S'->DEnv->Option (Fl×DEnv)
 |.ex e,ρ=>(ev C e ρ).bind λx=>some (.nx,x.2)
 |.set i e,ρ=>(ev C e ρ).bind λx=>(own1 x.2 x.1).bind λz=>(gd (i<z.2.length)).bind λ_=>some (.nx,z.2.set i (some z.1))
 |.asg t e,ρ=>(ev C e ρ).bind λx=>(own1 x.2 x.1).bind λz=>(bo t z.1 z.2).bind λρ1=>some (.nx,ρ1)
 |.par is es,ρ=>(evs C es ρ).bind λx=>(mapR own1 x.2 x.1).bind λz=>(gd (z.1.length=is.length/\∀i∈is,i<z.2.length)).bind λ_=>some (.nx,dU is z.1 z.2)
 |.aug i o e,ρ=>(ρ[i]?.join).bind λD=>(tO D).bind λH=>(fB H).bind λa=>(ev C e ρ).bind λx=>(az x.2 x.1).bind λd=>(l4 o a d).bind λr=>some (.nx,x.2.set i (some (.fz (.int r))))
 |.agl i e,ρ=>(ρ[i]?.join).bind λD=>(nF D).bind λ_=>(ev C e ρ).bind λx=>(KI x.1).bind λys=>(x.2[i]?.join).bind λl=>(nF l).bind λxs=>(gd (xs.length+ys.length<=1000000)).bind λ_=>some (.nx,x.2.set i (some (.lst (xs++ys))))
 |.ret e,ρ=>(ev C e ρ).bind λx=>(mv1 x.2 x.1).bind λz=>some (.rt z.1,z.2)
 |.iff c a b,ρ=>(aL C c ρ).bind λx=>if x.1=true then aD a x.2 else aD b x.2
 |.whl c b,ρ=>cv (aL C c) (aD b) C.wf ρ
 |.fr t it b,ρ=>(tQ C it ρ).bind λx=>bS (λd Y=>(bo t (.fz d) Y).bind λρ1=>aD b ρ1) x.1 x.2
 |.cont,ρ=>some (.ct,ρ)
 |.app i e,ρ=>(ρ[i]?.join).bind λD=>(nF D).bind λ_=>(ev C e ρ).bind λx=>(own1 x.2 x.1).bind λz=>(z.2[i]?.join).bind λl=>(nF l).bind λxs=>(gd (xs.length<1000000)).bind λ_=>some (.nx,z.2.set i (some (.lst (xs++[z.1]))))
 |.apd i ps e,ρ=>(aw ρ i ps).bind λp=>(ka C e ρ).bind λd=>(nF p.2.2).bind λxs=>(gd (xs.length<1000000)).bind λ_=>some (.nx,ρ.set i (some (OD.put (.lst (xs++[.fz d])) p.2.1 p.1)))
 |.sti i k e,ρ=>(ev C e ρ).bind λx=>(own1 x.2 x.1).bind λz=>(z.2[i]?.join).bind λD=>(nF D).bind λ_=>(ev C k z.2).bind λq=>(az q.2 q.1).bind λd=>(fB d).bind λk=>(q.2[i]?.join).bind λl=>(nF l).bind λxs=>(ixN xs.length k).bind λj=>some (.nx,q.2.set i (some (.lst (xs.set j z.1))))
 |.sdk i k e,ρ=>(ev C e ρ).bind λx=>(frz1 x.2 x.1).bind λz=>(z.2[i]?.join).bind λD=>(BL D).bind λ_=>(ev C k z.2).bind λq=>(az q.2 q.1).bind λv=>(keyOf v).bind λW=>(q.2[i]?.join).bind λl=>(BL l).bind λu=>(gd (u.2.length<1000000)).bind λ_=>some (.nx,q.2.set i (some (.dic (putKey W z.1 u.1 u.2).1 (putKey W z.1 u.1 u.2).2)))
 |.std i ps j e,ρ=>(ev C e ρ).bind λx=>(frz1 x.2 x.1).bind λz=>(aw z.2 i ps).bind λp=>(z.2[j]?.join).bind λD=>(tO D).bind λv=>(keyOf v).bind λW=>(BL p.2.2).bind λu=>(gd (u.2.length<1000000)).bind λ_=>some (.nx,z.2.set i (some (OD.put (.dic (putKey W z.1 u.1 u.2).1 (putKey W z.1 u.1 u.2).2) p.2.1 p.1)))
 |.sdc i nt fr it tg ke ve,ρ=>(tQ C it ρ).bind λx=>(gd (x.1.length<1000000)).bind λ_=>(cC x.2 fr).bind λz=>(eZ (l7 C tg ke ve) x.1 ([],[]) (List.replicate nt none++z.1)).bind λw=>(gd (i<(dX z.2 fr (w.2.drop nt)).length)).bind λ_=>some (.nx,(dX z.2 fr (w.2.drop nt)).set i (some (.dic w.1.1 w.1.2)))
 |.stf i c f e,ρ=>(ev C e ρ).bind λx=>(own1 x.2 x.1).bind λz=>(z.2[i]?.join).bind λD=>(Ho D).bind λu=>(gd (u.1=c/\u.2.2.length<1000)).bind λ_=>some (.nx,z.2.set i (some (.obj u.1 (bt f z.1 u.2.1 u.2.2).1 (bt f z.1 u.2.1 u.2.2).2)))
 |.agf i c f o e,ρ=>(aw ρ i [.fld c f]).bind λp=>(tO p.2.2).bind λH=>(fB H).bind λa=>(ev C e ρ).bind λx=>(az x.2 x.1).bind λd=>(l4 o a d).bind λr=>(x.2[i]?.join).bind λD=>(Ho D).bind λu=>(gd (u.1=c/\u.2.2.length<1000)).bind λ_=>some (.nx,x.2.set i (some (.obj u.1 (bt f (.fz (.int r)) u.2.1 u.2.2).1 (bt f (.fz (.int r)) u.2.1 u.2.2).2)))
noncomputable def aD:Ss->DEnv->Option (Fl×DEnv)
 |.nil,ρ=>some (.nx,ρ)
 |.cons s ss,ρ=>(bG s ρ).bind λx=>match x.1 with
  |.nx=>aD ss x.2
  |fl=>some (fl,x.2)
 |.ali i ps j ss,ρ=>(aw ρ i ps).bind λp=>kb (aD ss) ρ i p j
end
def wB(fn:Fn)(xs:List OD):Option (OD×List OD):=(aD C fn.body (f9 fn.n xs)).bind λx=>match x.1 with
 |.nx=>(bR 0 fn.io xs x.2).bind λj=>some (.fz .none,j)
 |.rt o=>(bR 0 fn.io xs x.2).bind λj=>some (o,j)
 |_=>none
end
structure Pg where
 F:Nat->Option Fn
 gv:Nat->PyData
 wf:Nat
def Pg.io(p:Pg)(f:Nat):List Bool:=match p.F f with|some A=>A.io|none=>[]
def Pg.both(p:Pg):Nat->(Nat->List OD->Option (OD×List OD))×(Nat->List OD->Option (OD×List OD))
 |0=>(λ_ _=>none,λ_ _=>none)
 |n+1=>(λf xs=>match p.F f with
  |some fn=>if xs.length=fn.io.length then wB ⟨p.io,(Pg.both p n).1,(Pg.both p n).2,p.gv,p.wf⟩ fn xs else none
  |none=>none,(Pg.both p n).1)
def Pg.call(p:Pg)(n f:Nat)(xs:List OD):Option (OD×List OD):=(p.both n).1 f xs
def Pg.mak(p:Pg)(n f:Nat)(xs:List OD):Option (OD×List OD):=(p.both n).2 f xs
abbrev Pg.ct(p:Pg)(n:Nat):Ct:=⟨p.io,p.call n,p.mak n,p.gv,p.wf⟩
theorem Pg.ej(p:Pg)(n f:Nat)(xs:List OD):p.call (n+1) f xs=match p.F f with
  |some fn=>if xs.length=fn.io.length then wB (p.ct n) fn xs else none
  |none=>none:=rfl
theorem Pg.ub(p:Pg)(n f:Nat)(xs:List OD):p.mak (n+1) f xs=p.call n f xs:=rfl
end
section
def aF(C:Ct)(m:E):DE:=λI Q=>∃x,ev C m I=some x/\Q x.1 x.2
def gA(C:Ct)(m:E):DT:=λI Q=>∃x,aL C m I=some x/\Q x.1 x.2
def dM(C:Ct)(m:Es):DA:=λI Q=>∃x,evs C m I=some x/\Q x.1 x.2
def gg(C:Ct)(m:It'):DI:=λI Q=>∃x,tQ C m I=some x/\Q x.1 x.2
theorem PDe.imp:PDe X e d->(∀ρ Q,d' ρ Q->d ρ Q)->PDe X e d'
 |⟨te,h,s⟩,f=>⟨te,h,λb F σ H ρ τ θ w Q T R W q=>s b F σ H ρ τ θ w Q T R (f _ _ W) q⟩
theorem PDt.imp:PDt X e d->(∀ρ Q,d' ρ Q->d ρ Q)->PDt X e d'
 |⟨te,h,s⟩,f=>⟨te,h,λb F σ H ρ τ θ w Q T R W q=>s b F σ H ρ τ θ w Q T R (f _ _ W) q⟩
theorem PDw.imp:PDw X e d->(∀ρ Q,d' ρ Q->d ρ Q)->PDw X e d'
 |⟨te,h,s⟩,f=>⟨te,h,λb F σ H ρ τ θ w Q T R W q=>s b F σ H ρ τ θ w Q T R (f _ _ W) q⟩
theorem PDa.imp:PDa X es d->(∀ρ Q,d' ρ Q->d ρ Q)->PDa X es d'
 |⟨te,h,s⟩,f=>⟨te,h,λb F σ H ρ τ θ w Q T R W q=>s b F σ H ρ τ θ w Q T R (f _ _ W) q⟩
theorem PDi.imp:PDi X tg e d->(∀ρ Q,d' ρ Q->d ρ Q)->PDi X tg e d'
 |⟨te,h,s⟩,f=>⟨te,h,λb F σ H ρ τ θ w Q T R W q=>s b F σ H ρ τ θ w Q T R (f _ _ W) q⟩
theorem SndR2.or{K:Waa}(h:SndR2 K r d)(h':SndR2 K r' d'):SndR2 K (λx y H Q=>r x y H Q\/r' x y H Q) (λx y Q=>d x y Q\/d' x y Q):=λH v u n l w Q o U z q=>z.imp (λz=>h H v u n l w Q o U z q) λz=>h' H v u n l w Q o U z q
theorem SndR2.imp{K:Waa}(h:SndR2 K r d)(f:∀x y Q,d' x y Q->d x y Q):SndR2 K r d':=λH v u n l w Q o U z q=>h H v u n l w Q o U (f _ _ _ z) q
def opOf:Bo->Operator
 |.add=>.Add|.sub=>.Sub|.mul=>.Mult|.fdiv=>.FloorDiv|.mod=>.Mod|.pow=>.Pow
def coOf:Co->CmpOp
 |.lt=>.Lt|.le=>.LtE|.gt=>.Gt|.ge=>.GtE|.eq=>.Eq|.ne=>.NotEq|.inn=>.In|.nin=>.NotIn
def MJ(o:Bo):DR2:=λx y Q=>∃d,yE o x y=some d/\Q d
def MK(o:Co):DR2:=λx y Q=>∃k,oz o x y=some k/\Q (.bool k)
theorem eK(h:yE o x y=some d):∃i j k,x=.int i/\y=.int j/\LS o i j=some k/\d=.int k:=by obtain⟨i,j,k,J,B,s,h⟩:=bn3 h;cases h;exact⟨i,j,k,aT J,aT B,s,rfl⟩
theorem Hq(o:Bo):∃p,OpR X (binaryOp (opOf o)) p/\SndR2 X.K p (MJ o):=by
 cases o with
 |add=>refine⟨_,C1,(vM λi j=>.int _).imp λx y Q t=>?_⟩;obtain⟨d,h,q⟩:=t;obtain⟨i,j,k,rfl,rfl,F,rfl⟩:=eK h;cases F;exact⟨i,j,rfl,rfl,q⟩
 |sub=>refine⟨_,C3,(vM λi j=>.int _).imp λx y Q t=>?_⟩;obtain⟨d,h,q⟩:=t;obtain⟨i,j,k,rfl,rfl,F,rfl⟩:=eK h;cases F;exact⟨i,j,rfl,rfl,q⟩
 |mul=>refine⟨_,C4,(zk λi j=>.int _).imp λx y Q t=>?_⟩;obtain⟨d,h,q⟩:=t;obtain⟨i,j,k,rfl,rfl,F,rfl⟩:=eK h;obtain⟨_,U,F⟩:=bnd F;cases F;have U:=gd_ok U;exact⟨i,j,rfl,rfl,U,q⟩
 |fdiv=>refine⟨_,yT,(zk λi j=>.int _).imp λx y Q t=>?_⟩;obtain⟨d,h,q⟩:=t;obtain⟨i,j,k,rfl,rfl,F,rfl⟩:=eK h;obtain⟨_,U,F⟩:=bnd F;cases F;have U:=gd_ok U;exact⟨i,j,rfl,rfl,U,q⟩
 |mod=>refine⟨_,C5,(zk λi j=>.int _).imp λx y Q t=>?_⟩;obtain⟨d,h,q⟩:=t;obtain⟨i,j,k,rfl,rfl,F,rfl⟩:=eK h;obtain⟨_,U,F⟩:=bnd F;cases F;have U:=gd_ok U;exact⟨i,j,rfl,rfl,U,q⟩
 |pow=>refine⟨_,C6,(zk λi j=>.int _).imp λx y Q t=>?_⟩;obtain⟨d,h,q⟩:=t;obtain⟨i,j,k,rfl,rfl,F,rfl⟩:=eK h;obtain⟨_,U,F⟩:=bnd F;cases F;have U:=gd_ok U;exact⟨i,j,rfl,rfl,U,q⟩
theorem qp(h:Jy x y=some k):vN x y=some k\/(SeqAt.shaped x=true/\SeqAt.shaped y=true/\k=PyData.eqv x y):=by
 unfold Jy at h
 grind
theorem qq(h:inA x y=some k):∃ds,(y=.list ds\/y=.tuple ds)/\Gb x=true/\memD x ds=some k:=by obtain⟨ds,_,J,B,h⟩:=bn2 h;exact⟨ds,iu J,gd_ok B,h⟩
theorem iw(U:X.A.units+64<cLine)(o:Co):∃p,OpR X (compareOp (coOf o)) p/\SndR2 X.K p (MK o):=by
 have S:∀{x y:PyData}{k:Bool}{g:Int->Int->Bool},((fB x).bind λi=>(fB y).bind λj=>some (g i j))=some k->∃i j,x=.int i/\y=.int j/\k=g i j:=by intro x y k g h;obtain⟨i,j,J,B,h⟩:=bn2 h;cases h;exact⟨i,j,aT J,aT B,rfl⟩
 cases o with
 |lt=>refine⟨_,GF,(zl ).imp λx y Q t=>?_⟩;obtain⟨k,h,q⟩:=t;obtain⟨i,j,rfl,rfl,rfl⟩:=S h;exact⟨i,j,rfl,rfl,q⟩
 |le=>refine⟨_,GG,(zl ).imp λx y Q t=>?_⟩;obtain⟨k,h,q⟩:=t;obtain⟨i,j,rfl,rfl,rfl⟩:=S h;exact⟨i,j,rfl,rfl,q⟩
 |gt=>refine⟨_,GH,(zl ).imp λx y Q t=>?_⟩;obtain⟨k,h,q⟩:=t;obtain⟨i,j,rfl,rfl,rfl⟩:=S h;exact⟨i,j,rfl,rfl,q⟩
 |ge=>refine⟨_,GI,(zl ).imp λx y Q t=>?_⟩;obtain⟨k,h,q⟩:=t;obtain⟨i,j,rfl,rfl,rfl⟩:=S h;exact⟨i,j,rfl,rfl,q⟩
 |eq=>
  refine⟨_,op_eq.or (Du U),(sr_eq.or DQ).imp λx y Q t=>?_⟩;obtain⟨k,h,q⟩:=t;rcases qp h with h|⟨O,Z,rfl⟩
  ·exact .inl ⟨k,h,q⟩
  ·exact .inr ⟨O,Z,q⟩
 |ne=>
  refine⟨_,op_ne.or (Dv U),(sr_ne.or DR).imp λx y Q t=>?_⟩;obtain⟨k,h,q⟩:=t;obtain⟨r,e,h⟩:=bnd h;cases h;rcases qp e with h|⟨O,Z,rfl⟩
  ·exact .inl ⟨r,h,q⟩
  ·exact .inr ⟨O,Z,q⟩
 |inn=>refine⟨_,sC,(BH ).imp λx y Q t=>?_⟩;obtain⟨k,h,q⟩:=t;obtain⟨D,O,Z,M⟩:=qq h;exact⟨D,k,O,Z,M,q⟩
 |nin=>refine⟨_,jT,(BH ).imp λx y Q t=>?_⟩;obtain⟨k,h,q⟩:=t;obtain⟨r,e,h⟩:=bnd h;cases h;obtain⟨D,O,Z,M⟩:=qq e;exact⟨D,r,O,Z,M,q⟩
theorem Hr(O:PDe X a (aF C ma))(Z:PDe X b (aF C mb)):PDe X (.BinOp a (opOf o) b pos) (aF C (.bop o ma mb)):=by obtain⟨p,T,D⟩:=Hq o;refine(G1 T D O Z).imp λI Q t=>?_;obtain⟨x,h,q⟩:=t;obtain⟨P,W,n,l,d,J,B,s,e,L,h⟩:=bn5 h;cases h;exact⟨P,J,W,B,n,l,s,e,d,L,q⟩
theorem Hs(U:X.A.units+64<cLine)(Y:behindInMarks (coOf o) b=false)(O:PDe X a (aF C ma))(Z:PDe X b (aF C mb)):PDe X (.Compare a [coOf o] [b] pos) (aF C (.cmp o ma mb)):=by obtain⟨p,T,D⟩:=iw U o;refine(DP T D Y O Z).imp λI Q t=>?_;obtain⟨x,h,q⟩:=t;obtain⟨P,W,n,l,d,J,B,s,e,L,h⟩:=bn5 h;cases h;exact⟨P,J,W,B,n,l,s,e,d,L,q⟩
theorem Ht(U:X.A.units+64<cLine)(Y:behindInMarks (coOf o) b=false)(O:PDe X a (aF C ma))(Z:PDe X b (aF C mb)):PDt X (.Compare a [coOf o] [b] pos) (gA C (.cmp o ma mb)):=by obtain⟨p,T,D⟩:=iw U o;refine(zp T D Y O Z).imp λI Q t=>?_;obtain⟨x,h,q⟩:=t;obtain⟨y,h,v⟩:=bnd h;obtain⟨P,W,n,l,d,J,B,s,e,L,h⟩:=bn5 h;cases h;cases v;exact⟨P,J,W,B,n,l,s,e,d,L,d,rfl,q⟩
theorem Ej(U:X.A.units+64<cLine)(Y:lastMarks [coOf o,coOf o'] [b,c]=false)(O:PDe X a (aF C ma))(Z:PDe X b (aF C mb))(M:PDe X c (aF C mc)):PDe X (.Compare a [coOf o,coOf o'] [b,c] pos) (aF C (.cmp2 o o' ma mb mc)):=by
 obtain⟨p,T,D⟩:=iw U o;obtain⟨i,t,H⟩:=iw U o';refine(vO T D t H Y O Z M).imp λI Q m=>?_;obtain⟨x,h,q⟩:=m;obtain⟨P,W,n,l,k,J,B,s,e,L,h⟩:=bn5 h;refine⟨P,J,W,B,n,l,s,e,k,L,k,rfl,?_⟩;cases k with
 |false=>grind
 |true=>rw[if_pos rfl]at h ⊢;obtain⟨S,g,F,r,N,f,d,u,h⟩:=bn4 h;cases h;exact⟨S,N,g,F,f,d,r,u,q⟩
end
section
def isStar:Expr->Bool
 |.Starred _ _=>true
 |_=>false
theorem aC(h:isStar e=false):starEach (e::es) env=(false,eval e env)::starEach es env:=by cases e<;>first|rfl|cases h
theorem bH:∀{es:List Expr},es.any isStar=false->(backTo pos (starEach es env)).any (·.1)=false
 |[],_=>rfl
 |e::es,h=>by rw[aaO,abv]at h;rw[aC h.1];show (false||(backTo pos (starEach es env)).any (·.1))=false;rw[bH h.2];rfl
noncomputable def plainT:Expr->Bool
 |.UnaryOp .Not _ _=>false
 |.BoolOp _ _ _=>false
 |.IfExp _ _ _ _=>false
 |.Compare _ _ _ _=>false
 |_=>true
theorem plainT_ok(h:plainT e=true):∀W,isTrue e env W=(do let v <-W;standAt e.pos;holding [v] (truthy v)):=by
 intro W;cases e with
 |UnaryOp U x p=>cases U<;>first|rfl|cases h
 |_=>first|rfl|cases h
section
variable{X:Cx}
theorem BN:ev C (.nm i) ρ=(match ρ[i]?.join with|some (.fz d)=>some (.val (.fz d),ρ)|some _=>some (.rf i,ρ)|none=>none):=rfl
theorem KN(u:X.N[i]?=some x) (o:Vis X.env.scope x) (W:(x==("__debug__":Str))=false) (L:(x==("__classdict__":Str))=false):PDe X (.Name x pos) (aF C (.nm i)):=by
 refine(DN u o W L).imp λI Q t=>?_;obtain⟨y,h,q⟩:=t;unfold dVar;rw[BN]at h
 grind
theorem KO(u:X.N[i]?=some x) (o:Vis X.env.scope x) (W:(x==("__debug__":Str))=false) (L:(x==("__classdict__":Str))=false):PDe X (.Name x pos) (aF C (.mv i)):=by refine⟨_,bD u o W L,λb F U H I m S n Q T R ⟨y,h,q⟩ k=>?_⟩;obtain⟨z,J,h⟩:=bnd h;cases h;obtain⟨v,a,w⟩:=R.slot (join_some J);exact⟨v,a,k v H (.val z) (I.set i none) ⟨R.wf.off,R.al,R.wff,w⟩ q⟩
theorem BO{j pos}:PDe X (.Constant (.int k) j pos) (aF C (.int k)):=pd_int.imp λI Q ⟨y,h,q⟩=>by cases h;exact q
theorem Hu{j pos}:PDe X (.Constant (.str k) j pos) (aF C (.str k)):=pd_str.imp λI Q ⟨y,h,q⟩=>by cases h;exact q
theorem KP{j pos}:PDe X (.Constant (.bool k) j pos) (aF C (.bl k)):=pd_bl.imp λI Q ⟨y,h,q⟩=>by cases h;exact q
theorem Hv{j pos}:PDe X (.Constant .none j pos) (aF C .non):=pd_non.imp λI Q ⟨y,h,q⟩=>by cases h;exact q
theorem KQ(N:Gl X x) (Y:X.mg x=some u) (r:RelV v u) (s:∀S H,Fz X.K S H v (C.gv g)) (W:(x==("__debug__":Str))=false):PDe X (.Name x pos) (aF C (.gc g)):=
 (vL N Y r s W).imp λI Q ⟨y,h,q⟩=>by cases h;exact q
theorem Hw{j o}(O:PDe X a (aF C ma)):PDe X (.Compare a [if neg then .IsNot else .Is] [.Constant .none j o] pos) (aF C (.isn neg ma)):=by
 have p:∀I Q,aF C (.isn neg ma) I Q->th neg (aF C ma) I Q:=λI Q ⟨y,h,q⟩=>by obtain⟨P,d,J,B,h⟩:=bn2 h;cases h;exact⟨P,J,d,B,q⟩
 cases neg with
 |false=>exact(DV O).imp p
 |true=>exact(zo O).imp p
theorem Hx{j o}(O:PDe X a (aF C ma)):PDt X (.Compare a [if neg then .IsNot else .Is] [.Constant .none j o] pos) (gA C (.isn neg ma)):=by
 have p:∀I Q,gA C (.isn neg ma) I Q->gy (th neg (aF C ma)) I Q:=λI Q ⟨y,h,q⟩=>by obtain⟨z,h,v⟩:=bnd h;obtain⟨P,d,J,B,h⟩:=bn2 h;cases h;cases v;exact⟨P,J,d,B,_,rfl,q⟩
 cases neg with
 |false=>exact(zq O).imp p
 |true=>exact(vQ O).imp p
theorem v_and(O:PDe X a (aF C ma))(Z:PDe X (.BoolOp .And (b::es) pos) (aF C mb)):PDe X (.BoolOp .And (a::b::es) pos) (aF C (.and ma mb)):=by
 refine(DX O Z).imp λI Q t=>?_;obtain⟨y,h,q⟩:=t;obtain⟨P,d,k,J,B,s,h⟩:=bn3 h;rw[oA s]at B;refine⟨P,J,k,B,?_⟩;cases k with
 |false=>grind
 |true=>rw[if_pos rfl]at h ⊢;exact⟨y,h,q⟩
theorem v_or(O:PDe X a (aF C ma))(Z:PDe X (.BoolOp .Or (b::es) pos) (aF C mb)):PDe X (.BoolOp .Or (a::b::es) pos) (aF C (.or ma mb)):=by
 refine(G5 O Z).imp λI Q t=>?_;obtain⟨y,h,q⟩:=t;obtain⟨P,d,k,J,B,s,h⟩:=bn3 h;rw[oA s]at B;refine⟨P,J,k,B,?_⟩;cases k with
 |false=>rw[if_neg aar]at h ⊢;exact⟨y,h,q⟩
 |true=>grind
theorem v_not(O:PDe X a (aF C ma)):PDe X (.UnaryOp .Not a pos) (aF C (.not ma)):=by refine(DY O).imp λI Q t=>?_;obtain⟨y,h,q⟩:=t;obtain⟨P,d,k,J,B,s,h⟩:=bn3 h;cases h;exact⟨P,J,k,by rw[B,oA s],q⟩
theorem Hy(O:PDe X a (aF C ma)):PDe X (.UnaryOp .USub a pos) (aF C (.neg ma)):=by refine(DW O).imp λI Q t=>?_;obtain⟨y,h,q⟩:=t;obtain⟨P,d,k,J,B,s,h⟩:=bn3 h;cases h;exact⟨P,J,d,B,k,aT s,q⟩
theorem Hz(O:PDt X a (gA C ma))(Z:PDw X (.BoolOp .And (b::es) pos) (gA C mb)):PDw X (.BoolOp .And (a::b::es) pos) (gA C (.and ma mb)):=by
 refine(zu O Z).imp λI Q t=>?_;obtain⟨y,h,q⟩:=t;obtain⟨P,J,h⟩:=bnd h;refine⟨P,J,?_⟩;split at h
 ·rename_i k;rw[if_pos k];exact⟨y,h,q⟩
 ·grind
theorem KR(O:PDt X a (gA C ma))(Z:PDw X (.BoolOp .Or (b::es) pos) (gA C mb)):PDw X (.BoolOp .Or (a::b::es) pos) (gA C (.or ma mb)):=by
 refine(DZ O Z).imp λI Q t=>?_;obtain⟨y,h,q⟩:=t;obtain⟨P,J,h⟩:=bnd h;refine⟨P,J,?_⟩;split at h
 ·grind
 ·rename_i k;rw[if_neg k];exact⟨y,h,q⟩
theorem HA(O:PDt X a (gA C ma)):PDt X (.UnaryOp .Not a pos) (gA C (.not ma)):=by refine(zw O).imp λI Q t=>?_;obtain⟨y,h,q⟩:=t;obtain⟨P,J,h⟩:=bnd h;cases h;exact⟨P,J,q⟩
theorem HB(T:PDt X c (gA C mc))(O:PDe X a (aF C ma))(Z:PDe X b (aF C mb)):PDe X (.IfExp c a b pos) (aF C (.ife mc ma mb)):=by
 refine(G8 T O Z).imp λI Q t=>?_;obtain⟨y,h,q⟩:=t;obtain⟨P,J,h⟩:=bnd h;refine⟨P,J,?_⟩;split at h
 ·rename_i k;rw[if_pos k];exact⟨y,h,q⟩
 ·rename_i k;rw[if_neg k];exact⟨y,h,q⟩
theorem qr(h:Dt X.K H v d)(e:lZ d=some k):C8 X.K v H k:=by
 cases h with
 |non=>cases e;rfl
 |bl b=>cases e;rfl
 |int i=>cases e;rfl
 |str x=>trivial
 |lst s t=>cases e;exact .inl ⟨_,s,by rw[DtAll.emp t]⟩
 |tup s t=>cases e;exact .inr (.inl ⟨_,s,by rw[DtAll.emp t]⟩)
theorem HC(Y:aL C m=(vt (ev C m)).2)(n:plainT e=true):PDe X e (aF C m)->PDt X e (gA C m)
 |⟨te,O,s1⟩=>⟨_,lA O (plainT_ok n),λb F σ H ρ τ θ w Q T R ⟨y,h,q⟩ k=>by
  have h':((ev C m ρ).bind λx=>(az x.2 x.1).bind λd=>(lZ d).bind λk=>some (k,x.2))=some y:=by rw[<-h,Y];rfl
  obtain⟨z,d,t,J,B,s,h'⟩:=bn3 h';cases h';refine s1 b F σ H ρ τ θ (λr p=>r=z.1/\p=z.2) _ T R ⟨z,J,rfl,rfl⟩ λv l r p g f=>?_;obtain⟨O,Z⟩:=f;subst O Z;have W:=g.dt B;rw[T]at W;exact⟨t,qr W s,k _ _ _ g.drop q⟩⟩
theorem fj:PDa X [] (dM C .nil):=pda_nil.imp λI Q ⟨y,h,q⟩=>by cases h;exact q
theorem bN(g:isStar e=false)(O:PDe X e (aF C ma))(Z:PDa X es (dM C mes)):PDa X (e::es) (dM C (.cons ma mes)):=by refine(vU (aC g) O Z).imp λI Q t=>?_;obtain⟨y,h,q⟩:=t;obtain⟨P,W,J,B,h⟩:=bn2 h;cases h;exact⟨P,J,W,B,q⟩
theorem HD{x}(O:PDa X es (dM C mes)):PDe X (.Tuple es x pos) (aF C (.tup mes)):=by refine(D0 Ha O).imp λI Q t=>?_;obtain⟨y,h,q⟩:=t;obtain⟨P,z,_,J,B,k,h⟩:=bn3 h;cases h;exact⟨P,J,z.1,z.2,B,gd_ok k,q⟩
theorem HE(O:PDa X es (dM C mes)):PDe X (.List es pos) (aF C (.lst mes)):=by refine(D1 Ha O).imp λI Q t=>?_;obtain⟨y,h,q⟩:=t;obtain⟨P,z,_,J,B,k,h⟩:=bn3 h;cases h;exact⟨P,J,z.1,z.2,B,gd_ok k,q⟩
def bO:Expr->Bool
 |.Slice _ _ _ _=>true
 |_=>false
theorem kc(h:bO b=false):PlainIx b:=λo i=>by cases b<;>first|rfl|cases h
theorem KS(g:bO b=false)(O:PDe X a (aF C ma))(Z:PDe X b (aF C mb)):PDe X (.Subscript a b pos) (aF C (.ix ma mb)):=by refine(Hb (kc g) O Z).imp λI Q t=>?_;obtain⟨y,h,q⟩:=t;obtain⟨P,W,d,k,z,J,B,s,L,e,h⟩:=bn5 h;cases h;exact⟨P,J,W,B,k,z.1,z.2,by rw[s,aT L],e,q⟩
theorem HF(O:PDe X a (aF C ma))(Z:PDe X b (aF C mb)):PDe X (.BinOp a .Add b pos) (aF C (.cat ma mb)):=by refine(D4 O Z).imp λI Q t=>?_;obtain⟨y,h,q⟩:=t;obtain⟨P,W,n,l,_,J,B,s,e,k,h⟩:=bn5 h;cases h;exact⟨P,J,W,B,n,l,s,e,gd_ok k,q⟩
theorem Ek(G:FnD X.prog X.w X.K X.mg X.base k fa fd ps (λxs Q=>∃w,C.call f xs=some w/\Q w.1 w.2)) (D:Room k X.A) (N:Gl X x) (Y:X.mg x=some (.ref fa)) (F:PySem.W.keepIn X.K (.ref fa)=true) (S:Binds X.K fd ps []) (Z:(x==("__debug__":Str))=false)
  (n:isStar e=false) (H:es.any isStar=false) (O:PDa X (e::es) (dM C mes)):PDe X (.Call (.Name x p) (e::es) [] pos) (aF C (.call f mes)):=by
 refine(zK (ios:=C.io f) G D N Y F S Z (aC n) (bH H) O).imp λI Q t=>?_;obtain⟨y,h,q⟩:=t;obtain⟨P,z,w,J,B,s,h⟩:=bn3 h;cases h;exact⟨P,J,z.1,z.2,B,w,s,q⟩
theorem zM(G:FnD X.prog X.w X.K X.mg X.base k fa fd ps (λxs Q=>∃w,C.call f xs=some w/\Q w.1 w.2)) (T:Room k X.A) (N:Gl X x) (Y:X.mg x=some (.ref fa)) (F:PySem.W.keepIn X.K (.ref fa)=true) (S:Binds X.K fd ps []) (Z:(x==("__debug__":Str))=false)
  (n:isStar e=false) (H:es.any isStar=false) (O:PDa X (e::es) (dM C mes)):PDe X (.Call (.Name x p) (e::es) [] pos) (aF C (.callS f mes)):=by
 refine(wu G T N Y F S Z (aC n) (bH H) O).imp λI Q t=>?_;obtain⟨y,h,q⟩:=t;obtain⟨P,D,w,d,_,J,B,s,i,L,h⟩:=bn5 h;cases h;exact⟨P,J,D,B,w,s,d,cL i,gd_ok L,q⟩
theorem El:PDe X (.Dict [] [] pos) (aF C .dnew):=⟨_,vB,λb F L H I z S w Q T R ⟨y,h,q⟩ k=>λp m=>by cases h;exact k _ _ _ _ (R.push (R.wd.tr m)) q⟩
end
end
section
section
variable{K:Waa}
theorem tT:bootBuiltins "sorted"=some (.builtin "sorted"):=by rfl
theorem gh:∀{ns:List Int}{us:List Value},Vals (ns.map V.int) us->IntsAre us ns
 |[],_,r=>by rw[aay]at r;cases r;exact .nil
 |n::ns,_,r=>by
  rw[aal]at r;cases r with
  |cons r1 p=>obtain⟨t,rfl⟩:=r1;exact .cons n t (gh p)
end
noncomputable def LU(T:String):PyData->Bool
 |.bool _=>T == "bool" || T == "int"
 |.int _=>T == "int"
 |.str _=>T == "str"
 |.list _=>T == "list"
 |.tuple _=>T == "tuple"
 |_=>false
inductive KindT:String->Prop
 |int:KindT "int" |bool:KindT "bool" |str:KindT "str" |list:KindT "list" |tuple:KindT "tuple"
theorem Dt.kind{K:Waa}(h:Dt K H v d)(k:KindT T):∃n,Ty K H v n/\PySem.W.kitOne K (.type n) (.type T)=some (LU T d):=by
 cases h with
 |non=>exact⟨_,.non,by cases k<;>first|rfl|exact kit_nb K|exact kit_ns K|exact kit_nl K|exact kit_nt K⟩
 |bl b=>exact⟨_,.bl b,by cases k<;>first|rfl|rfl|rfl|exact kit_bl K|exact kit_bt K⟩
 |int i=>exact⟨_,.int i,by cases k<;>first|rfl|rfl|exact kit_is K|exact kit_il K|exact kit_it K⟩
 |str x=>exact⟨_,.str x,by cases k<;>first|rfl|rfl|exact kit_sb K|exact kit_sl K|exact kit_st K⟩
 |lst s t=>exact⟨_,.lst s,by cases k<;>first|rfl|rfl|exact kit_lb K|exact kit_ls K|exact kit_lt K⟩
 |tup s t=>exact⟨_,.tup s,by cases k<;>first|exact kit_same K _|exact kit_ti K|exact kit_tb K|exact kit_ts K|exact kit_tl K⟩
theorem qt{Y C:Type}{us:List Y}{ds:List C}(u:us.length=ds.length):∀(k:Nat),∀z∈(List.replicate k us).flatten.zip (List.replicate k ds).flatten,z∈us.zip ds
 |0,z,h=>by simp at h
 |k+1,z,h=>by rw[aa3,aa3,abp,abp,List.zip_append u]at h;exact(aaj.mp h).elim id (qt u k z)
def ML(f:Bl):DRn:=λD Q=>∃d,zL f D=some d/\Q d
theorem SndCB.imp{K:Waa}(h:SndCB K r2 r)(f:∀ds Q,r' ds Q->r ds Q):SndCB K r2 r':=λH c ds w Q o z q=>h H c ds w Q o (f _ _ z) q
theorem DtAll.ints'{K:Waa}{ns:List Int}(h:DtAll K H vs (ns.map PyData.int)):vs=ns.map V.int:=by
 induction ns generalizing vs with
 |nil=>cases h;rfl
 |cons n ns Y=>cases h with|cons r t=>cases r;rw[aal,Y t]
section
variable{K:Waa}
theorem jA:∀{ds:List PyData}{ns:List Int},gz ds=some ns->ds=ns.map PyData.int
 |[],_,h=>by cases h;rfl
 |d::ds,ns,h=>by obtain⟨i,r,J,B,h⟩:=bn2 h;cases h;rw[aT J,jA B,aal]
end
def Em:Bl->Str
 |.len=>"len" |.abs=>"abs" |.max=>"max" |.min=>"min" |.int=>"int" |.all=>"all"
theorem HG{f:Bl}(U:X.calm=true)(N:Gl X (Em f))(Y:X.mg (Em f)=none)(a:isStar e=false)(H:es.any isStar=false)(O:PDa X (e::es) (dM C mes)):PDe X (.Call (.Name (Em f) p) (e::es) [] pos) (aF C (.blt f mes)):=by
 have m:PDe X (.Call (.Name (Em f) p) (e::es) [] pos) (Jv (ML f) (dM C mes))->PDe X (.Call (.Name (Em f) p) (e::es) [] pos) (aF C (.blt f mes)):=λh=>h.imp λI Q ⟨y,h,q⟩=>by obtain⟨P,D,d,J,B,s,h⟩:=bn3 h;cases h;exact⟨P,J,D,B,d,s,q⟩
 refine m ?_;cases f with
 |len=>refine dS lC (sc_len.imp λD Q t=>?_) N Y vw (by decide) (by rfl) (aC a) (bH H) O;obtain⟨d,h,q⟩:=t;obtain⟨z,n,r,J,h⟩:=bn2 h;cases h;exact⟨z,n,one1_ok r,J,q⟩
 |abs=>refine dS uY (sc_abs.imp λD Q t=>?_) N Y Dw (by decide) (by rfl) (aC a) (bH H) O;obtain⟨d,h,q⟩:=t;obtain⟨z,i,r,J,h⟩:=bn2 h;cases h;exact⟨i,by rw[one1_ok r,aT J],q⟩
 |max=>refine dS (so U) (sc_max.imp λD Q t=>?_) N Y Dx (by decide) (by rfl) (aC a) (bH H) O;obtain⟨d,h,q⟩:=t;obtain⟨z,i,j,r,J,B,h⟩:=bn3 h;cases h;exact⟨i,j,by rw[two2_ok r,aT J,aT B],q⟩
 |min=>refine dS (sq U) (sc_min.imp λD Q t=>?_) N Y Dy (by decide) (by rfl) (aC a) (bH H) O;obtain⟨d,h,q⟩:=t;obtain⟨z,i,j,r,J,B,h⟩:=bn3 h;cases h;exact⟨i,j,by rw[two2_ok r,aT J,aT B],q⟩
 |int=>refine vX sr (sc_int.imp λD Q t=>?_) N Y vy (by decide) (by rfl) (aC a) (bH H) O;obtain⟨d,h,q⟩:=t;obtain⟨z,n,r,J,h⟩:=bn2 h;cases h;exact⟨z,n,one1_ok r,J,q⟩
 |all=>refine dS (vp U) (sc_all.imp λD Q t=>?_) N Y Dz (by decide) (by rfl) (aC a) (bH H) O;obtain⟨d,h,q⟩:=t;obtain⟨w,z,n,r,F,J,h⟩:=bn3 h;cases h;exact⟨z,n,by rw[one1_ok r,wz F],J,q⟩
theorem En(N:Gl X "list") (Y:X.mg "list"=none) (n:isStar e=false) (O:PDe X e (aF C ma)):PDe X (.Call (.Name "list" p) [e] [] pos) (aF C (.bnw .list ma)):=by refine(tu N Y jW (by decide) (by rfl) (aC n) rfl (bN n O fj)).imp λI Q t=>?_;obtain⟨y,h,q⟩:=t;obtain⟨P,D,J,B,h⟩:=bn2 h;cases h;exact⟨([P.1],P.2),by simp only[evs,J];rfl,P.1,D,rfl,B,q⟩
theorem zN(N:Gl X "tuple") (Y:X.mg "tuple"=none) (n:isStar e=false) (O:PDe X e (aF C ma)):PDe X (.Call (.Name "tuple" p) [e] [] pos) (aF C (.bnw .tuple ma)):=by refine(vY N Y hU (by decide) (by rfl) (aC n) rfl (bN n O fj)).imp λI Q t=>?_;obtain⟨y,h,q⟩:=t;obtain⟨P,D,J,B,h⟩:=bn2 h;cases h;exact⟨([P.1],P.2),by simp only[evs,J];rfl,P.1,D,rfl,B,q⟩
theorem insI_perm(i:Int):∀l,(insI i l).Perm (i::l)
 |[]=>.refl _
 |j::r=>by
  unfold insI;split
  ·rfl
  ·exact((insI_perm i r).cons j).trans (List.Perm.swap _ _ _)
theorem l8(i:Int):∀{l:List Int},l.Pairwise (·<=·)->(insI i l).Pairwise (·<=·)
 |[],_=>by simp[insI]
 |j::r,h=>by
  obtain⟨O,Z⟩:=aaT.mp h;unfold insI;split
  ·rename_i q;exact aaT.mpr ⟨λk F=>(aaa.mp F).elim (λe=>e▸q) λF=>abL q (O k F),h⟩
  ·rename_i q;refine aaT.mpr ⟨λk F=>?_,l8 i Z⟩;rcases aaa.mp ((insI_perm i r).mem_iff.mp F) with rfl|F
   ·omega
   ·exact O k F
theorem sortI_perm:∀l,(sortI l).Perm l
 |[]=>.refl _
 |i::r=>(insI_perm i _).trans ((sortI_perm r).cons i)
theorem jB:∀l,(sortI l).Pairwise (·<=·)
 |[]=>.nil
 |i::r=>l8 i (jB r)
theorem l9:∀{l r:List Int},l.Perm r->l.Pairwise (·<=·)->r.Pairwise (·<=·)->l=r
 |[],r,p,_,_=>by simp_all
 |a::l,[],p,_,_=>by simp_all
 |a::l,b::r,p,h,h'=>by
  obtain⟨O,Z⟩:=aaT.mp h;obtain⟨M,P⟩:=aaT.mp h';have e:a=b:=by
   have t:=p.mem_iff.mp aag;have Q:=p.mem_iff.mpr aag
   grind
  subst e;rw[l9 (List.Perm.cons_inv p) Z P]
theorem iy(f:match k with|.int=>T="int" |.bool=>T="bool" |.str=>T="str" |.list=>T="list" |.tuple=>T="tuple" |.seq=>False) (t:PE X b (tC (.ty T))) (N:Gl X "isinstance") (Y:X.mg "isinstance"=none) (i:isStar a=false) (S:isStar b=false)
  (O:PDe X a (aF C ma)):PDe X (.Call (.Name "isinstance" p) [a,b] [] pos) (aF C (.isi k ma)):=by
 obtain⟨o,h,s⟩:=O;refine⟨_,dO (vq T) N Y eY (aZ h (aZ t ck (aC S)) (aC i)) (by decide) (by decide) (aC i) (bH (by simp[S])),λb F L H I z e w Q U R ⟨y,h,q⟩ c=>?_⟩;obtain⟨P,d,J,B,h⟩:=bn2 h;cases h;refine s b F L H I z e (λr u=>r=P.1/\u=P.2) _ U R ⟨P,J,rfl,rfl⟩ λv l r u g hZ=>?_;obtain⟨O,Z⟩:=hZ;subst O Z;have j:=g.dt B;rw[U]at j;have m:∀(A:KindT T),LU T d=BM k d->∃x n b,[v,V.ty T]=[x,V.ty T]/\Ty X.K l x n/\PySem.W.kitOne X.K (.type n) (.type T)=some b/\Q (.bl b) l:=λA D=>by obtain⟨n,ty,M⟩:=j.kind A;rw[D]at M;exact⟨v,n,_,rfl,ty,M,c _ l _ _ (g.drop.sc (.bl _)) q⟩
 cases k with
 |int=>subst f;exact m .int (by cases d<;>rfl)
 |bool=>subst f;exact m .bool (by cases d<;>rfl)
 |str=>subst f;exact m .str (by cases d<;>rfl)
 |list=>subst f;exact m .list (by cases d<;>rfl)
 |tuple=>subst f;exact m .tuple (by cases d<;>rfl)
 |seq=>exact f.elim
theorem Dt.kind2{K:Waa}(h:Dt K H v d):∃n,Ty K H v n/\PySem.W.kitAny K (.type n) [.type "list",.type "tuple"]=some (BM .seq d):=by
 cases h with
 |non=>exact⟨_,.non,eI K (kit_nl K) (kit_nt K)⟩
 |bl b=>exact⟨_,.bl b,eI K (kit_bl K) (kit_bt K)⟩
 |int i=>exact⟨_,.int i,eI K (kit_il K) (kit_it K)⟩
 |str x=>exact⟨_,.str x,eI K (kit_sl K) (kit_st K)⟩
 |lst s t=>exact⟨_,.lst s,g9 K (.inl (kit_same K _))⟩
 |tup s t=>exact⟨_,.tup s,g9 K (.inr ⟨kit_tl K,kit_same K _⟩)⟩
theorem Ep{x} (t:PE X b (tC (.ty "list"))) (f:PE X c (tC (.ty "tuple"))) (j:Gl X "isinstance") (Y:X.mg "isinstance"=none) (i:isStar a=false) (hb:isStar b=false) (U:isStar c=false)
  (O:PDe X a (aF C ma)):PDe X (.Call (.Name "isinstance" p) [a,.Tuple [b,c] x p1] [] pos) (aF C (.isi .seq ma)):=by
 obtain⟨o,h,s⟩:=O;refine⟨_,dO (sM "list" "tuple") j Y eY (aZ h (aZ (nP (aZ t (aZ f ck (aC U)) (aC hb))) ck (aC rfl)) (aC i)) (by decide) (by rfl) (aC i) (bH rfl),λb F L H I z S w Q T R ⟨y,h,q⟩ u=>?_⟩;obtain⟨P,d,J,B,h⟩:=bn2 h;cases h;refine s b F L H I z S (λr M=>r=P.1/\M=P.2) _ T R ⟨P,J,rfl,rfl⟩ λv l r M g hZ=>?_;obtain⟨O,Z⟩:=hZ;subst O Z;refine⟨by decide,λe m=>?_⟩;have N:Rel b F L (upd l e (.tup [.ty "list",.ty "tuple"])) P.2 (v::z) (P.1::S):=⟨g.wf,g.al,g.wff,g.wd.new m⟩
 have W:=N.dt B;rw[T]at W;obtain⟨n,A,D⟩:=W.kind2;have k:=u (.bl (BM .seq d)) _ (.val (.fz (.bool (BM .seq d)))) _ (N.drop.sc (.bl _)) q;exact⟨v,_,_,e,rfl,aB,A,D,k⟩
end
section
def iz(t:Tg):DG:=λx I Q=>∃p,bo t x I=some p/\Q p
structure Sto (X:Cx)(W:Nat->Prop)(m:Nat)(i:Nat)(x:Str):Prop where
 hN:X.N[i]?=some x
 loc:Loc X.env.scope x
 fn:X.fn x=true\/X.env.scope.names.lookup x=some .local
 lt:i<m
 nw:¬ W i
theorem PDg.imp:PDg X W m e d->(∀x ρ Q,d' x ρ Q->d x ρ Q)->PDg X W m e d'
 |⟨te,h,s⟩,f=>⟨te,h,λb F σ H ρ τ θ v x w Q T n R N q=>s b F σ H ρ τ θ v x w Q T n R (f _ _ _ N) q⟩
theorem PDgs.imp:PDgs X W m es d->(∀x ρ Q,d' x ρ Q->d x ρ Q)->PDgs X W m es d'
 |⟨te,h,s⟩,f=>⟨te,h,λb F σ H ρ τ θ v x w Q T n u R N q=>s b F σ H ρ τ θ v x w Q T n u R (f _ _ _ N) q⟩
theorem PDg.or:PDg X W m e d->PDg X W m e d'->PDg X W m e (λx ρ Q=>d x ρ Q\/d' x ρ Q)
 |⟨te,h,s⟩,⟨te',h',s'⟩=>⟨λv σ H Q=>te v σ H Q\/te' v σ H Q,λM s σ H v u Q I r z=>z.elim (h M s σ H v u Q I r) (h' M s σ H v u Q I r),λb F σ H ρ τ θ v x w Q T n R N q=>N.imp (λN=>s b F σ H ρ τ θ v x w Q T n R N q) λN=>s' b F σ H ρ τ θ v x w Q T n R N q⟩
theorem KU(u:X.N.Nodup)(s:Sto X W m i x):PDg X W m (.Name x pos) (iz (.nm i)):=by refine(lO s.nw u s.hN s.loc s.lt s.fn).imp λy I Q t=>?_;obtain⟨p,h,q⟩:=t;obtain⟨_,r,h⟩:=bnd h;cases h;exact⟨gd_ok r,q⟩
inductive Stos (X:Cx)(W:Nat->Prop)(m:Nat):List Nat->List Expr->Prop
 |nil:Stos X W m [] []
 |cons {i is x pos es}:Sto X W m i x->Stos X W m is es->Stos X W m (i::is) (.Name x pos::es)
theorem oC(u:X.N.Nodup):∀{P:List Nat}{es:List Expr},Stos X W m P es->PDgs X W m es (λxs ρ Q=>xs.length=P.length/\(∀i∈P,i<ρ.length)/\Q (dU P xs ρ))
 |[],_,.nil=>pdgs_nil.imp λxs ρ Q ⟨O,Z,q⟩=>by
   cases xs with
   |nil=>exact⟨rfl,q⟩
   |cons _ _=>simp at O
 |i::is,_,.cons s t=>(tx rfl (lO s.nw u s.hN s.loc s.lt s.fn) (oC u t)).imp λxs ρ Q ⟨O,Z,q⟩=>by
   cases xs with
   |nil=>simp at O
   |cons z zs=>exact⟨z,zs,rfl,Z i aag,by simpa using O,λj L=>by rw[abN];exact Z j (aaf _ L),q⟩
theorem fJ(h:Stos X W m ts es):(assignEach es X.env).length=ts.length/\(assignEach es X.env).findIdx? (·.1)=none:=by
 induction h with
 |nil=>exact⟨rfl,rfl⟩
 |@cons i is x pos es s t ih=>have e:assignEach (.Name x pos::es) X.env=(false,assign (.Name x pos) X.env)::assignEach es X.env:=rfl;rw[e];refine⟨by simp[ih.1],?_⟩;rw[aaQ];simp[ih.2]
theorem wC(h:Ef y=some xs):unpT y=some xs\/unpL y=some xs:=by
 unfold Ef at h
 grind
theorem KW(U:X.calm=true)(u:X.N.Nodup)(h:Stos X W m ts es):PDg X W m (.Tuple es k pos) (iz (.tp ts)):=by
 refine((zC U (fJ h).1 (fJ h).2 (oC u h)).or (zD U (fJ h).1 (fJ h).2 (oC u h))).imp λy I Q t=>?_;obtain⟨p,h,q⟩:=t;obtain⟨Y,_,J,r,h⟩:=bn2 h;cases h;have r:=gd_ok r;rcases wC J with J|J
 ·exact .inl ⟨Y,J,r.1,r.1,r.2,q⟩
 ·exact .inr ⟨Y,J,r.1,r.1,r.2,q⟩
theorem PI.or(h:PI X tg e t)(h':PI X tg e t'):PI X tg e (λσ H R=>t σ H R\/t' σ H R):=λM s σ H R I z=>z.elim (h M s σ H R I) (h' M s σ H R I)
theorem PDi.or:PDi X tg e d->PDi X tg e d'->PDi X tg e (λρ Q=>d ρ Q\/d' ρ Q)
 |⟨te,h,s⟩,⟨te',h',s'⟩=>⟨_,PI.or h h',λb F σ H ρ τ θ w Q T R W q=>W.imp (λW=>s b F σ H ρ τ θ w Q T R W q) λW=>s' b F σ H ρ τ θ w Q T R W q⟩
theorem Er(J:ev C ma ρ=some xa):evs C (.cons ma .nil) ρ=some ([xa.1],xa.2):=by show ((ev C ma ρ).bind _)=_;rw[J];rfl
theorem KY(J:ev C ma ρ=some xa)(B:ev C mb xa.2=some xb):evs C (.cons ma (.cons mb .nil)) ρ=some ([xa.1,xb.1],xb.2):=by show ((ev C ma ρ).bind _)=_;rw[J];show ((evs C (.cons mb .nil) xa.2).bind _)=_;rw[Er B];rfl
theorem jC(e:az ρ r=some d):eW ρ [r]=some [d]:=by show ((az ρ r).bind _)=_;rw[e];rfl
theorem wD(e:az ρ r=some d)(L:az ρ r'=some d'):eW ρ [r,r']=some [d,d']:=by show ((az ρ r).bind _)=_;rw[e];rw[jC L];rfl
theorem BP(e:frz1 ρ r=some z)(h:z.1=d):frzL ρ [r]=some ([d],z.2):=by show ((frz1 ρ r).bind _)=_;rw[e,<-h];rfl
theorem HH(e:frz1 ρ r=some z)(L:frz1 z.2 r'=some w):frzL ρ [r,r']=some ([z.1,w.1],w.2):=by show ((frz1 ρ r).bind _)=_;rw[e];show ((frzL z.2 [r']).map _)=_;rw[BP L rfl];rfl
theorem BQ(h:tP d=some ds):∃l:Bool,Hk d=some (l,ds):=(iu h).elim (λh=>⟨true,h▸rfl⟩) λh=>⟨false,h▸rfl⟩
theorem HI(O:PDe X e (aF C ma)):PDi X tg e (gg C (.seq ma)):=by
 refine((v9 O).or (zF O)).imp λI Q t=>?_;obtain⟨y,h,q⟩:=t;obtain⟨P,z,D,J,B,s,h⟩:=bn3 h;obtain⟨d,p⟩:=z;cases h;rcases iu s with s|s<;>simp only at s<;>subst s
 ·exact .inl ⟨P,J,_,_,B,q⟩
 ·exact .inr ⟨P,J,_,_,B,q⟩
theorem HJ(N:Gl X "range") (Y:X.mg "range"=none) (g:isStar a=false) (O:PDe X a (aF C ma)):PDi X tg (.Call (.Name "range" p) [a] [] pos) (gg C (.rg1 ma)):=by refine(ou N Y (aC g) (bN g O fj)).imp λI Q t=>?_;obtain⟨y,h,q⟩:=t;obtain⟨P,d,j,_,J,B,s,W,h⟩:=bn4 h;cases h;have W:=gd_ok W;rw[aT s]at B;exact⟨([P.1],P.2),Er J,j,jC B,W.1,W.2,q⟩
theorem HK{f:Expr}{c:Expr} (N:Gl X "range") (Y:X.mg "range"=none) (g:isStar a=false) (k:isStar b=false) (H:isStar c=false) (O:PDe X a (aF C ma)) (Z:PDe X b (aF C mb)) (M:PDe X c (aF C (.int 2))):PDi X f (.Call (.Name "range" p) [a,b,c] [] pos) (gg C (.rg3 ma mb)):=by
 refine(oy N Y (by rw[aC g,aC k,aC H];rfl) (by rw[aC k,aC H];rfl) (bN g O (bN k Z (bN H M fj)))).imp λI Q t=>?_;obtain⟨y,h,q⟩:=t;obtain⟨P,W,d,i,l,J,r,B,F,s,h⟩:=bn5 h;obtain⟨j,_,D,u,h⟩:=bn2 h;cases h;rw[aT F]at B;rw[aT D]at s;refine⟨([P.1,W.1,.val (.fz (.int 2))],W.2),?_,i,j,?_,gd_ok u,q⟩
 ·exact aaF.mpr ⟨P,J,aaF.mpr ⟨([W.1,.val (.fz (.int 2))],W.2),aaF.mpr ⟨W,r,rfl⟩,rfl⟩⟩
 ·show ((az W.2 P.1).bind _)=_;rw[B];rw[wD s rfl];rfl
theorem HL{x} (N:Gl X "enumerate") (Y:X.mg "enumerate"=none) (g:isStar a=false) (O:PDe X a (aF C ma)):PDi X (.Tuple es x tpos) (.Call (.Name "enumerate" p) [a] [] pos) (gg C (.enm ma)):=by refine(wa N Y (aC g) (bN g O fj)).imp λI Q t=>?_;obtain⟨y,h,q⟩:=t;obtain⟨P,z,D,J,B,s,h⟩:=bn3 h;cases h;exact⟨([P.1],P.2),Er J,D,z.2,BP B (wz s),q⟩
theorem HM{x} (N:Gl X "zip") (Y:X.mg "zip"=none) (g:isStar a=false) (d:isStar b=false) (O:PDe X a (aF C ma)) (Z:PDe X b (aF C mb)):PDi X (.Tuple es x tpos) (.Call (.Name "zip" p) [a,b] [] pos) (gg C (.zip ma mb)):=by refine(zG N Y (by rw[aC g,aC d];rfl) (aC d) (bN g O (bN d Z fj))).imp λI Q t=>?_;obtain⟨y,h,q⟩:=t;obtain⟨P,W,z,w,D,J,r,B,s,e,h⟩:=bn5 h;obtain⟨es,L,h⟩:=bnd h;cases h;obtain⟨l,n⟩:=BQ e;obtain⟨S,A⟩:=BQ L;exact⟨_,KY J r,_,_,l,S,D,es,w.2,HH B s,n,A,q⟩
def cP(C:Ct)(f:Tg)(S:Eo)(elt:E)(d:PyData)(ρ:DEnv):Option (List PyData×DEnv):=
 (bo f (.fz d) ρ).bind λA=>(KM C S A).bind λk=>if k.1=true then (ev C elt k.2).bind λy=>(frz1 y.2 y.1).bind λq=>some ([q.1],q.2) else some ([],k.2)
def Et(C:Ct)(S:Eo)(elt:E):DC:=λI Q=>∃w,((KM C S I).bind λk=>if k.1=true then (ev C elt k.2).bind λy=>(frz1 y.2 y.1).bind λq=>some (([q.1]:List PyData),q.2) else some ([],k.2))=some w/\Q w.1 w.2
theorem PDc.imp:PDc Y ifs elt d->(∀ρ Q,d' ρ Q->d ρ Q)->PDc Y ifs elt d'
 |⟨te,h,s⟩,f=>⟨te,h,λb F σ H ρ vs rs D out w Q T u m R W q=>s b F σ H ρ vs rs D out w Q T u m R (f _ _ W) q⟩
theorem c_plain(O:PDe Y elt (aF C me)):PDc Y [] elt (Et C .none me):=(tJ O).imp λI Q ⟨w,h,q⟩=>by have h:((ev C me I).bind λy=>(frz1 y.2 y.1).bind λq=>some (([q.1]:List PyData),q.2))=some w:=h;obtain⟨y,z,J,B,h⟩:=bn2 h;cases h;exact⟨y,J,z.1,z.2,B,q⟩
theorem Eu(T:PDt Y c (gA C mc))(O:PDe Y elt (aF C me)):PDc Y [c] elt (Et C (.some mc) me):=(wo T O).imp λI Q ⟨w,h,q⟩=>by
 obtain⟨k,X,h⟩:=bnd h;refine⟨k,X,?_⟩;by_cases F:k.1=true
 ·rw[if_pos F]at h ⊢;obtain⟨y,z,J,B,h⟩:=bn2 h;cases h;exact⟨y,J,z.1,z.2,B,q⟩
 ·grind
theorem wG(step:PyData->DEnv->Option (List PyData×DEnv))(ds:List PyData)(w:List PyData×DEnv)(k:Nat)(W:ds[k]?=some d)(h:cG step (ds.drop k) out ρ=some w):∃z,step d ρ=some z/\cG step (ds.drop (k+1)) (out++z.1) z.2=some w:=by
 have F:=(aai.mp W).1;have e:ds.drop k=d::ds.drop (k+1):=by rw[abw F,(aai.mp W).2]
 rw[e]at h;exact bnd h
theorem qv(C:Ct){M:Tg}:∀ρ Q,aF C (.comp nt fr mi M mif me) ρ Q->qo (gg C mi) nt fr (iz M) (Et C mif me) ρ Q:=λρ Q ⟨y,h,q⟩=>by
 obtain⟨x,_,z,w,J,f,B,s,h⟩:=bn4 h;cases h;refine⟨x,J,gd_ok f,z.1,z.2,B,λk O ρ=>cG (cP C M mif me) (x.1.drop k) O ρ=some w,s,λk d O ρ W S=>?_,λO ρ S=>?_⟩
 ·obtain⟨u,U,H⟩:=wG _ _ _ k W S;obtain⟨A,e,U⟩:=bnd U;exact⟨A,e,u,U,H⟩
 ·have S:cG (cP C M mif me) (x.1.drop x.1.length) O ρ=some w:=S;rw[abS]at S;cases S;exact q
theorem Ew{M:Tg}(U:X.calm=true)(S:CompScope N nt fr X.N scope X.env.scope)(g:∀x,foldedSetIterable iter X.env x=pure x)(r:PDi X tg iter (gg C mi))(m:∀c:CC,PDg (cB X N scope c) Ff nt tg (iz M))(i:∀c:CC,PDc (cB X N scope c) ifs elt (Et C mif me)):
  PDe X (.ListComp elt [⟨tg,iter,ifs,0⟩] scope pos) (aF C (.comp nt fr mi M mif me)):=(zJ U S g r m i).imp (qv C)
theorem Wd.lst0{b:Bs}{H:Hp}{L:List (V×OD)}{v:V}{ds:List PyData}(w:Wd b H L)(m:(v,OD.lst (ds.map OD.fz))∈L):∃a vs,v=.ref a/\vs.length=ds.length/\H a=some (.lst vs)/\Wd b H (vs.zip (ds.map OD.fz)++L):=by
 obtain⟨A,T,Q,N⟩:=w.out;obtain⟨B,h⟩:=OwL.mem T m;cases h with
 |@lst a vs xs A' e1 t=>have Z:=Ows.fzs t;exact⟨a,vs,rfl,Z.length,e1,w.exp T Q N Z⟩
theorem zO{x:OD}{xs:List OD}(h:nF x=some xs):x=.lst xs:=by cases x<;>cases h;rfl
theorem HN(O:PDe X a (aF C ma))(Z:PDe X c (aF C mb)):PDe X (.BinOp a .Mult c pos) (aF C (.rep ma mb)):=by
 obtain⟨_,O,f⟩:=O;obtain⟨_,Z,s2⟩:=Z;refine⟨_,uR Dn O Z,λb F L H I τ S Qd Q T R ⟨y,h,q⟩ k=>?_⟩;obtain⟨P,W,x0,Y,U,J,B,g,ea,i,h⟩:=bn5 h;obtain⟨n,D,_,A,s,d,h⟩:=bn3 h;cases h;have d:=gd_ok d;rw[aT A]at i;rw[zO ea,fzL_map s]at g;refine f b F L H I τ S (λr p=>r=P.1/\p=P.2) _ T R ⟨P,J,rfl,rfl⟩ λv H1 r p M t=>?_;obtain⟨O,Z⟩:=t;subst O Z;refine s2 b F L H1 _ _ _ (λr p=>r=W.1/\p=W.2) _ T M ⟨W,B,rfl,rfl⟩ λu j r p N t=>?_;obtain⟨O,Z⟩:=t;subst O Z;have x:=N.dt i;cases x;obtain⟨l,us,rfl,o,m,w⟩:=N.wd.lst0 (N.mem1 g);refine⟨l,n,us,rfl,rfl,m,by lia,by lia,aan (by rw[o];exact d.2.2) (by decide),λpp hp=>k _ _ _ _ (Rel.et (Rel.et (N.eg w (by rw[len_rep,len_rep,o]) (λz d=>?_) hp))) q⟩;refine aah _ (qt (by simpa using o) n.toNat z ?_);have e:(List.replicate n.toNat D).flatten.map OD.fz=(List.replicate n.toNat (D.map OD.fz)).flatten:=by rw[List.map_flatten,List.map_replicate]
 rw[e]at d;exact d
end
section
def Ex(D:DEnds)(ρ:DEnv):Fl->Prop
 |.nx=>D.nx ρ|.bk=>D.bk ρ|.ct=>D.ct ρ|.rt x=>D.rt x ρ
def fK(C:Ct)(s:S'):DS:=λD I=>∃x,bG C s I=some x/\Ex D x.2 x.1
def ji(C:Ct)(s:Ss):DS:=λD I=>∃x,aD C s I=some x/\Ex D x.2 x.1
section
variable{zs:List OD}
theorem Rel.open(R:Rel b F σ H ρ (us++τ) (zs.map OR.val++θ))(u:us.length=zs.length)(e:ρ[i]?.join=some x):∃v,σ[i]?=some (some v)/\Wd b H (us.zip zs++((v,x)::(stk τ θ++(flat σ (ρ.set i none)++ff F)))):=by obtain⟨v,a,w⟩:=R.slot (join_some e);refine⟨v,a,w.perm ?_⟩;rw[aH (by simpa using u),cq u,aab];exact aav.symm
theorem Rel.close(R:Rel b F σ H ρ τ θ)(ev:σ[i]?=some (some v))(w:Wd b H' ((v,x)::(stk τ θ++(flat σ (ρ.set i none)++ff F)))):Rel b F σ H' (ρ.set i (some x)) τ θ:=Rel.back R.wf R.al R.wff ev w
theorem Rel.rest(R:Rel b F σ H ρ (us++τ) (zs.map OR.val++θ))(u:us.length=zs.length):Rel b F σ H ρ τ θ:=R.drops (by grind)
end
section
variable{st:Stmt}
theorem PDs.imp:PDs X W st d->(∀D ρ,d' D ρ->d D ρ)->PDs X W st d'
 |⟨te,h,s⟩,f=>⟨te,h,λb F σ H ρ τ θ w D T n R N E=>s b F σ H ρ τ θ w D T n R (f _ _ N) E⟩
theorem PDss.imp:PDss X W sts d->(∀D ρ,d' D ρ->d D ρ)->PDss X W sts d'
 |⟨te,h,s⟩,f=>⟨te,h,λb F σ H ρ τ θ w D T n R N E=>s b F σ H ρ τ θ w D T n R (f _ _ N) E⟩
theorem Ey:PDss X W [] (ji C .nil):=pdss_nil.imp λD I ⟨y,h,q⟩=>by cases h;exact q
theorem zQ(O:PDs X W st (fK C ms))(Z:PDss X W sts (ji C mss)):PDss X W (st::sts) (ji C (.cons ms mss)):=by
 refine(tw O Z).imp λD I t=>?_;obtain⟨y,h,q⟩:=t;obtain⟨z,J,h⟩:=bnd h;obtain⟨Q,A⟩:=z;refine⟨λp=>Q=.nx/\p=A,λp ⟨O,Z⟩=>?_,?_⟩
 ·subst O Z;exact⟨y,h,q⟩
 ·cases Q
  ·exact⟨_,J,rfl,rfl⟩
  ·cases h;exact⟨_,J,q⟩
  ·cases h;exact⟨_,J,q⟩
  ·cases h;exact⟨_,J,q⟩
theorem Ez:PDs X W (.Continue pos) (fK C .cont):=pds_cont.imp λD I ⟨y,h,q⟩=>by cases h;exact q
def dZ:Expr->Bool
 |.ListComp _ _ _ _=>true|.SetComp _ _ _ _=>true|.DictComp _ _ _ _ _=>true
 |_=>false
theorem gi(h:dZ e=false):swapsWith e t l env=pure false:=by cases e<;>first|rfl|cases h
theorem KZ(g:dZ e=false)(O:PDe X e (aF C ma)):PDs X W (.Expr e pos) (fK C (.ex ma)):=by refine(vZ (gi g) O).imp λD I t=>?_;obtain⟨y,h,q⟩:=t;obtain⟨z,J,h⟩:=bnd h;cases h;exact⟨z,J,q⟩
theorem HP(O:PDe X e (aF C ma)):PDs X W (.Return (some e) pos) (fK C (.ret ma)):=by refine(zy O).imp λD I t=>?_;obtain⟨y,h,q⟩:=t;obtain⟨z,w,J,B,h⟩:=bn2 h;cases h;exact⟨z,J,w.1,w.2,B,q⟩
theorem K0(T:PDt X c (gA C mc))(O:PDss X W s1 (ji C ma'))(Z:PDss X W s2 (ji C mb')):PDs X W (.If c s1 s2 pos) (fK C (.iff mc ma' mb')):=by
 refine(D5 T O Z).imp λD I t=>?_;obtain⟨y,h,q⟩:=t;obtain⟨z,J,h⟩:=bnd h;refine⟨z,J,?_⟩;by_cases F:z.1=true
 ·rw[if_pos F]at h ⊢;exact⟨y,h,q⟩
 ·rw[if_neg F]at h ⊢;exact⟨y,h,q⟩
theorem BR(u:X.N.Nodup)(s:Sto X W m i x)(g:swapsWith e (some (.Name x pos')) pos.line X.env=pure false)(O:PDe X e (aF C ma)):PDs X W (.Assign [.Name x pos'] e pos) (fK C (.set i ma)):=by refine(zA s.nw u s.hN s.loc g s.fn O).imp λD I t=>?_;obtain⟨y,h,q⟩:=t;obtain⟨z,w,_,J,B,r,h⟩:=bn3 h;cases h;exact⟨z,J,w.1,w.2,B,gd_ok r,q⟩
theorem HQ(g:swapsWithSole [tg] e pos.line X.env=pure false)(Q:swappedStores [tg] e X.env=pure none)(T:isStar tg=false)(O:PDe X e (aF C ma))(Z:PDg X W m tg (iz t)):PDs X W (.Assign [tg] e pos) (fK C (.asg t ma)):=by refine(zE g Q (by cases tg<;>first|rfl|cases T) O Z).imp λD I Y=>?_;obtain⟨y,h,q⟩:=Y;obtain⟨z,w,A,J,B,s,h⟩:=bn3 h;cases h;exact⟨z,J,w.1,w.2,B,A,s,q⟩
theorem zR(m:PassesOwn (model X.prog X.w) X.A X.env X.xe)(T:PDt X cc (gA C mc))(O:PDss X W sts (ji C mss)):PDs X W (.While cc sts [] pos) (fK C (.whl mc mss)):=by
 refine(tz m T O).imp λD I t=>?_;obtain⟨y,h,q⟩:=t;refine⟨λn I=>cv (aL C mc) (aD C mss) n I=some y,⟨C.wf,h⟩,λn I l=>?_⟩;cases n with
 |zero=>cases l
 |succ n=>
  obtain⟨z,J,l⟩:=bnd l;refine⟨z,J,?_⟩;by_cases F:z.1=true
  ·rw[if_pos F]at l ⊢;obtain⟨w,B,l⟩:=bnd l;obtain⟨Q,U⟩:=w;refine⟨λp=>p=U/\(Q=.nx\/Q=.ct),λp ⟨O,Z⟩=>?_,?_⟩
   ·subst O;refine⟨n,aa8 n,?_⟩;rcases Z with rfl|rfl<;>exact l
   ·cases Q with
    |nx=>exact⟨_,B,rfl,.inl rfl⟩
    |bk=>cases l;exact⟨_,B,q⟩
    |ct=>exact⟨_,B,rfl,.inr rfl⟩
    |rt o=>cases l;exact⟨_,B,q⟩
  ·rw[if_neg F]at l ⊢;cases l;exact q
theorem HR(hp:PassesOwn (model X.prog X.w) X.A X.env X.xe)(hc:X.calm=true)(hs:∀x,foldedSetIterable iter X.env x=pure x)(r:PDi X tg iter (gg C mi))(hg:PDg X W m tg (iz t))(hb:PDss X W sts (ji C mss)):PDs X W (.For tg iter sts [] pos) (fK C (.fr t mi mss)):=by
 obtain⟨_,O,f⟩:=r;obtain⟨_,Z,s2⟩:=hg;obtain⟨_,M,s3⟩:=hb;refine⟨_,CY hp hc O Z M hs,λb F L H I τ S Dd D T n R ⟨y,h,q⟩ E=>?_⟩;obtain⟨x,e1,h⟩:=bnd h;refine f b F L H I τ S (λds p=>ds=x.1/\p=x.2) _ T R ⟨x,e1,rfl,rfl⟩ λJ H1 ds a0 c U u nr R1 it hZ=>?_;obtain⟨O,Z⟩:=hZ;subst O Z;refine⟨λi mm L H=>mm=x.1.length-i/\i<=x.1.length/\∃I,Rel b F L H I (c++τ) (U++S)/\bS (λd p=>(bo t (.fz d) p).bind λa0=>aD C mss a0) (x.1.drop i) I=some y,⟨_,rfl,aaB _,_,R1,h⟩,?_⟩;rintro i mm a2 j ⟨rfl,r,a3,N,w2⟩;obtain⟨go,a4⟩:=it F a2 j a3 τ S N i;by_cases k:i<x.1.length
 ·obtain⟨g1,g2⟩:=go k;have ed:=aam k;have ee:=abw k;rw[ee]at w2;obtain⟨w,B,w2⟩:=bnd w2;obtain⟨a5,s,B⟩:=bnd B;obtain⟨Q,a1⟩:=w;refine .inr ⟨g1,λa l=>∃p,Rel b F a l p (c++τ) (U++S)/\bS (λd p=>(bo t (.fz d) p).bind λa0=>aD C mss a0) (x.1.drop (i+1)) p=some y,λa l ⟨p,g,w'⟩=>⟨_,by omega,rfl,k,p,g,w'⟩,λz H3 hy=>?_⟩;have Y:=g2 z H3 x.1[i] hy ed;refine s2 b F a2 H3 a3 (c++τ) (U++S) z _ (λp=>p=a5) _ T (NoRf.app nr.weak n) Y ⟨a5,s,rfl⟩ λa6 H4 p R4 _ P=>?_;subst P;refine s3 b F a6 H4 _ (c++τ) (U++S) ⟨λp=>Q=.nx/\p=a1,λo p=>Q=.rt o/\p=a1,λp=>Q=.bk/\p=a1,λp=>Q=.ct/\p=a1⟩ _ T (NoRf.app nr.weak n) R4 ⟨_,B,by cases Q<;>exact⟨rfl,rfl⟩⟩ ⟨λa l p g ⟨O,Z⟩=>?_,λa l p g ⟨O,Z⟩=>?_,λa l p g ⟨O,Z⟩=>?_,λa l p v o g ⟨O,Z⟩=>?_⟩
  ·subst O Z;exact⟨_,g,w2⟩
  ·subst O Z;cases w2;exact E.nx a l _ (g.drops u) q
  ·subst O Z;exact⟨_,g,w2⟩
  ·subst O Z;cases w2;exact E.rt a l _ v o (Rel.drops (Rel.wj g u) u) q
 ·have e:i=x.1.length:=by omega
  subst e;rw[abS]at w2;cases w2;exact .inl ⟨a4 rfl,E.nx a2 j a3 (N.drops u) q⟩
end
end
section
section
variable{E:Value->Shared->Prop}
theorem mf{T d:String}(i:s.TypeIs a T)(S:s.TypeIs b T)
  (r:typeLookup (.type T) (dunderI "add")=pure (some (.builtin d))) (c:isSeqSlotId d=true) (L:fillsNumberSlot (.type T) "add"=pure false)
  (U:wpAny (model prog w) A (call (.builtin d) [a,b]) Q E s):wpAny (model prog w) A (inplaceOp .Add a b) Q E s:=by
 unfold inplaceOp;refine acB ?_;have I:fillsInplaceSlot (.type T) "add" (Operator.Add==.Add)=pure false:=by
  unfold fillsInplaceSlot;show (typeLookup (.type T) (dunderI "add") >>= λp=>pure (p.isSome&&!isSeqSlot p))=pure false;rw[r];show (pure (true&&!isSeqSlotId d):Sem Bool)=_
  grind
 have H:=PySem.seqSlot_of r c;refine acs (wpAny_typeOf i (acs (wpAny_of_eq I ?_)));rw[if_neg aar];refine acs (binaryOp1_none i S L ?_);refine acs (wpAny_of_eq H ?_)
 trivial
end
section
variable{x:Str}
def ipL:TIp:=λx y H Q=>∃l b Y s,x=.ref l/\y=.ref b/\H l=some (.lst Y)/\H b=some (.lst s)/\Y.length+s.length<=sizeLine/\Q (.ref l) (upd H l (.lst (Y++s)))
theorem zT:GA X .Add ipL:=by
 intro M s L H x y v u Q I N J h;obtain⟨l,b,Y,o,rfl,rfl,m,g,d,q⟩:=h;cases N;cases J;obtain⟨z,D,n,r,j,e⟩:=I.y2 m;obtain⟨W,i,a,p,S,B⟩:=I.y2 g;have A:D.toArray.size+i.toArray.size<=sizeLine:=by grind
 have P:¬ (!D.toArray.isEmpty&&Builtin.List.listTooLong (D.toArray.size+i.toArray.size))=true:=by rw[lE A,Bool.and_false];simp
 refine mf ⟨_,e,rfl⟩ ⟨_,B,rfl⟩ F.slot_list_iadd.lookup (by rfl) noFill_list_add ?_;refine acL F.slot_list_iadd ⟨_,e,rfl⟩ F.entry_list_iadd (F.args_list_iadd_2 _ _)
  (AutoSeq1.list___iadd___list_list_0 l D.toArray n b i.toArray a P (by grind) (by lia)) ⟨e,B,?_⟩
 refine⟨.ref l,_,I.lset m e (by simp) (r.append p) ?_,rfl,q⟩
 grind
end
theorem HS(u:X.N.Nodup)(s:Sto X W m i x)(O:PDe X e (aF C ma)):PDs X W (.AugAssign (.Name x pos') (opOf o) e pos) (fK C (.aug i o ma)):=by
 have p:∀(U:Operator) (g:Int->Int->Int),GA X U (JU g)->(∀a d r,l4 o a d=some r->∃k,d=.int k/\r=g a k)->PDs X W (.AugAssign (.Name x pos') U e pos) (fK C (.aug i o ma)):=λU g ho hg=>by
  obtain⟨_,h,f⟩:=O;refine⟨_,uO u s.hN s.loc h ho s.fn,λb F L H I τ S Dd D T n R ⟨y,h,q⟩ E=>?_⟩;obtain⟨x0,d0,n0,Q,f0,c,h⟩:=bn3 h;rw[cL f0,aT c]at Q
  ·obtain⟨z,B,r,J,ek,er,h⟩:=bn3 h;cases h;obtain⟨k,rfl,rfl⟩:=hg _ _ _ er;obtain⟨v,ev,w⟩:=R.slot (join_some Q);have hv:=w.dt rfl;cases hv;have hi:=(aai.mp (join_some Q)).1;refine⟨_,ev,f b F L H I τ S (λr a0=>r=z.1/\a0=z.2) _ T R ⟨z,J,rfl,rfl⟩ λv P r A M t=>?_⟩;obtain⟨O,Z⟩:=t;subst O Z;have Y:=M.dt ek;cases Y;have j:i<z.2.length:=by rw[<-M.wf.len,R.wf.len];omega
   exact⟨n0,k,rfl,rfl,E.nx _ P _ ((M.drop.sc (.int (g n0 k))).store n j s.nw) q⟩
 have nil:∀U,(∀a d,l4 o a d=none)->PDs X W (.AugAssign (.Name x pos') U e pos) (fK C (.aug i o ma)):=λU l=>by refine⟨_,lz,λb F L H I τ S Dd D T n R ⟨y,h,q⟩ E=>?_⟩;obtain⟨x0,Q,h⟩:=bnd h;simp_all
 cases o with
 |add=>exact p _ _ CT λa d r h=>by cases d<;>cases h;simp
 |sub=>exact p _ _ CU λa d r h=>by cases d<;>cases h;simp
 |_=>exact nil _ λa d=>rfl
theorem Wd.unpL0{b:Bs}(w:Wd b H ((v,.lst cs)::L)):∃a vs,v=.ref a/\H a=some (.lst vs)/\vs.length=cs.length/\Wd b H (vs.zip cs++L):=by
 obtain⟨P,T,Q,N⟩:=w.out;have I:=w.l3 T;cases T with
 |@cons _ _ A _ _ B0 r t=>
  cases r with
  |@lst a vs _ B h1 h2=>have s:∀c,(c∈B++B0\/b.S0 c)->(c∈a::B++B0\/b.S0 c):=λc z=>z.imp (λz=>by simp at z ⊢;exact .inr z) id;exact⟨a,vs,rfl,h1,h2.len,⟨⟨_,Ows.step (Kp.refl _ _) (λc z=>.inl (s c z)) I (λ_ _=>rfl) (OwL.h9 (OwL.gp h2) t),(aat.mp Q).2,λc U=>N c (aaf _ U)⟩,w.fr,w.s0,w.nt⟩⟩
theorem set_same{Y:Type}{l:List Y}{x:Y}(h:l[i]?=some x):l.set i x=l:=bE h
theorem HU(hN:X.N.Nodup)(s:Sto X W m i x)(O:PDe X e (aF C ma)):PDs X W (.AugAssign (.Name x pos') .Add e pos) (fK C (.agl i ma)):=by
 obtain⟨_,h,f⟩:=O;refine⟨_,uO hN s.hN s.loc h zT s.fn,λb F L H I τ θ Dd D hK n R ⟨y,h,q⟩ E=>?_⟩;obtain⟨x0,a0,z,o,x1,e0,f0,e1,T,eb,h⟩:=bn5 h;obtain⟨Y,_,f1,d,h⟩:=bn2 h;cases h;have d:=gd_ok d;have T:=Eh T;rw[fh f1]at eb;obtain⟨v,a⟩:=R.wf.get (join_some e0);refine⟨v,a,f b F L H I τ θ (λr p=>r=z.1/\p=z.2) _ hK R ⟨z,e1,rfl,rfl⟩ λu H1 r a1 M t=>?_⟩;obtain⟨O,Z⟩:=t;subst O Z;rw[T]at M;obtain⟨k,us,rfl,g,B,w2⟩:=Wd.unpL0 M.wd;have R2:=Rel.spread (Rel.drop M) B w2;obtain⟨v',P,w⟩:=R2.open B eb;rw[a]at P;cases P;obtain⟨l,vs,ch,hH,j,go⟩:=w.vr (ks:=[]) B rfl;cases ch;refine⟨l,k,vs,us,rfl,rfl,hH,g,aan (by lia:_<=1000000) (by decide),?_⟩;show D.nx (L.set i (some (.ref l))) _;rw[set_same a];have J:=go (vs++us) (Y++o) λS H A C nt O Z Q=>⟨A++C,Ows.append O Z,Q,λc U=>aaj.mp U⟩
 exact E.nx L _ _ (Rel.close (R2.rest B) a J) q
end
section
theorem Chn.det(h:Chn b H v x ks u y)(h':Chn b H v x ks u' y'):u=u'/\y=y':=by
 induction ks generalizing v x with
 |nil=>cases h;cases h';exact⟨rfl,rfl⟩
 |cons k ks Y=>
  cases h with
  |cons P q=>
   cases h' with
   |cons m l=>obtain⟨J,B⟩:=Chd.det P m;subst J B;exact Y q l
theorem Chn.snoc(h:Chn b H v x ks u y)(c:Chd b H u y k w z):Chn b H v x (ks++[k]) w z:=by
 induction ks generalizing v x with
 |nil=>cases h;exact .cons c .nil
 |cons k ks Y=>cases h with|cons P q=>exact .cons P (Y q)
theorem Chn.unsnoc(h:Chn b H v x (ks++[k]) w z):∃u y,Chn b H v x ks u y/\Chd b H u y k w z:=by
 induction ks generalizing v x with
 |nil=>cases h with|cons c t=>cases t;exact⟨_,_,.nil,c⟩
 |cons k ks Y=>
  cases h with
  |cons P q=>obtain⟨u,y,O,Z⟩:=Y q;exact⟨u,y,.cons P O,Z⟩
theorem OD.kq:∀{ks:List Nat}{x:OD},x.at ks=some y->y.kids[k]?=some z->x.at (ks++[k])=some z
 |[],x,e,h=>by simp only[OD.at]at e;cases e;simp[OD.at,h]
 |j::ks,x,e,h=>by
  simp only[OD.at,aaK]at e ⊢;cases Q:x.kids[j]? with
  |none=>grind
  |some q=>rw[Q]at e;exact OD.kq e h
theorem setKid_self(h:x.kids[k]?=some z):OD.dw k z x=x:=by cases x<;>simp only[OD.kids]at h<;>first|rfl|(simp only[OD.dw];rw[bE h])
theorem OD.hh:∀{ks:List Nat}{x:OD},x.at ks=some y->OD.put y ks x=x
 |[],x,e=>by simp only[OD.at]at e;cases e;rfl
 |j::ks,x,e=>by
  simp only[OD.at,OD.put]at e ⊢;cases Q:x.kids[j]? with
  |none=>rfl
  |some q=>rw[Q]at e;simp only;rw[OD.hh e];exact setKid_self Q
theorem path_at:∀{ps:List Acc}{ρ:DEnv}{i:Nat}{p:OD×List Nat×OD},aw ρ i ps=some p->ρ[i]?.join=some p.1/\p.1.at p.2.1=some p.2.2
 |[],ρ,i,p,h=>by
  obtain⟨x,J,h⟩:=bnd h;cases h
  trivial
 |a::ps,ρ,i,p,h=>by obtain⟨q,k,z,J,B,s,h⟩:=bn3 h;cases h;obtain⟨O,Z⟩:=path_at J;exact⟨O,OD.kq Z s⟩
theorem Wd.way(w:Wd b H ((v,x)::L))(e:x.at ks=some y):∃u,Chn b H v x ks u y:=by
 obtain⟨P,T,Q,N⟩:=w.out;cases T with
 |cons r t=>obtain⟨u,B,j,f,_⟩:=Ow.path r e;exact⟨u,f⟩
theorem Wd.uh(w:Wd b H ((v,x)::L))(e:x.at ks=some y)(ch:Chn b H v x ks u y)(D:y.kids[k]?=some z):∃q,Chd b H u y k q z:=by obtain⟨q,c⟩:=w.way (OD.kq e D);obtain⟨o,g,O,Z⟩:=Chn.unsnoc c;obtain⟨J,B⟩:=Chn.det ch O;subst J B;exact⟨q,Z⟩
def Ext(H l:Hp):Prop:=∀a o,H a=some o->l a=some o
theorem Ext.refl(H:Hp):Ext H H:=λ_ _ h=>h
theorem Ext.trans(h:Ext H H1)(h':Ext H1 H'):Ext H H':=λa o e=>h' a o (h a o e)
theorem Ext.upd(e:H p=none):Ext H (upd H p o):=λa q h=>by
 by_cases z:a=p
 ·grind
 ·rw[upd_ne z];exact h
theorem Chd.ext(E:Ext H H')(h:Chd b H v x k w z):Chd b H' v x k w z:=by
 cases h with
 |lst J B s e=>exact .lst (E _ _ J) B s e
 |tup J B s e=>exact .tup (E _ _ J) B s e
 |dic J B L s e=>exact .dic (E _ _ J) B L s e
 |obj J B L s e=>exact .obj (E _ _ J) B L s e
theorem Chn.ext(E:Ext H H')(h:Chn b H v x ks u y):Chn b H' v x ks u y:=by
 induction ks generalizing v x with
 |nil=>cases h;exact .nil
 |cons k ks Y=>cases h with|cons P q=>exact .cons (P.ext E) (Y q)
def K1(K:Waa)(o:TE)(i:Nat)(ps:List Acc):Prop:=∀(b:Bs) (F:List Fr) (L:St) (H:Hp) (I:DEnv) (z:List V) (S:List OR) (Q:VK) (p:OD×List Nat×OD),b.K=K->Rel b F L H I z S->aw I i ps=some p->(∀v u,L[i]?=some (some v)->Chn b H v p.1 p.2.1 u p.2.2->Q u H)->o L H Q
inductive PDp (X:Cx)(e:Expr)(i:Nat)(ps:List Acc):Prop|mk (te:TE) (h:PE X e te) (s:K1 X.K te i ps)
inductive PX (X:Cx)(e:Expr)(f:St->Option V):Prop|mk (te:TE) (h:PE X e te) (s:∀σ H (Q:VK) v,f σ=some v->Q v H->te σ H Q)
section
variable{i j:Nat}
theorem HV:PX X (.Constant (.int k) j pos) (λ_=>some (.int k)):=⟨_,gT,λL H Q v e q=>by cases e;exact q⟩
theorem K2(u:X.N[i]?=some x) (o:Vis X.env.scope x) (W:(x==("__debug__":Str))=false) (L:(x==("__classdict__":Str))=false):PX X (.Name x pos) (λσ=>σ[i]?.join):=⟨_,bD u o W L,λσ H Q v e q=>⟨v,join_some e,q⟩⟩
theorem K3(u:X.N[i]?=some x) (o:Vis X.env.scope x) (W:(x==("__debug__":Str))=false) (L:(x==("__classdict__":Str))=false):PDp X (.Name x pos) i []:=
 ⟨_,bD u o W L,λb F U H I z S Q p T R h q=>by
  obtain⟨y,J,h⟩:=bnd h;cases h;obtain⟨v,a⟩:=R.wf.get (join_some J);exact⟨v,a,q v v a .nil⟩⟩
theorem lookup_at:∀{fs:List (Str×V)}{k:Nat}{w:V},(fs.map (·.1)).findIdx? (λg=>decide (g=f))=some k->(fs[k]?).map (·.2)=some w->fs.lookup f=some w
 |[],_,_,e,_=>by simp at e
 | (g,q)::fs,k,w,e,h=>by
  rw[aal,aaQ]at e;by_cases N:g=f
  ·subst N;simp at e;subst e;simp at h;subst h;simp[List.lookup]
  ·simp[N]at e;obtain⟨r,J,B⟩:=e;subst B;have s:(fs.map (·.1)).findIdx? (λg=>decide (g=f))=some r:=by rw[List.findIdx?_map];exact J
   have:=lookup_at s (by simpa using h);have S:(f==g)=false:=by simpa using λz=>N z.symm
   simp[List.lookup,S,this]
theorem HW{k:Nat}(h:accN ρ y (.fld c f)=some k):∃ns xs,y=.obj c ns xs/\ns.findIdx? (λg=>decide (g=f))=some k:=by obtain⟨q,J,h⟩:=bnd h;obtain⟨_,B,M⟩:=bnd h;exact⟨q.2.1,q.2.2,by rw[j9 J,gd_ok B],M⟩
theorem HX{c f:Str}(S:attributeBase e f X.env (eval e X.env)=eval e X.env)(U:Cls X.K (av X.K c))(l:NoAttr X.K (av X.K c) f):PDp X e i ps->PDp X (.Attribute e f pos) i (.fld c f::ps)
 |⟨te,h,s⟩=>⟨_,Da h S,λb F σ H ρ τ θ Q p T R m q=>by
  obtain⟨r,k,z,J,B,o,m⟩:=bn3 m;cases m;refine s b F σ H ρ τ θ _ r T R J λv u n g=>?_;obtain⟨O,Z⟩:=path_at J;obtain⟨L,P,w⟩:=R.slot (join_some O);rw[n]at P;cases P;obtain⟨D,t⟩:=w.uh Z g o;obtain⟨x,Y,C,B⟩:=HW B;rw[C]at t g;cases t with
  |@obj a dx _ fs _ _ _ _ _ f1 f2 f5 f3 f4=>exact⟨a,_,dx,fs,D,rfl,f1,T▸U,T▸l,lookup_at (by rw[f2];exact B) f3,q v D n (g.snoc (.obj f1 f2 f5 f3 f4))⟩⟩
theorem wH{Y:Type}{xs:List Y}{i:Int}{k:Nat}{y:Y}(l:xs.length=n)(h:ixN n i=some k)(e:xs[k]?=some y):atI xs i=some y:=by subst l;unfold atI;rw[h];exact e
theorem HY(g:PlainIx B)(y:∀{b:Bs}{F:List Fr}{σ:St}{H:Hp}{ρ:DEnv}{τ:List V}{θ:List OR}{x:OD}{k:Nat},Rel b F σ H ρ τ θ->accN ρ x c=some k->∃n,f σ=some (.int n)/\((∃xs,x=.lst xs/\ixN xs.length n=some k)\/∃xs,x=.tup xs/\ixN xs.length n=some k)):PDp X e i ps->PX X B f->PDp X (.Subscript e B pos) i (c::ps)
 |⟨te,h,s⟩,⟨_,Z,s2⟩=>⟨_,vd nS h Z g,λb F σ H ρ τ θ Q p T R m q=>by
  obtain⟨r,k,z,J,B,l,m⟩:=bn3 m;cases m;refine s b F σ H ρ τ θ _ r T R J λv u Y I=>?_;obtain⟨O,Z⟩:=path_at J;obtain⟨L,P,w⟩:=R.slot (join_some O);rw[Y]at P;cases P;obtain⟨D,t⟩:=w.uh Z I l;obtain⟨n,A,S⟩:=y R B;refine s2 σ H _ _ A ?_;obtain⟨W,o,N⟩:=r;simp only at *;rcases S with ⟨xs,rfl,C⟩|⟨xs,rfl,C⟩
  ·cases t with
   |@lst a vs _ _ _ _ f1 f2 f3 f4=>exact .inl ⟨a,vs,n,D,rfl,rfl,SqL.of f1,wH f2 C f3,q v D Y (I.snoc (.lst f1 f2 f3 f4))⟩
  ·cases t with
   |@tup a vs _ _ _ _ f1 f2 f3 f4=>exact .inr (.inl ⟨a,vs,n,D,rfl,rfl,SqT.of f1,wH f2 C f3,q v D Y (I.snoc (.tup f1 f2 f3 f4))⟩)⟩
theorem K4(g:PlainIx e2)(h:PDp X e i ps)(Z:PX X e2 (λ_=>some (.int k))):PDp X (.Subscript e e2 pos) i (.ix k::ps):=
 HY g (λ{b F L H I z S x n} R T=>by
  obtain⟨Y,J,T⟩:=bnd T;exact⟨k,rfl,(Eg J).imp (λe=>⟨Y,e,T⟩) λe=>⟨Y,e,T⟩⟩) h Z
theorem Rel.keyS{k:Key}(R:Rel b F σ H ρ τ θ)(e:ρ[j]?.join=some (.fz d))(T:keyOf d=some k):σ[j]?.join=some (kV k):=by obtain⟨v,a,w⟩:=R.slot (join_some e);have o:=w.dt rfl;rw[a];cases d<;>cases T<;>cases o<;>rfl
theorem kf{k:Key}:∀{ws:List (Key×V)}{n:Nat}{w:V},(ws.map (·.1)).findIdx? (λq=>decide (q=k))=some n->(ws[n]?).map (·.2)=some w->valV ws k=some w
 |[],_,_,e,_=>by grind
 | (g,q)::ws,n,w,e,h=>by
  rw[aal,aaQ]at e;by_cases N:g=k
  ·subst N;simp at e;subst e;simp at h;subst h;exact dQ rfl
  ·simp[N]at e;obtain⟨r,J,B⟩:=e;subst B;have s:(ws.map (·.1)).findIdx? (λq=>decide (q=k))=some r:=by grind
   have:=kf s (by trivial);simp only[valV]at this ⊢
   grind
theorem HZ(U:X.A.units+1<cLine)(g:NoSl B):PDp X e i ps->PX X B (λσ=>σ[j]?.join)->PDp X (.Subscript e B pos) i (.key j::ps)
 |⟨te,h,s⟩,⟨_,Z,s2⟩=>⟨_,y9 U h Z g,λb F σ H ρ τ θ Q p T R m q=>by
  obtain⟨r,k,z,J,B,M,m⟩:=bn3 m;cases m;refine s b F σ H ρ τ θ _ r T R J λv u Y f=>?_;obtain⟨O,Z⟩:=path_at J;obtain⟨L,P,w⟩:=R.slot (join_some O);rw[Y]at P;cases P;obtain⟨D,t⟩:=w.uh Z f M;obtain⟨S,W,N⟩:=r;simp only at *;obtain⟨y,d,C,c,I,n,l,o,B⟩:=bn4 B;rw[cL n]at I;refine s2 σ H _ _ (R.keyS I o) ?_;cases t with
  |@dic a ws _ _ _ _ _ f1 f2 f5 f3 f4=>cases l;refine⟨a,D,rfl,?_,q v D Y (f.snoc (.dic f1 f2 f5 f3 f4))⟩;have:=DGet.k (k:=c) f1;rw[kf (by grind) f3]at this;omega
  |_=>cases l⟩
end
section
variable{i:Nat}
theorem Rel.partX(R:Rel b F σ H ρ τ θ)(O:ρ[i]?.join=some x)(Z:x.at ks=some z)(ev:σ[i]?=some (some v))(ch:Chn b H v x ks u z)(c:z.dat=some d):Rel b F σ H (ρ.set i (some (OD.put (.fz d) ks x))) (u::τ) (.val (.fz d)::θ):=by obtain⟨L,P,w⟩:=R.slot (join_some O);rw[ev]at P;cases P;obtain⟨o,M,n⟩:=w.r8 Z c;obtain⟨J,_⟩:=Chn.det ch M;subst J;exact Rel.back R.wf R.al R.wff ev (n.perm (List.Perm.swap _ _ _))
theorem Rel.partZ(R:Rel b F σ H ρ τ θ)(O:ρ[i]?.join=some x)(Z:x.at ks=some (.fz d))(ev:σ[i]?=some (some v))(ch:Chn b H v x ks u (.fz d)):Rel b F σ H ρ (u::τ) (.val (.fz d)::θ):=by have:=R.partX O Z ev ch rfl;rw[OD.hh Z,set_self (join_some O)]at this;omega
theorem Rel.part(R:Rel b F σ H ρ τ θ)(e:aw ρ i ps=some p)(ev:σ[i]?=some (some v))(ch:Chn b H v p.1 p.2.1 u p.2.2)(c:p.2.2.dat=some d):Rel b F σ H (ρ.set i (some (OD.put (.fz d) p.2.1 p.1))) (u::τ) (.val (.fz d)::θ):=R.partX (path_at e).1 (path_at e).2 ev ch c
theorem Rel.partF(R:Rel b F σ H ρ τ θ)(e:aw ρ i ps=some p)(ev:σ[i]?=some (some v))(ch:Chn b H v p.1 p.2.1 u p.2.2)(c:p.2.2=.fz d):Rel b F σ H ρ (u::τ) (.val (.fz d)::θ):=by obtain⟨O,Z⟩:=path_at e;have:=R.part e ev ch (by rw[c];rfl);rw[<-c,OD.hh Z,set_self (join_some O)]at this;rw[c]at this;exact this
theorem Rel.q7(R:Rel b F σ H ρ τ θ)(e:aw ρ i ps=some p)(ev:σ[i]?=some (some v))(ch:Chn b H v p.1 p.2.1 u p.2.2)(c:p.2.2.dat=some d):Dt b.K H u d:=(R.part e ev ch c).dt rfl
end
end
section
theorem K5:PDp X e i ps->PDe X e (aF C (.pg i ps))
 |⟨te,h,s⟩=>⟨te,h,λb F σ H ρ τ θ w Q T R ⟨y,h,q⟩ k=>by
  obtain⟨r,J,h⟩:=bnd h;refine s b F σ H ρ τ θ _ r T R J λv u a f=>?_;obtain⟨d,c,h⟩:=bnd h;cases h;exact k u H _ _ (R.partF J a f (cL c)) q⟩
theorem K6:PDp X e i ps->PDe X e (aF C (.pf i ps))
 |⟨te,h,s⟩=>⟨te,h,λb F σ H ρ τ θ w Q T R ⟨y,h,q⟩ k=>by
  obtain⟨r,d,J,B,h⟩:=bn2 h;cases h;exact s b F σ H ρ τ θ _ r T R J λv u a f=>k u H _ _ (R.part J a f B) q⟩
theorem K7(N:Gl X "len") (Y:X.mg "len"=none) (Z:isStar e=false):PDp X e i ps->PDe X (.Call (.Name "len" p) [e] [] pos) (aF C (.pl i ps))
 |⟨te,h,s⟩=>⟨_,dO lC N Y vw (aZ h ck (aC Z)) (by decide) (by rfl) (aC Z) (bH rfl),λb F σ H ρ τ θ m Q T R ⟨y,h,q⟩ k=>by
  obtain⟨r,d,n,J,B,U,h⟩:=bn3 h;cases h;refine s b F σ H ρ τ θ _ r T R J λv u a f=>?_;refine sc_len H [u] [d] (λd=>d=.int n) _ (.cons (T▸R.q7 J a f B) .nil) ⟨d,n,rfl,U,rfl⟩ λw l c W=>?_;subst W;exact k w H _ _ (R.sc c) q⟩
theorem K8(n:plainT e=true):PDp X e i ps->PDt X e (gA C (.pt i ps))
 |⟨te,h,s⟩=>⟨_,lA h (plainT_ok n),λb F σ H ρ τ θ w Q T R ⟨y,h,q⟩ k=>by
  obtain⟨r,d,t,J,B,l,h⟩:=bn3 h;cases h;refine s b F σ H ρ τ θ _ r T R J λv u a f=>?_;exact⟨t,qr (T▸R.q7 J a f B) l,k _ _ _ R q⟩⟩
theorem kg(Y:aL C m=(vt (ev C m)).2)(S:∀ρ x,ev C m ρ=some x->∃k,x.1=.val (.fz (.bool k))):∀ρ Q,gA C m ρ Q->gy (aF C m) ρ Q:=λρ Q ⟨y,h,q⟩=>by
 have v:((ev C m ρ).bind λx=>(az x.2 x.1).bind λd=>(lZ d).bind λk=>some (k,x.2))=some y:=by rw[<-h,Y];rfl
 obtain⟨z,J,v⟩:=bnd v;obtain⟨k,D⟩:=S ρ z J;rw[D]at v;cases v;exact⟨z,J,k,by rw[D];rfl,q⟩
theorem SndT.imp{K:Waa}(s:SndT K te d)(f:∀ρ Q,d' ρ Q->d ρ Q):SndT K te d':=λb F L H ρ z S w Q T R W q=>s b F L H ρ z S w Q T R (f _ _ W) q
theorem wI{M:Bool}(U:X.A.units+64<cLine)(Y:behindInMarks (coOf (if M then .nin else .inn)) e=false):PDe X a (aF C ma)->PDp X e i ps->PDe X (.Compare a [coOf (if M then .nin else .inn)] [e] pos) (aF C (.pin M ma i ps))/\PDt X (.Compare a [coOf (if M then .nin else .inn)] [e] pos) (gA C (.pin M ma i ps))
 |⟨ta,O,s1⟩,⟨te,h,s⟩=>by
  obtain⟨j,N,D⟩:=iw U (if M then .nin else .inn);have S:bJ X.K (CZ j ta te) (aF C (.pin M ma i ps)):=by refine λb F L H I τ θ Qd Q T R ⟨y,h,q⟩ k=>?_;obtain⟨z,n,r,d,t,c,J,B,o,m,h⟩:=bn5 h;cases h;refine s1 b F L H I τ θ (λr p=>r=z.1/\p=z.2) _ T R ⟨z,c,rfl,rfl⟩ λv l r' p g hZ=>?_;obtain⟨O,Z⟩:=hZ;subst O Z;refine s b F L l _ _ _ _ r T g B λv' u P f=>?_;refine D l v u n d (λd=>d=.bool t) _ (T▸g.dt J) (T▸g.q7 B P f o) ⟨t,m,rfl⟩ λw d' sc W=>?_;subst W;exact k w l _ _ (g.drop.sc sc) q
  refine⟨⟨_,pY N O h Y,S⟩,⟨_,pZ N O h Y,(ig S).imp (kg rfl λI x h=>?_)⟩⟩;obtain⟨z,n,r,d,t,c,J,B,o,m,h⟩:=bn5 h
  grind
theorem kh{k:Key}:∀{ws:List (Key×V)},(valV ws k).isSome=(ws.map (·.1)).any λq=>decide (q=k)
 |[]=>rfl
 | (g,q)::ws=>by
  have Y:=kh (k:=k) (ws:=ws);by_cases N:g=k
  ·subst N;rw[dQ rfl];simp
  ·simp only[valV]at Y ⊢;rw[aaW];simp only[N,decide_false,aal,aaO,abg];exact Y
def EA(M:Bool)(Z o:TE):TE:=if M then qg Z o else GV Z o
theorem wJ(U:X.A.units+1<cLine)(Y:behindInMarks (coOf (if neg then .nin else .inn)) e=false):PDe X a (aF C ma)->PDp X e i ps->PDe X (.Compare a [coOf (if neg then .nin else .inn)] [e] pos) (aF C (.din neg ma i ps))/\PDt X (.Compare a [coOf (if neg then .nin else .inn)] [e] pos) (gA C (.din neg ma i ps))
 |⟨ta,O,s1⟩,⟨te,h,s⟩=>by
  have hp:PE X (.Compare a [coOf (if neg then .nin else .inn)] [e] pos) (EA neg ta te):=by
   cases neg with
   |true=>exact jP (jy U O h) Y
   |false=>exact jP (vA U O h) Y
  have N:PT X (.Compare a [coOf (if neg then .nin else .inn)] [e] pos) (tB (EA neg ta te)):=by
   cases neg with
   |true=>exact jQ (jy U O h) Y
   |false=>exact jQ (vA U O h) Y
  have S:bJ X.K (EA neg ta te) (aF C (.din neg ma i ps)):=by
   refine λb F L H I d t Qd Q T R ⟨y,h,q⟩ k=>?_;obtain⟨z,n,r,kk,uu,e0,J,B,D,c,h⟩:=bn5 h;have c:=ir c
   ·cases h;have go:∀v l f p,Rel b F L l p (v::d) (f::t)->(f=z.1/\p=z.2)->te L l λx j=>∃a o,x=.ref a/\DGet j a v o/\Q (.bl (if neg then !o.isSome else o.isSome)) j:=λv l f p g ⟨O,Z⟩=>by
     subst O Z;refine s b F L l _ _ _ _ r T g B λv' u ev ch=>?_;obtain⟨O,Z⟩:=path_at B;obtain⟨v2,W,w⟩:=g.slot (join_some O);rw[ev]at W;cases W;rw[c]at Z ch;obtain⟨ad,ws,M,m,a0,hl,_⟩:=Wd.r3 (us:=[]) (zs:=[]) w rfl Z;obtain⟨e5,_⟩:=Chn.det ch M;subst e5;have hv:=g.dt J;have P:v=kV kk:=by cases n<;>cases D<;>cases hv<;>rfl
     subst P;refine⟨ad,_,rfl,DGet.k m,?_⟩;rw[kh,a0];exact k _ l _ _ (g.drop.sc (.bl _)) q
    cases neg with
    |true=>exact s1 b F L H I d t (λr p=>r=z.1/\p=z.2) _ T R ⟨z,e0,rfl,rfl⟩ go
    |false=>exact s1 b F L H I d t (λr p=>r=z.1/\p=z.2) _ T R ⟨z,e0,rfl,rfl⟩ go
  refine⟨⟨_,hp,S⟩,⟨_,N,(om S).imp (kg rfl λI x h=>?_)⟩⟩;obtain⟨z,n,r,kk,uu,e0,J,B,D,c,h⟩:=bn5 h
  grind
def K9(K:Waa)(o:TE)(f:DEnv->Option PyData):Prop:=∀(b:Bs) (F:List Fr) (L:St) (H:Hp) (I:DEnv) (z:List V) (S:List OR) (Q:VK) (d:PyData),b.K=K->Rel b F L H I z S->f I=some d->(∀v l,Ext H l->Rel b F L l I (v::z) (.val (.fz d)::S)->Q v l)->o L H Q
inductive PDq (X:Cx)(e:Expr)(f:DEnv->Option PyData):Prop|mk (te:TE) (h:PE X e te) (s:K9 X.K te f)
def H8(K:Waa)(o:TA)(f:DEnv->Option (List PyData)):Prop:=∀(b:Bs) (F:List Fr) (L:St) (H:Hp) (I:DEnv) (z:List V) (S:List OR) (Q:List V->Hp->Prop) (D:List PyData),b.K=K->Rel b F L H I z S->f I=some D->(∀c l,Ext H l->c.length=D.length->Rel b F L l I (c++z) (D.map (λd=>OR.val (.fz d))++S)->Q c l)->o L H Q
inductive PDqs (X:Cx)(es:List Expr)(f:DEnv->Option (List PyData)):Prop|mk (te:TA) (h:PA X es te) (s:H8 X.K te f)
theorem La(u:X.N[i]?=some x) (o:Vis X.env.scope x) (W:(x==("__debug__":Str))=false) (L:(x==("__classdict__":Str))=false):PDq X (.Name x pos) (ka C (.nm i)):=
 ⟨_,bD u o W L,λb F U H I z S Q d T R h q=>by
  obtain⟨D,c,h⟩:=bnd h;rw[cL h]at c;obtain⟨v,a⟩:=R.wf.get (join_some c);exact⟨v,a,q v H (.refl H) (R.dupS (join_some c) a)⟩⟩
theorem H9:PDq X (.Constant (.int k) j pos) (ka C (.int k)):=⟨_,gT,λb F L H I z S Q d T R h q=>by
  cases h;exact q _ H (.refl H) (R.sc (.int k))⟩
theorem Lb:PDp X e i ps->PDq X e (ka C (.pg i ps))
 |⟨te,h,s⟩=>⟨te,h,λb F σ H ρ τ θ Q d T R h q=>by
  obtain⟨r,J,h⟩:=bnd h;refine s b F σ H ρ τ θ _ r T R J λv u a f=>?_;exact q u H (.refl H) (R.partF J a f (cL h))⟩
theorem Lc(g:PlainIx B):PDq X e (ka C ma)->PDq X B (ka C mb)->PDq X (.Subscript e B pos) (ka C (.ix ma mb))
 |⟨_,h1,s1⟩,⟨_,h2,s2⟩=>⟨_,vd nS h1 h2 g,λb F σ H ρ τ θ Q d T R h q=>by
  obtain⟨dx,W,J,B,h⟩:=bn2 h;refine s1 b F σ H ρ τ θ _ dx T R J λv P L M=>s2 b F σ P ρ _ _ _ W T M B λu j A N=>?_;have w:=N.et.drop;have s:∀(l:Bool) (D:List PyData) (n:Int),dx=(if l then .list D else .tuple D)->W=.int n->atI D n=some d->CZ (LJ X.K) (λ_ _ Q=>Q v j) (λ_ _ Q=>Q u j) σ H Q:=λl D n m t i=>by
   subst m t;have U:=N.dt rfl;cases U;obtain⟨Y,c,o,rfl,S,I,k⟩:=Wd.itemF N.drop.wd i;have O:=Rel.push N.drop.drop k;rcases S with z|z
   ·exact .inl ⟨Y,c,n,o,rfl,rfl,T▸z,I,q o j (L.trans A) O⟩
   ·exact .inr (.inl ⟨Y,c,n,o,rfl,rfl,T▸z,I,q o j (L.trans A) O⟩)
  obtain⟨D,n,r,f,h⟩:=bn2 h;rcases iu r with r|r
  ·exact s true D n r (aT f) h
  ·exact s false D n r (aT f) h⟩
theorem EB:PDqs X [] (oB C .nil):=⟨_,ck,λb F L H I z S Q d T R h q=>by
 cases h;exact q [] H (.refl H) rfl R⟩
theorem zU(g:isStar e=false):PDq X e (ka C ma)->PDqs X es (oB C mes)->PDqs X (e::es) (oB C (.cons ma mes))
 |⟨_,h1,s1⟩,⟨_,h2,s2⟩=>⟨_,aZ h1 h2 (aC g),λb F σ H ρ τ θ Q d T R h q=>by
  obtain⟨dx,l,J,B,h⟩:=bn2 h;cases h;refine s1 b F σ H ρ τ θ _ dx T R J λv P L M=>s2 b F σ P ρ _ _ _ l T M B λc j A u N=>q (v::c) j (L.trans A) (by simp[u]) ?_;exact Rel.wk N (by simp[u])⟩
theorem Ia{x}:PDqs X es (oB C mes)->PDq X (.Tuple es x pos) (ka C (.tup mes))
 |⟨_,h1,s1⟩=>⟨_,nP h1,λb F σ H ρ τ θ Q d T R h q=>by
  obtain⟨ds,_,J,f,h⟩:=bn2 h;have f:=gd_ok f
  ·cases h;refine s1 b F σ H ρ τ θ _ ds T R J λc P L u M=>⟨aan (by lia:_<=1000000) (by decide),λp m=>q _ _ (L.trans (.upd m)) ?_⟩
   have B:ds.map (λd=>OR.val (.fz d))=(ds.map OD.fz).map OR.val:=by simp
   rw[B]at M;have w:=M.vals (by grind);have n:=lL w (by grind) m;have s:mkTup (ds.map OD.fz)=.fz (.tuple ds):=by simp only[mkTup,oo]
   rw[s]at n;exact Rel.push (M.drops (by grind)) n⟩
def zV(X:Cx):List V->Hp->VK->Prop:=λY H Q=>∃(p:Addr) (i:List Int),Y=[.ref p]/\(SqL X.K H p (i.map V.int)\/SqT X.K H p (i.map V.int))/\i.length<64/\∀(O:List Int) (a:Addr),O.Perm i->O.Pairwise (·<=·)->H a=none->Q (.ref a) (upd H a (.lst (O.map V.int)))
theorem mh(hc:X.calm=true):CallR X (.builtin "sorted") (zV X):=by
 intro M s L H Y C Q I r h;obtain⟨p,i,rfl,A,j,q⟩:=h;obtain⟨u,rfl,N⟩:=vals1 r;cases N;have Z:64<=sizeLine:=by decide
 refine Calls.call_function_entry kind_sorted plain_sorted entry_sorted (args_sorted1 _) ?_;unfold Builtin.«sorted»;refine acs (m:=checkCount "sorted" 1 1 _) (acv (acs (acy (Q:=λc B=>∃(F:List Int),Inv X M L H B/\IntsAre c F/\F.Perm i) ?_ (λc B t=>?_) λ_ _ z=>z)))
 ·rcases A with A|A
  ·obtain⟨D,f,l,d⟩:=I.list A;refine collect_list l.isList ⟨i,I.kept (t':=s.toks) λb o e=>?_,gh f,.refl _⟩ (by rw[<-f.length];lia);rw[Heap.get?_update_ne _ _ _ _ (aao (acu e))];exact acw _ e
  ·obtain⟨D,f,l,d⟩:=I.tuple A;have S:D.length=i.length:=by have:=f.length;grind
   exact lY (l) (by lia) λv y=>⟨i,I.kept (t':=s.toks) y,gh f,.refl _⟩
 ·obtain⟨F,g,J,w⟩:=t;have W:c.length=i.length:=by rw[IntsAre.length J,w.length_eq]
  refine acs (wpAny_newList ?_ (by grind));have x:(B.heap.push (seqObj "list" c.toArray 0)).get? B.heap.objs.size=some (seqObj "list" c.toArray 0):=acx _ rfl;refine acs (acB (acM slot_list_sort ⟨_,x,rfl⟩ entry_list_sort (list_sort_tree x J (by lia) λout O P U T=>⟨_,rfl,acv ⟨_,rfl,?_⟩⟩) (args_list_sort _)));obtain⟨e,n⟩:=sortedHeap_at (out:=out) x;refine⟨.ref _,_,g.laid (t':=B.toks) (a:=B.heap.objs.size) (o:=.lst (O.map V.int)) (λb u hu=>?_) (aac _) ⟨?_,out.toList,e,vals_ints P,n⟩,rfl,q O _ (U.trans w) T (g.hok.fresh (aac _))⟩
  ·have k:=acu hu;rw[sortedHeap_old (aao k) (by rw[size_push'];grind),Heap.get?_push_ne _ _ _ (aao k)]
   lia
  ·rw[aae,(U.trans w).length_eq];lia
section
variable{X:Cx}
theorem zW{ns:List Int}(T:b.K=X.K)(R:Rel b F σ H ρ (v::τ) (r::θ))(B:az ρ r=some d)(e:tP d=some (ns.map PyData.int)):∃p,v=.ref p/\(SqL X.K H p (ns.map V.int)\/SqT X.K H p (ns.map V.int)):=by
 have W:=R.dt B;rw[T]at W;rcases iu e with rfl|rfl
 ·cases W with|lst f u=>rw[DtAll.ints' u]at f;exact⟨_,rfl,.inl f⟩
 ·cases W with|tup f u=>rw[DtAll.ints' u]at f;exact⟨_,rfl,.inr f⟩
theorem wK{ns O:List Int}{a:Addr}{P:Prop}(R:Rel b F σ H ρ τ θ)(y:O.Perm ns)(o:O.Pairwise (·<=·))(m:H a=none)(k:Rel b F σ (upd H a (.lst (O.map V.int))) ρ (.ref a::τ) (.val (.lst ((sortI ns).map λi=>.fz (.int i)))::θ)->P):P:=by
 have:=l9 (y.trans (sortI_perm _).symm) o (jB _);subst this;refine k (R.push ?_);have w:=R.wd.adds (ds:=(sortI ns).map PyData.int) λS _=>FzA.ints _;have:=Wd.eg w (by simp) m;rw[aaU]at this
 trivial
theorem wL(U:X.calm=true) (N:Gl X "sorted") (Y:X.mg "sorted"=none) (n:isStar a=false) (O:PDe X a (aF C ma)):PDe X (.Call (.Name "sorted" p) [a] [] pos) (aF C (.bnw .sorted ma)):=by obtain⟨te,h,s⟩:=O;refine⟨_,dO (mh U) N Y tT (aZ h ck (aC n)) (by decide) (by rfl) (aC n) rfl,λb F L H I z S w Q T R ⟨y,h,q⟩ k=>?_⟩;obtain⟨P,d,D,i,_,J,B,e,c,j,h⟩:=bn5 h;cases h;refine s b F L H I z S (λr M=>r=P.1/\M=P.2) _ T R ⟨P,J,rfl,rfl⟩ λv l r M g t=>?_;obtain⟨O,Z⟩:=t;subst O Z;have A:=jA c;subst A;obtain⟨x,rfl,f⟩:=zW T g B e;exact⟨x,i,rfl,f,gd_ok j,λW a u o m=>wK g.drop u o m (k _ _ _ _ · q)⟩
end
end
section
theorem Ows.addA(nt:∀c xs,H c=some (.tup xs)->¬ S c)(O:Ows b S H vs xs A)(Z:Ows b S H us zs C)(Q:(A++C).Nodup):∃D,Ows b S H (vs++us) (xs++zs) D/\D.Nodup/\∀c∈D,c∈A\/c∈C:=⟨A++C,Ows.append O Z,Q,λc U=>aaj.mp U⟩
theorem Ows.one(h:Ows b S H [v] [z] C):Ow b S H v z C:=by
 cases h with
 |cons r t=>cases t;rw[aap];exact r
theorem Ows.setA(W:j<xs.length)(O:Ows b S H vs xs A)(Z:Ows b S H [v] [z] C)(Q:(A++C).Nodup):∃D,Ows b S H (vs.set j v) (xs.set j z) D/\D.Nodup/\∀c∈D,c∈A\/c∈C:=by
 obtain⟨q,F,B,X,J,rfl,s,e⟩:=O.zip (aam W);refine⟨F++(C++X),e Z.one λ_ h=>h,?_,λc U=>?_⟩
 ·have p:((F++(B++X))++C).Perm (B++(F++(C++X))):=by refine((cm F B X).append_right C).trans ?_;rw[aab];refine aa6 B ?_;rw[aab];exact aa6 F aa5
  exact(aau.mp (p.nodup_iff.mp Q)).2.1
 ·simp only[aaj]at U ⊢;rcases U with U|U|U
  ·exact .inl (.inl U)
  ·exact .inr U
  ·exact .inl (.inr (.inr U))
theorem ki:∀{fs:List (Str×V)}{xs:List OD},fs.length=xs.length->(cj f v fs).map (·.1)=(bt f z (fs.map (·.1)) xs).1
 |[],[],_=>rfl
 | (g,q)::fs,x::xs,e=>by
  simp only[cj,bt,aal];by_cases N:g=f
  ·rw[if_pos N,if_pos N];rfl
  ·rw[if_neg N,if_neg N,aal,ki (fs:=fs) (by simpa using e)]
 |[],_::_,e=>by simp at e
 |_::_,[],e=>by simp at e
theorem iA:∀{fs:List (Str×V)}{xs:List OD}{A:List Addr},Ows b S H (fs.map (·.2)) xs A->Ow b S H v z C->(A++C).Nodup->∃D,Ows b S H ((cj f v fs).map (·.2)) (bt f z (fs.map (·.1)) xs).2 D/\D.Nodup/\∀c∈D,c∈A\/c∈C
 |[],_,_,.nil,h2,nd=>⟨C++[],.cons h2 .nil,by grind,λc U=>.inr (by grind)⟩
 | (g,q)::fs,x::xs,_,.cons (A:=A1) (B:=A2) r t,h2,nd=>by
  simp only[cj,bt,aal];by_cases N:g=f
  ·rw[if_pos N,if_pos N];refine⟨C++A2,.cons h2 t,?_,λc U=>?_⟩
   ·grind
   ·grind
  ·rw[if_neg N,if_neg N];rw[aab]at nd;obtain⟨Y,a,n⟩:=aau.mp nd;obtain⟨D,i,k,T⟩:=iA t h2 a;refine⟨A1++D,.cons r i,aau.mpr ⟨Y,k,λc U M P e=>n c U M (aaj.mpr (T M P)) e⟩,λc U=>?_⟩
   grind
theorem kj(e:ws.length=xs.length):(putK ws k v).map (·.1)=(putKey k d (ws.map (·.1)) xs).1:=by
 unfold putK putKey;rw[List.any_map];have L:((λq=>decide (q=k)) ∘ λx:Key×V=>x.1)=λB=>decide (B.1=k):=rfl;rw[L];by_cases F:(ws.any λB=>decide (B.1=k))=true
 ·rw[if_pos F,if_pos F,aaU];refine acd λq _=>?_;simp only[Function.comp];split<;>rfl
 ·rw[if_neg F,if_neg F,aaE];rfl
theorem mj(o:Fz b.K S H v d):∀{ws:List (Key×V)}{xs:List OD}{A:List Addr},Ows b S H (ws.map (·.2)) xs A->∃D,Ows b S H ((ws.map (λB=>if B.1=k then (B.1,v) else B)).map (·.2)) (List.zipWith (λq x=>if q=k then .fz d else x) (ws.map (·.1)) xs) D/\D.Sublist A
 |[],_,_,.nil=>⟨[],.nil,List.Sublist.refl _⟩
 | (g,q)::ws,x::xs,_,.cons (A:=A1) r t=>by
  obtain⟨D,i,T⟩:=mj o t;simp only[aal,List.zipWith_cons_cons];by_cases N:g=k
  ·rw[if_pos N,if_pos N];exact⟨[]++D,.cons (.fz o) i,(aaI D).symm▸T.trans (List.sublist_append_right _ _)⟩
  ·rw[if_neg N,if_neg N];exact⟨A1++D,.cons r i,(List.Sublist.refl A1).append T⟩
theorem iB(O:Ows b S H (ws.map (·.2)) xs A)(Z:Ows b S H [v] [.fz d] C)(Q:(A++C).Nodup):∃D,Ows b S H ((putK ws k v).map (·.2)) (putKey k d (ws.map (·.1)) xs).2 D/\D.Nodup/\∀c∈D,c∈A\/c∈C:=by
 have y:Fz b.K S H v d:=by cases Z with|cons r t=>cases r with|fz f=>exact f
 have Y:=(aau.mp Q).1;unfold putK putKey;rw[List.any_map];have L:((λq=>decide (q=k)) ∘ λx:Key×V=>x.1)=λB=>decide (B.1=k):=rfl;rw[L];by_cases F:(ws.any λB=>decide (B.1=k))=true
 ·rw[if_pos F,if_pos F];obtain⟨D,i,T⟩:=mj y O;exact⟨D,i,T.nodup Y,λc U=>.inl (T.subset U)⟩
 ·rw[if_neg F,if_neg F,aaE];exact⟨A++[],Ows.append O (.cons (.fz y) .nil),by simpa using Y,λc U=>.inl (by simpa using U)⟩
section
variable{i j:Nat}
theorem EC{o i:Expr}(h:bO i=false):∀v,assign (.Subscript o i pos) env v=(do
   let ov <-holding [v] (eval o env)
   let iv <-holding [v,ov] (eval i env)
   standAt pos
   holding [v,ov,iv] (setItem ov iv v)
   release [v,ov,iv] []):=by
 cases i<;>first|(intro _;rfl)|cases h
theorem wM{env:Env}(h:isStar e=false):((backTo cpos (starEach [e] env)).all (λx=>!x.1)&&(backToKw cpos (keywordEach [] env)).all (λx=>x.1.isSome)
   && decide ([e].length+([]:List Keyword).length+(if ([]:List Keyword).isEmpty then 0 else 1)<30))=true:=by
 cases e<;>first|rfl|cases h
theorem Rel.cell{b:Bs}{τ:List V}{x:OD}(R:Rel b F σ H ρ τ θ)(n:ρ[i]?.join=some x)(A:x.at ks=some (.lst xs))(ev:σ[i]?=some (some v))(ch:Chn b H v x ks u (.lst xs)):∃l vs,u=.ref l/\H l=some (.lst vs):=by obtain⟨L,P,k⟩:=R.slot (join_some n);rw[ev]at P;cases P;obtain⟨w,N,C,Q,_,_⟩:=Wd.vr (us:=[]) (zs:=[]) k rfl A;exact⟨w,N,(Chn.det ch C).1,Q⟩
theorem Rel.cell0{b:Bs}{F:List Fr}(R:Rel b F σ H ρ τ θ)(n:ρ[i]?.join=some (.lst xs)):∃v,σ[i]?=some (some v)/\∃l vs,v=.ref l/\H l=some (.lst vs):=by obtain⟨v,a⟩:=R.wf.get (join_some n);exact⟨v,a,R.cell n rfl a .nil⟩
theorem Rel.vu{b:Bs}{x o:OD}{v I:V}(R:Rel b F σ H ρ (I::τ) (.val o::θ))(n:ρ[i]?.join=some x)(Y:x.at ks=some (.lst xs))(ev:σ[i]?=some (some v))(ch:Chn b H v x ks (.ref l) (.lst xs))(d:xs.length<1000000):
  ∃vs,H l=some (.lst vs)/\vs.length<sizeLine/\Rel b F σ (upd H l (.lst (vs++[I]))) (ρ.set i (some (OD.put (.lst (xs++[o])) ks x))) τ θ:=by
 obtain⟨L,P,w⟩:=Rel.open (us:=[I]) (zs:=[o]) R rfl n;rw[ev]at P;cases P;obtain⟨r,vs,M,m,t,h⟩:=w.vr rfl Y;obtain⟨N,_⟩:=Chn.det ch M;cases N;exact⟨vs,m,aas (by lia) (by decide:1000001<=sizeLine),Rel.close (Rel.rest (us:=[I]) (zs:=[o]) R rfl) ev (h (vs++[I]) (xs++[o]) λS H A C s O Z Q=>Ows.addA s O Z Q)⟩
theorem Ib(u:X.N[i]?=some x) (hv:Vis X.env.scope x) (hd:(x==("__debug__":Str))=false) (L:(x==("__classdict__":Str))=false) (l:(apos.endLine==cpos.line)=true) (g:isStar e=false):
  PDe X e (aF C ma)->PDs X W (.Expr (.Call (.Attribute (.Name x pos') "append" apos) [e] [] cpos) pos) (fK C (.app i ma))
 |⟨_,h,s⟩=>⟨_,gJ (qb abT abU abV eG (bD u hv hd L) (aZ h ck (aC g)) rfl (wM g) l (aC g) (bH rfl)) rfl,λb F σ H ρ τ θ Dd D T n R ⟨y,h,q⟩ E=>by
  obtain⟨x0,a0,z,o,x1,S,f0,J,B,k,h⟩:=bn5 h;obtain⟨xs,_,f,d,h⟩:=bn2 h;cases h;rw[fh f0]at S;rw[fh f]at k;obtain⟨v,a,w,U,rfl,Q⟩:=R.cell0 S;refine⟨.ref w,a,.inl ⟨rfl,U,SqL.of Q⟩,?_⟩;refine s b F σ H ρ τ θ (λr p=>r=z.1/\p=z.2) _ T R ⟨z,J,rfl,rfl⟩ λI P r A M t=>?_;obtain⟨O,Z⟩:=t;subst O Z;obtain⟨c,m,hl,Y⟩:=Rel.vu (M.own1 B) k rfl a .nil (gd_ok d);exact⟨w,c,I,rfl,rfl,m,hl,E.nx σ _ _ Y q⟩⟩
theorem Ic(S:attributeBase e "append" X.env (eval e X.env)=eval e X.env) (l:(apos.endLine==cpos.line)=true) (g:isStar a=false):
  PDp X e i ps->PDq X a (ka C ma)->PDs X W (.Expr (.Call (.Attribute e "append" apos) [a] [] cpos) pos) (fK C (.apd i ps ma))
 |⟨_,h0,s0⟩,⟨_,h,s⟩=>⟨_,gJ (qb abT abU abV eG h0 (aZ h ck (aC g)) S (wM g) l (aC g) (bH rfl)) rfl,λb F σ H ρ τ θ p D T n R ⟨y,h,q⟩ E=>by
  obtain⟨r,d,O,_,J,B,k,x,h⟩:=bn4 h;cases h;obtain⟨o,A⟩:=path_at J;refine s0 b F σ H ρ τ θ _ r T R J λv u U f=>?_;rw[fh k]at A f;obtain⟨w,N,rfl,Q⟩:=R.cell o A U f;refine⟨.inl ⟨rfl,N,SqL.of Q⟩,s b F σ H ρ τ θ _ d T R B λI P L M=>?_⟩;obtain⟨c,m,t,Y⟩:=Rel.vu M o A U (f.ext L) (gd_ok x);exact⟨w,c,I,rfl,rfl,m,t,E.nx σ _ _ Y q⟩⟩
theorem Rel.moved{b:Bs}(R:Rel b F σ H ρ τ θ)(e:ρ[j]?.join=some y):∃v,σ[j]?=some (some v)/\Rel b F σ H (ρ.set j none) (v::τ) (.val y::θ):=by
 obtain⟨v,a⟩:=R.wf.get (join_some e);have d:Rel b F σ H ρ (v::τ) (.rf j::θ):=⟨R.wf,⟨a,R.al⟩,R.wff,R.wd⟩
 obtain⟨_,_,w⟩:=R.slot (join_some e);rename_i L P;rw[a]at P;cases P;exact⟨v,a,⟨R.wf.off,R.al,R.wff,w⟩⟩
theorem Ie(u:X.N[i]?=some x) (hv:Vis X.env.scope x) (hd:(x==("__debug__":Str))=false) (L:(x==("__classdict__":Str))=false) (hk:bO kx=false) (g:swapsWith e (some (.Subscript (.Name x pos') kx p2)) pos.line X.env=pure false) (hw:swappedStores [.Subscript (.Name x pos') kx p2] e X.env=pure none):
  PDe X e (aF C ma)->PDe X kx (aF C mk')->PDs X W (.Assign [.Subscript (.Name x pos') kx p2] e pos) (fK C (.sti i mk' ma))
 |⟨_,O,s1⟩,⟨_,Z,s2⟩=>⟨_,uN O (CP (bD u hv hd L) Z set_list (EC hk)) g hw rfl,λb F σ H ρ τ θ Dd D T n R ⟨y,h,q⟩ E=>by
  obtain⟨z,o,J,B,h⟩:=bn2 h;refine s1 b F σ H ρ τ θ (λr p=>r=z.1/\p=z.2) _ T R ⟨z,J,rfl,rfl⟩ λI H1 r a1 M hZ=>?_;obtain⟨O,Z⟩:=hZ;subst O Z;have R2:=M.own1 B;obtain⟨x0,a0,t,dk,k,e0,f0,s,ek,fk,h⟩:=bn5 h;obtain⟨x1,xs,d,ex,f1,U,h⟩:=bn3 h;rw[aT fk]at ek;rw[fh f1]at ex
  ·obtain⟨v,a⟩:=R2.wf.get (join_some e0);refine⟨v,a,s2 b F σ H1 _ _ _ (λr p=>r=t.1/\p=t.2) _ T R2 ⟨t,s,rfl,rfl⟩ λv2 H2 r a2 Y hZ=>?_⟩;obtain⟨O,Z⟩:=hZ;subst O Z
   ·cases h;have hk:=Y.dt ek;cases hk;obtain⟨v',P,w⟩:=Rel.open (us:=[I]) (zs:=[o.1]) Y.drop rfl ex;rw[a]at P;cases P;obtain⟨l,c,f,m,hl,go⟩:=w.vr (ks:=[]) rfl rfl;cases f;refine⟨l,c,k,d,rfl,rfl,m,by grind,?_⟩;exact E.nx σ _ _ (Rel.close (Rel.rest (us:=[I]) (zs:=[o.1]) Y.drop rfl) a (go (c.set d I) (xs.set d o.1) λS H A C nt O Z Q=>Ows.setA (D2 U) O Z Q)) q⟩
theorem Ig(U:X.A.units+1<cLine) (u:X.N[i]?=some x) (hv:Vis X.env.scope x) (hd:(x==("__debug__":Str))=false) (L:(x==("__classdict__":Str))=false) (g:swapsWith e (some (.Subscript (.Name x pos') kx p2)) pos.line X.env=pure false):
  PDe X e (aF C ma)->PDe X kx (aF C mk')->PDs X W (.Assign [.Subscript (.Name x pos') kx p2] e pos) (fK C (.sdk i mk' ma))
 |⟨_,O,s1⟩,⟨_,Z,s2⟩=>⟨_,qh U (bD u hv hd L) Z O g,λb F σ H ρ τ θ Dd D T n R ⟨y,h,q⟩ E=>by
  obtain⟨z,o,J,B,h⟩:=bn2 h;refine s1 b F σ H ρ τ θ (λr p=>r=z.1/\p=z.2) _ T R ⟨z,J,rfl,rfl⟩ λI H1 r a2 M hZ=>?_;obtain⟨O,Z⟩:=hZ;subst O Z;have R2:=M.frz1 B;obtain⟨x0,_,t,kd,c,e0,f0,s,e4,e5,h⟩:=bn5 h;obtain⟨x1,uu,_,ex,f1,d,h⟩:=bn3 h;have d:=gd_ok d;rw[ir f1]at ex
  ·obtain⟨v,a⟩:=R2.wf.get (join_some e0);refine⟨v,a,s2 b F σ H1 _ _ _ (λr p=>r=t.1/\p=t.2) _ T R2 ⟨t,s,rfl,rfl⟩ λv2 H2 r a3 Y hZ=>?_⟩;obtain⟨O,Z⟩:=hZ;subst O Z
   ··cases h
     have hk:=Y.dt e4;have a1:v2=kV c:=by cases kd<;>cases e5<;>cases hk<;>rfl
     subst a1;obtain⟨v',P,w⟩:=Rel.open (us:=[I]) (zs:=[.fz o.1]) Y.drop rfl ex;rw[a]at P;cases P;obtain⟨l,ws,f,m,a0,hl,go⟩:=w.r3 (ks:=[]) rfl rfl;cases f;obtain⟨ks,xs⟩:=uu;simp only at a0 hl q go d;subst a0;refine⟨l,_,rfl,DPut.k m (aas (by lia) (by decide:1000001<=sizeLine)),?_⟩;exact E.nx σ _ _ (Rel.close (Rel.rest (us:=[I]) (zs:=[.fz o.1]) Y.drop rfl) a (go (putK ws c I) _ _ (kj hl) λS H A C nt O Z Q=>iB O Z Q)) q⟩
theorem Ih(U:X.A.units+1<cLine)(g:swapsWith a (some (.Subscript e B p2)) pos.line X.env=pure false):
  PDp X e i ps->PX X B (λσ=>σ[j]?.join)->PDe X a (aF C ma)->PDs X W (.Assign [.Subscript e B p2] a pos) (fK C (.std i ps j ma))
 |⟨_,h0,s0⟩,⟨_,Z,s2⟩,⟨_,O,s1⟩=>⟨_,qh U h0 Z O g,λb F σ H ρ τ θ Dd D T n R ⟨y,h,q⟩ E=>by
  obtain⟨z,o,r,J,B,s,h⟩:=bn3 h;refine s1 b F σ H ρ τ θ (λr p=>r=z.1/\p=z.2) _ T R ⟨z,J,rfl,rfl⟩ λI H1 r' a1 M t=>?_;obtain⟨O,Z⟩:=t;subst O Z;have N:=M.frz1 B;obtain⟨x0,kd,c,uu,_,e4,f0,L,ex,d,h⟩:=bn5 h;have d:=gd_ok d;have ex:=ir ex;rw[cL f0]at e4;obtain⟨ks,Y⟩:=uu;simp only at d ex h
  ···cases h
     obtain⟨g1,g2⟩:=path_at s;refine s0 b F σ H1 _ _ _ _ r T N s λv u ev f=>s2 σ H1 _ _ (N.keyS e4 L) ?_;obtain⟨v',P,w⟩:=Rel.open (us:=[I]) (zs:=[.fz o.1]) N rfl g1;rw[ev]at P;cases P;rw[ex]at g2 f;obtain⟨l,ws,a0,m,x,hl,go⟩:=w.r3 rfl g2;obtain⟨e6,_⟩:=Chn.det f a0;subst e6 x;refine⟨l,_,rfl,DPut.k m (aas (by lia) (by decide:1000001<=sizeLine)),?_⟩;exact E.nx σ _ _ (Rel.close (Rel.rest (us:=[I]) (zs:=[.fz o.1]) N rfl) ev (go (putK ws c I) _ _ (kj hl) λS H A C nt O Z Q=>iB O Z Q)) q⟩
theorem Ii{c f:Str} (u:X.N[i]?=some x) (hv:Vis X.env.scope x) (hd:(x==("__debug__":Str))=false) (L:(x==("__classdict__":Str))=false) (U:Cls X.K (av X.K c)) (hn:NoAttr X.K (av X.K c) f) (g:swapsWith e (some (.Attribute (.Name x pos') f p2)) pos.line X.env=pure false):
  PDe X e (aF C ma)->PDs X W (.Assign [.Attribute (.Name x pos') f p2] e pos) (fK C (.stf i c f ma))
 |⟨_,O,s1⟩=>⟨_,Dc (bD u hv hd L) O g,λb F σ H ρ τ θ Dd D T n R ⟨y,h,q⟩ E=>by
  obtain⟨z,o,J,B,h⟩:=bn2 h;refine s1 b F σ H ρ τ θ (λr p=>r=z.1/\p=z.2) _ T R ⟨z,J,rfl,rfl⟩ λI P r a0 M t=>?_;obtain⟨O,Z⟩:=t;subst O Z;have R2:=M.own1 B;obtain⟨x0,uu,_,k,f0,d,h⟩:=bn3 h;have d:=gd_ok d;rw[j9 f0]at k;obtain⟨c',ns,xs⟩:=uu;simp only at d k h
  ··cases h
    obtain⟨Y,d⟩:=d;subst Y;obtain⟨v,a,w⟩:=Rel.open (us:=[I]) (zs:=[o.1]) R2 rfl k;obtain⟨l,dx,fs,ch,m,s,hl,go⟩:=w.mutO (ks:=[]) rfl rfl;cases ch;subst s;refine⟨.ref l,a,l,_,dx,fs,rfl,m,T▸U,T▸hn,by lia,?_⟩;exact E.nx σ _ _ (Rel.close (Rel.rest (us:=[I]) (zs:=[o.1]) R2 rfl) a (go (cj f I fs) _ _ (ki hl) λS H A C nt O Z Q=>iA O Z.one Q)) q⟩
theorem Ij{c f:Str} (hN:X.N[i]?=some x) (hv:Vis X.env.scope x) (hd:(x==("__debug__":Str))=false) (a4:(x==("__classdict__":Str))=false) (hc:Cls X.K (av X.K c)) (hn:NoAttr X.K (av X.K c) f) (O:PDe X e (aF C ma)):
  PDs X W (.AugAssign (.Attribute (.Name x pos') f p2) (opOf o) e pos) (fK C (.agf i c f o ma)):=by
 have p:∀(U:Operator) (g:Int->Int->Int),yV X U (λx y H Q=>∃i j,x=.int i/\y=.int j/\Q (.int (g i j)) H)->(∀a d r,l4 o a d=some r->∃k,d=.int k/\r=g a k)->PDs X W (.AugAssign (.Attribute (.Name x pos') f p2) U e pos) (fK C (.agf i c f o ma)):=λU g ho hg=>by
  obtain⟨_,h,s1⟩:=O;refine⟨_,sy (bD hN hv hd a4) h ho,λb F L H I τ θ Dd D T n R ⟨y,h,q⟩ E=>?_⟩;obtain⟨r,d0,m,z,d,J,f0,f1,B,e3,h⟩:=bn5 h;obtain⟨nr,x1,uu,_,e4,ex,f5,hz,h⟩:=bn4 h;have hz:=gd_ok hz;rw[j9 f5]at ex;obtain⟨c2,a5,a8⟩:=uu;simp only at hz ex h;have e0:=cL f0;rw[aT f1]at e0;cases h
  ·have a6:=hg;obtain⟨k,rfl,rfl⟩:=hg _ _ _ e4;obtain⟨g1,g2⟩:=path_at J;obtain⟨v,ev,w0⟩:=R.slot (join_some g1);obtain⟨u,ch⟩:=w0.way g2;have hu:=R.q7 J ev ch (by rw[e0];rfl);obtain⟨r0,k0,z0,f1,f2,f3,J⟩:=bn3 J;obtain⟨x0,f4,f1⟩:=bnd f1;cases f1;cases J;simp only[aaI]at ch g2 e0 f2 f3 g1;obtain⟨ns,xs,ey,f7⟩:=HW f2;subst ey;cases ch with
   |cons cd cn=>
    cases cn;cases cd with
    |@obj l dx c' fs _ _ _ _ _ q1 q2 q5 q3 q4=>
     ·cases hu;refine⟨_,ev,l,_,dx,fs,.int m,rfl,q1,T▸hc,T▸hn,lookup_at (by rw[q2];exact f7) q3,?_⟩;refine s1 b F L H I τ θ (λr a0=>r=z.1/\a0=z.2) _ T R ⟨z,B,rfl,rfl⟩ λv1 H1 r a7 R1 t=>?_;obtain⟨O,Z⟩:=t;subst O Z;have a2:=R1.dt e3;cases a2;refine⟨m,k,rfl,rfl,?_⟩
      ··obtain⟨Y,hz⟩:=hz
        subst Y;have R2:Rel b F L H1 z.2 (.int (g m k)::τ) (.val (.fz (.int (g m k)))::θ):=R1.drop.sc (.int _);obtain⟨v',P,w⟩:=Rel.open (us:=[.int (g m k)]) (zs:=[.fz (.int (g m k))]) R2 rfl ex;rw[ev]at P;cases P;obtain⟨l2,M,s,a1,hH,a3,hl,go⟩:=w.mutO (ks:=[]) rfl rfl;cases a1;subst a3;refine⟨M,s,hH,by lia,?_⟩;exact E.nx L _ _ (Rel.close R1.drop ev (go (cj f _ s) _ _ (ki hl) λS H A C nt O Z nd=>iA O Z.one nd)) q
 have nil:∀U,(∀a d,l4 o a d=none)->PDs X W (.AugAssign (.Attribute (.Name x pos') f p2) U e pos) (fK C (.agf i c f o ma)):=λU hn=>by refine⟨_,lz,λb F L H I τ θ Dd D T n R ⟨y,h,q⟩ E=>?_⟩;obtain⟨r,d0,m,z,dk,J,f0,f1,B,ek,h⟩:=bn5 h;rw[hn]at h;cases h
 cases o with
 |add=>exact p _ _ De λa d r h=>by cases d<;>cases h;exact⟨_,rfl,rfl⟩
 |sub=>exact p _ _ Dg λa d r h=>by cases d<;>cases h;exact⟨_,rfl,rfl⟩
 |_=>exact nil _ λa d=>rfl
theorem qw{K:Waa}:∀{xs:List V}{ds:List PyData}{ns:List Int},DtAll K H xs ds->gz ds=some ns->xs=ns.map V.int
 |[],_,ns,.nil,e=>by cases e;rfl
 |_::_,_::_,ns,.cons h t,e=>by obtain⟨i,r,J,B,e⟩:=bn2 e;cases e;rw[aT J]at h;cases h;rw[qw t B];rfl
theorem ED(h:KJ r=some ds):r=.val (.fz (.tuple ds)):=by
 unfold KJ at h
 grind
theorem Ik{o1 k:Expr}{I:Pos}(l:(apos.endLine==cpos.line)=true)(g:isStar e=false):PDe X (.Subscript o1 k I) (aF C mk')->PDe X e (aF C ma)->PDe X (.Call (.Attribute (.Subscript o1 k I) "index" apos) [e] [] cpos) (aF C (.idx mk' ma))
 |⟨_,h1,s1⟩,⟨_,h2,s2⟩=>⟨_,qb PySem.F.plainAttrs_tuple PySem.F.slot_tuple_index PySem.F.type_tuple_index tM h1 (aZ h2 ck (aC g)) rfl (wM g) l (aC g) (bH rfl),λb F σ H ρ τ θ w Q T R ⟨y,h,q⟩ c=>by
  obtain⟨x,D,z,d,n,J,B,s,e4,L,h⟩:=bn5 h;obtain⟨ns,j,e6,f,h⟩:=bn2 h;cases h;refine s1 b F σ H ρ τ θ (λr p=>r=x.1/\p=x.2) _ T R ⟨x,J,rfl,rfl⟩ λv P r a0 M t=>?_;obtain⟨S,A⟩:=t;subst S A;rw[ED B]at M;have hd:=M.dt (d:=.tuple D) rfl;cases hd with
  |@tup a xs _ hq hall=>
   rw[T]at hq;refine⟨.inr (.inl ⟨rfl,_,hq⟩),?_⟩;refine s2 b F σ P _ _ _ (λr p=>r=z.1/\p=z.2) _ T M ⟨z,s,rfl,rfl⟩ λu H2 r a1 N t=>?_;obtain⟨S,A⟩:=t;subst S A;rw[aT L]at e4;have U:=N.dt e4;cases U;have O:=N.drop.dt (d:=.tuple D) rfl;cases O with
   |@tup _ xs2 _ hq2 hall2=>
    rw[T]at hq2;rw[qw hall2 e6]at hq2;obtain⟨W,p1,o⟩:=ace.mp f;refine⟨a,ns,n,j,rfl,rfl,hq2,?_,λm Y Z=>?_,c _ H2 _ _ (N.drop.drop.sc (.int j)) q⟩
    ·rw[aam W,Daa p1]
    ·obtain⟨hl,Z⟩:=aai.mp Z;exact o m Y (Dac Z)⟩
theorem zX{X:Cx}{o:TE}(s:bJ X.K o (aF C ma)):bJ X.K (vC (tVar i) o) (aF C (.dgt i ma)):=λb F σ H ρ τ S Qd Q T R ⟨y,h,q⟩ c=>by
 obtain⟨x0,q0,z,d,k,g,I,J,B,e3,h⟩:=bn5 h;obtain⟨x1,m,w,e,L,N,h⟩:=bn3 h;cases h;rw[ir I]at g;rw[ir L]at e;obtain⟨v,ev,w0⟩:=R.slot (join_some g);obtain⟨ad,ws,ch,hH,_⟩:=Wd.r3 (us:=[]) (zs:=[]) (ks:=[]) w0 rfl rfl;cases ch;refine⟨_,ev,ad,rfl,.inl ⟨ws,.inl hH⟩,?_⟩;refine s b F σ H ρ τ S (λr p=>r=z.1/\p=z.2) _ T R ⟨z,J,rfl,rfl⟩ λu P r A M t=>?_;obtain⟨g1,g2⟩:=t;subst g1 g2;obtain⟨v2,W,n⟩:=M.slot (join_some e);rw[ev]at W;cases W;obtain⟨a3,Y,O,D,x,a2,_⟩:=Wd.r3 (us:=[]) (zs:=[]) (ks:=[]) n rfl rfl;cases O;have U:=M.dt B;have Z:u=kV k:=by cases d<;>cases e3<;>cases U<;>rfl
 subst Z;refine⟨_,DGet.k D,?_⟩;unfold dgV at N;cases hf:m.1.findIdx? (λq=>decide (q=k)) with
 |none=>
  rw[hf]at N;cases N;have l:valV Y k=none:=by have:=kh (k:=k) (ws:=Y);rw[x,acf.mp hf |> λz=>(List.any_eq_false.mpr λa ha=>by rw[z a ha];decide)]at this;exact Option.isSome_eq_false_iff.mp this |> Option.isNone_iff_eq_none.mp
  rw[l];exact c _ P _ _ (M.drop.sc .non) q
 |some j=>
  rw[hf]at N;obtain⟨zz,f,e8⟩:=bnd N;rw[cL e8]at f;have hj:j<Y.length:=by rw[a2];exact(aai.mp f).1
  have hw:(Y[j]?).map (·.2)=some Y[j].2:=by rw[aam hj];rfl
  rw[kf (by rw[x];exact hf) hw];exact c _ P _ _ (Rel.partZ M.drop (ks:=[j]) e (by show (match m.2[j]? with|some z=>OD.at [] z|none=>none)=_;rw[f];rfl) ev (.cons (.dic D x a2 hw f) .nil)) q
theorem Im(U:X.A.units+1<cLine) (u:X.N[i]?=some x) (o:Vis X.env.scope x) (W:(x==("__debug__":Str))=false) (L:(x==("__classdict__":Str))=false) (l:(apos.endLine==cpos.line)=true) (g:isStar e=false):PDe X e (aF C ma)->PDe X (.Call (.Attribute (.Name x pos') "get" apos) [e] [] cpos) (aF C (.dgt i ma))
 |⟨_,h,s⟩=>⟨_,vD U (bD u o W L) h ⟨rfl,wM g,l,by rw[aC g];rfl⟩,zX s⟩
inductive Dsp:List (Str×Int)->List (Option Expr)->List Expr->Prop
 |nil:Dsp [] [] []
 |cons {x n j k p p' ks es vs}:Dsp ks es vs->Dsp ((x,n)::ks) (some (.Constant (.str x) j p)::es) (.Constant (.int n) k p'::vs)
theorem Dsp.all{es:List (Option Expr)}(h:Dsp ks es vs):es.all (·.isSome)=true/\es.length=vs.length/\es.length=ks.length:=by
 induction h with
 |nil=>exact⟨rfl,rfl,rfl⟩
 |cons _ Y=>exact⟨by simp[Y.1],by simp[Y.2.1],by simp[Y.2.2]⟩
end
end
section
section
variable{X:Cx}{ff:Nat}
theorem tU{E:XK}(S:vJ sp)(u:vs.length=rs.length)(M:Rel b F σ H ρ1 (vs++τ) (rs++θ))(J:ba ios ρ1 rs=some (xs,ρ2))(h:sp xs P)
  (q:∀x ys v l,P x ys->Rel b F σ l (dY ios rs ys ρ2) (v::τ) (.val x::θ)->Q v l):toSp b.K sp vs H Q E:=by
 obtain⟨N,B⟩:=argsR_ok M u J;have W:=((aS u).mp M.al).1;have w:=N.vals B;refine w.call B S (S _ _ _ (λx ys C d v l D=>q x ys v l C ?_) h);have Y:Rel b F σ l ρ2 (v::(vs++τ)) (.val x::(ys.map OR.val++θ)):=by have i:=N.drops (by grind);refine⟨i.wf,(aS (by grind)).mpr ⟨fG d,i.al⟩,i.wff,?_⟩;show Wd b l ((v,x)::(stk (vs++τ) (ys.map OR.val++θ)++_));rw[aH (by grind),cq d,aab];omega
 exact bQ W d (Rel.wj Y (by grind))
def spC(g:List OD->Option (OD×List OD)):DSp:=λY Q=>∃w,g Y=some w/\Q w.1 w.2
theorem wN(g:List OD->Option (OD×List OD)):vJ (spC g):=λY P R h ⟨w,e,q⟩=>⟨w,e,h _ _ q⟩
theorem tV{f:Str}:∀{fs:List (Str×V)},f ∉ fs.map (·.1)->fs.lookup f=none
 |[],_=>rfl
 | (g,q)::fs,h=>by
  grind
theorem ml(G:FnD X.prog X.w X.K X.mg X.base k f fd ps (spC (C.call ff)))(s1:vK X.K ta (dM C mes)):bJ X.K (u7 (av X.K c) m (toSp X.K (spC (C.call ff))) [] E0 (tVar i) ta) (aF C (.meth c m ff i mes)):=λb F L H I τ S Qd Q T R ⟨y,h,q⟩ kk=>by
 obtain⟨D,uu,_,e,f0,d,h⟩:=bn3 h;obtain⟨Y,d⟩:=gd_ok d;rw[j9 f0,Y]at e
 ··obtain⟨z,J,h⟩:=bnd h
   obtain⟨o,w,B,s,h⟩:=bn2 h;cases h;obtain⟨v,a,w0⟩:=R.slot (join_some e);obtain⟨l,n,fs,ch,hH,W,j,go⟩:=Wd.mutO (us:=[]) (zs:=[]) (ks:=[]) w0 rfl rfl;cases ch;rw[<-W]at d;refine⟨.ref l,a,l,n,fs,rfl,T▸hH,tV d,?_⟩;have R0:Rel b F L H I (.ref l::τ) (.rf i::S):=⟨R.wf,⟨a,R.al⟩,R.wff,R.wd⟩
   refine s1 b F L H I _ _ (λr p=>r=z.1/\p=z.2) _ T R0 ⟨z,J,rfl,rfl⟩ λvs H1 U A u M t=>?_;obtain⟨O,Z⟩:=t;subst O Z;rw[aap,<-T];refine tU (P:=λx N=>x=w.1/\N=w.2) G.mono (by simp[u]) (Rel.wk M u) B ⟨w,s,rfl,rfl⟩ λx N v H' hx g=>?_;obtain⟨O,Z⟩:=hx;subst O Z;exact kk v H' _ _ g q
theorem Ld(y:methodCallForm n args kws=true)(j:(apos.endLine==pos.line)=true):
  methodCall o name apos pos env ov n args kws=(do let (f,first) <-holding [ov] (getMethod ov name (do return (<-importBound o env).getD true));callWith pos f first args kws):=by
 unfold methodCall calleeOf methodCallPos;rw[y,j];rfl
theorem wO(h:es.any isStar=false)(l:decide (es.length<30)=true)(j:(apos.endLine==pos.line)=true):
  eval (.Call (.Attribute (.Name x p1) m apos) es [] pos) env=(do
   let Y <-eval (.Name x p1) env
   standAt apos.atName
   let (f,first) <-holding [Y] (getMethod Y m (do return (<-importBound (.Name x p1) env).getD true))
   callWith pos f first (backTo pos (starEach es env)) (backToKw pos (keywordEach [] env))):=by
 have y:methodCallForm (es.length+([]:List Keyword).length) (backTo pos (starEach es env)) (backToKw pos (keywordEach [] env))=true:=by
  have O:(backTo pos (starEach es env)).all (λz=>!z.1)=true:=by
   have:=bH (pos:=pos) (env:=env) h
   grind
  unfold methodCallForm;rw[O]
  trivial
 show (eval (.Name x p1) env >>= λY=>standAt apos.atName >>= λ_=>methodCall (.Name x p1) m apos pos env Y (es.length+([]:List Keyword).length) (backTo pos (starEach es env)) (backToKw pos (keywordEach [] env)))=_;simp only[Ld y j]
theorem EE(U:Cls X.K (av X.K c))(Y:Meth X.K (av X.K c) m f)(G:FnD X.prog X.w X.K X.mg X.base k f fd ps (spC (C.call ff)))(D:Room k X.A)(S:Binds X.K fd ps [])
  (u:X.N[i]?=some x) (o:Vis X.env.scope x) (W:(x==("__debug__":Str))=false) (L:(x==("__classdict__":Str))=false) (n:isStar e=false) (H:es.any isStar=false) (l:decide ((e::es).length<30)=true) (j:(apos.endLine==pos.line)=true):
  PDa X (e::es) (dM C mes)->PDe X (.Call (.Attribute (.Name x p1) m apos) (e::es) [] pos) (aF C (.meth c m ff i mes))
 |⟨_,h1,s1⟩=>⟨_,yX (E:=E0) (bD u o W L) U Y G.ok D S .nil lF h1 (aC n) (bH H) (wO (by rw[aaO,n,H];rfl) l j),ml G s1⟩
theorem zY(U:Cls X.K (av X.K c))(Y:Meth X.K (av X.K c) m f)(G:FnD X.prog X.w X.K X.mg X.base k f fd ps (spC (C.call ff)))(D:Room k X.A)(S:Binds X.K fd ps [])
  (u:X.N[i]?=some x) (o:Vis X.env.scope x) (W:(x==("__debug__":Str))=false) (L:(x==("__classdict__":Str))=false) (j:(apos.endLine==pos.line)=true):
  PDe X (.Call (.Attribute (.Name x p1) m apos) [] [] pos) (aF C (.meth c m ff i .nil)):=
 ⟨_,u9 (bD u o W L) U Y G.ok D S .nil lF (wO rfl rfl j),ml G λb F B H I z a n Q T R ⟨y,h,q⟩ l=>by
  cases h;exact l [] H [] I rfl R q⟩
theorem Wd.newObj{p dx:Addr}(w:Wd b H L)(m:H p=none)(C:H dx=none)(O:dx≠p):Wd b (upd (upd H dx (.own p)) p (.ins (av b.K c) dx [])) ((.ref p,.obj c [] [])::L):=by
 obtain⟨A,T,Q,N⟩:=w.out;have P:=w.al T m;have d:=w.al T C;have I:=w.l3 T;have f:=w.new C (o:=.own p);have M:upd H dx (.own p) p=none:=by rw[upd_ne (λe=>O e.symm)];omega
 have D:=f.new M (o:=.ins (av b.K c) dx []);have u:Kp (λc=>c∈A\/b.S0 c) H (upd (upd H dx (.own p)) p (.ins (av b.K c) dx [])):=⟨λc o e _=>by
   rw[upd_ne (λz=>by grind),upd_ne (λz=>by grind)];exact e,λc e=>by
   by_cases z:c=p
   ·grind
   ·rw[upd_ne z]at e;by_cases W:c=dx
    ·grind
    ·rw[upd_ne W]at e;exact e⟩
 have n:∀c,(c∈p::dx::A\/b.S0 c)->(c∈A\/b.S0 c)\/H c=none:=λc z=>by
  grind
 refine⟨⟨p::dx::A,Ows.cons (A:=[p,dx]) (.obj aB (by rw[upd_ne O];exact aB) rfl rfl .nil) (Ows.step u n I (λa i=>?_) T),aat.mpr ⟨λz=>?_,aat.mpr ⟨λz=>d (.inl z),Q⟩⟩,λa i=>?_⟩,D.fr,D.s0,D.nt⟩
 ·have J:a≠p:=λe=>P (.inl (e▸i));have B:a≠dx:=λe=>d (.inl (e▸i));rw[upd_ne J,upd_ne B]
 ·grind
 ·rcases aaa.mp i with rfl|i
  ·exact .inl (w.u3 m)
  ·rcases aaa.mp i with rfl|i
   ·exact .inl (w.u3 C)
   ·grind
theorem wQ(G:FnD X.prog X.w X.K X.mg X.base k f fd ps (spC (C.mak ff)))(s1:vK X.K ta (dM C mes)):bJ X.K (Bz (av X.K c) (toSp X.K (spC (C.mak ff))) [] E0 ta) (aF C (.make c ff mes)):=λb F L H I τ S Qd Q T R ⟨y,h,q⟩ kk=>by
 obtain⟨z,o,w,J,B,s,h⟩:=bn3 h;refine s1 b F L H I _ _ (λr p=>r=z.1/\p=z.2) _ T R ⟨z,J,rfl,rfl⟩ λvs H1 rs A u M t=>?_;obtain⟨O,Z⟩:=t;subst O Z;intro e n m hx ne;obtain⟨N,a⟩:=argsR_ok M u B;have W:=((aS u).mp M.al).1;have w0:=Wd.newObj (c:=c) N.wd m hx ne;have Y:=Rel.push N w0;rw[aap,<-T];have e4:=a;have w1:=Rel.vals (vs:=.ref e::vs) (xs:=.obj c [] []::o.1) Y (by grind);obtain⟨yy,ew,h⟩:=bnd h;obtain⟨a0,U⟩:=Ei ew;obtain⟨g,P⟩:=yy;simp only at U
 ·cases h;refine w1.call (by grind) G.mono ⟨w,s,λd v l D=>?_⟩;rw[a0,U]at D;rw[U]at d;have j:vs.length=P.length:=by grind
  have i:=N.drops (by grind);have x:Rel b F L l o.2 (v::(.ref e::(vs++τ))) (.val (.fz .none)::.val g::(P.map OR.val++S)):=by refine⟨i.wf,(aS (by grind)).mpr ⟨fG j,i.al⟩,i.wff,?_⟩;show Wd b l ((v,.fz .none)::(.ref e,g)::(stk (vs++τ) (P.map OR.val++S)++_));rw[aH (by grind),cq j,aab];exact D
  have hv:=x.dt rfl;cases hv;refine⟨rfl,kk _ l _ _ ?_ q⟩;exact bQ W j (Rel.wj x.drop (by grind))
theorem EF(M:Mk X.K (av X.K c) f) (G:FnD X.prog X.w X.K X.mg X.base k f fd ps (spC (C.mak ff))) (D:Room (k+1) X.A) (N:Gl X x) (Y:X.mg x=some (.ref (av X.K c))) (S:Binds X.K fd ps []) (Z:(x==("__debug__":Str))=false)
  (n:isStar e=false) (H:es.any isStar=false):PDa X (e::es) (dM C mes)->PDe X (.Call (.Name x p) (e::es) [] pos) (aF C (.make c ff mes))
 |⟨_,h1,s1⟩=>⟨_,yY (E:=E0) M G.ok D N Y S .nil lF h1 Z (aC n) (bH H),wQ G s1⟩
end
end
section
section
variable{X:Cx}{C:Ct}{a b c e:Expr}{es:List Expr}{ma mb mc:E}{pos p p2 apos cpos:Pos}{o:O2}{ta tb:TE}
theorem FzA.strs{K:Waa}{S:Addr->Prop}{H:Hp}:∀xs:List Str,FzA K S H (xs.map V.str) (xs.map PyData.str)
 |[]=>.nil
 |x::r=>.cons (.str x) (FzA.strs r)
end
end
section
section
variable{X:Cx}{C:Ct}{pos p p2 apos cpos:Pos}
inductive Dk (X:Cx)(C:Ct):List Str->List (Option Expr)->List Expr->Es->Prop
 |nil:Dk X C [] [] [] .nil
 |cons {x j p ks e es me mes xs}:PDe X e (aF C me)->Dk X C xs ks es mes->Dk X C (x::xs) (some (.Constant (.str x) j p)::ks) (e::es) (.cons me mes)
theorem Dk.all{xs:List Str}{ks:List (Option Expr)}{es:List Expr}{s:Es}(h:Dk X C xs ks es s):ks.all (·.isSome)=true/\ks.length=es.length/\ks.length=xs.length:=by
 induction h with
 |nil=>exact⟨rfl,rfl,rfl⟩
 |cons _ _ Y=>exact⟨by simp[Y.1],by simp[Y.2.1],by simp[Y.2.2]⟩
end
end
section
def bT(e:PySem.Expr):Option (Str):=if h:e.ctorIdx=23 then some (@PySem.Expr.Name.elim (λ_=>Str) e h λx _=>x) else none
theorem asNm_ok{e:PySem.Expr}{z:Str}(h:bT e=some z):∃p,e=.Name z p:=by
 by_cases U:e.ctorIdx=23
 ·revert h;exact@PySem.Expr.Name.elim (λe=>bT e=some z->∃p,e=.Name z p) e U λx p h=>by cases h;simp
 ·rw[bT,dif_neg U]at h;cases h
noncomputable def iC(e:PySem.Expr):Option (Const):=if h:e.ctorIdx=19 then some (@PySem.Expr.Constant.elim (λ_=>Const) e h λc _ _=>c) else none
theorem fL{e:PySem.Expr}{z:Const}(h:iC e=some z):∃j p,e=.Constant z j p:=by
 by_cases U:e.ctorIdx=19
 ·revert h;exact@PySem.Expr.Constant.elim (λe=>iC e=some z->∃j p,e=.Constant z j p) e U λc j p h=>by cases h;simp
 ·rw[iC,dif_neg U]at h;cases h
noncomputable def qx(e:PySem.Expr):Option (Expr×Operator×Expr):=if h:e.ctorIdx=2 then some (@PySem.Expr.BinOp.elim (λ_=>Expr×Operator×Expr) e h λx o y _=>(x,o,y)) else none
theorem wR(h:qx e=some z):∃p,e=.BinOp z.1 z.2.1 z.2.2 p:=by
 by_cases U:e.ctorIdx=2
 ·revert h;exact@PySem.Expr.BinOp.elim (λe=>qx e=some z->∃p,e=.BinOp z.1 z.2.1 z.2.2 p) e U λx o y p h=>by cases h;simp
 ·rw[qx,dif_neg U]at h;cases h
def mo(e:PySem.Expr):Option (Expr×List CmpOp×List Expr):=if h:e.ctorIdx=15 then some (@PySem.Expr.Compare.elim (λ_=>Expr×List CmpOp×List Expr) e h λx C o _=>(x,C,o)) else none
theorem asCmp_ok(h:mo e=some z):∃p,e=.Compare z.1 z.2.1 z.2.2 p:=by
 by_cases U:e.ctorIdx=15
 ·revert h;exact@PySem.Expr.Compare.elim (λe=>mo e=some z->∃p,e=.Compare z.1 z.2.1 z.2.2 p) e U λx C o p h=>by cases h;simp
 ·rw[mo,dif_neg U]at h;cases h
def zZ(e:PySem.Expr):Option (BoolOp×List Expr×Pos):=if h:e.ctorIdx=0 then some (@PySem.Expr.BoolOp.elim (λ_=>BoolOp×List Expr×Pos) e h λo Y p=>(o,Y,p)) else none
theorem z5(h:zZ e=some z):e=.BoolOp z.1 z.2.1 z.2.2:=by
 by_cases U:e.ctorIdx=0
 ·revert h;exact@PySem.Expr.BoolOp.elim (λe=>zZ e=some z->e=.BoolOp z.1 z.2.1 z.2.2) e U λo Y p h=>by cases h;rfl
 ·rw[zZ,dif_neg U]at h;cases h
noncomputable def wU(e:PySem.Expr):Option (UnaryOp×Expr):=if h:e.ctorIdx=3 then some (@PySem.Expr.UnaryOp.elim (λ_=>UnaryOp×Expr) e h λo x _=>(o,x)) else none
theorem qy{e:PySem.Expr}{z:UnaryOp×Expr}(h:wU e=some z):∃p,e=.UnaryOp z.1 z.2 p:=by
 by_cases U:e.ctorIdx=3
 ·revert h;exact@PySem.Expr.UnaryOp.elim (λe=>wU e=some z->∃p,e=.UnaryOp z.1 z.2 p) e U λo x p h=>by cases h;simp
 ·rw[wU,dif_neg U]at h;cases h
def z6(e:PySem.Expr):Option (Expr×Expr×Expr):=if h:e.ctorIdx=5 then some (@PySem.Expr.IfExp.elim (λ_=>Expr×Expr×Expr) e h λc a b _=>(c,a,b)) else none
theorem z7(h:z6 e=some z):∃p,e=.IfExp z.1 z.2.1 z.2.2 p:=by
 by_cases U:e.ctorIdx=5
 ·revert h;exact@PySem.Expr.IfExp.elim (λe=>z6 e=some z->∃p,e=.IfExp z.1 z.2.1 z.2.2 p) e U λc a b p h=>by cases h;simp
 ·rw[z6,dif_neg U]at h;cases h
def cQ(e:PySem.Expr):Option (List Expr):=if h:e.ctorIdx=25 then some (@PySem.Expr.Tuple.elim (λ_=>List Expr) e h λY _ _=>Y) else none
theorem asTup_ok(h:cQ e=some z):∃k p,e=.Tuple z k p:=by
 by_cases U:e.ctorIdx=25
 ·revert h;exact@PySem.Expr.Tuple.elim (λe=>cQ e=some z->∃k p,e=.Tuple z k p) e U λY k p h=>by cases h;simp
 ·rw[cQ,dif_neg U]at h;cases h
def qz(e:PySem.Expr):Option (List Expr):=if h:e.ctorIdx=24 then some (@PySem.Expr.List.elim (λ_=>List Expr) e h λY _=>Y) else none
theorem wV(h:qz e=some z):∃p,e=.List z p:=by
 by_cases U:e.ctorIdx=24
 ·revert h;exact@PySem.Expr.List.elim (λe=>qz e=some z->∃p,e=.List z p) e U λY p h=>by cases h;simp
 ·rw[qz,dif_neg U]at h;cases h
def ei(e:PySem.Expr):Option (Expr×Expr):=if h:e.ctorIdx=21 then some (@PySem.Expr.Subscript.elim (λ_=>Expr×Expr) e h λx y _=>(x,y)) else none
theorem asSub_ok(h:ei e=some z):∃p,e=.Subscript z.1 z.2 p:=by
 by_cases U:e.ctorIdx=21
 ·revert h;exact@PySem.Expr.Subscript.elim (λe=>ei e=some z->∃p,e=.Subscript z.1 z.2 p) e U λx y p h=>by cases h;simp
 ·rw[ei,dif_neg U]at h;cases h
noncomputable def fq(e:PySem.Expr):Option (Expr×List Expr×List Keyword×Pos):=if h:e.ctorIdx=16 then some (@PySem.Expr.Call.elim (λ_=>Expr×List Expr×List Keyword×Pos) e h λf Y S p=>(f,Y,S,p)) else none
theorem eM(h:fq e=some z):e=.Call z.1 z.2.1 z.2.2.1 z.2.2.2:=by
 by_cases U:e.ctorIdx=16
 ·revert h;exact@PySem.Expr.Call.elim (λe=>fq e=some z->e=.Call z.1 z.2.1 z.2.2.1 z.2.2.2) e U λf Y S p h=>by cases h;rfl
 ·rw[fq,dif_neg U]at h;cases h
def fM(e:PySem.Expr):Option (Expr×Str×Pos):=if h:e.ctorIdx=20 then some (@PySem.Expr.Attribute.elim (λ_=>Expr×Str×Pos) e h λo f p=>(o,f,p)) else none
theorem asAtt_ok(h:fM e=some z):e=.Attribute z.1 z.2.1 z.2.2:=by
 by_cases U:e.ctorIdx=20
 ·revert h;exact@PySem.Expr.Attribute.elim (λe=>fM e=some z->e=.Attribute z.1 z.2.1 z.2.2) e U λo f p h=>by cases h;rfl
 ·rw[fM,dif_neg U]at h;cases h
noncomputable def qA(e:PySem.Expr):Option (List (Option Expr)×List Expr):=if h:e.ctorIdx=6 then some (@PySem.Expr.Dict.elim (λ_=>List (Option Expr)×List Expr) e h λS c _=>(S,c)) else none
theorem wW{e:PySem.Expr}{z:List (Option Expr)×List Expr}(h:qA e=some z):∃p,e=.Dict z.1 z.2 p:=by
 by_cases U:e.ctorIdx=6
 ·revert h;exact@PySem.Expr.Dict.elim (λe=>qA e=some z->∃p,e=.Dict z.1 z.2 p) e U λS c p h=>by cases h;simp
 ·rw[qA,dif_neg U]at h;cases h
def oE(e:PySem.Expr):Option (Expr×List Comprehension×Scope×Pos):=if h:e.ctorIdx=8 then some (@PySem.Expr.ListComp.elim (λ_=>Expr×List Comprehension×Scope×Pos) e h λx S s p=>(x,S,s,p)) else none
theorem qB(h:oE e=some z):e=.ListComp z.1 z.2.1 z.2.2.1 z.2.2.2:=by
 by_cases U:e.ctorIdx=8
 ·revert h;exact@PySem.Expr.ListComp.elim (λe=>oE e=some z->e=.ListComp z.1 z.2.1 z.2.2.1 z.2.2.2) e U λx S s p h=>by cases h;rfl
 ·rw[oE,dif_neg U]at h;cases h
def Le:Const->Option Int|.int k=>some k|_=>none
def Lf:Const->Option Str|.str k=>some k|_=>none
def Lh:Const->Option Bool|.bool k=>some k|_=>none
def Li:Const->Bool|.none=>true|_=>false
def jD(e:Expr):Option Int:=(iC e).bind Le
def BS(e:Expr):Option Str:=(iC e).bind Lf
def Ip(e:Expr):Option Bool:=(iC e).bind Lh
def wX(e:Expr):Bool:=(iC e).any Li
def BU(e:Expr):Bool:=(qA e).any λz=>z.1.isEmpty&&z.2.isEmpty
def isTup(e:Expr):Bool:=(cQ e).isSome
theorem anyT{Y:Type}{o:Option Y}{p:Y->Bool}(h:o.any p=true):∃a,o=some a/\p a=true:=by
 cases o with
 |none=>cases h
 |some a=>exact⟨a,rfl,h⟩
theorem ay2{α β:Type}{o:Option α}{g1:α->Option β}{f:α->β->Bool}(h:(o.any λa=>(g1 a).any (f a))=true):∃a b,o=some a/\g1 a=some b/\f a b=true:=by obtain⟨a,p0,h⟩:=anyT h;obtain⟨b,p1,h⟩:=anyT h;exact⟨a,b,p0,p1,h⟩
theorem ay3{α β γ:Type}{o:Option α}{g1:α->Option β}{g2:α->β->Option γ}{f:α->β->γ->Bool}(h:(o.any λa=>(g1 a).any λb=>(g2 a b).any (f a b))=true):∃a b c,o=some a/\g1 a=some b/\g2 a b=some c/\f a b c=true:=by obtain⟨a,p0,h⟩:=anyT h;obtain⟨b,p1,h⟩:=anyT h;obtain⟨c,p2,h⟩:=anyT h;exact⟨a,b,c,p0,p1,p2,h⟩
theorem ay4{α β γ δ:Type}{o:Option α}{g1:α->Option β}{g2:α->β->Option γ}{g3:α->β->γ->Option δ}{f:α->β->γ->δ->Bool}(h:(o.any λa=>(g1 a).any λb=>(g2 a b).any λc=>(g3 a b c).any (f a b c))=true):∃a b c d,o=some a/\g1 a=some b/\g2 a b=some c/\g3 a b c=some d/\f a b c d=true:=by obtain⟨a,p0,h⟩:=anyT h;obtain⟨b,p1,h⟩:=anyT h;obtain⟨c,p2,h⟩:=anyT h;obtain⟨d,p3,h⟩:=anyT h;exact⟨a,b,c,d,p0,p1,p2,p3,h⟩
theorem ay5{α β γ δ ε:Type}{o:Option α}{g1:α->Option β}{g2:α->β->Option γ}{g3:α->β->γ->Option δ}{g4:α->β->γ->δ->Option ε}{f:α->β->γ->δ->ε->Bool}(h:(o.any λa=>(g1 a).any λb=>(g2 a b).any λc=>(g3 a b c).any λd=>(g4 a b c d).any (f a b c d))=true):∃a b c d e,o=some a/\g1 a=some b/\g2 a b=some c/\g3 a b c=some d/\g4 a b c d=some e/\f a b c d e=true:=by obtain⟨a,p0,h⟩:=anyT h;obtain⟨b,p1,h⟩:=anyT h;obtain⟨c,p2,h⟩:=anyT h;obtain⟨d,p3,h⟩:=anyT h;obtain⟨e,p4,h⟩:=anyT h;exact⟨a,b,c,d,e,p0,p1,p2,p3,p4,h⟩
theorem an2{a b:Bool}(h:(a&&b)=true):a=true/\b=true:=abW.mp h
theorem asInt_ok{k:Int}(h:jD e=some k):∃j p,e=.Constant (.int k) j p:=by obtain⟨c,O,h⟩:=bnd h;obtain⟨j,p,rfl⟩:=fL O;cases c<;>cases h;simp
theorem asStr_ok(h:BS e=some k):∃j p,e=.Constant (.str k) j p:=by obtain⟨c,O,h⟩:=bnd h;obtain⟨j,p,rfl⟩:=fL O;cases c<;>cases h;simp
theorem asBl_ok(h:Ip e=some k):∃j p,e=.Constant (.bool k) j p:=by obtain⟨c,O,h⟩:=bnd h;obtain⟨j,p,rfl⟩:=fL O;cases c<;>cases h;simp
theorem iD(h:wX e=true):∃j p,e=.Constant .none j p:=by obtain⟨c,O,h⟩:=anyT h;obtain⟨j,p,rfl⟩:=fL O;cases c<;>cases h;simp
theorem wY(h:BU e=true):∃p,e=.Dict [] [] p:=by
 obtain⟨z,O,h⟩:=anyT h;obtain⟨p,rfl⟩:=wW O
 grind
theorem fN(h:isTup e=true):∃xs k p,e=.Tuple xs k p:=by obtain⟨z,O⟩:=aa1.mp h;obtain⟨k,p,rfl⟩:=asTup_ok O;simp
theorem an3(h:(a&&b&&c)=true):a=true/\b=true/\c=true:=by grind
theorem yF(h:(a&&b&&c&&d)=true):a=true/\b=true/\c=true/\d=true:=by grind
theorem an5(h:(a&&b&&c&&d&&e)=true):a=true/\b=true/\c=true/\d=true/\e=true:=by grind
theorem bu(h:(!a)=true):a=false:=by grind
noncomputable def mq{Y:Type}:List Y->Option (Y×List Y)|x::xs=>some (x,xs)|_=>none
theorem con1_ok{Y:Type}{l:List Y}{x:Y×List Y}(h:mq l=some x):l=x.1::x.2:=by cases l<;>cases h;rfl
structure Tb where
 fn:Nat->Option Str
 me:Nat->Option (Str×Str)
 mk':Nat->Option Str
 gc:Nat->Option Str
 nog:Str->Bool
 fld:Str->Str->Bool
 kd:Str->List (Str×Str)->Bool:=λ_ _=>false
structure Cy (t:Tb)(C:Ct)(X:Cx):Prop where
 calm:X.calm=true
 units:X.A.units+64<cLine
 guards:X.A.guards=some []
 hfn:∀j nm,t.fn j=some nm->∃k fa fd ps,FnD X.prog X.w X.K X.mg X.base k fa fd ps (spC (C.call j))/\Room k X.A/\X.mg nm=some (.ref fa)/\PySem.W.keepIn X.K (.ref fa)=true/\Binds X.K fd ps []
 hme:∀j c m,t.me j=some (c,m)->Cls X.K (av X.K c)/\∃k fa fd ps,Meth X.K (av X.K c) m fa/\FnD X.prog X.w X.K X.mg X.base k fa fd ps (spC (C.call j))/\Room k X.A/\Binds X.K fd ps []
 hmk:∀j c,t.mk' j=some c->∃k fa fd ps,Mk X.K (av X.K c) fa/\FnD X.prog X.w X.K X.mg X.base k fa fd ps (spC (C.mak j))/\Room (k+1) X.A/\X.mg c=some (.ref (av X.K c))/\Binds X.K fd ps []
 hgc:∀g nm,t.gc g=some nm->∃v u,X.mg nm=some u/\RelV v u/\∀S H,Fz X.K S H v (C.gv g)
 hng:∀x,t.nog x=true->X.mg x=none
 hfl:∀c f,t.fld c f=true->Cls X.K (av X.K c)/\NoAttr X.K (av X.K c) f
 hkd:∀x kvs,t.kd x kvs=true->∃d,X.mg x=some (.ref d)/\KDict X.K X.w d kvs
theorem Cy.comp{t:Tb}{C:Ct}{X:Cx}(c:Cy t C X){N:List Str}{sc:Scope}{q:CC}:Cy t C (cB X N sc q):=⟨c.calm,c.units,c.guards,c.hfn,c.hme,c.hmk,c.hgc,c.hng,c.hfl,c.hkd⟩
def sEq(x y:Str):Bool:=decide (x=y)
theorem bw(h:sEq x y=true):x=y:=Daa h
noncomputable def kindB(sc:Scope)(x:Str)(k:NameKind):Bool:=decide (sc.names.lookup x=some k)
theorem aM(h:kindB sc x k=true):sc.names.lookup x=some k:=Daa h
def EG(sc:Scope)(x:Str):Bool:=kindB sc x .local||kindB sc x .cell||kindB sc x .free
def z8(sc:Scope)(x:Str):Bool:=kindB sc x .local||kindB sc x .cell
theorem z9(h:EG sc x=true):Vis sc x:=by
 unfold EG at h;rw[aba,aba]at h;rcases h with (h|h)|h
 ·exact .inl (aM h)
 ·exact .inr (.inl (aM h))
 ·exact .inr (.inr (aM h))
theorem qC(h:z8 sc x=true):Loc sc x:=by
 unfold z8 at h;rw[aba]at h;rcases h with h|h
 ·exact .inl (aM h)
 ·exact .inr (aM h)
def okN(x:Str):Bool:=!(x==("__debug__":Str))&&!(x==("__classdict__":Str))
def uH(N:List Str)(sc:Scope)(i:Nat)(x:Str):Bool:=decide (N[i]?=some x)&&EG sc x&&okN x
structure NmX (X:Cx)(i:Nat)(x:Str):Prop where
 n:X.N[i]?=some x
 v:Vis X.env.scope x
 d:(x==("__debug__":Str))=false
 c:(x==("__classdict__":Str))=false
theorem bK(h:uH X.N X.env.scope i x=true):NmX X i x:=by unfold uH okN at h;simp only[aaC,abx]at h;exact⟨Daa h.1.1,z9 h.1.2,h.2.1,h.2.2⟩
def BV(N:List Str)(sc:Scope)(i:Nat)(e:Expr):Bool:=(bT e).any λx=>uH N sc i x
theorem iF{N:List Str}(h:BV N sc i e=true):∃x p,e=.Name x p/\uH N sc i x=true:=by obtain⟨x,O,h⟩:=anyT h;obtain⟨p,rfl⟩:=asNm_ok O;exact⟨x,p,rfl,h⟩
def Gc(sc:Scope)(x:Str):Bool:=kindB sc x .globalImplicit&&!(x==("__debug__":Str))
theorem cM(h:Gc X.env.scope x=true):Gl X x/\(x==("__debug__":Str))=false:=by unfold Gc at h;rw[aaC]at h;exact⟨aM h.1,by simpa using h.2⟩
def uI(t:Tb)(sc:Scope)(x y:Str):Bool:=sEq x y&&Gc sc x&&t.nog x
theorem blB_ok(c:Cy t C X)(h:uI t X.env.scope x y=true):x=y/\Gl X y/\X.mg y=none:=by unfold uI at h;simp only[aaC]at h;obtain⟨⟨O,Z⟩,M⟩:=h;have:=bw O;subst this;exact⟨rfl,(cM Z).1,c.hng _ M⟩
def Jz(o:Bo)(U:Operator):Bool:=decide (U=opOf o)
theorem oF(h:Jz o op=true):op=opOf o:=Daa h
def JA(o:Co)(U:CmpOp):Bool:=decide (U=coOf o)
theorem iG(h:JA o op=true):op=coOf o:=Daa h
def isSet:Expr->Bool
 |.Set _ _ _=>true
 |_=>false
theorem eA(U:CmpOp)(h:isSet e=false):behindInMarks U e=false:=by cases e<;>first|rfl|cases h
theorem kl(h:isSet e=false):∀x,foldedSetIterable e env x=pure x:=by cases e<;>first|(intro _;rfl)|cases h
def isCall:Expr->Bool
 |.Call _ _ _ _=>true
 |_=>false
theorem km(h:isCall e=false):attributeBase e f env (eval e env)=eval e env:=by cases e<;>first|rfl|cases h
def EH:UnaryOp->Bool|.USub=>true|_=>false
theorem qD{o:UnaryOp}(h:EH o=true):o=.USub:=by cases o<;>first|rfl|cases h
def LV(k:Int)(e:Expr):Bool:=((jD e).any λj=>decide (j=k))||(wU e).any λz=>EH z.1&&(jD z.2).any λj=>decide (-j=k)
theorem Iq{j:Nat}{p I:Pos}:PX X (.UnaryOp .USub (.Constant (.int k) j p) I) (λ_=>some (.int (-k))):=⟨_,Bw uS gT,λL H Q v e q=>by cases e;exact⟨k,rfl,q⟩⟩
theorem wZ(h:LV k e=true):PX X e (λ_=>some (.int k))/\bO e=false:=by
 rcases acg.mp h with h|h
 ·obtain⟨j,O,h⟩:=anyT h;obtain⟨_,_,rfl⟩:=asInt_ok O;have:=Daa h;subst this;exact⟨HV,rfl⟩
 ·obtain⟨z,O,h⟩:=anyT h;obtain⟨p,rfl⟩:=qy O;obtain⟨j,Z,M⟩:=anyT (an2 h).2;obtain⟨_,_,B⟩:=asInt_ok Z;have:=Daa M;subst this;rw[qD (an2 h).1,B];exact⟨Iq,rfl⟩
def cN(t:Tb)(N:List Str)(sc:Scope)(i:Nat):List Acc->Expr->Bool
 |[]=>λe=>BV N sc i e
 |.fld c f::ps=>λe=>(fM e).any λz=>sEq z.2.1 f&&t.fld c f&&!isCall z.1&&cN t N sc i ps z.1
 |.ix k::ps=>λe=>(ei e).any λz=>LV k z.2&&cN t N sc i ps z.1
 |.key j::ps=>λe=>(ei e).any λz=>BV N sc j z.2&&cN t N sc i ps z.1
theorem w8(h:BV X.N X.env.scope j e=true):PX X e (λσ=>σ[j]?.join)/\bO e=false:=by obtain⟨x,p,rfl,h⟩:=iF h;obtain⟨O,Z,M,P⟩:=bK h;exact⟨K2 O Z M P,rfl⟩
theorem Lk(h:bO e=false):NoSl e:=by cases e<;>first|exact λ_ _=>rfl|cases h
theorem aX(c:Cy t C X):∀(ps:List Acc) (e:Expr),cN t X.N X.env.scope i ps e=true->PDp X e i ps
 |[],e,h=>by obtain⟨x,p,rfl,h⟩:=iF h;obtain⟨O,Z,M,P⟩:=bK h;exact K3 O Z M P
 |.fld cn f::ps,e,h=>by obtain⟨z,O,k⟩:=anyT h;obtain⟨I,U,T,l⟩:=yF k;rw[asAtt_ok O,bw I];exact HX (km (bu T)) (c.hfl _ _ U).1 (c.hfl _ _ U).2 (aX c ps _ l)
 |.ix k::ps,e,h=>by obtain⟨z,O,k⟩:=anyT h;obtain⟨I,U⟩:=an2 k;obtain⟨p,rfl⟩:=asSub_ok O;exact K4 (kc (wZ (X:=X) I).2) (aX c ps _ U) (wZ I).1
 |.key j::ps,e,h=>by obtain⟨z,O,k⟩:=anyT h;obtain⟨I,U⟩:=an2 k;obtain⟨p,rfl⟩:=asSub_ok O;exact HZ (by have:=c.units;lia) (Lk (w8 I).2) (aX c ps _ U) (w8 I).1
def mr(T:Nat->Bool)(N:List Str)(sc:Scope)(fn:Bool)(m i:Nat)(x:Str):Bool:=decide (N[i]?=some x)&&z8 sc x&&(fn||kindB sc x .local)&&decide (i<m)&&T i
def w9(T:Nat->Bool)(N:List Str)(sc:Scope)(fn:Bool)(m:Nat):List Nat->List Expr->Bool
 |[]=>λes=>es.isEmpty
 |i::is=>λes=>(mq es).any λz=>(bT z.1).any λx=>mr T N sc fn m i x&&w9 T N sc fn m is z.2
def xf(T:Nat->Bool)(N:List Str)(sc:Scope)(fn:Bool)(m:Nat):Tg->Expr->Bool
 |.nm i=>λe=>(bT e).any λx=>mr T N sc fn m i x
 |.tp ts=>λe=>(cQ e).any λes=>w9 T N sc fn m ts es
theorem eN{i:Nat}{x:Str}(y:fn=true->∀x,X.fn x=true)(Q:∀i,ok i=true->¬ W i)(h:mr ok X.N X.env.scope fn m i x=true):Sto X W m i x:=by unfold mr at h;simp only[aaC,aba]at h;obtain⟨⟨⟨⟨O,Z⟩,M⟩,P⟩,f⟩:=h;exact⟨Daa O,qC Z,M.imp (λz=>y z x) aM,Daa P,Q i f⟩
theorem mw(y:fn=true->∀x,X.fn x=true)(Q:∀i,ok i=true->¬ W i):∀(P:List Nat) (es:List Expr),w9 ok X.N X.env.scope fn m P es=true->Stos X W m P es
 |[],es,h=>by
  cases es with
  |nil=>exact .nil
  |cons _ _=>cases h
 |i::is,es,h=>by obtain⟨z,x,O,Z,k⟩:=ay2 h;obtain⟨p,B⟩:=asNm_ok Z;rw[con1_ok O,B];exact .cons (eN y Q (an2 k).1) (mw y Q is _ (an2 k).2)
theorem fO{f:Tg}{e:Expr}(U:X.calm=true)(u:X.N.Nodup)(y:fn=true->∀x,X.fn x=true)(Q:∀i,ok i=true->¬ W i)(h:xf ok X.N X.env.scope fn m f e=true):PDg X W m e (iz f):=by
 cases f with
 |nm i=>obtain⟨x,O,k⟩:=anyT h;obtain⟨p,rfl⟩:=asNm_ok O;exact KU u (eN y Q k)
 |tp P=>obtain⟨L,O,k⟩:=anyT h;obtain⟨_,_,rfl⟩:=asTup_ok O;exact KW U u (mw y Q _ _ k)
noncomputable def tX(sc C:Scope):Scope:={ sc with names:=sc.names.map λ(n,k)=>if (k==NameKind.free&&C.kind==.function&&C.names.lookup n==some .cell) then (n,NameKind.cell) else (n,k) }
noncomputable def EI:Expr->List Str
 |.Name x _=>[x]
 |.Tuple [.Name x _,.Tuple es _ _] _ _=>x::es.filterMap fun|.Name x _=>some x|_=>none
 |.Tuple es _ _=>es.filterMap fun|.Name x _=>some x|_=>none
 |_=>[]
def xg(N:List Str)(nt:Nat)(n:List Str)(sc C:Scope):Nat->List Nat->Bool
 |_,[]=>true
 |i,j::fr=>(match N[nt+i]? with
  |some x=>decide (n[j]?=some x)&&kindB C x .cell&&kindB sc x .free
  |none=>false)&&xg N nt n sc C (i+1) fr
def qH(N:List Str)(nt:Nat)(fr:List Nat)(n:List Str)(sc C:Scope):Bool:=
 decide (sc.kind=.function)&&sc.names.all (λx=>!decide (x.2=.cell))&&sc.names.all (λx=>!decide (x.2=.local)||kindB sc x.1 .local)&&decide (N.length=nt+fr.length)&&xg N nt n sc C 0 fr &&
  sc.names.all (λx=>!decide (x.2=.free)||(kindB C x.1 .cell&&kindB sc x.1 .free))
theorem qI:∀{fr:List Nat}{X:Nat},xg N nt ON sc osc X fr=true->∀(i j:Nat),fr[i]?=some j->∃x,N[nt+(X+i)]?=some x/\ON[j]?=some x/\osc.names.lookup x=some .cell/\sc.names.lookup x=some .free
 |[],_,_,i,j,e=>by simp at e
 |j0::fr,X,h,0,j,e=>by
  simp at e;subst e;simp only[xg,aaC]at h;obtain⟨h,_⟩:=h;split at h
  ·rename_i x k;simp only[aaC]at h;exact⟨x,k,Daa h.1.1,aM h.1.2,aM h.2⟩
  ·cases h
 |j0::fr,X,h,i+1,j,e=>by simp only[xg,aaC]at h;obtain⟨x,O,Z⟩:=qI h.2 i j (by simpa using e);exact⟨x,by rw[show X+(i+1)=X+1+i by omega];exact O,Z⟩
theorem iH(h:qH N nt fr ON sc osc=true):CompScope N nt fr ON sc osc:=by
 unfold qH at h;simp only[aaC,abh,aba,abx,decide_eq_false_iff_not,decide_eq_true_eq]at h;obtain⟨⟨⟨⟨⟨O,Z⟩,M⟩,P⟩,f⟩,F⟩:=h;refine⟨O,λx C=>Z x C,λx C e=>?_,P,λi j e=>?_,λx C e=>?_,λx C e=>?_⟩
 ·exact(M x C).elim (λz=>absurd e z) aM
 ·have:=qI f i j e;rwa [aaP]at this
 ·exact(F x C).elim (λz=>absurd e z) λz=>aM z.1
 ·exact(F x C).elim (λz=>absurd e z) λz=>aM z.2
end
section
abbrev Ck:=List Str->Scope->Expr->Bool
def fP(f:Ck):Ck×Ck:=(f,λN C e=>plainT e&&f N C e)
def MN:Bn->Str
 |.list=>"list" |.tuple=>"tuple" |.sorted=>"sorted"
def MO:Knd->Str
 |.int=>"int" |.bool=>"bool" |.str=>"str" |.list=>"list" |.tuple=>"tuple" |.seq=>"list"
def xh(e:Expr):Option (Str×List Expr):=(fq e).bind λz=>(bT z.1).bind λx=>if z.2.2.1.isEmpty then some (x,z.2.1) else none
theorem gL{z}(h:xh e=some z):∃p I,e=.Call (.Name z.1 p) z.2 [] I:=by
 obtain⟨c,x,O,Z,h⟩:=bn2 h;obtain⟨f,Y,S,I⟩:=c;cases S with
 |cons _ _=>cases h
 |nil=>cases h;obtain⟨p,rfl⟩:=asNm_ok Z;exact⟨p,I,eM O⟩
def EJ(e:Expr):Option (Expr×CmpOp×Expr):=(mo e).bind λz=>(eX z.2.1).bind λo=>(eX z.2.2).bind λy=>some (z.1,o,y)
theorem kn{z}(h:EJ e=some z):∃p,e=.Compare z.1 [z.2.1] [z.2.2] p:=by
 obtain⟨c,o,y,O,Z,M,h⟩:=bn3 h;cases h;obtain⟨x,C,j⟩:=c;obtain⟨p,rfl⟩:=asCmp_ok O;have J:=one1_ok Z;have B:=one1_ok M
 grind
def cmp2(e:Expr):Option (Expr×(CmpOp×CmpOp)×(Expr×Expr)):=(mo e).bind λz=>(jh z.2.1).bind λo=>(jh z.2.2).bind λy=>some (z.1,o,y)
theorem qJ{z}(h:cmp2 e=some z):∃p,e=.Compare z.1 [z.2.1.1,z.2.1.2] [z.2.2.1,z.2.2.2] p:=by
 obtain⟨c,o,y,O,Z,M,h⟩:=bn3 h;cases h;obtain⟨x,C,j⟩:=c;obtain⟨p,rfl⟩:=asCmp_ok O;have J:=two2_ok Z;have B:=two2_ok M
 grind
def Ir(M:Bool):CmpOp->Bool
 |.Is=>!M|.IsNot=>M|_=>false
theorem qK(h:Ir neg o=true):o=if neg then .IsNot else .Is:=by cases o<;>cases neg<;>first|rfl|cases h
def EK:BoolOp->Bool|.And=>true|_=>false
theorem qL(h:EK o=true):o=.And:=by cases o<;>first|rfl|cases h
def Ll:BoolOp->Bool|.Or=>true|_=>false
theorem xi(h:Ll o=true):o=.Or:=by cases o<;>first|rfl|cases h
def EL:UnaryOp->Bool|.Not=>true|_=>false
theorem qM(h:EL o=true):o=.Not:=by cases o<;>first|rfl|cases h
def EM:Operator->Bool|.Add=>true|_=>false
theorem qN(h:EM o=true):o=.Add:=by cases o<;>first|rfl|cases h
def Iu:Operator->Bool|.Mult=>true|_=>false
theorem Aa(h:Iu o=true):o=.Mult:=by cases o<;>first|rfl|cases h
def Iw(e:Expr):Option (Expr×Str×List Expr×Pos×Pos):=(fq e).bind λz=>(fM z.1).bind λa=>(ei a.1).bind λx=>if z.2.2.1.isEmpty then some (a.1,a.2.1,z.2.1,a.2.2,z.2.2.2) else none
theorem Ab{e:Expr}{z}(h:Iw e=some z):∃X k p,z.1=.Subscript X k p/\e=.Call (.Attribute z.1 z.2.1 z.2.2.2.1) z.2.2.1 [] z.2.2.2.2:=by
 obtain⟨c,a,x,O,Z,M,h⟩:=bn3 h;obtain⟨f,Y,S,I⟩:=c;obtain⟨o,m,C⟩:=a;cases S with
 |cons _ _=>cases h
 |nil=>cases h;obtain⟨p,s⟩:=asSub_ok M;have B:=asAtt_ok Z;have J:=eM O;simp only at J B s;exact⟨_,_,p,s,by rw[J,B]⟩
def EN(e:Expr):Option (Str×Str×List Expr×Pos×Pos):=(fq e).bind λz=>(fM z.1).bind λa=>(bT a.1).bind λx=>if z.2.2.1.isEmpty then some (x,a.2.1,z.2.1,a.2.2,z.2.2.2) else none
theorem qO{z}(h:EN e=some z):∃p,e=.Call (.Attribute (.Name z.1 p) z.2.1 z.2.2.2.1) z.2.2.1 [] z.2.2.2.2:=by
 obtain⟨c,a,x,O,Z,M,h⟩:=bn3 h;obtain⟨f,Y,S,I⟩:=c;obtain⟨o,m,C⟩:=a;cases S with
 |cons _ _=>cases h
 |nil=>cases h;obtain⟨p,s⟩:=asNm_ok M;have B:=asAtt_ok Z;simp only at B s;subst s;subst B;exact⟨p,eM O⟩
def Ac(e:PySem.Expr):Option (Expr×Expr×List Comprehension×Scope×Pos):=if h:e.ctorIdx=10 then some (@PySem.Expr.DictComp.elim (λ_=>Expr×Expr×List Comprehension×Scope×Pos) e h λk x S s p=>(k,x,S,s,p)) else none
theorem Ad(h:Ac e=some z):e=.DictComp z.1 z.2.1 z.2.2.1 z.2.2.2.1 z.2.2.2.2:=by
 by_cases U:e.ctorIdx=10
 ·revert h;exact@PySem.Expr.DictComp.elim (λe=>Ac e=some z->e=.DictComp z.1 z.2.1 z.2.2.1 z.2.2.2.1 z.2.2.2.2) e U λk x S s p h=>by cases h;rfl
 ·rw[Ac,dif_neg U]at h;cases h
def BW(e:Expr):Option (Expr×Expr×Expr×Expr×List Expr×Scope×Pos):=(Ac e).bind λz=>(eX z.2.2.1).bind λg=>if g.is_async=0 then some (z.1,z.2.1,g.target,g.iter,g.ifs,z.2.2.2.1,z.2.2.2.2) else none
theorem xj{z}(h:BW e=some z):e=.DictComp z.1 z.2.1 [⟨z.2.2.1,z.2.2.2.1,z.2.2.2.2.1,0⟩] z.2.2.2.2.2.1 z.2.2.2.2.2.2:=by
 obtain⟨c,g,O,Z,h⟩:=bn2 h;obtain⟨k,x,S,C,p⟩:=c;obtain⟨f,j,F,Y⟩:=g;simp only at h;by_cases i:Y=0
 ·subst i;rw[if_pos rfl]at h;cases h;have J:=one1_ok Z;simp only at J;rw[Ad O,J]
 ·grind
def BX(e:Expr):Option (Expr×Expr×Expr×List Expr×Scope×Pos):=(oE e).bind λz=>(eX z.2.1).bind λg=>if g.is_async=0 then some (z.1,g.target,g.iter,g.ifs,z.2.2.1,z.2.2.2) else none
theorem mx{z}(h:BX e=some z):e=.ListComp z.1 [⟨z.2.1,z.2.2.1,z.2.2.2.1,0⟩] z.2.2.2.2.1 z.2.2.2.2.2:=by
 obtain⟨c,g,O,Z,h⟩:=bn2 h;obtain⟨x,S,C,p⟩:=c;obtain⟨f,j,F,Y⟩:=g;simp only at h;by_cases i:Y=0
 ·subst i;rw[if_pos rfl]at h;cases h;have J:=one1_ok Z;simp only at J;subst J;exact qB O
 ·grind
end
section
section
variable(t:Tb)
def iI(o:Co)(f g:Ck):Ck:=λN C e=>(EJ e).any λz=>JA o z.2.1&&!isSet z.2.2&&f N C z.1&&g N C z.2.2
def xk(o P:Co)(f g k:Ck):Ck:=λN C e=>(cmp2 e).any λz=>JA o z.2.1.1&&JA P z.2.1.2&&!isSet z.2.2.2&&(f N C z.1&&g N C z.2.2.1&&k N C z.2.2.2)
def BY(M:Bool)(f:Ck):Ck:=λN C e=>(EJ e).any λz=>Ir M z.2.1&&wX z.2.2&&f N C z.1
def xl(b:BoolOp->Bool)(f g:Ck):Ck:=λN C e=>(zZ e).any λz=>b z.1&&((mq z.2.1).any λx=>(mq x.2).any λy=>f N C x.1&&bif y.2.isEmpty then g N C y.1 else g N C (.BoolOp z.1 x.2 z.2.2))
def Ae(b:UnaryOp->Bool)(f:Ck):Ck:=λN C e=>(wU e).any λz=>b z.1&&f N C z.2
def qP(b:Operator->Bool)(f g:Ck):Ck:=λN C e=>(qx e).any λz=>b z.2.1&&f N C z.1&&g N C z.2.2
def iJ(p:Str->Bool)(f:List Str->Scope->List Expr->Bool):Ck:=λN C e=>(xh e).any λz=>p z.1&&Gc C z.1&&!z.2.isEmpty&&!z.2.any isStar&&f N C z.2
def iK(p:Str)(f:Ck):Ck:=λN C e=>(xh e).any λz=>(eX z.2).any λx=>uI t C z.1 p&&!isStar x&&f N C x
def oG(p:Str)(f g:Ck):Ck:=λN C e=>(xh e).any λz=>(jh z.2).any λx=>uI t C z.1 p&&!isStar x.1&&!isStar x.2&&f N C x.1&&g N C x.2
def Iy(k:Knd):Ck:=λN C e=>match k with
 |.seq=>(cQ e).any λz=>(jh z).any λw=>((bT w.1).any λu=>uI t C u "list")&&(bT w.2).any λv=>uI t C v "tuple"
 |k=>(bT e).any λu=>uI t C u (MO k)
mutual
noncomputable def aU:E->Ck×Ck
 |.nm i=>fP λN sc e=>BV N sc i e
 |.mv i=>fP λN sc e=>BV N sc i e
 |.int k=>fP λN sc e=>(jD e).any λj=>decide (j=k)
 |.str k=>fP λN sc e=>(BS e).any λj=>sEq j k
 |.bl k=>fP λN sc e=>(Ip e).any λj=>decide (j=k)
 |.non=>fP λN sc e=>wX e
 |.gc g=>fP λN sc e=>(bT e).any λx=>decide (t.gc g=some x)&&Gc sc x
 |.bop o a b=>fP (qP (Jz o) (aU a).1 (aU b).1)
 |.cat a b=>fP (qP EM (aU a).1 (aU b).1)
 |.rep a b=>fP (qP Iu (aU a).1 (aU b).1)
 |.cmp o a b=>(iI o (aU a).1 (aU b).1,iI o (aU a).1 (aU b).1)
 |.cmp2 o o' a b c=>(xk o o' (aU a).1 (aU b).1 (aU c).1,xk o o' (aU a).1 (aU b).1 (aU c).1)
 |.isn neg a=>(BY neg (aU a).1,BY neg (aU a).1)
 |.and a b=>(xl EK (aU a).1 (aU b).1,xl EK (aU a).2 (aU b).2)
 |.or a b=>(xl Ll (aU a).1 (aU b).1,xl Ll (aU a).2 (aU b).2)
 |.not a=>(Ae EL (aU a).1,Ae EL (aU a).2)
 |.neg a=>fP (Ae EH (aU a).1)
 |.ife c a b=>fP λN sc e=>(z6 e).any λz=>(aU c).2 N sc z.1&&(aU a).1 N sc z.2.1&&(aU b).1 N sc z.2.2
 |.tup es=>fP λN sc e=>(cQ e).any λxs=>fQ es N sc xs
 |.lst es=>fP λN sc e=>(qz e).any λxs=>fQ es N sc xs
 |.ix a b=>fP λN sc e=>(ei e).any λz=>!bO z.2&&(aU a).1 N sc z.1&&(aU b).1 N sc z.2
 |.call f es=>fP (iJ (λx=>decide (t.fn f=some x)) (fQ es))
 |.callS f es=>fP (iJ (λx=>decide (t.fn f=some x)) (fQ es))
 |.blt f es=>fP (iJ (λx=>sEq x (Em f)&&t.nog x) (fQ es))
 |.bnw f a=>fP (iK t (MN f) (aU a).1)
 |.isi k a=>fP (oG t "isinstance" (aU a).1 (Iy t k))
 |.idx a b=>fP λN sc e=>(Iw e).any λz=>(eX z.2.2.1).any λy=>sEq z.2.1 "index" && (z.2.2.2.1.endLine==z.2.2.2.2.line)&&!isStar y&&(aU a).1 N sc z.1&&(aU b).1 N sc y
 |.dgt i b=>fP λN sc e=>(EN e).any λz=>(eX z.2.2.1).any λy=>sEq z.2.1 "get" && uH N sc i z.1&&(z.2.2.2.1.endLine==z.2.2.2.2.line)&&!isStar y&&(aU b).1 N sc y
 |.dnew=>fP λN sc e=>BU e
 |.pg i ps=>fP λN sc e=>cN t N sc i ps e
 |.pf i ps=>fP λN sc e=>cN t N sc i ps e
 |.pl i ps=>fP (iK t "len" λN sc e=>cN t N sc i ps e)
 |.pt i ps=>(λ_ _ _=>false,λN sc e=>plainT e&&cN t N sc i ps e)
 |.pin neg a i ps=>(iI (if neg then .nin else .inn) (aU a).1 λN sc e=>cN t N sc i ps e,iI (if neg then .nin else .inn) (aU a).1 λN sc e=>cN t N sc i ps e)
 |.din neg a i ps=>(iI (if neg then .nin else .inn) (aU a).1 λN sc e=>cN t N sc i ps e,iI (if neg then .nin else .inn) (aU a).1 λN sc e=>cN t N sc i ps e)
 |.comp nt fr it tg ifs elt=>fP λN sc e=>(BX e).any λz=>(λn=>qH n nt fr N z.2.2.2.2.1 sc&&decide n.Nodup&&!isSet z.2.2.1&&Af it N sc z.2.1 z.2.2.1&&(xf (λ_=>true) n (tX z.2.2.2.2.1 sc) false nt tg z.2.1&&Iz ifs n (tX z.2.2.2.2.1 sc) z.2.2.2.1&&(aU elt).1 n (tX z.2.2.2.2.1 sc) z.1)) (EI z.2.1++fr.filterMap λj=>N[j]?)
 |.meth c m f i es=>fP λN sc e=>(EN e).any λz=>decide (t.me f=some (c,m))&&sEq z.2.1 m&&uH N sc i z.1&&!z.2.2.1.any isStar&&(decide (z.2.2.1.length<30)&&(z.2.2.2.1.endLine==z.2.2.2.2.line)&&fQ es N sc z.2.2.1)
 |.make c f es=>fP (iJ (λx=>decide (t.mk' f=some c)&&sEq x c) (fQ es))
noncomputable def fQ:Es->List Str->Scope->List Expr->Bool
 |.nil=>λN sc xs=>xs.isEmpty
 |.cons a es=>λN sc xs=>(mq xs).any λz=>!isStar z.1&&(aU a).1 N sc z.1&&fQ es N sc z.2
noncomputable def Iz:Eo->List Str->Scope->List Expr->Bool
 |.none=>λN sc o=>o.isEmpty
 |.some a=>λN sc o=>(eX o).any λx=>(aU a).2 N sc x
noncomputable def Af:It'->List Str->Scope->Expr->Expr->Bool
 |.seq a=>λN sc g e=>(aU a).1 N sc e
 |.rg1 a=>λN sc g e=>iK t "range" (aU a).1 N sc e
 |.rg3 a b=>λN sc g e=>(xh e).any λz=>(wy z.2).any λx=>uI t sc z.1 "range" && !isStar x.1&&!isStar x.2.1&&!isStar x.2.2&&(aU a).1 N sc x.1&&(aU b).1 N sc x.2.1&&(jD x.2.2).any λj=>decide (j=2)
 |.enm a=>λN sc g e=>isTup g&&iK t "enumerate" (aU a).1 N sc e
 |.zip a b=>λN sc g e=>isTup g&&oG t "zip" (aU a).1 (aU b).1 N sc e
end
end
def Ag:Expr->Bool
 |.BoolOp _ _ _=>true
 |_=>false
structure EOk (t:Tb)(C:Ct)(m:E):Prop where
 v:∀X e,Cy t C X->(aU t m).1 X.N X.env.scope e=true->PDe X e (aF C m)
 w:∀X e,Cy t C X->Ag e=true->(aU t m).2 X.N X.env.scope e=true->PDw X e (gA C m)
 t:∀X e,Cy t C X->(aU t m).2 X.N X.env.scope e=true->PDt X e (gA C m)
theorem ko(h:Ag e=true):∃o xs p,e=.BoolOp o xs p:=by cases e<;>first|exact⟨_,_,_,rfl⟩|cases h
theorem aI(U:(aU t m).2=λN sc e=>plainT e&&(aU t m).1 N sc e)(Y:aL C m=(vt (ev C m)).2)(a:∀X e,Cy t C X->(aU t m).1 X.N X.env.scope e=true->PDe X e (aF C m)):EOk t C m:=
 ⟨a,λX e c S h=>by
  rw[U]at h;obtain⟨o,T,p,rfl⟩:=ko S
  trivial,
  λX e c h=>by
  rw[U]at h;exact HC Y (an2 h).1 (a X e c (an2 h).2)⟩
theorem gj(Q:∀(X:Cx) e,Ag e=true->(aU t m).2 X.N X.env.scope e=false)(o:∀X e,Cy t C X->(aU t m).1 X.N X.env.scope e=true->PDe X e (aF C m))(Z:∀X e,Cy t C X->(aU t m).2 X.N X.env.scope e=true->PDt X e (gA C m)):EOk t C m:=
 ⟨o,λX e c S h=>absurd h (by grind),Z⟩
theorem tY{f:Ck}(S:Ag e=true)(h:∀o xs p,f N sc (.BoolOp o xs p)=false):f N sc e=false:=by obtain⟨o,xs,p,rfl⟩:=ko S;exact h o xs p
theorem ckBin_ok(h:qP b f g N sc e=true):∃x o y p,e=.BinOp x o y p/\b o=true/\f N sc x=true/\g N sc y=true:=by obtain⟨z,O,h⟩:=anyT h;obtain⟨p,rfl⟩:=wR O;exact⟨_,_,_,p,rfl,an3 h⟩
theorem ckUn_ok(h:Ae b f N sc e=true):∃o x p,e=.UnaryOp o x p/\b o=true/\f N sc x=true:=by obtain⟨z,O,h⟩:=anyT h;obtain⟨p,rfl⟩:=qy O;exact⟨_,_,p,rfl,an2 h⟩
theorem cR(h:iI o f g N sc e=true):∃x y p,e=.Compare x [coOf o] [y] p/\isSet y=false/\f N sc x=true/\g N sc y=true:=by obtain⟨z,O,h⟩:=anyT h;obtain⟨p,rfl⟩:=kn O;obtain⟨O,Z,M,P⟩:=yF h;exact⟨_,_,p,by rw[iG O],bu Z,M,P⟩
theorem eP(h:iJ p f N sc e=true):∃x z zs q D,e=.Call (.Name x q) (z::zs) [] D/\p x=true/\Gc sc x=true/\isStar z=false/\zs.any isStar=false/\f N sc (z::zs)=true:=by
 obtain⟨z,O,h⟩:=anyT h;obtain⟨q,D,rfl⟩:=gL O;obtain⟨O,Z,M,P,s⟩:=an5 h;obtain⟨x,Y⟩:=z;cases Y with
 |nil=>cases M
 |cons y o=>have:=bu P;rw[aaO,abv]at this;exact⟨x,y,o,q,D,rfl,O,Z,this.1,this.2,s⟩
theorem eQ(h:iK t p f N sc e=true):∃x z q D,e=.Call (.Name x q) [z] [] D/\uI t sc x p=true/\isStar z=false/\f N sc z=true:=by
 obtain⟨z,w,O,Z,h⟩:=ay2 h;obtain⟨q,D,rfl⟩:=gL O;obtain⟨x,Y⟩:=z;have:=one1_ok Z
 grind
theorem jE(h:oG t p f g N sc e=true):∃x z w q D,e=.Call (.Name x q) [z,w] [] D/\uI t sc x p=true/\isStar z=false/\isStar w=false/\f N sc z=true/\g N sc w=true:=by
 obtain⟨z,w,O,Z,h⟩:=ay2 h;obtain⟨q,D,rfl⟩:=gL O;obtain⟨x,Y⟩:=z;have:=two2_ok Z
 grind
theorem ckBo_ok(h:xl b f g N sc e=true):∃o x y es p,e=.BoolOp o (x::y::es) p/\b o=true/\f N sc x=true/\((es=[]/\g N sc y=true)\/g N sc (.BoolOp o (y::es) p)=true):=by
 obtain⟨z,O,h⟩:=anyT h;have:=z5 O;subst this;obtain⟨Z,h⟩:=an2 h;obtain⟨x,y,M,P,h⟩:=ay2 h;obtain⟨s,h⟩:=an2 h;obtain⟨o,Y,p⟩:=z;obtain⟨x,j⟩:=x;obtain⟨y,es⟩:=y;have J:=con1_ok M;have B:=con1_ok P
 grind
theorem EO(U:X.A.units+64<cLine)(Y:lastMarks [coOf o,coOf o'] [b,c]=false)(O:PDe X a (aF C ma))(Z:PDe X b (aF C mb))(M:PDe X c (aF C mc)):PDt X (.Compare a [coOf o,coOf o'] [b,c] pos) (gA C (.cmp2 o o' ma mb mc)):=by
 obtain⟨p,T,D⟩:=iw U o;obtain⟨i,t,H⟩:=iw U o';refine(tj T D t H Y O Z M).imp λI Q v=>?_;obtain⟨x,h,y,j,q⟩:=kg rfl (λI x h=>by
  obtain⟨P,W,n,l,k,J,B,s,e,L,h⟩:=bn5 h;cases k with
  |false=>grind
  |true=>
   rw[if_pos rfl]at h;obtain⟨S,g,F,r,N,f,d,u,h⟩:=bn4 h
   grind) I Q v
 obtain⟨P,W,n,l,k,J,B,s,e,L,h⟩:=bn5 h;refine⟨P,J,W,B,n,l,s,e,k,L,k,rfl,?_⟩;cases k with
 |false=>grind
 |true=>rw[if_pos rfl]at h ⊢;obtain⟨S,g,F,r,N,f,d,u,h⟩:=bn4 h;cases h;exact⟨S,N,g,F,f,d,r,u,y,j,q⟩
theorem oH(N:Gl X x) (Y:X.mg x=none) (o:bootBuiltins x=some (.type T)) (l:x≠"__name__") (W:(x==("__debug__":Str))=false):PE X (.Name x p) (tC (.ty T)):=yM N Y o rfl l W
theorem ER(c:Cy t C X) (O:uI t X.env.scope x "isinstance"=true) (Z:isStar z=false) (M:Iy t k X.N X.env.scope w=true) (i:PDe X z (aF C ma)):PDe X (.Call (.Name x q) [z,w] [] q') (aF C (.isi k ma)):=by
 obtain⟨n,A,J⟩:=blB_ok c O;subst n;have d:∀{T:Str},((bT w).any λu=>uI t X.env.scope u T)=true->∃p,w=.Name T p/\Gl X T/\X.mg T=none:=λ{T} h=>by
  obtain⟨u,I,U⟩:=anyT h;obtain⟨p,rfl⟩:=asNm_ok I;obtain⟨r,F,g⟩:=blB_ok c U
  grind
 cases k with
 |int=>obtain⟨p,rfl,F,g⟩:=d M;exact iy rfl (oH F g vy (by decide) (by rfl)) A J Z rfl i
 |bool=>obtain⟨p,rfl,F,g⟩:=d M;exact iy rfl (oH F g y7 (by decide) (by rfl)) A J Z rfl i
 |str=>obtain⟨p,rfl,F,g⟩:=d M;exact iy rfl (oH F g DB (by decide) (by rfl)) A J Z rfl i
 |list=>obtain⟨p,rfl,F,g⟩:=d M;exact iy rfl (oH F g jW (by decide) (by rfl)) A J Z rfl i
 |tuple=>obtain⟨p,rfl,F,g⟩:=d M;exact iy rfl (oH F g hU (by decide) (by rfl)) A J Z rfl i
 |seq=>obtain⟨e,D,I,U,M⟩:=ay2 M;obtain⟨Q,H⟩:=an2 M;obtain⟨u,P,W⟩:=anyT Q;obtain⟨v,m,l⟩:=anyT H;obtain⟨j,y,rfl⟩:=asTup_ok I;have:=two2_ok U;subst this;obtain⟨f,Y⟩:=D;obtain⟨o,B⟩:=asNm_ok P;obtain⟨b,s⟩:=asNm_ok m;simp only at B s;subst B s;obtain⟨r,F,g⟩:=blB_ok c W;obtain⟨a,S,L⟩:=blB_ok c l;subst r a;exact Ep (oH F g jW (by decide) (by rfl)) (oH S L hU (by decide) (by rfl)) A J Z rfl rfl i
mutual
theorem aY:∀m:E,EOk t C m
 |.nm i=>aI rfl rfl λX e c h=>by obtain⟨x,p,rfl,h⟩:=iF h;obtain⟨O,Z,M,P⟩:=bK h;exact KN O Z M P
 |.mv i=>aI rfl rfl λX e c h=>by obtain⟨x,p,rfl,h⟩:=iF h;obtain⟨O,Z,M,P⟩:=bK h;exact KO O Z M P
 |.int k=>aI rfl rfl λX e c h=>by obtain⟨j,O,h⟩:=anyT h;obtain⟨_,_,rfl⟩:=asInt_ok O;have:=Daa h;subst this;exact BO
 |.str k=>aI rfl rfl λX e c h=>by obtain⟨j,O,h⟩:=anyT h;obtain⟨_,_,rfl⟩:=asStr_ok O;have:=bw h;subst this;exact Hu
 |.bl k=>aI rfl rfl λX e c h=>by obtain⟨j,O,h⟩:=anyT h;obtain⟨_,_,rfl⟩:=asBl_ok O;have:=Daa h;subst this;exact KP
 |.non=>aI rfl rfl λX e c h=>by obtain⟨_,_,rfl⟩:=iD h;exact Hv
 |.gc g=>aI rfl rfl λX e c h=>by obtain⟨x,O,h⟩:=anyT h;obtain⟨_,rfl⟩:=asNm_ok O;obtain⟨v,u,n,A,J⟩:=c.hgc _ _ (Daa (an2 h).1);exact KQ (cM (an2 h).2).1 n A J (cM (an2 h).2).2
 |.bop o a b=>aI rfl rfl λX e c h=>by obtain⟨x,o',y,p,rfl,O,Z,M⟩:=ckBin_ok h;have:=oF O;subst this;exact Hr ((aY a).v X _ c Z) ((aY b).v X _ c M)
 |.cat a b=>aI rfl rfl λX e c h=>by obtain⟨x,o',y,p,rfl,O,Z,M⟩:=ckBin_ok h;have:=qN O;subst this;exact HF ((aY a).v X _ c Z) ((aY b).v X _ c M)
 |.rep a b=>aI rfl rfl λX e c h=>by obtain⟨x,o',y,p,rfl,O,Z,M⟩:=ckBin_ok h;have:=Aa O;subst this;exact HN ((aY a).v X _ c Z) ((aY b).v X _ c M)
 |.cmp o a b=>gj (λX e S=>tY (f:=(aU t (.cmp o a b)).2) S λ_ _ _=>rfl) (λX e c h=>by
  obtain⟨x,y,p,rfl,Z,M,P⟩:=cR h;exact Hs c.units (eA _ Z) ((aY a).v X _ c M) ((aY b).v X _ c P)) λX e c h=>by
  obtain⟨x,y,p,rfl,Z,M,P⟩:=cR h;exact Ht c.units (eA _ Z) ((aY a).v X _ c M) ((aY b).v X _ c P)
 |.cmp2 o o' a b d=>gj (λX e S=>tY (f:=(aU t (.cmp2 o o' a b d)).2) S λ_ _ _=>rfl) (λX e c h=>by
  obtain⟨z,O,h⟩:=anyT h;obtain⟨p,rfl⟩:=qJ O;obtain⟨I,U,T,l⟩:=yF h;obtain⟨Q,H,b3⟩:=an3 l;rw[iG I,iG U];exact Ej c.units (eA _ (bu T)) ((aY a).v X _ c Q) ((aY b).v X _ c H) ((aY d).v X _ c b3)) λX e c h=>by
  obtain⟨z,O,h⟩:=anyT h;obtain⟨p,rfl⟩:=qJ O;obtain⟨I,U,T,l⟩:=yF h;obtain⟨Q,H,b3⟩:=an3 l;rw[iG I,iG U];exact EO c.units (eA _ (bu T)) ((aY a).v X _ c Q) ((aY b).v X _ c H) ((aY d).v X _ c b3)
 |.isn neg a=>gj (λX e S=>tY (f:=(aU t (.isn neg a)).2) S λ_ _ _=>rfl) (λX e c h=>by
  obtain⟨z,O,h⟩:=anyT h;obtain⟨p,rfl⟩:=kn O;obtain⟨I,U,T⟩:=an3 h;obtain⟨_,_,B⟩:=iD U;rw[qK I,B];exact Hw ((aY a).v X _ c T)) λX e c h=>by
  obtain⟨z,O,h⟩:=anyT h;obtain⟨p,rfl⟩:=kn O;obtain⟨I,U,T⟩:=an3 h;obtain⟨_,_,B⟩:=iD U;rw[qK I,B];exact Hx ((aY a).v X _ c T)
 |.and a b=>by
  have hw:∀X e,Cy t C X->(aU t (.and a b)).2 X.N X.env.scope e=true->PDw X e (gA C (.and a b)):=λX e c h=>by
   obtain⟨o,x,y,L,p,rfl,O,Z,M⟩:=ckBo_ok h;have:=qL O;subst this;refine Hz ((aY a).t X _ c Z) ?_;rcases M with ⟨rfl,M⟩|M
   ·exact vT ((aY b).t X _ c M)
   ·exact(aY b).w X _ c rfl M
  refine⟨λX e c h=>?_,λX e c _ h=>hw X e c h,λX e c h=>(hw X e c h).pt⟩;obtain⟨o,x,y,L,p,rfl,O,Z,M⟩:=ckBo_ok h;have:=qL O;subst this;refine v_and ((aY a).v X _ c Z) ?_;rcases M with ⟨rfl,M⟩|M
  ·exact vP ((aY b).v X _ c M)
  ·exact(aY b).v X _ c M
 |.or a b=>by
  have hw:∀X e,Cy t C X->(aU t (.or a b)).2 X.N X.env.scope e=true->PDw X e (gA C (.or a b)):=λX e c h=>by
   obtain⟨o,x,y,L,p,rfl,O,Z,M⟩:=ckBo_ok h;have:=xi O;subst this;refine KR ((aY a).t X _ c Z) ?_;rcases M with ⟨rfl,M⟩|M
   ·exact zt ((aY b).t X _ c M)
   ·exact(aY b).w X _ c rfl M
  refine⟨λX e c h=>?_,λX e c _ h=>hw X e c h,λX e c h=>(hw X e c h).pt⟩;obtain⟨o,x,y,L,p,rfl,O,Z,M⟩:=ckBo_ok h;have:=xi O;subst this;refine v_or ((aY a).v X _ c Z) ?_;rcases M with ⟨rfl,M⟩|M
  ·exact vP ((aY b).v X _ c M)
  ·exact(aY b).v X _ c M
 |.not a=>gj (λX e S=>tY (f:=(aU t (.not a)).2) S λ_ _ _=>rfl) (λX e c h=>by
  obtain⟨o,x,p,rfl,O,Z⟩:=ckUn_ok h;have:=qM O;subst this;exact v_not ((aY a).v X _ c Z)) λX e c h=>by
  obtain⟨o,x,p,rfl,O,Z⟩:=ckUn_ok h;have:=qM O;subst this;exact HA ((aY a).t X _ c Z)
 |.neg a=>aI rfl rfl λX e c h=>by obtain⟨o,x,p,rfl,O,Z⟩:=ckUn_ok h;have:=qD O;subst this;exact Hy ((aY a).v X _ c Z)
 |.ife z a b=>aI rfl rfl λX e c h=>by obtain⟨q,O,h⟩:=anyT h;obtain⟨p,rfl⟩:=z7 O;obtain⟨I,U,T⟩:=an3 h;exact HB ((aY z).t X _ c I) ((aY a).v X _ c U) ((aY b).v X _ c T)
 |.tup L=>aI rfl rfl λX e c h=>by obtain⟨q,O,h⟩:=anyT h;obtain⟨_,_,rfl⟩:=asTup_ok O;exact HD (yG L X _ c h)
 |.lst L=>aI rfl rfl λX e c h=>by obtain⟨q,O,h⟩:=anyT h;obtain⟨_,rfl⟩:=wV O;exact HE (yG L X _ c h)
 |.ix a b=>aI rfl rfl λX e c h=>by obtain⟨q,O,h⟩:=anyT h;obtain⟨_,rfl⟩:=asSub_ok O;obtain⟨I,U,T⟩:=an3 h;exact KS (bu I) ((aY a).v X _ c U) ((aY b).v X _ c T)
 |.call f L=>aI rfl rfl λX e c h=>by obtain⟨x,z,s,q,D,rfl,O,Z,M,P,h5⟩:=eP (p:=λx=>decide (t.fn f=some x)) (f:=fQ t L) (N:=X.N) (sc:=X.env.scope) (e:=e) h;obtain⟨k,fa,fd,W,n,A,J,g4,g5⟩:=c.hfn _ _ (Daa O);exact Ek n A (cM Z).1 J g4 g5 (cM Z).2 M P (yG L X _ c h5)
 |.callS f L=>aI rfl rfl λX e c h=>by obtain⟨x,z,s,q,D,rfl,O,Z,M,P,h5⟩:=eP (p:=λx=>decide (t.fn f=some x)) (f:=fQ t L) (N:=X.N) (sc:=X.env.scope) (e:=e) h;obtain⟨k,fa,fd,W,n,A,J,g4,g5⟩:=c.hfn _ _ (Daa O);exact zM n A (cM Z).1 J g4 g5 (cM Z).2 M P (yG L X _ c h5)
 |.blt f L=>aI rfl rfl λX e c h=>by obtain⟨x,z,s,q,D,rfl,O,Z,M,P,h5⟩:=eP (p:=λx=>sEq x (Em f)&&t.nog x) (f:=fQ t L) (N:=X.N) (sc:=X.env.scope) (e:=e) h;have:=bw (an2 O).1;subst this;exact HG c.calm (cM Z).1 (c.hng _ (an2 O).2) M P (yG L X _ c h5)
 |.bnw f a=>aI rfl rfl λX e c h=>by
  obtain⟨x,z,q,D,rfl,O,Z,M⟩:=eQ h;obtain⟨n,A,J⟩:=blB_ok c O;subst n;cases f with
  |list=>exact En A J Z ((aY a).v X _ c M)
  |tuple=>exact zN A J Z ((aY a).v X _ c M)
  |sorted=>exact wL c.calm A J Z ((aY a).v X _ c M)
 |.isi k a=>aI rfl rfl λX e c h=>by obtain⟨x,z,w,q,D,rfl,O,Z,M,P,h5⟩:=jE h;exact ER c O Z h5 ((aY a).v X _ c P)
 |.idx a b=>aI rfl rfl λX e c h=>by obtain⟨z,y,O,Z,r⟩:=ay2 h;obtain⟨o1,o2,p,e1,rfl⟩:=Ab O;obtain⟨I,U,T,l,F⟩:=an5 r;rw[one1_ok Z,bw I];rw[e1]at l ⊢;exact Ik U (bu T) ((aY a).v X _ c l) ((aY b).v X _ c F)
 |.dgt i b=>aI rfl rfl λX e c h=>by obtain⟨z,y,O,Z,r⟩:=ay2 h;obtain⟨p,rfl⟩:=qO O;obtain⟨I,U,T,l,F⟩:=an5 r;obtain⟨Y,n2,n3,n4⟩:=bK U;rw[one1_ok Z,bw I];exact Im (by have:=c.units;lia) Y n2 n3 n4 T (bu l) ((aY b).v X _ c F)
 |.dnew=>aI rfl rfl λX e c h=>by obtain⟨_,rfl⟩:=wY h;exact El
 |.pg i W=>aI rfl rfl λX e c h=>K5 (aX c W _ h)
 |.pf i W=>aI rfl rfl λX e c h=>K6 (aX c W _ h)
 |.pl i W=>aI rfl rfl λX e c h=>by obtain⟨x,z,q,D,rfl,O,Z,M⟩:=eQ (t:=t) (p:="len") (f:=λN sc e=>cN t N sc i W e) (N:=X.N) (sc:=X.env.scope) (e:=e) h;obtain⟨n,A,J⟩:=blB_ok c O;subst n;exact K7 A J Z (aX c W _ M)
 |.pt i W=>⟨λX e c h=>absurd h aar,λX e c S h=>by
   obtain⟨o,xs,p,rfl⟩:=ko S
   trivial,λX e c h=>K8 (an2 h).1 (aX c W _ (an2 h).2)⟩
 |.pin neg a i W=>gj (λX e S=>tY (f:=(aU t (.pin neg a i W)).2) S λ_ _ _=>rfl) (λX e c h=>by
  obtain⟨x,y,p,rfl,Z,M,P⟩:=cR (o:=if neg then .nin else .inn) (f:=(aU t a).1) (g:=λN sc e=>cN t N sc i W e) (N:=X.N) (sc:=X.env.scope) (e:=e) h;exact(wI c.units (eA _ Z) ((aY a).v X _ c M) (aX c W _ P)).1) λX e c h=>by
  obtain⟨x,y,p,rfl,Z,M,P⟩:=cR (o:=if neg then .nin else .inn) (f:=(aU t a).1) (g:=λN sc e=>cN t N sc i W e) (N:=X.N) (sc:=X.env.scope) (e:=e) h;exact(wI c.units (eA _ Z) ((aY a).v X _ c M) (aX c W _ P)).2
 |.din neg a i W=>gj (λX e S=>tY (f:=(aU t (.din neg a i W)).2) S λ_ _ _=>rfl) (λX e c h=>by
  obtain⟨x,y,p,rfl,Z,M,P⟩:=cR (o:=if neg then .nin else .inn) (f:=(aU t a).1) (g:=λN sc e=>cN t N sc i W e) (N:=X.N) (sc:=X.env.scope) (e:=e) h;exact(wJ (by have:=c.units;lia) (eA _ Z) ((aY a).v X _ c M) (aX c W _ P)).1) λX e c h=>by
  obtain⟨x,y,p,rfl,Z,M,P⟩:=cR (o:=if neg then .nin else .inn) (f:=(aU t a).1) (g:=λN sc e=>cN t N sc i W e) (N:=X.N) (sc:=X.env.scope) (e:=e) h;exact(wJ (by have:=c.units;lia) (eA _ Z) ((aY a).v X _ c M) (aX c W _ P)).2
 |.comp nt fr it tg ifs elt=>aI rfl rfl λX e c h=>by obtain⟨z,O,h⟩:=anyT h;have:=mx O;subst this;obtain⟨I,U,T,l,F⟩:=an5 h;obtain⟨Q,H,b3⟩:=an3 F;exact Ew c.calm (iH I) (kl (bu T)) (JB it X _ _ c l) (λq=>fO (X:=cB X _ z.2.2.2.2.1 q) (fn:=false) c.calm (Daa U) (λz=>by cases z) (λ_ _ z=>z) Q) λq=>LW ifs (cB X _ z.2.2.2.2.1 q) _ _ c.comp (aY elt) H b3
 |.meth cn m f i L=>aI rfl rfl λX e c h=>by
  obtain⟨z,O,h⟩:=anyT h;obtain⟨p,rfl⟩:=qO O;obtain⟨I,U,T,l,F⟩:=an5 h;obtain⟨Q,H,b3⟩:=an3 F;obtain⟨x,m',s,ap,q⟩:=z;have:=bw U;simp only at this;subst this;obtain⟨g0,k,fa,fd,W,n,A,J,g4⟩:=c.hme _ _ _ (Daa I);obtain⟨Y,n2,n3,n4⟩:=bK T;cases s with
  |nil=>
   cases L with
   |nil=>exact zY g0 n A J g4 Y n2 n3 n4 H
   |cons a L=>cases b3
  |cons z s=>have:=bu l;rw[aaO,abv]at this;exact EE g0 n A J g4 Y n2 n3 n4 this.1 this.2 Q H (yG L X _ c b3)
 |.make cn f L=>aI rfl rfl λX e c h=>by obtain⟨x,z,s,q,D,rfl,O,Z,M,P,h5⟩:=eP (p:=λx=>decide (t.mk' f=some cn)&&sEq x cn) (f:=fQ t L) (N:=X.N) (sc:=X.env.scope) (e:=e) h;have:=bw (an2 O).2;subst this;obtain⟨k,fa,fd,W,n,A,J,g4,g5⟩:=c.hmk _ _ (Daa (an2 O).1);exact EF n A J (cM Z).1 g4 g5 (cM Z).2 M P (yG L X _ c h5)
theorem yG:∀(m:Es) X xs,Cy t C X->fQ t m X.N X.env.scope xs=true->PDa X xs (dM C m)
 |.nil,X,xs,c,h=>by
  cases xs with
  |nil=>exact fj
  |cons _ _=>cases h
 |.cons a es,X,xs,c,h=>by obtain⟨z,O,h⟩:=anyT h;have:=con1_ok O;subst this;obtain⟨I,U,T⟩:=an3 h;exact bN (bu I) ((aY a).v X _ c U) (yG es X _ c T)
theorem LW:∀(m:Eo) {elt:E} X fs x,Cy t C X->EOk t C elt->Iz t m X.N X.env.scope fs=true->(aU t elt).1 X.N X.env.scope x=true->PDc X fs x (Et C m elt)
 |.none,elt,X,fs,x,c,he,h,h'=>by
  cases fs with
  |nil=>exact c_plain (he.v X _ c h')
  |cons _ _=>cases h
 |.some a,elt,X,fs,x,c,he,h,h'=>by obtain⟨z,O,h⟩:=anyT h;have:=one1_ok O;subst this;exact Eu ((aY a).t X _ c h) (he.v X _ c h')
theorem JB:∀(m:It') X g e,Cy t C X->Af t m X.N X.env.scope g e=true->PDi X g e (gg C m)
 |.seq a,X,g,e,c,h=>HI ((aY a).v X _ c h)
 |.rg1 a,X,g,e,c,h=>by obtain⟨x,z,q,D,rfl,O,Z,M⟩:=eQ h;obtain⟨n,A,J⟩:=blB_ok c O;subst n;exact HJ A J Z ((aY a).v X _ c M)
 |.rg3 a b,X,g,e,c,h=>by obtain⟨z,w,O,Z,h⟩:=ay2 h;obtain⟨q,D,rfl⟩:=gL O;obtain⟨x,Y⟩:=z;have:=thr3_ok Z;simp only at this;subst this;obtain⟨h,W⟩:=an2 h;obtain⟨h,H⟩:=an2 h;obtain⟨M,P,f,F,I⟩:=an5 h;obtain⟨j,u,l⟩:=anyT W;obtain⟨_,_,B⟩:=asInt_ok u;have:=Daa l;subst this;obtain⟨n,A,J⟩:=blB_ok c M;subst n;exact HK A J (bu P) (bu f) (bu F) ((aY a).v X _ c I) ((aY b).v X _ c H) (by rw[B];exact BO)
 |.enm a,X,g,e,c,h=>by obtain⟨T,h⟩:=an2 h;obtain⟨Y,k,p,rfl⟩:=fN T;obtain⟨x,z,q,D,rfl,O,Z,M⟩:=eQ h;obtain⟨n,A,J⟩:=blB_ok c O;subst n;exact HL A J Z ((aY a).v X _ c M)
 |.zip a b,X,g,e,c,h=>by obtain⟨T,h⟩:=an2 h;obtain⟨Y,k,p,rfl⟩:=fN T;obtain⟨x,z,w,q,D,rfl,O,Z,M,P,f⟩:=jE h;obtain⟨n,A,J⟩:=blB_ok c O;subst n;exact HM A J Z M ((aY a).v X _ c P) ((aY b).v X _ c f)
end
end
section
noncomputable def bkS(sc:Scope):ScopeKind:=if sc.kind.isAnnotationScope then .function else sc.kind
set_option backward.match.sparseCases true in
def oI(P:List Expr)(sc:Scope):List Str:=P.filterMap fun
  |.Name id pos=>if sc.names.lookup id==some .local&&pos.line==(P.head?.map (·.pos.line)).getD 0 then some id else none
  |_=>none
set_option backward.match.sparseCases true in
def Ge(P vs:List Expr)(sc:Scope):Option (Option (List Str)):=
 if !(P.length==2||P.length==3)||vs.length !=P.length||bkS sc !=.function then some none
 else if (vs.any fun|.Starred ..=>true|_=>false) then some none
 else if (oI P sc).length !=P.length||(oI P sc).eraseDups.length !=(oI P sc).length then some none
 else if vs.all (foldedForSure 8) then some none
 else if vs.all (constantsAlone 8) then none
 else some (some (oI P sc))
set_option backward.match.sparseCases true in
theorem oJ(h:Ge ts vs env.scope=some r):swappedStores [.Tuple ts k p] (.Tuple vs k2 p2) env=pure r:=by
 unfold Ge at h;unfold swappedStores;split at h
 ·rename_i U;cases h;show (if (!(ts.length==2||ts.length==3)||vs.length !=ts.length||env.blockKind !=.function)=true then _ else _)=_;rw[if_pos (show (!(ts.length==2||ts.length==3)||vs.length !=ts.length||env.blockKind !=.function)=true from U)]
 ·rename_i U;show (if (!(ts.length==2||ts.length==3)||vs.length !=ts.length||env.blockKind !=.function)=true then _ else _)=_;rw[if_neg (show ¬ (!(ts.length==2||ts.length==3)||vs.length !=ts.length||env.blockKind !=.function)=true from U)];split at h
  ·rename_i A;cases h;show (if (vs.any fun|.Starred ..=>true|_=>false)=true then _ else _)=_;rw[if_pos A]
  ·rename_i A;show (if (vs.any fun|.Starred ..=>true|_=>false)=true then _ else _)=_;rw[if_neg A];split at h
   ·rename_i H;cases h;show (if ((oI ts env.scope).length !=ts.length||(oI ts env.scope).eraseDups.length !=(oI ts env.scope).length)=true then _ else _)=_;rw[if_pos H]
   ·rename_i H;show (if ((oI ts env.scope).length !=ts.length||(oI ts env.scope).eraseDups.length !=(oI ts env.scope).length)=true then _ else _)=_;rw[if_neg H];split at h
    ·rename_i B;cases h;rw[if_pos B]
    ·rename_i B;rw[if_neg B];split at h
     ·cases h
     ·rename_i C;cases h;rw[if_neg C];rfl
def BZ(f e:Expr)(sc:Scope):Bool:=(cQ f).any λP=>(cQ e).all λc=>decide (Ge P c sc=some none)
theorem xm(h:BZ tg e env.scope=true):swappedStores [tg] e env=pure none:=by
 obtain⟨P,O,Z⟩:=anyT h;clear h;obtain⟨k,p,rfl⟩:=asTup_ok O;cases n:cQ e with
 |some c=>obtain⟨l,o,rfl⟩:=asTup_ok n;rw[n]at Z;exact oJ (Daa Z)
 |none=>cases e<;>first|rfl|cases n
def swC(sc:Scope)(t:Str)(pos p:Pos)(s:Scope):Bool:=bkS sc==.function&&sc.names.lookup t==some .local&&pos.line==p.line&&!(s.names.any λ(n,k)=>n==t&&(k==.local||k==.cell))
theorem xn:swapsWith (.ListComp elt gs s p) (some (.Name t pos)) l env=pure (swC env.scope t pos p s):=rfl
inductive PDx (X:Cx)(i:Nat)(st:Stmt)(de:DE):Prop|mk (te:TE) (h:PS X st (nH te (gU i))) (s:bJ X.K te de)
section
variable{st:Stmt}
theorem PDx.imp:PDx X i st d->(∀ρ Q,d' ρ Q->d ρ Q)->PDx X i st d'
 |⟨te,h,s⟩,f=>⟨te,h,λb F σ H ρ τ θ w Q T R W q=>s b F σ H ρ τ θ w Q T R (f _ _ W) q⟩
theorem ES{M:Tg}(u:X.N.Nodup)(t:X.N[i]?=some y)(j:X.env.scope.names.lookup y=some .local)(U:X.calm=true)(S:CompScope N nt fr X.N scope X.env.scope)(W:∀x,foldedSetIterable iter X.env x=pure x)(r:PDi X tg iter (gg C mi))(m:∀c:CC,PDg (cB X N scope c) Ff nt tg (iz M))(d:∀c:CC,PDc (cB X N scope c) ifs elt (Et C mif me))
  (B:swapsWith (.ListComp elt [⟨tg,iter,ifs,0⟩] scope pos) (some (.Name y py)) spos.line X.env=pure true):PDx X i (.Assign [.Name y py] (.ListComp elt [⟨tg,iter,ifs,0⟩] scope pos) spos) (aF C (.comp nt fr mi M mif me)):=by
 have T:PDx X i (.Assign [.Name y py] (.ListComp elt [⟨tg,iter,ifs,0⟩] scope pos) spos) (qo (gg C mi) nt fr (iz M) (Et C mif me)):=by obtain⟨Z,O,f⟩:=r;obtain⟨g,a⟩:=PDg.ex (Y:=λc=>cB X N scope c) (λ_=>rfl) m;obtain⟨H,P⟩:=PDc.ex (Y:=λc=>cB X N scope c) (λ_=>rfl) d;exact⟨_,y3 u t j U S O (λc=>(a c).1) (λc D=>(P c).1 D) W B,lU f (λc=>(a c).2) λc=>(P c).2⟩
 exact T.imp (qv C)
theorem ET(Q:¬ W i):PDx X i st (aF C ma)->PDs X W st (fK C (.set i ma))
 |⟨_,h,s⟩=>⟨_,h,λb F σ H ρ τ θ w D T n R ⟨y,h,q⟩ E=>by
  obtain⟨z,o,_,J,B,a,h⟩:=bn3 h;cases h;refine s b F σ H ρ τ θ (λr p=>r=z.1/\p=z.2) _ T R ⟨z,J,rfl,rfl⟩ λv l r p g t=>?_;obtain⟨O,Z⟩:=t;subst O Z;exact E.nx _ l _ ((g.own1 B).store n (gd_ok a) Q) q⟩
end
theorem Wd.za(w:Wd b H ([u].zip [y]++((v,x)::L)))(e:x.at ks=some (.hole u)):Wd b H ((v,OD.put y ks x)::L):=by
 obtain⟨S,A,B,C,f,t,d,Q,M,W,I,p,h⟩:=Wd.wh w rfl e;cases t with
 |hole D=>subst D;exact h (λ_ _=>rfl) (λc U=>by cases U) (by simpa using Q) (λc U=>.inr U) λJ l _=>Ow.sub I l d.one
theorem Wd.hole(w:Wd b H L):Wd b H ((u,.hole u)::L):=by obtain⟨A,T,Q,N⟩:=w.out;exact⟨⟨A,Ows.cons (.hole rfl) T,Q,N⟩,w.fr,w.s0,w.nt⟩
theorem Rel.fill(R:Rel b F σ H ρ (u::τ) (.rf j::θ))(h:wA i ks j u ρ ρ'):Rel b F σ H ρ' τ θ:=by obtain⟨x,y,r,f,g,Z,l⟩:=h;subst l;obtain⟨o,a,M⟩:=R.drop.moved g;have J:=R.al.1;rw[J]at a;cases a;obtain⟨v,a,w⟩:=Rel.open (us:=[u]) (zs:=[y]) M rfl (by rw[aaZ Z];omega);exact Rel.close (Rel.rest (us:=[u]) (zs:=[y]) M rfl) a (w.za f)
theorem EU(S:attributeBase e "append" X.env (eval e X.env)=eval e X.env) (l:(apos.endLine==cpos.line)=true) (hN:X.N[j]?=some x) (hv:Vis X.env.scope x) (hd:(x==("__debug__":Str))=false) (L:(x==("__classdict__":Str))=false):
  PDp X e i ps->PDss X (λk=>W k\/k=j) sts (ji C mss)->PDss X W (.Expr (.Call (.Attribute e "append" apos) [.Name x pos'] [] cpos) pos::sts) (ji C (.ali i ps j mss))
 |⟨_,h0,s0⟩,⟨_,Z,s2⟩=>⟨_,lx (gJ (qb abT abU abV eG h0 (aZ (bD hN hv hd L) ck (aC rfl)) S (wM rfl) l (aC rfl) (bH rfl)) rfl) Z,λb F σ H ρ τ θ Dd D T n R ⟨z,h,q⟩ E=>by
  obtain⟨r,J,h⟩:=bnd h;obtain⟨Y,ex,d,t,⟨o,s⟩,ha⟩:=l6 h;obtain⟨g1,A⟩:=path_at J;refine s0 b F σ H ρ τ θ _ r T R J λv u ev f=>?_;rw[ex]at A f;obtain⟨w,a0,rfl,a1⟩:=R.cell g1 A ev f;refine⟨.inl ⟨rfl,a0,SqL.of a1⟩,?_⟩;obtain⟨I,P⟩:=R.wf.get (join_some s);obtain⟨vs,hH,hl,M⟩:=Rel.vu (Rel.push R R.wd.hole) g1 A ev f d;refine⟨I,P,w,vs,I,rfl,rfl,hH,hl,?_⟩;obtain⟨m,B,U⟩:=ha I;obtain⟨Q,a2⟩:=z;refine s2 b F σ _ _ (I::τ) (.rf j::θ) ⟨λp=>Q=.nx/\p=m,λo p=>Q=.rt o/\p=m,λp=>Q=.bk/\p=m,λp=>Q=.ct/\p=m⟩ _ T (λr hr=>?_) ⟨M.wf,⟨P,M.al⟩,M.wff,M.wd⟩ ⟨(Q,m),B,by cases Q<;>exact⟨rfl,rfl⟩⟩ ⟨λa y p g ⟨O,Z⟩=>?_,λa y p g ⟨O,Z⟩=>?_,λa y p g ⟨O,Z⟩=>?_,λa y p v o g ⟨O,Z⟩=>?_⟩
  ·rcases aaa.mp hr with rfl|hr
   ·simp
   ·exact(n r hr).imp id λ⟨k,c,ek⟩=>⟨k,.inl c,ek⟩
  ·subst O Z;exact E.nx a y _ (g.fill U) q
  ·subst O Z;exact E.bk a y _ (g.fill U) q
  ·subst O Z;exact E.ct a y _ (g.fill U) q
  ·subst O Z;exact E.rt a y _ v o (Rel.fill (Rel.wk (vs:=[v]) (rs:=[.val o]) g rfl) U) q⟩
theorem PDe.ex{K:Waa}{Y:CC->Cx}(T:∀c,(Y c).K=K)(h:∀c,PDe (Y c) e d):∃g:CC->TE,∀c,PE (Y c) e (g c)/\bJ K (g c) d:=
 abQ (r:=λc g=>PE (Y c) e g/\bJ K g d) λc=>(by obtain⟨o,O,f⟩:=h c;exact⟨o,O,T c▸f⟩)
theorem Dt.sc{K:Waa}(h:Dt K H v d)(e:Hm d=true):Sc v d:=by cases h<;>first|constructor|cases e
theorem Rel.growD(R:Rel b F σ H ρ (v::(vs++[.ref D])) (.val (.fz d)::(rs++[.val (.dic ks xs)])))(u:vs.length=rs.length):
  ∃ws,H D=some (.dK ws)/\ws.length=xs.length/\Rel b F σ (upd H D (.dK (putK ws kk v))) ρ (vs++[.ref D]) (rs++[.val (.dic (putKey kk d ks xs).1 (putKey kk d ks xs).2)]):=by
 have M:=R.drop;have J:∀y:OD,stk (vs++[.ref D]) (rs++[.val y])=stk vs rs++[(.ref D,y)]:=λy=>by rw[aH u];rfl
 have w:Wd b H ((v,.fz d)::((stk vs rs++[(.ref D,.dic ks xs)])++(flat σ ρ++ff F))):=by
  have:=R.wd;simp only[stk]at this
  grind
 have n:Wd b H ([v].zip [OD.fz d]++((.ref D,.dic ks xs)::(stk vs rs++(flat σ ρ++ff F)))):=w.perm (by
  simp)
 obtain⟨a,ws,f,i,x,j,h⟩:=n.r3 (ks:=[]) rfl rfl;cases f;subst x;refine⟨ws,i,j,M.wf,?_,M.wff,?_⟩
 ·obtain⟨I,_⟩:=(aS u).mp M.al;exact(aS u).mpr ⟨I,trivial⟩
 ·rw[J];refine(h (putK ws kk v) _ _ (kj (d:=d) j) λS H A C s O Z Q=>iB O Z Q).perm ?_;rw[aab];exact aav.symm
section
variable{mt:Tg}
theorem xo{Y:Type}(step:Y->PyData->DEnv->Option (Y×DEnv))(ds:List PyData)(w:Y×DEnv)(k:Nat){out:Y}(W:ds[k]?=some d)(h:eZ step (ds.drop k) out ρ=some w):∃z,step out d ρ=some z/\eZ step (ds.drop (k+1)) z.1 z.2=some w:=by
 have F:=(aai.mp W).1;have e:ds.drop k=d::ds.drop (k+1):=by rw[abw F,(aai.mp W).2]
 rw[e]at h;exact bnd h
theorem Ah{K:Waa}(f:bJ K tk (aF C mk'))(Z:bJ K tv (aF C mv')):SndY (λz:List Key×List OD=>.dic z.1 z.2) (λz=>z.2.length) K (ze tk tv) (λo ρ Q=>∃w,dAct C mk' mv' o ρ=some w/\Q w.1 w.2):=by
 intro b F L H ρ vs U D O Qd Q T u d R h q;obtain⟨w,h,W⟩:=h;obtain⟨x,y,v,c,X,J,B,s,e,k,h⟩:=bn5 h;cases h;refine f b F L H ρ _ _ (λr p=>r=x.1/\p=x.2) _ T R ⟨x,J,rfl,rfl⟩ λI P r A M t=>?_;obtain⟨rfl,rfl⟩:=t;refine Z b F L P _ _ _ (λr p=>r=y.1/\p=y.2) _ T M ⟨y,B,rfl,rfl⟩ λS H2 r m N t=>?_;obtain⟨rfl,rfl⟩:=t;have a:=N.dt2 s;have g:I=kV c:=by cases v<;>cases e<;>cases a<;>rfl
 subst g;obtain⟨l,i,j,Y⟩:=Rel.growD (Rel.et (N.frz1 k)) u;have n:O.2.length<1000000:=d;exact⟨_,⟨l,c,i,rfl,aas (by omega) (by decide:1000001<=sizeLine),rfl⟩,q _ _ _ Y (by
  show (putKey c X.1 O.1 O.2).2.length<=O.2.length+1;unfold putKey;split
  ·rw[List.length_zipWith];omega
  ·rw[aak];exact aac _) W⟩
theorem IA{l:List Key×List OD->DEnv->Option ((List Key×List OD)×DEnv)}{tk I:CC->TE}(hw:¬ W i)(m:∀{Z:TI}{g:CC->TG}{tc:CC->TC},PI X tg iter Z->(∀c,PG (cB X N scope c) tg (g c))->(∀c D,vF (cB X N scope c) D [] kx vx (tc c))->PS X (.Assign [.Name y py] (.DictComp kx vx [⟨tg,iter,[],0⟩] scope pos) spos) (nH (vE Z nt fr g tc) (gU i)))(U:∀c:CC,(cB X N scope c).A.units+1<cLine)(r:PDi X tg iter (gg C mi))(hg:∀c:CC,PDg (cB X N scope c) Ff nt tg (iz mt))(hk:∀c:CC,PE (cB X N scope c) kx (tk c))(hv:∀c:CC,PE (cB X N scope c) vx (I c))(ha:∀c,SndY (λz:List Key×List OD=>.dic z.1 z.2) (λz=>z.2.length) X.K (ze (tk c) (I c)) (λo ρ Q=>∃w,l o ρ=some w/\Q w.1 w.2)):
  PDs X W (.Assign [.Name y py] (.DictComp kx vx [⟨tg,iter,[],0⟩] scope pos) spos) (λD ρ=>∃x,((tQ C mi ρ).bind λx=>(gd (x.1.length<1000000)).bind λ_=>(cC x.2 fr).bind λz=>(eZ (λo d ρ=>(bo mt (.fz d) ρ).bind λρ1=>l o ρ1) x.1 ([],[]) (List.replicate nt none++z.1)).bind λw=>(gd (i<(dX z.2 fr (w.2.drop nt)).length)).bind λ_=>some (Fl.nx,(dX z.2 fr (w.2.drop nt)).set i (some (OD.dic w.1.1 w.1.2))))=some x/\Ex D x.2 x.1):=by
 obtain⟨Z,h1,f⟩:=r;obtain⟨g,a⟩:=PDg.ex (Y:=λc=>cB X N scope c) (λ_=>rfl) hg;refine⟨_,m h1 (λc=>(a c).1) (λc D=>oh (U c) (hk c) (hv c)),λb F L H ρ τ θ Dd D T n R ⟨z,h,q⟩ E=>?_⟩;obtain⟨w,_,ca,o,_,e1,hz,B,s,r,h⟩:=bn5 h;cases h;refine f b F L H ρ τ θ (λds p=>ds=w.1/\p=w.2) _ T R ⟨w,e1,rfl,rfl⟩ λJ P ds ρ1 vs rs el v M j t=>?_;obtain⟨rfl,rfl⟩:=t;refine lT (Q:=λx P=>D.nx (L.set i (some x)) P) (a0:=([],[])) (Iv:=λk O ρ=>eZ (λo d ρ=>(bo mt (.fz d) ρ).bind λρ1=>l o ρ1) (w.1.drop k) O ρ=some o) (λw h=>w.tr h) rfl (λc=>(a c).2) ha T el v M j (gd_ok hz) B s (λk d O ρ hd S=>by
  obtain⟨u,U,a1⟩:=xo _ _ _ k hd S;obtain⟨ρ1,e,U⟩:=bnd U;exact⟨ρ1,e,u,U,a1⟩) λH' D' O p R' S=>by
  have S:=S;rw[abS]at S;cases S;exact E.nx _ _ _ (Rel.store (Rel.drops (Rel.wj R' el) el) n (gd_ok r) hw) q
theorem IB(Q:¬ W i)(u:X.N.Nodup)(t:X.N[i]?=some y)(j:X.env.scope.names.lookup y=some .local)(U:X.calm=true)(S:CompScope N nt fr X.N scope X.env.scope)(g:∀x,foldedSetIterable iter X.env x=pure x)
  (B:swapsWith (.DictComp kx vx [⟨tg,iter,[],0⟩] scope pos) (some (.Name y py)) spos.line X.env=pure true) (n:∀c:CC,(cB X N scope c).A.units+1<cLine) (r:PDi X tg iter (gg C mi)) (m:∀c:CC,PDg (cB X N scope c) Ff nt tg (iz mt)) (F:∀c:CC,PDe (cB X N scope c) kx (aF C mk')) (o:∀c:CC,PDe (cB X N scope c) vx (aF C mv')):PDs X W (.Assign [.Name y py] (.DictComp kx vx [⟨tg,iter,[],0⟩] scope pos) spos) (fK C (.sdc i nt fr mi mt mk' mv')):=by
 obtain⟨f,H⟩:=PDe.ex (K:=X.K) (Y:=λc=>cB X N scope c) (λ_=>rfl) F;obtain⟨I,P⟩:=PDe.ex (K:=X.K) (Y:=λc=>cB X N scope c) (λ_=>rfl) o;exact IA Q (λO Z M=>vG u t j U S O Z M g B) n r m (λc=>(H c).1) (λc=>(P c).1) λc=>Ah (H c).2 (P c).2
end
end
section
section
variable(t:Tb)
mutual
noncomputable def xp:E->Ck
 |.nm i=>λN sc e=>BV N sc i e
 |.int k=>λN sc e=>(jD e).any λj=>decide (j=k)
 |.ix a b=>λN sc e=>(ei e).any λz=>!bO z.2&&xp a N sc z.1&&xp b N sc z.2
 |.tup es=>λN sc e=>(cQ e).any λxs=>xq es N sc xs
 |.pg i ps=>λN sc e=>cN t N sc i ps e
 |_=>λ_ _ _=>false
noncomputable def xq:Es->List Str->Scope->List Expr->Bool
 |.nil=>λN sc xs=>xs.isEmpty
 |.cons a es=>λN sc xs=>(mq xs).any λz=>!isStar z.1&&xp a N sc z.1&&xq es N sc z.2
end
end
mutual
theorem JC:∀(m:E) X e,Cy t C X->xp t m X.N X.env.scope e=true->PDq X e (ka C m)
 |.nm i,X,e,c,h=>by obtain⟨x,p,rfl,h⟩:=iF h;obtain⟨O,Z,M,P⟩:=bK h;exact La O Z M P
 |.int k,X,e,c,h=>by obtain⟨j,O,h⟩:=anyT h;obtain⟨_,_,rfl⟩:=asInt_ok O;have:=Daa h;subst this;exact H9
 |.ix a b,X,e,c,h=>by obtain⟨q,O,h⟩:=anyT h;obtain⟨_,rfl⟩:=asSub_ok O;obtain⟨I,U,T⟩:=an3 h;exact Lc (kc (bu I)) (JC a X _ c U) (JC b X _ c T)
 |.tup es,X,e,c,h=>by obtain⟨q,O,h⟩:=anyT h;obtain⟨_,_,rfl⟩:=asTup_ok O;exact Ia (IC es X _ c h)
 |.pg i ps,X,e,c,h=>Lb (aX c ps _ h)
 |.mv _,X,e,c,h|.str _,X,e,c,h|.bl _,X,e,c,h|.non,X,e,c,h|.gc _,X,e,c,h|.bop _ _ _,X,e,c,h|.cat _ _,X,e,c,h|.rep _ _,X,e,c,h|.cmp _ _ _,X,e,c,h|.cmp2 _ _ _ _ _,X,e,c,h|.isn _ _,X,e,c,h|.and _ _,X,e,c,h|.or _ _,X,e,c,h|.not _,X,e,c,h|.neg _,X,e,c,h|.ife _ _ _,X,e,c,h|.lst _,X,e,c,h|.call _ _,X,e,c,h|.callS _ _,X,e,c,h|.blt _ _,X,e,c,h|.bnw _ _,X,e,c,h|.isi _ _,X,e,c,h|.idx _ _,X,e,c,h|.dgt _ _,X,e,c,h|.dnew,X,e,c,h|.pf _ _,X,e,c,h|.pl _ _,X,e,c,h|.pt _ _,X,e,c,h|.pin _ _ _ _,X,e,c,h|.din _ _ _ _,X,e,c,h|.comp _ _ _ _ _ _,X,e,c,h|.meth _ _ _ _ _,X,e,c,h|.make _ _ _,X,e,c,h=>by trivial
theorem IC:∀(m:Es) X xs,Cy t C X->xq t m X.N X.env.scope xs=true->PDqs X xs (oB C m)
 |.nil,X,xs,c,h=>by
  cases xs with
  |nil=>exact EB
  |cons _ _=>cases h
 |.cons a es,X,xs,c,h=>by obtain⟨z,O,h⟩:=anyT h;have:=con1_ok O;subst this;obtain⟨I,U,T⟩:=an3 h;exact zU (bu I) (JC a X _ c U) (IC es X _ c T)
end
def xr(e:PySem.Stmt):Option (Expr):=if h:e.ctorIdx=24 then some (@PySem.Stmt.Expr.elim (λ_=>Expr) e h λx _=>x) else none
theorem qQ(h:xr e=some z):∃p,e=.Expr z p:=by
 by_cases U:e.ctorIdx=24
 ·revert h;exact@PySem.Stmt.Expr.elim (λe=>xr e=some z->∃p,e=.Expr z p) e U λx p h=>by cases h;simp
 ·rw[xr,dif_neg U]at h;cases h
def Ai(e:PySem.Stmt):Option (List Expr×Expr):=if h:e.ctorIdx=5 then some (@PySem.Stmt.Assign.elim (λ_=>List Expr×Expr) e h λP x _=>(P,x)) else none
theorem asAs_ok(h:Ai e=some z):∃p,e=.Assign z.1 z.2 p:=by
 by_cases U:e.ctorIdx=5
 ·revert h;exact@PySem.Stmt.Assign.elim (λe=>Ai e=some z->∃p,e=.Assign z.1 z.2 p) e U λP x p h=>by cases h;simp
 ·rw[Ai,dif_neg U]at h;cases h
def uc(e:PySem.Stmt):Option (Expr×Operator×Expr):=if h:e.ctorIdx=7 then some (@PySem.Stmt.AugAssign.elim (λ_=>Expr×Operator×Expr) e h λt o x _=>(t,o,x)) else none
theorem asAu_ok(h:uc e=some z):∃p,e=.AugAssign z.1 z.2.1 z.2.2 p:=by
 by_cases U:e.ctorIdx=7
 ·revert h;exact@PySem.Stmt.AugAssign.elim (λe=>uc e=some z->∃p,e=.AugAssign z.1 z.2.1 z.2.2 p) e U λt o x p h=>by cases h;simp
 ·rw[uc,dif_neg U]at h;cases h
def Aj(e:PySem.Stmt):Option (Option Expr):=if h:e.ctorIdx=3 then some (@PySem.Stmt.Return.elim (λ_=>Option Expr) e h λo _=>o) else none
theorem Ak(h:Aj e=some z):∃p,e=.Return z p:=by
 by_cases U:e.ctorIdx=3
 ·revert h;exact@PySem.Stmt.Return.elim (λe=>Aj e=some z->∃p,e=.Return z p) e U λo p h=>by cases h;simp
 ·rw[Aj,dif_neg U]at h;cases h
def Am(e:PySem.Stmt):Option (Expr×List Stmt×List Stmt):=if h:e.ctorIdx=12 then some (@PySem.Stmt.If.elim (λ_=>Expr×List Stmt×List Stmt) e h λc a b _=>(c,a,b)) else none
theorem An(h:Am e=some z):∃p,e=.If z.1 z.2.1 z.2.2 p:=by
 by_cases U:e.ctorIdx=12
 ·revert h;exact@PySem.Stmt.If.elim (λe=>Am e=some z->∃p,e=.If z.1 z.2.1 z.2.2 p) e U λc a b p h=>by cases h;simp
 ·rw[Am,dif_neg U]at h;cases h
def Ao(e:PySem.Stmt):Option (Expr×List Stmt×List Stmt):=if h:e.ctorIdx=11 then some (@PySem.Stmt.While.elim (λ_=>Expr×List Stmt×List Stmt) e h λc a b _=>(c,a,b)) else none
theorem Ap(h:Ao e=some z):∃p,e=.While z.1 z.2.1 z.2.2 p:=by
 by_cases U:e.ctorIdx=11
 ·revert h;exact@PySem.Stmt.While.elim (λe=>Ao e=some z->∃p,e=.While z.1 z.2.1 z.2.2 p) e U λc a b p h=>by cases h;simp
 ·rw[Ao,dif_neg U]at h;cases h
def Aq(e:PySem.Stmt):Option (Expr×Expr×List Stmt×List Stmt):=if h:e.ctorIdx=9 then some (@PySem.Stmt.For.elim (λ_=>Expr×Expr×List Stmt×List Stmt) e h λg i a b _=>(g,i,a,b)) else none
theorem Ar(h:Aq e=some z):∃p,e=.For z.1 z.2.1 z.2.2.1 z.2.2.2 p:=by
 by_cases U:e.ctorIdx=9
 ·revert h;exact@PySem.Stmt.For.elim (λe=>Aq e=some z->∃p,e=.For z.1 z.2.1 z.2.2.1 z.2.2.2 p) e U λg i a b p h=>by cases h;exact⟨p,rfl⟩
 ·rw[Aq,dif_neg U]at h;cases h
def ID(s:Stmt):Bool:=decide (s.ctorIdx=27)
theorem As(h:ID s=true):∃p,s=.Continue p:=@Stmt.Continue.elim (λs=>∃p,s=.Continue p) s (Daa h) λp=>⟨p,rfl⟩
def kr(s:Stmt):Option (Expr×Expr):=(Ai s).bind λz=>(eX z.1).bind λt=>some (t,z.2)
theorem asg1_ok{z}(h:kr s=some z):∃p,s=.Assign [z.1] z.2 p:=by
 obtain⟨c,t,O,Z,h⟩:=bn2 h;cases h;obtain⟨P,e⟩:=c;obtain⟨p,rfl⟩:=asAs_ok O;have:=one1_ok Z
 grind
def qR(s:Stmt):Option (Expr×Expr×Pos×Pos):=(xr s).bind λe=>(fq e).bind λz=>(fM z.1).bind λa=>(eX z.2.1).bind λx=>if z.2.2.1.isEmpty&&sEq a.2.1 "append" then some (a.1,x,a.2.2,z.2.2.2) else none
theorem iL{z}(h:qR s=some z):∃p,s=.Expr (.Call (.Attribute z.1 "append" z.2.2.1) [z.2.1] [] z.2.2.2) p:=by
 obtain⟨e,c,a,x,O,Z,M,P,h⟩:=bn4 h;obtain⟨f,Y,S,q⟩:=c;obtain⟨o,m,C⟩:=a;cases U:(S.isEmpty&&sEq m "append") with
 |false=>simp only[U]at h;cases h
 |true=>
  simp only[U]at h;cases h;have l:=asAtt_ok M;have n:=one1_ok P;have L:=bw (an2 U).2;cases S with
  |cons _ _=>cases U
  |nil=>simp only at l n;subst L;subst n;subst l;obtain⟨p,rfl⟩:=qQ O;exact⟨p,by rw[eM Z]⟩
def cmpE:E->Bool
 |.comp _ _ _ _ _ _=>true|_=>false
def setB(t:Tb)(T:Nat->Bool)(N:List Str)(sc:Scope)(i:Nat)(m:E)(x:Str)(p:Pos)(e:Expr):Bool:=mr T N sc true N.length i x&&(aU t m).1 N sc e&&match oE e with
 |some z=>!swC sc x p z.2.2.2 z.2.2.1||cmpE m
 |none=>!dZ e
def xt(e:PySem.Expr):Option (Str×Pos):=if h:e.ctorIdx=23 then some (@PySem.Expr.Name.elim (λ_=>Str×Pos) e h λx p=>(x,p)) else none
theorem qS(h:xt e=some z):e=.Name z.1 z.2:=by
 by_cases U:e.ctorIdx=23
 ·revert h;exact@PySem.Expr.Name.elim (λe=>xt e=some z->e=.Name z.1 z.2) e U λx p h=>by cases h;rfl
 ·rw[xt,dif_neg U]at h;cases h
section
variable(t:Tb)
def B3(T:Nat->Bool)(N:List Str)(sc:Scope)(P vs:List Expr)(i j:Nat):Bool:=(jh P).any λw=>(jh vs).any λ_=>(bT w.1).any λx=>(bT w.2).any λy=>decide (oI P sc=[x,y])&&decide (i≠j)&&(decide (N[i]?=some x)&&decide (N[j]?=some y))&&(kindB sc x .local&&kindB sc y .local)&&(T i&&T j)
def B4(T:Nat->Bool)(N:List Str)(sc:Scope)(P vs:List Expr)(i j k:Nat):Bool:=(wy P).any λw=>(wy vs).any λ_=>(bT w.1).any λx=>(bT w.2.1).any λy=>(bT w.2.2).any λz=>decide (oI P sc=[x,y,z])&&(decide (i≠j)&&decide (i≠k)&&decide (j≠k))&&(decide (N[i]?=some x)&&decide (N[j]?=some y)&&decide (N[k]?=some z))&&(kindB sc x .local&&kindB sc y .local&&kindB sc z .local)&&(T i&&T j&&T k)
mutual
noncomputable def IE(T:Nat->Bool):S'->List Str->Scope->Stmt->Bool
 |.ex m=>λN sc s=>(xr s).any λe=>!dZ e&&(aU t m).1 N sc e
 |.set i m=>λN sc s=>(kr s).any λz=>(xt z.1).any λx=>setB t T N sc i m x.1 x.2 z.2
 |.asg g m=>λN sc s=>(kr s).any λz=>isTup z.1&&BZ z.1 z.2 sc&&(aU t m).1 N sc z.2&&xf T N sc true N.length g z.1
 |.par is ms=>λN sc s=>(kr s).any λz=>(cQ z.1).any λP=>(cQ z.2).any λvs=>fQ t ms N sc vs&&decide (Ge P vs sc=some (some (oI P sc)))&&((jh is).any (λq=>B3 T N sc P vs q.1 q.2)||(wy is).any λq=>B4 T N sc P vs q.1 q.2.1 q.2.2)
 |.aug i o m=>λN sc s=>(uc s).any λz=>(bT z.1).any λx=>Jz o z.2.1&&mr T N sc true N.length i x&&(aU t m).1 N sc z.2.2
 |.agl i m=>λN sc s=>(uc s).any λz=>(bT z.1).any λx=>EM z.2.1&&mr T N sc true N.length i x&&(aU t m).1 N sc z.2.2
 |.ret m=>λN sc s=>(Aj s).any λo=>o.any λe=>(aU t m).1 N sc e
 |.iff c a b=>λN sc s=>(Am s).any λz=>(aU t c).2 N sc z.1&&gB T a N sc z.2.1&&gB T b N sc z.2.2
 |.whl c b=>λN sc s=>(Ao s).any λz=>(aU t c).2 N sc z.1&&gB T b N sc z.2.1&&z.2.2.isEmpty
 |.fr g it b=>λN sc s=>(Aq s).any λz=>!isSet z.2.1&&Af t it N sc z.1 z.2.1&&xf T N sc true N.length g z.1&&gB T b N sc z.2.2.1&&z.2.2.2.isEmpty
 |.cont=>λN sc s=>ID s
 |.app i m=>λN sc s=>(qR s).any λz=>(bT z.1).any λx=>uH N sc i x&&(z.2.2.1.endLine==z.2.2.2.line)&&!isStar z.2.1&&(aU t m).1 N sc z.2.1
 |.apd i ps m=>λN sc s=>(qR s).any λz=>!isCall z.1&&(z.2.2.1.endLine==z.2.2.2.line)&&!isStar z.2.1&&cN t N sc i ps z.1&&xp t m N sc z.2.1
 |.sti i k m=>λN sc s=>(kr s).any λz=>(ei z.1).any λw=>(bT w.1).any λx=>uH N sc i x&&!bO w.2&&!dZ z.2&&(aU t m).1 N sc z.2&&(aU t k).1 N sc w.2
 |.sdk i k m=>λN sc s=>(kr s).any λz=>(ei z.1).any λw=>(bT w.1).any λx=>uH N sc i x&&!dZ z.2&&(aU t m).1 N sc z.2&&(aU t k).1 N sc w.2
 |.std i ps j m=>λN sc s=>(kr s).any λz=>(ei z.1).any λw=>!dZ z.2&&cN t N sc i ps w.1&&BV N sc j w.2&&(aU t m).1 N sc z.2
 |.sdc i nt fr it tg ke ve=>λN sc s=>(kr s).any λz=>(xt z.1).any λx=>(BW z.2).any λw=>(λn=>mr T N sc true N.length i x.1&&qH n nt fr N w.2.2.2.2.2.1 sc&&!isSet w.2.2.2.1&&Af t it N sc w.2.2.1 w.2.2.2.1&&swC sc x.1 x.2 w.2.2.2.2.2.2 w.2.2.2.2.2.1&&(decide n.Nodup&&w.2.2.2.2.1.isEmpty&&xf (λ_=>true) n (tX w.2.2.2.2.2.1 sc) false nt tg w.2.2.1&&(aU t ke).1 n (tX w.2.2.2.2.2.1 sc) w.1&&(aU t ve).1 n (tX w.2.2.2.2.2.1 sc) w.2.1)) (EI w.2.2.1++fr.filterMap λj=>N[j]?)
 |.stf i c f m=>λN sc s=>(kr s).any λz=>(fM z.1).any λw=>(bT w.1).any λx=>sEq w.2.1 f&&uH N sc i x&&t.fld c f&&!dZ z.2&&(aU t m).1 N sc z.2
 |.agf i c f o m=>λN sc s=>(uc s).any λz=>(fM z.1).any λw=>(bT w.1).any λx=>sEq w.2.1 f&&Jz o z.2.1&&uH N sc i x&&t.fld c f&&(aU t m).1 N sc z.2.2
noncomputable def gB(T:Nat->Bool):Ss->List Str->Scope->List Stmt->Bool
 |.nil=>λN sc s=>s.isEmpty
 |.cons m ms=>λN sc s=>(mq s).any λz=>IE T m N sc z.1&&gB T ms N sc z.2
 |.ali i ps j ms=>λN sc s=>(mq s).any λy=>(qR y.1).any λz=>(bT z.2.1).any λx=>!isCall z.1&&(z.2.2.1.endLine==z.2.2.2.line)&&cN t N sc i ps z.1&&uH N sc j x&&gB (λk=>T k&&!decide (k=j)) ms N sc y.2
end
end
structure Cs (t:Tb)(C:Ct)(W:Nat->Prop)(ok:Nat->Bool)(X:Cx):Prop where
 c:Cy t C X
 nd:X.N.Nodup
 fn:∀x,X.fn x=true
 pass:PassesOwn (model X.prog X.w) X.A X.env X.xe
 hw:∀i,ok i=true->¬ W i
theorem IF:swappedStores [.Subscript o i p] e env=pure none:=by rfl
theorem qT{m:Stmt}(h:PDs X W m (D6 is (dM C ms))):PDs X W m (fK C (.par is ms)):=h.imp λD I ⟨y,h,q⟩=>by obtain⟨z,o,_,J,B,d,h⟩:=bn3 h;have d:=gd_ok d;cases h;exact⟨z,J,o.1,o.2,B,d.1,d.2,q⟩
theorem EV(c:Cs t C W ok X){z}(n:oE e=some z)(s:Sto X W X.N.length i x)(B:swC X.env.scope x p z.2.2.2 z.2.2.1=true)
  (h:(aU t (.comp nt fr it tg ifs el)).1 X.N X.env.scope e=true):PDx X i (.Assign [.Name x p] e pos) (aF C (.comp nt fr it tg ifs el)):=by
 have j:X.env.scope.names.lookup x=some .local:=by unfold swC at B;have:=(yF B).2.1;simpa using this
 obtain⟨w,O,h⟩:=anyT h;have J:=mx O;subst J;cases n;obtain⟨I,U,T,l,F⟩:=an5 h;obtain⟨Q,H,A⟩:=an3 F;exact ES c.nd s.hN j c.c.calm (iH I) (kl (bu T)) (JB it X _ _ c.c l) (λq=>fO c.c.calm (Daa U) (λz=>by cases z) (λ_ _ z=>z) Q) (λq=>LW ifs (cB X _ w.2.2.2.2.1 q) _ _ c.c.comp (aY el) H A) (by rw[xn,B])
theorem Au(c:Cs t C W ok X)(h:setB t ok X.N X.env.scope i m x p e=true):PDs X W (.Assign [.Name x p] e pos) (fK C (.set i m)):=by
 obtain⟨O,Z,M⟩:=an3 h;have s:=eN (λ_=>c.fn) c.hw O;cases n:oE e with
 |none=>rw[n]at M;exact BR c.nd s (gi (bu M)) ((aY m).v X _ c.c Z)
 |some z=>
  rw[n]at M;cases B:swC X.env.scope x p z.2.2.2 z.2.2.1 with
  |false=>have J:=qB n;exact BR c.nd s (by rw[J,xn,B]) ((aY m).v X _ c.c Z)
  |true=>
   have M:(!swC X.env.scope x p z.2.2.2 z.2.2.1||cmpE m)=true:=M;rw[B]at M;have M:=M;cases m with
   |comp I U j f S u=>exact ET s.nw (EV c n s B Z)
   |_=>cases M
theorem Av{W:Nat->Prop}{T:Nat->Bool}{i j:Nat}(c:Cs t C W T X)(B:Ge ts vs X.env.scope=some (some (oI ts X.env.scope)))(o:PDa X vs (dM C ms))(r:B3 T X.N X.env.scope ts vs i j=true):PDs X W (.Assign [.Tuple ts k1 p1] (.Tuple vs k2 p2) p) (fK C (.par [i,j] ms)):=by
 obtain⟨w,u,x,y,Q,H,A,z,r⟩:=ay4 r;have s:=two2_ok Q;have e:=two2_ok H;obtain⟨f,n⟩:=w;obtain⟨m,L⟩:=asNm_ok A;obtain⟨b,S⟩:=asNm_ok z;simp only at s e L S;subst L S;subst s e;clear Q H A z;obtain⟨P,q,g,h,a⟩:=an5 r;clear r;rw[Daa P]at B;refine qT (zB (λk F=>?_) c.c.calm c.nd (Daa (an2 g).1) (Daa (an2 g).2) (Daa q) (aM (an2 h).1) (aM (an2 h).2) (oJ B) rfl o);rcases aaa.mp F with rfl|F
 ·exact c.hw _ (an2 a).1
 ·rw[aaw.mp F];exact c.hw _ (an2 a).2
theorem Aw{W:Nat->Prop}{T:Nat->Bool}{i j k:Nat}(c:Cs t C W T X)(B:Ge ts vs X.env.scope=some (some (oI ts X.env.scope)))(o:PDa X vs (dM C ms))(r:B4 T X.N X.env.scope ts vs i j k=true):PDs X W (.Assign [.Tuple ts k1 p1] (.Tuple vs k2 p2) p) (fK C (.par [i,j,k] ms)):=by
 obtain⟨w,u,x,y,z,Q,H,A,v,D,r⟩:=ay5 r;have s:=thr3_ok Q;have e:=thr3_ok H;obtain⟨w1,n,J⟩:=w;obtain⟨q1,L⟩:=asNm_ok A;obtain⟨b,e6⟩:=asNm_ok v;obtain⟨d,f⟩:=asNm_ok D;simp only at s e L e6 f;subst L e6 f;subst s e;clear Q H A v D;obtain⟨P,q,c3,h,a⟩:=an5 r;clear r;obtain⟨m,l,Y⟩:=an3 q;obtain⟨Z,I,U⟩:=an3 c3;obtain⟨S,O,M⟩:=an3 h;obtain⟨f1,f2,g⟩:=an3 a;rw[Daa P]at B;refine qT (v3 (λk F=>?_) c.c.calm c.nd (Daa Z) (Daa I) (Daa U) (Daa m) (Daa l) (Daa Y) (aM S) (aM O) (aM M) (oJ B) rfl o);rcases aaa.mp F with rfl|F
 ·exact c.hw _ f1
 ·rcases aaa.mp F with rfl|F
  ·exact c.hw _ f2
  ·rw[aaw.mp F];exact c.hw _ g
mutual
theorem MP{W:Nat->Prop}{ok:Nat->Bool}:∀(m:S') X s,Cs t C W ok X->IE t ok m X.N X.env.scope s=true->PDs X W s (fK C m)
 |.ex m,X,s,c,h=>by obtain⟨e,O,r⟩:=anyT h;obtain⟨p,rfl⟩:=qQ O;exact KZ (bu (an2 r).1) ((aY m).v X _ c.c (an2 r).2)
 |.set i m,X,s,c,h=>by obtain⟨z,x,O,Z,r⟩:=ay2 h;obtain⟨p,rfl⟩:=asg1_ok O;rw[qS Z];exact Au c r
 |.asg g m,X,s,c,h=>by
  obtain⟨z,O,r⟩:=anyT h;obtain⟨p,rfl⟩:=asg1_ok O;obtain⟨I,T,l,F⟩:=yF r;refine HQ ?_ (xm T) ?_ ((aY m).v X _ c.c l) (fO c.c.calm c.nd (λ_=>c.fn) c.hw F)
  ·obtain⟨_,_,_,e⟩:=fN I;rw[e];cases z.2<;>rfl
  obtain⟨_,_,_,e⟩:=fN I;rw[e];rfl
 |.par is ms,X,s,c,h=>by
  obtain⟨z,P,vs,O,Z,M,r⟩:=ay3 h;obtain⟨p,rfl⟩:=asg1_ok O;obtain⟨z1,z2⟩:=z;obtain⟨u,p1,J⟩:=asTup_ok Z;obtain⟨k2,p2,B⟩:=asTup_ok M;simp only at J B;subst J B;obtain⟨I,U,r⟩:=an3 r;rcases acg.mp r with r|r
  ·obtain⟨q,b,r⟩:=anyT r;rw[two2_ok b];exact Av c (Daa U) (yG ms X _ c.c I) r
  ·obtain⟨q,b,r⟩:=anyT r;rw[thr3_ok b];exact Aw c (Daa U) (yG ms X _ c.c I) r
 |.aug i o m,X,s,c,h=>by obtain⟨z,x,O,Z,r⟩:=ay2 h;obtain⟨p,rfl⟩:=asAu_ok O;obtain⟨q,e⟩:=asNm_ok Z;obtain⟨I,U,T⟩:=an3 r;rw[e,oF I];exact HS c.nd (eN (λ_=>c.fn) c.hw U) ((aY m).v X _ c.c T)
 |.agl i m,X,s,c,h=>by obtain⟨z,x,O,Z,r⟩:=ay2 h;obtain⟨p,rfl⟩:=asAu_ok O;obtain⟨q,e⟩:=asNm_ok Z;obtain⟨I,U,T⟩:=an3 r;rw[e,qN I];exact HU c.nd (eN (λ_=>c.fn) c.hw U) ((aY m).v X _ c.c T)
 |.ret m,X,s,c,h=>by obtain⟨o,e,O,Z,r⟩:=ay2 h;obtain⟨p,rfl⟩:=Ak O;subst Z;exact HP ((aY m).v X _ c.c r)
 |.iff z a b,X,s,c,h=>by obtain⟨q,O,r⟩:=anyT h;obtain⟨p,rfl⟩:=An O;obtain⟨I,U,T⟩:=an3 r;exact K0 ((aY z).t X _ c.c I) (oK a X _ c U) (oK b X _ c T)
 |.whl z b,X,s,c,h=>by
  obtain⟨q,O,r⟩:=anyT h;obtain⟨p,rfl⟩:=Ap O;obtain⟨I,U,T⟩:=an3 r;obtain⟨q1,q2,d⟩:=q;cases d with
  |nil=>exact zR c.pass ((aY z).t X _ c.c I) (oK b X _ c U)
  |cons _ _=>cases T
 |.fr g it b,X,s,c,h=>by
  obtain⟨q,O,r⟩:=anyT h;obtain⟨p,rfl⟩:=Ar O;obtain⟨I,U,T,l,F⟩:=an5 r;obtain⟨q1,q2,d,q4⟩:=q;cases q4 with
  |nil=>exact HR c.pass c.c.calm (kl (bu I)) (JB it X _ _ c.c U) (fO c.c.calm c.nd (λ_=>c.fn) c.hw T) (oK b X _ c l)
  |cons _ _=>cases F
 |.cont,X,s,c,h=>by obtain⟨p,rfl⟩:=As h;exact Ez
 |.app i m,X,s,c,h=>by obtain⟨z,x,O,Z,r⟩:=ay2 h;obtain⟨p,rfl⟩:=iL O;obtain⟨q,e⟩:=asNm_ok Z;obtain⟨I,U,T,l⟩:=yF r;obtain⟨Y,n2,n,S⟩:=bK I;rw[e];exact Ib Y n2 n S U (bu T) ((aY m).v X _ c.c l)
 |.apd i ps m,X,s,c,h=>by obtain⟨z,O,r⟩:=anyT h;obtain⟨p,rfl⟩:=iL O;obtain⟨I,U,T,l,F⟩:=an5 r;exact Ic (km (bu I)) U (bu T) (aX c.c ps _ l) (JC m X _ c.c F)
 |.sti i k m,X,s,c,h=>by obtain⟨z,w,x,O,Z,M,r⟩:=ay3 h;obtain⟨p,rfl⟩:=asg1_ok O;obtain⟨q,e⟩:=asSub_ok Z;obtain⟨D,L⟩:=asNm_ok M;obtain⟨I,U,T,l,F⟩:=an5 r;obtain⟨Y,n2,n,S⟩:=bK I;rw[e,L];exact Ie Y n2 n S (bu U) (gi (bu T)) IF ((aY m).v X _ c.c l) ((aY k).v X _ c.c F)
 |.sdk i k m,X,s,c,h=>by obtain⟨z,w,x,O,Z,M,r⟩:=ay3 h;obtain⟨p,rfl⟩:=asg1_ok O;obtain⟨q,e⟩:=asSub_ok Z;obtain⟨D,L⟩:=asNm_ok M;obtain⟨I,U,T,l⟩:=yF r;obtain⟨Y,n2,n,S⟩:=bK I;rw[e,L];exact Ig (by have:=c.c.units;lia) Y n2 n S (gi (bu U)) ((aY m).v X _ c.c T) ((aY k).v X _ c.c l)
 |.std i ps j m,X,s,c,h=>by obtain⟨z,w,O,Z,r⟩:=ay2 h;obtain⟨p,rfl⟩:=asg1_ok O;obtain⟨q,e⟩:=asSub_ok Z;obtain⟨I,U,T,l⟩:=yF r;rw[e];exact Ih (by have:=c.c.units;lia) (gi (bu I)) (aX c.c ps _ U) (w8 T).1 ((aY m).v X _ c.c l)
 |.sdc i nt fr it tg ke ve,X,s,c,h=>by
  obtain⟨z,x,w,O,Z,M,r⟩:=ay3 h;obtain⟨p,rfl⟩:=asg1_ok O;obtain⟨y,u⟩:=an2 r;obtain⟨I,U,T,l,F⟩:=an5 y;obtain⟨Q,H,A,b4,b5⟩:=an5 u;have s:=eN (W:=W) (λ_=>c.fn) c.hw I;have hl:X.env.scope.names.lookup x.1=some .local:=by unfold swC at F;have:=(yF F).2.1;simpa using this
  rw[qS Z,xj M,List.isEmpty_iff.mp H];exact IB s.nw c.nd s.hN hl c.c.calm (iH U) (kl (bu T)) (by show pure (swC X.env.scope x.1 x.2 w.2.2.2.2.2.2 w.2.2.2.2.2.1)=_;rw[F]) (λq=>by have:=(c.c.comp (q:=q) (N:=EI w.2.2.1++fr.filterMap λj=>X.N[j]?) (sc:=w.2.2.2.2.2.1)).units;lia) (JB it X _ _ c.c l) (λq=>fO (X:=cB X _ w.2.2.2.2.2.1 q) (fn:=false) c.c.calm (Daa Q) (λz=>by cases z) (λ_ _ z=>z) A) (λq=>(aY ke).v (cB X _ w.2.2.2.2.2.1 q) _ c.c.comp b4) λq=>(aY ve).v (cB X _ w.2.2.2.2.2.1 q) _ c.c.comp b5
 |.stf i cn f m,X,s,c,h=>by obtain⟨z,w,x,O,Z,M,r⟩:=ay3 h;obtain⟨p,rfl⟩:=asg1_ok O;have e:=asAtt_ok Z;obtain⟨D,L⟩:=asNm_ok M;obtain⟨I,U,T,l,F⟩:=an5 r;obtain⟨Y,n2,n,S⟩:=bK U;rw[e,L,bw I];exact Ii Y n2 n S (c.c.hfl _ _ T).1 (c.c.hfl _ _ T).2 (gi (bu l)) ((aY m).v X _ c.c F)
 |.agf i cn f o m,X,s,c,h=>by obtain⟨z,w,x,O,Z,M,r⟩:=ay3 h;obtain⟨p,rfl⟩:=asAu_ok O;have e:=asAtt_ok Z;obtain⟨D,L⟩:=asNm_ok M;obtain⟨I,U,T,l,F⟩:=an5 r;obtain⟨Y,n2,n,S⟩:=bK T;rw[e,L,bw I,oF U];exact Ij Y n2 n S (c.c.hfl _ _ l).1 (c.c.hfl _ _ l).2 ((aY m).v X _ c.c F)
theorem oK:∀(m:Ss) X s,Cs t C W ok X->gB t ok m X.N X.env.scope s=true->PDss X W s (ji C m)
 |.nil,X,s,c,h=>by
  cases s with
  |nil=>exact Ey
  |cons _ _=>cases h
 |.cons m ms,X,s,c,h=>by obtain⟨z,O,r⟩:=anyT h;have:=con1_ok O;subst this;exact zQ (MP m X _ c (an2 r).1) (oK ms X _ c (an2 r).2)
 |.ali i ps j ms,X,s,c,h=>by obtain⟨y,z,x,T,O,Z,r⟩:=ay3 h;have:=con1_ok T;subst this;obtain⟨p,J⟩:=iL O;obtain⟨q,e⟩:=asNm_ok Z;obtain⟨I,U,H,l,u⟩:=an5 r;obtain⟨Y,a,n,S⟩:=bK l;rw[J,e];exact EU (km (bu I)) U Y a n S (aX c.c ps _ H) (oK ms X _ ⟨c.c,c.nd,c.fn,c.pass,λk F z=>z.elim (c.hw k (an2 F).1) (Dad (bu (an2 F).2))⟩ u)
end
end
section
structure Df where
 name:Str
 qual:Str
 st:Stmt
 ps:List Str
 N:List Str
 fn:Fn
def EW(N ps:List Str)(sc:Scope):Bool:=decide (sc.kind=.function)&&!sc.isCoroutine&&!sc.isGenerator&&decide N.Nodup&&decide (N.take ps.length=ps)&&ps.all (λx=>z8 sc x)&&sc.names.all λy=>!decide (y.2=.free)
theorem Ax(h:EW N ps sc=true):FnScope N ps sc:=by unfold EW at h;simp only[aaC,abh,abx,decide_eq_true_eq,decide_eq_false_iff_not]at h;obtain⟨⟨⟨⟨⟨⟨O,Z⟩,M⟩,P⟩,f⟩,F⟩,H⟩:=h;exact⟨O,Z,M,P,f,λx C=>qC (F x C),H⟩
noncomputable def oM(ios:List Bool)(i:Nat):Bool:=!decide (ios[i]?=some true)
def Ay(t:Tb)(d:Df):Bool:=EW d.N d.ps (aK d.st)&&decide (d.fn.io.length=d.ps.length)&&decide (d.fn.n=d.N.length)&&gB t (oM d.fn.io) d.fn.body d.N (aK d.st) (bC d.st)
structure Md (K:Waa)(mg:Str->Option Value)(t:Tb)(p:Pg)(D:Nat->Option Df)(w:World):Prop where
 df:∀j d,D j=some d->p.F j=some d.fn/\Ay t d=true/\∃f fd,Fun K d.name d.qual d.st f fd/\Binds K fd d.ps [] /\
  (∀nm,t.fn j=some nm->mg nm=some (.ref f)/\PySem.W.keepIn K (.ref f)=true)/\(∀c m,t.me j=some (c,m)->Cls K (av K c)/\Meth K (av K c) m f)/\(∀c,t.mk' j=some c->Mk K (av K c) f/\mg c=some (.ref (av K c)))
 all:∀j,((t.fn j).isSome||(t.me j).isSome||(t.mk' j).isSome)=true->(D j).isSome=true
 gc:∀g nm,t.gc g=some nm->∃v u,mg nm=some u/\RelV v u/\∀S H,Fz K S H v (p.gv g)
 ng:∀x,t.nog x=true->mg x=none
 fl:∀c f,t.fld c f=true->Cls K (av K c)/\NoAttr K (av K c) f
 kd:∀x kvs,t.kd x kvs=true->∃d,mg x=some (.ref d)/\KDict K w d kvs
section
variable{K:Waa}
theorem my(h:∀xs Q,¬ sp xs Q):FnD P w K mg base k f fd ps sp:=by have v:∀c H Q E,¬ toSp K sp c H Q E:=λc H Q E ⟨S,xs,A,_,_,_,_,z⟩=>h _ _ z;exact⟨⟨λc H Q E z=>(v _ _ _ _ z).elim,λA M s H b C c Q E _ _ _ _ z=>(v _ _ _ _ z).elim⟩,λxs P R _ z=>(h _ _ z).elim⟩
theorem mz(h:∀xs,g xs=none):∀xs Q,¬ spC g xs Q:=λxs Q ⟨w,e,_⟩=>by grind
theorem Md.ok(M:Md K mg t p D w):∀(n:Nat),(∀(j:Nat) (d:Df),D j=some d->∀(f:Addr) (y:FuncData),Fun K d.name d.qual d.st f y->FnD P w K mg base (n+1) f y d.ps (spC (p.call n j))) /\
  (∀(j:Nat) (d:Df),D j=some d->∀(f:Addr) (y:FuncData),Fun K d.name d.qual d.st f y->FnD P w K mg base n f y d.ps (spC (p.mak n j)))
 |0=>⟨λj d _ f y _=>my (mz λ_=>rfl),λj d _ f y _=>my (mz λ_=>rfl)⟩
 |n+1=>by
  obtain⟨g,I⟩:=Md.ok M n;refine⟨λj d W f y F=>?_,λj d W f y F=>g j d W f y F⟩;obtain⟨O,Z,_⟩:=M.df j d W;unfold Ay at Z;simp only[aaC,decide_eq_true_eq]at Z;obtain⟨⟨⟨g1,g2⟩,g3⟩,u⟩:=Z;have S:=Ax g1;refine F.okD (ios:=d.fn.io) S (wN _) g2 (λY Q ⟨z,e,_⟩=>?_) λU A a0 s H E hr Y Q ⟨z,e,q⟩=>?_
  ·rw[Pg.ej,O]at e
   grind
  ·have c:Cy t (p.ct n) (jS CX0 P w K mg base d.N d.qual (aK d.st) f U A a0 s H E).u2:=by
    refine⟨rfl,hr.units,hr.gd,λL a h=>?_,λL c m h=>?_,λL c h=>?_,M.gc,M.ng,M.fl,M.kd⟩
    ·obtain⟨l,k⟩:=aa1.mp (M.all L (by grind));obtain⟨_,_,C,X,v,T,q1,_,_⟩:=M.df L l k;exact⟨n+1,C,X,l.ps,g L l k C X v,hr,(q1 a h).1,(q1 a h).2,T⟩
    ·obtain⟨l,k⟩:=aa1.mp (M.all L (by grind));obtain⟨_,_,C,X,v,T,_,b,_⟩:=M.df L l k;exact⟨(b c m h).1,n+1,C,X,l.ps,(b c m h).2,g L l k C X v,hr,T⟩
    ·obtain⟨l,k⟩:=aa1.mp (M.all L (by grind));obtain⟨_,_,C,X,v,T,_,_,q3⟩:=M.df L l k;exact⟨n,C,X,l.ps,(q3 c h).1,I L l k C X v,hr,(q3 c h).2,T⟩
   have cs:Cs t (p.ct n) (WS d.fn.io) (oM d.fn.io) (jS CX0 P w K mg base d.N d.qual (aK d.st) f U A a0 s H E).u2:=
    ⟨c,S.nd,λ_=>rfl,PassesOwn.never,λi r z=>by
     unfold oM at r;simp only[abx,decide_eq_false_iff_not]at r
     trivial⟩
   refine⟨_,oK d.fn.body _ _ cs u,?_⟩;rw[Pg.ej,O]at e;simp only at e;split at e
   ·unfold wB at e;obtain⟨x,J,e⟩:=bnd e;rw[g3]at J;refine⟨x,J,?_⟩;obtain⟨fl,ρ⟩:=x;cases fl with
    |nx=>obtain⟨ys,B,e⟩:=bnd e;cases e;exact⟨ys,B,q⟩
    |rt o=>obtain⟨ys,B,e⟩:=bnd e;cases e;exact⟨ys,B,q⟩
    |bk=>cases e
    |ct=>cases e
   ·cases e
theorem Md.law(M:Md K mg t p D w){n j:Nat}{d:Df}{f:Addr}{y:FuncData}(W:D j=some d)(F:Fun K d.name d.qual d.st f y)
  (h:∀ns:List Int,ns.length<=63->∃ys,p.call n j [.fz (.list (ns.map PyData.int))]=some (.fz (.bool true),ys)):
  FnOk P w K mg base CX0 (n+1) f y d.ps (λvs H Q _=>∃(a:Addr) (ns:List Int),vs=[.ref a]/\SqL K H a (ns.map V.int)/\ns.length<=63/\∀l,Q (.bl true) l):=by
 refine((M.ok (P:=P) (w:=w) (base:=base) n).1 j d W f y F).ok.imp λvs H Q E T=>?_;obtain⟨a,ns,rfl,g,u,q⟩:=T;obtain⟨ys,J⟩:=h ns u;refine⟨λ_=>False,[.fz (.list (ns.map PyData.int))],[],λa z=>z.elim,λ_ _ _ z=>z,Ows.cons (A:=[]) (B:=[]) (.fz ((Fz.of0 (.lst g (DtAll.ints ns))).sub λc z=>z.elim (λz=>by cases z) id)) .nil,abb,_,J,λv l B _ s _ _=>?_⟩;cases s with
 |cons r _=>
  cases r with
  |fz f=>cases f;exact q l
end
end
section
inductive Kd where|fn|me (c:Str)|ini (c:Str)
def Kd.fn?(d:Df):Kd->Option Str|.fn=>some d.name|_=>none
noncomputable def Kd.me?(d:Df):Kd->Option (Str×Str)|.me c=>some (c,d.name)|_=>none
def Kd.ini?:Kd->Option Str|.ini c=>some c|_=>none
structure Pl where
 ds:List (Df×Kd)
 cs:List (Str×PyData)
 nog:List Str
 fld:List (Str×Str)
 kds:List (Str×List (Str×Str)):=[]
def Pl.tb(P:Pl):Tb where
 fn j:=(P.ds[j]?).bind λz=>z.2.fn? z.1
 me j:=(P.ds[j]?).bind λz=>z.2.me? z.1
 mk' j:=(P.ds[j]?).bind λz=>z.2.ini?
 gc g:=(P.cs[g]?).map (·.1)
 nog x:=P.nog.any λy=>sEq x y
 fld c f:=P.fld.any λy=>sEq c y.1&&sEq f y.2
 kd x kvs:=P.kds.any λy=>sEq x y.1&&decide (y.2=kvs)
noncomputable def Pl.pg(P:Pl):Pg where
 F j:=(P.ds[j]?).map (·.1.fn)
 gv g:=((P.cs[g]?).map (·.2)).getD .none
 wf:=100000
noncomputable def Pl.D(P:Pl)(j:Nat):Option Df:=(P.ds[j]?).map (·.1)
def IG(K:Waa)(I:Str->Option Value)(d:Df)(f:Addr):Kd->Prop
 |.fn=>I d.name=some (.ref f)/\PySem.W.keepIn K (.ref f)=true
 |.me c=>Cls K (av K c)/\Meth K (av K c) d.name f
 |.ini c=>Mk K (av K c) f/\I c=some (.ref (av K c))
def FactD(K:Waa)(I:Str->Option Value)(z:Df×Kd):Prop:=∃f y,Fun K z.1.name z.1.qual z.1.st f y/\Binds K y z.1.ps []/\IG K I z.1 f z.2
section
variable{K:Waa}{mg:Str->Option Value}{P:Pl}{w:World}
theorem mp{Y C:Type}{o:Option Y}{f:Y->C}{b:C}(h:o.map f=some b):∃a,o=some a/\f a=b:=by simp_all
theorem Pl.md(O:(P.ds.all λz=>Ay P.tb z.1)=true)(Z:∀z∈P.ds,FactD K mg z)(M:∀z∈P.cs,∃v u,mg z.1=some u/\RelV v u/\∀S H,Fz K S H v z.2)(L:∀x∈P.nog,mg x=none)(h5:∀z∈P.fld,Cls K (av K z.1)/\NoAttr K (av K z.1) z.2)(F:∀z∈P.kds,∃d,mg z.1=some (.ref d)/\KDict K w d z.2):Md K mg P.tb P.pg P.D w where
 df j d hj:=by
  obtain⟨z,J,B⟩:=mp hj;subst B;have Y:=aax J;obtain⟨f,X,I,U,T⟩:=Z z Y;refine⟨by show (P.ds[j]?).map _=_;rw[J];rfl,abh.mp O z Y,f,X,I,U,λa l=>?_,λc m l=>?_,λc l=>?_⟩
  ·have l:((P.ds[j]?).bind λz=>z.2.fn? z.1)=some a:=l;rw[J]at l;obtain⟨d,k⟩:=z;cases k<;>cases l;exact T
  ·have l:((P.ds[j]?).bind λz=>z.2.me? z.1)=some (c,m):=l;rw[J]at l;obtain⟨d,k⟩:=z;cases k<;>cases l;exact T
  ·have l:((P.ds[j]?).bind λz=>z.2.ini?)=some c:=l;rw[J]at l;obtain⟨d,k⟩:=z;cases k<;>cases l;exact T
 all j h:=by
  show ((P.ds[j]?).map _).isSome=true;cases e:P.ds[j]? with
  |none=>have h:((((P.ds[j]?).bind λz=>z.2.fn? z.1).isSome||((P.ds[j]?).bind λz=>z.2.me? z.1).isSome)||((P.ds[j]?).bind λz=>z.2.ini?).isSome)=true:=h;rw[e]at h;cases h
  |some z=>rfl
 gc g a h:=by
  obtain⟨z,J,B⟩:=mp h;subst B;obtain⟨v,u,Q,o,A⟩:=M z (aax J);have s:P.pg.gv g=z.2:=by show ((P.cs[g]?).map _).getD _=_;rw[J];rfl
  rw[s];exact⟨v,u,Q,o,A⟩
 ng x h:=by obtain⟨y,t,e⟩:=abX.mp h;rw[bw e];exact L y t
 fl c f h:=by obtain⟨y,t,e⟩:=abX.mp h;rw[bw (an2 e).1,bw (an2 e).2];exact h5 y t
 kd x kvs h:=by obtain⟨y,t,e⟩:=abX.mp h;obtain⟨J,B⟩:=an2 e;rw[bw J,<-Daa B];exact F y t
end
end
end L2
namespace L2
open PySem
theorem bs{Y C:Type}{o:Option Y}{f:Y->Option C}{x:Y}{r:Option C}(h:o=some x)(k:f x=r):o.bind f=r:=by rw[h];exact k
theorem MQ[Decidable c](h:c):gd c=some ():=if_pos h
theorem bg{C:Type}[Decidable c]{f:Unit->Option C}{r:Option C}(h:c)(k:f ()=r):(gd c).bind f=r:=bs (MQ h) k
theorem ah{o:Bo}(O:ev C a ρ=some (x,ρ1))(Z:ev C b ρ1=some (y,ρ2))(j:az ρ2 x=some dx)(t:az ρ2 y=some dy)(h:yE o dx dy=some d):ev C (.bop o a b) ρ=some (.val (.fz d),ρ2):=bs O (bs Z (bs j (bs t (bs h rfl))))
theorem aq{o:Co}(O:ev C a ρ=some (x,ρ1))(Z:ev C b ρ1=some (y,ρ2))(j:az ρ2 x=some dx)(t:az ρ2 y=some dy)(h:oz o dx dy=some k):ev C (.cmp o a b) ρ=some (.val (.fz (.bool k)),ρ2):=bs O (bs Z (bs j (bs t (bs h rfl))))
theorem ax(O:ev C a ρ=some (x,ρ1))(Z:ev C b ρ1=some (y,ρ2))(t:az ρ2 y=some (.int n))(h:bF ρ2 x n=some (z,ρ3)):ev C (.ix a b) ρ=some (.val z,ρ3):=bs O (bs Z (bs t (bs rfl (bs h rfl))))
theorem af(O:evs C es ρ=some (rs,ρ1))(Z:ba (C.io f) ρ1 rs=some (xs,ρ2))(M:C.call f xs=some (w,ys))(P:dY (C.io f) rs ys ρ2=ρ3):ev C (.call f es) ρ=some (.val w,ρ3):=bs O (bs Z (bs M (by rw[<-P])))
theorem qU(O:evs C es ρ=some (rs,ρ1))(Z:eW ρ1 rs=some ds)(M:C.call f (ds.map OD.fz)=some (.fz d,ys))(P:Hm d=true):ev C (.callS f es) ρ=some (.val (.fz d),ρ1):=bs O (bs Z (bs M (bs rfl (bg P rfl))))
theorem qV(h:ev C (.callS f es) ρ=some (.val (.fz (.bool k)),ρ1)):aL C (.callS f es) ρ=some (k,ρ1):=bs h rfl
theorem ft{ns:List Str}(T:ρ[i]?.join=some (.obj cn ns zs))(Y:m ∉ ns)(O:evs C es ρ=some (rs,ρ1))(Z:ba (C.io f) ρ1 (.rf i::rs)=some (xs,ρ2))(M:C.call f xs=some (w,ys))(P:dY (C.io f) (.rf i::rs) ys ρ2=ρ3):ev C (.meth cn m f i es) ρ=some (.val w,ρ3):=bs T (bs rfl (bg ⟨rfl,Y⟩ (bs O (bs Z (bs M (by rw[<-P]))))))
theorem EX{c:Str}(O:evs C es ρ=some (rs,ρ1))(Z:ba (C.io f).tail ρ1 rs=some (xs,ρ2))(M:C.mak f (.obj c [] []::xs)=some (.fz .none,w::ys))(P:dY (C.io f).tail rs ys ρ2=ρ3):ev C (.make c f es) ρ=some (.val w,ρ3):=bs O (bs Z (bs M (bs rfl (by rw[<-P]))))
theorem bZ(O:evs C es ρ=some (rs,ρ1))(j:Nat.ble rs.length 1000000=true)(Z:mapR own1 ρ1 rs=some (zs,ρ2)):ev C (.lst es) ρ=some (.val (.lst zs),ρ2):=bs O (bs Z (bg (Nat.ble_eq.mp j) rfl))
theorem bj(O:evs C es ρ=some (rs,ρ1))(j:Nat.ble rs.length 1000000=true)(Z:mapR own1 ρ1 rs=some (zs,ρ2))(M:mkTup zs=z):ev C (.tup es) ρ=some (.val z,ρ2):=bs O (bs Z (bg (Nat.ble_eq.mp j) (by rw[<-M])))
theorem aj:evs C .nil ρ=some ([],ρ):=rfl
theorem aa(O:ev C e ρ=some (x,ρ1))(Z:evs C es ρ1=some (rs,ρ2)):evs C (.cons e es) ρ=some (x::rs,ρ2):=bs O (bs Z rfl)
theorem cH(h:aL C c ρ=some (true,ρ1))(k:ev C a ρ1=rv):ev C (.ife c a b) ρ=rv:=bs h k
theorem cb(h:aL C c ρ=some (false,ρ1))(k:ev C b ρ1=rv):ev C (.ife c a b) ρ=rv:=bs h k
theorem aJ{g:Bl}(O:evs C es ρ=some (rs,ρ1))(Z:eW ρ1 rs=some ds)(M:zL g ds=some d):ev C (.blt g es) ρ=some (.val (.fz d),ρ1):=bs O (bs Z (bs M rfl))
theorem qW(O:ev C e ρ=some (x,ρ1))(Z:(dG ρ1 x).bind listOf=some ds):ev C (.bnw .tuple e) ρ=some (.val (.fz (.tuple ds)),ρ1):=bs O (bs Z rfl)
theorem xu{ns:List Int}(O:ev C e ρ=some (x,ρ1))(Z:az ρ1 x=some (.list ds))(M:gz ds=some ns)(j:ns.length<64):ev C (.bnw .sorted e) ρ=some (.val (.lst ((sortI ns).map λi=>.fz (.int i))),ρ1):=bs O (bs Z (bs rfl (bs M (bg j rfl))))
theorem qX{dx dy:List PyData}(O:ev C a ρ=some (x,ρ1))(Z:ev C b ρ1=some (y,ρ2))(f:BI ρ2 x=some dx)(t:BI ρ2 y=some dy)(j:dx.length+dy.length<=1000000):ev C (.cat a b) ρ=some (.val (.lst ((dx++dy).map OD.fz)),ρ2):=bs O (bs Z (bs f (bs t (bg j rfl))))
theorem ar{o:Co}(h:ev C (.cmp o a b) ρ=some (.val (.fz (.bool k)),ρ1)):aL C (.cmp o a b) ρ=some (k,ρ1):=bs h rfl
theorem bx(h:ev C (.call f es) ρ=some (.val (.fz (.bool k)),ρ1)):aL C (.call f es) ρ=some (k,ρ1):=bs h rfl
theorem oN{c m:Str}(h:ev C (.meth c m f i es) ρ=some (.val (.fz (.bool k)),ρ1)):aL C (.meth c m f i es) ρ=some (k,ρ1):=bs h rfl
theorem cY(h:aL C a ρ=some (true,ρ1))(k:aL C b ρ1=rt):aL C (.and a b) ρ=rt:=bs h k
theorem iM(h:aL C a ρ=some (false,ρ1)):aL C (.and a b) ρ=some (false,ρ1):=bs h rfl
theorem gC(h:aL C a ρ=some (true,ρ1)):aL C (.or a b) ρ=some (true,ρ1):=bs h rfl
theorem bq(h:aL C a ρ=some (false,ρ1))(k:aL C b ρ1=rt):aL C (.or a b) ρ=rt:=bs h k
theorem cZ(h:aL C a ρ=some (k,ρ1)):aL C (.not a) ρ=some (!k,ρ1):=bs h rfl
theorem iN(h:ev C a ρ=some (.val (.fz (.bool true)),ρ1))(k:ev C b ρ1=rv):ev C (.and a b) ρ=rv:=bs h (bs rfl (bs rfl k))
theorem ku(h:ev C a ρ=some (.val (.fz (.bool false)),ρ1)):ev C (.and a b) ρ=some (.val (.fz (.bool false)),ρ1):=bs h rfl
theorem B5(h:ev C a ρ=some (.val (.fz (.bool true)),ρ1)):ev C (.or a b) ρ=some (.val (.fz (.bool true)),ρ1):=bs h rfl
theorem mB(h:ev C a ρ=some (.val (.fz (.bool false)),ρ1))(k:ev C b ρ1=rv):ev C (.or a b) ρ=rv:=bs h (bs rfl (bs rfl k))
theorem bW{p:OD×List Nat×OD}(h:aw ρ i ps=some p)(Z:p.2.2=.fz d):ev C (.pg i ps) ρ=some (.val (.fz d),ρ):=bs h (bs (show tO p.2.2=some d by rw[Z];rfl) rfl)
theorem EY(h:aw ρ i ps=some p)(W:p.2.2.dat=some d)(D:ρ.set i (some (OD.put (.fz d) p.2.1 p.1))=ρ1):ev C (.pf i ps) ρ=some (.val (.fz d),ρ1):=bs h (bs W (by rw[<-D]))
theorem IH{m:Nat}(h:aw ρ i ps=some p)(W:p.2.2.dat=some d)(j:jf d=some m):ev C (.pl i ps) ρ=some (.val (.fz (.int m)),ρ):=bs h (bs W (bs j rfl))
theorem jF(h:aw ρ i ps=some p)(W:p.2.2.dat=some d)(X:lZ d=some k):aL C (.pt i ps) ρ=some (k,ρ):=bs h (bs W (bs X rfl))
theorem xw{M:Bool}(O:ev C e ρ=some (x,ρ1))(j:az ρ1 x=some dx)(h:aw ρ1 i ps=some p)(W:p.2.2.dat=some d)(U:oz (if M then .nin else .inn) dx d=some k):aL C (.pin M e i ps) ρ=some (k,ρ1):=bs (bs O (bs j (bs h (bs W (bs U rfl))))) rfl
theorem oO(h:aw ρ i ps=some p)(n:ka C e ρ=some d)(t:p.2.2=.lst xs)(j:xs.length<1000000)(D:ρ.set i (some (OD.put (.lst (xs++[.fz d])) p.2.1 p.1))=ρ1):bG C (.apd i ps e) ρ=some (.nx,ρ1):=bs h (bs n (bs (show nF p.2.2=some xs by rw[t];rfl) (bg j (by rw[<-D]))))
theorem xx(n:ev C e ρ=some (x,ρ1))(y:frz1 ρ1 x=some (d,ρ2))(h:aw ρ2 i ps=some p)(W:ρ2[j]?.join=some (.fz kd))(F:keyOf kd=some kk)(f:p.2.2=.dic ks xs)(t:xs.length<1000000)(m:putKey kk d ks xs=(ks',xs'))(D:ρ2.set i (some (OD.put (.dic ks' xs') p.2.1 p.1))=ρ3):bG C (.std i ps j e) ρ=some (.nx,ρ3):=bs n (bs y (bs h (bs W (bs rfl (bs F (bs (by rw[f];rfl) (bg t (by rw[<-D];simp only[m]))))))))
theorem cx(n:ev C e ρ=some (x,ρ1))(g:own1 ρ1 x=some (z,ρ2))(T:ρ2[i]?.join=some (.obj cn ns xs))(j:Nat.blt xs.length 1000=true)(m:bt fl' z ns xs=(ns',xs'))(D:ρ2.set i (some (.obj cn ns' xs'))=ρ3):bG C (.stf i cn fl' e) ρ=some (.nx,ρ3):=bs n (bs g (bs T (bs rfl (bg ⟨rfl,Nat.blt_eq.mp j⟩ (by rw[<-D];simp only[m])))))
theorem xy{a r:Int}(h:aw ρ i [.fld cn fl']=some p)(A:p.2.2=.fz (.int a))(n:ev C e ρ=some (x,ρ1))(W:az ρ1 x=some d)(f:l4 o a d=some r)(T:ρ1[i]?.join=some (.obj cn ns xs))(j:Nat.blt xs.length 1000=true)(m:bt fl' (.fz (.int r)) ns xs=(ns',xs'))(D:ρ1.set i (some (.obj cn ns' xs'))=ρ3):bG C (.agf i cn fl' o e) ρ=some (.nx,ρ3):=bs h (bs (show tO p.2.2=some (.int a) by rw[A];rfl) (bs rfl (bs n (bs W (bs f (bs T (bs rfl (bg ⟨rfl,Nat.blt_eq.mp j⟩ (by rw[<-D];simp only[m])))))))))
theorem ab(h:bG C s ρ=some (.nx,ρ1))(k:aD C ss ρ1=r):aD C (.cons s ss) ρ=r:=bs h k
theorem ak(h:bG C s ρ=some (.rt z,ρ1)):aD C (.cons s ss) ρ=some (.rt z,ρ1):=bs h rfl
theorem Lm(h:bG C s ρ=some (.ct,ρ1)):aD C (.cons s ss) ρ=some (.ct,ρ1):=bs h rfl
theorem ae(h:ev C e ρ=some (x,ρ1))(T:own1 ρ1 x=some (z,ρ2))(r:Nat.blt i ρ2.length=true)(D:ρ2.set i (some z)=ρ3):bG C (.set i e) ρ=some (.nx,ρ3):=bs h (bs T (bg (Nat.blt_eq.mp r) (by rw[<-D])))
theorem fu{is:List Nat}(h:evs C es ρ=some (rs,ρ1))(T:mapR own1 ρ1 rs=some (zs,ρ2))(j:(zs.length==is.length&&is.all λi=>Nat.blt i ρ2.length)=true)(D:dU is zs ρ2=ρ3):bG C (.par is es) ρ=some (.nx,ρ3):=bs h (bs T (bg (by simp_all) (by grind)))
theorem mC(h:ev C e ρ=some (x,ρ1)):bG C (.ex e) ρ=some (.nx,ρ1):=bs h rfl
theorem ag(h:ev C e ρ=some (x,ρ1))(T:mv1 ρ1 x=some (z,ρ2)):bG C (.ret e) ρ=some (.rt z,ρ2):=bs h (bs T rfl)
theorem ao(h:aL C c ρ=some (true,ρ1))(k:aD C sa ρ1=r):bG C (.iff c sa sb) ρ=r:=bs h k
theorem s_ifF(h:aL C c ρ=some (false,ρ1))(k:aD C sb ρ1=r):bG C (.iff c sa sb) ρ=r:=bs h k
theorem bI(T:ρ[i]?.join=some (.lst ys))(h:ev C e ρ=some (x,ρ1))(g:own1 ρ1 x=some (z,ρ2))(O:ρ2[i]?.join=some (.lst xs))(j:xs.length<1000000)(D:ρ2.set i (some (.lst (xs++[z])))=ρ3):bG C (.app i e) ρ=some (.nx,ρ3):=bs T (bs rfl (bs h (bs g (bs O (bs rfl (bg j (by rw[<-D])))))))
theorem iO(h:ev C e ρ=some (x,ρ1))(g:own1 ρ1 x=some (z,ρ2))(T:ρ2[i]?.join=some (.lst ys))(F:ev C ke ρ2=some (y,ρ3))(W:az ρ3 y=some (.int n))(O:ρ3[i]?.join=some (.lst xs))(l:ixN xs.length n=some jj)(D:ρ3.set i (some (.lst (xs.set jj z)))=ρ4):bG C (.sti i ke e) ρ=some (.nx,ρ4):=bs h (bs g (bs T (bs rfl (bs F (bs W (bs rfl (bs O (bs rfl (bs l (by rw[<-D]))))))))))
theorem eB(h:tQ C it ρ=some (ds,ρ1))(k:bS (λd p=>(bo t (.fz d) p).bind λρ1=>aD C ss ρ1) ds ρ1=r):bG C (.fr t it ss) ρ=r:=bs h k
theorem gk(h:ev C e ρ=some (x,ρ1))(W:az ρ1 x=some (.int n))(O:-(2^62)<=n/\n<2^62):tQ C (.rg1 e) ρ=some (cX 0 n.toNat,ρ1):=bs h (bs W (bs rfl (bg O rfl)))
theorem cy(h:ev C e ρ=some (x,ρ1))(W:frz1 ρ1 x=some (d,ρ2))(g:tP d=some ds):tQ C (.seq e) ρ=some (ds,ρ2):=bs h (bs W (bs g rfl))
theorem xA(h:ev C e ρ=some (x,ρ1))(W:frz1 ρ1 x=some (.list ds,ρ2)):tQ C (.enm e) ρ=some (enumD ds,ρ2):=bs h (bs W (bs rfl rfl))
theorem oP(h:ev C a ρ=some (x,ρ1))(h':ev C b ρ1=some (y,ρ2))(W:frz1 ρ2 x=some (dx,ρ3))(k:frz1 ρ3 y=some (dy,ρ4))(g:tP dx=some ds)(p:tP dy=some es'):tQ C (.zip a b) ρ=some (zipD ds es',ρ4):=bs h (bs h' (bs W (bs k (bs g (bs p rfl)))))
theorem dm(O:tQ C it ρ=some (ds,ρ1))(d:ds.length<1000000)(U:cC ρ1 fr=some zc)(j:cG (cP C tg ifs elt) ds [] (List.replicate nt none++zc.1)=some (out,ρ'))(D:dX zc.2 fr (ρ'.drop nt)=ρ2):ev C (.comp nt fr it tg ifs elt) ρ=some (.val (.lst (out.map OD.fz)),ρ2):=bs O (bg d (bs U (bs j (by rw[<-D]))))
theorem EZ(T:bo tg (.fz d) ρ=some ρ1)(O:aL C ifs ρ1=some (true,ρ2))(Z:ev C elt ρ2=some (x,ρ3))(M:frz1 ρ3 x=some (dx,ρ4)):cP C tg (.some ifs) elt d ρ=some ([dx],ρ4):=bs T (bs O (bs Z (bs M rfl)))
theorem E3(T:bo tg (.fz d) ρ=some ρ1)(O:aL C ifs ρ1=some (false,ρ2)):cP C tg (.some ifs) elt d ρ=some ([],ρ2):=bs T (bs O rfl)
theorem Az(T:bo tg (.fz d) ρ=some ρ1)(Z:ev C elt ρ1=some (x,ρ3))(M:frz1 ρ3 x=some (dx,ρ4)):cP C tg .none elt d ρ=some ([dx],ρ4):=bs T (bs rfl (bs Z (bs M rfl)))
theorem ud{step:PyData->DEnv->Option (Fl×DEnv)}(P:List PyData->DEnv->Prop)(h:∀d ds ρ,P (d::ds) ρ->∃Q p,step d ρ=some (Q,p)/\(Q=.nx\/Q=.ct)/\P ds p):∀{ds:List PyData}{ρ:DEnv},P ds ρ->∃p,bS step ds ρ=some (.nx,p)/\P [] p:=by
 intro ds;induction ds with
 |nil=>exact λ{ρ} D=>⟨ρ,rfl,D⟩
 |cons d ds Y=>
  intro ρ D;obtain⟨Q,A,J,y,M⟩:=h d ds ρ D;obtain⟨m,B,F⟩:=Y M;refine⟨m,bs J ?_,F⟩
  grind
theorem ai{p:Pg}(y:p.F j=some fn)(t:xs.length=fn.io.length)(h:aD (p.ct n) fn.body (f9 fn.n xs)=some (.rt r,ρ))(T:bR 0 fn.io xs ρ=some ys):p.call (n+1) j xs=some (r,ys):=by rw[Pg.ej,y];show (if xs.length=fn.io.length then wB (p.ct n) fn xs else none)=_;rw[if_pos t];exact bs h (bs T rfl)
theorem bz{p:Pg}(y:p.F j=some fn)(t:xs.length=fn.io.length)(h:aD (p.ct n) fn.body (f9 fn.n xs)=some (.nx,ρ))(T:bR 0 fn.io xs ρ=some ys):p.call (n+1) j xs=some (.fz .none,ys):=by rw[Pg.ej,y];show (if xs.length=fn.io.length then wB (p.ct n) fn xs else none)=_;rw[if_pos t];exact bs h (bs T rfl)
theorem ky(h:k<n):ixN n (k:Int)=some k:=by unfold ixN;rw[if_pos (by omega),if_pos (by omega)];rfl
theorem cf{Y:Type}{xs:List Y}{k:Nat}{x:Y}(h:xs[k]?=some x):atI xs (k:Int)=some x:=bs (ky (aai.mp h).1) h
theorem qY{Y:Type}{xs:List Y}{i:Int}(T:0<=i)(O:i<xs.length):∃x,x∈xs/\atI xs i=some x:=by
 have e:i=(i.toNat):=by lia
 have j:i.toNat<xs.length:=by lia
 refine⟨xs[i.toNat],List.getElem_mem j,?_⟩;have:=cf (aam j)
 grind
theorem aR(h:atI ds i=some d):bF ρ (.val (.fz (.list ds))) i=some (.fz d,ρ):=by simp only[bF,itemO,h]
theorem aN(h:atI ds i=some d):bF ρ (.val (.fz (.tuple ds))) i=some (.fz d,ρ):=by simp only[bF,itemO,h]
theorem fv(h:atI xs i=some x):bF ρ (.val (.lst xs)) i=some (x,ρ):=by simp only[bF,itemO,h]
end L2
namespace Np
open PySem L2
noncomputable abbrev efd:Es:=.cons (.nm 8) .nil
noncomputable abbrev efc:Es:=.cons (.nm 5) .nil
abbrev efb:S':=.set 3 (.lst .nil)
noncomputable abbrev efa:Es:=.cons (.nm 4) .nil
noncomputable abbrev ee9:Es:=.cons (.nm 2) .nil
abbrev ee8:Es:=.cons (.nm 7) .nil
noncomputable abbrev ee7:Es:=.cons (.nm 6) .nil
abbrev ee6:S':=.set 5 (.lst .nil)
abbrev ee5:S':=.set 4 (.lst .nil)
noncomputable abbrev ee4:Es:=.cons (.nm 0) .nil
noncomputable abbrev ee3:Es:=.cons (.nm 3) .nil
noncomputable abbrev ee2:Es:=.cons (.nm 1) .nil
noncomputable abbrev ee1:Es:=.cons (.int 0) .nil
noncomputable abbrev Ln:E:=.ix (.nm 2) (.nm 0)
noncomputable abbrev Lp:E:=.ix (.nm 0) (.nm 2)
abbrev eey:E:=.ix (.nm 0) (.nm 1)
noncomputable abbrev eex:E:=.ix (.nm 6) (.int 1)
noncomputable abbrev eew:E:=.ix (.nm 3) (.int 0)
abbrev eev:E:=.ix (.nm 6) (.int 0)
noncomputable abbrev eeu:E:=.ix (.nm 2) (.int 0)
noncomputable abbrev eet:E:=.ix (.nm 0) (.int 1)
abbrev ees:E:=.ix (.nm 0) (.int 2)
noncomputable abbrev eer:E:=.ix (.nm 0) (.int 0)
abbrev eeq:Es:=.cons (.int 499) .nil
abbrev eep:Es:=.cons (.int 4999) .nil
abbrev eeo:Es:=.cons (.bl false) .nil
abbrev een:E:=.din false (.nm 6) 4 []
abbrev LX:E:=.din false (.nm 7) 3 []
abbrev eel:E:=.cmp .ne (.nm 3) (.nm 7)
abbrev eek:E:=.cmp .eq (.nm 0) (.nm 1)
abbrev eej:E:=.cmp .eq (.nm 7) (.nm 6)
abbrev eei:S':=.asg (.tp [7,8]) (.nm 6)
abbrev eeh:S':=.asg (.tp [3,4]) (.nm 2)
abbrev eeg:Ss:=.cons (.ret (.non)) .nil
noncomputable abbrev eef:Es:=.cons (.str "stop") .nil
abbrev eee:E:=.cmp .eq (.nm 6) (.int 0)
abbrev eed:Ss:=.cons (.ret (.nm 2)) .nil
abbrev eec:Ss:=.cons (.ret (.nm 5)) .nil
abbrev eeb:E:=.cmp .inn (.nm 2) (.nm 1)
abbrev eea:E:=.bop .sub (.nm 0) (.nm 2)
abbrev ed9:E:=.bop .add (.nm 5) (.int 1)
noncomputable abbrev ed8:E:=.bop .sub (.nm 1) (.int 1)
abbrev ed7:E:=.bop .add (.nm 1) (.int 1)
noncomputable abbrev ed6:E:=.bop .sub (.gc 19) (.gc 1)
abbrev ed5:E:=.ix (.nm 6) (.neg (.int 1))
abbrev ed4:S':=.set 6 (.ix (.nm 0) (.nm 5))
abbrev ed3:Ss:=.cons (.ret (.bl true)) .nil
abbrev ed2:E:=.call 0 ee4
abbrev ed1:E:=.call 1 ee2
abbrev ed0:E:=.call 0 ee2
abbrev edz:Ss:=.cons (.ret (.bl false)) .nil
abbrev edy:E:=.bop .mul (.int 100) (.gc 15)
abbrev edx:E:=.blt .abs ee9
abbrev JD:E:=.blt .len efc
abbrev edv:E:=.blt .len ee9
abbrev edu:E:=.blt .len ee2
abbrev edt:E:=.blt .len ee4
abbrev eds:Es:=.cons (.bnw .list (.nm 3)) .nil
abbrev edr:Es:=.cons Lp .nil
abbrev edq:E:=.ix (.nm 2) eex
abbrev edp:Es:=.cons (.nm 6) ee8
abbrev edo:E:=.ix (.nm 1) ees
abbrev edn:E:=.ix (.nm 1) eet
abbrev edm:Es:=.cons (.nm 3) efa
abbrev edl:Es:=.cons (.nm 5) ee7
abbrev edk:Es:=.cons (.nm 0) ee2
abbrev edj:Es:=.cons (.nm 2) ee3
noncomputable abbrev LY:Es:=.cons (.nm 3) (.cons (.nm 12) .nil)
abbrev edh:S':=.set 5 ed9
abbrev edg:E:=.ix eeu (.int 0)
abbrev edf:E:=.ix eew (.int 1)
noncomputable abbrev LZ:E:=.ix (.ix (.nm 0) (.nm 10)) (.int 2)
abbrev L3:E:=.ix (.ix (.nm 3) (.nm 11)) (.int 1)
abbrev edc:It':=.seq (.call 3 ee4)
abbrev edb:E:=.not (.pt 0 [.fld "Going" "words"])
abbrev eda:E:=.not (.pt 0 [.fld "Going" "waiting"])
abbrev ec9:Es:=.cons (.nm 1) (.cons (.bl true) .nil)
abbrev ec8:S':=.set 3 (.call 44 ee9)
abbrev ec7:Es:=.cons ed7 .nil
abbrev ec6:E:=.bop .mul (.ix (.nm 1) (.nm 0)) (.gc 4)
abbrev ec5:Es:=.cons (.str "tell") ee7
noncomputable abbrev ec4:Es:=.cons (.pg 0 [.fld "Going" "rows"]) .nil
abbrev ec3:E:=.ix (.nm 1) (.bop .add (.nm 0) (.int 1))
abbrev ec2:E:=.ix Ln (.neg (.int 1))
noncomputable abbrev L4:E:=.ix (.pg 0 [.fld "Going" "rows"]) (.nm 1)
abbrev ec0:Es:=.cons (.bop .mod (.nm 0) (.int 100)) .nil
abbrev ecz:E:=.bop .mul (.int 10) eet
abbrev ecy:E:=.ix (.pg 0 [.fld "Going" "reach"]) (.int 0)
abbrev ecx:E:=.bop .mul (.int 100) eet
abbrev ecw:E:=.cmp .eq eer (.str "go")
abbrev ecv:S':=.set 3 (.bnw .sorted (.cat (.nm 3) (.nm 5)))
abbrev ecu:E:=.cmp .eq eer (.str "nil")
abbrev ect:E:=.cmp .eq eer (.str "set")
abbrev ecs:E:=.call 49 edk
abbrev ecr:E:=.cmp .eq (.ix (.nm 7) (.int 0)) (.str "stop")
abbrev Lq:E:=.cmp .eq eev (.str "stop")
abbrev ecp:E:=.call 14 edk
abbrev L5:E:=.call 39 (.cons (.nm 8) (.cons (.nm 12) .nil))
abbrev ecn:E:=.call 42 (.cons (.nm 2) (.cons (.int 4) .nil))
noncomputable abbrev ecm:E:=.call 42 (.cons (.nm 0) (.cons (.int 5) .nil))
abbrev L6:E:=.callS 34 (.cons (.nm 7) ee9)
abbrev ecj:E:=.cmp .ne eew (.str "great")
abbrev L7:E:=.callS 34 (.cons (.nm 6) ee9)
abbrev ech:E:=.call 42 (.cons (.nm 2) (.cons (.int 80) .nil))
abbrev ecg:E:=.call 42 (.cons (.nm 2) (.cons (.int 12) .nil))
abbrev ecf:E:=.meth "Going" "finds" 20 0 ee9
abbrev ece:Es:=.cons (.nm 0) (.cons (.bnw .tuple (.nm 1)) .nil)
abbrev L8:E:=.meth "Going" "is_due" 18 0 ee2
abbrev ecb:E:=.cmp .eq (.nm 5) edt
abbrev eca:E:=.cmp .lt (.blt .len efa) (.nm 1)
abbrev eb9:E:=.cmp .lt (.nm 5) edt
abbrev eb8:E:=.cmp .lt (.nm 6) edt
abbrev eb7:E:=.meth "Going" "may_put" 21 0 ee9
abbrev eb6:Ss:=.cons (.stf 0 "Going" "waiting" (.lst .nil)) .nil
abbrev eb5:E:=.cmp .lt (.nm 7) edt
abbrev L9:Es:=.cons (.nm 3) edl
abbrev eb3:Es:=.cons (.nm 0) (.cons (.nm 1) ee3)
abbrev eb2:Es:=.cons (.nm 0) (.cons (.nm 1) ee9)
abbrev eb1:E:=.call 2 ec4
abbrev eb0:S':=.set 2 (.rep (.lst ee1) (.gc 15))
abbrev ebz:E:=.pin true (.nm 1) 0 [.ix (-1),.fld "Going" "words"]
abbrev eby:E:=.bop .mul (.gc 23) edv
abbrev ebx:E:=.pin false (.nm 1) 0 [.ix (-1),.fld "Going" "words"]
abbrev ebw:E:=.blt .len ec4
abbrev ebv:S':=.set 2 (.call 41 edk)
abbrev ebu:E:=.cmp .eq edq (.int 0)
abbrev ebt:S':=.set 6 (.call 38 (.cons (.nm 0) efc))
abbrev ebs:S':=.set 2 (.call 12 edk)
abbrev Ma:E:=.ix (.nm 3) ec2
noncomputable abbrev ebq:E:=.ix (.ix (.pg 0 [.fld "Going" "rows"]) (.nm 3)) (.int 2)
noncomputable abbrev ebp:Es:=.cons (.nm 1) (.cons (.pg 0 [.fld "Going" "place"]) .nil)
abbrev ebo:It':=.rg1 (.bop .add edt (.int 1))
abbrev ebn:Es:=.cons (.lst .nil) (.cons (.lst .nil) ee1)
abbrev ebm:E:=.call 26 (.cons Ln ee2)
abbrev ebl:E:=.cmp .eq edg (.str "over")
abbrev ebk:E:=.call 25 (.cons (.nm 0) (.cons (.nm 3) ee2))
noncomputable abbrev Mb:E:=.comp 1 [11] (.seq (.nm 15)) (.nm 0) .none (.ix (.nm 1) (.nm 0))
abbrev ebi:E:=.call 0 (.cons L4 .nil)
abbrev ebh:S':=.set 2 (.ix L4 (.int 2))
abbrev ebg:Ss:=.cons (.ex (.meth "Going" "cross" 23 3 efa)) .nil
abbrev ebf:S':=.ex (.call 33 (.cons (.nm 7) edj))
abbrev ebe:S':=.ex (.call 33 (.cons (.nm 6) edj))
abbrev ebd:S':=.asg (.tp [13,14,15]) (.call 48 LY)
abbrev ebc:S':=.set 8 (.call 32 L9)
abbrev ebb:S':=.set 4 ebk
abbrev eba:E:=.not (.cmp2 .le .lt (.int 0) (.nm 1) edt)
abbrev ea9:E:=.blt .min (.cons (.int 5) (.cons edt .nil))
abbrev ea8:E:=.cmp .ne edt edu
abbrev ea7:E:=.cmp .nin ebq (.nm 2)
abbrev ea6:S':=.sdc 3 2 [] (.seq (.nm 2)) (.tp [0,1]) (.nm 0) edu
abbrev ea5:S':=.asg (.tp [9,10]) (.call 28 L9)
abbrev Lr:E:=.ife ecb (.str "ended") (.str "going")
abbrev ea3:Ss:=.cons (.ret (.tup (.cons (.nm 3) (.cons (.str "stopped") efa)))) .nil
abbrev Me:E:=.cmp .lt (.bop .add (.bop .add (.nm 3) JD) (.int 1)) (.nm 4)
noncomputable abbrev ea1:S':=.agl 5 (.lst (.cons (.bop .fdiv (.nm 6) (.gc 4)) (.cons (.bop .mod (.nm 6) (.gc 4)) .nil)))
abbrev ea0:E:=.call 27 (.cons (.nm 0) (.cons (.nm 3) (.cons (.ix (.nm 4) (.int 0)) ee9)))
noncomputable abbrev eaz:Ss:=.cons (.std 0 [.fld "Going" "uses"] 1 (.bop .sub (.pl 0 [.fld "Going" "gaps"]) (.int 1))) .nil
abbrev eay:S':=.set 5 ea0
abbrev eax:S':=.set 11 (.ix (.call 47 (.cons (.nm 3) (.cons (.nm 9) (.cons (.ix (.nm 10) (.int 0)) .nil)))) (.int 0))
noncomputable abbrev eaw:Ss:=.cons (.apd 0 [.ix (-1),.fld "Going" "words"] (.nm 2)) (.cons (.agf 0 "Going" "place" .add (.gc 23)) .nil)
abbrev eav:E:=.call 13 (.cons (.pg 0 [.fld "Going" "rows"]) (.cons (.pg 0 [.fld "Going" "longs"]) ee2))
abbrev eau:E:=.and eb9 eca
abbrev Mf:Es:=.cons (.nm 13) (.cons (.nm 14) (.cons Mb .nil))
abbrev eas:Ss:=.cons (.apd 0 [.fld "Going" "waiting"] (.tup ebp)) .nil
abbrev ear:E:=.blt .abs (.cons (.bop .sub Ma (.ix (.nm 4) (.nm 0))) .nil)
abbrev eaq:E:=.cmp .nin (.ix (.ix (.nm 0) (.bop .sub (.nm 6) (.int 1))) (.int 0)) (.tup (.cons (.str "go") eef))
abbrev eap:S':=.set 5 (.ife L7 ed5 ed9)
abbrev eao:Es:=.cons (.ix (.nm 6) (.nm 11)) (.cons (.idx L3 LZ) .nil)
abbrev ean:S':=.iff L8 (.cons (.ex (.meth "Going" "lay" 19 0 ee2)) .nil) .nil
abbrev eam:Ss:=.cons (.agl 5 (.call 29 (.cons (.nm 0) (.cons (.nm 6) (.cons (.pg 4 [.key 6]) (.cons JD .nil)))))) .nil
abbrev eal:S':=.iff Me (.cons (.app 5 (.gc 13)) .nil) .nil
abbrev eak:S':=.agf 0 "Going" "place" .add eav
abbrev eaj:S':=.set 5 (.call 37 (.cons (.nm 0) (.cons (.ife L6 (.ix (.nm 7) (.neg (.int 2))) (.nm 8)) .nil)))
abbrev eai:E:=.call 49 (.cons (.call 35 LY) (.cons (.tup (.cons (.nm 13) (.cons (.nm 14) (.cons (.nm 15) .nil)))) .nil))
abbrev eah:S':=.iff Lq ea3 .nil
abbrev eag:Ss:=.cons (.ret (.tup (.cons (.nm 3) (.cons Lr efa)))) .nil
abbrev eaf:Ss:=.cons (.agl 5 (.call 6 (.cons (.ix (.nm 0) (.nm 6)) (.cons JD (.cons (.cmp .inn (.nm 6) (.nm 1)) (.cons (.dgt 3 (.nm 6)) .nil)))))) .nil
abbrev eae:S':=.iff ecp (.cons (.agl 5 (.lst (.cons (.gc 11) (.cons (.bop .add (.nm 4) eby) .nil)))) .nil) .nil
abbrev ead:E:=.call 49 (.cons L5 (.cons (.tup Mf) .nil))
abbrev eac:Ss:=.cons (.iff eb8 (.cons (.app 3 (.nm 5)) (.cons (.set 5 (.bop .add (.nm 5) (.call 46 (.cons (.nm 0) (.cons (.nm 1) ee7))))) .nil)) .nil) .nil
abbrev eab:Ss:=.cons (.set 5 (.bop .sub (.bop .add (.nm 5) (.int 2)) (.bop .mod (.nm 5) (.int 2)))) (.cons (.app 4 (.nm 5)) (.cons (.set 5 (.bop .add (.nm 5) (.bop .mul (.int 2) (.blt .len efd)))) .nil))
abbrev eaa:S':=.iff LX (.cons (.app 5 (.call 15 (.cons (.nm 0) (.cons (.nm 7) ee7)))) (.cons (.set 6 (.bop .add (.ix (.nm 5) (.neg (.int 1))) (.bop .mul (.gc 23) (.pg 3 [.key 7])))) .nil)) .nil
def iP:Fn:=⟨[false],1,(.cons (.ret (.and ect (.cmp .gt ees (.gc 3)))) .nil)⟩
def ue:Fn:=⟨[false],1,(.cons (.ret (.or ecw ecu)) .nil)⟩
def mD:Fn:=⟨[false],1,(.cons (.ret (.comp 2 [] (.enm (.nm 0)) (.tp [0,1]) (.some ed0) (.nm 0))) .nil)⟩
def oQ:Fn:=⟨[false],1,(.cons (.ret (.comp 2 [] (.enm (.nm 0)) (.tp [0,1]) (.some ed1) (.nm 0))) .nil)⟩
def AA:Fn:=⟨[false],1,(.cons (.ret (.and (.cmp .ne eer (.str "go")) (.cmp .ne eer (.str "stop")))) .nil)⟩
def kz:Fn:=⟨[false,false,false,false],4,(.cons (.iff ecw (.cons (.ret (.ife (.nm 2) (.lst (.cons (.gc 6) ee3)) (.lst (.cons (.bop .sub (.bop .add (.gc 18) (.nm 3)) (.nm 1)) .nil)))) .nil) .nil) (.cons (.iff (.nm 2) (.cons (.ret (.lst (.cons (.bop .add (.gc 7) eet) ee3))) .nil) .nil) (.cons (.ret (.lst (.cons (.bop .sub (.bop .add (.bop .add (.gc 19) (.bop .mul (.gc 9) eet)) (.nm 3)) (.nm 1)) .nil))) .nil)))⟩
def mF:Fn:=⟨[false,false,false,false],7,(.cons (.set 4 eer) (.cons (.iff (.cmp .eq (.nm 4) (.str "stop")) (.cons (.ret (.lst (.cons (.gc 20) .nil))) .nil) .nil) (.cons (.iff (.or (.cmp .eq (.nm 4) (.str "go")) (.cmp .eq (.nm 4) (.str "nil"))) (.cons (.ret (.call 5 (.cons (.nm 0) (.cons (.nm 1) edj)))) .nil) .nil) (.cons (.iff ed2 (.cons (.asg (.tp [5,6]) (.nm 3)) (.cons (.ret (.lst (.cons (.bop .add (.bop .add (.gc 2) ecx) (.nm 6)) (.cons (.bop .sub (.bop .add (.gc 16) (.nm 5)) (.nm 1)) .nil)))) .nil)) .nil) (.cons (.iff (.cmp .eq (.nm 4) (.str "set")) (.cons (.ret (.lst (.cons (.bop .add (.bop .add (.gc 17) ecx) ees) .nil))) .nil) .nil) (.cons (.iff (.cmp .eq (.nm 4) (.str "sum")) (.cons (.ret (.lst (.cons (.bop .add (.bop .add (.gc 21) ecz) ees) .nil))) .nil) .nil) (.cons (.iff (.cmp .eq (.nm 4) (.str "less")) (.cons (.ret (.lst (.cons (.bop .add (.bop .add (.gc 5) ecz) ees) .nil))) .nil) .nil) (.cons (.ret (.lst (.cons (.bop .add (.gc 22) eet) .nil))) .nil))))))))⟩
def mG:Fn:=⟨[false,false],4,(.cons (.par [2,3] (.cons (.bop .fdiv (.nm 1) (.int 10)) (.cons (.bop .mod (.nm 1) (.int 10)) .nil))) (.cons (.ret (.ife (.and (.cmp .lt (.nm 2) (.gc 15)) (.cmp .lt (.nm 3) (.gc 15))) (.tup (.cons (.nm 0) edj)) (.non))) .nil))⟩
def oR:Fn:=⟨[false,false],5,(.cons (.set 2 (.bop .sub ed6 (.int 1))) (.cons (.par [3,4] (.cons (.bop .fdiv eea (.gc 9)) (.cons (.bop .mod eea (.gc 9)) .nil))) (.cons (.ret (.ife (.cmp .gt (.nm 4) (.int 0)) (.tup (.cons (.str "nil") (.cons (.nm 3) (.cons (.bop .sub (.bop .sub (.bop .add (.nm 1) (.nm 4)) (.gc 1)) (.int 1)) eeo)))) (.non))) .nil)))⟩
def mH:Fn:=⟨[false,false],2,(.cons (.iff (.cmp .eq (.nm 0) (.gc 20)) (.cons (.ret (.tup eef)) .nil) .nil) (.cons (.iff (.cmp2 .le .lt (.gc 17) (.nm 0) (.bop .add (.gc 17) edy)) (.cons (.ret (.tup (.cons (.str "set") (.cons (.bop .fdiv (.bop .sub (.nm 0) (.gc 17)) (.int 100)) ec0)))) .nil) .nil) (.cons (.iff (.cmp2 .le .lt (.gc 21) (.nm 0) (.gc 5)) (.cons (.ret (.call 7 (.cons (.str "sum") (.cons (.bop .sub (.nm 0) (.gc 21)) .nil)))) .nil) .nil) (.cons (.iff (.cmp2 .le .lt (.gc 5) (.nm 0) (.gc 22)) (.cons (.ret (.call 7 (.cons (.str "less") (.cons (.bop .sub (.nm 0) (.gc 5)) .nil)))) .nil) .nil) (.cons (.iff (.cmp2 .le .lt (.gc 22) (.nm 0) (.bop .add (.gc 22) (.gc 15))) (.cons (.ret (.tup (.cons (.str "tell") (.cons (.bop .sub (.nm 0) (.gc 22)) .nil)))) .nil) .nil) (.cons (.iff (.cmp .le (.blt .abs (.cons (.bop .sub (.nm 0) (.gc 18)) .nil)) (.gc 0)) (.cons (.ret (.tup (.cons (.str "go") (.cons (.bop .sub (.bop .add (.nm 1) (.nm 0)) (.gc 18)) eeo)))) .nil) .nil) (.cons (.iff (.cmp .eq (.nm 0) (.gc 13)) (.cons (.ret (.tup (.cons (.str "pad") .nil))) .nil) .nil) (.cons (.iff (.cmp2 .le .lt ed6 (.nm 0) (.gc 7)) (.cons (.ret (.call 8 edk)) .nil) .nil) eeg))))))))⟩
def oS:Fn:=⟨[false,false,false],3,(.cons (.iff (.cmp2 .le .lt (.gc 2) (.nm 0) (.bop .add (.gc 2) edy)) (.cons (.ret (.tup (.cons (.str "great") (.cons (.bop .fdiv (.bop .sub (.nm 0) (.gc 2)) (.int 100)) (.cons (.bop .sub (.bop .add (.nm 2) (.nm 1)) (.gc 16)) ec0))))) .nil) .nil) (.cons (.iff (.cmp .eq (.nm 0) (.gc 6)) (.cons (.ret (.tup (.cons (.str "go") ec9))) .nil) .nil) (.cons (.iff (.cmp .eq (.nm 0) (.gc 11)) (.cons (.ret (.tup (.cons (.str "over") ee2))) .nil) .nil) (.cons (.iff (.cmp2 .le .lt (.gc 7) (.nm 0) (.bop .add (.gc 7) (.gc 15))) (.cons (.ret (.tup (.cons (.str "nil") (.cons (.bop .sub (.nm 0) (.gc 7)) ec9)))) .nil) .nil) eeg))))⟩
def mI:Fn:=⟨[false,false],5,(.cons (.set 2 ed7) (.cons (.set 3 (.bop .add (.nm 2) (.bop .mul (.int 2) (.bop .sub eey (.gc 14))))) (.cons (.iff (.cmp .gt (.nm 3) edt) eeg .nil) (.cons (.set 4 (.comp 1 [0] (.rg3 (.nm 2) (.nm 3)) (.nm 0) .none (.bop .add ec6 ec3))) (.cons (.ret (.tup (.cons (.tup (.cons (.str "pool") (.cons (.bnw .tuple (.nm 4)) .nil))) ee3))) .nil)))))⟩
noncomputable abbrev ac:Str:="Going"
abbrev am:Str:="go"
noncomputable abbrev bi:Str:="nil"
abbrev bm:Str:="rows"
abbrev bn:Str:="place"
abbrev bv:Str:="stop"
noncomputable abbrev ce:Str:="set"
abbrev ci:Str:="longs"
abbrev cr:Str:="row"
abbrev dL:Str:="self"
abbrev eH:Str:="gap"
abbrev eO:Str:="begin"
abbrev ga:Str:="cells"
abbrev hF:Str:="reach"
abbrev hI:Str:="tell"
abbrev hL:Str:="pool"
abbrev hR:Str:="sum"
abbrev hW:Str:="less"
abbrev hY:Str:="great"
abbrev ii:Str:="stopped"
abbrev im:Str:="_law_script"
abbrev kt:Str:="words"
abbrev lc:Str:="uses"
noncomputable abbrev lf:Str:="waiting"
abbrev lm:Str:="plan"
abbrev lv:Str:="pad"
abbrev lw:Str:="hop"
abbrev lX:Str:="over"
abbrev na:Str:="gaps"
abbrev nb:Str:="cell"
abbrev nl:Str:="number"
abbrev np:Str:="_law_k"
abbrev nA:Str:="_law_tape_here"
abbrev nX:Str:="_law_rows_here"
abbrev ol:Str:="going"
abbrev oD:Str:="pools"
abbrev pc:Str:="held"
abbrev pi:Str:="ended"
abbrev pu:Str:="_law_longs"
abbrev pA:Str:="numbers"
abbrev rc:Str:="_law_found"
noncomputable def F_seen_at:Fn:=⟨[false,false],5,(.cons (.iff eba eeg .nil) (.cons (.set 2 eey) (.cons (.iff (.cmp2 .lt .le (.gc 14) (.nm 2) (.bop .add (.gc 14) (.gc 8))) (.cons (.ret (.call 11 edk)) .nil) .nil) (.cons (.set 3 (.call 9 (.cons (.nm 2) ee2))) (.cons (.iff (.isn true (.nm 3)) (.cons (.ret (.tup (.cons (.nm 3) ec7))) .nil) .nil) (.cons (.iff (.cmp .eq ed7 edt) eeg .nil) (.cons (.set 4 (.call 10 (.cons (.nm 2) (.cons (.ix (.nm 0) ed7) ee2)))) (.cons (.ret (.ife (.isn false (.nm 4)) (.non) (.tup (.cons (.nm 4) (.cons (.bop .add (.nm 1) (.int 2)) .nil))))) .nil))))))))⟩
def uf:Fn:=⟨[false,false,false],3,(.cons (.ret (.ife (.or (.call 0 edr) eeb) (.int 2) (.int 1))) .nil)⟩
def oT:Fn:=⟨[false,false],2,(.cons (.ret (.or (.cmp .eq (.nm 1) (.int 0)) (.call 4 (.cons (.ix (.nm 0) ed8) .nil)))) .nil)⟩
def kA:Fn:=⟨[false,false,false],3,(.cons (.iff ecp (.cons (.aug 2 .add (.gc 12)) .nil) .nil) (.cons (.ret (.bop .sub (.bop .add (.nm 2) (.int 2)) (.bop .mod (.nm 2) (.int 2)))) .nil))⟩
noncomputable def F_placed:Fn:=⟨[false,false,false],8,(.cons ea6 (.cons ee5 (.cons ee6 (.cons (.set 6 (.int 0)) (.cons (.fr (.nm 7) ebo (.cons eaa (.cons (.iff eb5 (.cons (.app 4 (.nm 6)) (.cons (.aug 6 .add (.call 13 (.cons (.nm 0) (.cons (.nm 1) ee8)))) .nil)) .nil) .nil))) (.cons (.ret (.tup (.cons (.nm 4) edl))) .nil))))))⟩
def gm:Fn:=⟨[true,false,false,false],4,(.cons (.stf 0 ac bm (.nm 1)) (.cons (.stf 0 ac ci (.nm 2)) (.cons (.stf 0 ac hF (.nm 3)) (.cons (.stf 0 ac bn (.int 0)) (.cons (.stf 0 ac na (.lst .nil)) (.cons (.stf 0 ac kt (.lst .nil)) (.cons (.stf 0 ac eO (.int 0)) (.cons (.stf 0 ac lc (.dnew)) eb6))))))))⟩
def iQ:Fn:=⟨[true,false],5,(.cons (.iff eda edz .nil) (.cons (.iff (.cmp .eq (.nm 1) ebw) ed3 .nil) (.cons (.set 2 (.bop .add (.pg 0 [.fld ac bn]) eav)) (.cons (.asg (.tp [3,4]) (.pg 0 [.ix (0),.fld ac lf])) (.cons (.ret (.cmp .gt (.bop .sub (.call 15 (.cons (.pg 0 [.fld ac bm]) (.cons ed7 ee9))) (.nm 4)) (.ix (.pg 0 [.fld ac hF]) (.int 1)))) .nil)))))⟩
noncomputable def F_Going_lay:Fn:=⟨[true,false],5,(.cons (.set 2 (.lst .nil)) (.cons (.fr (.tp [3,4]) (.seq (.pf 0 [.fld ac lf])) (.cons (.std 0 [.fld ac lc] 3 (.pl 0 [.fld ac na])) (.cons (.iff ea7 (.cons (.app 2 ebq) .nil) .nil) .nil))) (.cons (.apd 0 [.fld ac na] (.nm 1)) (.ali 0 [.fld ac kt] 2 (.cons (.stf 0 ac eO (.call 15 (.cons (.pg 0 [.fld ac bm]) ebp))) (.cons (.stf 0 ac bn (.bop .add (.pg 0 [.fld ac eO]) eby)) eb6))))))⟩
def jk:Fn:=⟨[true,false],2,(.cons (.iff (.or edb ebz) edz .nil) (.cons (.ret (.cmp .le (.bop .sub (.pg 0 [.fld ac bn]) (.pg 0 [.fld ac eO])) ecy)) .nil))⟩
def gG:Fn:=⟨[true,false],2,(.cons (.iff (.or edb (.or (.pt 0 [.fld ac lf]) ebx)) edz .nil) (.cons (.ret (.cmp .le (.bop .sub (.bop .add (.pg 0 [.fld ac bn]) (.gc 23)) (.pg 0 [.fld ac eO])) ecy)) .nil))⟩
def dq:Fn:=⟨[true,false],3,(.cons ebh (.cons (.iff eb7 eaw .nil) (.cons (.iff ecf eaz eas) .nil)))⟩
def jl:Fn:=⟨[true,false],2,(.cons ean (.cons (.iff (.cmp .lt (.nm 1) ebw) (.cons (.iff ebi (.cons (.ex (.meth ac "come" 22 0 ee2)) .nil) .nil) (.cons eak .nil)) .nil) .nil))⟩
def kB:Fn:=⟨[true],2,(.cons (.set 1 (.comp 2 [] (.zip (.pf 0 [.fld ac na]) (.pf 0 [.fld ac kt])) (.tp [0,1]) .none (.tup ece))) (.cons (.ret (.tup (.cons (.mv 1) (.cons (.comp 1 [0] (.seq eb1) (.nm 0) .none (.pg 1 [.key 0,.fld ac lc])) .nil)))) .nil))⟩
def mJ:Fn:=⟨[false,false,false],5,(.cons (.set 3 (.make ac 17 eb2)) (.cons (.fr (.nm 4) ebo ebg) (.cons (.ret (.meth ac lm 24 3 .nil)) .nil)))⟩
def oU:Fn:=⟨[false,false],2,(.cons (.ret (.ife ecu (.blt .min (.cons (.nm 1) (.cons (.gc 1) .nil))) (.nm 1))) .nil)⟩
def gE:Fn:=⟨[false,false,false,false],9,(.cons (.asg (.tp [4,5,6]) (.call 16 eb2)) (.cons (.set 7 (.cat (.nm 4) (.lst ee7))) (.cons (.set 8 (.comp 1 [1] edc (.nm 0) (.some (.cmp .nin (.nm 0) (.nm 1))) (.nm 0))) (.cons (.ret (.comp 1 [3,0,7,4] (.seq (.nm 8)) (.nm 0) (.some (.cmp .gt ear ebm)) (.nm 0))) .nil))))⟩
def ug:Fn:=⟨[false,false,false],6,(.cons efb (.cons ebb (.cons eay (.cons (.whl (.nm 5) (.cons ecv (.cons ebb (.cons eay .nil)))) (.cons (.ret (.tup edm)) .nil)))))⟩
def kC:Fn:=⟨[false,false,false,false],7,(.cons (.set 4 (.call 15 eb3)) (.cons ee6 (.cons eae (.cons eal (.cons (.app 5 (.bop .add (.gc 14) edv)) (.cons (.fr (.nm 6) (.seq (.nm 2)) (.cons ea1 .nil)) eec))))))⟩
def oV:Fn:=⟨[false,false,false],12,(.cons eeh (.cons (.asg (.tp [5,6,7]) (.call 16 eb3)) (.cons (.set 8 (.cat (.nm 5) (.lst ee8))) (.cons (.sdc 9 1 [8,0] edc (.nm 0) (.nm 0) (.ix (.nm 1) ec2)) (.cons (.fr (.tp [10,11]) (.zip (.call 2 ee4) (.nm 4)) (.cons (.sdk 9 (.nm 10) (.tup eao)) .nil)) (.cons (.ret (.nm 9)) .nil))))))⟩
def kD:Fn:=⟨[false,false,false],7,(.cons (.set 3 (.call 30 eb2)) (.cons (.sdc 4 2 [] (.seq eeu) (.tp [0,1]) (.nm 0) (.nm 1)) (.cons ee6 (.cons (.fr (.nm 6) ebo (.cons (.iff een eam .nil) (.cons (.iff eb8 eaf .nil) .nil))) eec))))⟩
def E4:Fn:=⟨[false,false,false],5,(.cons (.asg (.tp [3,4]) (.call 28 eb2)) (.cons (.ret (.call 31 (.cons (.nm 0) edm))) .nil))⟩
def bb:Fn:=⟨[false,true,true],4,(.cons (.set 3 eer) (.cons (.iff (.cmp .eq (.nm 3) (.str ce)) (.cons (.sti 1 eet ees) .nil) (.cons (.iff (.cmp .eq (.nm 3) (.str hR)) (.cons (.sti 1 eet (.bop .mod (.bop .add edn edo) (.gc 10))) .nil) (.cons (.iff (.cmp .eq (.nm 3) (.str hW)) (.cons (.sti 1 eet (.bop .mod (.bop .sub edn edo) (.gc 10))) .nil) (.cons (.iff (.cmp .eq (.nm 3) (.str hI)) (.cons (.app 2 edn) .nil) .nil) .nil)) .nil)) .nil)) .nil))⟩
def cI:Fn:=⟨[false,false],2,(.cons (.ret (.or ecw (.and ecu (.cmp .eq edn (.int 0))))) .nil)⟩
noncomputable def F_told_plainly:Fn:=⟨[false,false],7,(.cons eb0 (.cons efb (.cons ee5 (.cons (.set 5 (.int 0)) (.cons (.whl eau (.cons ed4 (.cons (.app 4 (.nm 5)) (.cons eah (.cons ebe (.cons eap .nil)))))) eag)))))⟩
def ui:Fn:=⟨[false,false,false],4,(.cons (.set 3 (.call 12 (.cons (.nm 0) (.cons ed8 .nil)))) (.cons (.iff (.or (.isn false (.nm 3)) (.or (.cmp .ne (.ix eew (.int 0)) (.str hL)) (.cmp .ge (.nm 2) (.blt .len (.cons edf .nil))))) eeg .nil) (.cons (.ret (.ix edf (.nm 2))) .nil)))⟩
noncomputable def F_past_overs:Fn:=⟨[false,false],3,(.cons ebs (.cons (.whl (.and (.isn true (.nm 2)) ebl) (.cons (.set 1 (.ix eeu (.int 1))) (.cons ebs .nil))) (.cons (.ret (.nm 1)) .nil)))⟩
noncomputable def F_row_at:Fn:=⟨[false,false],6,(.cons ebs (.cons (.iff (.or (.isn false (.nm 2)) (.or (.cmp .eq edg (.str lv)) (.cmp .eq edg (.str hL)))) eeg .nil) (.cons eeh (.cons (.iff ecj eed .nil) (.cons (.set 5 (.call 36 (.cons (.nm 0) (.cons (.ix (.nm 3) (.int 2)) (.cons (.ix (.nm 3) (.int 3)) .nil))))) (.cons (.ret (.ife (.isn false (.nm 5)) (.non) (.tup (.cons (.tup (.cons (.str ce) (.cons (.ix (.nm 3) (.int 1)) efc))) efa)))) .nil))))))⟩
noncomputable def F_run:Fn:=⟨[false,false],9,(.cons eb0 (.cons efb (.cons ee5 (.cons (.set 5 (.call 37 (.cons (.nm 0) ee1))) (.cons ebt (.cons (.whl (.and (.isn true (.nm 6)) eca) (.cons eei (.cons (.app 4 (.nm 5)) (.cons (.iff ecr ea3 .nil) (.cons ebf (.cons eaj (.cons ebt .nil))))))) (.cons (.iff ecb (.cons (.ret (.tup (.cons (.nm 3) (.cons (.str pi) efa)))) .nil) .nil) (.cons (.ret (.tup (.cons (.nm 3) (.cons (.ife (.isn false (.nm 6)) (.str "bad") (.str ol)) efa)))) .nil))))))))⟩
def gn:Fn:=⟨[false,false],2,(.cons (.ret (.ife (.cmp .lt (.nm 1) edt) eey (.int 0))) .nil)⟩
def xB:Fn:=⟨[false,false],3,(.cons (.set 2 (.call 40 edk)) (.cons (.ret (.lst (.cons (.bop .mul edx (.blt .int (.cons (.cmp .ge edx (.bop .pow (.int 10) (.int 18))) .nil))) (.cons (.bop .mod (.bop .mul (.bop .add (.bop .add (.bop .mod (.nm 2) (.int 2147483647)) (.bop .mul (.int 7121) (.nm 1))) (.int 43)) (.int 48271)) (.int 2147483629)) ee1)))) .nil))⟩
def oW:Fn:=⟨[true,false],4,(.cons (.iff (.cmp .gt eer (.int 0)) (.cons (.set 2 (.bop .mod eer (.nm 1))) (.cons (.sti 0 (.int 0) (.bop .fdiv eer (.nm 1))) eed)) .nil) (.cons (.sti 0 (.int 2) (.bop .add ees (.int 1))) (.cons (.set 3 (.bop .mod (.bop .mul (.bop .add eet (.bop .mul (.int 39373) ees)) (.bop .add (.int 48271) ees)) (.int 2147483647))) (.cons (.sti 0 (.int 1) (.bop .mod (.bop .add (.bop .mul (.nm 3) (.bop .add (.bop .mod (.nm 3) (.int 40009)) (.int 7))) ees) (.int 2147483629))) (.cons (.ret (.bop .mod (.bop .fdiv (.bop .mod (.bop .mul eet (.bop .add (.bop .mod eet (.int 1009)) (.int 3))) (.int 998244353)) (.int 7)) (.nm 1))) .nil)))))⟩
def qZ:Fn:=⟨[true],3,(.cons (.set 1 (.call 42 (.cons (.nm 0) (.cons (.int 4) .nil)))) (.cons (.set 2 (.bop .add (.int 100) (.call 42 (.cons (.nm 0) (.cons (.int 99999900) .nil))))) (.cons (.ret (.ix (.lst (.cons (.ix (.lst (.cons (.int 100) (.cons (.int 101) (.cons (.int 12345) (.cons (.int 10000) (.cons (.int 9999) .nil)))))) ecm) (.cons (.bop .add (.int 100) (.call 42 (.cons (.nm 0) (.cons (.int 6) .nil)))) (.cons (.nm 2) (.cons (.int 99999999) .nil))))) (.nm 1))) .nil)))⟩
noncomputable def F_rows:Fn:=⟨[true],11,(.cons (.set 1 (.ife (.cmp .eq (.call 42 (.cons (.nm 0) (.cons (.int 8) .nil))) (.int 0)) (.bop .add (.int 20) (.call 42 (.cons (.nm 0) (.cons (.int 41) .nil)))) (.call 42 (.cons (.nm 0) (.cons (.int 11) .nil))))) (.cons (.set 2 (.ix (.lst (.cons (.int 2) (.cons (.int 5) (.cons (.int 9) .nil)))) (.call 42 (.cons (.nm 0) (.cons (.int 3) .nil))))) (.cons efb (.cons (.fr (.nm 4) (.rg1 (.nm 1)) (.cons (.par [5,6] (.cons (.call 42 (.cons (.nm 0) (.cons (.int 10) .nil))) (.cons ecm .nil))) (.cons (.iff (.cmp .lt (.nm 5) (.nm 2)) (.cons (.app 3 (.tup (.cons (.str ce) (.cons (.nm 6) (.cons (.call 43 ee4) .nil))))) (.cons (.cont) .nil)) .nil) (.cons (.set 5 (.call 42 (.cons (.nm 0) (.cons (.int 9) .nil)))) (.cons (.par [7,8] (.cons ecm (.cons (.call 42 (.cons (.nm 0) ec7)) .nil))) (.cons (.set 9 (.blt .max (.cons (.int 0) (.cons (.blt .min (.cons (.nm 1) (.cons (.bop .sub (.bop .add (.nm 4) (.call 42 (.cons (.nm 0) (.cons (.int 7) .nil)))) (.int 2)) .nil))) .nil)))) (.cons (.set 10 (.lst (.cons (.tup (.cons (.str ce) (.cons (.nm 6) (.cons (.call 42 (.cons (.nm 0) (.cons (.int 100) .nil))) .nil)))) (.cons (.tup (.cons (.str hR) edp)) (.cons (.tup (.cons (.str hW) edp)) (.cons (.tup ec5) (.cons (.tup (.cons (.str am) (.cons (.nm 9) .nil))) .nil))))))) (.cons (.set 10 (.cat (.nm 10) (.lst (.cons (.tup (.cons (.str bi) (.cons (.nm 6) (.cons (.nm 9) .nil)))) (.cons (.tup (.cons (.str bi) (.cons (.nm 6) efd))) (.cons (.tup ec5) (.cons (.ix (.lst (.cons (.tup (.cons (.str am) efd)) (.cons (.tup eef) .nil))) (.call 42 (.cons (.nm 0) (.cons (.int 2) .nil)))) .nil))))))) (.cons (.app 3 (.ix (.nm 10) (.nm 5))) .nil))))))))) (.cons (.ret (.nm 3)) .nil)))))⟩
def fR:Fn:=⟨[false],1,(.cons (.ret (.and ect (.cmp .gt ees (.int 99)))) .nil)⟩
def E5:Fn:=⟨[false,false,false],3,(.cons (.ret (.ife (.or (.call 45 edr) eeb) (.int 2) (.int 1))) .nil)⟩
def oX:Fn:=⟨[false,false,false],9,(.cons (.par [3,4,5] ebn) (.cons (.fr (.nm 6) ebo (.cons (.fr (.tp [7,8]) (.seq (.nm 2)) (.cons (.iff eej (.cons (.set 5 (.bop .add (.nm 5) (.bop .mul (.int 2) (.blt .int (.cons (.or eee eaq) .nil))))) eab) .nil) .nil)) eac)) (.cons (.ret (.tup (.cons (.nm 3) (.cons (.nm 4) efc)))) .nil)))⟩
noncomputable def F_plain:Fn:=⟨[false,false],8,(.cons (.asg (.tp [2,3,4,5]) (.tup (.cons (.rep (.lst ee1) (.int 5)) ebn))) (.cons (.whl eau (.cons ed4 (.cons (.app 4 (.nm 5)) (.cons edh (.cons eah (.cons (.iff (.cmp .eq eev (.str ce)) (.cons (.sti 2 eex (.ix (.nm 6) (.int 2))) .nil) (.cons (.iff (.cmp .inn eev (.tup (.cons (.str hR) (.cons (.str hW) .nil)))) (.cons (.set 7 (.bop .mul (.ix (.nm 2) (.ix (.nm 6) (.int 2))) (.ix (.lst (.cons (.int 1) (.cons (.neg (.int 1)) .nil))) (.blt .int (.cons (.cmp .eq eev (.str hW)) .nil))))) (.cons (.sti 2 eex (.bop .mod (.bop .add edq (.nm 7)) (.int 100000000))) .nil)) (.cons (.iff (.cmp .eq eev (.str hI)) (.cons (.app 3 edq) .nil) (.cons (.iff (.or (.cmp .eq eev (.str am)) ebu) (.cons (.set 5 ed5) .nil) .nil) .nil)) .nil)) .nil)) .nil)))))) eag))⟩
def E6:Fn:=⟨[false,false],2,(.cons (.iff (.isi .seq (.nm 1)) (.cons (.iff (.or (.cmp .ne (.isi .list (.nm 0)) (.isi .list (.nm 1))) (.cmp .ne (.isi .tuple (.nm 0)) (.isi .tuple (.nm 1)))) edz .nil) (.cons (.iff ea8 edz .nil) (.cons (.ret (.blt .all (.cons (.comp 2 [] (.zip (.nm 0) (.nm 1)) (.tp [0,1]) .none ecs) .nil))) .nil))) .nil) (.cons (.iff (.or (.isn false (.nm 1)) (.isi .str (.nm 1))) (.cons (.ret (.and eek (.cmp .eq (.isi .str (.nm 0)) (.isi .str (.nm 1))))) .nil) .nil) (.cons (.iff (.isi .bool (.nm 1)) (.cons (.ret (.and (.isi .bool (.nm 0)) eek)) .nil) .nil) (.cons (.ret (.and (.isi .int (.nm 0)) (.and (.not (.isi .bool (.nm 0))) eek))) .nil))))⟩
noncomputable def F_law:Fn:=⟨[false],16,(.cons (.fr (.nm 1) (.rg1 (.bop .add (.int 1) ea9)) (.cons ebv (.cons ec8 (.cons (.set 4 (.ix (.lst (.cons (.int 0) (.cons (.bop .add (.int 1) ecg) (.cons ech eep)))) ecn)) (.cons (.set 5 (.tup (.cons (.nm 4) (.cons (.ix (.lst (.cons (.int 6) (.cons (.bop .add (.int 7) ecg) (.cons (.bop .add (.int 6) ech) eep)))) ecn) .nil)))) (.cons (.par [6,7] (.cons (.ix (.lst (.cons (.int 0) (.cons (.bop .add (.int 1) (.call 42 (.cons (.nm 2) (.cons (.int 30) .nil)))) eeq))) (.call 42 (.cons (.nm 2) (.cons (.int 3) .nil)))) eds)) (.cons ebc (.cons ea5 (.cons eax (.cons (.fr (.nm 12) (.seq (.tup (.cons (.call 42 (.cons (.nm 2) (.cons (.int 301) .nil))) (.cons (.ife (.cmp .eq (.call 42 (.cons (.nm 2) (.cons (.int 8) .nil))) (.int 0)) (.int 2000) (.call 42 (.cons (.nm 2) (.cons (.int 40) .nil)))) .nil)))) (.cons ebd (.cons (.iff (.not ead) edz .nil) (.cons (.iff (.or (.not eai) eel) edz .nil) .nil)))) .nil)))))))))) ed3)⟩
def oY:Df:=⟨"is_great","is_great",top 4,[cr],[cr],iP⟩
def uj:Df:=⟨"is_jump","is_jump",top 5,[cr],[cr],ue⟩
def mK:Df:=⟨"greats_of","greats_of",top 6,[bm],[bm],mD⟩
def oZ:Df:=⟨"jumps_of","jumps_of",top 7,[bm],[bm],oQ⟩
def AB:Df:=⟨"falls","falls",top 8,[cr],[cr],AA⟩
def kF:Df:=⟨"jump_cells","jump_cells",top 29,[cr,bn,"long","goal"],[cr,bn,"long","goal"],kz⟩
def mL:Df:=⟨"row_cells","row_cells",top 30,[cr,bn,"long","goal"],[cr,bn,"long","goal","word",eO,"at"],mF⟩
def mM:Df:=⟨"pair_seen","pair_seen",top 31,["word","rest"],["word","rest","one","other"],mG⟩
def pb:Df:=⟨"nil_seen","nil_seen",top 32,[nb,bn],[nb,bn,"lowest","one","step"],oR⟩
def mN:Df:=⟨"lone_seen","lone_seen",top 33,[nb,bn],[nb,bn],mH⟩
def pd:Df:=⟨"two_seen","two_seen",top 34,[nb,"second",bn],[nb,"second",bn],oS⟩
def mO:Df:=⟨"pool_seen","pool_seen",top 35,[ga,bn],[ga,bn,eO,"end",pA],mI⟩
def uk:Df:=⟨"seen_at","seen_at",top 36,[ga,bn],[ga,bn,nb,"lone","two"],F_seen_at⟩
def um:Df:=⟨"size_of","size_of",top 40,[bm,ci,"at"],[bm,ci,"at"],uf⟩
def pe:Df:=⟨"has_over","has_over",top 41,[bm,eH],[bm,eH],oT⟩
def kG:Df:=⟨"first_word","first_word",top 42,[bm,eH,bn],[bm,eH,bn],kA⟩
def xC:Df:=⟨"placed","placed",top 43,[bm,ci,oD],[bm,ci,oD,kt,"places","begins",bn,eH],F_placed⟩
def gq:Df:=⟨"__init__","Going.__init__",bY 0 (top 45),[dL,bm,ci,hF],[dL,bm,ci,hF],gm⟩
def iR:Df:=⟨"is_due","Going.is_due",bY 1 (top 45),[dL,eH],[dL,eH,"behind","first",bn],iQ⟩
def mP:Df:=⟨"lay","Going.lay",bY 2 (top 45),[dL,eH],[dL,eH,pA,"at",bn],F_Going_lay⟩
def jn:Df:=⟨"finds","Going.finds",bY 3 (top 45),[dL,nl],[dL,nl],jk⟩
def gH:Df:=⟨"may_put","Going.may_put",bY 4 (top 45),[dL,nl],[dL,nl],gG⟩
def kH:Df:=⟨"come","Going.come",bY 5 (top 45),[dL,"at"],[dL,"at",nl],dq⟩
def jq:Df:=⟨"cross","Going.cross",bY 6 (top 45),[dL,eH],[dL,eH],jl⟩
def kI:Df:=⟨lm,"Going.plan",bY 7 (top 45),[dL],[dL,oD],kB⟩
def mQ:Df:=⟨"pools_for","pools_for",top 46,[bm,ci,hF],[bm,ci,hF,ol,eH],mJ⟩
def ph:Df:=⟨"farthest","farthest",top 48,[cr,lw],[cr,lw],oU⟩
def mR:Df:=⟨"too_short","too_short",top 49,[bm,ci,oD,lw],[bm,ci,oD,lw,"places","begins","end","goals","short"],gE⟩
def uo:Df:=⟨"settled","settled",top 50,[bm,hF,lw],[bm,hF,lw,ci,lm,"short"],ug⟩
def kJ:Df:=⟨"pool_cells","pool_cells",top 52,[bm,eH,pA,bn],[bm,eH,pA,bn,eO,ga,nl],kC⟩
def pj:Df:=⟨"goals_of","goals_of",top 53,[bm,ci,lm],[bm,ci,lm,oD,lc,"places","begins","end","spots","goals","at","use"],oV⟩
def kL:Df:=⟨"laid_cells","laid_cells",top 54,[bm,ci,lm],[bm,ci,lm,"goals",kt,ga,eH],kD⟩
def E7:Df:=⟨"made","made",top 55,[bm,hF,lw],[bm,hF,lw,ci,lm],E4⟩
def mS:Df:=⟨"carry_out","carry_out",top 57,[cr,pc,"told"],[cr,pc,"told","word"],bb⟩
def mT:Df:=⟨"jumps_now","jumps_now",top 58,[cr,pc],[cr,pc],cI⟩
def iS:Df:=⟨"told_plainly","told_plainly",top 59,[bm,"most"],[bm,"most",pc,"told","went","at",cr],F_told_plainly⟩
def uq:Df:=⟨"word_at","word_at",top 61,[ga,eO,"at"],[ga,eO,"at","seen"],ui⟩
def kM:Df:=⟨"past_overs","past_overs",top 62,[ga,bn],[ga,bn,"seen"],F_past_overs⟩
def xD:Df:=⟨"row_at","row_at",top 63,[ga,bn],[ga,bn,"seen",cr,"behind",nl],F_row_at⟩
def II:Df:=⟨"run","run",top 64,[ga,"most"],[ga,"most",pc,"told","trace",bn,"found",cr,"behind"],F_run⟩
def ur:Df:=⟨"_law_cell_at","_law_cell_at",top 66,[im,np],[im,np],gn⟩
def E9:Df:=⟨"_law_tape","_law_tape",top 67,[im,np],[im,np,"_law_cell"],xB⟩
def Fb:Df:=⟨"_law_take","_law_take",top 68,[nA,"_law_many"],[nA,"_law_many",rc,"_law_once"],oW⟩
def AD:Df:=⟨"_law_great","_law_great",top 69,[nA],[nA,"_law_way","_law_any_one"],qZ⟩
def Fc:Df:=⟨"_law_rows","_law_rows",top 70,[nA],[nA,"_law_many","_law_share","_law_made_rows","_law_number","_law_way","_law_r","_law_s","_law_t","_law_near","_law_some"],F_rows⟩
def kN:Df:=⟨"_law_is_great","_law_is_great",top 71,["_law_row"],["_law_row"],fR⟩
def Fd:Df:=⟨"_law_size","_law_size",top 72,[nX,pu,np],[nX,pu,np],E5⟩
def pk:Df:=⟨"_law_placed","_law_placed",top 73,[nX,pu,"_law_pools"],[nX,pu,"_law_pools","_law_places","_law_begins","_law_place","_law_gap","_law_at","_law_numbers"],oX⟩
def AE:Df:=⟨"_law_plain","_law_plain",top 74,[nX,"_law_most"],[nX,"_law_most","_law_registers","_law_told","_law_went","_law_at","_law_row","_law_other"],F_plain⟩
def Fe:Df:=⟨"_law_same","_law_same",top 75,[rc,"_law_due"],[rc,"_law_due"],E6⟩
def D_law:Df:=⟨"law","law",top 76,[im],[im,np,nA,nX,"_law_back","_law_reach","_law_hop","_law_kept","_law_cells",pu,"_law_plan","_law_places","_law_most","_law_told","_law_end","_law_went"],F_law⟩
noncomputable def pl:Pl where
 ds:=[(oY,.fn),(uj,.fn),(mK,.fn),(oZ,.fn),(AB,.fn),(kF,.fn),(mL,.fn),(mM,.fn),(pb,.fn),(mN,.fn),(pd,.fn),(mO,.fn),(uk,.fn),(um,.fn),(pe,.fn),(kG,.fn),(xC,.fn),(gq,.ini ac),(iR,.me ac),(mP,.me ac),(jn,.me ac),(gH,.me ac),(kH,.me ac),(jq,.me ac),(kI,.me ac),(mQ,.fn),(ph,.fn),(mR,.fn),(uo,.fn),(kJ,.fn),(pj,.fn),(kL,.fn),(E7,.fn),(mS,.fn),(mT,.fn),(iS,.fn),(uq,.fn),(kM,.fn),(xD,.fn),(II,.fn),(ur,.fn),(E9,.fn),(Fb,.fn),(AD,.fn),(Fc,.fn),(kN,.fn),(Fd,.fn),(pk,.fn),(AE,.fn),(Fe,.fn),(D_law,.fn)]
 cs:=[("FARTHEST_GO",.int 499),("FARTHEST_NIL",.int 99),("GREAT",.int 5000),("GREATEST_SMALL",.int 99),("HALF_WORD",.int 10000),("LESS",.int 3000),("LONG_GO",.int 7000),("LONG_NIL",.int 9000),("MOST_WORDS",.int 100),("NILS_OF_ONE",.int 200),("NUMBERS",.int 100000000),("OVER",.int 7001),("OVER_CELLS",.int 2),("PAD",.int 7002),("POOL",.int 7100),("REGISTERS",.int 5),("SAME_PLACE",.int 5000),("SET",.int 1000),("SHORT_GO",.int 6500),("SHORT_NIL",.int 8100),("STOP",.int 0),("SUM",.int 2000),("TELL",.int 4000),("WORD_CELLS",.int 2)]
 nog:=["abs","all","bool","enumerate","int","isinstance","len","list","max","min","range","sorted","str","tuple","zip"]
 fld:=[(ac,eO),(ac,na),(ac,ci),(ac,bn),(ac,hF),(ac,bm),(ac,lc),(ac,lf),(ac,kt)]
abbrev IJ:Nat:=50
theorem IK:(pl.ds.all λz=>Ay pl.tb z.1)=true:=by decide +kernel
noncomputable abbrev It(i:Int):OD:=.fz (.int i)
abbrev re(i:Int):Option OD:=some (It i)
abbrev Tp(a b c:Int):OD:=.lst [It a,It b,It c]
abbrev sn(a b c:Int):Option OD:=some (Tp a b c)
structure TpOk (b c:Int)(n:Nat):Prop where
 b0:0<=b
 b1:b<2147483629
 c0:0<=c
 c1:c<=n
theorem cJ{i j:Int}(h:(-(2^64)<i/\i<2^64)\/(-(2^64)<j/\j<2^64)):yE .mul (.int i) (.int j)=some (.int (i*j)):=bs rfl (bs rfl (bs (bg h rfl) rfl))
theorem br{i j:Int}(h:0<j):yE .mod (.int i) (.int j)=some (.int (i%j)):=bs rfl (bs rfl (bs (bg h rfl) rfl))
theorem iU{i j:Int}(h:0<j/\j<1073741824):yE .fdiv (.int i) (.int j)=some (.int (i/j)):=bs rfl (bs rfl (bs (bg h rfl) rfl))
theorem IL{x m:Int}(T:0<m)(h:m<=2^64):-(2^64)<x%m/\x%m<2^64:=by
 have O:=abi x (show m≠0 by lia);have Z:=abj x T
 lia
theorem up{m a k b:Nat}(h:m<=a)(e:Nat.ble (a+k) b=true):m+k<=b:=aan (ach h k) (Nat.le_of_ble_eq_true e)
theorem MR{m k b:Nat}(e:Nat.ble k b=true):m+k<=m+b:=by simp_all
theorem bc{n m:Nat}{a b c many:Int}(h:TpOk b c m)(Y:m<=1000000)(T:0<many)(O:many<1073741824):∃x o w M,pl.pg.call (n+1) 42 [Tp a b c,It many]=some (It x,[Tp o w M,It many])/\0<=x/\x<many/\TpOk w M (m+1):=by
 have S:=h.b0;have B:=h.b1;have U:=h.c0;have A:=h.c1;by_cases i:0<a
 ·refine⟨a%many,a/many,b,c,?_,abi _ (by lia),abj _ T,⟨h.b0,h.b1,h.c0,by lia⟩⟩;refine ai (fn:=oW) (ρ:=[sn (a/many) b c,re many,re (a%many),none]) rfl rfl ?_ rfl;refine ak (ao (ar (aq rfl rfl rfl rfl (show some (decide (0<a))=some true by grind))) ?_);refine ab (ae (ah rfl rfl rfl rfl (br T)) rfl rfl rfl) ?_;refine ab (iO (ah rfl rfl rfl rfl (iU ⟨T,O⟩)) rfl rfl rfl rfl rfl rfl rfl) rfl
 ·exact⟨_,a,_,c+1,ai (fn:=oW) rfl rfl (ab (s_ifF (ar (aq rfl rfl rfl rfl (show some (decide (0<a))=some false by grind))) rfl) (ab (iO rfl rfl rfl rfl rfl rfl rfl rfl) (ab (ae (ah (ah (ah rfl (ah rfl rfl rfl rfl (cJ (.inl (by decide)))) rfl rfl rfl) (ah rfl rfl rfl rfl rfl) rfl rfl (cJ (.inr (by lia)))) rfl rfl rfl (br (by decide))) rfl rfl rfl) (ab (iO (ah (ah (ah rfl (ah (ah rfl rfl rfl rfl (br (by decide))) rfl rfl rfl rfl) rfl rfl (cJ (.inl (IL (by decide) (by decide))))) rfl rfl rfl rfl) rfl rfl rfl (br (by decide))) rfl rfl rfl rfl rfl rfl rfl) (ak (ag (ah (ah (ah (ah rfl (ah (ah rfl rfl rfl rfl (br (by decide))) rfl rfl rfl rfl) rfl rfl (cJ (.inl (IL (by decide) (by decide))))) rfl rfl rfl (br (by decide))) rfl rfl rfl (iU (by decide))) rfl rfl rfl (br T)) rfl)))))) rfl,abi _ (by lia),abj _ T,⟨abi _ (by decide),abj _ (by decide),by lia,by lia⟩⟩
theorem Fg{n:Nat}{ns:List Int}{k:Nat}:∃x,pl.pg.call (n+1) 40 [.fz (.list (ns.map PyData.int)),It k]=some (It x,[.fz (.list (ns.map PyData.int)),It k]):=by
 by_cases F:(k:Int)<ns.length
 ·have H:k<ns.length:=by lia
  refine⟨ns[k],ai (fn:=gn) rfl rfl (ak (ag (cH (ar (aq rfl rfl rfl rfl (k:=true) ?_)) (ax rfl rfl rfl (aR (cf (x:=.int ns[k]) ?_)))) rfl)) rfl⟩
  ·show some (decide ((k:Int)<((ns.map PyData.int).length:Nat)))=some true
   grind
  ·simp
 ·refine⟨0,ai (fn:=gn) rfl rfl (ak (ag (cb (ar (aq rfl rfl rfl rfl (k:=false) ?_)) rfl) rfl)) rfl⟩;show some (decide ((k:Int)<((ns.map PyData.int).length:Nat)))=some false
  grind
theorem Fh{n:Nat}{ns:List Int}{k:Nat}(F:k<=8):∃a b,pl.pg.call (n+2) 41 [.fz (.list (ns.map PyData.int)),It k]=some (Tp a b 0,[.fz (.list (ns.map PyData.int)),It k])/\TpOk b 0 0:=by obtain⟨x,C⟩:=Fg (n:=n) (ns:=ns) (k:=k);refine⟨_,_,ai (fn:=xB) rfl rfl (ab (ae (af rfl rfl C rfl) rfl rfl rfl) (ak (ag (bZ (aa (ah rfl (aJ (aa (aq rfl (ah rfl rfl rfl rfl rfl) rfl rfl rfl) aj) rfl rfl) rfl rfl (cJ (.inr ?_))) (aa (ah (ah (ah (ah (ah rfl rfl rfl rfl (br (by decide))) (ah rfl rfl rfl rfl (cJ (.inl (by decide)))) rfl rfl rfl) rfl rfl rfl rfl) rfl rfl rfl (cJ (.inr (by decide)))) rfl rfl rfl (br (by decide))) (aa rfl aj))) rfl rfl) rfl))) rfl,abi _ (by decide),abj _ (by decide),Int.le_refl _,Int.le_refl _⟩;exact(show ∀q:Bool,-(2^64)<(if q=true then (1:Int) else 0)/\(if q=true then (1:Int) else 0)<2^64 by decide) _
theorem eR{ks:List Int}{i:Int}(T:0<=i)(O:i<ks.length):∃k,k∈ks/\atI (ks.map It) i=re k:=by obtain⟨x,C,e⟩:=qY (xs:=ks.map It) T (by rw[aae];exact O);obtain⟨k,F,rfl⟩:=aaH.mp C;exact⟨k,F,e⟩
theorem TpOk.up{b c:Int}{m y:Nat}(h:TpOk b c m)(Y:m<=y):TpOk b c y:=⟨h.b0,h.b1,h.c0,by have:=h.c1;lia⟩
theorem AF{n m:Nat}{a b c:Int}(h:TpOk b c m)(Y:m<=900000):∃k a' i M,pl.pg.call (n+2) 43 [Tp a b c]=some (It k,[Tp a' i M])/\(100<=k/\k<=99999999)/\TpOk i M (m+4):=by
 obtain⟨w,I,Q,P,J,w0,f,v⟩:=bc (n:=n) (a:=a) (many:=4) h (up (k:=0) Y rfl) (by decide) (by decide);obtain⟨C,U,H,q,B,a0,d,S⟩:=bc (n:=n) (a:=I) (many:=99999900) v (up (k:=1) Y rfl) (by decide) (by decide);obtain⟨t,T,A,X,s,y,Z,O⟩:=bc (n:=n) (a:=U) (many:=5) S (up (k:=2) Y rfl) (by decide) (by decide);obtain⟨u,l,z,j,e,o,W,r⟩:=bc (n:=n) (a:=T) (many:=6) O (up (k:=3) Y rfl) (by decide) (by decide);obtain⟨g,N,L⟩:=eR (ks:=[100,101,12345,10000,9999]) y Z;obtain⟨k,F,D⟩:=eR (ks:=[g,100+u,100+C,99999999]) w0 f;refine⟨k,l,z,j,ai (fn:=qZ) rfl rfl (ab (ae (af rfl rfl J rfl) rfl rfl rfl) (ab (ae (ah rfl (af rfl rfl B rfl) rfl rfl rfl) rfl rfl rfl) (ak (ag (ax (bZ (aa (ax rfl (af rfl rfl s rfl) rfl (fv L)) (aa (ah rfl (af rfl rfl e rfl) rfl rfl rfl) (aa rfl (aa rfl aj)))) rfl rfl) rfl rfl (fv D)) rfl)))) rfl,?_,r⟩;have p:100<=g/\g<=99999999:=(show ∀x∈[100,101,12345,10000,9999],(100:Int)<=x/\x<=99999999 by decide) g N;rcases aaa.mp F with rfl|F
 ·exact p
 rcases aaa.mp F with rfl|F
 ·omega
 rcases aaa.mp F with rfl|F
 ·omega
 rw[aaw.mp F];decide
inductive R where|st (r k:Int)|ot (w:Str) (xs:List Int) (h:w≠ce/\PyData.strOk w=true)
def R.num:R->Int|.st _ k=>k|.ot _ _ _=>0
inductive Rkd:Str->List Int->Prop
 |sum (a b:Int) (h:(0<=a/\a<=4)/\0<=b/\b<=4):Rkd hR [a,b]
 |less (a b:Int) (h:(0<=a/\a<=4)/\0<=b/\b<=4):Rkd hW [a,b]
 |tell (a:Int) (h:0<=a/\a<=4):Rkd hI [a]
 |go (a:Int):Rkd am [a]
 |nil (a b:Int) (h:0<=a/\a<=4):Rkd bi [a,b]
 |stop:Rkd bv []
def R.ok:R->Prop|.st r k=>(0<=r/\r<=4)/\0<=k/\k<=99999999|.ot w xs _=>Rkd w xs
abbrev Nb(rs:List R):Prop:=∀r∈rs,r.ok
theorem Nb.snoc(h:Nb rs)(D:r.ok):Nb (rs++[r]):=by grind
abbrev pq(a b:Int):R:=.ot hR [a,b] (by decide +kernel)
abbrev iV(a b:Int):R:=.ot hW [a,b] (by decide +kernel)
abbrev eC(a:Int):R:=.ot hI [a] (by decide +kernel)
abbrev AG(a:Int):R:=.ot am [a] (by decide +kernel)
abbrev kO(a b:Int):R:=.ot bi [a,b] (by decide +kernel)
abbrev IM:R:=.ot bv [] (by decide +kernel)
def R.d:R->PyData|.st r k=>.tuple [.str ce,.int r,.int k]|.ot w xs _=>.tuple (.str w::xs.map PyData.int)
def R.jm:R->Bool|.st _ _=>false|.ot w _ _=>decide (w=am)||decide (w=bi)
def R.tg:R->Int|.st _ _=>0|.ot _ xs _=>xs.getLastD 0
abbrev Jok(N:Int)(r:R):Prop:=r.jm=true->0<=r.tg/\r.tg<=N/\∃ys,r.d=.tuple (ys++[.int r.tg])
abbrev Jb(N:Int)(rs:List R):Prop:=∀r∈rs,Jok N r
theorem Jb.snoc(h:Jb N rs)(D:Jok N r):Jb N (rs++[r]):=λx C=>by
 rcases aaj.mp C with C|C
 ·exact h x C
 ·rw[aaw.mp C];exact D
theorem IP(T:0<=a)(O:a<=N):Jok N (AG a):=λ_=>⟨T,O,[.str am],rfl⟩
theorem B6(T:0<=a)(O:a<=N):Jok N (kO r a):=λ_=>⟨T,O,[.str bi,.int r],rfl⟩
theorem pv(h:r.jm=false):Jok N r:=by grind
abbrev Rs(rs:List R):OD:=.lst (rs.map λr=>.fz r.d)
abbrev sw(rs:List R):Option OD:=some (Rs rs)
theorem B7{rs:List R}{i:Int}(T:0<=i)(O:i<rs.length):∃r,r∈rs/\atI (rs.map λr=>OD.fz r.d) i=some (.fz r.d):=by
 obtain⟨x,C,e⟩:=qY (xs:=rs.map λr=>OD.fz r.d) T (by grind)
 grind
theorem AH{r:R}(h:ρ[j]?.join=sw rs)(O:atI (rs.map λr=>OD.fz r.d) i=some (.fz r.d)):bF ρ (.rf j) i=some (.fz r.d,ρ):=by
 obtain⟨k,J,B⟩:=bnd O;have s:itemS (Rs rs) i=some (r.d,Rs rs):=by simp only[Rs,itemS,J,B,OD.dat];rw[bE B]
 simp only[bF,h,s];rw[set_self (join_some h)]
theorem q8:Rs (rs++[r])=.lst ((rs.map λr=>OD.fz r.d)++[.fz r.d]):=by grind
abbrev xL:=pl.pg.ct
theorem uv(h:TpOk b c m)(Y:m<=100000)(hl:rs.length<=1000)(m0:0<=many)(m1:many<=100):
  ∃Q p,((bo (.nm 4) (.fz (.int i)) [sn a b c,re many,re share,sw rs,o4,o5,o6,o7,o8,o9,o10]).bind λρ1=>aD (xL (n+2)) (match F_rows.body with|.cons _ (.cons _ (.cons _ (.cons (.fr _ _ b) _)))=>b|_=>.nil) ρ1)=some (Q,p)/\(Q=.nx\/Q=.ct)/\∃(r:R) (a' b' c':Int) (p4 p5 p6 p7 p8 p9 P:Option OD),p=[sn a' b' c',re many,re share,some (Rs (rs++[r])),p4,p5,p6,p7,p8,p9,P]/\(r.ok/\Jok many r)/\TpOk b' c' (m+8):=by
 obtain⟨x,a1,b1,c1,J,c0,d1,t1⟩:=bc (many:=10) h (up (k:=0) Y rfl) (by decide) (by decide);obtain⟨C,a2,b2,c2,B,e,d2,S⟩:=bc (many:=5) t1 (up Y rfl) (by decide) (by decide);by_cases hw:x<share
 ·obtain⟨g,T,A,X,e3,g0,O⟩:=AF S (up (k:=2) Y rfl);refine⟨.ct,_,bs rfl (ab (fu (aa (af rfl rfl J rfl) (aa (af rfl rfl B rfl) aj)) rfl rfl rfl) (Lm (ao (ar (aq rfl rfl rfl rfl (show some (decide (x<share))=some true by rw[Dac hw]))) (ab (bI rfl (bj (aa rfl (aa rfl (aa (af rfl rfl e3 rfl) aj))) rfl rfl rfl) rfl rfl (by rw[aae];omega) (by rw[q8];rfl)) rfl)))),.inr rfl,.st C g,T,A,X,re i,re x,re C,o7,o8,o9,o10,rfl,⟨⟨⟨e,by omega⟩,by omega,g0.2⟩,pv rfl⟩,O.up (MR (k:=6) rfl)⟩
 ·obtain⟨t,T,A,X,e3,b0,a9,O⟩:=bc (many:=9) S (up (k:=2) Y rfl) (by decide) (by decide);obtain⟨u,l,b4,c4,e4,o,d0,t4⟩:=bc (many:=5) O (up (k:=3) Y rfl) (by decide) (by decide);obtain⟨y,F,b5,c5,e5,U,a0,t5⟩:=bc (n:=n+1) (a:=l) (many:=many+1) t4 (up (k:=4) Y rfl) (by omega) (by omega);obtain⟨f,N,j,c6,e6,d4,c9,t6⟩:=bc (n:=n+1) (a:=F) (many:=7) t5 (up (k:=5) Y rfl) (by decide) (by decide);obtain⟨I,a7,b7,c7,e7,s,d3,t7⟩:=bc (n:=n+1) (a:=N) (many:=100) t6 (up (k:=6) Y rfl) (by decide) (by decide);obtain⟨x8,Z,b8,c8,e8,q,w,t8⟩:=bc (n:=n+1) (a:=a7) (many:=2) t7 (up (k:=7) Y rfl) (by decide) (by decide);obtain⟨L,W,e9⟩:=B7 (rs:=[AG y,IM]) q w;obtain⟨v,H⟩:∃v:Int,v=(if (if i+f-2<many then i+f-2 else many)>0 then (if i+f-2<many then i+f-2 else many) else 0):=⟨_,rfl⟩
  obtain⟨r,D,b9⟩:=B7 (rs:=[.st C I,pq C u,iV C u,eC C,AG v,kO C v,kO C y,eC C,L]) b0 a9;have hb:r.ok:=by
   have M:L.ok:=by
    rcases aaa.mp W with rfl|W
    ·exact Rkd.go _
    ·rw[aaw.mp W];exact Rkd.stop
   rcases aaa.mp D with rfl|D
   ·exact⟨⟨e,by omega⟩,s,by omega⟩
   rcases aaa.mp D with rfl|D;exact Rkd.sum _ _ ⟨⟨e,by omega⟩,o,by omega⟩;rcases aaa.mp D with rfl|D;exact Rkd.less _ _ ⟨⟨e,by omega⟩,o,by omega⟩;rcases aaa.mp D with rfl|D;exact Rkd.tell _ ⟨e,by omega⟩;rcases aaa.mp D with rfl|D;exact Rkd.go _;rcases aaa.mp D with rfl|D;exact Rkd.nil _ _ ⟨e,by omega⟩;rcases aaa.mp D with rfl|D;exact Rkd.nil _ _ ⟨e,by omega⟩;rcases aaa.mp D with rfl|D;exact Rkd.tell _ ⟨e,by omega⟩;rw[aaw.mp D];exact M
  have n0:0<=v:=by rw[H];split<;>omega
  have n1:v<=many:=by rw[H];split<;>(try split)<;>omega
  have hj:Jok many r:=by
   have M:Jok many L:=by
    rcases aaa.mp W with rfl|W
    ·exact IP U (Int.lt_add_one_iff.mp a0)
    ·rw[aaw.mp W];exact pv rfl
   rcases aaa.mp D with rfl|D;exact pv rfl;rcases aaa.mp D with rfl|D;exact pv rfl;rcases aaa.mp D with rfl|D;exact pv rfl;rcases aaa.mp D with rfl|D;exact pv rfl;rcases aaa.mp D with rfl|D;exact IP n0 n1;rcases aaa.mp D with rfl|D;exact B6 n0 n1;rcases aaa.mp D with rfl|D;exact B6 U (Int.lt_add_one_iff.mp a0);rcases aaa.mp D with rfl|D;exact pv rfl;rw[aaw.mp D];exact M
  refine⟨.nx,_,bs rfl (ab (fu (ρ3:=[sn a2 b2 c2,re many,re share,sw rs,re i,re x,re C,o7,o8,o9,o10]) (aa (af (ρ3:=[sn a1 b1 c1,re many,re share,sw rs,re i,o5,o6,o7,o8,o9,o10]) rfl rfl J rfl) (aa (af (ρ3:=[sn a2 b2 c2,re many,re share,sw rs,re i,o5,o6,o7,o8,o9,o10]) rfl rfl B rfl) aj)) rfl rfl rfl) (ab (s_ifF (ar (aq rfl rfl rfl rfl (show some (decide (x<share))=some false by rw[Dab hw]))) rfl) ?_)),.inl rfl,r,Z,b8,c8,re i,re t,re C,re u,re y,re v,some (Rs [.st C I,pq C u,iV C u,eC C,AG v,kO C v,kO C y,eC C,L]),rfl,⟨hb,hj⟩,t8⟩;refine ab (ae (ρ3:=[sn T A X,re many,re share,sw rs,re i,re t,re C,o7,o8,o9,o10]) (af (ρ3:=[sn T A X,re many,re share,sw rs,re i,re x,re C,o7,o8,o9,o10]) rfl rfl e3 rfl) rfl rfl rfl) ?_;refine ab (fu (ρ3:=[sn F b5 c5,re many,re share,sw rs,re i,re t,re C,re u,re y,o9,o10]) (aa (af (ρ3:=[sn l b4 c4,re many,re share,sw rs,re i,re t,re C,o7,o8,o9,o10]) rfl rfl e4 rfl) (aa (af (ρ3:=[sn F b5 c5,re many,re share,sw rs,re i,re t,re C,o7,o8,o9,o10]) rfl rfl e5 rfl) aj)) rfl rfl rfl) ?_;refine ab (ae (ρ3:=[sn N j c6,re many,re share,sw rs,re i,re t,re C,re u,re y,re v,o10]) (aJ (aa rfl (aa (aJ (aa rfl (aa (ah (ah rfl (af (ρ3:=[sn N j c6,re many,re share,sw rs,re i,re t,re C,re u,re y,o9,o10]) rfl rfl e6 rfl) rfl rfl rfl) rfl rfl rfl rfl) aj)) rfl rfl) aj)) rfl (show _=some (PyData.int v) by rw[H];rfl)) rfl rfl rfl) ?_;refine ab (ae (ρ3:=[sn a7 b7 c7,re many,re share,sw rs,re i,re t,re C,re u,re y,re v,some (Rs [.st C I,pq C u,iV C u,eC C,AG v])]) (bZ (zs:=[.fz (R.st C I).d,.fz (pq C u).d,.fz (iV C u).d,.fz (eC C).d,.fz (AG v).d]) (aa (bj (z:=.fz (R.st C I).d) (aa rfl (aa rfl (aa (af (ρ3:=[sn a7 b7 c7,re many,re share,sw rs,re i,re t,re C,re u,re y,re v,o10]) rfl rfl e7 rfl) aj))) rfl rfl rfl) (aa rfl (aa rfl (aa rfl (aa rfl aj))))) rfl rfl) rfl rfl rfl) ?_;refine ab (ae (ρ3:=[sn Z b8 c8,re many,re share,sw rs,re i,re t,re C,re u,re y,re v,some (Rs [.st C I,pq C u,iV C u,eC C,AG v,kO C v,kO C y,eC C,L])]) (qX rfl (bZ (aa rfl (aa rfl (aa rfl (aa (ax rfl (af (ρ3:=[sn Z b8 c8,re many,re share,sw rs,re i,re t,re C,re u,re y,re v,some (Rs [.st C I,pq C u,iV C u,eC C,AG v])]) rfl rfl e8 rfl) rfl (fv e9)) aj)))) rfl rfl) rfl rfl (show 9<=1000000 by decide)) rfl rfl rfl) ?_;exact ab (bI (ρ3:=[sn Z b8 c8,re many,re share,some (Rs (rs++[r])),re i,re t,re C,re u,re y,re v,some (Rs [.st C I,pq C u,iV C u,eC C,AG v,kO C v,kO C y,eC C,L])]) (xs:=rs.map λr=>.fz r.d) rfl (ax rfl rfl rfl (AH rfl b9)) rfl rfl (by rw[aae];omega) (by rw[q8];rfl)) rfl
theorem uw:∀d∈cX lo n,∃i,d=.int i:=λd W=>by obtain⟨i,_,rfl⟩:=aaH.mp W;simp
theorem ux(h:TpOk b c (m+3))(Y:m<=90000)(x:0<=many)(f:many<=60):∃(rs:List R) (o w M:Int) (o4 o5 o6 o7 o8 g N:Option OD),bS (λd p=>(bo (.nm 4) (.fz d) p).bind λρ1=>aD (xL (n+2)) (match F_rows.body with|.cons _ (.cons _ (.cons _ (.cons (.fr _ _ b) _)))=>b|_=>.nil) ρ1) (cX 0 many.toNat) [sn a b c,re many,re sh,some (Rs []),none,none,none,none,none,none,none]=some (.nx,[sn o w M,re many,re sh,sw rs,o4,o5,o6,o7,o8,g,N])/\rs.length<=60/\(Nb rs/\Jb rs.length rs)/\TpOk w M (m+500):=by
 have z:many.toNat<=60:=by omega
 have J:many<=100:=abL f (by decide);obtain⟨p,B,rs,U,H,q,o4,o5,o6,o7,o8,g,N,rfl,j,_,Z,S⟩:=ud (step:=λd p=>(bo (.nm 4) (.fz d) p).bind λρ1=>aD (xL (n+2)) (match F_rows.body with|.cons _ (.cons _ (.cons _ (.cons (.fr _ _ b) _)))=>b|_=>.nil) ρ1)
  (λds I=>∃(rs:List R) (a b c:Int) (o4 o5 o6 o7 o8 g N:Option OD),I=[sn a b c,re many,re sh,sw rs,o4,o5,o6,o7,o8,g,N]/\rs.length+ds.length=many.toNat/\(∀d∈ds,∃i,d=.int i)/\(Nb rs/\Jb many rs)/\TpOk b c (m+3+8*rs.length)) (λd ds I=>by
   rintro⟨rs,a,b,c,o4,o5,o6,o7,o8,g,N,rfl,j,W,Z,t⟩;obtain⟨i,rfl⟩:=W _ aag;have D:rs.length<=60:=aan (Nat.le.intro j) z;obtain⟨Q,p,e,y,r,o,w,M,C,l,T,O,A,X,P,rfl,s,F⟩:=uv t (aan (Nat.add_le_add (ach Y 3) (aci 8 D)) (by decide)) (aan D (by decide):rs.length<=1000) x J;have u:(rs++[r]).length=rs.length+1:=aak;exact⟨Q,_,e,y,rs++[r],o,w,M,C,l,T,O,A,X,P,rfl,by rw[u,Nat.add_right_comm];exact j,λd k=>W d (aaf _ k),⟨Z.1.snoc s.1,Z.2.snoc s.2⟩,F.up (by rw[u];exact aac _)⟩)
  (ds:=cX 0 many.toNat) ⟨[],a,b,c,none,none,none,none,none,none,none,rfl,by rw[lP,List.length_nil,aaP],uw,⟨(λr D=>absurd D aaq),(λr D=>absurd D aaq)⟩,h⟩
 have j:rs.length=many.toNat:=j;exact⟨rs,U,H,q,o4,o5,o6,o7,o8,g,N,B,j▸z,⟨Z.1,(show (rs.length:Int)=many by omega)▸Z.2⟩,S.up (aan (acj (aci 8 (j▸z)) (m+3)) (acj (show 3+8*60<=500 by decide) m))⟩
theorem Fi(h:TpOk b c m)(Y:m<=90000):∃(rs:List R) (o w M:Int),pl.pg.call (n+3) 44 [Tp a b c]=some (Rs rs,[Tp o w M])/\rs.length<=60/\(Nb rs/\Jb rs.length rs)/\TpOk w M (m+500):=by
 have p:∀(a b c many:Int),TpOk b c (m+2)->0<=many->many<=60->∃(rs:List R) (o w M:Int) (I:DEnv),aD (xL (n+2)) (match F_rows.body with|.cons _ ss=>ss|_=>.nil) [sn a b c,re many,none,none,none,none,none,none,none,none,none]=some (.rt (Rs rs),sn o w M::I)/\rs.length<=60/\(Nb rs/\Jb rs.length rs)/\TpOk w M (m+500):=by intro a b c many h m0 t;obtain⟨x,r,Q,P,J,i,u,v⟩:=bc (many:=3) h (up Y rfl) (by decide) (by decide);obtain⟨f,_,L⟩:=eR (ks:=[2,5,9]) i u;obtain⟨rs,U,H,q,l,z,y,D,F,g,N,B,j,Z,S⟩:=ux v Y m0 t;exact⟨rs,U,H,q,_,ab (ae (ax rfl (af rfl rfl J rfl) rfl (fv L)) rfl rfl rfl) (ab (ae rfl rfl rfl rfl) (ab (eB (gk rfl rfl (by omega)) B) (ak (ag rfl rfl)))),j,Z,S⟩
 obtain⟨x,r,Q,P,J,i,u,v⟩:=bc (many:=8) h (up (k:=0) Y rfl) (by decide) (by decide);by_cases W:x=0
 ·obtain⟨C,U,H,q,B,e,d,S⟩:=bc (many:=41) v (up Y rfl) (by decide) (by decide);obtain⟨rs,T,A,X,I,s,j,Z,O⟩:=p U H q (20+C) S (by omega) (by omega);exact⟨rs,T,A,X,ai rfl rfl (ab (ae (cH (ar (aq (af rfl rfl J rfl) rfl rfl rfl (show some (decide (x=0))=some true by rw[Dac W]))) (ah rfl (af rfl rfl B rfl) rfl rfl rfl)) rfl rfl rfl) s) rfl,j,Z,O⟩
 ·obtain⟨C,U,H,q,B,e,d,S⟩:=bc (many:=11) v (up Y rfl) (by decide) (by decide);obtain⟨rs,T,A,X,I,s,j,Z,O⟩:=p U H q C S (by omega) (by omega);exact⟨rs,T,A,X,ai rfl rfl (ab (ae (cb (ar (aq (af rfl rfl J rfl) rfl rfl rfl (show some (decide (x=0))=some false by rw[Dab W]))) (af rfl rfl B rfl)) rfl rfl rfl) s) rfl,j,Z,O⟩
def R.gr:R->Bool|.st _ k=>decide (99<k)|.ot _ _ _=>false
abbrev Rd(r:R):OD:=.fz r.d
abbrev sK(r:R):Option OD:=some (Rd r)
abbrev Rl(rs:List R):OD:=.fz (.list (rs.map R.d))
abbrev ut(rs:List R):Option OD:=some (Rl rs)
theorem aO{Y:Type}{x:Y}{xs:List Y}:atI (x::xs) 0=some x:=cf (k:=0) rfl
theorem AI{n:Nat}(r:R):pl.pg.call (n+1) 0 [Rd r]=some (.fz (.bool r.gr),[Rd r]):=by
 cases r with
 |st r k=>rfl
 |ot w Y h=>exact ai (fn:=iP) rfl rfl (ak (ag (ku (aq (ax rfl rfl rfl (aN aO)) rfl rfl rfl (show some (decide (w=ce))=some false by rw[Dab h.1]))) rfl)) rfl
theorem IQ{n:Nat}(r:R):pl.pg.call (n+1) 45 [Rd r]=some (.fz (.bool r.gr),[Rd r]):=by
 cases r with
 |st r k=>rfl
 |ot w Y h=>exact ai (fn:=fR) rfl rfl (ak (ag (ku (aq (ax rfl rfl rfl (aN aO)) rfl rfl rfl (show some (decide (w=ce))=some false by grind))) rfl)) rfl
def R.wd:R->Str|.st _ _=>ce |.ot w _ _=>w
def R.tl:R->List PyData|.st r k=>[.int r,.int k]|.ot _ xs _=>xs.map PyData.int
theorem dats_fz:∀ds:List PyData,OD.dd (ds.map OD.fz)=some ds
 |[]=>rfl
 |d::ds=>by rw[aal,OD.dd,dats_fz ds];rfl
theorem dat_fz(ds:List PyData):(OD.lst (ds.map OD.fz)).dat=some (.list ds):=by rw[OD.dat,dats_fz]
theorem frz_rf{ρ p:DEnv}{j:Nat}{x:OD}{d:PyData}(h:ρ[j]?.join=some x)(W:x.dat=some d)(D:ρ.set j (some (.fz d))=p):frz1 ρ (.rf j)=some (d,p):=by simp only[frz1,h,abR,W,Option.map_some,D]
theorem unca_nil{ρ C:DEnv}:dX ρ [] C=ρ:=by cases C with|nil=>rfl|cons o C=>cases o<;>rfl
theorem R.w4(r:R):r.d=.tuple (.str r.wd::r.tl):=by cases r<;>rfl
abbrev Il(gs:List Int):OD:=.lst (gs.map It)
theorem fb(gs:List Int):(gs.map PyData.int).map OD.fz=gs.map It:=by simp
theorem aA(gs:List Int):(Il gs).dat=some (.list (gs.map PyData.int)):=by rw[Il,<-fb,dat_fz]
theorem xE(rs:List R):(rs.map R.d).map OD.fz=rs.map λr=>OD.fz r.d:=by simp
theorem aW(h:ρ[j]?.join=some (Il gs))(O:atI (gs.map It) i=re g):bF ρ (.rf j) i=some (It g,ρ):=by
 obtain⟨k,J,B⟩:=bnd O;have s:itemS (Il gs) i=some (.int g,Il gs):=by simp only[Il,itemS,J,B,OD.dat];rw[bE B]
 simp only[bF,h,s];rw[set_self (join_some h)]
structure Cf where
 rows:List R
 longs:List Int
 r0:Int
 r1:Int
structure G where
 pl:Int
 gaps:List Int
 words:List (List Int)
 bg:Int
 us:List (Int×Int)
 wt:List (Int×Int)
noncomputable abbrev Lo(f:Cf):OD:=.fz (.list (f.longs.map PyData.int))
abbrev wr(f:Cf):Option OD:=some (Lo f)
abbrev Re(f:Cf):OD:=.fz (.tuple [.int f.r0,.int f.r1])
noncomputable abbrev Wq(q:Int×Int):PyData:=.tuple [.int q.1,.int q.2]
abbrev Wl(wt:List (Int×Int)):OD:=.lst ((wt.map Wq).map OD.fz)
abbrev gN:List Str:=[bm,ci,hF,bn,na,kt,eO,lc,lf]
abbrev gD(us:List (Int×Int)):OD:=.dic (us.map λu=>.inl u.1) (us.map λu=>It u.2)
abbrev gO(f:Cf)(pl:Int)(gaps:OD)(words:OD)(bg:Int)(us:OD)(wt:OD):OD:=.obj ac gN [Rl f.rows,Lo f,Re f,It pl,gaps,words,It bg,us,wt]
abbrev GO(f:Cf)(g:G):OD:=gO f g.pl (Il g.gaps) (.lst (g.words.map Il)) g.bg (gD g.us) (Wl g.wt)
section
variable{f:Cf}{p b:Int}{x4 x5 x7 x8:OD}{ρ:DEnv}
theorem eD:aw (some (gO f p x4 x5 b x7 x8)::ρ) 0 [.fld ac bm]=some ((gO f p x4 x5 b x7 x8),[0],Rl f.rows):=rfl
theorem q9:aw (some (gO f p x4 x5 b x7 x8)::ρ) 0 [.fld ac ci]=some ((gO f p x4 x5 b x7 x8),[1],Lo f):=rfl
theorem kP:aw (some (gO f p x4 x5 b x7 x8)::ρ) 0 [.fld ac hF]=some ((gO f p x4 x5 b x7 x8),[2],Re f):=rfl
theorem dA:aw (some (gO f p x4 x5 b x7 x8)::ρ) 0 [.fld ac bn]=some ((gO f p x4 x5 b x7 x8),[3],It p):=rfl
theorem kQ:aw (some (gO f p x4 x5 b x7 x8)::ρ) 0 [.fld ac na]=some ((gO f p x4 x5 b x7 x8),[4],x4):=rfl
theorem dB:aw (some (gO f p x4 x5 b x7 x8)::ρ) 0 [.fld ac kt]=some ((gO f p x4 x5 b x7 x8),[5],x5):=rfl
theorem kR:aw (some (gO f p x4 x5 b x7 x8)::ρ) 0 [.fld ac eO]=some ((gO f p x4 x5 b x7 x8),[6],It b):=rfl
theorem xF:aw (some (gO f p x4 x5 b x7 x8)::ρ) 0 [.fld ac lc]=some ((gO f p x4 x5 b x7 x8),[7],x7):=rfl
theorem cS:aw (some (gO f p x4 x5 b x7 x8)::ρ) 0 [.fld ac lf]=some ((gO f p x4 x5 b x7 x8),[8],x8):=rfl
theorem f_place:bt bn (It q) gN [Rl f.rows,Lo f,Re f,It p,x4,x5,It b,x7,x8]=(gN,[Rl f.rows,Lo f,Re f,It q,x4,x5,It b,x7,x8]):=rfl
theorem AJ:bt eO (It q) gN [Rl f.rows,Lo f,Re f,It p,x4,x5,It b,x7,x8]=(gN,[Rl f.rows,Lo f,Re f,It p,x4,x5,It q,x7,x8]):=rfl
end
theorem Fj:pl.pg.call (n+1) 17 [.obj ac [] [],Rl f.rows,Lo f,Re f]=some (.fz .none,[GO f ⟨0,[],[],0,[],[]⟩,Rl f.rows,Lo f,Re f]):=bz rfl rfl (ab (cx rfl rfl rfl rfl rfl rfl) (ab (cx rfl rfl rfl rfl rfl rfl) (ab (cx rfl rfl rfl rfl rfl rfl) (ab (cx rfl rfl rfl rfl rfl rfl) (ab (cx rfl rfl rfl rfl rfl rfl) (ab (cx rfl rfl rfl rfl rfl rfl) (ab (cx rfl rfl rfl rfl rfl rfl) (ab (cx rfl rfl rfl rfl rfl rfl) (ab (cx rfl rfl rfl rfl rfl rfl) rfl))))))))) rfl
def R.zb(r:R):Bool:=!decide (r.wd=am)&&!decide (r.wd=bv)
def pw(rs:List R):Nat->Bool
 |0=>true
 |k+1=>(rs[k]?).elim true R.zb
def fw(rs:List R)(k:Nat)(p:Int):Int:=let q:=if pw rs k=true then p+2 else p;q+2-q%2
def sz(f:Cf)(k:Nat):Int:=if (f.rows[k]?).elim false R.gr=true\/(k:Int)∈f.longs then 2 else 1
theorem AK(r:R):pl.pg.call (n+1) 4 [Rd r]=some (.fz (.bool r.zb),[Rd r]):=by
 unfold R.zb;have O:∀x:Str,ev (xL n) (.cmp .ne eer (.str x)) [sK r]=some (.val (.fz (.bool (!decide (r.wd=x)))),[sK r]):=λx=>aq (ax rfl rfl rfl (by rw[R.w4];exact aN aO)) rfl rfl rfl rfl;cases S:(!decide (r.wd=am)) with
 |false=>exact ai rfl rfl (ak (ag (ku (by rw[<-S];exact O am)) rfl)) rfl
 |true=>rw[abY];exact ai rfl rfl (ak (ag (iN (by rw[<-S];exact O am) (O bv)) rfl)) rfl
theorem dH{rs:List R}{k:Nat}(h:rs[k]?=some r):atI (rs.map R.d) (k:Int)=some r.d:=cf (by rw[aaz,h];rfl)
theorem mU:∀{ls:List Int},memD (.int x) (ls.map PyData.int)=some (decide (x∈ls))
 |[]=>by rfl
 |y::ls=>by
  rw[aal,memD,mU (ls:=ls)];show some (decide (y=x)||decide (x∈ls))=_
  grind
theorem inL{ls:List Int}:oz .inn (.int x) (.list (ls.map PyData.int))=some (decide (x∈ls)):=bs (f:=λD=>(gd (Gb (PyData.int x)=true)).bind λ_=>memD (.int x) D) rfl (bg rfl mU)
theorem ninL{ls:List Int}:oz .nin (.int x) (.list (ls.map PyData.int))=some (!decide (x∈ls)):=bs (inL ) rfl
theorem pD{k:Nat}(h:f.rows[k]?=some r):pl.pg.call (n+2) 13 [Rl f.rows,Lo f,It k]=some (It (sz f k),[Rl f.rows,Lo f,It k]):=by
 unfold sz;rw[h];have U:=af (C:=xL (n+1)) (f:=0) (es:=.cons Lp .nil) (ρ:=[ut f.rows,wr f,re k]) (aa (ax rfl rfl rfl (aR (dH h))) aj) rfl (AI r) rfl;cases N:r.gr with
 |true=>rw[N]at U;rw[if_pos (.inl N)];exact ai rfl rfl (ak (ag (cH (gC (bx U)) rfl) rfl)) rfl
 |false=>
  rw[N]at U;have j:aL (xL (n+1)) eeb [ut f.rows,wr f,re k]=some (decide ((k:Int)∈f.longs),[ut f.rows,wr f,re k]):=ar (aq rfl rfl rfl rfl inL);cases S:decide ((k:Int)∈f.longs) with
  |true=>rw[S]at j;rw[if_pos (.inr (Daa S))];exact ai rfl rfl (ak (ag (cH (bq (bx U) j) rfl) rfl)) rfl
  |false=>rw[S]at j;rw[if_neg λz=>z.elim (λz=>absurd (N.symm.trans z) aar) λz=>Dad S z];exact ai rfl rfl (ak (ag (cb (bq (bx U) j) rfl) rfl)) rfl
theorem xG{k:Nat}(h:k<=rs.length):pl.pg.call (n+2) 14 [Rl rs,It k]=some (.fz (.bool (pw rs k)),[Rl rs,It k]):=by
 cases k with
 |zero=>rfl
 |succ k=>
  have S:=AK (n:=n) rs[k];have J:pw rs (k+1)=(rs[k]).zb:=by show (rs[k]?).elim true R.zb=_;grind
  rw[J];have X:((k+1:Nat):Int)-1=(k:Int):=by lia
  exact ai rfl rfl (ak (ag (mB (aq rfl rfl rfl rfl (show some (decide (((k+1:Nat):Int)=0))=some false by rfl)) (af (aa (ax rfl rfl rfl (aR (by rw[X];exact dH (aam (by lia))))) aj) rfl S rfl)) rfl)) rfl
theorem gM{rs:List R}{k:Nat}(h:k<=rs.length):pl.pg.call (n+3) 15 [Rl rs,It k,It p]=some (It (fw rs k p),[Rl rs,It k,It p]):=by
 unfold fw;have S:=xG (n:=n) h;have U:=af (C:=xL (n+2)) (f:=14) (es:=.cons (.nm 0) ee2) (ρ:=[ut rs,re k,re p]) rfl rfl S rfl;cases o:pw rs k with
 |true=>rw[o]at U;exact ai rfl rfl (ab (ao (bx U) (ab rfl rfl)) (ak (ag (ah rfl (ah rfl rfl rfl rfl (br (by decide))) rfl rfl rfl) rfl))) rfl
 |false=>rw[o]at U;exact ai rfl rfl (ab (s_ifF (bx U) rfl) (ak (ag (ah rfl (ah rfl rfl rfl rfl (br (by decide))) rfl rfl rfl) rfl))) rfl
theorem pF(wt:List (Int×Int)):(Wl wt).dat=some (.list (wt.map Wq)):=dat_fz _
theorem tru_l{Y:Type}{f:Y->PyData}{l:List Y}:lZ (.list (l.map f))=some (!l.isEmpty):=by show some (!(l.map f).isEmpty)=_;simp
theorem xH{Y:Type}{f:Y->PyData}{l:List Y}:jf (.list (l.map f))=some l.length:=by show some (l.map f).length=_;simp
theorem blen{Y:Type}{f:Y->PyData}{l:List Y}:zL .len [.list (l.map f)]=some (.int l.length):=by show (eX [PyData.list (l.map f)]).bind (λd=>(jf d).bind λn=>some (PyData.int n))=_;exact bs rfl (bs xH rfl)
def due(f:Cf)(g:G)(k:Nat):Bool:=g.wt.head?.elim false λq=>decide ((k:Int)=f.rows.length)||decide (fw f.rows (k+1) (g.pl+sz f k)-q.2>f.r1)
theorem IR{k:Nat}(F:k<=f.rows.length):pl.pg.call (n+4) 18 [GO f g,It k]=some (.fz (.bool (due f g k)),[GO f g,It k]):=by
 unfold due;have X:aL (xL (n+3)) eda [some (GO f g),re k,none,none,none]=some (!(!g.wt.isEmpty),[some (GO f g),re k,none,none,none]):=cZ (jF cS (pF _) tru_l);cases Q:g.wt with
 |nil=>rw[Q]at X;exact ai rfl rfl (ak (ao X (ak rfl))) rfl
 |cons q s=>
  rw[Q]at X;have S:ev (xL (n+3)) ebw [some (GO f g),re k,none,none,none]=some (.val (It f.rows.length),[some (GO f g),re k,none,none,none]):=aJ (aa (bW eD rfl) aj) rfl blen;by_cases a:(k:Int)=f.rows.length
  ·show _=some (OD.fz (PyData.bool (decide ((k:Int)=f.rows.length)||decide (fw f.rows (k+1) (g.pl+sz f k)-q.2>f.r1))),_);rw[Dac a,Bool.true_or];exact ai rfl rfl (ab (s_ifF X rfl) (ak (ao (ar (aq rfl S rfl rfl (show some (decide ((k:Int)=f.rows.length))=some true by grind))) (ak rfl)))) rfl
  ·have w:k<f.rows.length:=by lia
   have W:=pD (n:=n+1) (aam w);have o:=gM (n:=n) (p:=g.pl+sz f k) w;show _=some (OD.fz (PyData.bool (decide ((k:Int)=f.rows.length)||decide (fw f.rows (k+1) (g.pl+sz f k)-q.2>f.r1))),_);rw[Dab a,abg];have m:aw [some (GO f g),re k,re (g.pl+sz f k),none,none] 0 [.ix 0,.fld ac lf]=some (GO f g,[8,0],.fz (Wq q)):=bs cS (bs (bs rfl (by rw[Q];exact ky (by simp))) (bs (by show (List.map OD.fz (g.wt.map Wq))[0]?=_;grind) rfl));exact ai rfl rfl (ab (s_ifF X rfl) (ab (s_ifF (ar (aq rfl S rfl rfl (show some (decide ((k:Int)=f.rows.length))=some false by grind))) rfl) (ab (ae (ah (bW dA rfl) (af (aa (bW eD rfl) (aa (bW q9 rfl) (aa rfl aj))) rfl W rfl) rfl rfl rfl) rfl rfl rfl) (ab (bs (bW m rfl) (bs rfl (bs rfl rfl))) (ak (ag (aq (ah (af (aa (bW eD rfl) (aa rfl (aa rfl aj))) rfl o rfl) rfl rfl rfl rfl) (ax (bW kP rfl) rfl rfl rfl) rfl rfl rfl) rfl)))))) rfl
def nu(f:Cf)(A:Int):Int:=((f.rows[A.toNat]?).map R.num).getD 0
def Gt(f:Cf)(A:Int):Prop:=∃(i:Nat) (r k:Int),A=i/\f.rows[i]?=some (.st r k)
theorem IS{f:Cf}{i:Nat}{r k:Int}(h:f.rows[i]?=some (.st r k)):nu f i=k:=by unfold nu;rw[aaM,h];rfl
def eE(ns:List Int)(x:Int):List Int:=if x∈ns then ns else ns++[x]
theorem cK{ns:List Int}{x:Int}:Il (ns++[x])=.lst (ns.map It++[It x]):=by grind
abbrev wF(wt:List (Int×Int)):OD:=.fz (.list (wt.map Wq))
theorem putK_new{us:List (Int×Int)}{a v:Int}(h:a ∉ us.map (·.1)):putKey (.inl a) (.int v) (us.map λu=>.inl u.1) (us.map λu=>It u.2)=((us++[(a,v)]).map λu=>.inl u.1,(us++[(a,v)]).map λu=>It u.2):=by
 have l:¬ ((us.map λu=>(Sum.inl u.1:Key)).any λq=>decide (q=.inl a))=true:=by
  grind
 unfold putKey
 grind
theorem xI{C:Ct}{f:Cf}{p b:Int}{u x5 I x8:OD}{ρ:DEnv}{j:Nat}{a:Int}(W:(some (gO f p u x5 b I x8)::ρ)[j]?.join=re a)(h:Gt f a):ev C (.ix (.ix (.pg 0 [.fld ac bm]) (.nm j)) (.int 2)) (some (gO f p u x5 b I x8)::ρ)=some (.val (It (nu f a)),some (gO f p u x5 b I x8)::ρ):=by obtain⟨i,r,k,rfl,h⟩:=h;rw[IS h];refine ax (ax (y:=.val (It i)) (n:=i) (bW eD rfl) ?_ rfl (aR (dH h))) rfl rfl rfl;rw[BN,W]
theorem mV{n:Nat}{f:Cf}{p bg:Int}{gaps:List Int}{x5:OD}{gap:OD}{wtF:OD}(N:gaps.length<1000000):∀(wt:List (Int×Int)) (us:List (Int×Int)) (ns:List Int) (o3 o4:Option OD),(∀q∈wt,Gt f q.1)->(us.map (·.1)++wt.map (·.1)).Nodup->us.length+wt.length<1000->ns.length+wt.length<1000 ->
  ∃O o,bS (λd M=>(bo (.tp [3,4]) (.fz d) M).bind λρ1=>aD (xL n) (match F_Going_lay.body with|.cons _ (.cons (.fr _ _ b) _)=>b|_=>.nil) ρ1) (wt.map Wq) [some (gO f p (Il gaps) x5 bg (gD us) wtF),some gap,some (Il ns),o3,o4]=some (.nx,[some (gO f p (Il gaps) x5 bg (gD (us++wt.map λq=>(q.1,(gaps.length:Int)))) wtF),some gap,some (Il (wt.foldl (λns q=>eE ns (nu f q.1)) ns)),O,o])
 |[],us,ns,o3,o4,_,_,_,_=>⟨o3,o4,by simp only[aay,aap];rfl⟩
 |q::wt,us,ns,o3,o4,hG,nd,hl,hn=>by
  rw[aaD]at hl hn;have A:=hG q aag;have H:=λY=>(aau.mp nd).2.2 q.1 Y q.1 (by simp) rfl;obtain⟨O,o,e⟩:=mV (n:=n) (f:=f) (p:=p) (bg:=bg) (x5:=x5) (gap:=gap) (wtF:=wtF) N wt (us++[(q.1,(gaps.length:Int))]) (eE ns (nu f q.1)) (re q.1) (re q.2) (λz m=>hG z (aaf _ m)) (by grind) (by grind) (by unfold eE;grind);refine⟨O,o,bs (x:=(.nx,[some (gO f p (Il gaps) x5 bg (gD (us++[(q.1,(gaps.length:Int))])) wtF),some gap,some (Il (eE ns (nu f q.1))),re q.1,re q.2])) (bs (x:=[some (gO f p (Il gaps) x5 bg (gD us) wtF),some gap,some (Il ns),re q.1,re q.2]) rfl ?_) ?_⟩
  ·refine ab (xx (ρ3:=[some (gO f p (Il gaps) x5 bg (gD (us++[(q.1,(gaps.length:Int))])) wtF),some gap,some (Il ns),re q.1,re q.2]) (IH kQ (aA _) xH) rfl xF rfl rfl rfl (by grind) (putK_new H) rfl) ?_;have U:aL (xL n) ea7 [some (gO f p (Il gaps) x5 bg (gD (us++[(q.1,(gaps.length:Int))])) wtF),some gap,some (Il ns),re q.1,re q.2]=some (!decide (nu f q.1∈ns),[some (gO f p (Il gaps) x5 bg (gD (us++[(q.1,(gaps.length:Int))])) wtF),some gap,some (Il ns),re q.1,re q.2]):=ar (aq (xI rfl A) rfl rfl (aA _) ninL);by_cases Y:nu f q.1∈ns
   ·rw[Dac Y]at U;unfold eE;rw[if_pos Y];exact ab (s_ifF U rfl) rfl
   ·rw[Dab Y]at U;unfold eE;rw[if_neg Y];exact ab (ao U (ab (bI (xs:=ns.map It) rfl (xI rfl A) rfl rfl (by grind) (by grind)) rfl)) rfl
  ·grind
theorem cz{Y C:Type}{f:Y->C}{l:List Y}{x:Y}:(l++[x]).map f=l.map f++[f x]:=by simp
theorem AL{l:List OD}{x:OD}:(OD.lst (l++[x])).at [l.length]=some x:=by
 have e:(OD.lst (l++[x])).kids[l.length]?=some x:=by show (l++[x])[l.length]?=some x;simp
 simp only[OD.at,e]
theorem mW{l:List OD}{x y:OD}:OD.put y [l.length] (.lst (l++[x]))=.lst (l++[y]):=by
 have e:(OD.lst (l++[x])).kids[l.length]?=some x:=by show (l++[x])[l.length]?=some x;simp
 simp only[OD.put,e,OD.dw];simp
def AM(f:Cf)(g:G)(k:Nat):G:=
 ⟨fw f.rows k g.pl+2*(g.wt.foldl (λi q=>eE i (nu f q.1)) []).length,g.gaps++[(k:Int)],g.words++[g.wt.foldl (λi q=>eE i (nu f q.1)) []],fw f.rows k g.pl,g.us++g.wt.map λq=>(q.1,(g.gaps.length:Int)),[]⟩
theorem IT{n:Nat}{f:Cf}{g:G}{k:Nat}(F:k<=f.rows.length)(C:∀q∈g.wt,Gt f q.1)(Q:(g.us.map (·.1)++g.wt.map (·.1)).Nodup)(j:g.us.length+g.wt.length<1000)(N:g.gaps.length<1000)(c:g.words.length<1000):
  pl.pg.call (n+4) 19 [GO f g,It k]=some (.fz .none,[GO f (AM f g k),It k]):=by
 unfold AM;obtain⟨L,l,e⟩:=mV (n:=n+3) (f:=f) (p:=g.pl) (bg:=g.bg) (gaps:=g.gaps) (x5:=.lst (g.words.map Il)) (gap:=It k) (wtF:=wF g.wt) (by omega) g.wt g.us [] none none C Q (by omega) (by grind);generalize hns:g.wt.foldl (λi q=>eE i (nu f q.1)) []=i at e ⊢;generalize hus:(g.us++g.wt.map λq=>(q.1,(g.gaps.length:Int)))=us at e ⊢;have o:=gM (n:=n) (rs:=f.rows) (k:=k) (p:=g.pl) F;generalize fw f.rows k g.pl=v at o ⊢;refine bz (fn:=F_Going_lay) (ρ:=[some (GO f ⟨v+2*i.length,g.gaps++[(k:Int)],g.words++[i],v,us,[]⟩),re k,none,L,l]) rfl rfl ?_ rfl;refine ab (ae (ρ3:=[some (GO f g),re k,some (Il []),none,none]) rfl rfl rfl rfl) ?_;refine ab (eB (cy (ds:=g.wt.map Wq) (ρ2:=[some (gO f g.pl (Il g.gaps) (.lst (g.words.map Il)) g.bg (gD g.us) (wF g.wt)),re k,some (Il []),none,none]) (EY cS (pF _) rfl) rfl rfl) e) ?_;refine ab (oO (ρ1:=[some (gO f g.pl (Il (g.gaps++[(k:Int)])) (.lst (g.words.map Il)) g.bg (gD us) (wF g.wt)),re k,some (Il i),L,l]) (d:=.int k) kQ rfl rfl (by grind) (by rw[cK];rfl)) ?_;refine bs dB (tS (xs:=g.words.map Il) (y:=Il i) rfl (by grind) (by decide) rfl λu=>⟨[some (gO f (v+2*i.length) (Il (g.gaps++[(k:Int)])) (.lst (g.words.map Il++[.hole u])) v (gD us) (.lst [])),re k,some (Il i),L,l],?_,?_⟩)
 ·refine ab (cx (ρ3:=[some (gO f g.pl (Il (g.gaps++[(k:Int)])) (.lst (g.words.map Il++[.hole u])) v (gD us) (wF g.wt)),re k,some (Il i),L,l]) (af (ρ3:=[some (gO f g.pl (Il (g.gaps++[(k:Int)])) (.lst (g.words.map Il++[.hole u])) g.bg (gD us) (wF g.wt)),re k,some (Il i),L,l]) (aa (bW eD rfl) (aa rfl (aa (bW dA rfl) aj))) rfl o rfl) rfl rfl rfl AJ rfl) ?_;refine ab (cx (z:=It (v+2*i.length)) (ρ3:=[some (gO f (v+2*i.length) (Il (g.gaps++[(k:Int)])) (.lst (g.words.map Il++[.hole u])) v (gD us) (wF g.wt)),re k,some (Il i),L,l]) (ah (bW kR rfl) (ah (dx:=.int 2) (dy:=.int i.length) rfl (aJ rfl (jC (aA _)) blen) rfl rfl (cJ (.inl (by decide)))) rfl rfl rfl) rfl rfl rfl f_place rfl) ?_;rfl
 ·refine⟨_,Il i,rfl,?_,rfl,by decide,?_⟩
  ·exact AL
  ·show _=[some (gO f (v+2*i.length) (Il (g.gaps++[(k:Int)])) (OD.put (Il i) [(g.words.map Il).length] (.lst (g.words.map Il++[.hole u]))) v (gD us) (.lst [])),re k,none,L,l];rw[mW,<-cz];rfl
theorem xJ:ixN (n+1) (-1)=some n:=by
 unfold ixN
 grind
theorem pG:aw (some (gO f p x4 (.lst (l++[y])) b x7 x8)::ρ) 0 [.ix (-1),.fld ac kt]=some (gO f p x4 (.lst (l++[y])) b x7 x8,[5,l.length],y):=
 bs dB (bs (by show ixN (l++[y]).length (-1)=_;rw[aak];exact xJ) (bs (by show (l++[y])[l.length]?=_;simp) rfl))
theorem rg:∀ws:List (List Int),OD.dd (ws.map Il)=some (ws.map λw=>.list (w.map PyData.int))
 |[]=>rfl
 |w::ws=>by rw[aal,OD.dd,aA,rg ws];rfl
theorem iW(ws:List (List Int)):(OD.lst (ws.map Il)).dat=some (.list (ws.map λw=>.list (w.map PyData.int))):=by rw[OD.dat,rg]
theorem xK(h:g.words=[]):pl.pg.call (n+1) 20 [GO f g,It x]=some (.fz (.bool false),[GO f g,It x]):=by have X:aL (xL n) edb [some (GO f g),re x]=some (!(!g.words.isEmpty),[some (GO f g),re x]):=cZ (jF dB (iW _) tru_l);rw[h]at X;exact ai rfl rfl (ak (ao (gC X) (ak rfl))) rfl
theorem rh(h:g.words=ws++[w]):pl.pg.call (n+1) 20 [GO f g,It x]=some (.fz (.bool (decide (x∈w/\g.pl-g.bg<=f.r0))),[GO f g,It x]):=by
 have X:aL (xL n) edb [some (GO f g),re x]=some (!(!g.words.isEmpty),[some (GO f g),re x]):=cZ (jF dB (iW _) tru_l);have C:(!(!g.words.isEmpty))=false:=by rw[h];cases ws<;>rfl
 rw[C]at X;have m:aL (xL n) ebz [some (GO f g),re x]=some (!decide (x∈w),[some (GO f g),re x]):=by rw[GO,h,cz];exact xw rfl rfl pG (aA w) ninL
 by_cases Y:x∈w
 ·rw[Dac Y]at m;have e:decide (x∈w/\g.pl-g.bg<=f.r0)=decide (g.pl-g.bg<=f.r0):=by rw[decide_eq_decide];exact⟨λz=>z.2,λz=>⟨Y,z⟩⟩
  rw[e];exact ai rfl rfl (ab (s_ifF (bq X m) rfl) (ak (ag (aq (ah (bW dA rfl) (bW kR rfl) rfl rfl rfl) (ax (bW kP rfl) rfl rfl rfl) rfl rfl rfl) rfl))) rfl
 ·rw[Dab Y]at m;rw[Dab (λz=>Y z.1)];exact ai rfl rfl (ak (ao (bq X m) (ak rfl))) rfl
theorem Fk(h:g.words=[]):pl.pg.call (n+1) 21 [GO f g,It x]=some (.fz (.bool false),[GO f g,It x]):=by have X:aL (xL n) edb [some (GO f g),re x]=some (!(!g.words.isEmpty),[some (GO f g),re x]):=cZ (jF dB (iW _) tru_l);rw[h]at X;exact ai rfl rfl (ak (ao (gC X) (ak rfl))) rfl
theorem B8(h:g.words=ws++[w]):pl.pg.call (n+1) 21 [GO f g,It x]=some (.fz (.bool (decide (g.wt=[]/\x ∉ w/\g.pl+2-g.bg<=f.r0))),[GO f g,It x]):=by
 have X:aL (xL n) edb [some (GO f g),re x]=some (!(!g.words.isEmpty),[some (GO f g),re x]):=cZ (jF dB (iW _) tru_l);have C:(!(!g.words.isEmpty))=false:=by rw[h];cases ws<;>rfl
 rw[C]at X;have Q:aL (xL n) (.pt 0 [.fld ac lf]) [some (GO f g),re x]=some (!g.wt.isEmpty,[some (GO f g),re x]):=jF cS (pF _) tru_l;have m:aL (xL n) ebx [some (GO f g),re x]=some (decide (x∈w),[some (GO f g),re x]):=by rw[GO,h,cz];exact xw rfl rfl pG (aA w) inL
 cases T:g.wt with
 |cons q s=>rw[T]at Q;rw[Dab (λz=>List.cons_ne_nil _ _ z.1)];exact ai rfl rfl (ak (ao (bq X (gC Q)) (ak rfl))) rfl
 |nil=>
  rw[T]at Q;by_cases Y:x∈w
  ·rw[Dac Y]at m;rw[Dab (λz=>z.2.1 Y)];exact ai rfl rfl (ak (ao (bq X (bq Q m)) (ak rfl))) rfl
  ·rw[Dab Y]at m;have e:decide (([]:List (Int×Int))=[]/\x ∉ w/\g.pl+2-g.bg<=f.r0)=decide (g.pl+2-g.bg<=f.r0):=by rw[decide_eq_decide];exact⟨λz=>z.2.2,λz=>⟨rfl,Y,z⟩⟩
   rw[e];exact ai rfl rfl (ab (s_ifF (bq X (bq Q m)) rfl) (ak (ag (aq (ah (ah (bW dA rfl) rfl rfl rfl rfl) (bW kR rfl) rfl rfl rfl) (ax (bW kP rfl) rfl rfl rfl) rfl rfl rfl) rfl))) rfl
theorem xM(h:pl.pg.call (n+1) 21 [GO f g,It x]=some (.fz (.bool k),[GO f g,It x])):aL (xL (n+1)) eb7 [some (GO f g),some o,re x]=some (k,[some (GO f g),some o,re x]):=oN (ft rfl (by decide) rfl rfl h rfl)
theorem xN(h:pl.pg.call (n+1) 20 [GO f g,It x]=some (.fz (.bool k),[GO f g,It x])):aL (xL (n+1)) ecf [some (GO f g),some o,re x]=some (k,[some (GO f g),some o,re x]):=oN (ft rfl (by decide) rfl rfl h rfl)
inductive Come (f:Cf)(g:G)(a:Int):G->Prop
 |put {ws:List (List Int)}{w:List Int} (h:g.words=ws++[w]) (hw:g.wt=[]) (hn:nu f a ∉ w) (hr:g.pl+2-g.bg<=f.r0):Come f g a ⟨g.pl+2,g.gaps,ws++[w++[nu f a]],g.bg,g.us++[(a,(g.gaps.length:Int)-1)],g.wt⟩
 |got {ws:List (List Int)}{w:List Int} (h:g.words=ws++[w]) (hn:nu f a∈w) (hr:g.pl-g.bg<=f.r0):Come f g a ⟨g.pl,g.gaps,g.words,g.bg,g.us++[(a,(g.gaps.length:Int)-1)],g.wt⟩
 |wait (h1:∀ws w,g.words=ws++[w]->¬ (g.wt=[]/\nu f a ∉ w/\g.pl+2-g.bg<=f.r0)) (h2:∀ws w,g.words=ws++[w]->¬ (nu f a∈w/\g.pl-g.bg<=f.r0)):Come f g a ⟨g.pl,g.gaps,g.words,g.bg,g.us,g.wt++[(a,g.pl)]⟩
theorem mX(fresh:a ∉ g.us.map (·.1))(j:g.us.length<1000):aD (xL (n+1)) eaz [some (GO f g),re a,re x]=some (.nx,[some (GO f ⟨g.pl,g.gaps,g.words,g.bg,g.us++[(a,(g.gaps.length:Int)-1)],g.wt⟩),re a,re x]):=
 ab (xx (ah (IH kQ (aA _) xH) rfl rfl rfl rfl) rfl xF rfl rfl rfl (by grind) (putK_new fresh) rfl) rfl
theorem AN:Wl (wt++[q])=.lst ((wt.map Wq).map OD.fz++[.fz (Wq q)]):=by rw[Wl,cz,cz]
theorem jG(j:g.wt.length<1000):aD (xL (n+1)) eas [some (GO f g),re a,re x]=some (.nx,[some (GO f ⟨g.pl,g.gaps,g.words,g.bg,g.us,g.wt++[(a,g.pl)]⟩),re a,re x]):=
 ab (oO cS (bs (bs rfl (bs (bs (bs dA rfl) rfl) rfl)) rfl) rfl (by grind) (by show _=[some (gO f g.pl (Il g.gaps) (.lst (g.words.map Il)) g.bg (gD g.us) (Wl (g.wt++[(a,g.pl)]))),re a,re x];rw[AN];rfl)) rfl
theorem Fm(C:Gt f a)(fresh:a ∉ g.us.map (·.1))(j:g.us.length<1000)(Q:g.wt.length<1000)(s:∀w∈g.words,w.length<1000):∃g',pl.pg.call (n+2) 22 [GO f g,It a]=some (.fz .none,[GO f g',It a])/\Come f g a g':=by
 have W:bG (xL (n+1)) ebh [some (GO f g),re a,none]=some (.nx,[some (GO f g),re a,re (nu f a)]):=ae (xI rfl C) rfl rfl rfl;rcases ack g.words with h|⟨l,w,h⟩
 ·exact⟨_,bz rfl rfl (ab W (ab (s_ifF (xM (Fk h)) rfl) (ab (s_ifF (xN (xK h)) (jG Q)) rfl))) rfl,.wait (λl w z=>absurd (h.symm.trans z) (by simp)) λl w z=>absurd (h.symm.trans z) (by simp)⟩
 ·rw[List.concat_eq_append]at h;by_cases m:g.wt=[]/\nu f a ∉ w/\g.pl+2-g.bg<=f.r0
  ·have J:=xM (o:=It a) (B8 (n:=n) (f:=f) (x:=nu f a) h);rw[Dac m]at J;have S:aD (xL (n+1)) eaw [some (GO f g),re a,re (nu f a)]=some (.nx,[some (GO f ⟨g.pl+2,g.gaps,l++[w++[nu f a]],g.bg,g.us,g.wt⟩),re a,re (nu f a)]):=by
    have H:w.length<1000:=s w (by rw[h];exact aad _ aag);rw[GO,h,cz];refine ab (oO (ρ1:=[some (gO f g.pl (Il g.gaps) (.lst (l.map Il++[Il (w++[nu f a])])) g.bg (gD g.us) (Wl g.wt)),re a,re (nu f a)]) pG rfl rfl (by rw[aae];lia) ?_) (ab (xy dA rfl rfl rfl rfl rfl rfl f_place ?_) rfl)
    ·show [some (gO f g.pl (Il g.gaps) (OD.put (.lst (w.map It++[It (nu f a)])) [(l.map Il).length] (.lst (l.map Il++[Il w]))) g.bg (gD g.us) (Wl g.wt)),re a,re (nu f a)]=_;rw[mW,cK]
    ·rw[GO,cz];rfl
   have B:=xN (o:=It a) (rh (n:=n) (f:=f) (x:=nu f a) (g:=⟨g.pl+2,g.gaps,l++[w++[nu f a]],g.bg,g.us,g.wt⟩) rfl);rw[Dac ⟨aad _ aag,m.2.2⟩]at B;exact⟨_,bz rfl rfl (ab W (ab (ao J S) (ab (ao B (mX fresh j)) rfl))) rfl,.put h m.1 m.2.1 m.2.2⟩
  ·have J:=xM (o:=It a) (B8 (n:=n) (f:=f) (x:=nu f a) h);rw[Dab m]at J;have B:=xN (o:=It a) (rh (n:=n) (f:=f) (x:=nu f a) h);by_cases A:nu f a∈w/\g.pl-g.bg<=f.r0
   ·rw[Dac A]at B;exact⟨_,bz (fn:=dq) rfl rfl (ab W (ab (s_ifF J rfl) (ab (ao B (mX fresh j)) rfl))) rfl,.got h A.1 A.2⟩
   ·rw[Dab A]at B;refine⟨_,bz (fn:=dq) rfl rfl (ab W (ab (s_ifF J rfl) (ab (s_ifF B (jG Q)) rfl))) rfl,.wait (λN D z=>?_) λN D z=>?_⟩<;>(obtain⟨rfl,e⟩:=List.append_inj' (h.symm.trans z) rfl;obtain rfl:=(List.cons.inj e).1)
    ·exact m
    ·exact A
def gIx:Int->List R->List Int
 |_,[]=>[]
 |i,r::rs=>if r.gr=true then i::gIx (i+1) rs else gIx (i+1) rs
theorem kS:∀{a b:List R}{i:Int},gIx i (a++b)=gIx i a++gIx (i+a.length) b
 |[],b,i=>by simp[gIx]
 |r::a,b,i=>by
  have e:i+1+(a.length)=i+((r::a).length):=by grind
  rw[aaK,gIx,gIx,kS ,e]
  grind
theorem gIx_mem:∀{rs:List R}{i a:Int},a∈gIx i rs->∃(j:Nat) (r:R),a=i+j/\rs[j]?=some r/\r.gr=true
 |[],i,a,h=>by trivial
 |r::rs,i,a,h=>by
  rw[gIx]at h;by_cases N:r.gr=true
  ·rw[if_pos N]at h;rcases aaa.mp h with rfl|h
   ·exact⟨0,r,by simp,rfl,N⟩
   ·obtain⟨j,q,e,O,Z⟩:=gIx_mem h;exact⟨j+1,q,by grind,O,Z⟩
  ·rw[if_neg N]at h;obtain⟨j,q,e,O,Z⟩:=gIx_mem h;exact⟨j+1,q,by grind,O,Z⟩
theorem cT:∀{rs:List R}{i:Int},(gIx i rs).Nodup
 |[],i=>abb
 |r::rs,i=>by
  rw[gIx];split
  ·refine aat.mpr ⟨λh=>?_,cT⟩;obtain⟨j,q,e,_⟩:=gIx_mem h
   lia
  ·exact cT
theorem gr_st{r:R}(h:r.gr=true):∃x k,r=.st x k:=by
 cases r with
 |st x k=>exact⟨x,k,rfl⟩
 |ot w Y Q=>cases h
theorem Fo(h:a∈gIx 0 (f.rows.take k)):Gt f a:=by
 obtain⟨j,r,e,O,Z⟩:=gIx_mem h;obtain⟨x,y,rfl⟩:=gr_st Z;refine⟨j,x,y,by omega,?_⟩;rw[List.getElem?_take]at O;split at O
 ·exact O
 ·cases O
theorem eS:∀{rs:List R}{i:Int},(gIx i rs).length=(rs.filter R.gr).length
 |[],i=>rfl
 |r::rs,i=>by
  rw[gIx];by_cases N:r.gr=true
  ·rw[if_pos N,abZ N,aaD,aaD,eS]
  ·rw[if_neg N,ab0 N,eS]
theorem xO:(eE ns x).length<=ns.length+1:=by
 unfold eE
 grind
theorem take_one{f:Cf}(h:f.rows[k]?=some r):f.rows.take (k+1)=f.rows.take k++[r]:=by rw[List.take_succ,h];rfl
theorem kT{f:Cf}(h:f.rows[k]?=some r):gIx 0 (f.rows.take (k+1))=gIx 0 (f.rows.take k)++if r.gr=true then [(k:Int)] else []:=by have F:=(aai.mp h).1;rw[take_one h,kS,ab1,ab2 (by lia),gIx,gIx,abd]
theorem mY:∀{wt:List (Int×Int)}{ns:List Int},(wt.foldl (λns q=>eE ns (nu f q.1)) ns).length<=ns.length+wt.length
 |[],ns=>by simp
 |q::wt,ns=>by
  have O:=mY (f:=f) (wt:=wt) (ns:=eE ns (nu f q.1));have Z:=xO (ns:=ns) (x:=nu f q.1)
  grind
structure Iv (f:Cf)(g:G)(k m:Nat):Prop where
 ix:g.us.map (·.1)++g.wt.map (·.1)=gIx 0 (f.rows.take k)
 wl:g.words.length=g.gaps.length
 gl:g.gaps.length<=m
 wn:∀w∈g.words,w.length<=g.us.length
 far:g.wt≠[]->g.words≠[]->f.r0<g.pl-g.bg
theorem Iv.start:Iv f ⟨0,[],[],0,[],[]⟩ 0 0:=⟨rfl,rfl,aac _,λw h=>absurd h aaq,λh=>absurd rfl h⟩
theorem Iv.lay(I:Iv f g k m):Iv f (AM f g k) k (m+1):=by
 refine⟨?_,?_,?_,λw Q=>?_,λh=>absurd rfl h⟩
 ·show (g.us++_).map (·.1)++[]=_;rw[aap,aaE,aaU,<-I.ix];rfl
 ·show (g.words++[_]).length=(g.gaps++[_]).length;rw[aak,aak,I.wl];rfl
 ·show (g.gaps++[_]).length<=m+1;rw[aak,aaR];exact Nat.succ_le_succ I.gl
 ·show w.length<=(g.us++g.wt.map _).length;rw[aak,aae];rcases aaj.mp Q with h|h
  ·exact aan (I.wn w h) (aaS _ _)
  ·rw[aaw.mp h];have:=mY (f:=f) (wt:=g.wt) (ns:=[])
   grind
theorem Iv.come(I:Iv f g k m)(D:f.rows[k]?=some r)(N:r.gr=true)(h:Come f g k g'):Iv f ⟨g'.pl+2,g'.gaps,g'.words,g'.bg,g'.us,g'.wt⟩ (k+1) m:=by
 have C:∀j:Int,g.wt=[]->(g.us++[((k:Int),j)]).map (·.1)++g.wt.map (·.1)=gIx 0 (f.rows.take (k+1)):=λj Q=>by have X:=I.ix;rw[kT D,if_pos N,<-X,Q,aay,aap,aap,aaE];rfl
 have t:∀j:Int,(g.us++[((k:Int),j)]).length=g.us.length+1:=λj=>by simp
 cases h with
 |@put l w h Q hn=>
  have J:=I.wl;rw[h,aak]at J;refine⟨C _ Q,?_,I.gl,λv o=>?_,λz=>absurd Q z⟩
  ·grind
  ·rw[t];rcases aaj.mp o with z|z
   ·exact Nat.le_succ_of_le (I.wn v (by grind))
   ·rw[aaw.mp z,aak,aaR];exact Nat.succ_le_succ (I.wn w (by grind))
 |@got l w h hn h0=>
  have Q:g.wt=[]:=by
   by_cases Q:g.wt=[]
   ·omega
   ·have:=I.far Q (by simp[*]);omega
  exact⟨C _ Q,I.wl,I.gl,λv o=>by rw[t];exact Nat.le_succ_of_le (I.wn v o),λz=>absurd Q z⟩
 |wait O Z=>
  refine⟨?_,I.wl,I.gl,I.wn,λ_ Q=>?_⟩
  ·rw[kT D,if_pos N,aaE,<-aab,I.ix];rfl
  ·show f.r0<g.pl+2-g.bg;by_cases T:g.wt=[]
   ·rcases ack g.words with e|⟨l,w,e⟩
    ·grind
    ·grind
   ·have:=I.far T Q;omega
theorem Iv.skip(I:Iv f g k m)(D:f.rows[k]?=some r)(N:r.gr=false)(W:1<=s):Iv f ⟨g.pl+s,g.gaps,g.words,g.bg,g.us,g.wt⟩ (k+1) m:=
 ⟨by rw[kT D,N,if_neg aar,aap];exact I.ix,I.wl,I.gl,I.wn,λh v=>by have:=I.far h v;grind⟩
theorem Iv.more(I:Iv f g k m)(h:m<=m'):Iv f g k m':=⟨I.ix,I.wl,aan I.gl h,I.wn,I.far⟩
theorem Iv.len(I:Iv f g k m):g.us.length+g.wt.length<=k:=by
 have:=congrArg List.length I.ix;rw[aak,aae,aae,eS]at this
 grind
theorem Iv.h7(I:Iv f g k m):∀w∈g.words,w.length<=k:=λw Q=>aan (I.wn w Q) (aan (aaS _ _) I.len)
theorem Iv.nodup(I:Iv f g k m):(g.us.map (·.1)++g.wt.map (·.1)).Nodup:=by rw[I.ix];exact cT
theorem Iv.gt(I:Iv f g k m):∀q∈g.wt,Gt f q.1:=λq A=>Fo (by rw[<-I.ix];grind)
def laysG(f:Cf)(g:G)(k:Nat):G:=if due f g k=true then AM f g k else g
theorem m_lays(I:Iv f g k k)(F:k<=f.rows.length)(u:f.rows.length<=200):bG (xL (n+4)) ean [some (GO f g),re k]=some (.nx,[some (GO f (laysG f g k)),re k])/\Iv f (laysG f g k) k (k+1):=by
 have S:=IR (n:=n) (g:=g) F;unfold laysG;generalize due f g k=b at S ⊢;have X:aL (xL (n+4)) L8 [some (GO f g),re k]=some (b,[some (GO f g),re k]):=oN (ft rfl (by decide) rfl rfl S rfl);cases b with
 |false=>exact⟨s_ifF X rfl,I.more (aa9 _)⟩
 |true=>have j:=I.len;have N:=I.gl;have H:=I.wl;have e:=IT (n:=n) F I.gt I.nodup (by lia) (by lia) (by lia);exact⟨ao X (ab (mC (ft rfl (by decide) rfl rfl e rfl)) rfl),I.lay⟩
structure Cross (f:Cf)(g:G)(k:Nat)(g2:G):Prop where
 gr:(f.rows[k]?).elim false R.gr=true->Come f (laysG f g k) k g2
 no:(f.rows[k]?).elim false R.gr=false->g2=laysG f g k
noncomputable abbrev AO(g:G)(s:Int):G:=⟨g.pl+s,g.gaps,g.words,g.bg,g.us,g.wt⟩
theorem IU(D:f.rows[k]?=some r)(N:r.gr=true):sz f k=2:=by unfold sz;rw[D];exact if_pos (.inl N)
theorem Fq:1<=sz f k:=by unfold sz;split<;>decide
theorem rj(I:Iv f g k k)(F:k<=f.rows.length)(u:f.rows.length<=200):(k<f.rows.length->∃A,pl.pg.call (n+5) 23 [GO f g,It k]=some (.fz .none,[GO f (AO A (sz f k)),It k])/\Cross f g k A/\Iv f (AO A (sz f k)) (k+1) (k+1))/\(k=f.rows.length->pl.pg.call (n+5) 23 [GO f g,It k]=some (.fz .none,[GO f (laysG f g k),It k])/\Iv f (laysG f g k) k (k+1)):=by
 obtain⟨J,B⟩:=m_lays I F u;generalize hg1:laysG f g k=g1 at J B ⊢;have S:ev (xL (n+4)) ebw [some (GO f g1),re k]=some (.val (It f.rows.length),[some (GO f g1),re k]):=aJ (aa (bW eD rfl) aj) rfl blen;by_cases O:k<f.rows.length
 ·have D:=aam O;refine⟨λ_=>?_,λe=>absurd e (by lia)⟩;have W:=pD (n:=n+2) D;have H:(f.rows[k]?).elim false R.gr=(f.rows[k]).gr:=by grind
  have X:=ar (aq (ρ:=[some (GO f g1),re k]) (a:=.nm 1) (o:=.lt) rfl S rfl rfl (show some (decide ((k:Int)<f.rows.length))=some true by grind));have U:aL (xL (n+4)) ebi [some (GO f g1),re k]=some ((f.rows[k]).gr,[some (GO f g1),re k]):=bx (af (aa (ax (bW eD rfl) rfl rfl (aR (dH D))) aj) rfl (AI _) rfl);have d:∀A:G,bG (xL (n+4)) eak [some (GO f A),re k]=some (.nx,[some (GO f (AO A (sz f k))),re k]):=λA=>xy dA rfl (af (aa (bW eD rfl) (aa (bW q9 rfl) (aa rfl aj))) rfl W rfl) rfl rfl rfl rfl f_place rfl;cases N:(f.rows[k]).gr with
  |false=>rw[N]at U;exact⟨_,bz rfl rfl (ab J (ab (ao X (ab (s_ifF U rfl) (ab (d g1) rfl))) rfl)) rfl,⟨λz=>absurd (N.symm.trans (H.symm.trans z)) aar,λ_=>hg1.symm⟩,B.skip D N Fq⟩
  |true=>
   rw[N]at U;obtain⟨x,y,T⟩:=gr_st N;have j:=B.len;obtain⟨A,M,C⟩:=Fm ⟨k,x,y,rfl,by rw[D,T]⟩ (λY=>by
    have:=gIx_mem (by rw[<-B.ix];exact aah _ Y)
    grind) (by lia) (by lia) (λw Q=>by have:=B.h7 w Q;lia)
   exact⟨_,bz rfl rfl (ab J (ab (ao X (ab (ao U (ab (mC (ft rfl (by decide) rfl rfl M rfl)) rfl)) (ab (d A) rfl))) rfl)) rfl,⟨λ_=>by grind,λz=>absurd (N.symm.trans (H.symm.trans z)).symm aar⟩,by rw[IU D N];exact B.come D N C⟩
 ·have X:=ar (aq (ρ:=[some (GO f g1),re k]) (a:=.nm 1) (o:=.lt) rfl S rfl rfl (show some (decide ((k:Int)<f.rows.length))=some false by grind));exact⟨λh=>absurd h O,λ_=>⟨bz rfl rfl (ab J (ab (s_ifF X rfl) rfl)) rfl,B⟩⟩
def enF:Int->List R->List PyData
 |_,[]=>[]
 |i,r::rs=>.tuple [.int i,r.d]::enF (i+1) rs
theorem rk:∀{rs:List R}{i:Int}{j:Nat},(enF i rs)[j]?=(rs[j]?).map λr=>.tuple [.int (i+j),r.d]
 |[],_,_=>by rfl
 |r::rs,i,0=>by simp[enF]
 |r::rs,i,j+1=>by
  rw[enF,aby,aby,rk]
  grind
theorem rl(rs:List R):enumD (rs.map R.d)=enF 0 rs:=by
 refine abP λj=>?_;rw[rk,abd];unfold enumD
 grind
theorem kU:∀{rs:List R}{i:Int}{out:List PyData}{B X:Option OD},∃p,cG (cP (xL (n+1)) (.tp [0,1]) (.some ed0) (.nm 0)) (enF i rs) out [B,X]=some (out++(gIx i rs).map PyData.int,p)
 |[],i,out,B,X=>⟨[B,X],by rw[gIx,aay,aap];rfl⟩
 |r::rs,i,out,B,X=>by
  have U:aL (xL (n+1)) ed0 [re i,sK r]=some (r.gr,[re i,sK r]):=bx (af rfl rfl (AI r) rfl);rw[gIx];cases N:r.gr with
  |false=>rw[N]at U;obtain⟨p,e⟩:=kU;refine⟨p,bs (E3 rfl U) ?_⟩;rw[if_neg aar,e,aap]
  |true=>rw[N]at U;obtain⟨p,e⟩:=kU;refine⟨p,bs (EZ rfl U rfl rfl) ?_⟩;rw[if_pos rfl,e,aab];rfl
theorem mZ(D:rs.length<=1000):pl.pg.call (n+2) 2 [Rl rs]=some (Il (gIx 0 rs),[Rl rs]):=by obtain⟨p,e⟩:=kU;rw[aaI,<-rl]at e;refine ai rfl rfl (ak (ag (dm (xA rfl rfl) (by rw[fZ,aae];lia) rfl e unca_nil) (by rw[fb];rfl))) rfl
abbrev Po(q:Int×List Int):PyData:=.tuple [.int q.1,.tuple (q.2.map PyData.int)]
abbrev Pn(ps:List (Int×List Int))(us:List Int):OD:=.tup [.lst ((ps.map Po).map OD.fz),Il us]
theorem iX:∀{gs:List Int}{ws:List (List Int)}{out:List PyData}{B X:Option OD},∃p,cG (cP C (.tp [0,1]) .none (.tup ece)) (zipD (gs.map PyData.int) (ws.map λw=>.list (w.map PyData.int))) out [B,X]=some (out++(gs.zip ws).map Po,p)
 |[],ws,out,B,X=>⟨[B,X],by simp only[aay,List.zip_nil_left,aap];rfl⟩
 |g::gs,[],out,B,X=>⟨[B,X],by simp only[aay,List.zip_nil_right,aap];rfl⟩
 |g::gs,w::ws,out,B,X=>by obtain⟨p,e⟩:=iX;refine⟨p,bs (Az rfl (bj (aa rfl (aa (qW rfl rfl) aj)) rfl rfl rfl) rfl) ?_⟩;rw[aab]at e;exact e
theorem find_key:∀{us:List (Int×Int)}{i:Nat}{u:Int×Int},(us.map (·.1)).Nodup->us[i]?=some u->(us.map λu=>(Sum.inl u.1:Key)).findIdx? (λq=>decide (q=.inl u.1))=some i
 |[],_,_,_,h=>by simp at h
 |v::us,0,u,_,h=>by cases h;rw[aal,aaQ];simp
 |v::us,i+1,u,nd,h=>by rw[aal]at nd;obtain⟨Y,a⟩:=aat.mp nd;have h:us[i]?=some u:=h;have P:v.1≠u.1:=λe=>Y (by rw[e];exact aaH.mpr ⟨u,aax h,rfl⟩);rw[aal,aaQ,find_key a h];have W:decide ((Sum.inl v.1:Key)=.inl u.1)=false:=Dab λe=>P (ab3 e);rw[W];rfl
theorem comp_uses(Q:(us.map (·.1)).Nodup):∀{vs:List (Int×Int)}{i:Nat}{out:List PyData}{o:Option OD},us.drop i=vs->∃P,cG (cP C (.nm 0) .none (.pg 1 [.key 0,.fld ac lc])) ((vs.map (·.1)).map PyData.int) out [o,some (gO f p x4 x5 b (gD us) x8)]=some (out++(vs.map (·.2)).map PyData.int,[P,some (gO f p x4 x5 b (gD us) x8)])
 |[],i,out,o,_=>⟨o,by simp only[aay,aap];rfl⟩
 |v::vs,i,out,o,h=>by
  have r:us[i]?=some v:=by have:=congrArg (λl=>l[0]?) h;simp only[List.getElem?_drop,Nat.add_zero]at this;exact this
  have X:us.drop (i+1)=vs:=by have:=congrArg List.tail h;rw[List.tail_drop]at this;exact this
  obtain⟨P,e⟩:=comp_uses Q X;have m:aw [re v.1,some (gO f p x4 x5 b (gD us) x8)] 1 [.key 0,.fld ac lc]=some (gO f p x4 x5 b (gD us) x8,[7,i],It v.2):=bs rfl (bs (find_key Q r) (bs (by show (us.map λu=>It u.2)[i]?=_;rw[aaz,r];rfl) rfl));refine⟨P,bs (Az rfl (bW m rfl) rfl) ?_⟩;rw[aab]at e;exact e
theorem Fs(D:f.rows.length<=1000)(N:g.gaps.length<1000)(Q:g.words.length=g.gaps.length)(U:g.us.map (·.1)=gIx 0 f.rows):∃y,pl.pg.call (n+3) 24 [GO f g]=some (Pn (g.gaps.zip g.words) (g.us.map (·.2)),[y]):=by
 obtain⟨A,J⟩:=iX;obtain⟨k,B⟩:=comp_uses (by rw[U];exact cT) (vs:=g.us) (i:=0) rfl;rw[aaI]at J B;rw[U]at B;generalize hO:gO f g.pl (.fz (.list (g.gaps.map PyData.int))) (.fz (.list (g.words.map λw=>.list (w.map PyData.int)))) g.bg (gD g.us) (Wl g.wt)=O at B;have S:(g.us.map (·.1)).length=(gIx 0 f.rows).length:=by rw[U]
 refine⟨O,ai rfl rfl (ab (ae (dm (oP (ρ2:=[some O,none]) (EY kQ (aA _) rfl) (EY dB (iW _) (by rw[<-hO];rfl)) rfl rfl rfl rfl) ?_ rfl J unca_nil) rfl rfl rfl) (ak (ag (bj (rs:=[.val (.lst (((g.gaps.zip g.words).map Po).map OD.fz)),.val (Il (g.us.map (·.2)))]) (ρ2:=[some O,none]) (aa rfl (aa ?_ aj)) rfl rfl rfl) rfl))) rfl⟩
 ·unfold zipD
  grind
 ·have:=dm (C:=xL (n+2)) (nt:=1) (fr:=[0]) (it:=.seq eb1) (cy (ds:=(gIx 0 f.rows).map PyData.int) (af (ρ3:=[some O,none]) (aa (bW (d:=.list (f.rows.map R.d)) (p:=(O,[0],Rl f.rows)) (by rw[<-hO];rfl) rfl) aj) rfl (mZ (n:=n) D) rfl) (show frz1 _ (.val (Il (gIx 0 f.rows)))=some (.list ((gIx 0 f.rows).map PyData.int),_) by show ((Il (gIx 0 f.rows)).dat).map _=_;rw[aA];rfl) rfl) (by rw[aae];rw[eS];grind) (zc:=([some O],[none,none])) (by rw[<-hO];rfl) B rfl;rw[fb]at this
  trivial
theorem bh:cX lo (n+1)=.int lo::cX (lo+1) n:=by
 unfold cX;rw[List.range_succ_eq_map,aal,aaU];congr 1
 ·simp
 ·refine acd λi _=>?_
  grind
abbrev pE(f:Cf)(g:G)(o:Option OD):DEnv:=[ut f.rows,wr f,some (Re f),some (GO f g),o]
theorem Iv.xc(I:Iv f g k k):Iv f (laysG f g k) k (k+1):=by
 unfold laysG;split
 ·exact I.lay
 ·exact I.more (aa9 _)
inductive Path (f:Cf):Nat->G->G->Prop
 |nil {k:Nat}{g:G} (hk:k=f.rows.length) (I:Iv f g k k):Path f k g g
 |cons {k:Nat}{g g2 g':G} (hk:k<f.rows.length) (I:Iv f g k k) (C:Cross f g k g2) (h:Path f (k+1) (AO g2 (sz f k)) g'):Path f k g g'
theorem AQ(h:g.wt≠[]):due f g f.rows.length=true:=by
 unfold due;cases Q:g.wt with
 |nil=>grind
 |cons q s=>simp
theorem m3:(laysG f g f.rows.length).wt=[]:=by
 unfold laysG;by_cases h:g.wt=[]
 ·split
  ·rfl
  ·exact h
 ·rw[if_pos (AQ h)];rfl
theorem iY(e:pl.pg.call (n+5) 23 [GO f g,It k]=some (.fz .none,[GO f g',It k])):((bo (.nm 4) (.fz (.int k)) (pE f g o)).bind λρ1=>aD (xL (n+5)) ebg ρ1)=some (.nx,pE f g' (re k)):=
 bs rfl (ab (mC (ft rfl (by decide) rfl rfl e rfl)) rfl)
theorem iZ(u:f.rows.length<=200):∀{m k:Nat}{g:G}{o:Option OD},k+m=f.rows.length->Iv f g k k->∃g' P,bS (λd p=>(bo (.nm 4) (.fz d) p).bind λρ1=>aD (xL (n+5)) ebg ρ1) (cX k (m+1)) (pE f g o)=some (.nx,pE f (laysG f g' f.rows.length) P)/\Iv f (laysG f g' f.rows.length) f.rows.length (f.rows.length+1)/\Path f k g g'
 |0,k,g,o,h,I=>by obtain rfl:k=f.rows.length:=h;obtain⟨e,J⟩:=(rj I (aac _) u).2 rfl;refine⟨g,re f.rows.length,?_,J,.nil rfl I⟩;rw[bh];exact bs (iY e) rfl
 |m+1,k,g,o,h,I=>by
  have F:k<f.rows.length:=by lia
  obtain⟨A,e,C,J⟩:=(rj I (aaL F) u).1 F;obtain⟨B,P,L,v,W⟩:=iZ u (m:=m) (by lia) J;refine⟨B,P,?_,v,.cons F I C W⟩;rw[bh];exact bs (iY e) L
theorem IV:(xL (n+5)).mak 17 [.obj ac [] [],Rl f.rows,Lo f,Re f]=some (.fz .none,[GO f ⟨0,[],[],0,[],[]⟩,Rl f.rows,Lo f,Re f]):=by have e:(xL (n+5)).mak=pl.pg.mak (n+5):=rfl;rw[e,Pg.ub pl.pg (n+4) 17];exact Fj
theorem rm(u:f.rows.length<=200):∃g:G,pl.pg.call (n+6) 25 [Rl f.rows,Lo f,Re f]=some (Pn (g.gaps.zip g.words) (g.us.map (·.2)),[Rl f.rows,Lo f,Re f])/\∃c,g=laysG f c f.rows.length/\Iv f g f.rows.length (f.rows.length+1)/\Path f 0 ⟨0,[],[],0,[],[]⟩ c:=by
 obtain⟨c,o,e,I,W⟩:=iZ u (m:=f.rows.length) (by lia) Iv.start;have Q:=m3 (f:=f) (g:=c);generalize hg:laysG f c f.rows.length=g at e I Q;have U:g.us.map (·.1)=gIx 0 f.rows:=by
  have:=I.ix
  grind
 have L:=I.gl;obtain⟨y,J⟩:=Fs (by lia) (by lia) I.wl U;refine⟨g,ai (ρ:=[ut f.rows,wr f,some (Re f),some y,o]) rfl rfl ?_ rfl,c,hg.symm,I,W⟩;refine ab (ae (EX rfl rfl IV rfl) rfl rfl rfl) ?_;refine ab (eB (gk (ah (aJ rfl rfl blen) rfl rfl rfl rfl) rfl (by lia)) (by rw[show ((f.rows.length:Int)+1).toNat=f.rows.length+1 by lia];exact e)) ?_;exact ak (ag (ft rfl (by decide +kernel) rfl rfl J rfl) rfl)
structure Mc where
 ps:List Int
 bs:List Int
 pl:Int
def inn(f:Cf)(k:Nat)(s:Mc)(q:Int×List Int):Mc:=if q.1=(k:Int) then ⟨s.ps,s.bs++[fw f.rows k s.pl],fw f.rows k s.pl+2*q.2.length⟩ else s
def inner(f:Cf)(qs:List (Int×List Int))(k:Nat)(s:Mc):Mc:=qs.foldl (inn f k) s
def Ft(f:Cf)(k:Nat)(s:Mc):Mc:=⟨s.ps++[s.pl],s.bs,s.pl+sz f k⟩
def mac(f:Cf)(qs:List (Int×List Int)):Nat->Mc
 |0=>⟨[],[],0⟩
 |k+1=>Ft f k (inner f qs k (mac f qs k))
theorem cA{k:Nat}:∀{qs:List (Int×List Int)}{s:Mc},(∀q∈qs,q.1≠(k:Int))->inner f qs k s=s
 |[],s,_=>rfl
 |q::qs,s,h=>by show inner f qs k (inn f k s q)=s;have e:inn f k s q=s:=if_neg (h q aag);rw[e];exact cA λq A=>h q (aaf _ A)
theorem gu:inner f (a++b) k s=inner f b k (inner f a k s):=List.foldl_append
theorem kW:∀{k:Nat},(∀q∈qs,(k:Int)<=q.1)->mac f (ps++qs) k=mac f ps k
 |0,_=>rfl
 |k+1,h=>by
  have O:∀q∈qs,(k:Int)<=q.1:=λq A=>by have:=h q A;omega
  have Z:∀q∈qs,q.1≠(k:Int):=λq A=>by have:=h q A;omega
  show Ft f k (inner f (ps++qs) k (mac f (ps++qs) k))=Ft f k (inner f ps k (mac f ps k));rw[kW O,gu,cA Z]
theorem Fu:(inn f k s q).ps=s.ps:=by unfold inn;split<;>rfl
theorem bU:∀{qs:List (Int×List Int)}{s:Mc},(inner f qs k s).ps=s.ps
 |[],s=>rfl
 |q::qs,s=>by show (inner f qs k (inn f k s q)).ps=_;rw[bU,Fu]
theorem eT:∀{k:Nat},(mac f qs k).ps.length=k
 |0=>rfl
 |k+1=>by show ((inner f qs k (mac f qs k)).ps++[_]).length=_;rw[bU,aak,eT];rfl
theorem mac_pre:∀{m i:Nat},i<k->(mac f qs (k+m)).ps[i]?=(mac f qs k).ps[i]?
 |0,i,_=>rfl
 |m+1,i,h=>by show ((inner f qs (k+m) (mac f qs (k+m))).ps++[_])[i]?=_;rw[bU,abc (by rw[eT];lia)];exact mac_pre h
theorem i3:∀{qs:List (Int×List Int)}{s:Mc},∃t,(inner f qs k s).bs=s.bs++t
 |[],s=>⟨[],(aap _).symm⟩
 |q::qs,s=>by
  obtain⟨t,e⟩:=i3;show ∃t,(inner f qs k (inn f k s q)).bs=_;rw[e];unfold inn;split
  ·simp
  ·simp
theorem xP:∀{m:Nat},∃t,(mac f qs (k+m)).bs=(mac f qs k).bs++t
 |0=>by simp
 |m+1=>by obtain⟨t,e⟩:=xP;obtain⟨u,L⟩:=i3;exact⟨t++u,by show (inner f qs (k+m) (mac f qs (k+m))).bs=_;rw[L,e,aab]⟩
abbrev Pz:=List (Int×List Int)
theorem AR{k:Nat}(h:f.rows[k]?=some r):pl.pg.call (n+2) 46 [Rl f.rows,Lo f,It k]=some (It (sz f k),[Rl f.rows,Lo f,It k]):=by
 unfold sz;rw[h];have U:=af (C:=xL (n+1)) (f:=45) (es:=.cons Lp .nil) (ρ:=[ut f.rows,wr f,re k]) (aa (ax rfl rfl rfl (aR (dH h))) aj) rfl (IQ r) rfl;cases N:r.gr with
 |true=>rw[N]at U;rw[if_pos (.inl N)];exact ai rfl rfl (ak (ag (cH (gC (bx U)) rfl) rfl)) rfl
 |false=>
  rw[N]at U;have j:aL (xL (n+1)) eeb [ut f.rows,wr f,re k]=some (decide ((k:Int)∈f.longs),[ut f.rows,wr f,re k]):=ar (aq rfl rfl rfl rfl inL);cases S:decide ((k:Int)∈f.longs) with
  |true=>rw[S]at j;rw[if_pos (.inr (Daa S))];exact ai rfl rfl (ak (ag (cH (bq (bx U) j) rfl) rfl)) rfl
  |false=>rw[S]at j;rw[if_neg λz=>z.elim (λz=>absurd (N.symm.trans z) aar) λz=>Dad S z];exact ai rfl rfl (ak (ag (cb (bq (bx U) j) rfl) rfl)) rfl
theorem i4:∀{qs:Pz}{s:Mc},(inner f qs k s).bs.length=s.bs.length+qs.countP λq=>decide (q.1=(k:Int))
 |[],s=>rfl
 |q::qs,s=>by
  show (inner f qs k (inn f k s q)).bs.length=_;rw[i4,abz];unfold inn
  grind
theorem i5:∀{qs:Pz},(∀q∈qs,0<=q.1)->qs.countP (λq=>decide (q.1<((k+1:Nat):Int)))=qs.countP (λq=>decide (q.1<(k:Int)))+qs.countP λq=>decide (q.1=(k:Int))
 |[],_=>rfl
 |q::qs,h=>by
  rw[abz,abz,abz,i5 λq A=>h q (aaf _ A)]
  grind
theorem fA(h:∀q∈qs,0<=q.1):∀{k:Nat},(mac f qs k).bs.length=qs.countP λq=>decide (q.1<(k:Int))
 |0=>by
  show 0=_
  grind
 |k+1=>by show (inner f qs k (mac f qs k)).bs.length=_;rw[i4,fA h,i5 h]
abbrev Pq(qs:Pz):OD:=.fz (.list (qs.map Po))
abbrev ww(qs:Pz):Option OD:=some (Pq qs)
abbrev qE(f:Cf)(qs:Pz)(s:Mc)(k:Nat)(o7 o8:Option OD):DEnv:=[ut f.rows,wr f,ww qs,some (Il s.ps),some (Il s.bs),re s.pl,re k,o7,o8]
abbrev Ls:E:=.or eee eaq
theorem AS(r:R):oz .nin (.str r.wd) (.tuple [.str am,.str bv])=some r.zb:=by show some (!(decide (am=r.wd)||(decide (bv=r.wd)||false)))=some (!decide (r.wd=am)&&!decide (r.wd=bv));rw[Bool.or_false,Bool.not_or,decide_eq_decide.mpr (eq_comm ),decide_eq_decide.mpr (eq_comm (a:=Str.ofString "stop"))]
theorem Lu(h:k<=f.rows.length):ev (xL n) Ls (qE f qs s k o7 o8)=some (.val (.fz (.bool (pw f.rows k))),qE f qs s k o7 o8):=by
 cases k with
 |zero=>rfl
 |succ k=>
  have X:((k+1:Nat):Int)-1=(k:Int):=by lia
  have J:pw f.rows (k+1)=(f.rows[k]).zb:=by show (f.rows[k]?).elim true R.zb=_;grind
  rw[J];exact mB (aq rfl rfl rfl rfl (show some (decide (((k+1:Nat):Int)=0))=some false by rfl)) (aq (ax (ax rfl rfl rfl (aR (by rw[X];exact dH (aam (by lia))))) rfl rfl (by rw[R.w4];exact aN aO)) rfl rfl rfl (AS _))
abbrev inB:Ss:=.cons (.iff eej (.cons (.set 5 (.bop .add (.nm 5) (.bop .mul (.int 2) (.blt .int (.cons Ls .nil))))) eab) .nil) .nil
abbrev Tn(q:Int×List Int):OD:=.fz (.tuple (q.2.map PyData.int))
abbrev qF(f:Cf)(qs:Pz)(s:Mc)(k:Nat)(q:Int×List Int):DEnv:=qE f qs s k (re q.1) (some (Tn q))
theorem AU(h:k<=f.rows.length)(S:s.bs.length<1000):aD (xL n) inB (qF f qs s k q)=some (.nx,qF f qs (inn f k s q) k q):=by
 unfold inn;by_cases e:q.1=(k)
 ·rw[if_pos e];have T:=Lu (n:=n) (qs:=qs) (s:=s) (o7:=re q.1) (o8:=some (Tn q)) h;refine ab (ao (ar (aq rfl rfl rfl rfl (show some (decide (q.1=(k)))=some true by rw[Dac e]))) ?_) rfl;have r:∀v,pw f.rows k=v->bG (xL n) (.set 5 (.bop .add (.nm 5) (.bop .mul (.int 2) (.blt .int (.cons Ls .nil))))) (qF f qs s k q)=some (.nx,qF f qs ⟨s.ps,s.bs,if v=true then s.pl+2 else s.pl⟩ k q):=λv o=>by
   rw[o]at T;cases v with
   |true=>exact ae (ah rfl (ah rfl (aJ (aa T aj) rfl rfl) rfl rfl rfl) rfl rfl rfl) rfl rfl rfl
   |false=>exact ae (ah (d:=.int s.pl) rfl (ah rfl (aJ (aa T aj) rfl rfl) rfl rfl rfl) rfl rfl (by show some (PyData.int (s.pl+0))=_;rw[Int.add_zero])) rfl rfl rfl
  refine ab (r _ rfl) ?_;generalize hq:(if pw f.rows k=true then s.pl+2 else s.pl)=p;have W:fw f.rows k s.pl=p+2-p%2:=by unfold fw;rw[hq]
  rw[W];refine ab (ae (ah rfl (ah rfl rfl rfl rfl (br (by decide))) rfl rfl rfl) rfl rfl rfl) ?_;refine ab (bI rfl rfl rfl rfl (by rw[aae];exact abI S (by decide)) (by show _=[ut f.rows,wr f,ww qs,some (Il s.ps),some (Il (s.bs++[p+2-p%2])),re (p+2-p%2),re k,re q.1,some (Tn q)];rw[cK];rfl)) ?_;exact ab (ae (ah rfl (ah rfl (aJ rfl rfl (by show some (PyData.int ((q.2.map PyData.int).length:Nat))=_;rw[aae])) rfl rfl (cJ (.inl (by decide)))) rfl rfl rfl) rfl rfl rfl) rfl
 ·rw[if_neg e];exact ab (s_ifF (ar (aq rfl rfl rfl rfl (show some (decide (q.1=(k)))=some false by rw[Dab e]))) rfl) rfl
abbrev Mg(n:Nat)(d:PyData)(ρ':DEnv):Option (Fl×DEnv):=(bo (.tp [7,8]) (.fz d) ρ').bind λρ1=>aD (xL n) inB ρ1
theorem rn(h:k<=f.rows.length):∀{rs:Pz}{s:Mc}{o7 o8:Option OD},s.bs.length+rs.length<1000->∃o7' O,bS (Mg n) (rs.map Po) (qE f qs s k o7 o8)=some (.nx,qE f qs (inner f rs k s) k o7' O)
 |[],s,o7,o8,_=>⟨o7,o8,rfl⟩
 |q::rs,s,o7,o8,hb=>by
  rw[aaD]at hb;have e:Mg n (Po q) (qE f qs s k o7 o8)=some (.nx,qF f qs (inn f k s q) k q):=bs rfl (AU h (by lia));have j:(inn f k s q).bs.length+rs.length<1000:=by
   unfold inn
   grind
  obtain⟨o7',O,L⟩:=rn h j;exact⟨o7',O,bs e L⟩
abbrev qG(f:Cf)(qs:Pz)(s:Mc)(o6 o7 o8:Option OD):DEnv:=[ut f.rows,wr f,ww qs,some (Il s.ps),some (Il s.bs),re s.pl,o6,o7,o8]
abbrev ouB:Ss:=.cons (.fr (.tp [7,8]) (.seq (.nm 2)) inB) eac
abbrev Mi(n:Nat)(d:PyData)(ρ':DEnv):Option (Fl×DEnv):=(bo (.nm 6) (.fz d) ρ').bind λρ1=>aD (xL n) ouB ρ1
theorem B9:aL (xL n) eb8 (qE f qs s k o7 o8)=some (decide ((k:Int)<(f.rows.length:Int)),qE f qs s k o7 o8):=ar (aq rfl (aJ rfl rfl (by show some (PyData.int ((f.rows.map R.d).length:Nat))=_;rw[aae])) rfl rfl rfl)
theorem Ca(h:k<=f.rows.length)(S:s.bs.length+qs.length<1000):∃o7' O,bG (xL n) (.fr (.tp [7,8]) (.seq (.nm 2)) inB) (qE f qs s k o7 o8)=some (.nx,qE f qs (inner f qs k s) k o7' O):=by obtain⟨o7',O,e⟩:=rn h S;exact⟨o7',O,eB (cy rfl rfl rfl) e⟩
theorem AV{k:Nat}(h:k<f.rows.length)(S:s.bs.length+qs.length<1000)(m:s.ps.length<1000):∃B o7' O,Mi (n+2) (.int k) (qG f qs s o6 o7 o8)=some (.nx,qG f qs (Ft f k (inner f qs k s)) B o7' O):=by
 obtain⟨o7',O,e⟩:=Ca (aaL h) S;have w:(inner f qs k s).ps.length<1000000:=by rw[bU];lia
 generalize inner f qs k s=t at e w;have X:=B9 (n:=n+2) (f:=f) (qs:=qs) (s:=t) (k:=k) (o7:=o7') (o8:=O);rw[Dac (by lia)]at X;refine⟨re k,o7',O,bs rfl (ab e (ab (ao X (ab (bI (ρ3:=qE f qs ⟨t.ps++[t.pl],t.bs,t.pl⟩ k o7' O) rfl rfl rfl rfl (by grind) ?_) (ab (ae (ah rfl (af rfl rfl (AR (aam h)) rfl) rfl rfl rfl) rfl rfl rfl) rfl))) rfl))⟩
 grind
theorem rp{f:Cf}{qs:Pz}(T:∀q∈qs,0<=q.1)(A:qs.length<=300)(u:f.rows.length<=200):∀{m k:Nat}{o6 o7 o8:Option OD},k+m=f.rows.length->∃B o7' O,bS (Mi (n+2)) (cX k (m+1)) (qG f qs (mac f qs k) o6 o7 o8)=some (.nx,qG f qs (inner f qs f.rows.length (mac f qs f.rows.length)) B o7' O)
 |0,k,o6,o7,o8,h=>by
  obtain rfl:k=f.rows.length:=h;have S:(mac f qs f.rows.length).bs.length+qs.length<1000:=by
   rw[fA T]
   grind
  obtain⟨o7',O,e⟩:=Ca (aac _) S;have X:=B9 (n:=n+2) (f:=f) (qs:=qs) (s:=inner f qs f.rows.length (mac f qs f.rows.length)) (k:=f.rows.length) (o7:=o7') (o8:=O);rw[Dab (by lia)]at X;refine⟨re f.rows.length,o7',O,?_⟩;rw[bh];exact bs (bs rfl (ab e (ab (s_ifF X rfl) rfl))) rfl
 |m+1,k,o6,o7,o8,h=>by
  have S:(mac f qs k).bs.length+qs.length<1000:=by
   rw[fA T]
   grind
  obtain⟨a,b,c,e⟩:=AV (o7:=o7) (o8:=o8) (show k<f.rows.length by lia) S (by rw[eT];lia);obtain⟨o,w,M,L⟩:=rp (n:=n) T A u (m:=m) (k:=k+1) (o6:=a) (o7:=b) (o8:=c) (by lia);refine⟨o,w,M,?_⟩;rw[bh];exact bs e L
abbrev IW(s:Mc):OD:=.fz (.tuple [.list (s.ps.map PyData.int),.list (s.bs.map PyData.int),.int s.pl])
abbrev Dl(gs:List Int):OD:=.fz (.list (gs.map PyData.int))
abbrev wP(gs:List Int):Option OD:=some (Dl gs)
theorem xQ(T:∀q∈qs,0<=q.1)(A:qs.length<=300)(u:f.rows.length<=200):pl.pg.call (n+3) 47 [Rl f.rows,Lo f,Pq qs]=some (IW (inner f qs f.rows.length (mac f qs f.rows.length)),[Rl f.rows,Lo f,Pq qs]):=by
 obtain⟨y,D,F,e⟩:=rp T A u (aaP _);generalize inner f qs f.rows.length (mac f qs f.rows.length)=s at e;have j:(((f.rows.length:Nat):Int)+1).toNat=f.rows.length+1:=by lia
 refine ai rfl rfl (ab (fu rfl rfl rfl rfl) (ab (eB (gk (ah (aJ rfl rfl (by show some (PyData.int ((f.rows.map R.d).length:Nat))=_;rw[aae])) rfl rfl rfl rfl) rfl (by lia)) (by trivial)) (ak (ag (bj (zs:=[Dl s.ps,Dl s.bs,It s.pl]) (ρ2:=[ut f.rows,wr f,ww qs,wP s.ps,wP s.bs,re s.pl,y,D,F]) rfl rfl ?_ rfl) rfl)))) rfl;have J:own1 (qG f qs s y D F) (.rf 3)=some (Dl s.ps,[ut f.rows,wr f,ww qs,wP s.ps,some (Il s.bs),re s.pl,y,D,F]):=by show (frz1 _ (.rf 3)).map _=_;rw[frz_rf rfl (aA _) rfl];rfl
 have B:own1 [ut f.rows,wr f,ww qs,wP s.ps,some (Il s.bs),re s.pl,y,D,F] (.rf 4)=some (Dl s.bs,[ut f.rows,wr f,ww qs,wP s.ps,wP s.bs,re s.pl,y,D,F]):=by show (frz1 _ (.rf 4)).map _=_;rw[frz_rf rfl (aA _) rfl];rfl
 have l:mapR own1 [ut f.rows,wr f,ww qs,wP s.ps,some (Il s.bs),re s.pl,y,D,F] [.rf 4,.val (It s.pl)]=some ([Dl s.bs,It s.pl],[ut f.rows,wr f,ww qs,wP s.ps,wP s.bs,re s.pl,y,D,F]):=bs B rfl;exact bs J (by grind)
theorem Fv(T:ρ[i]?.join=re a)(O:ev C e ρ=some (x,ρ1))(Z:az ρ1 x=some d)(M:l4 o a d=some r)(P:ρ1.set i (re r)=ρ2):bG C (.aug i o e) ρ=some (.nx,ρ2):=bs T (bs rfl (bs rfl (bs O (bs Z (bs M (by rw[<-P]))))))
theorem s_asgQ(h:ev C e ρ=some (x,ρ1))(T:own1 ρ1 x=some (z,ρ2))(i:bo t z ρ2=some ρ3):bG C (.asg t e) ρ=some (.nx,ρ3):=bs h (bs T (bs i rfl))
theorem pH(h:tQ C it ρ=some (ds,ρ1))(d:ds.length<1000000)(U:cC ρ1 fr=some zc)(W:eZ (l7 C tg ke ve) ds ([],[]) (List.replicate nt none++zc.1)=some ((ks,vs),ρ2))(r:i<(dX zc.2 fr (ρ2.drop nt)).length)(D:(dX zc.2 fr (ρ2.drop nt)).set i (some (.dic ks vs))=ρ3):bG C (.sdc i nt fr it tg ke ve) ρ=some (.nx,ρ3):=bs h (bg d (bs U (bs W (bg r (by rw[<-D])))))
abbrev Qk(qs:Pz):List Key:=(qs.map λq=>(q.1,(q.2.length:Int))).map λu=>.inl u.1
abbrev Qv(qs:Pz):List OD:=(qs.map λq=>(q.1,(q.2.length:Int))).map λu=>It u.2
abbrev Qd(qs:Pz):OD:=.dic (Qk qs) (Qv qs)
abbrev wS(qs:Pz):Option OD:=some (Qd qs)
theorem xR:∀{qs ps:Pz}{B X:Option OD},(ps++qs).Pairwise (λx y=>x.1<y.1)->∃O o,eZ (l7 C (.tp [0,1]) (.nm 0) edu) (qs.map Po) (Qk ps,Qv ps) [B,X]=some ((Qk (ps++qs),Qv (ps++qs)),[O,o])
 |[],ps,B,X,_=>⟨B,X,by rw[aap];rfl⟩
 |q::qs,ps,B,X,h=>by
  have l:q.1 ∉ (ps.map λq=>(q.1,(q.2.length:Int))).map (·.1):=λz=>by
   obtain⟨u,U,e⟩:=aaH.mp z;obtain⟨x,j,rfl⟩:=aaH.mp U;have:=(abk.mp h).2.2 x j q aag;have e:x.1=q.1:=e
   lia
  have e:=putK_new (v:=(q.2.length:Int)) l;obtain⟨O,o,L⟩:=xR (ps:=ps++[q]) (by rw[aab];exact h);rw[aab]at L;refine⟨O,o,bs (x:=((Qk (ps++[q]),Qv (ps++[q])),[re q.1,some (Tn q)])) ?_ L⟩;refine bs rfl (bs rfl (bs (aJ rfl rfl (by show some (PyData.int ((q.2.map PyData.int).length:Nat))=_;rw[aae])) (bs rfl (bs rfl (bs rfl ?_)))));have Y:(ps++[q]).map (λq=>(q.1,(q.2.length:Int)))=ps.map (λq=>(q.1,(q.2.length:Int)))++[(q.1,(q.2.length:Int))]:=aaE;show some (putKey (.inl q.1) (.int (q.2.length:Int)) (Qk ps) (Qv ps),[re q.1,some (Tn q)])=some ((List.map _ ((ps++[q]).map _),List.map _ ((ps++[q]).map _)),_);rw[Y,e]
abbrev zP(f:Cf)(qs:Pz)(s:Mc)(o7:Option OD):DEnv:=[ut f.rows,wr f,ww qs,wS qs,some (Il s.ps),some (Il s.bs),re s.pl,o7]
abbrev zS:Ss:=match F_placed.body with|.cons _ (.cons _ (.cons _ (.cons _ (.cons (.fr _ _ b) _))))=>b|_=>.nil
theorem Cb:aL (xL n) eb5 (zP f qs s (re k))=some (decide ((k:Int)<(f.rows.length:Int)),zP f qs s (re k)):=ar (aq rfl (aJ rfl rfl blen) rfl rfl rfl)
theorem Cc(h:((Qk qs).any λq=>decide (q=.inl (k:Int)))=b):aL (xL n) LX (zP f qs s (re k))=some (b,zP f qs s (re k)):=by rw[<-h];rfl
theorem Qk_any:((Qk qs).any λq=>decide (q=.inl (k:Int)))=true ↔ ∃q∈qs,q.1=(k:Int):=by simp
theorem AW(h:∀x∈a,x.1≠(k:Int))(e:q.1=(k:Int)):(Qk (a++q::b)).findIdx? (λq=>decide (q=.inl (k:Int)))=some a.length:=by
 induction a with
 |nil=>exact(aaQ).trans (if_pos (Dac (show (Sum.inl q.1:Key)=.inl (k:Int) by rw[e])))
 |cons x a Y=>have C:¬ (decide ((Sum.inl x.1:Key)=.inl (k:Int)))=true:=λz=>h x aag (by have:=Daa z;injection this);refine(aaQ).trans ((if_neg C).trans ?_);exact congrArg (Option.map λi=>i+1) (Y λy t=>h y (aaf _ t))
theorem IX(m:qs.Pairwise λx y=>x.1<y.1)(F:k<=f.rows.length)(S:s.bs.length<1000)(K:aD (xL (n+3)) sb (zP f qs (inner f qs k s) (re k))=r):aD (xL (n+3)) (.cons eaa sb) (zP f qs s (re k))=r:=by
 by_cases h:∃q∈qs,q.1=(k:Int)
 ·have W:=Cc (n:=n+3) (f:=f) (s:=s) (Qk_any.mpr h);obtain⟨q,A,e⟩:=h;obtain⟨a,b,rfl⟩:=abu A;have i:∀x∈a,x.1≠(k:Int):=λx C=>by grind
  have j:∀x∈b,x.1≠(k:Int):=λx C=>by have:=(aaT.mp (abk.mp m).2.1).1 x C;lia
  have Z:inner f (a++q::b) k s=⟨s.ps,s.bs++[fw f.rows k s.pl],fw f.rows k s.pl+2*q.2.length⟩:=by rw[gu,cA i];show inner f b k (inn f k s q)=_;rw[cA j];exact if_pos e
  have o:(Qv (a++q::b))[a.length]?=re q.2.length:=by simp
  have H:∀t:Mc,aw (zP f (a++q::b) t (re k)) 3 [.key 7]=some (Qd (a++q::b),[a.length],It q.2.length):=λt=>by refine bs rfl (bs ?_ (bs o rfl));exact bs rfl (bs rfl (bs rfl (bs rfl (AW i e))))
  rw[Z]at K;refine ab (ao W (ab (bI (ρ3:=zP f (a++q::b) ⟨s.ps,s.bs++[fw f.rows k s.pl],s.pl⟩ (re k)) rfl (af rfl rfl (gM F) rfl) rfl rfl (by grind) ?_) (ab (ae (ah (ax rfl rfl rfl (aW rfl ?_)) (ah rfl (bW (H _) rfl) rfl rfl (cJ (.inl (by decide)))) rfl rfl rfl) rfl rfl rfl) rfl))) K
  ·show _=[ut f.rows,wr f,some (Pq (a++q::b)),some (Qd (a++q::b)),some (Il s.ps),some (Il (s.bs++[fw f.rows k s.pl])),re s.pl,re k];rw[cK];rfl
  ·rw[aaE];have X:ixN (s.bs.map It++[fw f.rows k s.pl].map It).length (-1)=some (s.bs.map It).length:=by
    unfold ixN;rw[if_neg (by decide),aak,aae,if_pos (by simp;lia)];congr 1;simp
    lia
   exact bs X acl
 ·have W:=Cc (n:=n+3) (f:=f) (s:=s) (by rw[Bool.eq_false_iff];exact λz=>h (Qk_any.mp z));rw[cA λq A e=>h ⟨q,A,e⟩]at K;exact ab (s_ifF W rfl) K
theorem xS(M:qs.Pairwise λx y=>x.1<y.1)(T:∀q∈qs,0<=q.1)(A:qs.length<=300)(u:f.rows.length<=200):∀{m k:Nat}{o7:Option OD},k+m=f.rows.length->∃o7',bS (λd p=>(bo (.nm 7) (.fz d) p).bind λρ1=>aD (xL (n+3)) zS ρ1) (cX k (m+1)) (zP f qs (mac f qs k) o7)=some (.nx,zP f qs (inner f qs f.rows.length (mac f qs f.rows.length)) o7')
 |0,k,o7,h=>by
  obtain rfl:k=f.rows.length:=h;have S:(mac f qs f.rows.length).bs.length<1000:=by
   rw[fA T]
   grind
  have X:=Cb (n:=n+3) (f:=f) (qs:=qs) (s:=inner f qs f.rows.length (mac f qs f.rows.length)) (k:=f.rows.length);rw[Dab (by lia)]at X;refine⟨re f.rows.length,?_⟩;rw[bh];exact bs (bs rfl (IX M (aac _) S (ab (s_ifF X rfl) rfl))) rfl
 |m+1,k,o7,h=>by
  have F:k<f.rows.length:=by lia
  have S:(mac f qs k).bs.length<1000:=by
   rw[fA T]
   grind
  have X:=Cb (n:=n+3) (f:=f) (qs:=qs) (s:=inner f qs k (mac f qs k)) (k:=k);rw[Dac (by lia)]at X;have J:mac f qs (k+1)=Ft f k (inner f qs k (mac f qs k)):=rfl;have j:(inner f qs k (mac f qs k)).ps.length<1000000:=by rw[bU,eT];lia
  obtain⟨P,L⟩:=xS M T A u (m:=m) (k:=k+1) (o7:=re k) (by lia);rw[J]at L;refine⟨P,?_⟩;rw[bh];refine bs (x:=(Fl.nx,zP f qs (Ft f k (inner f qs k (mac f qs k))) (re k))) (bs (x:=zP f qs (mac f qs k) (re k)) rfl (IX M (aaL F) S ?_)) L;generalize inner f qs k (mac f qs k)=s at *;refine ab (ao X (ab (bI (ρ3:=zP f qs ⟨s.ps++[s.pl],s.bs,s.pl⟩ (re k)) rfl rfl rfl rfl (by rw[aae];exact j) ?_) (ab (Fv (r:=s.pl+sz f k) (ρ2:=zP f qs (Ft f k s) (re k)) rfl (af (ρ3:=zP f qs ⟨s.ps++[s.pl],s.bs,s.pl⟩ (re k)) rfl rfl (pD (n:=n+1) (aam F)) rfl) rfl rfl rfl) rfl))) rfl;show _=[ut f.rows,wr f,ww qs,wS qs,some (Il (s.ps++[s.pl])),some (Il s.bs),re s.pl,re k];rw[cK];rfl
theorem rq(m:qs.Pairwise λx y=>x.1<y.1)(T:∀q∈qs,0<=q.1)(A:qs.length<=300)(u:f.rows.length<=200):pl.pg.call (n+4) 16 [Rl f.rows,Lo f,Pq qs]=some (IW (inner f qs f.rows.length (mac f qs f.rows.length)),[Rl f.rows,Lo f,Pq qs]):=by
 obtain⟨D,e⟩:=xS m T A u (aaP _);generalize inner f qs f.rows.length (mac f qs f.rows.length)=s at e;have j:(((f.rows.length:Nat):Int)+1).toNat=f.rows.length+1:=by lia
 obtain⟨g,I,c⟩:=xR (ps:=[]) m;have W:bG (xL (n+3)) ea6 [ut f.rows,wr f,ww qs,none,none,none,none,none]=some (.nx,[ut f.rows,wr f,ww qs,wS qs,none,none,none,none]):=pH (cy rfl rfl rfl) (by grind) rfl c (by show 3<8;decide) rfl;refine ai rfl rfl (ab W (ab rfl (ab rfl (ab rfl (ab (eB (gk (ah (aJ rfl rfl blen) rfl rfl rfl rfl) rfl (by lia)) (by trivial)) (ak (ag (bj (zs:=[Dl s.ps,Dl s.bs,It s.pl]) (ρ2:=[ut f.rows,wr f,ww qs,wS qs,wP s.ps,wP s.bs,re s.pl,D]) rfl rfl ?_ rfl) rfl))))))) rfl;have J:own1 (zP f qs s D) (.rf 4)=some (Dl s.ps,[ut f.rows,wr f,ww qs,wS qs,wP s.ps,some (Il s.bs),re s.pl,D]):=by show (frz1 _ (.rf 4)).map _=_;rw[frz_rf rfl (aA _) rfl];rfl
 have B:own1 [ut f.rows,wr f,ww qs,wS qs,wP s.ps,some (Il s.bs),re s.pl,D] (.rf 5)=some (Dl s.bs,[ut f.rows,wr f,ww qs,wS qs,wP s.ps,wP s.bs,re s.pl,D]):=by show (frz1 _ (.rf 5)).map _=_;rw[frz_rf rfl (aA _) rfl];rfl
 have l:mapR own1 [ut f.rows,wr f,ww qs,wS qs,wP s.ps,some (Il s.bs),re s.pl,D] [.rf 5,.val (It s.pl)]=some ([Dl s.bs,It s.pl],[ut f.rows,wr f,ww qs,wS qs,wP s.ps,wP s.bs,re s.pl,D]):=bs B rfl;exact bs J (by grind)
theorem eU:∀{js:List Int}{out:List PyData}{o:Option OD},(∀j∈js,aL C t (re j::ρ)=some (p j,re j::ρ))->∃P,cG (cP C (.nm 0) (.some t) (.nm 0)) (js.map PyData.int) out (o::ρ)=some (out++(js.filter p).map PyData.int,P::ρ)
 |[],out,o,_=>⟨o,by rw[List.filter_nil,aay,aap];rfl⟩
 |j::js,out,o,h=>by
  have X:=h j aag;have W:=λk F=>h k (aaf _ F);have i:bo (.nm 0) (.fz (.int j)) (o::ρ)=some (re j::ρ):=by rfl
  cases m:p j with
  |false=>rw[m]at X;obtain⟨P,e⟩:=eU W;refine⟨P,bs (E3 i X) ?_⟩;rw[e,aap,ab0 (by grind)]
  |true=>rw[m]at X;obtain⟨P,e⟩:=eU W;refine⟨P,bs (EZ i X rfl rfl) ?_⟩;rw[e,abZ m,aab];rfl
theorem IY(r:R):r.jm=(decide (r.wd=am)||decide (r.wd=bi)):=by cases r<;>rfl
theorem AX(n:ev C e ρ=some (.val (Rd r),ρ))(h:oz o (.str r.wd) (.str x)=some k):ev C (.cmp o (.ix e (.int 0)) (.str x)) ρ=some (.val (.fz (.bool k)),ρ):=aq (ax n rfl rfl (by show bF ρ (.val (.fz r.d)) 0=_;rw[R.w4];exact aN aO)) rfl rfl rfl h
theorem IZ(r:R):pl.pg.call (n+1) 1 [Rd r]=some (.fz (.bool r.jm),[Rd r]):=by
 have O:∀x:Str,ev (xL n) (.cmp .eq eer (.str x)) [sK r]=some (.val (.fz (.bool (decide (r.wd=x)))),[sK r]):=λx=>AX rfl rfl;refine ai (ρ:=[sK r]) rfl rfl (ak (ag (x:=.val (.fz (.bool r.jm))) ?_ rfl)) rfl;rw[IY];have N:=O am;cases S:decide (r.wd=am) with
 |true=>rw[S]at N;exact B5 N
 |false=>rw[S]at N;exact mB N (O bi)
def jIx:Int->List R->List Int
 |_,[]=>[]
 |i,r::rs=>if r.jm=true then i::jIx (i+1) rs else jIx (i+1) rs
theorem jIx_mem:∀{rs:List R}{i a:Int},a∈jIx i rs->∃(j:Nat) (r:R),a=i+j/\rs[j]?=some r/\r.jm=true
 |[],i,a,h=>by trivial
 |r::rs,i,a,h=>by
  rw[jIx]at h;by_cases N:r.jm=true
  ·rw[if_pos N]at h;rcases aaa.mp h with rfl|h
   ·exact⟨0,r,by lia,rfl,N⟩
   ·obtain⟨j,q,e,O,Z⟩:=jIx_mem h;exact⟨j+1,q,by grind,O,Z⟩
  ·rw[if_neg N]at h;obtain⟨j,q,e,O,Z⟩:=jIx_mem h;exact⟨j+1,q,by grind,O,Z⟩
theorem eV:∀{rs:List R}{i:Int},(jIx i rs).length=(rs.filter R.jm).length
 |[],i=>rfl
 |r::rs,i=>by
  rw[jIx];by_cases N:r.jm=true
  ·rw[if_pos N,abZ N,aaD,aaD,eV]
  ·rw[if_neg N,ab0 N,eV]
theorem kX:∀{rs:List R}{i:Int}{out:List PyData}{B X:Option OD},∃p,cG (cP (xL (n+1)) (.tp [0,1]) (.some ed1) (.nm 0)) (enF i rs) out [B,X]=some (out++(jIx i rs).map PyData.int,p)
 |[],i,out,B,X=>⟨[B,X],by rw[jIx,aay,aap];rfl⟩
 |r::rs,i,out,B,X=>by
  have U:aL (xL (n+1)) ed1 [re i,sK r]=some (r.jm,[re i,sK r]):=bx (af rfl rfl (IZ r) rfl);rw[jIx];cases N:r.jm with
  |false=>rw[N]at U;obtain⟨p,e⟩:=kX;refine⟨p,bs (E3 rfl U) ?_⟩;rw[if_neg aar,e,aap]
  |true=>rw[N]at U;obtain⟨p,e⟩:=kX;refine⟨p,bs (EZ rfl U rfl rfl) ?_⟩;rw[if_pos rfl,e,aab];rfl
theorem rA(D:rs.length<=1000):pl.pg.call (n+2) 3 [Rl rs]=some (Il (jIx 0 rs),[Rl rs]):=by obtain⟨p,e⟩:=kX;rw[aaI,<-rl]at e;refine ai rfl rfl (ak (ag (dm (xA rfl rfl) (by rw[fZ,aae];lia) rfl e unca_nil) (by rw[fb];rfl))) rfl
def farN(r:R)(hop:Int):Int:=if r.wd=bi then (if 99<hop then 99 else hop) else hop
theorem I0:pl.pg.call (n+1) 26 [Rd r,It hop]=some (It (farN r hop),[Rd r,It hop]):=by
 have U:aL (xL n) ecu [sK r,re hop]=some (decide (r.wd=bi),[sK r,re hop]):=ar (AX rfl rfl);unfold farN;refine ai (ρ:=[sK r,re hop]) rfl rfl (ak (ag (x:=.val (It _)) ?_ rfl)) rfl;by_cases h:r.wd=bi
 ·rw[Dac h]at U;rw[if_pos h];exact cH U rfl
 ·rw[Dab h]at U;rw[if_neg h];exact cb U rfl
abbrev fin(f:Cf)(qs:Pz):Mc:=inner f qs f.rows.length (mac f qs f.rows.length)
theorem fS{f:Cf}{qs:Pz}:(fin f qs).ps.length=f.rows.length:=by rw[bU,eT]
def xT(s:Mc)(r:R)(k:Nat):Int:=(s.ps++[s.pl]).getD r.tg.toNat 0-s.ps.getD k 0
def tq(f:Cf)(s:Mc)(hop a:Int):Bool:=(f.rows[a.toNat]?).elim false λr=>decide (farN r hop<if xT s r a.toNat<0 then -(xT s r a.toNat) else xT s r a.toNat)
def tsF(f:Cf)(qs:Pz)(hop:Int):List Int:=((jIx 0 f.rows).filter λa=>!decide (a∈f.longs)).filter (tq f (fin f qs) hop)
theorem atI_last{Y:Type}{xs:List Y}{x:Y}:atI (xs++[x]) (-1)=some x:=by
 have e:ixN (xs++[x]).length (-1)=some xs.length:=by
  unfold ixN
  grind
 exact bs e acl
theorem atI_get{Y:Type}{g:Int->Y}{gs:List Int}{i:Int}(T:0<=i)(O:i<gs.length):atI (gs.map g) i=some (g (gs.getD i.toNat 0)):=by
 have e:i=(i.toNat:Int):=by omega
 have j:i.toNat<gs.length:=by omega
 rw[e];refine cf ?_;rw[aaz,aaM,aam j,abe,aam j];rfl
theorem xU{C:Ct}{r:R}{ρ:DEnv}{e:E}{N:Int}(n:ev C e ρ=some (.val (Rd r),ρ))(I:Jok N r)(u:r.jm=true):ev C (.ix e (.neg (.int 1))) ρ=some (.val (It r.tg),ρ):=by obtain⟨_,_,o,W⟩:=I u;exact ax n rfl rfl (by show bF ρ (.val (.fz r.d)) (-1)=_;rw[W];exact aN atI_last)
abbrev iE(f:Cf)(s:Mc)(hop a:Int):DEnv:=[re a,re hop,ut f.rows,some (Il (s.ps++[s.pl])),wP s.ps]
abbrev iT:E:=.cmp .gt ear ebm
theorem t_ts{n k:Nat}{f:Cf}{s:Mc}{hop:Int}{r:R}(I:Jb f.rows.length f.rows)(j:s.ps.length=f.rows.length)(h:f.rows[k]?=some r)(W:r.jm=true):aL (xL (n+1)) iT (iE f s hop k)=some (tq f s hop k,iE f s hop k):=by
 have D:=I r (aax h);obtain⟨c,H,_⟩:=D W;have F:k<f.rows.length:=(aai.mp h).1;have u:ev (xL (n+1)) Ln (iE f s hop k)=some (.val (Rd r),iE f s hop k):=ax rfl rfl rfl (aR (dH h));have L:ev (xL (n+1)) Ma (iE f s hop k)=some (.val (It ((s.ps++[s.pl]).getD r.tg.toNat 0)),iE f s hop k):=ax rfl (xU u D W) rfl (aW rfl (atI_get c (by rw[aak,j,aaR];omega)));have J:ev (xL (n+1)) (.ix (.nm 4) (.nm 0)) (iE f s hop k)=some (.val (It (s.ps.getD k 0)),iE f s hop k):=ax rfl rfl rfl (aR (atI_get (i:=(k:Int)) (by omega) (by omega)));have q:tq f s hop k=decide (farN r hop<if xT s r k<0 then -(xT s r k) else xT s r k):=by unfold tq;rw[aaM,h];rfl
 rw[q];exact ar (aq (aJ (aa (ah L J rfl rfl rfl) aj) rfl rfl) (af (aa u (aa rfl aj)) rfl I0 rfl) rfl rfl rfl)
theorem xV{ps:List Int}{p:Int}:(OD.lst ((ps.map PyData.int++[PyData.int p]).map OD.fz))=Il (ps++[p]):=by have e:(ps++[p]).map PyData.int=ps.map PyData.int++[PyData.int p]:=aaE;rw[Il,<-fb,e]
theorem AY{n:Nat}{f:Cf}{qs:Pz}{hop:Int}(m:qs.Pairwise λx y=>x.1<y.1)(T:∀q∈qs,0<=q.1)(A:qs.length<=300)(u:f.rows.length<=200)(I:Jb f.rows.length f.rows):pl.pg.call (n+5) 27 [Rl f.rows,Lo f,Pq qs,It hop]=some (Il (tsF f qs hop),[Rl f.rows,Lo f,Pq qs,It hop]):=by
 have d:pl.pg.call (n+4) 16 [Rl f.rows,Lo f,Pq qs]=some (IW (fin f qs),[Rl f.rows,Lo f,Pq qs]):=rq (n:=n) m T A u;have c:=fS (f:=f) (qs:=qs);unfold tsF;generalize fin f qs=s at *;obtain⟨X,g⟩:=eU (C:=xL (n+4)) (t:=.cmp .nin (.nm 0) (.nm 1)) (p:=λa=>!decide (a∈f.longs)) (ρ:=[wr f]) (js:=jIx 0 f.rows) (out:=[]) (o:=none) λj _=>ar (aq rfl rfl rfl rfl ninL);have Y:∀j∈(jIx 0 f.rows).filter (λa=>!decide (a∈f.longs)),aL (xL (n+4)) iT (re j::[re hop,ut f.rows,some (Il (s.ps++[s.pl])),wP s.ps])=some (tq f s hop j,re j::[re hop,ut f.rows,some (Il (s.ps++[s.pl])),wP s.ps]):=λj W=>by obtain⟨k,r,e,O,Z⟩:=jIx_mem (aaV.mp W).1;rw[abd]at e;subst e;exact t_ts I c O Z
 have S:((jIx 0 f.rows).filter (λa=>!decide (a∈f.longs))).length<=1000:=aan (abl _ _) (by rw[eV];grind);generalize (jIx 0 f.rows).filter (λa=>!decide (a∈f.longs))=js at *;obtain⟨l,F⟩:=eU (C:=xL (n+4)) (t:=iT) (p:=tq f s hop) (ρ:=[re hop,ut f.rows,some (Il (s.ps++[s.pl])),wP s.ps]) (js:=js) (out:=[]) (o:=none) Y;rw[aaI]at g F;have H:(xL (n+4)).call=pl.pg.call (n+4):=rfl;rw[<-H]at d;have U:=rA (n:=n+2) (rs:=f.rows) (by lia);rw[<-H]at U;have w:(jIx 0 f.rows).length<1000000:=by rw[eV];grind
 refine ai (fn:=gE) (ρ:=[ut f.rows,wr f,ww qs,re hop,wP s.ps,wP s.bs,re s.pl,some (Il (s.ps++[s.pl])),wP js]) rfl rfl ?_ rfl;refine ab (s_asgQ (ρ3:=[ut f.rows,wr f,ww qs,re hop,wP s.ps,wP s.bs,re s.pl,none,none]) (af (ρ3:=[ut f.rows,wr f,ww qs,re hop,none,none,none,none,none]) rfl rfl d rfl) rfl rfl) ?_;refine ab (ae (ρ3:=[ut f.rows,wr f,ww qs,re hop,wP s.ps,wP s.bs,re s.pl,some (Il (s.ps++[s.pl])),none]) (qX rfl (bZ (aa rfl aj) rfl rfl) rfl rfl (by grind)) rfl rfl (by rw[xV];rfl)) ?_;refine ab (ae (ρ3:=[ut f.rows,wr f,ww qs,re hop,wP s.ps,wP s.bs,re s.pl,some (Il (s.ps++[s.pl])),some (Il js)]) (dm (ρ2:=[ut f.rows,wr f,ww qs,re hop,wP s.ps,wP s.bs,re s.pl,some (Il (s.ps++[s.pl])),none]) (cy (af (ρ3:=[ut f.rows,wr f,ww qs,re hop,wP s.ps,wP s.bs,re s.pl,some (Il (s.ps++[s.pl])),none]) rfl rfl U rfl) (by show (Il _).dat.map _=_;rw[aA];rfl) rfl) (by rw[aae];exact w) rfl g rfl) rfl rfl (by rw[fb];rfl)) ?_;exact ak (ag (z:=Il (js.filter (tq f s hop))) (dm (ρ2:=[ut f.rows,wr f,ww qs,re hop,wP s.ps,wP s.bs,re s.pl,some (Il (s.ps++[s.pl])),wP js]) (cy rfl (frz_rf rfl (aA _) rfl) rfl) (by rw[aae];lia) rfl F rfl) (by rw[fb];rfl))
abbrev Sm(n:Nat)(d:PyData):Prop:=pl.pg.call (n+1) 49 [.fz d,.fz d]=some (.fz (.bool true),[.fz d,.fz d])
theorem AZ:Sm n (.int a):=by have h:ev (xL n) eek [re a,re a]=some (.val (.fz (.bool true)),[re a,re a]):=aq rfl rfl rfl rfl (show some (decide (a=a))=some true by simp);exact ai rfl rfl (ab (s_ifF rfl rfl) (ab (s_ifF rfl rfl) (ab (s_ifF rfl rfl) (ak (ag (iN rfl (iN rfl h)) rfl))))) rfl
theorem m4:∀m:Nat,allB (List.replicate m (.bool true))=some (List.replicate m true)
 |0=>rfl
 |m+1=>by rw[aa3,allB,m4 m];rfl
theorem A6:zL .all [.list (List.replicate m (.bool true))]=some (.bool true):=by show (allB (List.replicate m (.bool true))).bind _=_;rw[m4];simp
theorem xW:eW ρ [.val (.lst (ds.map OD.fz))]=some [.list ds]:=by have:az ρ (.val (.lst (ds.map OD.fz)))=some (.list ds):=dat_fz ds;simp only[eW,this];rfl
theorem rB:∀{ds out:List PyData}{B X:Option OD},(∀d∈ds,Sm n d)->∃O o,cG (cP (xL (n+1)) (.tp [0,1]) .none ecs) (zipD ds ds) out [B,X]=some (out++List.replicate ds.length (.bool true),[O,o])
 |[],out,B,X,_=>⟨B,X,by show some (out,_)=some (out++[],_);simp⟩
 |x::xs,out,B,X,h=>by obtain⟨P,A,e⟩:=rB λd W=>h d (aaf _ W);refine⟨P,A,bs (Az rfl (af rfl rfl (h x aag) rfl) rfl) ?_⟩;rw[aab]at e;exact e
theorem rC(j:ds.length<=100000)(h:∀d∈ds,Sm n d):Sm (n+1) (.list ds)/\Sm (n+1) (.tuple ds):=by
 obtain⟨B,X,e⟩:=rB h;rw[aaI]at e;have f:(zipD ds ds).length<1000000:=by unfold zipD;grind
 have p:∀x:PyData,tP x=some ds->jf x=some ds.length->BM .seq x=true->Sm (n+1) x:=λx O Z M=>by
  have U:=dm (nt:=2) (fr:=[]) (it:=.zip (.nm 0) (.nm 1)) (ρ:=[some (.fz x),some (.fz x)]) (oP rfl rfl rfl rfl O O) f rfl e unca_nil;have S:zL .len [x]=some (.int ds.length):=by show (jf x).bind (λn=>some (PyData.int n))=_;grind
  have l:aL (xL (n+1)) ea8 [some (.fz x),some (.fz x)]=some (false,[some (.fz x),some (.fz x)]):=ar (aq (aJ rfl rfl S) (aJ rfl rfl S) rfl rfl (show some (!decide ((ds.length:Int)=ds.length))=some false by simp));have r:∀k,aL (xL (n+1)) (.cmp .ne (.isi k (.nm 0)) (.isi k (.nm 1))) [some (.fz x),some (.fz x)]=some (false,[some (.fz x),some (.fz x)]):=λk=>ar (aq rfl rfl rfl rfl (by cases BM k x<;>rfl));have A:aL (xL (n+1)) (.isi .seq (.nm 1)) [some (.fz x),some (.fz x)]=some (true,[some (.fz x),some (.fz x)]):=by show some (BM .seq x,_)=_;rw[M]
  exact ai rfl rfl (ak (ao A (ab (s_ifF (bq (r .list) (r .tuple)) rfl) (ab (s_ifF l rfl) (ak (ag (aJ (aa U aj) xW A6) rfl)))))) rfl
 exact⟨p _ rfl rfl rfl,p _ rfl rfl rfl⟩
abbrev dPn(qs:List (Int×List Int))(us:List Int):PyData:=.tuple [.list (qs.map Po),.list (us.map PyData.int)]
theorem xX(h:Come f g k a)(h':Come f g k b):a=b:=by
 cases h with
 |put e Q l D=>
  cases h' with
  |put L _ _ _=>simp_all
  |got L H _=>simp_all
  |wait O _=>grind
 |got e l D=>
  cases h' with
  |put L _ H _=>simp_all
  |got L _ _=>rfl
  |wait _ Z=>grind
 |wait O Z=>
  cases h' with
  |put e Q l D=>grind
  |got e l D=>grind
  |wait _ _=>rfl
theorem uy(h:Cross f g k a)(h':Cross f g k b):a=b:=by
 cases e:(f.rows[k]?).elim false R.gr with
 |true=>exact xX (h.gr e) (h'.gr e)
 |false=>rw[h.no e,h'.no e]
theorem path_det(h:Path f k g a):Path f k g b->a=b:=by
 induction h with
 |nil F _=>intro v;cases v with
  |nil _ _=>rfl
  |cons H _ _ _=>lia
 |cons F _ C _ Y=>intro v;cases v with
  |nil H _=>lia
  |cons _ _ c I=>rw[uy C c]at Y;grind
def Gg(gs:List Int)(k:Nat):Prop:=gs.Pairwise (·<·)/\∀x∈gs,0<=x/\x<(k:Int)
theorem lays_inc(h:Gg g.gaps k):Gg (laysG f g k).gaps (k+1):=by
 unfold laysG;split
 ·refine⟨abk.mpr ⟨h.1,List.pairwise_singleton _ _,λx C y t=>?_⟩,λx C=>?_⟩
  ·rw[aaw.mp t];exact(h.2 x C).2
  ·rcases aaj.mp C with C|C
   ·have:=h.2 x C;lia
   ·grind
 ·exact⟨h.1,λx C=>by have:=h.2 x C;lia⟩
theorem i6(h:Cross f g k a):a.gaps=(laysG f g k).gaps:=by
 cases e:(f.rows[k]?).elim false R.gr with
 |true=>cases h.gr e<;>rfl
 |false=>rw[h.no e]
theorem m5(h:Path f k g a):Gg g.gaps k->Gg a.gaps f.rows.length:=by
 induction h with
 |nil F _=>grind
 |cons F _ C _ Y=>intro i;exact Y (by rw[i6 C];exact lays_inc i)
theorem xY:∀{rs:List R}{i:Int},(∀r∈rs,r.gr=false)->gIx i rs=[]
 |[],_,_=>rfl
 |r::rs,i,h=>by rw[gIx,h r aag,if_neg aar,xY λr D=>h r (aaf _ D)]
theorem Iv.no(I:Iv f g k m)(h:∀r∈f.rows,r.gr=false):g.us=[]/\g.wt=[]:=by have e:=I.ix;rw[xY λr D=>h r (acm D)]at e;simp_all
theorem rD(h:g.wt=[]):laysG f g k=g:=by unfold laysG due;rw[h];rfl
theorem path_no(l:∀r∈f.rows,r.gr=false)(h:Path f k g a):g.gaps=[]->a.gaps=[]/\a.wt=[]:=by
 induction h with
 |nil _ I=>intro e;exact⟨e,(I.no l).2⟩
 |cons _ I C _ Y=>intro e;exact Y (by rw[i6 C,rD (I.no l).2];exact e)
def PlanOf(f:Cf)(qs:Pz)(us:List Int):Prop:=∃g c,g=laysG f c f.rows.length/\Iv f g f.rows.length (f.rows.length+1)/\Path f 0 ⟨0,[],[],0,[],[]⟩ c/\qs=g.gaps.zip g.words/\us=g.us.map (·.2)
theorem PlanOf.one(h:PlanOf f qs us)(h':PlanOf f qs' us'):qs=qs'/\us=us':=by
 obtain⟨g,c,e,_,P,J,B⟩:=h;obtain⟨A,D,L,_,p,r,C⟩:=h';have:=path_det P p
 grind
theorem kY:∀{gs:List Int}{ws:List (List Int)},gs.Pairwise (·<·)->(gs.zip ws).Pairwise λx y=>x.1<y.1
 |[],_,_=>by simp
 |_::_,[],_=>by simp
 |g::gs,w::ws,h=>by obtain⟨O,Z⟩:=aaT.mp h;exact aaT.mpr ⟨λq A=>O _ (aaN A).1,kY Z⟩
structure Pln (f:Cf)(qs:Pz)(us:List Int):Prop where
 inc:qs.Pairwise λx y=>x.1<y.1
 nn:∀q∈qs,0<=q.1
 len:qs.length<=300
 ul:us.length<=1000
 wl:∀q∈qs,q.2.length<=1000
 no:(∀r∈f.rows,r.gr=false)->qs=[]/\us=[]
theorem PlanOf.pln(u:f.rows.length<=200)(h:PlanOf f qs us):Pln f qs us:=by
 obtain⟨g,c,e,I,P,rfl,rfl⟩:=h;have X:=m5 P ⟨List.Pairwise.nil,λx C=>absurd C aaq⟩;have i:Gg g.gaps (f.rows.length+1):=by rw[e];exact lays_inc X
 have F:=I.len;have D:=I.gl;have H:=I.h7;refine⟨kY i.1,λq A=>(i.2 _ (aaN A).1).1,by grind,by grind,λq A=>by have:=H q.2 (aaN A).2;lia,λl=>?_⟩;obtain⟨J,B⟩:=path_no l P rfl;have L:g.gaps=[]:=by rw[e,rD B];lia
 exact⟨by rw[L];rfl,by rw[(I.no l).1];rfl⟩
theorem PlanOf.ex(u:f.rows.length<=200):∃qs us,PlanOf f qs us:=by obtain⟨g,_,c,N,I,P⟩:=rm (n:=0) u;exact⟨_,_,g,c,N,I,P,rfl,rfl⟩
theorem PlanOf.call(u:f.rows.length<=200)(h:PlanOf f qs us):pl.pg.call (n+6) 25 [Rl f.rows,Lo f,Re f]=some (Pn qs us,[Rl f.rows,Lo f,Re f]):=by obtain⟨g,e,c,N,I,P⟩:=rm u;obtain⟨rfl,rfl⟩:=h.one ⟨g,c,N,I,P,rfl,rfl⟩;exact e
theorem m6:∀{l:List Int},a∈insI i l ↔ a=i\/a∈l
 |[]=>by simp[insI]
 |j::r=>by
  rw[insI];split
  ·simp
  ·rw[aaa,m6,aaa];grind
theorem sortI_mem:∀{l:List Int},a∈sortI l ↔ a∈l
 |[]=>Iff.rfl
 |j::r=>by rw[sortI,m6,sortI_mem,aaa]
theorem m7:∀{l:List Int},(insI i l).length=l.length+1
 |[]=>rfl
 |j::r=>by
  rw[insI];split
  ·rfl
  ·rw[aaD,m7];rfl
theorem jH:∀{l:List Int},(sortI l).length=l.length
 |[]=>rfl
 |j::r=>by rw[sortI,m7,jH];rfl
def free(f:Cf):List Int:=(jIx 0 f.rows).filter λa=>!decide (a∈f.longs)
abbrev nx(f:Cf)(sh:List Int):Cf:=⟨f.rows,sortI (f.longs++sh),f.r0,f.r1⟩
theorem split_len{Y:Type}{p:Y->Bool}:∀{l:List Y},(l.filter p).length+(l.filter λa=>!p a).length=l.length
 |[]=>rfl
 |x::l=>by
  have:=split_len (p:=p) (l:=l)
  grind
theorem kZ:(free (nx f (tsF f qs hop))).length+(tsF f qs hop).length<=(free f).length:=by
 have O:tsF f qs hop=(free f).filter (tq f (fin f qs) hop):=rfl;have Z:=split_len (p:=tq f (fin f qs) hop) (l:=free f);have M:(free (nx f (tsF f qs hop))).length<=((free f).filter λa=>!tq f (fin f qs) hop a).length:=by
  unfold free;rw[List.filter_filter,<-acn,<-acn];refine List.countP_mono_left λa i h=>?_;have v:a ∉ sortI (f.longs++tsF f qs hop):=by grind
  rw[sortI_mem,aaj]at v;have Y:=λz=>v (.inl z);rw[Dab Y,Bool.not_false,Bool.and_true];cases e:tq f (fin f qs) hop a with
  |false=>rfl
  |true=>exact absurd (.inr (by rw[O];exact aaV.mpr ⟨aaV.mpr ⟨i,by grind⟩,e⟩)) v
 grind
inductive Rnd (hop:Int):Nat->Cf->Cf->Prop
 |done {f:Cf}{qs:Pz}{us:List Int} (P:PlanOf f qs us) (h:tsF f qs hop=[]):Rnd hop 0 f f
 |more {k:Nat}{f f':Cf}{qs:Pz}{us:List Int} (P:PlanOf f qs us) (h:tsF f qs hop≠[]) (r:Rnd hop k (nx f (tsF f qs hop)) f'):Rnd hop (k+1) f f'
theorem xZ:∀{m:Nat}{f:Cf},(free f).length<=m->f.rows.length<=200->∃k C,k<=m/\Rnd hop k f C
 |m,f,hm,hN=>by
  obtain⟨qs,us,P⟩:=PlanOf.ex hN;by_cases h:tsF f qs hop=[]
  ·exact⟨0,f,aaB _,.done P h⟩
  ·have O:=kZ (f:=f) (qs:=qs) (hop:=hop);have Z:0<(tsF f qs hop).length:=aco.mpr h;cases m with
   |zero=>lia
   |succ m=>obtain⟨k,C,F,r⟩:=xZ (m:=m) (f:=nx f (tsF f qs hop)) (by lia) hN;exact⟨k+1,C,by lia,.more P h r⟩
structure Bd (f:Cf):Prop where
 hN:f.rows.length<=200
 h60:(f.rows.filter R.gr).length<=60
 hJ:Jb f.rows.length f.rows
 bd:f.longs.length+(free f).length<=60
theorem Bd.next(B:Bd f):Bd (nx f (tsF f qs hop)):=by
 refine⟨B.hN,B.h60,B.hJ,?_⟩;have O:=kZ (f:=f) (qs:=qs) (hop:=hop);have Z:=B.bd;show (sortI _).length+_<=60;rw[jH,aak]
 lia
theorem Bd.srt(B:Bd f):(f.longs++tsF f qs hop).length<64:=by have O:=kZ (f:=f) (qs:=qs) (hop:=hop);have Z:=B.bd;rw[aak];omega
theorem Rnd.keeps(h:Rnd hop k f f'):Bd f->Bd f'/\f'.rows=f.rows/\f'.r0=f.r0/\f'.r1=f.r1:=by
 induction h with
 |done _ _=>simp
 |more _ _ _ Y=>intro B;exact Y B.next
theorem Rnd.fin(h:Rnd hop k f f'):∃qs us,PlanOf f' qs us/\tsF f' qs hop=[]:=by
 induction h with
 |done P h=>exact⟨_,_,P,h⟩
 |more _ _ _ Y=>exact Y
theorem Fw(h:frz1 ρ r=some (d,ρ1))(k:ba ios ρ1 rs=some (xs,ρ2)):ba (false::ios) ρ (r::rs)=some (.fz d::xs,ρ2):=by simp only[ba,h,k]
theorem i7:∀{ns:List Int},gz (ns.map PyData.int)=some ns
 |[]=>rfl
 |i::ns=>by show (gz (ns.map PyData.int)).bind _=_;rw[i7];rfl
theorem rE(ls:List Int):listOf (Il ls)=some (ls.map PyData.int):=by show tm (ls.map It)=_;rw[<-fb];exact oo _
theorem I8(O:ev C a ρ=some (x,ρ1))(Z:ev C b ρ1=some (y,ρ2))(f:BI ρ2 x=some (xs.map PyData.int))(t:BI ρ2 y=some (ys.map PyData.int))(j:(xs++ys).length<64):ev C (.bnw .sorted (.cat a b)) ρ=some (.val (Il (sortI (xs++ys))),ρ2):=by have A:=j;rw[aak]at A;have h:=qX O Z f t (by grind);rw[<-aaE]at h;exact xu h (dat_fz _) i7 j
theorem pI(h:c ρ=some (false,ρ1))(l:0<n):cv c b n ρ=some (.nx,ρ1):=by
 cases n with
 |zero=>omega
 |succ n=>exact bs h rfl
theorem ya(h:c ρ=some (true,ρ1))(S:b ρ1=some (.nx,ρ2))(k:cv c b n ρ2=r):cv c b (n+1) ρ=r:=bs h (by rw[if_pos rfl];exact bs S k)
abbrev Ph(qs:Pz)(us:List Int):OD:=.tup [Pq qs,Il us]
abbrev JE(f:Cf)(qs:Pz)(us:List Int):PyData:=.tuple [.list (f.longs.map PyData.int),dPn qs us]
theorem Fx(qs:Pz)(us:List Int):(Ph qs us).dat=some (dPn qs us):=by simp only[Ph,OD.dat,OD.dd];rw[<-fb,dats_fz]
theorem A7(h:ρ[j]?.join=some (Pn qs us))(D:ρ.set j (some (Ph qs us))=ρ'):bF ρ (.rf j) 0=some (Pq qs,ρ'):=by
 have e:itemS (Pn qs us) 0=some (.list (qs.map Po),Ph qs us):=by show (match (OD.lst ((qs.map Po).map OD.fz)).dat with|some d=>some (d,OD.tup ([OD.lst ((qs.map Po).map OD.fz),Il us].set 0 (.fz d)))|none=>none)=_;rw[dat_fz];rfl
 simp only[bF,h,e,D]
abbrev sE'(f:Cf)(hop:Int)(x3:OD)(o4 o5:Option OD):DEnv:=[ut f.rows,some (Re f),re hop,some x3,o4,o5]
abbrev sT(f:Cf)(hop:Int)(qs:Pz)(us:List Int):DEnv:=sE' f hop (Lo f) (some (Ph qs us)) (some (Il (tsF f qs hop)))
abbrev sP:S':=.set 4 ebk
abbrev sQ:S':=.set 5 ea0
theorem Cd(B:Bd f)(P:PlanOf f qs us)(k:aD (xL (n+6)) ss (sT f hop qs us)=r):aD (xL (n+6)) (.cons sP (.cons sQ ss)) (sE' f hop (Il f.longs) o4 o5)=r:=by have p:=P.pln B.hN;have e:=P.call (n:=n) B.hN;have A:=AY (n:=n+1) (hop:=hop) p.inc p.nn p.len B.hN B.hJ;have H:(xL (n+6)).call=pl.pg.call (n+6):=rfl;rw[<-H]at e A;refine ab (ae (af rfl (Fw rfl (Fw (frz_rf rfl (aA _) rfl) (Fw rfl rfl))) e rfl) rfl rfl rfl) ?_;exact ab (ae (af (aa rfl (aa rfl (aa (ax rfl rfl rfl (A7 rfl rfl)) (aa rfl aj)))) rfl A rfl) rfl rfl rfl) k
abbrev sB:Ss:=.cons ecv (.cons sP (.cons sQ .nil))
theorem I9(h:ev C (.nm i) ρ=some (x,ρ))(W:az ρ x=some d)(X:lZ d=some k):aL C (.nm i) ρ=some (k,ρ):=bs h (bs W (bs X rfl))
theorem Ja(h:ev C (.nm i) ρ=some (.rf i,ρ))(r:ρ[i]?.join=some (Il ls)):aL C (.nm i) ρ=some (!ls.isEmpty,ρ):=I9 h (by show (ρ[i]?.join).bind OD.dat=_;rw[r];exact aA ls) (by cases ls<;>rfl)
theorem A8(h:Rnd hop k f f'):Bd f->∀{qs us},PlanOf f qs us->∀{fuel:Nat},k<fuel->∃q O,PlanOf f' q O/\tsF f' q hop=[]/\cv (aL (xL (n+6)) (.nm 5)) (aD (xL (n+6)) sB) fuel (sT f hop qs us)=some (.nx,sT f' hop q O):=by
 induction h with
 |@done f qs0 us0 P h=>intro B qs us p fuel y;obtain⟨rfl,rfl⟩:=P.one p;have t:=Ja (C:=xL (n+6)) (ρ:=sT f hop qs0 us0) (i:=5) rfl rfl;rw[h]at t;exact⟨_,_,P,h,pI t (by omega)⟩
 |@more k f f' qs0 us0 P h r ih=>
  intro B qs us p fuel y;obtain⟨rfl,rfl⟩:=P.one p;have t:=Ja (C:=xL (n+6)) (ρ:=sT f hop qs0 us0) (i:=5) rfl rfl;have S:(!(tsF f qs0 hop).isEmpty)=true:=by grind
  rw[S]at t;cases fuel with
  |zero=>omega
  |succ m=>
   have L:=B.next (qs:=qs0) (hop:=hop)
   obtain⟨b,T,A⟩:=PlanOf.ex L.hN;obtain⟨d,U,D,M,s⟩:=ih L A (fuel:=m) (by omega);refine⟨d,U,D,M,ya t (ab (ae (ρ3:=sE' (nx f (tsF f qs0 hop)) hop (Il (nx f (tsF f qs0 hop)).longs) (some (Ph qs0 us0)) (some (Il (tsF f qs0 hop)))) (I8 rfl rfl rfl (rE _) B.srt) rfl rfl rfl) (Cd L A rfl)) s⟩
theorem jI(h:Rnd hop k f f')(B:Bd f)(j:f.longs=[])(F:k<100000):∃qs us,PlanOf f' qs us/\tsF f' qs hop=[]/\pl.pg.call (n+7) 28 [Rl f.rows,Re f,It hop]=some (.fz (JE f' qs us),[Rl f.rows,Re f,It hop]):=by
 obtain⟨b,A,p⟩:=PlanOf.ex B.hN;obtain⟨qs,us,P,g,e⟩:=A8 h B p F;obtain⟨_,u,X,J⟩:=h.keeps B;refine⟨qs,us,P,g,ai (ρ:=sE' f' hop (Lo f') (some (.fz (dPn qs us))) (some (Il (tsF f' qs hop)))) rfl rfl ?_ (by rfl)⟩;refine ab (ae (bZ aj rfl rfl) rfl rfl (by rw[j];rfl)) (Cd B p ?_);refine ab (e) ?_;exact ak (ag (bj rfl rfl (by
  have z:own1 (sT f' hop qs us) (.rf 4)=some (.fz (dPn qs us),sE' f' hop (Lo f') (some (.fz (dPn qs us))) (some (Il (tsF f' qs hop)))):=by show (frz1 _ (.rf 4)).map _=_;rw[frz_rf rfl (Fx _ _) rfl];rfl
  show (mapR own1 (sT f' hop qs us) [.rf 4]).map _=_;simp only[mapR,z];rfl) rfl) rfl)
structure Pool (N:Nat)(q:Int×List Int):Prop where
 g0:0<=q.1
 g1:q.1<=N
 l0:1<=q.2.length
 l1:q.2.length<=100
def A9(f:Cf)(a:Int):Int:=((f.rows[a.toNat]?).map R.num).getD 0
def yb(f:Cf)(qs:Pz)(z:Int×Int):Bool:=decide (A9 f z.1∈((qs[z.2.toNat]?).map (·.2)).getD [])
structure Qok (f:Cf)(qs:Pz):Prop where
 ok:∀q∈qs,Pool f.rows.length q
 inc:qs.Pairwise λx y=>x.1<y.1
abbrev Zp(z:Int×Int):PyData:=.tuple [.int z.1,.int z.2]
theorem m8:∀{gs us:List Int},zipD (gs.map PyData.int) (us.map PyData.int)=(gs.zip us).map Zp
 |[],_=>rfl
 |_::_,[]=>rfl
 |a::as,b::bs=>by have:=m8 (gs:=as) (us:=bs);unfold zipD at this ⊢;simp[*]
def Zok(f:Cf)(qs:Pz)(z:Int×Int):Prop:=z.1∈gIx 0 f.rows/\0<=z.2/\z.2<qs.length
theorem Zok.row(h:Zok f qs z):∃(i:Nat) (x y:Int),z.1=i/\i<f.rows.length/\f.rows[i]?=some (.st x y)/\A9 f z.1=y:=by
 obtain⟨j,r,e,O,Z⟩:=gIx_mem h.1;obtain⟨x,y,rfl⟩:=gr_st Z;have L:z.1=(j:Int):=by lia
 refine⟨j,x,y,L,(aai.mp O).1,O,?_⟩;unfold A9;rw[L,aaM,O];rfl
abbrev Fp(qs:Pz)(us:List Int):OD:=.fz (.tuple [.list (qs.map Po),.list (us.map PyData.int)])
abbrev wT(qs:Pz)(us:List Int):Option OD:=some (Fp qs us)
def gI:PyData->Int|.int t=>t|_=>0
def Ce:PyData->Int|.tuple (.int b::_)=>b|_=>0
def yc:PyData->Int|.tuple [_,.int i]=>i|_=>0
def cU(r:R)(p:Int)(lg:Bool)(g:PyData):List Int:=match r with
 |.st x n=>if 99<n then [5000+100*x+yc g,5000+Ce g-p] else [1000+100*x+n]
 |.ot w xs _=>if w=am then (if lg=true then [7000,gI g] else [6500+gI g-p])
  else if w=bi then (if lg=true then [9000+xs.getD 0 0,gI g] else [8100+200*xs.getD 0 0+gI g-p])
  else if w=bv then [0] else if w=hI then [4000+xs.getD 0 0]
  else if w=hR then [2000+10*xs.getD 0 0+xs.getD 1 0] else [3000+10*xs.getD 0 0+xs.getD 1 0]
def Gok(r:R)(g:PyData):Prop:=if r.gr=true then ∃b i,g=.tuple [.int b,.int i] else if r.jm=true then ∃t,g=.int t else g=.none
theorem bM{k:Nat}(h:(k:Int)<1000):yE .mul (.int (k:Int)) (.int x)=some (.int ((k:Int)*x)):=cJ (.inl ⟨by lia,by lia⟩)
abbrev Mj(r:R)(p:Int)(lg:Bool)(g:PyData)(o4 o5 o6:Option OD):DEnv:=[sK r,re p,some (.fz (.bool lg)),some (.fz g),o4,o5,o6]
theorem Fy(D:r.ok)(W:r.jm=true):pl.pg.call (n+1) 5 [Rd r,It p,.fz (.bool lg),It t]=some (Il (cU r p lg (.int t)),[Rd r,It p,.fz (.bool lg),It t]):=by
 cases r with
 |st x k=>cases W
 |ot w Y h=>
  cases D with
  |sum _ _=>cases W
  |less _ _=>cases W
  |tell _=>cases W
  |stop=>cases W
  |go a=>
   cases lg with
   |true=>rfl
   |false=>rfl
  |nil a b=>
   cases lg with
   |true=>rfl
   |false=>rfl
theorem FA(D:r.ok)(N:Gok r g):pl.pg.call (n+2) 6 [Rd r,It p,.fz (.bool lg),.fz g]=some (Il (cU r p lg g),[Rd r,It p,.fz (.bool lg),.fz g]):=by
 have H:∀{l z y:Option OD},aL (xL (n+1)) ed2 (Mj r p lg g l z y)=some (r.gr,Mj r p lg g l z y):=bx (af rfl rfl (AI r) rfl);cases r with
 |st x k=>
  by_cases h:99<k
  ·have e:(R.st x k).gr=true:=Dac h;unfold Gok at N;rw[if_pos e]at N;obtain⟨b,i,rfl⟩:=N;rw[e]at H;have u:cU (R.st x k) p lg (.tuple [.int b,.int i])=[5000+100*x+i,5000+b-p]:=if_pos h;rw[u];exact ai rfl rfl (ab (ae rfl rfl rfl rfl) (ab (s_ifF rfl rfl) (ab (s_ifF rfl rfl) (ak (ao H (ab (s_asgQ rfl rfl rfl) (ak (ag (bZ (aa (ah (ah rfl (ah rfl rfl rfl rfl (bM (by decide))) rfl rfl rfl) rfl rfl rfl rfl) (aa (ah (ah rfl rfl rfl rfl rfl) rfl rfl rfl rfl) aj)) rfl rfl) rfl)))))))) rfl
  ·have e:(R.st x k).gr=false:=Dab h;rw[e]at H;have u:cU (R.st x k) p lg g=[1000+100*x+k]:=if_neg h;rw[u];exact ai rfl rfl (ab (ae rfl rfl rfl rfl) (ab (s_ifF rfl rfl) (ab (s_ifF rfl rfl) (ab (s_ifF H rfl) (ak (ao rfl (ak (ag (bZ (aa (ah (ah rfl (ah rfl rfl rfl rfl (bM (by decide))) rfl rfl rfl) rfl rfl rfl rfl) aj) rfl rfl) rfl)))))))) rfl
 |ot w Y h=>
  have e:(R.ot w Y h).gr=false:=rfl;rw[e]at H;have U:(R.ot w Y h).jm=true->(xL (n+1)).call 5 [Rd (R.ot w Y h),It p,.fz (.bool lg),.fz g]=some (Il (cU (R.ot w Y h) p lg g),[Rd (R.ot w Y h),It p,.fz (.bool lg),.fz g]):=λW=>by unfold Gok at N;rw[if_neg (by grind),if_pos W]at N;obtain⟨t,rfl⟩:=N;exact Fy D W
  cases D with
  |sum a b=>rfl
  |less a b=>rfl
  |tell a=>rfl
  |stop=>rfl
  |go a=>exact ai rfl rfl (ab (ae rfl rfl rfl rfl) (ab (s_ifF rfl rfl) (ak (ao (gC rfl) (ak (ag (af rfl rfl (U rfl) rfl) rfl)))))) rfl
  |nil a b=>exact ai rfl rfl (ab (ae rfl rfl rfl rfl) (ab (s_ifF rfl rfl) (ak (ao (bq rfl rfl) (ak (ag (af rfl rfl (U rfl) rfl) rfl)))))) rfl
theorem xtI(T:ρ[i]?.join=some (Il zs))(h:ev C e ρ=some (.val (Il ys),ρ1))(O:ρ1[i]?.join=some (Il xs))(j:xs.length+ys.length<=1000000)(N:ρ1.set i (some (Il (xs++ys)))=ρ2):bG C (.agl i e) ρ=some (.nx,ρ2)/\bG C (.agl i e) ρ=some (.nx,ρ2):=by
 have p:(ρ[i]?.join).bind (λD=>(nF D).bind λ_=>(ev C e ρ).bind λx=>(KI x.1).bind λys=>(x.2[i]?.join).bind λH=>(nF H).bind λxs=>(gd (xs.length+ys.length<=1000000)).bind λ_=>some (Fl.nx,x.2.set i (some (.lst (xs++ys)))))=some (.nx,ρ2):=
  bs T (bs rfl (bs h (bs rfl (bs O (bs rfl (bg (by grind) (by
   grind)))))))
 trivial
def hal(ws:List Int):List Int:=ws.flatMap λw=>[w/10000,w%10000]
def ovL(rs:List R)(k:Nat)(ws:List Int)(b:Int):List Int:=if pw rs k=true then [7001,b+2*ws.length] else []
def padL(p:Int):List Int:=if p%2=0 then [7002] else []
def poolC(rs:List R)(k:Nat)(ws:List Int)(p:Int):List Int:=ovL rs k ws (fw rs k p)++(padL (p+(ovL rs k ws (fw rs k p)).length)++((7100+(ws.length:Int))::hal ws))
theorem gP:∀{ws:List Int},(hal ws).length=2*ws.length
 |[]=>rfl
 |w::ws=>by show ([w/10000,w%10000]++hal ws).length=_;rw[aak,gP];grind
theorem gQ:(ovL rs k ws b).length=if pw rs k=true then 2 else 0:=by unfold ovL;split<;>rfl
theorem yd:((padL p).length:Int)=1-p%2:=by
 unfold padL
 grind
theorem jJ:p+(poolC rs k ws p).length=fw rs k p+2*ws.length:=by
 unfold poolC;rw[aak,aak,aaD,gP];have h:=yd (p:=p+(ovL rs k ws (fw rs k p)).length);rw[gQ]at h ⊢;unfold fw
 grind
abbrev Tn'(ws:List Int):OD:=.fz (.tuple (ws.map PyData.int))
theorem FB{ws:List Int}:zL .len [.tuple (ws.map PyData.int)]=some (.int (ws.length:Int)):=by show some (PyData.int ((ws.map PyData.int).length:Nat))=_;simp
abbrev pcE(rs:List R)(k:Nat)(ws:List Int)(p:Int)(o4 o5 o6:Option OD):DEnv:=[ut rs,re k,some (Tn' ws),re p,o4,o5,o6]
abbrev MS:Ss:=.cons ea1 .nil
theorem rG:∀{ws xs:List Int}{o6:Option OD},xs.length+2*ws.length<=1000->∃P,bS (λd Y=>(bo (.nm 6) (.fz d) Y).bind λρ1=>aD (xL n) MS ρ1) (ws.map PyData.int) (pcE rs k ws0 p o4 (some (Il xs)) o6)=some (.nx,pcE rs k ws0 p o4 (some (Il (xs++hal ws))) P)
 |[],xs,o6,_=>⟨o6,by show some (Fl.nx,_)=some (Fl.nx,pcE rs k ws0 p o4 (some (Il (xs++[]))) o6);simp⟩
 |w::ws,xs,o6,h=>by rw[aaD]at h;obtain⟨P,e⟩:=rG (ws:=ws) (xs:=xs++[w/10000,w%10000]) (by grind);refine⟨P,bs (bs rfl (ab (xtI (ρ1:=pcE rs k ws0 p o4 (some (Il xs)) (re w)) rfl (bZ (aa (ah rfl rfl rfl rfl (iU (by decide))) (aa (ah rfl rfl rfl rfl (br (by decide))) aj)) rfl rfl) rfl (by grind) rfl).2 rfl)) (e.trans ?_)⟩;rw[aab];rfl
theorem Ba{rs:List R}(F:k<=rs.length)(Q:ws.length<=100):pl.pg.call (n+4) 29 [Rl rs,It k,Tn' ws,It p]=some (Il (poolC rs k ws p),[Rl rs,It k,Tn' ws,It p]):=by
 have u:=gM (n:=n) (p:=p) F;have d:=xG (n:=n+1) F;have H:(xL (n+3)).call=pl.pg.call (n+3):=rfl;rw[<-H]at u d;unfold poolC;obtain⟨b,S⟩:∃b,b=fw rs k p:=⟨_,rfl⟩
 rw[<-S]at u ⊢;obtain⟨xs,C⟩:∃xs,xs=ovL rs k ws b:=⟨_,rfl⟩
 have l:xs.length<=2:=by rw[C,gQ];grind
 have e:bG (xL (n+3)) eae (pcE rs k ws p (re b) (some (Il [])) none)=some (.nx,pcE rs k ws p (re b) (some (Il xs)) none):=by
  have B:aL (xL (n+3)) ecp (pcE rs k ws p (re b) (some (Il [])) none)=some (pw rs k,pcE rs k ws p (re b) (some (Il [])) none):=bx (af rfl rfl d rfl);rw[C];unfold ovL;cases T:pw rs k with
  |false=>rw[T]at B;exact s_ifF B rfl
  |true=>rw[T]at B;exact ao B (ab (xtI (ys:=[7001,b+2*ws.length]) rfl (bZ (aa rfl (aa (ah rfl (ah rfl (aJ rfl rfl FB) rfl rfl (bM (by decide))) rfl rfl rfl) aj)) rfl rfl) rfl (by show 0+2<=1000000;decide) rfl).2 rfl)
 have c:bG (xL (n+3)) eal (pcE rs k ws p (re b) (some (Il xs)) none)=some (.nx,pcE rs k ws p (re b) (some (Il (xs++padL (p+xs.length)))) none):=by
  have j:zL .len [.list (xs.map PyData.int)]=some (.int (xs.length:Int)):=by show some (PyData.int ((xs.map PyData.int).length:Nat))=_;rw[aae]
  have r:aL (xL (n+3)) Me (pcE rs k ws p (re b) (some (Il xs)) none)=some (decide (p+xs.length+1<b),pcE rs k ws p (re b) (some (Il xs)) none):=ar (aq (ah (ah rfl (aJ rfl (jC (aA xs)) j) rfl rfl rfl) rfl rfl rfl rfl) rfl rfl rfl rfl);have W:(p+xs.length+1<b) ↔ (p+xs.length)%2=0:=by
   rw[C,gQ,S];unfold fw;simp only;cases pw rs k with
   |false=>simp only[Bool.false_eq_true,↓reduceIte];push_cast;lia
   |true=>simp only[↓reduceIte];push_cast;lia
  unfold padL;by_cases h:p+xs.length+1<b
  ·rw[Dac h]at r;rw[if_pos (W.mp h)];exact ao r (ab (bI rfl rfl rfl rfl (by rw[aae];lia) (by unfold pcE;rw[cK ];rfl)) rfl)
  ·rw[Dab h]at r;rw[if_neg (λz=>h (W.mpr z)),aap];exact s_ifF r rfl
 have v:(padL (p+xs.length)).length<=1:=by unfold padL;split<;>simp
 rw[<-C];generalize padL (p+xs.length)=ys at *;obtain⟨y,N⟩:=rG (ws:=ws) (xs:=xs++ys++[7100+(ws.length:Int)]) (by rw[aak,aak];show _+1+_<=_;lia);have f:xs++ys++[7100+(ws.length:Int)]++hal ws=xs++(ys++((7100+(ws.length:Int))::hal ws)):=by simp
 rw[f]at N;refine ai (ρ:=(pcE rs k ws p (re b) (some (Il [])) y).set 5 none) rfl rfl ?_ rfl;refine ab (ae (af rfl rfl u rfl) rfl rfl rfl) ?_;refine ab (ae (bZ aj rfl rfl) rfl rfl rfl) ?_;refine ab e (ab c (ab (bI (ρ3:=pcE rs k ws p (re b) (some (Il (xs++ys++[7100+(ws.length:Int)]))) none) rfl (ah rfl (aJ rfl rfl FB) rfl rfl rfl) rfl rfl (by rw[aae,aak];lia) (by unfold pcE;rw[cK (ns:=xs++ys)];rfl)) ?_));exact ab (eB (cy rfl rfl rfl) N) (ak (ag rfl rfl))
abbrev dK(L:List (Int×PyData)):List Key:=L.map λz=>.inl z.1
abbrev dV(L:List (Int×PyData)):List OD:=L.map λz=>.fz z.2
abbrev Gd(L:List (Int×PyData)):OD:=.dic (dK L) (dV L)
theorem k5(h:a ∉ L.map (·.1)):putKey (.inl a) d (dK L) (dV L)=(dK (L++[(a,d)]),dV (L++[(a,d)])):=by
 have l:¬ ((dK L).any λq=>decide (q=.inl a))=true:=by
  grind
 unfold putKey
 grind
theorem pJ:∀{L:List (Int×PyData)},dgV (dK L) (dV L) (.inl a)=some (((L.find? λz=>decide (z.1=a)).map (·.2)).getD .none)
 |[]=>rfl
 |z::L=>by
  have Y:=pJ (a:=a) (L:=L);unfold dgV at Y ⊢;rw[dK,dV,aal,aal,aaQ,aaW];by_cases h:z.1=a
  ·have O:decide ((Sum.inl z.1:Key)=.inl a)=true:=Dac (by rw[h]);rw[O,Dac h];rfl
  ·have O:decide ((Sum.inl z.1:Key)=.inl a)=false:=Dab λe=>h (ab3 e);rw[O,Dab h];simp only[Bool.false_eq_true,↓reduceIte];cases y:(dK L).findIdx? (λq=>decide (q=.inl a)) with
   |none=>rw[y]at Y;exact Y
   |some j=>rw[y]at Y;exact Y
theorem Cg(Q:(L.map (·.1)).Nodup)(h:(a,d)∈L):dgV (dK L) (dV L) (.inl a)=some d:=by
 rw[pJ];congr 1;induction L with
 |nil=>cases h
 |cons z L Y=>
  grind
theorem FC(h:a ∉ L.map (·.1)):dgV (dK L) (dV L) (.inl a)=some .none:=by
 rw[pJ,List.find?_eq_none.mpr λz d=>by
  grind]
 rfl
theorem ye{g:Int->PyData}:∀{js:List Int}{L:List (Int×PyData)}{o:Option OD},(∀j∈js,ev C ve (re j::ρ)=some (.val (.fz (g j)),re j::ρ))->(L.map (·.1)++js).Nodup->∃P,eZ (l7 C (.nm 0) (.nm 0) ve) (js.map PyData.int) (dK L,dV L) (o::ρ)=some ((dK (L++js.map λj=>(j,g j)),dV (L++js.map λj=>(j,g j))),P::ρ)
 |[],L,o,_,_=>⟨o,by show some ((dK L,dV L),_)=some ((dK (L++[]),dV (L++[])),_);simp⟩
 |j::js,L,o,h,nd=>by
  have l:=λz=>(aau.mp nd).2.2 j z j aag rfl;have A:((L++[(j,g j)]).map (·.1)++js).Nodup:=by grind
  obtain⟨P,e⟩:=ye (λk F=>h k (aaf _ F)) A;rw[aab]at e;have i:bo (.nm 0) (.fz (.int j)) (o::ρ)=some (re j::ρ):=by rfl
  refine⟨P,bs (x:=((dK (L++[(j,g j)]),dV (L++[(j,g j)])),re j::ρ)) (bs i (bs rfl (bs (h j aag) (bs rfl (bs rfl (bs rfl ?_)))))) e⟩;rw[k5 l]
abbrev wdL(qs:Pz):List (Int×PyData):=qs.map λq=>(q.1,.tuple (q.2.map PyData.int))
theorem yf:∀{qs ps:Pz}{B X:Option OD},(ps++qs).Pairwise (λx y=>x.1<y.1)->∃O o,eZ (l7 C (.tp [0,1]) (.nm 0) (.nm 1)) (qs.map Po) (dK (wdL ps),dV (wdL ps)) [B,X]=some ((dK (wdL (ps++qs)),dV (wdL (ps++qs))),[O,o])
 |[],ps,B,X,_=>⟨B,X,by rw[aap];rfl⟩
 |q::qs,ps,B,X,h=>by
  have l:q.1 ∉ (wdL ps).map (·.1):=λz=>by
   obtain⟨u,U,e⟩:=aaH.mp z;obtain⟨x,j,rfl⟩:=aaH.mp U;have:=(abk.mp h).2.2 x j q aag
   lia
  obtain⟨O,o,L⟩:=yf (ps:=ps++[q]) (by rw[aab];exact h);rw[aab]at L;refine⟨O,o,bs (x:=((dK (wdL (ps++[q])),dV (wdL (ps++[q]))),[re q.1,some (Tn' q.2)])) (bs rfl (bs rfl (bs rfl (bs rfl (bs rfl (bs rfl ?_)))))) L⟩;show some (putKey (.inl q.1) (.tuple (q.2.map PyData.int)) (dK (wdL ps)) (dV (wdL ps)),[re q.1,some (Tn' q.2)])=_;rw[k5 l];simp
theorem jIx_nodup:∀{rs:List R}{i:Int},(jIx i rs).Nodup
 |[],i=>abb
 |r::rs,i=>by
  rw[jIx];split
  ·refine aat.mpr ⟨λh=>?_,jIx_nodup⟩;obtain⟨j,q,e,_⟩:=jIx_mem h
   lia
  ·exact jIx_nodup
theorem rH:∀{a b:List R}{i:Int},jIx i (a++b)=jIx i a++jIx (i+a.length) b
 |[],b,i=>by simp[jIx]
 |r::a,b,i=>by
  have e:i+1+(a.length)=i+((r::a).length):=by grind
  rw[aaK,jIx,jIx,rH ,e]
  grind
theorem row_split(h:rs[k]?=some r):rs=rs.take k++r::rs.drop (k+1):=by obtain⟨F,e⟩:=aai.mp h;rw[<-e,<-abw F,acp]
theorem Jc{r:R}(h:r.jm=true):r.gr=false:=by
 cases r with
 |st _ _=>cases h
 |ot _ _ _=>rfl
def Gh(f:Cf)(a:Int):Int:=((f.rows[a.toNat]?).map R.tg).getD 0
def eF(s:Mc)(t:Int):Int:=(s.ps++[s.pl]).getD t.toNat 0
noncomputable def Gi(qs:Pz)(u n:Int):Int:=((((((qs[u.toNat]?).map (·.2)).getD []).findIdx? λm=>decide (m=n)).getD 0:Nat):Int)
def jK(f:Cf)(qs:Pz)(z:Int×Int):PyData:=.tuple [.int ((fin f qs).bs.getD z.2.toNat 0),.int (Gi qs z.2 (A9 f z.1))]
abbrev Lj(f:Cf)(qs:Pz):List (Int×PyData):=(jIx 0 f.rows).map λa=>(a,PyData.int (eF (fin f qs) (Gh f a)))
abbrev Lz(f:Cf)(qs:Pz)(zs:List (Int×Int)):List (Int×PyData):=zs.map λz=>(z.1,jK f qs z)
abbrev Lg(f:Cf)(qs:Pz)(us:List Int):List (Int×PyData):=Lj f qs++Lz f qs ((gIx 0 f.rows).zip us)
def k6(f:Cf)(k:Nat):Nat:=((f.rows.take k).filter R.gr).length
def gdat(f:Cf)(qs:Pz)(us:List Int)(k:Nat)(r:R):PyData:=if r.gr=true then jK f qs (k,us.getD (k6 f k) 0) else if r.jm=true then .int (eF (fin f qs) r.tg) else .none
theorem gIx_at(h:f.rows[k]?=some r)(N:r.gr=true):(gIx 0 f.rows)[k6 f k]?=some (k:Int):=by
 have F:=aaL (aai.mp h).1;have e:=row_split h;have B:gIx 0 f.rows=gIx 0 (f.rows.take k)++(k:Int)::gIx (k+1) (f.rows.drop (k+1)):=by
  conv=>lhs;rw[e]
  rw[kS,gIx,if_pos N,ab1,ab2 F,abd]
 rw[B];unfold k6;rw[<-eS ,aa4 (aac _),abA];rfl
theorem yg{f:Cf}{k:Nat}(h:f.rows[k]?=some r)(W:r.jm=true):(k:Int)∈jIx 0 f.rows:=by have F:=aaL (aai.mp h).1;rw[row_split h,rH,jIx,if_pos W,ab1,ab2 F,abd];simp
theorem rJ(U:us.length=(gIx 0 f.rows).length):(Lg f qs us).map (·.1)=jIx 0 f.rows++gIx 0 f.rows:=by
 rw[Lg,aaE,aaU,aaU];congr 1
 ·exact List.map_id _
 ·exact List.map_fst_zip (by omega)
theorem jg_nodup{rs:List R}:(jIx 0 rs++gIx 0 rs).Nodup:=aau.mpr ⟨jIx_nodup,cT,λa m b S e=>by
 subst e;obtain⟨j,r,Y,B,s⟩:=jIx_mem m;obtain⟨i,q,n,A,J⟩:=gIx_mem S;have:i=j:=by lia
 subst this;rw[B]at A;cases A;rw[Jc s]at J
 grind⟩
theorem FD{k:Nat}(U:us.length=(gIx 0 f.rows).length)(h:f.rows[k]?=some r):dgV (dK (Lg f qs us)) (dV (Lg f qs us)) (.inl (k:Int))=some (gdat f qs us k r):=by
 have Q:((Lg f qs us).map (·.1)).Nodup:=by rw[rJ U];exact jg_nodup
 unfold gdat;by_cases N:r.gr=true
 ·rw[if_pos N];have e:=gIx_at h N;have j:k6 f k<us.length:=by rw[U];exact(aai.mp e).1
  refine Cg Q (aad _ (aaH.mpr ⟨((k:Int),us.getD (k6 f k) 0),?_,rfl⟩));refine aax (i:=k6 f k) ?_;rw[abt];exact⟨e,by rw[abe,aam j];rfl⟩
 ·rw[if_neg N];by_cases W:r.jm=true
  ·rw[if_pos W];refine Cg Q (aah _ (aaH.mpr ⟨(k:Int),yg h W,?_⟩));show ((k:Int),PyData.int (eF (fin f qs) (Gh f k)))=_;unfold Gh;rw[aaM,h];rfl
  ·rw[if_neg W];refine FC λz=>?_;rw[rJ U]at z;rcases aaj.mp z with z|z
   ·obtain⟨i,q,J,B,s⟩:=jIx_mem z;have:i=k:=by omega
    subst this;rw[h]at B;cases B;exact W s
   ·obtain⟨i,q,J,B,s⟩:=gIx_mem z;have:i=k:=by omega
    subst this;rw[h]at B;cases B;exact N s
theorem gdat_ok:Gok r (gdat f qs us k r):=by
 unfold Gok gdat;by_cases N:r.gr=true
 ·rw[if_pos N,if_pos N];exact⟨_,_,rfl⟩
 ·simp_all
theorem yh{d:Nat}(T:∀q∈ps,0<=q.1)(O:∀q∈ps,q.1<(d:Int))(Z:∀q∈rs,(d:Int)<q.1):(inner f (ps++((d:Int),w)::rs) d (mac f (ps++((d:Int),w)::rs) d)).bs=(mac f ps d).bs++[fw f.rows d (mac f ps d).pl]/\(mac f ps d).bs.length=ps.length:=by
 refine⟨?_,?_⟩
 ·rw[kW (λq A=>by
   grind),gu,cA (qs:=ps) λq A e=>by grind]
  show (inner f rs d (inn f d (mac f ps d) ((d:Int),w))).bs=_;rw[cA λq A e=>by grind];unfold inn;simp
 ·rw[fA T,acq]
  grind
theorem begin_is(h:d<=N):∃t,(inner f qs N (mac f qs N)).bs=(inner f qs d (mac f qs d)).bs++t:=by
 by_cases e:d=N
 ·simp[*]
 ·obtain⟨m,rfl⟩:∃m,N=d+1+m:=⟨N-d-1,by lia⟩
  obtain⟨t,J⟩:=xP;obtain⟨u,B⟩:=i3;exact⟨t++u,by rw[B,J,aab];rfl⟩
def dN(f:Cf)(k:Nat)(qs:Pz)(cs:List Int):List Int:=qs.foldl (λcs q=>if q.1=(k:Int) then cs++poolC f.rows k q.2 cs.length else cs) cs
def CC(f:Cf)(qs:Pz)(us:List Int):Nat->List Int
 |0=>[]
 |k+1=>dN f k qs (CC f qs us k)++(f.rows[k]?).elim [] λr=>cU r (dN f k qs (CC f qs us k)).length (decide ((k:Int)∈f.longs)) (gdat f qs us k r)
theorem pK:∀{qs:Pz}{cs:List Int}{s:Mc},(cs.length:Int)=s.pl->((dN f k qs cs).length:Int)=(inner f qs k s).pl
 |[],cs,s,h=>h
 |q::qs,cs,s,h=>by
  show ((dN f k qs (if q.1=(k:Int) then cs++poolC f.rows k q.2 cs.length else cs)).length:Int)=(inner f qs k (inn f k s q)).pl;refine pK ?_;unfold inn;split
  ·have:=jJ (rs:=f.rows) (k:=k) (ws:=q.2) (p:=(cs.length))
   grind
  ·exact h
theorem m9(D:r.ok)(j:lg=true->r.jm=true):(cU r p lg g).length=if r.gr=true\/lg=true then 2 else 1:=by
 cases r with
 |st x k=>
  have T:lg=false:=by cases lg with|false=>rfl|true=>cases j rfl
  subst T;by_cases h:99<k
  ·have u:cU (R.st x k) p false g=[5000+100*x+yc g,5000+Ce g-p]:=if_pos h;rw[u,if_pos (.inl (Dac h))];rfl
  ·have u:cU (R.st x k) p false g=[1000+100*x+k]:=if_neg h;rw[u,if_neg (λz=>z.elim (λz=>h (Daa z)) aar)];rfl
 |ot w Y Q=>
  cases D with
  |go a=>cases lg<;>rfl
  |nil a b=>cases lg<;>rfl
  |sum a b=>cases lg with|false=>rfl|true=>cases j rfl
  |less a b=>cases lg with|false=>rfl|true=>cases j rfl
  |tell a=>cases lg with|false=>rfl|true=>cases j rfl
  |stop=>cases lg with|false=>rfl|true=>cases j rfl
structure Fok (f:Cf):Prop where
 ok:Nb f.rows
 jb:Jb f.rows.length f.rows
 lg:∀a∈f.longs,a∈jIx 0 f.rows
theorem Fok.jm{k:Nat}(F:Fok f)(h:f.rows[k]?=some r):decide ((k:Int)∈f.longs)=true->r.jm=true:=λz=>by
 obtain⟨i,q,J,B,s⟩:=jIx_mem (F.lg _ (Daa z))
 grind
theorem pL(F:Fok f):∀{k:Nat},k<=f.rows.length->((CC f qs us k).length:Int)=(mac f qs k).pl
 |0,_=>rfl
 |k+1,h=>by
  have Y:=pL (us:=us) F (k:=k) (qs:=qs) (by lia);have O:=pK (f:=f) (k:=k) (qs:=qs) Y;obtain⟨r,D⟩:∃r,f.rows[k]?=some r:=⟨_,aam (by lia)⟩
  show ((dN f k qs (CC f qs us k)++(f.rows[k]?).elim [] λr=>cU r (dN f k qs (CC f qs us k)).length (decide ((k:Int)∈f.longs)) (gdat f qs us k r)).length:Int)=(inner f qs k (mac f qs k)).pl+sz f k;rw[D,aak];show (((dN f k qs (CC f qs us k)).length+(cU r (dN f k qs (CC f qs us k)).length (decide ((k:Int)∈f.longs)) (gdat f qs us k r)).length:Nat):Int)=_;rw[m9 (F.ok r (aax D)) (F.jm D)];unfold sz
  grind
theorem nh{k:Nat}:∀{qs:Pz}{cs:List Int},(∀q∈qs,q.1≠(k:Int))->dN f k qs cs=cs
 |[],_,_=>rfl
 |q::qs,cs,h=>by show dN f k qs (if q.1=(k:Int) then _ else cs)=cs;rw[if_neg (h q aag)];exact nh λz d=>h z (aaf _ d)
theorem FE:dN f k (ps++qs) cs=dN f k qs (dN f k ps cs):=List.foldl_append
theorem i8{q:Int×List Int}(h:(ps++q::rs).Pairwise λx y=>x.1<y.1):(∀x∈ps,x.1<q.1)/\∀x∈rs,q.1<x.1:=by obtain⟨_,Z,M⟩:=abk.mp h;exact⟨λx C=>M x C q aag,(aaT.mp Z).1⟩
theorem Ci{f:Cf}{k:Nat}(h:(ps++((k:Int),w)::rs).Pairwise λx y=>x.1<y.1):dN f k (ps++((k:Int),w)::rs) cs=cs++poolC f.rows k w cs.length:=by obtain⟨O,Z⟩:=i8 h;rw[FE,nh (cs:=cs) λq A e=>by grind];show dN f k rs (if (k:Int)=(k:Int) then _ else cs)=_;rw[if_pos rfl,nh λq A e=>by grind]
theorem Jd{k:Nat}(T:∀q∈ps,0<=q.1)(F:k<=f.rows.length)(h:(ps++((k:Int),w)::rs).Pairwise λx y=>x.1<y.1):(fin f (ps++((k:Int),w)::rs)).bs.getD ps.length 0=fw f.rows k (mac f (ps++((k:Int),w)::rs) k).pl:=by
 obtain⟨O,Z⟩:=i8 h;obtain⟨J,B⟩:=yh T O Z;obtain⟨t,s⟩:=begin_is F;have e:mac f (ps++((k:Int),w)::rs) k=mac f ps k:=kW λq A=>by
  grind
 rw[s,J,e,abe,aab,aa4 (by grind),B,abA];rfl
theorem FF(n:ev C e ρ=some (.val (.fz d),ρ))(T:ρ[i]?.join=some (.dic ks xs))(F:ev C ke ρ=some (.val (.fz kd),ρ))(s:keyOf kd=some kk)(j:xs.length<1000000)(m:putKey kk d ks xs=(ks',xs'))(D:ρ.set i (some (.dic ks' xs'))=ρ3):bG C (.sdk i ke e) ρ=some (.nx,ρ3):=bs n (bs rfl (bs T (bs rfl (bs F (bs rfl (bs s (bs T (bs rfl (bg j (by rw[m,<-D]))))))))))
theorem FG{ns:List Int}(O:ev C a ρ=some (.val (.fz (.tuple (ns.map PyData.int))),ρ1))(Z:ev C b ρ1=some (y,ρ2))(W:az ρ2 y=some (.int n))(u:(ns.findIdx? λm=>decide (m=n))=some j):ev C (.idx a b) ρ=some (.val (.fz (.int j)),ρ2):=bs O (bs rfl (bs Z (bs W (bs rfl (bs i7 (bs u rfl))))))
theorem Je(A:qs[u.toNat]?=some q)(Y:n∈q.2):∃j:Nat,(q.2.findIdx? λm=>decide (m=n))=some j/\Gi qs u n=j:=by
 obtain⟨j,W⟩:∃j,(q.2.findIdx? λm=>decide (m=n))=some j:=aa1.mp (by
  grind)
 refine⟨j,W,?_⟩;unfold Gi
 grind
abbrev hE(f:Cf)(qs:Pz)(us:List Int)(s:Mc)(o9 o10 o11:Option OD):DEnv:=[ut f.rows,wr f,wT qs us,ww qs,wP us,wP s.ps,wP s.bs,re s.pl,some (Il (s.ps++[s.pl])),o9,o10,o11]
abbrev hV:E:=.tup eao
abbrev hB:Ss:=.cons (.sdk 9 (.nm 10) hV) .nil
theorem mem_of(d:Zok f qs z)(Y:yb f qs z=true):∃q,qs[z.2.toNat]?=some q/\A9 f z.1∈q.2:=by
 obtain⟨_,T,O⟩:=d;have j:z.2.toNat<qs.length:=by omega
 refine⟨qs[z.2.toNat],aam j,?_⟩;have:=Daa Y;rw[aam j]at this;exact this
theorem Lv(S:(fin f qs).bs.length=qs.length)(m:Zok f qs z)(Y:yb f qs z=true):ev (xL n) hV (hE f qs us (fin f qs) o9 (re z.1) (re z.2))=some (.val (.fz (jK f qs z)),hE f qs us (fin f qs) o9 (re z.1) (re z.2)):=by
 obtain⟨i,x,y,J,r,D,l⟩:=m.row;obtain⟨q,A,P⟩:=mem_of m Y;obtain⟨j,W,Q⟩:=Je A P;obtain⟨_,T,O⟩:=m;unfold jK;rw[Q];have B:ev (xL n) L3 (hE f qs us (fin f qs) o9 (re z.1) (re z.2))=some (.val (.fz (.tuple (q.2.map PyData.int))),hE f qs us (fin f qs) o9 (re z.1) (re z.2)):=by
  refine ax (ax rfl rfl rfl (aR (d:=Po q) ?_)) rfl rfl (aN (cf rfl));have e:z.2=(z.2.toNat:Int):=by lia
  rw[e];exact cf (by grind)
 have u:ev (xL n) LZ (hE f qs us (fin f qs) o9 (re z.1) (re z.2))=some (.val (It (A9 f z.1)),hE f qs us (fin f qs) o9 (re z.1) (re z.2)):=by rw[l];refine ax (ax rfl rfl rfl (aR (d:=(R.st x y).d) ?_)) rfl rfl (aN (cf rfl));rw[J];exact dH D
 exact bj (aa (ax rfl rfl rfl (aR (atI_get T (by grind)))) (aa (FG B u rfl W) aj)) rfl rfl rfl
theorem rK(S:(fin f qs).bs.length=qs.length):∀{zs:List (Int×Int)}{L:List (Int×PyData)}{N o:Option OD},(∀z∈zs,Zok f qs z/\yb f qs z=true)->(L.map (·.1)++zs.map (·.1)).Nodup->L.length+zs.length<=1000->∃P I,bS (λd p=>(bo (.tp [10,11]) (.fz d) p).bind λρ1=>aD (xL n) hB ρ1) (zs.map Zp) (hE f qs us (fin f qs) (some (Gd L)) N o)=some (.nx,hE f qs us (fin f qs) (some (Gd (L++Lz f qs zs))) P I)
 |[],L,N,o,_,_,_=>⟨N,o,by show some (Fl.nx,_)=some (Fl.nx,hE f qs us (fin f qs) (some (Gd (L++[]))) N o);simp⟩
 |z::zs,L,N,o,h,nd,hl=>by
  rw[aaD]at hl;obtain⟨O,Z⟩:=h z aag;have l:=λm=>(aau.mp nd).2.2 z.1 m z.1 (by simp) rfl;have A:((L++[(z.1,jK f qs z)]).map (·.1)++zs.map (·.1)).Nodup:=by grind
  obtain⟨P,I,e⟩:=rK S (λy t=>h y (aaf _ t)) A (by grind);rw[aab]at e;exact⟨P,I,bs (bs rfl (ab (FF (Lv S O Z) rfl rfl rfl (by grind) (k5 l) rfl) rfl)) e⟩
structure Uok (f:Cf)(qs:Pz)(us:List Int):Prop where
 ln:us.length=(gIx 0 f.rows).length
 bd:∀u∈us,0<=u/\u<qs.length
 mm:∀z∈(gIx 0 f.rows).zip us,yb f qs z=true
theorem Uok.z{f:Cf}{qs:Pz}{us:List Int}(U:Uok f qs us){z:Int×Int}(d:z∈(gIx 0 f.rows).zip us):Zok f qs z/\yb f qs z=true:=⟨⟨(aaN d).1,U.bd _ (aaN d).2⟩,U.mm z d⟩
theorem Bb(F:Fok f)(Q:Qok f qs)(U:Uok f qs us)(S:(fin f qs).bs.length=qs.length)(A:qs.length<=300)(u:f.rows.length<=60):pl.pg.call (n+5) 30 [Rl f.rows,Lo f,Fp qs us]=some (Gd (Lg f qs us),[Rl f.rows,Lo f,Fp qs us]):=by
 have p:pl.pg.call (n+4) 16 [Rl f.rows,Lo f,Pq qs]=some (IW (fin f qs),[Rl f.rows,Lo f,Pq qs]):=rq Q.inc (λq h=>(Q.ok q h).g0) A (by lia);have s:=rA (n:=n+2) (rs:=f.rows) (by lia);have B:=mZ (n:=n+2) (rs:=f.rows) (by lia);have H:(xL (n+4)).call=pl.pg.call (n+4):=rfl;rw[<-H]at p s B;have j:=fS (f:=f) (qs:=qs);have w:(jIx 0 f.rows).length<=60:=by rw[eV];exact aan (abl _ _) u
 have L:(gIx 0 f.rows).length<=60:=by rw[eS];exact aan (abl _ _) u
 obtain⟨X,m⟩:=ye (C:=xL (n+4)) (ve:=.ix (.nm 1) ec2) (g:=λa=>.int (eF (fin f qs) (Gh f a))) (ρ:=[some (Il ((fin f qs).ps++[(fin f qs).pl])),ut f.rows]) (λa i=>by
  obtain⟨k,r,e,O,Z⟩:=jIx_mem i;rw[abd]at e;subst e;have D:=F.jb r (aax O);obtain⟨c,o,_⟩:=D Z;have T:Gh f (k:Int)=r.tg:=by unfold Gh;rw[aaM,O];rfl
  rw[T];exact ax rfl (xU (ax rfl rfl rfl (aR (dH O))) D Z) rfl (aW rfl (atI_get c (by rw[aak,j,aaR];lia)))) (by rw[aay,aaI];exact jIx_nodup)
 rw[aaI]at m;obtain⟨P,I,l⟩:=rK S (zs:=(gIx 0 f.rows).zip us) (λz d=>U.z d) (by
  have J:(Lj f qs).map (·.1)=jIx 0 f.rows:=by rw[aaU];exact List.map_id _
  rw[J,List.map_fst_zip (by have:=U.ln;lia)];exact jg_nodup) (by rw[aae,List.length_zip];lia)
 rw[<-m8]at l;refine ai (ρ:=(hE f qs us (fin f qs) none P I)) rfl rfl ?_ rfl;refine ab (s_asgQ (ρ3:=[ut f.rows,wr f,wT qs us,ww qs,wP us,none,none,none,none,none,none,none]) rfl rfl rfl) ?_;refine ab (s_asgQ (ρ3:=[ut f.rows,wr f,wT qs us,ww qs,wP us,wP (fin f qs).ps,wP (fin f qs).bs,re (fin f qs).pl,none,none,none,none]) (af (ρ3:=[ut f.rows,wr f,wT qs us,ww qs,wP us,none,none,none,none,none,none,none]) rfl rfl p rfl) rfl rfl) ?_;refine ab (ae (ρ3:=hE f qs us (fin f qs) none none none) (qX rfl (bZ (aa rfl aj) rfl rfl) rfl rfl (by rw[aae,j];show _+1<=_;lia)) rfl rfl (by rw[xV];rfl)) ?_;refine ab (pH (ρ3:=hE f qs us (fin f qs) (some (Gd (Lj f qs))) none none) (cy (af (ρ3:=hE f qs us (fin f qs) none none none) rfl rfl s rfl) (by show (Il _).dat.map _=_;rw[aA];rfl) rfl) (by rw[aae];lia) rfl m (by show 9<12;decide) rfl) ?_;refine ab (eB (oP (dx:=.list ((gIx 0 f.rows).map PyData.int)) (dy:=.list (us.map PyData.int)) (af (ρ3:=hE f qs us (fin f qs) (some (Gd (Lj f qs))) none none) rfl rfl B rfl) rfl (by show (Il _).dat.map _=_;rw[aA];rfl) rfl rfl rfl) l) ?_;exact ak (ag rfl rfl)
theorem ni(h:ws.length<=100):(poolC rs k ws p).length<=204:=by
 unfold poolC;have O:(ovL rs k ws (fw rs k p)).length<=2:=by rw[gQ];grind
 have Z:∀q,(padL q).length<=1:=λq=>by unfold padL;grind
 have M:=Z (p+(ovL rs k ws (fw rs k p)).length);rw[aak,aak,aaD,gP]
 lia
theorem rL:∀{qs:Pz}{cs:List Int},(∀q∈qs,q.2.length<=100)->(dN f k qs cs).length<=cs.length+204*qs.length
 |[],cs,_=>aac _
 |q::qs,cs,h=>by
  show (dN f k qs (if q.1=(k:Int) then cs++poolC f.rows k q.2 cs.length else cs)).length<=_;refine aan (rL λz d=>h z (aaf _ d)) ?_;rw[aaD];split
  ·rw[aak];have:=ni (rs:=f.rows) (k:=k) (p:=(cs.length:Int)) (h q aag)
   lia
  ·lia
theorem rM:(cU r p lg g).length<=2:=by
 unfold cU;split
 ·split<;>simp
 ·repeat' split
  all_goals simp
theorem Cj(h:∀q∈qs,q.2.length<=100):∀{k:Nat},(CC f qs us k).length<=(204*qs.length+2)*k
 |0=>aac _
 |k+1=>by
  have O:=Cj (f:=f) (us:=us) h (k:=k);have Z:=rL (f:=f) (k:=k) (cs:=CC f qs us k) h;show (dN f k qs (CC f qs us k)++_).length<=_;rw[aak,Nat.mul_succ];generalize (204*qs.length+2)*k=z at *;cases f.rows[k]? with
  |none=>grind
  |some r=>have M:=rM (r:=r) (p:=(dN f k qs (CC f qs us k)).length) (lg:=decide ((k:Int)∈f.longs)) (g:=gdat f qs us k r);grind
theorem pM(h:∀q∈qs,q.2.length<=100)(A:qs.length<=61)(F:k<=60):(CC f qs us k).length<=750000:=aan (Cj h) (aan (Nat.mul_le_mul (show 204*qs.length+2<=12446 by lia) F) (by decide))
theorem FH:((dK (wdL qs)).any λq=>decide (q=.inl (k:Int)))=decide (∃q∈qs,q.1=(k:Int)):=by
 grind
theorem rN:∀{ps:Pz},(∀q∈ps,q.1≠k)->(dK (wdL (ps++(k,w)::rs))).findIdx? (λq=>decide (q=.inl k))=some ps.length
 |[],_=>by show List.findIdx? _ (.inl k::dK (wdL rs))=_;rw[aaQ,Dac rfl];rfl
 |p::ps,h=>by show List.findIdx? _ (.inl p.1::dK (wdL (ps++(k,w)::rs)))=_;rw[aaQ,Dab λe=>h p aag (ab3 e),rN λq A=>h q (aaf _ A)];rfl
abbrev kE(f:Cf)(qs:Pz)(us:List Int)(cs:List Int)(o6:Option OD):DEnv:=[ut f.rows,wr f,wT qs us,some (Gd (Lg f qs us)),some (Gd (wdL qs)),some (Il cs),o6]
theorem Jf(h:∀q∈ps,q.1≠(k:Int)):ev C (.pg 4 [.key 6]) (kE f (ps++((k:Int),w)::rs) us cs (re k))=some (.val (Tn' w),kE f (ps++((k:Int),w)::rs) us cs (re k)):=by
 have O:accN (kE f (ps++((k:Int),w)::rs) us cs (re k)) (Gd (wdL (ps++((k:Int),w)::rs))) (.key 6)=some ps.length:=bs rfl (bs rfl (bs rfl (bs rfl (rN h))));have Z:(Gd (wdL (ps++((k),w)::rs))).kids[ps.length]?=some (Tn' w):=by show (dV (wdL (ps++((k:Int),w)::rs)))[ps.length]?=_;simp
 exact bW (bs rfl (bs O (bs Z rfl))) rfl
theorem ilen{cs:List Int}:zL .len [.list (cs.map PyData.int)]=some (.int (cs.length:Int)):=by show some (PyData.int ((cs.map PyData.int).length:Nat))=_;simp
theorem yi:ev C JD (kE f qs us cs o6)=some (.val (It cs.length),kE f qs us cs o6):=aJ rfl (jC (aA cs)) ilen
abbrev Ml:S':=.iff een eam .nil
abbrev Mm:S':=.iff eb8 eaf .nil
theorem Cm(Q:Qok f qs)(F:k<=f.rows.length)(U:cs.length<=900000)(A:qs.length<=61):bG (xL (n+5)) Ml (kE f qs us cs (re k))=some (.nx,kE f qs us (dN f k qs cs) (re k)):=by
 have v:aL (xL (n+5)) een (kE f qs us cs (re k))=some (decide (∃q∈qs,q.1=(k:Int)),kE f qs us cs (re k)):=by rw[<-FH];rfl
 by_cases h:∃q∈qs,q.1=(k:Int)
 ·rw[Dac h]at v;obtain⟨⟨r,w⟩,Y,e⟩:=h;have e:r=(k:Int):=e;subst e;have c:w.length<=100:=(Q.ok _ Y).l1;obtain⟨W,rs,rfl⟩:=abu Y;rw[Ci Q.inc];have l:∀q∈W,q.1≠(k:Int):=λq A e=>by have:=(i8 Q.inc).1 q A;grind
  have a:=Ba (n:=n+1) (p:=(cs.length:Int)) F c;have H:(xL (n+5)).call=pl.pg.call (n+5):=rfl;rw[<-H]at a;have y:=ni (rs:=f.rows) (k:=k) (p:=(cs.length:Int)) c;refine ao v (ab (xtI rfl (af (aa rfl (aa rfl (aa (Jf l) (aa yi aj)))) rfl a rfl) rfl (by lia) rfl).2 rfl)
 ·rw[Dab h]at v;rw[nh λq A e=>h ⟨q,A,e⟩];exact s_ifF v rfl
theorem FI(h:dgV (dK (Lg f qs us)) (dV (Lg f qs us)) (.inl (k:Int))=some d):ev C (.dgt 3 (.nm 6)) (kE f qs us cs (re k))=some (.val (.fz d),kE f qs us cs (re k)):=bs h rfl
theorem Jg{n k:Nat}(F:Fok f)(U:Uok f qs us)(D:f.rows[k]?=some r)(Y:cs.length<=900000):bG (xL (n+5)) Mm (kE f qs us cs (re k))=some (.nx,kE f qs us (cs++cU r cs.length (decide ((k:Int)∈f.longs)) (gdat f qs us k r)) (re k)):=by have T:k<f.rows.length:=(aai.mp D).1;have v:aL (xL (n+5)) eb8 (kE f qs us cs (re k))=some (true,kE f qs us cs (re k)):=ar (aq rfl (aJ rfl rfl blen) rfl rfl (show some (decide ((k:Int)<(f.rows.length:Int)))=some true by grind));have N:=FA (n:=n+3) (p:=(cs.length:Int)) (lg:=decide ((k:Int)∈f.longs)) (g:=gdat f qs us k r) (F.ok r (aax D)) gdat_ok;have H:(xL (n+5)).call=pl.pg.call (n+5):=rfl;rw[<-H]at N;have j:=rM (r:=r) (p:=(cs.length:Int)) (lg:=decide ((k:Int)∈f.longs)) (g:=gdat f qs us k r);exact ao v (ab (xtI rfl (af (aa (ax rfl rfl rfl (aR (dH D))) (aa yi (aa (aq rfl rfl rfl rfl inL) (aa (FI (FD U.ln D)) aj)))) rfl N rfl) rfl (by lia) rfl).2 rfl)
abbrev AC(f:Cf)(qs:Pz)(us:List Int):List Int:=dN f f.rows.length qs (CC f qs us f.rows.length)
theorem yj(F:Fok f)(Q:Qok f qs)(U:Uok f qs us)(A:qs.length<=61)(u:f.rows.length<=60):∀{m k:Nat}{o6:Option OD},k+m=f.rows.length->∃P,bS (λd p=>(bo (.nm 6) (.fz d) p).bind λρ1=>aD (xL (n+5)) (.cons Ml (.cons Mm .nil)) ρ1) (cX k (m+1)) (kE f qs us (CC f qs us k) o6)=some (.nx,kE f qs us (AC f qs us) P)
 |0,k,o6,h=>by
  have T:k=f.rows.length:=by lia
  subst T;have Y:=pM (f:=f) (us:=us) (λq A=>(Q.ok q A).l1) A u;have S:aL (xL (n+5)) eb8 (kE f qs us (AC f qs us) (re f.rows.length))=some (false,kE f qs us (AC f qs us) (re f.rows.length)):=ar (aq rfl (aJ rfl rfl blen) rfl rfl (show some (decide ((f.rows.length:Int)<(f.rows.length:Int)))=some false by simp));rw[bh];exact⟨_,bs (bs rfl (ab (Cm Q (aac _) (by lia) A) (ab (s_ifF S rfl) rfl))) rfl⟩
 |m+1,k,o6,h=>by
  obtain⟨r,D⟩:∃r,f.rows[k]?=some r:=⟨_,aam (by lia)⟩
  have Y:=pM (f:=f) (us:=us) (λq A=>(Q.ok q A).l1) A (k:=k) (by lia);have M:=rL (f:=f) (k:=k) (cs:=CC f qs us k) λq A=>(Q.ok q A).l1;obtain⟨P,e⟩:=yj F Q U A u (m:=m) (k:=k+1) (by lia);have c:CC f qs us (k+1)=dN f k qs (CC f qs us k)++cU r (dN f k qs (CC f qs us k)).length (decide ((k:Int)∈f.longs)) (gdat f qs us k r):=by
   show _++(f.rows[k]?).elim [] _=_
   grind
  rw[c]at e;rw[bh];exact⟨P,bs (bs rfl (ab (Cm Q (by lia) (by lia) A) (ab (Jg F U D (by lia)) rfl))) e⟩
theorem FJ(F:Fok f)(Q:Qok f qs)(U:Uok f qs us)(S:(fin f qs).bs.length=qs.length)(A:qs.length<=61)(u:f.rows.length<=60):pl.pg.call (n+6) 31 [Rl f.rows,Lo f,Fp qs us]=some (Il (AC f qs us),[Rl f.rows,Lo f,Fp qs us]):=by
 have w:=Bb (n:=n) F Q U S (by lia) u;have H:(xL (n+5)).call=pl.pg.call (n+5):=rfl;rw[<-H]at w;obtain⟨B,X,m⟩:=yf (ps:=[]) Q.inc;obtain⟨y,e⟩:=yj F Q U A u (aaP _);refine ai (ρ:=(kE f qs us (AC f qs us) y).set 5 none) rfl rfl ?_ rfl;refine ab (ae (af rfl rfl w rfl) rfl rfl rfl) ?_;refine ab (pH (cy (ax rfl rfl rfl (aN aO)) rfl rfl) (by rw[aae];lia) rfl m (by show 4<7;decide) rfl) ?_;refine ab (ae (bZ aj rfl rfl) rfl rfl rfl) ?_;refine ab (eB (gk (ah (aJ rfl rfl blen) rfl rfl rfl rfl) rfl (by lia)) ?_) (ak (ag (ρ:=kE f qs us (AC f qs us) y) rfl rfl));have l:((f.rows.length:Int)+1).toNat=f.rows.length+1:=by lia
 rw[l];exact e
theorem rO(O:ev C a ρ=some (x,ρ1))(Z:ev C b ρ1=some (y,ρ2))(j:az ρ2 x=some dx)(t:az ρ2 y=some dy)(F:oz o dx dy=some true)(M:ev C c ρ2=some (z,ρ3))(h:az ρ3 y=some dy')(d:az ρ3 z=some dz)(H:oz o' dy' dz=some k):ev C (.cmp2 o o' a b c) ρ=some (.val (.fz (.bool k)),ρ3):=bs O (bs Z (bs j (bs t (bs F (bs M (bs h (bs d (bs H rfl))))))))
theorem rP(O:ev C a ρ=some (x,ρ1))(Z:ev C b ρ1=some (y,ρ2))(j:az ρ2 x=some dx)(t:az ρ2 y=some dy)(F:oz o dx dy=some false):ev C (.cmp2 o o' a b c) ρ=some (.val (.fz (.bool false)),ρ2):=bs O (bs Z (bs j (bs t (bs F rfl))))
theorem gR(h:ev C (.cmp2 o o' a b c) ρ=some (.val (.fz (.bool k)),ρ1)):aL C (.cmp2 o o' a b c) ρ=some (k,ρ1):=bs h rfl
section
variable{C:Ct}{a b c:E}{ρ:DEnv}{lo x hi:Int}
theorem bp(O:ev C a ρ=some (.val (It lo),ρ))(Z:ev C b ρ=some (.val (It x),ρ))(M:ev C c ρ=some (.val (It hi),ρ)):aL C (.cmp2 .le .lt a b c) ρ=some (decide (lo<=x/\x<hi),ρ):=by
 by_cases h:lo<=x
 ·refine gR (rO O Z rfl rfl (show some (decide (lo<=x))=some true by grind) M rfl rfl (show some (decide (x<hi))=_ from ?_))
  grind
 ·rw[Dab (by lia)];exact gR (rP O Z rfl rfl (show some (decide (lo<=x))=some false by grind))
theorem yk(O:ev C a ρ=some (.val (It lo),ρ))(Z:ev C b ρ=some (.val (It x),ρ))(M:ev C c ρ=some (.val (It hi),ρ)):aL C (.cmp2 .lt .le a b c) ρ=some (decide (lo<x/\x<=hi),ρ):=by
 by_cases h:lo<x
 ·refine gR (rO O Z rfl rfl (show some (decide (lo<x))=some true by grind) M rfl rfl (show some (decide (x<=hi))=_ from ?_))
  grind
 ·rw[Dab (by lia)];exact gR (rP O Z rfl rfl (show some (decide (lo<x))=some false by grind))
theorem dJ(O:ev C a ρ=some (.val (It x),ρ))(Z:ev C b ρ=some (.val (It lo),ρ)):aL C (.cmp .eq a b) ρ=some (decide (x=lo),ρ):=ar (aq O Z rfl rfl rfl)
theorem fc(O:ev C a ρ=some (.val (It x),ρ))(Z:ev C b ρ=some (.val (It lo),ρ)):aL C (.cmp .lt a b) ρ=some (decide (x<lo),ρ):=ar (aq O Z rfl rfl rfl)
theorem yl(O:ev C a ρ=some (.val (It x),ρ))(Z:ev C b ρ=some (.val (It lo),ρ)):aL C (.cmp .gt a b) ρ=some (decide (lo<x),ρ):=ar (aq O Z rfl rfl rfl)
theorem Cn(O:ev C a ρ=some (.val (It x),ρ))(Z:ev C b ρ=some (.val (It lo),ρ)):aL C (.cmp .le a b) ρ=some (decide (x<=lo),ρ):=ar (aq O Z rfl rfl rfl)
theorem Jh(O:ev C a ρ=some (.val (It x),ρ))(Z:ev C b ρ=some (.val (It lo),ρ)):aL C (.cmp .ge a b) ρ=some (decide (lo<=x),ρ):=ar (aq O Z rfl rfl rfl)
theorem rT[Decidable P](h:aL C c ρ=some (decide P,ρ))(z:P):aL C c ρ=some (true,ρ):=by grind
theorem rF[Decidable P](h:aL C c ρ=some (decide P,ρ))(z:¬ P):aL C c ρ=some (false,ρ):=by grind
end
noncomputable def pairD(w:Str)(k:Int):PyData:=if k/10<5/\k%10<5 then .tuple [.str w,.int (k/10),.int (k%10)] else .none
theorem ym:pl.pg.call (n+1) 7 [.fz (.str w),It k]=some (.fz (pairD w k),[.fz (.str w),It k]):=by
 refine ai (ρ:=[some (.fz (.str w)),re k,re (k/10),re (k%10)]) rfl rfl ?_ rfl;refine ab (fu (aa (ah rfl rfl rfl rfl (iU (by decide))) (aa (ah rfl rfl rfl rfl (br (by decide))) aj)) rfl rfl rfl) ?_;unfold pairD;by_cases h:k/10<5
 ·by_cases v:k%10<5
  ·rw[if_pos ⟨h,v⟩];exact ak (ag (cH (cY (rT (fc rfl rfl) h) (rT (fc rfl rfl) v)) rfl) rfl)
  ·rw[if_neg λz=>v z.2];exact ak (ag (cb (cY (rT (fc rfl rfl) h) (rF (fc rfl rfl) v)) rfl) rfl)
 ·rw[if_neg λz=>h z.1];exact ak (ag (cb (iM (rF (fc rfl rfl) h)) rfl) rfl)
def nilD(c p:Int):PyData:=if 0<(c-8000)%200 then .tuple [.str bi,.int ((c-8000)/200),.int (p+(c-8000)%200-99-1),.bool false] else .none
theorem Ji:pl.pg.call (n+1) 8 [It c,It p]=some (.fz (nilD c p),[It c,It p]):=by
 refine ai (ρ:=[re c,re p,re 8000,re ((c-8000)/200),re ((c-8000)%200)]) rfl rfl ?_ rfl;refine ab (ae rfl rfl rfl rfl) (ab (fu (aa (ah rfl rfl rfl rfl (iU (by decide))) (aa (ah rfl rfl rfl rfl (br (by decide))) aj)) rfl rfl rfl) ?_);unfold nilD;by_cases h:0<(c-8000)%200
 ·rw[if_pos h];exact ak (ag (cH (rT (yl rfl rfl) h) rfl) rfl)
 ·rw[if_neg h];exact ak (ag (cb (rF (yl rfl rfl) h) rfl) rfl)
def loneD(c p:Int):PyData:=
 if c=0 then .tuple [.str bv] else if 1000<=c/\c<1500 then .tuple [.str ce,.int ((c-1000)/100),.int (c%100)]
 else if 2000<=c/\c<3000 then pairD hR (c-2000) else if 3000<=c/\c<4000 then pairD hW (c-3000)
 else if 4000<=c/\c<4005 then .tuple [.str hI,.int (c-4000)] else if (if c-6500<0 then -(c-6500) else c-6500)<=499 then .tuple [.str am,.int (p+c-6500),.bool false]
 else if c=7002 then .tuple [.str lv] else if 8001<=c/\c<9000 then nilD c p else .none
theorem FK:pl.pg.call (n+2) 9 [It c,It p]=some (.fz (loneD c p),[It c,It p]):=by
 have H:(xL (n+1)).call=pl.pg.call (n+1):=rfl;refine ai (ρ:=[re c,re p]) rfl rfl ?_ rfl;unfold loneD;by_cases h:c=0
 ·rw[if_pos h];exact ak (ao (rT (dJ rfl rfl) h) (ak (ag rfl rfl)))
 rw[if_neg h];refine ab (s_ifF (rF (dJ rfl rfl) h) rfl) ?_;clear h;by_cases h:1000<=c/\c<1500
 ·rw[if_pos h];exact ak (ao (rT (bp rfl rfl rfl) h) (ak (ag (bj (aa rfl (aa (ah rfl rfl rfl rfl (iU (by decide))) (aa (ah rfl rfl rfl rfl (br (by decide))) aj))) rfl rfl rfl) rfl)))
 rw[if_neg h];refine ab (s_ifF (rF (bp rfl rfl rfl) h) rfl) ?_;clear h;by_cases h:2000<=c/\c<3000
 ·have e:=ym (n:=n) (w:=hR) (k:=c-2000);rw[<-H]at e;rw[if_pos h];exact ak (ao (rT (bp rfl rfl rfl) h) (ak (ag (af rfl rfl e rfl) rfl)))
 rw[if_neg h];refine ab (s_ifF (rF (bp rfl rfl rfl) h) rfl) ?_;clear h;by_cases h:3000<=c/\c<4000
 ·have e:=ym (n:=n) (w:=hW) (k:=c-3000);rw[<-H]at e;rw[if_pos h];exact ak (ao (rT (bp rfl rfl rfl) h) (ak (ag (af rfl rfl e rfl) rfl)))
 rw[if_neg h];refine ab (s_ifF (rF (bp rfl rfl rfl) h) rfl) ?_;clear h;by_cases h:4000<=c/\c<4005
 ·rw[if_pos h];exact ak (ao (rT (bp rfl rfl rfl) h) (ak (ag rfl rfl)))
 rw[if_neg h];refine ab (s_ifF (rF (bp rfl rfl rfl) h) rfl) ?_;clear h;by_cases h:(if c-6500<0 then -(c-6500) else c-6500)<=499
 ·rw[if_pos h];exact ak (ao (rT (Cn rfl rfl) h) (ak (ag rfl rfl)))
 rw[if_neg h];refine ab (s_ifF (rF (Cn rfl rfl) h) rfl) ?_;clear h;by_cases h:c=7002
 ·rw[if_pos h];exact ak (ao (rT (dJ rfl rfl) h) (ak (ag rfl rfl)))
 rw[if_neg h];refine ab (s_ifF (rF (dJ rfl rfl) h) rfl) ?_;clear h;by_cases h:8001<=c/\c<9000
 ·have e:=Ji (n:=n) (c:=c) (p:=p);rw[<-H]at e;rw[if_pos h];exact ak (ao (rT (bp rfl rfl rfl) h) (ak (ag (af rfl rfl e rfl) rfl)))
 rw[if_neg h];exact ab (s_ifF (rF (bp rfl rfl rfl) h) rfl) (ak (ag rfl rfl))
def twoD(c s p:Int):PyData:=
 if 5000<=c/\c<5500 then .tuple [.str hY,.int ((c-5000)/100),.int (p+s-5000),.int (c%100)] else if c=7000 then .tuple [.str am,.int s,.bool true]
 else if c=7001 then .tuple [.str lX,.int s] else if 9000<=c/\c<9005 then .tuple [.str bi,.int (c-9000),.int s,.bool true] else .none
theorem Jj:pl.pg.call (n+1) 10 [It c,It s,It p]=some (.fz (twoD c s p),[It c,It s,It p]):=by
 refine ai (ρ:=[re c,re s,re p]) rfl rfl ?_ rfl;unfold twoD;by_cases h:5000<=c/\c<5500
 ·rw[if_pos h];exact ak (ao (rT (bp rfl rfl rfl) h) (ak (ag (bj (aa rfl (aa (ah rfl rfl rfl rfl (iU (by decide))) (aa rfl (aa (ah rfl rfl rfl rfl (br (by decide))) aj)))) rfl rfl rfl) rfl)))
 rw[if_neg h];refine ab (s_ifF (rF (bp rfl rfl rfl) h) rfl) ?_;clear h;by_cases h:c=7000
 ·rw[if_pos h];exact ak (ao (rT (dJ rfl rfl) h) (ak (ag rfl rfl)))
 rw[if_neg h];refine ab (s_ifF (rF (dJ rfl rfl) h) rfl) ?_;clear h;by_cases h:c=7001
 ·rw[if_pos h];exact ak (ao (rT (dJ rfl rfl) h) (ak (ag rfl rfl)))
 rw[if_neg h];refine ab (s_ifF (rF (dJ rfl rfl) h) rfl) ?_;clear h;by_cases h:9000<=c/\c<9005
 ·rw[if_pos h];exact ak (ao (rT (bp rfl rfl rfl) h) (ak (ag rfl rfl)))
 rw[if_neg h];exact ab (s_ifF (rF (bp rfl rfl rfl) h) rfl) (ak (ag rfl rfl))
theorem pN{Y:Type}{g h:Y->PyData}:∀{as:List Y}{out:List PyData}{o:Option OD},(∀a∈as,ev C elt (some (.fz (g a))::ρ)=some (.val (.fz (h a)),some (.fz (g a))::ρ))->∃P,cG (cP C (.nm 0) .none elt) (as.map g) out (o::ρ)=some (out++as.map h,P::ρ)
 |[],out,o,_=>⟨o,by rw[aay,aay,aap];rfl⟩
 |a::as,out,o,h2=>by
  have i:bo (.nm 0) (.fz (g a)) (o::ρ)=some (some (.fz (g a))::ρ):=by rfl
  obtain⟨P,e⟩:=pN (λb S=>h2 b (aaf _ S));refine⟨P,bs (Az i (h2 a aag) rfl) ?_⟩;rw[e,aab];rfl
def wds(cs:List Int)(b m:Nat):List Int:=(List.range m).map λj=>cs.getD (b+2*j) 0*10000+cs.getD (b+2*j+1) 0
theorem Cp{cs:List Int}{k:Nat}(e:i=(k:Int))(h:k<cs.length):atI (cs.map PyData.int) i=some (.int (cs.getD k 0)):=by subst e;exact cf (by grind)
theorem FL(O:ev C a ρ=some (.val (It i),ρ))(Z:ev C b ρ=some (.val (It j),ρ))(h:0<=i/\i<=j/\j<=1000000):tQ C (.rg3 a b) ρ=some (ox i (rn2 i j),ρ):=bs O (bs Z (bs rfl (bs rfl (bs rfl (bs rfl (bg h rfl))))))
abbrev Sx(cs:List Int)(p:Nat)(d:PyData)(q:Nat):Prop:=∀n:Nat,pl.pg.call (n+3) 12 [Dl cs,It p]=some (.fz (.tuple [d,.int q]),[Dl cs,It p])
theorem FM{n:Nat}{cs:List Int}{p m:Nat}(h:cs[p]?=some (7100+(m:Int)))(a:p+1+2*m<=cs.length)(t:cs.length<=900000):pl.pg.call (n+1) 11 [Dl cs,It p]=some (.fz (.tuple [.tuple [.str hL,.tuple ((wds cs (p+1) m).map PyData.int)],.int ((p+1+2*m:Nat):Int)]),[Dl cs,It p]):=by
 have u:rn2 ((p+1:Nat):Int) ((p+1+2*m:Nat):Int)=m:=by unfold rn2;lia
 obtain⟨P,e⟩:=pN (C:=xL n) (elt:=.bop .add ec6 ec3) (g:=λi:Nat=>.int (((p+1:Nat):Int)+(i:Int)*2)) (ρ:=[wP cs]) (as:=List.range m) λj W=>by have W:=List.mem_range.mp W;exact ah (ah (ax rfl rfl rfl (aR (Cp (k:=p+1+2*j) (by grind) (by lia)))) rfl rfl rfl (cJ (.inr (by decide)))) (ax rfl rfl rfl (aR (Cp (k:=p+1+2*j+1) (by grind) (by lia)))) rfl rfl rfl
 rw[aaI]at e;have F:((List.range m).map λj=>PyData.int (cs.getD (p+1+2*j) 0*10000+cs.getD (p+1+2*j+1) 0))=(wds cs (p+1) m).map PyData.int:=by unfold wds;rw[aaU];rfl
 rw[F]at e;generalize wds cs (p+1) m=ws at *;have Y:7100+(m:Int)-7100=m:=by lia
 refine ai (ρ:=[wP cs,re p,re (p+1:Nat),re (p+1+2*m:Nat),some (Il ws)]) rfl rfl ?_ rfl;refine ab (ae rfl rfl rfl rfl) ?_;refine ab (ae (ρ3:=[wP cs,re p,re (p+1:Nat),re (p+1+2*m:Nat),none]) (ah rfl (ah rfl (ah (dx:=.int (7100+(m:Int))) (d:=.int (m:Int)) (ax rfl rfl rfl (aR (cf (by grind)))) rfl rfl rfl (show some (PyData.int (7100+(m:Int)-7100))=_ by rw[Y])) rfl rfl (bM (k:=2) (by decide))) rfl rfl (show some (PyData.int (((p+1:Nat):Int)+2*(m:Int)))=_ by rfl)) rfl rfl rfl) ?_;refine ab (s_ifF (rF (yl (x:=((p+1+2*m:Nat):Int)) (lo:=cs.length) rfl (aJ rfl rfl blen)) (by lia)) rfl) ?_;refine ab (ae (ρ3:=[wP cs,re p,re (p+1:Nat),re (p+1+2*m:Nat),some (Il ws)]) (dm (ρ2:=[wP cs,re p,re (p+1:Nat),re (p+1+2*m:Nat),none]) (FL rfl rfl (by lia)) (by rw[lW,u];lia) rfl (by rw[u];exact e) rfl) (z:=Il ws) (by rw[fb];rfl) rfl rfl) ?_;exact ak (ag (bj (aa (bj (aa rfl (aa (qW rfl (ds:=ws.map PyData.int) (rE ws)) aj)) rfl rfl rfl) (aa rfl aj)) rfl rfl rfl) rfl)
section
variable{n:Nat}{cs:List Int}{p:Nat}
theorem Cq(m:p<cs.length):aL C eba [wP cs,re p,o2,o3,o4]=some (false,[wP cs,re p,o2,o3,o4]):=cZ (rT (bp rfl rfl (aJ rfl rfl blen)) (by lia))
theorem nj:pl.pg.call (n+1) 12 [Dl cs,It cs.length]=some (.fz .none,[Dl cs,It cs.length]):=ai rfl rfl (ak (ao (cZ (rF (bp rfl rfl (aJ rfl rfl blen)) (by lia))) (ak (ag rfl rfl)))) rfl
abbrev aE(cs:List Int)(p:Nat)(c:Int)(o3 o4:Option OD):DEnv:=[wP cs,re p,re c,o3,o4]
theorem Bc{m:Nat}(h:cs[p]?=some (7100+(m:Int)))(x:1<=m)(t:m<=100)(a:p+1+2*m<=cs.length)(j:cs.length<=900000):Sx cs p (.tuple [.str hL,.tuple ((wds cs (p+1) m).map PyData.int)]) (p+1+2*m):=λn=>by have e:=FM (n:=n+1) h a j;have H:(xL (n+2)).call=pl.pg.call (n+2):=rfl;rw[<-H]at e;have P:p<cs.length:=(aai.mp h).1;exact ai (ρ:=aE cs p (7100+(m:Int)) none none) rfl rfl (ab (s_ifF (Cq P) rfl) (ab (ae (ax rfl rfl rfl (aR (cf (by grind)))) rfl rfl rfl) (ak (ao (rT (yk rfl rfl rfl) (by lia)) (ak (ag (af rfl rfl e rfl) rfl)))))) rfl
theorem yn(h:cs[p]?=some c)(U:¬ (7100<c/\c<=7200))(k:aD (xL (n+2)) (match F_seen_at.body with|.cons _ (.cons _ (.cons _ (.cons _ s)))=>s|_=>.nil) (aE cs p c (some (.fz (loneD c p))) none)=some (.rt z,aE cs p c o3 o4)):pl.pg.call (n+3) 12 [Dl cs,It p]=some (z,[Dl cs,It p]):=by have e:=FK (n:=n) (c:=c) (p:=p);have H:(xL (n+2)).call=pl.pg.call (n+2):=rfl;rw[<-H]at e;have m:=(aai.mp h).1;exact ai rfl rfl (ab (s_ifF (Cq m) rfl) (ab (ae (ax rfl rfl rfl (aR (cf (by rw[aaz,h];rfl)))) rfl rfl rfl) (ab (s_ifF (rF (yk rfl rfl rfl) U) rfl) (ab (ae (af rfl rfl e rfl) rfl rfl rfl) k)))) rfl
theorem dD(h:cs[p]?=some c)(U:¬ (7100<c/\c<=7200))(W:loneD c p=.tuple ds):Sx cs p (.tuple ds) (p+1):=λn=>by refine yn (o3:=some (.fz (.tuple ds))) (o4:=none) h U ?_;rw[W];rfl
theorem k7(h:cs[p]?=some c)(h':cs[p+1]?=some s)(U:¬ (7100<c/\c<=7200))(l:loneD c p=.none)(W:twoD c s p=.tuple ds):Sx cs p (.tuple ds) (p+2):=λn=>by have e:=Jj (n:=n+1) (c:=c) (s:=s) (p:=p);have H:(xL (n+2)).call=pl.pg.call (n+2):=rfl;rw[<-H,W]at e;have m:p+1<cs.length:=(aai.mp h').1;refine yn (o3:=some (.fz .none)) (o4:=some (.fz (.tuple ds))) h U ?_;rw[l];exact ab (s_ifF rfl rfl) (ab (s_ifF (rF (dJ rfl (aJ rfl rfl blen)) (by omega)) rfl) (ab (ae (af (aa rfl (aa (ax rfl rfl rfl (aR (show atI (cs.map PyData.int) ((p+1:Nat):Int)=_ from cf (by rw[aaz,h'];rfl)))) (aa rfl aj))) rfl e rfl) rfl rfl rfl) (ak (ag (cb rfl rfl) rfl))))
end
def rth(r:R)(lg:Bool)(g:PyData):PyData:=match r with
 |.st x k=>if 99<k then .tuple [.str hY,.int x,.int (Ce g),.int (yc g)] else .tuple [.str ce,.int x,.int k]
 |.ot w xs _=>if w=am then .tuple [.str am,.int (gI g),.bool lg] else if w=bi then .tuple [.str bi,.int (xs.getD 0 0),.int (gI g),.bool lg] else .tuple (.str w::xs.map PyData.int)
theorem rQ(e:c=10*a+b)(i:0<=a/\a<=4)(S:0<=b/\b<=4):pairD w c=.tuple [.str w,.int a,.int b]:=by subst e;unfold pairD;rw[show (10*a+b)/10=a by omega,show (10*a+b)%10=b by omega,if_pos ⟨by omega,by omega⟩]
theorem FN{c p:Int}(h:4005<=c):loneD c p=if (if c-6500<0 then -(c-6500) else c-6500)<=499 then .tuple [.str am,.int (p+c-6500),.bool false] else if c=7002 then .tuple [.str lv] else if 8001<=c/\c<9000 then nilD c p else .none:=by unfold loneD;rw[if_neg (by omega),if_neg (by omega),if_neg (by omega),if_neg (by omega),if_neg (by omega)]
theorem Cr{c p:Int}(h:4999<c)(h':c<5500\/8999<c):loneD c p=.none:=by rw[FN (by omega),if_neg (by split<;>omega),if_neg (by omega),if_neg (by omega)]
theorem Jk{c p:Int}(h:6000<c)(h':c<7000):loneD c p=.tuple [.str am,.int (p+c-6500),.bool false]:=by rw[FN (by omega),if_pos (by split<;>omega)]
theorem FO{c p:Int}(h:8000<c)(h':c<9000):loneD c p=nilD c p:=by rw[FN (by omega),if_neg (by split<;>omega),if_neg (by omega),if_pos ⟨h,h'⟩]
theorem FP{c p:Int}(h:999<c)(h':c<1500):loneD c p=.tuple [.str ce,.int ((c-1000)/100),.int (c%100)]:=by unfold loneD;rw[if_neg (by omega),if_pos ⟨h,h'⟩]
theorem FQ{c p:Int}(h:1999<c)(h':c<3000):loneD c p=pairD hR (c-2000):=by unfold loneD;rw[if_neg (by omega),if_neg (by omega),if_pos ⟨h,h'⟩]
theorem Be{c p:Int}(h:2999<c)(h':c<4000):loneD c p=pairD hW (c-3000):=by unfold loneD;rw[if_neg (by omega),if_neg (by omega),if_neg (by omega),if_pos ⟨h,h'⟩]
theorem Bf{c p:Int}(h:3999<c)(h':c<4005):loneD c p=.tuple [.str hI,.int (c-4000)]:=by unfold loneD;rw[if_neg (by omega),if_neg (by omega),if_neg (by omega),if_neg (by omega),if_pos ⟨h,h'⟩]
theorem FR{c s p:Int}(h:8999<c)(h':c<9005):twoD c s p=.tuple [.str bi,.int (c-9000),.int s,.bool true]:=by unfold twoD;rw[if_neg (by omega),if_neg (by omega),if_neg (by omega),if_pos ⟨h,h'⟩]
theorem FS{p:Nat}(D:r.ok)(Q:r.gr=true->0<=yc g/\yc g<=99)(W:r.jm=true->lg=false->-(farN r 499)<=gI g-p/\gI g-p<=farN r 499)(m:∀i x,(cU r p lg g)[i]?=some x->cs[p+i]?=some x):Sx cs p (rth r lg g) (p+(cU r p lg g).length):=by
 cases r with
 |st x k=>
  have O:=D.1;have Z:=D.2;clear D W;by_cases h:99<k
  ·have u:cU (R.st x k) p lg g=[5000+100*x+yc g,5000+Ce g-p]:=if_pos h;have A:rth (R.st x k) lg g=.tuple [.str hY,.int x,.int (Ce g),.int (yc g)]:=if_pos h;have Q:=Q (Dac h);rw[u]at m ⊢;rw[A];clear Z h;refine k7 (m 0 _ rfl) (m 1 _ rfl) (by omega) (Cr (by omega) (.inl (by omega))) ?_;unfold twoD;rw[if_pos (by omega),show (5000+100*x+yc g-5000)/100=x by omega,show (5000+100*x+yc g)%100=yc g by omega,show (p:Int)+(5000+Ce g-p)-5000=Ce g by omega]
  ·have u:cU (R.st x k) p lg g=[1000+100*x+k]:=if_neg h;have A:rth (R.st x k) lg g=.tuple [.str ce,.int x,.int k]:=if_neg h;rw[u]at m ⊢;rw[A];refine dD (m 0 _ rfl) (by omega) ?_;rw[FP (by omega) (by omega),show (1000+100*x+k-1000)/100=x by omega,show (1000+100*x+k)%100=k by omega]
 |ot w Y L=>
  cases D with
  |sum a b h=>refine dD (m 0 (2000+10*a+b) rfl) (by omega) ?_;rw[FQ (by omega) (by omega),rQ (a:=a) (b:=b) (by omega) h.1 h.2];rfl
  |less a b h=>refine dD (m 0 (3000+10*a+b) rfl) (by omega) ?_;rw[Be (by omega) (by omega),rQ (a:=a) (b:=b) (by omega) h.1 h.2];rfl
  |tell a h=>refine dD (m 0 (4000+a) rfl) (by omega) ?_;rw[Bf (by omega) (by omega),show 4000+a-4000=a by omega];rfl
  |stop=>exact dD (m 0 _ rfl) (by decide) rfl
  |go a=>
   cases lg with
   |true=>exact k7 (m 0 _ rfl) (m 1 _ rfl) (by decide) rfl rfl
   |false=>have S:-499<=gI g-p/\gI g-p<=499:=W rfl rfl;refine dD (m 0 (6500+gI g-p) rfl) (by omega) ?_;rw[Jk (by omega) (by omega),show (p:Int)+(6500+gI g-p)-6500=gI g by omega]
  |nil a b h=>
   cases lg with
   |true=>refine k7 (m 0 (9000+a) rfl) (m 1 _ rfl) (by omega) (Cr (by omega) (.inr (by omega))) ?_;rw[FR (by omega) (by omega),show 9000+a-9000=a by omega];rfl
   |false=>have S:-99<=gI g-p/\gI g-p<=99:=W rfl rfl;refine dD (m 0 (8100+200*a+gI g-p) rfl) (by omega) ?_;rw[FO (by omega) (by omega)];unfold nilD;rw[if_pos (by omega),show (8100+200*a+gI g-(p:Int)-8000)/200=a by omega,show (p:Int)+(8100+200*a+gI g-p-8000)%200-99-1=gI g by omega];rfl
theorem jL{X Y cs:List Int}(h:cs=X++Y)(C:Y[i]?=some x):cs[X.length+i]?=some x:=by rw[h,aa4 (aaS _ _),abH];exact C
theorem hal_at:∀{ws:List Int}{j:Nat}{x:Int},ws[j]?=some x->(hal ws)[2*j]?=some (x/10000)/\(hal ws)[2*j+1]?=some (x%10000)
 |[],j,x,h=>by cases h
 |w::ws,0,x,h=>by cases h;trivial
 |w::ws,j+1,x,h=>hal_at (ws:=ws) h
theorem Bg(h:cs=X++(c::(hal w++T))):wds cs (X.length+1) w.length=w:=by
 refine abP λj=>?_;unfold wds;rw[aaz];by_cases W:j<w.length
 ·have C:w[j]?=some w[j]:=aam W;obtain⟨J,B⟩:=hal_at C;have n:=jL (i:=2*j+1) h (by rw[aby,abc (by grind)];omega);have A:=jL (i:=2*j+1+1) h (by rw[aby,abc (by grind)];omega);rw[List.getElem?_range W,C]
  grind
 ·grind
theorem rR{k:Nat}(Q:Qok f (ps++((k:Int),w)::rs))(j:cs.length<=900000)(U:∃T,cs=dN f k (ps++((k:Int),w)::rs) L++T):∃b:Nat,((b:Int)=fw f.rows k L.length/\b+2*w.length=(dN f k (ps++((k:Int),w)::rs) L).length)/\1<=b/\Sx cs (b-1) (.tuple [.str hL,.tuple (w.map PyData.int)]) (b+2*w.length)/\(pw f.rows k=true->Sx cs L.length (.tuple [.str lX,.int ((b+2*w.length:Nat):Int)]) (L.length+2)):=by
 have Y:((k:Int),w)∈ps++((k:Int),w)::rs:=aad _ aag;have B:1<=w.length:=(Q.ok _ Y).l0;have y:w.length<=100:=(Q.ok _ Y).l1;rw[Ci Q.inc]at U ⊢;obtain⟨T,U⟩:=U;have S:=jJ (rs:=f.rows) (k:=k) (ws:=w) (p:=(L.length:Int));have a:cs.length=L.length+(poolC f.rows k w L.length).length+T.length:=by grind
 have h:(poolC f.rows k w L.length).length=(ovL f.rows k w (fw f.rows k L.length)).length+((padL ((L.length:Int)+(ovL f.rows k w (fw f.rows k L.length)).length)).length+(1+2*w.length)):=by unfold poolC;rw[aak,aak,aaD,gP];lia
 have A:cs=L++(ovL f.rows k w (fw f.rows k L.length)++(padL ((L.length:Int)+(ovL f.rows k w (fw f.rows k L.length)).length)++((7100+(w.length:Int))::(hal w++T)))):=by rw[U];unfold poolC;simp
 obtain⟨O,q⟩:∃O,O=ovL f.rows k w (fw f.rows k L.length):=⟨_,rfl⟩
 obtain⟨D,J⟩:∃D,D=padL ((L.length:Int)+O.length):=⟨_,rfl⟩
 rw[<-q]at A h;rw[<-J]at A h;have H:cs=(L++O++D)++((7100+(w.length:Int))::(hal w++T)):=by rw[A,aab (L++O),aab]
 have X:(L++O++D).length=L.length+O.length+D.length:=by rw[aak,aak]
 have z:=jL (i:=0) H rfl;have M:=Bg H;rw[X]at z M;have e:=Bc z B y (by lia) j;rw[M]at e;refine⟨L.length+O.length+D.length+1,⟨by push_cast;lia,by rw[aak];lia⟩,by lia,e,λg=>?_⟩;have o:O=[7001,fw f.rows k L.length+2*w.length]:=by rw[q];unfold ovL;rw[if_pos g]
 have c:cs[L.length]?=some 7001:=jL (i:=0) A (by rw[o];rfl);have n:cs[L.length+1]?=some (fw f.rows k L.length+2*w.length):=jL A (by rw[o];rfl);have C:fw f.rows k L.length+2*(w.length:Int)=((L.length+O.length+D.length+1+2*w.length:Nat):Int):=by push_cast;lia
 rw[C]at n;exact k7 c n (by decide) rfl rfl
abbrev sV(d:PyData)(q:Nat):OD:=.fz (.tuple [d,.int q])
section
variable{n:Nat}{cs:List Int}{p:Nat}
theorem FT{b i q:Nat}{ws:List Int} (S:1<=b) (h:Sx cs (b-1) (.tuple [.str hL,.tuple (ws.map PyData.int)]) q) (r:ws[i]?=some x):pl.pg.call (n+4) 36 [Dl cs,It b,It i]=some (It x,[Dl cs,It b,It i]):=by
 have e:=h n;have H:(xL (n+3)).call=pl.pg.call (n+3):=rfl;rw[<-H,show ((b-1:Nat):Int)=(b:Int)-1 by lia]at e;have j:=(aai.mp r).1;have N:¬ ((ws.length:Int)<=(i:Int)):=by lia
 refine ai rfl rfl (ab (ae (af rfl rfl e rfl) rfl rfl rfl) (ab (s_ifF (bq rfl (bq rfl (rF (Jh rfl (aJ rfl rfl FB)) N))) rfl) (ak (ag (ax rfl rfl rfl (aN (cf (by grind)))) rfl)))) rfl
def Jl(cs:List Int)(p:Nat):Prop:=p=cs.length\/∃w Y q,w≠(lX:Str)/\Sx cs p (.tuple (.str w::Y)) q
abbrev pB:Ss:=match F_past_overs.body with|.cons _ (.cons (.whl _ b) _)=>b|_=>.nil
abbrev pC:E:=.and (.isn true (.nm 2)) ebl
theorem past_w(h:Jl cs p):∃y,pl.pg.call (n+3) 12 [Dl cs,It p]=some (y,[Dl cs,It p])/\own1 [wP cs,re p,none] (.val y)=some (y,[wP cs,re p,none])/\aL (xL (n+3)) pC [wP cs,re p,some y]=some (false,[wP cs,re p,some y]):=by
 rcases h with rfl|⟨w,Y,q,Q,h⟩
 ·exact⟨_,nj ,rfl,iM rfl⟩
 ·refine⟨_,h n,rfl,cY rfl (ar (aq (ax (ax rfl rfl rfl (aN rfl)) rfl rfl (aN aO)) rfl rfl rfl (show some (decide (w=(lX)))=some false by grind)))⟩
theorem rS(h:Jl cs p):pl.pg.call (n+4) 37 [Dl cs,It p]=some (It p,[Dl cs,It p]):=by obtain⟨y,e,T,t⟩:=past_w h;have H:(xL (n+3)).call=pl.pg.call (n+3):=rfl;rw[<-H]at e;exact ai rfl rfl (ab (ae (af rfl rfl e rfl) rfl rfl rfl) (ab (pI (n:=100000) t (by decide)) (ak (ag rfl rfl)))) rfl
theorem Bh{y q:Nat} (h:Sx cs p (.tuple [.str lX,.int y]) q) (J:Jl cs y):pl.pg.call (n+4) 37 [Dl cs,It p]=some (It y,[Dl cs,It p]):=by obtain⟨z,e,T,t⟩:=past_w J;have X:=h n;have H:(xL (n+3)).call=pl.pg.call (n+3):=rfl;rw[<-H]at e X;refine ai rfl rfl (ab (ae (af rfl rfl X rfl) rfl rfl rfl) (ab (ya rfl (ab (ae rfl rfl rfl rfl) (ab (ae (af rfl rfl e rfl) rfl rfl rfl) rfl)) (pI t (by decide))) (ak (ag rfl rfl)))) rfl
abbrev wE(cs:List Int)(p:Nat)(o2 o3 o4 o5:Option OD):DEnv:=[wP cs,re p,o2,o3,o4,o5]
theorem FU:pl.pg.call (n+5) 38 [Dl cs,It cs.length]=some (.fz .none,[Dl cs,It cs.length]):=by have e:=nj (n:=n+3) (cs:=cs);have H:(xL (n+4)).call=pl.pg.call (n+4):=rfl;rw[<-H]at e;exact ai rfl rfl (ab (ae (af rfl rfl e rfl) rfl rfl rfl) (ak (ao (gC rfl) (ak (ag rfl rfl))))) rfl
theorem rV(h:Sx cs p (.tuple (.str w::xs)) q) (O:w≠(lv:Str)) (Z:w≠(hL:Str)) (k:aD (xL (n+4)) (match F_row_at.body with|.cons _ (.cons _ (.cons _ s))=>s|_=>.nil) (wE cs p (some (sV (.tuple (.str w::xs)) q)) (some (.fz (.tuple (.str w::xs)))) (re q) none)=some (.rt z,wE cs p (some (sV (.tuple (.str w::xs)) q)) (some (.fz (.tuple (.str w::xs)))) (re q) o5)):pl.pg.call (n+5) 38 [Dl cs,It p]=some (z,[Dl cs,It p]):=by have e:=h (n+1);have H:(xL (n+4)).call=pl.pg.call (n+4):=rfl;rw[<-H]at e;have T:∀{v:Str},w≠v->aL (xL (n+4)) (.cmp .eq edg (.str v)) (wE cs p (some (sV (.tuple (.str w::xs)) q)) none none none)=some (false,wE cs p (some (sV (.tuple (.str w::xs)) q)) none none none):=λ{v} hv=>ar (aq (ax (ax rfl rfl rfl (aN rfl)) rfl rfl (aN aO)) rfl rfl rfl (show some (decide (w=v))=some false by rw[Dab hv]));exact ai rfl rfl (ab (ae (af rfl rfl e rfl) rfl rfl rfl) (ab (s_ifF (bq rfl (bq (T O) (T Z))) rfl) (ab (s_asgQ rfl rfl rfl) k))) rfl
theorem rW:aL C ecj (wE cs p (some (sV (.tuple (.str w::xs)) q)) (some (.fz (.tuple (.str w::xs)))) (re q) o5)=some (!decide (w=(hY:Str)),wE cs p (some (sV (.tuple (.str w::xs)) q)) (some (.fz (.tuple (.str w::xs)))) (re q) o5):=ar (aq (ax rfl rfl rfl (aN aO)) rfl rfl rfl rfl)
theorem FV(h:Sx cs p (.tuple (.str w::xs)) q) (O:w≠(lv:Str)) (Z:w≠(hL:Str)) (M:w≠(hY:Str)):pl.pg.call (n+5) 38 [Dl cs,It p]=some (sV (.tuple (.str w::xs)) q,[Dl cs,It p]):=by have t:=rW (cs:=cs) (p:=p) (q:=q) (w:=w) (xs:=xs) (C:=xL (n+4)) (o5:=none);rw[Dab M]at t;exact rV h O Z (ak (ao t (ak (ag rfl rfl))))
theorem FW{b i q D:Nat}{ws:List Int} (h:Sx cs p (.tuple [.str hY,.int y,.int b,.int i]) q) (S:1<=b) (m:Sx cs (b-1) (.tuple [.str hL,.tuple (ws.map PyData.int)]) D) (r:ws[i]?=some x):pl.pg.call (n+5) 38 [Dl cs,It p]=some (sV (.tuple [.str ce,.int y,.int x]) q,[Dl cs,It p]):=by have e:=FT (n:=n) S m r;have H:(xL (n+4)).call=pl.pg.call (n+4):=rfl;rw[<-H]at e;have t:=rW (cs:=cs) (p:=p) (q:=q) (w:=hY) (xs:=[.int y,.int b,.int i]) (C:=xL (n+4)) (o5:=none);rw[Dac rfl]at t;exact rV h (by decide) (by decide) (ab (s_ifF t rfl) (ab (ae (af rfl rfl e rfl) rfl rfl rfl) (ak (ag (cb rfl rfl) rfl))))
end
def be:R->List Int->List Int
 |.st x k,h=>h.set x.toNat k
 |.ot w xs _,h=>if w=hR then h.set (xs.getD 0 0).toNat ((h.getD (xs.getD 0 0).toNat 0+h.getD (xs.getD 1 0).toNat 0)%100000000) else if w=hW then h.set (xs.getD 0 0).toNat ((h.getD (xs.getD 0 0).toNat 0-h.getD (xs.getD 1 0).toNat 0)%100000000) else h
def dE:R->List Int->List Int->List Int
 |.st _ _,_,t=>t
 |.ot w xs _,h,t=>if w=hI then t++[h.getD (xs.getD 0 0).toNat 0] else t
def yo:R->List Int->Bool
 |.st _ _,_=>false
 |.ot w xs _,h=>decide (w=am)||(decide (w=bi)&&decide (h.getD (xs.getD 0 0).toNat 0=0))
def Dr(r:R)(d:PyData):Prop:=d=r.d\/(r.jm=true/\∃l g,d=rth r l g)
theorem fT{r:R}{h:List Int}:(be r h).length=h.length:=by
 cases r with
 |st x k=>exact abN
 |ot w Y Q=>
  show (if w=_ then _ else if w=_ then _ else h:List Int).length=_
  grind
theorem gS{r:R}{h t:List Int}:(dE r h t).length<=t.length+1:=by
 cases r with
 |st x k=>exact aa9 _
 |ot w Y Q=>
  show (if w=_ then _ else t:List Int).length<=_;split
  ·rw[aak];exact aac _
  ·exact aa9 _
theorem Cu{m:Nat}{x:Int}(T:0<=x)(O:x<m):ixN m x=some x.toNat:=by
 obtain⟨k,rfl⟩:∃k:Nat,x=k:=⟨x.toNat,by lia⟩
 exact ky (by lia)
theorem i9{h:List Int}{x:Int}(T:0<=x)(O:x<h.length):atI (h.map It) x=re (h.getD x.toNat 0):=atI_get (g:=It) T O
theorem Jm{h:List Int}{x:Int}(T:0<=x)(O:x<h.length):atI (h.map PyData.int) x=some (.int (h.getD x.toNat 0)):=atI_get (g:=PyData.int) T O
abbrev cE(d:PyData)(h t:List Int)(w:Str):DEnv:=[some (.fz d),some (Il h),some (Il t),some (.fz (.str w))]
theorem yp{C:Ct}{k e:E}{d:PyData}{h t:List Int}{w:Str}{x v:Int}(T:0<=x)(O:x<h.length)(n:ev C e (cE d h t w)=some (.val (It v),cE d h t w))(F:ev C k (cE d h t w)=some (.val (It x),cE d h t w)):bG C (.sti 1 k e) (cE d h t w)=some (.nx,cE d (h.set x.toNat v) t w):=by refine iO (ys:=h.map It) (xs:=h.map It) (jj:=x.toNat) n rfl rfl F rfl rfl (by rw[aae];exact Cu T O) ?_;show [_,some (OD.lst ((h.map It).set x.toNat (It v))),_,_]=_;rw[<-List.map_set]
theorem rX{n:Nat}{r:R}{d:PyData}{h t:List Int}(D:r.ok)(W:Dr r d)(L:h.length=5)(X:t.length<=5000):pl.pg.call (n+1) 33 [.fz d,Il h,Il t]=some (.fz .none,[.fz d,Il (be r h),Il (dE r h t)]):=by
 cases r with
 |st x k=>
  have W:=W.elim id λz=>by cases z.1
  subst W;have O:=D.1;exact bz (fn:=bb) (ρ:=cE _ (h.set x.toNat k) t ce) rfl rfl (ab (ae (ρ3:=cE _ h t ce) rfl rfl rfl rfl) (ab (ao rfl (ab (yp O.1 (by omega) rfl rfl) rfl)) rfl)) rfl
 |ot w xs Q=>
  cases D with
  |sum a b S=>
   have W:=W.elim id λz=>by cases z.1
   subst W;refine bz (fn:=bb) (ρ:=cE _ (h.set a.toNat ((h.getD a.toNat 0+h.getD b.toNat 0)%100000000)) t hR) rfl rfl (ab (ae (ρ3:=cE _ h t hR) rfl rfl rfl rfl) (ab (s_ifF rfl (ab (ao rfl (ab (yp (x:=a) S.1.1 (by omega) (ah (ah (ax (x:=.rf 1) rfl rfl rfl (aW rfl (i9 S.1.1 (by omega)))) (ax (x:=.rf 1) rfl rfl rfl (aW rfl (i9 S.2.1 (by omega)))) rfl rfl rfl) rfl rfl rfl (br (j:=100000000) (by decide))) rfl) rfl)) rfl)) rfl)) rfl
  |less a b S=>
   have W:=W.elim id λz=>by cases z.1
   subst W;refine bz (fn:=bb) (ρ:=cE _ (h.set a.toNat ((h.getD a.toNat 0-h.getD b.toNat 0)%100000000)) t hW) rfl rfl (ab (ae (ρ3:=cE _ h t hW) rfl rfl rfl rfl) (ab (s_ifF rfl (ab (s_ifF rfl (ab (ao rfl (ab (yp (x:=a) S.1.1 (by omega) (ah (ah (ax (x:=.rf 1) rfl rfl rfl (aW rfl (i9 S.1.1 (by omega)))) (ax (x:=.rf 1) rfl rfl rfl (aW rfl (i9 S.2.1 (by omega)))) rfl rfl rfl) rfl rfl rfl (br (j:=100000000) (by decide))) rfl) rfl)) rfl)) rfl)) rfl)) rfl
  |tell a S=>
   have W:=W.elim id λz=>by cases z.1
   subst W;refine bz (fn:=bb) (ρ:=cE (R.ot hI [a] Q).d h (t++[h.getD a.toNat 0]) hI) rfl rfl (ab (ae (ρ3:=cE _ h t hI) rfl rfl rfl rfl) (ab (s_ifF rfl (ab (s_ifF rfl (ab (s_ifF rfl (ab (ao rfl (ab (bI (xs:=t.map It) (ρ1:=cE _ h t hI) (ρ2:=cE _ h t hI) rfl (ax (x:=.rf 1) rfl rfl rfl (aW rfl (i9 S.1 (by omega)))) rfl rfl (by grind) ?_) rfl)) rfl)) rfl)) rfl)) rfl)) rfl
   grind
  |stop=>
   have W:=W.elim id λz=>by cases z.1
   subst W;rfl
  |go a=>
   have p:∀{xs:List PyData},pl.pg.call (n+1) 33 [.fz (.tuple (.str am::xs)),Il h,Il t]=some (.fz .none,[.fz (.tuple (.str am::xs)),Il h,Il t]):=λ{xs}=>bz (fn:=bb) rfl rfl (ab (ae (ρ3:=cE _ h t am) (ax rfl rfl rfl (aN aO)) rfl rfl rfl) (ab (s_ifF rfl (ab (s_ifF rfl (ab (s_ifF rfl (ab (s_ifF rfl rfl) rfl)) rfl)) rfl)) rfl)) rfl;rcases W with rfl|⟨_,l,g,rfl⟩
   ·rfl
   ·rfl
  |nil a b S=>
   have p:∀{xs:List PyData},pl.pg.call (n+1) 33 [.fz (.tuple (.str bi::xs)),Il h,Il t]=some (.fz .none,[.fz (.tuple (.str bi::xs)),Il h,Il t]):=λ{xs}=>bz (fn:=bb) rfl rfl (ab (ae (ρ3:=cE _ h t bi) (ax rfl rfl rfl (aN aO)) rfl rfl rfl) (ab (s_ifF rfl (ab (s_ifF rfl (ab (s_ifF rfl (ab (s_ifF rfl rfl) rfl)) rfl)) rfl)) rfl)) rfl;rcases W with rfl|⟨_,l,g,rfl⟩
   ·rfl
   ·rfl
theorem Jn{n:Nat}{r:R}{d:PyData}{h:List Int}(D:r.ok)(W:Dr r d)(L:h.length=5):pl.pg.call (n+1) 34 ([d,.list (h.map PyData.int)].map OD.fz)=some (.fz (.bool (yo r h)),[.fz d,.fz (.list (h.map PyData.int))]):=by
 have O:∀{w:Str}{Y:List PyData},w≠(am:Str)->w≠(bi:Str)->pl.pg.call (n+1) 34 [.fz (.tuple (.str w::Y)),.fz (.list (h.map PyData.int))]=some (.fz (.bool false),[.fz (.tuple (.str w::Y)),.fz (.list (h.map PyData.int))]):=λ{w Y} h1 h2=>ai (fn:=cI) (ρ:=[some (.fz (.tuple (.str w::Y))),some (.fz (.list (h.map PyData.int)))]) rfl rfl (ak (ag (mB (aq (dx:=.str w) (dy:=.str am) (ax rfl rfl rfl (aN aO)) rfl rfl rfl (show some (decide (w=(am)))=some false by grind)) (ku (aq (dx:=.str w) (dy:=.str bi) (ax rfl rfl rfl (aN aO)) rfl rfl rfl (show some (decide (w=(bi)))=some false by grind)))) rfl)) rfl;cases r with
 |st x k=>
  have W:=W.elim id λz=>by cases z.1
  subst W;rfl
 |ot w Y Q=>
  cases D with
  |sum a b S=>
   obtain rfl:=W.elim id λz=>by cases z.1
   rfl
  |less a b S=>
   obtain rfl:=W.elim id λz=>by cases z.1
   rfl
  |tell a S=>
   obtain rfl:=W.elim id λz=>by cases z.1
   rfl
  |stop=>
   obtain rfl:=W.elim id λz=>by cases z.1
   rfl
  |go a=>
   have p:∀{Y:List PyData},pl.pg.call (n+1) 34 [.fz (.tuple (.str am::Y)),.fz (.list (h.map PyData.int))]=some (.fz (.bool true),[.fz (.tuple (.str am::Y)),.fz (.list (h.map PyData.int))]):=λ{Y}=>ai (fn:=cI) rfl rfl (ak (ag (B5 (aq (dx:=.str am) (dy:=.str am) (ax rfl rfl rfl (aN aO)) rfl rfl rfl rfl)) rfl)) rfl;rcases W with rfl|⟨_,l,g,rfl⟩
   ·rfl
   ·rfl
  |nil a b S=>
   have p:∀{Y:List PyData},pl.pg.call (n+1) 34 [.fz (.tuple (.str bi::.int a::Y)),.fz (.list (h.map PyData.int))]=some (.fz (.bool (decide (h.getD a.toNat 0=0))),[.fz (.tuple (.str bi::.int a::Y)),.fz (.list (h.map PyData.int))]):=λ{Y}=>ai (fn:=cI) (ρ:=[some (.fz (.tuple (.str bi::.int a::Y))),some (.fz (.list (h.map PyData.int)))]) rfl rfl (ak (ag (mB (aq (dx:=.str bi) (dy:=.str am) (ax rfl rfl rfl (aN aO)) rfl rfl rfl rfl) (iN (aq (dx:=.str bi) (dy:=.str bi) (ax rfl rfl rfl (aN aO)) rfl rfl rfl rfl) (aq (dx:=.int (h.getD a.toNat 0)) (dy:=.int 0) (ax rfl (ax rfl rfl rfl (aN (cf (k:=1) rfl))) rfl (aR (Jm S.1 (by omega)))) rfl rfl rfl rfl))) rfl)) rfl;rcases W with rfl|⟨_,l,g,rfl⟩
   ·exact p
   ·exact p
theorem FX(h:c ρ=some (true,ρ1))(S:b ρ1=some (.rt x,ρ2)):cv c b (n+1) ρ=some (.rt x,ρ2):=bs h (by rw[if_pos rfl];exact bs S rfl)
def nxA(r:R)(h:List Int)(a:Nat):Nat:=if yo r h=true then r.tg.toNat else a+1
abbrev k8(rs:List R)(a:Nat):Str:=if a=rs.length then pi else ol
def pr(rs:List R):Nat->List Int->List Int->List Nat->Nat->List Int×Str×List Nat
 |0,_,t,w,a=>(t,k8 rs a,w)
 |m+1,h,t,w,a=>match rs[a]? with
  |none=>(t,k8 rs a,w)
  |some r=>if r.wd=bv then (t,ii,w++[a]) else pr rs m (be r h) (dE r h t) (w++[a]) (nxA r (be r h) a)
abbrev tI(P:Nat->Nat)(w:List Nat):List Int:=w.map λa=>((P a:Nat):Int)
abbrev RT(P:Nat->Nat)(z:List Int×Str×List Nat):OD:=.fz (.tuple [.list (z.1.map PyData.int),.str z.2.1,.list ((tI P z.2.2).map PyData.int)])
theorem Bi:Il (tI P (w++[a]))=.lst ((tI P w).map It++[It (P a)]):=by
 grind
theorem pO(h:ev C (.nm i) ρ=some (.rf i,ρ))(r:ρ[i]?.join=some (Il xs)):ev C (.blt .len (.cons (.nm i) .nil)) ρ=some (.val (It xs.length),ρ):=aJ (aa h aj) (jC (by show (ρ[i]?.join).bind OD.dat=_;rw[r];exact aA xs)) ilen
theorem bX(h:ρ[j]?.join=some x)(W:x.dat=some d)(D:ρ.set j (some (.fz d))=ρ'):own1 ρ (.rf j)=some (.fz d,ρ'):=by show (frz1 ρ (.rf j)).map _=_;rw[frz_rf h W D];rfl
theorem uz(O:own1 ρ (.rf i)=some (x,ρ1))(Z:own1 ρ1 (.rf j)=some (z,ρ2)):mapR own1 ρ [.rf i,.val y,.rf j]=some ([x,y,z],ρ2):=by
 have J:mapR own1 ρ1 [.rf j]=some ([z],ρ2):=by show (own1 ρ1 (.rf j)).bind _=_;rw[Z];rfl
 have B:mapR own1 ρ1 [.val y,.rf j]=some ([y,z],ρ2):=by show (mapR own1 ρ1 [.rf j]).map _=_;grind
 show (own1 ρ (.rf i)).bind _=_
 grind
abbrev tE(rs:List R)(M:Nat)(h t:List Int)(w:List Nat)(a:Nat)(o6:Option OD):DEnv:=[ut rs,re M,some (Il h),some (Il t),some (Il (tI id w)),re a,o6]
abbrev tW:Ss:=match F_told_plainly.body with|.cons _ (.cons _ (.cons _ (.cons _ s)))=>s|_=>.nil
abbrev tB:Ss:=match tW with|.cons (.whl _ b) _=>b|_=>.nil
abbrev tC:E:=.and eb9 eca
theorem uA{r:R}(l:Nb rs)(I:Jb rs.length rs)(D:rs[a]?=some r)(L:h.length=5)(X:t.length<=5000)(Q:w.length<=5000):(r.wd=bv->∃p,aD (xL (n+2)) tB (tE rs M h t w a o6)=some (.rt (RT id (t,ii,w++[a])),p))/\(r.wd≠bv->aD (xL (n+2)) tB (tE rs M h t w a o6)=some (.nx,tE rs M (be r h) (dE r h t) (w++[a]) (nxA r (be r h) a) (sK r))):=by
 have F:=aax D;have f:bG (xL (n+2)) ed4 (tE rs M h t w a o6)=some (.nx,tE rs M h t w a (sK r)):=ae (ax rfl rfl rfl (aR (dH D))) rfl rfl rfl;have Z:bG (xL (n+2)) (.app 4 (.nm 5)) (tE rs M h t w a (sK r))=some (.nx,tE rs M h t (w++[a]) a (sK r)):=by
  refine bI rfl rfl rfl rfl (by grind) ?_
  grind
 have O:aL (xL (n+2)) Lq (tE rs M h t (w++[a]) a (sK r))=some (decide (r.wd=bv),tE rs M h t (w++[a]) a (sK r)):=ar (AX rfl rfl);refine⟨λg=>?_,λg=>?_⟩
 ·rw[Dac g]at O;exact⟨_,ab f (ab Z (ak (ao O (ak (ag (bj (aa rfl (aa rfl (aa rfl aj))) rfl (uz (bX rfl (aA t) rfl) (bX rfl (aA _) rfl)) rfl) rfl)))))⟩
 ·rw[Dab g]at O;have S:=rX (n:=n+1) (l r F) (.inl rfl) L X;have J:=Jn (n:=n+1) (h:=be r h) (l r F) (.inl rfl) (by rw[fT];lia);have H:(xL (n+2)).call=pl.pg.call (n+2):=rfl;rw[<-H]at S J;have c:bG (xL (n+2)) ebe (tE rs M h t (w++[a]) a (sK r))=some (.nx,tE rs M (be r h) (dE r h t) (w++[a]) a (sK r)):=mC (af rfl rfl S rfl);have b:aL (xL (n+2)) L7 (tE rs M (be r h) (dE r h t) (w++[a]) a (sK r))=some (yo r (be r h),tE rs M (be r h) (dE r h t) (w++[a]) a (sK r)):=qV (qU rfl (wD rfl (aA _)) J rfl);have u:bG (xL (n+2)) eap (tE rs M (be r h) (dE r h t) (w++[a]) a (sK r))=some (.nx,tE rs M (be r h) (dE r h t) (w++[a]) (nxA r (be r h) a) (sK r)):=by
   unfold nxA;cases W:yo r (be r h) with
   |true=>
    rw[W]at b;have B:r.jm=true:=by
     cases r with
     |st x k=>cases W
     |ot v Y o=>
      have W:(decide (v=am)||(decide (v=bi)&&_))=true:=W;show (decide (v=am)||decide (v=bi))=true
      grind
    have N:=I r F B;have T:((r.tg.toNat:Nat):Int)=r.tg:=by lia
    rw[if_pos rfl];refine ae (cH b (xU rfl (I r F) B)) rfl rfl ?_;show [_,_,_,_,_,re r.tg,_]=[_,_,_,_,_,re ((r.tg.toNat:Nat):Int),_];rw[T]
   |false=>rw[W]at b;rw[if_neg aar];exact ae (cb b rfl) rfl rfl rfl
  exact ab f (ab Z (ab (s_ifF O rfl) (ab c (ab u rfl))))
theorem pP(I:Jb rs.length rs)(D:rs[a]?=some r):nxA r h a<=rs.length:=by
 have i:=(aai.mp D).1;unfold nxA;split
 ·rename_i W;have B:r.jm=true:=by
   cases r with
   |st x k=>cases W
   |ot v Y o=>
    have W:(decide (v=am)||(decide (v=bi)&&_))=true:=W;show (decide (v=am)||decide (v=bi))=true
    grind
  grind
 ·lia
theorem uD(T:Nb rs)(I:Jb rs.length rs)(z:M<=2000):∀{m:Nat}{h t:List Int}{w:List Nat}{a fuel:Nat}{o6:Option OD},h.length=5->a<=rs.length->w.length+m=M->t.length<=w.length->m<fuel->∃p,(∃ρ1 x,cv (aL (xL (n+2)) tC) (aD (xL (n+2)) tB) fuel (tE rs M h t w a o6)=some x/\(match x.1 with|.nx=>aD (xL (n+2)) (match tW with|.cons _ s=>s|_=>.nil) x.2|fl=>some (fl,x.2))=some (.rt (RT id (pr rs m h t w a)),p)/\ρ1=x.2):=by
 have v:∀{h t:List Int}{w:List Nat}{a:Nat}{o6:Option OD},aL (xL (n+2)) eb9 (tE rs M h t w a o6)=some (decide ((a:Int)<(rs.length:Int)),tE rs M h t w a o6):=fc rfl (aJ rfl rfl blen);have S:∀{h t:List Int}{w:List Nat}{a:Nat}{o6:Option OD},aL (xL (n+2)) eca (tE rs M h t w a o6)=some (decide (((tI id w).length:Int)<(M:Int)),tE rs M h t w a o6):=fc (pO rfl rfl) rfl;have O:∀{h t:List Int}{w:List Nat}{a fuel:Nat}{o6:Option OD},(a=rs.length\/w.length=M)->0<fuel->∃p,(∃ρ1 x,cv (aL (xL (n+2)) tC) (aD (xL (n+2)) tB) fuel (tE rs M h t w a o6)=some x/\(match x.1 with|.nx=>aD (xL (n+2)) (match tW with|.cons _ s=>s|_=>.nil) x.2|fl=>some (fl,x.2))=some (.rt (RT id (t,k8 rs a,w)),p)/\ρ1=x.2):=by
  intro h t w a fuel o6 U y;have H:aL (xL (n+2)) tC (tE rs M h t w a o6)=some (false,tE rs M h t w a o6):=by
   by_cases i:(a:Int)<(rs.length:Int)
   ·exact cY (rT v i) (rF S (by grind))
   ·exact iM (rF v i)
  have o:ev (xL (n+2)) Lr (tE rs M h t w a o6)=some (.val (.fz (.str (k8 rs a))),tE rs M h t w a o6):=by
   have P:aL (xL (n+2)) ecb (tE rs M h t w a o6)=some (decide ((a:Int)=(rs.length:Int)),tE rs M h t w a o6):=dJ rfl (aJ rfl rfl blen);by_cases i:a=rs.length
   ·rw[show k8 rs a=pi from if_pos i];exact cH (rT P (by lia)) rfl
   ·rw[show k8 rs a=ol from if_neg i];exact cb (rF P (by lia)) rfl
  exact⟨_,_,_,pI H y,ak (ag (bj (aa rfl (aa o (aa rfl aj))) rfl (uz (bX rfl (aA t) rfl) (bX rfl (aA _) rfl)) rfl) rfl),rfl⟩
 intro m;induction m with
 |zero=>intro h t w a fuel o6 L i Q X y;exact O (.inr (by lia)) y
 |succ m Y=>
  intro h t w a fuel o6 L i Q X y;cases D:rs[a]? with
  |none=>
   have:rs.length<=a:=acr.mp D;have e:pr rs (m+1) h t w a=(t,k8 rs a,w):=by rw[pr,D]
   rw[e];exact O (.inl (by lia)) (by lia)
  |some r=>
   have N:=(aai.mp D).1;have H:aL (xL (n+2)) tC (tE rs M h t w a o6)=some (true,tE rs M h t w a o6):=cY (rT v (by lia)) (rT S (by rw[aae];lia));obtain⟨u,l⟩:=uA T I D L (t:=t) (by lia) (w:=w) (by lia);obtain⟨fuel,rfl⟩:∃f,fuel=f+1:=⟨fuel-1,by lia⟩
   by_cases g:r.wd=bv
   ·obtain⟨p,k⟩:=u g;have e:pr rs (m+1) h t w a=(t,(ii:Str),w++[a]):=by rw[pr,D];exact if_pos g
    rw[e];exact⟨p,_,_,FX H k,rfl,rfl⟩
   ·have e:pr rs (m+1) h t w a=pr rs m (be r h) (dE r h t) (w++[a]) (nxA r (be r h) a):=by rw[pr,D];exact if_neg g
    rw[e];have b:=gS (r:=r) (h:=h) (t:=t);obtain⟨p,ρ1,x,J,B,A⟩:=Y (h:=be r h) (t:=dE r h t) (w:=w++[a]) (fuel:=fuel) (by rw[fT];exact L) (pP I D) (by rw[aak,aaR];lia) (by rw[aak,aaR];lia) (by lia);exact⟨p,ρ1,x,ya H (l g) J,B,A⟩
abbrev h5:List Int:=[0,0,0,0,0]
theorem FY{n M:Nat}(l:Nb rs)(I:Jb rs.length rs)(z:M<=2000):pl.pg.call (n+3) 35 [Rl rs,It M]=some (RT id (pr rs M h5 [] [] 0),[Rl rs,It M]):=by obtain⟨p,A,x,J,B,_⟩:=uD l I z (h:=h5) (t:=[]) (w:=[]) (fuel:=100000) rfl (aaB _) (aaP _) (aac _) (by omega);refine ai (ρ:=p) rfl rfl ?_ rfl;refine ab (ae rfl rfl rfl rfl) (ab (ae rfl rfl rfl rfl) (ab (ae rfl rfl rfl rfl) (ab (ae rfl rfl rfl rfl) ?_)));exact bs (J) B
structure Mrow (cs:List Int)(P:Nat->Nat)(a:Nat)(r:R)(d:PyData)(q:Nat):Prop where
 dr:Dr r d
 lt:P a<cs.length
 jm:r.jm=true->∃ys l,d=.tuple (ys++[.int (P r.tg.toNat),.bool l])
 at':∀n,pl.pg.call (n+5) 38 [Dl cs,It (P a)]=some (sV d q,[Dl cs,It (P a)])
 nx:r.wd≠am->r.wd≠bv->∀n,pl.pg.call (n+4) 37 [Dl cs,It q]=some (It (P (a+1)),[Dl cs,It q])
structure Mh (cs:List Int)(rs:List R)(P:Nat->Nat):Prop where
 row:∀a r,rs[a]?=some r->∃d q,Mrow cs P a r d q
 fin:P rs.length=cs.length
 nov:∀a,a<=rs.length->∀n,pl.pg.call (n+4) 37 [Dl cs,It (P a)]=some (It (P a),[Dl cs,It (P a)])
 beg:∀n,pl.pg.call (n+4) 37 [Dl cs,It 0]=some (It (P 0),[Dl cs,It 0])
theorem Dr.nm{r:R}{d:PyData}(h:Dr r d):∃xs,d=.tuple (.str r.wd::xs):=by
 rcases h with rfl|⟨W,l,g,rfl⟩
 ·exact⟨_,R.w4 r⟩
 ·cases r with
  |st x k=>cases W
  |ot w xs Q=>
   show ∃o,(if w=_ then _ else if w=_ then _ else _)=PyData.tuple (.str w::o);by_cases O:w=am
   ·simp[*]
   ·rw[if_neg O];by_cases Z:w=bi
    ·rw[if_pos Z,Z];simp
    ·simp[*]
theorem jn_jm{r:R}{h:List Int}(W:yo r h=true):r.jm=true:=by
 cases r with
 |st x k=>cases W
 |ot v Y o=>
  have W:(decide (v=am)||(decide (v=bi)&&_))=true:=W;show (decide (v=am)||decide (v=bi))=true
  grind
theorem Jo{r:R}{h:List Int}(W:yo r h=false):r.wd≠am:=by
 cases r with
 |st x k=>exact(by decide:(ce:Str)≠am)
 |ot v Y o=>
  have W:(decide (v=am)||(decide (v=bi)&&_))=false:=W;exact λz=>by
   have z:v=am:=z
   grind
theorem uF{Y:Type}{xs:List Y}{x y:Y}:atI (xs++[x,y]) (-2)=some x:=by
 have e:ixN (xs++[x,y]).length (-2)=some xs.length:=by
  unfold ixN
  grind
 exact bs e (by simp)
section
variable{n M:Nat}{cs:List Int}{rs:List R}{P:Nat->Nat}
def Lw(cs:List Int)(rs:List R)(P:Nat->Nat)(a:Nat)(A:OD):Prop:=(a=rs.length/\A=.fz .none)\/∃r d q,rs[a]?=some r/\Mrow cs P a r d q/\A=sV d q
theorem Mh.fnd(m:Mh cs rs P){a:Nat}(i:a<=rs.length):∃A,Lw cs rs P a A/\∀n,pl.pg.call (n+5) 38 [Dl cs,It (P a)]=some (A,[Dl cs,It (P a)]):=by
 cases D:rs[a]? with
 |none=>
  have:a=rs.length:=by grind
  subst this;exact⟨_,.inl ⟨rfl,rfl⟩,λn=>by rw[m.fin];exact FU⟩
 |some r=>obtain⟨d,q,k⟩:=m.row a r D;exact⟨_,.inr ⟨r,d,q,D,k,rfl⟩,k.at'⟩
abbrev uE(cs:List Int)(P:Nat->Nat)(M:Nat)(h t:List Int)(w:List Nat)(a:Nat)(fo:OD)(o7 o8:Option OD):DEnv:=[wP cs,re M,some (Il h),some (Il t),some (Il (tI P w)),re (P a),some fo,o7,o8]
abbrev uW:Ss:=match F_run.body with|.cons _ (.cons _ (.cons _ (.cons _ (.cons _ s))))=>s|_=>.nil
abbrev uB:Ss:=match uW with|.cons (.whl _ b) _=>b|_=>.nil
abbrev uC:E:=.and (.isn true (.nm 6)) eca
theorem yq{h t:List Int}{w:List Nat}{a:Nat}{r:R}{d:PyData}{q:Nat}{o7 o8:Option OD}(m:Mh cs rs P)(u:Nb rs)(I:Jb rs.length rs)(D:rs[a]?=some r)(k:Mrow cs P a r d q)(L:h.length=5)(X:t.length<=5000)(Q:w.length<=5000):(r.wd=bv->∃p,aD (xL (n+5)) uB (uE cs P M h t w a (sV d q) o7 o8)=some (.rt (RT P (t,ii,w++[a])),p))/\(r.wd≠bv->∀A,(∀n,pl.pg.call (n+5) 38 [Dl cs,It (P (nxA r (be r h) a))]=some (A,[Dl cs,It (P (nxA r (be r h) a))]))->own1 (uE cs P M (be r h) (dE r h t) (w++[a]) (nxA r (be r h) a) (sV d q) (some (.fz d)) (re q)) (.val A)=some (A,uE cs P M (be r h) (dE r h t) (w++[a]) (nxA r (be r h) a) (sV d q) (some (.fz d)) (re q))->aD (xL (n+5)) uB (uE cs P M h t w a (sV d q) o7 o8)=some (.nx,uE cs P M (be r h) (dE r h t) (w++[a]) (nxA r (be r h) a) A (some (.fz d)) (re q))):=by
 have F:=aax D;obtain⟨xs,c⟩:=k.dr.nm;have f:bG (xL (n+5)) eei (uE cs P M h t w a (sV d q) o7 o8)=some (.nx,uE cs P M h t w a (sV d q) (some (.fz d)) (re q)):=s_asgQ rfl rfl rfl;have Z:bG (xL (n+5)) (.app 4 (.nm 5)) (uE cs P M h t w a (sV d q) (some (.fz d)) (re q))=some (.nx,uE cs P M h t (w++[a]) a (sV d q) (some (.fz d)) (re q)):=by refine bI (xs:=(tI P w).map It) (ρ1:=uE cs P M h t w a (sV d q) (some (.fz d)) (re q)) (ρ2:=uE cs P M h t w a (sV d q) (some (.fz d)) (re q)) rfl rfl rfl rfl (by rw[aae,aae];omega) ?_;show _=[_,_,_,_,some (Il (tI P (w++[a]))),_,_,_,_];rw[Bi];rfl
 have O:aL (xL (n+5)) ecr (uE cs P M h t (w++[a]) a (sV d q) (some (.fz d)) (re q))=some (decide (r.wd=bv),uE cs P M h t (w++[a]) a (sV d q) (some (.fz d)) (re q)):=ar (aq (dx:=.str r.wd) (dy:=.str bv) (ax (x:=.val (.fz d)) rfl rfl rfl (by rw[c];exact aN aO)) rfl rfl rfl rfl);refine⟨λg=>?_,λg A y T=>?_⟩
 ·rw[Dac g]at O;exact⟨_,ab f (ab Z (ak (ao O (ak (ag (z:=RT P (t,ii,w++[a])) (bj (zs:=[.fz (.list (t.map PyData.int)),.fz (.str ii),.fz (.list ((tI P (w++[a])).map PyData.int))]) (ρ2:=[wP cs,re M,some (Il h),some (.fz (.list (t.map PyData.int))),some (.fz (.list ((tI P (w++[a])).map PyData.int))),re (P a),some (sV d q),some (.fz d),re q]) (aa (x:=.rf 3) rfl (aa rfl (aa (x:=.rf 4) rfl aj))) rfl (uz (bX rfl (aA t) rfl) (bX rfl (aA _) rfl)) rfl) rfl)))))⟩
 ·rw[Dab g]at O;have S:=rX (n:=n+4) (u r F) k.dr L X;have J:=Jn (n:=n+4) (h:=be r h) (u r F) k.dr (by rw[fT];exact L);have U:=y n;have H:(xL (n+5)).call=pl.pg.call (n+5):=rfl;rw[<-H]at S J U;have i:bG (xL (n+5)) ebf (uE cs P M h t (w++[a]) a (sV d q) (some (.fz d)) (re q))=some (.nx,uE cs P M (be r h) (dE r h t) (w++[a]) a (sV d q) (some (.fz d)) (re q)):=mC (af (rs:=[.val (.fz d),.rf 2,.rf 3]) (ρ3:=uE cs P M (be r h) (dE r h t) (w++[a]) a (sV d q) (some (.fz d)) (re q)) rfl rfl S rfl);have b:aL (xL (n+5)) L6 (uE cs P M (be r h) (dE r h t) (w++[a]) a (sV d q) (some (.fz d)) (re q))=some (yo r (be r h),uE cs P M (be r h) (dE r h t) (w++[a]) a (sV d q) (some (.fz d)) (re q)):=qV (qU (rs:=[.val (.fz d),.rf 2]) rfl (wD rfl (aA _)) J rfl);have v:bG (xL (n+5)) eaj (uE cs P M (be r h) (dE r h t) (w++[a]) a (sV d q) (some (.fz d)) (re q))=some (.nx,uE cs P M (be r h) (dE r h t) (w++[a]) (nxA r (be r h) a) (sV d q) (some (.fz d)) (re q)):=by
   unfold nxA;cases W:yo r (be r h) with
   |true=>rw[W]at b;have B:=jn_jm W;have N:=I r F B;obtain⟨o,l,C⟩:=k.jm B;have e:=m.nov r.tg.toNat (by omega) (n+1);rw[show n+1+4=n+5 from rfl,<-H]at e;rw[if_pos rfl];exact ae (af (ρ1:=uE cs P M (be r h) (dE r h t) (w++[a]) a (sV d q) (some (.fz d)) (re q)) (rs:=[.val (Dl cs),.val (It (P r.tg.toNat))]) (ρ3:=uE cs P M (be r h) (dE r h t) (w++[a]) a (sV d q) (some (.fz d)) (re q)) (aa rfl (aa (cH b (ax (x:=.val (.fz d)) rfl rfl rfl (by rw[C];exact aN uF))) aj)) rfl e rfl) rfl rfl rfl
   |false=>rw[W]at b;have e:=k.nx (Jo W) g (n+1);rw[show n+1+4=n+5 from rfl,<-H]at e;rw[if_neg aar];exact ae (af (ρ1:=uE cs P M (be r h) (dE r h t) (w++[a]) a (sV d q) (some (.fz d)) (re q)) (rs:=[.val (Dl cs),.val (It q)]) (ρ3:=uE cs P M (be r h) (dE r h t) (w++[a]) a (sV d q) (some (.fz d)) (re q)) (aa rfl (aa (cb b rfl) aj)) rfl e rfl) rfl rfl rfl
  have s:bG (xL (n+5)) ebt (uE cs P M (be r h) (dE r h t) (w++[a]) (nxA r (be r h) a) (sV d q) (some (.fz d)) (re q))=some (.nx,uE cs P M (be r h) (dE r h t) (w++[a]) (nxA r (be r h) a) A (some (.fz d)) (re q)):=ae (af (ρ3:=uE cs P M (be r h) (dE r h t) (w++[a]) (nxA r (be r h) a) (sV d q) (some (.fz d)) (re q)) rfl rfl U rfl) T rfl rfl;exact ab f (ab Z (ab (s_ifF O rfl) (ab i (ab v (ab s rfl)))))
end
section
variable{n M:Nat}{cs:List Int}{rs:List R}{P:Nat->Nat}
theorem yr(K:Mh cs rs P)(hn:Nb rs)(I:Jb rs.length rs)(hM:M<=2000):∀{m:Nat}{h t:List Int}{w:List Nat}{a fuel:Nat}{A:OD}{o7 o8:Option OD},Lw cs rs P a A->h.length=5->a<=rs.length->w.length+m=M->t.length<=w.length->m<fuel->∃p,(∃x,cv (aL (xL (n+5)) uC) (aD (xL (n+5)) uB) fuel (uE cs P M h t w a A o7 o8)=some x/\(match x.1 with|.nx=>aD (xL (n+5)) (match uW with|.cons _ s=>s|_=>.nil) x.2|fl=>some (fl,x.2))=some (.rt (RT P (pr rs m h t w a)),p)):=by
 have S:∀{h t:List Int}{w:List Nat}{a:Nat}{A:OD}{o7 o8:Option OD},aL (xL (n+5)) eca (uE cs P M h t w a A o7 o8)=some (decide (((tI P w).length:Int)<(M:Int)),uE cs P M h t w a A o7 o8):=fc (pO rfl rfl) rfl;have O:∀{h t:List Int}{w:List Nat}{a fuel:Nat}{A:OD}{o7 o8:Option OD},Lw cs rs P a A->(a=rs.length\/w.length=M)->0<fuel->∃p,(∃x,cv (aL (xL (n+5)) uC) (aD (xL (n+5)) uB) fuel (uE cs P M h t w a A o7 o8)=some x/\(match x.1 with|.nx=>aD (xL (n+5)) (match uW with|.cons _ s=>s|_=>.nil) x.2|fl=>some (fl,x.2))=some (.rt (RT P (t,k8 rs a,w)),p)):=by
  intro h t w a fuel A o7 o8 Z U y;have c:aL (xL (n+5)) ecb (uE cs P M h t w a A o7 o8)=some (decide ((P a:Int)=(cs.length:Int)),uE cs P M h t w a A o7 o8):=dJ rfl (aJ rfl rfl blen);have W:∀{e:E}{z:Str},ev (xL (n+5)) e (uE cs P M h t w a A o7 o8)=some (.val (.fz (.str z)),uE cs P M h t w a A o7 o8)->bG (xL (n+5)) (.ret (.tup (.cons (.nm 3) (.cons e efa)))) (uE cs P M h t w a A o7 o8)=some (.rt (RT P (t,z,w)),[wP cs,re M,some (Il h),some (.fz (.list (t.map PyData.int))),some (.fz (.list ((tI P w).map PyData.int))),re (P a),some A,o7,o8]):=λ{e z} he=>ag (bj (aa rfl (aa he (aa rfl aj))) rfl (uz (bX rfl (aA t) rfl) (bX rfl (aA _) rfl)) rfl) rfl;rcases Z with ⟨rfl,rfl⟩|⟨r,d,q,D,k,rfl⟩
  ·rw[show k8 rs rs.length=pi from if_pos rfl];exact⟨_,_,pI (iM rfl) y,ak (ao (rT c (by rw[K.fin])) (ak (W rfl)))⟩
  ·have N:=(aai.mp D).1;have v:=k.lt;rw[show k8 rs a=ol from if_neg (by lia)];exact⟨_,_,pI (cY rfl (rF S (by rw[aae];lia))) y,ab (s_ifF (rF c (by lia)) rfl) (ak (W (cb rfl rfl)))⟩
 intro m;induction m with
 |zero=>intro h t w a fuel A o7 o8 Z L i Q X y;exact O Z (.inr (by lia)) y
 |succ m Y=>
  intro h t w a fuel A o7 o8 Z L i Q X y;rcases id Z with ⟨T,_⟩|⟨r,d,q,D,k,rfl⟩
  ·have e:pr rs (m+1) h t w a=(t,k8 rs a,w):=by rw[pr,List.getElem?_eq_none (by lia)]
   rw[e];exact O Z (.inl T) (by lia)
  ·have H:aL (xL (n+5)) uC (uE cs P M h t w a (sV d q) o7 o8)=some (true,uE cs P M h t w a (sV d q) o7 o8):=cY rfl (rT S (by rw[aae];lia));obtain⟨u,l⟩:=yq K hn I D k L (t:=t) (by lia) (w:=w) (by lia);obtain⟨fuel,rfl⟩:∃f,fuel=f+1:=⟨fuel-1,by lia⟩
   by_cases g:r.wd=bv
   ·obtain⟨p,k⟩:=u g;have e:pr rs (m+1) h t w a=(t,(ii:Str),w++[a]):=by rw[pr,D];exact if_pos g
    rw[e];exact⟨p,_,FX H k,rfl⟩
   ·have e:pr rs (m+1) h t w a=pr rs m (be r h) (dE r h t) (w++[a]) (nxA r (be r h) a):=by rw[pr,D];exact if_neg g
    rw[e];have j:=gS (r:=r) (h:=h) (t:=t);have C:=pP (h:=be r h) I D;obtain⟨b,o,F⟩:=K.fnd C;obtain⟨p,x,J,B⟩:=Y (h:=be r h) (t:=dE r h t) (w:=w++[a]) (fuel:=fuel) o (by rw[fT];exact L) C (by rw[aak,aaR];lia) (by rw[aak,aaR];lia) (by lia);exact⟨p,x,ya H (l g b F rfl) J,B⟩
theorem Jp(K:Mh cs rs P)(l:Nb rs)(I:Jb rs.length rs)(z:M<=2000):pl.pg.call (n+6) 39 [Dl cs,It M]=some (RT P (pr rs M h5 [] [] 0),[Dl cs,It M]):=by obtain⟨A,r,F⟩:=K.fnd (aaB _);obtain⟨p,x,J,B⟩:=yr K l I z (h:=h5) (t:=[]) (w:=[]) (fuel:=100000) r rfl (aaB _) (aaP _) (aac _) (by omega);have e:=K.beg (n+1);have U:=F n;have H:(xL (n+5)).call=pl.pg.call (n+5):=rfl;rw[show n+1+4=n+5 from rfl,<-H]at e;rw[<-H]at U;refine ai (ρ:=p) rfl rfl ?_ rfl;refine ab (ae rfl rfl rfl rfl) (ab (ae rfl rfl rfl rfl) (ab (ae rfl rfl rfl rfl) (ab (ae (af rfl rfl e rfl) rfl rfl rfl) (ab (ae (af rfl rfl U rfl) rfl rfl rfl) ?_))));exact bs (J) B
end
theorem pQ(F:k<f.rows.length):(fin f qs).ps[k]?=some (inner f qs k (mac f qs k)).pl:=by
 obtain⟨m,Y⟩:∃m,f.rows.length=k+1+m:=⟨f.rows.length-(k+1),by omega⟩
 have J:(fin f qs).ps[k]?=(mac f qs (k+1)).ps[k]?:=by show (inner f qs f.rows.length (mac f qs f.rows.length)).ps[k]?=_;rw[bU,Y];exact mac_pre (aa8 k)
 rw[J];show ((inner f qs k (mac f qs k)).ps++[(inner f qs k (mac f qs k)).pl])[k]?=_;have j:(inner f qs k (mac f qs k)).ps.length=k:=by rw[bU,eT]
 rw[aa4 (by omega),j,abA];rfl
theorem k9:∀{qs:Pz}{L:List Int},∃T,dN f k qs L=L++T
 |[],L=>⟨[],(aap _).symm⟩
 |q::qs,L=>by
  show ∃T,dN f k qs (if q.1=(k:Int) then L++poolC f.rows k q.2 L.length else L)=L++T;split
  ·obtain⟨T,e⟩:=k9;exact⟨_,by rw[e,aab]⟩
  ·exact k9
section
variable{f:Cf}{qs:Pz}{us:List Int}
abbrev Pp(f:Cf)(qs:Pz)(us:List Int)(k:Nat):Nat:=(dN f k qs (CC f qs us k)).length
theorem lh:∀{m k:Nat},k+m=f.rows.length->(∃T,AC f qs us=dN f k qs (CC f qs us k)++T)/\(∃T,AC f qs us=CC f qs us k++T)
 |0,k,h=>by have h:k=f.rows.length:=h;subst h;exact⟨⟨[],(aap _).symm⟩,k9⟩
 |m+1,k,h=>by
  obtain⟨_,T,e⟩:=lh (m:=m) (k:=k+1) (by lia);have B:∃T,AC f qs us=dN f k qs (CC f qs us k)++T:=⟨_,by rw[e];exact aab _ _ _⟩
  obtain⟨t,J⟩:=B;obtain⟨A,s⟩:=k9;exact⟨⟨t,J⟩,_,by rw[J,s,aab]⟩
theorem yt(F:Fok f)(T:k<=f.rows.length):((Pp f qs us k:Nat):Int)=(inner f qs k (mac f qs k)).pl:=pK (pL F T)
theorem FZ(F:Fok f){t:Int}(T:0<=t)(O:t<=f.rows.length):eF (fin f qs) t=((Pp f qs us t.toNat:Nat):Int):=by
 rw[yt F (by lia)];unfold eF;rw[abe];by_cases h:t.toNat<f.rows.length
 ·rw[abc (by rw[fS];exact h),pQ h];rfl
 ·have e:t.toNat=f.rows.length:=by lia
  rw[e,aa4 (by rw[fS];simp),fS,abA];rfl
theorem F0{k:Nat}(F:Fok f)(h:tsF f qs 499=[])(D:f.rows[k]?=some r)(W:r.jm=true)(T:(k:Int) ∉ f.longs):-(farN r 499)<=eF (fin f qs) r.tg-((Pp f qs us k:Nat):Int)/\eF (fin f qs) r.tg-((Pp f qs us k:Nat):Int)<=farN r 499:=by
 have j:=(aai.mp D).1;have O:=ab4.mp h (k:Int) (aaV.mpr ⟨yg D W,by rw[Dab T];rfl⟩);have e:tq f (fin f qs) 499 (k:Int)=decide (farN r 499<if xT (fin f qs) r k<0 then -(xT (fin f qs) r k) else xT (fin f qs) r k):=by unfold tq;rw[aaM,D];rfl
 rw[e,decide_eq_true_eq]at O;have B:xT (fin f qs) r k=eF (fin f qs) r.tg-((Pp f qs us k:Nat):Int):=by unfold xT;rw[yt F (aaL j),abe (l:=(fin f qs).ps),pQ j];rfl
 rw[B]at O;split at O<;>omega
theorem nk(F:Fok f)(Q:Qok f qs)(U:Uok f qs us)(t:(AC f qs us).length<=900000)(D:f.rows[k]?=some (.st x y))(N:99<y):∃(b i q:Nat) (w:List Int),gdat f qs us k (.st x y)=.tuple [.int b,.int i]/\1<=b/\i<=99/\w[i]?=some y/\Sx (AC f qs us) (b-1) (.tuple [.str hL,.tuple (w.map PyData.int)]) q:=by
 have a:(R.st x y).gr=true:=Dac N;have n:=gIx_at D a;have M:k6 f k<us.length:=by rw[U.ln];grind
 obtain⟨u,z⟩:∃u,us[k6 f k]?=some u:=⟨_,aam M⟩
 have d:((k:Int),u)∈(gIx 0 f.rows).zip us:=aax (by rw[abt];exact⟨n,z⟩);have S:=U.bd u (aax z);have Y:=Daa (U.mm _ d);obtain⟨⟨p,w⟩,A⟩:∃q,qs[u.toNat]?=some q:=⟨_,aam (by lia)⟩
 have J:=aax A;have l:A9 f (k:Int)=y:=by show ((f.rows[(k:Int).toNat]?).map R.num).getD 0=_;rw[aaM,D];rfl
 have Y:y∈w:=by
  grind
 obtain⟨j,W⟩:∃j:Nat,p=j:=⟨p.toNat,by have:=(Q.ok _ J).g0;grind⟩
 subst W;have C:j<=f.rows.length:=by have:=(Q.ok _ J).g1;grind
 have c:qs=qs.take u.toNat++((j:Int),w)::qs.drop (u.toNat+1):=by obtain⟨o,e⟩:=aai.mp A;rw[<-e,List.getElem_cons_drop o,acp]
 have L:(qs.take u.toNat).length=u.toNat:=by grind
 have I:(mac f qs j).pl=((CC f qs us j).length:Int):=(pL F C).symm;obtain⟨i,r⟩:∃i,w.findIdx? (λm=>decide (m=y))=some i:=by
  cases e:w.findIdx? λm=>decide (m=y) with
  |some i=>exact⟨i,rfl⟩
  |none=>exact absurd (Dac rfl) (by have:=acf.mp e y Y;rw[this];decide)
 obtain⟨h,P,_⟩:=ace.mp r;have T:w[i]?=some y:=by rw[aam h,Daa P]
 have X:w.length<=100:=(Q.ok _ J).l1;have g:=(lh (f:=f) (qs:=qs) (us:=us) (m:=f.rows.length-j) (k:=j) (by lia)).1;have s:=Jd (λq A=>(Q.ok q (acm A)).g0) C (c▸Q.inc);rw[L,<-c,I]at s;obtain⟨b,⟨B,_⟩,H,O,_⟩:=rR (c▸Q) t (by rw[<-c];exact g);refine⟨b,i,_,w,?_,H,by lia,T,O⟩;have e:gdat f qs us k (.st x y)=jK f qs (k,us.getD (k6 f k) 0):=if_pos a;rw[e,abe,z];show PyData.tuple [.int ((fin f qs).bs.getD u.toNat 0),.int (Gi qs u (A9 f k))]=_;have v:Gi qs u (A9 f k)=(i:Int):=by unfold Gi;rw[A,l];show (((w.findIdx? λm=>decide (m=y)).getD 0:Nat):Int)=_;rw[r];rfl
 rw[s,v,B]
end
section
variable{f:Cf}{qs:Pz}{us:List Int}
theorem rth_nm(D:r.ok)(N:r.gr=false):∃xs,rth r lg g=.tuple (.str r.wd::xs)/\r.wd≠lv/\r.wd≠hL/\r.wd≠hY/\r.wd≠lX:=by
 cases r with
 |st x k=>have h:=Dad N;show ∃o,rth (R.st x k) lg g=.tuple (.str ce::o)/\(ce:Str)≠lv/\(ce:Str)≠hL/\(ce:Str)≠hY/\(ce:Str)≠lX;exact⟨[.int x,.int k],if_neg h,by decide,by decide,by decide,by decide⟩
 |ot w xs Q=>show ∃o,rth (R.ot w xs Q) lg g=.tuple (.str w::o)/\w≠lv/\w≠hL/\w≠hY/\w≠lX;cases D<;>exact⟨_,rfl,by decide,by decide,by decide,by decide⟩
theorem row_sx(F:Fok f)(Q:Qok f qs)(U:Uok f qs us)(j:(AC f qs us).length<=900000)(X:tsF f qs 499=[])(D:f.rows[k]?=some r):Sx (AC f qs us) (Pp f qs us k) (rth r (decide ((k:Int)∈f.longs)) (gdat f qs us k r)) (CC f qs us (k+1)).length/\Pp f qs us k<(AC f qs us).length:=by
 have M:k<f.rows.length:=(aai.mp D).1;have A:=F.ok r (aax D);obtain⟨T,Y⟩:=(lh (f:=f) (m:=f.rows.length-(k+1)) (k:=k+1) (by lia)).2;have c:CC f qs us (k+1)=dN f k qs (CC f qs us k)++cU r (dN f k qs (CC f qs us k)).length (decide ((k:Int)∈f.longs)) (gdat f qs us k r):=by
  show _++(f.rows[k]?).elim [] _=_
  grind
 have L:=m9 (p:=(dN f k qs (CC f qs us k)).length) (g:=gdat f qs us k r) A (F.jm D);rw[c]at Y ⊢;rw[aab]at Y;have a:=congrArg List.length Y;rw[aak,aak]at a;rw[aak];refine⟨FS A (λN=>?_) (λW H=>?_) λi x C=>jL Y (by grind),?_⟩
 ·cases r with
  |st x y=>
   obtain⟨b,i,q,w,e,_,Z,_⟩:=nk F Q U j D (Daa N);rw[e];show 0<=(i:Int)/\(i:Int)<=99
   lia
  |ot _ _ _=>cases N
 ·have N:¬ r.gr=true:=λz=>by cases r with|st _ _=>cases W|ot _ _ _=>cases z
  have e:gdat f qs us k r=.int (eF (fin f qs) r.tg):=by unfold gdat;grind
  rw[e];exact F0 F X D W (Dad H)
 ·grind
theorem nov_P(F:Fok f)(Q:Qok f qs)(U:Uok f qs us)(j:(AC f qs us).length<=900000)(X:tsF f qs 499=[])(T:k<=f.rows.length):Jl (AC f qs us) (Pp f qs us k):=by
 by_cases h:k=f.rows.length
 ·subst h;exact .inl rfl
 ·obtain⟨r,D⟩:∃r,f.rows[k]?=some r:=⟨_,aam (by lia)⟩
  have A:=F.ok r (aax D);have s:=(row_sx F Q U j X D).1;cases N:r.gr with
  |false=>obtain⟨Y,e,_,_,_,P⟩:=rth_nm A N;rw[e]at s;exact .inr ⟨_,_,_,P,s⟩
  |true=>
   cases r with
   |st x y=>have e:rth (R.st x y) (decide ((k:Int)∈f.longs)) (gdat f qs us k (.st x y))=.tuple (.str hY::[.int x,.int (Ce (gdat f qs us k (.st x y))),.int (yc (gdat f qs us k (.st x y)))]):=if_pos (Daa N);rw[e]at s;exact .inr ⟨_,_,_,by decide,s⟩
   |ot _ _ _=>cases N
theorem Jq(F:Fok f)(Q:Qok f qs)(U:Uok f qs us)(j:(AC f qs us).length<=900000)(X:tsF f qs 499=[])(M:k<=f.rows.length)(T:pw f.rows k=true):pl.pg.call (n+4) 37 [Dl (AC f qs us),It (CC f qs us k).length]=some (It (Pp f qs us k),[Dl (AC f qs us),It (CC f qs us k).length]):=by
 have l:=nov_P F Q U j X M;by_cases h:∃q∈qs,q.1=(k:Int)
 ·obtain⟨⟨r,w⟩,Y,e⟩:=h;have e:r=(k:Int):=e;subst e;obtain⟨W,i,c⟩:=abu Y;obtain⟨b,⟨_,H⟩,_,_,P⟩:=rR (c▸Q) j (by rw[<-c];exact(lh (m:=f.rows.length-k) (by lia)).1);rw[<-c]at H;have s:=P T;rw[H]at s;exact Bh s l
 ·have e:dN f k qs (CC f qs us k)=CC f qs us k:=nh λq A e=>h ⟨q,A,e⟩;have l:Jl (AC f qs us) (dN f k qs (CC f qs us k)).length:=l;show _=some (It ((dN f k qs (CC f qs us k)).length:Nat),_);rw[e]at l ⊢;exact rS l
theorem mh_AC(F:Fok f)(Q:Qok f qs)(U:Uok f qs us)(j:(AC f qs us).length<=900000)(X:tsF f qs 499=[]):Mh (AC f qs us) f.rows (Pp f qs us) where
 fin:=rfl
 nov:=λa u n=>rS (nov_P F Q U j X u)
 beg:=λn=>Jq (k:=0) F Q U j X (aaB _) rfl
 row:=λa r D=>by
  have u:=(aai.mp D).1;have A:=F.ok r (aax D);obtain⟨s,T⟩:=row_sx F Q U j X D;have d:r.wd≠am->r.wd≠bv->∀n,pl.pg.call (n+4) 37 [Dl (AC f qs us),It (CC f qs us (a+1)).length]=some (It (Pp f qs us (a+1)),[Dl (AC f qs us),It (CC f qs us (a+1)).length]):=λO Z n=>Jq F Q U j X (by omega) (by
   show (f.rows[a]?).elim true R.zb=true;rw[D];show (!decide (r.wd=am)&&!decide (r.wd=bv))=true
   grind)
  cases N:r.gr with
  |true=>
   cases r with
   |ot _ _ _=>cases N
   |st x y=>
    obtain⟨b,i,q,w,e,S,p,c,m⟩:=nk F Q U j D (Daa N);have B:rth (R.st x y) (decide ((a:Int)∈f.longs)) (gdat f qs us a (.st x y))=.tuple [.str hY,.int x,.int b,.int i]:=by rw[e];exact if_pos (Daa N)
    rw[B]at s;exact⟨_,_,.inl rfl,T,λW=>(by cases W),λn=>FW s S m c,d⟩
  |false=>
   obtain⟨Y,e,O,Z,M,_⟩:=rth_nm A N;have C:=s;rw[e]at C;refine⟨rth r (decide ((a:Int)∈f.longs)) (gdat f qs us a r),_,?_,T,λW=>?_,λn=>by rw[e];exact FV C O Z M,d⟩
   ·cases W:r.jm with
    |true=>exact .inr ⟨W,_,_,rfl⟩
    |false=>
     refine .inl ?_;cases r with
     |st x k=>exact if_neg (Dad N)
     |ot w Y c=>have W:=W;obtain⟨J,H⟩:=abv.mp W;show (if w=_ then _ else if w=_ then _ else _)=_;rw[if_neg (Dad J),if_neg (Dad H)];rfl
   ·have L:gdat f qs us a r=.int (eF (fin f qs) r.tg):=by unfold gdat;grind
    have S:=F.jb r (aax D) W;rw[L,FZ F S.1 S.2.1];cases r with
    |st x k=>cases W
    |ot w Y c=>
     show ∃o l,(if w=_ then _ else if w=_ then _ else _)=_;have W:(decide (w=am)||decide (w=bi))=true:=W;by_cases z:w=am
     ·rw[if_pos z];exact⟨[.str am],_,rfl⟩
     ·rw[Dab z,abg]at W;rw[if_neg z,if_pos (Daa W)];exact⟨[.str bi,.int _],_,rfl⟩
end
theorem uG(T:∀q∈qs,0<=q.1/\q.1<=f.rows.length):(fin f qs).bs.length=qs.length:=by
 have O:=fA (f:=f) (λq A=>(T q A).1) (k:=f.rows.length);have Z:=i4 (f:=f) (k:=f.rows.length) (qs:=qs) (s:=mac f qs f.rows.length);have M:=i5 (k:=f.rows.length) (λq A=>(T q A).1);rw[fin,Z,O,<-M,acq]
 grind
theorem Qok.bl(h:Qok f qs):(fin f qs).bs.length=qs.length:=uG λq A=>⟨(h.ok q A).g0,(h.ok q A).g1⟩
theorem dat_Rs:(Rs rs).dat=some (.list (rs.map R.d)):=by rw[Rs,<-xE];exact dat_fz _
theorem pr_lt:∀{m:Nat}{h t:List Int}{w:List Nat}{a:Nat},(∀b∈w,b<rs.length)->∀b∈(pr rs m h t w a).2.2,b<rs.length
 |0,h,t,w,a,hw=>hw
 |m+1,h,t,w,a,hw=>by
  cases D:rs[a]? with
  |none=>
   have e:pr rs (m+1) h t w a=(t,k8 rs a,w):=by rw[pr,D]
   rw[e];exact hw
  |some r=>
   have N:=(aai.mp D).1;have H:∀b∈w++[a],b<rs.length:=λb S=>(aaj.mp S).elim (hw b) λz=>by rw[aaw.mp z];exact N
   by_cases g:r.wd=bv
   ·have e:pr rs (m+1) h t w a=(t,(ii:Str),w++[a]):=by rw[pr,D];exact if_pos g
    rw[e];exact H
   ·have e:pr rs (m+1) h t w a=pr rs m (be r h) (dE r h t) (w++[a]) (nxA r (be r h) a):=by rw[pr,D];exact if_neg g
    rw[e];exact pr_lt H
theorem yu:∀{m:Nat}{h t:List Int}{w:List Nat}{a:Nat},(pr rs m h t w a).2.2.length<=w.length+m
 |0,h,t,w,a=>aac _
 |m+1,h,t,w,a=>by
  cases D:rs[a]? with
  |none=>
   have e:pr rs (m+1) h t w a=(t,k8 rs a,w):=by rw[pr,D]
   grind
  |some r=>
   by_cases g:r.wd=bv
   ·have e:pr rs (m+1) h t w a=(t,(ii:Str),w++[a]):=by rw[pr,D];grind
    grind
   ·have e:pr rs (m+1) h t w a=pr rs m (be r h) (dE r h t) (w++[a]) (nxA r (be r h) a):=by rw[pr,D];grind
    rw[e];have:=yu (rs:=rs) (m:=m) (h:=be r h) (t:=dE r h t) (w:=w++[a]) (a:=nxA r (be r h) a)
    grind
theorem nq{f:Cf}:∀{wt:List (Int×Int)}{ns:List Int}{x:Int},x∈ns->x∈wt.foldl (λns q=>eE ns (nu f q.1)) ns
 |[],ns,x,h=>h
 |q::wt,ns,x,h=>nq (wt:=wt) (by unfold eE;grind)
theorem fold_new{f:Cf}:∀{wt:List (Int×Int)}{ns:List Int}{q:Int×Int},q∈wt->nu f q.1∈wt.foldl (λns q=>eE ns (nu f q.1)) ns
 |p::wt,ns,q,h=>by
  rcases aaa.mp h with rfl|h
  ·exact nq (wt:=wt) (by unfold eE;grind)
  ·exact fold_new (wt:=wt) h
structure Uv (f:Cf)(g:G):Prop where
 ne:∀w∈g.words,w≠[]
 us:∀u∈g.us,∃(j:Nat) (w:List Int),u.2=j/\g.words[j]?=some w/\nu f u.1∈w
theorem Bj{Y:Type}{l:List Y}{x w:Y}{j:Nat}(h:l[j]?=some w):(l++[x])[j]?=some w:=by rw[abc (aai.mp h).1];exact h
theorem rY{Y:Type}{l:List Y}{x:Y}:(l++[x])[l.length]?=some x:=by simp
theorem Uv.xc{f:Cf}{g:G}{k:Nat}(Q:g.words.length=g.gaps.length)(V:Uv f g):Uv f (laysG f g k):=by
 unfold laysG;split
 ·rename_i W;have l:g.wt≠[]:=λe=>by unfold due at W;grind
  refine⟨λw Q=>?_,λu U=>?_⟩
  ·rcases aaj.mp Q with h|h
   ·exact V.ne w h
   ·rw[aaw.mp h];intro e;cases A:g.wt with
    |nil=>grind
    |cons q r=>exact aaq (e▸fold_new (f:=f) (ns:=[]) (A▸aag))
  ·rcases aaj.mp U with h|h
   ·obtain⟨j,w,J,B,s⟩:=V.us u h;exact⟨j,w,J,Bj B,s⟩
   ·obtain⟨q,A,rfl⟩:=aaH.mp h;exact⟨g.words.length,_,by rw[Q],rY,(fold_new A:nu f q.1∈_)⟩
 ·exact V
theorem Uv.come{f:Cf}{g A:G}{a:Int}(Q:g.words.length=g.gaps.length)(V:Uv f g)(C:Come f g a A):Uv f A:=by
 have D:∀{l:List (List Int)}{w:List Int},g.words=l++[w]->(g.gaps.length:Int)-1=l.length:=λ{l w} h=>by
  grind
 cases C with
 |@put l w h _ _ _=>
  refine⟨λv o=>?_,λu U=>?_⟩
  ·rcases aaj.mp o with O|O
   ·exact V.ne v (by grind)
   ·simp_all
  ·rcases aaj.mp U with O|O
   ·obtain⟨j,v,J,B,s⟩:=V.us u O;rw[h]at B;by_cases W:j<l.length
    ·grind
    ·grind
   ·rw[aaw.mp O];exact⟨l.length,_,D h,rY,aad _ aag⟩
 |@got l w h hn _=>
  refine⟨V.ne,λu U=>?_⟩;rcases aaj.mp U with O|O
  ·exact V.us u O
  ·rw[aaw.mp O];exact⟨l.length,w,D h,by grind,hn⟩
 |wait _ _=>exact⟨V.ne,V.us⟩
theorem Bk{f:Cf}{k:Nat}{g a:G}(h:Path f k g a):Uv f g->Uv f a:=by
 induction h with
 |nil _ _=>simp
 |@cons k g g2 a hk I C _ ih=>
  intro V;have A:=V.xc (k:=k) I.wl;have v:Uv f g2:=by
   cases e:(f.rows[k]?).elim false R.gr with
   |true=>exact A.come I.xc.wl (C.gr e)
   |false=>rw[C.no e];omega
  exact ih ⟨v.ne,v.us⟩
theorem path_wl{f:Cf}{k:Nat}{g a:G}(h:Path f k g a):a.words.length=a.gaps.length:=by
 induction h with
 |nil _ I=>exact I.wl
 |cons _ _ _ _ Y=>omega
theorem nv:∀us:List (Int×Int),(us.map (·.1)).zip (us.map (·.2))=us
 |[]=>rfl
 |u::us=>congrArg (u::·) (nv us)
theorem PlanOf.qu{f:Cf}{qs:Pz}{us:List Int}(v:f.rows.length<=60)(h:PlanOf f qs us):Qok f qs/\Uok f qs us/\qs.length<=61:=by
 obtain⟨g,c,e,I,P,rfl,rfl⟩:=h;have X:=m5 P ⟨List.Pairwise.nil,λx C=>absurd C aaq⟩;have i:Gg g.gaps (f.rows.length+1):=by rw[e];exact lays_inc X
 have k:=path_wl P;have V:Uv f g:=by rw[e];exact(Bk P ⟨λw Q=>absurd Q aaq,λu U=>absurd U aaq⟩).xc k
 have F:=I.len;have D:=I.gl;have H:=I.h7;have Q:=m3 (f:=f) (g:=c);rw[<-e]at Q;have U:g.us.map (·.1)=gIx 0 f.rows:=by have:=I.ix;rw[Q,aay,aap,List.take_length]at this;exact this
 have l:(g.gaps.zip g.words).length=g.words.length:=by rw[List.length_zip,I.wl,Nat.min_self]
 refine⟨⟨λq A=>?_,kY i.1⟩,⟨?_,λu Z=>?_,λz d=>?_⟩,by rw[l,I.wl];omega⟩
 ·have O:=i.2 _ (aaN (a:=q.1) (b:=q.2) A).1;have Y:=(aaN (a:=q.1) (b:=q.2) A).2;exact⟨O.1,by omega,aco.mpr (V.ne _ Y),by have:=H _ Y;omega⟩
 ·rw[<-U,aae,aae]
 ·obtain⟨o,M,rfl⟩:=aaH.mp Z;obtain⟨j,w,J,B,_⟩:=V.us o M;have:=(aai.mp B).1;rw[l];omega
 ·rw[<-U,nv]at d;obtain⟨j,w,J,B,s⟩:=V.us z d;have W:=(aai.mp B).1;refine Dac ?_;have L:(g.gaps.zip g.words)[j]?=some (g.gaps[j]'(by rw[<-I.wl];exact W),w):=by rw[abt];exact⟨aam _,B⟩
  rw[J,aaM,L];exact s
theorem F1(h:hop<=499):farN r hop<=farN r 499:=by
 unfold farN
 repeat' split
 all_goals omega
theorem F2(L:hop<=499)(h:tsF f qs hop=[]):tsF f qs 499=[]:=by
 refine ab4.mpr λa i z=>ab4.mp h a i ?_;unfold tq at z ⊢;cases e:f.rows[a.toNat]? with
 |none=>rw[e]at z;cases z
 |some r=>rw[e]at z;exact Dac (Int.lt_of_le_of_lt (F1 L) (Daa z))
theorem Rnd.lg(h:Rnd hop k f f'):(∀a∈f.longs,a∈jIx 0 f.rows)->∀a∈f'.longs,a∈jIx 0 f'.rows:=by
 induction h with
 |done _ _=>exact id
 |more _ _ _ Y=>
  intro H;refine Y λa i=>?_;rcases aaj.mp (sortI_mem.mp i) with h|h
  ·exact H a h
  ·exact(aaV.mp (aaV.mp h).1).1
abbrev Ra(r0 r1:Int):OD:=.fz (.tuple [.int r0,.int r1])
abbrev xz(r0 r1:Int):Option OD:=some (Ra r0 r1)
theorem F3(u:rs.length<=60)(l:Nb rs)(I:Jb rs.length rs)(L:hop<=499):∃(f:Cf) (qs:Pz) (us:List Int),f.rows=rs/\Fok f/\Qok f qs/\Uok f qs us/\qs.length<=61/\tsF f qs 499=[]/\∀n,pl.pg.call (n+7) 28 [Rl rs,Ra r0 r1,It hop]=some (.fz (JE f qs us),[Rl rs,Ra r0 r1,It hop]):=by
 have M:(free ⟨rs,[],r0,r1⟩).length<=60:=aan (abl _ _) (by rw[eV];grind);have B:Bd ⟨rs,[],r0,r1⟩:=⟨by grind,aan (abl _ _) u,I,by grind⟩
 obtain⟨k,C,F,r⟩:=xZ M (by grind);obtain⟨_,J,_,_⟩:=r.keeps B;have J:C.rows=rs:=J;obtain⟨qs,us,P,X,_⟩:=jI (n:=0) r B rfl (by lia);obtain⟨Q,U,A⟩:=P.qu (by grind);refine⟨C,qs,us,J,⟨by rw[J];exact l,by rw[J];exact I,r.lg λa h=>absurd h aaq⟩,Q,U,A,F2 L X,λn=>?_⟩;obtain⟨q,O,p,_,e⟩:=jI r B rfl (by lia);obtain⟨rfl,rfl⟩:=P.one p;exact e
theorem F4(F:Fok f)(Q:Qok f qs)(U:Uok f qs us)(S:(fin f qs).bs.length=qs.length)(A:qs.length<=61)(u:f.rows.length<=60)(h:∀n,pl.pg.call (n+7) 28 [Rl f.rows,Ra r0 r1,It hop]=some (.fz (JE f qs us),[Rl f.rows,Ra r0 r1,It hop])):pl.pg.call (n+8) 32 [Rl f.rows,Ra r0 r1,It hop]=some (Il (AC f qs us),[Rl f.rows,Ra r0 r1,It hop]):=by have J:=h n;have B:=FJ (n:=n+1) F Q U S A u;have H:(xL (n+7)).call=pl.pg.call (n+7):=rfl;rw[<-H]at J;rw[show n+1+6=n+7 from rfl,<-H]at B;generalize AC f qs us=cs at *;refine ai rfl rfl (ab (s_asgQ (af rfl rfl J rfl) rfl rfl) (ak (ag (af rfl rfl B rfl) rfl))) rfl
abbrev dF(rs:List R)(M:Nat)(h t:List Int)(w:List Nat)(a:Int)(o6 o7:Option OD):DEnv:=[ut rs,re M,some (Il h),some (Il t),some (Il (tI id w)),re a,o6,o7]
abbrev Lx:Ss:=match F_plain.body with|.cons _ s=>s|_=>.nil
abbrev Gj:Ss:=match Lx with|.cons (.whl _ b) _=>b|_=>.nil
theorem yv(T:0<=x)(O:x<h.length)(n:ev C e (dF rs M h t w a o6 o7)=some (.val (It v),dF rs M h t w a o6 o7))(F:ev C ke (dF rs M h t w a o6 o7)=some (.val (It x),dF rs M h t w a o6 o7)):bG C (.sti 2 ke e) (dF rs M h t w a o6 o7)=some (.nx,dF rs M (h.set x.toNat v) t w a o6 o7):=by refine iO n rfl rfl F rfl rfl (by rw[aae];exact Cu T O) ?_;show [_,_,some (OD.lst ((h.map It).set x.toNat (It v))),_,_,_,_,_]=_;rw[<-List.map_set]
section
variable{n M:Nat}{rs:List R}{h t:List Int}{w:List Nat}{a:Nat}{r:R}{o6 o7:Option OD}
theorem pR(l:Nb rs)(I:Jb rs.length rs)(D:rs[a]?=some r)(L:h.length=5)(X:t.length<=5000)(Q:w.length<=5000):(r.wd=bv->∃p,aD (xL n) Gj (dF rs M h t w a o6 o7)=some (.rt (RT id (t,ii,w++[a])),p))/\(¬ r.wd=bv->∃o7',aD (xL n) Gj (dF rs M h t w a o6 o7)=some (.nx,dF rs M (be r h) (dE r h t) (w++[a]) ((nxA r (be r h) a:Nat):Int) (sK r) o7')):=by
 have F:=aax D;have f:bG (xL n) ed4 (dF rs M h t w a o6 o7)=some (.nx,dF rs M h t w a (sK r) o7):=ae (ax rfl rfl rfl (aR (dH D))) rfl rfl rfl;have Z:bG (xL n) (.app 4 (.nm 5)) (dF rs M h t w a (sK r) o7)=some (.nx,dF rs M h t (w++[a]) a (sK r) o7):=by
  refine bI rfl rfl rfl rfl (by grind) ?_
  grind
 have C:bG (xL n) edh (dF rs M h t (w++[a]) a (sK r) o7)=some (.nx,dF rs M h t (w++[a]) ((a+1:Nat):Int) (sK r) o7):=ae (ah rfl rfl rfl rfl rfl) rfl rfl rfl;have O:aL (xL n) Lq (dF rs M h t (w++[a]) ((a+1:Nat):Int) (sK r) o7)=some (decide (r.wd=bv),dF rs M h t (w++[a]) ((a+1:Nat):Int) (sK r) o7):=ar (AX rfl rfl);refine⟨λg=>?_,λg=>?_⟩
 ·rw[Dac g]at O;exact⟨_,ab f (ab Z (ab C (ak (ao O (ak (ag (bj (aa rfl (aa rfl (aa rfl aj))) rfl (uz (bX rfl (aA t) rfl) (bX rfl (aA _) rfl)) rfl) rfl))))))⟩
 ·rw[Dab g]at O;have A:=l r F;have J:=I r F;clear D;have m:∀{b:Ss}{o7':Option OD},(aD (xL n) b (dF rs M h t (w++[a]) ((a+1:Nat):Int) (sK r) o7)=some (.nx,dF rs M (be r h) (dE r h t) (w++[a]) ((nxA r (be r h) a:Nat):Int) (sK r) o7'))->Gj=.cons ed4 (.cons (.app 4 (.nm 5)) (.cons edh (.cons eah b)))->∃o7',aD (xL n) Gj (dF rs M h t w a o6 o7)=some (.nx,dF rs M (be r h) (dE r h t) (w++[a]) ((nxA r (be r h) a:Nat):Int) (sK r) o7'):=λe i=>⟨_,by rw[i];exact ab f (ab Z (ab C (ab (s_ifF O rfl) e)))⟩
  cases r with
  |st x k=>exact m (ab (ao rfl (ab (yv A.1.1 (by have:=A.1.2;omega) rfl rfl) rfl)) rfl) rfl
  |ot v Y o=>
   cases A with
   |sum x y S=>refine m (o7':=re (h.getD y.toNat 0*1)) (ab (s_ifF rfl (ab (ao rfl (ab (ae (ah (ax rfl rfl rfl (aW rfl (i9 S.2.1 (by omega)))) rfl rfl rfl (cJ (.inr (by decide)))) rfl rfl rfl) (ab (yv S.1.1 (by omega) (ah (ah (ax rfl rfl rfl (aW rfl (i9 S.1.1 (by omega)))) rfl rfl rfl rfl) rfl rfl rfl (br (by decide))) rfl) rfl))) rfl)) ?_) rfl;rw[Int.mul_one];rfl
   |less x y S=>refine m (o7':=re (h.getD y.toNat 0 * -1)) (ab (s_ifF rfl (ab (ao rfl (ab (ae (ah (ax rfl rfl rfl (aW rfl (i9 S.2.1 (by omega)))) rfl rfl rfl (cJ (.inr (by decide)))) rfl rfl rfl) (ab (yv S.1.1 (by omega) (ah (ah (ax rfl rfl rfl (aW rfl (i9 S.1.1 (by omega)))) rfl rfl rfl rfl) rfl rfl rfl (br (by decide))) rfl) rfl))) rfl)) ?_) rfl;rw[show h.getD x.toNat 0+h.getD y.toNat 0 * -1=h.getD x.toNat 0-h.getD y.toNat 0 by omega];rfl
   |tell x S=>refine m (o7':=o7) (ab (s_ifF rfl (ab (s_ifF rfl (ab (ao rfl (ab (bI rfl (ax rfl rfl rfl (aW rfl (i9 S.1 (by omega)))) rfl rfl (by grind) ?_) rfl)) rfl)) rfl)) rfl) rfl;show _=[_,_,_,some (Il (t++[h.getD x.toNat 0])),_,_,_,_];rw[cK];rfl
   |stop=>trivial
   |go x=>
    have N:=J rfl;refine m (o7':=o7) (ab (s_ifF rfl (ab (s_ifF rfl (ab (s_ifF rfl (ab (ao (gC rfl) (ab (ae (xU rfl J rfl) rfl rfl rfl) rfl)) rfl)) rfl)) rfl)) ?_) rfl;have T:((x.toNat))=x:=by have:0<=x:=N.1;omega
    show some (Fl.nx,dF rs M h t _ x _ _)=some (Fl.nx,dF rs M h t _ ((x.toNat:Nat):Int) _ _);rw[T]
   |nil x y S=>
    have N:=J rfl;have P:aL (xL n) ebu (dF rs M h t (w++[a]) ((a+1:Nat):Int) (sK (.ot bi [x,y] o)) o7)=some (decide (h.getD x.toNat 0=0),dF rs M h t (w++[a]) ((a+1:Nat):Int) (sK (.ot bi [x,y] o)) o7):=ar (aq (ax rfl rfl rfl (aW rfl (i9 S.1 (by omega)))) rfl rfl rfl rfl);have T:((y.toNat))=y:=by have:0<=y:=N.1;omega
    have U:yo (.ot bi [x,y] o) h=decide (h.getD x.toNat 0=0):=by show (decide ((bi:Str)=am)||(decide ((bi:Str)=bi)&&decide (h.getD x.toNat 0=0)))=_;rw[Dab (by decide +kernel),Dac rfl,abg,abY]
    by_cases d:h.getD x.toNat 0=0
    ·rw[Dac d]at P;refine m (o7':=o7) (ab (s_ifF rfl (ab (s_ifF rfl (ab (s_ifF rfl (ab (ao (bq rfl P) (ab (ae (xU rfl J rfl) rfl rfl rfl) rfl)) rfl)) rfl)) rfl)) ?_) rfl;have e:nxA (.ot bi [x,y] o) (be (.ot bi [x,y] o) h) a=y.toNat:=if_pos (show yo (.ot bi [x,y] o) h=true by rw[U,Dac d]);rw[e,T];rfl
    ·rw[Dab d]at P;refine m (o7':=o7) (ab (s_ifF rfl (ab (s_ifF rfl (ab (s_ifF rfl (ab (s_ifF (bq rfl P) rfl) rfl)) rfl)) rfl)) ?_) rfl;have e:nxA (.ot bi [x,y] o) (be (.ot bi [x,y] o) h) a=a+1:=if_neg (show ¬ yo (.ot bi [x,y] o) h=true by rw[U,Dab d];decide);rw[e];rfl
end
theorem pS(T:Nb rs)(I:Jb rs.length rs)(z:M<=2000):∀{m:Nat}{h t:List Int}{w:List Nat}{a fuel:Nat}{o6 o7:Option OD},h.length=5->a<=rs.length->w.length+m=M->t.length<=w.length->m<fuel->∃p,(∃ρ1 x,cv (aL (xL n) tC) (aD (xL n) Gj) fuel (dF rs M h t w a o6 o7)=some x/\(match x.1 with|.nx=>aD (xL n) (match Lx with|.cons _ s=>s|_=>.nil) x.2|fl=>some (fl,x.2))=some (.rt (RT id (pr rs m h t w a)),p)/\ρ1=x.2):=by
 have v:∀{h t:List Int}{w:List Nat}{a:Nat}{o6 o7:Option OD},aL (xL n) eb9 (dF rs M h t w a o6 o7)=some (decide ((a:Int)<(rs.length:Int)),dF rs M h t w a o6 o7):=fc rfl (aJ rfl rfl blen);have S:∀{h t:List Int}{w:List Nat}{a:Nat}{o6 o7:Option OD},aL (xL n) eca (dF rs M h t w a o6 o7)=some (decide (((tI id w).length:Int)<(M:Int)),dF rs M h t w a o6 o7):=fc (pO rfl rfl) rfl;have O:∀{h t:List Int}{w:List Nat}{a fuel:Nat}{o6 o7:Option OD},(a=rs.length\/w.length=M)->0<fuel->∃p,(∃ρ1 x,cv (aL (xL n) tC) (aD (xL n) Gj) fuel (dF rs M h t w a o6 o7)=some x/\(match x.1 with|.nx=>aD (xL n) (match Lx with|.cons _ s=>s|_=>.nil) x.2|fl=>some (fl,x.2))=some (.rt (RT id (t,k8 rs a,w)),p)/\ρ1=x.2):=by
  intro h t w a fuel o6 o7 U y;have H:aL (xL n) tC (dF rs M h t w a o6 o7)=some (false,dF rs M h t w a o6 o7):=by
   by_cases i:(a:Int)<(rs.length:Int)
   ·exact cY (rT v i) (rF S (by grind))
   ·exact iM (rF v i)
  have o:ev (xL n) Lr (dF rs M h t w a o6 o7)=some (.val (.fz (.str (k8 rs a))),dF rs M h t w a o6 o7):=by
   have P:aL (xL n) ecb (dF rs M h t w a o6 o7)=some (decide ((a:Int)=(rs.length:Int)),dF rs M h t w a o6 o7):=dJ rfl (aJ rfl rfl blen);by_cases i:a=rs.length
   ·rw[show k8 rs a=pi from if_pos i];exact cH (rT P (by lia)) rfl
   ·rw[show k8 rs a=ol from if_neg i];exact cb (rF P (by lia)) rfl
  exact⟨_,_,_,pI H y,ak (ag (bj (aa rfl (aa o (aa rfl aj))) rfl (uz (bX rfl (aA t) rfl) (bX rfl (aA _) rfl)) rfl) rfl),rfl⟩
 intro m;induction m with
 |zero=>intro h t w a fuel o6 o7 L i Q X y;exact O (.inr (by lia)) y
 |succ m Y=>
  intro h t w a fuel o6 o7 L i Q X y;cases D:rs[a]? with
  |none=>
   have:rs.length<=a:=acr.mp D;have e:pr rs (m+1) h t w a=(t,k8 rs a,w):=by rw[pr,D]
   rw[e];exact O (.inl (by lia)) (by lia)
  |some r=>
   have N:=(aai.mp D).1;have H:aL (xL n) tC (dF rs M h t w a o6 o7)=some (true,dF rs M h t w a o6 o7):=cY (rT v (by lia)) (rT S (by rw[aae];lia));obtain⟨u,l⟩:=pR T I D L (t:=t) (by lia) (w:=w) (by lia);obtain⟨fuel,rfl⟩:∃f,fuel=f+1:=⟨fuel-1,by lia⟩
   by_cases g:r.wd=bv
   ·obtain⟨p,k⟩:=u g;have e:pr rs (m+1) h t w a=(t,(ii:Str),w++[a]):=by rw[pr,D];exact if_pos g
    rw[e];exact⟨p,_,_,FX H k,rfl,rfl⟩
   ·have e:pr rs (m+1) h t w a=pr rs m (be r h) (dE r h t) (w++[a]) (nxA r (be r h) a):=by rw[pr,D];exact if_neg g
    rw[e];have b:=gS (r:=r) (h:=h) (t:=t);obtain⟨C,A⟩:=l g;obtain⟨p,ρ1,x,J,B,c⟩:=Y (h:=be r h) (t:=dE r h t) (w:=w++[a]) (fuel:=fuel) (by rw[fT];exact L) (pP I D) (by rw[aak,aaR];lia) (by rw[aak,aaR];lia) (by lia);exact⟨p,ρ1,x,ya H A J,B,c⟩
theorem c_plain{n M:Nat}(l:Nb rs)(I:Jb rs.length rs)(z:M<=2000):pl.pg.call (n+1) 48 [Rl rs,It M]=some (RT id (pr rs M h5 [] [] 0),[Rl rs,It M]):=by obtain⟨p,A,x,J,B,_⟩:=pS l I z (h:=h5) (t:=[]) (w:=[]) (fuel:=100000) rfl (aaB _) (aaP _) (aac _) (by omega);refine ai (ρ:=p) rfl rfl ?_ rfl;refine ab (s_asgQ rfl rfl rfl) ?_;exact bs (J) B
theorem Bm:Sm n (.str w):=by have h:ev (xL n) eek [some (.fz (.str w)),some (.fz (.str w))]=some (.val (.fz (.bool true)),[some (.fz (.str w)),some (.fz (.str w))]):=aq rfl rfl rfl rfl (show some (decide (w=w))=some true by simp);exact ai rfl rfl (ab (s_ifF rfl rfl) (ak (ao (bq rfl rfl) (ak (ag (iN h rfl) rfl))))) rfl
abbrev dT(P:Nat->Nat)(z:List Int×Str×List Nat):PyData:=.tuple [.list (z.1.map PyData.int),.str z.2.1,.list ((tI P z.2.2).map PyData.int)]
theorem rZ{xs:List Int}(h:xs.length<=5000):Sm (n+1) (.list (xs.map PyData.int)):=(rC (by grind) λd W=>by obtain⟨a,_,rfl⟩:=aaH.mp W;exact AZ).1
theorem r6(O:z.1.length<=5000)(Z:z.2.2.length<=5000):Sm (n+2) (dT P z):=by
 refine(rC (by show 3<=100000;decide) λd W=>?_).2;rcases aaa.mp W with rfl|W
 ·exact rZ O
 ·rcases aaa.mp W with rfl|W
  ·exact Bm
  ·rw[aaw.mp W];exact rZ (by rw[aae];exact Z)
theorem lay_ints:∀ns:List Int,PyData.canLayAll0 (ns.map PyData.int)=true
 |[]=>rfl
 |_::r=>by simp[PyData.canLayAll0,PyData.canLay0,lay_ints r]
theorem ny:∀ns:List Int,PyData.depthAll (ns.map PyData.int)=0
 |[]=>rfl
 |_::r=>by simp[PyData.depthAll,PyData.depth,ny r]
theorem ja:∀rs:List R,PyData.canLayAll0 (rs.map R.d)=true
 |[]=>rfl
 |.st _ _::r=>by
  have:PyData.strOk (Str.ofString "set")=true:=by decide +kernel
  simp[PyData.canLayAll0,PyData.canLay0,R.d,ja r,this]
 |.ot _ _ h::r=>by simp[PyData.canLayAll0,PyData.canLay0,R.d,lay_ints,ja r,h.2]
theorem dep_rows:∀rs:List R,PyData.depthAll (rs.map R.d)<=1
 |[]=>by decide
 |.st _ _::r=>by have:=dep_rows r;simp[PyData.depthAll,PyData.depth,R.d,this]
 |.ot _ _ _::r=>by have:=dep_rows r;simp[PyData.depthAll,PyData.depth,R.d,ny,this]
theorem Bp{rs:List R}:oz .ne (.list (rs.map R.d)) (.list (rs.map R.d))=some false:=by
 have W:=dep_rows rs;have j:PyData.canLay0 (.list (rs.map R.d))=true:=by simp[PyData.canLay0,ja]
 have h:SeqAt.shaped (.list (rs.map R.d))=true:=by unfold SeqAt.shaped;rw[j,abY];exact Dac (by simp[PyData.depth];lia)
 show (if (SeqAt.shaped (.list (rs.map R.d))&&SeqAt.shaped (.list (rs.map R.d)))=true then some (PyData.eqv (.list (rs.map R.d)) (.list (rs.map R.d))) else none).bind _=_;rw[h,Bool.and_self,if_pos rfl,eqv_refl _ j];rfl
theorem Bq{t xs:List Int}:(OD.tup [Dl t,.fz (.str e),.lst ((xs.map PyData.int).map OD.fz)]).dat=some (.tuple [.list (t.map PyData.int),.str e,.list (xs.map PyData.int)]):=by rw[OD.dat,OD.dd,OD.dd,OD.dd,dat_fz];rfl
theorem r9:∀{m:Nat}{h t:List Int}{w:List Nat}{a:Nat},(pr rs m h t w a).1.length<=t.length+m
 |0,h,t,w,a=>aac _
 |m+1,h,t,w,a=>by
  cases D:rs[a]? with
  |none=>
   have e:pr rs (m+1) h t w a=(t,k8 rs a,w):=by rw[pr,D]
   rw[e];exact aaS _ _
  |some r=>
   by_cases g:r.wd=bv
   ·have e:pr rs (m+1) h t w a=(t,(ii:Str),w++[a]):=by rw[pr,D];exact if_pos g
    rw[e];exact aaS _ _
   ·have e:pr rs (m+1) h t w a=pr rs m (be r h) (dE r h t) (w++[a]) (nxA r (be r h) a):=by rw[pr,D];exact if_neg g
    have O:=r9 (rs:=rs) (m:=m) (h:=be r h) (t:=dE r h t) (w:=w++[a]) (a:=nxA r (be r h) a);have Z:=gS (r:=r) (h:=h) (t:=t);rw[e];omega
abbrev lB:Ss:=match F_law.body with|.cons (.fr _ _ b) _=>b|_=>.nil
abbrev lM:Ss:=match lB with|.cons _ (.cons _ (.cons _ (.cons _ (.cons _ (.cons _ (.cons _ (.cons _ (.cons (.fr _ _ b) _))))))))=>b|_=>.nil
abbrev mE(sc k t:OD)(f:Cf)(qs:Pz)(us:List Int)(o4:Option OD)(x5 x6 x8:OD)(o12 o13 o14 o15:Option OD):DEnv:=[some sc,some k,some t,ut f.rows,o4,some x5,some x6,sw f.rows,some x8,wr f,wT qs us,wP (fin f qs).ps,o12,o13,o14,o15]
theorem jM{M:Nat}(hx:x8=Il cs\/x8=Dl cs)(F:Fok f)(K:Mh cs f.rows (Pp f qs us))(hM:M<=2000):∃a1 p O,((bo (.nm 12) (.fz (.int M)) (mE sc k t f qs us o4 x5 x6 x8 o12 o13 o14 o15)).bind λρ1=>aD (xL 8) lM ρ1)=some (.nx,mE sc k t f qs us o4 x5 x6 (Dl cs) (re M) a1 p O):=by
 have J:=c_plain (n:=7) F.ok F.jb hM;have B:=Jp (n:=2) K F.ok F.jb hM;have s:=FY (n:=5) F.ok F.jb hM;have a0:=pr_lt (rs:=f.rows) (m:=M) (h:=h5) (t:=[]) (a:=0) λb S=>absurd S aaq;have q:=yu (rs:=f.rows) (m:=M) (h:=h5) (t:=[]) (w:=[]) (a:=0);have N:=r9 (rs:=f.rows) (m:=M) (h:=h5) (t:=[]) (w:=[]) (a:=0);rw[List.length_nil]at q N;generalize pr f.rows M h5 [] [] 0=z at *;obtain⟨v,e,w⟩:=z;have a0:=a0;have q:w.length<=0+M:=q;have N:v.length<=0+M:=N;have s1:=r6 (n:=5) (P:=Pp f qs us) (z:=(v,e,w)) (by omega) (by omega);have Z:=r6 (n:=5) (P:=id) (z:=(v,e,w)) (by omega) (by omega);have H:(xL 8).call=pl.pg.call 8:=rfl;have J:=J;have B:=B;have s:=s;have s1:pl.pg.call 8 49 [RT (Pp f qs us) (v,e,w),RT (Pp f qs us) (v,e,w)]=some (.fz (.bool true),[RT (Pp f qs us) (v,e,w),RT (Pp f qs us) (v,e,w)]):=s1;have Z:pl.pg.call 8 49 [RT id (v,e,w),RT id (v,e,w)]=some (.fz (.bool true),[RT id (v,e,w),RT id (v,e,w)]):=Z;rw[<-H]at J B s s1 Z;obtain⟨o',l⟩:=pN (C:=xL 8) (elt:=.ix (.nm 1) (.nm 0)) (g:=λa:Nat=>.int ((id a))) (h:=λa=>.int ((Pp f qs us a))) (ρ:=[wP (fin f qs).ps]) (as:=w) (out:=[]) (o:=none) λa i=>by have j:=a0 a i;exact ax rfl rfl rfl (aR (cf (k:=a) (by rw[aaz,pQ j,yt F (aaL j)];rfl)))
 rw[aaI]at l;have Y:∀P:Nat->Nat,(tI P w).map PyData.int=w.map λa=>PyData.int ((P a:Nat):Int):=λP=>by rw[aaU];rfl
 generalize hP:Pp f qs us=P at *
 let A:OD->DEnv:=λy=>mE sc k t f qs us o4 x5 x6 y (re M) (wP v) (some (.fz (.str e))) (wP (tI id w))
 have X:ev (xL 8) Mb (A (Dl cs))=some (.val (.lst (((tI P w).map PyData.int).map OD.fz)),A (Dl cs)):=by rw[Y P];exact dm (ds:=(tI id w).map PyData.int) (cy rfl rfl rfl) (by rw[aae,aae];omega) rfl (by rw[Y id];exact l) rfl
 have Q:bG (xL 8) ebd (mE sc k t f qs us o4 x5 x6 x8 (re M) o13 o14 o15)=some (.nx,A x8):=s_asgQ (ρ1:=mE sc k t f qs us o4 x5 x6 x8 (re M) o13 o14 o15) (ρ2:=mE sc k t f qs us o4 x5 x6 x8 (re M) o13 o14 o15) (af (ρ3:=mE sc k t f qs us o4 x5 x6 x8 (re M) o13 o14 o15) rfl rfl J rfl) rfl rfl;have u:ev (xL 8) L5 (A x8)=some (.val (RT P (v,e,w)),A (Dl cs)):=by
  rcases hx with rfl|rfl
  ·have U:frz1 (A (Il cs)) (.rf 8)=some (.list (cs.map PyData.int),A (Dl cs)):=frz_rf rfl (aA cs) rfl;have I:frz1 (A (Dl cs)) (.val (It M))=some (.int M,A (Dl cs)):=rfl;refine af (rs:=[.rf 8,.val (It M)]) (ρ1:=A (Il cs)) (ρ2:=A (Dl cs)) rfl ?_ B rfl;show ba [false,false] _ [.rf 8,.val (It M)]=_;simp only[ba,U,I]
  ·exact af (rs:=[.val (Dl cs),.val (It M)]) (ρ3:=A (Dl cs)) rfl rfl B rfl
 have c:ev (xL 8) (.tup Mf) (A (Dl cs))=some (.val (.tup [Dl v,.fz (.str e),.lst (((tI P w).map PyData.int).map OD.fz)]),A (Dl cs)):=bj (rs:=[.val (Dl v),.val (.fz (.str e)),.val (.lst (((tI P w).map PyData.int).map OD.fz))]) (zs:=[Dl v,.fz (.str e),.lst (((tI P w).map PyData.int).map OD.fz)]) (aa rfl (aa rfl (aa X aj))) rfl rfl rfl;have L:aL (xL 8) ead (A x8)=some (true,A (Dl cs)):=by
  have r:frz1 (A (Dl cs)) (.val (RT P (v,e,w)))=some (dT P (v,e,w),A (Dl cs)):=rfl;have W:frz1 (A (Dl cs)) (.val (.tup [Dl v,.fz (.str e),.lst (((tI P w).map PyData.int).map OD.fz)]))=some (dT P (v,e,w),A (Dl cs)):=by show (OD.dat _).map _=_;rw[Bq];rfl
  refine bx (af (rs:=[.val (RT P (v,e,w)),.val (.tup [Dl v,.fz (.str e),.lst (((tI P w).map PyData.int).map OD.fz)])]) (ρ1:=A (Dl cs)) (ρ2:=A (Dl cs)) (aa u (aa c aj)) ?_ s1 rfl);show ba [false,false] _ [_,_]=_;simp only[ba,r,W]
 have T:aL (xL 8) eai (A (Dl cs))=some (true,A (Dl cs)):=bx (af (rs:=[.val (RT id (v,e,w)),.val (RT id (v,e,w))]) (ρ1:=A (Dl cs)) (ρ2:=A (Dl cs)) (aa (af (rs:=[.val (Rl f.rows),.val (It M)]) (ρ3:=A (Dl cs)) rfl rfl s rfl) (aa (bj (rs:=[.val (Dl v),.val (.fz (.str e)),.val (Dl (tI id w))]) rfl rfl rfl rfl) aj)) rfl Z rfl);have D:aL (xL 8) eel (A (Dl cs))=some (false,A (Dl cs)):=ar (aq (dx:=.list (f.rows.map R.d)) (dy:=.list (f.rows.map R.d)) (x:=.val (Rl f.rows)) (y:=.rf 7) rfl rfl rfl (by show (Rs f.rows).dat=_;exact dat_Rs) Bp);exact⟨_,_,_,bs (x:=mE sc k t f qs us o4 x5 x6 x8 (re M) o13 o14 o15) rfl (ab Q (ab (s_ifF (cZ L) rfl) (ab (s_ifF (bq (cZ T) D) rfl) rfl)))⟩
theorem Br(O:ev C e ρ=some (x,ρ1))(Z:(dG ρ1 x).bind seqOf=some ds):ev C (.bnw .list e) ρ=some (.val (.lst (ds.map OD.fz)),ρ1):=bs O (bs Z rfl)
theorem yw:∀ds:List PyData,tm (ds.map OD.fz)=some ds
 |[]=>rfl
 |d::ds=>by rw[aal,tm,yw ds]
theorem F5(rs:List R):seqOf (Rs rs)=some (rs.map R.d):=by
 have e:listOf (Rs rs)=some (rs.map R.d):=by show tm (rs.map λr=>OD.fz r.d)=_;rw[<-xE];exact yw _
 unfold seqOf;rw[e]
abbrev sd(m:Int):E:=.call 42 (.cons (.nm 2) (.cons (.int m) .nil))
theorem jc(h:TpOk b c m)(Y:m<=100000)(T:0<many)(O:many<1000):∃z o w M,ev (xL 8) (sd many) (x::y::sn a b c::ρ)=some (.val (It z),x::y::sn o w M::ρ)/\0<=z/\z<many/\TpOk w M (m+1):=by obtain⟨z,o,w,M,e,g,r,t⟩:=bc h (by lia) T (by lia);have H:(xL 8).call=pl.pg.call 8:=rfl;rw[show 7+1=8 from rfl,<-H]at e;exact⟨z,o,w,M,af rfl rfl e rfl,g,r,t⟩
theorem yx(j:rs.length<=60)(hn:Nb rs)(hj:Jb rs.length rs)(ht:TpOk b c m)(hm:m<=40000):
  ∃p,aD (xL 8) (match lB with|.cons _ (.cons _ r)=>r|_=>.nil) [some sc,some k,sn a b c,sw rs,o4,o5,o6,o7,o8,o9,o10,o11,o12,o13,o14,o15]=some (.nx,some sc::p)/\p.length=15:=by
 obtain⟨x1,a1,b1,c1,e1,_,_,t1⟩:=jc (many:=12) (ρ:=[sw rs,o4,o5,o6,o7,o8,o9,o10,o11,o12,o13,o14,o15]) ht (by lia) (by decide) (by decide);obtain⟨x2,a2,b2,c2,e2,_,_,t2⟩:=jc (many:=80) (ρ:=[sw rs,o4,o5,o6,o7,o8,o9,o10,o11,o12,o13,o14,o15]) t1 (by lia) (by decide) (by decide);obtain⟨x3,a3,b3,X,e3,y0,y1,t3⟩:=jc (many:=4) (ρ:=[sw rs,o4,o5,o6,o7,o8,o9,o10,o11,o12,o13,o14,o15]) t2 (by lia) (by decide) (by decide);obtain⟨r0,_,d1⟩:=eR (ks:=[0,1+x1,x2,4999]) y0 y1;obtain⟨x4,a4,b4,c4,e4,_,_,t4⟩:=jc (many:=12) (x:=some sc) (y:=some k) (ρ:=[sw rs,re r0,o5,o6,o7,o8,o9,o10,o11,o12,o13,o14,o15]) t3 (by lia) (by decide) (by decide);obtain⟨x5,a5,b5,c5,e5,_,_,t5⟩:=jc (a:=a4) (many:=80) (x:=some sc) (y:=some k) (ρ:=[sw rs,re r0,o5,o6,o7,o8,o9,o10,o11,o12,o13,o14,o15]) t4 (by lia) (by decide) (by decide);obtain⟨x6,N,b6,J,e6,z0,z1,t6⟩:=jc (a:=a5) (many:=4) (x:=some sc) (y:=some k) (ρ:=[sw rs,re r0,o5,o6,o7,o8,o9,o10,o11,o12,o13,o14,o15]) t5 (by lia) (by decide) (by decide);obtain⟨r1,_,d6⟩:=eR (ks:=[6,7+x4,6+x5,4999]) z0 z1;obtain⟨x7,a7,b7,c7,e7,w0,w1,t7⟩:=jc (a:=N) (many:=30) (x:=some sc) (y:=some k) (ρ:=[sw rs,re r0,xz r0 r1,o6,o7,o8,o9,o10,o11,o12,o13,o14,o15]) t6 (by lia) (by decide) (by decide);obtain⟨x8,Z,i,g,e8,v,I,t8⟩:=jc (a:=a7) (many:=3) (x:=some sc) (y:=some k) (ρ:=[sw rs,re r0,xz r0 r1,o6,o7,o8,o9,o10,o11,o12,o13,o14,o15]) t7 (by lia) (by decide) (by decide);obtain⟨h,L,eh⟩:=eR (ks:=[0,1+x7,499]) v I;have L:h<=499:=by grind
 obtain⟨f,qs,us,fr,F,Q,U,A,d3,Y⟩:=F3 (r0:=r0) (r1:=r1) j hn hj L;rw[<-fr]at Y j;have C:=F4 (n:=0) F Q U Q.bl A j Y;have h1:=pM (f:=f) (us:=us) (λq A=>(Q.ok q A).l1) A (k:=f.rows.length) j;have h2:=rL (f:=f) (k:=f.rows.length) (qs:=qs) (cs:=CC f qs us f.rows.length) λq A=>(Q.ok q A).l1;have B:(AC f qs us).length<=900000:=by show (dN _ _ _ _).length<=_;lia
 have K:=mh_AC F Q U B d3;have e:=xQ (n:=5) (f:=f) (qs:=qs) (λq A=>(Q.ok q A).g0) (by lia) (by lia);have Y:=Y 1;have ec:(xL 8).call=pl.pg.call 8:=rfl;have Y:pl.pg.call 8 28 [Rl f.rows,Ra r0 r1,It h]=some (.fz (JE f qs us),[Rl f.rows,Ra r0 r1,It h]):=Y;have C:pl.pg.call 8 32 [Rl f.rows,Ra r0 r1,It h]=some (Il (AC f qs us),[Rl f.rows,Ra r0 r1,It h]):=C;have e:pl.pg.call 8 47 [Rl f.rows,Lo f,Pq qs]=some (IW (fin f qs),[Rl f.rows,Lo f,Pq qs]):=e;rw[<-ec]at Y C e;subst fr;obtain⟨cs,a0⟩:∃cs,AC f qs us=cs:=⟨_,rfl⟩
 rw[a0]at K C;clear a0 h1 h2 B;obtain⟨s,u,b9,c9,e9,u0,u1,t9⟩:=jc (a:=Z) (many:=301) (x:=some sc) (y:=some k) (ρ:=[ut f.rows,re r0,xz r0 r1,re h,sw f.rows,some (Il cs),wr f,wT qs us,wP (fin f qs).ps,o12,o13,o14,o15]) t8 (by lia) (by decide) (by decide);obtain⟨b0,d0,d9,f4,d4,q0,q1,T⟩:=jc (a:=u) (many:=8) (x:=some sc) (y:=some k) (ρ:=[ut f.rows,re r0,xz r0 r1,re h,sw f.rows,some (Il cs),wr f,wT qs us,wP (fin f qs).ps,o12,o13,o14,o15]) t9 (by lia) (by decide) (by decide);obtain⟨c0,f1,f7,f0,d7,p0,p1,f2⟩:=jc (a:=d0) (many:=40) (x:=some sc) (y:=some k) (ρ:=[ut f.rows,re r0,xz r0 r1,re h,sw f.rows,some (Il cs),wr f,wT qs us,wP (fin f qs).ps,o12,o13,o14,o15]) T (by lia) (by decide) (by decide);have em:∃(M:Nat) (a' b' c':Int),M<=2000/\ev (xL 8) (.ife (.cmp .eq (sd 8) (.int 0)) (.int 2000) (sd 40)) (some sc::some k::sn u b9 c9::[ut f.rows,re r0,xz r0 r1,re h,sw f.rows,some (Il cs),wr f,wT qs us,wP (fin f qs).ps,o12,o13,o14,o15])=some (.val (It M),some sc::some k::sn a' b' c'::[ut f.rows,re r0,xz r0 r1,re h,sw f.rows,some (Il cs),wr f,wT qs us,wP (fin f qs).ps,o12,o13,o14,o15]):=by
  have tq:=ar (aq (b:=.int 0) (dx:=.int b0) (dy:=.int 0) (o:=.eq) d4 rfl rfl rfl rfl);by_cases hz:b0=0
  ·rw[Dac hz]at tq;exact⟨2000,_,_,_,aac _,cH tq rfl⟩
  ·rw[Dab hz]at tq;obtain⟨M,rfl⟩:∃M:Nat,c0=M:=⟨c0.toNat,by lia⟩
   exact⟨M,_,_,_,by lia,cb tq d7⟩
 obtain⟨D,P,W,l,d5,w⟩:=em;obtain⟨S,rfl⟩:∃M:Nat,s=M:=⟨s.toNat,by lia⟩
 obtain⟨d2,d8,O,m1⟩:=jM (sc:=sc) (k:=k) (t:=Tp P W l) (o4:=re r0) (x5:=Ra r0 r1) (x6:=It h) (x8:=Il cs) (o12:=o12) (o13:=o13) (o14:=o14) (o15:=o15) (M:=S) (.inl rfl) F K (by lia);obtain⟨f3,f5,e0,m2⟩:=jM (sc:=sc) (k:=k) (t:=Tp P W l) (o4:=re r0) (x5:=Ra r0 r1) (x6:=It h) (x8:=Dl cs) (o12:=re S) (o13:=d2) (o14:=d8) (o15:=O) (M:=D) (.inr rfl) F K d5;have s4:bG (xL 8) (.set 4 (.ix (.lst (.cons (.int 0) (.cons (.bop .add (.int 1) (sd 12)) (.cons (sd 80) eep)))) (sd 4))) [some sc,some k,sn a b c,sw f.rows,o4,o5,o6,o7,o8,o9,o10,o11,o12,o13,o14,o15]=some (.nx,[some sc,some k,sn a3 b3 X,sw f.rows,re r0,o5,o6,o7,o8,o9,o10,o11,o12,o13,o14,o15]):=ae (ax (bZ (aa rfl (aa (ah rfl e1 rfl rfl rfl) (aa e2 (aa rfl aj)))) rfl rfl) e3 rfl (fv d1)) rfl rfl rfl;have s5:bG (xL 8) (.set 5 (.tup (.cons (.nm 4) (.cons (.ix (.lst (.cons (.int 6) (.cons (.bop .add (.int 7) (sd 12)) (.cons (.bop .add (.int 6) (sd 80)) eep)))) (sd 4)) .nil)))) [some sc,some k,sn a3 b3 X,sw f.rows,re r0,o5,o6,o7,o8,o9,o10,o11,o12,o13,o14,o15]=some (.nx,[some sc,some k,sn N b6 J,sw f.rows,re r0,xz r0 r1,o6,o7,o8,o9,o10,o11,o12,o13,o14,o15]):=ae (bj (zs:=[It r0,It r1]) (aa rfl (aa (ax (bZ (aa rfl (aa (ah rfl e4 rfl rfl rfl) (aa (ah rfl e5 rfl rfl rfl) (aa rfl aj)))) rfl rfl) e6 rfl (fv d6)) aj)) rfl rfl rfl) rfl rfl rfl;have s6:bG (xL 8) (.par [6,7] (.cons (.ix (.lst (.cons (.int 0) (.cons (.bop .add (.int 1) (sd 30)) eeq))) (sd 3)) eds)) [some sc,some k,sn N b6 J,sw f.rows,re r0,xz r0 r1,o6,o7,o8,o9,o10,o11,o12,o13,o14,o15]=some (.nx,[some sc,some k,sn Z i g,sw f.rows,re r0,xz r0 r1,re h,sw f.rows,o8,o9,o10,o11,o12,o13,o14,o15]):=fu (zs:=[It h,Rs f.rows]) (aa (ax (bZ (aa rfl (aa (ah rfl e7 rfl rfl rfl) (aa rfl aj))) rfl rfl) e8 rfl (fv eh)) (aa (Br (x:=.rf 3) (ds:=f.rows.map R.d) rfl (F5 f.rows)) aj)) (by rw[xE];rfl) rfl rfl;have s7:bG (xL 8) ebc [some sc,some k,sn Z i g,sw f.rows,re r0,xz r0 r1,re h,sw f.rows,o8,o9,o10,o11,o12,o13,o14,o15]=some (.nx,[some sc,some k,sn Z i g,ut f.rows,re r0,xz r0 r1,re h,sw f.rows,some (Il cs),o9,o10,o11,o12,o13,o14,o15]):=by have zr:frz1 [some sc,some k,sn Z i g,sw f.rows,re r0,xz r0 r1,re h,sw f.rows,o8,o9,o10,o11,o12,o13,o14,o15] (.rf 3)=some (.list (f.rows.map R.d),[some sc,some k,sn Z i g,ut f.rows,re r0,xz r0 r1,re h,sw f.rows,o8,o9,o10,o11,o12,o13,o14,o15]):=frz_rf rfl dat_Rs rfl;have z2:∀ρ,frz1 ρ (.val (Ra r0 r1))=some (.tuple [.int r0,.int r1],ρ):=λ_=>rfl;have z3:∀ρ,frz1 ρ (.val (It h))=some (.int h,ρ):=λ_=>rfl;refine ae (x:=.val (Il cs)) (z:=Il cs) (ρ1:=[some sc,some k,sn Z i g,ut f.rows,re r0,xz r0 r1,re h,sw f.rows,o8,o9,o10,o11,o12,o13,o14,o15]) (ρ2:=[some sc,some k,sn Z i g,ut f.rows,re r0,xz r0 r1,re h,sw f.rows,o8,o9,o10,o11,o12,o13,o14,o15]) (af (rs:=[.rf 3,.val (Ra r0 r1),.val (It h)]) (ρ1:=[some sc,some k,sn Z i g,sw f.rows,re r0,xz r0 r1,re h,sw f.rows,o8,o9,o10,o11,o12,o13,o14,o15]) (ρ2:=[some sc,some k,sn Z i g,ut f.rows,re r0,xz r0 r1,re h,sw f.rows,o8,o9,o10,o11,o12,o13,o14,o15]) rfl ?_ C rfl) rfl rfl rfl;show ba [false,false,false] _ [_,_,_]=_;simp only[ba,zr,z2,z3]
 have s8:bG (xL 8) ea5 [some sc,some k,sn Z i g,ut f.rows,re r0,xz r0 r1,re h,sw f.rows,some (Il cs),o9,o10,o11,o12,o13,o14,o15]=some (.nx,[some sc,some k,sn Z i g,ut f.rows,re r0,xz r0 r1,re h,sw f.rows,some (Il cs),wr f,wT qs us,o11,o12,o13,o14,o15]):=s_asgQ (ρ2:=[some sc,some k,sn Z i g,ut f.rows,re r0,xz r0 r1,re h,sw f.rows,some (Il cs),o9,o10,o11,o12,o13,o14,o15]) (af (ρ3:=[some sc,some k,sn Z i g,ut f.rows,re r0,xz r0 r1,re h,sw f.rows,some (Il cs),o9,o10,o11,o12,o13,o14,o15]) rfl rfl Y rfl) rfl rfl;have s9:bG (xL 8) eax [some sc,some k,sn Z i g,ut f.rows,re r0,xz r0 r1,re h,sw f.rows,some (Il cs),wr f,wT qs us,o11,o12,o13,o14,o15]=some (.nx,[some sc,some k,sn Z i g,ut f.rows,re r0,xz r0 r1,re h,sw f.rows,some (Il cs),wr f,wT qs us,wP (fin f qs).ps,o12,o13,o14,o15]):=ae (ax (af (rs:=[.val (Rl f.rows),.val (Lo f),.val (Pq qs)]) (ρ3:=[some sc,some k,sn Z i g,ut f.rows,re r0,xz r0 r1,re h,sw f.rows,some (Il cs),wr f,wT qs us,o11,o12,o13,o14,o15]) rfl rfl e rfl) rfl rfl (aN rfl)) rfl rfl rfl;have H:∃p,bG (xL 8) (.fr (.nm 12) (.seq (.tup (.cons (sd 301) (.cons (.ife (.cmp .eq (sd 8) (.int 0)) (.int 2000) (sd 40)) .nil)))) lM) [some sc,some k,sn Z i g,ut f.rows,re r0,xz r0 r1,re h,sw f.rows,some (Il cs),wr f,wT qs us,wP (fin f qs).ps,o12,o13,o14,o15]=some (.nx,some sc::p)/\p.length=15:=⟨_,eB (cy (d:=.tuple [.int S,.int D]) (bj (zs:=[It S,It D]) (z:=.fz (.tuple [.int S,.int D])) (aa e9 (aa w aj)) rfl rfl rfl) rfl rfl) (bs m1 (bs m2 rfl)),rfl⟩
 obtain⟨p,H,hr⟩:=H;exact⟨p,ab s4 (ab s5 (ab s6 (ab s7 (ab s8 (ab s9 (ab H rfl)))))),hr⟩
theorem MT(h:ρ.length=15):∃X k o3 o4 o5 o6 o7 o8 g N o o12 o13 o14 o15,ρ=[X,k,o3,o4,o5,o6,o7,o8,g,N,o,o12,o13,o14,o15]:=by
 match ρ,h with
 |[X,k,o3,o4,o5,o6,o7,o8,g,N,o,o12,o13,o14,o15],_=>exact⟨X,k,o3,o4,o5,o6,o7,o8,g,N,o,o12,o13,o14,o15,rfl⟩
theorem pure(ns:List Int)(u:ns.length<=63):∃ys,pl.pg.call 9 IJ [.fz (.list (ns.map PyData.int))]=some (.fz (.bool true),ys):=by
 obtain⟨C,s⟩:∃C:OD,C=.fz (.list (ns.map PyData.int)):=⟨_,rfl⟩
 have a2:∀(i:Nat) (I:DEnv),i<=8->I.length=15->∃p,((bo (.nm 1) (.fz (.int i)) (some C::I)).bind λA=>aD (xL 8) lB A)=some (.nx,some C::p)/\p.length=15:=by intro i I r w;obtain⟨o1,k,L,l,z,y,D,F,g,N,o,c,q,j,M,rfl⟩:=MT w;obtain⟨a,b,T,t⟩:=Fh r;obtain⟨U,a1,Q,P,J,W,x,v⟩:=Fi t (aaB _);have H:(xL 8).call=pl.pg.call 8:=rfl;rw[show 6+2=8 from rfl,<-H,<-s]at T;rw[show 5+3=8 from rfl,<-H]at J;obtain⟨p,e4,a3⟩:=yx W x.1 x.2 v (by decide);have f:bG (xL 8) ebv [some C,re i,k,L,l,z,y,D,F,g,N,o,c,q,j,M]=some (.nx,[some C,re i,sn a b 0,L,l,z,y,D,F,g,N,o,c,q,j,M]):=ae (af (ρ2:=[some C,re i,k,L,l,z,y,D,F,g,N,o,c,q,j,M]) (by rw[s];rfl) (by rw[s];rfl) T rfl) rfl rfl rfl;have Z:bG (xL 8) ec8 [some C,re i,sn a b 0,L,l,z,y,D,F,g,N,o,c,q,j,M]=some (.nx,[some C,re i,sn a1 Q P,sw U,l,z,y,D,F,g,N,o,c,q,j,M]):=ae (af rfl rfl J rfl) rfl rfl rfl;exact⟨p,bs rfl (ab f (ab Z e4)),a3⟩
 have a0:∀(m i:Nat) (I:DEnv),i+m<=9->I.length=15->∃p,bS (λd p=>(bo (.nm 1) (.fz d) p).bind λA=>aD (xL 8) lB A) (cX i m) (some C::I)=some (.nx,some C::p):=by
  intro m;induction m with
  |zero=>intro i I _ _;exact⟨I,rfl⟩
  |succ m Y=>intro i I h w;obtain⟨A,J,O⟩:=a2 i I (by lia) w;obtain⟨ρ2,B⟩:=Y (i+1) A (by lia) O;rw[bh];exact⟨ρ2,bs J B⟩
 obtain⟨n,X⟩:∃n:Int,n=if (ns.length:Int)<5 then (ns.length:Int) else 5:=⟨_,rfl⟩
 have hb:0<=n/\n<=5:=by rw[X];split<;>lia
 obtain⟨p,e⟩:=a0 (1+n).toNat 0 [none,none,none,none,none,none,none,none,none,none,none,none,none,none,none] (by lia) rfl;rw[s]at e;have S:ev (xL 8) ea9 [some (.fz (.list (ns.map PyData.int))),none,none,none,none,none,none,none,none,none,none,none,none,none,none,none]=some (.val (It n),[some (.fz (.list (ns.map PyData.int))),none,none,none,none,none,none,none,none,none,none,none,none,none,none,none]):=aJ (aa rfl (aa (aJ rfl rfl blen) aj)) rfl (by rw[X];rfl);exact⟨_,ai rfl rfl (ab (eB (gk (ah rfl S rfl rfl rfl) rfl (by lia)) e) (ak (ag rfl rfl))) rfl⟩
set_option maxHeartbeats 0
def Zdd:DefRec:=⟨"law",cD D_law.st,bC D_law.st,aK D_law.st,match D_law.st with|.FunctionDef _ _ _ _ _ _ _ _ _ p=>p|_=>⟨0,0,0,0⟩⟩
def yz(K:Waa):L2.Sp:=λS H Q _=>∃(a:Addr) (i:List Int),S=[.ref a]/\SqL K H a (i.map V.int)/\i.length<=63/\∀l,Q (.bl true) l
noncomputable def JF:Option (Option Value)->Bool
 |some none=>true
 |_=>false
def Gk(f:Nat):Option (Option Value)->Bool
 |some (some (.ref g))=>g==f
 |_=>false
noncomputable def Ly:Option (Option Value)->Bool
 |some (some (.builtin s))=>decide (s="object.__setattr__")
 |_=>false
theorem yA{o:Option (Option Value)}(h:JF o=true):o=some none:=by
 unfold JF at h;split at h
 ·rfl
 ·cases h
theorem lj{f:Nat}{o:Option (Option Value)}(h:Gk f o=true):o=some (some (.ref f)):=by
 unfold Gk at h;split at h
 ·rw[beq_iff_eq.mp h]
 ·cases h
theorem F6{o:Option (Option Value)}(h:Ly o=true):o=some (some (.builtin "object.__setattr__")):=by
 unfold Ly at h;split at h
 ·rw[Daa h]
 ·cases h
open PySem.W in
def LA(K:Frag)(C:Addr):Bool:=plainGet K C Str.empty&&(hasDictIn K C&&(plainOver K C&&Ly (findIn K (.ref C) "__setattr__")))
theorem yB{K:Waa}{C:Addr}(h:LA K C=true):Cls K C:=by obtain⟨O,h⟩:=an2 h;obtain⟨Z,h⟩:=an2 h;obtain⟨M,h⟩:=an2 h;exact⟨O,Z,M,F6 h⟩
open PySem.W in
def Mn(K:Frag)(d:Df)(f c:Nat):Kd->Bool
 |.fn=>codeIn K (.ref c) d.qual&&(keepIn K (.ref f)&&Gk f (nsIn K mainGlobals d.name))
 |.me x=>codeIn K (.ref c) d.qual&&(keepIn K (.ref f)&&(LA K (av K x)&&(Gk f (findIn K (.ref (av K x)) d.name)&&isFn K (.ref f))))
 |.ini x=>codeIn K (.ref c) d.qual&&(keepIn K (.ref f)&&(makesIn K (av K x)&&(Gk f (findIn K (.ref (av K x)) "__init__")&&(isFn K (.ref f)&&(keepIn K (.ref (av K x))&&Gk (av K x) (nsIn K mainGlobals x))))))
theorem fk{K:Waa}{h:Heap}{I:Str->Option Value}(X:K.In h)(G:h.Ns mainGlobals I){d:Df}{v:Kd}(m:Str)(t c f:Nat)(l:K.lookup f=some (Gm d.name d.qual d.st m t c))(q:Mn K d f c v=true)
  (b:∀us:List Value,us.length=d.ps.length->bindArgs (PySem.W.fnOf d.name d.qual (cD d.st) (bC d.st) (aK d.st) .none .none .none (.str m t) none (.ref c) .none) ⟨us,[]⟩=Pure.pure (d.ps.zip us)):FactD K I (d,v):=by
 cases v with
 |fn=>obtain⟨O,q⟩:=an2 q;obtain⟨Z,M⟩:=an2 q;exact⟨f,_,jV l O Z,.all b,abB X G (lj M),Z⟩
 |me x=>obtain⟨O,q⟩:=an2 q;obtain⟨Z,q⟩:=an2 q;obtain⟨M,q⟩:=an2 q;obtain⟨P,s⟩:=an2 q;exact⟨f,_,jV l O Z,.all b,yB M,lj P,s,Z⟩
 |ini x=>obtain⟨O,q⟩:=an2 q;obtain⟨Z,q⟩:=an2 q;obtain⟨M,q⟩:=an2 q;obtain⟨P,q⟩:=an2 q;obtain⟨s,q⟩:=an2 q;obtain⟨F,H⟩:=an2 q;exact⟨f,_,jV l O Z,.all b,⟨M,lj P,s,F⟩,abB X G (lj H)⟩
theorem fm{Y:Type}{P:Y->Prop}{x:Y}{l:List Y}(h:P x)(k:∀y∈l,P y):∀y∈x::l,P y:=List.forall_mem_cons.mpr ⟨h,k⟩
theorem fC{K:Waa}{h:Heap}{I:Str->Option Value}(X:K.In h)(G:h.Ns mainGlobals I){x:Str}{k:Int}(t:Nat)(e:PySem.W.nsIn K mainGlobals x=some (some (.int k t))):∃v u,I x=some u/\RelV v u/\∀S H,Fz K S H v (.int k):=⟨.int k,_,abB X G e,⟨_,rfl⟩,λ_ _=>.int _⟩
theorem LB{Y:Type}{P:List Y->Prop}(h:∀a0,P [a0])(l:List Y)(e:l.length=1):P l:=by
 match l,e with
 |[a0],_=>exact h a0
theorem LC{Y:Type}{P:List Y->Prop}(h:∀a0 I,P [a0,I])(l:List Y)(e:l.length=2):P l:=by
 match l,e with
 |[a0,I],_=>exact h a0 I
theorem LD{Y:Type}{P:List Y->Prop}(h:∀a0 I U,P [a0,I,U])(l:List Y)(e:l.length=3):P l:=by
 match l,e with
 |[a0,I,U],_=>exact h a0 I U
theorem LF{Y:Type}{P:List Y->Prop}(h:∀a0 I U T,P [a0,I,U,T])(l:List Y)(e:l.length=4):P l:=by
 match l,e with
 |[a0,I,U,T],_=>exact h a0 I U T
theorem fx{K:Waa}{h:Heap}{I:Str->Option Value}(X:K.In h)(G:h.Ns mainGlobals I){d:Df}{v:Kd}{ds:List (Df×Kd)}(m:Str×Nat)(c:Nat)(r:∀z∈ds,FactD K I z)(l:K.lookup (c+1)=some (Gm d.name d.qual d.st m.1 m.2 c):=by kernel_rfl)(q:Mn K d (c+1) c v=true:=by kernel_rfl)
  (b:∀C:List Value,C.length=d.ps.length->bindArgs (PySem.W.fnOf d.name d.qual (cD d.st) (bC d.st) (aK d.st) .none .none .none (.str m.1 m.2) none (.ref c) .none) ⟨C,[]⟩=Pure.pure (d.ps.zip C):=by first|exact(LB λ_=>rfl)|exact(LC λ_ _=>rfl)|exact(LD λ_ _ _=>rfl)|exact(LF λ_ _ _ _=>rfl)):∀z∈(d,v)::ds,FactD K I z:=fm (fk X G m.1 m.2 c _ l q b) r
theorem gives{w:World}{I:Str->Option Value}{p:Addr}{h:Heap} (X:(kK w.params).In h) (G:h.Ns mainGlobals I) (O:I "law"=some (.ref p)):
  ∃y:FuncData,(∀(s:Shared) (v:Value),BindsTo s y ⟨[v],[]⟩ [(im,v)])/\∀base:Heap,(kK w.params).In base->base.Ns mainGlobals I->FnOk Zrw.prog w (kK w.params) I base CX0 10 p y [im] (yz (kK w.params)):=by
 have M:Md (kK w.params) I pl.tb pl.pg pl.D w:=Pl.md IK (fx X G yC 20
  (fx X G yC 27
  (fx X G yC 32
  (fx X G yC 37
  (fx X G yC 44
  (fx X G nz 51
  (fx X G nz 58
  (fx X G nz 65
  (fx X G nz 72
  (fx X G nz 79
  (fx X G nz 86
  (fx X G nz 91
  (fx X G nz 98
  (fx X G Bt 105
  (fx X G Bt 112
  (fx X G Bt 119
  (fx X G Bt 124
  (fx X G ll 138
  (fx X G ll 145
  (fx X G ll 152
  (fx X G ll 159
  (fx X G ll 166
  (fx X G ll 173
  (fx X G ll 180
  (fx X G ll 185
  (fx X G ll 199
  (fx X G F7 206
  (fx X G F7 211
  (fx X G F7 218
  (fx X G Bu 225
  (fx X G Bu 230
  (fx X G Bu 235
  (fx X G Bu 242
  (fx X G F8 249
  (fx X G F8 256
  (fx X G F8 263
  (fx X G Bv 270
  (fx X G Bv 277
  (fx X G Bv 284
  (fx X G Bv 291
  (fx X G jd 298
  (fx X G jd 305
  (fx X G jd 312
  (fx X G jd 319
  (fx X G jd 326
  (fx X G jd 333
  (fx X G jd 340
  (fx X G jd 347
  (fx X G jd 354
  (fx X G jd 359
  (fx X G jd 364
  (λ_ h=>by cases h)))))))))))))))))))))))))))))))))))))))))))))))))))) (fm (fC X G 258 (by kernel_rfl))
  (fm (fC X G 260 (by kernel_rfl))
  (fm (fC X G 240 (by kernel_rfl))
  (fm (fC X G 193 (by kernel_rfl))
  (fm (fC X G 266 (by kernel_rfl))
  (fm (fC X G 236 (by kernel_rfl))
  (fm (fC X G 244 (by kernel_rfl))
  (fm (fC X G 254 (by kernel_rfl))
  (fm (fC X G 264 (by kernel_rfl))
  (fm (fC X G 262 (by kernel_rfl))
  (fm (fC X G 191 (by kernel_rfl))
  (fm (fC X G 246 (by kernel_rfl))
  (fm (fC X G 348 (by kernel_rfl))
  (fm (fC X G 248 (by kernel_rfl))
  (fm (fC X G 250 (by kernel_rfl))
  (fm (fC X G 189 (by kernel_rfl))
  (fm (fC X G 256 (by kernel_rfl))
  (fm (fC X G 232 (by kernel_rfl))
  (fm (fC X G 242 (by kernel_rfl))
  (fm (fC X G 252 (by kernel_rfl))
  (fm (fC X G 230 (by kernel_rfl))
  (fm (fC X G 234 (by kernel_rfl))
  (fm (fC X G 238 (by kernel_rfl))
  (fm (fC X G 350 (by kernel_rfl))
  (λ_ h=>by cases h)))))))))))))))))))))))))
  (λx C=>PySem.W.mg_none_of X G (yA (abh.mp (by kernel_rfl:(pl.nog.all λx=>JF (PySem.W.nsIn (kK w.params) mainGlobals x))=true) x C)))
  (λz f=>have q:=an2 (abh.mp (by kernel_rfl:(pl.fld.all λz=>LA (kK w.params) (av (kK w.params) z.1)&&JF (PySem.W.findIn (kK w.params) (.ref (av (kK w.params) z.1)) z.2))=true) z f);⟨yB q.1,yA q.2⟩)
  (λ_ h=>by cases h)
 have e:=O.symm.trans (abB X G (by kernel_rfl:PySem.W.nsIn (kK w.params) mainGlobals "law"=some (some (.ref 365))));cases e;have F:Fun (kK w.params) D_law.name D_law.qual D_law.st 365 _:=jV (by kernel_rfl:(kK w.params).lookup 365=some (Gm D_law.name D_law.qual D_law.st lQ 644 364)) (by kernel_rfl) (by kernel_rfl);exact⟨_,λs v=>.of_eq rfl,λbase _ _=>M.law (n:=9) (j:=IJ) (d:=D_law) rfl F pure⟩
theorem walk{l:PySem.W.OpenLaw}{q:Program}{loose:List Str}{XP:(Str->Option Value)->Heap->Prop}{YP:World->Heap->Prop}{d:DefRec}{K:Params->Waa}(T:l.most=some 63)(Q:d.params.defaults=[])
  (A:∀(w:World) (h:Heap),YP w h->(K w.params).In h)
  (F:∀(w:World) (I:Str->Option Value) (p:Addr) (h:Heap),(K w.params).In h->h.Ns mainGlobals I->I d.name=some (.ref p) ->
   ∃y:FuncData,(∀(s:Shared) (u:Value),BindsTo s y ⟨[u],[]⟩ [(im,u)])/\∀base:Heap,(K w.params).In base->base.Ns mainGlobals I->FnOk l.prog w (K w.params) I base CX0 10 p y [im] (yz (K w.params))):
  PySem.W.WalkO q loose XP YP l.row.toRowW d [] (λf S=>PySem.call f S):=
 L2.walk_of (n:=63) (k:=10) (x:=im) (CX:=λ_=>CX0) (sp:=λw=>yz (K w.params)) T (by decide) Q ⟨rfl,by decide,by decide,rfl⟩ A F (λ_ _ a i j _ M=>⟨a,i,rfl,M,j,λ_=>rfl⟩) λ_ _ _ _ _ z=>z
end Np
open PySem PySem.W PyProof.Rows
set_option maxRecDepth 100000 in
set_option maxHeartbeats 0 in
theorem PySem.Challenge.cw_nearpool_k50_whole_made_cells_run_holds : PySem.Challenge.rw_nearpool_k50_whole_made_cells_run.Holds := by
 w_on
 refine holds_law Np.said λD=>?_;refine holds_open (q:=Np.Zqv) (loose:=_) (Xt:=Np.Zxt) (XP:=XL Np.Zqv []) (Yf:=Hook.obs Np.Zhk) (Ya:=Hook.val Np.Zhk) (YP:=Hook.says Np.Zhk) (N:=4300) (d:=Np.Zdd) (kwd:=[]) Np.left (Hook.of Np.Zhk) (Hook.keeps Np.Zhk) (λs e=>xl_of s (abW.mp e).1) XL.keeps (by kernel_rfl) (by kernel_rfl) (by kernel_rfl) (λs e=>recFacts_of (abW.mp e).2) (by rfl) D (by kernel_rfl) ⟨rfl,rfl,rfl,rfl,rfl,by decide +kernel⟩ ?hw ?hc
 case hw=>w_witness2
 case hc=>exact Np.walk (l:=Np.Zrw) (K:=Np.kK) (d:=Np.Zdd) rfl (by kernel_rfl) (λw h Y=>kIn_of Y) (λw I p h P G O=>Np.gives P G O)
