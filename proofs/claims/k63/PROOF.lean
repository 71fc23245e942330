import PyProof.Rows.All
import Wide.All
import OpenK.AllK
import Wide.FinOn
import Lean
import PyProof.EqAt
import PyProof.EqKinds
import PyProof.TupleCall
import PyProof.ExcClass3
import PyProof.NeKinds
import PyProof.ZipIter
import PyProof.ExcArgsOwn
import PyProof.EnumFor
import PyProof.EnumMake
import PyProof.DictUpdate
import PyProof.DictWalks
import KE.KIntText
import PyProof.Rows.StrNews
import PyProof.StrLawsTight
import PyProof.Rows.StrItems
import PySem.Challenge.RW_hastebook_k63_rows_refused
open PySem.W renaming Frag->aK,nsIn->aW,mroIn->aZ,findIn->bH,keepIn->bL,mg_of->bR,hideAll->bT,typeIn->b7,of_hideAll->cC,mg_none_of->cD,fnOf->cG,hideAll_get->cH,emptyDict->cI,excIn->cQ,instObj->cW,subIn->dE,codeIn->dI,kitOne->dJ,callWith_K->dM,clsIn->d6,plainGet->eK,plainGet_of->UH,isFn->Uz,lookIn->UB,methodObj->UI,hasDictIn->UJ,KdlKeysS->UK,cellsFrom_some->U5,takerIn->UL,makesIn->UM,hideAll_size->U6,hideAll_none->U7,kitCls->UN,plainOver->U8,handedIn->U9,OpenLaw->Va,kia_one->Vb
open Nat renaming le_of_ble_eq_true->aL,le_trans->aX,lt_of_lt_of_le->bC,ne_of_beq_eq_false->bE,le_refl->bI,ne_of_lt->bQ,lt_irrefl->cE,le_of_not_lt->cM,lt_of_add_right_lt->cR,zero_le->cU,lt_of_le_of_lt->dB,lt_succ_of_lt->dS,le_of_lt->dW,le_of_eq->eC,lt_succ_self->eM,le_add_right->eO,le_antisymm->eV,min_self->UA,lt_of_succ_lt->UO,not_lt_of_le->UP,min_le_left->UQ,ne_of_gt->UR,le_of_lt_succ->Vc,le_succ_of_le->Vd,lt_trans->US,log2_lt->UT,two_pow_pos->Ve,zero_add->Vf,le_succ->Vg
open Option renaming bind_some->aM,some->bZ,getD_some->cO,map_some->cY,isSome_iff_exists->d4,bind->eT,map_eq_some_iff->Vh,isSome_some->Vi,toList_some->Vj,isSome_map->Vk,getD_none->Vl,none->Vm
open List renaming map_cons->aN,length_cons->aO,length_nil->aP,length_map->aQ,replicate->aS,append_nil->aT,nil_append->aU,cons_append->aV,map_nil->aY,size_toArray->bA,range->bB,getElem?_eq_getElem->bD,getElem?_map->bF,mem_cons_self->bG,mem_cons_of_mem->bJ,getElem?_append_left->bK,mem_append_right->bM,length_append->bN,zip_cons_cons->bO,getElem?_append_right->bP,not_mem_nil->bS,mem_of_getElem?->bV,map_append->bW,mem_cons->bX,getElem?_set_ne->bY,getElem?_set_self->b0,getElem?_replicate->b3,getElem?_cons_zero->b4,getElem?_cons_succ->b5,find?_cons->cF,length_zip->cJ,map_map->cK,mem_singleton->cL,all_eq_true->cN,lookup_cons->cP,length_replicate->cS,getElem?_range->cZ,getElem_mem->c9,mem_filterMap->dA,filterMap_cons->dG,filter_cons->dL,mem_append->dO,length_filter_le->dP,length_range->dU,drop_eq_getElem_cons->dY,map_congr_left->d0,getElem?_take_of_lt->d5,forIn_cons->d7,lookup->d8,filter_cons_of_pos->d9,filter_cons_of_neg->eA,append_assoc->eD,pairwise_map->eE,getElem?_eq_none->eJ,any_cons->eP,mem_append_left->eQ,idxOf_cons_self->eU,range_succ->UC,getElem?_zip_eq_some->Vn,length_erase_of_mem->Vo,length_take->UU,range_succ_eq_map->Vp,all_map->UD,drop_eq_nil_of_le->Vq,nodup_cons->UW,of_mem_zip->UX,idxOf_cons->UY,forIn_nil->UZ,set_append_left->Vr,getElem_of_mem->Vs,toList_toArray->Vt,map_eq_nil_iff->Vu,contains_cons->Vv,getElem_idxOf->Vw,getElem_range->Vx,nodup_append->Vy,take_add_one->Vz,all_eq_false->VA,filter_congr->VB,getElem_inj->VC,length_drop->VD,any_eq_true->VE,zipIdx_cons->VF,map_fst_zip->VG,take_length->VH,nodup_range->VI,length->U0,mem_filter->VJ,zipIdx_nil->VL,filter_map->VM,mem_range->VN,tail->U1,mem_map->VO,map_set->VP,map_id->VQ
open Bool renaming false_ne_true->bU,and_true->b6,and_eq_true->b8,and_self->b9,false_eq_true->cT,eq_iff_iff->dD,false_and->eB,not_false->UE,not_true->UG,and_eq_false_iff->VR,and_eq_true_iff->VS,true_and->VT
open Int renaming toNat_natCast->cV,toNat_of_nonneg->c7,natCast_nonneg->dN,zero_add->dX,ofNat_lt->U2,not_lt->U3,toNat->VU
open Array renaming toList_append->c8,length_toList->dH,getElem?_toList->eI,mem_toList_iff->eS,append_assoc->U4,mk->Ux,toList->VV
open Classical renaming byContradiction->dC
open PyProof.Rows renaming slot_tuple_getitem->dF,callWith_type1->dQ,split_pos->VW,callWith_builtin1->VY,mulOk_of->VZ
open Or renaming inr->dZ,inl->Uv
open Iff renaming rfl->Uw
open Prod renaming mk->Uy,ext->VX
set_option hygiene false in
local macro_rules|`(tactic|walk_at "a")=>`(tactic|(first | (simp only [Str.length_append, Gg, Gf, Ge, Gd, Gc, Gb, Ga, F9, F8, F7, Br, Bq, Bp, Bo, Bn, Bm, Bl, Bk, Bj, Bi, Bh, Bf, Be, Bc, Bb, Ba, A9, A8, A7, A6, A5, A4, A3, A2, A1, A0, AZ, AY, AX, AW, AV, AU, AS, AR, AQ, AO, AN, AM, AL, AK, AJ, F2, F3]; omega) | omega))
set_option hygiene false in
local macro_rules|`(tactic|walk_at "b")=>`(tactic|(simp only [gg, aN, aY, aO, aP, Nat.reduceAdd, Nat.reduceSub, aS, aT, aV, aU]))
set_option hygiene false in
local macro_rules|`(tactic|walk_at "c")=>`(tactic|(simp only [Str.length_append, Gg, Gf, Ge, Gd, Gc, Gb, Ga, F9, F8, F7, Br, Bq, Bp, Bo, Bn, Bm, Bl, Bk, Bj, Bi, Bh, Bf, Be, Bc, Bb, Ba, A9, A8, A7, A6, A5, A4, A3, A2, A1, A0, AZ, AY, AX, AW, AV, AU, AS, AR, AQ, AO, AN, AM, AL, AK, AJ, F2, F3, l9]; unfold lim; omega))
set_option hygiene false in
local macro_rules|`(tactic|walk_at "d")=>`(tactic|(first | exact vG (by lia) | lia | (simp only [aQ, bN, aO, aP, lim]; lia) | (first | (apply nV <;> lia) | (apply mulOk_t <;> lia) | (apply kF; assumption) | (apply lT; assumption)) | decide))
set_option hygiene false in
local macro_rules|`(tactic|walk_at "e")=>`(tactic|(simp only [gE, iV, hJ, jH, g9, j2, iR, iD, b6, b9]))
set_option Elab.async false
set_option linter.all false
set_option bootstrap.genMatcherCode false
set_option compiler.extract_closed false
set_option maxRecDepth 100000 in
set_option maxHeartbeats 0 in
theorem wsaid63:PySem.Challenge.rw_hastebook_k63_rows_refused.wellSaid=true:=by decide+kernel
namespace L2
open PySem
def jJ(s:Stmt):Arguments:=match s with
 | .FunctionDef _ a _ _ _ _ _ _ _ _=>a
 |_=>{posonlyargs:=[],args:=[],vararg:=none,kwonlyargs:=[],kw_defaults:=[],kwarg:=none,defaults:=[]}
def iQ(s:Stmt):List Stmt:=match s with
 | .FunctionDef _ _ b _ _ _ _ _ _ _=>b
 |_=>[]
def gF(s:Stmt):Scope:=match s with
 | .FunctionDef _ _ _ _ _ _ a _ _ _=>a
 |_=>{kind:=.function,names:=[],isGenerator:=false,isCoroutine:=false}
def inClass(s:Stmt)(j:Nat):Stmt:=match s with
 | .ClassDef _ _ _ body _ _ _ _ _ _ _=>body.getD j (.Pass ⟨0,0,0,0⟩)
 |_=>.Pass ⟨0,0,0,0⟩
end L2
namespace HT
open PySem PySem.W PyProof.Rows
abbrev so(x:String):Str:=Str.ofString x
abbrev de:=PySem.DictEntry.mk
abbrev ob:=PySem.Obj.mk
abbrev kh:=PySem.PyData.keyHash
abbrev vs(x:String)(n:Tok):Value:=.str (so x) n
abbrev vi(i:Int):Value:=.int i 0
abbrev vr(a:Addr):Value:=.ref a
abbrev vn:Value:=.none
abbrev vb:Value:=.bool true
abbrev vt(x:String):Value:=.type x
abbrev dx(P:Params)(x:String)(n:Tok)(v:Value):DictEntry:=.mk (kh P (so x)) (vs x n) v
abbrev oc(x q:String)(i j k:Tok)(l a b:Int)(r:Addr)(h:Int)(s t u v:Addr)(z m:Int)(n:Tok):Obj:=ob (vt "code") none (Data.fields #[vs x i,vs q j,vs "/claim/cut.py" k,vi l,vi a,vi 0,vi 0,vi b,vr r,vb,vi h,vr s,vn,vr t,vr u,vr v,vi z,vi m,vs "/claim/cut.py" n]) #[]
open L2 (jJ iQ gF inClass)
abbrev PR:Program:=PySem.Challenge.pw_hastebook_k63_rows_refused
def top(i:Nat):Stmt:=PR.main.body.getD i (.Pass ⟨0,0,0,0⟩)
abbrev of(x q:String)(s:Stmt)(p:String)(n:Tok)(c:Addr):Obj:=ob (vt "function") none (Data.func (cG x q (jJ s) (iQ s) (gF s) vn vn vn (vs p n) none (vr c) vn)) #[]
abbrev od(x q:String)(s:Stmt):Obj:=ob vn none (Data.func ⟨so x,so q,jJ s,.stmts (iQ s),gF s,0,[],vn,vn,vn,vn,none,vn,vn,0⟩) #[]
noncomputable def KH:Params->aK:=λP=>
 (nat_lit 2,ob vn none (Data.dict #[]) #[])::
 (nat_lit 3,ob (vt "dict") none (Data.dict #[dx P "__name__" 165 (vs "law_hastebook_k63_rows_refused" 1059),dx P "__doc__" 166 vn,dx P "__package__" 167 vn,dx P "__loader__" 168 (Value.builtin "__main__.__loader__#opaque"),dx P "__spec__" 169 vn,dx P "__annotations__" 170 (vr 6),dx P "__builtins__" 171 (vr 4),dx P "__file__" 173 (vs "/claim/cut.py" 172),dx P "__cached__" 174 vn,dx P "_wall" 193 (vr 21),dx P "BookError" 213 (vr 31),dx P "NoOrder" 229 (vr 44),dx P "NoRoom" 245 (vr 56),dx P "NoRow" 261 (vr 68),dx P "NoName" 277 (vr 80),dx P "NoText" 293 (vr 92),dx P "order_of" 305 (vr 101),dx P "is_work" 313 (vr 108),dx P "needed_works" 319 (vr 113),dx P "least_ready" 325 (vr 118),dx P "earliest" 333 (vr 123),dx P "length" 341 (vr 130),dx P "latest" 347 (vr 135),dx P "spare" 353 (vr 140),dx P "longest" 365 (vr 147),dx P "done_moments" 371 (vr 152),dx P "holding_up" 377 (vr 157),dx P "SOURCE" 381 (Value.int 0 380),dx P "SINK" 383 (Value.int 1 382),dx P "Pipe" 419 (vr 174),dx P "Net" 516 (vr 244),dx P "begin_place" 523 (vr 255),dx P "done_place" 530 (vr 262),dx P "work_at" 537 (vr 269),dx P "raise_moments" 548 (vr 276),dx P "tight_route" 554 (vr 281),dx P "next_routes" 564 (vr 288),dx P "room_on" 570 (vr 293),dx P "pour" 579 (vr 300),dx P "flowing_route" 588 (vr 307),dx P "steps_from" 594 (vr 312),dx P "take_out" 600 (vr 507),dx P "take_out_nets" 601 (vr 317),dx P "works_on" 607 (vr 322),dx P "least_end" 617 (vr 329),dx P "free_end" 623 (vr 334),dx P "plan_at" 629 (vr 339),dx P "stream_at" 638 (vr 346),dx P "too_long" 647 (vr 353),dx P "least_hours" 653 (vr 358),dx P "free_hours" 660 (vr 365),dx P "filled_net" 670 (vr 372),dx P "plan_row" 680 (vr 379),dx P "through" 688 (vr 384),dx P "worth" 694 (vr 389),dx P "work_worth" 702 (vr 396),dx P "corners" 718 (vr 403),dx P "price_at" 727 (vr 410),dx P "FIGURES" 731 (vs "0123456789" 730),dx P "MOST_FIGURES" 733 (Value.int 30 732),dx P "SMALL_LETTERS" 735 (vs "abcdefghijklmnopqrstuvwxyz" 734),dx P "MOST_LETTERS" 737 (Value.int 8 736),dx P "read_count" 744 (vr 417),dx P "is_name" 751 (vr 424),dx P "is_count" 758 (vr 431),dx P "is_made_of" 764 (vr 436),dx P "end_for" 778 (vr 443),dx P "best_end" 784 (vr 448),dx P "best_sum" 793 (vr 455),dx P "step_between" 801 (vr 462),dx P "least_sum" 807 (vr 467),dx P "corner_sum" 815 (vr 474),dx P "MOST_WORKS" 819 (Value.int 8 818),dx P "DONE" 821 (vs "ok" 820),dx P "NOTHING" 823 (vs "none" 822),dx P "any_name" 831 (vr 481),dx P "work_name" 839 (vr 488),dx P "any_number" 847 (vr 495),dx P "put_in" 857 (vr 502),dx P "take_out_books" 864 (vr 507),dx P "add_need" 873 (vr 514),dx P "free_need" 879 (vr 519),dx P "tell_names" 887 (vr 526),dx P "tell_work" 893 (vr 531),dx P "tell_ends" 903 (vr 538),dx P "tell_price" 912 (vr 545),dx P "tell_plan" 918 (vr 550),dx P "tell_why" 924 (vr 555),dx P "tell_curve" 932 (vr 562),dx P "tell_spare" 938 (vr 567),dx P "tell_budget" 946 (vr 574),dx P "tell_bonus" 956 (vr 581),dx P "works_of" 963 (vr 588),dx P "needs_of" 970 (vr 595),dx P "numbered" 976 (vr 600),dx P "named" 982 (vr 605),dx P "spaced" 988 (vr 610),dx P "parted" 994 (vr 615),dx P "ROWS" 1023 (vr 616),dx P "Book" 1058 (vr 652),dx P "_law_mix" 1068 (vr 663),dx P "_law_cell_at" 1076 (vr 670),dx P "_law_names" 1090 (vr 677),dx P "_law_no_name" 1098 (vr 684),dx P "_law_of_words" 1104 (vr 689),dx P "_law_of_names" 1110 (vr 694),dx P "_law_of_texts" 1116 (vr 699),dx P "_law_refused" 1127 (vr 706),dx P "law" 1133 (vr 711)] 109) #[])::
 (nat_lit 22,ob (vt "tuple") none (Data.seq #[vt "ValueError"]) #[])::
 (nat_lit 29,ob (vt "tuple") none (Data.seq #[]) #[])::
 (nat_lit 30,ob (vt "dict") none (Data.dict #[dx P "__module__" 203 (vs "hastebook.errors" 194),dx P "__firstlineno__" 207 (Value.int 5 206),dx P "__static_attributes__" 208 (vr 29),dx P "__weakref__" 210 (vr 32),dx P "__doc__" 211 vn] 3) #[])::
 (nat_lit 31,ob (vt "type") none (Data.cls (PySem.ClassData.mk (so "BookError") [vt "ValueError"] [vr 31,vt "ValueError",vt "Exception",vt "BaseException",vt "object"] 30 (so "BookError") true [] [vr 44,vr 56,vr 68,vr 80,vr 92] false none false)) #[some (vr 22),none,some (vs "BookError" 196),some (vs "BookError" 204),some (Value.builtin "ValueError.__new__"),some (vb)])::
 (nat_lit 32,ob (vt "getset_descriptor") none (Data.fields #[vs "__weakref__" 209,vr 31,Value.builtin "ExceptionGroup.__weakref__",vn]) #[])::
 (nat_lit 35,ob (vt "tuple") none (Data.seq #[vr 31]) #[])::
 (nat_lit 42,ob (vt "tuple") none (Data.seq #[]) #[])::
 (nat_lit 43,ob (vt "dict") none (Data.dict #[dx P "__module__" 221 (vs "hastebook.errors" 194),dx P "__firstlineno__" 225 (Value.int 7 224),dx P "__static_attributes__" 226 (vr 42),dx P "__doc__" 227 vn] 2) #[])::
 (nat_lit 44,ob (vt "type") none (Data.cls (PySem.ClassData.mk (so "NoOrder") [vr 31] [vr 44,vr 31,vt "ValueError",vt "Exception",vt "BaseException",vt "object"] 43 (so "NoOrder") true [] [] false none false)) #[some (vr 35),none,some (vs "NoOrder" 214),some (vs "NoOrder" 222),some (Value.builtin "ValueError.__new__"),some (vb)])::
 (nat_lit 47,ob (vt "tuple") none (Data.seq #[vr 31]) #[])::
 (nat_lit 54,ob (vt "tuple") none (Data.seq #[]) #[])::
 (nat_lit 55,ob (vt "dict") none (Data.dict #[dx P "__module__" 237 (vs "hastebook.errors" 194),dx P "__firstlineno__" 241 (Value.int 9 240),dx P "__static_attributes__" 242 (vr 54),dx P "__doc__" 243 vn] 2) #[])::
 (nat_lit 56,ob (vt "type") none (Data.cls (PySem.ClassData.mk (so "NoRoom") [vr 31] [vr 56,vr 31,vt "ValueError",vt "Exception",vt "BaseException",vt "object"] 55 (so "NoRoom") true [] [] false none false)) #[some (vr 47),none,some (vs "NoRoom" 230),some (vs "NoRoom" 238),some (Value.builtin "ValueError.__new__"),some (vb)])::
 (nat_lit 59,ob (vt "tuple") none (Data.seq #[vr 31]) #[])::
 (nat_lit 66,ob (vt "tuple") none (Data.seq #[]) #[])::
 (nat_lit 67,ob (vt "dict") none (Data.dict #[dx P "__module__" 253 (vs "hastebook.errors" 194),dx P "__firstlineno__" 257 (Value.int 11 256),dx P "__static_attributes__" 258 (vr 66),dx P "__doc__" 259 vn] 2) #[])::
 (nat_lit 68,ob (vt "type") none (Data.cls (PySem.ClassData.mk (so "NoRow") [vr 31] [vr 68,vr 31,vt "ValueError",vt "Exception",vt "BaseException",vt "object"] 67 (so "NoRow") true [] [] false none false)) #[some (vr 59),none,some (vs "NoRow" 246),some (vs "NoRow" 254),some (Value.builtin "ValueError.__new__"),some (vb)])::
 (nat_lit 71,ob (vt "tuple") none (Data.seq #[vr 31]) #[])::
 (nat_lit 78,ob (vt "tuple") none (Data.seq #[]) #[])::
 (nat_lit 79,ob (vt "dict") none (Data.dict #[dx P "__module__" 269 (vs "hastebook.errors" 194),dx P "__firstlineno__" 273 (Value.int 13 272),dx P "__static_attributes__" 274 (vr 78),dx P "__doc__" 275 vn] 2) #[])::
 (nat_lit 80,ob (vt "type") none (Data.cls (PySem.ClassData.mk (so "NoName") [vr 31] [vr 80,vr 31,vt "ValueError",vt "Exception",vt "BaseException",vt "object"] 79 (so "NoName") true [] [] false none false)) #[some (vr 71),none,some (vs "NoName" 262),some (vs "NoName" 270),some (Value.builtin "ValueError.__new__"),some (vb)])::
 (nat_lit 83,ob (vt "tuple") none (Data.seq #[vr 31]) #[])::
 (nat_lit 90,ob (vt "tuple") none (Data.seq #[]) #[])::
 (nat_lit 91,ob (vt "dict") none (Data.dict #[dx P "__module__" 285 (vs "hastebook.errors" 194),dx P "__firstlineno__" 289 (Value.int 15 288),dx P "__static_attributes__" 290 (vr 90),dx P "__doc__" 291 vn] 2) #[])::
 (nat_lit 92,ob (vt "type") none (Data.cls (PySem.ClassData.mk (so "NoText") [vr 31] [vr 92,vr 31,vt "ValueError",vt "Exception",vt "BaseException",vt "object"] 91 (so "NoText") true [] [] false none false)) #[some (vr 83),none,some (vs "NoText" 278),some (vs "NoText" 286),some (Value.builtin "ValueError.__new__"),some (vb)])::
 (nat_lit 100,oc "order_of" "order_of" 296 297 298 18 2 3 95 181 96 97 98 99 303 18 304)::
 (nat_lit 101,of "order_of" "order_of" (top 9) "hastebook.needs" 294 100)::
 (nat_lit 107,oc "is_work" "is_work" 306 307 308 24 2 3 102 181 103 104 105 106 311 24 312)::
 (nat_lit 108,of "is_work" "is_work" (top 10) "hastebook.needs" 294 107)::
 (nat_lit 112,ob (vt "code") none (Data.fields #[vs "needed_works" 314,vs "needed_works" 315,vs "/claim/cut.py" 316,vi 26,vi 2,vi 0,vi 0,vi 3,vr 109,vb,vi 181,vr 110,vn,vn,vn,vr 111,vi 317,vi 26,vs "/claim/cut.py" 318]) #[])::
 (nat_lit 113,of "needed_works" "needed_works" (top 11) "hastebook.needs" 294 112)::
 (nat_lit 117,ob (vt "code") none (Data.fields #[vs "least_ready" 320,vs "least_ready" 321,vs "/claim/cut.py" 322,vi 34,vi 2,vi 0,vi 0,vi 3,vr 114,vb,vi 181,vr 115,vn,vn,vn,vr 116,vi 323,vi 34,vs "/claim/cut.py" 324]) #[])::
 (nat_lit 118,of "least_ready" "least_ready" (top 12) "hastebook.needs" 294 117)::
 (nat_lit 172,ob (vt "tuple") none (Data.seq #[vs "back" 407,vs "head" 408,vs "hours" 409,vs "room" 410,vs "tail" 411]) #[])::
 (nat_lit 173,ob (vt "dict") none (Data.dict #[dx P "__module__" 391 (vs "hastebook.nets" 378),dx P "__firstlineno__" 395 (Value.int 82 394),dx P "__init__" 406 (vr 171),dx P "__static_attributes__" 412 (vr 172),dx P "__dict__" 414 (vr 175),dx P "__weakref__" 416 (vr 176),dx P "__doc__" 417 vn] 4) #[])::
 (nat_lit 174,ob (vt "type") none (Data.cls (PySem.ClassData.mk (so "Pipe") [vt "object"] [vr 174,vt "object"] 173 (so "Pipe") true [] [] false none false)) #[none,none,some (vs "Pipe" 384),some (vs "Pipe" 392),some (Value.builtin "object.__new__"),some (vb)])::
 (nat_lit 175,ob (vt "getset_descriptor") none (Data.fields #[vs "__dict__" 413,vr 174,Value.builtin "function.__dict__",Value.builtin "function.__dict__#set"]) #[])::
 (nat_lit 176,ob (vt "getset_descriptor") none (Data.fields #[vs "__weakref__" 415,vr 174,Value.builtin "ExceptionGroup.__weakref__",vn]) #[])::
 (nat_lit 242,ob (vt "tuple") none (Data.seq #[vs "pipes" 507,vs "places" 508]) #[])::
 (nat_lit 243,ob (vt "dict") none (Data.dict #[dx P "__module__" 427 (vs "hastebook.nets" 378),dx P "__firstlineno__" 431 (Value.int 90 430),dx P "__init__" 438 (vr 191),dx P "lay" 451 (vr 198),dx P "fill" 461 (vr 205),dx P "lead" 469 (vr 212),dx P "moments" 475 (vr 217),dx P "open_length" 482 (vr 224),dx P "open_pipes" 488 (vr 229),dx P "amount" 494 (vr 234),dx P "stream" 506 (vr 241),dx P "__static_attributes__" 509 (vr 242),dx P "__dict__" 511 (vr 245),dx P "__weakref__" 513 (vr 246),dx P "__doc__" 514 vn] 4) #[])::
 (nat_lit 244,ob (vt "type") none (Data.cls (PySem.ClassData.mk (so "Net") [vt "object"] [vr 244,vt "object"] 243 (so "Net") true [] [] false none false)) #[none,none,some (vs "Net" 420),some (vs "Net" 428),some (Value.builtin "object.__new__"),some (vb)])::
 (nat_lit 245,ob (vt "getset_descriptor") none (Data.fields #[vs "__dict__" 510,vr 244,Value.builtin "function.__dict__",Value.builtin "function.__dict__#set"]) #[])::
 (nat_lit 246,ob (vt "getset_descriptor") none (Data.fields #[vs "__weakref__" 512,vr 244,Value.builtin "ExceptionGroup.__weakref__",vn]) #[])::
 (nat_lit 416,oc "read_count" "read_count" 738 739 740 267 1 3 411 181 412 413 414 415 742 267 743)::
 (nat_lit 417,of "read_count" "read_count" (top 61) "hastebook.texts" 728 416)::
 (nat_lit 423,oc "is_name" "is_name" 745 746 747 271 1 3 418 181 419 420 421 422 749 271 750)::
 (nat_lit 424,of "is_name" "is_name" (top 62) "hastebook.texts" 728 423)::
 (nat_lit 430,oc "is_count" "is_count" 752 753 754 273 1 3 425 181 426 427 428 429 756 273 757)::
 (nat_lit 431,of "is_count" "is_count" (top 63) "hastebook.texts" 728 430)::
 (nat_lit 435,ob (vt "code") none (Data.fields #[vs "is_made_of" 759,vs "is_made_of" 760,vs "/claim/cut.py" 761,vi 277,vi 3,vi 0,vi 0,vi 3,vr 432,vb,vi 181,vr 433,vn,vn,vn,vr 434,vi 762,vi 277,vs "/claim/cut.py" 763]) #[])::
 (nat_lit 436,of "is_made_of" "is_made_of" (top 64) "hastebook.texts" 728 435)::
 (nat_lit 480,oc "any_name" "any_name" 824 825 826 302 2 3 475 181 476 477 478 479 829 302 830)::
 (nat_lit 481,of "any_name" "any_name" (top 76) "hastebook.books" 816 480)::
 (nat_lit 487,oc "work_name" "work_name" 832 833 834 306 2 3 482 181 483 484 485 486 837 306 838)::
 (nat_lit 488,of "work_name" "work_name" (top 77) "hastebook.books" 816 487)::
 (nat_lit 494,oc "any_number" "any_number" 840 841 842 310 2 3 489 181 490 491 492 493 845 310 846)::
 (nat_lit 495,of "any_number" "any_number" (top 78) "hastebook.books" 816 494)::
 (nat_lit 501,oc "put_in" "put_in" 848 849 850 312 2 3 496 181 497 498 499 500 855 312 856)::
 (nat_lit 502,of "put_in" "put_in" (top 79) "hastebook.books" 816 501)::
 (nat_lit 506,ob (vt "code") none (Data.fields #[vs "take_out" 858,vs "take_out" 859,vs "/claim/cut.py" 860,vi 321,vi 2,vi 0,vi 0,vi 3,vr 503,vb,vi 181,vr 504,vn,vn,vn,vr 505,vi 861,vi 321,vs "/claim/cut.py" 862]) #[])::
 (nat_lit 507,of "take_out" "take_out" (top 80) "hastebook.books" 816 506)::
 (nat_lit 513,oc "add_need" "add_need" 865 866 867 326 2 3 508 181 509 510 511 512 871 326 872)::
 (nat_lit 514,of "add_need" "add_need" (top 82) "hastebook.books" 816 513)::
 (nat_lit 518,ob (vt "code") none (Data.fields #[vs "free_need" 874,vs "free_need" 875,vs "/claim/cut.py" 876,vi 332,vi 2,vi 0,vi 0,vi 3,vr 515,vb,vi 181,vr 516,vn,vn,vn,vr 517,vi 877,vi 332,vs "/claim/cut.py" 878]) #[])::
 (nat_lit 519,of "free_need" "free_need" (top 83) "hastebook.books" 816 518)::
 (nat_lit 525,oc "tell_names" "tell_names" 880 881 882 335 2 3 520 181 521 522 523 524 885 335 886)::
 (nat_lit 526,of "tell_names" "tell_names" (top 84) "hastebook.books" 816 525)::
 (nat_lit 530,ob (vt "code") none (Data.fields #[vs "tell_work" 888,vs "tell_work" 889,vs "/claim/cut.py" 890,vi 337,vi 2,vi 0,vi 0,vi 3,vr 527,vb,vi 181,vr 528,vn,vn,vn,vr 529,vi 891,vi 337,vs "/claim/cut.py" 892]) #[])::
 (nat_lit 531,of "tell_work" "tell_work" (top 85) "hastebook.books" 816 530)::
 (nat_lit 544,oc "tell_price" "tell_price" 904 905 906 344 2 3 539 181 540 541 542 543 910 344 911)::
 (nat_lit 545,of "tell_price" "tell_price" (top 87) "hastebook.books" 816 544)::
 (nat_lit 549,ob (vt "code") none (Data.fields #[vs "tell_plan" 913,vs "tell_plan" 914,vs "/claim/cut.py" 915,vi 347,vi 2,vi 0,vi 0,vi 3,vr 546,vb,vi 181,vr 547,vn,vn,vn,vr 548,vi 916,vi 347,vs "/claim/cut.py" 917]) #[])::
 (nat_lit 550,of "tell_plan" "tell_plan" (top 88) "hastebook.books" 816 549)::
 (nat_lit 554,ob (vt "code") none (Data.fields #[vs "tell_why" 919,vs "tell_why" 920,vs "/claim/cut.py" 921,vi 352,vi 2,vi 0,vi 0,vi 3,vr 551,vb,vi 181,vr 552,vn,vn,vn,vr 553,vi 922,vi 352,vs "/claim/cut.py" 923]) #[])::
 (nat_lit 555,of "tell_why" "tell_why" (top 89) "hastebook.books" 816 554)::
 (nat_lit 566,ob (vt "code") none (Data.fields #[vs "tell_spare" 933,vs "tell_spare" 934,vs "/claim/cut.py" 935,vi 361,vi 2,vi 0,vi 0,vi 3,vr 563,vb,vi 181,vr 564,vn,vn,vn,vr 565,vi 936,vi 361,vs "/claim/cut.py" 937]) #[])::
 (nat_lit 567,of "tell_spare" "tell_spare" (top 91) "hastebook.books" 816 566)::
 (nat_lit 573,oc "tell_budget" "tell_budget" 939 940 941 367 2 3 568 181 569 570 571 572 944 367 945)::
 (nat_lit 574,of "tell_budget" "tell_budget" (top 92) "hastebook.books" 816 573)::
 (nat_lit 580,oc "tell_bonus" "tell_bonus" 947 948 949 369 2 3 575 181 576 577 578 579 954 369 955)::
 (nat_lit 581,of "tell_bonus" "tell_bonus" (top 93) "hastebook.books" 816 580)::
 (nat_lit 599,ob (vt "code") none (Data.fields #[vs "numbered" 971,vs "numbered" 972,vs "/claim/cut.py" 973,vi 377,vi 2,vi 0,vi 0,vi 3,vr 596,vb,vi 181,vr 597,vn,vn,vn,vr 598,vi 974,vi 377,vs "/claim/cut.py" 975]) #[])::
 (nat_lit 600,of "numbered" "numbered" (top 96) "hastebook.books" 816 599)::
 (nat_lit 609,ob (vt "code") none (Data.fields #[vs "spaced" 983,vs "spaced" 984,vs "/claim/cut.py" 985,vi 383,vi 1,vi 0,vi 0,vi 3,vr 606,vb,vi 181,vr 607,vn,vn,vn,vr 608,vi 986,vi 383,vs "/claim/cut.py" 987]) #[])::
 (nat_lit 610,of "spaced" "spaced" (top 98) "hastebook.books" 816 609)::
 (nat_lit 616,ob (vt "dict") none (Data.dict #[dx P "work" 995 (vr 617),dx P "need" 996 (vr 618),dx P "free" 997 (vr 619),dx P "drop" 998 (vr 620),dx P "names" 999 (vr 621),dx P "show" 1000 (vr 622),dx P "ends" 1001 (vr 623),dx P "price" 1002 (vr 624),dx P "plan" 1003 (vr 625),dx P "why" 1004 (vr 626),dx P "curve" 1005 (vr 627),dx P "spare" 1006 (vr 628),dx P "budget" 1007 (vr 629),dx P "bonus" 1008 (vr 630)] 14) #[])::
 (nat_lit 617,ob (vt "tuple") none (Data.seq #[vr 502,vr 481,vr 495,vr 495,vr 495]) #[])::
 (nat_lit 618,ob (vt "tuple") none (Data.seq #[vr 514,vr 488,vr 488]) #[])::
 (nat_lit 619,ob (vt "tuple") none (Data.seq #[vr 519,vr 488,vr 488]) #[])::
 (nat_lit 620,ob (vt "tuple") none (Data.seq #[vr 507,vr 488]) #[])::
 (nat_lit 621,ob (vt "tuple") none (Data.seq #[vr 526]) #[])::
 (nat_lit 622,ob (vt "tuple") none (Data.seq #[vr 531,vr 488]) #[])::
 (nat_lit 623,ob (vt "tuple") none (Data.seq #[vr 538]) #[])::
 (nat_lit 624,ob (vt "tuple") none (Data.seq #[vr 545,vr 495]) #[])::
 (nat_lit 625,ob (vt "tuple") none (Data.seq #[vr 550,vr 495]) #[])::
 (nat_lit 626,ob (vt "tuple") none (Data.seq #[vr 555,vr 495]) #[])::
 (nat_lit 627,ob (vt "tuple") none (Data.seq #[vr 562]) #[])::
 (nat_lit 628,ob (vt "tuple") none (Data.seq #[vr 567,vr 495]) #[])::
 (nat_lit 629,ob (vt "tuple") none (Data.seq #[vr 574,vr 495]) #[])::
 (nat_lit 630,ob (vt "tuple") none (Data.seq #[vr 581,vr 495]) #[])::
 (nat_lit 643,oc "__init__" "Book.__init__" 1036 1037 1038 390 1 3 638 181 639 640 641 642 1040 390 1041)::
 (nat_lit 644,of "__init__" "Book.__init__" (inClass (top 101) 0) "hastebook.books" 816 643)::
 (nat_lit 648,ob (vt "code") none (Data.fields #[vs "say" 1043,vs "Book.say" 1044,vs "/claim/cut.py" 1045,vi 394,vi 2,vi 0,vi 0,vi 3,vr 645,vb,vi 181,vr 646,vn,vn,vn,vr 647,vi 1046,vi 394,vs "/claim/cut.py" 1047]) #[])::
 (nat_lit 649,of "say" "Book.say" (inClass (top 101) 1) "hastebook.books" 816 648)::
 (nat_lit 650,ob (vt "tuple") none (Data.seq #[vs "needs" 1049,vs "works" 1050]) #[])::
 (nat_lit 651,ob (vt "dict") none (Data.dict #[dx P "__module__" 1031 (vs "hastebook.books" 816),dx P "__firstlineno__" 1035 (Value.int 388 1034),dx P "__init__" 1042 (vr 644),dx P "say" 1048 (vr 649),dx P "__static_attributes__" 1051 (vr 650),dx P "__dict__" 1053 (vr 653),dx P "__weakref__" 1055 (vr 654),dx P "__doc__" 1056 vn] 4) #[])::
 (nat_lit 652,ob (vt "type") none (Data.cls (PySem.ClassData.mk (so "Book") [vt "object"] [vr 652,vt "object"] 651 (so "Book") true [] [] false none false)) #[none,none,some (vs "Book" 1024),some (vs "Book" 1032),some (Value.builtin "object.__new__"),some (vb)])::
 (nat_lit 653,ob (vt "getset_descriptor") none (Data.fields #[vs "__dict__" 1052,vr 652,Value.builtin "function.__dict__",Value.builtin "function.__dict__#set"]) #[])::
 (nat_lit 654,ob (vt "getset_descriptor") none (Data.fields #[vs "__weakref__" 1054,vr 652,Value.builtin "ExceptionGroup.__weakref__",vn]) #[])::
 (nat_lit 662,oc "_law_mix" "_law_mix" 1061 1062 1063 402 2 3 657 181 658 659 660 661 1066 402 1067)::
 (nat_lit 663,of "_law_mix" "_law_mix" (top 103) "law_hastebook_k63_rows_refused" 1059 662)::
 (nat_lit 669,oc "_law_cell_at" "_law_cell_at" 1069 1070 1071 404 2 3 664 181 665 666 667 668 1074 404 1075)::
 (nat_lit 670,of "_law_cell_at" "_law_cell_at" (top 104) "law_hastebook_k63_rows_refused" 1059 669)::
 (nat_lit 676,oc "_law_names" "_law_names" 1077 1078 1079 408 1 3 671 181 672 673 674 675 1088 408 1089)::
 (nat_lit 677,of "_law_names" "_law_names" (top 105) "law_hastebook_k63_rows_refused" 1059 676)::
 (nat_lit 683,oc "_law_no_name" "_law_no_name" 1091 1092 1093 419 2 3 678 181 679 680 681 682 1096 419 1097)::
 (nat_lit 684,of "_law_no_name" "_law_no_name" (top 106) "law_hastebook_k63_rows_refused" 1059 683)::
 (nat_lit 688,ob (vt "code") none (Data.fields #[vs "_law_of_words" 1099,vs "_law_of_words" 1100,vs "/claim/cut.py" 1101,vi 421,vi 2,vi 0,vi 0,vi 3,vr 685,vb,vi 181,vr 686,vn,vn,vn,vr 687,vi 1102,vi 421,vs "/claim/cut.py" 1103]) #[])::
 (nat_lit 689,of "_law_of_words" "_law_of_words" (top 107) "law_hastebook_k63_rows_refused" 1059 688)::
 (nat_lit 693,ob (vt "code") none (Data.fields #[vs "_law_of_names" 1105,vs "_law_of_names" 1106,vs "/claim/cut.py" 1107,vi 428,vi 3,vi 0,vi 0,vi 3,vr 690,vb,vi 181,vr 691,vn,vn,vn,vr 692,vi 1108,vi 428,vs "/claim/cut.py" 1109]) #[])::
 (nat_lit 694,of "_law_of_names" "_law_of_names" (top 108) "law_hastebook_k63_rows_refused" 1059 693)::
 (nat_lit 698,ob (vt "code") none (Data.fields #[vs "_law_of_texts" 1111,vs "_law_of_texts" 1112,vs "/claim/cut.py" 1113,vi 433,vi 4,vi 0,vi 0,vi 3,vr 695,vb,vi 181,vr 696,vn,vn,vn,vr 697,vi 1114,vi 433,vs "/claim/cut.py" 1115]) #[])::
 (nat_lit 699,of "_law_of_texts" "_law_of_texts" (top 109) "law_hastebook_k63_rows_refused" 1059 698)::
 (nat_lit 705,oc "_law_refused" "_law_refused" 1117 1118 1119 443 2 3 700 181 701 702 703 704 1125 443 1126)::
 (nat_lit 706,of "_law_refused" "_law_refused" (top 110) "law_hastebook_k63_rows_refused" 1059 705)::
 (nat_lit 710,ob (vt "code") none (Data.fields #[vs "law" 1128,vs "law" 1129,vs "/claim/cut.py" 1130,vi 451,vi 1,vi 0,vi 0,vi 3,vr 707,vb,vi 181,vr 708,vn,vn,vn,vr 709,vi 1131,vi 451,vs "/claim/cut.py" 1132]) #[])::
 (nat_lit 711,of "law" "law" (top 111) "law_hastebook_k63_rows_refused" 1059 710)::[]
def KA:List Addr:=[2,3,22,29,30,31,32,35,42,43,44,47,54,55,56,59,66,67,68,71,78,79,80,83,90,91,92,100,101,107,108,112,113,117,118,172,173,174,175,176,242,243,244,245,246,416,417,423,424,430,431,435,436,480,481,487,488,494,495,501,502,506,507,513,514,518,519,525,526,530,531,544,545,549,550,554,555,566,567,573,574,580,581,599,600,609,610,616,617,618,619,620,621,622,623,624,625,626,627,628,629,630,643,644,648,649,650,651,652,653,654,662,663,669,670,676,677,683,684,688,689,693,694,698,699,705,706,710,711]
set_option maxRecDepth 1000000 in
noncomputable def FL:Params->List Obj:=λP=>
 (ob (vt "dict") none (Data.dict #[dx P "__name__" 1 (vs "builtins" 160),dx P "__doc__" 2 (Value.builtin "builtins.__doc__:str#opaque"),dx P "__package__" 3 (Value.builtin "builtins.__package__:str#opaque"),dx P "__loader__" 4 (Value.builtin "builtins.__loader__:shared#opaque"),dx P "__spec__" 5 (Value.builtin "builtins.__spec__#opaque"),dx P "__build_class__" 6 (Value.builtin "__build_class__"),dx P "__import__" 7 (Value.builtin "__import__"),dx P "abs" 8 (Value.builtin "abs"),dx P "all" 9 (Value.builtin "all"),dx P "any" 10 (Value.builtin "any"),dx P "ascii" 11 (Value.builtin "ascii"),dx P "bin" 12 (Value.builtin "bin"),dx P "breakpoint" 13 (Value.builtin "breakpoint"),dx P "callable" 14 (Value.builtin "callable"),dx P "chr" 15 (Value.builtin "chr"),dx P "compile" 16 (Value.builtin "compile"),dx P "delattr" 17 (Value.builtin "delattr"),dx P "dir" 18 (Value.builtin "dir"),dx P "divmod" 19 (Value.builtin "divmod"),dx P "eval" 20 (Value.builtin "eval"),dx P "exec" 21 (Value.builtin "exec"),dx P "format" 22 (Value.builtin "format"),dx P "getattr" 23 (Value.builtin "getattr"),dx P "globals" 24 (Value.builtin "globals"),dx P "hasattr" 25 (Value.builtin "hasattr"),dx P "hash" 26 (Value.builtin "hash"),dx P "hex" 27 (Value.builtin "hex"),dx P "id" 28 (Value.builtin "id"),dx P "input" 29 (Value.builtin "input"),dx P "isinstance" 30 (Value.builtin "isinstance"),dx P "issubclass" 31 (Value.builtin "issubclass"),dx P "iter" 32 (Value.builtin "iter"),dx P "aiter" 33 (Value.builtin "aiter"),dx P "len" 34 (Value.builtin "len"),dx P "locals" 35 (Value.builtin "locals"),dx P "max" 36 (Value.builtin "max"),dx P "min" 37 (Value.builtin "min"),dx P "next" 38 (Value.builtin "next"),dx P "anext" 39 (Value.builtin "anext"),dx P "oct" 40 (Value.builtin "oct"),dx P "ord" 41 (Value.builtin "ord"),dx P "pow" 42 (Value.builtin "pow"),dx P "print" 43 (Value.builtin "print"),dx P "repr" 44 (Value.builtin "repr"),dx P "round" 45 (Value.builtin "round"),dx P "setattr" 46 (Value.builtin "setattr"),dx P "sorted" 47 (Value.builtin "sorted"),dx P "sum" 48 (Value.builtin "sum"),dx P "vars" 49 (Value.builtin "vars"),dx P "None" 50 vn,dx P "Ellipsis" 51 Value.ellipsis,dx P "NotImplemented" 52 Value.notImplemented,dx P "False" 53 (Value.bool false),dx P "True" 54 (vb),dx P "bool" 55 (vt "bool"),dx P "memoryview" 56 (vt "memoryview"),dx P "bytearray" 57 (vt "bytearray"),dx P "bytes" 58 (vt "bytes"),dx P "classmethod" 59 (vt "classmethod"),dx P "complex" 60 (vt "complex"),dx P "dict" 61 (vt "dict"),dx P "enumerate" 62 (vt "enumerate"),dx P "filter" 63 (vt "filter"),dx P "float" 64 (vt "float"),dx P "frozenset" 65 (vt "frozenset"),dx P "property" 66 (vt "property"),dx P "int" 67 (vt "int"),dx P "list" 68 (vt "list"),dx P "map" 69 (vt "map"),dx P "object" 70 (vt "object"),dx P "range" 71 (vt "range"),dx P "reversed" 72 (vt "reversed"),dx P "set" 73 (vt "set"),dx P "slice" 74 (vt "slice"),dx P "staticmethod" 75 (vt "staticmethod"),dx P "str" 76 (vt "str"),dx P "super" 77 (vt "super"),dx P "tuple" 78 (vt "tuple"),dx P "type" 79 (vt "type"),dx P "zip" 80 (vt "zip"),dx P "__debug__" 81 (vb),dx P "BaseException" 82 (vt "BaseException"),dx P "BaseExceptionGroup" 83 (vt "BaseExceptionGroup"),dx P "Exception" 84 (vt "Exception"),dx P "GeneratorExit" 85 (vt "GeneratorExit"),dx P "KeyboardInterrupt" 86 (vt "KeyboardInterrupt"),dx P "SystemExit" 87 (vt "SystemExit"),dx P "ArithmeticError" 88 (vt "ArithmeticError"),dx P "AssertionError" 89 (vt "AssertionError"),dx P "AttributeError" 90 (vt "AttributeError"),dx P "BufferError" 91 (vt "BufferError"),dx P "EOFError" 92 (vt "EOFError"),dx P "ImportError" 93 (vt "ImportError"),dx P "LookupError" 94 (vt "LookupError"),dx P "MemoryError" 95 (vt "MemoryError"),dx P "NameError" 96 (vt "NameError"),dx P "OSError" 97 (vt "OSError"),dx P "ReferenceError" 98 (vt "ReferenceError"),dx P "RuntimeError" 99 (vt "RuntimeError"),dx P "StopAsyncIteration" 100 (vt "StopAsyncIteration"),dx P "StopIteration" 101 (vt "StopIteration"),dx P "SyntaxError" 102 (vt "SyntaxError"),dx P "SystemError" 103 (vt "SystemError"),dx P "TypeError" 104 (vt "TypeError"),dx P "ValueError" 105 (vt "ValueError"),dx P "Warning" 106 (vt "Warning"),dx P "FloatingPointError" 107 (vt "FloatingPointError"),dx P "OverflowError" 108 (vt "OverflowError"),dx P "ZeroDivisionError" 109 (vt "ZeroDivisionError"),dx P "BytesWarning" 110 (vt "BytesWarning"),dx P "DeprecationWarning" 111 (vt "DeprecationWarning"),dx P "EncodingWarning" 112 (vt "EncodingWarning"),dx P "FutureWarning" 113 (vt "FutureWarning"),dx P "ImportWarning" 114 (vt "ImportWarning"),dx P "PendingDeprecationWarning" 115 (vt "PendingDeprecationWarning"),dx P "ResourceWarning" 116 (vt "ResourceWarning"),dx P "RuntimeWarning" 117 (vt "RuntimeWarning"),dx P "SyntaxWarning" 118 (vt "SyntaxWarning"),dx P "UnicodeWarning" 119 (vt "UnicodeWarning"),dx P "UserWarning" 120 (vt "UserWarning"),dx P "BlockingIOError" 121 (vt "BlockingIOError"),dx P "ChildProcessError" 122 (vt "ChildProcessError"),dx P "ConnectionError" 123 (vt "ConnectionError"),dx P "FileExistsError" 124 (vt "FileExistsError"),dx P "FileNotFoundError" 125 (vt "FileNotFoundError"),dx P "InterruptedError" 126 (vt "InterruptedError"),dx P "IsADirectoryError" 127 (vt "IsADirectoryError"),dx P "NotADirectoryError" 128 (vt "NotADirectoryError"),dx P "PermissionError" 129 (vt "PermissionError"),dx P "ProcessLookupError" 130 (vt "ProcessLookupError"),dx P "TimeoutError" 131 (vt "TimeoutError"),dx P "IndentationError" 132 (vt "IndentationError"),dx P "_IncompleteInputError" 133 (vt "_IncompleteInputError"),dx P "IndexError" 134 (vt "IndexError"),dx P "KeyError" 135 (vt "KeyError"),dx P "ModuleNotFoundError" 136 (vt "ModuleNotFoundError"),dx P "NotImplementedError" 137 (vt "NotImplementedError"),dx P "PythonFinalizationError" 138 (vt "PythonFinalizationError"),dx P "RecursionError" 139 (vt "RecursionError"),dx P "UnboundLocalError" 140 (vt "UnboundLocalError"),dx P "UnicodeError" 141 (vt "UnicodeError"),dx P "BrokenPipeError" 142 (vt "BrokenPipeError"),dx P "ConnectionAbortedError" 143 (vt "ConnectionAbortedError"),dx P "ConnectionRefusedError" 144 (vt "ConnectionRefusedError"),dx P "ConnectionResetError" 145 (vt "ConnectionResetError"),dx P "TabError" 146 (vt "TabError"),dx P "UnicodeDecodeError" 147 (vt "UnicodeDecodeError"),dx P "UnicodeEncodeError" 148 (vt "UnicodeEncodeError"),dx P "UnicodeTranslateError" 149 (vt "UnicodeTranslateError"),dx P "ExceptionGroup" 150 (vt "ExceptionGroup"),dx P "EnvironmentError" 151 (vt "OSError"),dx P "IOError" 152 (vt "OSError"),dx P "open" 153 (Value.builtin "open"),dx P "quit" 154 (Value.builtin "builtins.quit#opaque"),dx P "exit" 155 (Value.builtin "builtins.exit#opaque"),dx P "copyright" 156 (Value.builtin "builtins.copyright#opaque"),dx P "credits" 157 (Value.builtin "builtins.credits#opaque"),dx P "license" 158 (Value.builtin "builtins.license#opaque"),dx P "help" 159 (Value.builtin "builtins.help#opaque")] 159) #[])::
 (ob (vt "dict") none (Data.dict #[dx P "builtins" 162 (vr 4),dx P "__main__" 163 (vr 5)] 2) #[])::
 (ob vn none (Data.dict #[]) #[])::
 (ob (vt "dict") none (Data.dict #[dx P "__name__" 165 (vs "law_hastebook_k63_rows_refused" 1059),dx P "__doc__" 166 vn,dx P "__package__" 167 vn,dx P "__loader__" 168 (Value.builtin "__main__.__loader__#opaque"),dx P "__spec__" 169 vn,dx P "__annotations__" 170 (vr 6),dx P "__builtins__" 171 (vr 4),dx P "__file__" 173 (vs "/claim/cut.py" 172),dx P "__cached__" 174 vn,dx P "_wall" 193 (vr 21),dx P "BookError" 213 (vr 31),dx P "NoOrder" 229 (vr 44),dx P "NoRoom" 245 (vr 56),dx P "NoRow" 261 (vr 68),dx P "NoName" 277 (vr 80),dx P "NoText" 293 (vr 92),dx P "order_of" 305 (vr 101),dx P "is_work" 313 (vr 108),dx P "needed_works" 319 (vr 113),dx P "least_ready" 325 (vr 118),dx P "earliest" 333 (vr 123),dx P "length" 341 (vr 130),dx P "latest" 347 (vr 135),dx P "spare" 353 (vr 140),dx P "longest" 365 (vr 147),dx P "done_moments" 371 (vr 152),dx P "holding_up" 377 (vr 157),dx P "SOURCE" 381 (Value.int 0 380),dx P "SINK" 383 (Value.int 1 382),dx P "Pipe" 419 (vr 174),dx P "Net" 516 (vr 244),dx P "begin_place" 523 (vr 255),dx P "done_place" 530 (vr 262),dx P "work_at" 537 (vr 269),dx P "raise_moments" 548 (vr 276),dx P "tight_route" 554 (vr 281),dx P "next_routes" 564 (vr 288),dx P "room_on" 570 (vr 293),dx P "pour" 579 (vr 300),dx P "flowing_route" 588 (vr 307),dx P "steps_from" 594 (vr 312),dx P "take_out" 600 (vr 507),dx P "take_out_nets" 601 (vr 317),dx P "works_on" 607 (vr 322),dx P "least_end" 617 (vr 329),dx P "free_end" 623 (vr 334),dx P "plan_at" 629 (vr 339),dx P "stream_at" 638 (vr 346),dx P "too_long" 647 (vr 353),dx P "least_hours" 653 (vr 358),dx P "free_hours" 660 (vr 365),dx P "filled_net" 670 (vr 372),dx P "plan_row" 680 (vr 379),dx P "through" 688 (vr 384),dx P "worth" 694 (vr 389),dx P "work_worth" 702 (vr 396),dx P "corners" 718 (vr 403),dx P "price_at" 727 (vr 410),dx P "FIGURES" 731 (vs "0123456789" 730),dx P "MOST_FIGURES" 733 (Value.int 30 732),dx P "SMALL_LETTERS" 735 (vs "abcdefghijklmnopqrstuvwxyz" 734),dx P "MOST_LETTERS" 737 (Value.int 8 736),dx P "read_count" 744 (vr 417),dx P "is_name" 751 (vr 424),dx P "is_count" 758 (vr 431),dx P "is_made_of" 764 (vr 436),dx P "end_for" 778 (vr 443),dx P "best_end" 784 (vr 448),dx P "best_sum" 793 (vr 455),dx P "step_between" 801 (vr 462),dx P "least_sum" 807 (vr 467),dx P "corner_sum" 815 (vr 474),dx P "MOST_WORKS" 819 (Value.int 8 818),dx P "DONE" 821 (vs "ok" 820),dx P "NOTHING" 823 (vs "none" 822),dx P "any_name" 831 (vr 481),dx P "work_name" 839 (vr 488),dx P "any_number" 847 (vr 495),dx P "put_in" 857 (vr 502),dx P "take_out_books" 864 (vr 507),dx P "add_need" 873 (vr 514),dx P "free_need" 879 (vr 519),dx P "tell_names" 887 (vr 526),dx P "tell_work" 893 (vr 531),dx P "tell_ends" 903 (vr 538),dx P "tell_price" 912 (vr 545),dx P "tell_plan" 918 (vr 550),dx P "tell_why" 924 (vr 555),dx P "tell_curve" 932 (vr 562),dx P "tell_spare" 938 (vr 567),dx P "tell_budget" 946 (vr 574),dx P "tell_bonus" 956 (vr 581),dx P "works_of" 963 (vr 588),dx P "needs_of" 970 (vr 595),dx P "numbered" 976 (vr 600),dx P "named" 982 (vr 605),dx P "spaced" 988 (vr 610),dx P "parted" 994 (vr 615),dx P "ROWS" 1023 (vr 616),dx P "Book" 1058 (vr 652),dx P "_law_mix" 1068 (vr 663),dx P "_law_cell_at" 1076 (vr 670),dx P "_law_names" 1090 (vr 677),dx P "_law_no_name" 1098 (vr 684),dx P "_law_of_words" 1104 (vr 689),dx P "_law_of_names" 1110 (vr 694),dx P "_law_of_texts" 1116 (vr 699),dx P "_law_refused" 1127 (vr 706),dx P "law" 1133 (vr 711)] 109) #[])::
 (ob (vt "module") (some 0) Data.plain #[])::
 (ob (vt "module") (some 3) Data.plain #[])::
 (ob (vt "dict") none (Data.dict #[]) #[])::
 (ob (vt "tuple") none (Data.seq #[]) #[])::
 (ob vn none (Data.fields #[]) #[])::
 (ob (vt "code") none (Data.fields #[vs "<module>" 176,vs "<module>" 177,vs "/claim/cut.py" 178,vi 1,vi 0,vi 0,vi 0,vi 0,vr 7,Value.bool false,vi 175,vr 8,vn,vn,vn,vn,vi 179,vi 1,vs "/claim/cut.py" 180]) #[])::
 (ob (vt "frame") none Data.plain #[some (vr 9),some (vr 3),some (vr 3),none,some (vs "__main__" 164),none,some (vr 0)])::
 (ob (vt "tuple") none (Data.seq #[]) #[])::
 (ob vn none (Data.fields #[vi 1,vi 0,vr 20,vi 5,vi 0,vr 27,vi 7,vi 0,vr 40,vi 9,vi 0,vr 52,vi 11,vi 0,vr 64,vi 13,vi 0,vr 76,vi 15,vi 0,vr 88,vi 18,vi 0,vr 100,vi 24,vi 0,vr 107,vi 26,vi 0,vr 112,vi 34,vi 0,vr 117,vi 40,vi 0,vr 122,vi 47,vi 0,vr 129,vi 49,vi 0,vr 134,vi 61,vi 0,vr 139,vi 65,vi 0,vr 146,vi 75,vi 0,vr 151,vi 77,vi 0,vr 156,vi 82,vi 0,vr 163,vi 90,vi 0,vr 184,vi 151,vi 0,vr 254,vi 153,vi 0,vr 261,vi 155,vi 0,vr 268,vi 157,vi 0,vr 275,vi 165,vi 0,vr 280,vi 171,vi 0,vr 287,vi 177,vi 0,vr 292,vi 179,vi 0,vr 299,vi 183,vi 0,vr 306,vi 190,vi 0,vr 311,vi 192,vi 0,vr 316,vi 198,vi 0,vr 321,vi 201,vi 0,vr 328,vi 203,vi 0,vr 333,vi 205,vi 0,vr 338,vi 210,vi 0,vr 345,vi 214,vi 0,vr 352,vi 218,vi 0,vr 357,vi 220,vi 0,vr 364,vi 222,vi 0,vr 371,vi 226,vi 0,vr 378,vi 230,vi 0,vr 383,vi 236,vi 0,vr 388,vi 240,vi 0,vr 395,vi 245,vi 0,vr 402,vi 258,vi 0,vr 409,vi 267,vi 0,vr 416,vi 271,vi 0,vr 423,vi 273,vi 0,vr 430,vi 277,vi 0,vr 435,vi 280,vi 0,vr 442,vi 286,vi 0,vr 447,vi 290,vi 0,vr 454,vi 292,vi 0,vr 461,vi 294,vi 0,vr 466,vi 296,vi 0,vr 473,vi 302,vi 0,vr 480,vi 306,vi 0,vr 487,vi 310,vi 0,vr 494,vi 312,vi 0,vr 501,vi 321,vi 0,vr 506,vi 326,vi 0,vr 513,vi 332,vi 0,vr 518,vi 335,vi 0,vr 525,vi 337,vi 0,vr 530,vi 340,vi 0,vr 537,vi 344,vi 0,vr 544,vi 347,vi 0,vr 549,vi 352,vi 0,vr 554,vi 359,vi 0,vr 561,vi 361,vi 0,vr 566,vi 367,vi 0,vr 573,vi 369,vi 0,vr 580,vi 373,vi 0,vr 587,vi 375,vi 0,vr 594,vi 377,vi 0,vr 599,vi 380,vi 0,vr 604,vi 383,vi 0,vr 609,vi 385,vi 0,vr 614,vi 388,vi 0,vr 636,vi 402,vi 0,vr 662,vi 404,vi 0,vr 669,vi 408,vi 0,vr 676,vi 419,vi 0,vr 683,vi 421,vi 0,vr 688,vi 428,vi 0,vr 693,vi 433,vi 0,vr 698,vi 443,vi 0,vr 705,vi 451,vi 0,vr 710]) #[])::
 (ob (vt "code") none (Data.fields #[vs "<module>" 182,vs "<module>" 183,vs "/claim/cut.py" 184,vi 1,vi 0,vi 0,vi 0,vi 0,vr 11,Value.bool false,vi 181,vr 12,vn,vn,vn,vn,vi 185,vi 1,vs "/claim/cut.py" 186]) #[])::
 (ob (vt "frame") none Data.plain #[some (vr 13),some (vr 3),some (vr 3),none,some (vs "__main__" 164),none,some (vr 0)])::
 (ob (vt "tuple") none (Data.seq #[]) #[])::
 (ob vn none (Data.fields #[]) #[])::
 (ob (vt "tuple") none (Data.seq #[vs "k" 190]) #[])::
 (ob (vt "tuple") none (Data.seq #[]) #[])::
 (od "_wall" "_wall" (top 0))::
 (oc "_wall" "_wall" 187 188 189 1 1 3 15 181 16 17 18 19 191 1 192)::
 (of "_wall" "_wall" (top 0) "__main__" 164 20)::
 (ob (vt "tuple") none (Data.seq #[vt "ValueError"]) #[])::
 (ob (vt "builtin_function_or_method") none (Data.fields #[Value.builtin "type.__prepare__",vt "type"]) #[])::
 (ob (vt "dict") none (Data.dict #[dx P "__module__" 203 (vs "hastebook.errors" 194),dx P "__qualname__" 205 (vs "BookError" 204),dx P "__firstlineno__" 207 (Value.int 5 206),dx P "__static_attributes__" 208 (vr 29)] 4) #[])::
 (ob (vt "tuple") none (Data.seq #[]) #[])::
 (ob vn none (Data.fields #[]) #[])::
 (ob (vt "code") none (Data.fields #[vs "BookError" 198,vs "BookError" 199,vs "/claim/cut.py" 200,vi 5,vi 0,vi 0,vi 0,vi 0,vr 25,Value.bool false,vi 181,vr 26,vn,vn,vn,vn,vi 201,vi 5,vs "/claim/cut.py" 202]) #[])::
 (ob (vt "frame") none Data.plain #[some (vr 27),some (vr 3),some (vr 24),none,some (vs "hastebook.errors" 194),none,some (vr 0)])::
 (ob (vt "tuple") none (Data.seq #[]) #[])::
 (ob (vt "dict") none (Data.dict #[dx P "__module__" 203 (vs "hastebook.errors" 194),dx P "__firstlineno__" 207 (Value.int 5 206),dx P "__static_attributes__" 208 (vr 29),dx P "__weakref__" 210 (vr 32),dx P "__doc__" 211 vn] 3) #[])::
 (ob (vt "type") none (Data.cls (PySem.ClassData.mk (so "BookError") [vt "ValueError"] [vr 31,vt "ValueError",vt "Exception",vt "BaseException",vt "object"] 30 (so "BookError") true [] [vr 44,vr 56,vr 68,vr 80,vr 92] false none false)) #[some (vr 22),none,some (vs "BookError" 196),some (vs "BookError" 204),some (Value.builtin "ValueError.__new__"),some (vb)])::
 (ob (vt "getset_descriptor") none (Data.fields #[vs "__weakref__" 209,vr 31,Value.builtin "ExceptionGroup.__weakref__",vn]) #[])::
 (ob (vt "super") none (Data.fields #[vr 31,vr 31,vr 31]) #[])::
 (ob (vt "builtin_function_or_method") none (Data.fields #[Value.builtin "object.__init_subclass__",vr 31]) #[])::
 (ob (vt "tuple") none (Data.seq #[vr 31]) #[])::
 (ob (vt "builtin_function_or_method") none (Data.fields #[Value.builtin "type.__prepare__",vt "type"]) #[])::
 (ob (vt "dict") none (Data.dict #[dx P "__module__" 221 (vs "hastebook.errors" 194),dx P "__qualname__" 223 (vs "NoOrder" 222),dx P "__firstlineno__" 225 (Value.int 7 224),dx P "__static_attributes__" 226 (vr 42)] 4) #[])::
 (ob (vt "tuple") none (Data.seq #[]) #[])::
 (ob vn none (Data.fields #[]) #[])::
 (ob (vt "code") none (Data.fields #[vs "NoOrder" 216,vs "NoOrder" 217,vs "/claim/cut.py" 218,vi 7,vi 0,vi 0,vi 0,vi 0,vr 38,Value.bool false,vi 181,vr 39,vn,vn,vn,vn,vi 219,vi 7,vs "/claim/cut.py" 220]) #[])::
 (ob (vt "frame") none Data.plain #[some (vr 40),some (vr 3),some (vr 37),none,some (vs "hastebook.errors" 194),none,some (vr 0)])::
 (ob (vt "tuple") none (Data.seq #[]) #[])::
 (ob (vt "dict") none (Data.dict #[dx P "__module__" 221 (vs "hastebook.errors" 194),dx P "__firstlineno__" 225 (Value.int 7 224),dx P "__static_attributes__" 226 (vr 42),dx P "__doc__" 227 vn] 2) #[])::
 (ob (vt "type") none (Data.cls (PySem.ClassData.mk (so "NoOrder") [vr 31] [vr 44,vr 31,vt "ValueError",vt "Exception",vt "BaseException",vt "object"] 43 (so "NoOrder") true [] [] false none false)) #[some (vr 35),none,some (vs "NoOrder" 214),some (vs "NoOrder" 222),some (Value.builtin "ValueError.__new__"),some (vb)])::
 (ob (vt "super") none (Data.fields #[vr 44,vr 44,vr 44]) #[])::
 (ob (vt "builtin_function_or_method") none (Data.fields #[Value.builtin "object.__init_subclass__",vr 44]) #[])::
 (ob (vt "tuple") none (Data.seq #[vr 31]) #[])::
 (ob (vt "builtin_function_or_method") none (Data.fields #[Value.builtin "type.__prepare__",vt "type"]) #[])::
 (ob (vt "dict") none (Data.dict #[dx P "__module__" 237 (vs "hastebook.errors" 194),dx P "__qualname__" 239 (vs "NoRoom" 238),dx P "__firstlineno__" 241 (Value.int 9 240),dx P "__static_attributes__" 242 (vr 54)] 4) #[])::
 (ob (vt "tuple") none (Data.seq #[]) #[])::
 (ob vn none (Data.fields #[]) #[])::
 (ob (vt "code") none (Data.fields #[vs "NoRoom" 232,vs "NoRoom" 233,vs "/claim/cut.py" 234,vi 9,vi 0,vi 0,vi 0,vi 0,vr 50,Value.bool false,vi 181,vr 51,vn,vn,vn,vn,vi 235,vi 9,vs "/claim/cut.py" 236]) #[])::
 (ob (vt "frame") none Data.plain #[some (vr 52),some (vr 3),some (vr 49),none,some (vs "hastebook.errors" 194),none,some (vr 0)])::
 (ob (vt "tuple") none (Data.seq #[]) #[])::
 (ob (vt "dict") none (Data.dict #[dx P "__module__" 237 (vs "hastebook.errors" 194),dx P "__firstlineno__" 241 (Value.int 9 240),dx P "__static_attributes__" 242 (vr 54),dx P "__doc__" 243 vn] 2) #[])::
 (ob (vt "type") none (Data.cls (PySem.ClassData.mk (so "NoRoom") [vr 31] [vr 56,vr 31,vt "ValueError",vt "Exception",vt "BaseException",vt "object"] 55 (so "NoRoom") true [] [] false none false)) #[some (vr 47),none,some (vs "NoRoom" 230),some (vs "NoRoom" 238),some (Value.builtin "ValueError.__new__"),some (vb)])::
 (ob (vt "super") none (Data.fields #[vr 56,vr 56,vr 56]) #[])::
 (ob (vt "builtin_function_or_method") none (Data.fields #[Value.builtin "object.__init_subclass__",vr 56]) #[])::
 (ob (vt "tuple") none (Data.seq #[vr 31]) #[])::
 (ob (vt "builtin_function_or_method") none (Data.fields #[Value.builtin "type.__prepare__",vt "type"]) #[])::
 (ob (vt "dict") none (Data.dict #[dx P "__module__" 253 (vs "hastebook.errors" 194),dx P "__qualname__" 255 (vs "NoRow" 254),dx P "__firstlineno__" 257 (Value.int 11 256),dx P "__static_attributes__" 258 (vr 66)] 4) #[])::
 (ob (vt "tuple") none (Data.seq #[]) #[])::
 (ob vn none (Data.fields #[]) #[])::
 (ob (vt "code") none (Data.fields #[vs "NoRow" 248,vs "NoRow" 249,vs "/claim/cut.py" 250,vi 11,vi 0,vi 0,vi 0,vi 0,vr 62,Value.bool false,vi 181,vr 63,vn,vn,vn,vn,vi 251,vi 11,vs "/claim/cut.py" 252]) #[])::
 (ob (vt "frame") none Data.plain #[some (vr 64),some (vr 3),some (vr 61),none,some (vs "hastebook.errors" 194),none,some (vr 0)])::
 (ob (vt "tuple") none (Data.seq #[]) #[])::
 (ob (vt "dict") none (Data.dict #[dx P "__module__" 253 (vs "hastebook.errors" 194),dx P "__firstlineno__" 257 (Value.int 11 256),dx P "__static_attributes__" 258 (vr 66),dx P "__doc__" 259 vn] 2) #[])::
 (ob (vt "type") none (Data.cls (PySem.ClassData.mk (so "NoRow") [vr 31] [vr 68,vr 31,vt "ValueError",vt "Exception",vt "BaseException",vt "object"] 67 (so "NoRow") true [] [] false none false)) #[some (vr 59),none,some (vs "NoRow" 246),some (vs "NoRow" 254),some (Value.builtin "ValueError.__new__"),some (vb)])::
 (ob (vt "super") none (Data.fields #[vr 68,vr 68,vr 68]) #[])::
 (ob (vt "builtin_function_or_method") none (Data.fields #[Value.builtin "object.__init_subclass__",vr 68]) #[])::
 (ob (vt "tuple") none (Data.seq #[vr 31]) #[])::
 (ob (vt "builtin_function_or_method") none (Data.fields #[Value.builtin "type.__prepare__",vt "type"]) #[])::
 (ob (vt "dict") none (Data.dict #[dx P "__module__" 269 (vs "hastebook.errors" 194),dx P "__qualname__" 271 (vs "NoName" 270),dx P "__firstlineno__" 273 (Value.int 13 272),dx P "__static_attributes__" 274 (vr 78)] 4) #[])::
 (ob (vt "tuple") none (Data.seq #[]) #[])::
 (ob vn none (Data.fields #[]) #[])::
 (ob (vt "code") none (Data.fields #[vs "NoName" 264,vs "NoName" 265,vs "/claim/cut.py" 266,vi 13,vi 0,vi 0,vi 0,vi 0,vr 74,Value.bool false,vi 181,vr 75,vn,vn,vn,vn,vi 267,vi 13,vs "/claim/cut.py" 268]) #[])::
 (ob (vt "frame") none Data.plain #[some (vr 76),some (vr 3),some (vr 73),none,some (vs "hastebook.errors" 194),none,some (vr 0)])::
 (ob (vt "tuple") none (Data.seq #[]) #[])::
 (ob (vt "dict") none (Data.dict #[dx P "__module__" 269 (vs "hastebook.errors" 194),dx P "__firstlineno__" 273 (Value.int 13 272),dx P "__static_attributes__" 274 (vr 78),dx P "__doc__" 275 vn] 2) #[])::
 (ob (vt "type") none (Data.cls (PySem.ClassData.mk (so "NoName") [vr 31] [vr 80,vr 31,vt "ValueError",vt "Exception",vt "BaseException",vt "object"] 79 (so "NoName") true [] [] false none false)) #[some (vr 71),none,some (vs "NoName" 262),some (vs "NoName" 270),some (Value.builtin "ValueError.__new__"),some (vb)])::
 (ob (vt "super") none (Data.fields #[vr 80,vr 80,vr 80]) #[])::
 (ob (vt "builtin_function_or_method") none (Data.fields #[Value.builtin "object.__init_subclass__",vr 80]) #[])::
 (ob (vt "tuple") none (Data.seq #[vr 31]) #[])::
 (ob (vt "builtin_function_or_method") none (Data.fields #[Value.builtin "type.__prepare__",vt "type"]) #[])::
 (ob (vt "dict") none (Data.dict #[dx P "__module__" 285 (vs "hastebook.errors" 194),dx P "__qualname__" 287 (vs "NoText" 286),dx P "__firstlineno__" 289 (Value.int 15 288),dx P "__static_attributes__" 290 (vr 90)] 4) #[])::
 (ob (vt "tuple") none (Data.seq #[]) #[])::
 (ob vn none (Data.fields #[]) #[])::
 (ob (vt "code") none (Data.fields #[vs "NoText" 280,vs "NoText" 281,vs "/claim/cut.py" 282,vi 15,vi 0,vi 0,vi 0,vi 0,vr 86,Value.bool false,vi 181,vr 87,vn,vn,vn,vn,vi 283,vi 15,vs "/claim/cut.py" 284]) #[])::
 (ob (vt "frame") none Data.plain #[some (vr 88),some (vr 3),some (vr 85),none,some (vs "hastebook.errors" 194),none,some (vr 0)])::
 (ob (vt "tuple") none (Data.seq #[]) #[])::
 (ob (vt "dict") none (Data.dict #[dx P "__module__" 285 (vs "hastebook.errors" 194),dx P "__firstlineno__" 289 (Value.int 15 288),dx P "__static_attributes__" 290 (vr 90),dx P "__doc__" 291 vn] 2) #[])::
 (ob (vt "type") none (Data.cls (PySem.ClassData.mk (so "NoText") [vr 31] [vr 92,vr 31,vt "ValueError",vt "Exception",vt "BaseException",vt "object"] 91 (so "NoText") true [] [] false none false)) #[some (vr 83),none,some (vs "NoText" 278),some (vs "NoText" 286),some (Value.builtin "ValueError.__new__"),some (vb)])::
 (ob (vt "super") none (Data.fields #[vr 92,vr 92,vr 92]) #[])::
 (ob (vt "builtin_function_or_method") none (Data.fields #[Value.builtin "object.__init_subclass__",vr 92]) #[])::
 (ob (vt "tuple") none (Data.seq #[]) #[])::
 (ob vn none (Data.fields #[]) #[])::
 (ob (vt "tuple") none (Data.seq #[vs "many" 299,vs "needs" 300,vs "needed" 301,vs "order" 302]) #[])::
 (ob (vt "tuple") none (Data.seq #[]) #[])::
 (od "order_of" "order_of" (top 9))::
 (oc "order_of" "order_of" 296 297 298 18 2 3 95 181 96 97 98 99 303 18 304)::
 (of "order_of" "order_of" (top 9) "hastebook.needs" 294 100)::
 (ob (vt "tuple") none (Data.seq #[]) #[])::
 (ob vn none (Data.fields #[]) #[])::
 (ob (vt "tuple") none (Data.seq #[vs "many" 309,vs "number" 310]) #[])::
 (ob (vt "tuple") none (Data.seq #[]) #[])::
 (od "is_work" "is_work" (top 10))::
 (oc "is_work" "is_work" 306 307 308 24 2 3 102 181 103 104 105 106 311 24 312)::
 (of "is_work" "is_work" (top 10) "hastebook.needs" 294 107)::
 (ob (vt "tuple") none (Data.seq #[]) #[])::
 (ob vn none (Data.fields #[]) #[])::
 (od "needed_works" "needed_works" (top 11))::
 (ob (vt "code") none (Data.fields #[vs "needed_works" 314,vs "needed_works" 315,vs "/claim/cut.py" 316,vi 26,vi 2,vi 0,vi 0,vi 3,vr 109,vb,vi 181,vr 110,vn,vn,vn,vr 111,vi 317,vi 26,vs "/claim/cut.py" 318]) #[])::
 (of "needed_works" "needed_works" (top 11) "hastebook.needs" 294 112)::
 (ob (vt "tuple") none (Data.seq #[]) #[])::
 (ob vn none (Data.fields #[]) #[])::
 (od "least_ready" "least_ready" (top 12))::
 (ob (vt "code") none (Data.fields #[vs "least_ready" 320,vs "least_ready" 321,vs "/claim/cut.py" 322,vi 34,vi 2,vi 0,vi 0,vi 3,vr 114,vb,vi 181,vr 115,vn,vn,vn,vr 116,vi 323,vi 34,vs "/claim/cut.py" 324]) #[])::
 (of "least_ready" "least_ready" (top 12) "hastebook.needs" 294 117)::
 (ob (vt "tuple") none (Data.seq #[]) #[])::
 (ob vn none (Data.fields #[]) #[])::
 (od "earliest" "earliest" (top 14))::
 (ob (vt "code") none (Data.fields #[vs "earliest" 328,vs "earliest" 329,vs "/claim/cut.py" 330,vi 40,vi 2,vi 0,vi 0,vi 3,vr 119,vb,vi 181,vr 120,vn,vn,vn,vr 121,vi 331,vi 40,vs "/claim/cut.py" 332]) #[])::
 (of "earliest" "earliest" (top 14) "hastebook.moments" 326 122)::
 (ob (vt "tuple") none (Data.seq #[]) #[])::
 (ob vn none (Data.fields #[]) #[])::
 (ob (vt "tuple") none (Data.seq #[vs "hours" 337,vs "needs" 338]) #[])::
 (ob (vt "tuple") none (Data.seq #[]) #[])::
 (od "length" "length" (top 15))::
 (oc "length" "length" 334 335 336 47 2 3 124 181 125 126 127 128 339 47 340)::
 (of "length" "length" (top 15) "hastebook.moments" 326 129)::
 (ob (vt "tuple") none (Data.seq #[]) #[])::
 (ob vn none (Data.fields #[]) #[])::
 (od "latest" "latest" (top 16))::
 (ob (vt "code") none (Data.fields #[vs "latest" 342,vs "latest" 343,vs "/claim/cut.py" 344,vi 49,vi 3,vi 0,vi 0,vi 3,vr 131,vb,vi 181,vr 132,vn,vn,vn,vr 133,vi 345,vi 49,vs "/claim/cut.py" 346]) #[])::
 (of "latest" "latest" (top 16) "hastebook.moments" 326 134)::
 (ob (vt "tuple") none (Data.seq #[]) #[])::
 (ob vn none (Data.fields #[]) #[])::
 (od "spare" "spare" (top 17))::
 (ob (vt "code") none (Data.fields #[vs "spare" 348,vs "spare" 349,vs "/claim/cut.py" 350,vi 61,vi 3,vi 0,vi 0,vi 3,vr 136,vb,vi 181,vr 137,vn,vn,vn,vr 138,vi 351,vi 61,vs "/claim/cut.py" 352]) #[])::
 (of "spare" "spare" (top 17) "hastebook.moments" 326 139)::
 (ob (vt "tuple") none (Data.seq #[]) #[])::
 (ob vn none (Data.fields #[]) #[])::
 (ob (vt "tuple") none (Data.seq #[vs "hours" 357,vs "needs" 358,vs "begins" 359,vs "needed" 360,vs "done" 361,vs "way" 362]) #[])::
 (ob (vt "tuple") none (Data.seq #[]) #[])::
 (od "longest" "longest" (top 18))::
 (oc "longest" "longest" 354 355 356 65 2 3 141 181 142 143 144 145 363 65 364)::
 (of "longest" "longest" (top 18) "hastebook.moments" 326 146)::
 (ob (vt "tuple") none (Data.seq #[]) #[])::
 (ob vn none (Data.fields #[]) #[])::
 (od "done_moments" "done_moments" (top 19))::
 (ob (vt "code") none (Data.fields #[vs "done_moments" 366,vs "done_moments" 367,vs "/claim/cut.py" 368,vi 75,vi 2,vi 0,vi 0,vi 3,vr 148,vb,vi 181,vr 149,vn,vn,vn,vr 150,vi 369,vi 75,vs "/claim/cut.py" 370]) #[])::
 (of "done_moments" "done_moments" (top 19) "hastebook.moments" 326 151)::
 (ob (vt "tuple") none (Data.seq #[]) #[])::
 (ob vn none (Data.fields #[]) #[])::
 (od "holding_up" "holding_up" (top 20))::
 (ob (vt "code") none (Data.fields #[vs "holding_up" 372,vs "holding_up" 373,vs "/claim/cut.py" 374,vi 77,vi 3,vi 0,vi 0,vi 3,vr 153,vb,vi 181,vr 154,vn,vn,vn,vr 155,vi 375,vi 77,vs "/claim/cut.py" 376]) #[])::
 (of "holding_up" "holding_up" (top 20) "hastebook.moments" 326 156)::
 (ob (vt "tuple") none (Data.seq #[]) #[])::
 (ob (vt "builtin_function_or_method") none (Data.fields #[Value.builtin "type.__prepare__",vt "type"]) #[])::
 (ob (vt "dict") none (Data.dict #[dx P "__module__" 391 (vs "hastebook.nets" 378),dx P "__qualname__" 393 (vs "Pipe" 392),dx P "__firstlineno__" 395 (Value.int 82 394),dx P "__init__" 406 (vr 171),dx P "__static_attributes__" 412 (vr 172)] 5) #[])::
 (ob (vt "tuple") none (Data.seq #[]) #[])::
 (ob vn none (Data.fields #[vi 84,vi 4,vr 170]) #[])::
 (ob (vt "code") none (Data.fields #[vs "Pipe" 386,vs "Pipe" 387,vs "/claim/cut.py" 388,vi 82,vi 0,vi 0,vi 0,vi 0,vr 161,Value.bool false,vi 181,vr 162,vn,vn,vn,vn,vi 389,vi 82,vs "/claim/cut.py" 390]) #[])::
 (ob (vt "frame") none Data.plain #[some (vr 163),some (vr 3),some (vr 160),none,some (vs "hastebook.nets" 378),none,some (vr 0)])::
 (ob (vt "tuple") none (Data.seq #[]) #[])::
 (ob vn none (Data.fields #[]) #[])::
 (ob (vt "tuple") none (Data.seq #[vs "self" 399,vs "tail" 400,vs "head" 401,vs "hours" 402,vs "room" 403]) #[])::
 (ob (vt "tuple") none (Data.seq #[]) #[])::
 (od "__init__" "Pipe.__init__" (inClass (top 24) 0))::
 (oc "__init__" "Pipe.__init__" 396 397 398 84 5 3 165 181 166 167 168 169 404 84 405)::
 (of "__init__" "Pipe.__init__" (inClass (top 24) 0) "hastebook.nets" 378 170)::
 (ob (vt "tuple") none (Data.seq #[vs "back" 407,vs "head" 408,vs "hours" 409,vs "room" 410,vs "tail" 411]) #[])::
 (ob (vt "dict") none (Data.dict #[dx P "__module__" 391 (vs "hastebook.nets" 378),dx P "__firstlineno__" 395 (Value.int 82 394),dx P "__init__" 406 (vr 171),dx P "__static_attributes__" 412 (vr 172),dx P "__dict__" 414 (vr 175),dx P "__weakref__" 416 (vr 176),dx P "__doc__" 417 vn] 4) #[])::
 (ob (vt "type") none (Data.cls (PySem.ClassData.mk (so "Pipe") [vt "object"] [vr 174,vt "object"] 173 (so "Pipe") true [] [] false none false)) #[none,none,some (vs "Pipe" 384),some (vs "Pipe" 392),some (Value.builtin "object.__new__"),some (vb)])::
 (ob (vt "getset_descriptor") none (Data.fields #[vs "__dict__" 413,vr 174,Value.builtin "function.__dict__",Value.builtin "function.__dict__#set"]) #[])::
 (ob (vt "getset_descriptor") none (Data.fields #[vs "__weakref__" 415,vr 174,Value.builtin "ExceptionGroup.__weakref__",vn]) #[])::
 (ob (vt "super") none (Data.fields #[vr 174,vr 174,vr 174]) #[])::
 (ob (vt "builtin_function_or_method") none (Data.fields #[Value.builtin "object.__init_subclass__",vr 174]) #[])::
 (ob (vt "tuple") none (Data.seq #[]) #[])::
 (ob (vt "builtin_function_or_method") none (Data.fields #[Value.builtin "type.__prepare__",vt "type"]) #[])::
 (ob (vt "dict") none (Data.dict #[dx P "__module__" 427 (vs "hastebook.nets" 378),dx P "__qualname__" 429 (vs "Net" 428),dx P "__firstlineno__" 431 (Value.int 90 430),dx P "__init__" 438 (vr 191),dx P "lay" 451 (vr 198),dx P "fill" 461 (vr 205),dx P "lead" 469 (vr 212),dx P "moments" 475 (vr 217),dx P "open_length" 482 (vr 224),dx P "open_pipes" 488 (vr 229),dx P "amount" 494 (vr 234),dx P "stream" 506 (vr 241),dx P "__static_attributes__" 509 (vr 242)] 13) #[])::
 (ob (vt "tuple") none (Data.seq #[]) #[])::
 (ob vn none (Data.fields #[vi 92,vi 4,vr 190,vi 105,vi 4,vr 197,vi 112,vi 4,vr 204,vi 119,vi 4,vr 211,vi 122,vi 4,vr 216,vi 130,vi 4,vr 223,vi 133,vi 4,vr 228,vi 137,vi 4,vr 233,vi 140,vi 4,vr 240]) #[])::
 (ob (vt "code") none (Data.fields #[vs "Net" 422,vs "Net" 423,vs "/claim/cut.py" 424,vi 90,vi 0,vi 0,vi 0,vi 0,vr 182,Value.bool false,vi 181,vr 183,vn,vn,vn,vn,vi 425,vi 90,vs "/claim/cut.py" 426]) #[])::
 (ob (vt "frame") none Data.plain #[some (vr 184),some (vr 3),some (vr 181),none,some (vs "hastebook.nets" 378),none,some (vr 0)])::
 (ob (vt "tuple") none (Data.seq #[Value.int 0 432]) #[])::
 (ob (vt "tuple") none (Data.seq #[]) #[])::
 (ob vn none (Data.fields #[]) #[])::
 (od "__init__" "Net.__init__" (inClass (top 25) 0))::
 (ob (vt "code") none (Data.fields #[vs "__init__" 433,vs "Net.__init__" 434,vs "/claim/cut.py" 435,vi 92,vi 4,vi 0,vi 0,vi 3,vr 187,vb,vi 181,vr 188,vn,vn,vn,vr 189,vi 436,vi 92,vs "/claim/cut.py" 437]) #[])::
 (ob (vt "function") (none) (Data.func (cG "__init__" "Net.__init__" (jJ (inClass (top 25) 0)) (iQ (inClass (top 25) 0)) (gF (inClass (top 25) 0)) (vr 186) (vn) (vn) (vs "hastebook.nets" 378) (none) (vr 190) (vn))) (#[]))::
 (ob (vt "tuple") none (Data.seq #[]) #[])::
 (ob vn none (Data.fields #[]) #[])::
 (ob (vt "tuple") none (Data.seq #[vs "self" 442,vs "tail" 443,vs "head" 444,vs "hours" 445,vs "room" 446,vs "pipe" 447,vs "back" 448]) #[])::
 (ob (vt "tuple") none (Data.seq #[]) #[])::
 (od "lay" "Net.lay" (inClass (top 25) 1))::
 (oc "lay" "Net.lay" 439 440 441 105 5 3 192 181 193 194 195 196 449 105 450)::
 (of "lay" "Net.lay" (inClass (top 25) 1) "hastebook.nets" 378 197)::
 (ob (vt "tuple") none (Data.seq #[]) #[])::
 (ob vn none (Data.fields #[]) #[])::
 (ob (vt "tuple") none (Data.seq #[vs "self" 455,vs "end" 456,vs "moments" 457,vs "route" 458]) #[])::
 (ob (vt "tuple") none (Data.seq #[]) #[])::
 (od "fill" "Net.fill" (inClass (top 25) 2))::
 (oc "fill" "Net.fill" 452 453 454 112 2 3 199 181 200 201 202 203 459 112 460)::
 (of "fill" "Net.fill" (inClass (top 25) 2) "hastebook.nets" 378 204)::
 (ob (vt "tuple") none (Data.seq #[]) #[])::
 (ob vn none (Data.fields #[]) #[])::
 (ob (vt "tuple") none (Data.seq #[vs "self" 465,vs "amount" 466]) #[])::
 (ob (vt "tuple") none (Data.seq #[]) #[])::
 (od "lead" "Net.lead" (inClass (top 25) 3))::
 (oc "lead" "Net.lead" 462 463 464 119 2 3 206 181 207 208 209 210 467 119 468)::
 (of "lead" "Net.lead" (inClass (top 25) 3) "hastebook.nets" 378 211)::
 (ob (vt "tuple") none (Data.seq #[]) #[])::
 (ob vn none (Data.fields #[]) #[])::
 (od "moments" "Net.moments" (inClass (top 25) 4))::
 (ob (vt "code") none (Data.fields #[vs "moments" 470,vs "Net.moments" 471,vs "/claim/cut.py" 472,vi 122,vi 2,vi 0,vi 0,vi 3,vr 213,vb,vi 181,vr 214,vn,vn,vn,vr 215,vi 473,vi 122,vs "/claim/cut.py" 474]) #[])::
 (of "moments" "Net.moments" (inClass (top 25) 4) "hastebook.nets" 378 216)::
 (ob (vt "tuple") none (Data.seq #[]) #[])::
 (ob vn none (Data.fields #[]) #[])::
 (ob (vt "tuple") none (Data.seq #[vs "self" 479]) #[])::
 (ob (vt "tuple") none (Data.seq #[]) #[])::
 (od "open_length" "Net.open_length" (inClass (top 25) 5))::
 (oc "open_length" "Net.open_length" 476 477 478 130 1 3 218 181 219 220 221 222 480 130 481)::
 (of "open_length" "Net.open_length" (inClass (top 25) 5) "hastebook.nets" 378 223)::
 (ob (vt "tuple") none (Data.seq #[]) #[])::
 (ob vn none (Data.fields #[]) #[])::
 (od "open_pipes" "Net.open_pipes" (inClass (top 25) 6))::
 (ob (vt "code") none (Data.fields #[vs "open_pipes" 483,vs "Net.open_pipes" 484,vs "/claim/cut.py" 485,vi 133,vi 1,vi 0,vi 0,vi 3,vr 225,vb,vi 181,vr 226,vn,vn,vn,vr 227,vi 486,vi 133,vs "/claim/cut.py" 487]) #[])::
 (of "open_pipes" "Net.open_pipes" (inClass (top 25) 6) "hastebook.nets" 378 228)::
 (ob (vt "tuple") none (Data.seq #[]) #[])::
 (ob vn none (Data.fields #[]) #[])::
 (od "amount" "Net.amount" (inClass (top 25) 7))::
 (ob (vt "code") none (Data.fields #[vs "amount" 489,vs "Net.amount" 490,vs "/claim/cut.py" 491,vi 137,vi 1,vi 0,vi 0,vi 3,vr 230,vb,vi 181,vr 231,vn,vn,vn,vr 232,vi 492,vi 137,vs "/claim/cut.py" 493]) #[])::
 (of "amount" "Net.amount" (inClass (top 25) 7) "hastebook.nets" 378 233)::
 (ob (vt "tuple") none (Data.seq #[]) #[])::
 (ob vn none (Data.fields #[]) #[])::
 (ob (vt "tuple") none (Data.seq #[vs "self" 498,vs "flows" 499,vs "pipe" 500,vs "step" 501,vs "rows" 502,vs "route" 503]) #[])::
 (ob (vt "tuple") none (Data.seq #[]) #[])::
 (od "stream" "Net.stream" (inClass (top 25) 8))::
 (oc "stream" "Net.stream" 495 496 497 140 1 3 235 181 236 237 238 239 504 140 505)::
 (of "stream" "Net.stream" (inClass (top 25) 8) "hastebook.nets" 378 240)::
 (ob (vt "tuple") none (Data.seq #[vs "pipes" 507,vs "places" 508]) #[])::
 (ob (vt "dict") none (Data.dict #[dx P "__module__" 427 (vs "hastebook.nets" 378),dx P "__firstlineno__" 431 (Value.int 90 430),dx P "__init__" 438 (vr 191),dx P "lay" 451 (vr 198),dx P "fill" 461 (vr 205),dx P "lead" 469 (vr 212),dx P "moments" 475 (vr 217),dx P "open_length" 482 (vr 224),dx P "open_pipes" 488 (vr 229),dx P "amount" 494 (vr 234),dx P "stream" 506 (vr 241),dx P "__static_attributes__" 509 (vr 242),dx P "__dict__" 511 (vr 245),dx P "__weakref__" 513 (vr 246),dx P "__doc__" 514 vn] 4) #[])::
 (ob (vt "type") none (Data.cls (PySem.ClassData.mk (so "Net") [vt "object"] [vr 244,vt "object"] 243 (so "Net") true [] [] false none false)) #[none,none,some (vs "Net" 420),some (vs "Net" 428),some (Value.builtin "object.__new__"),some (vb)])::
 (ob (vt "getset_descriptor") none (Data.fields #[vs "__dict__" 510,vr 244,Value.builtin "function.__dict__",Value.builtin "function.__dict__#set"]) #[])::
 (ob (vt "getset_descriptor") none (Data.fields #[vs "__weakref__" 512,vr 244,Value.builtin "ExceptionGroup.__weakref__",vn]) #[])::
 (ob (vt "super") none (Data.fields #[vr 244,vr 244,vr 244]) #[])::
 (ob (vt "builtin_function_or_method") none (Data.fields #[Value.builtin "object.__init_subclass__",vr 244]) #[])::
 (ob (vt "tuple") none (Data.seq #[]) #[])::
 (ob vn none (Data.fields #[]) #[])::
 (ob (vt "tuple") none (Data.seq #[vs "work" 520]) #[])::
 (ob (vt "tuple") none (Data.seq #[]) #[])::
 (od "begin_place" "begin_place" (top 26))::
 (oc "begin_place" "begin_place" 517 518 519 151 1 3 249 181 250 251 252 253 521 151 522)::
 (of "begin_place" "begin_place" (top 26) "hastebook.nets" 378 254)::
 (ob (vt "tuple") none (Data.seq #[]) #[])::
 (ob vn none (Data.fields #[]) #[])::
 (ob (vt "tuple") none (Data.seq #[vs "work" 527]) #[])::
 (ob (vt "tuple") none (Data.seq #[]) #[])::
 (od "done_place" "done_place" (top 27))::
 (oc "done_place" "done_place" 524 525 526 153 1 3 256 181 257 258 259 260 528 153 529)::
 (of "done_place" "done_place" (top 27) "hastebook.nets" 378 261)::
 (ob (vt "tuple") none (Data.seq #[]) #[])::
 (ob vn none (Data.fields #[]) #[])::
 (ob (vt "tuple") none (Data.seq #[vs "place" 534]) #[])::
 (ob (vt "tuple") none (Data.seq #[]) #[])::
 (od "work_at" "work_at" (top 28))::
 (oc "work_at" "work_at" 531 532 533 155 1 3 263 181 264 265 266 267 535 155 536)::
 (of "work_at" "work_at" (top 28) "hastebook.nets" 378 268)::
 (ob (vt "tuple") none (Data.seq #[]) #[])::
 (ob vn none (Data.fields #[]) #[])::
 (ob (vt "tuple") none (Data.seq #[vs "moments" 541,vs "pipes" 542,vs "raised" 543,vs "pipe" 544,vs "reached" 545]) #[])::
 (ob (vt "tuple") none (Data.seq #[]) #[])::
 (od "raise_moments" "raise_moments" (top 29))::
 (oc "raise_moments" "raise_moments" 538 539 540 157 2 3 270 181 271 272 273 274 546 157 547)::
 (of "raise_moments" "raise_moments" (top 29) "hastebook.nets" 378 275)::
 (ob (vt "tuple") none (Data.seq #[]) #[])::
 (ob vn none (Data.fields #[]) #[])::
 (od "tight_route" "tight_route" (top 30))::
 (ob (vt "code") none (Data.fields #[vs "tight_route" 549,vs "tight_route" 550,vs "/claim/cut.py" 551,vi 165,vi 2,vi 0,vi 0,vi 3,vr 277,vb,vi 181,vr 278,vn,vn,vn,vr 279,vi 552,vi 165,vs "/claim/cut.py" 553]) #[])::
 (of "tight_route" "tight_route" (top 30) "hastebook.nets" 378 280)::
 (ob (vt "tuple") none (Data.seq #[]) #[])::
 (ob vn none (Data.fields #[]) #[])::
 (ob (vt "tuple") none (Data.seq #[vs "routes" 558,vs "pipes" 559,vs "fresh" 560,vs "pipe" 561]) #[])::
 (ob (vt "tuple") none (Data.seq #[]) #[])::
 (od "next_routes" "next_routes" (top 31))::
 (oc "next_routes" "next_routes" 555 556 557 171 2 3 282 181 283 284 285 286 562 171 563)::
 (of "next_routes" "next_routes" (top 31) "hastebook.nets" 378 287)::
 (ob (vt "tuple") none (Data.seq #[]) #[])::
 (ob vn none (Data.fields #[]) #[])::
 (od "room_on" "room_on" (top 32))::
 (ob (vt "code") none (Data.fields #[vs "room_on" 565,vs "room_on" 566,vs "/claim/cut.py" 567,vi 177,vi 1,vi 0,vi 0,vi 3,vr 289,vb,vi 181,vr 290,vn,vn,vn,vr 291,vi 568,vi 177,vs "/claim/cut.py" 569]) #[])::
 (of "room_on" "room_on" (top 32) "hastebook.nets" 378 292)::
 (ob (vt "tuple") none (Data.seq #[]) #[])::
 (ob vn none (Data.fields #[]) #[])::
 (ob (vt "tuple") none (Data.seq #[vs "route" 574,vs "amount" 575,vs "pipe" 576]) #[])::
 (ob (vt "tuple") none (Data.seq #[]) #[])::
 (od "pour" "pour" (top 33))::
 (oc "pour" "pour" 571 572 573 179 2 3 294 181 295 296 297 298 577 179 578)::
 (of "pour" "pour" (top 33) "hastebook.nets" 378 299)::
 (ob (vt "tuple") none (Data.seq #[]) #[])::
 (ob vn none (Data.fields #[]) #[])::
 (ob (vt "tuple") none (Data.seq #[vs "flows" 583,vs "route" 584,vs "steps" 585]) #[])::
 (ob (vt "tuple") none (Data.seq #[]) #[])::
 (od "flowing_route" "flowing_route" (top 34))::
 (oc "flowing_route" "flowing_route" 580 581 582 183 1 3 301 181 302 303 304 305 586 183 587)::
 (of "flowing_route" "flowing_route" (top 34) "hastebook.nets" 378 306)::
 (ob (vt "tuple") none (Data.seq #[]) #[])::
 (ob vn none (Data.fields #[]) #[])::
 (od "steps_from" "steps_from" (top 35))::
 (ob (vt "code") none (Data.fields #[vs "steps_from" 589,vs "steps_from" 590,vs "/claim/cut.py" 591,vi 190,vi 2,vi 0,vi 0,vi 3,vr 308,vb,vi 181,vr 309,vn,vn,vn,vr 310,vi 592,vi 190,vs "/claim/cut.py" 593]) #[])::
 (of "steps_from" "steps_from" (top 35) "hastebook.nets" 378 311)::
 (ob (vt "tuple") none (Data.seq #[]) #[])::
 (ob vn none (Data.fields #[]) #[])::
 (od "take_out" "take_out" (top 36))::
 (ob (vt "code") none (Data.fields #[vs "take_out" 595,vs "take_out" 596,vs "/claim/cut.py" 597,vi 192,vi 2,vi 0,vi 0,vi 3,vr 313,vb,vi 181,vr 314,vn,vn,vn,vr 315,vi 598,vi 192,vs "/claim/cut.py" 599]) #[])::
 (of "take_out" "take_out" (top 36) "hastebook.nets" 378 316)::
 (ob (vt "tuple") none (Data.seq #[]) #[])::
 (ob vn none (Data.fields #[]) #[])::
 (od "works_on" "works_on" (top 38))::
 (ob (vt "code") none (Data.fields #[vs "works_on" 602,vs "works_on" 603,vs "/claim/cut.py" 604,vi 198,vi 1,vi 0,vi 0,vi 3,vr 318,vb,vi 181,vr 319,vn,vn,vn,vr 320,vi 605,vi 198,vs "/claim/cut.py" 606]) #[])::
 (of "works_on" "works_on" (top 38) "hastebook.nets" 378 321)::
 (ob (vt "tuple") none (Data.seq #[]) #[])::
 (ob vn none (Data.fields #[]) #[])::
 (ob (vt "tuple") none (Data.seq #[vs "works" 613,vs "needs" 614]) #[])::
 (ob (vt "tuple") none (Data.seq #[]) #[])::
 (od "least_end" "least_end" (top 40))::
 (oc "least_end" "least_end" 610 611 612 201 2 3 323 181 324 325 326 327 615 201 616)::
 (of "least_end" "least_end" (top 40) "hastebook.haste" 608 328)::
 (ob (vt "tuple") none (Data.seq #[]) #[])::
 (ob vn none (Data.fields #[]) #[])::
 (od "free_end" "free_end" (top 41))::
 (ob (vt "code") none (Data.fields #[vs "free_end" 618,vs "free_end" 619,vs "/claim/cut.py" 620,vi 203,vi 2,vi 0,vi 0,vi 3,vr 330,vb,vi 181,vr 331,vn,vn,vn,vr 332,vi 621,vi 203,vs "/claim/cut.py" 622]) #[])::
 (of "free_end" "free_end" (top 41) "hastebook.haste" 608 333)::
 (ob (vt "tuple") none (Data.seq #[]) #[])::
 (ob vn none (Data.fields #[]) #[])::
 (od "plan_at" "plan_at" (top 42))::
 (ob (vt "code") none (Data.fields #[vs "plan_at" 624,vs "plan_at" 625,vs "/claim/cut.py" 626,vi 205,vi 3,vi 0,vi 0,vi 3,vr 335,vb,vi 181,vr 336,vn,vn,vn,vr 337,vi 627,vi 205,vs "/claim/cut.py" 628]) #[])::
 (of "plan_at" "plan_at" (top 42) "hastebook.haste" 608 338)::
 (ob (vt "tuple") none (Data.seq #[]) #[])::
 (ob vn none (Data.fields #[]) #[])::
 (ob (vt "tuple") none (Data.seq #[vs "works" 633,vs "needs" 634,vs "end" 635]) #[])::
 (ob (vt "tuple") none (Data.seq #[]) #[])::
 (od "stream_at" "stream_at" (top 43))::
 (oc "stream_at" "stream_at" 630 631 632 210 3 3 340 181 341 342 343 344 636 210 637)::
 (of "stream_at" "stream_at" (top 43) "hastebook.haste" 608 345)::
 (ob (vt "tuple") none (Data.seq #[]) #[])::
 (ob vn none (Data.fields #[]) #[])::
 (ob (vt "tuple") none (Data.seq #[vs "works" 642,vs "needs" 643,vs "end" 644]) #[])::
 (ob (vt "tuple") none (Data.seq #[]) #[])::
 (od "too_long" "too_long" (top 44))::
 (oc "too_long" "too_long" 639 640 641 214 3 3 347 181 348 349 350 351 645 214 646)::
 (of "too_long" "too_long" (top 44) "hastebook.haste" 608 352)::
 (ob (vt "tuple") none (Data.seq #[]) #[])::
 (ob vn none (Data.fields #[]) #[])::
 (od "least_hours" "least_hours" (top 45))::
 (ob (vt "code") none (Data.fields #[vs "least_hours" 648,vs "least_hours" 649,vs "/claim/cut.py" 650,vi 218,vi 1,vi 0,vi 0,vi 3,vr 354,vb,vi 181,vr 355,vn,vn,vn,vr 356,vi 651,vi 218,vs "/claim/cut.py" 652]) #[])::
 (of "least_hours" "least_hours" (top 45) "hastebook.haste" 608 357)::
 (ob (vt "tuple") none (Data.seq #[]) #[])::
 (ob vn none (Data.fields #[]) #[])::
 (ob (vt "tuple") none (Data.seq #[vs "work" 657]) #[])::
 (ob (vt "tuple") none (Data.seq #[]) #[])::
 (od "free_hours" "free_hours" (top 46))::
 (oc "free_hours" "free_hours" 654 655 656 220 1 3 359 181 360 361 362 363 658 220 659)::
 (of "free_hours" "free_hours" (top 46) "hastebook.haste" 608 364)::
 (ob (vt "tuple") none (Data.seq #[]) #[])::
 (ob vn none (Data.fields #[]) #[])::
 (ob (vt "tuple") none (Data.seq #[vs "works" 664,vs "needs" 665,vs "end" 666,vs "net" 667]) #[])::
 (ob (vt "tuple") none (Data.seq #[]) #[])::
 (od "filled_net" "filled_net" (top 47))::
 (oc "filled_net" "filled_net" 661 662 663 222 3 3 366 181 367 368 369 370 668 222 669)::
 (of "filled_net" "filled_net" (top 47) "hastebook.haste" 608 371)::
 (ob (vt "tuple") none (Data.seq #[]) #[])::
 (ob vn none (Data.fields #[]) #[])::
 (ob (vt "tuple") none (Data.seq #[vs "number" 674,vs "work" 675,vs "moments" 676,vs "begin" 677]) #[])::
 (ob (vt "tuple") none (Data.seq #[]) #[])::
 (od "plan_row" "plan_row" (top 48))::
 (oc "plan_row" "plan_row" 671 672 673 226 3 3 373 181 374 375 376 377 678 226 679)::
 (of "plan_row" "plan_row" (top 48) "hastebook.haste" 608 378)::
 (ob (vt "tuple") none (Data.seq #[]) #[])::
 (ob vn none (Data.fields #[]) #[])::
 (od "through" "through" (top 50))::
 (ob (vt "code") none (Data.fields #[vs "through" 683,vs "through" 684,vs "/claim/cut.py" 685,vi 230,vi 2,vi 0,vi 0,vi 3,vr 380,vb,vi 181,vr 381,vn,vn,vn,vr 382,vi 686,vi 230,vs "/claim/cut.py" 687]) #[])::
 (of "through" "through" (top 50) "hastebook.streams" 681 383)::
 (ob (vt "tuple") none (Data.seq #[]) #[])::
 (ob vn none (Data.fields #[]) #[])::
 (od "worth" "worth" (top 51))::
 (ob (vt "code") none (Data.fields #[vs "worth" 689,vs "worth" 690,vs "/claim/cut.py" 691,vi 236,vi 3,vi 0,vi 0,vi 3,vr 385,vb,vi 181,vr 386,vn,vn,vn,vr 387,vi 692,vi 236,vs "/claim/cut.py" 693]) #[])::
 (of "worth" "worth" (top 51) "hastebook.streams" 681 388)::
 (ob (vt "tuple") none (Data.seq #[]) #[])::
 (ob vn none (Data.fields #[]) #[])::
 (ob (vt "tuple") none (Data.seq #[vs "work" 698,vs "amount" 699]) #[])::
 (ob (vt "tuple") none (Data.seq #[]) #[])::
 (od "work_worth" "work_worth" (top 52))::
 (oc "work_worth" "work_worth" 695 696 697 240 2 3 390 181 391 392 393 394 700 240 701)::
 (of "work_worth" "work_worth" (top 52) "hastebook.streams" 681 395)::
 (ob (vt "tuple") none (Data.seq #[]) #[])::
 (ob vn none (Data.fields #[]) #[])::
 (ob (vt "tuple") none (Data.seq #[vs "works" 708,vs "needs" 709,vs "last" 710,vs "end" 711,vs "price" 712,vs "found" 713,vs "net" 714,vs "sooner" 715]) #[])::
 (ob (vt "tuple") none (Data.seq #[]) #[])::
 (od "corners" "corners" (top 54))::
 (oc "corners" "corners" 705 706 707 245 2 3 397 181 398 399 400 401 716 245 717)::
 (of "corners" "corners" (top 54) "hastebook.curves" 703 402)::
 (ob (vt "tuple") none (Data.seq #[]) #[])::
 (ob vn none (Data.fields #[]) #[])::
 (ob (vt "tuple") none (Data.seq #[vs "works" 722,vs "needs" 723,vs "end" 724]) #[])::
 (ob (vt "tuple") none (Data.seq #[]) #[])::
 (od "price_at" "price_at" (top 55))::
 (oc "price_at" "price_at" 719 720 721 258 3 3 404 181 405 406 407 408 725 258 726)::
 (of "price_at" "price_at" (top 55) "hastebook.curves" 703 409)::
 (ob (vt "tuple") none (Data.seq #[]) #[])::
 (ob vn none (Data.fields #[]) #[])::
 (ob (vt "tuple") none (Data.seq #[vs "text" 741]) #[])::
 (ob (vt "tuple") none (Data.seq #[]) #[])::
 (od "read_count" "read_count" (top 61))::
 (oc "read_count" "read_count" 738 739 740 267 1 3 411 181 412 413 414 415 742 267 743)::
 (of "read_count" "read_count" (top 61) "hastebook.texts" 728 416)::
 (ob (vt "tuple") none (Data.seq #[]) #[])::
 (ob vn none (Data.fields #[]) #[])::
 (ob (vt "tuple") none (Data.seq #[vs "text" 748]) #[])::
 (ob (vt "tuple") none (Data.seq #[]) #[])::
 (od "is_name" "is_name" (top 62))::
 (oc "is_name" "is_name" 745 746 747 271 1 3 418 181 419 420 421 422 749 271 750)::
 (of "is_name" "is_name" (top 62) "hastebook.texts" 728 423)::
 (ob (vt "tuple") none (Data.seq #[]) #[])::
 (ob vn none (Data.fields #[]) #[])::
 (ob (vt "tuple") none (Data.seq #[vs "text" 755]) #[])::
 (ob (vt "tuple") none (Data.seq #[]) #[])::
 (od "is_count" "is_count" (top 63))::
 (oc "is_count" "is_count" 752 753 754 273 1 3 425 181 426 427 428 429 756 273 757)::
 (of "is_count" "is_count" (top 63) "hastebook.texts" 728 430)::
 (ob (vt "tuple") none (Data.seq #[]) #[])::
 (ob vn none (Data.fields #[]) #[])::
 (od "is_made_of" "is_made_of" (top 64))::
 (ob (vt "code") none (Data.fields #[vs "is_made_of" 759,vs "is_made_of" 760,vs "/claim/cut.py" 761,vi 277,vi 3,vi 0,vi 0,vi 3,vr 432,vb,vi 181,vr 433,vn,vn,vn,vr 434,vi 762,vi 277,vs "/claim/cut.py" 763]) #[])::
 (of "is_made_of" "is_made_of" (top 64) "hastebook.texts" 728 435)::
 (ob (vt "tuple") none (Data.seq #[]) #[])::
 (ob vn none (Data.fields #[]) #[])::
 (ob (vt "tuple") none (Data.seq #[vs "works" 770,vs "needs" 771,vs "budget" 772,vs "told" 773,vs "ahead" 774,vs "behind" 775]) #[])::
 (ob (vt "tuple") none (Data.seq #[]) #[])::
 (od "end_for" "end_for" (top 66))::
 (oc "end_for" "end_for" 767 768 769 280 3 3 437 181 438 439 440 441 776 280 777)::
 (of "end_for" "end_for" (top 66) "hastebook.wishes" 765 442)::
 (ob (vt "tuple") none (Data.seq #[]) #[])::
 (ob vn none (Data.fields #[]) #[])::
 (od "best_end" "best_end" (top 67))::
 (ob (vt "code") none (Data.fields #[vs "best_end" 779,vs "best_end" 780,vs "/claim/cut.py" 781,vi 286,vi 3,vi 0,vi 0,vi 3,vr 444,vb,vi 181,vr 445,vn,vn,vn,vr 446,vi 782,vi 286,vs "/claim/cut.py" 783]) #[])::
 (of "best_end" "best_end" (top 67) "hastebook.wishes" 765 447)::
 (ob (vt "tuple") none (Data.seq #[]) #[])::
 (ob vn none (Data.fields #[]) #[])::
 (ob (vt "tuple") none (Data.seq #[vs "works" 788,vs "needs" 789,vs "bonus" 790]) #[])::
 (ob (vt "tuple") none (Data.seq #[]) #[])::
 (od "best_sum" "best_sum" (top 68))::
 (oc "best_sum" "best_sum" 785 786 787 290 3 3 449 181 450 451 452 453 791 290 792)::
 (of "best_sum" "best_sum" (top 68) "hastebook.wishes" 765 454)::
 (ob (vt "tuple") none (Data.seq #[]) #[])::
 (ob vn none (Data.fields #[]) #[])::
 (ob (vt "tuple") none (Data.seq #[vs "ahead" 797,vs "behind" 798]) #[])::
 (ob (vt "tuple") none (Data.seq #[]) #[])::
 (od "step_between" "step_between" (top 69))::
 (oc "step_between" "step_between" 794 795 796 292 2 3 456 181 457 458 459 460 799 292 800)::
 (of "step_between" "step_between" (top 69) "hastebook.wishes" 765 461)::
 (ob (vt "tuple") none (Data.seq #[]) #[])::
 (ob vn none (Data.fields #[]) #[])::
 (od "least_sum" "least_sum" (top 70))::
 (ob (vt "code") none (Data.fields #[vs "least_sum" 802,vs "least_sum" 803,vs "/claim/cut.py" 804,vi 294,vi 2,vi 0,vi 0,vi 3,vr 463,vb,vi 181,vr 464,vn,vn,vn,vr 465,vi 805,vi 294,vs "/claim/cut.py" 806]) #[])::
 (of "least_sum" "least_sum" (top 70) "hastebook.wishes" 765 466)::
 (ob (vt "tuple") none (Data.seq #[]) #[])::
 (ob vn none (Data.fields #[]) #[])::
 (ob (vt "tuple") none (Data.seq #[vs "corner" 811,vs "bonus" 812]) #[])::
 (ob (vt "tuple") none (Data.seq #[]) #[])::
 (od "corner_sum" "corner_sum" (top 71))::
 (oc "corner_sum" "corner_sum" 808 809 810 296 2 3 468 181 469 470 471 472 813 296 814)::
 (of "corner_sum" "corner_sum" (top 71) "hastebook.wishes" 765 473)::
 (ob (vt "tuple") none (Data.seq #[]) #[])::
 (ob vn none (Data.fields #[]) #[])::
 (ob (vt "tuple") none (Data.seq #[vs "book" 827,vs "word" 828]) #[])::
 (ob (vt "tuple") none (Data.seq #[]) #[])::
 (od "any_name" "any_name" (top 76))::
 (oc "any_name" "any_name" 824 825 826 302 2 3 475 181 476 477 478 479 829 302 830)::
 (of "any_name" "any_name" (top 76) "hastebook.books" 816 480)::
 (ob (vt "tuple") none (Data.seq #[]) #[])::
 (ob vn none (Data.fields #[]) #[])::
 (ob (vt "tuple") none (Data.seq #[vs "book" 835,vs "word" 836]) #[])::
 (ob (vt "tuple") none (Data.seq #[]) #[])::
 (od "work_name" "work_name" (top 77))::
 (oc "work_name" "work_name" 832 833 834 306 2 3 482 181 483 484 485 486 837 306 838)::
 (of "work_name" "work_name" (top 77) "hastebook.books" 816 487)::
 (ob (vt "tuple") none (Data.seq #[]) #[])::
 (ob vn none (Data.fields #[]) #[])::
 (ob (vt "tuple") none (Data.seq #[vs "book" 843,vs "word" 844]) #[])::
 (ob (vt "tuple") none (Data.seq #[]) #[])::
 (od "any_number" "any_number" (top 78))::
 (oc "any_number" "any_number" 840 841 842 310 2 3 489 181 490 491 492 493 845 310 846)::
 (of "any_number" "any_number" (top 78) "hastebook.books" 816 494)::
 (ob (vt "tuple") none (Data.seq #[]) #[])::
 (ob vn none (Data.fields #[]) #[])::
 (ob (vt "tuple") none (Data.seq #[vs "book" 851,vs "given" 852,vs "name" 853,vs "work" 854]) #[])::
 (ob (vt "tuple") none (Data.seq #[]) #[])::
 (od "put_in" "put_in" (top 79))::
 (oc "put_in" "put_in" 848 849 850 312 2 3 496 181 497 498 499 500 855 312 856)::
 (of "put_in" "put_in" (top 79) "hastebook.books" 816 501)::
 (ob (vt "tuple") none (Data.seq #[]) #[])::
 (ob vn none (Data.fields #[]) #[])::
 (od "take_out" "take_out" (top 80))::
 (ob (vt "code") none (Data.fields #[vs "take_out" 858,vs "take_out" 859,vs "/claim/cut.py" 860,vi 321,vi 2,vi 0,vi 0,vi 3,vr 503,vb,vi 181,vr 504,vn,vn,vn,vr 505,vi 861,vi 321,vs "/claim/cut.py" 862]) #[])::
 (of "take_out" "take_out" (top 80) "hastebook.books" 816 506)::
 (ob (vt "tuple") none (Data.seq #[]) #[])::
 (ob vn none (Data.fields #[]) #[])::
 (ob (vt "tuple") none (Data.seq #[vs "book" 868,vs "given" 869,vs "needs" 870]) #[])::
 (ob (vt "tuple") none (Data.seq #[]) #[])::
 (od "add_need" "add_need" (top 82))::
 (oc "add_need" "add_need" 865 866 867 326 2 3 508 181 509 510 511 512 871 326 872)::
 (of "add_need" "add_need" (top 82) "hastebook.books" 816 513)::
 (ob (vt "tuple") none (Data.seq #[]) #[])::
 (ob vn none (Data.fields #[]) #[])::
 (od "free_need" "free_need" (top 83))::
 (ob (vt "code") none (Data.fields #[vs "free_need" 874,vs "free_need" 875,vs "/claim/cut.py" 876,vi 332,vi 2,vi 0,vi 0,vi 3,vr 515,vb,vi 181,vr 516,vn,vn,vn,vr 517,vi 877,vi 332,vs "/claim/cut.py" 878]) #[])::
 (of "free_need" "free_need" (top 83) "hastebook.books" 816 518)::
 (ob (vt "tuple") none (Data.seq #[]) #[])::
 (ob vn none (Data.fields #[]) #[])::
 (ob (vt "tuple") none (Data.seq #[vs "book" 883,vs "given" 884]) #[])::
 (ob (vt "tuple") none (Data.seq #[]) #[])::
 (od "tell_names" "tell_names" (top 84))::
 (oc "tell_names" "tell_names" 880 881 882 335 2 3 520 181 521 522 523 524 885 335 886)::
 (of "tell_names" "tell_names" (top 84) "hastebook.books" 816 525)::
 (ob (vt "tuple") none (Data.seq #[]) #[])::
 (ob vn none (Data.fields #[]) #[])::
 (od "tell_work" "tell_work" (top 85))::
 (ob (vt "code") none (Data.fields #[vs "tell_work" 888,vs "tell_work" 889,vs "/claim/cut.py" 890,vi 337,vi 2,vi 0,vi 0,vi 3,vr 527,vb,vi 181,vr 528,vn,vn,vn,vr 529,vi 891,vi 337,vs "/claim/cut.py" 892]) #[])::
 (of "tell_work" "tell_work" (top 85) "hastebook.books" 816 530)::
 (ob (vt "tuple") none (Data.seq #[]) #[])::
 (ob vn none (Data.fields #[]) #[])::
 (ob (vt "tuple") none (Data.seq #[vs "book" 897,vs "given" 898,vs "works" 899,vs "needs" 900]) #[])::
 (ob (vt "tuple") none (Data.seq #[]) #[])::
 (od "tell_ends" "tell_ends" (top 86))::
 (oc "tell_ends" "tell_ends" 894 895 896 340 2 3 532 181 533 534 535 536 901 340 902)::
 (of "tell_ends" "tell_ends" (top 86) "hastebook.books" 816 537)::
 (ob (vt "tuple") none (Data.seq #[]) #[])::
 (ob vn none (Data.fields #[]) #[])::
 (ob (vt "tuple") none (Data.seq #[vs "book" 907,vs "given" 908,vs "price" 909]) #[])::
 (ob (vt "tuple") none (Data.seq #[]) #[])::
 (od "tell_price" "tell_price" (top 87))::
 (oc "tell_price" "tell_price" 904 905 906 344 2 3 539 181 540 541 542 543 910 344 911)::
 (of "tell_price" "tell_price" (top 87) "hastebook.books" 816 544)::
 (ob (vt "tuple") none (Data.seq #[]) #[])::
 (ob vn none (Data.fields #[]) #[])::
 (od "tell_plan" "tell_plan" (top 88))::
 (ob (vt "code") none (Data.fields #[vs "tell_plan" 913,vs "tell_plan" 914,vs "/claim/cut.py" 915,vi 347,vi 2,vi 0,vi 0,vi 3,vr 546,vb,vi 181,vr 547,vn,vn,vn,vr 548,vi 916,vi 347,vs "/claim/cut.py" 917]) #[])::
 (of "tell_plan" "tell_plan" (top 88) "hastebook.books" 816 549)::
 (ob (vt "tuple") none (Data.seq #[]) #[])::
 (ob vn none (Data.fields #[]) #[])::
 (od "tell_why" "tell_why" (top 89))::
 (ob (vt "code") none (Data.fields #[vs "tell_why" 919,vs "tell_why" 920,vs "/claim/cut.py" 921,vi 352,vi 2,vi 0,vi 0,vi 3,vr 551,vb,vi 181,vr 552,vn,vn,vn,vr 553,vi 922,vi 352,vs "/claim/cut.py" 923]) #[])::
 (of "tell_why" "tell_why" (top 89) "hastebook.books" 816 554)::
 (ob (vt "tuple") none (Data.seq #[]) #[])::
 (ob vn none (Data.fields #[]) #[])::
 (ob (vt "tuple") none (Data.seq #[vs "book" 928,vs "given" 929]) #[])::
 (ob (vt "tuple") none (Data.seq #[]) #[])::
 (od "tell_curve" "tell_curve" (top 90))::
 (oc "tell_curve" "tell_curve" 925 926 927 359 2 3 556 181 557 558 559 560 930 359 931)::
 (of "tell_curve" "tell_curve" (top 90) "hastebook.books" 816 561)::
 (ob (vt "tuple") none (Data.seq #[]) #[])::
 (ob vn none (Data.fields #[]) #[])::
 (od "tell_spare" "tell_spare" (top 91))::
 (ob (vt "code") none (Data.fields #[vs "tell_spare" 933,vs "tell_spare" 934,vs "/claim/cut.py" 935,vi 361,vi 2,vi 0,vi 0,vi 3,vr 563,vb,vi 181,vr 564,vn,vn,vn,vr 565,vi 936,vi 361,vs "/claim/cut.py" 937]) #[])::
 (of "tell_spare" "tell_spare" (top 91) "hastebook.books" 816 566)::
 (ob (vt "tuple") none (Data.seq #[]) #[])::
 (ob vn none (Data.fields #[]) #[])::
 (ob (vt "tuple") none (Data.seq #[vs "book" 942,vs "given" 943]) #[])::
 (ob (vt "tuple") none (Data.seq #[]) #[])::
 (od "tell_budget" "tell_budget" (top 92))::
 (oc "tell_budget" "tell_budget" 939 940 941 367 2 3 568 181 569 570 571 572 944 367 945)::
 (of "tell_budget" "tell_budget" (top 92) "hastebook.books" 816 573)::
 (ob (vt "tuple") none (Data.seq #[]) #[])::
 (ob vn none (Data.fields #[]) #[])::
 (ob (vt "tuple") none (Data.seq #[vs "book" 950,vs "given" 951,vs "works" 952,vs "needs" 953]) #[])::
 (ob (vt "tuple") none (Data.seq #[]) #[])::
 (od "tell_bonus" "tell_bonus" (top 93))::
 (oc "tell_bonus" "tell_bonus" 947 948 949 369 2 3 575 181 576 577 578 579 954 369 955)::
 (of "tell_bonus" "tell_bonus" (top 93) "hastebook.books" 816 580)::
 (ob (vt "tuple") none (Data.seq #[]) #[])::
 (ob vn none (Data.fields #[]) #[])::
 (ob (vt "tuple") none (Data.seq #[vs "book" 960]) #[])::
 (ob (vt "tuple") none (Data.seq #[]) #[])::
 (od "works_of" "works_of" (top 94))::
 (oc "works_of" "works_of" 957 958 959 373 1 3 582 181 583 584 585 586 961 373 962)::
 (of "works_of" "works_of" (top 94) "hastebook.books" 816 587)::
 (ob (vt "tuple") none (Data.seq #[]) #[])::
 (ob vn none (Data.fields #[]) #[])::
 (ob (vt "tuple") none (Data.seq #[vs "book" 967]) #[])::
 (ob (vt "tuple") none (Data.seq #[]) #[])::
 (od "needs_of" "needs_of" (top 95))::
 (oc "needs_of" "needs_of" 964 965 966 375 1 3 589 181 590 591 592 593 968 375 969)::
 (of "needs_of" "needs_of" (top 95) "hastebook.books" 816 594)::
 (ob (vt "tuple") none (Data.seq #[]) #[])::
 (ob vn none (Data.fields #[]) #[])::
 (od "numbered" "numbered" (top 96))::
 (ob (vt "code") none (Data.fields #[vs "numbered" 971,vs "numbered" 972,vs "/claim/cut.py" 973,vi 377,vi 2,vi 0,vi 0,vi 3,vr 596,vb,vi 181,vr 597,vn,vn,vn,vr 598,vi 974,vi 377,vs "/claim/cut.py" 975]) #[])::
 (of "numbered" "numbered" (top 96) "hastebook.books" 816 599)::
 (ob (vt "tuple") none (Data.seq #[]) #[])::
 (ob vn none (Data.fields #[]) #[])::
 (od "named" "named" (top 97))::
 (ob (vt "code") none (Data.fields #[vs "named" 977,vs "named" 978,vs "/claim/cut.py" 979,vi 380,vi 2,vi 0,vi 0,vi 3,vr 601,vb,vi 181,vr 602,vn,vn,vn,vr 603,vi 980,vi 380,vs "/claim/cut.py" 981]) #[])::
 (of "named" "named" (top 97) "hastebook.books" 816 604)::
 (ob (vt "tuple") none (Data.seq #[]) #[])::
 (ob vn none (Data.fields #[]) #[])::
 (od "spaced" "spaced" (top 98))::
 (ob (vt "code") none (Data.fields #[vs "spaced" 983,vs "spaced" 984,vs "/claim/cut.py" 985,vi 383,vi 1,vi 0,vi 0,vi 3,vr 606,vb,vi 181,vr 607,vn,vn,vn,vr 608,vi 986,vi 383,vs "/claim/cut.py" 987]) #[])::
 (of "spaced" "spaced" (top 98) "hastebook.books" 816 609)::
 (ob (vt "tuple") none (Data.seq #[]) #[])::
 (ob vn none (Data.fields #[]) #[])::
 (od "parted" "parted" (top 99))::
 (ob (vt "code") none (Data.fields #[vs "parted" 989,vs "parted" 990,vs "/claim/cut.py" 991,vi 385,vi 1,vi 0,vi 0,vi 3,vr 611,vb,vi 181,vr 612,vn,vn,vn,vr 613,vi 992,vi 385,vs "/claim/cut.py" 993]) #[])::
 (of "parted" "parted" (top 99) "hastebook.books" 816 614)::
 (ob (vt "dict") none (Data.dict #[dx P "work" 995 (vr 617),dx P "need" 996 (vr 618),dx P "free" 997 (vr 619),dx P "drop" 998 (vr 620),dx P "names" 999 (vr 621),dx P "show" 1000 (vr 622),dx P "ends" 1001 (vr 623),dx P "price" 1002 (vr 624),dx P "plan" 1003 (vr 625),dx P "why" 1004 (vr 626),dx P "curve" 1005 (vr 627),dx P "spare" 1006 (vr 628),dx P "budget" 1007 (vr 629),dx P "bonus" 1008 (vr 630)] 14) #[])::
 (ob (vt "tuple") none (Data.seq #[vr 502,vr 481,vr 495,vr 495,vr 495]) #[])::
 (ob (vt "tuple") none (Data.seq #[vr 514,vr 488,vr 488]) #[])::
 (ob (vt "tuple") none (Data.seq #[vr 519,vr 488,vr 488]) #[])::
 (ob (vt "tuple") none (Data.seq #[vr 507,vr 488]) #[])::
 (ob (vt "tuple") none (Data.seq #[vr 526]) #[])::
 (ob (vt "tuple") none (Data.seq #[vr 531,vr 488]) #[])::
 (ob (vt "tuple") none (Data.seq #[vr 538]) #[])::
 (ob (vt "tuple") none (Data.seq #[vr 545,vr 495]) #[])::
 (ob (vt "tuple") none (Data.seq #[vr 550,vr 495]) #[])::
 (ob (vt "tuple") none (Data.seq #[vr 555,vr 495]) #[])::
 (ob (vt "tuple") none (Data.seq #[vr 562]) #[])::
 (ob (vt "tuple") none (Data.seq #[vr 567,vr 495]) #[])::
 (ob (vt "tuple") none (Data.seq #[vr 574,vr 495]) #[])::
 (ob (vt "tuple") none (Data.seq #[vr 581,vr 495]) #[])::
 (ob (vt "tuple") none (Data.seq #[]) #[])::
 (ob (vt "builtin_function_or_method") none (Data.fields #[Value.builtin "type.__prepare__",vt "type"]) #[])::
 (ob (vt "dict") none (Data.dict #[dx P "__module__" 1031 (vs "hastebook.books" 816),dx P "__qualname__" 1033 (vs "Book" 1032),dx P "__firstlineno__" 1035 (Value.int 388 1034),dx P "__init__" 1042 (vr 644),dx P "say" 1048 (vr 649),dx P "__static_attributes__" 1051 (vr 650)] 6) #[])::
 (ob (vt "tuple") none (Data.seq #[]) #[])::
 (ob vn none (Data.fields #[vi 390,vi 4,vr 643,vi 394,vi 4,vr 648]) #[])::
 (ob (vt "code") none (Data.fields #[vs "Book" 1026,vs "Book" 1027,vs "/claim/cut.py" 1028,vi 388,vi 0,vi 0,vi 0,vi 0,vr 634,Value.bool false,vi 181,vr 635,vn,vn,vn,vn,vi 1029,vi 388,vs "/claim/cut.py" 1030]) #[])::
 (ob (vt "frame") none Data.plain #[some (vr 636),some (vr 3),some (vr 633),none,some (vs "hastebook.books" 816),none,some (vr 0)])::
 (ob (vt "tuple") none (Data.seq #[]) #[])::
 (ob vn none (Data.fields #[]) #[])::
 (ob (vt "tuple") none (Data.seq #[vs "self" 1039]) #[])::
 (ob (vt "tuple") none (Data.seq #[]) #[])::
 (od "__init__" "Book.__init__" (inClass (top 101) 0))::
 (oc "__init__" "Book.__init__" 1036 1037 1038 390 1 3 638 181 639 640 641 642 1040 390 1041)::
 (of "__init__" "Book.__init__" (inClass (top 101) 0) "hastebook.books" 816 643)::
 (ob (vt "tuple") none (Data.seq #[]) #[])::
 (ob vn none (Data.fields #[]) #[])::
 (od "say" "Book.say" (inClass (top 101) 1))::
 (ob (vt "code") none (Data.fields #[vs "say" 1043,vs "Book.say" 1044,vs "/claim/cut.py" 1045,vi 394,vi 2,vi 0,vi 0,vi 3,vr 645,vb,vi 181,vr 646,vn,vn,vn,vr 647,vi 1046,vi 394,vs "/claim/cut.py" 1047]) #[])::
 (of "say" "Book.say" (inClass (top 101) 1) "hastebook.books" 816 648)::
 (ob (vt "tuple") none (Data.seq #[vs "needs" 1049,vs "works" 1050]) #[])::
 (ob (vt "dict") none (Data.dict #[dx P "__module__" 1031 (vs "hastebook.books" 816),dx P "__firstlineno__" 1035 (Value.int 388 1034),dx P "__init__" 1042 (vr 644),dx P "say" 1048 (vr 649),dx P "__static_attributes__" 1051 (vr 650),dx P "__dict__" 1053 (vr 653),dx P "__weakref__" 1055 (vr 654),dx P "__doc__" 1056 vn] 4) #[])::
 (ob (vt "type") none (Data.cls (PySem.ClassData.mk (so "Book") [vt "object"] [vr 652,vt "object"] 651 (so "Book") true [] [] false none false)) #[none,none,some (vs "Book" 1024),some (vs "Book" 1032),some (Value.builtin "object.__new__"),some (vb)])::
 (ob (vt "getset_descriptor") none (Data.fields #[vs "__dict__" 1052,vr 652,Value.builtin "function.__dict__",Value.builtin "function.__dict__#set"]) #[])::
 (ob (vt "getset_descriptor") none (Data.fields #[vs "__weakref__" 1054,vr 652,Value.builtin "ExceptionGroup.__weakref__",vn]) #[])::
 (ob (vt "super") none (Data.fields #[vr 652,vr 652,vr 652]) #[])::
 (ob (vt "builtin_function_or_method") none (Data.fields #[Value.builtin "object.__init_subclass__",vr 652]) #[])::
 (ob (vt "tuple") none (Data.seq #[]) #[])::
 (ob vn none (Data.fields #[]) #[])::
 (ob (vt "tuple") none (Data.seq #[vs "_law_number" 1064,vs "_law_k" 1065]) #[])::
 (ob (vt "tuple") none (Data.seq #[]) #[])::
 (od "_law_mix" "_law_mix" (top 103))::
 (oc "_law_mix" "_law_mix" 1061 1062 1063 402 2 3 657 181 658 659 660 661 1066 402 1067)::
 (of "_law_mix" "_law_mix" (top 103) "law_hastebook_k63_rows_refused" 1059 662)::
 (ob (vt "tuple") none (Data.seq #[]) #[])::
 (ob vn none (Data.fields #[]) #[])::
 (ob (vt "tuple") none (Data.seq #[vs "_law_script" 1072,vs "_law_k" 1073]) #[])::
 (ob (vt "tuple") none (Data.seq #[]) #[])::
 (od "_law_cell_at" "_law_cell_at" (top 104))::
 (oc "_law_cell_at" "_law_cell_at" 1069 1070 1071 404 2 3 664 181 665 666 667 668 1074 404 1075)::
 (of "_law_cell_at" "_law_cell_at" (top 104) "law_hastebook_k63_rows_refused" 1059 669)::
 (ob (vt "tuple") none (Data.seq #[]) #[])::
 (ob vn none (Data.fields #[]) #[])::
 (ob (vt "tuple") none (Data.seq #[vs "_law_cell" 1080,vs "_law_letters" 1081,vs "_law_size" 1082,vs "_law_at" 1083,vs "_law_names_here" 1084,vs "_law_k" 1085,vs "_law_name" 1086,vs "_law_j" 1087]) #[])::
 (ob (vt "tuple") none (Data.seq #[]) #[])::
 (od "_law_names" "_law_names" (top 105))::
 (oc "_law_names" "_law_names" 1077 1078 1079 408 1 3 671 181 672 673 674 675 1088 408 1089)::
 (of "_law_names" "_law_names" (top 105) "law_hastebook_k63_rows_refused" 1059 676)::
 (ob (vt "tuple") none (Data.seq #[]) #[])::
 (ob vn none (Data.fields #[]) #[])::
 (ob (vt "tuple") none (Data.seq #[vs "_law_name" 1094,vs "_law_cell" 1095]) #[])::
 (ob (vt "tuple") none (Data.seq #[]) #[])::
 (od "_law_no_name" "_law_no_name" (top 106))::
 (oc "_law_no_name" "_law_no_name" 1091 1092 1093 419 2 3 678 181 679 680 681 682 1096 419 1097)::
 (of "_law_no_name" "_law_no_name" (top 106) "law_hastebook_k63_rows_refused" 1059 683)::
 (ob (vt "tuple") none (Data.seq #[]) #[])::
 (ob vn none (Data.fields #[]) #[])::
 (od "_law_of_words" "_law_of_words" (top 107))::
 (ob (vt "code") none (Data.fields #[vs "_law_of_words" 1099,vs "_law_of_words" 1100,vs "/claim/cut.py" 1101,vi 421,vi 2,vi 0,vi 0,vi 3,vr 685,vb,vi 181,vr 686,vn,vn,vn,vr 687,vi 1102,vi 421,vs "/claim/cut.py" 1103]) #[])::
 (of "_law_of_words" "_law_of_words" (top 107) "law_hastebook_k63_rows_refused" 1059 688)::
 (ob (vt "tuple") none (Data.seq #[]) #[])::
 (ob vn none (Data.fields #[]) #[])::
 (od "_law_of_names" "_law_of_names" (top 108))::
 (ob (vt "code") none (Data.fields #[vs "_law_of_names" 1105,vs "_law_of_names" 1106,vs "/claim/cut.py" 1107,vi 428,vi 3,vi 0,vi 0,vi 3,vr 690,vb,vi 181,vr 691,vn,vn,vn,vr 692,vi 1108,vi 428,vs "/claim/cut.py" 1109]) #[])::
 (of "_law_of_names" "_law_of_names" (top 108) "law_hastebook_k63_rows_refused" 1059 693)::
 (ob (vt "tuple") none (Data.seq #[]) #[])::
 (ob vn none (Data.fields #[]) #[])::
 (od "_law_of_texts" "_law_of_texts" (top 109))::
 (ob (vt "code") none (Data.fields #[vs "_law_of_texts" 1111,vs "_law_of_texts" 1112,vs "/claim/cut.py" 1113,vi 433,vi 4,vi 0,vi 0,vi 3,vr 695,vb,vi 181,vr 696,vn,vn,vn,vr 697,vi 1114,vi 433,vs "/claim/cut.py" 1115]) #[])::
 (of "_law_of_texts" "_law_of_texts" (top 109) "law_hastebook_k63_rows_refused" 1059 698)::
 (ob (vt "tuple") none (Data.seq #[]) #[])::
 (ob vn none (Data.fields #[]) #[])::
 (ob (vt "tuple") none (Data.seq #[vs "_law_book" 1120,vs "_law_row" 1121,vs "_law_caught" 1122,vs "e" 1123,vs "_law_found" 1124]) #[])::
 (ob (vt "tuple") none (Data.seq #[]) #[])::
 (od "_law_refused" "_law_refused" (top 110))::
 (oc "_law_refused" "_law_refused" 1117 1118 1119 443 2 3 700 181 701 702 703 704 1125 443 1126)::
 (of "_law_refused" "_law_refused" (top 110) "law_hastebook_k63_rows_refused" 1059 705)::
 (ob (vt "tuple") none (Data.seq #[]) #[])::
 (ob vn none (Data.fields #[]) #[])::
 (od "law" "law" (top 111))::
 (ob (vt "code") none (Data.fields #[vs "law" 1128,vs "law" 1129,vs "/claim/cut.py" 1130,vi 451,vi 1,vi 0,vi 0,vi 3,vr 707,vb,vi 181,vr 708,vn,vn,vn,vr 709,vi 1131,vi 451,vs "/claim/cut.py" 1132]) #[])::
 (of "law" "law" (top 111) "law_hastebook_k63_rows_refused" 1059 710)::[]
noncomputable def ov:Nat->List Obj->BT->BT
 |_,[],t=>t
 |i,o::os,t=>ov (i+1) os (t.ins i o)
noncomputable def jU(p:Program)(w:World)(m:Nat)(an:Option Value):Nat->SharedT->Thread->Option SharedT
 |0,_,_=>none
 |n+1,s,t=>match through t with
  |true=>some s
  |false=>match stepOk m an t with
   |false=>none
   |true=>match stepT (denote treeTable) p w s t with
    |some r=>jU p w m an n r.1 r.2
    |none=>none
theorem G0{p:Program}{w:World}{m:Nat}{an:Option Value}:∀{n:Nat}{s s':SharedT}{t:Thread},jU p w m an n s t=some s'->topRun treeTable p w m an n s.abs t=some s'.abs
 |0,_,_,_,h=>by cases h
 |n+1,s,s',t,h=>by
  unfold jU at h;unfold topRun;cases h1:through t with
  |true=>rw[h1]at h;cases h;rfl
  |false=>
   rw[h1]at h;cases h2:stepOk m an t with
   |false=>rw[h2]at h;cases h
   |true=>
    rw[h2]at h;cases h3:stepT (denote treeTable) p w s t with
    |none=>rw[h3]at h;cases h
    |some r=>
     rw[h3]at h;rw[show step (denote treeTable) p w s.abs t=.go r.1.abs r.2 from stepT_spec h3];exact G0 h
theorem om{f:World->World}{p q:Program}{l:List Str}{Xt:Shared->Bool}{α:Type}{Yf:Shared->α}{Ya:World->α}{N:Nat}{s0:World->OsState->SharedT}{ran:World->OsState->Option SharedT}{fn:World->OsState->Shared}
 (hr:∀w os,ran w os=jU p w (boot_heap w.params).objs.size ((boot_heap w.params).nsMap mainGlobals "__annotations__") N (s0 w os) (topStub p))
 (c0:(fun(w:World) (os:OsState)=>(s0 w os).abs)=λw os=>⟨boot_heap w.params,Ux [],boot_drawn,boot_toks,os⟩)
 (c1:(λw:World=>(boot_heap w.params).isNs mainGlobals)=λ_=>true)
 (cX:(fun(w:World) (os:OsState)=>((ran (f w) os).isSome,((ran (f w) os).getD (s0 (f w) os)).abs))=λw os=>(true,fn (f w) os))
 (c3:(fun(w:World) (os:OsState)=>(staticsOk (importedModules p.main.body) (boot_heap w.params) (fn w os).heap&&namesBound p (fn w os).heap&&gensDone (fn w os))&&laidKept (boot_heap w.params) (fn w os).heap)=λ_ _=>true)
 (c4:(fun(w:World) (os:OsState)=>openSeen q l (importedModules p.main.body) Xt true (fn w os))=λ_ _=>openGood q l)
 (c5:(fun(w:World) (os:OsState)=>Yf (fn w os))=λw _=>Ya w)
 (c6:opening p=plainProg p.main.scope.names)(hN:Nat.ble 600 N=true)(hm:∀s,fenceModules? p s=some s):∀w,(openEnds treeTable p (f w) N).map (λs=>(openSeen q l (importedModules p.main.body) Xt true s,Yf s))=some (openGood q l,Ya (f w)):=λw=>by
 obtain⟨⟨h,gs,d,k,os⟩,e,e'⟩:=Vh.mp (boot_open (p:=p) (N:=N) c6 hN hm (f w));obtain⟨rfl,rfl,rfl,rfl⟩:h=boot_heap (f w).params/\gs=Ux []/\d=boot_drawn/\k=boot_toks:=by simpa using e'
 have qX:=congrFun (congrFun cX w) os;have r:topRun treeTable p (f w) (boot_heap (f w).params).objs.size ((boot_heap (f w).params).nsMap mainGlobals "__annotations__") N ⟨boot_heap (f w).params,Ux [],boot_drawn,boot_toks,os⟩ (topStub p)=some (fn (f w) os):=by
  have q0:(s0 (f w) os).abs=⟨boot_heap (f w).params,Ux [],boot_drawn,boot_toks,os⟩:=congrFun (congrFun c0 (f w)) os;rw[<-q0];obtain⟨x,hx⟩:=d4.mp (congrArg (·.1) qX:(ran (f w) os).isSome=true);have:fn (f w) os=x.abs:=by
   have z:((ran (f w) os).getD (s0 (f w) os)).abs=fn (f w) os:=congrArg (·.2) qX;rw[<-z,hx];rfl
  rw[this];rw[hr]at hx;exact G0 hx
 have t:topFrom treeTable p (f w) N ⟨boot_heap (f w).params,Ux [],boot_drawn,boot_toks,os⟩=some (fn (f w) os):=by
  unfold topFrom;dsimp only;rw[show(boot_heap (f w).params).isNs mainGlobals=true from congrFun c1 (f w),r];have q3:((staticsOk (importedModules p.main.body) (boot_heap (f w).params) (fn (f w) os).heap&&namesBound p (fn (f w) os).heap&&gensDone (fn (f w) os))&&laidKept (boot_heap (f w).params) (fn (f w) os).heap)=true:=congrFun (congrFun c3 (f w)) os;show(match((staticsOk (importedModules p.main.body) (boot_heap (f w).params) (fn (f w) os).heap&&namesBound p (fn (f w) os).heap&&gensDone (fn (f w) os))&&laidKept (boot_heap (f w).params) (fn (f w) os).heap)with|true=>some (fn (f w) os)|false=>none)=_;rw[q3]
 unfold openEnds;rw[e];show(topFrom treeTable p (f w) N _).map _=_;rw[t];exact congrArg some (VX (congrFun (congrFun c4 (f w)) os) (congrFun (congrFun c5 (f w)) os))
noncomputable def s0(w:World)(os:OsState):SharedT:=⟨ov 0 (boot_heap w.params).objs.toList .nil,(boot_heap w.params).objs.size,(boot_heap w.params).life,#[],boot_drawn,boot_toks,os⟩
noncomputable def ran(w:World)(os:OsState):Option SharedT:=jU PR w (boot_heap w.params).objs.size ((boot_heap w.params).nsMap mainGlobals "__annotations__") 5180 (s0 w os) (topStub PR)
noncomputable def fn(w:World)(os:OsState):Shared:=⟨⟨(FL w.params).toArray,(boot_heap w.params).life⟩,#[],⟨0,0,0,0⟩,1134,os⟩
def vw:Program:=view PR [0,2,3,4,5,6,7,9,10,11,12,14,15,16,17,18,19,20,22,23,24,25,26,27,28,29,30,31,32,33,34,35,36,37,38,40,41,42,43,44,45,46,47,48,50,51,52,54,55,57,58,59,60,61,62,63,64,66,67,68,69,70,71,73,74,75,76,77,78,79,80,81,82,83,84,85,86,87,88,89,90,91,92,93,94,95,96,97,98,99,100,101,103,104,105,106,107,108,109,110,111]
noncomputable def xt(s:Shared):Bool:=xlAt vw [] s&&recOk (RowW.records (OpenRow.toRowW (OpenLaw.row PySem.Challenge.rw_hastebook_k63_rows_refused))) s
set_option maxHeartbeats 0 in
theorem c0:(fun(w:World) (os:OsState)=>(s0 w os).abs)=λw os=>⟨boot_heap w.params,Ux [],boot_drawn,boot_toks,os⟩:=by kernel_rfl
theorem c1:(λw:World=>(boot_heap w.params).isNs mainGlobals)=λ_=>true:=by kernel_rfl
def yo(w:World):World:=w.withFollow "special-get-raises" false
set_option maxHeartbeats 0 in
theorem Jw:(fun(w:World) (os:OsState)=>((ran (yo w) os).isSome,((ran (yo w) os).getD (s0 (yo w) os)).abs))=λw os=>(true,fn (yo w) os):=by kernel_rfl
def yn(w:World):World:=w.withFollow "special-get-raises" true
set_option maxHeartbeats 0 in
theorem Jv:(fun(w:World) (os:OsState)=>((ran (yn w) os).isSome,((ran (yn w) os).getD (s0 (yn w) os)).abs))=λw os=>(true,fn (yn w) os):=by kernel_rfl
def lo:List Str:=[so "take_out",so "take_out_nets",so "take_out_books",so "ROWS"]
set_option maxHeartbeats 0 in
theorem c3:(fun(w:World) (os:OsState)=>(staticsOk (importedModules PR.main.body) (boot_heap w.params) (fn w os).heap&&namesBound PR (fn w os).heap&&gensDone (fn w os))&&laidKept (boot_heap w.params) (fn w os).heap)=λ_ _=>true:=by kernel_rfl
set_option maxHeartbeats 0 in
theorem c4:(fun(w:World) (os:OsState)=>openSeen vw lo (importedModules PR.main.body) xt true (fn w os))=λ_ _=>openGood vw lo:=by kernel_rfl
set_option maxHeartbeats 0 in
theorem c5:(fun(w:World) (os:OsState)=>KA.map (fn w os).heap.get?)=λw _=>(KH w.params).map λp=>some p.2:=by kernel_rfl
theorem c6:opening PR=plainProg PR.main.scope.names:=by kernel_rfl
theorem left:LeftO PR vw lo xt (λs=>KA.map s.heap.get?) (λw=>(KH w.params).map λp=>some p.2) 5180:=
 byRow2 "special-get-raises" (P:=λw=>(openEnds treeTable PR w 5180).map (λs=>(openSeen vw lo (importedModules PR.main.body) xt true s,KA.map s.heap.get?))=some (openGood vw lo,(KH w.params).map λp=>some p.2))
  (om (f:=yo) (Yf:=λs=>KA.map s.heap.get?) (Ya:=λw=>(KH w.params).map λp:Addr×Obj=>some p.2) (s0:=s0) (ran:=ran) (λ_ _=>rfl) c0 c1 Jw c3 c4 c5 c6 rfl (λ_=>rfl))
  (om (f:=yn) (Yf:=λs=>KA.map s.heap.get?) (Ya:=λw=>(KH w.params).map λp:Addr×Obj=>some p.2) (s0:=s0) (ran:=ran) (λ_ _=>rfl) c0 c1 Jv c3 c4 c5 c6 rfl (λ_=>rfl))
theorem ka(P:Params):KA=(KH P).map (·.1):=by kernel_rfl
theorem xs:∀s,xt s=true->XL vw [] (s.heap.nsMap mainGlobals) s.heap:=λs e=>xl_of s (VS.mp e).1
theorem rs:∀s,xt s=true->RecFacts (RowW.records (OpenRow.toRowW (OpenLaw.row PySem.Challenge.rw_hastebook_k63_rows_refused))) s.heap:=λs e=>recFacts_of (VS.mp e).2
end HT
open PySem renaming wpAny_bind->V0,Addr->V1,starEach->V2,Value->V3,Shared->V4,mainGlobals->V5,wpAny_pure->V7,Heap->V8,wpAny->Wa,model->Wb,Builtin->Wc,Program->Wd,Around->We,World->Wf,Expr->Wg,eval->Wh,foldedSetIterable->Wi,backTo->Wj,wpAny_field->Wl,wpAny_mono->Wm,wpAny_newObj_type->Wn,behindInMarks->Wo,wpAny_callSpecial?_slot->Wp,wpAny_holding->Wq,sysModules->Wr,NameKind->Ws,compareOp->Wt,assignEach->Wu,attributeBase->Wv,FuncData->Ww,swapsWith->Wy,wpAny_call_entry->Wz,wpAny_Call_Name_kw->WA,PassesOwn->WB,keywordEach->WC,Scope->WD,wpAny_typeNameOfWhole_keyiter->WE,Keyword->WG,IsPair->WH,wpAny_passesOwn->WI,cLine->WJ,wpAny_truthy_bool->WK,hashStr->WL,wpAny_seqItems->WM,bootBuiltins->WN,Stmt->WO,DictEntry->WQ,wpAny_typeNameOf_keyiter->WR,wpAny_setField_rec->WS,wpAny_getItem_str_slice->WT,wpAny_setField->WU,wpAny_loadPart_at->WV,valueAt->WW,backToKw->WX,rawInt->WY,noteFrame->WZ,codeAny->W1,sliceBounds->W2,sizeLine_eq->W3,wpAny_execs_nil->W4,letOwnedTupleGo->W5,assign->W6,holding->W7,pyNext->W8,wpAny_pyIter_list->W9,wpAny_standAt->Xa,wpAny_comprehension_free->Xb,typeIs_str->Xc,codeAny_mono->Xd,shortFactorBits->Xf,post_val_or_str->Xg,wpAny_isOneOf_keyiter->Xh,wpAny_newTuple->Xi,wpAny_fieldsOf->Xj,compPost->Xl,binaryOp->Xm,relabel->Xn,getItem->Xo
open PyProof.Rows renaming envOfC->W0,AllBare->Xe
open PySem.W renaming findIn->Xk
abbrev V6:=@if_pos
abbrev V9:=@if_neg
abbrev Uj:=List (Int×Int)
abbrev Uk:=List (Nat×Nat)
abbrev Ul:=List (List Int)
abbrev Um:=List Int
abbrev Uo:=List Nat
abbrev Up:=Nat->Int
abbrev Uq:=List PySem.Value
abbrev Ur:=List PySem.Str
abbrev Us:=Option PySem.Value
abbrev Ut:=PySem.Value->PySem.Shared->Prop
abbrev Uu:=List PySem.Expr
noncomputable section
def eW:=λ{a b c d e}=>(@Option.bind_eq_some_iff a b c d e).mp
def eX:=λ{a b c d e}=>(@Vh a b c d e).mp
def fA:=λ{a b c d}=>(@List.getElem?_eq_some_iff a b c d).mp
def fQ:=λ{a b c d e}=>(@VO a b c d e).mp
def fU:=λ{a b c d}=>(@bX a b c d).mp
def f8:=λ{a b c d}=>(@dO a b c d).mp
def gC:=λ{a b}=>(@VN a b).mp
def gL:=λ{a b c d e}=>(@VO a b c d e).mpr
def hV:=λ{a b c d}=>(@VJ a b c d).mp
def iA:=λ{a b}=>(@VN a b).mpr
def gD:=λ{a b}=>(@d4 a b).mp
def gP:=λ{a b c}=>(@cL a b c).mp
def gR:=λ{a b c}=>(@List.mem_iff_getElem? a b c).mp
def i0:=λ{a b c}=>(@UW a b c).mp
def gQ:=λ{a b c d}=>(@Array.getElem?_eq_some_iff a b c d).mp
set_option maxRecDepth 100000
namespace L2
open PySem PySem.Spec PyProof.Rows
variable{H:Hp}{a b:V1}{o:HO}
noncomputable abbrev Key:=Sum Int Str
noncomputable def t5:Key->V3->Bool
 | .inl k,v=>V3.isInt k v
 | .inr x,v=>V3.isStrOf x v
noncomputable def Ec(w:Wf):Key->Int
 | .inl k=>hashInt k
 | .inr x=>WL w x
theorem hX:∀{k:Key}{v:V3},t5 k v=true->(∃i t,k=Sum.inl i/\v=V3.int i t)\/(∃x t,k=Sum.inr x/\v=V3.str x t)
 | .inl i,v,h=>by
   obtain⟨t,e⟩:=V3.isInt_shape (k:=i) (v:=v) h;exact .inl ⟨i,t,rfl,e⟩
 | .inr x,v,h=>by
   obtain⟨t,e⟩:=V3.isStrOf_shape (x:=x) (v:=v) h;exact .inr ⟨x,t,rfl,e⟩
theorem Sg(i:Int)(t:Tok):t5 (.inl i) (.int i t)=true:=by simp[t5,V3.isInt]
theorem rX(x:Str)(t:Tok):t5 (.inr x) (.str x t)=true:=by simp[t5,V3.isStrOf]
theorem LK(a b:Int):decide ((Sum.inl a:Key)=Sum.inl b)=(a==b):=by
 by_cases e:a=b
 .subst e;simp
 .have h:¬(Sum.inl a:Key)=Sum.inl b:=λq=>e (Sum.inl.inj q);rw[decide_eq_false h];exact(beq_eq_false_iff_ne.mpr e).symm
theorem Mx(a b:Str):decide ((Sum.inr a:Key)=Sum.inr b)=decide (a=b):=by
 by_cases e:a=b
 .subst e;simp
 .have h:¬(Sum.inr a:Key)=Sum.inr b:=λq=>e (Sum.inr.inj q);rw[decide_eq_false h,decide_eq_false e]
theorem J7(a:Int)(b:Str):decide ((Sum.inl a:Key)=Sum.inr b)=false:=decide_eq_false (λq=>nomatch q)
theorem LA(a:Str)(b:Int):decide ((Sum.inr a:Key)=Sum.inl b)=false:=decide_eq_false (λq=>nomatch q)
def iF(c:Wd)(w:Wf):PySem.KeyKind c w Key where
 is:=t5
 hash:=Ec w
 inj:=λv a b m g=>by
  rcases hX m with⟨i,t,rfl,rfl⟩| ⟨x,t,rfl,rfl⟩
  .rcases hX g with⟨j,u,rfl,e⟩| ⟨y,u,rfl,e⟩
   .injection e with d _;rw[d]
   .exact nomatch e
  .rcases hX g with⟨j,u,rfl,e⟩| ⟨y,u,rfl,e⟩
   .exact nomatch e
   .injection e with d _;rw[d]
 byValue:=λk v h=>by
  rcases hX h with⟨i,t,rfl,rfl⟩| ⟨x,t,rfl,rfl⟩<;>rfl
 pyHash:=λf h=>by
  rcases hX f with⟨i,t,rfl,rfl⟩| ⟨x,t,rfl,rfl⟩
  .exact wpAny_pyHash_int h
  .exact wpAny_pyHash_str h
 eqBool:=λl f h=>by
  rcases hX l with⟨i,t,rfl,rfl⟩| ⟨x,t,rfl,rfl⟩
  .rcases hX f with⟨j,u,rfl,rfl⟩| ⟨y,u,rfl,rfl⟩
   .rw[LK]at h;exact wpAny_eqBool_int h
   .rw[J7]at h;exact SeqAt.EqAt.int_str i t y u _ _ _ _ h
  .rcases hX f with⟨j,u,rfl,rfl⟩| ⟨y,u,rfl,rfl⟩
   .rw[LA]at h;exact SeqAt.EqAt.str_int x t j u _ _ _ _ h
   .rw[Mx]at h;exact wpAny_eqBool_str h
 «strs»:=λk x t v h=>by
  rcases hX h with⟨i,u,rfl,e⟩| ⟨y,u,rfl,e⟩
  .exact nomatch e
  .injection e with d _
   subst d;cases v<;>rfl
theorem z6(c:Wd)(w:Wf)(i:Int)(t:Tok):(iF c w).is (.inl i) (.int i t)=true:=Sg i t
theorem TX(c:Wd)(w:Wf)(x:Str)(t:Tok):(iF c w).is (.inr x) (.str x t)=true:=rX x t
inductive V where
 |bg|bl (b:Bool)|int (i:Int)|str (x:Str)|nq (b:Array UInt8)|Cv (b:UInt64)|ref (a:V1)|ty (n:String)
 deriving DecidableEq
abbrev Uh:=List V
abbrev Ui:=Option V
def RelV:V->V3->Prop
 | .bg,u=>u=V3.none
 | .bl b,u=>u=V3.bool b
 | .int i,u=>∃t,u=V3.int i t
 | .str x,u=>∃t,u=V3.str x t
 | .nq b,u=>∃t,u=V3.bytes b t
 | .Cv b,u=>∃t,u=V3.float b t
 | .ref a,u=>u=V3.ref a
 | .ty n,u=>u=V3.type n
abbrev au:Uh->Uq->Prop:=Paired RelV
theorem au.length{xs:Uh}{c:Uq}(r:au xs c):xs.length=c.length:=Paired.length r
theorem au.get:∀{xs:Uh}{c:Uq}{i:Nat}{x:V},au xs c->xs[i]?=some x->∃u,c[i]?=some u/\RelV x u
 |_,_,_,_,.nil,e=>by simp at e
 |_,_,0,_,.cons r _,e=>by simp at e;subst e;exact⟨_,rfl,r⟩
 |_,_,i+1,x,.cons _ t,e=>by
  obtain⟨u,f,d⟩:=au.get (i:=i) (x:=x) t (by simpa using e);exact⟨u,by simpa using f,d⟩
theorem au.set{x:V}{u:V3}(r:RelV x u):∀{xs:Uh}{c:Uq}(i:Nat),au xs c->au (xs.set i x) (c.set i u)
 |_,_,_,.nil=>.nil
 |_,_,0,.cons _ t=>.cons r t
 |_,_,i+1,.cons q t=>.cons q (au.set r i t)
theorem au.append:∀{xs ys:Uh}{c ws:Uq},au xs c->au ys ws->au (xs++ys) (c++ws)
 |_,_,_,_,.nil,s=>s
 |_,_,_,_,.cons r t,s=>.cons r (au.append t s)
theorem au.take:∀{xs:Uh}{c:Uq}(n:Nat),au xs c->au (xs.take n) (c.take n)
 |_,_,0,_=>.nil
 |_,_,_+1,.nil=>.nil
 |_,_,n+1,.cons r t=>.cons r (au.take n t)
theorem au.drop:∀{xs:Uh}{c:Uq}(n:Nat),au xs c->au (xs.drop n) (c.drop n)
 |_,_,0,r=>r
 |_,_,_+1,.nil=>.nil
 |_,_,n+1,.cons _ t=>au.drop n t
def oN:Ui->Us->Prop
 |some v,some u=>RelV v u
 |none,none=>True
 |_,_=>False
def KV{c:Type}:List (c×V)->List (c×V3)->Prop:=Paired fun(p:c×V) (q:c×V3)=>p.1=q.1/\RelV p.2 q.2
noncomputable def kV:Key->V
 | .inl i=>.int i
 | .inr x=>.str x
inductive HO where
 |lst (xs:Uh)
 |tup (xs:Uh)
 |dK (kvs:List (Key×V))|dT (kvs:List (List Key×V))
 |set (S:Int->Bool) (n:Nat)
 |ins (C dx:V1) (fs:List (Str×V))
 |own (x:V1)
 |xd (fs:List (Str×V))
 |met (f x:V1)
 |As (lo hi:Int)
 |ei (o:Obj) (u:HO)
 |qu (ps:Array V3)
 |ext (φ:V8->Prop)
noncomputable abbrev Hp:=V1->Option HO
noncomputable def upd(H:Hp)(a:V1)(o:HO):Hp:=λb=>if b=a then some o else H b
theorem gS:upd H a o a=some o:=by unfold upd;rw[V6 rfl]
theorem fL(h:b≠a):upd H a o b=H b:=by unfold upd;rw[V9 h]
theorem m6{u:HO}(h:H a=some o)(c:H b=some u)(d:o≠u):a≠b:=by
 intro e;subst e;rw[h]at c;exact d (bZ.inj c)
theorem gW(h:H a=some o)(c:H b=none):a≠b:=by
 intro e;subst e;rw[h]at c;cases c
section
variable (P:Wd)(w:Wf)
def iZ(H:Hp)(h:V8)(a:V1):HO->Prop
 | .lst xs=>xs.length<=sizeLine/\∃(c:Uq)(n:Nat),au xs c/\h.get? a=some {cls:=.type "list",data:=.seq c.toArray n}
 | .tup xs=>xs.length<=sizeLine/\∃c:Uq,au xs c/\IsTup h a c.toArray
 | .dK kvs=>kvs.length<=sizeLine/\(a==Wr)=false/\∃vs,KV kvs vs/\h.DictOf (iF P w) a vs
 | .dT kvs=>kvs.length<=sizeLine/\(a==Wr)=false/\∃xs:List (List Key×V1×V3),
  Paired (fun(p:List Key×V) (q:List Key×V1×V3)=>p.1=q.1/\H q.2.1=some (.tup (p.1.map kV))/\RelV p.2 q.2.2) kvs xs/\
  ∃o k m,h.get? a=some o/\o.ExactDict/\o.data=.dict k m/\k.toList=xs.map (entryOfKey (tupleKind (iF P w)))/\(xs.map (·.1)).Nodup
 | .set S n=>h.SetOf (intKind P w) a S n
 | .ins C dx fs=>H dx=some (.own a)/\fs.length<=1000/\dx≠a/\h.get? a=some (cW C dx)/\
  ∃d,h.Ns1 dx d/\(∀f,oN (fs.lookup f) (d f))/\PySem.Within d (fs.map (·.1))
 | .own _=>∃o,h.get? a=some o
 | .xd fs=>∃d,h.Ns1 a d/\∀f,oN (fs.lookup f) (d f)
 | .As lo l=>∃t u v,h.get? a=some {cls:=.type "range",data:=.fields #[.int lo t,.int l u,.int 1 v]}
 | .ei o u=>h.get? a=some o/\iZ H h a u
 | .qu ps=>h.get? a=some {cls:=.none,data:=.fields ps}
 | .met f x=>h.get? a=some (UI (.ref f) (.ref x))
 | .ext g=>g h/\(∃o,h.get? a=some o)/\∀j i:V8,g j->(∀o,j.get? a=some o->i.get? a=some o)->g i
def er(H:Hp)(h:V8):Prop:=∀a o,H a=some o->iZ P w H h a o
end
section
variable {P:Wd}{w:Wf}{H g:Hp}{h h':V8}{a:V1}{o:HO}
theorem iZ.lt(x:iZ P w H h a o):a<h.objs.size:=by
 cases o with
 |lst xs=>obtain⟨_,_,_,_,e⟩:=x;exact V8.lt_size e
 |tup xs=>obtain⟨_,_,_,p⟩:=x;exact p.lt
 |dK c=>obtain⟨_,_,_,_,o,_,_,e,_⟩:=x;exact V8.lt_size e
 |dT c=>obtain⟨_,_,_,_,o,_,_,e,_⟩:=x;exact V8.lt_size e
 |set S n=>obtain⟨o,_,_,_,e,_⟩:=x;exact V8.lt_size e
 |ins C dx fs=>obtain⟨_,_,_,e,_⟩:=x;exact V8.lt_size e
 |own y=>obtain⟨_,e⟩:=x;exact V8.lt_size e
 |xd fs=>obtain⟨_,⟨_,_,_,e,_⟩,_⟩:=x;exact V8.lt_size e
 |As lo i=>obtain⟨_,_,_,e⟩:=x;exact V8.lt_size e
 |ei ob u=>obtain⟨e,_⟩:=x;exact V8.lt_size e
 |qu ps=>exact V8.lt_size (show h.get? a=some _ from x)
 |met f y=>exact V8.lt_size (show h.get? a=some _ from x)
 |ext d=>obtain⟨_,⟨_,e⟩,_⟩:=x;exact V8.lt_size e
theorem Paired.uo{d c:Type}{F G:d->c->Prop}:∀{i:List d}{j:List c},Paired F i j->(∀a b,F a b->G a b)->Paired G i j
 |_,_,.nil,_=>.nil
 |_,_,.cons r t,f=>.cons (f _ _ r) (Paired.uo t f)
theorem iZ.cp(x:iZ P w H h a o)(k:∀b u,(b=a\/H b=some (.own a))->h.get? b=some u->h'.get? b=some u)
 (D:∀b,H b=some (.own a)->g b=some (.own a))(B:∀b xs,H b=some (.tup xs)->g b=some (.tup xs)):iZ P w g h' a o:=by
 induction o with
 |lst xs=>obtain⟨z,l,n,r,e⟩:=x;exact⟨z,l,n,r,k _ _ (.inl rfl) e⟩
 |tup xs=>obtain⟨z,l,r,ob,e,c⟩:=x;exact⟨z,l,r,ob,k _ _ (.inl rfl) e,c⟩
 |dK s=>obtain⟨z,y,vs,r,ob,i,j,e,c⟩:=x;exact⟨z,y,vs,r,ob,i,j,k _ _ (.inl rfl) e,c⟩
 |dT s=>
  obtain⟨z,y,xs,r,ob,i,j,e,c⟩:=x;exact⟨z,y,xs,Paired.uo r λp q z=>⟨z.1,B _ _ z.2.1,z.2.2⟩,ob,i,j,k _ _ (.inl rfl) e,c⟩
 |set S n=>obtain⟨ob,i,j,t,e,c⟩:=x;exact⟨ob,i,j,t,k _ _ (.inl rfl) e,c⟩
 |ins C dx fs=>
  obtain⟨d,z,A,e,m,⟨od,i,j,F,c⟩,r⟩:=x;exact⟨D _ d,z,A,k _ _ (.inl rfl) e,m,⟨od,i,j,k _ _ (.inr d) F,c⟩,r⟩
 |own y=>obtain⟨ob,e⟩:=x;exact⟨ob,k _ _ (.inl rfl) e⟩
 |xd fs=>obtain⟨m,⟨od,i,j,e,c⟩,r⟩:=x;exact⟨m,⟨od,i,j,k _ _ (.inl rfl) e,c⟩,r⟩
 |As lo I=>obtain⟨t,u,v,e⟩:=x;exact⟨t,u,v,k _ _ (.inl rfl) e⟩
 |ei ob u ih=>obtain⟨e,q⟩:=x;exact⟨k _ _ (.inl rfl) e,ih q⟩
 |qu ps=>
  have e:h.get? a=some {cls:=.none,data:=.fields ps}:=x;show h'.get? a=some {cls:=.none,data:=.fields ps};exact k a _ (.inl rfl) e
 |met f y=>
  have e:h.get? a=some (UI (.ref f) (.ref y)):=x;show h'.get? a=some (UI (.ref f) (.ref y));exact k a _ (.inl rfl) e
 |ext G=>obtain⟨p,⟨o,e⟩,st⟩:=x;exact⟨st _ _ p λo q=>k _ _ (.inl rfl) q,⟨o,k _ _ (.inl rfl) e⟩,st⟩
theorem er.lt(x:er P w H h)(e:H a=some o):a<h.objs.size:=(x a o e).lt
theorem er.fresh(x:er P w H h)(e:h.objs.size<=a):H a=none:=by
 cases q:H a with
 |none=>rfl
 |some u=>exact absurd (bC (x.lt q) e) (cE _)
theorem er.kept(x:er P w H h)(k:∀b u,h.get? b=some u->h'.get? b=some u):er P w H h':=λa o e=>
 (x a o e).cp (λb u _ q=>k b u q) (λ_ q=>q) λ_ _ q=>q
theorem er.laid(x:er P w H h)(k:∀b u,h.get? b=some u->h'.get? b=some u)(hp:h.objs.size<=a)(d:iZ P w (upd H a o) h' a o):er P w (upd H a o) h':=λb u e=>by
 have f:=x.fresh hp;by_cases i:b=a
 .subst i;rw[gS]at e;cases e;exact d
 .rw[fL i]at e;exact(x b u e).cp (λc v _ q=>k c v q) (λc q=>by rw[fL (gW q f)];exact q) λc xs q=>by rw[fL (gW q f)];exact q
end
def Rd(H:Hp)(a:V1)(u:HO):Prop:=H a=some u\/∃o,H a=some (.ei o u)
theorem Rd.ok{P:Wd}{w:Wf}{H:Hp}{h:V8}{a:V1}{u:HO}(r:Rd H a u)(x:er P w H h):iZ P w H h a u:=by
 rcases r with r| ⟨o,r⟩
 .exact x a u r
 .obtain⟨_,q⟩:=x a _ r;exact q
def Ce:Option HO->Prop
 |some (.lst _)=>True
 |some (.dK _)=>True
 |some (.dT _)=>True
 |some (.set _ _)=>True
 |some (.ins _ _ _)=>True
 |some (.ext _)=>True
 |_=>False
section
variable {P:Wd}{w:Wf}{H:Hp}{h d:V8}{x e:V1}{f:HO}
theorem er.write(ok:er P w H h)(g:Ce (H x))(p:e=x\/H e=some (.own x))(k:∀b u,b≠e->h.get? b=some u->d.get? b=some u)(t:∃u,d.get? e=some u)
 (l:iZ P w (upd H x f) d x f):er P w (upd H x f) d:=λb u q=>by
 have n:∀c y,H c=some (.own y)->c≠x:=λc y r z=>by subst z;rw[r]at g;exact g
 have s:∀c xs,H c=some (.tup xs)->c≠x:=λc xs r z=>by subst z;rw[r]at g;exact g
 by_cases j:b=x
 .subst j;rw[gS]at q;cases q;exact l
 .rw[fL j]at q;by_cases i:b=e
  .have m:H b=some (.own x):=by
    rcases p with z|z
    .exact absurd (i.trans z) j
    .rw[i];exact z
   rw[q]at m;cases m;obtain⟨v,A⟩:=t;exact⟨v,by rw[i];exact A⟩
  .refine(ok b u q).cp (λc v hc r=>k c v ?_ r) (λc r=>by rw[fL (n c b r)];exact r) λc xs r=>by rw[fL (s c xs r)];exact r
   rcases hc with rfl|hc
   .exact i
   .rintro rfl;rcases p with z|z
    .exact n c b hc z
    .rw[hc]at z;cases z;exact j rfl
end
structure Un(fs ex:List V1)(H H':Hp)(h h':V8):Prop where
 keep:∀b o,h.get? b=some o->H b=none->b∉fs->b∉ex->h'.get? b=some o
 slot:∀b o,h.get? b=some o->H b=none->b∈fs->b∉ex->∃sl,h'.get? b=some {o with slots:=sl}
 free:∀b o,h.get? b=some o->H b=none->b∉ex->H' b=none
 there:∀b o,h.get? b=some o->b∉ex->∃o',h'.get? b=some o'
 eL:∀b xs,H b=some (.tup xs)->H' b=some (.tup xs)
 eh:∀b o u,H b=some (.ei o u)->H' b=some (.ei o u)
 eN:∀b ps,H b=some (.qu ps)->∃more,H' b=some (.qu (ps++more))
section
variable {fs g c i:List V1}{H f j:Hp}{h d l h':V8}{a x e:V1}{o:HO}
theorem Un.any(u:Un fs c H f h d){b:V1}{ob:Obj}(q:h.get? b=some ob)(n:H b=none)(k:b∉c):∃sl,d.get? b=some {ob with slots:=sl}:=by
 by_cases m:b∈fs
 .exact u.slot b ob q n m k
 .exact⟨ob.slots,u.keep b ob q n m k⟩
theorem Un.kept(k:∀b u,h.get? b=some u->h'.get? b=some u):Un fs c H H h h':=
 ⟨λb ob q _ _ _=>k b ob q,λb ob q _ _ _=>⟨ob.slots,k b ob q⟩,λ_ _ _ n _=>n,λb ob q _=>⟨ob,k b ob q⟩,λ_ _ q=>q,λ_ _ _ q=>q,λ_ ps q=>⟨#[],by rw[q];simp⟩⟩
theorem Un.refl:Un fs c H H h h:=Un.kept λ_ _ q=>q
theorem Un.laid(k:∀b u,h.get? b=some u->h'.get? b=some u)(hp:h.objs.size<=a)(m:H a=none):Un fs c H (upd H a o) h h' where
 keep:=λb u q _ _ _=>k b u q
 slot:=λb u q _ _ _=>⟨u.slots,k b u q⟩
 free:=λb u q n _=>by rw[fL (bQ (bC (V8.lt_size q) hp))];exact n
 there:=λb u q _=>⟨u,k b u q⟩
 eL:=λb xs q=>by rw[fL (gW q m)];exact q
 eh:=λb u xs q=>by rw[fL (gW q m)];exact q
 eN:=λb ps q=>⟨#[],by rw[fL (gW q m),q];simp⟩
theorem Un.write(m:Ce (H x))(A:e=x\/H e=some (.own x))(k:∀b u,b≠e->h.get? b=some u->h'.get? b=some u)(y:∃u,h'.get? e=some u):Un fs c H (upd H x o) h h':=by
 have t:∀b,H b=none->b≠x:=λb n z=>by subst z;rw[n]at m;exact m
 have v:∀b,H b=none->b≠e:=λb n z=>by
  subst z;rcases A with r|r
  .exact t b n r
  .rw[n]at r;cases r
 have p:∀b u,H b=some u->¬Ce (some u)->b≠x:=λb u q w z=>by subst z;rw[q]at m;exact w m
 refine⟨λb u q n _ _=>k b u (v b n) q,λb u q n _ _=>⟨u.slots,k b u (v b n) q⟩,λb u q n _=>by rw[fL (t b n)];exact n,λb u q _=>?_,
  λb xs q=>by rw[fL (p b _ q λz=>z)];exact q,λb u xs q=>by rw[fL (p b _ q λz=>z)];exact q,λb ps q=>⟨#[],by rw[fL (p b _ q λz=>z),q];simp⟩⟩
 by_cases s:b=e
 .subst s;exact y
 .exact⟨u,k b u s q⟩
end
variable{h g:V8}{L:V1}
noncomputable def Cp(h:V8)(H:Hp):List V1:=(bB h.objs.size).filter λa=>(H a).isSome
def yN(h:V8)(H:Hp):V8:=bT h (Cp h H)
theorem SF(h:V8)(H:Hp):(yN h H).objs.size=h.objs.size:=U6 _ _
theorem Q8{H:Hp}{b:V1}{o:Obj}(e:h.get? b=some o)(n:H b=none):(yN h H).get? b=some o:=
 cH _ e λc=>by
  have q:(H b).isSome=true:=(hV c).2;rw[n]at q;simp at q
theorem O7{H:Hp}{b:V1}{o:Obj}(e:(yN h H).get? b=some o):h.get? b=some o/\H b=none:=by
 have c:h.get? b=some o:=cC (Cp h H) e;refine⟨c,?_⟩;cases q:H b with
 |none=>rfl
 |some x=>
  have d:b∈Cp h H:=VJ.mpr ⟨iA (V8.lt_size c),by simp[q]⟩;have z:(yN h H).get? b=none:=U7 (Cp h H) d;rw[z]at e;cases e
noncomputable def tF(g h:V8)(L:V1):List (V1×Obj):=(bB h.objs.size).filterMap λa=>if a=L\/(g.get? a).isSome=true then none else(h.get? a).map λo=>(a,o)
theorem oW{a:V1}{o:Obj}(f:a≠L)(d:g.get? a=none)(c:h.get? a=some o):(a,o)∈tF g h L:=
 dA.mpr ⟨a,iA (V8.lt_size c),by simp[f,d,c]⟩
theorem vD{p:V1×Obj}(hp:p∈tF g h L):p.1≠L/\g.get? p.1=none/\h.get? p.1=some p.2:=by
 obtain⟨b,_,e⟩:=dA.mp hp;split at e
 .cases e
 .rename_i c;cases q:h.get? b with
  |none=>rw[q]at e;simp at e
  |some u=>
   rw[q]at e;simp only[cY,bZ.injEq]at e;subst e;refine⟨λz=>c (.inl z),?_,q⟩;show g.get? b=none;cases r:g.get? b with
   |none=>rfl
   |some v=>exact(c (.inr (by simp[r]))).elim
def rest(g h:V8)(L d:V1):List (V1×Obj):=(tF g h L).filter λp=>decide (p.1≠d)
theorem Rh:News g L h (tF g h L):=λp hp=>let ⟨a,b,c⟩:=vD hp;⟨c,a,b⟩
structure Mod(K:aK)(mg:Str->Us)(base:V8):Prop where
 ql:K.In base
 glob:base.Ns V5 mg
 blt:∃mb,base.Ns builtinsNs mb/\∀x:Str,x≠"__name__"->mb x=WN x
 nolimit:base.NoLimit
structure Cx where
 prog:Wd
 w:Wf
 K:aK
 mg:Str->Us
 base:V8
 A:We
 N:Ur
 dq:V4
 ay:Hp
 env:Env
 outer:List Env
 stack:List Env
 ex:List V1
 fn:Str->Bool
 calm:Bool
 pn:List (V1×Obj)
 xe:Ut
noncomputable def aA(l:List Env):List V1:=l.filterMap (·.frame)
abbrev Cx.fs(X:Cx):List V1:=aA X.outer
def th(c:WD)(x:Str):Prop:=c.names.lookup x=some .local\/c.names.lookup x=some .cell\/c.names.lookup x=some .free
def Loc(c:WD)(x:Str):Prop:=c.names.lookup x=some .local\/c.names.lookup x=some .cell
def Look(env:Env)(h:V8)(m:Str->Us)(x:Str)(u:V3):Prop:=
 (env.kindOf x=some .local/\m x=some u)\/((env.kindOf x=some .cell\/env.kindOf x=some .free)/\∃c,env.cells.lookup x=some c/\h.IsCell c (some u))
structure Cx.Ok(X:Cx):Prop where
 mod:Mod X.K X.mg X.base
 kind:X.env.scope.kind=.function
 glob:X.env.globals=V5
 blt:X.env.builtins=builtinsNs
 above:X.dq.heap.objs.size<=X.env.locals
 inj:∀x y c,X.env.cells.lookup x=some c->X.env.cells.lookup y=some c->x=y
 has:∀x,(X.env.kindOf x=some .cell\/X.env.kindOf x=some .free)->∃c,X.env.cells.lookup x=some c
 xh:∀x c,X.fn x=true->X.env.cells.lookup x=some c->X.dq.heap.objs.size<=c
 hd:X.calm=true->X.A.handled=none
 frames:X.A.frames=some X.stack
 Ag:X.stack=X.outer\/(X.stack=X.env::X.outer/\X.env.frame=some X.env.locals)
 BI:∀b∈X.ex,b≠X.env.locals/\∀x c,X.env.cells.lookup x=some c->c≠b
 bs:∀b o,X.base.get? b=some o->X.dq.heap.get? b=some o/\X.ay b=none
 oz:X.base.objs.size<=X.dq.heap.objs.size
 l1:∀b o,X.base.get? b=some o->b∉X.ex
 ki:∀b∈X.ex,b∉X.fs
 fk:X.dq.heap.FunFrames X.base X.outer
 qm:∀b∈X.fs,X.ay b=none
structure Inv(X:Cx)(aa:List (V1×Obj))(σ:List Ui)(H:Hp)(s:V4):Prop where
 ok:X.Ok
 os:s.os=X.dq.os
 bare:Xe s.gens
 base:Un X.fs X.ex X.ay H X.dq.heap s.heap
 loc:∃m,s.heap.Ns X.env.locals m/\∀(i:Nat)(x:Str)(v:V),X.N[i]?=some x->σ[i]?=some (some v)->th X.env.scope x->∃u,RelV v u/\Look X.env s.heap m x u
 cell:∀x c,X.env.cells.lookup x=some c->∃v,s.heap.IsCell c v
 free:H X.env.locals=none
 cz:∀x c,X.env.cells.lookup x=some c->H c=none
 pin:∀p∈X.pn++aa,s.heap.get? p.1=some p.2/\H p.1=none/\p.1≠X.env.locals/\p.1∉X.fs/\∀v,p.2.data≠ .cell v
 aF:er X.prog X.w H s.heap
 len:σ.length=X.N.length
section
variable {X:Cx}{aa:List (V1×Obj)}{σ:List Ui}{H f:Hp}{s:V4}{h':V8}
variable{g':Array GenState}{t' i:Nat}{d':Drawn}{ch:List V1}{x:Str}{M:Model}{A:We}{E:Ut}{v:V}{u:V3}{Q:Unit->V4->Prop}
theorem Cx.Ok.D5(ok:X.Ok){b:V1}{o:Obj}(e:X.base.get? b=some o):b∉X.fs:=λc=>by
 have:=(ok.fk.mem c).1;rw[e]at this;cases this
theorem Inv.bs(I:Inv X aa σ H s):∀b o,X.base.get? b=some o->s.heap.get? b=some o/\H b=none:=λb o e=>
 ⟨I.base.keep b o (I.ok.bs b o e).1 (I.ok.bs b o e).2 (I.ok.D5 e) (I.ok.l1 b o e),I.base.free b o (I.ok.bs b o e).1 (I.ok.bs b o e).2 (I.ok.l1 b o e)⟩
theorem Inv.bk(I:Inv X aa σ H s):∀b o,X.base.get? b=some o->s.heap.get? b=some o:=λb o e=>(I.bs b o e).1
theorem Inv.mod(I:Inv X aa σ H s):Mod X.K X.mg X.base:=I.ok.mod
theorem Inv.gh(I:Inv X aa σ H s):X.K.In s.heap:=I.ok.mod.ql.keeps I.bk
theorem Inv.lt(I:Inv X aa σ H s):X.env.locals<s.heap.objs.size:=let ⟨_,c,_⟩:=I.loc;c.lt
theorem Inv.sz(I:Inv X aa σ H s):X.dq.heap.objs.size<=s.heap.objs.size:=aX I.ok.above (dW I.lt)
theorem Inv.D4(I:Inv X aa σ H s){a:V1}(h:s.heap.objs.size<=a):a∉X.fs:=λd=>by
 obtain⟨_,o,c,_⟩:=I.ok.fk.mem d;exact absurd (bC (V8.lt_size c) (aX I.sz h)) (cE _)
theorem Inv.kj(I:Inv X aa σ H s):∀x c,X.env.cells.lookup x=some c->c≠X.env.locals:=λx c e z=>by
 obtain⟨v,o,d,j⟩:=I.cell x c e;obtain⟨m,⟨n,p,q,k,l,_⟩,_⟩:=I.loc;rw[z,k]at d;cases d;rw[l]at j;cases j
theorem Inv.fk(I:Inv X aa σ H s):s.heap.FunFrames X.base X.outer:=by
 have all:∀(l:List Env),(∀b∈aA l,b∈X.fs)->X.dq.heap.FunFrames X.base l->s.heap.FunFrames X.base l:=by
  intro l;induction l with
  |nil=>intro _ _;trivial
  |cons env r ih=>
   intro k hl;obtain⟨q,⟨L,o,c,p,n,t⟩,m⟩:=hl;have j:L∈X.fs:=k L (by unfold aA;rw[dG,c];exact bG);obtain⟨sl,e⟩:=I.base.slot L o n (I.ok.qm L j) j λz=>I.ok.ki L z j
   exact⟨q,⟨L,_,c,p,e,t⟩,ih (λb d=>k b (by unfold aA;rw[dG,c];exact bJ _ d)) m⟩
 exact all X.outer (λ_ d=>d) I.ok.fk
theorem Inv.stack(I:Inv X aa σ H s):s.heap.FunFrames X.base X.stack:=by
 rcases I.ok.Ag with e| ⟨e,d⟩
 .rw[e];exact I.fk
 .rw[e];obtain⟨m,c,_⟩:=I.loc;refine .cons (by rw[I.ok.kind];decide) d c ?_ I.fk;exact V8.get?_none_of_le (aX I.ok.oz I.ok.above)
theorem Inv.ik(I:Inv X aa σ H s):∀b∈aA X.stack,b∈X.env.locals::X.fs:=λb c=>by
 rcases I.ok.Ag with e| ⟨e,d⟩
 .rw[e]at c;exact bJ _ c
 .rw[e]at c;unfold aA at c;rw[dG,d]at c;exact c
theorem Inv.ez(I:Inv X aa σ H s):∀b∈aA X.stack,H b=none:=λb hb=>by
 rcases fU (I.ik b hb)with e|hb
 .rw[e];exact I.free
 .obtain⟨_,o,c,_⟩:=I.ok.fk.mem hb;exact I.base.free b o c (I.ok.qm b hb) λz=>I.ok.ki b z hb
theorem Inv.step(I:Inv X aa σ H s)
 (P:∀b∈ch,(b∈X.ex\/X.dq.heap.objs.size<=b)/\b≠X.env.locals/\(∀x c,X.env.cells.lookup x=some c->c≠b)/\∀p∈X.pn++aa,p.1≠b)
 (t:∀b o,b≠X.env.locals->b∉X.fs->b∉ch->s.heap.get? b=some o->H b=none->h'.get? b=some o)
 (slot:∀b o,b≠X.env.locals->b∈X.fs->b∉ch->s.heap.get? b=some o->H b=none->∃sl,h'.get? b=some {o with slots:=sl})(free:∀b o,b∉ch->s.heap.get? b=some o->H b=none->f b=none)
 (B:∀b o,b∉ch->s.heap.get? b=some o->∃J,h'.get? b=some J)
 (F:∀b xs,H b=some (.tup xs)->f b=some (.tup xs))(N:∀b o u,H b=some (.ei o u)->f b=some (.ei o u))(G:∀b ps,H b=some (.qu ps)->∃more,f b=some (.qu (ps++more)))
 (ns:∀m,s.heap.Ns X.env.locals m->h'.Ns X.env.locals m)(S:er X.prog X.w f h')(hg:Xe g'):
 Inv X aa σ f {s with heap:=h',gens:=g',drawn:=d',toks:=t'}:=by
 have lv:∀b o,X.dq.heap.get? b=some o->b≠X.env.locals:=λb o e=>bQ (bC (V8.lt_size e) I.ok.above);have R:∀b o,X.dq.heap.get? b=some o->b∉X.ex->b∉ch:=λb o e j C=>by
  rcases(P b C).1 with z|z
  .exact j z
  .exact absurd (bC (V8.lt_size e) z) (cE _)
 have w:∀x c,X.env.cells.lookup x=some c->∀v,s.heap.IsCell c v->h'.IsCell c v:=λx c e v ⟨o,D,U⟩=>by
  have K:c∉ch:=λz=>(P c z).2.2.1 x c e rfl;by_cases hc:c∈X.fs
  .obtain⟨sl,q⟩:=slot c o (I.kj x c e) hc K D (I.cz x c e);exact⟨_,q,U⟩
  .exact⟨o,t c o (I.kj x c e) hc K D (I.cz x c e),U⟩
 refine⟨I.ok,I.os,hg,⟨λb o e n C j=>?_,λb o e n C j=>?_,λb o e n j=>?_,λb o e j=>?_,λb xs e=>F b xs (I.base.eL b xs e),λb o xs e=>N b o xs (I.base.eh b o xs e),λb ps e=>?_⟩,?_,λx c e=>?_,?_,λx c e=>?_,λp hp=>?_,S,I.len⟩
 .exact t b o (lv b o e) C (R b o e j) (I.base.keep b o e n C j) (I.base.free b o e n j)
 .obtain⟨sl,y⟩:=I.base.slot b o e n C j;obtain⟨sh,O⟩:=slot b _ (lv b o e) C (R b o e j) y (I.base.free b o e n j);exact⟨sh,O⟩
 .obtain⟨J,y⟩:=I.base.there b o e j;exact free b J (R b o e j) y (I.base.free b o e n j)
 .obtain⟨J,y⟩:=I.base.there b o e j;exact B b J (R b o e j) y
 .obtain⟨m1,y⟩:=I.base.eN b ps e;obtain⟨m2,O⟩:=G b _ y;exact⟨m1++m2,by rw[O,U4]⟩
 .obtain⟨m,hn,hl⟩:=I.loc;refine⟨m,ns m hn,λi x v y O e3=>?_⟩;obtain⟨u,r,l⟩:=hl i x v y O e3;refine⟨u,r,?_⟩;rcases l with l| ⟨k,c,e,z⟩
  .exact .inl l
  .exact .inr ⟨k,c,e,w x c e _ z⟩
 .obtain⟨v,z⟩:=I.cell x c e;exact⟨v,w x c e v z⟩
 .obtain⟨m,⟨o,_,_,D,_⟩,_⟩:=I.loc;exact free _ o (λz=>(P _ z).2.1 rfl) D I.free
 .obtain⟨v,o,D,U⟩:=I.cell x c e;exact free c o (λz=>(P c z).2.2.1 x c e rfl) D (I.cz x c e)
 .obtain⟨e,n,Z,Y,d⟩:=I.pin p hp;have K:p.1∉ch:=λz=>(P p.1 z).2.2.2 p hp rfl;exact⟨t p.1 p.2 Z Y K e n,free p.1 p.2 K e n,Z,Y,d⟩
theorem Inv.un(I:Inv X aa σ H s)(u:Un X.fs [] H f s.heap h')(c:er X.prog X.w f h'):Inv X aa σ f {s with heap:=h',toks:=t'}:=by
 obtain⟨m,⟨o,C,D,k,r⟩,_⟩:=id I.loc;obtain⟨sl,w⟩:=u.any k I.free (by simp);exact I.step (g':=s.gens) (d':=s.drawn) (ch:=[]) (λ_ z=>nomatch z) (λb o _ d _ e n=>u.keep b o e n d (by simp)) (λb o _ d _ e n=>u.slot b o e n d (by simp)) (λb o _ e n=>u.free b o e n (by simp)) (λb o _ e=>u.there b o e (by simp)) u.eL u.eh u.eN (λB t=>by
  obtain⟨y,p,l,j,q⟩:=t;rw[k]at j;cases j;exact⟨_,p,l,w,q⟩) c I.bare
theorem Inv.call(I:Inv X aa σ H s)(u:Un (aA X.stack) ch H f s.heap h')(j:er X.prog X.w f h')(D:Xe g')
 (t:∀b∈ch,(b∈X.ex\/X.dq.heap.objs.size<=b)/\b≠X.env.locals/\(∀x c,X.env.cells.lookup x=some c->c≠b)/\∀p∈X.pn++aa,p.1≠b):
 Inv X aa σ f {s with heap:=h',gens:=g',drawn:=d',toks:=t'}:=by
 obtain⟨m,⟨o,K,N,q,r⟩,_⟩:=id I.loc;obtain⟨sl,k⟩:=u.any q I.free λz=>(t _ z).2.1 rfl
 exact I.step (ch:=ch) t (λb o k F d e n=>u.keep b o e n (λz=>(fU (I.ik b z)).elim k F) d) (λb o _ _ d e n=>u.any e n d) (λb o d e n=>u.free b o e n d) (λb o d e=>u.there b o e d) u.eL u.eh u.eN (λJ C=>by
  obtain⟨G,y,w,l,B⟩:=C;rw[q]at l;cases l;exact⟨_,y,w,k,B⟩) j D
theorem Inv.turned{d:V1}(I:Inv X aa σ H s)(k:∀b o,b≠d->s.heap.get? b=some o->h'.get? b=some o)(y:H d=none)(t:d≠X.env.locals)
 (G:d∈X.ex\/X.dq.heap.objs.size<=d)(F:∀x c,X.env.cells.lookup x=some c->c≠d)(D:∀p∈X.pn++aa,p.1≠d):Inv X aa σ H {s with heap:=h',toks:=t'}:=by
 have l:∀b u,H b=some u->b≠d:=λb u e z=>by rw[z,y]at e;cases e
 refine I.step (g':=s.gens) (d':=s.drawn) (ch:=[d]) (λb C=>?_) (λb o _ _ j e _=>k b o (λz=>j (by simp[z])) e) (λb o _ _ j e _=>⟨o.slots,k b o (λz=>j (by simp[z])) e⟩) (λ_ _ _ _ n=>n)
  (λb o j e=>⟨o,k b o (λz=>j (by simp[z])) e⟩) (λ_ _ e=>e) (λ_ _ _ e=>e) (λb ps e=>⟨#[],by rw[e];simp⟩) (λm B=>?_) (λb u e=>?_) I.bare
 .have e:b=d:=by simpa using C
  subst e;exact⟨G,t,F,D⟩
 .obtain⟨o,J,K,w,r⟩:=B;exact⟨o,J,K,k _ o (Ne.symm t) w,r⟩
 .refine(I.aF b u e).cp (λc v j q=>k c v ?_ q) (λ_ q=>q) λ_ _ q=>q;rcases j with z|z
  .rw[z];exact l b u e
  .exact l c _ z
theorem Inv.tok(I:Inv X aa σ H s)(t:Nat):Inv X aa σ H {s with toks:=t}:=I.un (h':=s.heap) (t':=t) Un.refl I.aF
theorem Inv.kept(I:Inv X aa σ H s)(k:∀b u,s.heap.get? b=some u->h'.get? b=some u):Inv X aa σ H {s with heap:=h',toks:=t'}:=I.un (Un.kept k) (I.aF.kept k)
theorem Inv.laid{a:V1}{o:HO}(I:Inv X aa σ H s)(k:∀b u,s.heap.get? b=some u->h'.get? b=some u)(hp:s.heap.objs.size<=a)(c:iZ X.prog X.w (upd H a o) h' a o):
 Inv X aa σ (upd H a o) {s with heap:=h',toks:=t'}:=I.un (Un.laid k hp (I.aF.fresh hp)) (I.aF.laid k hp c)
theorem Inv.write{x e:V1}{o:HO}(I:Inv X aa σ H s)(d:Ce (H x))(l:e=x\/H e=some (.own x))(k:∀b u,b≠e->s.heap.get? b=some u->h'.get? b=some u)(j:∃u,h'.get? e=some u)
 (c:iZ X.prog X.w (upd H x o) h' x o):Inv X aa σ (upd H x o) {s with heap:=h',toks:=t'}:=I.un (Un.write d l k j) (I.aF.write d l k j c)
theorem Inv.lg{c:List (V1×Obj)}(I:Inv X aa σ H s)(h:∀p∈c,s.heap.get? p.1=some p.2/\H p.1=none/\p.1≠X.env.locals/\p.1∉X.fs/\∀v,p.2.data≠ .cell v):Inv X c σ H s:=
 ⟨I.ok,I.os,I.bare,I.base,I.loc,I.cell,I.free,I.cz,λp hp=>(f8 hp).elim (λz=>I.pin p (eQ _ z)) (h p),I.aF,I.len⟩
theorem uL{N:Ur}(c:N.Nodup){j:Nat}(a:N[i]?=some x)(b:N[j]?=some x):i=j:=by
 obtain⟨m,k⟩:=fA a;obtain⟨l,d⟩:=fA b;exact(VC c).mp (k.trans d.symm)
theorem v6(I:Inv X aa σ H s)(hN:X.N.Nodup)(J:X.N[i]?=some x)(B:Loc X.env.scope x)(r:RelV v u)
 (h:∀U,Inv X aa (σ.set i (some v)) H U->(∃a,V8.SameBut a s.heap U.heap/\(a=X.env.locals\/X.env.cells.lookup x=some a))->Q () U)(hf:X.fn x=true\/X.env.scope.names.lookup x=some .local:=by first|exact .inl rfl|exact .inr rfl|assumption):Wa M A (storeName X.env x u) Q E s:=by
 obtain⟨m,hn,hl⟩:=id I.loc;have iu:(X.env.scope.kind== .class||(X.env.scope.kind== .module&&X.env.locals !=X.env.globals))=false:=by rw[I.ok.kind];rfl
 have iq:i<σ.length:=by rw[I.len];exact(fA J).1
 have kj:=I.kj;have t:∀{a:V1}{h':V8},(∃o,s.heap.get? a=some o/\H a=none)->V8.SameBut a s.heap h'->er X.prog X.w H h':=λ{a h'} ha l b ob e=>by
  obtain⟨_,_,di⟩:=ha;refine(I.aF b ob e).cp (λc K hc q=>(l.2 c ?_).trans q) (λ_ q=>q) λ_ _ q=>q;rintro rfl;rcases hc with rfl|hc
  .rw[di]at e;cases e
  .rw[di]at hc;cases hc
 rcases B with D|D
 .refine wpAny_storeName_local D hn (λh' iy l=>?_) iu;obtain⟨oL,_,_,va,_⟩:=id hn;refine h _ ⟨I.ok,I.os,I.bare,⟨λb o e n G B=>?_,λb o e n G B=>?_,I.base.free,λb o e B=>?_,I.base.eL,I.base.eh,I.base.eN⟩,⟨_,iy,λj y R w C e3=>?_⟩,λy c e=>?_,I.free,I.cz,λp hp=>?_,t ⟨oL,va,I.free⟩ l,by simpa using I.len⟩ ⟨_,l,.inl rfl⟩
  .exact(l.2 b (bQ (bC (V8.lt_size e) I.ok.above))).trans (I.base.keep b o e n G B)
  .obtain⟨sl,w⟩:=I.base.slot b o e n G B;exact⟨sl,(l.2 b (bQ (bC (V8.lt_size e) I.ok.above))).trans w⟩
  .obtain⟨Z,w⟩:=I.base.there b o e B;exact⟨Z,(l.2 b (bQ (bC (V8.lt_size e) I.ok.above))).trans w⟩
  .by_cases F:j=i
   .subst F;rw[J]at w;cases w;rw[b0 iq]at C;cases C;exact⟨u,r,.inl ⟨D,by simp⟩⟩
   .rw[bY (Ne.symm F)]at C;obtain⟨S,Y,q⟩:=hl j y R w C e3;refine⟨S,Y,?_⟩;rcases q with⟨k,e⟩| ⟨k,c,e,z⟩
    .refine .inl ⟨k,?_⟩;have:y≠x:=λe=>F (uL hN w (e ▸ J));simp[this,e]
    .exact .inr ⟨k,c,e,z.sameBut l (kj y c e)⟩
  .obtain⟨K,z⟩:=I.cell y c e;exact⟨K,z.sameBut l (kj y c e)⟩
  .obtain⟨e,n,N,nf,d⟩:=I.pin p hp;exact⟨(l.2 p.1 N).trans e,n,N,nf,d⟩
 .have P:X.fn x=true:=by
   rcases hf with z|z
   .exact z
   .rw[z]at D;cases D
  obtain⟨c,hc⟩:=I.ok.has x (.inl D);obtain⟨K,z⟩:=I.cell x c hc;refine wpAny_storeName_cell I.ok.kind D hc z (λh' rf l=>?_);obtain⟨oc,xx,uz⟩:=id z;refine h {s with heap:=h'} ⟨I.ok,I.os,I.bare,⟨λb o e n G B=>?_,λb o e n G B=>?_,I.base.free,λb o e B=>?_,I.base.eL,I.base.eh,I.base.eN⟩,⟨m,hn.sameBut l (Ne.symm (kj x c hc)),λj y R w C e3=>?_⟩,λy O e=>?_,I.free,I.cz,λp hp=>?_,t ⟨oc,xx,I.cz x c hc⟩ l,by simpa using I.len⟩ ⟨c,l,.inr hc⟩
  .exact(l.2 b (bQ (bC (V8.lt_size e) (I.ok.xh x c P hc)))).trans (I.base.keep b o e n G B)
  .obtain⟨sl,w⟩:=I.base.slot b o e n G B;exact⟨sl,(l.2 b (bQ (bC (V8.lt_size e) (I.ok.xh x c P hc)))).trans w⟩
  .obtain⟨Z,w⟩:=I.base.there b o e B;exact⟨Z,(l.2 b (bQ (bC (V8.lt_size e) (I.ok.xh x c P hc)))).trans w⟩
  .by_cases F:j=i
   .subst F;rw[J]at w;cases w;rw[b0 iq]at C;cases C;exact⟨u,r,.inr ⟨.inl D,c,hc,rf⟩⟩
   .rw[bY (Ne.symm F)]at C;obtain⟨S,Y,q⟩:=hl j y R w C e3;refine⟨S,Y,?_⟩;rcases q with q| ⟨k,O,e,z'⟩
    .exact .inl q
    .refine .inr ⟨k,O,e,z'.sameBut l ?_⟩;rintro rfl;exact F (uL hN w (I.ok.inj _ _ _ e hc ▸ J))
  .by_cases rc:O=c
   .subst rc;exact⟨_,rf⟩
   .obtain⟨w2,z2⟩:=I.cell y O e;exact⟨w2,z2.sameBut l rc⟩
  .obtain⟨e,n,N,nf,d⟩:=I.pin p hp;refine⟨(l.2 p.1 ?_).trans e,n,N,nf,d⟩;intro q;rw[q,xx]at e;have q':oc=p.2:=bZ.inj e;exact d K (by rw[<-q'];exact uz)
theorem pW(I:Inv X aa σ H s)(l:X.N.Nodup)(j:X.N[i]?=some x)(d:Loc X.env.scope x)(r:RelV v u)
 (h:∀c,Inv X aa (σ.set i (some v)) H c->Q () c)(k:X.fn x=true\/X.env.scope.names.lookup x=some .local:=by first|exact .inl rfl|exact .inr rfl|assumption):Wa M A (storeName X.env x u) Q E s:=
 v6 I l j d r (λc m _=>h c m) k
theorem Inv.oy{s':V4}(I:Inv X aa σ H s)(k:s'.os=s.os)(u:Un (aA X.stack) ch H f s.heap s'.heap)(d:er X.prog X.w f s'.heap)(l:Xe s'.gens)
 (m:∀b∈ch,(b∈X.ex\/X.dq.heap.objs.size<=b)/\b≠X.env.locals/\(∀x c,X.env.cells.lookup x=some c->c≠b)/\∀p∈X.pn++aa,p.1≠b):Inv X aa σ f s':=by
 obtain⟨h',g',d',t',j⟩:=s';have e:j=s.os:=k;subst e;exact I.call (g':=g') (t':=t') (d':=d') u d l m
end
abbrev XK:=V3->Option V1->Hp->Prop
noncomputable abbrev St:=List Ui
abbrev VK:=V->Hp->Prop
abbrev TE:=St->Hp->VK->Prop
abbrev TT:=St->Hp->(Bool->Hp->Prop)->Prop
abbrev TA:=St->Hp->(Uh->Hp->Prop)->Prop
structure Ends where
 nx:St->Hp->Prop
 rt:VK
 bk:St->Hp->Prop:=λ_ _=>False
 ct:St->Hp->Prop:=λ_ _=>False
abbrev TS:=Ends->St->Hp->Prop
def EP(X:Cx)(i:List (V1×Obj))(d:St)(Q:VK)(u:V3)(f:V4):Prop:=∃v c,Inv X i d c f/\RelV v u/\Q v c
def TP(X:Cx)(i:List (V1×Obj))(d:St)(Q:Bool->Hp->Prop)(b:Bool)(f:V4):Prop:=∃c,Inv X i d c f/\Q b c
def AP(X:Cx)(j:List (V1×Obj))(d:St)(Q:Uh->Hp->Prop)(f:Uq)(i:V4):Prop:=∃vs c,Inv X j d c i/\au vs f/\Q vs c
def SP(X:Cx)(j:List (V1×Obj))(D:Ends)(f:Flow)(i:V4):Prop:=
 match f with
 | .next=>∃d c,Inv X j d c i/\D.nx d c
 | .brk=>∃d c,Inv X j d c i/\D.bk d c
 | .cont=>∃d c,Inv X j d c i/\D.ct d c
 | .ret u=>∃v d c,Inv X j d c i/\RelV v u/\D.rt v c
def PE(X:Cx)(e:Wg)(t:TE):Prop:=
 ∀(d:List (V1×Obj))(s:V4)(c:St)(H:Hp)(Q:VK),Inv X d c H s->t c H Q->Wa (Wb X.prog X.w) X.A (Wh e X.env) (EP X d c Q) X.xe s
def PT(X:Cx)(e:Wg)(t:TT):Prop:=
 ∀(d:List (V1×Obj))(s:V4)(c:St)(H:Hp)(Q:Bool->Hp->Prop),Inv X d c H s->t c H Q->Wa (Wb X.prog X.w) X.A (isTrue e X.env (Wh e X.env)) (TP X d c Q) X.xe s
def PW(X:Cx)(e:Wg)(t:TT):Prop:=
 ∀(c:Sem V3)(f:List (V1×Obj))(s:V4)(d:St)(H:Hp)(Q:Bool->Hp->Prop),Inv X f d H s->t d H Q->Wa (Wb X.prog X.w) X.A (isTrue e X.env c) (TP X f d Q) X.xe s
theorem PW.pt{X:Cx}{e:Wg}{t:TT}(h:PW X e t):PT X e t:=h _
def PA(X:Cx)(f:Uu)(t:TA):Prop:=
 ∀(pos:Pos)(d:List (V1×Obj))(s:V4)(c:St)(H:Hp)(Q:Uh->Hp->Prop),Inv X d c H s->t c H Q->Wa (Wb X.prog X.w) X.A (spliced (Wj pos (V2 f X.env))) (AP X d c Q) X.xe s
def PS(X:Cx)(st:WO)(t:TS):Prop:=
 ∀(d:List (V1×Obj))(s:V4)(c:St)(H:Hp)(D:Ends),Inv X d c H s->t D c H->Wa (Wb X.prog X.w) X.A (exec st X.env) (SP X d D) X.xe s
def jf(X:Cx)(st:List WO)(t:TS):Prop:=
 ∀(d:List (V1×Obj))(s:V4)(c:St)(H:Hp)(D:Ends),Inv X d c H s->t D c H->Wa (Wb X.prog X.w) X.A (execs st X.env) (SP X d D) X.xe s
theorem aC{c:Type}{t:Sem c}{Q d:c->V4->Prop}{M:Model}{A:We}{E:Ut}{s:V4}(h:Wa M A t Q E s)(f:∀a s,Q a s->d a s):Wa M A t d E s:=Wm h f λ_ _ x=>x
section
variable {X:Cx}
variable{x:Str}{pos:Pos}{E Q:Ut}{n:List (V1×Obj)}{s:V4}{f:St}{u:V3}{v:V}
noncomputable def yv(i:Nat):TE:=λf H Q=>∃v,f[i]?=some (some v)/\Q v H
noncomputable def tC(v:V):TE:=λ_ H Q=>Q v H
theorem Fu{i:Nat}(z:X.N[i]?=some x)(t:th X.env.scope x)(k:(x==("__debug__":Str))=false:=by decide)(A:(x==("__classdict__":Str))=false:=by decide):PE X (.Name x pos) (yv i):=by
 intro n s f H Q I h;obtain⟨v,e,h⟩:=h;obtain⟨m,w,hl⟩:=I.loc;obtain⟨u,r,l⟩:=hl i x v z e t;have j:EP X n f Q u s:=⟨v,H,I,r,h⟩;rcases l with⟨d,y⟩| ⟨d,c,q,p⟩
 .exact wpAny_Name (wpAny_loadName_local I.ok.kind d w y j) k
 .rcases d with d|d
  .exact wpAny_Name (wpAny_loadName_cell I.ok.kind d q p j) k
  .exact wpAny_Name (wpAny_loadName_free I.ok.kind d q p j A) k
theorem Fy{i j pos}:PE X (.Constant (.int i) j pos) (tC (.int i)):=λ_ _ _ H _ I h=>wpAny_Constant_int ⟨.int i,H,I.tok _,⟨_,rfl⟩,h⟩
theorem Kv{b j pos}:PE X (.Constant (.bool b) j pos) (tC (.bl b)):=λ_ _ _ H _ I h=>Constant_bool ⟨.bl b,H,I,rfl,h⟩
theorem LP{j pos}:PE X (.Constant .none j pos) (tC .bg):=λ_ _ _ H _ I h=>Constant_none ⟨.bg,H,I,rfl,h⟩
theorem Lc{x j pos}:PE X (.Constant (.str x) j pos) (tC (.str x)):=λ_ _ _ H _ I h=>Calls.Constant_str ⟨.str x,H,I.tok _,⟨_,rfl⟩,h⟩
def Gl(X:Cx)(x:Str):Prop:=X.env.kindOf x=some .globalImplicit
theorem mV{H:Hp}(I:Inv X n f H s)(d:Gl X x)(c:X.mg x=some u)(h:Q u s)
 (i:(x==("__debug__":Str))=false:=by decide):Wa (Wb X.prog X.w) X.A (Wh (.Name x pos) X.env) Q E s:=
 Calls.Name_function_global I.ok.kind d (Calls.loadGlobal_global (by rw[I.ok.glob];exact I.mod.glob.keeps I.bk) c h) i
theorem uT{H:Hp}(I:Inv X n f H s)(j:Gl X x)(i:X.mg x=none)(c:WN x=some u)(h:Q u s)
 (d:x≠"__name__":=by decide)(k:(x==("__debug__":Str))=false:=by decide):Wa (Wb X.prog X.w) X.A (Wh (.Name x pos) X.env) Q E s:=by
 obtain⟨p,m,l⟩:=I.mod.blt;exact Calls.Name_function_global I.ok.kind j (Calls.loadGlobal_builtin (by rw[I.ok.glob];exact I.mod.glob.keeps I.bk) i (by rw[I.ok.blt];exact m.keeps I.bk) ((l x d).trans c) h) k
theorem yG(d:Gl X x)(c:X.mg x=some u)(r:RelV v u)(i:(x==("__debug__":Str))=false:=by decide):PE X (.Name x pos) (tC v):=
 λ_ _ _ H _ I h=>mV I d c ⟨v,H,I,r,h⟩ i
theorem Pl(j:Gl X x)(i:X.mg x=none)(c:WN x=some u)(r:RelV v u)(d:x≠"__name__":=by decide)(k:(x==("__debug__":Str))=false:=by decide):PE X (.Name x pos) (tC v):=
 λ_ _ _ H _ I h=>uT I j i c ⟨v,H,I,r,h⟩ d k
variable {a b:Wg}{i j:TE}{pos:Pos}
def PC(X:Cx)(c:CmpOp)(a b:Wg)(t:TE):Prop:=
 ∀(n:List (V1×Obj))(s:V4)(f:St)(H:Hp)(Q:VK),Inv X n f H s->t f H Q->
  Wa (Wb X.prog X.w) X.A (Wh a X.env) (λv k=>Wa (Wb X.prog X.w) X.A (Wh b X.env) (λu d=>Wa (Wb X.prog X.w) X.A (Wt c v u) (EP X n f Q) X.xe d) X.xe k) X.xe s
noncomputable def tB(t:TE):TT:=λf H Q=>t f H λx d=>∃c,x=.bl c/\Q c d
theorem Hk{k:CmpOp}{t:TE}(h:PC X k a b t)(l:Wo k b=false:=by first|exact C _ (by decide) (by decide)|rfl):PT X (.Compare a [k] [b] pos) (tB t):=by
 intro n s f H Q I r;refine wpAny_isTrue_Compare1 (aC (h n s f H _ I r) λv B l=>aC l λu A w=>aC w λc e ⟨x,z,y,m,p⟩=>?_) l;obtain⟨d,rfl,q⟩:=p;cases m;exact WK ⟨z,y,q⟩
variable {tA d:TT}{rest:Uu}
noncomputable def Af(t u:TT):TT:=λf H Q=>t f H λc k=>if c=true then u f k Q else Q false k
noncomputable def FQ(t u:TT):TT:=λf H Q=>t f H λc k=>if c=true then Q true k else u f k Q
noncomputable def z5(t:TT):TT:=λf H Q=>t f H λc k=>Q (!c) k
theorem Oj(k:PT X a tA):PW X (.BoolOp .And [a] pos) tA:=by
 intro l n s f H Q I h;refine isTrue_and (aC (k n s f H Q I h) λc m e=>?_);cases c with
 |true=>exact isTrue_and_nil e
 |false=>exact e
theorem Lj(k:PT X a tA):PW X (.BoolOp .Or [a] pos) tA:=by
 intro l n s f H Q I h;refine isTrue_or (aC (k n s f H Q I h) λc m e=>?_);cases c with
 |false=>exact isTrue_or_nil e
 |true=>exact e
theorem MI(t:PT X a tA)(r:PW X (.BoolOp .And (b::rest) pos) d):PW X (.BoolOp .And (a::b::rest) pos) (Af tA d):=by
 intro p n s f H Q I h;refine isTrue_and (aC (t n s f H _ I h) λc q ⟨m,l,k⟩=>?_);cases c with
 |true=>exact r p n q f m Q l k
 |false=>exact⟨m,l,k⟩
theorem KW(t:PT X a tA)(r:PW X (.BoolOp .Or (b::rest) pos) d):PW X (.BoolOp .Or (a::b::rest) pos) (FQ tA d):=by
 intro p n s f H Q I h;refine isTrue_or (aC (t n s f H _ I h) λc q ⟨m,l,k⟩=>?_);cases c with
 |true=>exact⟨m,l,k⟩
 |false=>exact r p n q f m Q l k
theorem Kg(k:PT X a tA):PT X (.UnaryOp .Not a pos) (z5 tA):=by
 intro n s f H Q I h;exact isTrue_not (k n s f H (λc l=>Q (!c) l) I h)
noncomputable def q7(i j:TE):TE:=λf H Q=>i f H λx k=>∃c,x=.bl c/\if c=true then j f k Q else Q (.bl false) k
theorem Mn{c}{t:TE}(h:PE X a t):PE X (.BoolOp c [a] pos) t:=λn s f H Q I k=>BoolOp_one (h n s f H Q I k)
theorem Nl(w:PE X a i)(t:PE X (.BoolOp .And (b::rest) pos) j):PE X (.BoolOp .And (a::b::rest) pos) (q7 i j):=by
 intro n s f H Q I h;refine BoolOp_and (aC (w n s f H _ I h) λv q p=>?_);obtain⟨x,m,l,r,k⟩:=p;obtain⟨c,rfl,k⟩:=k;cases r;refine WK ?_;cases c with
 |true=>exact t n q f m Q l k
 |false=>exact⟨.bl false,m,l,rfl,k⟩
end
variable{x:V}{u:V3}
def dw(K:aK)(H:Hp)(a:V1)(xs:Uh):Prop:=
 Rd H a (.lst xs)\/
  ∃(o:Obj)(c:Array V3)(n:Nat),K.lookup a=some o/\o.cls=.type "list"/\o.dict=none/\o.data=.seq c n/\c.size<=sizeLine/\au xs c.toList
def fv(K:aK)(H:Hp)(a:V1)(xs:Uh):Prop:=
 Rd H a (.tup xs)\/
  ∃(o:Obj)(c:Array V3)(n:Nat),K.lookup a=some o/\o.cls=.type "tuple"/\o.data=.seq c n/\c.size<=sizeLine/\au xs c.toList
noncomputable def Em:V3->Ui
 | .none=>some .bg
 | .bool b=>some (.bl b)
 | .int i _=>some (.int i)
 | .str x _=>some (.str x)
 | .bytes b _=>some (.nq b)
 | .float b _=>some (.Cv b)
 | .ref a=>some (.ref a)
 | .type n=>some (.ty n)
 |_=>none
theorem RelV.abs(r:RelV x u):Em u=some x:=by
 cases x with
 |bg=>cases r;rfl
 |bl _=>cases r;rfl
 |int _=>obtain⟨t,rfl⟩:=r;rfl
 |str _=>obtain⟨t,rfl⟩:=r;rfl
 |nq _=>obtain⟨t,rfl⟩:=r;rfl
 |Cv _=>obtain⟨t,rfl⟩:=r;rfl
 |ref _=>cases r;rfl
 |ty _=>cases r;rfl
theorem RelV.inj{y:V}(r:RelV x u)(q:RelV y u):x=y:=bZ.inj (r.abs.symm.trans q.abs)
theorem au.inj:∀{xs c:Uh}{d:Uq},au xs d->au c d->xs=c
 |_,_,_,.nil,.nil=>rfl
 |_,_,_,.cons r t,.cons i f=>by rw[r.inj i,au.inj t f]
section
variable {X:Cx}{c:List (V1×Obj)}{f:St}{H:Hp}{s:V4}{a:V1}{xs i:Uh}
variable{K:aK}
theorem dw.of(h:H a=some (.lst xs)):dw K H a xs:=.inl (.inl h)
theorem fv.of(h:H a=some (.tup xs)):fv K H a xs:=.inl (.inl h)
theorem Inv.list(I:Inv X c f H s)(h:dw X.K H a xs):∃d:Uq,au xs d/\PlainL s.heap a d.toArray/\xs.length<=sizeLine:=by
 rcases h with h| ⟨o,d,n,k,m,l,j,p,r⟩
 .obtain⟨z,d,n,r,e⟩:=h.ok I.aF;exact⟨d,r,⟨_,n,e,rfl,rfl,rfl⟩,z⟩
 .refine⟨d.toList,r,⟨o,n,I.gh a o k,m,l,by simpa using j⟩,?_⟩;have e:=r.length;simp only[dH]at e;lia
theorem Inv.tuple(I:Inv X c f H s)(h:fv X.K H a xs):∃d:Uq,au xs d/\IsTup s.heap a d.toArray/\xs.length<=sizeLine:=by
 rcases h with h| ⟨o,d,n,k,l,j,m,r⟩
 .obtain⟨z,d,r,p⟩:=h.ok I.aF;exact⟨d,r,p,z⟩
 .refine⟨d.toList,r,⟨o,I.gh a o k,l,n,by simpa using j⟩,?_⟩;have e:=r.length;simp only[dH]at e;lia
theorem Inv.g6(I:Inv X c f H s)(h:dw X.K H a xs)(q:dw X.K H a i):xs=i:=by
 obtain⟨k,r,⟨o,n,e,_,_,d⟩,_⟩:=I.list h;obtain⟨j,p,⟨v,w,l,_,_,m⟩,_⟩:=I.list q;rw[e]at l;cases l;rw[d]at m;injection m with t _
 have:k=j:=by simpa using congrArg VV t
 subst this;exact r.inj p
theorem Inv.lx(I:Inv X c f H s)(h:fv X.K H a xs)(q:fv X.K H a i):xs=i:=by
 obtain⟨k,r,⟨o,e,_,n,d⟩,_⟩:=I.tuple h;obtain⟨j,p,⟨v,l,_,w,m⟩,_⟩:=I.tuple q;rw[e]at l;cases l;rw[d]at m;injection m with t _
 have:k=j:=by simpa using congrArg VV t
 subst this;exact r.inj p
end
noncomputable abbrev Cx.br(X:Cx)(E:Ut):Cx:={X with xe:=E}
abbrev Cx.w1(X:Cx):Cx:=X.br λ_ _=>False
theorem Cx.Ok.br{X:Cx}(ok:X.Ok)(E:Ut):(X.br E).Ok:=
 ⟨ok.mod,ok.kind,ok.glob,ok.blt,ok.above,ok.inj,ok.has,ok.xh,ok.hd,ok.frames,ok.Ag,ok.BI,ok.bs,ok.oz,ok.l1,ok.ki,ok.fk,ok.qm⟩
theorem Cx.Ok.ek{X:Cx}{E:Ut}(ok:(X.br E).Ok):X.Ok:=
 ⟨ok.mod,ok.kind,ok.glob,ok.blt,ok.above,ok.inj,ok.has,ok.xh,ok.hd,ok.frames,ok.Ag,ok.BI,ok.bs,ok.oz,ok.l1,ok.ki,ok.fk,ok.qm⟩
section
variable {X:Cx}{c:List (V1×Obj)}{d:St}{H:Hp}{s:V4}{E:Ut}
theorem Inv.br(I:Inv X c d H s)(E:Ut):Inv (X.br E) c d H s:=⟨I.ok.br E,I.os,I.bare,I.base,I.loc,I.cell,I.free,I.cz,I.pin,I.aF,I.len⟩
theorem Inv.ek(I:Inv (X.br E) c d H s):Inv X c d H s:=⟨I.ok.ek,I.os,I.bare,I.base,I.loc,I.cell,I.free,I.cz,I.pin,I.aF,I.len⟩
theorem SP.ek{D:Ends}{f:Flow}{k:V4}(h:SP (X.br E) c D f k):SP X c D f k:=by
 cases f with
 |next=>obtain⟨i,j,I,q⟩:=h;exact⟨i,j,I.ek,q⟩
 |brk=>obtain⟨i,j,I,q⟩:=h;exact⟨i,j,I.ek,q⟩
 |cont=>obtain⟨i,j,I,q⟩:=h;exact⟨i,j,I.ek,q⟩
 |ret u=>obtain⟨v,i,j,I,r,q⟩:=h;exact⟨v,i,j,I.ek,r,q⟩
theorem jf.w1{st:List WO}{t:TS}(h:jf X.w1 st t):jf X st t:=λc s d H D I f=>
 Wm (h c s d H D (I.br _) f) (λ_ _ q=>q.ek) λ_ _ z=>False.elim z
end
section
variable {X:Cx}{st:WO}{rest:List WO}{t u:TS}{e:Wg}{i:TE}{pos:Pos}
noncomputable def qy:TS:=λD c H=>D.nx c H
noncomputable def zl(t u:TS):TS:=λD c H=>t {D with nx:=u D} c H
theorem OB:jf X [] qy:=λ_ _ c H _ I h=>W4 ⟨c,H,I,h⟩
theorem Rw(l:PS X st t)(k:jf X rest u):jf X (st::rest) (zl t u):=by
 intro c s d H D I h;refine wpAny_execs_cons (aC (l c s d H {D with nx:=u D} I h) λf j q=>?_);cases f with
 |next=>
  obtain⟨m,p,n,q⟩:=q;exact k c j m p D n q
 |ret v=>exact q
 |brk=>exact q
 |cont=>exact q
theorem NB(d:PS X st t):jf X [st] t:=by
 intro j s c H D I h;refine wpAny_execs_cons (aC (d j s c H D I h) λf k q=>?_);cases f with
 |next=>exact W4 q
 |ret v=>exact q
 |brk=>exact q
 |cont=>exact q
theorem Inv.quiet{d:List (V1×Obj)}{c:St}{H:Hp}{s:V4}(I:Inv X d c H s):interactive X.env=false:=by simp[interactive,I.ok.kind]
noncomputable def E1(i:TE):TS:=λD c H=>i c H λ_ d=>D.nx c d
theorem tI(j:PE X e i)(f:Wy e none pos.line X.env=pure false:=by rfl):PS X (.Expr e pos) (E1 i):=by
 intro k s c H D I h;exact wpAny_Expr_any (aC (j k s c H _ I h) λv n ⟨x,m,l,p,d⟩=>⟨c,m,l,d⟩) I.quiet f
def zz(i:TE):TS:=λD c H=>i c H D.rt
theorem GX(j:PE X e i):PS X (.Return (some e) pos) (zz i):=by
 intro k s c H D I h;exact wpAny_Return_some (aC (j k s c H _ I h) λv n ⟨x,m,l,d,f⟩=>⟨x,c,m,l,d,f⟩)
noncomputable def Ac(c:TT)(t u:TS):TS:=λD d H=>c d H λb f=>if b=true then t D d f else u D d f
theorem Kq{c:Wg}{a b:List WO}{k:TT}(q:PT X c k)(v:jf X a t)(r:jf X b u):PS X (.If c a b pos) (Ac k t u):=by
 intro j s f H D I h;refine wpAny_If (aC (q j s f H _ I h) λd l ⟨p,n,m⟩=>?_);cases d with
 |true=>exact v j l f p D n m
 |false=>exact r j l f p D n m
end
abbrev TG:=V->St->Hp->(St->Hp->Prop)->Prop
abbrev qq:=Uh->St->Hp->(St->Hp->Prop)->Prop
def PG(X:Cx)(c:Wg)(t:TG):Prop:=
 ∀(i:List (V1×Obj))(s:V4)(d:St)(H:Hp)(v:V)(u:V3)(Q:St->Hp->Prop),Inv X i d H s->RelV v u->t v d H Q->
  Wa (Wb X.prog X.w) X.A (W6 c X.env u) (λ_ k=>∃f j,Inv X i f j k/\Q f j) X.xe s
def yj(X:Cx)(k:Uu)(t:qq):Prop:=
 ∀(i:List (V1×Obj))(s:V4)(c:St)(H:Hp)(vs:Uh)(d:Uq)(Q:St->Hp->Prop),Inv X i c H s->au vs d->t vs c H Q->
  Wa (Wb X.prog X.w) X.A (assignInOrder ((Wu k X.env).map (·.2)) d) (λ_ l=>∃f j,Inv X i f j l/\Q f j) X.xe s
abbrev Ey:=V->V->V->Hp->(Hp->Prop)->Prop
def Cb(X:Cx)(t:Ey):Prop:=
 ∀(j:List (V1×Obj))(s:V4)(c:St)(H:Hp)(o i v:V)(d f u:V3)(Q:Hp->Prop),Inv X j c H s->RelV o d->RelV i f->RelV v u->t o i v H Q->
  Wa (Wb X.prog X.w) X.A (setItem d f u) (λ_ l=>∃k,Inv X j c k l/\Q k) X.xe s
section
variable {X:Cx}{pos:Pos}
variable{i:Nat}{e:Wg}{c:Uu}{d:TE}
noncomputable def qA(i:Nat):TG:=λv f H Q=>Q (f.set i (some v)) H
theorem HW{x:Str}(l:X.N.Nodup)(j:X.N[i]?=some x)(f:Loc X.env.scope x)(k:X.fn x=true\/X.env.scope.names.lookup x=some .local:=by first|exact .inl rfl|exact .inr rfl|assumption):PG X (.Name x pos) (qA i):=by
 intro q s n H v u Q I r h;exact wpAny_assign_Name (pW I l j f r (λp m=>⟨_,H,m,h⟩) k)
noncomputable def Cz:qq:=λvs f H Q=>vs=[]/\Q f H
noncomputable def CY(t:TG)(u:qq):qq:=λvs f H Q=>∃v r,vs=v::r/\t v f H λj k=>u r j k Q
theorem Pf:yj X [] Cz:=by
 intro k s f H vs j Q I r h;obtain⟨e,h⟩:=h;subst e;cases r;exact assignInOrder_nil ⟨f,H,I,h⟩
theorem SO{t:TG}{u:qq}(q:PG X e t)(p:yj X c u)
 (n:(Wu (e::c) X.env).map (·.2)=W6 e X.env::(Wu c X.env).map (·.2):=by rfl):yj X (e::c) (CY t u):=by
 intro f s j H vs B Q I r h;obtain⟨v,vr,w,h⟩:=h;subst w;cases r with
 |cons r rr=>
  rw[n];refine assignInOrder_cons (aC (q f s j H _ _ _ I r h) λ_ l k=>?_);obtain⟨y,A,z,m⟩:=k;exact p f l y A _ _ Q z rr m
noncomputable def Eg(K:aK)(n:Nat)(t:qq):TG:=λv f H Q=>∃a xs,v=.ref a/\fv K H a xs/\xs.length=n/\t xs f H Q
theorem Lv{k:Nat}{t:qq}{n:Nat}(A:X.calm=true)(h:yj X c t)
 (z:(Wu c X.env).length=n:=by rfl)(D:(Wu c X.env).findIdx? (·.1)=none:=by rfl):PG X (.Tuple c k pos) (Eg X.K n t):=by
 intro m s j H v u Q I r f;obtain⟨a,xs,C,y,hl,f⟩:=f;subst C;cases r;obtain⟨p,l,w,G⟩:=I.tuple y;refine assign_Tuple_tuple (I.ok.hd A) w (by simp[z,<-hl,l.length]) D λB q=>?_;have F:Inv X m j H {s with heap:=B}:=I.kept (t':=s.toks) λb o e=>q b o (bQ (V8.lt_size e)) e;exact h m _ j H xs _ Q F (by simpa using l) f
noncomputable def Bw(j k:TE)(t:Ey):TG:=λv f H Q=>j f H λo n=>k f n λi m=>t o i v m λl=>Q f l
theorem LO{o i:Wg}{n p:TE}{t:Ey}(G:PE X o n)(J:PE X i p)(F:Cb X t)
 (K:∀v,W6 (.Subscript o i pos) X.env v=(do
  let f<-W7 [v] (Wh o X.env)
  let j<-W7 [v,f] (Wh i X.env)
  standAt pos
  W7 [v,f,j] (setItem f j v)
  release [v,f,j] []):=by intro _;rfl):PG X (.Subscript o i pos) (Bw n p t):=by
 intro m s k H v u Q I r h;rw[K];refine V0 (Wq (aC (G m s k H _ I h) λf w l=>?_));obtain⟨x,S,O,A,D⟩:=l;refine V0 (Wq (aC (J m w k S _ O D) λj q l=>?_));obtain⟨y,R,N,z,C⟩:=l;refine V0 (Xa (V0 (Wq (aC (F m q k R x y v f j u _ N A z r C) λ_ U ⟨P,M,B⟩=>?_))));exact wpAny_release ⟨k,P,M,B⟩
noncomputable def vz(d:TE)(g:TG):TS:=λD f H=>d f H λx j=>g x f j D.nx
theorem GQ{f:Wg}{g:TG}(w:PE X e d)(t:PG X f g)(r:swapsWithSole [f] e pos.line X.env=pure false:=by rfl)(p:swappedStores [f] e X.env=pure none:=by rfl)
 (y:(Wu [f] X.env).map (·.2)=[W6 f X.env]:=by rfl):PS X (.Assign [f] e pos) (vz d g):=by
 intro k s j H D I h;refine wpAny_Assign_stores (aC (w k s j H _ I h) λv l ⟨x,A,z,m,n⟩=>?_) r p;rw[y];exact aC (t k l j A x v _ z m n) λ_ B q=>q
theorem Hn{x:Str}{f:Pos}(t:X.N.Nodup)(p:X.N[i]?=some x)(m:Loc X.env.scope x)(r:PE X e d)(n:Wy e (some (.Name x f)) pos.line X.env=pure false:=by rfl)(q:X.fn x=true\/X.env.scope.names.lookup x=some .local:=by first|exact .inl rfl|exact .inr rfl|assumption):
 PS X (.Assign [.Name x f] e pos) (vz d (qA i)):=by
 intro w s j H D I h;refine wpAny_Assign_Name (aC (r w s j H _ I h) λv F ⟨y,B,A,k,l⟩=>?_) n;exact pW A t p m k (λC z=>⟨_,B,z,l⟩) q
end
section
variable {X:Cx}{pos:Pos}
def oa(c:TT)(l:TS):TS:=λD d H=>∃W:Nat->St->Hp->Prop,(∃m,W m d H)/\∀m d H,W m d H->
 c d H λb j=>if b=true then∃N:St->Hp->Prop,(∀i k,N i k->∃f,f<m/\W f i k)/\l {D with nx:=N,ct:=N,bk:=D.nx} d j else D.nx d j
theorem Py{c:Wg}{body:List WO}{y:TT}{z:TS}(hp:WB (Wb X.prog X.w) X.A X.env X.xe)(S:PT X c y)(U:jf X body z):PS X (.While c body [] pos) (oa y z):=by
 intro t s J H D I h;obtain⟨W,⟨R,M⟩,d⟩:=h;refine wpAny_While (codeAny_whileLoop (λn Q=>∃A G,Inv X t A G Q/\W n A G) ?_ R ⟨J,H,I,M⟩);rintro n P ⟨m,F,Y,K⟩;refine WI hp (aC (S t P m F _ Y (d n m F K)) λb O ⟨C,B,l⟩=>?_);cases b with
 |true=>
  obtain⟨N,e,l⟩:=l;rw[V6 rfl];refine WI hp (aC (U t O m C _ B l) λf Z k=>?_);cases f with
  |next=>
   obtain⟨i,j,w,p⟩:=k;obtain⟨q,r,w3⟩:=e i j p;exact⟨q,r,i,j,w,w3⟩
  |cont=>
   obtain⟨i,j,w,p⟩:=k;obtain⟨q,r,w3⟩:=e i j p;exact⟨q,r,i,j,w,w3⟩
  |brk=>exact k
  |ret v=>exact k
 |false=>
  rw[V9 bU];exact W4 ⟨m,C,B,l⟩
end
variable{s:V4}{tg:Wg}{P:Wd}{w:Wf}{K:aK}
structure It where
 go:Nat->Hp->Prop
 n3:Nat->Hp->V->Hp->Prop
 stop:Nat->Hp->Prop
def oQ(X:Cx)(aa:List (V1×Obj))(H:Hp)(b:V1):Prop:=
 H b=none/\b≠X.env.locals/\b∉X.fs/\(b∈X.ex\/X.dq.heap.objs.size<=b)/\(∀x c,X.env.cells.lookup x=some c->c≠b)/\∀p∈X.pn++aa,p.1≠b
theorem Inv.l2{X:Cx}{f:List (V1×Obj)}{j:St}{H i:Hp}{b:V1}(I:Inv X f j H s)(d:s.heap.objs.size<=b)(k:i b=none):oQ X f i b:=by
 refine⟨k,UR (bC I.lt d),I.D4 d,.inr (aX I.sz d),λx c e z=>?_,λp hp z=>?_⟩
 .obtain⟨v,q⟩:=I.cell x c e;exact absurd (bC q.lt (by rw[z];exact d)) (cE _)
 .exact absurd (bC (V8.lt_size (I.pin p hp).1) (by rw[z];exact d)) (cE _)
structure Turn(P:Wd)(w:Wf)(K:aK)(tg:Wg)(J:It)(fp:List V1)(it:V1)(tn:Nat->V8->Prop):Prop where
 mem:it∈fp
 obj:∀i h,tn i h->∀b∈fp,∃o,h.get? b=some o/\∀v,o.data≠ .cell v
 keep:∀i h h',tn i h->(∀b∈fp,∀o,h.get? b=some o->h'.get? b=some o)->tn i h'
 item:∀(X:Cx),X.prog=P->X.w=w->X.K=K->X.calm=true->∀(i:Nat)(aa:List (V1×Obj))(s:V4)(σ:St)(H:Hp)(E:Ut),Inv X aa σ H s->(∀b∈fp,oQ X aa H b)->tn i s.heap->J.go i H->
  Wa (Wb P w) X.A (W8 (.ref it)) (λr s1=>∃u,r=some u/\
   Wa (Wb P w) X.A (W5 tg (.ref it) u) (λ_ s2=>∃x H',Inv X aa σ H' s2/\RelV x u/\J.n3 i H x H'/\tn (i+1) s2.heap/\∀b∈fp,H' b=none) E s1) E s
 done:∀(X:Cx),X.prog=P->X.w=w->X.K=K->X.calm=true->∀(i:Nat)(aa:List (V1×Obj))(s:V4)(σ:St)(H:Hp)(E:Ut),Inv X aa σ H s->(∀b∈fp,oQ X aa H b)->tn i s.heap->J.stop i H->
  Wa (Wb P w) X.A (W8 (.ref it)) (λr s1=>r=none/\Inv X aa σ H s1) E s
 self:∀(A:We)(i:Nat)(s:V4)(Q:Ut)(E:Ut),tn i s.heap->Q (.ref it) s->Wa (Wb P w) A (pyIter (.ref it)) Q E s
abbrev TI:=St->Hp->(It->Hp->Prop)->Prop
def IZ(X:Cx)(k:List (V1×Obj))(l:St)(tg:Wg)(R:It->Hp->Prop)(m:V3)(f:V4):Prop:=
 ∃(i:V1)(j:List V1)(d:Nat->V8->Prop)(J:It)(c:Hp),m=.ref i/\Inv X k l c f/\Turn X.prog X.w X.K tg J j i d/\d 0 f.heap/\(∀b∈j,oQ X k c b)/\R J c
def PI(X:Cx)(tg iter:Wg)(f:TI):Prop:=
 ∀(d:List (V1×Obj))(s:V4)(c:St)(H:Hp)(R:It->Hp->Prop),Inv X d c H s->f c H R->
  Wa (Wb X.prog X.w) X.A (Wh iter X.env) (λv i=>Wa (Wb X.prog X.w) X.A (pyIter v) (IZ X d c tg R) X.xe i) X.xe s
theorem CP{M:Model}{A:We}{E:Ut}{d:V1}{u:V3}{o:Obj}{n:String}{vs:Array V3}{Q:Unit->V4->Prop}(f:s.heap.get? d=some o)(k:o.cls=.type n)(j:o.data=.fields vs)
 (i:["enumerate","zip","dict_itemiterator","dict_reverseitemiterator","odict_iterator","itertools.zip_longest","itertools.pairwise"].contains n=false)(c:Q () s):Wa M A (W5 tg (.ref d) u) Q E s:=by
 unfold W5;cases tg<;>first
  |exact V7 c
  | (cases u<;>first
   |exact V7 c
   | (refine V0 (wpAny_load f ?_)
      rw[k,j];show Wa M A (if(["enumerate","zip","dict_itemiterator","dict_reverseitemiterator","odict_iterator","itertools.zip_longest","itertools.pairwise"].contains n&&vs[0]?==some (WY _))=true then _ else _) Q E s;rw[V9 (by intro h;rw[i,eB]at h;cases h)];exact V7 c))
noncomputable def FF(K:aK)(a:V1):It:=
 ⟨λi H=>∃xs x,dw K H a xs/\xs[i]?=some x,λi H x c=>c=H/\∀xs,dw K H a xs->xs[i]?=some x,λi H=>∃xs,dw K H a xs/\xs.length<=i⟩
noncomputable def C9(lo:Int)(n:Nat):It:=⟨λi _=>i<n,λi H x c=>c=H/\x=.int (lo+i),λi _=>n<=i⟩
theorem S8(a f:V1):Turn P w K tg (FF K a) [f] f (λi h=>h.IsListIter f a i) where
 mem:=by simp
 obj:=λi h st b j=>by
  have e:b=f:=by simpa using j
  subst e;obtain⟨o,e,c,d⟩:=st;exact⟨o,e,λv z=>by rw[d]at z;cases z⟩
 keep:=λi h n st k=>st.at λo e=>k f (by simp) o e
 item:=by
  intro X B y C N i Q s M H E I m st A;subst B y C;obtain⟨xs,x,l,t⟩:=A;obtain⟨r,q,p,U⟩:=I.list l;obtain⟨u,Z,S⟩:=q.get t;obtain⟨J,f1,f2,G,F,D⟩:=m f (by simp);refine wpAny_pyNext_list_item st p.isList (x:=u) (by simpa using Z) λn O R=>?_;have I1:Inv X Q M H {s with heap:=n}:=I.turned (t':=s.toks) (λb o j e=>(R.2 b j).trans e) J f1 G F D;obtain⟨o,e,c,d⟩:=id O;exact⟨u,rfl,CP (s:={s with heap:=n}) e c d (by decide) ⟨x,H,I1,S,⟨rfl,λys Y=>by rw[I.g6 Y l];exact t⟩,O,λb j=>(m b j).1⟩⟩
 done:=by
  intro X B y C N i Q s M H E I m st A;subst B y C;obtain⟨xs,l,t⟩:=A;obtain⟨r,q,p,U⟩:=I.list l;obtain⟨J,f1,f2,G,F,D⟩:=m f (by simp);have hl:=q.length;exact wpAny_pyNext_list_end (I.ok.hd N) st p.isList (by simp;lia) λn eb=>⟨rfl,I.turned (t':=s.toks) (λb o j e=>eb b o j e) J f1 G F D⟩
 self:=λ_ _ _ _ _ st h=>wpAny_pyIter_listiter st h
theorem Tf(c:V1)(lo:Int)(n:Nat):Turn P w K tg (C9 lo n) [c] c (λi h=>IsRangeIter h c (lo+(i:Nat)*1) ((n:Int) - (i:Nat)) 1) where
 mem:=by simp
 obj:=λi h st b d=>by
  have e:b=c:=by simpa using d
  subst e;exact⟨_,st,λv z=>by
   have J:Data.fields _=Data.cell v:=z;cases J⟩
 keep:=λi h j st k=>k c (by simp) _ st
 item:=by
  intro X q l r p i G s D H E I f st m;subst q l r;obtain⟨C,f1,f2,B,A,y⟩:=f c (by simp);have W:=Walks.range (prog:=X.prog) (w:=X.w) (I.ok.hd p) c lo 1 n;refine W.item i s _ _ m st λv j tk N F M=>?_;obtain⟨t,rfl⟩:=N;have Q:Inv X G D H {s with heap:=j,toks:=tk}:=I.turned (λb o d e=>M b o (by simpa using d) e) C f1 B A y;refine⟨_,rfl,CP (s:={s with heap:=j,toks:=tk}) (n:="range_iterator") F rfl rfl (by decide) ⟨.int (lo+i),H,Q,⟨t,?_⟩,⟨rfl,rfl⟩,F,λb d=>(f b d).1⟩⟩;rw[Int.mul_one]
 done:=by
  intro X q l r p i G s D H E I f st m;subst q l r;obtain⟨C,f1,f2,B,A,y⟩:=f c (by simp);exact wpAny_pyNext_range_end (I.ok.hd p) st (by have:n<=i:=m;lia) λj O=>⟨rfl,I.turned (t':=s.toks) (λb o d e=>O b o d e) C f1 B A y⟩
 self:=λ_ _ _ _ _ st h=>wpAny_pyIter_rangeiter st h
section
variable {X:Cx}{tg:Wg}
variable{y:List (V1×Obj)}{c:St}{pos:Pos}{A:List V1}
def E8(K:aK)(f:TE):TI:=λc H R=>f c H λx d=>∃a,x=.ref a/\(∃xs,dw K d a xs)/\R (FF K a) d
theorem sX{l:Wg}{i:TE}(hl:PE X l i):PI X tg l (E8 X.K i):=by
 intro y s c H R I h;refine aC (hl y s c H _ I h) λv d j=>?_;obtain⟨x,z,f,k,m⟩:=j;obtain⟨a,e,⟨xs,r⟩,q⟩:=m;subst e;cases k;obtain⟨n,B,p,C⟩:=f.list r;refine W9 p.isList ?_;refine⟨d.heap.objs.size,[d.heap.objs.size],_,_,z,rfl,f.kept (t':=d.toks) λb o e=>V8.get?_push_of_some _ e,S8 a _,⟨_,V8.get?_push_size _ rfl,rfl,rfl⟩,λb t=>?_,q⟩;have e:b=d.heap.objs.size:=by simpa using t
 subst e;exact f.l2 (bI _) (f.aF.fresh (bI _))
theorem Rm{H:Hp}{s:V4}{R:It->Hp->Prop}{E:Ut}{lo d:Int}{t u v:Tok}{tk:Nat}(I:Inv X y c H s)(m: -(2^62)<=lo)(l:lo<2^62)(k: -(2^62)<=d)(j:d<2^62)
 (q:R (C9 lo (d - lo).toNat) H):Wa (Wb X.prog X.w) X.A (pyIter (.ref s.heap.objs.size)) (IZ X y c tg R) E {s with heap:=s.heap.push {cls:=.type "range",data:=.fields #[.int lo t,.int d u,.int 1 v]},toks:=tk}:=by
 refine wpAny_pyIter_range (IsRange.new ..) (small_one m l k j) ?_;have f:Inv X y c H {s with heap:=s.heap.push {cls:=.type "range",data:=.fields #[.int lo t,.int d u,.int 1 v]},toks:=tk}:=I.kept λb o e=>V8.get?_push_of_some _ e;refine⟨(s.heap.push {cls:=.type "range",data:=.fields #[.int lo t,.int d u,.int 1 v]}).objs.size,[(s.heap.push {cls:=.type "range",data:=.fields #[.int lo t,.int d u,.int 1 v]}).objs.size],_,_,H,rfl,
  f.kept (t':=tk) λb o e=>V8.get?_push_of_some _ e,Tf _ lo (d - lo).toNat,?_,λb i=>?_,q⟩
 .have p:lo+((0:Nat):Int)*1=lo:=by simp
  have n:(((d - lo).toNat:Nat):Int) - ((0:Nat):Int)=Wc.Range.rangeSize lo d 1:=by rw[rangeSize_one];split<;>lia
  show IsRangeIter _ _ (lo+((0:Nat):Int)*1) ((((d - lo).toNat:Nat):Int) - ((0:Nat):Int)) 1;rw[p,n];exact V8.get?_push_size _ rfl
 .have e:b=(s.heap.push {cls:=.type "range",data:=.fields #[.int lo t,.int d u,.int 1 v]}).objs.size:=by simpa using i
  subst e;exact f.l2 (bI _) (f.aF.fresh (bI _))
def E2(d:TA):TI:=λc H R=>d c H λvs f=>∃j:Int,vs=[.int j]/\ -(2^62)<=j/\j<2^62/\R (C9 0 j.toNat) f
theorem rK{a:Wg}{f:TA}{p:Pos}(n:Gl X "range")(m:X.mg "range"=none)(v:PA X [a] f)(l:V2 [a] X.env=[(false,Wh a X.env)]:=by rfl):PI X tg (.Call (.Name "range" p) [a] [] pos) (E2 f):=by
 intro y s c H R I h;refine Call_ (uT I n m boot_range (dQ (aC (v pos y s c H _ I h) λB C ⟨vs,D,z,i,d⟩=>?_) l rfl));obtain⟨j,e,d,k,q⟩:=d;subst e;cases i with
 |cons r rr=>
  cases rr;obtain⟨t,rfl⟩:=r;exact call_range_1 (Rm z (by lia) (by lia) d k (by simpa using q))
def Eu(k:TI)(g:TG)(l:TS):TS:=λD c H=>k c H λJ q=>∃W:Nat->Nat->St->Hp->Prop,(∃m,W 0 m c q)/\∀i m c H,W i m c H->
 (J.stop i H/\D.nx c H)\/(J.go i H/\∃N:St->Hp->Prop,(∀j d,N j d->∃f,f<m/\W (i+1) f j d)/\∀x d,J.n3 i H x d->g x c d λn p=>l {D with nx:=N,ct:=N,bk:=D.nx} n p)
noncomputable def rW(A:List V1)(h:V8):List (V1×Obj):=A.filterMap λb=>(h.get? b).map λo=>(b,o)
theorem k7{h:V8}{b:V1}{o:Obj}(d:b∈A)(e:h.get? b=some o):(b,o)∈rW A h:=dA.mpr ⟨b,d,by rw[e];rfl⟩
theorem Su{h:V8}{p:V1×Obj}(hp:p∈rW A h):p.1∈A/\h.get? p.1=some p.2:=by
 obtain⟨b,d,e⟩:=dA.mp hp;cases q:h.get? b with
 |none=>rw[q]at e;cases e
 |some o=>
  rw[q]at e;have f:(b,o)=p:=bZ.inj e;subst f;exact⟨d,q⟩
theorem Inv.pinned{H:Hp}{s:V4}(I:Inv X y c H s)(k:∀b∈A,oQ X y H b)(j:∀b∈A,∃o,s.heap.get? b=some o/\∀v,o.data≠ .cell v):Inv X (y++rW A s.heap) c H s:=
 I.lg λp hp=>(f8 hp).elim (λz=>I.pin p (bM _ z)) λz=>by
  obtain⟨f,e⟩:=Su z;obtain⟨l,f1,f2,_⟩:=k p.1 f;obtain⟨o,i,d⟩:=j p.1 f;rw[e]at i;cases i;exact⟨e,l,f1,f2,d⟩
theorem Inv.el{pl:List (V1×Obj)}{H:Hp}{s:V4}(I:Inv X (y++pl) c H s):Inv X y c H s:=I.lg λp hp=>I.pin p (bM _ (eQ _ hp))
theorem Hg{iter:Wg}{body:List WO}{Y:TI}{g:TG}{E:TS}(hp:WB (Wb X.prog X.w) X.A X.env X.xe)(hc:X.calm=true)(hi:PI X tg iter Y)(hg:PG X tg g)(j:jf X body E)
 (hs:∀x,Wi iter X.env x=pure x:=by intro _;rfl):PS X (.For tg iter body [] pos) (Eu Y g E):=by
 intro y s c H D I h;refine wpAny_For (aC (hi y s c H _ I h) λv s1 h1=>aC h1 λnj s2 h2=>?_) hs;obtain⟨it,A,Z,J,H2,e,I2,T,fq,f2,W,⟨m0,w0⟩,z⟩:=h2;subst e;have U:∀{q:Hp},(∀b∈A,q b=none)->∀b∈A,oQ X y q b:=λhn b j=>⟨hn b j,(f2 b j).2⟩;refine codeAny_forLoop_any (λn s'=>∃i G q,Inv X y G q s'/\Z i s'.heap/\(∀b∈A,q b=none)/\W i n G q) ?_ m0 ⟨0,c,H2,I2,fq,λb j=>(f2 b j).1,w0⟩;rintro n s3 ⟨i,F,M,I3,kb,lm,w3⟩;rcases z i n F M w3 with⟨B,qn⟩| ⟨go,N,hN,step⟩
 .refine WI hp (aC (T.done X rfl rfl rfl hc i y s3 F M X.xe I3 (U lm) kb B) λr s4 ⟨S,I4⟩=>?_);subst S;exact W4 ⟨F,M,I4,qn⟩
 .refine WI hp (aC (T.item X rfl rfl rfl hc i y s3 F M X.xe I3 (U lm) kb go) λr s4 ⟨u,S,h4⟩=>?_);subst S;refine WI hp (aC h4 λ_ s5 O=>?_);obtain⟨x,H5,I5,r5,y5,R,pj⟩:=O;have lr:=I5.pinned (U pj) (T.obj _ _ R);refine WI hp (aC (hg _ s5 F H5 x u _ lr r5 (step x H5 y5)) λ_ s6 O=>?_);obtain⟨gx,H6,I6,q6⟩:=O;refine WI hp (aC (j _ s6 gx H6 _ I6 q6) λf Q t=>?_);have again:∀{k:St}{p:Hp},Inv X (y++rW A s5.heap) k p Q->N k p->∃m,m<n/\∃i G q,Inv X y G q Q/\Z i Q.heap/\(∀b∈A,q b=none)/\W i m G q:=λ{k p} l C=>by
   obtain⟨m',hm,w7⟩:=hN k p C;refine⟨m',hm,i+1,k,p,l.el,T.keep _ _ _ R λb j o e=>(l.pin (b,o) (bM _ (bM _ (k7 j e)))).1,λb j=>?_,w7⟩;obtain⟨o,e,d⟩:=T.obj _ _ R b j;exact(l.pin (b,o) (bM _ (bM _ (k7 j e)))).2.1
  cases f with
  |next=>obtain⟨k,p,l,C⟩:=t;exact again l C
  |cont=>obtain⟨k,p,l,C⟩:=t;exact again l C
  |brk=>obtain⟨k,p,l,t⟩:=t;exact⟨k,p,l.el,t⟩
  |ret v=>obtain⟨x7,k,p,l,r7,t⟩:=t;exact⟨x7,k,p,l.el,r7,t⟩
end
abbrev R2:=V->V->Hp->VK->Prop
def gm(X:Cx)(f:V3->V3->Sem V3)(r:R2):Prop:=
 ∀(d:List (V1×Obj))(s:V4)(c:St)(H:Hp)(x y:V)(v u:V3)(Q:VK),Inv X d c H s->RelV x v->RelV y u->r x y H Q->
  Wa (Wb X.prog X.w) X.A (f v u) (EP X d c Q) X.xe s
def FA(X:Cx)(f:V3->Sem V3)(r:V->Hp->VK->Prop):Prop:=
 ∀(d:List (V1×Obj))(s:V4)(c:St)(H:Hp)(x:V)(v:V3)(Q:VK),Inv X d c H s->RelV x v->r x H Q->
  Wa (Wb X.prog X.w) X.A (f v) (EP X d c Q) X.xe s
def mU(X:Cx)(f:V3)(r:Uh->Hp->VK->Prop):Prop:=
 ∀(i:List (V1×Obj))(s:V4)(c:St)(H:Hp)(xs:Uh)(d:Uq)(Q:VK),Inv X i c H s->au xs d->r xs H Q->
  Wa (Wb X.prog X.w) X.A (call f d) (EP X i c Q) X.xe s
def FC(X:Cx)(r:V->Hp->(Bool->Hp->Prop)->Prop):Prop:=
 ∀(d:List (V1×Obj))(s:V4)(c:St)(H:Hp)(x:V)(v:V3)(Q:Bool->Hp->Prop),Inv X d c H s->RelV x v->r x H Q->
  Wa (Wb X.prog X.w) X.A (truthy v) (TP X d c Q) X.xe s
noncomputable def wq(r:R2)(f d:TE):TE:=λc H Q=>f c H λx j=>d c j λy i=>r x y i Q
noncomputable def Jb(r:V->Hp->VK->Prop)(d:TE):TE:=λc H Q=>d c H λx f=>r x f Q
noncomputable def rI(C:Int->Int->Prop)(g:Int->Int->V):R2:=λx y H Q=>∃i j,x=.int i/\y=.int j/\C i j/\Q (g i j) H
noncomputable def wN(g:Int->Int->V):R2:=λx y H Q=>∃i j,x=.int i/\y=.int j/\Q (g i j) H
def rU(g:Int->V):V->Hp->VK->Prop:=λx H Q=>∃i,x=.int i/\Q (g i) H
section
variable {X:Cx}{a b c:Wg}{d l m:TE}{pos:Pos}
variable{f:V3->V3->Sem V3}
theorem En(D:PE X a d)(C:PE X b l){n:List (V1×Obj)}{s:V4}{i:St}{H:Hp}{R:V->V->Hp->Prop}(I:Inv X n i H s)
 (h:d i H λx q=>l i q λy j=>R x y j){Q:Ut}
 (B:∀v u k x y j,Inv X n i j k->RelV x v->RelV y u->R x y j->Wa (Wb X.prog X.w) X.A (f v u) Q X.xe k):
 Wa (Wb X.prog X.w) X.A (Wh a X.env) (λv G=>Wa (Wb X.prog X.w) X.A (Wh b X.env) (λu F=>Wa (Wb X.prog X.w) X.A (f v u) Q X.xe F) X.xe G) X.xe s:=by
 refine aC (D n s i H _ I h) λv r p=>?_;obtain⟨x,q,M,z,A⟩:=p;refine aC (C n r i q _ M A) λu k p=>?_;obtain⟨y,j,J,t,e⟩:=p;exact B v u k x y j J z t e
theorem v7{i:Operator}{r:R2}(t:gm X (Xm i) r)(e:PE X a d)(z:PE X b l):PE X (.BinOp a i b pos) (wq r d l):=by
 intro A s j H Q I h;exact wpAny_BinOp (En e z I h λv u k x y C B p n q=>t A k j C x y v u Q B p n q)
theorem J4{j:UnaryOp}{r:V->Hp->VK->Prop}(t:FA X (unaryOp j) r)(y:PE X a d):PE X (.UnaryOp j a pos) (Jb r d):=by
 intro k s i H Q I h;exact UnaryOp_ (aC (y k s i H _ I h) λv n ⟨x,e,z,p,q⟩=>t k n i e x v Q z p q)
theorem FZ{C:Int->Int->Prop}{g:Int->Int->Int}
 (rule:∀(i j:Int)(t u:Tok)(s:V4)(Q:Ut)(E:Ut),C i j->Q (.int (g i j) s.toks) {s with toks:=s.toks+1}->Wa (Wb X.prog X.w) X.A (f (.int i t) (.int j u)) Q E s):
 gm X f (rI C λi j=>.int (g i j)):=by
 intro e s z H x y v u Q I p n h;obtain⟨i,j,rfl,rfl,r,q⟩:=h;obtain⟨t,rfl⟩:=p;obtain⟨k,rfl⟩:=n;exact rule i j t k s _ _ r ⟨.int (g i j),H,I.tok _,⟨_,rfl⟩,q⟩
theorem D2{g:Int->Int->Int}
 (rule:∀(i j:Int)(t u:Tok)(s:V4)(Q:Ut)(E:Ut),Q (.int (g i j) s.toks) {s with toks:=s.toks+1}->Wa (Wb X.prog X.w) X.A (f (.int i t) (.int j u)) Q E s):
 gm X f (wN λi j=>.int (g i j)):=by
 intro z s r H x y v u Q I p n h;obtain⟨i,j,rfl,rfl,q⟩:=h;obtain⟨t,rfl⟩:=p;obtain⟨k,rfl⟩:=n;exact rule i j t k s _ _ ⟨.int (g i j),H,I.tok _,⟨_,rfl⟩,q⟩
theorem Eo{g:Int->Int->Bool}
 (rule:∀(i j:Int)(t u:Tok)(s:V4)(Q:Ut)(E:Ut),Q (.bool (g i j)) s->Wa (Wb X.prog X.w) X.A (f (.int i t) (.int j u)) Q E s):
 gm X f (wN λi j=>.bl (g i j)):=by
 intro z s r H x y v u Q I p n h;obtain⟨i,j,rfl,rfl,q⟩:=h;obtain⟨t,rfl⟩:=p;obtain⟨k,rfl⟩:=n;exact rule i j t k s _ _ ⟨.bl (g i j),H,I,rfl,q⟩
theorem LD:gm X (Xm .Add) (wN λi j=>.int (i+j)):=D2 λ_ _ _ _ _ _ _ q=>add_int q
theorem Lo:gm X (Xm .Mod) (rI (λ_ j=>0<j) λi j=>.int (i%j)):=FZ λi j _ _ _ _ _ k q=>by
 have n:(0:Int)<j:=k;exact mod_int' (by lia) (by rw[Int.fmod_eq_emod_of_nonneg i (by lia)];exact q)
theorem I0{f:V3->Sem V3}{g:Int->Int}
 (rule:∀(i:Int)(t:Tok)(s:V4)(Q:Ut)(E:Ut),Q (.int (g i) s.toks) {s with toks:=s.toks+1}->Wa (Wb X.prog X.w) X.A (f (.int i t)) Q E s):
 FA X f (rU λi=>.int (g i)):=by
 intro n s k H x v Q I j h;obtain⟨i,rfl,q⟩:=h;obtain⟨t,rfl⟩:=j;exact rule i t s _ _ ⟨.int (g i),H,I.tok _,⟨_,rfl⟩,q⟩
theorem Mg:FA X (unaryOp .USub) (rU λi=>.int (-i)):=I0 λ_ _ _ _ _ q=>neg_int q
end
noncomputable def DZ:V->V->Bool
 | .bg,.bg=>true| .bg,.int _=>true| .int _,.bg=>true| .bg,.bl _=>true| .bl _,.bg=>true| .bg,.str _=>true| .str _,.bg=>true
 | .int _,.int _=>true| .bl _,.bl _=>true| .str _,.str _=>true| .nq _,.nq _=>true
 | .int _,.str _=>true| .str _,.int _=>true| .bl _,.str _=>true| .str _,.bl _=>true
 |_,_=>false
def Ji:R2:=λx y H Q=>DZ x y=true/\Q (.bl (!decide (x=y))) H
theorem HZ{i j:Int}:decide (V.int i=V.int j)=(i==j):=by
 rw[dD];simp
theorem Ho{i j:Bool}:decide (V.bl i=V.bl j)=(i==j):=by
 rw[dD];simp
theorem Ii{i j:Str}:decide (V.str i=V.str j)=(i==j):=by
 rw[dD];simp
theorem NR{i j:Array UInt8}:decide (V.nq i=V.nq j)=(i.toList==j.toList):=by
 rw[dD];cases i;cases j;simp
section
variable {X:Cx}{a b c:Wg}{f l n:TE}{pos:Pos}
variable{A:CmpOp}{r:R2}
theorem jS{j:List (V1×Obj)}{d:St}{H:Hp}{s:V4}{Q:VK}{k i:Bool}(I:Inv X j d H s)(q:Q (.bl k) H)(e:k=i):EP X j d Q (.bool i) s:=by
 subst e;exact⟨.bl k,H,I,rfl,q⟩
theorem E5:gm X (Wt .NotEq) Ji:=by
 intro e s z H x y v u Q I p d h;obtain⟨m,q⟩:=h;cases x with
 |bg=>
  cases p;cases y with
  |bg=>cases d;exact PySem.EqNone.ne_none_none (jS I q (by simp))
  |bl j=>cases d;exact PySem.EqNone.ne_none_bool (jS I q (by simp))
  |int j=>obtain⟨k,rfl⟩:=d;exact PySem.EqNone.ne_none_int (jS I q (by simp))
  |str j=>obtain⟨k,rfl⟩:=d;exact PySem.EqNone.ne_none_str (jS I q (by simp))
  |_=>exact absurd (show false=true from m) bU
 |bl i=>
  cases p;cases y with
  |bg=>cases d;exact PySem.EqNone.ne_bool_none (jS I q (by simp))
  |bl j=>cases d;exact ne_bool (jS I q (congrArg not Ho))
  |str j=>obtain⟨k,rfl⟩:=d;exact PySem.EqMixed.ne_bool_str (jS I q (by simp))
  |_=>exact absurd (show false=true from m) bU
 |int i=>
  obtain⟨t,rfl⟩:=p;cases y with
  |bg=>cases d;exact PySem.EqNone.ne_int_none (jS I q (by simp))
  |int j=>obtain⟨k,rfl⟩:=d;exact ne_int (jS I q (congrArg not HZ))
  |str j=>obtain⟨k,rfl⟩:=d;exact PySem.EqMixed.ne_int_str (jS I q (by simp))
  |_=>exact absurd (show false=true from m) bU
 |str i=>
  obtain⟨t,rfl⟩:=p;cases y with
  |bg=>cases d;exact PySem.EqNone.ne_str_none (jS I q (by simp))
  |bl j=>cases d;exact PySem.EqMixed.ne_str_bool (jS I q (by simp))
  |int j=>obtain⟨k,rfl⟩:=d;exact PySem.EqMixed.ne_str_int (jS I q (by simp))
  |str j=>obtain⟨k,rfl⟩:=d;exact ne_str (jS I q (congrArg not Ii))
  |_=>exact absurd (show false=true from m) bU
 |nq i=>
  obtain⟨t,rfl⟩:=p;cases y with
  |nq j=>obtain⟨k,rfl⟩:=d;exact PySem.W.ne_bytes (jS I q (congrArg not NR))
  |_=>exact absurd (show false=true from m) bU
 |_=>cases y<;>exact absurd (show false=true from m) bU
theorem GB:gm X (Wt .Lt) (wN λi j=>.bl (decide (i<j))):=Eo λ_ _ _ _ _ _ _ q=>lt_int q
theorem EV:gm X (Wt .LtE) (wN λi j=>.bl (decide (i<=j))):=Eo λ_ _ _ _ _ _ _ q=>le_int q
theorem J1:gm X (Wt .GtE) (wN λi j=>.bl (decide (j<=i))):=Eo λ_ _ _ _ _ _ _ q=>ge_int q
theorem Se:gm X (Wt .In) (λx y H Q=>∃i j,x=.str i/\y=.str j/\Q (.bl (!(Wc.Str.occurrences j i 0 j.length 1).isEmpty)) H):=by
 intro z s m H x y v u Q I k d h;obtain⟨i,j,rfl,rfl,q⟩:=h;obtain⟨t,rfl⟩:=k;obtain⟨p,rfl⟩:=d;exact in_str (jS I q rfl)
theorem iv(b:Wg)(h:A≠ .In:=by decide)(d:A≠ .NotIn:=by decide):Wo A b=false:=by
 have j:(A==CmpOp.In)=false:=by cases A<;>first|rfl|exact absurd rfl h
 have i:(A==CmpOp.NotIn)=false:=by cases A<;>first|rfl|exact absurd rfl d
 cases b<;>simp[Wo,j,i]
theorem NL(m:gm X (Wt A) r)(z:PE X a f)(t:PE X b l)(p:Wo A b=false):PE X (.Compare a [A] [b] pos) (wq r f l):=by
 intro e s d H Q I h;exact wpAny_Compare1 (En z t I h λv u i x y C B k j q=>m e i d C x y v u Q B k j q) p
noncomputable def qv(t:TE):TT:=λd H Q=>t d H λx i=>∃k,x=.bl k/\Q k i
theorem Oa(F:gm X (Wt A) r)(M:PE X a f)(J:PE X b l)(G:Wo A b=false):PT X (.Compare a [A] [b] pos) (qv (wq r f l)):=by
 intro i s d H Q I h;refine wpAny_isTrue_Compare1 (aC (M i s d H _ I h) λv m ⟨x,Y,R,t,D⟩=>aC (J i m d Y _ R D) λu j ⟨y,U,O,q,C⟩=>
  aC (F i j d U x y v u _ O t q C) λc Z ⟨z,S,N,p,k,e,B⟩=>?_) G
 subst e;cases p;exact WK ⟨S,N,B⟩
noncomputable def oj(r m:R2)(f l n:TE):TE:=λd H Q=>f d H λx t=>l d t λy q=>r x y q λz i=>∃k,z=.bl k/\
 (if k=true then n d i λj p=>m y j p Q else Q (.bl false) i)
theorem IR{m:CmpOp}{q:R2}(ho:gm X (Wt A) r)(E:gm X (Wt m) q)(ha:PE X a f)(hb:PE X b l)(hc:PE X c n)
 (hm:lastMarks [A,m] [b,c]=false:=by with_unfolding_all rfl):PE X (.Compare a [A,m] [b,c] pos) (oj r q f l n):=by
 intro j s i H Q I h;refine Compare_chain (aC (ha j s i H _ I h) λv N ⟨x,H1,I1,S,Z⟩=>chain_link (aC (hb j N i H1 _ I1 Z) λu M ⟨y,H2,I2,p,Y⟩=>
  aC (ho j M i H2 x y v u _ I2 S p Y) λd J ⟨z,C,B,R,k,e,t⟩=>?_)) hm
 subst e;cases R;refine WK ?_;cases k with
 |false=>exact ite_ff ⟨.bl false,C,B,rfl,t⟩
 |true=>exact ite_tt (chain_last (aC (hc j J i C _ B t) λF G ⟨D,H4,I4,O,U⟩=>E j G i H4 y D u F Q I4 p O U))
def EG(K:aK)(x:V)(H:Hp)(k:Bool):Prop:=
 match x with
 | .bg=>k=false
 | .bl b=>k=b
 | .int i=>k=(i !=0)
 | .str y=>y.length<=sizeLine/\k=((y.length:Int)!=0)
 | .nq y=>y.size<=sizeLine/\k=((y.size:Int)!=0)
 | .ref p=>(∃xs,dw K H p xs/\k= !xs.isEmpty)\/(∃xs,fv K H p xs/\k= !xs.isEmpty)\/∃d,H p=some (.dK d)/\k= !d.isEmpty
 |_=>False
theorem Tv{i:Type}{d:List (i×V)}{vs:List (i×V3)}(r:KV d vs):(!vs.isEmpty)= !d.isEmpty:=by
 cases r<;>rfl
theorem uP{xs:Uh}{d:Uq}(r:au xs d):(!d.toArray.isEmpty)= !xs.isEmpty:=by
 cases r<;>simp
theorem fj:(sizeLine:Nat)<2^63:=by rw[W3];decide
theorem ML:FC X (λx H Q=>∃k,EG X.K x H k/\Q k H):=by
 intro R s N H x v Q I z h;obtain⟨k,e,q⟩:=h;have hl:=fj;have O:sizeLine=16777216:=W3;cases x with
 |bg=>
  cases z;have d:k=false:=e;subst d;exact truthy_none ⟨H,I,q⟩
 |bl b=>
  cases z;have d:k=b:=e;subst d;exact WK ⟨H,I,q⟩
 |int i=>
  obtain⟨t,rfl⟩:=z;have d:k=(i !=0):=e;subst d;exact PySem.P.truthy_int ⟨H,I,q⟩
 |str y=>
  obtain⟨t,rfl⟩:=z;obtain⟨J,d⟩:y.length<=sizeLine/\k=((y.length:Int)!=0):=e;subst d;exact PySem.P.truthy_str (by lia) ⟨H,I.tok _,q⟩
 |nq y=>
  obtain⟨t,rfl⟩:=z;obtain⟨J,d⟩:y.size<=sizeLine/\k=((y.size:Int)!=0):=e;subst d;exact PySem.W.truthy_bytes (by lia) ⟨H,I.tok _,q⟩
 |ref p=>
  cases z;have d:(∃xs,dw X.K H p xs/\k= !xs.isEmpty)\/(∃xs,fv X.K H p xs/\k= !xs.isEmpty)\/∃j,H p=some (.dK j)/\k= !j.isEmpty:=e;rcases d with⟨xs,B,d⟩| ⟨xs,B,d⟩| ⟨j,B,d⟩
  .subst d;obtain⟨D,r,C,F⟩:=I.list B;have G:=r.length;exact wpAny_truthy_list C.isList (by simp only[bA];lia) ⟨H,I.tok _,by rw[uP r];exact q⟩
  .subst d;obtain⟨D,r,C,F⟩:=I.tuple B;have G:=r.length;exact truthy_tuple C (by simp only[bA];lia) ⟨H,I.tok _,by rw[uP r];exact q⟩
  .subst d;obtain⟨F,M,vs,r,m⟩:j.length<=sizeLine/\(p==Wr)=false/\∃vs,KV j vs/\s.heap.DictOf (iF X.prog X.w) p vs:=I.aF p _ B;have G:j.length=vs.length:=Paired.length r;exact wpAny_truthy_dict M m (by lia) ⟨H,I.tok _,by rw[Tv r];exact q⟩
 |_=>exact(show False from e).elim
theorem RO(z:PE X a f)(y:∀d,isTrue a X.env d=(do let v<-d;standAt a.pos;W7 [v] (truthy v))):
 PT X a (λi H Q=>f i H λx m=>∃k,EG X.K x m k/\Q k m):=by
 intro j s i H Q I h;exact isTrue_plain (aC (z j s i H _ I h) λv p ⟨x,B,e,q,t⟩=>ML j p i B x v Q e q t) (y _)
theorem Th:gm X (Xm .Add) (λx y H Q=>∃i j,x=.str i/\y=.str j/\i.length+j.length<=sizeLine/\Q (.str (i++j)) H):=by
 intro e s z H x y v u Q I m k h;obtain⟨i,j,rfl,rfl,p,q⟩:=h;obtain⟨t,rfl⟩:=m;obtain⟨d,rfl⟩:=k;exact add_str (λd tk=>⟨.str (i++j),H,I.tok _,⟨_,rfl⟩,q⟩) p
theorem vals1{x:V}{d:Uq}(r:au [x] d):∃u,d=[u]/\RelV x u:=by
 cases r with
 |cons j i=>cases i;exact⟨_,rfl,j⟩
theorem Sf:mU X (.type "int") (λxs H Q=>(∃i,xs=[.int i]/\Q (.int i) H)\/∃k,xs=[.bl k]/\Q (.int (if k then 1 else 0)) H):=by
 intro p s j H xs m Q I r h;rcases h with⟨i,rfl,q⟩| ⟨k,rfl,q⟩
 .obtain⟨u,rfl,t,rfl⟩:=vals1 r;exact call_int_int ⟨.int i,H,I,⟨_,rfl⟩,q⟩
 .obtain⟨u,rfl,d⟩:=vals1 r;cases d;exact call_int_bool ⟨.int (if k then 1 else 0),H,I.tok _,⟨_,rfl⟩,q⟩
theorem yM:mU X (.type "str") (λxs H Q=>∃i,xs=[.int i]/\i.natAbs.log2<1920/\Q (.str (toString i)) H):=by
 intro m s j H xs k Q I r h;obtain⟨i,rfl,d,q⟩:=h;obtain⟨u,rfl,t,rfl⟩:=vals1 r;exact PySem.P.str_of_int d ⟨.str _,H,I.tok _,⟨_,rfl⟩,q⟩
end
variable{dx:V1}{mA:Str->Us}
structure vv(h:V8)(x dx C:V1)(mA:Str->Us):Prop where
 obj:h.get? x=some (cW C dx)
 ns:h.Ns1 dx mA
 ne:dx≠x
theorem S5{h:V8}(n:h.Ns1 dx mA):∃od,h.get? dx=some od/\∀name,UB name od=some (mA name):=by
 obtain⟨o,c,p,i,l,k,_,j⟩:=n;refine⟨o,i,λname=>?_⟩;have e:=j name;unfold nsFind findBy at e;rw[<-Array.find?_toList]at e;unfold UB;rw[l];dsimp only;split
 .rename_i y q;rw[q]at e;exact congrArg some e
 .rename_i q;rw[q]at e;have a:c.toList.any (·.refKey)=false:=by
   rw[List.any_eq_false];intro y f;obtain⟨z,t,d⟩:=k y (eS.mp f);simp[WQ.refKey,d]
  have m:¬c.toList.any (·.refKey)=true:=by rw[a];exact bU
  rw[V9 m];exact congrArg some e
theorem vv.look{h:V8}{x C:V1}(I:vv h x dx C mA):∃od,PySem.W.InstAt h x (cW C dx) C (some od)/\∀name,UB name od=some (mA name):=
 let ⟨od,c,hl⟩:=S5 I.ns
 ⟨od,⟨I.obj,rfl,rfl,c⟩,hl⟩
section
variable {c:Wd}{w:Wf}{A:We}{E:Ut}{s:V4}{K:aK}{x dx C f:V1}{mA:Str->Us}{name:Str}{v:V3}
theorem Pg{expr:Bool}{Q:Ut}(X:K.In s.heap)(I:vv s.heap x dx C mA)(j:eK K C name=true)(hh:UJ K C=true)
 (k:bH K (.ref C) name=some none)(i:mA name=some v)(d:U9 v=true)(h:Q v {s with toks:=s.toks+1}):
 Wa (Wb c w) A (getAttr (.ref x) name expr) Q E s:=by
 obtain⟨od,J,hl⟩:=I.look;exact PySem.W.get_value X J (UH j).1 (PySem.W.findObj_own hh k rfl (by rw[hl,i])) d h
theorem RM{i:Sem Bool}{Q:V3×Uq->V4->Prop}(X:K.In s.heap)(I:vv s.heap x dx C mA)(d:eK K C name=true)
 (l:bH K (.ref C) name=some (some (.ref f)))(k:Uz K (.ref f)=true)(j:mA name=none)(h:Q (.ref f,[.ref x]) s):
 Wa (Wb c w) A (getMethod (.ref x) name i) Q E s:=by
 obtain⟨od,J,hl⟩:=I.look;exact PySem.W.method_fn X J (UH d).1 (UH d).2 l (beq_iff_eq.mp k) (by show(UB name od).map (·.isSome)=some false;rw[hl,j];rfl) h
theorem N8{l:Ur}{Q:Unit->V4->Prop}(X:K.In s.heap)(I:vv s.heap x dx C mA)
 (e:bH K (.ref C) "__setattr__"=some (some (.builtin "object.__setattr__")))(hp:U8 K C=true)(t:UL K C name=some none)(hh:UJ K C=true)
 (r:PySem.Within mA l)(z:l.length<=sizeLine)
 (h:∀d,vv d x dx C (λy=>if y=name then some v else mA y)->V8.SameBut dx s.heap d->Q () {s with heap:=d,toks:=s.toks+2}):
 Wa (Wb c w) A (setAttr (.ref x) name v) Q E s:=by
 obtain⟨od,J,hl⟩:=I.look;refine PySem.W.set_plain X J e (PySem.W.osa_open (s:={s with toks:=s.toks+1}) (r:=none) X J hp t λb=>?_);obtain⟨M,B,p⟩:=PySem.W.any_some hh;have q:s.heap.get? x=some ⟨.ref C,some dx,.plain,#[]⟩:=I.obj;refine V0 (V7 (V0 (V0 (wpAny_loadPart q (V0 (PySem.W.Looks.here (s:={s with toks:=s.toks+1}) (PySem.W.looks_clsIn X B) ?_))))));rw[p];refine V7 (a:=some dx) (V0 (V7 (V0 ?_)));refine wpAny_nsSet1 (s:={s with toks:=s.toks+1}) I.ns λd k m=>?_;obtain⟨G,D,F,i,j,n⟩:=k.count (PySem.Within.cons name v r);refine V0 (wpAny_lookBehind i (by rw[j];exact pastItsLine_dict (aX n (by rw[aO];lia))) ?_);exact V7 (h _ ⟨(m.2 _ (Ne.symm I.ne)).trans I.obj,k,I.ne⟩ m)
theorem QD{R:Result->V4->Prop}{vs:Uq}{i:List (Str×V3)}(X:K.In s.heap)(j:UM K C=true)
 (k:bH K (.ref C) "__init__"=some (some (.ref f)))(l:b7 K (.ref f)=some (.type "function"))
 (h:W1 (Wb c w) (A.under (.builtin "type.__call__" ⟨.ref C::vs,i⟩)) (.call (.ref f) ⟨.ref (s.heap.objs.size+1)::vs,i⟩) (PySem.W.InitBack (s.heap.objs.size+1) R)
  {s with heap:=(s.heap.push cI).push (cW C s.heap.objs.size)}):
 W1 (Wb c w) A (.call (.ref C) ⟨vs,i⟩) R s:=by
 obtain⟨hh,g,d,t,os⟩:=s;exact PySem.W.make_core (PySem.W.makes_of X j) (PySem.W.looks_findIn X k) (λself=>PySem.W.bind_fn X self l) (.inl rfl) h
end
noncomputable def oB(f:Str)(v:V):List (Str×V)->List (Str×V)
 | []=>[(f,v)]
 | (g,x)::r=>if g=f then(g,v)::r else(g,x)::oB f v r
theorem sP(f g:Str)(v:V):∀fs:List (Str×V),(oB f v fs).lookup g=if g=f then some v else fs.lookup g
 | []=>by
   show d8 g [(f,v)]=_;by_cases h:g=f
   .have c:(g==f)=true:=beq_iff_eq.mpr h;simp only[d8,c,V6 h]
   .have c:(g==f)=false:=beq_eq_false_iff_ne.mpr h;simp only[d8,c,V9 h]
 | (k,x)::r=>by
   have ih:=sP f g v r;rw[show oB f v ((k,x)::r)=(if k=f then(k,v)::r else(k,x)::oB f v r)from rfl];by_cases d:k=f
   .rw[V6 d];by_cases h:g=k
    .have c:(g==k)=true:=beq_iff_eq.mpr h;simp only[d8,c,V6 (h.trans d)]
    .have c:(g==k)=false:=beq_eq_false_iff_ne.mpr h;simp only[d8,c,V9 (λe:g=f=>h (e.trans d.symm))]
   .rw[V9 d];by_cases h:g=k
    .have c:(g==k)=true:=beq_iff_eq.mpr h;simp only[d8,c,V9 (λe:g=f=>d (h.symm.trans e))]
    .have c:(g==k)=false:=beq_eq_false_iff_ne.mpr h;simp only[d8,c];exact ih
theorem qZ(f:Str)(v:V):∀fs:List (Str×V),f∈(oB f v fs).map (·.1)/\∀g,g∈fs.map (·.1)->g∈(oB f v fs).map (·.1)
 | []=>⟨by simp[oB],λg h=>by simp at h⟩
 | (k,x)::r=>by
   obtain⟨i,d⟩:=qZ f v r;rw[show oB f v ((k,x)::r)=(if k=f then(k,v)::r else(k,x)::oB f v r)from rfl];by_cases c:k=f
   .rw[V6 c];subst c;exact⟨by simp,λg h=>by simpa using h⟩
   .rw[V9 c];refine⟨?_,λg h=>?_⟩
    .rw[aN];exact bJ _ i
    .rw[aN]at h|-;rcases fU h with e|e
     .exact bX.mpr (.inl e)
     .exact bJ _ (d g e)
theorem sM(f:Str)(v:V):∀fs:List (Str×V),(oB f v fs).length<=fs.length+1
 | []=>by simp[oB]
 | (k,x)::r=>by
   have ih:=sM f v r;rw[show oB f v ((k,x)::r)=(if k=f then(k,v)::r else(k,x)::oB f v r)from rfl];by_cases c:k=f
   .rw[V6 c,aO,aO];lia
   .rw[V9 c,aO,aO];lia
theorem oN.some_of{v:V}{o:Us}(r:oN (some v) o):∃u,o=some u/\RelV v u:=by
 cases o with
 |none=>exact(show False from r).elim
 |some u=>exact⟨u,rfl,r⟩
theorem oN.none_of{o:Us}(r:oN none o):o=none:=by
 cases o with
 |none=>rfl
 |some u=>exact(show False from r).elim
theorem Sl{v:V}{u:V3}(r:RelV v u):U9 u=true:=by
 cases v with
 |bg=>cases (show u=V3.none from r);rfl
 |bl b=>cases (show u=V3.bool b from r);rfl
 |int i=>obtain⟨t,e⟩:=(show∃t,u=V3.int i t from r);cases e;rfl
 |str x=>obtain⟨t,e⟩:=(show∃t,u=V3.str x t from r);cases e;rfl
 |nq b=>obtain⟨t,e⟩:=(show∃t,u=V3.bytes b t from r);cases e;rfl
 |Cv b=>obtain⟨t,e⟩:=(show∃t,u=V3.float b t from r);cases e;rfl
 |ref a=>cases (show u=V3.ref a from r);rfl
 |ty n=>cases (show u=V3.type n from r);rfl
section
variable {P:Wd}{w:Wf}{H c:Hp}{h i:V8}{a C dx:V1}{fs j:List (Str×V)}
theorem xO(k:er P w H h)(e:H a=some (.ins C dx fs)):∃mA,vv h a dx C mA/\(∀f,oN (fs.lookup f) (mA f))/\PySem.Within mA (fs.map (·.1))/\fs.length<=1000/\H dx=some (.own a):=by
 obtain⟨d,z,l,ob,mA,n,r,q⟩:=(show iZ P w H h a (.ins C dx fs)from k a _ e);exact⟨mA,⟨ob,n,l⟩,r,q,z,d⟩
end
structure n1(K:aK)(C:V1):Prop where
 pg:eK K C Str.empty=true
 hd:UJ K C=true
 po:U8 K C=true
 sa:bH K (.ref C) "__setattr__"=some (some (.builtin "object.__setattr__"))
theorem n1.get{K:aK}{C:V1}(c:n1 K C)(f:Str):eK K C f=true:=c.pg
def oV(K:aK)(C:V1)(f:Str):Prop:=bH K (.ref C) f=some none
theorem oV.yp{K:aK}{C:V1}{f:Str}(n:oV K C f):UL K C f=some none:=by
 unfold UL;rw[show bH K (.ref C) f=some none from n];rfl
structure wd(K:aK)(C:V1)(m:Str)(f:V1):Prop where
 at_:bH K (.ref C) m=some (some (.ref f))
 fn:Uz K (.ref f)=true
 kp:bL K (.ref f)=true
section
variable {X:Cx}{d:List (V1×Obj)}{i:St}{H:Hp}{s:V4}{a C dx:V1}{fs:List (Str×V)}{f:Str}{v:V}{A:We}{E:Ut}
variable{Q:Ut}
theorem Tb{b:Bool}(I:Inv X d i H s)(e:H a=some (.ins C dx fs))(c:n1 X.K C)(n:oV X.K C f)(l:fs.lookup f=some v)
 (h:∀u j,Inv X d i H j->RelV v u->Q u j):Wa (Wb X.prog X.w) A (getAttr (.ref a) f b) Q E s:=by
 obtain⟨mA,O,r,_,_,_⟩:=xO I.aF e;obtain⟨u,m,k⟩:=oN.some_of (v:=v) (o:=mA f) (by rw[<-l];exact r f);exact Pg I.gh O (c.get f) c.hd n m (Sl k) (h u _ (I.tok _) k)
theorem Ts{m:Str}{g:V1}{pl:Sem Bool}{Q:V3×Uq->V4->Prop}(I:Inv X d i H s)(e:H a=some (.ins C dx fs))(c:n1 X.K C)(k:wd X.K C m g)(l:fs.lookup m=none)
 (h:Q (.ref g,[.ref a]) s):Wa (Wb X.prog X.w) A (getMethod (.ref a) m pl) Q E s:=by
 obtain⟨mA,O,r,_,_,_⟩:=xO I.aF e;have j:mA m=none:=oN.none_of (by rw[<-l];exact r m);exact RM I.gh O (c.get m) k.at_ k.fn j h
theorem TQ{y:V}{u:V3}{Q:Unit->V4->Prop}(I:Inv X d i H s)(e:H a=some (.ins C dx fs))(c:n1 X.K C)(n:oV X.K C f)(hl:fs.length<1000)(t:RelV y u)
 (h:∀l,Inv X d i (upd H a (.ins C dx (oB f y fs))) l->Q () l):Wa (Wb X.prog X.w) A (setAttr (.ref a) f u) Q E s:=by
 obtain⟨mA,O,r,k,_,m⟩:=xO I.aF e;have B:(fs.map (·.1)).length<=sizeLine:=by rw[aQ,W3];lia
 refine N8 I.gh O c.sa c.po n.yp c.hd k B λJ j p=>h _ ?_;have F:∃o,J.get? dx=some o:=let ⟨o,_,_,M,_⟩:=j.ns;⟨o,M⟩
 refine I.write (x:=a) (e:=dx) (by rw[e];exact True.intro) (.inr m) (λb q G z=>(p.2 b G).trans z) F ?_;refine⟨by rw[fL O.ne];exact m,?_,O.ne,j.obj,_,j.ns,λg=>?_,λg D=>?_⟩
 .have:=sM f y fs;lia
 .show oN ((oB f y fs).lookup g) (if g=f then some u else mA g);rw[sP];by_cases q:g=f
  .rw[V6 q,V6 q];exact t
  .rw[V9 q,V9 q];exact r g
 .by_cases q:g=f
  .rw[q];exact(qZ f y fs).1
  .refine(qZ f y fs).2 g (k g λz=>D ?_);show(if g=f then some u else mA g)=none;rw[V9 q];exact z
theorem Inv.made(I:Inv X d i H s):Inv X d i (upd (upd H s.heap.objs.size (.own (s.heap.objs.size+1))) (s.heap.objs.size+1) (.ins C s.heap.objs.size []))
 {s with heap:=(s.heap.push cI).push (cW C s.heap.objs.size)}:=by
 have j:(s.heap.push cI).get? s.heap.objs.size=some cI:=V8.get?_push_size s.heap rfl;have n:((s.heap.push cI).push (cW C s.heap.objs.size)).get? (s.heap.objs.size+1)=some (cW C s.heap.objs.size):=by
  have:=V8.get?_push_size (s.heap.push cI) (o:=cW C s.heap.objs.size) rfl;rwa[V8.size_push]at this
 have m:(s.heap.push cI).Ns s.heap.objs.size (λ_=>none):=⟨cI,#[],_,j,rfl,(λe l=>absurd l (by simp)),λ_=>rfl⟩;have p:=I.laid (a:=s.heap.objs.size) (o:=.own (s.heap.objs.size+1)) (h':=s.heap.push cI) (t':=s.toks) (λb u q=>V8.get?_push_of_some _ q) (bI _) ⟨_,j⟩;refine p.laid (a:=s.heap.objs.size+1) (o:=.ins C s.heap.objs.size []) (t':=s.toks) (λb u q=>V8.get?_push_of_some _ q) (eC (V8.size_push _ _)) ?_;have c:s.heap.objs.size≠s.heap.objs.size+1:=bQ (eM _);refine⟨by rw[fL c,gS],cU _,c,n,λ_=>none,(V8.Ns1.of_empty m).at λo q=>V8.get?_push_of_some _ q,λ_=>True.intro,λy k=>absurd rfl k⟩
theorem MY{c:Wd}{w:Wf}{env:Env}{e:Wg}{f:Str}{pos:Pos}{s:V4}(j:Wv e f env (Wh e env)=Wh e env)
 (h:Wa (Wb c w) A (Wh e env) (λo k=>Wa (Wb c w) A (getAttr o f true) Q E k) E s):Wa (Wb c w) A (Wh (.Attribute e f pos) env) Q E s:=
 Attribute_any_ h (by rw[arm_eval_Attribute,j])
end
def Ad(K:aK)(i:TE)(f:Str):TE:=λd H Q=>i d H λx c=>∃a C dx fs v,x=.ref a/\c a=some (.ins C dx fs)/\n1 K C/\oV K C f/\fs.lookup f=some v/\Q v c
def Ao(K:aK)(j i:TE)(f:Str):TS:=λD c H=>i c H λy k=>j c k λx d=>∃a C dx fs,x=.ref a/\d a=some (.ins C dx fs)/\n1 K C/\oV K C f/\fs.length<1000/\
 D.nx c (upd d a (.ins C dx (oB f y fs)))
section
variable {X:Cx}{o e value:Wg}{f:Str}{pos i m:Pos}{d j:TE}
theorem K2(y:PE X e d)(z:Wv e f X.env (Wh e X.env)=Wh e X.env):PE X (.Attribute e f pos) (Ad X.K d f):=by
 intro D s k H Q I h;refine MY z (aC (y D s k H _ I h) λu O p=>?_);obtain⟨x,J,G,r,a,C,dx,fs,v,A,B,c,n,l,q⟩:=p;subst A;obtain rfl:u=V3.ref a:=r;exact Tb G B c n l λM N F t=>⟨v,J,F,t,q⟩
theorem Mu(G:PE X o d)(B:PE X value j)(F:Wy value (some (.Attribute o f i)) pos.line X.env=pure false):PS X (.Assign [.Attribute o f i] value pos) (Ao X.K d j f):=by
 intro p s k H D I h;refine plainObj_wpAny_Assign_Attribute (aC (B p s k H _ I h) λu r ⟨y,R,Q,t,q⟩=>aC (G p r k R _ Q q) λA U ⟨x,Y,O,v,a,C,dx,fs,J,M,c,n,l,z⟩=>?_) F;subst J;obtain rfl:A=V3.ref a:=v;exact TQ O M c n l t λS N=>⟨k,_,N,z⟩
end
section
variable {X:Cx}{d:List (V1×Obj)}{f:St}{H:Hp}{s:V4}{A:We}{E:Ut}{Q:Ut}{c:V3}{b:Bool}
end
variable{k:Nat}{A:We}{C:V1}{us:Uq}{l:List (Str×V3)}
structure aJ(k:Nat)(A:We):Prop where
 hd:A.handled=none
 dp:A.depth+3*k+5<recursionLimit
 un:A.units+16*k+200<WJ
theorem aJ.mono{j:Nat}(r:aJ k A)(h:j<=k):aJ j A:=⟨r.hd,by have:=r.dp;lia,by have:=r.un;lia⟩
theorem aJ.deeper(r:aJ (k+1) A)(env:Env):aJ k (A.deeper env):=
 ⟨r.hd,by have:=r.dp;show A.depth+1+3*k+5<_;lia,by have:=r.un;show A.units+3+16*k+200<_;lia⟩
theorem Tj:(A.under (.builtin "type.__call__" ⟨.ref C::us,l⟩)).depth=A.depth+1:=by
 first|rfl|simp[We.under,Code.weight,Code.isCreation,Code.isGuard,Code.isCaller,Code.frames,Code.isFrame,guardIds]
theorem Ta:(A.under (.builtin "type.__call__" ⟨.ref C::us,l⟩)).units=A.units+1:=by
 first|rfl|simp[We.under,Code.cUnits,Code.frames,Code.isFrame]
theorem aJ.make(r:aJ (k+1) A)(C:V1)(us:Uq)(l:List (Str×V3)):aJ k (A.under (.builtin "type.__call__" ⟨.ref C::us,l⟩)):=
 ⟨r.hd,by have:=r.dp;rw[Tj];lia,by have:=r.un;rw[Ta];lia⟩
theorem aJ.depth(r:aJ k A):A.depth<recursionLimit:=by have:=r.dp;lia
noncomputable def yc:TA:=λ_ H Q=>Q [] H
noncomputable def B8(f:TE)(d:TA):TA:=λc H Q=>f c H λx j=>d c j λxs i=>Q (x::xs) i
section
variable {X:Cx}{e:Wg}{c:Uu}{d:TE}{t:TA}{pos:Pos}
theorem oF:PA X [] yc:=λ_ _ _ _ H Q I h=>Calls.spliced_nil ⟨[],H,I,.nil,h⟩
theorem jZ(z:PE X e d)(y:PA X c t)(v:V2 (e::c) X.env=(false,Wh e X.env)::V2 c X.env:=by rfl):PA X (e::c) (B8 d t):=by
 intro pos i s f H Q I h;rw[v];show Wa _ _ (spliced ((false,Wh e X.env)::Wj pos (V2 c X.env))) _ _ s;refine Calls.spliced_cons (aC (z i s f H _ I h) λu m j=>?_);obtain⟨x,G,D,p,r⟩:=j;exact aC (y pos i m f G _ D r) λus J ⟨xs,F,B,n,q⟩=>⟨x::xs,F,B,.cons p n,q⟩
def zi(t:TA):TE:=λi H Q=>t i H λxs f=>xs.length<=sizeLine/\∀p,f p=none->Q (.ref p) (upd f p (.tup xs))
def Ab(t:TA):TE:=λi H Q=>t i H λxs f=>xs.length<=sizeLine/\∀p,f p=none->Q (.ref p) (upd f p (.lst xs))
theorem Np{n}(h:PA X c t):PE X (.Tuple c n pos) (zi t):=by
 intro y s m H Q I p;refine wpAny_Tuple_spliced (aC (h pos y s m H _ I p) λus f ⟨xs,j,i,r,z,q⟩=>⟨by rw[<-r.length];exact z,?_⟩);have v:j f.heap.objs.size=none:=i.aF.fresh (bI _);refine⟨.ref f.heap.objs.size,upd j f.heap.objs.size (.tup xs),i.laid (t':=f.toks) (λb u e=>V8.get?_push_of_some _ e) (bI _) ?_,rfl,q _ v⟩;exact⟨z,us,r,⟨_,V8.get?_push_size _ rfl,rfl,_,rfl⟩⟩
theorem Mh(h:PA X c t):PE X (.List c pos) (Ab t):=by
 intro v s m H Q I n;refine wpAny_List_spliced (aC (h pos v s m H _ I n) λus f ⟨xs,j,i,r,z,q⟩=>⟨by rw[<-r.length];exact z,?_⟩);have p:j f.heap.objs.size=none:=i.aF.fresh (bI _);refine⟨.ref f.heap.objs.size,upd j f.heap.objs.size (.lst xs),i.laid (t':=f.toks) (λb u e=>V8.get?_push_of_some _ e) (bI _) ?_,rfl,q _ p⟩;exact⟨z,us,0,r,V8.get?_push_size _ rfl⟩
end
abbrev Sp:=Uh->Hp->VK->XK->Prop
abbrev p5:=List Env->Hp->V4->XK->Ut
structure kr(P:Wd)(w:Wf)(K:aK)(mg:Str->Us)(base:V8)(A:We)(outer:List Env)(s:V4)(H:Hp):Prop where
 frames:A.frames=some outer
 mod:Mod K mg base
 bs:∀b o,base.get? b=some o->s.heap.get? b=some o/\H b=none
 oz:base.objs.size<=s.heap.objs.size
 fk:s.heap.FunFrames base outer
 qm:∀b∈aA outer,H b=none
 aF:er P w H s.heap
 bare:Xe s.gens
def CE(c:List Env)(P:Wd)(w:Wf)(H:Hp)(s:V4)(Q:VK)(u:V3)(d:V4):Prop:=
 ∃v f,d.os=s.os/\Xe d.gens/\Un (aA c) [] H f s.heap d.heap/\er P w f d.heap/\RelV v u/\Q v f
def CR(f:p5)(c:List Env)(P:Wd)(w:Wf)(H:Hp)(s:V4)(Q:VK)(E:XK)(r:Result)(d:V4):Prop:=
 match r with
 | .ok (.ret u)=>CE c P w H s Q u d
 | .ok _=>False
 | .error e=>f c H s E e d
structure lB(P:Wd)(w:Wf)(K:aK)(mg:Str->Us)(base:V8)(CX:p5)(k:Nat)(f:V1)(fd:Ww)(ps:Ur)(sp:Sp):Prop where
 len:∀vs H Q E,sp vs H Q E->vs.length=ps.length
 run:∀(A:We)(outer:List Env)(s:V4)(H:Hp)(args:Args)(us:Uq)(vs:Uh)(Q:VK)(E:XK),aJ k A->kr P w K mg base A outer s H->BindsTo s fd args (ps.zip us)->au vs us->sp vs H Q E->
  W1 (Wb P w) A (.call (.ref f) args) (CR CX outer P w H s Q E) s
theorem kr.make{P:Wd}{w:Wf}{K:aK}{f:Str->Us}{d:V8}{A:We}{c:List Env}{s:V4}{H:Hp}(e:kr P w K f d A c s H)(C:V1)(us:Uq)(l:List (Str×V3)):
 kr P w K f d (A.under (.builtin "type.__call__" ⟨.ref C::us,l⟩)) c s H:=⟨by first|exact e.frames| (simpa[We.under,Code.envs,Code.isFrame,pushEnvs]using e.frames),e.mod,e.bs,e.oz,e.fk,e.qm,e.aF,e.bare⟩
section
variable {X:Cx}{c:List (V1×Obj)}{f:St}{H:Hp}{s i:V4}
theorem Inv.vf(I:Inv X c f H s):kr X.prog X.w X.K X.mg X.base X.A X.stack s H:=
 ⟨I.ok.frames,I.ok.mod,I.bs,aX I.ok.oz I.sz,I.stack,I.ez,I.aF,I.bare⟩
theorem Inv.after{Q:VK}{u:V3}(I:Inv X c f H s)(h:CE X.stack X.prog X.w H s Q u i):EP X c f Q u i:=by
 obtain⟨v,p,os,j,un,m,r,q⟩:=h;obtain⟨hh,g,d,t,n⟩:=i;obtain rfl:n=s.os:=os;exact⟨v,p,I.call (h':=hh) (g':=g) (d':=d) (t':=t) (ch:=[]) un m j (λb z=>absurd z (by simp)),r,q⟩
end
noncomputable def Fe(d:Sp)(cg:Uh)(E:XK)(t:TA):TE:=λc H Q=>t c H λvs f=>d (vs++cg) f Q E
def Aa(C:V1)(m:Str)(i:Sp)(cg:Uh)(E:XK)(f:TE)(t:TA):TE:=λc H Q=>f c H λx d=>∃a dx fs,x=.ref a/\d a=some (.ins C dx fs)/\fs.lookup m=none/\
 t c d λvs j=>i (x::(vs++cg)) j Q E
def qz(C:V1)(d:Sp)(cg:Uh)(E:XK)(t:TA):TE:=λσ H Q=>t σ H λvs c=>∀x dx,c x=none->c dx=none->dx≠x->
 d (.ref x::(vs++cg)) (upd (upd c dx (.own x)) x (.ins C dx [])) (λv f=>v=.bg/\Q (.ref x) f) E
def Binds(K:aK)(c:Ww)(ps:Ur)(ds:Uq):Prop:=
 ∀(s:V4)(us:Uq),K.In s.heap->(us++ds).length=ps.length->BindsTo s c ⟨us,[]⟩ (ps.zip (us++ds))
theorem Binds.all{K:aK}{c:Ww}{ps:Ur}(h:∀us:Uq,us.length=ps.length->bindArgs c ⟨us,[]⟩=pure (ps.zip us)):Binds K c ps []:=λs us _ hl=>by
 rw[aT]at hl|-;exact .of_eq (h us hl)
def iz(i:p5)(X:Cx)(E:XK):Prop:=∀(f:List (V1×Obj))(d:St)(H:Hp)(s:V4)(e:V3)(c:V4),Inv X f d H s->i X.stack H s E e c->X.xe e c
section
variable {X:Cx}{c:p5}{k:Nat}{f C:V1}{d:Ww}{ps:Ur}{i:Sp}{cg:Uh}{ds:Uq}{E:XK}{x m:Str}{p pos n:Pos}{e o:Wg}{j:Uu}{y:TE}{t:TA}
variable{z:List (V1×Obj)}{B:St}{Q:VK}{vs:Uh}
theorem ME{H:Hp}{s:V4}{us:Uq}(F:lB X.prog X.w X.K X.mg X.base c k f d ps i)(J:aJ k X.A)(N:Binds X.K d ps ds)(M:au cg ds)(G:iz c X E)
 (I:Inv X z B H s)(r:au vs us)(h:i (vs++cg) H Q E):Wa (Wb X.prog X.w) X.A (call (.ref f) us) (EP X z B Q) X.xe s:=by
 have v:au (vs++cg) (us++ds):=r.append M;have hl:(us++ds).length=ps.length:=by rw[<-v.length];exact F.len _ _ _ _ h
 refine wpAny_call (Xd (F.run X.A X.stack s H ⟨us,[]⟩ (us++ds) (vs++cg) Q E J I.vf (N s us I.gh hl) v h) λr D q=>?_);cases r with
 |error e=>exact G z B H s e D I q
 |ok O=>
  cases O with
  |ret u=>exact I.after q
  |next=>exact False.elim q
  |brk=>exact False.elim q
  |cont=>exact False.elim q
theorem HB(F:lB X.prog X.w X.K X.mg X.base c k f d ps i)(G:aJ k X.A)(N:Gl X x)(J:X.mg x=some (.ref f))(M:bL X.K (.ref f)=true)(S:Binds X.K d ps ds)(R:au cg ds)(D:iz c X E)
 (U:PA X (e::j) t)(Y:(x==("__debug__":Str))=false:=by decide)(O:V2 (e::j) X.env=(false,Wh e X.env)::V2 j X.env:=by rfl)(Z:(Wj pos (V2 j X.env)).any (·.1)=false:=by rfl):
 PE X (.Call (.Name x p) (e::j) [] pos) (Fe i cg E t):=by
 intro z s B H Q I h;refine WA (mV I N J ?_ Y);refine dM (h₀:=X.base) I.ok.mod.ql M (aC (U pos z s B H _ I h) λus s1 ⟨vs,H1,v,r,q⟩=>⟨v.gh,?_⟩) O Z;exact ME F G S R D v r q
structure Mk(K:aK)(C f:V1):Prop where
 makes:UM K C=true
 init:bH K (.ref C) "__init__"=some (some (.ref f))
 fn:Uz K (.ref f)=true
 kp:bL K (.ref C)=true
theorem Ru{H:Hp}{s:V4}{us:Uq}(M:Mk X.K C f)(F:lB X.prog X.w X.K X.mg X.base c k f d ps i)(U:aJ (k+1) X.A)(Z:Binds X.K d ps ds)(Y:au cg ds)
 (S:iz c X E)(I:Inv X z B H s)(r:au vs us)
 (h:∀x dx,H x=none->H dx=none->dx≠x->i (.ref x::(vs++cg)) (upd (upd H dx (.own x)) x (.ins C dx [])) (λv H2=>v=.bg/\Q (.ref x) H2) E):
 Wa (Wb X.prog X.w) X.A (call (.ref C) us) (EP X z B Q) X.xe s:=by
 have J:=h (s.heap.objs.size+1) s.heap.objs.size (I.aF.fresh (Vg _)) (I.aF.fresh (bI _)) (bQ (eM _));have D:=Inv.made (C:=C) I;have G:au (V.ref (s.heap.objs.size+1)::(vs++cg)) (V3.ref (s.heap.objs.size+1)::(us++ds)):=.cons rfl (r.append Y);have hl:(V3.ref (s.heap.objs.size+1)::us++ds).length=ps.length:=by
  have e:=G.length;rw[F.len _ _ _ _ J]at e;exact e.symm
 refine wpAny_call (QD (f:=f) I.gh M.makes M.init (beq_iff_eq.mp M.fn) (Xd (F.run _ X.stack _ _ ⟨V3.ref (s.heap.objs.size+1)::us,[]⟩ (V3.ref (s.heap.objs.size+1)::(us++ds)) _ _ E (U.make C us [])
  (D.vf.make C us []) (Z _ (V3.ref (s.heap.objs.size+1)::us) D.gh hl) G J) λr N q=>?_))
 cases r with
 |error e=>exact S z B _ _ e N D q
 |ok fl=>
  cases fl with
  |ret u=>
   obtain⟨v,H',I3,O,ev,R⟩:=D.after q;subst ev;exact⟨O,⟨V.ref (s.heap.objs.size+1),H',I3,rfl,R⟩⟩
  |next=>exact False.elim q
  |brk=>exact False.elim q
  |cont=>exact False.elim q
theorem Qh(M:Mk X.K C f)(F:lB X.prog X.w X.K X.mg X.base c k f d ps i)(r:aJ (k+1) X.A)(D:Gl X x)(v:X.mg x=some (.ref C))(J:Binds X.K d ps ds)(G:au cg ds)(q:iz c X E)
 (N:(x==("__debug__":Str))=false:=by decide):PE X (.Call (.Name x p) [] [] pos) (qz C i cg E yc):=by
 intro z s B H Q I h;refine WA (mV I D v ?_ N);exact PySem.W.callWith_K0 I.gh M.kp (Ru (us:=[]) M F r J G q I .nil h)
end
section
variable {X:Cx}{c:p5}{k:Nat}{f C:V1}{d:Ww}{ps i:Ur}{j:Sp}{E:XK}{x m:Str}{p pos n q:Pos}{e o:Wg}{r:Uu}{v:List WG}{y z:TE}{t tk:TA}{B:Option Str}
variable {g:Uq->Uq->Uq}{D:Uh->Uh->Uh}
end
variable{B:p5}{D:Str->Us}{F:V8}{N ps:Ur}{j:Str}{d:WD}{f:V1}
structure n5(N P:Ur)(sc:WD):Prop where
 kind:sc.kind=.function
 co:sc.isCoroutine=false
 gen:sc.isGenerator=false
 nd:N.Nodup
 pre:N.take P.length=P
 par:∀x∈P,sc.names.lookup x=some .local\/sc.names.lookup x=some .cell
 uf:∀y∈sc.names,y.2≠ .free
theorem xE{kindOf:Str->Option Ws}{x:Str}:∀{binds:List (Str×V3)}{m:Str->Us},(∀v,(x,v)∉binds)->bindL kindOf binds m x=m x
 | [],_,_=>rfl
 | (n,v)::r,m,h=>by
   unfold bindL;rw[xE λw c=>h w (bJ _ c)];split
   .have:x≠n:=by rintro rfl;exact h v bG
    simp[this]
   .rfl
theorem wE{kindOf:Str->Option Ws}{x:Str}:∀{binds:List (Str×V3)}{m:Str->Us},(∀v,(x,v)∉binds)->bindC kindOf binds m x=m x
 | [],_,_=>rfl
 | (n,v)::r,m,h=>by
   unfold bindC;rw[wE λw c=>h w (bJ _ c)];split
   .rfl
   .have:x≠n:=by rintro rfl;exact h v bG
    simp[this]
theorem wM{kindOf:Str->Option Ws}{x:Str}{v:V3}:∀{P:Ur}{vs:Uq}{i:Nat}{m:Str->Us},P.Nodup->P[i]?=some x->vs[i]?=some v->kindOf x=some .local->
 bindL kindOf (P.zip vs) m x=some v
 | [],_,_,_,_,h,_,_=>by simp at h
 |_::_,[],_,_,_,_,h,_=>by simp at h
 |p::P,w::vs,0,m,q,n,c,r=>by
  simp at n c;subst n;subst c;show bindL kindOf ((p,w)::P.zip vs) m p=_;unfold bindL;rw[xE λv t=>(i0 q).1 (UX t).1,V6 r];simp
 |p::P,w::vs,i+1,m,q,n,c,r=>by
  show bindL kindOf ((p,w)::P.zip vs) m x=_;unfold bindL;exact wM (i:=i) (i0 q).2 (by simpa using n) (by simpa using c) r
theorem wG{kindOf:Str->Option Ws}{x:Str}{v:V3}:∀{P:Ur}{vs:Uq}{i:Nat}{m:Str->Us},P.Nodup->P[i]?=some x->vs[i]?=some v->kindOf x≠some .local->
 bindC kindOf (P.zip vs) m x=some v
 | [],_,_,_,_,h,_,_=>by simp at h
 |_::_,[],_,_,_,_,h,_=>by simp at h
 |p::P,w::vs,0,m,q,n,c,r=>by
  simp at n c;subst n;subst c;show bindC kindOf ((p,w)::P.zip vs) m p=_;unfold bindC;rw[wE λv t=>(i0 q).1 (UX t).1,V9 r];simp
 |p::P,w::vs,i+1,m,q,n,c,r=>by
  show bindC kindOf ((p,w)::P.zip vs) m x=_;unfold bindC;exact wG (i:=i) (i0 q).2 (by simpa using n) (by simpa using c) r
noncomputable def start(N:Ur)(vs:Uh):St:=vs.map some++aS (N.length - vs.length) none
def vL(B:p5)(P:Wd)(w:Wf)(K:aK)(D:Str->Us)(F:V8)(N:Ur)(j:Str)(d:WD)(f:V1)(i:V3)(A:We)(c:List Env)(s:V4)(H:Hp)(E:XK):Cx where
 prog:=P
 w:=w
 K:=K
 mg:=D
 base:=F
 A:=A.deeper (W0 j d s.heap.objs.size f i)
 N:=N
 dq:=s
 ay:=H
 env:=W0 j d s.heap.objs.size f i
 outer:=c
 stack:=W0 j d s.heap.objs.size f i::c
 ex:=[]
 calm:=true
 fn:=λ_=>true
 pn:=[]
 xe:=λe s'=>Wa (Wb P w) (A.deeper (W0 j d s.heap.objs.size f i)) (leaving (W0 j d s.heap.objs.size f i) e) (λ_ m=>B c H s E e m) (λn m=>B c H s E n m) s'
theorem z9{i:WD}{n:Nat}{x:Str}(h:i.names.lookup x=some .cell):∃c,(cellsFrom n i.names []).lookup x=some c:=by
 have q:=U5 i.names n [] (.inl h);exact gD q
theorem Sd{P:Wd}{w:Wf}{K:aK}{M:V3}{A:We}{m:List Env}{s R:V4}{H:Hp}{E:XK}{us:Uq}{vs:Uh}
 (S:n5 N ps d)(Z:A.handled=none)(t:kr P w K D F A m s H)(hl:vs.length=ps.length)(r:au vs us)
 (x:InCallC s s.heap.objs.size (bindL (W0 j d s.heap.objs.size f M).kindOf (ps.zip us) λ_=>none) (cellsFrom (s.heap.objs.size+1) d.names []) (bindC (W0 j d s.heap.objs.size f M).kindOf (ps.zip us) λ_=>none) R):
 Inv (vL B P w K D F N j d f M A m s H E) [] (start N vs) H R:=by
 have ba:ps.length<=N.length:=by have:=congrArg U0 S.pre;rw[UU]at this;lia
 obtain⟨J,tk,rfl,X⟩:=x.done;have O:∀b:V1,b∉(vL B P w K D F N j d f M A m s H E).ex:=λb z=>absurd (show b∈([]:List V1)from z) (by simp);refine⟨⟨t.mod,S.kind,rfl,rfl,bI _,λy z c J n=>?_,λy G=>?_,λy c _ h=>?_,λ_=>Z,We.frames_deeper t.frames,.inr ⟨rfl,rfl⟩,λb z=>absurd z (O b),t.bs,t.oz,λb _ _=>O b,λb z=>absurd z (O b),t.fk,t.qm⟩,
  rfl,t.bare,Un.kept X,⟨_,x.toInCall.ns,λi y v J n h3=>?_⟩,λy c h=>⟨_,x.cell y c h⟩,t.aF.fresh (bI _),λy c h=>?_,λp hp=>absurd (show p∈([]:List (V1×Obj))from hp) (by simp),t.aF.kept X,?_⟩
 .exact name_of_addr x.apart (PySem.mem_of_lookup J) (PySem.mem_of_lookup n)
 .have G:d.names.lookup y=some .cell\/d.names.lookup y=some .free:=G;rcases G with G|G
  .exact z9 G
  .exact absurd rfl (S.uf _ (PySem.mem_of_lookup G))
 .exact dW (x.above y c (PySem.mem_of_lookup h))
 .have I:i<vs.length:=by
   unfold start at n;by_cases I:i<vs.length
   .exact I
   .rw[bP (by simpa using I)]at n;rw[b3]at n;split at n<;>cases n
  have ha:vs[i]?=some v:=by
   unfold start at n;rw[bK (by simpa using I),bF]at n;cases e:vs[i]?with
   |none=>rw[e]at n;cases n
   |some a=>rw[e]at n;cases n;rfl
  obtain⟨u,U,Y⟩:=r.get ha;have hp:ps[i]?=some y:=by
   rw[<-S.pre,d5 (by lia)];exact J
  have Q:ps.Nodup:=by rw[<-S.pre];exact S.nd.sublist (List.take_sublist _ _)
  refine⟨u,Y,?_⟩;rcases S.par y (bV hp)with k|k
  .exact .inl ⟨k,wM Q hp U k⟩
  .obtain⟨c,e⟩:=z9 (n:=s.heap.objs.size+1) k;refine .inr ⟨.inl k,c,e,?_⟩;have q:=x.cell y c e;rw[wG Q hp U (by show d.names.lookup y≠_;rw[k];decide)]at q;exact q
 .exact t.aF.fresh (dW (x.above y c (PySem.mem_of_lookup h)))
 .unfold start;show _=N.length;rw[bN,aQ,cS];lia
theorem Fd{P:Wd}{w:Wf}{K:aK}{k:Nat}{name:Str}{i:Arguments}{body:List WO}{dV kV O pm p ct oc:V3}{an od:Option V1}
 {ij:Array Us}{U:Sp}(lk:K.lookup f=some ⟨oc,od,.func (cG name j i body d dV kV O pm an p ct),ij⟩)(cm:dI K p j=true)(S:n5 N ps d)
 (len:∀vs H Q E,U vs H Q E->vs.length=ps.length)
 (dj:∀(A:We)(c:List Env)(s:V4)(H:Hp)(vs:Uh)(Q:VK)(E:XK),aJ k (A.deeper (W0 j d s.heap.objs.size f p))->U vs H Q E->
  ∃t,jf (vL B P w K D F N j d f p A c s H E) body t/\t {nx:=λ_ m=>Q .bg m,rt:=Q} (start N vs) H):
 lB P w K D F B (k+1) f (cG name j i body d dV kV O pm an p ct) ps U:=by
 refine⟨len,λA c s H args us vs Q E Z M hb r gq=>?_⟩;have hl:=len _ _ _ _ gq;have KX:K.In s.heap:=M.mod.ql.keeps λb o e=>(M.bs b o e).1;have lim:s.heap.NoLimit:=M.mod.nolimit.keeps λb o e=>(M.bs b o e).1;have oq:∀y∈ps.zip us,d.names.lookup y.1=some .local\/(d.names.lookup y.1=some .cell/\((cellsFrom (s.heap.objs.size+1) d.names []).lookup y.1).isSome=true):=fun⟨n,v⟩ hy=>by
  rcases S.par n (UX hy).1 with q|q
  .exact .inl q
  .exact .inr ⟨q,U5 _ _ _ (.inl q)⟩
 refine codeAny_call_function Z.depth (KX _ _ lk) rfl S.co S.gen rfl (PySem.W.codeRec_of KX cm) (hb _ _ _ _ ?_);refine wpAny_newFunctionEnv_cells S.kind oq λenv he s1 x=>?_;subst he;refine⟨lim.keeps x.toInCall.keep,codeAny_func ?_⟩;obtain⟨t,ht,hq⟩:=dj A c s H vs Q E (Z.deeper _) gq;have I:Inv (vL B P w K D F N j d f p A c s H E) [] (start N vs) H s1:=Sd S Z.hd M hl r x;refine Wm (ht [] s1 (start N vs) H _ I hq) (λfl X z=>?_) λe X z=>z;have G:∀{R:St}{m:Hp}{v:V}{u:V3},Inv (vL B P w K D F N j d f p A c s H E) [] R m X->RelV v u->Q v m->CE c P w H s Q u X:=
  λ{R m v u} J Y q=>⟨v,m,J.os,J.bare,J.base,J.aF,Y,q⟩
 cases fl with
 |ret u=>
  obtain⟨v,R,m,J,Y,q⟩:=z;exact G J Y q
 |next=>
  obtain⟨R,m,J,q⟩:=z;exact G (v:=V.bg) (u:=V3.none) J rfl q
 |brk=>
  obtain⟨_,_,_,q⟩:=z;exact False.elim q
 |cont=>
  obtain⟨_,_,_,q⟩:=z;exact False.elim q
section
variable {X:Cx}{x:Str}{p pos:Pos}{e:Wg}{c:Uu}{t:TA}{id T:String}{r:Uh->Hp->VK->Prop}
noncomputable def Cq(r:Uh->Hp->VK->Prop)(t:TA):TE:=λi H Q=>t i H λvs m=>r vs m Q
theorem p8(O:mU X (.builtin id) r)(J:Gl X x)(G:X.mg x=none)(y:WN x=some (.builtin id))(R:PA X (e::c) t)(z:x≠"__name__":=by decide)(S:(x==("__debug__":Str))=false:=by decide)
 (M:V2 (e::c) X.env=(false,Wh e X.env)::V2 c X.env:=by rfl)(U:(Wj pos (V2 c X.env)).any (·.1)=false:=by rfl):PE X (.Call (.Name x p) (e::c) [] pos) (Cq r t):=by
 intro m s i H Q I h;refine WA (uT I J G y ?_ z S);exact VY (aC (R pos m s i H _ I h) λus n ⟨vs,Z,Y,q,v⟩=>O m n i Z vs us Q Y q v) M U
theorem q5(O:mU X (.type T) r)(J:Gl X x)(G:X.mg x=none)(y:WN x=some (.type T))(R:PA X (e::c) t)(z:x≠"__name__":=by decide)(S:(x==("__debug__":Str))=false:=by decide)
 (M:V2 (e::c) X.env=(false,Wh e X.env)::V2 c X.env:=by rfl)(U:(Wj pos (V2 c X.env)).any (·.1)=false:=by rfl):PE X (.Call (.Name x p) (e::c) [] pos) (Cq r t):=by
 intro m s i H Q I h;refine WA (uT I J G y ?_ z S);exact dQ (aC (R pos m s i H _ I h) λus n ⟨vs,Z,Y,q,v⟩=>O m n i Z vs us Q Y q v) M U
end
end L2
namespace HT
open PySem PyProof.Rows
section
open PySem.SeqAt
open PySem.AutoSeq1 (wpAny_loadPart')
open PySem.MeetsSeq PySem.MeetsSeq2 PySem.MeetsSeq3
end
section
variable {prog:Wd}{w:Wf}{A:We}{E:Ut}{s:V4}
variable{sl:V1}{vl vu:V3}{lo hi:Option Int}
noncomputable def cb(n d:Nat):Option Int->Nat
 |none=>d
 |some v=>if v<0 then(v+(n:Int)).toNat else min v.toNat n
theorem Mv(n d:Nat)(hd:d<=n)(o:Option Int):cb n d o<=n:=by
 cases o with
 |none=>exact hd
 |some v=>
  show(if v<0 then(v+(n:Int)).toNat else min v.toNat n)<=n;by_cases hv:v<0
  .rw[V6 hv];lia
  .rw[V9 hv];exact Nat.min_le_right _ _
theorem HR(v:Int)(n d:Nat):(if v<0 then max (v+(n:Int)) 0 else min v (n:Int))=((cb n d (some v):Nat):Int):=by
 show(if v<0 then max (v+(n:Int)) 0 else min v (n:Int))=(((if v<0 then(v+(n:Int)).toNat else min v.toNat n):Nat):Int);by_cases hv:v<0
 .simp only[V6 hv];lia
 .simp only[V9 hv];lia
theorem TU(lo hi:Option Int)(n:Nat):Wc.Slice.sliceAdjust lo hi 1 (n:Int)=(((cb n 0 lo:Nat):Int),((cb n n hi:Nat):Int)):=by
 have h1:¬((1:Int)<0):=by lia
 unfold Wc.Slice.sliceAdjust;simp only[h1,if_false];refine VX ?_ ?_
 .cases lo with
  |none=>rfl
  |some v=>exact HR v n 0
 .cases hi with
  |none=>rfl
  |some v=>exact HR v n n
theorem TN(i j:Nat):Wc.Slice.slicePlaces (i:Int) (j:Int) 1=j - i:=by
 unfold Wc.Slice.slicePlaces;have h1:(1:Int)>0:=by lia
 simp only[h1,if_true,Int.ediv_one];split<;>lia
theorem vB{v:V3}{o:Option Int}{Q:Option Int->V4->Prop}(p:IsPart v o)(h:Q o s):Wa (Wb prog w) A (Wc.Slice.slicePartIndex v) Q E s:=by
 cases p with
 |none=>exact slicePart_none h
 |int i t=>exact slicePart_int h
theorem rD{n:Nat}{Q:Int×Int×Nat->V4->Prop}(hs:s.heap.IsSliceOf sl vl vu .none)(pl:IsPart vl lo)(pu:IsPart vu hi)
 (h:Q (((cb n 0 lo:Nat):Int),1,cb n n hi - cb n 0 lo) s):Wa (Wb prog w) A (Wc.Slice.sliceApplied (.ref sl) (pure (n:Int))) Q E s:=by
 obtain⟨os,nw,yg,qw⟩:=id hs;unfold Wc.Slice.sliceApplied Wc.Slice.sliceFields;refine V0 (V0 (Wl nw qw (x:=vl) rfl (V0 (Wl nw qw (x:=vu) rfl (V0 (Wl nw qw (x:=.none) rfl (V7 ?_)))))));refine V0 (slicePart_none ?_);show Wa _ _ (if((1:Int)==0)=true then _ else _) _ _ s;rw[V9 (by decide)];refine V0 (vB pl (V0 (vB pu (V0 (V7 ?_)))));show Wa _ _ (match Wc.Slice.sliceAdjust lo hi 1 (n:Int)with| (lo,hi)=>pure (lo,(1:Int),Wc.Slice.slicePlaces lo hi 1)) _ _ s;rw[TU lo hi n];show Wa _ _ (pure (((cb n 0 lo:Nat):Int),(1:Int),Wc.Slice.slicePlaces ((cb n 0 lo:Nat):Int) ((cb n n hi:Nat):Int) 1)) _ _ s;rw[TN];exact V7 h
theorem Qf(xs:Array V3)(i k:Nat):((bB k).filterMap fun(m:Nat)=>xs[((i:Int)+(m:Int)*1).toNat]?).toArray=((xs.toList.drop i).take k).toArray:=by
 have e:(fun(m:Nat)=>xs[((i:Int)+(m:Int)*1).toNat]?)=λm=>xs[i+m]?:=by
  funext m;have:((i:Int)+(m:Int)*1).toNat=i+m:=by lia
  rw[this]
 rw[e];have:=pick_run xs i k;rw[List.filterMap_map]at this;have e2:((λx=>xs[x]?) ∘ λx=>i+x)=λm=>xs[i+m]?:=rfl;rw[e2]at this;rw[this]
theorem pP{t:V1}{items:Array V3}{Q:Ut}(ht:IsTup s.heap t items)(hs:s.heap.IsSliceOf sl vl vu .none)(pl:IsPart vl lo)(pu:IsPart vu hi)
 (hw:¬(cb items.size 0 lo=0/\cb items.size items.size hi=items.size))
 (h:Q (.ref s.heap.objs.size) {s with heap:=s.heap.push {cls:=.type "tuple",data:=.seq ((items.toList.drop (cb items.size 0 lo)).take (cb items.size items.size hi - cb items.size 0 lo)).toArray}})
 (hsz:items.size<=sizeLine):Wa (Wb prog w) A (Xo (.ref t) (.ref sl)) Q E s:=by
 have fg:sizeOk (.seq ((items.toList.drop (cb items.size 0 lo)).take (cb items.size items.size hi - cb items.size 0 lo)).toArray):=by
  show((items.toList.drop (cb items.size 0 lo)).take (cb items.size items.size hi - cb items.size 0 lo)).toArray.size<=sizeLine;rw[bA,UU,VD,dH];lia
 have hj:cb items.size items.size hi<=items.size:=Mv _ _ (bI _) hi;obtain⟨os,nw,yg,qw⟩:=id hs;have hTs:s.TypeIs (.ref sl) "slice":=⟨os,nw,yg⟩;unfold Xo;try with_reducible refine Wq ?_
 first|refine V0 (V7 ?_)|skip
 refine V0 (wpAny_sequenceKey ht.typeIs (by decide) ?_);refine V0 (Wp (name:=Str.ofString "__getitem__") ht.typeIs dF
  (Wz dF ht.typeIs entry_tuple_getitem ?_ (args_tuple_getitem _ _)))
 show Wa _ _ (Wc.Tuple.tupleItemsOf (.ref t)>>=_) _ _ s;refine V0 (tupleItemsOf_ ht ?_);refine V0 (wpAny_typeOf hTs ?_);rw[V6 (by decide)];refine V0 (rD hs pl pu ?_);have jq:¬((((cb items.size 0 lo:Nat):Int)==0&&(1:Int)==1&&(cb items.size items.size hi - cb items.size 0 lo)==items.size)=true):=by
  intro q;rw[b8,b8]at q;have q1:((cb items.size 0 lo:Nat):Int)=0:=eq_of_beq q.1.1;have q2:cb items.size items.size hi - cb items.size 0 lo=items.size:=eq_of_beq q.2;exact hw ⟨by lia,by lia⟩
 show Wa _ _ (if(((cb items.size 0 lo:Nat):Int)==0&&(1:Int)==1&&(cb items.size items.size hi - cb items.size 0 lo)==items.size)=true then _ else _) _ _ s;rw[V9 jq,Qf];first
  |exact V0 (m:=Wc.Tuple.tupleExact _) (Wn (V7 ⟨_,rfl,V7 h⟩) fg)
  |exact V0 (m:=Wc.Tuple.tupleExact _) (Wn (V0 (V7 (V7 ⟨_,rfl,V7 h⟩))) fg)
  |exact V0 (V0 (m:=Wc.Tuple.tupleExact _) (Wn (V7 (V7 ⟨_,rfl,V7 h⟩)) fg))
  |exact V0 (V0 (m:=Wc.Tuple.tupleExact _) (Wn (V7 ⟨_,rfl,V7 h⟩) fg))
end
end HT
namespace L2
open PySem PySem.Spec PyProof.Rows
abbrev TO:=St->Hp->(Option Int->Hp->Prop)->Prop
def PO(X:Cx)(e:Option Wg)(t:TO):Prop:=
 ∀(b:List (V1×Obj))(s:V4)(a:St)(H:Hp)(Q:Option Int->Hp->Prop),Inv X b a H s->t a H Q->
  Wa (Wb X.prog X.w) X.A (evalPart e X.env) (λu d=>∃o c,Inv X b a c d/\IsPart u o/\Q o c) X.xe s
noncomputable def kv:TO:=λ_ H Q=>Q none H
noncomputable def qx(t:TE):TO:=λa H Q=>t a H λx b=>∃i,x=.int i/\Q (some i) b
section
variable {X:Cx}{e:Wg}{d:TE}{lo c:Option Wg}{f g:TO}{pos j:Pos}
theorem Io:PO X none kv:=by
 intro b s a H Q I h;rw[evalPart_none];exact V7 ⟨none,H,I,.none,h⟩
theorem HE(h:PE X e d):PO X (some e) (qx d):=by
 intro n s a H Q I m;rw[evalPart_some];refine aC (h n s a H _ I m) λu r b=>?_;obtain⟨x,p,o,k,l⟩:=b;obtain⟨i,rfl,q⟩:=l;obtain⟨t,rfl⟩:=k;exact⟨some i,p,o,.int i t,q⟩
def C7(X:Cx)(r:V->Option Int->Option Int->Hp->VK->Prop):Prop:=
 ∀(h:List (V1×Obj))(s:V4)(a:St)(H:Hp)(x:V)(v vl b:V3)(lo c:Option Int)(sl:V1)(Q:VK),Inv X h a H s->RelV x v->s.heap.IsSliceOf sl vl b .none->IsPart vl lo->IsPart b c->r x lo c H Q->
  ∃T id,typeLookup (.type T) "__getitem__"=pure (some (.builtin id))/\s.TypeIs v T/\Wa (Wb X.prog X.w) X.A (Xo v (.ref sl)) (EP X h a Q) X.xe s
noncomputable def Do(r:V->Option Int->Option Int->Hp->VK->Prop)(d:TE)(f g:TO):TE:=λa H Q=>d a H λx i=>f a i λl h=>g a h λu b=>r x l u b Q
theorem uF{r:V->Option Int->Option Int->Hp->VK->Prop}(G:C7 X r)(K:PE X e d)(hl:PO X lo f)(D:PO X c g):PE X (.Subscript e (.Slice lo c none j) pos) (Do r d f g):=by
 intro k s i H Q I h;refine Subscript_ (aC (K k s i H _ I h) λv t n=>?_);obtain⟨x,S,P,w,A⟩:=n;refine wpAny_Slice (aC (hl k t i S _ P A) λvl p ⟨l,R,O,C,z⟩=>aC (D k p i R _ O z) λm a n=>?_);obtain⟨u,o,N,B,y⟩:=n;rw[evalPart_none];refine V7 ?_;have M:Inv X k i o {a with heap:=a.heap.push {cls:=.type "slice",data:=.fields #[vl,m,.none]}}:=N.kept (t':=a.toks) λb ob q=>V8.get?_push_of_some _ q;obtain⟨T,id,L,F,J⟩:=G k {a with heap:=a.heap.push {cls:=.type "slice",data:=.fields #[vl,m,.none]}} i o x v vl m l u a.heap.objs.size Q M w (V8.IsSliceOf.new ..) C B y;show Wa (Wb X.prog X.w) X.A (subscriptTail e (.Slice lo c none j) v (.ref a.heap.objs.size)) (EP X k i Q) X.xe {a with heap:=a.heap.push {cls:=.type "slice",data:=.fields #[vl,m,.none]}};exact tail_any (ops:=[.ref a.heap.objs.size,v]) F L J (by with_unfolding_all rfl)
def vI(xs:Uh)(lo c:Option Int):Uh:=(xs.drop (HT.cb xs.length 0 lo)).take (HT.cb xs.length xs.length c - HT.cb xs.length 0 lo)
theorem sB(xs:Uh)(lo c:Option Int):(vI xs lo c).length<=xs.length:=by
 unfold vI;rw[UU,VD];lia
def D1(K:aK):V->Option Int->Option Int->Hp->VK->Prop:=λx lo c H Q=>∃a xs,x=.ref a/\fv K H a xs/\
 ¬(HT.cb xs.length 0 lo=0/\HT.cb xs.length xs.length c=xs.length)/\∀p,H p=none->Q (.ref p) (upd H p (.tup (vI xs lo c)))
theorem L9:C7 X (D1 X.K):=by
 intro A s y H x v vl z lo c sl Q I n w p o h;obtain⟨a,xs,rfl,t,u,q⟩:=h;cases n;obtain⟨i,r,m,l⟩:=I.tuple t;have k:i.toArray.size=xs.length:=by rw[bA];exact r.length.symm
 refine⟨"tuple",_,dF.lookup,m.typeIs,?_⟩;refine HT.pP m w p o (by rw[k];exact u) ?_ (by rw[k];exact l);rw[k];refine⟨.ref s.heap.objs.size,_,I.laid (t':=s.toks) (o:=.tup (vI xs lo c)) (λb ob q=>V8.get?_push_of_some _ q) (bI _) ?_,rfl,q _ (I.aF.fresh (bI _))⟩;exact⟨aX (sB xs lo c) l,_,(r.drop (HT.cb xs.length 0 lo)).take (HT.cb xs.length xs.length c - HT.cb xs.length 0 lo),IsTup.new _ _⟩
end
variable{i:Int}{j:Nat}{d:Type}
noncomputable def ot(n:Nat)(i:Int):Option Nat:=if 0<=i then(if i<n then some i.toNat else none)else if -(n:Int)<=i then some (i+n).toNat else none
def f5{d:Type}(xs:List d)(i:Int):Option d:=(ot xs.length i).bind λj=>xs[j]?
theorem HD{n:Nat}(h:ot n i=some j):seqIndex? i n=some j/\j<n/\ -(n:Int)<=i/\i<n:=by
 unfold ot at h;by_cases b:0<=i
 .rw[V6 b]at h;by_cases a:i<n
  .rw[V6 a]at h;have e:i.toNat=j:=bZ.inj h;exact⟨by rw[seqIndex_of b a,e],by lia,by lia,a⟩
  .rw[V9 a]at h;cases h
 .rw[V9 b]at h;by_cases a: -(n:Int)<=i
  .rw[V6 a]at h;have e:(i+n).toNat=j:=bZ.inj h;exact⟨by rw[seqIndex_neg (by lia) a,e],by lia,a,by lia⟩
  .rw[V9 a]at h;cases h
theorem xN{xs:List d}{v:d}(h:f5 xs i=some v):∃j,seqIndex? i xs.length=some j/\xs[j]?=some v/\j<xs.length/\ -(xs.length:Int)<=i/\i<xs.length:=by
 unfold f5 at h;cases e:ot xs.length i with
 |none=>rw[e]at h;cases h
 |some j=>
  rw[e]at h;obtain⟨f,c,b,a⟩:=HD e;exact⟨j,f,h,c,b,a⟩
theorem OA{xs:List d}{v:d}(h:xs[j]?=some v):f5 xs (j:Int)=some v:=by
 have a:j<xs.length:=(fA h).1;have e:ot xs.length (j:Int)=some j:=by
  unfold ot;rw[V6 (by lia),V6 (by lia)];simp
 unfold f5;rw[e];exact h
def y0(b:Wg):Prop:=∀o i,subscripted b false o i=operate [o,i] (Xo o i)
def qt(X:Cx)(r:R2):Prop:=
 ∀(value slice:Wg)(b:List (V1×Obj))(s:V4)(a:St)(H:Hp)(x y:V)(v u:V3)(Q:VK),Inv X b a H s->RelV x v->RelV y u->r x y H Q->
  subscripted slice false v u=operate [v,u] (Xo v u)->Wa (Wb X.prog X.w) X.A (subscriptTail value slice v u) (EP X b a Q) X.xe s
def yk(X:Cx)(id:String)(r:V->Uh->Hp->VK->Prop):Prop:=
 ∀(c:List (V1×Obj))(s:V4)(a:St)(H:Hp)(x:V)(xs:Uh)(v:V3)(b:Uq)(Q:VK),Inv X c a H s->RelV x v->au xs b->r x xs H Q->
  Wa (Wb X.prog X.w) X.A (call (.builtin id) (v::b)) (EP X c a Q) X.xe s
section
variable {X:Cx}{a b:Wg}{g l:TE}{pos:Pos}
variable{r:R2}{B:List (V1×Obj)}{m:St}{H:Hp}{s:V4}{p:V1}{xs:Uh}{x:V}{v:V3}
theorem qt.or{k:R2}(h:qt X r)(o:qt X k):qt X (λx y H Q=>r x y H Q\/k x y H Q):=by
 intro value slice B s m H x y v u Q I f c q n;rcases q with q|q
 .exact h value slice B s m H x y v u Q I f c q n
 .exact o value slice B s m H x y v u Q I f c q n
theorem ER(o:qt X r)(w:PE X a g)(t:PE X b l)(n:y0 b):PE X (.Subscript a b pos) (wq r g l):=by
 intro B s m H Q I h;exact Subscript_ (En w t I h λv u c x y e z k f q=>o a b B c m e x y v u Q z k f q (n _ _))
def Ay(K:aK):R2:=λx y H Q=>∃p xs i v,x=.ref p/\y=.int i/\dw K H p xs/\f5 xs i=some v/\Q v H
def Ax(K:aK):R2:=λx y H Q=>∃p xs i v,x=.ref p/\y=.int i/\fv K H p xs/\f5 xs i=some v/\Q v H
def Ep:R2:=λx y H Q=>∃z i c,x=.str z/\y=.int i/\z.length<=sizeLine/\f5 z.cps.toList i=some c/\Q (.str ⟨#[c]⟩) H
theorem Ni:qt X (Ay X.K):=by
 intro value slice B s m H x y v u Q I G F h e;obtain⟨p,xs,i,z,rfl,rfl,J,K,q⟩:=h;cases G;obtain⟨t,rfl⟩:=F;obtain⟨n,r,k,P⟩:=I.list J;obtain⟨j,f,N,S,M,L⟩:=xN K;obtain⟨w,C,O⟩:=r.get N;have hl:=r.length;have R:=fj;have c:EP X B m Q w s:=⟨z,H,I,O,q⟩;by_cases A:0<=i
 .have o:i.toNat=j:=by
   rw[seqIndex_of A L]at f;exact bZ.inj f
  exact item_listR k.isList A (by lia) (by rw[o];simpa using C) c e
 .have o:(i+(n.toArray.size:Int)).toNat=j:=by
   rw[seqIndex_neg (by lia) M]at f;rw[bA,<-hl];exact bZ.inj f
  exact subscriptTail_builtinR (x:=w) k.isList.typeIs slot_list_getitem.lookup
   (wpAny_getItem_list_neg (Q:=λr D=>r=w/\EP X B m Q r D) k.isList (by lia) (by rw[bA]<;>lia) (by lia) (by rw[o];simpa using C) ⟨rfl,c⟩) e
theorem G6:qt X (Ax X.K):=by
 intro value slice B s m H x y v u Q I o n h A;obtain⟨p,xs,i,z,rfl,rfl,C,D,q⟩:=h;cases o;obtain⟨t,rfl⟩:=n;obtain⟨e,r,f,L⟩:=I.tuple C;obtain⟨j,G,F,P,O,N⟩:=xN D;obtain⟨w,K,J⟩:=r.get F;have hl:=r.length;have M:=fj;have c:EP X B m Q w s:=⟨z,H,I,J,q⟩;exact subscriptTail_builtinR (x:=w) f.typeIs slot_tuple_getitem.lookup
  (getItem_tuple (j:=j) (Q:=λr k=>r=w/\EP X B m Q r k) f (by lia) (by lia) (by rw[bA,<-hl];exact G) (by simpa using K) ⟨rfl,c⟩) A
theorem Ht:qt X Ep:=by
 intro value slice B s m H x y v u Q I n k h o;obtain⟨z,i,c,rfl,rfl,J,w,q⟩:=h;obtain⟨t,rfl⟩:=n;obtain⟨G,rfl⟩:=k;obtain⟨j,f,C,L,A,e⟩:=xN w;have hl:z.cps.toList.length=z.length:=by simp[Str.length]
 rw[hl]at f A e;have K:=fj;exact tail_any (Xc s z t) slot_str_getitem.lookup (getItem_str (c:=c) (by
  have F:decide (i< -(2^63:Int))=false:=decide_eq_false (by lia);have D:decide (i>=2^63)=false:=decide_eq_false (by lia);rw[F,D,Bool.or_false]) (by rw[f];simpa using C) ⟨.str ⟨#[c]⟩,H,I.tok _,⟨_,rfl⟩,q⟩) o
def FX(K:aK):R2:=λx y H Q=>Ay K x y H Q\/Ax K x y H Q\/Ep x y H Q
theorem LH:qt X (FX X.K):=Ni.or (G6.or Ht)
theorem Tt(c:Uq)(n j:Nat)(u:V3):Obj.mapSeq (·.setIfInBounds j u) {cls:=.type "list",data:=.seq c.toArray n}={cls:=.type "list",data:=.seq (c.set j u).toArray n}:=by
 simp[Obj.mapSeq]
theorem Inv.lst(I:Inv X B m H s)(h:H p=some (.lst xs)):
 ∃(its:Uq)(n:Nat),au xs its/\s.heap.get? p=some {cls:=.type "list",data:=.seq its.toArray n}/\xs.length<=sizeLine:=by
 obtain⟨z,its,n,r,e⟩:=I.aF p _ h;exact⟨its,n,r,e,z⟩
theorem Inv.uq{o:Uh}{k c:Uq}{n w:Nat}{f:Obj->Obj}(I:Inv X B m H s)(h:H p=some (.lst xs))
 (A:s.heap.get? p=some {cls:=.type "list",data:=.seq k.toArray n})(y:f {cls:=.type "list",data:=.seq k.toArray n}={cls:=.type "list",data:=.seq c.toArray w})(r:au o c)(z:o.length<=sizeLine)(t:Nat):
 Inv X B m (upd H p (.lst o)) {s with heap:=s.heap.update p f,toks:=t}:=by
 have e:(s.heap.update p f).get? p=some {cls:=.type "list",data:=.seq c.toArray w}:=by
  rw[V8.get?_update_self f A (by rw[y]<;>rfl),y]
 refine I.write (x:=p) (e:=p) (by rw[h];trivial) (.inl rfl) (λb u C q=>(V8.get?_update_other _ _ (Ne.symm C)).trans q) ⟨_,e⟩ ?_;exact⟨z,c,w,r,e⟩
def ri:V->V->V->Hp->(Hp->Prop)->Prop:=λo i v H Q=>∃p xs k j,o=.ref p/\i=.int k/\H p=some (.lst xs)/\ot xs.length k=some j/\Q (upd H p (.lst (xs.set j v)))
theorem Qp:Cb X ri:=by
 intro B s m H o i v L M u Q I F G D h;obtain⟨p,xs,k,j,rfl,rfl,hp,K,q⟩:=h;cases F;obtain⟨t,rfl⟩:=G;obtain⟨c,n,r,w,J⟩:=I.lst hp;obtain⟨f,O,e,z⟩:=HD K;have hl:=r.length;have N:=fj;have C:Inv X B m (upd H p (.lst (xs.set j v))) {s with heap:=s.heap.update p (Obj.mapSeq (·.setIfInBounds j u))}:=
  I.uq hp w (Tt c n j u) (r.set D j) (by rw[List.length_set];exact J) s.toks
 by_cases A:0<=k
 .have y:k.toNat=j:=by
   rw[seqIndex_of A z]at f;exact bZ.inj f
  exact PySem.W.ki_setAt w A (by lia) (by rw[bA,<-hl];exact z) (by rw[y];exact⟨_,C,q⟩)
 .have y:(k+(c.toArray.size:Int)).toNat=j:=by
   rw[seqIndex_neg (by lia) e]at f;rw[bA,<-hl];exact bZ.inj f
  exact PySem.W.ki_setBack w (by lia) (by rw[bA,<-hl];exact e) (by lia) (by rw[y];exact⟨_,C,q⟩)
theorem yU(lo c:Option Int)(n:Nat):(W2 lo c none n).1=((HT.cb n 0 lo:Nat):Int)/\(W2 lo c none n).2.1=((HT.cb n n c:Nat):Int)/\(W2 lo c none n).2.2=1:=by
 refine⟨?_,?_,rfl⟩
 .cases lo with
  |none=>simp[W2,HT.cb]
  |some i=>
   simp only[W2,HT.cb,Vl,show(1:Int)>0 by decide,if_true];by_cases h:i<0
   .simp only[h,if_true]<;>lia
   .simp only[h,if_false]<;>lia
 .cases c with
  |none=>simp[W2,HT.cb]
  |some i=>
   simp only[W2,HT.cb,Vl,show(1:Int)>0 by decide,if_true];by_cases h:i<0
   .simp only[h,if_true]<;>lia
   .simp only[h,if_false]<;>lia
theorem vE(c:Uq)(lo f:Option Int):slicePick c.toArray lo f none=((c.drop (HT.cb c.length 0 lo)).take (HT.cb c.length c.length f - HT.cb c.length 0 lo)).toArray:=by
 obtain⟨n,k,h⟩:=yU lo f c.toArray.size;unfold slicePick;rw[n,k,h];simp only[sliceRange_one,pick_run,bA]<;>rfl
def Av(K:aK):V->Option Int->Option Int->Hp->VK->Prop:=λx lo c H Q=>∃a xs,x=.ref a/\dw K H a xs/\∀p,H p=none->Q (.ref p) (upd H p (.lst (vI xs lo c)))
theorem NJ:C7 X (Av X.K):=by
 intro B s m H x v vl e lo c sl Q I k y o n h;obtain⟨a,xs,rfl,w,q⟩:=h;cases k;obtain⟨t,r,f,u⟩:=I.list w;have z:=r.length;refine⟨"list",_,slot_list_getitem.lookup,f.isList.typeIs,?_⟩;refine wpAny_getItem_list_slice f.isList y o n .none (by simp) ?_ (by rw[bA]<;>lia);rw[vE,<-z];refine⟨.ref s.heap.objs.size,_,I.laid (t':=s.toks) (o:=.lst (vI xs lo c)) (λb ob q=>V8.get?_push_of_some _ q) (bI _) ?_,rfl,q _ (I.aF.fresh (bI _))⟩;exact⟨aX (sB xs lo c) u,_,0,(r.drop (HT.cb xs.length 0 lo)).take (HT.cb xs.length xs.length c - HT.cb xs.length 0 lo),V8.get?_push_size _ rfl⟩
noncomputable def rq:V->Bool
 | .bg=>true
 | .bl _=>true
 | .int _=>true
 | .str _=>true
 |_=>false
noncomputable def Ju:V->V->Bool
 | .bg,.bg=>true
 | .bl a,.bl b=>a==b
 | .bl a,.int b=>(if a then 1 else 0)==b
 | .int a,.bl b=>a==(if b then 1 else 0)
 | .int a,.int b=>a==b
 | .str a,.str b=>a==b
 |_,_=>false
theorem Mc{A:We}{y:V}{u:V3}(h:RelV y u)(c:RelV x v)(n:rq y=true)(k:rq x=true):SeqAt.EqAt A s u v (Ju y x):=by
 cases y with
 |bg=>
  cases h;cases x with
  |bg=>cases c;exact SeqAt.EqAt.same _
  |bl b=>cases c;exact SeqAt.EqAt.none_bool b
  |int b=>obtain⟨t,rfl⟩:=c;exact SeqAt.EqAt.none_int b t
  |str b=>obtain⟨t,rfl⟩:=c;exact SeqAt.EqAt.none_str b t
  |_=>exact absurd (show false=true from k) bU
 |bl a=>
  cases h;cases x with
  |bg=>cases c;exact SeqAt.EqAt.bool_none a
  |bl b=>cases c;exact SeqAt.EqAt.bool_bool a b
  |int b=>obtain⟨t,rfl⟩:=c;exact SeqAt.EqAt.bool_int a b t
  |str b=>obtain⟨t,rfl⟩:=c;exact SeqAt.EqAt.bool_str a b t
  |_=>exact absurd (show false=true from k) bU
 |int a=>
  obtain⟨f,rfl⟩:=h;cases x with
  |bg=>cases c;exact SeqAt.EqAt.int_none a f
  |bl b=>cases c;exact SeqAt.EqAt.int_bool a f b
  |int b=>obtain⟨t,rfl⟩:=c;exact SeqAt.EqAt.int_int a f b t
  |str b=>obtain⟨t,rfl⟩:=c;exact SeqAt.EqAt.int_str a f b t
  |_=>exact absurd (show false=true from k) bU
 |str a=>
  obtain⟨f,rfl⟩:=h;cases x with
  |bg=>cases c;exact SeqAt.EqAt.str_none a f
  |bl b=>cases c;exact SeqAt.EqAt.str_bool a f b
  |int b=>obtain⟨t,rfl⟩:=c;exact SeqAt.EqAt.str_int a f b t
  |str b=>obtain⟨t,rfl⟩:=c;exact SeqAt.EqAt.str_str a f b t
  |_=>exact absurd (show false=true from k) bU
 |_=>exact absurd (show false=true from n) bU
theorem pZ:mU X (.builtin "len") (λxs H Q=>∃p c,xs=[.ref p]/\(dw X.K H p c\/fv X.K H p c)/\Q (.int c.length) H):=by
 intro B s m H xs z Q I r h;obtain⟨p,c,rfl,f,q⟩:=h;obtain⟨u,rfl,w⟩:=vals1 r;cases w;have e:=fj;rcases f with f|f
 .obtain⟨o,k,n,y⟩:=I.list f;have t:=k.length;exact Calls.call_len_list n.isList (by simp only[bA]<;>lia) ⟨.int c.length,H,I.tok _,⟨s.toks+1,by rw[bA,t]⟩,q⟩
 .obtain⟨o,k,n,y⟩:=I.tuple f;have t:=k.length;exact len_tuple n (by simp only[bA]<;>lia) ⟨.int c.length,H,I.tok _,⟨s.toks+1,by rw[bA,t]⟩,q⟩
theorem yB:mU X (.builtin "len") (λxs H Q=>∃z,xs=[.str z]/\z.length<=sizeLine/\Q (.int z.length) H):=by
 intro B s m H xs c Q I r h;obtain⟨z,rfl,f,q⟩:=h;obtain⟨u,rfl,t,rfl⟩:=vals1 r;have k:=fj;exact len_str (by lia) ⟨.int z.length,H,I.tok _,⟨_,rfl⟩,q⟩
def Dj(K:aK)(T:String)(x:V)(H:Hp):Prop:=match x with
 | .str _=>T="str"
 | .int _=>T="int"
 | .ref p=>(T="list"/\∃xs,dw K H p xs)\/(T="tuple"/\∃o,K.lookup p=some o/\o.cls=.type "tuple"/\o.dict=none)\/
  (T="dict"/\((∃c,H p=some (.dK c))\/∃c,H p=some (.dT c)))\/(T="set"/\∃S n,H p=some (.set S n))
 |_=>False
theorem J5{T:String}(I:Inv X B m H s)(r:RelV x v)(k:Dj X.K T x H):
 s.TypeIs v T/\∀a,v=.ref a->∃ob,s.heap.get? a=some ob/\ob.dict=none:=by
 cases x with
 |str z=>
  obtain⟨t,rfl⟩:=r;cases (show T="str" from k);exact⟨Xc s z t,λ_ e=>nomatch e⟩
 |int i=>
  obtain⟨t,rfl⟩:=r;cases (show T="int" from k);exact⟨typeIs_int s i t,λ_ e=>nomatch e⟩
 |ref p=>
  cases r;rcases k with⟨rfl,xs,C⟩| ⟨rfl,o,f,D,u⟩| ⟨rfl,f⟩| ⟨rfl,S,n,f⟩
  .obtain⟨A,_,y,_⟩:=I.list C;refine⟨y.isList.typeIs,λa e=>?_⟩;cases e;obtain⟨o,n,e,c,u,_⟩:=y;exact⟨o,e,u⟩
  .refine⟨⟨o,I.gh p o f,D⟩,λa e=>?_⟩;cases e;exact⟨o,I.gh _ o f,u⟩
  .have z:∃o,s.heap.get? p=some o/\o.ExactDict:=by
    rcases f with⟨q,f⟩| ⟨q,f⟩
    .obtain⟨_,_,_,_,o,_,_,e,h,_⟩:=I.aF p _ f;exact⟨o,e,h⟩
    .obtain⟨_,_,_,_,o,_,_,e,h,_⟩:=I.aF p _ f;exact⟨o,e,h⟩
   obtain⟨o,e,h⟩:=z;refine⟨⟨o,e,h.1⟩,λa w=>?_⟩;cases w;exact⟨o,e,h.2.1⟩
  .obtain⟨o,_,_,_,e,h,_⟩:=I.aF p _ f;refine⟨⟨o,e,h.1⟩,λa w=>?_⟩;cases w;exact⟨o,e,h.2.1⟩
 |_=>exact False.elim k
noncomputable def Ae(K:aK)(T:String)(r:V->Uh->Hp->VK->Prop)(f:TE)(t:TA):TE:=λm H Q=>f m H λx c=>Dj K T x c/\t m c λxs h=>r x xs h Q
variable {o e:Wg}{c:Uu}{n:TE}{t:TA}{name:Str}{q f:Pos}{T id:String}{r:V->Uh->Hp->VK->Prop}
theorem wK(L:PlainAttrs T)(slot:Slot T name id)(k:typeOf (.builtin id)=pure (.type "method_descriptor"))(O:yk X id r)(N:PE X o n)(P:PA X (e::c) t)
 (Z:Wv o name X.env (Wh o X.env)=Wh o X.env:=by rfl)
 (U:((Wj f (V2 (e::c) X.env)).all (λx=> !x.1)&&(WX f (WC [] X.env)).all (λx=>x.1.isSome)
  &&decide ((e::c).length+([]:List WG).length+(if([]:List WG).isEmpty then 0 else 1)<30))=true:=by rfl)
 (Y:(q.endLine==f.line)=true:=by rfl)(M:V2 (e::c) X.env=(false,Wh e X.env)::V2 c X.env:=by rfl)(E:(Wj f (V2 c X.env)).any (·.1)=false:=by rfl):
 PE X (.Call (.Attribute o name q) (e::c) [] f) (Ae X.K T r n t):=by
 intro B s m H Q I h;refine wpAny_Call_method_late Z U Y rfl (aC (N B s m H _ I h) λv F z=>?_);obtain⟨x,H1,y,u,C,K⟩:=z;obtain⟨S,R⟩:=J5 y u C;refine⟨T,id,L,slot,k,S,R,?_⟩;have w:=P f B F m H1 _ y K;rw[M]at w|-;refine Calls.callWith_builtin (by show(false||(Wj f (V2 c X.env)).any (·.1))=false;rw[E]<;>rfl) (Calls.evalArgs_plain ?_);exact aC w λA D ⟨vs,H2,I2,G,J⟩=>O B D m H2 x vs v A Q I2 u G J
end
def T7(X:Cx)(id:String)(r:V->Uh->Hp->VK->Prop):Prop:=
 ∀(c:List (V1×Obj))(s:V4)(a:St)(H:Hp)(x:V)(xs:Uh)(v:V3)(b:Uq)(Q:VK),Inv X c a H s->RelV x v->au xs b->r x xs H Q->
  Wa (Wb X.prog X.w) X.A (call (.builtin id) (v::b)) (EP X c a Q) X.xe s
theorem au.one:∀{x:V}{a:Uq},au [x] a->∃u,a=[u]/\RelV x u
 |_,_,.cons r .nil=>⟨_,rfl,r⟩
theorem au.two{x y:V}{a:Uq}(h:au [x,y] a):∃u v,a=[u,v]/\RelV x u/\RelV y v:=by
 cases h with
 |cons r h=>
  cases h with
  |cons q h=>
   cases h;exact⟨_,_,rfl,r,q⟩
section
variable {X:Cx}{a:List (V1×Obj)}{c:St}{H:Hp}{s:V4}{l b:V1}{xs g h:Uh}
variable{its:Uq}{t':Nat}
theorem Inv.Ea{its':Uq}{n:Nat}{f:Array V3->Array V3}(I:Inv X a c H s)(t:H l=some (.lst xs))
 (e:s.heap.get? l=some {cls:=.type "list",data:=.seq its.toArray n})(p:f its.toArray=its'.toArray)(m:au g its')(k:g.length<=sizeLine):
 Inv X a c (upd H l (.lst g)) {s with heap:=s.heap.update l (Obj.mapSeq f),toks:=t'}:=by
 have q:=PySem.IsL.update e f;rw[p]at q;refine I.write (x:=l) (e:=l) (by rw[t];exact trivial) (.inl rfl) (λv u r o=>(V8.get?_update_other s.heap (Obj.mapSeq f) (Ne.symm r)).trans o) ⟨_,q⟩ ?_;exact⟨k,its',_,m,q⟩
theorem Inv.uu(I:Inv X a c H s)(k:au g its)(f:g.length<=sizeLine):
 Inv X a c (upd H s.heap.objs.size (.lst g)) {s with heap:=s.heap.push {cls:=.type "list",data:=.seq its.toArray},toks:=t'}:=
 I.laid (λ_ _ q=>V8.get?_push_of_some _ q) (bI _) ⟨f,its,0,k,V8.get?_push_size _ rfl⟩
theorem Inv.fresh(I:Inv X a c H s):H s.heap.objs.size=none:=I.aF.fresh (bI _)
theorem Inv.D9(I:Inv X a c H s)(f:H l=some (.lst xs)):xs.length<=sizeLine/\∃(its:Uq)(n:Nat),au xs its/\xs.length=its.length/\s.heap.get? l=some {cls:=.type "list",data:=.seq its.toArray n}:=by
 obtain⟨z,its,n,r,e⟩:=I.aF l _ f;exact⟨z,its,n,r,r.length,e⟩
end
section
variable {X:Cx}
def qf:V->Uh->Hp->VK->Prop:=λx vs H Q=>∃l xs y,x=.ref l/\vs=[y]/\H l=some (.lst xs)/\xs.length<sizeLine/\Q .bg (upd H l (.lst (xs++[y])))
theorem r9:T7 X "list.append" qf:=by
 intro o s g H x vs v k Q I b c h;obtain⟨l,xs,y,rfl,rfl,a,m,q⟩:=h;cases b;obtain⟨u,rfl,f⟩:=c.one;obtain⟨z,its,n,r,hl,e⟩:=I.D9 a;refine call_meets F.slot_list_append ⟨_,e,rfl⟩ F.entry_list_append (F.args_list_append_2 _ _) (PySem.list_append l its.toArray n u (by rw[bA];lia)) ⟨e,?_⟩;refine⟨.bg,_,I.Ea (its':=its++[u]) a e (by simp) (r.append (.cons f .nil)) ?_,rfl,q⟩;rw[bN,List.length_singleton];lia
end
section
variable {a:Wd}{w:Wf}{A:We}{E:Ut}{s:V4}
end
section
variable {X:Cx}
end
end L2
namespace FK
open PySem PySem.W PySem.Calls PyProof.Rows
variable{P:Params}{h:V8}
theorem sS:∀(c:Um)(vs:Uq),WellAll P h vs (c.map WData.int)->IntsAre vs c:=by
 intro c;induction c with
 |nil=>
  intro vs w;rw[aY]at w;cases w;exact .nil
 |cons n c ih=>
  intro vs w;rw[aN]at w;cases w with
  |cons a b=>
   cases a;exact .cons _ _ (ih _ b)
theorem S9{l:OpenLaw}{n:Nat}(u:l.most=some n){args:List WData}{vals:Uq}
 (i:l.row.toRowW.claim.pre args=true)(s:WellAll P h vals args):
 ∃a vs b,vals=[V3.ref a]/\args=[WData.list (b.map WData.int)]/\h.get? a=some {cls:=.type "list",data:=.seq vs.toArray}/\IntsAre vs b/\b.length<=n:=by
 have g:WShape.hasAll [] args [.list .int]=true:=(pre_splitW i).1;have j:l.pre.holds [] {args:=args}=true:=(pre_splitW i).2;obtain⟨d,r,rfl,x,w⟩:=hasAllW_cons g;obtain rfl:=hasAllW_nil w;obtain⟨xs,rfl,v⟩:=hasW_list x;obtain⟨b,rfl⟩:=items_int v;have y:b.length<=n:=by
  unfold OpenLaw.pre at j;have f:(WTm.not (.lt (.lit (.int (n:Int))) (.len (.arg 0)))).holds [] {args:=[.list (b.map .int)]}=true:=by
   have f:=(holds_andW j).1;rw[u]at f;exact f
  have c:=condW_of f (w_not (w_lt w_lit (w_len_list (w_arg rfl))));rw[aQ]at c;refine cM λq=>?_;have o:(n:Int)<((b.length:Nat):Int):=by lia
  first
   | (rw[decide_eq_true o]at c;exact absurd c (by decide))
   | (simp at c;lia)
 cases s with
 |cons m k=>
  cases k;cases m with
  |list t p=>exact⟨_,_,b,rfl,rfl,t,sS b _ p,y⟩
theorem S1(l:OpenLaw)(args:List WData):l.row.toRowW.claim.post args (.bool true) args=true:=
 postW_of (r:=l.row.toRowW) (X:=(true==true))
  (show WShape.has [] (.bool true) .bool=true by first|rfl|decide|simp[WShape.has,WShape.arms,WShape.armsAll])
  (show(WTm.eq .res (.lit (.bool true))).value [] {args:=args,res:=some (.bool true),after:=args}=some (.bool (true==true))from w_eq_bool (w_res rfl) w_lit) rfl
section
variable {a:Wd}{w:Wf}{A:We}{E:Ut}{s:V4}{K:Frag}
end
end FK
namespace L2
open PySem PySem.Spec PyProof.Rows
theorem wR:∀{vs:Uq}{a:Um},IntsAre vs a->au (a.map V.int) vs
 |_,_,.nil=>.nil
 |_,_,.cons n t h=>.cons ⟨t,rfl⟩ (wR h)
def wc(H:Hp):Prop:=∀b,H b=none\/∃o xs,H b=some (.ei o (.lst xs))
theorem PL{P:Wd}{w:Wf}{K:aK}{t I:Str->Us}{CX:p5}{k:Nat}{fa a:V1}{Z:Ww}{x:Str}{R:Sp}{c:V4}{vs:Uq}{p:Um}
 (KX:K.In c.heap)(Q:c.heap.Ns V5 t)(f:c.heap.Ns builtinsNs I)(L:∀x:Str,x≠"__name__"->I x=WN x)(cv:c.heap.NoLimit)(hg:c.gens=#[])
 (G:c.heap.get? a=some {cls:=.type "list",data:=.seq vs.toArray})(U:IntsAre vs p)(hl:p.length<=sizeLine)(hr:aJ k callerA)
 (F:∀i:V8,K.In i->i.Ns V5 t->lB P w K t i CX k fa Z [x] R)(pe:∀(s:V4)(u:V3),BindsTo s Z ⟨[u],[]⟩ [(x,u)])
 (gq:∀H:Hp,wc H->dw K H a (p.map V.int)->R [.ref a] H (λv _=>v=.bl true) λ_ _ _=>False)
 (M:∀H e g,CX [] H c (λ_ _ _=>False) e g->False):
 W1 (Wb P w) callerA (.call (.ref fa) ⟨[.ref a],[]⟩) (λr g=>r=.ok (.ret (.bool true))/\OldK c.heap g.heap/\g.os=c.os/\Xe g.gens) c:=by
 have S:=wR U;have ue:=U.length;have j:∀H:Hp,wc H->dw K H a (p.map V.int)->er P w H c.heap->(∀b,H b≠none->b=a)->(H a≠none->K.lookup a=none)->
  W1 (Wb P w) callerA (.call (.ref fa) ⟨[.ref a],[]⟩) (λr g=>r=.ok (.ret (.bool true))/\OldK c.heap g.heap/\g.os=c.os/\Xe g.gens) c:=by
  intro H X hS y Y hK;have base_of:∀{b:V1}{o:Obj},c.heap.get? b=some o->H b=none->(yN c.heap H).get? b=some o:=λe n=>Q8 e n;have nh:∀{b:V1}{o:Obj}{A:Array WQ}{B:Nat},c.heap.get? b=some o->o.data=.dict A B->H b=none:=λ{b o A B} e d=>by
   cases q:H b with
   |none=>rfl
   |some u=>
    have N:b=a:=Y b (by rw[q];simp);subst N;rw[G]at e;cases e;have d':Data.seq vs.toArray _=Data.dict A B:=d;cases d'
  have D:∀{b:V1}{m:Str->Us},c.heap.Ns b m->(yN c.heap H).Ns b m:=λ{b m} ⟨o,A,B,e,d,r⟩=>⟨o,A,B,base_of e (nh e d),d,r⟩;have O:K.In (yN c.heap H):=λb o e=>base_of (KX b o e) (by
   cases q:H b with
   |none=>rfl
   |some u=>
    have N:b=a:=Y b (by rw[q];simp);subst N;rw[hK (by rw[q];simp)]at e;cases e)
  have hM:Mod K t (yN c.heap H):=⟨O,D Q,⟨I,D f,L⟩,let ⟨mc,h1,h2⟩:=cv;⟨mc,D h1,h2⟩⟩;have e0:kr P w K t (yN c.heap H) callerA [] c H:=⟨rfl,hM,λb o e=>O7 e,eC (SF _ _),trivial,λb f=>absurd (show b∈([]:List V1)from f) (by simp),y,.of_eq hg⟩;refine Xd ((F _ O (D Q)).run callerA [] c H ⟨[.ref a],[]⟩ [.ref a] [.ref a] _ _ hr e0 (pe c (.ref a)) (.cons rfl .nil) (gq H X hS)) λr g h=>?_;cases r with
  |error e=>exact(M H e g h).elim
  |ok fl=>
   cases fl with
   |next=>exact False.elim h
   |brk=>exact False.elim h
   |cont=>exact False.elim h
   |ret u=>
    obtain⟨v,H',os,C,un,ux,r',q⟩:=h;have q':v=.bl true:=q;subst q';obtain rfl:u=V3.bool true:=r';refine⟨rfl,OldK.of_keep λb o e=>?_,os,C⟩;cases q:H b with
    |none=>exact un.keep b o e q (by intro z;exact absurd (show b∈([]:List V1)from z) (by simp)) (by simp)
    |some u=>
     rcases X b with z| ⟨ob,xs,z⟩
     .rw[q]at z;cases z
     .have z2:=un.eh b ob _ z;obtain⟨E,_⟩:=y b _ z;obtain⟨e2,_⟩:=ux b _ z2;rw[e]at E;cases E;exact e2
 cases J:K.lookup a with
 |some o=>
  have e:=KX a o J;rw[G]at e;cases e;refine j (λ_=>none) (λ_=>.inl rfl) (.inr ⟨_,vs.toArray,_,J,rfl,rfl,rfl,by rw[bA,ue];exact hl,by simpa using S⟩) (λb u z=>by have l:(none:Option HO)=some u:=z;cases l) (λb z=>absurd rfl z) λz=>absurd rfl z
 |none=>
  refine j (λb=>if b=a then some (.ei {cls:=.type "list",data:=.seq vs.toArray} (.lst (p.map V.int)))else none) (λb=>?_) (.inl (.inr ⟨{cls:=.type "list",data:=.seq vs.toArray},V6 rfl⟩)) (λb u z=>?_) (λb z=>?_) λ_=>J
  .by_cases f:b=a
   .exact .inr ⟨_,_,V6 f⟩
   .exact .inl (V9 f)
  .by_cases f:b=a
   .have l:=(V6 f).symm.trans z;cases l;subst f;exact⟨G,by rw[aQ];exact hl,vs,_,S,G⟩
   .have l:=(V9 f).symm.trans z;cases l
  .by_cases f:b=a
   .exact f
   .exact absurd (V9 f) z
noncomputable abbrev Ue{K:aK}{h:V8}(_:K.In h):aK:=K
end L2
namespace L2
open PySem PySem.Spec PyProof.Rows
noncomputable abbrev n2:p5:=λ_ _ _ _ _ _=>False
structure lq(K:aK)(x qual:Str)(st:WO)(f:V1)(fd:Ww):Prop where
 ex:∃(oc:V3)(od:Option V1)(kV doc pm:V3)(an:Option V1)(bh ct:V3)(ij:Array Us),
  fd=cG x qual (jJ st) (iQ st) (gF st) .none kV doc pm an bh ct/\K.lookup f=some ⟨oc,od,.func fd,ij⟩/\dI K bh qual=true
 kp:bL K (.ref f)=true
section
variable {P:Wd}{w:Wf}{K:aK}{mg:Str->Us}{base:V8}
variable{x a:Str}{st:WO}{f:V1}{b:Ww}{ps:Ur}
theorem lq.ok{N:Ur}{k:Nat}{g:Sp}(F:lq K x a st f b)(S:n5 N ps (gF st))(len:∀vs H Q E,g vs H Q E->vs.length=ps.length)
 (m:∀(d:V3)(A:We)(c:List Env)(s:V4)(H:Hp)(vs:Uh)(Q:VK)(E:XK),aJ k (A.deeper (W0 a (gF st) s.heap.objs.size f d))->g vs H Q E->
  ∃t,jf (vL n2 P w K mg base N a (gF st) f d A c s H E).w1 (iQ st) t/\t {nx:=λ_ o=>Q .bg o,rt:=Q} (start N vs) H):lB P w K mg base n2 (k+1) f b ps g:=by
 obtain⟨oc,od,kV,l,p,v,d,u,r,rfl,lk,n⟩:=F.ex;refine Fd lk n S len λA c s H vs Q E i j=>?_;obtain⟨t,h,q⟩:=m d A c s H vs Q E i j;exact⟨t,h.w1,q⟩
theorem lq.binds(F:lq K x a st f b)
 (h:∀(kV c g:V3)(k:Option V1)(j i:V3)(d:Uq),d.length=ps.length->bindArgs (cG x a (jJ st) (iQ st) (gF st) .none kV c g k j i) ⟨d,[]⟩=pure (ps.zip d)):Binds K b ps []:=by
 obtain⟨oc,od,kV,c,g,k,j,i,l,rfl,lk,m⟩:=F.ex;exact .all (h kV c g k j i)
theorem xQ{oc:V3}{od j:Option V1}{m:Array Us}{kV d h g i:V3}(l:K.lookup f=some ⟨oc,od,.func (cG x a (jJ st) (iQ st) (gF st) .none kV d h j g i),m⟩)
 (c:dI K g a=true)(k:bL K (.ref f)=true):lq K x a st f (cG x a (jJ st) (iQ st) (gF st) .none kV d h j g i):=⟨⟨oc,od,kV,d,h,j,g,i,m,rfl,l,c⟩,k⟩
end
section
variable {X:Cx}
end
variable{H d:Hp}
def aG(H d:Hp):Prop:=∀b o,H b=some o->d b=some o
theorem aG.refl(H:Hp):aG H H:=λ_ _ h=>h
theorem aG.trans{g f:Hp}(a:aG H g)(b:aG g f):aG H f:=λc o h=>b c o (a c o h)
theorem aG.free(e:aG H d){l:V1}(h:d l=Vm):H l=Vm:=by
 cases q:H l with
 |none=>rfl
 |some o=>
  rw[e l o q]at h;cases h
theorem aG.seq{K:aK}{a:V1}{xs:Uh}(e:aG H d)(h:dw K H a xs):dw K d a xs:=by
 rcases h with(h| ⟨o,h⟩)|h
 .exact .inl (.inl (e _ _ h))
 .exact .inl (.inr ⟨o,e _ _ h⟩)
 .exact .inr h
end L2
namespace PySem
section
variable {M:Model}{A:We}{E:Ut}
variable {b q:Str}{C N:V1}{bs a:Uq}{c:Bool}{i:Ur}{sub:Uq}{ab:Bool}{j:Option Bool}{l:Option V1}{m n o p r:Us}{s:String}
variable {v w:Str}{D x:V1}{y u:Uq}{z:Bool}{B:Ur}{F:Uq}{G:Bool}{H:Option Bool}{I:Option V1}{J K L O P:Us}{R:String}
theorem u0{h:V8}{g:Array GenState}{d:Drawn}{t:Nat}{os:OsState}{e:V1}{S:Obj}{Q:Bool->V4->Prop}
 (hC:h.get? C=some (excClassObj b q C N bs a c i sub ab j l m n o p r s))(U:h.get? D=some (excClassObj v w D x y u z B F G H I J K L O P R))(he:h.get? e=some S)(X:S.cls=.ref C)(bd:u.contains (.type "BaseException")=true)
 (Y:(V3.ref C::a).contains (.ref D)=true)
 (Z:Q true ⟨h,g,d,t,os⟩):Wa M A (excMatches (.ref e) (.ref D)) Q E ⟨h,g,d,t,os⟩:=by
 have k:(V3.ref D::u).contains (.type "BaseException")=true:=by rw[Vv,bd,Bool.or_true]
 have f:=tc_notTuple;unfold excMatches;repeat(first| (with_reducible refine WV he ?_;rw[X])|with_reducible refine WV U ?_ | (with_reducible refine wpAny_isSubtype_exc U ?_;rw[k])| (with_reducible refine wpAny_isSubtype_exc hC ?_;rw[Y])|wp_step)
 exact Z
end
end PySem
namespace TL
open PySem L2
variable{H:Hp}{Z:V1->Prop}{ρ:bo}{a:V1}{o:HO}
inductive T where
 |bg|bl (b:Bool)|int (i:Int)|str (x:Str)|lst (xs:List T)|tup (xs:List T)|cell (c:Nat)|exc (c:String)|fn (c:String)
abbrev tl:=List T
abbrev Ug:=Option T
noncomputable abbrev aB:=List Ug
inductive Kd where
 |l|o (cls:String) (ns:Ur)|dk (ks:List Key)|dt (ks:List (List Key))|dz (ks:List (List Key))|dy (ks:List Key)
noncomputable abbrev Cl:=Kd×tl
abbrev aq:=List Cl
noncomputable abbrev bo:=List V1
open Classical in
noncomputable def mask(H:Hp)(Z:V1->Prop)(ρ:bo):Hp:=λa=>if Z a\/a∈ρ then none else H a
theorem xB:mask H Z ρ a=some o↔¬Z a/\a∉ρ/\H a=some o:=by
 unfold mask;constructor
 .intro h;split at h
  .cases h
  .rename_i q;exact⟨λz=>q (.inl z),λz=>q (.inr z),h⟩
 .rintro⟨d,c,b⟩;rw[V9 (by
   rintro(z|z)
   .exact d z
   .exact c z)]
  exact b
def gK:=λ{a b c d e}=>(@xB a b c d e).mp
theorem jX(d:¬Z a)(c:a∉ρ)(b:H a=some o):mask H Z ρ a=some o:=xB.mpr ⟨d,c,b⟩
theorem nI:aG (mask H Z ρ) H:=λa o h=>(gK h).2.2
noncomputable def xg(a C:V1):HO:=.ext λh=>∃ob,h.get? a=some ob/\ob.cls=.ref C
mutual
def RT(K:aK)(M:Hp)(ρ:bo):T->V->Prop
 | .bg,v=>v=.bg
 | .bl b,v=>v=.bl b
 | .int i,v=>v=.int i
 | .str x,v=>v=.str x
 | .lst ts,v=>∃a vs,v=.ref a/\dw K M a vs/\ax K M ρ ts vs
 | .tup ts,v=>∃a vs,v=.ref a/\M a=some (.tup vs)/\ax K M ρ ts vs
 | .cell c,v=>∃a,v=.ref a/\ρ[c]?=some a
 | .exc c,v=>∃a C,v=.ref a/\aW K V5 (Str.ofString c)=some (some (.ref C))/\M a=some (xg a C)
 | .fn c,v=>∃a,v=.ref a/\aW K V5 (Str.ofString c)=some (some (.ref a))
def ax(K:aK)(M:Hp)(ρ:bo):tl->Uh->Prop
 | [],vs=>vs=[]
 |t::ts,vs=>∃v r,vs=v::r/\RT K M ρ t v/\ax K M ρ ts r
end
theorem aG.Dk{K:aK}{H b:Hp}{a:V1}{xs:Uh}(e:aG H b)(h:fv K H a xs):fv K b a xs:=by
 rcases h with(h| ⟨o,h⟩)|h
 .exact .inl (.inl (e _ _ h))
 .exact .inl (.inr ⟨o,e _ _ h⟩)
 .exact .inr h
theorem OF{ρ e:bo}{c:Nat}{a:V1}(h:ρ[c]?=some a):(ρ++e)[c]?=some a:=by
 rw[bK (fA h).1];exact h
section
variable {K:aK}{M b:Hp}{ρ d:bo}
mutual
theorem RT.mono(s:aG M b)(p:∀(c:Nat)(a:V1),ρ[c]?=some a->d[c]?=some a):∀{t:T}{v:V},RT K M ρ t v->RT K b d t v
 | .bg,_,h=>by unfold RT at*;exact h
 | .bl _,_,h=>by unfold RT at*;exact h
 | .int _,_,h=>by unfold RT at*;exact h
 | .str _,_,h=>by unfold RT at*;exact h
 | .lst f,v,h=>by
   unfold RT at*;obtain⟨a,vs,e,q,r⟩:=h;exact⟨a,vs,e,s.seq q,ax.mono s p r⟩
 | .tup f,v,h=>by
   unfold RT at*;obtain⟨a,vs,e,q,r⟩:=h;exact⟨a,vs,e,s _ _ q,ax.mono s p r⟩
 | .cell c,v,h=>by
   unfold RT at*;obtain⟨a,e,q⟩:=h;exact⟨a,e,p c a q⟩
 | .exc c,v,h=>by
   unfold RT at*;obtain⟨a,C,e,q,r⟩:=h;exact⟨a,C,e,q,s _ _ r⟩
 | .fn c,v,h=>by unfold RT at*;exact h
theorem ax.mono(s:aG M b)(p:∀(c:Nat)(a:V1),ρ[c]?=some a->d[c]?=some a):∀{f:tl}{vs:Uh},ax K M ρ f vs->ax K b d f vs
 | [],_,h=>by unfold ax at*;exact h
 |t::f,vs,h=>by
  unfold ax at*;obtain⟨v,r,e,i,g⟩:=h;exact⟨v,r,e,RT.mono s p i,ax.mono s p g⟩
end
variable{t:T}{ts:tl}{v:V}{vs:Uh}
theorem ax.nil:ax K M ρ [] []:=by unfold ax;rfl
theorem ax.cons(h:RT K M ρ t v)(c:ax K M ρ ts vs):ax K M ρ (t::ts) (v::vs):=by
 unfold ax;exact⟨v,vs,rfl,h,c⟩
theorem ax.nil_inv(h:ax K M ρ [] vs):vs=[]:=by unfold ax at h;exact h
theorem ax.cons_inv(h:ax K M ρ (t::ts) vs):∃v r,vs=v::r/\RT K M ρ t v/\ax K M ρ ts r:=by unfold ax at h;exact h
theorem ax.length:∀{ts:tl}{vs:Uh},ax K M ρ ts vs->vs.length=ts.length
 | [],_,h=>by rw[h.nil_inv];rfl
 |t::ts,vs,h=>by
  obtain⟨v,r,rfl,_,c⟩:=h.cons_inv;simp[c.length]
theorem ax.get:∀{ts:tl}{vs:Uh}{i:Nat}{t:T},ax K M ρ ts vs->ts[i]?=some t->∃v,vs[i]?=some v/\RT K M ρ t v
 | [],_,_,_,_,e=>by simp at e
 |x::ts,vs,0,t,h,e=>by
  obtain⟨v,r,rfl,f,c⟩:=h.cons_inv;simp at e;subst e;exact⟨v,rfl,f⟩
 |x::ts,vs,i+1,t,h,e=>by
  obtain⟨v,r,rfl,f,c⟩:=h.cons_inv;obtain⟨u,j,g⟩:=ax.get (i:=i) c (by simpa using e);exact⟨u,by simpa using j,g⟩
theorem ax.append:∀{ts us:tl}{vs ws:Uh},ax K M ρ ts vs->ax K M ρ us ws->ax K M ρ (ts++us) (vs++ws)
 | [],_,_,_,h,c=>by rw[h.nil_inv];exact c
 |t::ts,_,_,_,h,c=>by
  obtain⟨v,r,rfl,g,f⟩:=h.cons_inv;exact .cons g (f.append c)
theorem ax.take:∀(n:Nat){ts:tl}{vs:Uh},ax K M ρ ts vs->ax K M ρ (ts.take n) (vs.take n)
 |0,_,_,_=>by simpa using ax.nil
 |n+1,[],_,h=>by rw[h.nil_inv];simpa using ax.nil
 |n+1,t::ts,_,h=>by
  obtain⟨v,r,rfl,f,c⟩:=h.cons_inv;exact .cons f (c.take n)
theorem ax.drop:∀(n:Nat){ts:tl}{vs:Uh},ax K M ρ ts vs->ax K M ρ (ts.drop n) (vs.drop n)
 |0,_,_,h=>h
 |n+1,[],_,h=>by rw[h.nil_inv];simpa using ax.nil
 |n+1,t::ts,_,h=>by
  obtain⟨v,r,rfl,f,c⟩:=h.cons_inv;exact c.drop n
theorem ax.set(g:RT K M ρ t v):∀(n:Nat){ts:tl}{vs:Uh},ax K M ρ ts vs->ax K M ρ (ts.set n t) (vs.set n v)
 |_,[],_,h=>by rw[h.nil_inv];simpa using ax.nil
 |0,x::ts,_,h=>by
  obtain⟨u,r,rfl,f,c⟩:=h.cons_inv;exact .cons g c
 |n+1,x::ts,_,h=>by
  obtain⟨u,r,rfl,f,c⟩:=h.cons_inv;exact .cons f (c.set g n)
end
variable{H H':Hp}{a:V1}{K:aK}{ρ ae:bo}{Z:V1->Prop}
def ny(K:aK):Kd->Uh->HO->Prop
 | .l,vs,o=>o=.lst vs
 | .o c d,vs,o=>d.length=vs.length/\∃C dx,aW K V5 (Str.ofString c)=some (some (.ref C))/\o=.ins C dx (d.zip vs)
 | .dk b,vs,o=>b.length=vs.length/\o=.dK (b.zip vs)
 | .dt b,vs,o=>b.length=vs.length/\o=.dT (b.zip vs)
 | .dz b,vs,o=>b.length=vs.length/\∃ob,o=.ei ob (.dT (b.zip vs))
 | .dy b,vs,o=>b.length=vs.length/\∃ob,o=.ei ob (.dK (b.zip vs))
def NT:Option HO->Prop
 |some (.tup _)=>False
 |none=>False
 |_=>True
theorem NT.same(s:aG H H')(h:NT (H a)):NT (H' a):=by
 cases e:H a with
 |none=>rw[e]at h;exact False.elim h
 |some o=>rw[s a o e,<-e];exact h
theorem NT.some(h:NT (H a)):H a≠none:=λz=>by rw[z]at h;exact h
theorem ny.nt{k:Kd}{vs:Uh}{o:HO}(h:ny K k vs o):NT (some o):=by
 cases k with
 |l=>unfold ny at h;subst h;trivial
 |o c d=>unfold ny at h;obtain⟨_,C,dx,_,rfl⟩:=h;trivial
 |dk b=>unfold ny at h;obtain⟨_,rfl⟩:=h;trivial
 |dt b=>unfold ny at h;obtain⟨_,rfl⟩:=h;trivial
 |dz b=>unfold ny at h;obtain⟨_,ob,rfl⟩:=h;trivial
 |dy b=>unfold ny at h;obtain⟨_,ob,rfl⟩:=h;trivial
def F0:Option HO->Prop
 |some (.ei _ _)=>False
 |_=>True
structure Rel(K:aK)(ay:Hp)(Z:V1->Prop)(ρ:bo)(τ:aB)(C:aq)(σ:St)(H:Hp):Prop where
 old:aG ay H
 aA:∀a∈ρ,ay a=none/\¬Z a
 nd:ρ.Nodup
 zd:∀a,Z a->NT (H a)
 loc:∀(i:Nat)(t:T),τ[i]?=some (some t)->∃v,σ[i]?=some (some v)/\RT K (mask H Z ρ) ρ t v
 hH:∀(c:Nat)(a:V1),ρ[c]?=some a->∃x vs o,C[c]?=some x/\H a=some o/\ny K x.1 vs o/\ax K (mask H Z ρ) ρ x.2 vs
 len:ρ.length=C.length
 mx:τ.length=σ.length
structure Step(H H':Hp)(ρ ae:bo):Prop where
 kept:∀(a:V1)(o:HO),H a=some o->a∉ρ->a∉ae/\H' a=some o
 pre:∃e,ae=ρ++e
 fz:∀(a:V1) ob u,H a=some (.ei ob u)->H' a=some (.ei ob u)
theorem Step.refl:Step H H ρ ρ:=⟨λa o h n=>⟨n,h⟩,⟨[],by simp⟩,λ_ _ _ h=>h⟩
theorem Step.trans{i g:Hp}{d c:bo}(a:Step H i ρ d)(b:Step i g d c):Step H g ρ c:=by
 obtain⟨e,k⟩:=a.pre;obtain⟨f,j⟩:=b.pre;exact⟨λx o h n=>(b.kept x o (a.kept x o h n).2 (a.kept x o h n).1),⟨e++f,by rw[j,k,eD]⟩,λx ob u h=>b.fz x ob u (a.fz x ob u h)⟩
theorem Step.of{e:bo}(s:aG H H')(h:∀a∈e,H a=none):Step H H' ρ (ρ++e):=
 ⟨λa o q n=>⟨λz=>(f8 z).elim n (λz=>by rw[h a z]at q;cases q),s a o q⟩,⟨e,rfl⟩,λa ob u h=>s a _ h⟩
theorem Step.of0(s:aG H H'):Step H H' ρ ρ:=⟨λa o q n=>⟨n,s a o q⟩,⟨[],by simp⟩,λa ob u h=>s a _ h⟩
theorem Step.idx(s:Step H H' ρ ae):∀(c:Nat)(a:V1),ρ[c]?=some a->ae[c]?=some a:=λc a h=>by
 obtain⟨e,b⟩:=s.pre;rw[b];exact OF h
theorem Step.mv(s:Step H H' ρ ae)(Z:V1->Prop):aG (mask H Z ρ) (mask H' Z ae):=λa o h=>by
 obtain⟨d,c,b⟩:=gK h;exact jX d (s.kept a o b c).1 (s.kept a o b c).2
theorem RT.step{t:T}{v:V}(h:RT K (mask H Z ρ) ρ t v)(s:Step H H' ρ ae):RT K (mask H' Z ae) ae t v:=h.mono (s.mv Z) s.idx
theorem ax.step{t:tl}{v:Uh}(h:ax K (mask H Z ρ) ρ t v)(s:Step H H' ρ ae):ax K (mask H' Z ae) ae t v:=h.mono (s.mv Z) s.idx
abbrev SStep(Z:V1->Prop)(H H':Hp)(ρ ae:bo):Prop:=Step H H' ρ ae
theorem Step.ss(s:Step H H' ρ ae):Step H H' ρ ae:=s
section
variable {K:aK}{g H H':Hp}{Z:V1->Prop}{ρ ae:bo}{f:aB}{C:aq}{σ:St}
variable{p:V1}{kd:Kd}{ob:HO}{c:Nat}
theorem Rel.alloc(R:Rel K g Z ρ f C σ H){o:HO}(hp:H p=none):Rel K g Z ρ f C σ (upd H p o)/\Step H (upd H p o) ρ ρ:=by
 have sm:aG H (upd H p o):=λb u h=>by rw[fL (λz=>by rw[z,hp]at h;cases h)];exact h
 have st:Step H (upd H p o) ρ ρ:=.of0 sm;refine⟨⟨R.old.trans sm,R.aA,R.nd,λa z=>(R.zd a z).same sm,λi t e=>?_,λc a e=>?_,R.len,R.mx⟩,st⟩
 .obtain⟨v,j,d⟩:=R.loc i t e;exact⟨v,j,d.step st⟩
 .obtain⟨x,vs,ob,j,d,k,l⟩:=R.hH c a e;exact⟨x,vs,ob,j,sm _ _ d,k,l.step st⟩
theorem Rel.dn(R:Rel K g Z ρ f C σ H)(hp:H p=none):¬Z p/\p∉ρ/\g p=none:=by
 refine⟨λz=>(R.zd p z).some hp,λz=>?_,R.old.free hp⟩;obtain⟨c,b⟩:=gR z;obtain⟨_,_,_,_,h,_⟩:=R.hH c p b;rw[hp]at h;cases h
theorem Rel.l7(R:Rel K g Z ρ f C σ H){b:tl}{vs:Uh}(hp:H p=none)(h:ax K (mask H Z ρ) ρ b vs):
 RT K (mask (upd H p (.lst vs)) Z ρ) ρ (.lst b) (.ref p):=by
 obtain⟨i,d,_⟩:=R.dn hp;unfold RT;exact⟨p,vs,rfl,.of (jX i d gS),h.step (R.alloc hp).2⟩
theorem Rel.gf(R:Rel K g Z ρ f C σ H){b:tl}{vs:Uh}(hp:H p=none)(h:ax K (mask H Z ρ) ρ b vs):
 RT K (mask (upd H p (.tup vs)) Z ρ) ρ (.tup b) (.ref p):=by
 obtain⟨i,d,_⟩:=R.dn hp;unfold RT;exact⟨p,vs,rfl,(jX i d gS),h.step (R.alloc hp).2⟩
theorem Rel.hA(R:Rel K g Z ρ f C σ H){ts:tl}{vs:Uh}(hp:H p=none)(q:ny K kd vs ob)(h:ax K (mask H Z ρ) ρ ts vs):
 Rel K g Z (ρ++[p]) f (C++[(kd,ts)]) σ (upd H p ob)/\Step H (upd H p ob) ρ (ρ++[p])/\RT K (mask (upd H p ob) Z (ρ++[p])) (ρ++[p]) (.cell C.length) (.ref p):=by
 obtain⟨x,w,s⟩:=R.dn hp;have sm:aG H (upd H p ob):=λb u h=>by rw[fL (λz=>by rw[z,hp]at h;cases h)];exact h
 have st:Step H (upd H p ob) ρ (ρ++[p]):=.of sm λa ha=>by rw[gP ha];exact hp
 refine⟨⟨R.old.trans sm,λa ha=>?_,?_,λa z=>(R.zd a z).same sm,λi t e=>?_,λc a e=>?_,by simp[R.len],R.mx⟩,st,?_⟩
 .rcases f8 ha with ha|ha
  .exact R.aA a ha
  .rw[gP ha];exact⟨s,x⟩
 .refine Vy.mpr ⟨R.nd,by simp,λa ha b y=>?_⟩;rw[gP y];rintro rfl;exact w ha
 .obtain⟨v,k,j⟩:=R.loc i t e;exact⟨v,k,j.step st⟩
 .by_cases d:c<ρ.length
  .rw[bK d]at e;obtain⟨m,l,r,k,j,A,B⟩:=R.hH c a e;exact⟨m,l,r,by rw[bK (by rw[<-R.len];exact d)];exact k,sm _ _ j,A,B.step st⟩
  .have n:c=ρ.length:=by
    have:=(fA e).1;simp at this;exact eV (Vc this) (cM d)
   subst n;rw[bP (bI _)]at e;simp at e;subst e;exact⟨(kd,ts),vs,ob,by rw[R.len];simp,gS,q,h.step st⟩
 .unfold RT;exact⟨p,rfl,by rw[<-R.len];simp⟩
theorem Rel.kq(R:Rel K g Z ρ f C σ H){b:tl}{vs:Uh}(hp:H p=none)(h:ax K (mask H Z ρ) ρ b vs):
 Rel K g Z (ρ++[p]) f (C++[(.l,b)]) σ (upd H p (.lst vs))/\Step H (upd H p (.lst vs)) ρ (ρ++[p])/\RT K (mask (upd H p (.lst vs)) Z (ρ++[p])) (ρ++[p]) (.cell C.length) (.ref p):=R.hA hp rfl h
theorem Rel.l6(R:Rel K g Z ρ f C σ H){a:V1}{d:tl}(i:ρ[c]?=some a)(e:C[c]?=some (.l,d)):∃vs,H a=some (.lst vs)/\ax K (mask H Z ρ) ρ d vs:=by
 obtain⟨x,vs,ob,h,k,b,j⟩:=R.hH c a i;rw[e]at h;cases h;have b:ob=.lst vs:=b;subst b;exact⟨vs,k,j⟩
theorem Rel.AA(R:Rel K g Z ρ f C σ H){a:V1}{k:tl}{vs:Uh}(j:ρ[c]?=some a)(s:ny K kd vs ob)(h:ax K (mask H Z ρ) ρ k vs):
 Rel K g Z ρ f (C.set c (kd,k)) σ (upd H a ob)/\mask (upd H a ob) Z ρ=mask H Z ρ:=by
 have m:a∈ρ:=bV j;have em:mask (upd H a ob) Z ρ=mask H Z ρ:=by
  funext b;unfold mask;split
  .rfl
  .rename_i q;rw[fL (by rintro rfl;exact q (.inr m))]
 refine⟨⟨λb o q=>?_,R.aA,R.nd,λb z=>?_,λi t e=>?_,λd b e=>?_,by simp[R.len],R.mx⟩,em⟩
 .rw[fL (by rintro rfl;rw[(R.aA b m).1]at q;cases q)];exact R.old b o q
 .rw[fL (by rintro rfl;exact(R.aA b m).2 z)];exact R.zd b z
 .rw[em];exact R.loc i t e
 .rw[em];by_cases l:d=c
  .subst l;rw[j]at e;cases e;have hl:d<C.length:=by rw[<-R.len];exact(fA j).1
   exact⟨(kd,k),vs,ob,by rw[b0 hl],gS,s,h⟩
  .obtain⟨r,n,u,y,x,v,w⟩:=R.hH d b e;refine⟨r,n,u,by rw[bY (Ne.symm l)];exact y,?_,v,w⟩;rw[fL]
   .exact x
   .rintro rfl;obtain⟨F,B⟩:=fA e;obtain⟨D,A⟩:=fA j;exact l ((VC R.nd).mp (B.trans A.symm))
theorem Rel.put(R:Rel K g Z ρ f C σ H){a:V1}{d:tl}{vs:Uh}(j:ρ[c]?=some a)(i:F0 (H a))(k:ny K kd vs ob)(h:ax K (mask H Z ρ) ρ d vs):
 Rel K g Z ρ f (C.set c (kd,d)) σ (upd H a ob)/\SStep Z H (upd H a ob) ρ ρ:=
 have l:a∈ρ:=bV j
 ⟨(R.AA j k h).1,⟨λb o q n=>⟨n,by rw[fL (by rintro rfl;exact n l)];exact q⟩,⟨[],by simp⟩,λb ob u h=>by rw[fL (by rintro rfl;rw[h]at i;exact i)];exact h⟩⟩
theorem Rel.write(R:Rel K g Z ρ f C σ H){a:V1}{b:tl}{vs:Uh}(i:ρ[c]?=some a)(d:F0 (H a))(h:ax K (mask H Z ρ) ρ b vs):
 Rel K g Z ρ f (C.set c (.l,b)) σ (upd H a (.lst vs))/\SStep Z H (upd H a (.lst vs)) ρ ρ:=R.put i d rfl h
theorem Rel.set(R:Rel K g Z ρ f C σ H){i:Nat}{t:T}{v:V}(h:RT K (mask H Z ρ) ρ t v):Rel K g Z ρ (f.set i (some t)) C (σ.set i (some v)) H:=by
 refine⟨R.old,R.aA,R.nd,R.zd,λj u e=>?_,R.hH,R.len,by simp[R.mx]⟩;by_cases b:j=i
 .subst b;have d:j<f.length:=by
   have:=(fA e).1;simpa using this
  rw[b0 d]at e;cases e;exact⟨v,by rw[b0 (by rw[<-R.mx];exact d)],h⟩
 .rw[bY (Ne.symm b)]at e;obtain⟨w,l,k⟩:=R.loc j u e;exact⟨w,by rw[bY (Ne.symm b)];exact l,k⟩
theorem Rel.weak(R:Rel K g Z ρ f C σ H){b:aB}(hl:b.length=f.length)(h:∀(i:Nat) t,b[i]?=some (some t)->f[i]?=some (some t)):Rel K g Z ρ b C σ H:=
 ⟨R.old,R.aA,R.nd,R.zd,λi t e=>R.loc i t (h i t e),R.hH,R.len,hl.trans R.mx⟩
end
noncomputable def lim:Nat:=400000
abbrev FE:=aB->aq->Option (T×aq)
abbrev FN:=aB->aq->Option (tl×aq)
abbrev FB:=aB->aq->Option (Bool×aq)
def aD(K:aK)(f:FE):TE:=λσ H Q=>∃b Z ρ c C t d,Rel K b Z ρ c C σ H/\f c C=some (t,d)/\
 ∀v H' ae,Rel K b Z ae c d σ H'->RT K (mask H' Z ae) ae t v->Step H H' ρ ae->Q v H'
def gn(K:aK)(f:FN):TA:=λσ H Q=>∃b Z ρ c C ts d,Rel K b Z ρ c C σ H/\f c C=some (ts,d)/\
 ∀vs H' ae,Rel K b Z ae c d σ H'->ax K (mask H' Z ae) ae ts vs->Step H H' ρ ae->Q vs H'
def jh(K:aK)(f:FN):TE:=λd H Q=>∃b Z ρ c C g h,Rel K b Z ρ c C d H/\f c C=some (g,h)/\
 ∀p H' ae vs,Rel K b Z ae c h d H'->H' p=none->ax K (mask H' Z ae) ae g vs->Step H H' ρ ae->Q (.ref p) (upd H' p (.lst vs))
noncomputable def hL(K:aK)(f:FB):TT:=λg H Q=>∃c Z ρ d C b h,Rel K c Z ρ d C g H/\f d C=some (b,h)/\
 ∀H' ae,Rel K c Z ae d h g H'->Step H H' ρ ae->Q b H'
def fh(K:aK)(d:St)(h:tl)(vs:Uh)(g:aq->Option (T×aq))(H:Hp)(Q:VK):Prop:=∃b Z ρ c C t f,Rel K b Z ρ c C d H/\ax K (mask H Z ρ) ρ h vs/\g C=some (t,f)/\
 ∀v H' ae,Rel K b Z ae c f d H'->RT K (mask H' Z ae) ae t v->Step H H' ρ ae->Q v H'
def wi(K:aK)(d:St)(i:tl)(vs:Uh)(g:aq->Option tl)(H:Hp)(Q:VK):Prop:=∃b Z ρ c C h,Rel K b Z ρ c C d H/\ax K (mask H Z ρ) ρ i vs/\g C=some h/\
 ∀p H' ae f,Rel K b Z ae c C d H'->H' p=none->ax K (mask H' Z ae) ae h f->Step H H' ρ ae->Q (.ref p) (upd H' p (.lst f))
noncomputable def mO(i:Nat):FE:=λb C=>match b[i]?with
 |some (some t)=>some (t,C)
 |_=>none
noncomputable def fC(t:T):FE:=λ_ C=>some (t,C)
abbrev Y0:FE:=mO 0
abbrev Y1:FE:=mO 1
abbrev Y2:FE:=mO 2
abbrev Y3:FE:=mO 3
abbrev Y4:FE:=mO 4
abbrev Y5:FE:=mO 5
abbrev Y6:FE:=mO 6
abbrev Y7:FE:=mO 7
abbrev Y8:FE:=mO 8
abbrev Y9:FE:=mO 9
abbrev T6:FE:=mO 10
abbrev IY:FE:=mO 11
abbrev IX:FE:=mO 12
abbrev IW:FE:=mO 13
abbrev Ud:FE:=mO 14
abbrev IV:FE:=mO 15
abbrev IU:FE:=mO 16
abbrev fI(n:Int):FE:=fC (.int n)
noncomputable def fP(fa fb:FE)(g:T->T->aq->Option (T×aq)):FE:=λb C=>(fa b C).bind λp=>(fb b p.2).bind λq=>g p.1 q.1 q.2
noncomputable def ry(fa:FE)(g:T->aq->Option (T×aq)):FE:=λb C=>(fa b C).bind λp=>g p.1 p.2
noncomputable def qN(fa fb:FE)(g:T->T->aq->Option tl):FN:=λb C=>(fa b C).bind λp=>(fb b p.2).bind λq=>(g p.1 q.1 q.2).map λc=>(c,q.2)
noncomputable def fR:FN:=λ_ C=>some ([],C)
noncomputable def e7(fa:FE)(c:FN):FN:=λb C=>(fa b C).bind λp=>(c b p.2).map λq=>(p.1::q.1,q.2)
noncomputable def mR(fa:FN)(g:tl->aq->Option (T×aq)):FE:=λb C=>(fa b C).bind λp=>g p.1 p.2
noncomputable def sE(fa:FN)(g:tl->aq->Option tl):FN:=λb C=>(fa b C).bind λp=>(g p.1 p.2).map λc=>(c,p.2)
noncomputable def fS(f:FN):FE:=λb C=>(f b C).map λp=>(.lst p.1,p.2)
noncomputable def kY(f:FN):FE:=λb C=>(f b C).map λp=>(.cell p.2.length,p.2++[(.l,p.1)])
section
variable {K:aK}{σ:St}{H:Hp}{Q:VK}
variable{fa fb:FE}{g:Int->Int->V}{f:Int->Int->T}{C:aq}{M d:Hp}{l:aB}{x y:V}
theorem KR{i:Nat}(h:aD K (mO i) σ H Q):yv i σ H Q:=by
 obtain⟨d,Z,ρ,l,C,t,m,R,e,k⟩:=h;unfold mO at e;split at e
 .rename_i u b;cases e;obtain⟨v,j,c⟩:=R.loc i t b;exact⟨v,j,k v H ρ R c .refl⟩
 .cases e
theorem w4{t:T}{v:V}(b:∀M ρ,RT K M ρ t v)(h:aD K (fC t) σ H Q):tC v σ H Q:=by
 obtain⟨d,Z,ρ,l,C,t,c,R,e,k⟩:=h;cases e;exact k v H ρ R (b _ _) .refl
theorem E3{g:T->T->aq->Option (T×aq)}(h:aD K (fP fa fb g) σ H Q):
 aD K fa σ H λx m=>aD K fb σ m λy j=>∃c b,fh K σ [c,b] [x,y] (g c b) j Q:=by
 obtain⟨d,Z,ρ,l,C,t,L,R,e,k⟩:=h;unfold fP at e;obtain⟨⟨c,p⟩,A,e⟩:=eW e;obtain⟨⟨b,n⟩,z,e⟩:=eW e;refine⟨d,Z,ρ,l,C,c,p,R,A,λx m F I w r=>?_⟩;refine⟨d,Z,F,l,p,b,n,I,z,λy j D R2 u i=>?_⟩;exact⟨c,b,d,Z,D,l,n,t,L,R2,.cons (w.step i) (.cons u .nil),e,λv J B G s q=>k v J B G s ((r.trans i).trans q)⟩
theorem EF{g:T->aq->Option (T×aq)}(h:aD K (ry fa g) σ H Q):
 aD K fa σ H λx c=>∃b,fh K σ [b] [x] (g b) c Q:=by
 obtain⟨d,Z,ρ,l,C,t,A,R,e,k⟩:=h;unfold ry at e;obtain⟨⟨b,i⟩,q,e⟩:=eW e;refine⟨d,Z,ρ,l,C,b,i,R,q,λx c s w p m=>?_⟩;exact⟨b,d,Z,s,l,i,t,A,w,.cons p .nil,e,λv z r u n j=>k v z r u n (m.trans j)⟩
theorem Mp{g:T->T->aq->Option tl}(h:jh K (qN fa fb g) σ H Q):
 aD K fa σ H λx m=>aD K fb σ m λy j=>∃c b,wi K σ [c,b] [x,y] (g c b) j Q:=by
 obtain⟨d,Z,ρ,l,C,O,S,R,e,k⟩:=h;unfold qN at e;obtain⟨⟨c,n⟩,B,e⟩:=eW e;obtain⟨⟨b,P⟩,A,e⟩:=eW e;obtain⟨N,z,e⟩:=eX e;cases e;refine⟨d,Z,ρ,l,C,c,n,R,B,λx m G J w s=>?_⟩;refine⟨d,Z,G,l,n,b,_,J,A,λy j F R2 v i=>?_⟩;exact⟨c,b,d,Z,F,l,_,_,R2,.cons (w.step i) (.cons v .nil),z,λp L D q I t u r=>k p L D q I t u ((s.trans i).trans r)⟩
theorem Gv{Q:Uh->Hp->Prop}(h:gn K fR σ H Q):yc σ H Q:=by
 obtain⟨d,Z,ρ,l,C,b,c,R,e,k⟩:=h;cases e;exact k [] H ρ R .nil .refl
theorem L1{c:FN}{Q:Uh->Hp->Prop}(h:gn K (e7 fa c) σ H Q):B8 (aD K fa) (gn K c) σ H Q:=by
 obtain⟨d,Z,ρ,l,C,z,D,R,e,k⟩:=h;unfold e7 at e;obtain⟨⟨m,i⟩,s,e⟩:=eW e;obtain⟨⟨j,B⟩,r,e⟩:=eX e;cases e;refine⟨d,Z,ρ,l,C,m,i,R,s,λx A u v q n=>?_⟩;exact⟨d,Z,u,l,i,j,_,v,r,λvs w t R2 p b=>k (x::vs) w t R2 (.cons (q.step b) p) (n.trans b)⟩
theorem C6{fa:FN}{g:tl->aq->Option (T×aq)}(h:aD K (mR fa g) σ H Q):
 gn K fa σ H λvs c=>∃b,fh K σ b vs (g b) c Q:=by
 obtain⟨d,Z,ρ,l,C,t,A,R,e,k⟩:=h;unfold mR at e;obtain⟨⟨b,i⟩,q,e⟩:=eW e;refine⟨d,Z,ρ,l,C,b,i,R,q,λx c s w p m=>?_⟩;exact⟨b,d,Z,s,l,i,t,A,w,p,e,λv z r u n j=>k v z r u n (m.trans j)⟩
theorem G2{fa:FN}{g:tl->aq->Option tl}(h:jh K (sE fa g) σ H Q):
 gn K fa σ H λvs j=>∃b,wi K σ b vs (g b) j Q:=by
 obtain⟨d,Z,ρ,l,C,b,F,R,e,k⟩:=h;unfold sE at e;obtain⟨⟨i,D⟩,u,e⟩:=eW e;obtain⟨c,t,e⟩:=eX e;cases e;refine⟨d,Z,ρ,l,C,i,_,R,u,λx j w A s n=>?_⟩;exact⟨i,d,Z,w,l,_,_,A,s,t,λp B v c z q r m=>k p B v c z q r (n.trans m)⟩
theorem Hq{f:FN}(h:aD K (fS f) σ H Q):jh K f σ H Q:=by
 obtain⟨d,Z,ρ,l,C,t,u,R,e,k⟩:=h;unfold fS at e;obtain⟨⟨i,s⟩,n,e⟩:=eX e;cases e;exact⟨d,Z,ρ,l,C,i,_,R,n,λp r q vs c b m j=>k _ _ q (c.alloc b).1 (c.l7 b m) (j.trans (c.alloc b).2)⟩
theorem G3{f:FN}(h:aD K (kY f) σ H Q):jh K f σ H Q:=by
 obtain⟨d,Z,ρ,l,C,t,z,R,e,k⟩:=h;unfold kY at e;obtain⟨⟨b,w⟩,r,e⟩:=eX e;cases e;refine⟨d,Z,ρ,l,C,b,_,R,r,λp v u vs s n q c=>?_⟩;obtain⟨m,j,i⟩:=s.kq n q;exact k _ _ _ m i (c.trans j)
noncomputable def lc(C:aq)(c:Nat):Option tl:=(C[c]?).bind λx=>match x.1 with
 | .l=>some x.2
 |_=>none
theorem mW{c:Nat}{b:tl}:lc C c=some b↔C[c]?=some (.l,b):=by
 unfold lc;constructor
 .intro h;obtain⟨⟨k,i⟩,e,h⟩:=eW h;cases k<;>cases h;exact e
 .intro h;rw[h];rfl
def i5:=λ{a b c}=>(@mW a b c).mp
def dR(C:aq):T->Option tl
 | .lst ts=>some ts
 | .cell c=>lc C c
 |_=>none
def kf(C:aq):T->Option tl
 | .lst b=>some b
 | .cell c=>lc C c
 | .tup b=>some b
 |_=>none
theorem dw.mv{Z:V1->Prop}{ρ:bo}{a:V1}{vs:Uh}(h:dw K (mask M Z ρ) a vs):dw K M a vs:=nI.seq h
theorem fv.mv{Z:V1->Prop}{ρ:bo}{a:V1}{vs:Uh}(h:fv K (mask M Z ρ) a vs):fv K M a vs:=aG.Dk nI h
theorem Rel.li{Z:V1->Prop}{ρ:bo}(R:Rel K d Z ρ l C σ H){t:T}{v:V}{ts:tl}(h:RT K (mask H Z ρ) ρ t v)(e:dR C t=some ts):
 ∃a vs,v=.ref a/\dw K H a vs/\ax K (mask H Z ρ) ρ ts vs:=by
 cases t with
 |lst m=>
  cases e;unfold RT at h;obtain⟨a,vs,e,q,r⟩:=h;exact⟨a,vs,e,dw.mv q,r⟩
 |cell c=>
  unfold RT at h;obtain⟨a,k,q⟩:=h;obtain⟨b,j,i⟩:=R.l6 q (i5 e);exact⟨a,b,k,.of j,i⟩
 |_=>cases e
theorem Rel.sq{Z:V1->Prop}{ρ:bo}(R:Rel K d Z ρ l C σ H){t:T}{v:V}{b:tl}(h:RT K (mask H Z ρ) ρ t v)(e:kf C t=some b):
 ∃a vs,v=.ref a/\(dw K H a vs\/fv K H a vs)/\ax K (mask H Z ρ) ρ b vs:=by
 cases t with
 |lst m=>
  obtain⟨a,vs,k,j,i⟩:=R.li h (show dR C (.lst m)=some b from e);exact⟨a,vs,k,.inl j,i⟩
 |cell c=>
  obtain⟨a,vs,k,j,i⟩:=R.li h (show dR C (.cell c)=some b from e);exact⟨a,vs,k,.inl j,i⟩
 |tup m=>
  cases e;unfold RT at h;obtain⟨a,vs,e,q,r⟩:=h;exact⟨a,vs,e,.inr (fv.mv (.of q)),r⟩
 |_=>cases e
theorem RT.int_inv{ρ:bo}{i:Int}{v:V}(h:RT K M ρ (.int i) v):v=.int i:=by unfold RT at h;exact h
theorem RT.fo{ρ:bo}{b:Bool}{v:V}(h:RT K M ρ (.bl b) v):v=.bl b:=by unfold RT at h;exact h
theorem RT.ir{ρ:bo}{v:V}(h:RT K M ρ .bg v):v=.bg:=by unfold RT at h;exact h
theorem RT.int{M:Hp}{ρ:bo}{i:Int}:RT K M ρ (.int i) (.int i):=by unfold RT;rfl
theorem RT.bl{M:Hp}{ρ:bo}{i:Bool}:RT K M ρ (.bl i) (.bl i):=by unfold RT;rfl
theorem RT.bg{M:Hp}{ρ:bo}:RT K M ρ .bg .bg:=by unfold RT;rfl
theorem RT.str{M:Hp}{ρ:bo}{x:Str}:RT K M ρ (.str x) (.str x):=by unfold RT;rfl
noncomputable def gI(f:Int->Int->T):T->T->aq->Option (T×aq)
 | .int i,.int j,C=>some (f i j,C)
 |_,_,_=>none
noncomputable def u1(c:Int->Int->Bool)(f:Int->Int->T):T->T->aq->Option (T×aq)
 | .int i,.int j,C=>if c i j=true then some (f i j,C)else none
 |_,_,_=>none
theorem D3(m:∀i j M ρ,RT K M ρ (f i j) (g i j))(h:∃c b,fh K σ [c,b] [x,y] (gI f c b) H Q):
 ∃i j,x=.int i/\y=.int j/\Q (g i j) H:=by
 obtain⟨c,b,d,Z,ρ,l,C,t,q,R,r,e,k⟩:=h;obtain⟨_,_,z,p,r⟩:=r.cons_inv;cases z;obtain⟨_,_,z,n,r⟩:=r.cons_inv;cases z;unfold gI at e;split at e
 .cases e;exact⟨_,_,p.int_inv,n.int_inv,k _ H ρ R (m _ _ _ _) .refl⟩
 .cases e
theorem Gs{c:Int->Int->Bool}(n:∀i j M ρ,RT K M ρ (f i j) (g i j))(h:∃m b,fh K σ [m,b] [x,y] (u1 c f m b) H Q):
 ∃i j,x=.int i/\y=.int j/\c i j=true/\Q (g i j) H:=by
 obtain⟨m,b,d,Z,ρ,l,C,t,u,R,r,e,k⟩:=h;obtain⟨_,_,z,q,r⟩:=r.cons_inv;cases z;obtain⟨_,_,z,p,r⟩:=r.cons_inv;cases z;unfold u1 at e;split at e
 .split at e
  .rename_i s;cases e;exact⟨_,_,q.int_inv,p.int_inv,s,k _ H ρ R (n _ _ _ _) .refl⟩
  .cases e
 .cases e
end
inductive Fl where
 |nx|bk|ct|rt (t:T)|ex (c:String)
abbrev FS:=aB->aq->Option (Fl×aB×aq)
abbrev XW:=String->St->Hp->Prop
def Cj(K:aK)(W:XW)(D:Ends)(Z:V1->Prop)(ρ:bo)(d:Fl)(b:St)(H:Hp):Prop:=match d with
 | .nx=>D.nx b H
 | .bk=>D.bk b H
 | .ct=>D.ct b H
 | .rt t=>∀v,RT K (mask H Z ρ) ρ t v->D.rt v H
 | .ex c=>W c b H
noncomputable def ey(K:aK)(W:XW)(F:FS):TS:=λD i H=>∃b Z ρ c C d f h,Rel K b Z ρ c C i H/\F c C=some (d,f,h)/\
 ∀g H' ae,Rel K b Z ae f h g H'->SStep Z H H' ρ ae->Cj K W D Z ae d g H'
abbrev FG:=T->aq->aB->Option aB
def ke(K:aK)(g:FG):TG:=λv h H Q=>∃b Z ρ c C t d,Rel K b Z ρ c C h H/\RT K (mask H Z ρ) ρ t v/\g t C c=some d/\
 ∀f,Rel K b Z ρ d C f H->Q f H
noncomputable def jM:FS:=λb C=>some (.nx,b,C)
noncomputable def gG(F G:FS):FS:=λb C=>(F b C).bind λr=>match r with
 | (.nx,c,d)=>G c d
 |r=>some r
noncomputable def gj(c:FB)(F G:FS):FS:=λb C=>(c b C).bind λp=>if p.1=true then F b p.2 else G b p.2
def iY(f:FE):FS:=λb C=>(f b C).map λp=>(.rt p.1,b,p.2)
noncomputable def sL(f:FE):FS:=λb C=>(f b C).map λp=>(.nx,b,p.2)
noncomputable def gZ(f:FE)(g:FG):FS:=λb C=>(f b C).bind λp=>(g p.1 p.2 b).map λc=>(.nx,c,p.2)
noncomputable def gN(i:Nat):FG:=λt _ b=>some (b.set i (some t))
noncomputable def cj:Uo->tl->aB->aB
 |i::is,t::ts,b=>cj is ts (b.set i (some t))
 |_,_,b=>b
def gU(is:Uo):FG:=λt C c=>(kf C t).bind λb=>if b.length=is.length then some (cj is b c)else none
section
variable {K:aK}{W:XW}{σ:St}{H:Hp}{D:Ends}
variable{F G:FS}{c:FB}{f:FE}{g:FG}{ay A:Hp}{d:aB}{C:aq}{B:bo}{n:Nat}
theorem Mt(h:ey K W jM D σ H):qy D σ H:=by
 obtain⟨ay,Z,ρ,d,C,b,i,j,R,e,k⟩:=h;cases e;exact k σ H ρ R .refl
theorem KU(h:ey K W (gG F G) D σ H):zl (ey K W F) (ey K W G) D σ H:=by
 obtain⟨ay,Z,ρ,d,C,q,v,x,R,e,k⟩:=h;unfold gG at e;obtain⟨⟨f1,l,m⟩,r,e⟩:=eW e;refine⟨ay,Z,ρ,d,C,f1,l,m,R,r,λj A B i b=>?_⟩;cases f1 with
 |nx=>exact⟨ay,Z,B,l,m,q,v,x,i,e,λu w s R2 p=>k u w s R2 (b.trans p)⟩
 |bk=>cases e;exact k j A B i b
 |ct=>cases e;exact k j A B i b
 |rt t=>cases e;exact k j A B i b
 |ex c=>cases e;exact k j A B i b
theorem JA(h:ey K W (gj c F G) D σ H):Ac (hL K c) (ey K W F) (ey K W G) D σ H:=by
 obtain⟨ay,Z,ρ,d,C,r,s,u,R,e,k⟩:=h;unfold gj at e;obtain⟨⟨b,p⟩,v,e⟩:=eW e;refine⟨ay,Z,ρ,d,C,b,p,R,v,λA B t q=>?_⟩;cases b with
 |true=>
  rw[V6 rfl]at e|-;exact⟨ay,Z,B,d,p,r,s,u,t,e,λl m j R2 i=>k l m j R2 (q.ss.trans i)⟩
 |false=>
  rw[V9 (by simp)]at e|-;exact⟨ay,Z,B,d,p,r,s,u,t,e,λl m j R2 i=>k l m j R2 (q.ss.trans i)⟩
theorem J2(h:ey K W (iY f) D σ H):zz (aD K f) D σ H:=by
 obtain⟨ay,Z,ρ,d,C,m,p,r,R,e,k⟩:=h;unfold iY at e;obtain⟨⟨t,q⟩,j,e⟩:=eX e;cases e;exact⟨ay,Z,ρ,d,C,t,_,R,j,λv A B l i b=>k σ A B l b.ss v i⟩
theorem Lw(h:ey K W (sL f) D σ H):E1 (aD K f) D σ H:=by
 obtain⟨ay,Z,ρ,d,C,m,p,r,R,e,k⟩:=h;unfold sL at e;obtain⟨⟨t,q⟩,i,e⟩:=eX e;cases e;exact⟨ay,Z,ρ,d,C,t,_,R,i,λv A B j l b=>k σ A B j b.ss⟩
theorem CT(h:ey K W (gZ f g) D σ H):vz (aD K f) (ke K g) D σ H:=by
 obtain⟨ay,Z,ρ,d,C,r,s,x,R,e,k⟩:=h;unfold gZ at e;obtain⟨⟨t,w⟩,l,e⟩:=eW e;obtain⟨u,j,e⟩:=eX e;cases e;refine⟨ay,Z,ρ,d,C,t,_,R,l,λv A B p i b=>?_⟩;exact⟨ay,Z,B,d,_,t,_,p,i,j,λm q=>k m A B q b.ss⟩
theorem yS{i:Nat}{v:V}{Q:St->Hp->Prop}(h:ke K (gN i) v σ H Q):qA i v σ H Q:=by
 obtain⟨ay,Z,ρ,d,C,t,b,R,r,e,k⟩:=h;cases e;exact k _ (R.set r)
theorem Rel.cj{ay:Hp}{Z:V1->Prop}{ρ:bo}{C:aq}:∀{is:Uo}{ts:tl}{vs:Uh}{d:aB}{σ:St},Rel K ay Z ρ d C σ H->ax K (mask H Z ρ) ρ ts vs->ts.length=is.length->∀{Q:St->Hp->Prop},
 (∀b,Rel K ay Z ρ (TL.cj is ts d) C b H->Q b H)->(is.foldr (λi g=>CY (qA i) g) Cz) vs σ H Q
 | [],[],vs,d,σ,R,r,_,Q,k=>⟨r.nil_inv,k σ R⟩
 |i::is,t::ts,vs,d,σ,R,r,hl,Q,k=>by
  obtain⟨v,h,rfl,l,j⟩:=r.cons_inv;exact⟨v,h,rfl,Rel.cj (is:=is) (ts:=ts) (R.set l) j (by simpa using hl) k⟩
 | [],t::ts,_,_,_,_,_,hl,_,_=>by simp at hl
 |i::is,[],_,_,_,_,_,hl,_,_=>by simp at hl
open Classical in
def j6(P:aq->Prop)(g:FG)(F:FS):tl->FS
 | [],d,C=>some (.nx,d,C)
 |t::i,d,C=>(g t C d).bind λj=>(F j C).bind λr=>match r with
  | (.nx,h,b)=>if P b then j6 P g F i h b else none
  | (.ct,h,b)=>if P b then j6 P g F i h b else none
  | (.bk,h,b)=>some (.nx,h,b)
  | (.rt v,h,b)=>some (.rt v,h,b)
  | (.ex c,h,b)=>some (.ex c,h,b)
def stays(t:T)(b:tl)(C:aq):Prop:=match t with
 | .cell c=>lc C c=some b
 |_=>True
def ta(f:FE)(g:FG)(F:FS):FS:=λd C=>(f d C).bind λp=>(dR p.2 p.1).bind λb=>j6 (stays p.1 b) g F b d p.2
theorem Rel.same{ay:Hp}{Z:V1->Prop}{ρ:bo}{d:aB}{C:aq}{H':Hp}(R:Rel K ay Z ρ d C σ H)(s:aG H H'):Rel K ay Z ρ d C σ H'/\Step H H' ρ ρ:=by
 have st:Step H H' ρ ρ:=.of0 s;refine⟨⟨R.old.trans s,R.aA,R.nd,λa z=>(R.zd a z).same s,λi t e=>?_,λc a e=>?_,R.len,R.mx⟩,st⟩
 .obtain⟨v,h,b⟩:=R.loc i t e;exact⟨v,h,b.step st⟩
 .obtain⟨j,vs,ob,h,b,k,l⟩:=R.hH c a e;exact⟨j,vs,ob,h,s _ _ b,k,l.step st⟩
structure td(K:aK)(J:It)(Z:V1->Prop)(A:Hp)(B:bo)(ts:tl)(P:aq->Prop):Prop where
 go:∀(i:Nat)(t:T)(ay:Hp)(Z':V1->Prop)(ae:bo)(d:aB)(C:aq)(σ:St)(H:Hp),ts[i]?=some t->Rel K ay Z' ae d C σ H->aG (mask A Z B) (mask H Z' ae)->
  (∀(c:Nat)(a:V1),B[c]?=some a->ae[c]?=some a)->(P C\/aG A H)->(∀a ob u,A a=some (.ei ob u)->H a=some (.ei ob u))->J.go i H/\∀x H',J.n3 i H x H'->aG H H'/\RT K (mask H' Z' ae) ae t x
 stop:∀(ay:Hp)(Z':V1->Prop)(ae:bo)(d:aB)(C:aq)(σ:St)(H:Hp),Rel K ay Z' ae d C σ H->aG (mask A Z B) (mask H Z' ae)->
  (∀(c:Nat)(a:V1),B[c]?=some a->ae[c]?=some a)->(P C\/aG A H)->(∀a ob u,A a=some (.ei ob u)->H a=some (.ei ob u))->J.stop ts.length H
theorem HF{J:It}{Z:V1->Prop}{ρ:bo}{Q:aB}{U:aq}{P:aq->Prop}{h:tl}{O:Fl}{bu:St}
 (R:Rel K ay Z ρ d C bu A)(hP:P C)(e:j6 P g F h d C=some (O,Q,U))(w:td K J Z A ρ h P)
 (k:∀s H' ae,Rel K ay Z ae Q U s H'->SStep Z A H' ρ ae->Cj K W D Z ae O s H'):
 ∃V:Nat->Nat->St->Hp->Prop,(∃m,V 0 m bu A)/\∀i m σ H,V i m σ H->
  (J.stop i H/\D.nx σ H)\/(J.go i H/\∃N:St->Hp->Prop,(∀s H',N s H'->∃m',m'<m/\V (i+1) m' s H')/\∀x H',J.n3 i H x H'->ke K g x σ H' λav H2=>ey K W F {D with nx:=N,ct:=N,bk:=D.nx} av H2):=by
 refine⟨λi m σ H=>∃ae M z rest,m=rest.length/\h.drop i=rest/\i<=h.length/\Rel K ay Z ae M z σ H/\SStep Z A H ρ ae/\P z/\j6 P g F rest M z=some (O,Q,U),
  ⟨h.length,ρ,d,C,h,rfl,rfl,cU _,R,.refl,hP,e⟩,?_⟩
 rintro i m σ H ⟨ae,M,z,rest,rfl,Y,hi,S,q,ja,b⟩;cases rest with
 |nil=>
  have bq:i=h.length:=by
   have:h.length<=i:=by simpa using Y
   exact eV hi this
  subst bq;cases b;exact .inl ⟨w.stop _ _ _ _ _ _ _ S (q.mv _) q.idx (.inl ja) q.fz,k σ H ae S q⟩
 |cons t rest=>
  have ht:h[i]?=some t:=by
   have:=congrArg (λl=>l[0]?) Y;simpa using this
  have bj:i<h.length:=(fA ht).1;have i':h.drop (i+1)=rest:=by
   have:=congrArg U1 Y;simpa using this
  obtain⟨g1,g2⟩:=w.go i t _ _ ae M z σ H ht S (q.mv _) q.idx (.inl ja) q.fz;unfold j6 at b;obtain⟨ar,eg,b⟩:=eW b;obtain⟨⟨f3,r,p⟩,eF,b⟩:=eW b;refine .inr ⟨g1,λs H'=>∃j r p,Rel K ay Z j r p s H'/\SStep Z A H' ρ j/\P p/\j6 P g F rest r p=some (O,Q,U),?_,?_⟩
  .rintro s H' ⟨j,r,p,u,X,I,e3⟩;exact⟨rest.length,by simp,j,r,p,rest,rfl,i',bj,u,X,I,e3⟩
  .intro x H' y;obtain⟨sm,rx⟩:=g2 x H' y;obtain⟨px,bf⟩:=S.same sm;refine⟨ay,Z,ae,M,z,t,ar,px,rx,eg,λav R2=>?_⟩;refine⟨ay,Z,ae,ar,z,f3,r,p,R2,eF,λE H3 j u X=>?_⟩;have L:=(q.trans bf.ss).trans X;cases f3 with
   |nx=>
    dsimp only at b;split at b
    .rename_i I;exact⟨j,r,p,u,L,I,b⟩
    .cases b
   |ct=>
    dsimp only at b;split at b
    .rename_i I;exact⟨j,r,p,u,L,I,b⟩
    .cases b
   |bk=>
    cases b;exact k E H3 j u L
   |rt v=>
    cases b;exact k E H3 j u L
   |ex c=>
    cases b;exact k E H3 j u L
theorem pN{t:T}{b:tl}(e:dR C t=some b):stays t b C:=by
 cases t with
 |cell c=>exact e
 |_=>trivial
theorem z7{Z:V1->Prop}{σ:St}{t:T}{m:tl}{a:V1}(P:Rel K ay Z B d C σ A)(e:RT K (mask A Z B) B t (.ref a))(v:dR C t=some m):
 td K (FF K a) Z A B m (stays t m):=by
 have h:∀{ay:Hp}{p:V1->Prop}{ae:bo}{s:aB}{q:aq}{σ:St}{H:Hp},Rel K ay p ae s q σ H->aG (mask A Z B) (mask H p ae)->(∀(c:Nat)(a:V1),B[c]?=some a->ae[c]?=some a)->(stays t m q\/aG A H)->
  ∃b,dw K H a b/\ax K (mask H p ae) ae m b:=by
  intro ay p ae s q σ H r sm ix j;rcases j with j|j
  .have M:=e.mono sm ix;have N:dR q t=some m:=by
    cases t with
    |cell c=>exact j
    |lst Q=>exact v
    |_=>cases v
   obtain⟨O,b,u,k,l⟩:=r.li M N;cases u;exact⟨b,k,l⟩
  .obtain⟨O,b,u,k,l⟩:=P.li e v;cases u;exact⟨b,j.seq k,l.mono sm ix⟩
 refine⟨λi R ay p ae s q σ H L r sm ix j _=>?_,λay p ae s q σ H r sm ix j _=>?_⟩
 .obtain⟨b,k,l⟩:=h r sm ix j;obtain⟨x,w,I⟩:=l.get L;refine⟨⟨b,x,k,w⟩,λy H' ⟨J,z⟩=>?_⟩;subst J;have:=z b k;rw[w]at this;cases this;exact⟨.refl _,I⟩
 .obtain⟨b,k,l⟩:=h r sm ix j;exact⟨b,k,by rw[l.length];exact bI _⟩
noncomputable def sT(lo:Int)(n:Nat):tl:=(bB n).map fun(i:Nat)=>T.int (lo+(i:Int))
theorem wB{Z:V1->Prop}{lo:Int}:td K (C9 lo n) Z A B (sT lo n) (λ_=>True):=by
 refine⟨λi s ay p ae m r σ H b q sm ix l _=>?_,λay p ae m r σ H q sm ix l _=>?_⟩
 .unfold sT at b;have h:i<n:=by
   have:=(fA b).1;simpa using this
  rw[bF,cZ h]at b;cases b;refine⟨h,λx H' ⟨k,j⟩=>?_⟩;subst k;rw[j];exact⟨.refl _,.int⟩
 .show n<=_;simp[sT]
theorem JZ(h:ey K W (ta f g F) D σ H):Eu (E8 K (aD K f)) (ke K g) (ey K W F) D σ H:=by
 obtain⟨ay,Z,ρ,d,C,z,I,J,R,e,k⟩:=h;unfold ta at e;obtain⟨⟨t,x⟩,s,e⟩:=eW e;obtain⟨y,b,e⟩:=eW e;refine⟨ay,Z,ρ,d,C,t,x,R,s,λv A B i j l=>?_⟩;obtain⟨a,vs,p,q,r⟩:=i.li j b;subst p;exact⟨a,rfl,⟨vs,q⟩,HF i (pN b) e (z7 i j b) λu H' ae w m=>k u H' ae w (l.ss.trans m)⟩
def BG(lo:Int)(n:Nat)(g:FG)(F:FS):FS:=j6 (λ_=>True) g F (sT lo n)
def nU(f:FE)(g:FG)(F:FS):FS:=λd C=>(f d C).bind λp=>match p.1 with
 | .int j=>if -(2^62)<=j/\j<2^62 then BG 0 j.toNat g F d p.2 else none
 |_=>none
theorem Pr(h:ey K W (nU f g F) D σ H):Eu (E2 (gn K (e7 f fR))) (ke K g) (ey K W F) D σ H:=by
 obtain⟨ay,Z,ρ,d,C,y,z,I,R,e,k⟩:=h;unfold nU at e;obtain⟨⟨t,x⟩,q,e⟩:=eW e;refine⟨ay,Z,ρ,d,C,[t],x,R,by simp[e7,fR,q],λvs A B u p i=>?_⟩;obtain⟨v,r,rfl,m,l⟩:=p.cons_inv;rw[l.nil_inv];dsimp only at e;split at e
 .split at e
  .rename_i b;exact⟨_,by rw[m.int_inv],b.1,b.2,HF (P:=λ_=>True) u trivial e wB λs H' ae w j=>k s H' ae w (i.ss.trans j)⟩
  .cases e
 .cases e
def pJ(c:FB)(F:FS):Nat->FS
 |0,_,_=>none
 |n+1,d,C=>(c d C).bind λp=>if p.1=true then(F d p.2).bind λr=>match r with
  | (.nx,b,h)=>pJ c F n b h
  | (.ct,b,h)=>pJ c F n b h
  | (.bk,b,h)=>some (.nx,b,h)
  | (.rt v,b,h)=>some (.rt v,b,h)
  | (.ex v,b,h)=>some (.ex v,b,h)
  else some (.nx,d,p.2)
theorem NI(h:ey K W (pJ c F n) D σ H):oa (hL K c) (ey K W F) D σ H:=by
 obtain⟨ay,Z,ρ,d,C,J,O,S,R,e,k⟩:=h;refine⟨λm y A=>∃B t w,Rel K ay Z B t w y A/\SStep Z H A ρ B/\pJ c F m t w=some (J,O,S),⟨n,ρ,d,C,R,.refl,e⟩,?_⟩;rintro m y A ⟨B,t,w,Y,l,i⟩;cases m with
 |zero=>cases i
 |succ m=>
  unfold pJ at i;obtain⟨⟨b,Q⟩,X,i⟩:=eW i;refine⟨ay,Z,B,t,w,b,Q,Y,X,λE N R2 j=>?_⟩;cases b with
  |false=>
   rw[V9 (by simp)]at i|-;cases i;exact k y E N R2 (l.trans j.ss)
  |true=>
   rw[V6 rfl]at i|-;obtain⟨⟨L,p,q⟩,U,i⟩:=eW i;refine⟨λP H'=>∃M p q,Rel K ay Z M p q P H'/\SStep Z H H' ρ M/\pJ c F m p q=some (J,O,S),λP H' z=>⟨m,eM _,z⟩,?_⟩;refine⟨ay,Z,N,t,Q,L,p,q,R2,U,λx I s u r=>?_⟩;cases L with
   |nx=>exact⟨s,p,q,u,(l.trans j.ss).trans r,i⟩
   |ct=>exact⟨s,p,q,u,(l.trans j.ss).trans r,i⟩
   |bk=>cases i;exact k x I s u ((l.trans j.ss).trans r)
   |rt v=>cases i;exact k x I s u ((l.trans j.ss).trans r)
   |ex c=>cases i;exact k x I s u ((l.trans j.ss).trans r)
end
section
variable {K:aK}{m:St}{H:Hp}{Q:VK}
variable{M:Hp}{x y:V}{f fb s:FE}{fa:FN}{xs:Uh}{c d:FB}{D:Ends}
theorem MF{ρ:bo}{b:tl}{vs:Uh}{i:Int}{t:T}(h:ax K M ρ b vs)(e:f5 b i=some t):∃v,f5 vs i=some v/\RT K M ρ t v:=by
 unfold f5 at e|-;rw[h.length];cases q:ot b.length i with
 |none=>rw[q]at e;cases e
 |some j=>
  rw[q]at e;exact h.get e
def xf(h g:T)(C:aq):Option (T×aq):=match g with
 | .int i=>(kf C h).bind λb=>(f5 b i).map λt=>(t,C)
 |_=>none
theorem Jz(h:∃i g,fh K m [i,g] [x,y] (xf i g) H Q):FX K x y H Q:=by
 obtain⟨i,g,p,Z,ρ,G,C,t,J,R,r,e,k⟩:=h;obtain⟨_,_,z,w,r⟩:=r.cons_inv;cases z;obtain⟨_,_,z,j,r⟩:=r.cons_inv;cases z;unfold xf at e;split at e
 .obtain⟨I,F,e⟩:=eW e;obtain⟨u,B,e⟩:=eX e;cases e;obtain⟨a,vs,n,q,rr⟩:=R.sq w F;obtain⟨v,l,A⟩:=MF rr B;have b:=k v H ρ R A .refl;rcases q with q|q
  .exact .inl ⟨a,vs,_,v,n,j.int_inv,q,l,b⟩
  .exact .inr (.inl ⟨a,vs,_,v,n,j.int_inv,q,l,b⟩)
 .cases e
abbrev FO:=aB->aq->Option (Option Int×aq)
noncomputable def iB:FO:=λ_ C=>some (none,C)
noncomputable def i8(f:FE):FO:=λb C=>(f b C).bind λp=>match p.1 with
 | .int i=>some (some i,p.2)
 |_=>none
noncomputable def tj(K:aK)(f:FO):TO:=λm H Q=>∃b Z ρ g C o h,Rel K b Z ρ g C m H/\f g C=some (o,h)/\
 ∀H' ae,Rel K b Z ae g h m H'->Step H H' ρ ae->Q o H'
theorem RJ{Q:Option Int->Hp->Prop}(h:tj K iB m H Q):kv m H Q:=by
 obtain⟨b,Z,ρ,g,C,o,i,R,e,k⟩:=h;cases e;exact k H ρ R .refl
theorem Ln{Q:Option Int->Hp->Prop}(h:tj K (i8 f) m H Q):qx (aD K f) m H Q:=by
 obtain⟨b,Z,ρ,g,C,o,u,R,e,k⟩:=h;unfold i8 at e;obtain⟨⟨t,r⟩,l,e⟩:=eW e;dsimp only at e;split at e
 .cases e;exact⟨b,Z,ρ,g,C,_,_,R,l,λv q n p j i=>⟨_,j.int_inv,k q n p i⟩⟩
 .cases e
def vT(xs:tl)(lo b:Option Int):tl:=(xs.drop (HT.cb xs.length 0 lo)).take (HT.cb xs.length xs.length b - HT.cb xs.length 0 lo)
theorem ax.cut{ρ:bo}{b:tl}{vs:Uh}(h:ax K M ρ b vs)(lo g:Option Int):ax K M ρ (vT b lo g) (vI vs lo g):=by
 unfold vT vI;rw[h.length];exact(h.drop _).take _
def hO(f:FE)(lo h:FO):FN:=λb C=>(f b C).bind λp=>(lo b p.2).bind λq=>(h b q.2).bind λr=>(dR r.2 p.1).map λg=>(vT g q.1 r.1,r.2)
theorem JD{lo n:FO}(h:jh K (hO f lo n) m H Q):Do (Av K) (aD K f) (tj K lo) (tj K n) m H Q:=by
 obtain⟨b,Z,ρ,g,C,E,C',R,e,k⟩:=h;unfold hO at e;obtain⟨⟨t,A⟩,N,e⟩:=eW e;obtain⟨⟨l,z⟩,L,e⟩:=eW e;obtain⟨⟨u,C3⟩,J,e⟩:=eW e;obtain⟨Y,I,e⟩:=eX e;cases e;refine⟨b,Z,ρ,g,C,t,A,R,N,λv H1 S U F B=>?_⟩;refine⟨b,Z,S,g,A,l,z,U,L,λH2 P R2 j=>?_⟩;refine⟨b,Z,P,g,z,u,_,R2,J,λX O w i=>?_⟩;obtain⟨a,vs,G,q,r⟩:=w.li ((F.step j).step i) I;exact⟨a,vs,G,q,λp hp=>k p X O _ w hp (r.cut l u) ((B.trans j).trans i)⟩
def rj(K:aK):R2:=λx y H Q=>∃l b xs zs,x=.ref l/\y=.ref b/\dw K H l xs/\dw K H b zs/\xs.length+zs.length<=lim/\∀p,H p=none->Q (.ref p) (upd H p (.lst (xs++zs)))
def ya(h g:T)(C:aq):Option tl:=(dR C h).bind λb=>(dR C g).bind λus=>if b.length+us.length<=lim then some (b++us)else none
theorem Kz(h:∃i g,wi K m [i,g] [x,y] (ya i g) H Q):rj K x y H Q:=by
 obtain⟨i,g,n,Z,ρ,I,C,L,R,r,e,k⟩:=h;obtain⟨_,_,z,u,r⟩:=r.cons_inv;cases z;obtain⟨_,_,z,t,r⟩:=r.cons_inv;cases z;unfold ya at e;obtain⟨N,G,e⟩:=eW e;obtain⟨J,F,e⟩:=eW e;split at e
 .rename_i hl;cases e;obtain⟨a,vs,B,w,l⟩:=R.li u G;obtain⟨b,q,A,v,j⟩:=R.li t F;exact⟨a,b,vs,q,B,A,w,v,by rw[l.length,j.length];exact hl,λp hp=>k p H ρ _ R hp (l.append j) .refl⟩
 .cases e
def hZ(fa:FN):FN:=sE fa λb _=>if b.length<=lim then some b else none
theorem MG(q:lim<=sizeLine)(h:jh K (hZ fa) m H Q):Ab (gn K fa) m H Q:=by
 obtain⟨b,Z,ρ,j,C,l,z,R,e,k⟩:=G2 h;refine⟨b,Z,ρ,j,C,l,z,R,e,λvs i u v t n=>?_⟩;obtain⟨B,g,G,ae,F,I,A,w,r,e,k⟩:=k vs i u v t n;split at e
 .rename_i hl;cases e;exact⟨by rw[r.length];exact aX hl q,λp hp=>k p i ae _ w hp r .refl⟩
 .cases e
def By(b:tl)(C:aq):Option tl:=match b with
 | [t]=>kf C t
 |_=>none
def xr(g:tl)(C:aq):Option (T×aq):=match g with
 | [t]=>(kf C t).map λb=>(.int b.length,C)
 |_=>none
theorem Kj(h:∃g,fh K m g xs (xr g) H Q):∃p b,xs=[.ref p]/\(dw K H p b\/fv K H p b)/\Q (.int b.length) H:=by
 obtain⟨g,i,Z,ρ,w,C,t,A,R,r,e,k⟩:=h;unfold xr at e;split at e
 .obtain⟨v,_,rfl,l,r⟩:=r.cons_inv;rw[r.nil_inv];obtain⟨z,u,e⟩:=eX e;cases e;obtain⟨a,vs,q,n,j⟩:=R.sq l u;exact⟨a,vs,by rw[q],n,k _ H ρ R (by rw[j.length];exact .int) .refl⟩
 .cases e
noncomputable def rp:tl->Option Um
 | []=>some []
 | .int i::b=>(rp b).map (i:: ·)
 |_::_=>none
noncomputable def kn:tl->Option (List Bool)
 | []=>some []
 | .bl i::b=>(kn b).map (i:: ·)
 |_::_=>none
theorem QJ{ρ:bo}:∀{b:tl}{vs:Uh}{g:List Bool},ax K M ρ b vs->kn b=some g->vs=g.map V.bl:=by
 intro b;induction b with
 |nil=>intro _ _ r e;cases e;rw[r.nil_inv];rfl
 |cons t b ih=>
  intro _ _ r e;cases t with
  |bl i=>
   obtain⟨v,vs,rfl,h,r⟩:=r.cons_inv;obtain⟨g,j,rfl⟩:=eX e;rw[aN,h.fo,ih r j]
  |_=>cases e
theorem Rl(b:List Bool):kn (b.map T.bl)=some b:=by
 induction b with
 |nil=>rfl
 |cons n b ih=>simp[kn,ih]
def Bz(c:Um->Bool)(f:Um->Int)(h:tl)(C:aq):Option (T×aq):=match h with
 | [t]=>(dR C t).bind λg=>(rp g).bind λb=>if c b=true then some (.int (f b),C)else none
 |_=>none
def BS(f:List Bool->Bool)(g:tl)(C:aq):Option (T×aq):=match g with
 | [t]=>(dR C t).bind λb=>(kn b).map λh=>(.bl (f h),C)
 |_=>none
def Az(K:aK)(f:List Bool->Bool):Uh->Hp->VK->Prop:=λxs H Q=>∃p b,xs=[.ref p]/\dw K H p (b.map V.bl)/\Q (.bl (f b)) H
theorem JP{f:List Bool->Bool}(h:∃b,fh K m b xs (BS f b) H Q):Az K f xs H Q:=by
 obtain⟨b,g,Z,ρ,w,C,t,A,R,r,e,k⟩:=h;unfold BS at e;split at e
 .obtain⟨v,_,rfl,j,r⟩:=r.cons_inv;rw[r.nil_inv];obtain⟨z,u,e⟩:=eW e;obtain⟨n,q,e⟩:=eX e;cases e;obtain⟨a,vs,p,l,i⟩:=R.li j u;have:=QJ i q;subst this;exact⟨a,n,by rw[p],l,k _ H ρ R .bl .refl⟩
 .cases e
def Ew(C:aq):T->Option Bool
 | .bg=>some false
 | .bl b=>some b
 | .int i=>some (i !=0)
 | .lst g=>some (!g.isEmpty)
 | .tup g=>some (!g.isEmpty)
 | .cell c=>(lc C c).map λg=> !g.isEmpty
 | .str _=>none
 | .exc _=>none
 | .fn _=>none
def uM(f:FE):FB:=λg C=>(f g C).bind λp=>(Ew p.2 p.1).map λb=>(b,p.2)
theorem pK{ρ:bo}{b:tl}{vs:Uh}(h:ax K M ρ b vs):vs.isEmpty=b.isEmpty:=by
 cases b with
 |nil=>rw[h.nil_inv];rfl
 |cons t b=>obtain⟨v,r,rfl,_⟩:=h.cons_inv;rfl
theorem Kk{Q:Bool->Hp->Prop}(h:hL K (uM f) m H Q):aD K f m H λx u=>∃k,EG K x u k/\Q k u:=by
 obtain⟨q,Z,ρ,z,C,b,L,R,e,k⟩:=h;unfold uM at e;obtain⟨⟨t,J⟩,F,e⟩:=eW e;obtain⟨I,g,e⟩:=eX e;cases e;refine⟨q,Z,ρ,z,C,t,_,R,F,λv u G r j A=>⟨b,?_,k u G r A⟩⟩;dsimp only at g r;cases t with
 |bg=>rw[j.ir];cases g;rfl
 |bl c=>rw[j.fo];cases g;rfl
 |int i=>rw[j.int_inv];cases g;rfl
 |str x=>cases g
 |exc x=>cases g
 |fn x=>cases g
 |lst w=>
  obtain⟨a,vs,p,n,l⟩:=r.li j rfl;rw[p];cases g;exact .inl ⟨vs,n,by rw[pK l]⟩
 |tup w=>
  unfold RT at j;obtain⟨a,vs,p,n,l⟩:=j;rw[p];cases g;exact .inr (.inl ⟨vs,fv.mv (.of n),by rw[pK l]⟩)
 |cell c=>
  obtain⟨w,B,g⟩:=eX g;obtain⟨a,vs,p,n,l⟩:=r.li j B;rw[p];cases g;exact .inl ⟨vs,n,by rw[pK l]⟩
noncomputable def i4(f:FE):FB:=λg C=>(f g C).bind λp=>match p.1 with
 | .bl b=>some (b,p.2)
 |_=>none
theorem EW{te:TE}{Q:Bool->Hp->Prop}(l:∀m H Q,aD K f m H Q->te m H Q)(h:hL K (i4 f) m H Q):qv te m H Q:=by
 obtain⟨g,Z,ρ,i,C,b,z,R,e,k⟩:=h;unfold i4 at e;obtain⟨⟨t,w⟩,p,e⟩:=eW e;dsimp only at e;split at e
 .cases e;exact l _ _ _ ⟨g,Z,ρ,i,C,_,_,R,p,λv u q r n j=>⟨_,n.fo,k u q r j⟩⟩
 .cases e
noncomputable def sA(c d:FB):FB:=λb C=>(c b C).bind λp=>if p.1=true then d b p.2 else some (false,p.2)
noncomputable def rO(c d:FB):FB:=λb C=>(c b C).bind λp=>if p.1=true then some (true,p.2)else d b p.2
noncomputable def qH(c:FB):FB:=λb C=>(c b C).map λp=>(!p.1,p.2)
theorem Ly{Q:Bool->Hp->Prop}(h:hL K (sA c d) m H Q):Af (hL K c) (hL K d) m H Q:=by
 obtain⟨g,Z,ρ,i,C,b,z,R,e,k⟩:=h;unfold sA at e;obtain⟨⟨l,q⟩,t,e⟩:=eW e;refine⟨g,Z,ρ,i,C,l,q,R,t,λw n p j=>?_⟩;cases l with
 |true=>
  rw[V6 rfl]at e|-;exact⟨g,Z,n,i,q,b,z,p,e,λv u R2 r=>k v u R2 (j.trans r)⟩
 |false=>
  rw[V9 (by simp)]at e|-;cases e;exact k w n p j
theorem JU{Q:Bool->Hp->Prop}(h:hL K (rO c d) m H Q):FQ (hL K c) (hL K d) m H Q:=by
 obtain⟨g,Z,ρ,i,C,b,z,R,e,k⟩:=h;unfold rO at e;obtain⟨⟨l,q⟩,t,e⟩:=eW e;refine⟨g,Z,ρ,i,C,l,q,R,t,λw n p j=>?_⟩;cases l with
 |false=>
  rw[V9 (by simp)]at e|-;exact⟨g,Z,n,i,q,b,z,p,e,λv u R2 r=>k v u R2 (j.trans r)⟩
 |true=>
  rw[V6 rfl]at e|-;cases e;exact k w n p j
theorem Mr{Q:Bool->Hp->Prop}(h:hL K (qH c) m H Q):z5 (hL K c) m H Q:=by
 obtain⟨g,Z,ρ,i,C,b,u,R,e,k⟩:=h;unfold qH at e;obtain⟨⟨n,t⟩,l,e⟩:=eX e;cases e;exact⟨g,Z,ρ,i,C,n,_,R,l,λr p q j=>k r p q j⟩
noncomputable def sD(fa fb:FE):FE:=λb C=>(fa b C).bind λp=>match p.1 with
 | .bl true=>fb b p.2
 | .bl false=>some (.bl false,p.2)
 |_=>none
theorem Nu{fa:FE}(h:aD K (sD fa fb) m H Q):q7 (aD K fa) (aD K fb) m H Q:=by
 obtain⟨b,Z,ρ,g,C,t,F,R,e,k⟩:=h;unfold sD at e;obtain⟨⟨q,p⟩,w,e⟩:=eW e;refine⟨b,Z,ρ,g,C,q,p,R,w,λv B l n j i=>?_⟩;dsimp only at e;split at e
 .refine⟨true,j.fo,?_⟩;rw[V6 rfl];exact⟨b,Z,l,g,p,t,F,n,e,λv A z R2 u r=>k v A z R2 u (i.trans r)⟩
 .refine⟨false,j.fo,?_⟩;rw[V9 (by simp)];cases e;exact k _ B l n .bl i
 .cases e
noncomputable def oO(fa fb fc:FE)(p q:Int->Int->Bool):FE:=λb C=>(fa b C).bind λx=>(fb b x.2).bind λy=>match x.1,y.1 with
 | .int i,.int j=>if p i j=true then(fc b y.2).bind λz=>match z.1 with
  | .int l=>some (.bl (q j l),z.2)
  |_=>none
   else some (.bl false,y.2)
 |_,_=>none
theorem HL{fa fc:FE}{p q:Int->Int->Bool}(h:aD K (oO fa fb fc p q) m H Q):
 oj (λx y H Q=>∃i j,x=.int i/\y=.int j/\Q (.bl (p i j)) H) (λx y H Q=>∃i j,x=.int i/\y=.int j/\Q (.bl (q i j)) H) (aD K fa) (aD K fb) (aD K fc) m H Q:=by
 obtain⟨b,Z,ρ,g,C,t,C',R,e,k⟩:=h;unfold oO at e;obtain⟨⟨F,w⟩,O,e⟩:=eW e;obtain⟨⟨B,v⟩,N,e⟩:=eW e;refine⟨b,Z,ρ,g,C,F,w,R,O,λx H1 S X J n=>?_⟩;refine⟨b,Z,S,g,w,B,v,X,N,λy E u R2 r l=>?_⟩;dsimp only at e;split at e
 .refine⟨_,_,J.int_inv,r.int_inv,_,rfl,?_⟩;split at e
  .rename_i hp;rw[V6 hp];obtain⟨⟨A,C3⟩,L,e⟩:=eW e;refine⟨b,Z,u,g,v,A,C3,R2,L,λz Y P U I G=>?_⟩;dsimp only at e;split at e
   .cases e;exact⟨_,_,r.int_inv,I.int_inv,k _ Y P U .bl ((n.trans l).trans G)⟩
   .cases e
  .rename_i hp;rw[V9 hp];cases e;exact k _ E u R2 .bl (n.trans l)
 .cases e
def uS(k s h:FE):FS:=λb C=>(k b C).bind λp=>(s b p.2).bind λq=>(h b q.2).bind λr=>match q.1,r.1 with
 | .cell c,.int i=>(lc r.2 c).bind λg=>(ot g.length i).map λj=>(.nx,b,r.2.set c (.l,g.set j p.1))
 |_,_=>none
theorem MB{r q:FE}(h:ey K W (uS r s q) D m H):vz (aD K r) (Bw (aD K s) (aD K q) ri) D m H:=by
 obtain⟨b,Z,ρ,g,C,fl,ao,C',R,e,k⟩:=h;unfold uS at e;obtain⟨⟨I,w⟩,E,e⟩:=eW e;obtain⟨⟨G,v⟩,Y,e⟩:=eW e;obtain⟨⟨F,C3⟩,X,e⟩:=eW e;refine⟨b,Z,ρ,g,C,I,w,R,E,λx H1 af R1 O J=>?_⟩;refine⟨b,Z,af,g,w,G,v,R1,Y,λy H2 az R2 N n=>?_⟩;refine⟨b,Z,az,g,v,F,C3,R2,X,λz H3 be u L i=>?_⟩;dsimp only at e;split at e
 .obtain⟨ts,U,e⟩:=eW e;obtain⟨j,S,e⟩:=eX e;cases e;have l:=N.step i;unfold RT at l;obtain⟨a,P,p⟩:=l;obtain⟨vs,t,c3⟩:=u.l6 p (i5 U);obtain⟨B,A⟩:=u.write p (by rw[t];trivial) (c3.set ((O.step n).step i) j);exact⟨a,vs,_,j,P,L.int_inv,t,by rw[c3.length];exact S,k m _ be B (((J.trans n).trans i).ss.trans A)⟩
 .cases e
def BP(s:FE)(fa:FN)(g:tl->tl->Option tl):FS:=λb C=>(s b C).bind λp=>(fa b p.2).bind λq=>match p.1 with
 | .cell c=>(lc p.2 c).bind λ_=>(lc q.2 c).bind λi=>(g i q.1).map λh=>(.nx,b,q.2.set c (.l,h))
 |_=>none
def Aw(g:Uh->Uh->Option Uh):V->Uh->Hp->VK->Prop:=λx vs H Q=>∃l xs b,x=.ref l/\H l=some (.lst xs)/\g xs vs=some b/\Q .bg (upd H l (.lst b))
theorem JX{g:tl->tl->Option tl}{z:Uh->Uh->Option Uh}
 (P:∀M ρ q p u vs xs,ax K M ρ q vs->ax K M ρ p xs->g q p=some u->∃j,z vs xs=some j/\ax K M ρ u j)
 (h:ey K W (BP s fa g) D m H):E1 (Ae K "list" (Aw z) (aD K s) (gn K fa)) D m H:=by
 obtain⟨b,Z,ρ,t,C,fl,ao,C',R,e,k⟩:=h;unfold BP at e;obtain⟨⟨N,B⟩,e1,e⟩:=eW e;obtain⟨⟨L,C2⟩,E,e⟩:=eW e;refine⟨b,Z,ρ,t,C,N,B,R,e1,λx H1 af A w O=>?_⟩;dsimp only at e;split at e
 .obtain⟨_,Y,e⟩:=eW e;obtain⟨q,X,e⟩:=eW e;obtain⟨p,U,e⟩:=eX e;cases e;refine⟨?_,b,Z,af,t,B,L,C2,A,E,λxs H2 az R2 S v=>?_⟩
  .have i:=w;unfold RT at i;obtain⟨a,r,l⟩:=i;obtain⟨vs,n,c3⟩:=A.l6 l (i5 Y);rw[r];exact .inl ⟨rfl,vs,.of n⟩
  .have i:=w.step v;unfold RT at i;obtain⟨a,r,l⟩:=i;obtain⟨vs,n,c3⟩:=R2.l6 l (i5 X);obtain⟨j,G,F⟩:=P _ _ _ _ _ _ _ c3 S U;obtain⟨J,I⟩:=R2.write l (by rw[n];trivial) F;exact⟨a,vs,j,r,n,G,k m _ az J ((O.trans v).ss.trans I)⟩
 .cases e
end
mutual
def CF:T->Bool
 | .cell _=>false
 | .lst ts=>ew ts
 | .tup ts=>ew ts
 |_=>true
def ew:tl->Bool
 | []=>true
 |t::ts=>CF t&&ew ts
end
theorem tG{ts:tl}:ew ts=true↔∀t∈ts,CF t=true:=by
 induction ts with
 |nil=>simp[ew]
 |cons t ts ih=>simp[ew,ih]
section
variable {K:aK}{s:St}{H:Hp}{Q:VK}
mutual
theorem RT.cf{M:Hp}{ρ ae:bo}:∀{t:T}{v:V},CF t=true->RT K M ρ t v->RT K M ae t v
 | .bg,_,_,h=>by unfold RT at*;exact h
 | .bl _,_,_,h=>by unfold RT at*;exact h
 | .int _,_,_,h=>by unfold RT at*;exact h
 | .str _,_,_,h=>by unfold RT at*;exact h
 | .exc _,_,_,h=>by unfold RT at*;exact h
 | .fn _,_,_,h=>by unfold RT at*;exact h
 | .lst b,v,c,h=>by
   unfold RT at*;obtain⟨a,vs,e,q,r⟩:=h;exact⟨a,vs,e,q,ax.cf (by unfold CF at c;exact c) r⟩
 | .tup b,v,c,h=>by
   unfold RT at*;obtain⟨a,vs,e,q,r⟩:=h;exact⟨a,vs,e,q,ax.cf (by unfold CF at c;exact c) r⟩
 | .cell c,_,h,_=>by unfold CF at h;cases h
theorem ax.cf{M:Hp}{ρ ae:bo}:∀{b:tl}{vs:Uh},ew b=true->ax K M ρ b vs->ax K M ae b vs
 | [],_,_,h=>by unfold ax at*;exact h
 |t::b,vs,c,h=>by
  unfold ew at c;rw[b8]at c;unfold ax at*;obtain⟨v,r,e,f,d⟩:=h;exact⟨v,r,e,RT.cf c.1 f,ax.cf c.2 d⟩
end
variable{I:Hp}{A:aB}{C:aq}{neg:Bool}{x y:V}{n m k:Nat}{F:tl->Ug}{E:XK}{N:Type}{D:V1}{is:Uo}{g:FG}{B:FB}{L f:FE}
noncomputable def bt(f:T->Ug):tl->Option tl
 | []=>some []
 |t::b=>(f t).bind λu=>(bt f b).map (u:: ·)
def dr:Nat->aq->T->Ug
 |0,_,t=>if CF t=true then some t else none
 |n+1,C,.cell c=>(lc C c).bind λb=>(bt (dr n C) b).map T.lst
 |n+1,C,.lst b=>if ew b=true then some (.lst b)else(bt (dr n C) b).map T.lst
 |n+1,C,.tup b=>if ew b=true then some (.tup b)else(bt (dr n C) b).map T.tup
 |_+1,_,t=>if CF t=true then some t else none
theorem o6{Z:V1->Prop}{ρ:bo}:aG (mask H Z ρ) (mask H Z []):=λa o h=>by
 obtain⟨c,d,b⟩:=gK h;exact jX c (by simp) b
theorem ax.bt{M j:Hp}{ρ ae:bo}{f:T->Ug}(i:∀t v d,RT K M ρ t v->f t=some d->RT K j ae d v):∀{c:tl}{vs:Uh}{b:tl},ax K M ρ c vs->TL.bt f c=some b->ax K j ae b vs
 | [],_,_,h,e=>by cases e;rw[h.nil_inv];exact .nil
 |t::c,_,b,h,e=>by
  obtain⟨v,r,rfl,p,l⟩:=h.cons_inv;unfold TL.bt at e;obtain⟨u,w,e⟩:=eW e;obtain⟨b,q,rfl⟩:=eX e;exact .cons (i t v u p w) (ax.bt i l q)
theorem Rel.dr{Z:V1->Prop}{ρ:bo}(R:Rel K I Z ρ A C s H):∀(n:Nat)(t:T)(v:V)(j:T),RT K (mask H Z ρ) ρ t v->TL.dr n C t=some j->RT K (mask H Z []) [] j v:=by
 intro n;induction n with
 |zero=>
  intro t v j h e;unfold TL.dr at e;split at e
  .rename_i i;cases e;exact(h.cf i).mono o6 (λc a z=>z)
  .cases e
 |succ n ih=>
  intro t v j h e;by_cases i:∃c,t=.cell c
  .obtain⟨c,rfl⟩:=i;unfold TL.dr at e;obtain⟨J,M,e⟩:=eW e;obtain⟨G,r,rfl⟩:=eX e;unfold RT at h;obtain⟨a,q,l⟩:=h;obtain⟨vs,O,c3⟩:=R.l6 l (i5 M);unfold RT;exact⟨a,vs,q,.of (jX (R.aA a (bV l)).2 (by simp) O),c3.bt ih r⟩
  .have b:CF t=true->t=j->RT K (mask H Z []) [] j v:=λi z=>by
    subst z;exact(h.cf i).mono o6 (λc a z=>z)
   have d:∀{p:Bool}{u:T},(if p=true then some u else none)=some j->p=true/\u=j:=λ{p u} z=>by
    cases p with
    |true=>exact⟨rfl,bZ.inj z⟩
    |false=>cases z
   cases t with
   |cell c=>exact absurd ⟨c,rfl⟩ i
   |lst J=>
    unfold TL.dr at e;split at e
    .rename_i i;exact b (by unfold CF;exact i) (bZ.inj e)
    .obtain⟨G,r,rfl⟩:=eX e;unfold RT at h;obtain⟨a,vs,q,l,w⟩:=h;unfold RT;exact⟨a,vs,q,o6.seq l,w.bt ih r⟩
   |tup J=>
    unfold TL.dr at e;split at e
    .rename_i i;exact b (by unfold CF;exact i) (bZ.inj e)
    .obtain⟨G,r,rfl⟩:=eX e;unfold RT at h;obtain⟨a,vs,q,l,w⟩:=h;unfold RT;exact⟨a,vs,q,o6 _ _ l,w.bt ih r⟩
   |bg=>exact b (d e).1 (d e).2
   |bl _=>exact b (d e).1 (d e).2
   |int _=>exact b (d e).1 (d e).2
   |str _=>exact b (d e).1 (d e).2
   |exc _=>exact b (d e).1 (d e).2
   |fn _=>exact b (d e).1 (d e).2
noncomputable def ng:T->T->Option Bool
 | .bl a,.bl b=>some (a==b)
 | .int a,.int b=>some (a==b)
 | .str a,.str b=>some (a==b)
 |_,_=>none
noncomputable def r4(e:T->T->Option Bool):tl->tl->Option Bool
 | [],[]=>some true
 |x::xs,y::c=>(e x y).bind λa=>(r4 e xs c).map λb=>a&&b
 |_,_=>none
def eqT:Nat->T->T->Option Bool
 |n+1,.lst xs,.lst c=>if xs.length=c.length then r4 (eqT n) xs c else some false
 |_,a,b=>ng a b
def EH(K:aK)(neg:Bool):R2:=λx y H Q=>∃d c b,RT K H [] d x/\RT K H [] c y/\eqT 5 d c=some b/\Q (.bl (if neg then !b else b)) H
def jj(neg:Bool)(i h:T)(C:aq):Option (T×aq):=(dr 3 C i).bind λd=>(dr 3 C h).bind λc=>(eqT 5 d c).map λb=>(.bl (if neg then !b else b),C)
theorem Gn(h:∃i d,fh K s [i,d] [x,y] (jj neg i d) H Q):EH K neg x y H Q:=by
 obtain⟨i,d,I,Z,ρ,A,C,t,G,R,r,e,k⟩:=h;obtain⟨_,_,z,q,r⟩:=r.cons_inv;cases z;obtain⟨_,_,z,p,r⟩:=r.cons_inv;cases z;unfold jj at e;obtain⟨l,w,e⟩:=eW e;obtain⟨j,v,e⟩:=eW e;obtain⟨b,u,e⟩:=eX e;cases e;exact⟨l,j,b,(R.dr _ _ _ _ q w).mono nI (λc a z=>z),(R.dr _ _ _ _ p v).mono nI (λc a z=>z),u,k _ H ρ R .bl .refl⟩
noncomputable def mz(e:T->Option Bool):tl->Option Bool
 | []=>some false
 |x::xs=>(e x).bind λa=>(mz e xs).map λb=>a||b
def EJ(K:aK)(neg:Bool):R2:=λx y H Q=>∃t p vs c b,RT K H [] t x/\y=.ref p/\dw K H p vs/\ax K H [] c vs/\mz (λu=>eqT 5 u t) c=some b/\Q (.bl (if neg then !b else b)) H
def jy(neg:Bool)(j i:T)(C:aq):Option (T×aq):=(dr 3 C j).bind λd=>(dR C i).bind λh=>(bt (dr 3 C) h).bind λc=>(mz (λu=>eqT 5 u d) c).map λb=>(.bl (if neg then !b else b),C)
theorem EA(h:∃i d,fh K s [i,d] [x,y] (jy neg i d) H Q):EJ K neg x y H Q:=by
 obtain⟨i,d,I,Z,ρ,A,C,t,X,R,r,e,k⟩:=h;obtain⟨_,_,z,u,r⟩:=r.cons_inv;cases z;obtain⟨_,_,z,q,r⟩:=r.cons_inv;cases z;unfold jy at e;obtain⟨l,P,e⟩:=eW e;obtain⟨S,O,e⟩:=eW e;obtain⟨j,J,e⟩:=eW e;obtain⟨b,M,e⟩:=eX e;cases e;obtain⟨a,vs,G,w,p⟩:=R.li q O;exact⟨l,a,vs,j,b,(R.dr _ _ _ _ u P).mono nI (λc a z=>z),G,w,p.bt (λt v U h e=>(R.dr _ _ _ _ h e).mono nI (λc a z=>z)) J,M,k _ H ρ R .bl .refl⟩
def spT(K:aK)(n:Nat)(F:tl->Ug):Sp:=λvs H Q _=>∃Z b t,b.length=n/\(∀a,Z a->NT (H a))/\ax K (mask H Z []) [] b vs/\F b=some t/\
 ∀v H',aG H H'->RT K (mask H' Z []) [] t v->Q v H'
theorem jG:∀vs H Q E,spT K n F vs H Q E->vs.length=n:=λvs H Q E b=>by obtain⟨Z,c,t,h,_,r,_⟩:=b;rw[r.length,h]
noncomputable def An:T->Bool
 | .bg=>true
 | .bl _=>true
 | .int _=>true
 | .str _=>true
 |_=>false
theorem RT.An{M c:Hp}{ρ ae:bo}{t:T}{v:V}(b:TL.An t=true)(h:RT K M ρ t v):RT K c ae t v:=by
 cases t with
 |bg=>unfold RT at*;exact h
 |bl _=>unfold RT at*;exact h
 |int _=>unfold RT at*;exact h
 |str _=>unfold RT at*;exact h
 |_=>cases b
def iX(n:Nat)(F:tl->Ug)(ts:tl)(C:aq):Option (T×aq):=if ts.length=n then
 if ew ts=true then(F ts).map λt=>(t,C)
 else(bt (dr 3 C) ts).bind λb=>(F b).bind λt=>if An t=true then some (t,C)else none
 else none
theorem yW{Z:V1->Prop}{ρ:bo}:mask H (λa=>Z a\/a∈ρ) []=mask H Z ρ:=by
 funext a;unfold mask;by_cases h:Z a\/a∈ρ
 .rw[V6 (.inl h),V6 h]
 .rw[V9 (by rintro(z|z);exact h z;cases z),V9 h]
theorem uR{f:T->Ug}:∀{c b:tl},bt f c=some b->b.length=c.length
 | [],_,e=>by cases e;rfl
 |t::c,b,e=>by
  unfold bt at e;obtain⟨u,h,e⟩:=eW e;obtain⟨b,d,rfl⟩:=eX e;simp[uR d]
theorem Rel.jn{Z:V1->Prop}{ρ:bo}(R:Rel K I Z ρ A C s H){a:V1}(i:a∈ρ):NT (H a):=by
 obtain⟨c,b⟩:=gR i;obtain⟨_,_,_,_,h,d,_⟩:=R.hH c a b;rw[h];exact d.nt
theorem K7{vs:Uh}(h:∃b,fh K s b vs (iX n F b) H Q):spT K n F vs H Q E:=by
 obtain⟨b,I,Z,ρ,A,C,t,M,R,r,e,k⟩:=h;unfold iX at e;split at e
 .rename_i l;split at e
  .rename_i w;obtain⟨u,i,e⟩:=eX e;cases e;refine⟨λa=>Z a\/a∈ρ,b,_,l,λa z=>?_,by rw[yW];exact r.cf w,i,λv H' sm d=>?_⟩
   .rcases z with z|z
    .exact R.zd a z
    .exact R.jn z
   .obtain⟨j,st⟩:=R.same sm;rw[yW]at d;exact k v H' ρ j (d.mono (.refl _) (λc a z=>by cases z)) st
  .obtain⟨p,i,e⟩:=eW e;obtain⟨u,G,e⟩:=eW e;split at e
   .rename_i q;cases e;refine⟨Z,p,_,(uR i).trans l,R.zd,r.bt (λt v J h e=>R.dr _ _ _ _ h e) i,G,λv H' sm d=>?_⟩;obtain⟨j,st⟩:=R.same sm;exact k v H' ρ j (d.An q) st
   .cases e
 .cases e
noncomputable def gg(m:Nat)(ts:tl):aB:=ts.map some++aS (m - ts.length) none
theorem Rel.start{Z:V1->Prop}{b:tl}{vs:Uh}(j:∀a,Z a->NT (H a))(h:ax K (mask H Z []) [] b vs):
 Rel K H Z [] (gg m b) [] (vs.map some++aS (m - vs.length) none) H:=by
 refine⟨.refl _,(λa l=>nomatch l),List.nodup_nil,j,λi t e=>?_,(λc a e=>nomatch e),rfl,by simp[gg,h.length]⟩;unfold gg at e;have d:i<b.length:=by
  by_cases d:i<b.length
  .exact d
  .rw[bP (by simpa using d),b3]at e;split at e<;>cases e
 rw[bK (by simpa using d),bF]at e;cases q:b[i]?with
 |none=>rw[q]at e;cases e
 |some u=>
  rw[q]at e;cases e;obtain⟨v,r,p⟩:=h.get q;refine⟨v,?_,p⟩;rw[bK (by simpa[h.length]using d),bF,r];rfl
def Ex(t:T):Fl×aB×aq->Prop
 | (.rt r,_,C)=>dr 3 C r=some t
 | (.nx,_,_)=>t=.bg
 |_=>False
theorem kP{G:tl->Ug}{F:FS}{vs:Uh}(w:∀b t,b.length=n->G b=some t->∃r,F (gg m b) []=some r/\Ex t r)(h:spT K n G vs H Q E):
 ey K W F {nx:=λ_ H'=>Q .bg H',rt:=Q} (vs.map some++aS (m - vs.length) none) H:=by
 obtain⟨Z,b,t,q,l,r,e,k⟩:=h;obtain⟨⟨j,J,M⟩,z,d⟩:=w b t q e;refine⟨H,Z,[],gg m b,[],j,J,M,Rel.start l r,z,λO H' ae i _=>?_⟩;cases j with
 |nx=>
  have:t=.bg:=d;subst this;exact k .bg H' i.old .bg
 |bk=>exact False.elim d
 |ct=>exact False.elim d
 |rt u=>exact λv p=>k v H' i.old (i.dr _ _ _ _ p d)
 |ex c=>exact False.elim d
def t4(r:TI)(u:St->St)(g:TG)(B:TT)(t:TE):TE:=λs H Q=>r s H λJ q=>∀D,q D=none->∃W:Nat->Nat->St->Hp->Prop,(∃m,W 0 m (u s) (upd q D (.lst [])))/\∀i m j H,W i m j H->
 (J.stop i H/\Q (.ref D) H)\/(J.go i H/\∀x H',J.n3 i H x H'->g x j H' λd v=>B d v λb p=>
  if b=true then t d p λy l=>∃h c,l D=some (.lst h)/\h.length<lim/\c<m/\W (i+1) c d (upd l D (.lst (h++[y])))else∃c,c<m/\W (i+1) c d p)
open Classical in
noncomputable def kp{N:Type}(C D:aq)(x:Option N):Option N:=if C<+:D then x else none
theorem Gz{D:aq}{x:Option N}(h:C<+:D):kp C D x=x:=V6 h
theorem qQ{x:Option N}:kp C C x=x:=Gz (List.prefix_refl _)
theorem xR{D:aq}{x:Option N}{y:N}(h:kp C D x=some y):C<+:D/\x=some y:=by
 unfold kp at h;split at h
 .exact⟨by assumption,h⟩
 .cases h
def iH(g:FG)(B:FB)(L:FE)(A:aB):tl->aq->Option (tl×aq)
 | [],C=>some ([],C)
 |t::c,C=>(g t C A).bind λd=>(B d C).bind λb=>if b.1=true then(L d b.2).bind λy=>kp C y.2 ((iH g B L A c y.2).map λr=>(y.1::r.1,r.2))else kp C b.2 (iH g B L A c b.2)
noncomputable def d3(k:Nat)(is:Uo)(A:aB):aB:=aS k none++is.map λi=>(A[i]?).getD none
noncomputable def hG(k:Nat)(is:Uo)(s:St):St:=aS k none++is.map λi=>(s[i]?).getD none
def i1(k:Nat)(g:FG):Prop:=∀t C A b,g t C A=some b->b.length=A.length/\∀j,k<=j->b[j]?=A[j]?
theorem Rel.n7{Z:V1->Prop}{ρ:bo}{o:HO}(R:Rel K I Z ρ A C s H)(c:Z D)(J:I D=none)(p:NT (some o)):Rel K I Z ρ A C s (upd H D o)/\mask (upd H D o) Z ρ=mask H Z ρ:=by
 have em:mask (upd H D o) Z ρ=mask H Z ρ:=by
  funext b;unfold mask;split
  .rfl
  .rename_i q;rw[fL (by rintro rfl;exact q (.inl c))]
 refine⟨⟨λb u q=>?_,R.aA,R.nd,λb z=>?_,λi t e=>?_,λd b e=>?_,R.len,R.mx⟩,em⟩
 .rw[fL (by rintro rfl;rw[J]at q;cases q)];exact R.old b u q
 .by_cases h:b=D
  .subst h;rw[gS];exact p
  .rw[fL h];exact R.zd b z
 .rw[em];exact R.loc i t e
 .rw[em];obtain⟨l,j,ob,G,w,r,v⟩:=R.hH d b e;refine⟨l,j,ob,G,?_,r,v⟩;rw[fL]
  .exact w
  .rintro rfl;exact(R.aA b (bV e)).2 c
theorem uA{c:aB}(hl:c.length=(d3 k is A).length)(h:∀j,k<=j->c[j]?=(d3 k is A)[j]?):∀(i:Nat) t,(d3 k is A)[i]?=some (some t)->c[i]?=some (some t):=λi t e=>by
 by_cases b:i<k
 .unfold d3 at e;rw[bK (by simpa using b),b3,V6 b]at e;cases e
 .rw[h i (cM b)];exact e
theorem oP{J:It}{Z:V1->Prop}{ρ:bo}{C':aq}{P:aq->Prop}{O ys:tl}{Y:Hp}
 (R:Rel K I Z ρ A C s Y)(hg:i1 k g)(w:td K J Z Y ρ O P)(hP:P C)(rg:∀C C2:aq,C<+:C2->P C->P C2)(hl:O.length<lim)(e:iH g B L (d3 k is A) O C=some (ys,C'))(hD:Y D=none)
 (q:∀p H' ae vs,Rel K I Z ae A C' s H'->H' p=none->ax K (mask H' Z ae) ae ys vs->Step Y H' ρ ae->Q (.ref p) (upd H' p (.lst vs))):
 ∃W:Nat->Nat->St->Hp->Prop,(∃m,W 0 m (hG k is s) (upd Y D (.lst [])))/\∀i m bp H,W i m bp H->
  (J.stop i H/\Q (.ref D) H)\/(J.go i H/\∀x H',J.n3 i H x H'->ke K g x bp H' λav H2=>hL K B av H2 λb H3=>
   if b=true then aD K L av H3 λy H4=>∃ys m',H4 D=some (.lst ys)/\ys.length<lim/\m'<m/\W (i+1) m' av (upd H4 D (.lst (ys++[y])))else∃m',m'<m/\W (i+1) m' av H3):=by
 obtain⟨nz,nr,n0⟩:=R.dn hD;have hZD:∀a,Z a->a≠D:=λa z h=>by subst h;exact nz z
 refine⟨λi m bp H=>∃ae C1 done rest vs,m=rest.length/\O.drop i=rest/\i<=O.length/\done.length<=i/\Rel K I (λa=>Z a\/a=D) ae (d3 k is A) C1 bp H/\H D=some (.lst vs)/\
  ax K (mask H (λa=>Z a\/a=D) ae) ae done vs/\Step Y H ρ ae/\P C1/\∃yr,iH g B L (d3 k is A) rest C1=some (yr,C')/\ys=done++yr,?_,?_⟩
 .refine⟨O.length,ρ,C,[],O,[],rfl,rfl,cU _,bI _,?_,gS,.nil,?_,hP,ys,e,rfl⟩
  .have sm:aG (mask Y Z ρ) (mask (upd Y D (.lst [])) (λa=>Z a\/a=D) ρ):=λa o z=>by
    obtain⟨X,G,S⟩:=gK z;have ne:a≠D:=λz=>by rw[z,hD]at S;cases S
    exact jX (by rintro(z|z);exact X z;exact ne z) G (by rw[fL ne];exact S)
   refine⟨λb o z=>?_,λa r=>⟨(R.aA a r).1,?_⟩,R.nd,λa z=>?_,λi t z=>?_,λc a z=>?_,R.len,by simp[d3,hG]⟩
   .rw[fL (by rintro rfl;rw[n0]at z;cases z)];exact R.old b o z
   .rintro(z|z)
    .exact(R.aA a r).2 z
    .subst z;exact nr r
   .by_cases r:a=D
    .subst r;rw[gS];trivial
    .rw[fL r];rcases z with z|z
     .exact R.zd a z
     .exact absurd z r
   .unfold d3 at z;by_cases hi:i<k
    .rw[bK (by simpa using hi),b3,V6 hi]at z;cases z
    .rw[bP (by simpa using cM hi),bF]at z;obtain⟨j,hj,z⟩:=eX z;have jm:A[j]?=some (some t):=by
      cases q:A[j]?with
      |none=>rw[q]at z;cases z
      |some u=>rw[q]at z;exact congrArg some z
     obtain⟨v,X,G⟩:=R.loc j t jm;refine⟨v,?_,G.mono sm (λc a z=>z)⟩;unfold hG;rw[bP (by simpa using cM hi),bF];simp only[cS]at hj|-;rw[hj];simp[X]
   .obtain⟨us,vs,ob,X,G,h4,S⟩:=R.hH c a z;refine⟨us,vs,ob,X,?_,h4,S.mono sm (λc a z=>z)⟩;rw[fL (by rintro rfl;rw[hD]at G;cases G)];exact G
  .exact .of0 λb o z=>by
    rw[fL (by rintro rfl;rw[hD]at z;cases z)];exact z
 .rintro i m bp H ⟨ae,C1,done,rest,vs,rfl,hd,hi,kz,U,ph,rd,M,ja,yr,d,um⟩;have ix:∀(c:Nat)(a:V1),ρ[c]?=some a->ae[c]?=some a:=M.idx;have qe:aG (mask Y Z ρ) (mask H (λa=>Z a\/a=D) ae):=λa o z=>by
   obtain⟨X,G,S⟩:=gK z;have ne:a≠D:=λz=>by rw[z,hD]at S;cases S
   refine jX (by rintro(z|z);exact X z;exact ne z) (M.kept a o S G).1 (M.kept a o S G).2
  cases rest with
  |nil=>
   have bq:i=O.length:=by
    have:O.length<=i:=by simpa using hd
    exact eV hi this
   subst bq;cases d;refine .inl ⟨w.stop _ _ _ _ _ _ _ U qe ix (.inl ja) M.fz,?_⟩;have hm:mask (λb=>if b=D then none else H b) Z ae=mask H (λa=>Z a\/a=D) ae:=by
    funext a;unfold mask;by_cases r:a=D
    .subst r;rw[V6 (show(Z a\/a=a)\/a∈ae from .inl (.inr rfl))];split
     .rfl
     .exact V6 rfl
    .by_cases hz:Z a\/a∈ae
     .rw[V6 hz,V6 (by rcases hz with z|z;exact .inl (.inl z);exact .inr z)]
     .rw[V9 hz,V9 (by rintro((z|z)|z);exact hz (.inl z);exact r z;exact hz (.inr z))]
      exact V9 r
   have hu:upd (λb=>if b=D then none else H b) D (.lst vs)=H:=by
    funext b;unfold upd;by_cases hb:b=D
    .subst hb;rw[V6 rfl,ph]
    .rw[V9 hb];exact V9 hb
   have st:Step Y (λb=>if b=D then none else H b) ρ ae:=⟨λb o z n=>⟨(M.kept b o z n).1,by
    show(if b=D then none else H b)=some o;rw[V9 (by rintro rfl;rw[hD]at z;cases z)];exact(M.kept b o z n).2⟩,M.pre,λb ob u z=>by
    show(if b=D then none else H b)=_;rw[V9 (by rintro rfl;rw[hD]at z;cases z)];exact M.fz b ob u z⟩
   have R2:Rel K I Z ae A C' s (λb=>if b=D then none else H b):=by
    refine⟨λb o z=>by
     show(if b=D then none else H b)=some o;rw[V9 (by rintro rfl;rw[n0]at z;cases z)];exact U.old b o z,λa r=>⟨(U.aA a r).1,λz=>(U.aA a r).2 (.inl z)⟩,U.nd,λa z=>(by
     show NT (if a=D then none else H a);rw[V9 (hZD a z)];exact U.zd a (.inl z)),λj t z=>?_,λc a z=>?_,U.len,R.mx⟩
    .obtain⟨v,X,G⟩:=R.loc j t z;exact⟨v,X,G.step st⟩
    .obtain⟨us,ws,ob,X,G,h4,S⟩:=U.hH c a z;refine⟨us,ws,ob,X,?_,h4,by rw[hm];exact S⟩;show(if a=D then none else H a)=_;rw[V9 (λz'=>(U.aA a (bV z)).2 (.inr z'))];exact G
   have fin:=q D (λb=>if b=D then none else H b) ae vs R2 (V6 rfl) (by rw[hm,um,aT];exact rd) st;rw[hu]at fin;exact fin
  |cons t rest=>
   have ht:O[i]?=some t:=by
    have:=congrArg (λl=>l[0]?) hd;simpa using this
   have bj:i<O.length:=(fA ht).1;have i':O.drop (i+1)=rest:=by
    have:=congrArg U1 hd;simpa using this
   obtain⟨g1,g2⟩:=w.go i t _ _ ae _ C1 bp H ht U qe ix (.inl ja) M.fz;refine .inr ⟨g1,λx H' hy=>?_⟩;obtain⟨rz,rx⟩:=g2 x H' hy;obtain⟨px,bf⟩:=U.same rz;unfold iH at d;obtain⟨aj,eg,d⟩:=eW d;obtain⟨⟨b,C2⟩,et,d⟩:=eW d;obtain⟨o1,o2⟩:=hg _ _ _ _ eg;refine⟨_,_,ae,_,C1,t,aj,px,rx,eg,λav R2=>?_⟩;refine⟨_,_,ae,aj,C1,b,C2,R2,et,λH3 be R3 s3=>?_⟩;have qg:=bf.trans s3;have nD:D∉ae:=λz=>(U.aA D z).2 (.inr rfl);cases b with
   |false=>
    rw[V9 (by simp)]at d;obtain⟨nv,d⟩:=xR d;dsimp only;rw[V9 (by simp)];exact⟨rest.length,by simp,be,C2,done,rest,vs,rfl,i',bj,Vd kz,R3.weak (by rw[o1]) (uA o1 o2),(qg.kept _ _ ph nD).2,rd.step qg,M.trans qg,rg _ _ nv ja,yr,d,um⟩
   |true=>
    rw[V6 rfl]at d;dsimp only;rw[V6 rfl];obtain⟨⟨ty,C3⟩,ee,d⟩:=eW d;obtain⟨nv,d⟩:=xR d;obtain⟨⟨yu,C4⟩,e3,e2⟩:=eX d;cases e2;refine⟨_,_,be,aj,C2,ty,C3,R3,ee,λy H4 gy R4 xp s4=>?_⟩;have gp:=qg.trans s4;have zk:=rd.step gp;obtain⟨R5,em⟩:=R4.n7 (D:=D) (o:=.lst (vs++[y])) (.inr rfl) n0 trivial;refine⟨vs,rest.length,(gp.kept _ _ ph nD).2,by rw[rd.length];exact bC (dB kz bj) (dW hl),by simp,gy,C3,done++[ty],rest,vs++[y],rfl,i',bj,by simp;exact kz,R5.weak (by rw[o1]) (uA o1 o2),gS,?_,?_,rg _ _ nv ja,yu,e3,by rw[um];simp⟩
    .rw[em];exact zk.append (.cons xp .nil)
    .exact⟨λb o z n=>⟨((M.trans gp).kept b o z n).1,by
      rw[fL (by rintro rfl;rw[hD]at z;cases z)];exact((M.trans gp).kept b o z n).2⟩,(M.trans gp).pre,λb ob u z=>by
      rw[fL (by rintro rfl;rw[hD]at z;cases z)];exact(M.trans gp).fz b ob u z⟩
theorem MD{d:aq}{c:Nat}{b:tl}(h:C<+:d)(e:lc C c=some b):lc d c=some b:=by
 obtain⟨D,rfl⟩:=h;rw[mW]at e|-;rw[bK (fA e).1];exact e
theorem rC{t:T}{b:tl}(C c:aq)(h:C<+:c)(e:stays t b C):stays t b c:=by
 unfold stays at*;split
 .exact MD h e
 .trivial
def kK(f:FE)(k:Nat)(is:Uo)(g:FG)(B:FB)(L:FE):FN:=λA C=>(f A C).bind λp=>(dR p.2 p.1).bind λb=>if b.length<lim then iH g B L (d3 k is A) b p.2 else none
theorem Fz(w:i1 k g)(h:jh K (kK f k is g B L) s H Q):t4 (E8 K (aD K f)) (hG k is) (ke K g) (hL K B) (aD K L) s H Q:=by
 obtain⟨I,Z,ρ,A,C,P,Y,R,e,q⟩:=h;unfold kK at e;obtain⟨⟨t,O⟩,J,e⟩:=eW e;obtain⟨S,b,e⟩:=eW e;split at e
 .rename_i hl;refine⟨I,Z,ρ,A,C,t,O,R,J,λv X U c d i=>?_⟩;obtain⟨a,vs,G,u,r⟩:=c.li d b;subst G;exact⟨a,rfl,⟨vs,u⟩,λD z=>oP c w (z7 c d b) (pN b) rC hl e z λp H' ae vs M hp l j=>q p H' ae vs M hp l (i.trans j)⟩
 .cases e
def lH(f:FE)(k:Nat)(is:Uo)(g:FG)(B:FB)(L:FE):FN:=λA C=>(f A C).bind λp=>match p.1 with
 | .int j=>if j<400000/\ -(2^62)<=j then iH g B L (d3 k is A) (sT 0 j.toNat) p.2 else none
 |_=>none
theorem II(u:i1 k g)(h:jh K (lH f k is g B L) s H Q):t4 (E2 (gn K (e7 f fR))) (hG k is) (ke K g) (hL K B) (aD K L) s H Q:=by
 obtain⟨I,Z,ρ,A,C,P,X,R,e,q⟩:=h;unfold lH at e;obtain⟨⟨t,O⟩,G,e⟩:=eW e;dsimp only at e;split at e
 .split at e
  .rename_i b;refine⟨I,Z,ρ,A,C,_,O,R,by simp[e7,fR,G];rfl,λvs U S J z c=>?_⟩;obtain⟨v,r,rfl,l,j⟩:=z.cons_inv;rw[j.nil_inv];refine⟨_,by rw[l.int_inv],b.2,Int.lt_of_lt_of_le b.1 (by decide),λD w=>oP (P:=λ_=>True) J u wB trivial (λ_ _ _ _=>trivial) (by simp[sT,lim];exact b.1) e w λp H' ae vs M hp i d=>q p H' ae vs M hp i (c.trans d)⟩
  .cases e
 .cases e
theorem kE{i:Nat}(h:i<k):i1 k (gN i):=λt C A c e=>by
 cases e;refine⟨by simp,λj b=>?_⟩;rw[bY (by lia)]
theorem uH{k:Nat}:∀(is:Uo)(b:tl)(A:aB),(∀i∈is,i<k)->(cj is b A).length=A.length/\∀j,k<=j->(cj is b A)[j]?=A[j]?
 | [],_,_,_=>by simp[cj]
 |i::is,[],_,_=>by simp[cj]
 |i::is,t::b,A,h=>by
  obtain⟨l,d⟩:=uH (k:=k) is b (A.set i (some t)) (λj c=>h j (bJ _ c));have p:=h i bG;refine⟨by simp[cj,l],λj c=>?_⟩;show(cj is b (A.set i (some t)))[j]?=_;rw[d j c,bY (by lia)]
theorem xY(h:∀i∈is,i<k):i1 k (gU is):=λt C A d e=>by
 unfold gU at e;obtain⟨b,c,e⟩:=eW e;split at e
 .cases e;exact uH is b A h
 .cases e
end
section
variable {K:aK}{d:St}{H:Hp}
variable{Q:VK}{fa:FN}{fb:FE}{r:Uh->Hp->VK->Prop}
theorem h9{f:FE}{i:VK}(h:aD K f d H Q)(l:∀v H',Q v H'->i v H'):aD K f d H i:=by
 obtain⟨g,Z,ρ,j,C,t,m,R,e,k⟩:=h;exact⟨g,Z,ρ,j,C,t,m,R,e,λv H' ae a b c=>l _ _ (k v H' ae a b c)⟩
theorem lI{f:FN}{Q i:Uh->Hp->Prop}(h:gn K f d H Q)(l:∀v H',Q v H'->i v H'):gn K f d H i:=by
 obtain⟨g,Z,ρ,j,C,t,m,R,e,k⟩:=h;exact⟨g,Z,ρ,j,C,t,m,R,e,λv H' ae a b c=>l _ _ (k v H' ae a b c)⟩
theorem y7{fa:FE}{g:T->T->aq->Option (T×aq)}{r:R2}(f:∀d H Q x y,(∃c b,fh K d [c,b] [x,y] (g c b) H Q)->r x y H Q)(h:aD K (fP fa fb g) d H Q):wq r (aD K fa) (aD K fb) d H Q:=
 h9 (E3 h) λ_ _ q=>h9 q λ_ _ q=>f _ _ _ _ _ q
theorem Km{fa:FE}{g:T->T->aq->Option tl}{r:R2}(f:∀d H Q x y,(∃c b,wi K d [c,b] [x,y] (g c b) H Q)->r x y H Q)(h:jh K (qN fa fb g) d H Q):wq r (aD K fa) (aD K fb) d H Q:=
 h9 (Mp h) λ_ _ q=>h9 q λ_ _ q=>f _ _ _ _ _ q
theorem EE{g:tl->aq->Option (T×aq)}(c:∀d H Q xs,(∃b,fh K d b xs (g b) H Q)->r xs H Q)(h:aD K (mR fa g) d H Q):Cq r (gn K fa) d H Q:=
 lI (C6 h) λ_ _ q=>c _ _ _ _ q
theorem JN{g:tl->aq->Option tl}(c:∀d H Q xs,(∃b,wi K d b xs (g b) H Q)->r xs H Q)(h:jh K (sE fa g) d H Q):Cq r (gn K fa) d H Q:=
 lI (G2 h) λ_ _ q=>c _ _ _ _ q
theorem GO{n:Nat}{F:tl->Ug}{E:XK}(h:aD K (mR fa (iX n F)) d H Q):Fe (spT K n F) [] E (gn K fa) d H Q:=
 lI (C6 h) λvs _ q=>by rw[aT];exact K7 q
noncomputable def Ub(b:tl)(C:aq):Option (T×aq):=match b with
 | [.int i,.int j]=>if 0<j/\j<1073741824 then some (.tup [.int (i/j),.int (i%j)],C)else none
 |_=>none
noncomputable def CQ(b:tl)(C:aq):Option (T×aq):=match b with
 | [.int i]=>some (.int i,C)
 | [.bl k]=>some (.int (if k then 1 else 0),C)
 |_=>none
theorem Ke{xs:Uh}(h:∃b,fh K d b xs (CQ b) H Q):(∃i,xs=[.int i]/\Q (.int i) H)\/∃k,xs=[.bl k]/\Q (.int (if k then 1 else 0)) H:=by
 obtain⟨b,f,Z,ρ,g,C,t,j,R,r,e,k⟩:=h;unfold CQ at e;split at e
 .obtain⟨v,_,rfl,c,r⟩:=r.cons_inv;rw[r.nil_inv,c.int_inv];cases e;exact .inl ⟨_,rfl,k _ H ρ R .int .refl⟩
 .obtain⟨v,_,rfl,c,r⟩:=r.cons_inv;rw[r.nil_inv,c.fo];cases e;exact .inr ⟨_,rfl,k _ H ρ R .int .refl⟩
 .cases e
noncomputable def BY(t:T)(C:aq):Option (T×aq):=match t with
 | .int i=>some (.int (-i),C)
 |_=>none
theorem KS{x:V}(h:∃t,fh K d [t] [x] (BY t) H Q):∃i,x=.int i/\Q (.int (-i)) H:=by
 obtain⟨t0,b,Z,ρ,f,C,t,g,R,r,e,k⟩:=h;obtain⟨_,_,z,c,r⟩:=r.cons_inv;cases z;unfold BY at e;split at e
 .cases e;exact⟨_,c.int_inv,k _ H ρ R .int .refl⟩
 .cases e
end
noncomputable def mE(i j:Int):Bool:= !(decide (Wc.Int.intBits i>Xf)&&decide (Wc.Int.intBits j>Xf)&&Wc.Int.intTooBig (Wc.Int.intBits i+Wc.Int.intBits j))
def zX(xs vs:tl):Option tl:=match vs with
 | [y]=>if xs.length<lim then some (xs++[y])else none
 |_=>none
noncomputable def Jn:Um->Int
 | []=>0
 |n::c=>c.foldl (λa b=>if b>a then b else a) n
noncomputable def D8:Um->Int
 | []=>0
 |n::c=>c.foldl (λa b=>if b<a then b else a) n
abbrev vS(a b:FE):FE:=fP a b (gI λi j=>.int (i+j))
abbrev vm(a b:FE):FE:=fP a b (u1 mE λi j=>.int (i*j))
abbrev vF(a b:FE):FE:=fP a b (u1 (λ_ j=>decide (0<j)) λi j=>.int (i%j))
abbrev Ej(a:FE):FE:=ry a BY
abbrev Ek(a b:FE):FE:=fP a b (gI λi j=>.bl (decide (i<j)))
abbrev Jt(a b:FE):FE:=fP a b (gI λi j=>.bl (decide (j<=i)))
abbrev vc(a b:FE):FE:=fP a b (jj false)
abbrev jl(a b:FE):FE:=fP a b (jj true)
abbrev Gi(a b:FE):FE:=fP a b (jy false)
abbrev CH(a b:FE):FE:=fP a b (jy true)
abbrev BE(a b c:FE):FE:=oO a b c (λi j=>decide (i<=j)) (λi j=>decide (i<j))
abbrev BF(a b c:FE):FE:=oO a b c (λi j=>decide (i<=j)) (λi j=>decide (i<=j))
abbrev f7(a b:FE):FE:=fP a b xf
abbrev nE(a b:FE):FN:=qN a b ya
abbrev BV(a:FN):FE:=mR a xr
abbrev BD(a:FN):FE:=mR a (Bz (λb=> !b.isEmpty) D8)
abbrev EK(a:FN):FE:=mR a (BS λbs=>bs.all id)
abbrev r3(a:FN):FE:=mR a CQ
abbrev iN(n:Nat)(F:tl->Ug)(a:FN):FE:=mR a (iX n F)
abbrev x5(o:FE)(a:FN):FS:=BP o a zX
noncomputable def gY:FB:=λ_ C=>some (true,C)
def jU(B:FS)(m:Nat)(b:tl):Ug:=match B (gg m b) []with
 |some (.rt r,_,C)=>dr 3 C r
 |some (.nx,_,_)=>some .bg
 |_=>none
theorem iW{B:FS}{m n:Nat}:∀b t,b.length=n->jU B m b=some t->∃r,B (gg m b) []=some r/\Ex t r:=λb t _ e=>by
 unfold jU at e;split at e
 .rename_i h;exact⟨_,h,e⟩
 .rename_i h;cases e;exact⟨_,h,rfl⟩
 .cases e
end TL
namespace L2
open PySem PySem.Spec PyProof.Rows
variable{X:Cx}{e:Wg}{a:TT}
theorem PE.imp{t a:TE}(h:PE X e t)(c:∀b H Q,a b H Q->t b H Q):PE X e a:=λd s b H Q I q=>h d s b H Q I (c b H Q q)
theorem PT.imp{t:TT}(h:PT X e t)(c:∀b H Q,a b H Q->t b H Q):PT X e a:=λd s b H Q I q=>h d s b H Q I (c b H Q q)
theorem PW.imp{t:TT}(h:PW X e t)(d:∀b H Q,a b H Q->t b H Q):PW X e a:=λc f s b H Q I q=>h c f s b H Q I (d b H Q q)
theorem PA.imp{e:Uu}{t a:TA}(h:PA X e t)(c:∀b H Q,a b H Q->t b H Q):PA X e a:=λpos d s b H Q I q=>h pos d s b H Q I (c b H Q q)
theorem PS.imp{e:WO}{t a:TS}(h:PS X e t)(c:∀D b H,a D b H->t D b H):PS X e a:=λd s b H D I q=>h d s b H D I (c D b H q)
theorem jf.imp{e:List WO}{t a:TS}(h:jf X e t)(c:∀D b H,a D b H->t D b H):jf X e a:=λd s b H D I q=>h d s b H D I (c D b H q)
theorem PG.imp{t a:TG}(h:PG X e t)(c:∀v b H Q,a v b H Q->t v b H Q):PG X e a:=λd s b H v u Q I r q=>h d s b H v u Q I r (c v b H Q q)
theorem PO.imp{e:Option Wg}{t a:TO}(h:PO X e t)(c:∀b H Q,a b H Q->t b H Q):PO X e a:=λd s b H Q I q=>h d s b H Q I (c b H Q q)
end L2
namespace TL
open PySem PySem.Spec PyProof.Rows L2
theorem jC:lim<=sizeLine:=by unfold lim;rw[W3];decide
section
variable {X:Cx}
theorem NW:gm X (Xm .Add) (rj X.K):=by
 intro R s L H x y v u Q I z w h;obtain⟨l,b,xs,M,rfl,rfl,D,hB,C,q⟩:=h;cases z;cases w;obtain⟨a,r,p,hl⟩:=I.list D;obtain⟨il,i,A,N⟩:=I.list hB;obtain⟨⟨K,G,o,sl⟩,j,m,n,k⟩:=id p.isList;obtain⟨⟨t,d,data2,e⟩,f,g,B,c⟩:=id A.isList;simp only at m k g c;subst m k g c;have P:=r.length;have O:=i.length;have J:=jC;have F:a.toArray++il.toArray=(a++il).toArray:=by simp
 refine concat_meets ⟨_,j,rfl⟩ ⟨_,f,rfl⟩ noFill_list_add seq_list_add PySem.F.slot_list_add PySem.F.entry_list_add (PySem.F.args_list_add_2 _ _)
  (list_addW l b a.toArray il.toArray n B G d sl e (by rw[bA,bA];lia)) ⟨j,f,?_⟩
 rw[F];exact⟨.ref _,_,I.uu (t':=s.toks) (r.append i) (by rw[bN];exact aX C J),rfl,q _ I.fresh⟩
def E0(xs vs:Uh):Option Uh:=match vs with
 | [y]=>if xs.length<lim then some (xs++[y])else none
 |_=>none
theorem MC{K:aK}:∀M a d c b vs xs,ax K M a d vs->ax K M a c xs->zX d c=some b->∃f,E0 vs xs=some f/\ax K M a b f:=by
 intro M a d c b vs xs g j e;unfold zX at e;split at e
 .obtain⟨v,_,rfl,i,h⟩:=j.cons_inv;rw[h.nil_inv];split at e
  .rename_i hl;cases e;refine⟨vs++[v],?_,g.append (.cons i .nil)⟩;show(if vs.length<lim then some (vs++[v])else none)=_;rw[V6 (by rw[g.length];exact hl)]
  .cases e
 .cases e
theorem Ha:yk X "list.append" (Aw E0):=by
 intro i s a H x vs v b Q I c d h;obtain⟨l,xs,j,g,f,e,q⟩:=h;unfold E0 at e;split at e
 .split at e
  .rename_i hl;cases e;exact r9 i s a H x _ v b Q I c d ⟨l,xs,_,g,rfl,f,bC hl jC,q⟩
  .cases e
 .cases e
theorem TF{bs:List Bool}:∀{a:Uq},au (bs.map V.bl) a->a=bs.map V3.bool:=by
 induction bs with
 |nil=>intro a r;rw[aY]at r;cases r;rfl
 |cons n d ih=>
  intro a r;rw[aN]at r;cases r with
  |cons c b=>
   cases c;rw[ih b];rfl
theorem TC(bs:List Bool):((bB bs.length).all λi=>(bs[i]?).getD true)=bs.all id:=by
 rw[dD,cN,cN];constructor
 .intro h b c;obtain⟨i,a,rfl⟩:=Vs c;have:=h i (iA a);simpa[bD a]using this
 .intro h i a;have bq:=gC a;simpa[bD bq]using h _ (c9 bq)
theorem N6{s:V4}{a:V8}{o:Obj}(d:∀b x,b∉[s.heap.objs.size]->(s.heap.push o).get? b=some x->a.get? b=some x):∀b x,s.heap.get? b=some x->a.get? b=some x:=
 λb x e=>d b x (λc=>by rw[gP c]at e;exact cE _ (V8.lt_size e)) (V8.get?_push_of_some _ e)
theorem RU(m:X.calm=true):mU X (.builtin "all") (Az X.K (λbs=>bs.all id)):=by
 intro A s t H xs w Q I r h;obtain⟨p,bs,rfl,k,q⟩:=h;obtain⟨u,rfl,g⟩:=vals1 r;cases g;obtain⟨j,f,c,y⟩:=I.list k;have n:=TF f;subst n;have o:p<s.heap.objs.size:=c.lt;refine call_all_walk (W9 c.isList ?_);refine⟨s.heap.objs.size,[s.heap.objs.size,p],[s.heap.objs.size],(bs.map V3.bool).toArray.size,_,_,λi=>(bs[i]?).getD true,rfl,Walks.list (A:=X.A.in1) (I.ok.hd m) _ p (bQ o) (bs.map V3.bool).toArray,
  ⟨⟨_,V8.get?_push_size _ rfl,rfl,rfl⟩,c.isList.push _⟩,λi v x B C a d=>?_,λz tk l=>?_⟩
 .simp only[List.getElem?_toArray,bF]at a;cases e:bs[i]?with
  |none=>rw[e]at a;cases a
  |some b=>
   rw[e]at a;cases a;simp only[e,cO]at d;exact WK d
 .have e:((bB (bs.map V3.bool).toArray.size).all λi=>(bs[i]?).getD true)=bs.all id:=by
   rw[bA,aQ];exact TC bs
  rw[e];exact⟨.bl _,H,I.kept (N6 l),rfl,q⟩
end
section
variable {X:Cx}{g:List (V1×Obj)}{h:L2.St}{H:Hp}{s:V4}
variable{t1 t2:T}{b:Bool}
theorem Fv{A:We}{x y:V}{u v:V3}(c:RT X.K H [] t1 x)(a:RT X.K H [] t2 y)(f:RelV x u)(d:RelV y v)(e:ng t1 t2=some b):SeqAt.EqAt A s u v b:=by
 unfold ng at e;split at e<;>first
  | (cases e;done)
  | (cases e
     unfold RT at c a;subst c a;have q:=Mc (A:=A) (s:=s) f d rfl rfl;exact q)
theorem z3{x:V}(c:RT X.K H [] t1 x)(a:RT X.K H [] t2 x)(e:ng t1 t2=some b):b=true:=by
 unfold ng at e;split at e<;>first
  | (cases e;done)
  | (cases e
     unfold RT at c a;rw[c]at a;first|rfl| (cases a;simp)| (exact nomatch a))
theorem IK{e:T->T->Option Bool}{vs:Uh}(i:∀t1 t2 x b,RT X.K H [] t1 x->RT X.K H [] t2 x->e t1 t2=some b->b=true):∀{f a:tl}{vs:Uh}{b:Bool},ax X.K H [] f vs->ax X.K H [] a vs->r4 e f a=some b->b=true
 | [],[],_,b,_,_,q=>by cases q;rfl
 |t::f,u::a,vs,b,m,l,q=>by
  obtain⟨v,r,rfl,w,p⟩:=m.cons_inv;obtain⟨y,A,z,o,n⟩:=l.cons_inv;cases z;unfold r4 at q;obtain⟨c,k,q⟩:=eW q;obtain⟨d,j,q⟩:=eX q;rw[i _ _ _ _ w o k,IK (vs:=vs) i p n j]at q;exact q.symm
 | [],_::_,_,_,_,_,q=>by cases q
 |_::_,[],_,_,_,_,q=>by cases q
theorem Qz(I:Inv X g h H s):∀(n:Nat)(t1 t2:T)(x:V)(b:Bool),RT X.K H [] t1 x->RT X.K H [] t2 x->eqT n t1 t2=some b->b=true:=by
 intro n;induction n with
 |zero=>intro t1 t2 x b d c e;exact z3 d c (by unfold eqT at e;exact e)
 |succ n ih=>
  intro t1 t2 x b d c e;by_cases hl:∃xs f,t1=.lst xs/\t2=.lst f
  .obtain⟨xs,f,rfl,rfl⟩:=hl;unfold RT at d c;obtain⟨a,vs,p,o,j⟩:=d;obtain⟨r,l,k,m,i⟩:=c;rw[p]at k;cases k;have:=I.g6 o m;subst this;unfold eqT at e;rw[V6 (by rw[<-j.length,<-i.length])]at e;exact IK (vs:=vs) ih j i e
  .have q:ng t1 t2=some b:=by
    unfold eqT at e;split at e
    .exact absurd ⟨_,_,rfl,rfl⟩ hl
    .exact e
   exact z3 d c q
theorem yQ{e:T->T->Option Bool}{A:We}(B:∀t1 t2 x y u v b,RT X.K H [] t1 x->RT X.K H [] t2 y->RelV x u->RelV y v->e t1 t2=some b->SeqAt.EqAt A s u v b):
 ∀{n m:tl}{vs l:Uh}{is o:Uq}{b:Bool},ax X.K H [] n vs->ax X.K H [] m l->au vs is->au l o->r4 e n m=some b->
  ∃f:Nat->Bool,(∀j u v,is[j]?=some u->o[j]?=some v->SeqAt.EqAt A s u v (f j))/\(bB is.length).all f=b
 | [],[],_,_,_,_,b,p,C,a,w,q=>by
   cases q;rw[p.nil_inv]at a;cases a;exact⟨λ_=>true,λj u v z=>by simp at z,rfl⟩
 |t::n,u::m,vs,l,is,o,b,p,C,a,w,q=>by
  obtain⟨v,r,rfl,O,N⟩:=p.cons_inv;obtain⟨P,Q,rfl,M,L⟩:=C.cons_inv;unfold r4 at q;obtain⟨c,K,q⟩:=eW q;obtain⟨d,J,q⟩:=eX q;cases a with
  |cons I F=>
   cases w with
   |cons G D=>
    obtain⟨f,f1,f2⟩:=yQ B N L F D J;refine⟨λj=>match j with|0=>c|j+1=>f j,λj u v k i=>?_,?_⟩
    .cases j with
     |zero=>
      simp at k i;subst k i;exact B _ _ _ _ _ _ _ O M I G K
     |succ j=>exact f1 j u v (by simpa using k) (by simpa using i)
    .rw[aO,Vp,List.all_cons,UD,<-q,<-f2];rfl
 | [],_::_,_,_,_,_,_,_,_,_,_,q=>by cases q
 |_::_,[],_,_,_,_,_,_,_,_,_,q=>by cases q
theorem Fp(I:Inv X g h H s):∀(n:Nat)(A:We)(t1 t2:T)(x y:V)(u v:V3)(b:Bool),A.units+n<WJ->RT X.K H [] t1 x->RT X.K H [] t2 y->RelV x u->RelV y v->eqT n t1 t2=some b->SeqAt.EqAt A s u v b:=by
 intro n;induction n with
 |zero=>intro A t1 t2 x y u v b r i d l k e;exact Fv i d l k (by unfold eqT at e;exact e)
 |succ n ih=>
  intro A t1 t2 x y u v b r i d l k e;by_cases hl:∃xs w,t1=.lst xs/\t2=.lst w
  .obtain⟨xs,w,rfl,rfl⟩:=hl;have sm:x=y->b=true:=λz=>by subst z;exact Qz I _ _ _ _ _ i d e
   unfold RT at i d;obtain⟨a,vs,N,L,p⟩:=i;obtain⟨c,E,M,K,o⟩:=d;subst N M;cases l;cases k;by_cases m:a=c
   .subst m;rw[sm rfl];exact SeqAt.EqAt.same _
   .obtain⟨is,C,F,Z⟩:=I.list L;obtain⟨js,B,D,Y⟩:=I.list K;have J:=C.length;have G:=B.length;unfold eqT at e;split at e
    .rename_i t;obtain⟨f,f1,f2⟩:=yQ (A:=A.in1) (λt1 t2 x y u v b U S R Q P=>ih A.in1 t1 t2 x y u v b (by show A.units+1+n<WJ;lia) U S R Q P) p o C B e;have q:=SeqAt.EqAt.of_refs m (SeqAt.RcAt.lists (A:=A) (s:=s) (e:=f) F.isList D.isList (by rw[bA,bA,<-J,<-G,p.length,o.length];exact t) (cR r) λj i d=>
      f1 j _ _ (by simp) (by simp))
     rw[bA,f2]at q;exact q
    .rename_i t;cases e;refine SeqAt.EqAt.of_refs m (SeqAt.RcAt.lists_lengths F.isList D.isList ?_ (cR r));rw[bA,bA,<-J,<-G,p.length,o.length];simpa using t
  .have O:ng t1 t2=some b:=by
    unfold eqT at e;split at e
    .exact absurd ⟨_,_,rfl,rfl⟩ hl
    .exact e
   exact Fv i d l k O
end
noncomputable def oG(a:List (Str×V1)):List (Str×Ws)->List (Str×V1)->Option (List (Str×V1))
 | [],b=>some b
 | (n,k)::r,b=>if(k==Ws.free)=true then(match a.lookup n with
  |some c=>oG a r ((n,c)::b)
  |none=>none)else oG a r b
theorem uQ{env:Env}:∀(f:List (Str×Ws))(a b:List (Str×V1)),oG env.cells f a=some b->
 (forIn f a fun(x:Str×Ws) (g:List (Str×V1))=>if(x.2==Ws.free)=true then do let c<-cellOf env x.1;pure (ForInStep.yield ((x.1,c)::g))else pure (ForInStep.yield g):Sem (List (Str×V1)))=pure b
 | [],a,b,e=>by cases e;rfl
 | (n,k)::r,a,b,e=>by
   unfold oG at e;rw[d7];split at e
   .rename_i d;split at e
    .rename_i c h;have:=uQ r _ b e;simp only[d,if_true];unfold cellOf;rw[h];exact this
    .cases e
   .rename_i d;have:=uQ r _ b e;simp only[d,if_false];exact this
theorem zB{env:Env}{a:WD}{b:List (Str×V1)}(e:oG env.cells a.names []=some b):closureFor a env=pure b:=by
 have h:=uQ a.names [] b e;unfold closureFor;first
  |exact h
  | (simp only[bind_pure]at*;exact h)
  | (show(forIn a.names [] _>>=λr=>pure r)=pure b;rw[bind_pure];exact h)
theorem r6{a:List (Str×V1)}:∀(i:List (Str×Ws))(b f:List (Str×V1)),oG a i b=some f->(∀x c,b.lookup x=some c->a.lookup x=some c)->
 (∀x c,f.lookup x=some c->a.lookup x=some c)
 | [],b,f,e,h=>by cases e;exact h
 | (n,k)::r,b,f,e,h=>by
   unfold oG at e;split at e
   .split at e
    .rename_i c j;refine r6 r _ f e λx d g=>?_;rw[cP]at g;split at g
     .rename_i q;cases g;rw[eq_of_beq q];exact j
     .exact h x d g
    .cases e
   .exact r6 r _ f e h
theorem o7{b:List (Str×V1)}:∀(g:List (Str×Ws))(a f:List (Str×V1)),oG b g a=some f->∀x,((x,Ws.free)∈g\/∃c,a.lookup x=some c)->∃c,f.lookup x=some c
 | [],a,f,e,x,h=>by
   cases e;rcases h with h|h
   .cases h
   .exact h
 | (n,k)::r,a,f,e,x,h=>by
   unfold oG at e;split at e
   .split at e
    .rename_i c m;refine o7 r _ f e x ?_;rcases h with h|h
     .rcases fU h with h|h
      .cases h;exact .inr ⟨c,by simp[cP]⟩
      .exact .inl h
     .obtain⟨d,l⟩:=h;by_cases i:(x==n)=true
      .exact .inr ⟨c,by rw[cP,i]⟩
      .refine .inr ⟨d,?_⟩;rw[cP];simp only[i];exact l
    .cases e
   .rename_i j;refine o7 r _ f e x ?_;rcases h with h|h
    .rcases fU h with h|h
     .cases h;exact absurd rfl j
     .exact .inl h
    .exact .inr h
abbrev fZ(X:Cx)(N:Ur)(scope:WD)(cl:List (Str×V1))(C:V1)(a:V4)(c:Hp)(b:List V1):Cx:=
 {X with N:=N,dq:=a,ay:=c,env:=compEnvC scope cl C X.env,outer:=X.stack,stack:=X.stack,ex:=b,fn:=λ_=>false,pn:=[],xe:=λ_ _=>False}
theorem mH{env:Env}:∀{a:List (Str×Ws)}{x:Str},(∀y∈a,y.2≠ .cell)->
 ((a.map fun(n,k)=>if(k==Ws.free&&env.scope.kind== .function&&env.kindOf n==some .cell)=true then(n,Ws.cell)else(n,k)).lookup x=some .cell\/
  (a.map fun(n,k)=>if(k==Ws.free&&env.scope.kind== .function&&env.kindOf n==some .cell)=true then(n,Ws.cell)else(n,k)).lookup x=some .free)->(x,Ws.free)∈a
 | [],x,_,h=>by rcases h with h|h<;>simp at h
 | (n,k)::r,x,d,h=>by
   have ih:= @mH env r x (λy g=>d y (bJ _ g));have i:k≠ .cell:=d (n,k) bG;rw[aN]at h;by_cases c:(x==n)=true
   .have f:x=n:=eq_of_beq c;subst f;by_cases b:(k==Ws.free&&env.scope.kind== .function&&env.kindOf x==some .cell)=true
    .have:k=.free:=by
      rw[b8,b8]at b;exact eq_of_beq b.1.1
     subst this;exact bG
    .simp only[V9 b,cP,c]at h;rcases h with h|h
     .cases h;exact absurd rfl i
     .cases h;exact bG
   .refine bJ _ (ih ?_);by_cases b:(k==Ws.free&&env.scope.kind== .function&&env.kindOf n==some .cell)=true
    .simp only[V6 b,cP,c]at h;exact h
    .simp only[V9 b,cP,c]at h;exact h
structure jT(X:Cx)(own fr:Ur)(is:Uo)(scope:WD)(cl:List (Str×V1)):Prop where
 l5:oG X.env.cells scope.names []=some cl
 cell:∀y∈scope.names,y.2≠ .cell
 kind:scope.kind=.function
 names:∀y∈scope.names,y.2=.local->scope.names.lookup y.1=some .local
 pick:is.map (λi=>X.N[i]?)=fr.map some
 kx:fr.all (λx=>X.env.kindOf x==some .cell||X.env.kindOf x==some .free)=true
 ky:fr.all (λx=>(Xn scope X.env).names.lookup x==some .cell||(Xn scope X.env).names.lookup x==some .free)=true
section
variable {X:Cx}{own fr:Ur}{is:Uo}{scope:WD}{cl:List (Str×V1)}
variable{F:List (V1×Obj)}{B:L2.St}{s:V4}{f:List V1}{K iter L:Wg}{G:Uu}{pos:Pos}{M:TE}{N:TI}
theorem HX{x:Option Ws}(h:(x==some .cell||x==some .free)=true):x=some .cell\/x=some .free:=by
 rw[Bool.or_eq_true]at h;rcases h with h|h
 .exact .inl (eq_of_beq h)
 .exact .inr (eq_of_beq h)
theorem zR{H:Hp}{t:V8}{tk:Nat}(k:jT X own fr is scope cl)(I:Inv X F B H s)(n:∀b∈f,oQ X F H b/\b<s.heap.objs.size)
 (hn:t.Ns s.heap.objs.size (λx=>([]:List (Str×V3)).reverse.lookup x))(hs:V8.SameBut s.heap.objs.size (s.heap.push {cls:=.type "dict",data:=.dict #[]}) t):
 Inv (fZ X (own++fr) scope cl s.heap.objs.size s H f) [] (hG own.length is B) H {s with heap:=t,toks:=tk}:=by
 have O:∀b o,s.heap.get? b=some o->t.get? b=some o:=λb o e=>(hs.2 b (bQ (V8.lt_size e))).trans (V8.get?_push_of_some _ e);have sub:=r6 _ _ _ k.l5 (λx c z=>by simp at z);have Y:∀x c,cl.lookup x=some c->∃v,s.heap.IsCell c v:=λx c e=>I.cell x c (sub x c e);have U:∀{c v},s.heap.IsCell c v->t.IsCell c v:=fun⟨o,J,C⟩=>⟨o,O _ o J,C⟩;have kj:∀x c,cl.lookup x=some c->c≠s.heap.objs.size:=λx c e z=>by
  obtain⟨v,o,J,_⟩:=Y x c e;exact absurd (z ▸ V8.lt_size J) (cE _)
 refine⟨⟨I.ok.mod,k.kind,I.ok.glob,I.ok.blt,bI _,λx y c P a=>I.ok.inj x y c (sub x c P) (sub y c a),λx hx=>?_,λx c h=>(by cases h),I.ok.hd,I.ok.frames,.inl rfl,λb g=>⟨bQ (n b g).2,λx c e=>(n b g).1.2.2.2.2.1 x c (sub x c e)⟩,
  λb o e=>I.bs b o e,aX I.ok.oz I.sz,λb o e g=>?_,λb g z=>?_,I.stack,I.ez⟩,
  rfl,I.bare,Un.kept O,⟨_,hn,λi x v P a h3=>?_⟩,λx c e=>?_,I.aF.fresh (bI _),λx c e=>I.cz x c (sub x c e),λp hp=>absurd hp (by simp),I.aF.kept O,?_⟩
 .have E:(Xn scope X.env).names.lookup x=some .cell\/(Xn scope X.env).names.lookup x=some .free:=hx;exact o7 _ _ _ k.l5 x (.inl (mH k.cell E))
 .rcases(n b g).1.2.2.2.1 with z|z
  .exact I.ok.l1 b o e z
  .exact absurd (bC (V8.lt_size e) (aX I.ok.oz z)) (cE _)
 .rcases fU (I.ik b z)with q|q
  .exact(n b g).1.2.1 q
  .exact(n b g).1.2.2.1 q
 .
  have A:¬i<own.length:=λA=>by
   unfold hG at a;rw[bK (by simpa using A),b3,V6 A]at a;cases a
  have bq:=cM A;unfold hG at a;rw[bP (by simpa using bq),bF]at a;simp only[cS]at a;obtain⟨j,hj,z⟩:=eX a;have D:B[j]?=some (some v):=by
   cases q:B[j]?with
   |none=>rw[q]at z;cases z
   |some u=>rw[q]at z;exact congrArg some z
  have Z:fr[i - own.length]?=some x:=by
   have:(own++fr)[i]?=some x:=P;rw[bP bq]at this;exact this
  have hN:X.N[j]?=some x:=by
   have:=congrArg (λl=>l[i - own.length]?) k.pick;simp only[bF,hj,Z,cY]at this;exact bZ.inj this
  have Q:x∈fr:=bV Z;have S:=HX (cN.mp k.kx x Q);have R:=HX (cN.mp k.ky x Q);obtain⟨m,_,hl⟩:=I.loc
  obtain⟨u,r,l⟩:=hl j x v hN D (by rcases S with z|z;exact .inr (.inl z);exact .inr (.inr z))
  refine⟨u,r,.inr ⟨R,?_⟩⟩;rcases l with⟨z,_⟩| ⟨_,c,e,q⟩
  .rcases S with w|w<;>(rw[w]at z;cases z)
  .obtain⟨d,C⟩:=o7 _ _ _ k.l5 x (.inl (mH k.cell R));have:=sub x d C;rw[e]at this;cases this;exact⟨c,C,U q⟩
 .obtain⟨v,q⟩:=Y x c e;exact⟨v,U q⟩
 .unfold hG;show _=(own++fr).length;have:=congrArg U0 k.pick;simp only[aQ]at this;simp[this]
theorem wI{t:L2.St}{H a:Hp}{s':V4}{h':V8}(I:Inv X F B H s)(h:∀b∈f,oQ X F H b)
 (J:Inv (fZ X (own++fr) scope cl s.heap.objs.size s H f) [] t a s')(g:V8.SameBut s.heap.objs.size s'.heap h'):Inv X F B a {s' with heap:=h'}:=by
 have u:Un (aA X.stack) f H a s.heap s'.heap:=J.base;have j:∀b o,s.heap.get? b=some o->b≠s.heap.objs.size:=λb o e=>bQ (V8.lt_size e);have p:Un (aA X.stack) f H a s.heap h':=⟨λb o e n l d=>(g.2 b (j b o e)).trans (u.keep b o e n l d),λb o e n l d=>by
  obtain⟨sl,q⟩:=u.slot b o e n l d;exact⟨sl,(g.2 b (j b o e)).trans q⟩,u.free,λb o e d=>by
  obtain⟨r,q⟩:=u.there b o e d;exact⟨r,(g.2 b (j b o e)).trans q⟩,u.eL,u.eh,u.eN⟩
 have m:a s.heap.objs.size=none:=J.free;have k:er X.prog X.w a h':=λb ob e=>by
  refine(J.aF b ob e).cp (λc v hc q=>(g.2 c ?_).trans q) (λ_ q=>q) λ_ _ q=>q;rintro rfl;rcases hc with rfl|hc
  .rw[m]at e;cases e
  .rw[m]at hc;cases hc
 exact I.oy (s':={s' with heap:=h'}) J.os p k J.bare λb i=>⟨(h b i).2.2.2.1,(h b i).2.1,(h b i).2.2.2.2.1,(h b i).2.2.2.2.2⟩
theorem u3{b:Wd}{w:Wf}{A:We}{R:Result->V4->Prop}{a:Wg}{scope:WD}{k g:V3}{env:Env}(I:Nat->V4->Prop)
 (j:∀n s,I n s->Wa (Wb b w) A (W8 k) (λr i=>match r with
  |none=>R (.ok .next) i
  |some v=>Wa (Wb b w) A (W5 a k v) (λ_ i=>Wa (Wb b w) A (W6 a env v) (λ_ u=>
   Wa (Wb b w) A (forIn G true λc r=>if r=true then do let ok<-isTrue c env (Wh c env);pure (ForInStep.yield ok)else pure (ForInStep.yield r)) (λok o=>
    if ok=true then Wa (Wb b w) A (Wh K env) (λx t=>
     Wa (Wb b w) A (call (.builtin "list.append") [g,x]) (λ_ q=>∃m,m<n/\I m q) (λ_ _=>False) t) (λ_ _=>False) o
    else∃m,m<n/\I m o) (λ_ _=>False) u) (λ_ _=>False) i) (λ_ _=>False) i) (λ_ _=>False) s)
 (n:Nat)(h:I n s):
 W1 (Wb b w) A (.compLoop (.ListComp K [⟨a,iter,G,0⟩] scope pos) 0 k g env) R s:=by
 refine codeAny_loop rfl I (λn s e=>?_) n h;show Wa _ A ((compTurn (.ListComp K [⟨a,iter,G,0⟩] scope pos) 0 k g env).onRaise (λx=>do WZ x env;theTreesLotGoes x)) _ _ s;refine wpAny_noted ?_;rw[compTurn_list];refine V0 (Xa (V0 (Wm (j n s e) (λr i l=>?_) λ_ _ d=>d.elim)));cases r with
 |none=>exact V7 l
 |some v=>
  refine V0 (Wm l (λ_ i l=>?_) λ_ _ d=>d.elim);refine V0 (Wm l (λ_ u C=>V0 (Wm C (λok o p=>?_) λ_ _ d=>d.elim)) λ_ _ d=>d.elim);cases ok with
  |false=>exact V7 ⟨rfl,p⟩
  |true=>
   exact V0 (V0 (Wm p (λx t y=>V0 (Wm y (λ_ q z=>V7 (V7 ⟨rfl,z⟩)) λ_ _ d=>d.elim)) λ_ _ d=>d.elim))
def qs(X:Cx)(G:Uu)(t:TT):Prop:=
 ∀(F:List (V1×Obj))(s:V4)(B:L2.St)(H:Hp)(Q:Bool->Hp->Prop),Inv X F B H s->t B H Q->
  Wa (Wb X.prog X.w) X.A (forIn G true λc r=>if r=true then do let ok<-isTrue c X.env (Wh c X.env);pure (ForInStep.yield ok)else pure (ForInStep.yield r)) (TP X F B Q) X.xe s
theorem NK:qs X [] (λ_ H Q=>Q true H):=λ_ _ _ H _ I h=>wpAny_tests_nil ⟨H,I,h⟩
theorem OP{c:Wg}{t:TT}(h:PT X c t):qs X [c] t:=λF s B H Q I q=>wpAny_tests_one (h F s B H Q I q)
theorem u6{g:TG}{tc:TT}{w:Hp}{a:V4}{it:V1}{tn:Nat->V8->Prop}{J:It}{Q:VK}
 {RR:V3->V1->Result->V4->Prop}{E:Ut}
 (hc:X.calm=true)(k:jT X own fr is scope cl)
 (hg:∀C I t f,PG (fZ X (own++fr) scope cl C I t f) L g)(ht:∀C I t f,qs (fZ X (own++fr) scope cl C I t f) G tc)(he:∀C I t f,PE (fZ X (own++fr) scope cl C I t f) K M)
 (I2:Inv X F B w a)(T:Turn X.prog X.w X.K L J f it tn)(fq:tn 0 a.heap)(f2:∀b∈f,oQ X F w b)
 (q:∀D,w D=none->∃W:Nat->Nat->L2.St->Hp->Prop,(∃m,W 0 m (hG own.length is B) (upd w D (.lst [])))/\∀i m bp H,W i m bp H->
  (J.stop i H/\Q (.ref D) H)\/(J.go i H/\∀x j,J.n3 i H x j->g x bp j λav w=>tc av w λb t=>
   if b=true then M av t λy H4=>∃ys l,H4 D=some (.lst ys)/\ys.length<lim/\l<m/\W (i+1) l av (upd H4 D (.lst (ys++[y])))else∃l,l<m/\W (i+1) l av t))
 (hRR:∀D C j P,(∃m,P.heap.Ns C m)->(∀h',V8.SameBut C P.heap h'->Inv X F B j {P with heap:=h'})->j C=none->a.heap.objs.size<=C->Q (.ref D) j->RR (.ref D) C (.ok .next) P):
 Wa (Wb X.prog X.w) X.A (newList []) (λacc bz=>Wa (Wb X.prog X.w) X.A (newFunctionEnv scope X.env.globals cl [] X.env.qual none .none (some X.env)) (λcn cw=>
  W1 (Wb X.prog X.w) X.A (.compStart (.ListComp K [⟨L,iter,G,0⟩] scope pos) 0 (.ref it) acc {cn with scope:=Xn scope X.env}) (RR acc cn.locals) cw) E bz) E a:=by
 refine Wn (wpAny_newFunctionEnv k.cell (by intro y hy;simp at hy) (λaw ef ck=>?_) k.kind);have I3:Inv X F B (upd w a.heap.objs.size (.lst [])) {a with heap:=a.heap.push {cls:=.type "list",data:=.seq ([]:Uq).toArray}}:=I2.uu (t':=a.toks) (its:=[]) .nil (cU _);have hD:w a.heap.objs.size=none:=I2.fresh;obtain⟨W,⟨m0,w0⟩,turn⟩:=q _ hD;have bj:∀b∈f,b<a.heap.objs.size:=λb h=>by
  obtain⟨o,e,_⟩:=T.obj _ _ fq b h;exact V8.lt_size e
 have f3:∀b∈f,oQ X F (upd w a.heap.objs.size (.lst [])) b/\b<(a.heap.push {cls:=.type "list",data:=.seq ([]:Uq).toArray}).objs.size:=λb h=>
  ⟨⟨by rw[fL (bQ (bj b h))];exact(f2 b h).1,(f2 b h).2⟩,by rw[V8.size_push];exact dS (bj b h)⟩
 have J0:=zR (tk:=a.toks+([]:List (Str×V3)).length) k I3 f3 ef ck;have kept:∀b o,a.heap.get? b=some o->aw.get? b=some o:=λb o e=>(ck.2 b (by
  show b≠(a.heap.push _).objs.size;rw[V8.size_push];exact bQ (dS (V8.lt_size e)))).trans (V8.get?_push_of_some _ (V8.get?_push_of_some _ e))
 have jk:tn 0 aw:=T.keep _ _ _ fq λb _ o e=>kept b o e;have cr:∀{j:Hp},(∀b∈f,j b=none)->∀b∈f,oQ (fZ X (own++fr) scope cl (a.heap.push {cls:=.type "list",data:=.seq ([]:Uq).toArray}).objs.size {a with heap:=a.heap.push {cls:=.type "list",data:=.seq ([]:Uq).toArray}} (upd w a.heap.objs.size (.lst [])) f) [] j b:=λhn b h=>
  ⟨hn b h,bQ (f3 b h).2,λz=>J0.ok.ki b h z,.inl h,λx c e=>(J0.ok.BI b h).2 x c e,λp hp=>absurd hp (by simp)⟩
 have O:W1 (Wb X.prog X.w) X.A (.compLoop (.ListComp K [⟨L,iter,G,0⟩] scope pos) 0 (.ref it) (.ref a.heap.objs.size) (compEnvC scope cl (a.heap.push {cls:=.type "list",data:=.seq ([]:Uq).toArray}).objs.size X.env))
  (RR (.ref a.heap.objs.size) (a.heap.push {cls:=.type "list",data:=.seq ([]:Uq).toArray}).objs.size) {a with heap:=aw,toks:=a.toks+([]:List (Str×V3)).length}:=by
  refine u3 (λn P=>∃i ai j,Inv (fZ X (own++fr) scope cl (a.heap.push {cls:=.type "list",data:=.seq ([]:Uq).toArray}).objs.size {a with heap:=a.heap.push {cls:=.type "list",data:=.seq ([]:Uq).toArray}} (upd w a.heap.objs.size (.lst [])) f) [] ai j P/\tn i P.heap/\(∀b∈f,j b=none)/\W i n ai j) ?_ m0
   ⟨0,_,_,J0,jk,λb h=>(f3 b h).1.1,w0⟩
  rintro n I ⟨i,ci,t,rk,kb,lm,w3⟩;rcases turn i n ci t w3 with⟨stop,qn⟩| ⟨go,step⟩
  .refine aC (T.done (fZ X (own++fr) scope cl _ _ _ f) rfl rfl rfl hc i [] I ci t (λ_ _=>False) rk (cr lm) kb stop) λr s4 ⟨hr,I4⟩=>?_;subst hr;obtain⟨m,R,_⟩:=I4.loc;refine hRR _ _ t s4 ⟨m,R⟩ (λh' uv=>?_) I4.free ?_ qn
   .have:=wI I3 (λb h=>(f3 b h).1) I4 uv;exact this
   .show a.heap.objs.size<=(a.heap.push _).objs.size;rw[V8.size_push];exact Vg _
  .refine aC (T.item (fZ X (own++fr) scope cl _ _ _ f) rfl rfl rfl hc i [] I ci t (λ_ _=>False) rk (cr lm) kb go) λr s4 A=>?_;obtain⟨u,hr,h4⟩:=A;subst hr;refine aC h4 λ_ s5 A=>?_;obtain⟨x,H5,I5,r5,y5,ig,pj⟩:=A;have lr:=I5.pinned (cr pj) (T.obj _ _ ig);refine aC (hg _ _ _ _ _ s5 ci H5 x u _ lr r5 (step x H5 y5)) λ_ s6 A=>?_;obtain⟨gx,H6,I6,q6⟩:=A;refine aC (ht _ _ _ _ _ s6 gx H6 _ I6 q6) λok S A=>?_;obtain⟨Z,Y,U⟩:=A;have back:∀{cq:L2.St}{Z:Hp}{S:V4}{l:Nat},Inv (fZ X (own++fr) scope cl (a.heap.push {cls:=.type "list",data:=.seq ([]:Uq).toArray}).objs.size {a with heap:=a.heap.push {cls:=.type "list",data:=.seq ([]:Uq).toArray}} (upd w a.heap.objs.size (.lst [])) f) ([]++rW f s5.heap) cq Z S->l<n->W (i+1) l cq Z->
    ∃m,m<n/\∃i ai j,Inv (fZ X (own++fr) scope cl (a.heap.push {cls:=.type "list",data:=.seq ([]:Uq).toArray}).objs.size {a with heap:=a.heap.push {cls:=.type "list",data:=.seq ([]:Uq).toArray}} (upd w a.heap.objs.size (.lst [])) f) [] ai j S/\tn i S.heap/\(∀b∈f,j b=none)/\W i m ai j:=λ{cq Z S l} Y R w7=>by
    refine⟨l,R,i+1,cq,Z,Y.el,T.keep _ _ _ ig λb h o e=>(Y.pin (b,o) (bM _ (bM _ (k7 h e)))).1,λb h=>?_,w7⟩;obtain⟨o,e,d⟩:=T.obj _ _ ig b h;exact(Y.pin (b,o) (bM _ (bM _ (k7 h e)))).2.1
   cases ok with
   |false=>
    try dsimp only at U
    try dsimp only
    rw[V9 (by simp)]at U|-;obtain⟨l,R,w7⟩:=U;exact back Y R w7
   |true=>
    try dsimp only at U
    try dsimp only
    rw[V6 rfl]at U|-;refine aC (he _ _ _ _ _ S gx Z _ Y U) λy s8 A=>?_;obtain⟨v,H8,I8,r8,ys,l,e8,l8,R,w8⟩:=A;refine aC (r9 _ s8 gx H8 (.ref a.heap.objs.size) [v] (.ref a.heap.objs.size) [y] (λ_ H9=>W (i+1) l gx H9) I8 rfl (.cons r8 .nil) ⟨_,ys,v,rfl,rfl,e8,bC l8 jC,w8⟩) λ_ s9 A=>?_;obtain⟨_,H9,I9,_,w9⟩:=A;exact back I9 R w9
 exact codeAny_compStart_list O (T.self X.A 0 _ _ _ jk O)
theorem pV{g:TG}{i:TT}(u:X.calm=true)(k:jT X own fr is scope cl)(p:PI X L iter N)
 (r:∀C a b f,PG (fZ X (own++fr) scope cl C a b f) L g)(n:∀C a b f,qs (fZ X (own++fr) scope cl C a b f) G i)(t:∀C a b f,PE (fZ X (own++fr) scope cl C a b f) K M)
 (o:∀x,Wi iter X.env x=pure x:=by intro _;rfl):PE X (.ListComp K [⟨L,iter,G,0⟩] scope pos) (t4 N (hG own.length is) g i M):=by
 intro F s B H Q I h;rw[eval_ListComp];refine Xb (use:=none) rfl o (zB k.l5) k.kind k.names (aC (p F s B H _ I h) λv Y z=>aC z λE U y=>?_);obtain⟨it,f,S,J,H2,e,P,T,O,f2,q⟩:=y;subst e;refine u6 (RR:=λd C=>Xl (Wb X.prog X.w) X.A X.xe none (EP X F B Q) d C) u k r n t P T O f2 q ?_;intro D C R Z c w _ _ l;obtain⟨m,c⟩:=c;exact⟨m,c,λA j=>⟨.ref D,R,w A j,rfl,l⟩⟩
theorem pG{n Z:Pos}{g:TG}{R:TT}{i:Nat}{x:Str}(hN:X.N.Nodup)(hx:X.N[i]?=some x)(U:X.env.scope.names.lookup x=some .local)
 (hc:X.calm=true)(k:jT X own fr is scope cl)(hi:PI X L iter N)
 (hg:∀C r u f,PG (fZ X (own++fr) scope cl C r u f) L g)(ht:∀C r u f,qs (fZ X (own++fr) scope cl C r u f) G R)(he:∀C r u f,PE (fZ X (own++fr) scope cl C r u f) K M)
 (kl:Wy (.ListComp K [⟨L,iter,G,0⟩] scope pos) (some (.Name x n)) Z.line X.env=pure true)
 (hs:∀x,Wi iter X.env x=pure x:=by intro _;rfl):PS X (.Assign [.Name x n] (.ListComp K [⟨L,iter,G,0⟩] scope pos) Z) (vz (t4 N (hG own.length is) g R M) (qA i)):=by
 intro F s B H D I h;rw[exec_Assign_Name_used _ _ _ _ kl];refine V0 (Xa (V0 ?_));show Wa _ X.A (do let _<-comprehension (.ListComp K [⟨L,iter,G,0⟩] scope pos) scope X.env _ (newList []) false (Wh iter X.env) (some (W6 (.Name x n) X.env))) _ _ s;refine V0 (Wm (Xb (use:=some (W6 (.Name x n) X.env)) (Q:=λ_ j=>SP X F D .next j) rfl hs (zB k.l5) k.kind k.names
  (aC (hi F s B H _ I h) λv s1 h1=>aC h1 λnj S h2=>?_)) (λ_ j hq=>V7 (V7 hq)) λ_ _ e=>e)
 obtain⟨it,f,tn,J,H2,e,t,T,fq,f2,q⟩:=h2;subst e;refine u6 (Q:=λv H1=>D.nx (B.set i (some v)) H1) (RR:=λP C=>Xl (Wb X.prog X.w) X.A X.xe (some (W6 (.Name x n) X.env)) (λ_ j=>SP X F D .next j) P C) hc k hg ht he t T fq f2 q ?_;intro A C H' j w hI hC Y qD;obtain⟨m,w⟩:=w;show Wa _ X.A (W6 (.Name x n) X.env (.ref A)) _ _ _;have I':Inv X F B H' j:=hI j.heap (V8.SameBut.refl ..);refine wpAny_assign_Name (v6 (v:=.ref A) I' hN hx (.inl U) rfl (λjd Q bx=>?_) (.inr U));obtain⟨a,sb,ha⟩:=bx;have d:∀b o,S.heap.get? b=some o->C≠b:=λb o e z=>by
  subst z;exact absurd (bC (V8.lt_size e) Y) (cE _)
 have hl:∃o,S.heap.get? X.env.locals=some o:=let ⟨_,⟨o,_,_,l,_⟩,_⟩:=t.loc;⟨o,l⟩
 have E:∀y c,X.env.cells.lookup y=some c->C≠c:=λy c e=>by
  obtain⟨v,o,l,_⟩:=t.cell y c e;exact d c o l
 have O:C≠a:=by
  rcases ha with rfl|ha
  .obtain⟨o,l⟩:=hl;exact d _ o l
  .exact E x a ha
 refine⟨m,w.sameBut sb O,λh3 gr=>⟨B.set i (some (.ref A)),H',?_,qD⟩⟩;refine Q.turned (t':=jd.toks) (λb o hb e=>(gr.2 b hb).trans e) hC ?_ (.inr (aX t.sz Y)) (λy c e=>Ne.symm (E y c e)) λp hp=>?_
 .obtain⟨o,l⟩:=hl;exact d _ o l
 .exact Ne.symm (d _ _ (t.pin p hp).1)
end
section
variable {X:Cx}
variable{A:We}{s:V4}{rs:List (V3×Bool)}
theorem MJ(K:X.A.units+20<WJ):gm X (Wt .Eq) (EH X.K false):=by
 intro U s L H x y u v Q I o n h;obtain⟨m,l,b,i,g,e,q⟩:=h;have P:Q (.bl b) H:=q;have d:EP X U L Q (.bool b) s:=⟨.bl b,H,I,rfl,P⟩;by_cases hl:∃xs z,m=.lst xs/\l=.lst z
 .obtain⟨xs,z,rfl,rfl⟩:=hl;unfold RT at i g;obtain⟨a,vs,S,O,r⟩:=i;obtain⟨c,ws,R,N,p⟩:=g;subst S R;cases o;cases n;obtain⟨is,C,F,z1⟩:=I.list O;obtain⟨js,B,D,z2⟩:=I.list N;have J:=C.length;have G:=B.length;unfold eqT at e;split at e
  .rename_i w;obtain⟨f,f1,f2⟩:=yQ (A:=X.A.in1) (λm l x y u v b a1 a2 E Z Y=>Fp I _ X.A.in1 m l x y u v b (by show X.A.units+1+4<WJ;lia) a1 a2 E Z Y) r p C B e;refine SeqAt.eq_listAt (e:=f) F.isList D.isList (by rw[bA,bA,<-J,<-G,r.length,p.length];exact w) (cR K) (λj i g=>
    f1 j _ _ (by simp) (by simp)) ?_
   rw[bA,f2];exact d
  .rename_i w;cases e;refine SeqAt.eq_list_lengthsAt F.isList D.isList ?_ (cR K) d;rw[bA,bA,<-J,<-G,r.length,p.length];simpa using w
 .have k:ng m l=some b:=by
   unfold eqT at e;split at e
   .exact absurd ⟨_,_,rfl,rfl⟩ hl
   .exact e
  unfold ng at k;split at k
  .cases k;unfold RT at i g;subst i g;cases o;cases n;exact SeqAt.RcAt.bool_bool _ _ _ _ _ _ d
  .cases k;unfold RT at i g;subst i g;obtain⟨t,rfl⟩:=o;obtain⟨M,rfl⟩:=n;exact SeqAt.RcAt.int_int _ _ _ _ _ _ _ _ d
  .cases k;unfold RT at i g;subst i g;obtain⟨t,rfl⟩:=o;obtain⟨M,rfl⟩:=n;exact SeqAt.RcAt.str_str _ _ _ _ _ _ _ _ d
  .cases k
theorem Lp(M:X.A.units+20<WJ):gm X (Wt .NotEq) (EH X.K true):=by
 intro t s l H x y u v Q I p o h;obtain⟨n,m,b,g,d,e,q⟩:=h;have r:Q (.bl (!b)) H:=q;have k:EP X t l Q (.bool (!b)) s:=⟨.bl (!b),H,I,rfl,r⟩;by_cases hl:∃xs C,n=.lst xs/\m=.lst C
 .obtain⟨xs,C,rfl,rfl⟩:=hl;unfold RT at g d;obtain⟨a,vs,R,O,z⟩:=g;obtain⟨c,ws,P,N,w⟩:=d;subst R P;cases p;cases o;obtain⟨is,F,J,z1⟩:=I.list O;obtain⟨js,D,G,z2⟩:=I.list N;have L:=F.length;have K:=D.length;unfold eqT at e;split at e
  .rename_i B;obtain⟨f,f1,f2⟩:=yQ (A:=X.A.in1) (λn m x y u v b E Z Y U S=>Fp I _ X.A.in1 n m x y u v b (by show X.A.units+1+4<WJ;lia) E Z Y U S) z w F D e;refine SeqAt.RcNeAt.lists (e:=f) J.isList G.isList (by rw[bA,bA,<-L,<-K,z.length,w.length];exact B) (cR M) (λj g d=>
    f1 j _ _ (by simp) (by simp)) _ _ _ _ ?_
   rw[bA,f2];exact k
  .rename_i B;cases e;refine SeqAt.RcNeAt.lists_lengths J.isList G.isList ?_ (cR M) _ _ _ _ k;rw[bA,bA,<-L,<-K,z.length,w.length];simpa using B
 .have i:ng n m=some b:=by
   unfold eqT at e;split at e
   .exact absurd ⟨_,_,rfl,rfl⟩ hl
   .exact e
  unfold ng at i;split at i
  .cases i;unfold RT at g d;subst g d;exact E5 t s l H _ _ u v Q I p o ⟨rfl,by rw[Ho];exact r⟩
  .cases i;unfold RT at g d;subst g d;exact E5 t s l H _ _ u v Q I p o ⟨rfl,by rw[HZ];exact r⟩
  .cases i;unfold RT at g d;subst g d;exact E5 t s l H _ _ u v Q I p o ⟨rfl,by rw[Ii];exact r⟩
  .cases i
theorem Fm{t:T}{x:V}{u:V3}{A:We}{e:List (V1×Obj)}{s:V4}{j:L2.St}{H:Hp}(I:Inv X e j H s)(i:A.units+5<WJ)(h:RT X.K H [] t x)(r:RelV x u):
 ∀{f:tl}{vs:Uh}{is:Uq}{b:Bool},ax X.K H [] f vs->au vs is->mz (λy=>eqT 5 y t) f=some b->∃rs:List (V3×Bool),rs.map (·.1)=is/\(∀p∈rs,SeqAt.EqAt A s p.1 u p.2)/\b=rs.any (·.2)
 | [],_,_,b,g,a,q=>by
   cases q;rw[g.nil_inv]at a;cases a;exact⟨[],rfl,(λp hp=>nomatch hp),rfl⟩
 |o::f,_,_,b,g,a,q=>by
  obtain⟨v,D,rfl,C,B⟩:=g.cons_inv;unfold mz at q;obtain⟨c,z,q⟩:=eW q;obtain⟨d,w,q⟩:=eX q;cases a with
  |cons l k=>
   obtain⟨rs,n,m,w3⟩:=Fm I i h r B k w;refine⟨(_,c)::rs,by rw[aN,n],λp hp=>?_,by rw[eP,<-w3,q]⟩;rcases fU hp with rfl|hp
   .exact Fp I 5 A o t _ _ _ _ c i C h l r z
   .exact m p hp
open Classical in
noncomputable def oI(rs:List (V3×Bool))(y:V3):Bool:=if∃p∈rs,p.1=y/\p.2=true then true else false
theorem Hs{u y:V3}(h:∀p∈rs,SeqAt.EqAt A s p.1 u p.2)(a:y∈rs.map (·.1)):SeqAt.EqAt A s y u (oI rs y):=by
 unfold oI;split
 .rename_i c;obtain⟨p,hp,rfl,e⟩:=c;rw[<-e];exact h p hp
 .rename_i b;obtain⟨p,hp,rfl⟩:=fQ a;have:p.2=false:=by
   cases e:p.2 with
   |false=>rfl
   |true=>exact absurd ⟨p,hp,rfl,e⟩ b
  rw[<-this];exact h p hp
theorem Ik:(rs.map (·.1)).any (oI rs)=rs.any (·.2):=by
 rw[dD,VE,VE];constructor
 .rintro⟨y,b,e⟩;unfold oI at e;split at e
  .rename_i a;obtain⟨p,hp,_,e⟩:=a;exact⟨p,hp,e⟩
  .cases e
 .rintro⟨p,hp,e⟩;refine⟨p.1,gL ⟨p,hp,rfl⟩,?_⟩;unfold oI;rw[V6 ⟨p,hp,rfl,e⟩]
theorem G8(w:X.A.units+20<WJ):gm X (Wt .In) (EJ X.K false):=by
 intro z s n H x y u v Q I g f h;obtain⟨t,p,vs,r,b,m,rfl,l,k,e,q⟩:=h;cases f;obtain⟨is,d,i,o⟩:=I.list l;obtain⟨rs,c,a,w3⟩:=Fm (A:=X.A.in1) I (by show X.A.units+1+5<WJ;lia) m g k d e;subst c;refine SeqAt.in_listAt (oI rs) i.isList (λy j=>Hs a (by simpa using j)) ?_;rw[show(rs.map (·.1)).toArray.any (oI rs)=(rs.map (·.1)).any (oI rs)by simp,Ik,<-w3];exact⟨.bl b,H,I,rfl,q⟩
theorem RY(w:X.A.units+20<WJ):gm X (Wt .NotIn) (EJ X.K true):=by
 intro z s n H x y u v Q I g f h;obtain⟨t,p,vs,r,b,m,rfl,l,k,e,q⟩:=h;cases f;obtain⟨is,d,i,o⟩:=I.list l;obtain⟨rs,c,a,w3⟩:=Fm (A:=X.A.in1) I (by show X.A.units+1+5<WJ;lia) m g k d e;subst c;refine SeqAt.notIn_listAt (oI rs) i.isList (λy j=>Hs a (by simpa using j)) ?_;rw[show(rs.map (·.1)).toArray.any (oI rs)=(rs.map (·.1)).any (oI rs)by simp,Ik,<-w3];exact⟨.bl (!b),H,I,rfl,q⟩
theorem wH{c:Wd}{w:Wf}{A:We}{E:Ut}{b t:V1}{items:Array V3}(h:t≠b):∀(n i:Nat)(s:V4)(Q:Uq->V4->Prop),s.heap.IsListIter b t i->s.heap.IsList t items->i+n<=items.size->
 (∀f,f.IsListIter b t (i+n)->V8.SameBut b s.heap f->Q ((items.toList.drop i).take n) {s with heap:=f})->Wa (Wb c w) A (draw (.ref b) n) Q E s
 |0,i,s,Q,a,_,_,d=>by
  show Wa _ _ (pure []) Q E s;exact V7 (by simpa using d s.heap a (V8.SameBut.refl ..))
 |n+1,i,s,Q,a,g,o,d=>by
  have k:i<items.size:=by lia
  show Wa _ _ (W8 (.ref b)>>=_) Q E s;refine V0 (wpAny_pyNext_list_item a g (x:=items[i]) (by simp[k]) λu q j=>?_);refine V0 (Wq (wH h n (i+1) _ _ q (g.extBut j.extBut h) (by lia) λr m l=>V7 ?_));have p:items.toList.drop i=items[i]::items.toList.drop (i+1):=by simp[dY,k]
  have:=d r (by rw[show i+(n+1)=i+1+n from Eq.symm (Eq.trans (Nat.add_right_comm i 1 n) (Nat.add_assoc i n 1))];exact m) (j.trans l);rw[p,List.take_succ_cons]at this;exact this
theorem rP{a:Wd}{w:Wf}{E:Ut}{t:V1}{items:Array V3}{Q:Uq->V4->Prop}(hh:A.handled=none)(c:s.heap.IsList t items)
 (m:∀f,V8.ExtBut s.heap.objs.size s.heap f->Q items.toList {s with heap:=f}):Wa (Wb a w) A (unpackItems (.ref t) items.size none) Q E s:=by
 have h:t≠s.heap.objs.size:=by obtain⟨o,l,_⟩:=c;exact bQ (V8.lt_size l)
 unfold unpackItems;refine V0 ?_
 .unfold notIterableAtAll;refine V0 (wpAny_specialOf c.typeIs slot_list_iter.lookup ?_);refine V7 ?_;simp only[cT,if_false];refine V0 (Wq (W9 c ?_));refine V0 (Wq (wH h items.size 0 _ _ ⟨_,V8.get?_push_size _ rfl,rfl,rfl⟩ (c.push _) (by lia) λq n g=>?_));have k:List.take items.size (List.drop 0 items.toList)=items.toList:=by
   rw[List.drop_zero];exact List.take_of_length_le (by simp)
  rw[k];rw[V9 (by simp)];have j:q.IsList t items:=(c.push _).extBut g.extBut h;refine V0 (Wq (wpAny_pyNext_list_end hh n j (by simp) λp i=>?_));simp only[Option.isSome_none,cT,if_false];refine V7 (m p λb o d e=>i b o d (g.extBut b o d (V8.get?_push_of_some _ e)))
noncomputable def Bx(K:aK)(n:Nat)(t:qq):TG:=λv b H Q=>∃a xs,v=.ref a/\(dw K H a xs\/fv K H a xs)/\xs.length=n/\t xs b H Q
theorem K0{d:Uu}{k:Nat}{t:qq}{n:Nat}{pos:Pos}(p:X.calm=true)(h:yj X d t)
 (m:(Wu d X.env).length=n:=by rfl)(w:(Wu d X.env).findIdx? (·.1)=none:=by rfl):PG X (.Tuple d k pos) (Bx X.K n t):=by
 intro j s g H v u Q I r f;obtain⟨a,xs,q,c,hl,f⟩:=f;rcases c with c|c
 .subst q;cases r;obtain⟨i,l,z,D⟩:=I.list c;rw[assign_Tuple];refine V0 (Xa ?_);unfold unpack;have x:(Wu d X.env).length=i.toArray.size:=by simp[m,<-hl,l.length]
  rw[x,w];refine V0 (Wq (rP (I.ok.hd p) z.isList λB y=>?_));have C:Inv X j g H {s with heap:=B}:=I.kept (t':=s.toks) λb o e=>y b o (bQ (V8.lt_size e)) e;exact h j _ g H xs _ Q C (by simpa using l) f
 .exact Lv p h m w j s g H v u Q I r ⟨a,xs,q,c,hl,f⟩
end
end TL
namespace TL
open PySem L2
noncomputable def nY(b a:tl):tl:=(b.zip a).map λp=>.tup [p.1,p.2]
section
variable {K:aK}{b:L2.St}{H:Hp}{Q:VK}
theorem Tp{Z:V1->Prop}{k:Hp}{g:bo}{i:Hp}{s:aB}{C:aq}{b:L2.St}{t:T}{j:tl}{a:V1}(z:Rel K i Z g s C b k)(r:RT K (mask k Z g) g t (.ref a))(o:dR C t=some j)
 {H₀':Hp}{p:V1->Prop}{h:bo}{w:aB}{q:aq}{x:L2.St}{H:Hp}(e:Rel K H₀' p h w q x H)(sm:aG (mask k Z g) (mask H p h))(ix:∀(c:Nat)(a:V1),g[c]?=some a->h[c]?=some a)(f:stays t j q\/aG k H):
  ∃d,dw K H a d/\ax K (mask H p h) h j d:=by
 rcases f with f|f
 .have u:=r.mono sm ix;have v:dR q t=some j:=by
   cases t with
   |cell c=>exact f
   |lst A=>exact o
   |_=>cases o
  obtain⟨y,d,n,m,l⟩:=e.li u v;cases n;exact⟨d,m,l⟩
 .obtain⟨y,d,n,m,l⟩:=z.li r o;cases n;exact⟨d,f.seq m,l.mono sm ix⟩
end
def Eh(C:aq):Ug->Option Ug
 |none=>some none
 |some t=>(dr 3 C t).map some
def ei(C:aq):aB->Option aB
 | []=>some []
 |o::a=>(Eh C o).bind λb=>(ei C a).map (b:: ·)
section
variable {K:aK}{a:St}{H:Hp}{D:Ends}{F G:FS}{Q:VK}
end
end TL
namespace TL
open PySem PySem.Spec PyProof.Rows L2
section
variable {P:Wd}{w:Wf}{H d:Hp}{h c:V8}{a:V1}{o:HO}
theorem lZ(x:iZ P w H h a o):∃ob,h.get? a=some ob:=by
 cases o with
 |lst xs=>obtain⟨_,_,_,_,e⟩:=x;exact⟨_,e⟩
 |tup xs=>obtain⟨_,_,_,ob,e,_⟩:=x;exact⟨_,e⟩
 |dK b=>obtain⟨_,_,_,_,o,_,_,e,_⟩:=x;exact⟨_,e⟩
 |dT b=>obtain⟨_,_,_,_,o,_,_,e,_⟩:=x;exact⟨_,e⟩
 |set S n=>obtain⟨o,_,_,_,e,_⟩:=x;exact⟨_,e⟩
 |ins C dx fs=>obtain⟨_,_,_,e,_⟩:=x;exact⟨_,e⟩
 |own y=>obtain⟨_,e⟩:=x;exact⟨_,e⟩
 |xd fs=>obtain⟨_,⟨_,_,_,e,_⟩,_⟩:=x;exact⟨_,e⟩
 |As lo i=>obtain⟨_,_,_,e⟩:=x;exact⟨_,e⟩
 |ei ob u=>obtain⟨e,_⟩:=x;exact⟨_,e⟩
 |qu ps=>exact⟨_,(show h.get? a=some _ from x)⟩
 |met f y=>exact⟨_,(show h.get? a=some _ from x)⟩
 |ext g=>obtain⟨_,⟨_,e⟩,_⟩:=x;exact⟨_,e⟩
theorem zA(x:er P w H h)(k:∀b u ob,H b=some u->h.get? b=some ob->c.get? b=some ob):er P w H c:=λa o e=>
 (x a o e).cp (λb u hb q=>by
  rcases hb with rfl|hb
  .exact k _ _ _ e q
  .exact k _ _ _ hb q) (λ_ q=>q) λ_ _ q=>q
end
def Named(K:aK)(c:String)(C:V1):Prop:=aW K V5 (Str.ofString c)=some (some (.ref C))
structure da(P:Wd)(w:Wf)(K:aK)(l:List Env)(H:Hp)(s:V4)(c:String)(H':Hp)(C:V1)(B:V8)(s':V4):Prop where
 nm:Named K c C
 os:s'.os=s.os
 bare:Xe s'.gens
 un:Un (aA l) [] H H' s.heap s'.heap
 aF:er P w H' s'.heap
 ji:∀b o,s.heap.get? b=some o->H b=none->b∉aA l->B.get? b=some o
 lz:∀b u o,H' b=some u->s'.heap.get? b=some o->B.get? b=some o
 gw:∀b o,s.heap.get? b=some o->b∉aA l->∃o',B.get? b=some o'
def ls(B:V8)(l:List Env)(a C:V1)(s':V4):Prop:=∃t,V8.FlyingW B l a (.ref C) (.ref t) s'.heap
def Made(B:V8)(l:List Env)(a C:V1)(s':V4):Prop:=∃h vs,B.StaysIn h/\h.FunFrames B l/\V8.MadeExcOf h s'.heap a (.ref C) vs
def hE(B:V8)(l:List Env)(a C:V1)(s':V4):Prop:=∃t b,B.StaysIn s'.heap/\B.get? a=none/\s'.heap.FunFrames B l/\s'.heap.TracedAtW B a (.ref C) (.ref t) b
theorem rH{M:Model}{A:We}{E:Ut}{s:V4}{B:V8}{env:Env}{c:List Env}{L a C:V1}{Q:Unit->V4->Prop}
 (S:A.frames=some (env::c))(w:env.frame=some L)(h:hE B (env::c) a C s)
 (y:∀h' t,V8.HeldW B (env::c) a (.ref C) (.ref t) L h'->s.heap.UpToSlots h'->Q () {s with heap:=h'}):Wa M A (WZ (.ref a) env) Q E s:=by
 obtain⟨t,F,st,k,G,r,vs,T,J,q,l,⟨H,D⟩,m,p,v,u,f,g,n⟩:=h;unfold WZ;simp only[w];refine V0 (Wl l m p ?_);rw[V6 (show(V3.ref T !=V3.none)=true from rfl)];refine V0 (Wl f g n ?_);by_cases i:(F==WY L)=true
 .rw[V6 i];have I:F=WY L:=eq_of_beq i;exact V7 (y s.heap t ⟨st,k,G,r,vs,T,J,q,l,⟨H,D⟩,m,p,v,u,f,g,by rw[<-I];exact n⟩ λb o e _=>⟨o.slots,e⟩)
 .rw[V9 i];have j:3<q.size:=by
   have:=gQ n;exact this.1
  refine V0 (WU f g j ?_);have kp:∀b o,b≠T->s.heap.get? b=some o->(s.heap.update T (Obj.mapFields λx=>x.setIfInBounds 3 V3.none)).get? b=some o:=λb o R e=>by
   exact V8.get?_update_of_ne _ (Ne.symm R) e
  have nT:∀b o,s.heap.get? b=some o->(∀vs,o.data≠Data.fields vs)->b≠T:=λb o e d z=>by
   subst z;rw[f]at e;cases e;exact d _ g
  refine wpAny_entryW (a0:=.ref t) S (G.of_keeps λb o e d=>⟨o,kp b o (nT b o e d) e,rfl⟩) w (kp a r u.symm l) (λb o e=>kp b o (λz=>by subst z;rw[v]at e;cases e) (st b o e)) k m
   (by have:=gQ p;exact this.1) D λh' ⟨P,O,N,K⟩=>y h' t ⟨P,k,O,by rw[<-H];exact N⟩ λb o e d=>K b o (kp b o (nT b o e d) e) d
noncomputable def br(X:Cx):XW:=λc b f=>∀d H s a C B s',Inv X d b H s->da X.prog X.w X.K X.stack H s c f C B s'->(Made B X.stack a C s'\/ls B X.stack a C s'\/hE B X.stack a C s')->X.xe (.ref a) s'
noncomputable def lu(P:Wd)(w:Wf)(K:aK):p5:=λl H s E e s'=>∃c a C B b,e=.ref a/\da P w K l H s c b C B s'/\ls B l a C s'/\E (.type c) none b
section
variable {X:Cx}{f:List (V1×Obj)}{g:L2.St}{H d:Hp}{s s':V4}{c:String}{C a:V1}{B:V8}
theorem da.out{h':V8}{t:V1}(I:Inv X f g H s)(hex:X.ex=[])(A:da X.prog X.w X.K X.stack H s c d C B s')(F:V8.FlyingW B X.outer a (.ref C) (.ref t) h')(sm:s'.heap.UpToSlots h'):
 da X.prog X.w X.K X.outer X.ay X.dq c d C B {s' with heap:=h'}:=by
 have k:∀b:V1,b∉X.ex:=λb=>by rw[hex];simp
 have p:∀b o,X.dq.heap.get? b=some o->b∉X.fs->b∉aA X.stack:=λb o e n z=>by
  rcases fU (I.ik b z)with q|q
  .have:=bC (V8.lt_size e) I.ok.above;rw[q]at this;exact cE _ this
  .exact n q
 have cp:∀b u o,d b=some u->s'.heap.get? b=some o->h'.get? b=some o:=λb u o e q=>F.1 b o (A.lz b u o e q);have i:∀b o,X.dq.heap.get? b=some o->X.ay b=none->b∉X.fs->B.get? b=some o:=λb o e n l=>
  A.ji b o (I.base.keep b o e n l (k b)) (I.base.free b o e n (k b)) (p b o e l)
 have h:∀b o,X.dq.heap.get? b=some o->b∉X.fs->∃r,B.get? b=some r:=λb o e l=>by
  obtain⟨J,v⟩:=I.base.there b o e (k b);exact A.gw b J v (p b o e l)
 have G:∀b∈X.fs,∃o,X.dq.heap.get? b=some o/\∀vs,o.data≠ .fields vs:=λb j=>(I.ok.fk.mem j).2;have slot:∀b o,X.dq.heap.get? b=some o->X.ay b=none->b∈X.fs->∃sl,h'.get? b=some {o with slots:=sl}:=λb o e n j=>by
  obtain⟨y,v⟩:=I.base.slot b o e n j (k b);obtain⟨O,w⟩:=A.un.any v (I.base.free b o e n (k b)) (by simp);obtain⟨r,m,K⟩:=G b j;rw[e]at m;cases m;obtain⟨L,N⟩:=sm b _ w K;exact⟨L,N⟩
 refine⟨A.nm,A.os.trans I.os,A.bare,⟨λb o e n l _=>F.1 b o (i b o e n l),λb o e n j _=>slot b o e n j,λb o e n _=>A.un.free b _ (I.base.any e n (k b)).choose_spec (I.base.free b o e n (k b)) (by simp),λb o e _=>?_,λb xs e=>A.un.eL b xs (I.base.eL b xs e),λb o u e=>A.un.eh b o u (I.base.eh b o u e),λb ps e=>?_⟩,zA A.aF cp,i,λb u o e q=>?_,h⟩
 .by_cases j:b∈X.fs
  .obtain⟨sl,m⟩:=slot b o e (I.ok.qm b j) j;exact⟨_,m⟩
  .obtain⟨r,m⟩:=h b o e j;exact⟨r,F.1 b r m⟩
 .obtain⟨M,v⟩:=I.base.eN b ps e;obtain⟨m2,w⟩:=A.un.eN b _ v;exact⟨M++m2,by rw[w,U4]⟩
 .obtain⟨ob,x⟩:=lZ (A.aF b u e);have:=cp b u ob e x;rw[show({s' with heap:=h'}:V4).heap.get? b=h'.get? b from rfl]at q;have D:=q.symm.trans this;cases D;exact A.lz b u _ e x
end
section
variable {P:Wd}{w:Wf}{K:aK}{j:Str->Us}{l:V8}{N:Ur}{b:Str}{d:WD}{f:V1}{g:V3}{A:We}{i:List Env}{s:V4}{H:Hp}{E:XK}
theorem Ie{c:String}{r:L2.St}{k:Hp}(h:E (.type c) none k):br (vL (lu P w K) P w K j l N b d f g A i s H E) c r k:=by
 intro M O D a C B s' I p x;have o:=I.ok.frames;rcases x with⟨J,vs,st,y,u⟩| ⟨t,F⟩|L
 .refine wpAny_leaves_madeW (A:=A.deeper (W0 b d s.heap.objs.size f g)) o rfl st y u λh' t F _ _ sm=>?_;exact⟨c,a,C,B,k,rfl,p.out I rfl F sm,⟨t,F⟩,h⟩
 .refine wpAny_leaves_onW (A:=A.deeper (W0 b d s.heap.objs.size f g)) o rfl F λh' m sm=>?_;exact⟨c,a,C,B,k,rfl,p.out I rfl m sm,⟨t,m⟩,h⟩
 .show Wa _ _ (leaving _ _) _ _ _;unfold leaving;refine V0 (rH (A:=A.deeper (W0 b d s.heap.objs.size f g)) o rfl L λG t e z=>wpAny_landsW e λq n v=>?_);have m:V8.FlyingW B i a (.ref C) (.ref t) q:=⟨n.1,n.2.1,n.2.2.1.2.2,n.2.2.2⟩;exact⟨c,a,C,B,k,rfl,p.out (s':=s') (h':=q) I rfl m (z.trans v),⟨t,m⟩,h⟩
end
abbrev QE(X:Cx)(e:Wg)(f:FE):Prop:=PE X e (aD X.K f)
abbrev QN(X:Cx)(e:Wg)(f:FN):Prop:=PE X e (jh X.K f)
abbrev QA(X:Cx)(e:Uu)(f:FN):Prop:=PA X e (gn X.K f)
abbrev QT(X:Cx)(e:Wg)(f:FB):Prop:=PT X e (hL X.K f)
abbrev QW(X:Cx)(e:Wg)(f:FB):Prop:=PW X e (hL X.K f)
abbrev QO(X:Cx)(e:Option Wg)(f:FO):Prop:=PO X e (tj X.K f)
abbrev QS(X:Cx)(e:WO)(f:FS):Prop:=PS X e (ey X.K (br X) f)
abbrev md(X:Cx)(e:List WO)(f:FS):Prop:=jf X e (ey X.K (br X) f)
abbrev QG(X:Cx)(e:Wg)(g:FG):Prop:=PG X e (ke X.K g)
abbrev p3(X:Cx)(e:Uu)(f:FB):Prop:=qs X e (hL X.K f)
theorem qs.imp{X:Cx}{e:Uu}{t b:TT}(h:qs X e t)(c:∀a H Q,b a H Q->t a H Q):qs X e b:=λd s a H Q I q=>h d s a H Q I (c a H Q q)
theorem mulOk_of{i j:Int}(h:mE i j=true):IntMulOk i j:=by
 unfold mE at h;unfold IntMulOk;intro z;rw[z]at h;cases h
section
variable {X:Cx}{a b c e:Wg}{d:Uu}{fa fb fc f:FE}{l fn:FN}{ga gb:FB}{pos p m:Pos}{j:Nat}
variable{o:CmpOp}{r:R2}
theorem eZ(i:Nat){x:Str}(k:X.N[i]?=some x:=by rfl)(g:th X.env.scope x:=by first|exact Uv rfl|exact dZ (Uv rfl)|exact dZ (dZ rfl))(h:(x==("__debug__":Str))=false:=by decide)
 (n:(x==("__classdict__":Str))=false:=by decide):QE X (.Name x pos) (mO i):=(Fu k g h n).imp λ_ _ _=>KR
theorem f9{i:Int}{k}:QE X (.Constant (.int i) k pos) (fC (.int i)):=Fy.imp λ_ _ _=>w4 λ_ _=>.int
theorem su{i:Bool}{k}:QE X (.Constant (.bool i) k pos) (fC (.bl i)):=Kv.imp λ_ _ _=>w4 λ_ _=>.bl
theorem Kr{k}:QE X (.Constant .none k pos) (fC .bg):=LP.imp λ_ _ _=>w4 λ_ _=>.bg
theorem fE{i:Str}{k}:QE X (.Constant (.str i) k pos) (fC (.str i)):=Lc.imp λ_ _ _=>w4 λ_ _=>.str
theorem qE(h:QE X a fa)(g:QE X b fb):QE X (.BinOp a .Add b pos) (fP fa fb (gI λi j=>.int (i+j))):=(v7 LD h g).imp λ_ _ _=>y7 λ_ _ _ _ _=>D3 λ_ _ _ _=>.int
theorem MU:gm X (Xm .Mult) (rI IntMulOk λi j=>.int (i*j)):=FZ λ_ _ _ _ _ _ _ g q=>mul_int q g
theorem t9(k:QE X a fa)(g:QE X b fb):QE X (.BinOp a .Mult b pos) (fP fa fb (u1 mE λi j=>.int (i*j))):=(v7 MU k g).imp λ_ _ _=>y7 λ_ _ _ _ _ h=>by
 obtain⟨i,j,t,s,n,q⟩:=Gs (g:=λi j=>.int (i*j)) (λ_ _ _ _=>.int) h;exact⟨i,j,t,s,mulOk_of n,q⟩
theorem pC(k:QE X a fa)(g:QE X b fb):QE X (.BinOp a .Mod b pos) (fP fa fb (u1 (λ_ j=>decide (0<j)) λi j=>.int (i%j))):=(v7 Lo k g).imp λ_ _ _=>y7 λ_ _ _ _ _ h=>by
 obtain⟨i,j,t,s,n,q⟩:=Gs (g:=λi j=>.int (i%j)) (λ_ _ _ _=>.int) h;exact⟨i,j,t,s,of_decide_eq_true n,q⟩
theorem Kl(g:QE X a fa):QE X (.UnaryOp .USub a pos) (ry fa BY):=(J4 Mg g).imp λ_ _ _ h=>h9 (EF h) λ_ _ q=>KS q
theorem E9{g:T->T->aq->Option (T×aq)}(n:gm X (Wt o) r)(s:∀k H Q x y,(∃i h,fh X.K k [i,h] [x,y] (g i h) H Q)->r x y H Q)(u:QE X a fa)(t:QE X b fb)(q:Wo o b=false):
 QE X (.Compare a [o] [b] pos) (fP fa fb g):=(NL n u t q).imp λ_ _ _=>y7 s
theorem B7{g:T->T->aq->Option (T×aq)}(n:gm X (Wt o) r)(s:∀k H Q x y,(∃i h,fh X.K k [i,h] [x,y] (g i h) H Q)->r x y H Q)(u:QE X a fa)(t:QE X b fb)(q:Wo o b=false):
 QT X (.Compare a [o] [b] pos) (i4 (fP fa fb g)):=(Oa n u t q).imp λ_ _ _=>EW λ_ _ _=>y7 s
abbrev Jq:=gI λi j=>.bl (decide (i<j))
abbrev Jr:=gI λi j=>.bl (decide (j<=i))
theorem EM(h:QE X a fa)(g:QE X b fb):QT X (.Compare a [.Lt] [b] pos) (i4 (fP fa fb Jq)):=B7 GB (λ_ _ _ _ _=>D3 λ_ _ _ _=>.bl) h g (iv _)
theorem JC(h:QE X a fa)(g:QE X b fb):QT X (.Compare a [.GtE] [b] pos) (i4 (fP fa fb Jr)):=B7 J1 (λ_ _ _ _ _=>D3 λ_ _ _ _=>.bl) h g (iv _)
theorem CI(g:X.A.units+20<WJ)(i:QE X a fa)(h:QE X b fb):QE X (.Compare a [.Eq] [b] pos) (fP fa fb (jj false)):=E9 (MJ g) (λ_ _ _ _ _=>Gn) i h (iv _)
theorem rV(g:X.A.units+20<WJ)(i:QE X a fa)(h:QE X b fb):QT X (.Compare a [.NotEq] [b] pos) (i4 (fP fa fb (jj true))):=B7 (Lp g) (λ_ _ _ _ _=>Gn) i h (iv _)
theorem JB(g:X.A.units+20<WJ)(k:QE X a fa)(i:QE X b fb)(h:Wo .In b=false:=by rfl):QE X (.Compare a [.In] [b] pos) (fP fa fb (jy false)):=E9 (G8 g) (λ_ _ _ _ _=>EA) k i h
theorem JH(g:X.A.units+20<WJ)(k:QE X a fa)(i:QE X b fb)(h:Wo .In b=false:=by rfl):QT X (.Compare a [.In] [b] pos) (i4 (fP fa fb (jy false))):=B7 (G8 g) (λ_ _ _ _ _=>EA) k i h
theorem CO(g:X.A.units+20<WJ)(k:QE X a fa)(i:QE X b fb)(h:Wo .NotIn b=false:=by rfl):QT X (.Compare a [.NotIn] [b] pos) (i4 (fP fa fb (jy true))):=B7 (RY g) (λ_ _ _ _ _=>EA) k i h
theorem vP(n:QE X a fa)(k:QE X b fb)(h:QE X c fc)(g:lastMarks [.LtE,.Lt] [b,c]=false:=by with_unfolding_all rfl):QE X (.Compare a [.LtE,.Lt] [b,c] pos) (oO fa fb fc (λi j=>decide (i<=j)) (λi j=>decide (i<j))):=
 (IR EV GB n k h g).imp λ_ _ _=>HL
theorem vH(n:QE X a fa)(k:QE X b fb)(h:QE X c fc)(g:lastMarks [.LtE,.LtE] [b,c]=false:=by with_unfolding_all rfl):QE X (.Compare a [.LtE,.LtE] [b,c] pos) (oO fa fb fc (λi j=>decide (i<=j)) (λi j=>decide (i<=j))):=
 (IR EV EV n k h g).imp λ_ _ _=>HL
theorem GG{o}(g:QE X a fa):QE X (.BoolOp o [a] pos) fa:=Mn g
theorem Gx(h:QE X a fa)(g:QE X (.BoolOp .And (b::d) pos) fb):QE X (.BoolOp .And (a::b::d) pos) (sD fa fb):=(Nl h g).imp λ_ _ _=>Nu
theorem Fq(g:QT X a ga):QW X (.BoolOp .And [a] pos) ga:=Oj g
theorem wO(g:QT X a ga):QW X (.BoolOp .Or [a] pos) ga:=Lj g
theorem EO(h:QT X a ga)(g:QW X (.BoolOp .And (b::d) pos) gb):QW X (.BoolOp .And (a::b::d) pos) (sA ga gb):=(MI h g).imp λ_ _ _=>Ly
theorem ye(h:QT X a ga)(g:QW X (.BoolOp .Or (b::d) pos) gb):QW X (.BoolOp .Or (a::b::d) pos) (rO ga gb):=(KW h g).imp λ_ _ _=>JU
theorem qa(h:QW X a ga):QT X a ga:=h.pt
theorem CN(g:QT X a ga):QT X (.UnaryOp .Not a pos) (qH ga):=(Kg g).imp λ_ _ _=>Mr
theorem v9(i:QE X a fa)(h:∀g,isTrue a X.env g=(do let v<-g;standAt a.pos;W7 [v] (truthy v)):=by intro _;rfl):QT X a (uM fa):=(RO i h).imp λ_ _ _=>Kk
theorem mC(i:QE X a fa)(h:QE X b fb)(g:y0 b:=by exact λ_ _=>rfl):QE X (.Subscript a b pos) (fP fa fb xf):=(ER LH i h g).imp λ_ _ _=>y7 λ_ _ _ _ _=>Jz
theorem jV:QO X none iB:=Io.imp λ_ _ _=>RJ
theorem lO(g:QE X a fa):QO X (some a) (i8 fa):=(HE g).imp λ_ _ _=>Ln
theorem mS{lo g:Option Wg}{h i:FO}(k:QE X a fa)(hl:QO X lo h)(hh:QO X g i):QN X (.Subscript a (.Slice lo g none m) pos) (hO fa h i):=(uF NJ k hl hh).imp λ_ _ _=>JD
theorem fD:QA X [] fR:=oF.imp λ_ _ _=>Gv
theorem eY(i:QE X e f)(h:QA X d l)(g:V2 (e::d) X.env=(false,Wh e X.env)::V2 d X.env:=by rfl):QA X (e::d) (e7 f l):=(jZ i h g).imp λ_ _ _=>L1
theorem hU(h:QA X d l):QN X (.List d pos) (hZ l):=(Mh h).imp λ_ _ _=>MG jC
theorem kQ(h:QE X a fa)(g:QE X b fb):QN X (.BinOp a .Add b pos) (qN fa fb ya):=(v7 NW h g).imp λ_ _ _=>Km λ_ _ _ _ _=>Kz
theorem fV(h:QN X a fn):QE X a (fS fn):=PE.imp h λ_ _ _=>Hq
theorem u9(h:QN X a fn):QE X a (kY fn):=PE.imp h λ_ _ _=>G3
section
variable {x:Str}{id:String}
theorem CJ{r:Uh->Hp->VK->Prop}{g:tl->aq->Option (T×aq)}(v:mU X (.builtin id) r)(n:∀i H Q xs,(∃h,fh X.K i h xs (g h) H Q)->r xs H Q)(k:WN x=some (.builtin id))(s:X.mg x=none)(t:Gl X x)(w:QA X (e::d) l)(q:x≠"__name__":=by decide)(y:(x==("__debug__":Str))=false:=by decide)
 (u:V2 (e::d) X.env=(false,Wh e X.env)::V2 d X.env:=by rfl)(z:(Wj pos (V2 d X.env)).any (·.1)=false:=by rfl):QE X (.Call (.Name x p) (e::d) [] pos) (mR l g):=
 (p8 v t s k w q y u z).imp λ_ _ _=>EE n
end
theorem B1(g:X.mg "len"=none)(k:QA X (e::d) l)(h:Gl X "len":=by rfl)(i:V2 (e::d) X.env=(false,Wh e X.env)::V2 d X.env:=by rfl)(n:(Wj pos (V2 d X.env)).any (·.1)=false:=by rfl):
 QE X (.Call (.Name "len" p) (e::d) [] pos) (mR l xr):=CJ pZ (λ_ _ _ _=>Kj) PySem.boot_len g h k (by decide) (by decide) i n
theorem GH(g:X.mg "all"=none)(k:X.calm=true)(n:QA X (e::d) l)(h:Gl X "all":=by rfl)(i:V2 (e::d) X.env=(false,Wh e X.env)::V2 d X.env:=by rfl)(q:(Wj pos (V2 d X.env)).any (·.1)=false:=by rfl):
 QE X (.Call (.Name "all" p) (e::d) [] pos) (EK l):=CJ (RU k) (λ_ _ _ _=>JP) boot_all g h n (by decide) (by decide) i q
theorem Mb(g:X.mg "int"=none)(k:QA X (e::d) l)(h:Gl X "int":=by rfl)(i:V2 (e::d) X.env=(false,Wh e X.env)::V2 d X.env:=by rfl)(n:(Wj pos (V2 d X.env)).any (·.1)=false:=by rfl):
 QE X (.Call (.Name "int" p) (e::d) [] pos) (r3 l):=(q5 Sf h g boot_int k (by decide) (by decide) i n).imp λ_ _ _=>EE λ_ _ _ _=>Ke
structure oA(P:Wd)(w:Wf)(K:aK)(mg:Str->Us)(base:V8)(k:Nat)(x:Str)(n:Nat)(F:tl->Ug):Prop where
 ex:∃f fd ps,lB P w K mg base n2 k f fd ps (spT K n F)/\mg x=some (.ref f)/\bL K (.ref f)=true/\Binds K fd ps []
theorem iL{k n:Nat}{x:Str}{F:tl->Ug}(D:oA X.prog X.w X.K X.mg X.base k x n F)(g:aJ k X.A)(v:QA X (e::d) l)(s:Gl X x:=by rfl)(w:(x==("__debug__":Str))=false:=by decide)
 (t:V2 (e::d) X.env=(false,Wh e X.env)::V2 d X.env:=by rfl)(y:(Wj pos (V2 d X.env)).any (·.1)=false:=by rfl):QE X (.Call (.Name x p) (e::d) [] pos) (iN n F l):=by
 obtain⟨f,z,ps,G,i,q,u⟩:=D.ex;exact(HB (E:=λ_ _ _=>False) G g s i q u .nil (λ_ _ _ _ _ _ _ h=>h.elim) v w t y).imp λ_ _ _=>GO
theorem dh{k:Nat}{A:We}(g:aJ k A):A.units+20<WJ:=by have:=g.un;lia
theorem nZ{x:Str}(n:X.N.Nodup)(i:Nat)(h:X.N[i]?=some x:=by rfl)(g:Loc X.env.scope x:=by first|exact Uv rfl|exact dZ rfl)(k:X.fn x=true\/X.env.scope.names.lookup x=some .local:=by first|exact .inl rfl|exact .inr rfl):QG X (.Name x pos) (gN i):=
 (HW n h g k).imp λ_ _ _ _=>yS
structure NG(X:Cx)(ts:Uu)(is:Uo):Prop where
 h:yj X ts (is.foldr (λi g=>CY (qA i) g) Cz)
theorem uW:NG X [] []:=⟨Pf⟩
theorem j0{x:Str}{g:Uu}{is:Uo}(t:X.N.Nodup)(i:Nat)(h:NG X g is)(q:X.N[i]?=some x:=by rfl)(k:Loc X.env.scope x:=by first|exact Uv rfl|exact dZ rfl)(s:X.fn x=true\/X.env.scope.names.lookup x=some .local:=by first|exact .inl rfl|exact .inr rfl)
 (n:(Wu (.Name x pos::g) X.env).map (·.2)=W6 (.Name x pos) X.env::(Wu g X.env).map (·.2):=by rfl):NG X (.Name x pos::g) (i::is):=⟨SO (HW t q k s) h.h n⟩
theorem Kn{K:aK}{is:Uo}{v:V}{n:L2.St}{H:Hp}{Q:L2.St->Hp->Prop}(h:ke K (gU is) v n H Q):Bx K is.length (is.foldr (λi g=>CY (qA i) g) Cz) v n H Q:=by
 obtain⟨s,Z,z,y,C,t,B,R,r,e,k⟩:=h;unfold gU at e;obtain⟨A,x,e⟩:=eW e;split at e
 .rename_i hl;cases e;obtain⟨a,vs,w,u,q⟩:=R.sq r x;exact⟨a,vs,w,u,by rw[q.length];exact hl,Rel.cj R q hl k⟩
 .cases e
theorem uY{g:Uu}{is:Uo}{k:Nat}(n:X.calm=true)(h:NG X g is)(i:(Wu g X.env).length=is.length:=by rfl)(q:(Wu g X.env).findIdx? (·.1)=none:=by rfl):QG X (.Tuple g k pos) (gU is):=
 (K0 n h.h i q).imp λ_ _ _ _=>Kn
theorem je(h l:Ur)(is:Uo){g:WD}{k:List (Str×V1)}(w:oG X.env.cells g.names []=some k:=by with_unfolding_all rfl)(v:∀y∈g.names,y.2≠ .cell:=by decide+kernel)(u:g.kind=.function:=by rfl)
 (t:∀y∈g.names,y.2=.local->g.names.lookup y.1=some .local:=by decide+kernel)(s:is.map (λi=>X.N[i]?)=l.map some:=by rfl)
 (q:l.all (λx=>X.env.kindOf x==some .cell||X.env.kindOf x==some .free)=true:=by rfl)(n:l.all (λx=>(Xn g X.env).names.lookup x==some .cell||(Xn g X.env).names.lookup x==some .free)=true:=by rfl):jT X h l is g k:=
 ⟨w,v,u,t,s,q,n⟩
theorem jI:p3 X [] gY:=NK.imp λq H Q h=>by
 obtain⟨g,Z,i,n,C,b,s,R,e,k⟩:=h;cases e;exact k H i R .refl
theorem xW(h:QT X c ga):p3 X [c] ga:=OP h
section
variable {n aA:Ur}{is:Uo}{s:WD}{u:List (Str×V1)}{v iter w:Wg}{y:Uu}{z A:FE}{g:FG}{B:FB}{F G:Pos}{x:Str}
variable{W:XW}{J:TE}{i:Nat}{I:L2.St}
theorem oC(O:X.calm=true)(k:jT X n aA is s u)(L:QE X iter z)(K:i1 n.length g)(M:∀C h t q,QG (fZ X (n++aA) s u C h t q) v g)(D:∀C h t q,p3 (fZ X (n++aA) s u C h t q) y B)
 (N:∀C h t q,QE (fZ X (n++aA) s u C h t q) w A)(H:∀x,Wi iter X.env x=pure x:=by intro _;rfl):QN X (.ListComp w [⟨v,iter,y,0⟩] s pos) (kK z n.length is g B A):=
 (pV O k (sX L) M D N H).imp λ_ _ _=>Fz K
theorem IH(N:X.mg "range"=none)(R:X.calm=true)(k:jT X n aA is s u)(O:QE X iter z)(M:i1 n.length g)(P:∀C h t q,QG (fZ X (n++aA) s u C h t q) v g)(K:∀C h t q,p3 (fZ X (n++aA) s u C h t q) y B)
 (Q:∀C h t q,QE (fZ X (n++aA) s u C h t q) w A)(H:Gl X "range":=by rfl)(L:∀x,Wi (.Call (.Name "range" p) [iter] [] m) X.env x=pure x:=by intro _;rfl)(D:V2 [iter] X.env=[(false,Wh iter X.env)]:=by rfl):
 QN X (.ListComp w [⟨v,.Call (.Name "range" p) [iter] [] m,y,0⟩] s pos) (lH z n.length is g B A):=
 (pV R k (rK H N (eY O fD (by rw[D];rfl)) D) P K Q L).imp λ_ _ _=>II M
theorem El{K:aK}{fn:FN}{D:Ends}{H:Hp}(k:∀I H Q,jh K fn I H Q->J I H Q)(h:ey K W (gZ (fS fn) (gN i)) D I H):vz J (qA i) D I H:=
 k _ _ _ (Hq (h9 (CT h) λ_ _ q=>yS q))
theorem BM{K:aK}{fn:FN}{D:Ends}{H:Hp}(k:∀I H Q,jh K fn I H Q->J I H Q)(h:ey K W (gZ (kY fn) (gN i)) D I H):vz J (qA i) D I H:=
 k _ _ _ (G3 (h9 (CT h) λ_ _ q=>yS q))
theorem Ot(R:X.N.Nodup)(i:Nat)(Q:X.calm=true)(k:jT X n aA is s u)(N:QE X iter z)(M:i1 n.length g)(O:∀C h t q,QG (fZ X (n++aA) s u C h t q) v g)(K:∀C h t q,p3 (fZ X (n++aA) s u C h t q) y B)
 (P:∀C h t q,QE (fZ X (n++aA) s u C h t q) w A)(H:X.N[i]?=some x:=by rfl)(hl:X.env.scope.names.lookup x=some .local:=by rfl)
 (D:Wy (.ListComp w [⟨v,iter,y,0⟩] s pos) (some (.Name x G)) F.line X.env=pure true:=by rfl)(L:∀x,Wi iter X.env x=pure x:=by intro _;rfl):
 QS X (.Assign [.Name x G] (.ListComp w [⟨v,iter,y,0⟩] s pos) F) (gZ (fS (kK z n.length is g B A)) (gN i)):=
 (pG R H hl Q k (sX N) O K P D L).imp λ_ _ _=>El λ_ _ _=>Fz M
theorem MT(R:X.N.Nodup)(i:Nat)(Q:X.calm=true)(k:jT X n aA is s u)(N:QE X iter z)(M:i1 n.length g)(O:∀C h t q,QG (fZ X (n++aA) s u C h t q) v g)(K:∀C h t q,p3 (fZ X (n++aA) s u C h t q) y B)
 (P:∀C h t q,QE (fZ X (n++aA) s u C h t q) w A)(H:X.N[i]?=some x:=by rfl)(hl:X.env.scope.names.lookup x=some .local:=by rfl)
 (D:Wy (.ListComp w [⟨v,iter,y,0⟩] s pos) (some (.Name x G)) F.line X.env=pure true:=by rfl)(L:∀x,Wi iter X.env x=pure x:=by intro _;rfl):
 QS X (.Assign [.Name x G] (.ListComp w [⟨v,iter,y,0⟩] s pos) F) (gZ (kY (kK z n.length is g B A)) (gN i)):=
 (pG R H hl Q k (sX N) O K P D L).imp λ_ _ _=>BM λ_ _ _=>Fz M
theorem SG(Y:X.N.Nodup)(i:Nat)(P:X.mg "range"=none)(U:X.calm=true)(k:jT X n aA is s u)(Q:QE X iter z)(O:i1 n.length g)(R:∀C h t q,QG (fZ X (n++aA) s u C h t q) v g)(M:∀C h t q,p3 (fZ X (n++aA) s u C h t q) y B)
 (S:∀C h t q,QE (fZ X (n++aA) s u C h t q) w A)(K:Gl X "range":=by rfl)(L:X.N[i]?=some x:=by rfl)(hl:X.env.scope.names.lookup x=some .local:=by rfl)
 (H:Wy (.ListComp w [⟨v,.Call (.Name "range" p) [iter] [] m,y,0⟩] s pos) (some (.Name x G)) F.line X.env=pure true:=by rfl)(N:∀x,Wi (.Call (.Name "range" p) [iter] [] m) X.env x=pure x:=by intro _;rfl)(D:V2 [iter] X.env=[(false,Wh iter X.env)]:=by rfl):
 QS X (.Assign [.Name x G] (.ListComp w [⟨v,.Call (.Name "range" p) [iter] [] m,y,0⟩] s pos) F) (gZ (kY (lH z n.length is g B A)) (gN i)):=
 (pG Y L hl U k (rK K P (eY Q fD (by rw[D];rfl)) D) R M S H N).imp λ_ _ _=>BM λ_ _ _=>II O
end
section
variable {st:WO}{s w:List WO}{F G:FS}{u iter:Wg}{g:FG}
theorem iP:md X [] jM:=OB.imp λ_ _ _=>Mt
theorem fT(h:QS X st F):md X [st] F:=NB h
theorem fH(h:QS X st F)(i:md X s G):md X (st::s) (gG F G):=(Rw h i).imp λ_ _ _=>KU
theorem gM(h:QE X a fa):QS X (.Return (some a) pos) (iY fa):=(GX h).imp λ_ _ _=>J2
theorem yV(h:QE X a fa)(i:Wy a none pos.line X.env=pure false:=by rfl):QS X (.Expr a pos) (sL fa):=(tI h i).imp λ_ _ _=>Lw
theorem kZ(h:QT X c ga)(k:md X s F)(i:md X w G):QS X (.If c s w pos) (gj ga F G):=(Kq h k i).imp λ_ _ _=>JA
theorem gH{x:Str}{k:Pos}(z:X.N.Nodup)(i:Nat)(h:QE X a fa)(v:X.N[i]?=some x:=by rfl)(n:Loc X.env.scope x:=by first|exact Uv rfl|exact dZ rfl)(t:Wy a (some (.Name x k)) pos.line X.env=pure false:=by rfl)
 (y:X.fn x=true\/X.env.scope.names.lookup x=some .local:=by first|exact .inl rfl|exact .inr rfl):QS X (.Assign [.Name x k] a pos) (gZ fa (gN i)):=(Hn z v n h t y).imp λ_ _ _ h=>h9 (CT h) λ_ _ q=>yS q
theorem GZ(h:QE X a fa)(n:QG X u g)(k:swapsWithSole [u] a pos.line X.env=pure false:=by rfl)(i:swappedStores [u] a X.env=pure none:=by rfl)(q:(Wu [u] X.env).map (·.2)=[W6 u X.env]:=by rfl):QS X (.Assign [u] a pos) (gZ fa g):=
 (GQ h n k i q).imp λ_ _ _=>CT
theorem Hy(n:QE X a fa)(t:QE X b fb)(x:QE X c fc)(q:swapsWithSole [.Subscript b c p] a pos.line X.env=pure false:=by rfl)(k:swappedStores [.Subscript b c p] a X.env=pure none:=by rfl)
 (z:(Wu [.Subscript b c p] X.env).map (·.2)=[W6 (.Subscript b c p) X.env]:=by rfl)
 (y:∀v,W6 (.Subscript b c p) X.env v=(do
  let h<-W7 [v] (Wh b X.env)
  let i<-W7 [v,h] (Wh c X.env)
  standAt p
  W7 [v,h,i] (setItem h i v)
  release [v,h,i] []):=by intro _;rfl):QS X (.Assign [.Subscript b c p] a pos) (uS fa fb fc):=
 (GQ n (LO t x Qp y) q k z).imp λ_ _ _=>MB
theorem Hl(n:X.calm=true)(i:QE X iter fa)(k:QG X u g)(q:md X s F)(hp:WB (Wb X.prog X.w) X.A X.env X.xe:=by first|exact WB.never|exact WB.leaving|exact WB.looking)(h:∀x,Wi iter X.env x=pure x:=by intro _;rfl):QS X (.For u iter s [] pos) (ta fa g F):=
 (Hg hp n (sX i) k q h).imp λ_ _ _=>JZ
theorem qR(n:X.mg "range"=none)(v:X.calm=true)(q:QE X iter fa)(t:QG X u g)(y:md X s F)(hp:WB (Wb X.prog X.w) X.A X.env X.xe:=by first|exact WB.never|exact WB.leaving|exact WB.looking)(i:Gl X "range":=by rfl)
 (k:∀x,Wi (.Call (.Name "range" p) [iter] [] m) X.env x=pure x:=by intro _;rfl)(h:V2 [iter] X.env=[(false,Wh iter X.env)]:=by rfl):QS X (.For u (.Call (.Name "range" p) [iter] [] m) s [] pos) (nU fa g F):=
 (Hg hp v (rK i n (eY q fD (by rw[h];rfl)) h) t y k).imp λ_ _ _=>Pr
theorem PB(n:Nat)(h:QT X c ga)(i:md X s F)(hp:WB (Wb X.prog X.w) X.A X.env X.xe:=by first|exact WB.never|exact WB.leaving|exact WB.looking):QS X (.While c s [] pos) (pJ ga F n):=(Py hp h i).imp λ_ _ _=>NI
theorem uK{i h:Pos}(n:QE X a fa)(q:QA X (e::d) l)(k:Wy (.Call (.Attribute a "append" i) (e::d) [] h) none pos.line X.env=pure false:=by rfl)(y:Wv a "append" X.env (Wh a X.env)=Wh a X.env:=by rfl)
 (t:((Wj h (V2 (e::d) X.env)).all (λx=> !x.1)&&(WX h (WC [] X.env)).all (λx=>x.1.isSome)
  &&decide ((e::d).length+([]:List WG).length+(if([]:List WG).isEmpty then 0 else 1)<30))=true:=by rfl)
 (v:(i.endLine==h.line)=true:=by rfl)(z:V2 (e::d) X.env=(false,Wh e X.env)::V2 d X.env:=by rfl)(A:(Wj h (V2 d X.env)).any (·.1)=false:=by rfl):
 QS X (.Expr (.Call (.Attribute a "append" i) (e::d) [] h) pos) (x5 fa l):=
 (tI (wK PySem.F.plainAttrs_list PySem.F.slot_list_append PySem.F.type_list_append Ha n q y t v z A) k).imp λ_ _ _=>JX MC
end
end
section
variable {X:Cx}{a:List (V1×Obj)}{d:L2.St}{H:Hp}{s:V4}
variable{ch:List V1}{f:V8}{t':Nat}
theorem Pw{p:V1}{o:HO}(I:Inv X a d H s)(i:∀b∈ch,oQ X a H b)(k:∀b ob,b∉ch->s.heap.get? b=some ob->f.get? b=some ob)(hp:s.heap.objs.size<=p)
 (l:iZ X.prog X.w (upd H p o) f p o):Inv X a d (upd H p o) {s with heap:=f,toks:=t'}:=by
 have x:H p=none:=I.aF.fresh hp;have j:∀b u,H b=some u->b≠p:=λb u e z=>by rw[z,x]at e;cases e
 have t:∀b u,H b=some u->b∉ch:=λb u e z=>by rw[(i b z).1]at e;cases e
 refine I.step (g':=s.gens) (d':=s.drawn) (ch:=ch) (λb h=>⟨(i b h).2.2.2.1,(i b h).2.1,(i b h).2.2.2.2.1,(i b h).2.2.2.2.2⟩) (λb o _ _ g e _=>k b o g e) (λb o _ _ g e _=>⟨o.slots,k b o g e⟩)
  (λb ob _ e n=>by rw[fL (bQ (bC (V8.lt_size e) hp))];exact n) (λb ob g e=>⟨ob,k b ob g e⟩)
  (λb xs e=>by rw[fL (j _ _ e)];exact e) (λb ob u e=>by rw[fL (j _ _ e)];exact e) (λb ps e=>⟨#[],by rw[fL (j _ _ e),e];simp⟩) (λm y=>?_) (λb u e=>?_) I.bare
 .obtain⟨ob,A,B,w,r⟩:=y;exact⟨ob,A,B,k _ ob (λz=>(i _ z).2.1 rfl) w,r⟩
 .by_cases h:b=p
  .subst h;rw[gS]at e;cases e;exact l
  .rw[fL h]at e;refine(I.aF b u e).cp (λc v g q=>k c v ?_ q) (λc q=>by rw[fL (j _ _ q)];exact q) λc xs q=>by rw[fL (j _ _ q)];exact q
   rcases g with z|z
   .rw[z];exact t b u e
   .exact t c _ z
theorem SA(I:Inv X a d H s)(h:∀b∈ch,oQ X a H b)(k:∀b ob,b∉ch->s.heap.get? b=some ob->f.get? b=some ob):Inv X a d H {s with heap:=f,toks:=t'}:=by
 have j:∀b u,H b=some u->b∉ch:=λb u e z=>by rw[(h b z).1]at e;cases e
 refine I.step (g':=s.gens) (d':=s.drawn) (ch:=ch) (λb i=>⟨(h b i).2.2.2.1,(h b i).2.1,(h b i).2.2.2.2.1,(h b i).2.2.2.2.2⟩) (λb o _ _ g e _=>k b o g e) (λb o _ _ g e _=>⟨o.slots,k b o g e⟩)
  (λb ob _ e n=>n) (λb ob g e=>⟨ob,k b ob g e⟩) (λb xs e=>e) (λb ob u e=>e) (λb ps e=>⟨#[],by rw[e];simp⟩) (λm p=>?_) (λb u e=>?_) I.bare
 .obtain⟨ob,t,w,l,r⟩:=p;exact⟨ob,t,w,k _ ob (λz=>(h _ z).2.1 rfl) l,r⟩
 .refine(I.aF b u e).cp (λc v g q=>k c v ?_ q) (λc q=>q) λc xs q=>q;rcases g with z|z
  .rw[z];exact j b u e
  .exact j c _ z
end
section
variable {X:Cx}{a b e:Wg}{c:Uu}{fa fb:FE}{d:FN}{pos p f:Pos}
section
variable {h aA:Ur}{is:Uo}{i:WD}{j:List (Str×V1)}{l:Uu}{tk:Nat}{m:Pos}{n:Wg}{o:Uu}{q:FE}{g:FG}{r:FB}
end
end
end TL
namespace TL
open PySem PySem.W PySem.Calls PyProof.Rows L2
theorem BL{n:Int}(h:(WData.int n).layable=true):Wc.Int.intBits n<=2^20:=by
 obtain⟨_,_,a⟩:=layableW_iff.mp h;unfold WData.weight at a;unfold Wc.Int.intBits;exact a
theorem zI{a:Um}(h:WData.layableAll [WData.list (a.map WData.int)]=true):∀n∈a,Wc.Int.intBits n<=2^20:=λn b=>
 BL (layableW_item (layableW_arg h _ bG) _ (gL ⟨n,b,rfl⟩))
theorem SJ{l:Va}{k:Nat}{q:Wd}{j:Ur}{XP:(Str->Us)->V8->Prop}{YP:Wf->V8->Prop}{d:DefRec}{K:Params->aK}{x:Str}{R:tl->Ug}
 (U:l.most=some 63)(t:d.params.defaults=[])(Q:aJ k callerA)
 (hY:∀(w:Wf)(h:V8),YP w h->(K w.params).In h)
 (hR:∀i:Um,i.length<=63->(∀n∈i,Wc.Int.intBits n<=2^20)->R [.lst (i.map T.int)]=some (.bl true))
 (F:∀(w:Wf)(m:Str->Us)(fa:V1)(h:V8),(K w.params).In h->h.Ns V5 m->m d.name=some (.ref fa)->
  ∃y:Ww,(∀(s:V4)(u:V3),BindsTo s y ⟨[u],[]⟩ [(x,u)])/\
   ∀g:V8,(K w.params).In g->g.Ns V5 m->lB l.prog w (K w.params) m g n2 k fa y [x] (spT (K w.params) 1 R)):
 PySem.W.WalkO q j XP YP l.row.toRowW d [] (λf vs=>PySem.call f vs):=by
 intro w B ah m mb G Y fa o pm cd doc dV kV ho hd cm M O E args vals as J C p I Z;obtain rfl:dV=.none:=Dflts.none M t;obtain rfl:kV=.none:=Dflts.noKw M;obtain⟨a,vs,i,rfl,rfl,D,c,A⟩:=FK.S9 U J I;have N:=hY w _ Y;obtain⟨y,hb,hF⟩:=F w m fa _ N G.T.g O;have gq:∀H:Hp,wc H->dw (K w.params) H a (i.map V.int)->spT (K w.params) 1 R [.ref a] H (λv _=>v=.bl true) λ_ _ _=>False:=λH _ L=>by
  refine⟨λ_=>False,[.lst (i.map T.int)],.bl true,rfl,λ_ z=>z.elim,.cons ?_ .nil,hR i A (zI C),λv H' _ r=>r.fo⟩;unfold RT;have sm:aG H (mask H (λ_=>False) []):=λb o e=>jX (λz=>z) (by simp) e;refine⟨a,_,rfl,sm.seq L,?_⟩;clear L D c A C J p I;induction i with
  |nil=>exact .nil
  |cons n i ih=>exact .cons .int ih
 refine enter_call (Xd (PL N G.T.g G.T.b G.T.builtins G.T.nolimit E D c (aX A (by decide)) Q hF hb gq (λH e P z=>z)) λr P S=>?_);obtain⟨rfl,h2,h3,h4⟩:=S;exact⟨.inl ⟨.bool true,.bool true,[],rfl,λ_=>rfl,.bool true,FK.S1 l _,λ_=>⟨List.Pairwise.nil,λ_ X=>(nomatch X)⟩⟩,h2,h3,h4⟩
end TL
namespace TL
open PySem PySem.Spec PyProof.Rows L2
section
variable {P:Wd}{w:Wf}{A:We}{R:Result->V4->Prop}{a bs:V1}{b c:List V1}{n:Nat}{d:Nat->V3->Prop}{St:Nat->V8->Prop}{f:List (Str×V3)}{g:Nat->Nat->Bool}
end
section
variable {X:Cx}{a:List (V1×Obj)}{b:L2.St}{H:Hp}{s:V4}{Q:VK}
end
section
variable {X:Cx}{p pos kp:Pos}{e de:Wg}{a b:TE}{fa fb:FE}
end
abbrev Zp(h:V8)(z TI TO:V1)(a f1:V3):Prop:=h.get? z=some {cls:=.type "zip",dict:=none,data:=.fields #[a,f1,.bool false,.ref TI,.ref TO],slots:=#[]}
section
variable {P:Wd}{w:Wf}{A:We}{E:Ut}{s:V4}{z TI TO d f g i:V1}{j l:Nat}{xs m:Array V3}{x y a b n f1:V3}
def ZK(z TO d f:V1)(h k:V8):Prop:=∀c o,c≠z->c≠TO->c≠d->c≠f->h.get? c=some o->k.get? c=some o
end
section
variable {X:Cx}{a b e:Wg}{fa fb:FE}{pos p c:Pos}
variable {d aA:Ur}{is:Uo}{f:WD}{h:List (Str×V1)}{x:Str}{i:Pos}{j:Wg}{l:Uu}{m:FE}{g:FG}{n:FB}
end
section
variable {X:Cx}{a e:Wg}{b:TE}{fa:FE}{pos c d f:Pos}
end
theorem Rel.Ef{K:aK}{f:L2.St}{H b:Hp}{Z:V1->Prop}{c:bo}{d:aB}{C:aq}{t:T}{v:V}{g:tl}(R:Rel K b Z c d C f H)(h:RT K (mask H Z c) c t v)(e:dR [] t=some g):∃a vs,v=.ref a/\dw K H a vs:=by
 cases t with
 |lst ts=>
  obtain⟨a,vs,i,q,_⟩:=R.li h (ts:=ts) rfl;exact⟨a,vs,i,q⟩
 |_=>cases e
section
variable {X:Cx}{a b:Wg}{fa fb:FE}
end
section
variable {X:Cx}{a e b:Wg}{fa:FE}{pos p c:Pos}{d:List WO}{F:FS}{g:FG}
end
section
variable {X:Cx}{st:WO}{a:List WO}{F G:FS}
end
end TL
namespace TL
open PySem L2
abbrev XF:=aB->aq->Option (String×aq)
noncomputable def fX(x:XF)(F:FS):FS:=λa C=>match x a C with
 |some (c,b)=>some (.ex c,a,b)
 |none=>F a C
noncomputable def lF(c:String)(fa:FN):FS:=λa C=>(fa a C).bind λp=>if p.1.length<=10 then some (.ex c,a,p.2)else none
noncomputable def wY(f:FE)(x:XF):XF:=λa C=>(f a C).bind λp=>x a p.2
def gX(n:Nat)(G:tl->Option String)(a:tl)(C:aq):Option String:=if a.length=n then(if ew a=true then G a else(bt (dr 3 C) a).bind G)else none
def n9(n:Nat)(G:tl->Option String)(fa:FN):XF:=λa C=>(fa a C).bind λp=>(gX n G p.1 p.2).map λc=>(c,p.2)
def rR(B:FS)(m:Nat)(ts:tl):Option String:=match B (gg m ts) []with
 |some (.ex c,_,_)=>some c
 |_=>none
noncomputable def BX(a:String->List String)(d:String)(i:Nat)(F G:FS):FS:=λb C=>(F b C).bind λr=>match r with
 | (.ex c,h,k)=>if(a c).contains d=true then(G (h.set i (some (.exc c))) k).bind λq=>(match q with
  | (.ex _,_,_)=>none
  | (f,g,j)=>some (f,g.set i none,j))else none
 |r=>some r
noncomputable def Bu(a:String->List String)(b:List String):T->Option Bool
 | .bg=>some false
 | .exc c=>if a c=[]then none else some (b.any λd=>(a c).contains d)
 |_=>none
def uI(c:String->List String)(d:List String)(a:FE):FE:=ry a λt C=>(Bu c d t).map λb=>(.bl b,C)
def BZ(b:FE)(x:XF):XF:=λa C=>(b a C).bind λp=>match p.1 with
 | .cell c=>(lc p.2 c).bind λ_=>x a p.2
 |_=>none
section
variable {K:aK}{a:L2.St}{H:Hp}{Q:VK}
end
end TL
namespace TL
open PySem PySem.Spec PyProof.Rows L2
def jt(K:aK)(W:XW)(x:XF)(d:L2.St)(H:Hp):Prop:=∃a Z g b C c i,Rel K a Z g b C d H/\x b C=some (c,i)/\
 ∀f h,Rel K a Z h b i d f->Step H f g h->W c d f
abbrev XE(X:Cx)(e:Wg)(x:XF):Prop:=PE X e λa H _=>jt X.K (br X) x a H
abbrev XA(X:Cx)(b:Uu)(x:XF):Prop:=PA X b λa H _=>jt X.K (br X) x a H
abbrev XS(X:Cx)(st:WO)(x:XF):Prop:=PS X st λ_ a H=>jt X.K (br X) x a H
def Dp(K:aK)(n:Nat)(G:tl->Option String)(vs:Uh)(H:Hp)(E:XK):Prop:=∃Z b c,b.length=n/\(∀a,Z a->NT (H a))/\ax K (mask H Z []) [] b vs/\G b=some c/\∀d,aG H d->E (.type c) none d
noncomputable def qb(a:Sp)(K:aK)(n:Nat)(G:tl->Option String):Sp:=λvs H Q E=>a vs H Q E\/Dp K n G vs H E
section
variable {K:aK}{W:XW}{b:L2.St}{H:Hp}{x:XF}
variable{G:tl->Option String}
theorem OH{a:Sp}{n m:Nat}(h:∀vs H Q E,a vs H Q E->vs.length=n):∀vs H Q E,qb a K n G vs H Q E->vs.length=n:=λvs H Q E z=>by
 rcases z with z| ⟨Z,f,c,d,_,r,_⟩
 .exact h vs H Q E z
 .rw[r.length,d]
theorem Lr{f:FE}(h:jt K W (wY f x) b H):aD K f b H λ_ g=>jt K W x b g:=by
 obtain⟨a,Z,j,d,C,c,s,R,e,k⟩:=h;obtain⟨⟨t,i⟩,n,e⟩:=eW e;exact⟨a,Z,j,d,C,t,i,R,n,λv g p q _ m=>⟨a,Z,p,d,i,c,s,q,e,λr o R2 l=>k r o R2 (m.trans l)⟩⟩
theorem JE{F:FS}{D:Ends}(h:ey K W (fX x F) D b H):jt K W x b H\/ey K W F D b H:=by
 obtain⟨a,Z,f,d,C,j,l,p,R,e,k⟩:=h;unfold fX at e;split at e
 .rename_i c q i;cases e;exact .inl ⟨a,Z,f,d,C,c,_,R,i,λo m n g=>k b o m n g.ss⟩
 .exact .inr ⟨a,Z,f,d,C,j,l,p,R,e,k⟩
theorem Ox{fa:FN}{n:Nat}(h:jt K W (n9 n G fa) b H):gn K fa b H λvs s=>Dp K n G vs s λv _ i=>∃c,v=.type c/\W c b i:=by
 obtain⟨g,Z,w,u,C,c,J,R,e,k⟩:=h;obtain⟨⟨m,I⟩,B,e⟩:=eW e;obtain⟨F,d,e⟩:=eX e;cases e;refine⟨g,Z,w,u,C,m,_,R,B,λvs s j f r o=>?_⟩;dsimp only at d f r;unfold gX at d;split at d
 .rename_i p;split at d
  .rename_i A;refine⟨λa=>Z a\/a∈j,m,_,p,λa z=>?_,by rw[yW];exact r.cf A,d,λi sm=>⟨_,rfl,?_⟩⟩
   .rcases z with z|z
    .exact f.zd a z
    .exact f.jn z
   .obtain⟨l,st⟩:=f.same sm;exact k i j l (o.trans st)
  .obtain⟨y,q,d⟩:=eW d;refine⟨Z,y,_,(uR q).trans p,f.zd,r.bt (λt v D h e=>f.dr _ _ _ _ h e) q,d,λi sm=>⟨_,rfl,?_⟩⟩;obtain⟨l,st⟩:=f.same sm;exact k i j l (o.trans st)
 .cases d
theorem Mo{n m:Nat}{B:FS}{vs:Uh}{E:XK}{D:Ends}(g:∀c b a,E (.type c) none a->W c b a)(h:Dp K n (rR B m) vs H E):
 ey K W B D (vs.map some++aS (m - vs.length) none) H:=by
 obtain⟨Z,d,c,j,f,r,e,k⟩:=h;unfold rR at e;split at e
 .rename_i hB;cases e;exact⟨H,Z,[],gg m d,[],_,_,_,Rel.start f r,hB,λl a o i _=>g _ _ _ (k a i.old)⟩
 .cases e
end
section
variable {X:Cx}{j:List (V1×Obj)}{g:L2.St}{H:Hp}{s:V4}{k:Nat}{f:V1}{fd:Ww}{ps:Ur}{i:Sp}{e a b:Wg}{d:Uu}{pos p:Pos}{x:XF}{fa fb:FE}{l:FN}{st:WO}{F:FS}
variable{G:tl->Option String}
theorem yJ{Q:VK}{us:Uq}{vs:Uh}(F:lB X.prog X.w X.K X.mg X.base (lu X.prog X.w X.K) k f fd ps i)(y:aJ k X.A)(A:Binds X.K fd ps [])
 (I:Inv X j g H s)(r:au vs us)(h:i vs H Q λv _ q=>∃c,v=.type c/\br X c g q):Wa (Wb X.prog X.w) X.A (call (.ref f) us) (EP X j g Q) X.xe s:=by
 have hl:(us++[]).length=ps.length:=by rw[aT,<-r.length];exact F.len _ _ _ _ h
 have o:=A s us I.gh hl;rw[aT]at o hl;refine wpAny_call (Xd (F.run X.A X.stack s H ⟨us,[]⟩ us vs Q _ y I.vf o r h) λr t m=>?_);cases r with
 |error e=>
  obtain⟨c,a,C,B,q,rfl,D,n,J,z,w⟩:=m;cases z;exact w j H s a C B t I D (.inr (.inl n))
 |ok n=>
  cases n with
  |ret u=>exact I.after m
  |next=>exact False.elim m
  |brk=>exact False.elim m
  |cont=>exact False.elim m
noncomputable def tp(i:Sp)(W:XW)(t:TA):TE:=λg H Q=>t g H λvs h=>i vs h Q λv _ m=>∃c,v=.type c/\W c g m
theorem z8{x:Str}{t:TA}(F:lB X.prog X.w X.K X.mg X.base (lu X.prog X.w X.K) k f fd ps i)(m:aJ k X.A)(u:Gl X x)(n:X.mg x=some (.ref f))(o:bL X.K (.ref f)=true)(w:Binds X.K fd ps [])
 (y:PA X (e::d) t)(z:(x==("__debug__":Str))=false:=by decide)(v:V2 (e::d) X.env=(false,Wh e X.env)::V2 d X.env:=by rfl)(A:(Wj pos (V2 d X.env)).any (·.1)=false:=by rfl):
 PE X (.Call (.Name x p) (e::d) [] pos) (tp i (br X) t):=by
 intro j s g H Q I h;refine WA (mV I u n ?_ z);refine dM (h₀:=X.base) I.ok.mod.ql o (aC (y pos j s g H _ I h) λB C ⟨vs,D,c,r,q⟩=>⟨c.gh,?_⟩) v A;exact yJ F m w c r q
structure vp(P:Wd)(w:Wf)(K:aK)(mg:Str->Us)(base:V8)(k:Nat)(x:Str)(n:Nat)(i:Sp)(G:tl->Option String):Prop where
 ex:∃f fd ps,lB P w K mg base (lu P w K) k f fd ps (qb i K n G)/\mg x=some (.ref f)/\bL K (.ref f)=true/\Binds K fd ps []
theorem yL{n:Nat}{x:Str}(D:vp X.prog X.w X.K X.mg X.base k x n i G)(c:aJ k X.A)(v:QA X (e::d) l)(r:Gl X x:=by rfl)(w:(x==("__debug__":Str))=false:=by decide)
 (t:V2 (e::d) X.env=(false,Wh e X.env)::V2 d X.env:=by rfl)(y:(Wj pos (V2 d X.env)).any (·.1)=false:=by rfl):XE X (.Call (.Name x p) (e::d) [] pos) (n9 n G l):=by
 obtain⟨f,fd,ps,F,m,o,u⟩:=D.ex;exact(z8 F c r m o u v w t y).imp λg H Q h=>lI (Ox h) λvs z q=>.inr q
theorem tL{n:Nat}{x:Str}{R:tl->Ug}(D:vp X.prog X.w X.K X.mg X.base k x n (spT X.K n R) G)(m:aJ k X.A)(y:QA X (e::d) l)(t:Gl X x:=by rfl)(z:(x==("__debug__":Str))=false:=by decide)
 (u:V2 (e::d) X.env=(false,Wh e X.env)::V2 d X.env:=by rfl)(A:(Wj pos (V2 d X.env)).any (·.1)=false:=by rfl):QE X (.Call (.Name x p) (e::d) [] pos) (iN n R l):=by
 obtain⟨f,fd,ps,F,o,r,w⟩:=D.ex;refine(z8 F m t o r w y z u A).imp λg H Q h=>?_;refine lI (GO (E:=λv _ B=>∃c,v=.type c/\br X c g B) h) λvs C q=>.inl ?_;rw[aT]at q;exact q
theorem vx(c:XS X st x)(h:QS X st F):QS X st (fX x F):=λj s g H D I q=>by
 rcases JE q with q|q
 .exact c j s g H D I q
 .exact h j s g H D I q
theorem Ig(h:XE X a x)(c:Wy a none pos.line X.env=pure false:=by rfl):XS X (.Expr a pos) x:=tI h c
theorem Fj(h:XE X a x):XS X (.Return (some a) pos) x:=GX h
theorem GF(h:XE X e x)(m:PA X d t)(c:V2 (e::d) X.env=(false,Wh e X.env)::V2 d X.env:=by rfl):XA X (e::d) x:=jZ h m c
theorem JT(h:QE X e fa)(m:XA X d x)(c:V2 (e::d) X.env=(false,Wh e X.env)::V2 d X.env:=by rfl):XA X (e::d) (wY fa x):=(jZ h m c).imp λg H Q=>Lr
end
abbrev mroVE:Uq:=[.type "ValueError",.type "Exception",.type "BaseException",.type "object"]
structure FI(h:V8)(C:V1)(qj:String)(up:Uq):Prop where
 ex:∃N nm q bs hdct sn sub ab col dd k0 k1 k2 k3 k5 mN,h.get? C=some (excClassObj nm q C N bs up hdct sn sub ab col dd k0 k1 k2 k3 k5 qj)/\h.Ns N mN/\mN "__init__"=none/\OwnTail h mroVE up
theorem pY{K:aK}{h:V8}{C:V1}{f:String}(X:K.In h)(q:cQ K C mroVE f=true):∃up,FI h C f up/\(∀v b,aZ K C v=some b->(V3.ref C::up).contains v=b)/\(d6 K C).isSome=true:=by
 unfold cQ at q;split at q
 .rename_i dd m sl k;split at q
  .rename_i x bm k0 k1 k2 k3 n k5 c j;simp only[b8,beq_iff_eq,Bool.not_eq_true']at q;obtain⟨⟨⟨⟨⟨rfl,rfl⟩,g⟩,t⟩,a⟩,i⟩:=q;have o:d6 K x=some m:=by unfold d6;rw[k]
   refine⟨bm,?_,λv b e=>?_,by rw[o];rfl⟩
   .obtain⟨nm,bs,s,r,p,u,sn,sub,ab,col,w⟩:=m;dsimp only at c g a i;subst c g;have d:sl=#[k0,k1,k2,k3,some (.builtin n),k5]:=by
     obtain⟨l⟩:=sl;simp only at j;rw[j]
    subst d;exact⟨r,nm,p,bs,u,sn,sub,ab,col,dd,k0,k1,k2,k3,k5,_,X _ _ k,.of_isNs (PySem.W.isNs_of_in X a),PySem.W.nsMap_none_of_in X a i,PySem.W.tail_of_in X t⟩
   .unfold aZ at e;rw[o,aM,c]at e;simpa using e
  .cases q
 .cases q
structure h5(K:aK)(mg:Str->Us)(c:String)(C:V1):Prop where
 nm:Named K c C
 mg:mg (Str.ofString c)=some (.ref C)
 ok:cQ K C mroVE "ValueError.__new__"=true
section
variable {X:Cx}{f:List (V1×Obj)}{d:L2.St}{H:Hp}{s:V4}{c:String}{C:V1}{g:Wg}{rest:Uu}{j i pos:Pos}{fa:FN}
theorem Te{k:V8}{a:V1}{vs:Uq}(I:Inv X f d H s)(p:Named X.K c C)(h:V8.MadeExcOf s.heap k a (.ref C) vs):
 ∃B,da X.prog X.w X.K X.stack H s c H C B {s with heap:=k}/\Made B X.stack a C {s with heap:=k}:=by
 refine⟨bT s.heap (aA X.stack),⟨p,rfl,I.bare,Un.kept h.keeps,I.aF.kept h.keeps,λb o e _ n=>cH _ e n,λb u o e q=>?_,λb o e n=>⟨o,cH _ e n⟩⟩,s.heap,vs,λb o q=>cC _ q,?_,h⟩
 .obtain⟨ob,l⟩:=lZ (I.aF b u e);have m:=(h.keeps b ob l).symm.trans q;cases m;exact cH _ l λz=>by
   rw[I.ez b z]at e;cases e
 .exact PySem.W.funFrames_hide I.stack λenv r v t=>dA.mpr ⟨env,r,t⟩
theorem Qg(D:h5 X.K X.mg c C)(J:X.calm=true)(K:QA X (g::rest) fa)(F:Gl X (Str.ofString c):=by rfl)(G:(Str.ofString c==("__debug__":Str))=false:=by decide)
 (n:V2 (g::rest) X.env=(false,Wh g X.env)::V2 rest X.env:=by rfl)(Q:(Wj i (V2 rest X.env)).any (·.1)=false:=by rfl):
 QS X (.Raise (some (.Call (.Name (Str.ofString c) j) (g::rest) [] i)) none pos) (lF c fa):=by
 intro f s d H Dn I h;obtain⟨up,p,_,_⟩:=pY I.ok.mod.ql D.ok;obtain⟨N,nm,q,bs,hdct,sn,sub,ab,col,dd,k0,k1,k2,k3,k5,mN,M,L,x,T⟩:=p.ex;refine wpAny_Raise_call_subT (C:=C) (nm:=nm) (q:=q) (N:=N) (bs:=bs) (bm:=up) (hdct:=hdct) (sn:=sn) (sub:=sub) (ab:=ab) (col:=col) (dd:=dd) (k0:=k0) (k1:=k1) (k2:=k2) (k3:=k3) (k5:=k5)
  PySem.F.excBase_ValueError (mN:=mN) (T.hasType PySem.F.excBase_ValueError.hasBase) (I.ok.hd J) (by rw[n];show(false||(Wj i (V2 rest X.env)).any (·.1))=false;rw[Q];rfl) x (mV I F D.mg ⟨rfl,?_⟩ G)
 have O:gn X.K fa d H λvs l=>vs.length<=10/\br X c d l:=by
  obtain⟨b,Z,o,τ,C0,fl,ao,C',R,e,k⟩:=h;unfold lF at e;obtain⟨⟨u,C1⟩,P,e⟩:=eW e;split at e
  .rename_i hl;cases e;exact⟨b,Z,o,_,C0,u,_,R,P,λvs l U Y r w=>⟨by rw[r.length];exact hl,k d l U Y w.ss⟩⟩
  .cases e
 have m:=K i f s d H _ I O;rw[n]at m|-;refine Calls.evalArgs_plain (aC m λt v ⟨vs,E,a,r,hl,z⟩=>⟨rfl,?_,?_,?_,?_,λh' e A=>?_⟩)
 .show t.length<=_;rw[<-r.length];exact aX hl (by decide)
 .exact a.bk _ _ M
 .exact L.keeps a.bk
 .exact T.keeps a.bk
 .obtain⟨B,S,y⟩:=Te a D.nm A;exact z f E v e C B _ a S (.inl y)
end
section
variable {P:Wd}{w:Wf}{K:aK}{a:Str->Us}{b:V8}
abbrev Gk(P:Wd)(w:Wf)(K:aK)(a:Str->Us)(b:V8)(N:Ur)(g:Str)(c:WD)(f:V1)(h:V3)(A:We)(d:List Env)(s:V4)(H:Hp)(E:XK):Cx:=vL (lu P w K) P w K a b N g c f h A d s H E
theorem Jl{x g:Str}{st:WO}{f:V1}{l:Ww}{N ps:Ur}{k n:Nat}{j:Sp}{B:FS}(F:lq K x g st f l)(S:n5 N ps (gF st))(p:ps.length=n)(len:∀vs H Q E,j vs H Q E->vs.length=n)
 (hB:∀(W:XW) vs H Q E,j vs H Q E->ey K W B {nx:=λ_ m=>Q .bg m,rt:=Q} (start N vs) H)
 (t:∀(i:V3)(A:We)(d:List Env)(s:V4)(H:Hp)(E:XK),aJ k (A.deeper (W0 g (gF st) s.heap.objs.size f i))->
  md (Gk P w K a b N g (gF st) f i A d s H E) (iQ st) B):lB P w K a b (lu P w K) (k+1) f l ps (qb j K n (rR B N.length)):=by
 obtain⟨oc,od,kV,r,y,D,i,C,e,rfl,lk,u⟩:=F.ex;refine Fd lk u S (λvs H Q E h=>(OH (m:=0) len vs H Q E h).trans p.symm) λA d s H vs Q E o q=>⟨_,t i A d s H E o,?_⟩;rcases q with h|h
 .exact hB _ vs H Q E h
 .exact Mo (λc v m z=>Ie z) h
end
end TL
namespace PySem
theorem uU{M:Model}{A:We}{E:Ut}{s:V4}{B h:V8}{env:Env}{a:List Env}{L e:V1}{f:V3}{args:Uq}{Q:Unit->V4->Prop}
 (v:A.frames=some (env::a))(i:env.frame=some L)(g:B.StaysIn h)(hl:h.FunFrames B (env::a))(c:V8.MadeExcOf h s.heap e f args)
 (u:∀h' t,V8.HeldW B (env::a) e f (.ref t) L h'->s.heap.UpToSlots h'->Q () {s with heap:=h'}):Wa M A (WZ (.ref e) env) Q E s:=by
 obtain⟨t,j,q,w⟩:=c.there;have fresh:∀b,h.get? b=none->B.get? b=none:=λb d=>by
  cases r:B.get? b with
  |none=>rfl
  |some k=>have:=g b k r;rw[d]at this;cases this
 unfold WZ;simp only[i];refine V0 (Wl (x:=.none) j rfl rfl ?_);rw[V9 (show¬((V3.none !=V3.none)=true)from by simp)];exact wpAny_entryW (a0:=.ref t) v (hl.of_keeps λb o d _=>⟨o,c.keeps b o d,rfl⟩) i j (λb o d=>c.keeps b o (g b o d)) (fresh e c.new) rfl (by simp) rfl λh' ⟨p,n,m,l⟩=>u h' t ⟨p,fresh e c.new,n,m⟩ l
end PySem
namespace TL
open PySem PySem.Spec PyProof.Rows L2
section
variable {X:Cx}{aa:List (V1×Obj)}{σ:L2.St}{H f:Hp}{s s':V4}{c:String}{C a:V1}{B:V8}
variable{A:We}{calm:Bool}{pn bv:List (V1×Obj)}{xe:Ut}
theorem da.cp{h:V8}(I:Inv X aa σ H s)(A:da X.prog X.w X.K X.stack H s c f C B s')(st:B.StaysIn h)(sm:s'.heap.UpToSlots h):
 da X.prog X.w X.K X.stack H s c f C B {s' with heap:=h}:=by
 have cp:∀b u o,f b=some u->s'.heap.get? b=some o->h.get? b=some o:=λb u o e q=>st b o (A.lz b u o e q);have l:∀b∈aA X.stack,∃o,s.heap.get? b=some o/\∀vs,o.data≠ .fields vs:=λb d=>(I.stack.mem d).2;have slot:∀b o,s.heap.get? b=some o->H b=none->b∈aA X.stack->∃sl,h.get? b=some {o with slots:=sl}:=λb o e n d=>by
  obtain⟨w,v⟩:=A.un.any e n (by simp);obtain⟨i,g,p⟩:=l b d;rw[e]at g;cases g;obtain⟨r,t⟩:=sm b _ v p;exact⟨r,t⟩
 refine⟨A.nm,A.os,A.bare,⟨λb o e n m _=>st b o (A.ji b o e n m),λb o e n d _=>slot b o e n d,A.un.free,λb o e _=>?_,A.un.eL,A.un.eh,A.un.eN⟩,zA A.aF cp,A.ji,λb u o e q=>?_,A.gw⟩
 .by_cases d:b∈aA X.stack
  .obtain⟨sl,g⟩:=slot b o e (I.ez b d) d;exact⟨_,g⟩
  .obtain⟨i,g⟩:=A.gw b o e d;exact⟨i,st b i g⟩
 .obtain⟨ob,j⟩:=lZ (A.aF b u e);have k:=(cp b u ob e j).symm.trans q;cases k;exact A.lz b u _ e j
theorem da.inv(I:Inv X aa σ H s)(A:da X.prog X.w X.K X.stack H s c f C B s'):Inv X aa σ f s':=I.oy A.os A.un A.aF A.bare (λb z=>absurd z (by simp))
theorem da.held{t:V1}(I:Inv X aa σ H s)(A:da X.prog X.w X.K X.stack H s c f C B s')(F:V8.FlyingW B X.stack a (.ref C) (.ref t) s'.heap):f a=none/\Inv X aa σ (upd f a (xg a C)) s':=by
 obtain⟨p,vs,i,G,v,_⟩:=F.first;have g:f a=none:=by
  cases q:f a with
  |none=>rfl
  |some u=>
   have:=A.lz a u p q i;rw[F.2.1]at this;cases this
 have r:∀o,s.heap.get? a≠some o:=λo e=>by
  by_cases h:a∈aA X.stack
  .obtain⟨w,l,x⟩:=(I.stack.mem h).2;obtain⟨sl,j⟩:=A.un.any l (I.ez a h) (by simp);rw[i]at j;have:=bZ.inj j;exact x vs (by rw[this]at v;exact v)
  .obtain⟨w,l⟩:=A.gw a o e h;rw[F.2.1]at l;cases l
 refine⟨g,I.oy A.os ⟨A.un.keep,A.un.slot,λb o e n y=>?_,A.un.there,λb xs e=>?_,λb o u e=>?_,λb ps e=>?_⟩ ?_ A.bare (λb z=>absurd z (by simp))⟩
 .rw[fL (λz=>r o (by rw[<-z];exact e))];exact A.un.free b o e n y
 .have:=A.un.eL b xs e;rw[fL (gW this g)];exact this
 .have:=A.un.eh b o u e;rw[fL (gW this g)];exact this
 .obtain⟨m,this⟩:=A.un.eN b ps e;exact⟨m,by rw[fL (gW this g)];exact this⟩
 .intro b u e;by_cases h:b=a
  .subst h;rw[gS]at e;cases e;refine⟨⟨p,i,G⟩,⟨p,i⟩,λK J ⟨ob,D,j⟩ k=>⟨ob,k ob D,j⟩⟩
  .rw[fL h]at e;exact(A.aF b u e).cp (λ_ _ _ q=>q) (λd q=>by rw[fL (gW q g)];exact q) λd xs q=>by rw[fL (gW q g)];exact q
abbrev Cx.at(X:Cx)(A:We)(calm:Bool)(pn:List (V1×Obj))(xe:Ut):Cx:={X with A:=A,calm:=calm,pn:=pn,xe:=xe}
theorem uZ(I:Inv X aa σ H s)(b:A.frames=some X.stack)(hh:calm=true->A.handled=none)(hp:∀p∈pn++bv,p∈X.pn++aa):
 Inv (Cx.at X A calm pn xe) bv σ H s:=
 ⟨⟨I.ok.mod,I.ok.kind,I.ok.glob,I.ok.blt,I.ok.above,I.ok.inj,I.ok.has,I.ok.xh,hh,b,I.ok.Ag,I.ok.BI,I.ok.bs,I.ok.oz,I.ok.l1,I.ok.ki,I.ok.fk,I.ok.qm⟩,
   I.os,I.bare,I.base,I.loc,I.cell,I.free,I.cz,λp z=>I.pin p (hp p z),I.aF,I.len⟩
theorem tY(I:Inv (Cx.at X A calm pn xe) bv σ H s)(ok:X.Ok)(hp:∀p∈X.pn++aa,p∈pn++bv):Inv X aa σ H s:=
 ⟨ok,I.os,I.bare,I.base,I.loc,I.cell,I.free,I.cz,λp z=>I.pin p (hp p z),I.aF,I.len⟩
theorem qY{M:Model}{E:Ut}{i:Nat}{x:Str}{pos:Pos}{Q:Unit->V4->Prop}(I:Inv X aa σ H s)(P:X.N.Nodup)(G:X.N[i]?=some x)(D:X.env.kindOf x=some .local)
 (h:∀s',Inv X aa (σ.set i none) H s'->Q () s'):Wa M A (do bindName X.env x .none;unbindBehindTheSuite X.env x pos) Q E s:=by
 have iu:(X.env.scope.kind== .class||(X.env.scope.kind== .module&&X.env.locals !=X.env.globals))=false:=by rw[I.ok.kind];rfl
 refine V0 (wpAny_bindName (pW I P G (.inl D) (v:=.bg) rfl (λs1 g=>?_) (.inr D)));unfold unbindBehindTheSuite;refine wpAny_onRaise ?_;obtain⟨m,hn,hl⟩:=id g.loc;have O:i<σ.length:=by rw[I.len];exact(fA G).1
 have hv:m x=some .none:=by
  obtain⟨u,r,q⟩:=hl i x .bg G (by rw[b0 O]) (.inl D);cases r;rcases q with⟨_,q⟩| ⟨k,_⟩
  .exact q
  .rw[D]at k;rcases k with k|k<;>cases k
 refine wpAny_unbindName_local D hn hv iu λh' u iy t=>h _ ?_;have kj:=g.kj;have l:er X.prog X.w H h':=λb ob e=>by
  refine(g.aF b ob e).cp (λc L hc q=>(t.2 c ?_).trans q) (λ_ q=>q) λ_ _ q=>q;rintro rfl;rcases hc with rfl|hc
  .rw[g.free]at e;cases e
  .rw[g.free]at hc;cases hc
 refine⟨g.ok,g.os,g.bare,⟨λb o e n K w=>?_,λb o e n K w=>?_,g.base.free,λb o e w=>?_,g.base.eL,g.base.eh,g.base.eN⟩,⟨_,iy,λj y R v J e3=>?_⟩,λy c e=>?_,g.free,g.cz,λp hp=>?_,l,by simpa using I.len⟩
 .exact(t.2 b (bQ (bC (V8.lt_size e) I.ok.above))).trans (g.base.keep b o e n K w)
 .obtain⟨sl,v⟩:=g.base.slot b o e n K w;exact⟨sl,(t.2 b (bQ (bC (V8.lt_size e) I.ok.above))).trans v⟩
 .obtain⟨Y,v⟩:=g.base.there b o e w;exact⟨Y,(t.2 b (bQ (bC (V8.lt_size e) I.ok.above))).trans v⟩
 .by_cases F:j=i
  .subst F;rw[b0 O]at J;cases J
  .rw[bY (Ne.symm F)]at J;obtain⟨S,U,q⟩:=hl j y R v (by rw[bY (Ne.symm F)];exact J) e3;refine⟨S,U,?_⟩;rcases q with⟨k,e⟩| ⟨k,c,e,z⟩
   .refine .inl ⟨k,?_⟩;have:y≠x:=λe=>F (uL P v (e ▸ G));simp[this,e]
   .exact .inr ⟨k,c,e,z.sameBut t (kj y c e)⟩
 .obtain⟨L,z⟩:=g.cell y c e;exact⟨L,z.sameBut t (kj y c e)⟩
 .obtain⟨e,n,N,Z,d⟩:=g.pin p hp;exact⟨(t.2 p.1 N).trans e,n,N,Z,d⟩
end
theorem Rel.unset{K:aK}{a H:Hp}{Z:V1->Prop}{f:bo}{b:aB}{C:aq}{d:L2.St}(R:Rel K a Z f b C d H)(i:Nat):Rel K a Z f (b.set i none) C (d.set i none) H:=by
 refine⟨R.old,R.aA,R.nd,R.zd,λj u e=>?_,R.hH,R.len,by simp[R.mx]⟩;by_cases c:j=i
 .subst c;have g:j<b.length:=by
   have:=(fA e).1;simpa using this
  rw[b0 g]at e;cases e
 .rw[bY (Ne.symm c)]at e;obtain⟨w,k,h⟩:=R.loc j u e;exact⟨w,by rw[bY (Ne.symm c)];exact k,h⟩
structure Tab(K:aK)(mg:Str->Us)(tab:String->List String)(rs ds:List String):Prop where
 Gj:∀c,tab c≠[]->c∈rs
 own:∀d∈ds,∃D,h5 K mg d D/\b7 K (.ref D)=some (.type "type")
 cls:∀c C,c∈rs->Named K c C->cQ K C mroVE "ValueError.__new__"=true/\bH K (.ref C) "__getattribute__"=some (some (.builtin "BaseException.__getattribute__"))/\bH K (.ref C) "__getattr__"=some none/\aZ K C (.type "BaseException")=some true/\bH K (.ref C) "__class__"=some (some (.builtin "object.__class__"))/\aZ K C (.type "object")=some true
 ve:∀c C,c∈rs->Named K c C->dE K (.ref C) (.type "ValueError")=some ((tab c).contains "ValueError")
 sub:∀c C d D,c∈rs->d∈ds->Named K c C->Named K d D->aZ K C (.ref D)=some ((tab c).contains d)
section
variable {X:Cx}{m:String->List String}{rs o:List String}{d:String}{i:Nat}{n:Str}{F G:FS}{body b:List WO}{g:WO}{j l pos:Pos}
theorem Kc(T:Tab X.K X.mg m rs o)(hd:d∈o)(hN:X.N.Nodup)(i:Nat)(hc:X.calm=true)(hb:∀pn E,md (Cx.at X X.A X.calm pn E) body F)(hs:∀A,md (Cx.at X A false X.pn λ_ _=>False) (g::b) G)
 (hi:X.N[i]?=some n:=by rfl)(hk:X.env.kindOf n=some .local:=by rfl)(hg:Gl X (Str.ofString d):=by rfl)(bi:(Str.ofString d==("__debug__":Str))=false:=by decide)
 (bb:X.stack=X.env::X.outer:=by rfl)(hf:X.env.frame=some X.env.locals:=by rfl):
 QS X (.Try body [.ExceptHandler (some (.Name (Str.ofString d) j)) (some n) (g::b) l] [] [] pos) (BX m d i F G):=by
 intro aa s S H Dn I h;obtain⟨P,Z,ρ,τ,C,fl,ao,C',R,e,k⟩:=h;unfold BX at e;obtain⟨⟨f1,aj,C1⟩,eF,e⟩:=eW e;refine wpAny_Try_except ?_;refine Wm (hb (X.pn++aa) (λe ah=>Wa (Wb X.prog X.w) X.A (WZ e X.env) (λ_ bn=>Wa (Wb X.prog X.w) X.A (setFlight e none) (λ_ bz=>Wa (Wb X.prog X.w) X.A (handleBy e X.env [.ExceptHandler (some (.Name (Str.ofString d) j)) (some n) (g::b) l]) (SP X aa Dn) X.xe bz) X.xe bn) X.xe ah)
  [] s S H Dn (uZ I I.ok.frames I.ok.hd λp z=>by simpa using z) ⟨P,Z,ρ,τ,C,f1,aj,C1,R,eF,λY Q af R1 y=>?_⟩) (λfl1 y h1=>?_) λe y h1=>h1
 .cases f1 with
  |nx=>cases e;exact k Y Q af R1 y
  |bk=>cases e;exact k Y Q af R1 y
  |ct=>cases e;exact k Y Q af R1 y
  |rt t=>cases e;exact k Y Q af R1 y
  |ex c=>
   dsimp only at e;split at e
   .rename_i km;obtain⟨⟨f2,ar,C2⟩,eG,e⟩:=eW e;intro xa H2 s2 a Cl B M I2 al way;have rm:Inv X aa Y H2 s2:=tY I2 I.ok λp z=>eQ _ z;have ma:da X.prog X.w X.K X.stack H2 s2 c Q Cl B M:=al;have land:∀J t,V8.FlyingW B X.stack a (.ref Cl) (.ref t) J->M.heap.UpToSlots J->
     Wa (Wb X.prog X.w) X.A (handleBy (.ref a) X.env [.ExceptHandler (some (.Name (Str.ofString d) j)) (some n) (g::b) l]) (SP X aa Dn) X.xe {M with heap:=J}:=by
     intro J t K O;have al5:=ma.cp rm K.1 O;have I5:=al5.inv rm;have lr:Inv (Cx.at X (X.A.mark (some (.ref a))) false X.pn λ_ _=>False) aa Y Q {M with heap:=J}:=uZ I5 (by rw[<-I.ok.frames];rfl) (λz=>by cases z) λp z=>z;obtain⟨D,ED,_⟩:=T.own d hd;have xw:=T.Gj c λz=>by rw[z]at km;cases km
     obtain⟨up,ut,vd,_⟩:=pY I5.gh (T.cls c Cl xw al.nm).1;obtain⟨upD,ur,_,_⟩:=pY I5.gh ED.ok;obtain⟨N,nm,q,bs,hdct,sn,sub,ab,col,dd,k0,k1,k2,k3,k5,mN,hC,hNs,og,TL⟩:=ut.ex;obtain⟨N',xc,q',yq,ju,wz,mq,yt,pr,jc,xm,xl,xk,xj,xi,mN',hD,hNs',hni',TL'⟩:=ur.ex;obtain⟨oe,vs,he,bw,ku,_⟩:=K.first;refine wpAny_handleBy_cons (codeAny_handlers_test (mV (X:=Cx.at X (X.A.mark (some (.ref a))) false X.pn λ_ _=>False) lr hg ED.mg ?_ bi)) (by intro q;cases q);refine u0 hC hD he bw (TL'.hasType PySem.F.excBase_ValueError.hasBase) (vd _ _ ((T.sub c Cl d D xw hd al.nm ED.nm).trans (by rw[km]))) ?_;refine codeAny_handlers_suite_as ?_;refine lands_againW K λh6 F6 se=>?_;have al6:=ma.cp rm F6.1 (O.trans se);obtain⟨hn,I6⟩:=al6.held rm F6;refine pW I6 hN hi (.inl hk) (v:=.ref a) rfl (λs7 I7x=>?_) (.inr hk);have I7:Inv (Cx.at X (X.A.mark (some (.ref a))) false X.pn λ_ _=>False) aa (Y.set i (some (.ref a))) (upd Q a (xg a Cl)) s7:=uZ I7x (by rw[<-I.ok.frames];rfl) (λz=>by cases z) λp z=>z;obtain⟨R6,qd⟩:=R1.alloc (p:=a) (o:=xg a Cl) hn;obtain⟨nz,nr,_⟩:=R1.dn hn;have zj:RT X.K (mask (upd Q a (xg a Cl)) Z af) af (.exc c) (.ref a):=by
      unfold RT;exact⟨a,Cl,rfl,al.nm,jX nz nr gS⟩
     have R7:=R6.set (i:=i) zj;refine Wm (hs (X.A.mark (some (.ref a))) aa s7 _ _ {nx:=λS H=>Dn.nx (S.set i none) H,rt:=Dn.rt,bk:=λS H=>Dn.bk (S.set i none) H,ct:=λS H=>Dn.ct (S.set i none) H} I7
      ⟨P,Z,af,_,C1,f2,ar,C2,R7,eG,λv r py R8 U=>?_⟩) (λf U h8=>?_) λ_ _ z=>z.elim
     .cases f2 with
      |nx=>cases e;exact k (v.set i none) r py (R8.unset i) (y.trans (qd.ss.trans U))
      |bk=>cases e;exact k (v.set i none) r py (R8.unset i) (y.trans (qd.ss.trans U))
      |ct=>cases e;exact k (v.set i none) r py (R8.unset i) (y.trans (qd.ss.trans U))
      |rt t=>cases e;exact k (v.set i none) r py (R8.unset i) (y.trans (qd.ss.trans U))
      |ex c=>cases e
     .have back:∀{v r},Inv (Cx.at X (X.A.mark (some (.ref a))) false X.pn λ_ _=>False) aa v r U->Inv X aa v r U:=λz=>tY z I.ok λp z=>z;cases f with
      |next=>
       obtain⟨v,r,x,w⟩:=h8;exact qY (back x) hN hi hk λs9 I9=>⟨_,r,I9,w⟩
      |brk=>
       obtain⟨v,r,x,w⟩:=h8;exact qY (back x) hN hi hk λs9 I9=>⟨_,r,I9,w⟩
      |cont=>
       obtain⟨v,r,x,w⟩:=h8;exact qY (back x) hN hi hk λs9 I9=>⟨_,r,I9,w⟩
      |ret u=>
       obtain⟨v8,v,r,x,r8,w⟩:=h8;exact qY (back x) hN hi hk λs9 I9=>⟨v8,_,r,I9,r8,w⟩
    have eu:X.A.frames=some (X.env::X.outer):=by rw[I.ok.frames,bb]
    show Wa (Wb X.prog X.w) X.A (WZ (.ref a) X.env) _ X.xe M;have gz:Made B X.stack a Cl M\/ls B X.stack a Cl M\/hE B X.stack a Cl M:=way;rw[bb]at gz land;rcases gz with⟨h0,vs,st,ff,me⟩| ⟨t,F⟩|L
    .refine uU eu hf st ff me λh4 t F4 dv=>wpAny_landsW F4 λJ K O=>land J t K (dv.trans O)
    .refine wpAny_looks_onW eu hf F λh4 F4 dv=>wpAny_landsW F4 λJ K O=>land J t K (dv.trans O)
    .refine rH eu hf L λh4 t F4 dv=>wpAny_landsW F4 λJ K O=>land J t K (dv.trans O)
   .cases e
 .have back:∀{v r xe},Inv (Cx.at X X.A X.calm (X.pn++aa) xe) [] v r y->Inv X aa v r y:=λz=>tY z I.ok λp z=>by simpa using z
  cases fl1 with
  |next=>
   obtain⟨v,r,x,w⟩:=h1;exact W4 ⟨v,r,back x,w⟩
  |brk=>
   obtain⟨v,r,x,w⟩:=h1;exact⟨v,r,back x,w⟩
  |cont=>
   obtain⟨v,r,x,w⟩:=h1;exact⟨v,r,back x,w⟩
  |ret u=>
   obtain⟨v8,v,r,x,r8,w⟩:=h1;exact⟨v8,v,r,back x,r8,w⟩
end
end TL
namespace PySem.W
open PySem PySem.Spec PySem.Calls PyProof.Rows Builtin Builtin.ObjectAttr Builtin.Getset_descriptor
def zY(x C:V1)(h:V8):Prop:=∃ob,h.get? x=some ob/\ob.cls=.ref C
theorem zY.type{M:Model}{h:V8}{x C:V1}(I:zY x C h):Looks M h (typeOf (.ref x)) (.ref C):=by
 obtain⟨ob,e,a⟩:=I;exact a ▸ (Looks.ld e).andThen .now
section
variable {a:Wd}{w:Wf}{A:We}{E:Ut}{s:V4}{K:Frag}{x C D:V1}{name:Str}{R:Result->V4->Prop}
theorem L4{b:V3}(X:K.In s.heap)(I:zY x C s.heap)(c:mroIn K C (.type "object")=some true)
 (h:R (.ok (.ret (.ref C))) s):W1 (Wb a w) A (.call (.builtin "getset_descriptor.__get__") ⟨[.builtin "object.__class__",.ref x,b],[]⟩) R s:=by
 obtain⟨hh,g,dr,t,os⟩:=s;have f:=I.type (M:=Wb a w);have d:=looks_mroIn (M:=Wb a w) X c;refine codeAny_call_builtin KF.slot_gs.plain KF.entry_gs (KF.slot_gs.check _ _ _ _ _ _ _ _ KF.type_class (KF.args_gs _ _ _) ?_);unfold Wc.«getset_descriptor.__get__» descrGet;rw[dga_obj];refine V0 (V7 ?_);unfold descrGetter descrCheckInstance descrNameAndClass isInstance;simp only[KF.owner_class];repeat lk
 refine⟨Code.quiet_builtin _ (by decide+kernel),codeAny_builtin KF.entry_class ?_⟩;unfold Wc.«object.__class__» shownTypeOf;repeat lk
 exact h
end
section
variable {a:Wd}{w:Wf}{A:We}{E:Ut}{K:Frag}{x C:V1}{R:Result->V4->Prop}{h:V8}{g:Array GenState}{d:Drawn}{t:Nat}{os:OsState}
theorem SY{M:Model}{b:V3}{Q:Unit->V4->Prop}(X:K.In h)(I:zY x C h)(l:mroIn K C (.type "BaseException")=some true)(i:Q () ⟨h,g,d,t,os⟩):
 Wa M A (checkBuiltinCall "BaseException.__getattribute__" ⟨[.ref x,b],[]⟩) Q E ⟨h,g,d,t,os⟩:=by
 have j:builtinKind "BaseException.__getattribute__"=some .slot:=by decide+kernel
 have c:splitId "BaseException.__getattribute__"=some ("BaseException","__getattribute__"):=by decide+kernel
 have p:=F.args_bexc_ga (.ref x) b;have n:=I.type (M:=M);have m:Looks M h (isSubtype (.ref C) (.type "BaseException")) true:=looks_mroIn X l;obtain⟨o,f,k⟩:=I;simp only[checkBuiltinCall,j,c];refine V0 ?_
 .unfold isInstance;repeat(first|with_reducible refine n.at ?_ |with_reducible refine m.at ?_ | (with_reducible refine WV f ?_;rw[k])|wp_step)
  exact i
theorem SE{tk:Tok}{Q:Fin->V4->Prop}(X:K.In h)(I:zY x C h)(i:Xk K (.ref C) "__class__"=some (some (.builtin "object.__class__")))(c:mroIn K C (.type "object")=some true)(m:Q (.done (.ret (.ref C))) ⟨h,g,d,t,os⟩):
 Wa (Wb a w) A (Wc.«object.__getattribute__» ⟨[.ref x,.str "__class__" tk],[]⟩) Q E ⟨h,g,d,t,os⟩:=by
 have j:(⟨h,g,d,t,os⟩:V4).TypeIs (.builtin "object.__class__") "getset_descriptor":=F.typeOf_object_class;have q:=F.typeOf_object_class;have p:=F.slot_gs_get.lookup;have n:=F.slot_gs_set.lookup;have k:=looks_findIn (M:=Wb a w) X i;have l:=I;obtain⟨o,b,f⟩:=I;repeat(any_goals (first|assumption|with_reducible refine k.at ?_ | (with_reducible refine WV b ?_;rw[f])|wp_step))
 refine L4 X l c ?_;repeat(any_goals (first|assumption|wp_step))
theorem LZ{tk:Tok}{Q:Ut}(X:K.In h)(I:zY x C h)(f:Xk K (.ref C) "__getattribute__"=some (some (.builtin "BaseException.__getattribute__")))(i:Xk K (.ref C) "__getattr__"=some none)(m:mroIn K C (.type "BaseException")=some true)
 (n:Xk K (.ref C) "__class__"=some (some (.builtin "object.__class__")))(k:mroIn K C (.type "object")=some true)(r:Q (.ref C) ⟨h,g,d,t,os⟩):
 Wa (Wb a w) A (getAttrBy (.ref x) (.str "__class__" tk) false) Q E ⟨h,g,d,t,os⟩:=by
 have s:=F.excAttr_ValueError.ga.bind (.ref x);have c:(V3.builtin "BaseException.__getattribute__"==V3.builtin "object.__getattribute__")=false:=by decide+kernel
 have q:(onTheHeap (V3.ref C)&&V3.builtin "BaseException.__getattribute__"==V3.builtin "object.__getattribute__")=false:=by rw[c];rfl
 have p:=looks_findIn (M:=Wb a w) X f;have L2:=looks_findIn (M:=Wb a w) X i;have b:=I;obtain⟨o,j,l⟩:=I;repeat(any_goals (first|assumption|with_reducible refine p.at ?_ |with_reducible refine L2.at ?_ | (with_reducible refine WV j ?_;rw[l])|wp_step))
 refine codeAny_call_builtin F.excAttr_ValueError.ga.plain F.entry_bexc_ga (SY X b m (SE X b n k ?_));repeat(any_goals (first|assumption|wp_step))
theorem SI{Q:Us->V4->Prop}(X:K.In h)(I:zY x C h)(b:Xk K (.ref C) "__getattribute__"=some (some (.builtin "BaseException.__getattribute__")))(c:Xk K (.ref C) "__getattr__"=some none)(i:mroIn K C (.type "BaseException")=some true)
 (j:Xk K (.ref C) "__class__"=some (some (.builtin "object.__class__")))(f:mroIn K C (.type "object")=some true)(k:Q (some (.ref C)) ⟨h,g,d,t+1,os⟩):Wa (Wb a w) A (getAttr? (.ref x) "__class__") Q E ⟨h,g,d,t,os⟩:=by
 unfold getAttr? getAttrBy?;repeat(any_goals (first|assumption|with_reducible apply LZ X I b c i j f|wp_step))
end
theorem oo{K:Frag}{x D:V1}(o:Xk K (.ref D) "__getattribute__"=some (some (.builtin "BaseException.__getattribute__")))(p:Xk K (.ref D) "__getattr__"=some none)(v:mroIn K D (.type "BaseException")=some true)
 (w:Xk K (.ref D) "__class__"=some (some (.builtin "object.__class__")))(u:mroIn K D (.type "object")=some true)(j:(clsIn K D).isSome=true):
 KitX K (.ref x) (.ref D) (zY x D) where
 ty:=λ_ _ _ I=>I.type
 it:=λ_ _ X _=>by
  obtain⟨f,a⟩:=gD j;unfold clsIn at a;split at a
  .rename_i A y i m c;intro H F G B k q;unfold isType loadHead;exact V0 (wpAny_loadPart (k _ _ (X _ _ c)) (V7 q))
  .cases a
 ne:=λh l C r n sl X b=>by
  obtain⟨f,a⟩:=gD j;refine Bool.eq_false_iff.mpr λq=>?_;have e:D=l:=V3.ref.inj (beq_iff_eq.mp q);subst e;unfold clsIn at a;split at a
  .rename_i A y i m c;have z:=(X _ _ c).symm.trans b;cases z
  .cases a
 ca:=λ{_ _ _ _ _ s} X I k=>by
  obtain⟨h,g,d,t,os⟩:=s;exact SI X I o p v w u k
end PySem.W
namespace TL
open PySem PySem.Spec PyProof.Rows L2
def Cg(K:aK)(H:Hp)(x:V)(t:V3):Prop:=(x=.bg/\t=.type "NoneType")\/∃a C,x=.ref a/\t=.ref C/\H a=some (xg a C)/\bH K (.ref C) "__getattribute__"=some (some (.builtin "BaseException.__getattribute__"))/\bH K (.ref C) "__getattr__"=some none/\
 aZ K C (.type "BaseException")=some true/\bH K (.ref C) "__class__"=some (some (.builtin "object.__class__"))/\aZ K C (.type "object")=some true/\(d6 K C).isSome=true
def FM(K:aK)(H:Hp)(t:V3)(y:V)(b:Bool):Prop:=(∃D,y=.ref D/\dJ K t (.ref D)=some b)\/(∃c,y=.ty c/\dJ K t (.type c)=some b)\/
 ∃(p:V1)(a:List V1),y=.ref p/\H p=some (.tup (a.map V.ref))/\PySem.W.kitAny K t (a.map V3.ref)=some b
theorem Iy:∀{b:List V1}{a:Uq},au (b.map V.ref) a->a=b.map V3.ref
 | [],a,h=>by cases h;rfl
 |D::b,a,h=>by
  cases h with
  |cons r t=>cases r;rw[Iy t];rfl
section
variable {X:Cx}
variable{f:Str->Us}{d:String}{h:V8}{tab:String->List String}{rs lp:List String}
theorem Iv:mU X (.builtin "isinstance") (λxs H Q=>∃x y t b,xs=[x,y]/\Cg X.K H x t/\FM X.K H t y b/\Q (.bl b) H):=by
 intro A s m H xs Y Q I r h;obtain⟨x,y,t,b,rfl,M,L,q⟩:=h;obtain⟨u,B,rfl,v,j⟩:=r.two;have g:∀tk,EP X A m Q (.bool b) {s with toks:=tk}:=λtk=>⟨.bl b,H,I.tok tk,rfl,q⟩;have go:∀{P:V8->Prop},PySem.W.KitX X.K u t P->P s.heap->u≠ .builtin "__main__.__loader__#opaque"->Wa (Wb X.prog X.w) X.A (call (.builtin "isinstance") [u,B]) (EP X A m Q) X.xe s:=by
  intro P Z p l;rcases L with⟨D,rfl,e⟩| ⟨c,rfl,e⟩| ⟨F,Ds,rfl,hp,e⟩
  .cases j;exact Vb Z I.gh p e l g
  .cases j;exact Vb Z I.gh p e l g
  .cases j;obtain⟨_,K,G,o,N,w,n,i⟩:=I.aF F _ hp;rw[Iy G]at i;obtain⟨oc,od,J,E⟩:=o;dsimp only at w i;subst w i;exact PySem.W.kia_tup Z I.gh p N e l g
 rcases M with⟨rfl,rfl⟩| ⟨a,C,rfl,rfl,O,g1,g2,g3,U,S,R⟩
 .cases v;exact go PySem.W.kitx_none True.intro λz=>nomatch z
 .cases v;obtain⟨k,_⟩:=I.aF a _ O;exact go (PySem.W.oo g1 g2 g3 U S R) k λz=>nomatch z
theorem P6(D:V1)(K:aK):dE K (.type "NoneType") (.ref D)=some false:=by
 have e:PySem.fastBuiltinMro "NoneType"=some [.type "NoneType",.type "object"]:=by kernel_rfl
 show(PySem.fastBuiltinMro "NoneType").map _=_;rw[e];rfl
theorem ro{K:aK}{D:V1}(X:K.In h)(E:h5 K f d D/\b7 K (.ref D)=some (.type "type")):((d6 K D).isSome&&b7 K (.ref D)==some (.type "type"))=true:=by
 obtain⟨_,_,_,a⟩:=pY X E.1.ok;rw[a,E.2];rfl
theorem Ql{K:aK}{D:V1}(X:K.In h)(E:h5 K f d D/\b7 K (.ref D)=some (.type "type")):dJ K (.type "NoneType") (.ref D)=some false:=by
 unfold dJ UN;rw[V9 (by simp)];dsimp only;rw[V6 (ro X E)];exact P6 D K
theorem MX{K:aK}(T:Tab K f tab rs lp){c:String}{C D:V1}(X:K.In h)(b:c∈rs)(i:d∈lp)(a:Named K c C)(E:h5 K f d D/\b7 K (.ref D)=some (.type "type")):
 dJ K (.ref C) (.ref D)=some ((tab c).contains d):=by
 have s:=T.sub c C d D b i a E.1.nm;unfold dJ UN;by_cases e:(V3.ref C==V3.ref D)=true
 .rw[V6 e];obtain⟨up,_,g,_⟩:=pY X (T.cls c C b a).1;have:=g _ _ s;rw[Vv,BEq.comm,e]at this;rw[<-this];rfl
 .rw[V9 e];dsimp only;rw[V6 (ro X E)];exact s
theorem GK{K:aK}{n:List String}(T:Tab K f tab rs lp){fa:FE}{p:L2.St}{H:Hp}{Q:VK}(h:aD K (uI tab n fa) p H Q):
 aD K fa p H λx o=>∃t b,(∀g,aG o g->Cg K g x t/\Q (.bl b) g)/\((t=.type "NoneType"/\b=false)\/∃c C,c∈rs/\Named K c C/\t=.ref C/\b=n.any λd=>(tab c).contains d):=by
 refine h9 (EF h) λx o q=>?_;obtain⟨t0,w,Z,y,M,C,t,O,R,r,e,k⟩:=q;obtain⟨_,_,z,j,r⟩:=r.cons_inv;cases z;obtain⟨b,i,e⟩:=eX e;cases e;have s:∀g,aG o g->Q (.bl b) g:=λg sm=>by
  obtain⟨L,st⟩:=R.same sm;exact k _ g y L .bl st
 cases t0 with
 |bg=>
  cases i;exact⟨_,_,λg sm=>⟨.inl ⟨j.ir,rfl⟩,s g sm⟩,.inl ⟨rfl,rfl⟩⟩
 |exc c=>
  have m:(if tab c=[]then none else some (n.any λd=>(tab c).contains d))=some b:=i;clear i;split at m
  .cases m
  .rename_i F;cases m;unfold RT at j;obtain⟨a,Cl,G,u,A⟩:=j;have v:=T.Gj c F;obtain⟨g1,g2,g3,D,B,l⟩:=T.cls c Cl v u;have J:(d6 K Cl).isSome=true:=by
    unfold aZ at l;obtain⟨N,I,_⟩:=eW l;rw[I];rfl
   exact⟨.ref Cl,_,λg sm=>⟨.inr ⟨a,Cl,G,rfl,sm _ _ (gK A).2.2,g2,g3,D,B,l,J⟩,s g sm⟩,.inr ⟨c,Cl,v,u,rfl,rfl⟩⟩
 |_=>cases i
variable {tab:String->List String}{rs lp:List String}{a:Wg}{fa:FE}{p pos i g:Pos}{d:String}{j:List String}{l:Uu}
theorem uO(T:Tab X.K X.mg tab rs lp)(y:X.mg "isinstance"=none)(B:QE X a fa)(n:d∈lp:=by decide)(z:Gl X "isinstance":=by rfl)(v:Gl X (Str.ofString d):=by rfl)(G:(Str.ofString d==("__debug__":Str))=false:=by decide)
 (o:V2 [a,.Name (Str.ofString d) g] X.env=(false,Wh a X.env)::V2 [.Name (Str.ofString d) g] X.env:=by rfl)(F:(Wj pos (V2 [.Name (Str.ofString d) g] X.env)).any (·.1)=false:=by rfl):
 QE X (.Call (.Name "isinstance" p) [a,.Name (Str.ofString d) g] [] pos) (uI tab [d] fa):=by
 obtain⟨D,k⟩:=T.own d n;intro J s u H Q I h;refine(p8 Iv z y boot_isinstance (jZ B (jZ (yG (v:=.ref D) v k.1.mg rfl G) oF rfl) o) (by decide) (by decide) o F) J s u H Q I ?_;refine h9 (GK T h) λx r q=>?_;obtain⟨t,b,m,A⟩:=q;refine⟨x,.ref D,t,b,rfl,(m r (.refl _)).1,.inl ⟨D,rfl,?_⟩,(m r (.refl _)).2⟩;rcases A with⟨rfl,rfl⟩| ⟨c,C,e,w,rfl,rfl⟩
 .exact Ql I.gh k
 .rw[MX T I.gh e n w k];simp
theorem Nn(T:Tab X.K X.mg tab rs lp)(y:X.mg "isinstance"=none)(k:X.mg "ValueError"=none)(B:QE X a fa)(z:Gl X "isinstance":=by rfl)(u:Gl X "ValueError":=by rfl)
 (n:V2 [a,.Name "ValueError" g] X.env=(false,Wh a X.env)::V2 [.Name "ValueError" g] X.env:=by rfl)(D:(Wj pos (V2 [.Name "ValueError" g] X.env)).any (·.1)=false:=by rfl):
 QE X (.Call (.Name "isinstance" p) [a,.Name "ValueError" g] [] pos) (uI tab ["ValueError"] fa):=by
 intro F s r H Q I h;refine(p8 Iv z y boot_isinstance (jZ B (jZ (Pl (v:=.ty "ValueError") u k PyProof.Rows.Boot.ValueError rfl (by decide) (by decide)) oF rfl) n) (by decide) (by decide) n D) F s r H Q I ?_;refine h9 (GK T h) λx o q=>?_;obtain⟨t,b,m,A⟩:=q;refine⟨x,.ty "ValueError",t,b,rfl,(m o (.refl _)).1,.inr (.inl ⟨"ValueError",rfl,?_⟩),(m o (.refl _)).2⟩;have v:PySem.W.kitMeta "ValueError"=true:=by kernel_rfl
 rcases A with⟨rfl,rfl⟩| ⟨c,C,e,w,rfl,rfl⟩
 .kernel_rfl
 .unfold dJ UN;rw[V9 (by simp)];dsimp only;rw[V6 v,T.ve c C e w];simp
end
theorem J6{K:aK}{W:XW}{d:L2.St}{H:Hp}{j:FE}{x:XF}(h:jt K W (BZ j x) d H):aD K j d H λv f=>Dj K "list" v f/\jt K W x d f:=by
 obtain⟨b,Z,n,g,C,c,B,R,e,k⟩:=h;obtain⟨⟨t,m⟩,u,e⟩:=eW e;refine⟨b,Z,n,g,C,t,m,R,u,λv f z l i p=>?_⟩;dsimp only at e;split at e
 .obtain⟨D,s,e⟩:=eW e;refine⟨?_,b,Z,z,g,m,c,B,l,e,λA y R2 o=>k A y R2 (p.trans o)⟩;unfold RT at i;obtain⟨a,r,q⟩:=i;obtain⟨vs,w,c3⟩:=l.l6 q (i5 s);rw[r];exact .inl ⟨rfl,vs,.of w⟩
 .cases e
section
variable {X:Cx}{a e:Wg}{b:Uu}{fa:FE}{x:XF}{pos:Pos}
theorem La{d c:Pos}(g:QE X a fa)(h:XA X (e::b) x)(f:Wy (.Call (.Attribute a "append" d) (e::b) [] c) none pos.line X.env=pure false:=by rfl)(k:Wv a "append" X.env (Wh a X.env)=Wh a X.env:=by rfl)
 (i:((Wj c (V2 (e::b) X.env)).all (λx=> !x.1)&&(WX c (WC [] X.env)).all (λx=>x.1.isSome)
  &&decide ((e::b).length+([]:List WG).length+(if([]:List WG).isEmpty then 0 else 1)<30))=true:=by rfl)
 (j:(d.endLine==c.line)=true:=by rfl)(l:V2 (e::b) X.env=(false,Wh e X.env)::V2 b X.env:=by rfl)(m:(Wj c (V2 b X.env)).any (·.1)=false:=by rfl):
 XS X (.Expr (.Call (.Attribute a "append" d) (e::b) [] c) pos) (BZ fa x):=
 (tI (wK PySem.F.plainAttrs_list PySem.F.slot_list_append PySem.F.type_list_append Ha g h k i j l m) f).imp λ_ _ _=>J6
theorem Me{y:Str}{c:Pos}(k:X.N.Nodup)(i:Nat)(h:XE X a x)(g:X.N[i]?=some y:=by rfl)(d:Loc X.env.scope y:=by first|exact Uv rfl|exact dZ rfl)(f:Wy a (some (.Name y c)) pos.line X.env=pure false:=by rfl)(j:X.fn y=true\/X.env.scope.names.lookup y=some .local:=by first|exact .inl rfl|exact .inr rfl):
 XS X (.Assign [.Name y c] a pos) x:=Hn k g d h f j
theorem j3{c:String}{d:Wg}{rest:Uu}{h g:Pos}{f:FN}(D:∃C,h5 X.K X.mg c C)(l:X.calm=true)(m:QA X (d::rest) f)(i:Gl X (Str.ofString c):=by rfl)(k:(Str.ofString c==("__debug__":Str))=false:=by decide)
 (j:V2 (d::rest) X.env=(false,Wh d X.env)::V2 rest X.env:=by rfl)(o:(Wj g (V2 rest X.env)).any (·.1)=false:=by rfl):
 QS X (.Raise (some (.Call (.Name (Str.ofString c) h) (d::rest) [] g)) none pos) (lF c f):=by
 obtain⟨C,n⟩:=D;exact Qg n l m i k j o
end
section
variable {X:Cx}{e:Wg}{a:Uu}{b:FN}{p pos:Pos}
end
theorem qO{K:aK}{c:String}{C D:V1}(h:Named K c C)(a:Named K c D):C=D:=by
 unfold Named at h a;rw[h]at a;cases a;rfl
theorem Tab.of{K:aK}{mg:Str->Us}{a:String->List String}{rl dl:List (String×V1)}(h:∀p∈rl,Named K p.1 p.2)(j:∀c,a c≠[]->c∈rl.map (·.1))
 (b:∀p∈dl,h5 K mg p.1 p.2/\b7 K (.ref p.2)=some (.type "type"))
 (k:∀p∈rl,cQ K p.2 mroVE "ValueError.__new__"=true/\bH K (.ref p.2) "__getattribute__"=some (some (.builtin "BaseException.__getattribute__"))/\bH K (.ref p.2) "__getattr__"=some none/\aZ K p.2 (.type "BaseException")=some true/\bH K (.ref p.2) "__class__"=some (some (.builtin "object.__class__"))/\aZ K p.2 (.type "object")=some true)
 (m:∀p∈rl,dE K (.ref p.2) (.type "ValueError")=some ((a p.1).contains "ValueError"))
 (sub:∀p∈rl,∀q∈dl,aZ K p.2 (.ref q.2)=some ((a p.1).contains q.1)):Tab K mg a (rl.map (·.1)) (dl.map (·.1)):=by
 refine⟨j,λd i=>?_,λc C g f=>?_,λc C g f=>?_,λc C d D g i f n=>?_⟩
 .obtain⟨p,hp,rfl⟩:=fQ i;exact⟨p.2,b p hp⟩
 .obtain⟨p,hp,rfl⟩:=fQ g;rw[qO f (h p hp)];exact k p hp
 .obtain⟨p,hp,rfl⟩:=fQ g;rw[qO f (h p hp)];exact m p hp
 .obtain⟨p,hp,rfl⟩:=fQ g;obtain⟨q,l,rfl⟩:=fQ i;rw[qO f (h p hp),qO n (b q l).1.nm];exact sub p hp q l
theorem all1{b:Type}{P:b->Prop}{a:b}{c:List b}(h:P a)(d:∀x∈c,P x):∀x∈a::c,P x:=List.forall_mem_cons.mpr ⟨h,d⟩
theorem hW{a:Type}{P:a->Prop}:∀x∈([]:List a),P x:=λ_ z=>nomatch z
section
variable {X:Cx}{a b e de:Wg}{fa fb:FE}{x:XF}{p pos kp:Pos}
end
end TL
namespace TL
open PySem L2
def mF(fa:FN):FE:=mR fa λa C=>if a.length<=lim then some (.tup a,C)else none
section
variable {K:aK}{W:XW}{a:St}{H:Hp}
theorem Nk{fa:FN}{Q:VK}(l:lim<=sizeLine)(h:aD K (mF fa) a H Q):zi (gn K fa) a H Q:=by
 obtain⟨b,Z,g,f,C,i,u,R,e,k⟩:=C6 h;refine⟨b,Z,g,f,C,i,u,R,e,λvs s n q m j=>?_⟩;obtain⟨v,d,x,o,w,z,t,y,c,r,e,k⟩:=k vs s n q m j;split at e
 .rename_i hl;cases e;exact⟨by rw[r.length];exact aX hl l,λp hp=>k _ _ o (c.alloc hp).1 (c.gf hp r) (c.alloc hp).2⟩
 .cases e
end
end TL
namespace TL
open PySem PySem.Spec PyProof.Rows L2
section
variable {X:Cx}{a b c e:Wg}{d:Uu}{fa fb fc:FE}{f:FN}{p pos:Pos}
theorem mP{k}(h:QA X d f):QE X (.Tuple d k pos) (mF f):=(Np h).imp λ_ _ _=>Nk jC
end
end TL
namespace TL
open PySem L2
end TL
namespace TL
open PySem PySem.Spec PyProof.Rows L2
section
variable {X:Cx}{e:Wg}{a:Uu}{b:FN}{p pos:Pos}
end
end TL
namespace TL
open PySem L2
end TL
namespace TL
open PySem PySem.Spec PyProof.Rows L2
section
variable {X:Cx}{a b:Wg}{fa fb:FE}{p pos:Pos}
end
end TL
namespace TL
open PySem L2
noncomputable def mN(F:tl->Option (Option tl))(b:tl):Option tl:=match F b with
 |some (some a)=>some a
 |_=>none
end TL
namespace TL
open PySem PySem.Spec PyProof.Rows L2
section
variable {K:aK}{a:L2.St}{H:Hp}
end
section
variable {X:Cx}{a b e:Wg}{c:Uu}{fa fb:FE}{d:FN}{p pos:Pos}
end
section
variable {X:Cx}{a b:Ur}{is:Uo}{c:WD}{d:List (Str×V1)}{x:Str}
end
section
variable {X:Cx}{p a pos:Pos}{b aA:Ur}{is:Uo}{c:WD}{d:List (Str×V1)}{f iter h:Wg}{i:Uu}{j l:FE}{g:FG}{m:FB}{n:Str}
end
end TL
namespace TL
open PySem L2
section
variable {K:aK}{M:Hp}{a b:bo}{k:Nat}
end
section
variable {K:aK}{W:XW}{a:St}{H:Hp}{Q:VK}{D:Ends}
theorem Rel.locals{b:Hp}{Z:V1->Prop}{f:bo}{g:aB}{C:aq}{c:tl}{vs:Uh}{m:Nat}(R:Rel K b Z f g C a H)(h:ax K (mask H Z f) f c vs):
 Rel K b Z f (gg m c) C (vs.map some++aS (m - vs.length) none) H:=by
 refine⟨R.old,R.aA,R.nd,R.zd,λi t e=>?_,R.hH,R.len,by simp[gg,h.length]⟩;unfold gg at e;have d:i<c.length:=by
  by_cases d:i<c.length
  .exact d
  .rw[bP (by simpa using d),b3]at e;split at e<;>cases e
 rw[bK (by simpa using d),bF]at e;cases q:c[i]?with
 |none=>rw[q]at e;cases e
 |some u=>
  rw[q]at e;cases e;obtain⟨v,k,j⟩:=h.get q;refine⟨v,?_,j⟩;rw[bK (by simpa[h.length]using d),bF,k];rfl
end
end TL
namespace TL
open PySem PySem.Spec PyProof.Rows L2
section
variable {X:Cx}{e:Wg}{c:Uu}{d:FN}{p pos f:Pos}
section
variable {h aA:Ur}{is:Uo}{i:WD}{j:List (Str×V1)}{l a b:Wg}{m n:Uu}{tk}{o q r:Pos}{fa fb s:FE}{g:FG}{u:FB}{x:Str}
end
end
end TL
namespace TL
open PySem L2
noncomputable def du{a:Type}(f:Str):Ur->List a->Option a
 |n::c,t::b=>if f=n then some t else du f c b
 |_,_=>none
noncomputable def pn(f:Str):Ur->Ur
 | []=>[f]
 |n::a=>if n=f then n::a else n::pn f a
noncomputable def pv{a:Type}(f:Str)(t:a):Ur->List a->List a
 | [],_=>[t]
 |n::c,x::b=>if n=f then t::b else x::pv f t c b
 |_::_,[]=>[]
theorem tT{f:Str}:∀{a:Ur}{vs:Uh},(a.zip vs).lookup f=du f a vs
 | [],_=>rfl
 |_::_,[]=>rfl
 |n::a,v::vs=>by
  rw[bO,cP];unfold du;by_cases h:f=n
  .rw[V6 h,beq_iff_eq.mpr h]
  .rw[V9 h,(beq_eq_false_iff_ne).mpr h];exact tT
theorem HM{f:Str}{v:V}:∀{a:Ur}{vs:Uh},a.length=vs.length->oB f v (a.zip vs)=(pn f a).zip (pv f v a vs)
 | [],_,_=>rfl
 |_::_,[],h=>by cases h
 |n::a,x::vs,h=>by
  rw[bO];unfold oB pn pv;split
  .rfl
  .rw[HM (by simpa using h),bO]
theorem Hr{c:Type}{f:Str}{t:c}:∀{a:Ur}{b:List c},a.length=b.length->(pn f a).length=(pv f t a b).length
 | [],_,_=>rfl
 |_::_,[],h=>by cases h
 |n::a,x::b,h=>by
  have d:a.length=b.length:=by simpa using h
  unfold pn pv;split
  .simpa using d
  .simpa using Hr d
section
variable {K:aK}{M:Hp}{a:bo}
theorem ax.du{f:Str}:∀{c:Ur}{b:tl}{vs:Uh}{t:T},ax K M a b vs->TL.du f c b=some t->∃v,TL.du f c vs=some v/\RT K M a t v
 | [],b,vs,t,_,e=>by unfold TL.du at e;cases e
 |_::_,[],vs,t,_,e=>by unfold TL.du at e;cases e
 |n::c,x::b,vs,t,h,e=>by
  obtain⟨v,r,rfl,i,g⟩:=h.cons_inv;unfold TL.du at e|-;split at e
  .rename_i d;cases e;exact⟨v,V6 d,i⟩
  .rename_i d;rw[V9 d];exact ax.du g e
theorem ax.pv{f:Str}{t:T}{v:V}(d:RT K M a t v):∀{b:Ur}{c:tl}{vs:Uh},ax K M a c vs->ax K M a (TL.pv f t b c) (TL.pv f v b vs)
 | [],_,_,_=>.cons d .nil
 |n::b,[],vs,h=>by rw[h.nil_inv];exact .nil
 |n::b,x::c,vs,h=>by
  obtain⟨u,r,rfl,i,g⟩:=h.cons_inv;unfold TL.pv;split
  .exact .cons d g
  .exact .cons i (ax.pv d g)
end
noncomputable def oc(a:String)(C:aq):T->Option (Nat×Ur×tl)
 | .cell c=>(C[c]?).bind λx=>match x.1 with
   | .o k b=>if k=a then some (c,b,x.2)else none
   |_=>none
 |_=>none
theorem Ov{a:String}{C:aq}{t:T}{c:Nat}{d:Ur}{b:tl}(h:oc a C t=some (c,d,b)):t=.cell c/\C[c]?=some (.o a d,b):=by
 unfold oc at h;split at h
 .obtain⟨⟨k,g⟩,e,h⟩:=eW h;dsimp only at h;split at h
  .split at h
   .rename_i f;cases h;cases f;exact⟨rfl,e⟩
   .cases h
  .cases h
 .cases h
def mQ(K:aK)(a:String)(f:Str):Prop:=∀C,aW K V5 (Str.ofString a)=some (some (.ref C))->n1 K C/\oV K C f
def CG(a:String)(f:Str)(t:T)(C:aq):Option (T×aq):=(oc a C t).bind λx=>(du f x.2.1 x.2.2).map λu=>(u,C)
abbrev mM(b:String)(f:Str)(a:FE):FE:=ry a (CG b f)
def pS(a:String)(f:Str)(c d:FE):FS:=λb C=>(d b C).bind λp=>(c b p.2).bind λq=>(oc a q.2 q.1).bind λx=>if x.2.1.length<900 then some (.nx,b,q.2.set x.1 (.o a (pn f x.2.1),pv f p.1 x.2.1 x.2.2))else none
section
variable {K:aK}{W:XW}{d:St}{H:Hp}{Q:VK}{D:Ends}{b:String}{f:Str}
theorem Rel.oc{i:Hp}{Z:V1->Prop}{g:bo}{m:aB}{C:aq}{t:T}{v:V}{c:Nat}{j:Ur}{k:tl}(R:Rel K i Z g m C d H)(h:RT K (mask H Z g) g t v)(e:TL.oc b C t=some (c,j,k)):
 ∃a Cl dx vs,v=.ref a/\g[c]?=some a/\j.length=vs.length/\aW K V5 (Str.ofString b)=some (some (.ref Cl))/\H a=some (.ins Cl dx (j.zip vs))/\ax K (mask H Z g) g k vs:=by
 obtain⟨rfl,w⟩:=Ov e;unfold RT at h;obtain⟨a,u,q⟩:=h;obtain⟨x,vs,ob,l,s,r,p⟩:=R.hH c a q;rw[w]at l;cases l;obtain⟨hl,Cl,dx,o,n⟩:=r;subst n;exact⟨a,Cl,dx,vs,u,q,hl,o,s,p⟩
theorem JM{fa:FE}(o:mQ K b f)(h:aD K (mM b f fa) d H Q):Ad K (aD K fa) f d H Q:=by
 refine h9 (EF h) λx G q=>?_;obtain⟨L,g,Z,i,I,C,t,N,R,r,e,k⟩:=q;obtain⟨_,_,z,l,r⟩:=r.cons_inv;cases z;unfold CG at e;obtain⟨⟨c,M,J⟩,F,e⟩:=eW e;obtain⟨u,B,e⟩:=eX e;cases e;obtain⟨a,Cl,dx,vs,y,q,hl,n,p,m⟩:=R.oc l F;obtain⟨v,A,j⟩:=m.du B;obtain⟨w,s⟩:=o Cl n;exact⟨a,Cl,dx,_,v,y,p,w,s,by rw[tT];exact A,k v G i R j .refl⟩
theorem JQ{p r:FE}(I:mQ K b f)(h:ey K W (pS b f p r) D d H):Ao K (aD K p) (aD K r) f D d H:=by
 obtain⟨g,Z,t,l,C,fl,ao,C',R,e,k⟩:=h;unfold pS at e;obtain⟨⟨z,s⟩,P,e⟩:=eW e;obtain⟨⟨w,Y⟩,O,e⟩:=eW e;obtain⟨⟨c,i,E⟩,N,e⟩:=eW e;dsimp only at e;split at e
 .rename_i j;cases e;refine⟨g,Z,t,l,C,z,s,R,P,λy H1 U X L A=>?_⟩;refine⟨g,Z,U,l,s,w,Y,X,O,λx H2 S R2 J m=>?_⟩;obtain⟨a,Cl,dx,vs,M,q,hl,n,o,G⟩:=R2.oc J N;obtain⟨F,B⟩:=I Cl n;obtain⟨v,u⟩:=R2.put (kd:=.o b (pn f i)) (ob:=.ins Cl dx ((pn f i).zip (pv f y i vs))) q (by rw[o];trivial) ⟨Hr hl,Cl,dx,n,rfl⟩ (G.pv (L.step m));exact⟨a,Cl,dx,_,M,o,F,B,by rw[cJ];exact dB (UQ i.length vs.length) (bC j (by decide)),by rw[HM hl];exact k d _ S v ((A.trans m).ss.trans u)⟩
 .cases e
end
end TL
namespace TL
open PySem PySem.Spec PyProof.Rows L2
section
variable {X:Cx}{e o value:Wg}{fa b c:FE}{a:String}{f:Str}{pos d g:Pos}
theorem mB(i:mQ X.K a f)(h:QE X e fa)(j:Wv e f X.env (Wh e X.env)=Wh e X.env:=by rfl):QE X (.Attribute e f pos) (mM a f fa):=(K2 h j).imp λ_ _ _=>JM i
theorem y3(k:mQ X.K a f)(j:QE X o b)(h:QE X value c)(i:Wy value (some (.Attribute o f d)) pos.line X.env=pure false:=by rfl):QS X (.Assign [.Attribute o f d] value pos) (pS a f b c):=(Mu j h i).imp λ_ _ _=>JQ k
end
end TL
namespace TL
open PySem L2
def spS(K:aK)(n:Nat)(G:tl->aq->Option (T×aq)):Sp:=λvs H Q _=>∃a Z b f C σ ts r g,Rel K a Z b f C σ H/\ax K (mask H Z b) b ts vs/\ts.length=n/\G ts C=some (r,g)/\
 ∀v d c,Rel K a Z c f g σ d->RT K (mask d Z c) c r v->Step H d b c->Q v d
def nN(B:FS)(m:Nat)(b:tl)(C:aq):Option (T×aq):=match B (gg m b) C with
 |some (.nx,_,a)=>some (.bg,a)
 |some (.rt r,_,a)=>some (r,a)
 |_=>none
section
variable {K:aK}{W:XW}{σ:St}{H:Hp}{Q:VK}{D:Ends}
variable{G:tl->aq->Option (T×aq)}{fa:FN}{b:String}{d:V1}
theorem tR{n:Nat}:∀vs H Q E,spS K n G vs H Q E->vs.length=n:=λvs H Q E c=>by obtain⟨a,Z,g,f,C,σ,i,r,j,R,rr,h,_⟩:=c;rw[rr.length,h]
theorem Rel.back{a:Hp}{Z:V1->Prop}{j f:bo}{h n:aB}{C k:aq}{o:St}{g:Hp}(R:Rel K a Z j h C σ H)(c:Rel K a Z f n k o g)(s:Step H g j f):Rel K a Z f h k σ g:=
 ⟨c.old,c.aA,c.nd,c.zd,λi t e=>let ⟨v,m,l⟩:=R.loc i t e;⟨v,m,l.step s⟩,c.hH,c.len,R.mx⟩
theorem xV{n m:Nat}{F:FS}{vs:Uh}{E:XK}(h:spS K n (nN F m) vs H Q E):
 ey K W F {nx:=λ_ f=>Q .bg f,rt:=Q} (vs.map some++aS (m - vs.length) none) H:=by
 obtain⟨a,Z,o,y,C,s,p,r,q,R,rr,z,e,k⟩:=h;unfold nN at e;split at e
 .rename_i i x g;cases e;refine⟨a,Z,o,gg m p,C,.nx,i,q,R.locals rr,g,λw f j l c=>?_⟩;exact k .bg f j (R.back l c) .bg c
 .rename_i u i x g;cases e;refine⟨a,Z,o,gg m p,C,.rt r,i,q,R.locals rr,g,λw f j l c=>?_⟩;exact λv t=>k v f j (R.back l c) t c
 .cases e
noncomputable def pL(n:Nat)(G:tl->aq->Option (T×aq))(a:tl)(C:aq):Option (T×aq):=if a.length=n then G a C else none
abbrev oH(n:Nat)(G:tl->aq->Option (T×aq))(fa:FN):FE:=mR fa (pL n G)
theorem tN{n:Nat}{vs:Uh}{E:XK}(h:∃ts,fh K σ ts vs (pL n G ts) H Q):spS K n G vs H Q E:=by
 obtain⟨ts,a,Z,f,c,C,t,o,R,r,e,k⟩:=h;unfold pL at e;split at e
 .rename_i i;exact⟨a,Z,f,c,C,σ,ts,t,o,R,r,i,e,λv m j l g s=>k v m j l g s⟩
 .cases e
theorem Ow{n:Nat}{E:XK}(h:aD K (oH n G fa) σ H Q):Fe (spS K n G) [] E (gn K fa) σ H Q:=
 lI (C6 h) λvs _ q=>by rw[aT];exact tN q
def k6(b:String)(m:Str)(n:Nat)(G:tl->aq->Option (T×aq))(c:FE)(fa:FN):FE:=λa C=>(c a C).bind λp=>(oc b p.2 p.1).bind λx=>match du m x.2.1 x.2.2 with
 |some _=>none
 |none=>(fa a p.2).bind λq=>pL n G (p.1::q.1) q.2
theorem rG{i g:Type}{f:Str}:∀{c:Ur}{a:List i}{vs:List g},a.length=vs.length->du f c a=none->du f c vs=none
 | [],_,_,_,_=>by unfold du;rfl
 |_::_,[],[],_,_=>by unfold du;rfl
 |_::_,[],_::_,h,_=>by cases h
 |_::_,_::_,[],h,_=>by cases h
 |n::c,t::a,v::vs,h,e=>by
  unfold du at e|-;split at e
  .cases e
  .rename_i j;rw[V9 j];exact rG (by simpa using h) e
theorem MA{m:Str}{n:Nat}{r:FE}{E:XK}(L:aW K V5 (Str.ofString b)=some (some (.ref d)))(h:aD K (k6 b m n G r fa) σ H Q):Aa d m (spS K n G) [] E (aD K r) (gn K fa) σ H Q:=by
 obtain⟨f,Z,A,g,C,t,C',R,e,k⟩:=h;unfold k6 at e;obtain⟨⟨j,z⟩,S,e⟩:=eW e;obtain⟨⟨c,ns,ts⟩,u,e⟩:=eW e;dsimp only at u e;split at e
 .cases e
 .rename_i J;obtain⟨⟨i,y⟩,s,e⟩:=eW e;dsimp only at s e;refine⟨f,Z,A,g,C,j,z,R,S,λx H1 Y w p F=>?_⟩;obtain⟨a,Cl,dx,vs,P,q,hl,o,M,I⟩:=w.oc p u;rw[L]at o;cases o;refine⟨a,dx,_,P,M,by rw[tT];exact rG (by rw[I.length]) J,?_⟩;refine⟨f,Z,Y,g,z,i,y,w,s,λws H2 X R2 O l=>?_⟩;dsimp only;rw[aT];exact tN ⟨j::i,f,Z,X,g,y,t,C',R2,.cons (p.step l) O,e,λv H3 U R3 N B=>k v H3 U R3 N ((F.trans l).trans B)⟩
def zL(b:String)(n:Nat)(G:tl->aq->Option (T×aq))(jb:tl)(fa:FN):FE:=λa C=>(fa a C).bind λp=>(pL n G (.cell p.2.length::(p.1++jb)) (p.2++[(.o b [],[])])).bind λq=>match q.1 with
 | .bg=>some (.cell p.2.length,q.2)
 |_=>none
theorem K6{n:Nat}{jb:tl}{q:Uh}{E:XK}(z:aW K V5 (Str.ofString b)=some (some (.ref d)))(y:∀M c,ax K M c jb q)
 (h:aD K (zL b n G jb fa) σ H Q):qz d (spS K n G) q E (gn K fa) σ H Q:=by
 obtain⟨a,Z,c,i,C,t,Y,R,e,k⟩:=h;unfold zL at e;obtain⟨⟨ts,g⟩,J,e⟩:=eW e;obtain⟨⟨r,X⟩,p,e⟩:=eW e;dsimp only at p e;split at e
 .cases e;refine⟨a,Z,c,i,C,ts,g,R,J,λvs U L P B u x dx w f I=>?_⟩;obtain⟨R2,m⟩:=P.alloc (o:=.own x) f;have s:upd U dx (.own x) x=none:=by rw[fL (Ne.symm I)];exact w
  obtain⟨O,l,o⟩:=R2.hA (kd:=.o b []) (ts:=[]) (vs:=[]) (ob:=.ins d dx []) s ⟨rfl,d,dx,z,rfl⟩ .nil;refine tN (σ:=σ) ⟨.cell g.length::(ts++jb),a,Z,L++[x],i,g++[(.o b [],[])],.bg,_,O,.cons o (((B.step m).step l).append (y _ _)),p,λv S F N A j=>⟨A.ir,?_⟩⟩;exact k _ S F N (o.step j) (((u.trans m).trans l).trans j)
 .cases e
end
end TL
namespace L2
open PySem PySem.Spec PyProof.Rows
section
variable {c:Type}[DecidableEq c]
variable{p:c×V}{r kvs:List (c×V)}{u:V3}
noncomputable def pI(kvs:List (c×V))(k:c):Ui:=(kvs.find? λa=>decide (a.1=k)).map (·.2)
noncomputable def putK(kvs:List (c×V))(k:c)(v:V):List (c×V):=
 if(kvs.any λa=>decide (a.1=k))=true then kvs.map (λa=>if a.1=k then(a.1,v)else a)else kvs++[(k,v)]
noncomputable def vC(kvs:List (c×V))(k:c):List (c×V):=kvs.filter λa=>decide (a.1≠k)
theorem qJ{k:c}(e:p.1=k):pI (p::r) k=some p.2:=by simp[pI,cF,e]
theorem oK{k:c}(e:¬p.1=k):pI (p::r) k=pI r k:=by simp[pI,cF,e]
theorem Iu(k:c):∀kvs:List (c×V),(kvs.any λa=>decide (a.1=k))=(pI kvs k).isSome
 | []=>rfl
 |p::r=>by
  rw[eP];by_cases e:p.1=k
  .simp only[qJ e,decide_eq_true e,Bool.true_or,Vi]
  .rw[oK e,decide_eq_false e,Bool.false_or];exact Iu k r
theorem sH(kvs:List (c×V))(k:c)(v:V):(putK kvs k v).length<=kvs.length+1:=by
 unfold putK;split
 .rw[aQ];lia
 .rw[bN,aO,aP];lia
theorem oN.gd{o:Ui}{u:Us}(r:oN o u):o.isSome=u.isSome:=by
 cases o with
 |none=>cases u with
  |none=>rfl
  |some _=>exact(show False from r).elim
 |some _=>cases u with
  |none=>exact(show False from r).elim
  |some _=>rfl
theorem KV.val{vs:List (c×V3)}(r:KV kvs vs)(k:c):oN (pI kvs k) (WW vs k):=by
 unfold KV at r;induction r with
 |nil=>exact True.intro
 | @cons p q ps a h t ih=>
   obtain⟨f,g⟩:=h;by_cases e:p.1=k
   .have d:q.1=k:=f.symm.trans e;have b:WW (q::a) k=some q.2:=by simp[WW,cF,d]
    rw[qJ e,b];exact g
   .have d:¬q.1=k:=λz=>e (f.trans z);have b:WW (q::a) k=WW a k:=by simp[WW,cF,d]
    rw[oK e,b];exact ih
theorem KV.any{vs:List (c×V3)}(r:KV kvs vs)(k:c):(kvs.any λa=>decide (a.1=k))=vs.any λa=>decide (a.1=k):=by
 unfold KV at r;induction r with
 |nil=>rfl
 |cons h t ih=>rw[eP,eP,ih,h.1]
theorem KV.ud{vs:List (c×V3)}(r:KV kvs vs)(k:c){y:V}(d:RelV y u):
 KV (kvs.map λa=>if a.1=k then(a.1,y)else a) (vs.map λa=>if a.1=k then(a.1,u)else a):=by
 unfold KV at r|-;induction r with
 |nil=>exact .nil
 | @cons p q ps g h t ih=>
   rw[aN,aN];refine .cons ?_ ih;obtain⟨b,f⟩:=h;by_cases e:p.1=k
   .rw[V6 e,V6 (b.symm.trans e)];exact⟨b,d⟩
   .rw[V9 e,V9 (λz=>e (b.trans z))];exact⟨b,f⟩
theorem KV.put{vs:List (c×V3)}(r:KV kvs vs)(k:c){y:V}(a:RelV y u):KV (putK kvs k y) (stored vs k u):=by
 unfold putK stored;rw[r.any k];by_cases e:(vs.any λb=>decide (b.1=k))=true
 .rw[V6 e,V6 e];exact r.ud k a
 .rw[V9 e,V9 e];exact Paired.snoc r ⟨rfl,a⟩
theorem KV.drop{vs:List (c×V3)}(r:KV kvs vs)(k:c):KV (vC kvs k) (without vs k):=by
 unfold KV at r|-;unfold vC without;induction r with
 |nil=>exact .nil
 | @cons p q ps i h t ih=>
   obtain⟨d,f⟩:=h;rw[dL,dL];by_cases e:p.1=k
   .have a:¬decide (p.1≠k)=true:=by simp[e]
    have b:¬decide (q.1≠k)=true:=by simp[d.symm.trans e]
    rw[V9 a,V9 b];exact ih
   .have g:¬q.1=k:=λz=>e (d.trans z);have a:decide (p.1≠k)=true:=by simp[e]
    have b:decide (q.1≠k)=true:=by simp[g]
    rw[V6 a,V6 b];exact .cons ⟨d,f⟩ ih
theorem KV.length{vs:List (c×V3)}(r:KV kvs vs):kvs.length=vs.length:=Paired.length r
theorem Qa(kvs:List (c×V))(k:c):(vC kvs k).length<=kvs.length:=dP _ _
end
variable{u:V3}{kvs:List (List Key×V)}{xs:List (List Key×V1×V3)}
theorem tZ{P:Wd}{w:Wf}{k:Key}(r:RelV (kV k) u):(iF P w).is k u=true:=by
 cases k with
 |inl i=>obtain⟨t,e⟩:=(show∃t,u=V3.int i t from r);subst e;exact z6 P w i t
 |inr x=>obtain⟨t,e⟩:=(show∃t,u=V3.str x t from r);subst e;exact TX P w x t
theorem vZ{P:Wd}{w:Wf}:∀{a:List Key}{b:Uq},au (a.map kV) b->ItemsAre (iF P w) a b
 | [],_,r=>by rw[aY]at r;cases r;exact .nil
 |k::a,_,r=>by
  rw[aN]at r;cases r with
  |cons h t=>exact .cons (tZ h) (vZ t)
abbrev KT(H:Hp):List (List Key×V)->List (List Key×V1×V3)->Prop:=Paired λp q=>p.1=q.1/\H q.2.1=some (.tup (p.1.map kV))/\RelV p.2 q.2.2
theorem KT.val{H:Hp}(r:KT H kvs xs)(k:List Key):oN (pI kvs k) ((atKey xs k).map (·.2)):=by
 induction r with
 |nil=>exact True.intro
 | @cons p q ps a h t ih=>
   obtain⟨d,_,f⟩:=h;by_cases e:p.1=k
   .have c:q.1=k:=d.symm.trans e;have b:atKey (q::a) k=some q.2:=by simp[atKey,cF,c]
    rw[qJ e,b];exact f
   .have c:¬q.1=k:=λz=>e (d.trans z);have b:atKey (q::a) k=atKey a k:=by simp[atKey,cF,c]
    rw[oK e,b];exact ih
theorem KT.ud{H:Hp}(r:KT H kvs xs)(k:List Key){y:V}(d:RelV y u):
 KT H (kvs.map λb=>if b.1=k then(b.1,y)else b) (xs.map (putAt k u)):=by
 induction r with
 |nil=>exact .nil
 | @cons p q ps g h t ih=>
   rw[aN,aN];refine .cons ?_ ih;obtain⟨a,c,f⟩:=h;unfold putAt;by_cases e:p.1=k
   .rw[V6 e,V6 (a.symm.trans e)];exact⟨a,c,d⟩
   .rw[V9 e,V9 (λz=>e (a.trans z))];exact⟨a,c,f⟩
theorem KT.put{H:Hp}(r:KT H kvs xs)(k:List Key){b:V1}{y:V}(d:H b=some (.tup (k.map kV)))(a:RelV y u):
 KT H (putK kvs k y) (storedH xs k b u):=by
 have e:(kvs.any λc=>decide (c.1=k))=(atKey xs k).isSome:=by
  rw[Iu,(r.val k).gd,Vk]
 unfold putK storedH;rw[e];by_cases q:(atKey xs k).isSome=true
 .rw[V6 q,V6 q];exact r.ud k a
 .rw[V9 q,V9 q];exact Paired.snoc r ⟨rfl,d,a⟩
theorem KT.keeps{H c:Hp}(r:KT H kvs xs)(d:∀b a,H b=some (.tup a)->c b=some (.tup a)):KT c kvs xs:=
 Paired.uo r λ_ _ z=>⟨z.1,d _ _ z.2.1,z.2.2⟩
section
variable {P:Wd}{w:Wf}{H:Hp}{h:V8}{a:V1}
theorem GL{u:HO}(ok:er P w H h)(e:Rd H a u):iZ P w H h a u:=e.ok ok
theorem v5{kvs:List (Key×V)}(ok:er P w H h)(e:Rd H a (.dK kvs)):kvs.length<=sizeLine/\(a==Wr)=false/\∃vs,KV kvs vs/\h.DictOf (iF P w) a vs:=
 show iZ P w H h a (.dK kvs)from GL ok e
theorem Gw{kvs:List (Key×V)}(ok:er P w H h)(e:H a=some (.dK kvs)):kvs.length<=sizeLine/\(a==Wr)=false/\∃vs,KV kvs vs/\h.DictOf (iF P w) a vs:=v5 ok (.inl e)
theorem yD{b:List Key}(ok:er P w H h)(e:H a=some (.tup (b.map kV))):(tupleKind (iF P w)).is h b a:=by
 obtain⟨_,c,r,o,g,f,n,d⟩:=(show iZ P w H h a (.tup (b.map kV))from ok a _ e);exact⟨o,c.toArray,n,g,f,d,by simpa using vZ r⟩
theorem B5{kvs:List (List Key×V)}(ok:er P w H h)(e:Rd H a (.dT kvs)):kvs.length<=sizeLine/\(a==Wr)=false/\
 ∃xs,KT H kvs xs/\h.DictOfH (tupleKind (iF P w)) a xs:=by
 obtain⟨z,y,xs,r,o,k,n,j,i,g,f,d⟩:=(show iZ P w H h a (.dT kvs)from GL ok e);refine⟨z,y,xs,r,o,k,n,j,i,g,f,λx b=>?_,d⟩;have all:∀{l:List (List Key×V)}{m:List (List Key×V1×V3)},KT H l m->∀x∈m,(tupleKind (iF P w)).is h x.1 x.2.1:=by
  intro l m q;induction q with
  |nil=>intro x b;exact nomatch b
  | @cons p q ps s c t ih=>
    intro x b;rcases fU b with e|b
    .subst e;exact yD ok (by rw[<-c.1];exact c.2.1)
    .exact ih x b
 exact all r x b
theorem JS{kvs:List (List Key×V)}(ok:er P w H h)(e:H a=some (.dT kvs)):kvs.length<=sizeLine/\(a==Wr)=false/\
 ∃xs,KT H kvs xs/\h.DictOfH (tupleKind (iF P w)) a xs:=B5 ok (.inl e)
end
def vM(H:Hp)(a:V1)(y:V)(r:Ui):Prop:=
 (∃kvs k,Rd H a (.dK kvs)/\y=kV k/\r=pI kvs k)\/∃kvs k b,Rd H a (.dT kvs)/\y=.ref b/\H b=some (.tup (k.map kV))/\r=pI kvs k
def y6(H:Hp)(a:V1)(y v:V)(c:Hp):Prop:=
 (∃kvs k,H a=some (.dK kvs)/\y=kV k/\kvs.length<sizeLine/\c=upd H a (.dK (putK kvs k v)))\/
 ∃kvs k b,H a=some (.dT kvs)/\y=.ref b/\H b=some (.tup (k.map kV))/\kvs.length<sizeLine/\c=upd H a (.dT (putK kvs k v))
theorem vM.k{H:Hp}{a:V1}{kvs:List (Key×V)}{k:Key}(e:H a=some (.dK kvs)):vM H a (kV k) (pI kvs k):=.inl ⟨kvs,k,.inl e,rfl,rfl⟩
theorem y6.k{H:Hp}{a:V1}{kvs:List (Key×V)}{k:Key}{v:V}(e:H a=some (.dK kvs))(hl:kvs.length<sizeLine):y6 H a (kV k) v (upd H a (.dK (putK kvs k v))):=.inl ⟨kvs,k,e,rfl,hl,rfl⟩
theorem y6.t{H:Hp}{a b:V1}{kvs:List (List Key×V)}{k:List Key}{v:V}(e:H a=some (.dT kvs))(c:H b=some (.tup (k.map kV)))(hl:kvs.length<sizeLine):
 y6 H a (.ref b) v (upd H a (.dT (putK kvs k v))):=.inr ⟨kvs,k,b,e,rfl,c,hl,rfl⟩
section
variable {X:Cx}{d:List (V1×Obj)}{f:St}{H:Hp}{s:V4}{a:V1}{y v:V}{u r:V3}{o:Ui}{A:We}{E:Ut}
variable{Q:Ut}{i:V8}
theorem Inv.Jx(I:Inv X d f H s):Wr<s.heap.objs.size:=by
 have h:V5<s.heap.objs.size:=(I.mod.glob.keeps I.bk).lt;exact US (by decide) h
theorem SR(C:A.units+1<WJ)(I:Inv X d f H s)(g:vM H a y (some v))(B:RelV y u)(h:∀j x,Inv X d f H x->RelV v j->Q j x):
 Wa (Wb X.prog X.w) A (Xo (.ref a) u) Q E s:=by
 rcases g with⟨kvs,k,e,t,l⟩| ⟨kvs,k,b,e,t,F,l⟩
 .subst t;obtain⟨z,D,vs,c,w⟩:=v5 I.aF e;obtain⟨j,m,q⟩:=oN.some_of (v:=v) (o:=WW vs k) (by rw[l];exact c.val k);exact wpAny_getItem_of (tZ B) w.mapOf m (h j _ (I.tok _) q)
 .subst t;cases (show u=V3.ref b from B);obtain⟨z,D,xs,c,w⟩:=B5 I.aF e;obtain⟨j,m,q⟩:=oN.some_of (v:=v) (o:=(atKey xs k).map (·.2)) (by rw[l];exact c.val k);obtain⟨p,hp,n⟩:=eX m;refine wpAny_getItem_heap (tupleKind_room_in1 C) (yD I.aF F) w hp ?_;rw[n];exact h j _ (I.tok _) q
theorem Nj(w:A.units+1<WJ)(I:Inv X d f H s)(g:vM H a y o)(t:RelV y u)(h:∀p,Inv X d f H p->Q (.bool (!o.isSome)) p):
 Wa (Wb X.prog X.w) A (Wt .NotIn u (.ref a)) Q E s:=by
 rcases g with⟨kvs,k,e,m,l⟩| ⟨kvs,k,b,e,m,x,l⟩
 .subst m;obtain⟨z,j,vs,c,n⟩:=v5 I.aF e;refine wpAny_notIn_of (tZ t) j n.mapOf ?_;rw[<-(c.val k).gd,<-l];exact h _ (I.tok _)
 .subst m;cases (show u=V3.ref b from t);obtain⟨z,j,xs,c,n⟩:=B5 I.aF e;refine wpAny_notIn_heap (tupleKind_room_in1 w) (yD I.aF x) j n ?_;have q:=(c.val k).gd;rw[Vk]at q;rw[<-q,<-l];exact h _ (I.tok _)
theorem xF{g:Nat}{ob:HO}(I:Inv X d f H s)(h:Ce (H a))(j:V8.SameBut a s.heap i)(k:∃q,i.get? a=some q)(c:iZ X.prog X.w (upd H a ob) i a ob):
 Inv X d f (upd H a ob) {s with heap:=i,toks:=g}:=
 I.write (x:=a) (e:=a) h (.inl rfl) (λb q l z=>(j.2 b l).trans z) k c
theorem Hb{P:Wd}{w:Wf}{h:Hp}{kvs:List (Key×V)}{vs:List (Key×V3)}(z:kvs.length<=sizeLine)(c:(a==Wr)=false)(b:KV kvs vs)(g:i.DictOf (iF P w) a vs):
 iZ P w h i a (.dK kvs):=⟨z,c,vs,b,g⟩
theorem RQ{L:Hp}{Q:Unit->V4->Prop}(M:A.units+1<WJ)(I:Inv X d f H s)(g:y6 H a y v L)(F:RelV y u)(G:RelV v r)(h:∀D,Inv X d f L D->Q () D):
 Wa (Wb X.prog X.w) A (setItem (.ref a) u r) Q E s:=by
 rcases g with⟨kvs,k,e,x,l,B⟩| ⟨kvs,k,b,e,x,K,l,B⟩
 .subst x B;obtain⟨z,w,vs,j,C⟩:=Gw I.aF e;have p:vs.length<=sizeLine:=by rw[<-j.length];exact z
  have hl:(putK kvs k v).length<=sizeLine:=by have:=sH kvs k v;lia
  refine wpAny_setItem_pairs (hsz:=p) (tZ F) C λi m t=>h _ ?_;have N:∃q,i.get? a=some q:=let ⟨q,_,_,n,_⟩:=m;⟨q,n⟩
  exact xF I (by rw[e];exact True.intro) t N (Hb hl w (j.put k G) m)
 .subst x B;cases (show u=V3.ref b from F);obtain⟨z,w,xs,j,C⟩:=JS I.aF e;have p:xs.length<=sizeLine:=by rw[<-Paired.length j];exact z
  have hl:(putK kvs k v).length<=sizeLine:=by have:=sH kvs k v;lia
  refine wpAny_setItem_heap (hsz:=p) (tupleKind_room_in1 M) (yD I.aF K) C λi m t=>h _ ?_;obtain⟨q,U,Y,n,S,R,P,_,O⟩:=m;refine xF I (by rw[e];exact True.intro) t ⟨q,n⟩ ⟨hl,w,_,(j.put k K G).keeps λc Z J=>?_,q,U,Y,n,S,R,P,O⟩;rw[fL (m6 J e (λz=>nomatch z))];exact J
end
section
variable {X:Cx}{b:List (V1×Obj)}{c:St}{H:Hp}{s:V4}{a:V1}{kvs:List (Key×V)}{k:Key}{u:V3}{A:We}{E:Ut}
variable{Q:Ut}
theorem JK{v:V}{more:Uq}(I:Inv X b c H s)(e:H a=some (.dK kvs))(g:RelV (kV k) u)(l:pI kvs k=some v)(n:more=[]\/∃x,more=[x])
 (h:∀f j,Inv X b c (upd H a (.dK (vC kvs k))) j->RelV v f->Q f j):Wa (Wb X.prog X.w) A (call (.builtin "dict.pop") (.ref a::u::more)) Q E s:=by
 obtain⟨z,B,vs,d,o⟩:=Gw I.aF e;obtain⟨f,p,F⟩:=oN.some_of (v:=v) (o:=WW vs k) (by rw[<-l];exact d.val k);have hp:(keyPart u).isSome=true:=by
  cases k with
  |inl i=>obtain⟨t,q⟩:=(show∃t,u=V3.int i t from g);subst q;rfl
  |inr x=>obtain⟨t,q⟩:=(show∃t,u=V3.str x t from g);subst q;rfl
 have C:argsOk "dict.pop" ⟨.ref a::u::more,[]⟩:=by
  rcases n with q| ⟨x,q⟩
  .subst q;exact PySem.F.args_dict_pop_2 _ _
  .subst q;exact PySem.F.args_dict_pop_3 _ _ _
 refine call_meetsIn PySem.F.slot_dict_pop o.typeIs PySem.F.entry_dict_pop C (meets_dict_pop_there (iF X.prog X.w) a (tZ g) more n hp)
  ⟨vs,f,o,by rw[<-d.length];exact z,p,λD m r=>h f _ ?_ F⟩
 have y:∃q,D.get? a=some q:=let ⟨q,_,_,w,_⟩:=m;⟨q,w⟩
 exact xF I (by rw[e];exact True.intro) r y (Hb (aX (Qa kvs k) z) B (d.drop k) m)
theorem Ks(I:Inv X b c H s)(e:Rd H a (.dK kvs))(h:∀t f,Inv X b c H f->Q (.int kvs.length t) f):Wa (Wb X.prog X.w) A (call (.builtin "len") [.ref a]) Q E s:=by
 obtain⟨z,g,vs,d,i⟩:=v5 I.aF e;refine call_len_dict g i (by rw[<-d.length];rw[W3]at z;lia) ?_;rw[<-d.length];exact h _ _ (I.tok _)
end
variable{s:V4}
def wb(i:Wg):Prop:=∀a b,subscripted i false a b=operate [a,b] (Xo a b)
theorem HP{a:Wd}{w:Wf}{A:We}{E:Ut}{env:Env}{value slice:Wg}{pos:Pos}{T id:String}{Q:Ut}
 (hl:typeLookup (.type T) "__getitem__"=pure (some (.builtin id)))(l:wb slice)
 (h:Wa (Wb a w) A (Wh value env) (λo j=>Wa (Wb a w) A (Wh slice env) (λi c=>c.TypeIs o T/\Wa (Wb a w) A (Xo o i) Q E c) E j) E s):
 Wa (Wb a w) A (Wh (.Subscript value slice pos) env) Q E s:=by
 refine Subscript_ (Wm h (λo j m=>Wm m (λi c d=>?_) λ_ _ x=>x) λ_ _ x=>x);obtain⟨f,d⟩:=d;unfold subscriptTail;refine V0 ?_;rw[getitemInPython_of_ne f.not_modules];refine V0 (wpAny_specialOf f hl ?_);have b:Wa (Wb a w) A (subscripted slice false o i) (λr g=>Wa (Wb a w) A (letTemporaryGo value o r>>=λ_=>pure r) Q E g) E c:=by
  rw[l o i];exact wpAny_operating (Wm d (λr g k=>V0 (wpAny_letTemporaryGo (V7 k))) λ_ _ x=>x)
 first
  |exact V7 (V0 b)
  |exact V0 (V7 (V0 b))
  |exact V0 b
theorem zU{X:Cx}{f:List (V1×Obj)}{d:St}{H:Hp}{a:V1}{y:V}{o:Ui}(I:Inv X f d H s)(g:vM H a y o):s.TypeIs (.ref a) "dict":=by
 rcases g with⟨kvs,k,e,_,_⟩| ⟨kvs,k,b,e,_,_,_⟩
 .obtain⟨_,_,vs,_,c⟩:=v5 I.aF e;exact c.typeIs
 .obtain⟨_,_,xs,_,c⟩:=B5 I.aF e;exact c.typeIs
noncomputable def q4(f d:TE):TE:=λb H Q=>f b H λx g=>d b g λy c=>∃a v,x=.ref a/\vM c a y (some v)/\Q v c
noncomputable def k4(d f:TE):TE:=λb H Q=>d b H λy g=>f b g λx c=>∃a o,x=.ref a/\vM c a y o/\Q (.bl (!o.isSome)) c
noncomputable def q8(g d f:TE):TS:=λD b H=>f b H λv j=>g b j λx i=>d b i λy h=>∃a c,x=.ref a/\y6 h a y v c/\D.nx b c
section
variable {X:Cx}{o i e value:Wg}{pos d j:Pos}{b c f:TE}
theorem Nb(w:X.A.units+1<WJ)(A:PE X o b)(B:PE X i c)(z:wb i):PE X (.Subscript o i pos) (q4 b c):=by
 intro l s k H Q I h;refine HP PySem.F.slot_dict_getitem.lookup z (aC (A l s k H _ I h) λu n ⟨x,K,G,q,t⟩=>aC (B l n k K _ G t) λO N ⟨y,J,m,p,a,v,D,g,r⟩=>?_);subst D;obtain rfl:u=V3.ref a:=q;exact⟨zU m g,SR w m g p λL M F C=>⟨v,J,F,C,r⟩⟩
theorem SS(v:X.A.units+1<WJ)(z:PE X i c)(w:PE X o b):PC X .NotIn i o (k4 c b):=by
 intro l s k H Q I h;refine aC (z l s k H _ I h) λL m ⟨y,G,D,n,r⟩=>aC (w l m k G _ D r) λu K ⟨x,F,C,p,a,t,A,g,q⟩=>?_;subst A;obtain rfl:u=V3.ref a:=p;exact Nj v C g n λJ B=>⟨.bl (!t.isSome),F,B,rfl,q⟩
theorem MO(C:X.A.units+1<WJ)(G:PE X o b)(J:PE X i c)(B:PE X value f)(F:Wy value (some (.Subscript o i d)) pos.line X.env=pure false):
 PS X (.Assign [.Subscript o i d] value pos) (q8 b c f):=by
 intro l s k H D I h;refine wpAny_Assign_Subscript (aC (B l s k H _ I h) λr n ⟨v,R,O,t,A⟩=>aC (G l n k R _ O A) λu m ⟨x,Q,N,q,z⟩=>aC (J l m k Q _ N z) λY U ⟨y,Z,M,p,a,P,K,g,w⟩=>?_) F;subst K;obtain rfl:u=V3.ref a:=q;exact RQ C M g p t λS L=>⟨k,P,L,w⟩
end
theorem P1{P:Wd}{w:Wf}{H:Hp}(h:V8)(a:Wr<h.objs.size):iZ P w H (h.push {cls:=.type "dict",data:=.dict #[]}) h.objs.size (.dK []):=
 ⟨cU _,beq_eq_false_iff_ne.mpr (Ne.symm (bQ a)),[],.nil,V8.DictOf.new h⟩
def oi:TE:=λ_ H Q=>∀p,H p=none->Q (.ref p) (upd H p (.dK []))
section
variable {X:Cx}{pos:Pos}
theorem QL:PE X (.Dict [] [] pos) oi:=λb s a H Q I h=>
 wpAny_Dict_empty ⟨.ref s.heap.objs.size,_,I.laid (a:=s.heap.objs.size) (o:=.dK []) (t':=s.toks) (λ_ _ q=>V8.get?_push_of_some _ q) (bI _) (P1 s.heap I.Jx),rfl,h _ (I.aF.fresh (bI _))⟩
end
structure M1(X:Cx)(o:Wg)(m:Str)(ak:Pos)(e:Wg)(ag:Pos):Prop where
 base:Wv o m X.env (Wh o X.env)=Wh o X.env
 Js:((Wj ag (V2 [e] X.env)).all (λx=> !x.1)&&(WX ag (WC [] X.env)).all (λx=>x.1.isSome)
  &&decide (([e]:Uu).length+([]:List WG).length+(if([]:List WG).isEmpty then 0 else 1)<30))=true
 line:(ak.endLine==ag.line)=true
 trees:Wj ag (V2 [e] X.env)=[(false,Wh e X.env)]
def Dc(H:Hp)(a:V1):Prop:=(∃kvs,Rd H a (.dK kvs))\/∃kvs,Rd H a (.dT kvs)
theorem K9{X:Cx}{j:List (V1×Obj)}{i:St}{H:Hp}{s:V4}{a:V1}(I:Inv X j i H s)(d:Dc H a):
 s.TypeIs (.ref a) "dict"/\(∀b,V3.ref a=.ref b->∃ob,s.heap.get? b=some ob/\ob.dict=none)/\(a==Wr)=false:=by
 rcases d with⟨kvs,e⟩| ⟨kvs,e⟩
 .obtain⟨_,f,vs,_,c⟩:=v5 I.aF e;refine⟨c.typeIs,λb q=>?_,f⟩;cases q;obtain⟨ob,_,_,h,g,_⟩:=c;exact⟨ob,h,g.2.1⟩
 .obtain⟨_,f,xs,_,c⟩:=B5 I.aF e;refine⟨c.typeIs,λb q=>?_,f⟩;cases q;obtain⟨ob,_,_,h,g,_⟩:=c;exact⟨ob,h,g.2.1⟩
section
variable {X:Cx}{b:List (V1×Obj)}{c:St}{H:Hp}{s:V4}{a:V1}{y d:V}{u r:V3}{o:Ui}{A:We}{E:Ut}
end
def oh(g f:TE):TE:=λb H Q=>g b H λx d=>∃a,x=.ref a/\Dc d a/\f b d λy c=>∃kvs k v,c a=some (.dK kvs)/\y=kV k/\pI kvs k=some v/\Q v (upd c a (.dK (vC kvs k)))
section
variable {X:Cx}{o e f:Wg}{b c:Pos}{g i tx:TE}
theorem Sn(C:PE X o g)(D:PE X e i)(m:M1 X o "pop" b e c):PE X (.Call (.Attribute o "pop" b) [e] [] c) (oh g i):=by
 intro n s j H Q I h;refine wpAny_Call_method m.base m.Js m.line PySem.F.plainAttrs_dict PySem.F.slot_dict_pop PySem.F.type_dict_pop (aC (C n s j H _ I h) λu t ⟨x,N,p,z,a,J,d,B⟩=>?_);subst J;obtain rfl:u=V3.ref a:=z;obtain⟨r,q,_⟩:=K9 p d;refine⟨r,q,?_⟩;rw[m.trees];refine Calls.callWith_builtin rfl (Calls.evalArgs_plain (Calls.spliced_cons (aC (D n t j N _ p B) λS R ⟨y,U,M,w,kvs,k,v,K,G,l,A⟩=>Calls.spliced_nil ?_)));subst G;exact JK M K w l (.inl rfl) λO P L F=>⟨v,_,L,F,A⟩
end
section
variable {X:Cx}{b:List (V1×Obj)}{c:St}{H:Hp}{s:V4}{a:V1}{kvs:List (Key×V)}{A:We}{E:Ut}
end
section
variable {X:Cx}{b:List (V1×Obj)}{c:St}{H:Hp}{s:V4}{a:V1}{y:V}{u:V3}{A:We}{E:Ut}
end
end L2
namespace TL
open PySem L2
section
variable {a:Type}[DecidableEq a]{b:Type}
variable{ks:List a}
noncomputable def vl(l:List (a×b))(k:a):Option b:=(l.find? λc=>decide (c.1=k)).map (·.2)
noncomputable def lb(k:a)(ks:List a):List a:=if k∈ks then ks else ks++[k]
noncomputable def i2(k:a)(v:b)(ks:List a)(vs:List b):List b:=if k∈ks then(ks.zip vs).map λc=>if c.1=k then v else c.2 else vs++[v]
theorem Il{k:a}:∀{ks:List a}{vs:List b},ks.length=vs.length->((ks.zip vs).any λc=>decide (c.1=k))=decide (k∈ks)
 | [],_,_=>rfl
 |_::_,[],h=>by cases h
 |x::ks,v::vs,h=>by
  rw[bO,eP,Il (by simpa using h)];by_cases e:x=k
  .simp[e]
  .simp[e,Ne.symm e]
theorem sG{k:a}{v:b}:∀{ks:List a}{vs:List b},ks.length=vs.length->(ks.zip vs).map (λc=>if c.1=k then(c.1,v)else c)=ks.zip ((ks.zip vs).map λc=>if c.1=k then v else c.2)
 | [],_,_=>rfl
 |_::_,[],h=>by cases h
 |x::ks,w::vs,h=>by
  rw[bO,aN,aN,bO,sG (by simpa using h)];dsimp only;split<;>rfl
theorem IL{k:a}{v:V}{vs:Uh}(h:ks.length=vs.length):putK (ks.zip vs) k v=(lb k ks).zip (i2 k v ks vs):=by
 unfold putK lb i2;rw[Il h];by_cases e:k∈ks
 .rw[V6 (decide_eq_true e),V6 e,V6 e,sG h]
 .rw[V9 (by simpa using e),V9 e,V9 e,List.zip_append h];rfl
theorem GP{k:a}{v:b}{vs:List b}(h:ks.length=vs.length):(lb k ks).length=(i2 k v ks vs).length:=by
 unfold lb i2;split
 .rw[aQ,cJ,<-h,UA]
 .simp[h]
end
section
variable {K:aK}{M:Hp}{a:bo}{b:Type}[DecidableEq b]
theorem ax.vl{k:b}:∀{ks:List b}{c:tl}{vs:Uh},ax K M a c vs->∀{t:T},TL.vl (ks.zip c) k=some t->∃v,pI (ks.zip vs) k=some v/\RT K M a t v
 | [],_,_,_,_,e=>by cases e
 |_::_,[],_,_,_,e=>by cases e
 |x::ks,u::c,vs,h,t,e=>by
  obtain⟨v,r,rfl,f,d⟩:=h.cons_inv;rw[bO];rw[bO]at e;unfold TL.vl at e;rw[cF]at e;by_cases q:x=k
  .rw[show decide ((x,u).1=k)=true from decide_eq_true q]at e;cases e;exact⟨v,qJ q,f⟩
  .rw[show decide ((x,u).1=k)=false from decide_eq_false q]at e;rw[oK (p:=(x,v)) q];exact ax.vl d e
theorem ax.Di{k:b}:∀{d:List b}{c:tl}{vs:Uh},ax K M a c vs->TL.vl (d.zip c) k=none->pI (d.zip vs) k=none
 | [],_,_,_,_=>rfl
 |_::_,[],vs,h,_=>by rw[h.nil_inv];rfl
 |x::d,u::c,vs,h,e=>by
  obtain⟨v,r,rfl,g,f⟩:=h.cons_inv;rw[bO]at e|-;unfold TL.vl at e;rw[cF]at e;by_cases q:x=k
  .rw[show decide ((x,u).1=k)=true from decide_eq_true q]at e;cases e
  .rw[show decide ((x,u).1=k)=false from decide_eq_false q]at e;rw[oK (p:=(x,v)) q];exact ax.Di f e
theorem ax.i2{k:b}{t:T}{v:V}(f:RT K M a t v){ks:List b}{c:tl}{vs:Uh}(h:ax K M a c vs):ax K M a (TL.i2 k t ks c) (TL.i2 k v ks vs):=by
 unfold TL.i2;split
 .have:∀{ks:List b}{c:tl}{vs:Uh},ax K M a c vs->ax K M a ((ks.zip c).map λd=>if d.1=k then t else d.2) ((ks.zip vs).map λd=>if d.1=k then v else d.2):=by
   intro ks;induction ks with
   |nil=>intro c vs _;exact .nil
   |cons x ks ih=>
    intro c vs h;cases c with
    |nil=>rw[h.nil_inv];exact .nil
    |cons u c=>
     obtain⟨w,r,rfl,i,g⟩:=h.cons_inv;rw[bO,bO,aN,aN];refine .cons ?_ (ih g);dsimp only;split
     .exact f
     .exact i
  exact this h
 .exact h.append (.cons f .nil)
end
variable{c:Nat}{ks:List (List Key)}
noncomputable def uw:T->Option Key
 | .int i=>some (.inl i)
 | .str x=>some (.inr x)
 |_=>none
def CC:tl->Option (List Key)
 | []=>some []
 |t::a=>(uw t).bind λk=>(CC a).map λks=>k::ks
def Ct:T->Option (List Key)
 | .tup a=>CC a
 |_=>none
noncomputable def nk(C:aq):T->Option (Nat×List Key×tl)
 | .cell c=>(C[c]?).bind λx=>match x.1 with
   | .dk ks=>some (c,ks,x.2)
   |_=>none
 |_=>none
noncomputable def Cw(C:aq):T->Option (Nat×List (List Key)×tl)
 | .cell c=>(C[c]?).bind λx=>match x.1 with
   | .dt ks=>some (c,ks,x.2)
   |_=>none
 |_=>none
noncomputable def BJ(C:aq):T->Option (Nat×List (List Key)×tl)
 | .cell c=>(C[c]?).bind λx=>match x.1 with
   | .dt ks=>some (c,ks,x.2)
   | .dz ks=>some (c,ks,x.2)
   |_=>none
 |_=>none
theorem RH{C:aq}{t:T}{ks:List Key}{a:tl}(h:nk C t=some (c,ks,a)):t=.cell c/\C[c]?=some (.dk ks,a):=by
 unfold nk at h;split at h
 .obtain⟨⟨k,b⟩,e,h⟩:=eW h;dsimp only at h;split at h
  .cases h;exact⟨rfl,e⟩
  .cases h
 .cases h
theorem Qe{C:aq}{t:T}{a:tl}(h:Cw C t=some (c,ks,a)):t=.cell c/\C[c]?=some (.dt ks,a):=by
 unfold Cw at h;split at h
 .obtain⟨⟨k,b⟩,e,h⟩:=eW h;dsimp only at h;split at h
  .cases h;exact⟨rfl,e⟩
  .cases h
 .cases h
theorem QY{C:aq}{t:T}{a:tl}(h:BJ C t=some (c,ks,a)):t=.cell c/\(C[c]?=some (.dt ks,a)\/C[c]?=some (.dz ks,a)):=by
 unfold BJ at h;split at h
 .obtain⟨⟨k,b⟩,e,h⟩:=eW h;dsimp only at h;split at h
  .cases h;exact⟨rfl,.inl e⟩
  .cases h;exact⟨rfl,.inr e⟩
  .cases h
 .cases h
section
variable {K:aK}{W:XW}{f:St}{H:Hp}{Q:VK}{D:Ends}{M:Hp}{d:bo}
variable{l tk:T}{m n:FE}
theorem xI{t:T}{v:V}{k:Key}(h:RT K M d t v)(e:uw t=some k):v=kV k:=by
 unfold uw at e;split at e
 .cases e;exact h.int_inv
 .cases e;unfold RT at h;exact h
 .cases e
theorem Im:∀{a:tl}{vs:Uh}{ks:List Key},ax K M d a vs->CC a=some ks->vs=ks.map kV
 | [],_,_,h,e=>by cases e;exact h.nil_inv
 |t::a,vs,ks,h,e=>by
  obtain⟨v,r,rfl,g,b⟩:=h.cons_inv;unfold CC at e;obtain⟨k,j,e⟩:=eW e;obtain⟨o,i,e⟩:=eX e;cases e;rw[xI g j,Im b i];rfl
theorem G4{Z:V1->Prop}{t:T}{v:V}{k:List Key}(h:RT K (mask H Z d) d t v)(e:Ct t=some k):∃b,v=.ref b/\H b=some (.tup (k.map kV)):=by
 unfold Ct at e;split at e
 .unfold RT at h;obtain⟨a,vs,g,q,r⟩:=h;exact⟨a,g,by rw[(gK q).2.2,Im r e]⟩
 .cases e
theorem Rel.dk{b:Hp}{Z:V1->Prop}{i:aB}{C:aq}{t:T}{v:V}{c:Nat}{ks:List Key}{ts:tl}(R:Rel K b Z d i C f H)(h:RT K (mask H Z d) d t v)(e:nk C t=some (c,ks,ts)):
 ∃a vs,v=.ref a/\d[c]?=some a/\ks.length=vs.length/\H a=some (.dK (ks.zip vs))/\ax K (mask H Z d) d ts vs:=by
 obtain⟨rfl,r⟩:=RH e;unfold RT at h;obtain⟨a,p,q⟩:=h;obtain⟨x,vs,ob,g,o,k,j⟩:=R.hH c a q;rw[r]at g;cases g;obtain⟨hl,rfl⟩:=k;exact⟨a,vs,p,q,hl,o,j⟩
theorem Rel.dt{b:Hp}{Z:V1->Prop}{j:aB}{C:aq}{t:T}{v:V}{c:Nat}{ks:List (List Key)}{g:tl}(R:Rel K b Z d j C f H)(h:RT K (mask H Z d) d t v)(e:Cw C t=some (c,ks,g)):
 ∃a vs,v=.ref a/\d[c]?=some a/\ks.length=vs.length/\H a=some (.dT (ks.zip vs))/\ax K (mask H Z d) d g vs:=by
 obtain⟨rfl,s⟩:=Qe e;unfold RT at h;obtain⟨a,r,q⟩:=h;obtain⟨x,vs,ob,i,p,o,k⟩:=R.hH c a q;rw[s]at i;cases i;obtain⟨hl,rfl⟩:=o;exact⟨a,vs,r,q,hl,p,k⟩
theorem Rel.dz{g:Hp}{Z:V1->Prop}{u:aB}{C:aq}{t:T}{v:V}{c:Nat}{ks:List (List Key)}{j:tl}(R:Rel K g Z d u C f H)(h:RT K (mask H Z d) d t v)(e:BJ C t=some (c,ks,j)):
 ∃a vs,v=.ref a/\d[c]?=some a/\ks.length=vs.length/\Rd H a (.dT (ks.zip vs))/\ax K (mask H Z d) d j vs:=by
 obtain⟨rfl,b⟩:=QY e;unfold RT at h;obtain⟨a,s,q⟩:=h;obtain⟨x,vs,ob,i,r,p,k⟩:=R.hH c a q;rcases b with b|b
 .rw[b]at i;cases i;obtain⟨hl,rfl⟩:=p;exact⟨a,vs,s,q,hl,.inl r,k⟩
 .rw[b]at i;cases i;obtain⟨hl,o,rfl⟩:=p;exact⟨a,vs,s,q,hl,.inr ⟨o,r⟩,k⟩
noncomputable def Fb(kd:Kd):FE:=λ_ C=>some (.cell C.length,C++[(kd,[])])
theorem OK(h:aD K (Fb (.dk [])) f H Q):oi f H Q:=by
 obtain⟨a,Z,d,j,C,t,o,R,e,k⟩:=h;cases e;intro p hp;obtain⟨i,b,g⟩:=R.hA (kd:=.dk []) (ts:=[]) (vs:=[]) (ob:=.dK []) hp ⟨rfl,rfl⟩ .nil;exact k _ _ _ i g b
def gk(C:aq)(l tk:T):Option Ug:=match nk C l with
 |some x=>(uw tk).map λk=>vl (x.2.1.zip x.2.2) k
 |none=>(BJ C l).bind λx=>(Ct tk).map λk=>vl (x.2.1.zip x.2.2) k
theorem Rel.gk{i:Hp}{Z:V1->Prop}{A:aB}{C:aq}{x y:V}{o:Ug}(R:Rel K i Z d A C f H)(u:RT K (mask H Z d) d l x)(s:RT K (mask H Z d) d tk y)(e:TL.gk C l tk=some o):
 ∃a w,x=.ref a/\Dc H a/\vM H a y w/\match o with
  |some t=>∃v,w=some v/\RT K (mask H Z d) d t v
  |none=>w=none:=by
 unfold TL.gk at e;split at e
 .rename_i z j;obtain⟨c,ks,B⟩:=z;obtain⟨k,r,e⟩:=eX e;obtain⟨a,vs,p,q,hl,h,g⟩:=R.dk u j;refine⟨a,_,p,.inl ⟨_,.inl h⟩,by rw[xI s r];exact vM.k h,?_⟩;cases o with
  |some t=>exact g.vl e
  |none=>exact g.Di e
 .obtain⟨⟨c,ks,B⟩,j,e⟩:=eW e;obtain⟨k,r,e⟩:=eX e;obtain⟨a,vs,p,q,hl,h,g⟩:=R.dz u j;obtain⟨b,G,F⟩:=G4 s r;refine⟨a,_,p,.inr ⟨_,h⟩,.inr ⟨_,k,b,h,G,F,rfl⟩,?_⟩;cases o with
  |some t=>exact g.vl e
  |none=>exact g.Di e
def zS(l tk:T)(C:aq):Option (T×aq):=match gk C l tk with
 |some (some t)=>some (t,C)
 |_=>none
abbrev CS(m n:FE):FE:=fP m n zS
theorem LW(h:aD K (CS m n) f H Q):q4 (aD K m) (aD K n) f H Q:=by
 refine h9 (E3 h) λx J q=>h9 q λy B q=>?_;obtain⟨I,G,b,Z,d,F,C,t,L,R,r,e,k⟩:=q;obtain⟨_,_,z,o,r⟩:=r.cons_inv;cases z;obtain⟨_,_,z,j,r⟩:=r.cons_inv;cases z;unfold zS at e;split at e
 .rename_i u p;cases e;obtain⟨a,w,s,_,g,v,A,i⟩:=R.gk o j p;subst A;exact⟨a,v,s,g,k v B d R i .refl⟩
 .cases e
def x0(b:Bool)(tk l:T)(C:aq):Option (T×aq):=(gk C l tk).map λo=>(.bl (o.isSome==b),C)
theorem KQ{x y:V}{h:Hp}(b:Bool)(q:∃j i,fh K f [j,i] [y,x] (x0 b j i) h Q):∃a o,x=.ref a/\vM h a y o/\Q (.bl (o.isSome==b)) h:=by
 obtain⟨j,i,s,Z,d,I,C,t,L,R,r,e,k⟩:=q;obtain⟨_,_,z,A,r⟩:=r.cons_inv;cases z;obtain⟨_,_,z,u,r⟩:=r.cons_inv;cases z;unfold x0 at e;obtain⟨o,G,e⟩:=eX e;cases e;obtain⟨a,w,B,_,g,p⟩:=R.gk u A G;refine⟨a,w,B,g,?_⟩;cases o with
 |some t=>obtain⟨v,F,J⟩:=p;subst F;exact k _ h d R .bl .refl
 |none=>subst p;exact k _ h d R .bl .refl
theorem K8(h:aD K (fP n m (x0 false)) f H Q):k4 (aD K n) (aD K m) f H Q:=by
 refine h9 (E3 h) λx j q=>h9 q λy i q=>?_;obtain⟨a,o,b,g,q⟩:=KQ false q;exact⟨a,o,b,g,by cases o<;>exact q⟩
def ou(C:aq)(t:T):Bool:=(nk C t).isSome||(BJ C t).isSome
theorem Rel.ou{b:Hp}{Z:V1->Prop}{j:aB}{C:aq}{t:T}{v:V}(R:Rel K b Z d j C f H)(h:RT K (mask H Z d) d t v)(e:TL.ou C t=true):∃a,v=.ref a/\Dc H a:=by
 unfold TL.ou at e;rcases Bool.or_eq_true_iff.mp e with e|e
 .obtain⟨⟨c,ks,k⟩,e⟩:=gD e;obtain⟨a,vs,i,q,hl,g,o⟩:=R.dk h e;exact⟨a,i,.inl ⟨_,.inl g⟩⟩
 .obtain⟨⟨c,ks,k⟩,e⟩:=gD e;obtain⟨a,vs,i,q,hl,g,o⟩:=R.dz h e;exact⟨a,i,.inr ⟨_,g⟩⟩
def dput(C:aq)(l tk a:T):Option aq:=match nk C l with
 |some x=>(uw tk).bind λk=>if x.2.1.length<lim then some (C.set x.1 (.dk (lb k x.2.1),i2 k a x.2.1 x.2.2))else none
 |none=>(Cw C l).bind λx=>(Ct tk).bind λk=>if x.2.1.length<lim then some (C.set x.1 (.dt (lb k x.2.1),i2 k a x.2.1 x.2.2))else none
theorem Rel.dput(B:lim<=sizeLine){g:Hp}{Z:V1->Prop}{w:aB}{C J:aq}{A:T}{x y v:V}(R:Rel K g Z d w C f H)(I:RT K (mask H Z d) d l x)(G:RT K (mask H Z d) d tk y)(F:RT K (mask H Z d) d A v)(e:TL.dput C l tk A=some J):
 ∃a u,x=.ref a/\y6 H a y v u/\Rel K g Z d w J f u/\Step H u d d:=by
 unfold TL.dput at e;split at e
 .rename_i z o;obtain⟨c,ks,L⟩:=z;obtain⟨k,s,e⟩:=eW e;dsimp only at e;split at e
  .rename_i t;cases e;obtain⟨a,vs,r,q,hl,h,p⟩:=R.dk I o;obtain⟨j,i⟩:=R.put (kd:=.dk (lb k ks)) (ob:=.dK ((lb k ks).zip (i2 k v ks vs))) q (by rw[h];trivial) ⟨GP hl,rfl⟩ (p.i2 (k:=k) (ks:=ks) F);refine⟨a,_,r,?_,j,i⟩;rw[xI G s,<-IL hl];exact y6.k h (by rw[cJ];exact dB (UQ ks.length vs.length) (bC t B))
  .cases e
 .obtain⟨⟨c,ks,L⟩,o,e⟩:=eW e;obtain⟨k,s,e⟩:=eW e;dsimp only at e;split at e
  .rename_i t;cases e;obtain⟨a,vs,r,q,hl,h,p⟩:=R.dt I o;obtain⟨j,i⟩:=R.put (kd:=.dt (lb k ks)) (ob:=.dT ((lb k ks).zip (i2 k v ks vs))) q (by rw[h];trivial) ⟨GP hl,rfl⟩ (p.i2 (k:=k) (ks:=ks) F);obtain⟨b,O,N⟩:=G4 G s;refine⟨a,_,r,?_,j,i⟩;rw[O,<-IL hl];exact y6.t h N (by rw[cJ];exact dB (UQ ks.length vs.length) (bC t B))
  .cases e
def t8(m n b:FE):FS:=λa C=>(b a C).bind λp=>(m a p.2).bind λq=>(n a q.2).bind λr=>(dput r.2 q.1 r.1 p.1).map λg=>(.nx,a,g)
theorem Mi(I:lim<=sizeLine){p:FE}(h:ey K W (t8 m n p) D f H):q8 (aD K m) (aD K n) (aD K p) D f H:=by
 obtain⟨b,Z,d,i,C,fl,ao,C',R,e,k⟩:=h;unfold t8 at e;obtain⟨⟨B,w⟩,P,e⟩:=eW e;obtain⟨⟨A,u⟩,s,e⟩:=eW e;obtain⟨⟨z,C3⟩,r,e⟩:=eW e;obtain⟨C4,q,e⟩:=eX e;cases e;dsimp only at s r q;refine⟨b,Z,d,i,C,B,w,R,P,λv H1 X R1 N G=>?_⟩;refine⟨b,Z,X,i,w,A,u,R1,s,λx H2 U R2 L o=>?_⟩;refine⟨b,Z,U,i,u,z,C3,R2,r,λy H3 S E J j=>?_⟩;obtain⟨a,t,O,g,Y,F⟩:=E.dput I (L.step j) J ((N.step o).step j) q;exact⟨a,t,O,g,k f t S Y (((G.trans o).trans j).trans F)⟩
def BH(g:Int->Int->Int)(m n b:FE):FS:=λa C=>(m a C).bind λp=>(n a p.2).bind λq=>match gk q.2 p.1 q.1 with
 |some (some (.int i))=>(b a q.2).bind λr=>match r.1 with
  | .int j=>(dput r.2 p.1 q.1 (.int (g i j))).map λh=>(.nx,a,h)
  |_=>none
 |_=>none
end
noncomputable def od{a:Type}:List a->List a
 |_::y::r=>y::od r
 |_=>[]
section
variable {K:aK}{W:XW}{d:St}{H:Hp}{Q:VK}{D:Ends}{M:Hp}{b:bo}
def Dm(B:V1->Prop)(t:(VK->Prop))(Q:VK):Prop:=t λv H=>∃a ob u,B a/\H a=some (.ei ob u)/\Q v (upd H a u)
noncomputable def kT:Key->T
 | .inl i=>.int i
 | .inr x=>.str x
theorem JV{k:Key}:RT K M b (kT k) (kV k):=by cases k<;>(unfold kT RT;rfl)
end
end TL
namespace TL
open PySem PySem.Spec PyProof.Rows L2
structure Cy(P:Wd)(w:Wf)(K:aK)(mg:Str->Us)(base:V8)(k:Nat)(x:Str)(n:Nat)(G:tl->aq->Option (T×aq)):Prop where
 ex:∃f fd ps,lB P w K mg base n2 k f fd ps (spS K n G)/\mg x=some (.ref f)/\bL K (.ref f)=true/\Binds K fd ps []
structure EI(P:Wd)(w:Wf)(K:aK)(mg:Str->Us)(base:V8)(k:Nat)(cls:String)(n:Nat)(G:tl->aq->Option (T×aq))(jb:tl)(cg:Uh):Prop where
 ex:∃C f fd ps ds,aW K V5 (Str.ofString cls)=some (some (.ref C))/\mg (Str.ofString cls)=some (.ref C)/\Mk K C f/\lB P w K mg base n2 k f fd ps (spS K n G)/\Binds K fd ps ds/\au cg ds
 rt:∀M ρ,ax K M ρ jb cg
section
variable {X:Cx}{e o:Wg}{a:Uu}{c fa:FE}{b:FN}{p pos d g:Pos}
theorem yT{k n:Nat}{x:Str}{G:tl->aq->Option (T×aq)}(D:Cy X.prog X.w X.K X.mg X.base k x n G)(i:aJ k X.A)(s:QA X (e::a) b)(m:Gl X x:=by rfl)(t:(x==("__debug__":Str))=false:=by decide)
 (q:V2 (e::a) X.env=(false,Wh e X.env)::V2 a X.env:=by rfl)(u:(Wj pos (V2 a X.env)).any (·.1)=false:=by rfl):QE X (.Call (.Name x p) (e::a) [] pos) (oH n G b):=by
 obtain⟨f,v,ps,F,j,l,r⟩:=D.ex;exact(HB (E:=λ_ _ _=>False) F i m j l r .nil (λ_ _ _ _ _ _ _ h=>h.elim) s t q u).imp λ_ _ _=>Ow
end
section
variable {X:Cx}{o i e f value k v:Wg}{a b c g:FE}{p pos d h j l:Pos}
theorem Pq:QE X (.Dict [] [] pos) (Fb (.dk [])):=QL.imp λ_ _ _=>OK
theorem Md(r:X.A.units+20<WJ)(n:QE X o a)(q:QE X i b)(m:wb i:=by exact λ_ _=>rfl):QE X (.Subscript o i pos) (CS a b):=(Nb (by lia) n q m).imp λ_ _ _=>LW
theorem NC(s:X.A.units+20<WJ)(q:QE X o a)(r:QE X i b)(m:QE X value c)(n:Wy value (some (.Subscript o i d)) pos.line X.env=pure false:=by rfl):QS X (.Assign [.Subscript o i d] value pos) (t8 a b c):=(MO (by lia) q r m n).imp λ_ _ _=>Mi jC
theorem GR(r:X.A.units+20<WJ)(q:QE X i b)(m:QE X o a)(n:Wo .NotIn o=false:=by rfl):QT X (.Compare i [.NotIn] [o] pos) (i4 (fP b a (x0 false))):=(Hk (SS (by lia) q m) n).imp λ_ _ _=>EW λ_ _ _=>K8
end
section
variable {X:Cx}{a b e:Wg}{c:Uu}{fa fb:FE}{d:FN}{pos p f:Pos}
section
variable {h aA:Ur}{is:Uo}{i:WD}{j:List (Str×V1)}{l:Uu}{tk:Nat}{m:Pos}{n:Wg}{o:Uu}{q:FE}{g:FG}{r:FB}
end
end
section
variable {X:Cx}{o e:Wg}{a b:Pos}{c d:TE}{f g:FE}
end
section
variable {X:Cx}{a e:Wg}{b:TE}{fa:FE}{pos c d f:Pos}
end
section
variable {X:Cx}{d:List (V1×Obj)}{f:L2.St}{H:Hp}{s:V4}{a:V1}{ob:Obj}
theorem P7{u:HO}(I:L2.Inv X d f H s)(h:H a=some (.ei ob u))(t:∀o v,X.ay a≠some (.ei o v)):L2.Inv X d f (upd H a u) s:=by
 have g:∀b,H b=none->b≠a:=λb n z=>by rw[z,h]at n;cases n
 refine⟨I.ok,I.os,I.bare,⟨I.base.keep,I.base.slot,λb o q n r=>by have e:=I.base.free b o q n r;rw[fL (g b e)];exact e,I.base.there,λb xs q=>?_,λb o u q=>?_,λb ps q=>?_⟩,I.loc,I.cell,by rw[fL (g _ I.free)];exact I.free,λx c q=>by rw[fL (g _ (I.cz x c q))];exact I.cz x c q,λp hp=>?_,λb o q=>?_,I.len⟩
 .have e:=I.base.eL b xs q;rw[fL (m6 e h (λz=>nomatch z))];exact e
 .have e:=I.base.eh b o u q;rw[fL (by rintro rfl;exact t _ _ q)];exact e
 .obtain⟨m,e⟩:=I.base.eN b ps q;exact⟨m,by rw[fL (m6 e h (λz=>nomatch z))];exact e⟩
 .obtain⟨l,i,k⟩:=I.pin p hp;exact⟨l,by rw[fL (g _ i)];exact i,k⟩
 .by_cases j:b=a
  .subst j;rw[gS]at q;cases q;exact((I.aF b _ h).2).cp (λc v _ q=>q) (λc q=>by rw[fL (m6 q h (λz=>nomatch z))];exact q) λc xs q=>by rw[fL (m6 q h (λz=>nomatch z))];exact q
  .rw[fL j]at q;exact(I.aF b o q).cp (λc v _ q=>q) (λc q=>by rw[fL (m6 q h (λz=>nomatch z))];exact q) λc xs q=>by rw[fL (m6 q h (λz=>nomatch z))];exact q
end
section
variable {P:Wd}{w:Wf}{A:We}{E:Ut}{s:V4}{d a:V1}{o:Obj}{b:Array WQ}{c i:Nat}
variable{Q:Us->V4->Prop}
theorem P5{Q:Ut}(k:(d==Wr)=false)(f:s.heap.get? d=some o)(j:o.ExactDict)(h:o.data=.dict b c)
 (l:Q (.ref s.heap.objs.size) {s with heap:=s.heap.push {cls:=.type "dict_keyiterator",data:=.fields #[.ref d,.int 0 0,.int b.size 0,.int c 0]}}):Wa (Wb P w) A (pyIter (.ref d)) Q E s:=by
 have g:s.TypeIs (.ref d) "dict":=⟨o,f,j.1⟩;refine wpAny_pyIter_slot g F.slot_dict_iter (Wz F.slot_dict_iter g F.entry_dict_iter ?_ (F.args_dict_iter_1 _));unfold Wc.«dict.__iter__»;refine V0 ?_;unfold Wc.Dict.dictSlotNone;refine V0 (wpAny_notOrdered_dict g ?_);show Wa _ _ (pure (V3.ref d)) _ _ s;refine V7 ?_;show Wa _ _ (Wc.Dict.showsAll d>>=_) _ _ s;unfold Wc.Dict.showsAll;rw[V9 (by rw[k];exact bU)];refine V0 (V7 ?_);refine V0 (wpAny_dictEntries f h (V0 (wpAny_dictEpoch f h ?_)));refine V0 (Wn (V7 ⟨_,rfl,"dict_keyiterator",_,⟨_,V8.get?_push_size _ rfl,rfl⟩,F.slot_dict_keyiterator_next.lookup,?_⟩));simpa[WY]using l
theorem Rn{e:WQ}(f:s.heap.IsKeyIter a d i b.size c)(l:s.heap.get? d=some o)(m:o.data=.dict b c)(n:b[i]?=some e)
 (q:∀j,j.IsKeyIter a d (i+1) b.size c->V8.SameBut a s.heap j->Q (some e.key) {s with heap:=j}):Wa (Wb P w) A (W8 (.ref a)) Q E s:=by
 obtain⟨r,h,p,g⟩:=id f;unfold W8;refine V0 (wpAny_attempt (Wp (name:=Str.ofString "__next__") f.typeIs F.slot_dict_keyiterator_next (Wz F.slot_dict_keyiterator_next f.typeIs F.entry_dict_keyiterator_next ?_ (F.args_dict_keyiterator_next_1 _))));refine V0 (V7 (V0 (V0 ?_)));first|refine V0 (WE f.typeIs (V7 (V0 (Xj h g ?_))))|refine V0 (WR f.typeIs (V7 (V0 (Xj h g ?_))))
 simp only[show Wc.Dict_items.ownsTuple "dict_keyiterator"=false by decide,cT,if_false];show Wa _ _ (if(V3.ref d==V3.none)=true then _ else _) _ _ s;rw[V9 (show¬((V3.ref d==V3.none)=true)from bU)];refine V0 (V7 (V0 (wpAny_dictEntries l m ?_)));rw[V9 (by simp)];refine V0 (V7 (V0 (wpAny_dictEpoch l m ?_)));rw[V9 (by simp)];refine V7 ?_;simp only[show¬((i:Int)<0)from U3.mpr (dN i),if_false,cV,n];refine V0 ?_;first|refine V0 (WE f.typeIs (V7 (V0 (Xh f.typeIs ?_))))|refine V0 (WR f.typeIs (V7 (V0 (Xh f.typeIs ?_))))
 show Wa _ _ (setField (.ref a) 1 (WY ((i:Int)+1))>>=_) _ _ s;refine V0 (WU h g (by simp) ?_);have k:(s.heap.update a (Obj.mapFields (·.setIfInBounds 1 (WY ((i:Int)+1))))).IsKeyIter a d (i+1) b.size c:=⟨_,V8.get?_update_self _ h (Obj.isFreed_of_fields (Obj.data_mapFields g _)),(Obj.cls_mapFields ..).trans p,by rw[Obj.data_mapFields g];simp[WY]⟩;refine V0 (Wq (V0 (Xh (s:={s with heap:=s.heap.update a (Obj.mapFields (·.setIfInBounds 1 (WY ((i:Int)+1))))}) k.typeIs ?_)));show Wa _ _ (pure e.key) _ _ _;exact V7 (V7 ⟨_,rfl,V7 (q _ k (V8.SameBut.update ..))⟩)
theorem RF(hh:A.handled=none)(f:s.heap.IsKeyIter a d i b.size c)(j:s.heap.get? d=some o)(l:o.data=.dict b c)(m:b[i]?=none)
 (n:∀k,V8.ExtBut a s.heap k->Q none {s with heap:=k}):Wa (Wb P w) A (W8 (.ref a)) Q E s:=by
 obtain⟨p,g,q,h⟩:=id f;unfold W8;refine V0 (wpAny_attempt (Wp (name:=Str.ofString "__next__") f.typeIs F.slot_dict_keyiterator_next (Wz F.slot_dict_keyiterator_next f.typeIs F.entry_dict_keyiterator_next ?_ (F.args_dict_keyiterator_next_1 _))));refine V0 (V7 (V0 (V0 ?_)));first|refine V0 (WE f.typeIs (V7 (V0 (Xj g h ?_))))|refine V0 (WR f.typeIs (V7 (V0 (Xj g h ?_))))
 simp only[show Wc.Dict_items.ownsTuple "dict_keyiterator"=false by decide,cT,if_false];show Wa _ _ (if(V3.ref d==V3.none)=true then _ else _) _ _ s;rw[V9 (show¬((V3.ref d==V3.none)=true)from bU)];refine V0 (V7 (V0 (wpAny_dictEntries j l ?_)));rw[V9 (by simp)];refine V0 (V7 (V0 (wpAny_dictEpoch j l ?_)));rw[V9 (by simp)];refine V7 ?_;simp only[show¬((i:Int)<0)from U3.mpr (dN i),if_false,cV,m];refine V0 ?_;first|refine V0 (WE f.typeIs (V7 ?_))|refine V0 (WR f.typeIs (V7 ?_))
 show Wa _ _ (setField (.ref a) 0 .none>>=_) _ _ s;refine V0 (WU g h (by simp) ?_);show Wa _ _ (newExc (.type "StopIteration") []>>=_) _ _ _;refine V0 ?_;simp only[newExc,newTuple];refine V0 (Wn (V0 (m:=firstArgMember _ _) (wpAny_of_eq (a:=V3.none) (by first|rfl| (simp only[firstArgMember];rfl)) ?_)) (by size_fits));refine Wn ?_ (by size_fits);simp only[raiseNew];refine V0 (wpAny_handled ?_);rw[show A.in1.handled=none from hh];refine V0 (V7 (wpAny_throw ?_));refine V0 (wpAny_isInstance (T:="StopIteration") (b:=true) ⟨_,V8.get?_push_size _ rfl,rfl⟩ isSubtype_stop ?_);exact V7 (n _ (((V8.SameBut.update ..).extBut.push _).push _))
end
theorem wF{d c:Type}{F:d->c->Prop}:∀{a:List d}{b:List c},Paired F a b->∀(i:Nat)(g:i<a.length)(f:i<b.length),F a[i] b[i]
 |_,_,.cons h _,0,_,_=>h
 |_,_,.cons _ t,i+1,g,f=>wF t i (by simpa using g) (by simpa using f)
section
variable {X:Cx}{iter:Wg}{fa:FE}{p pos b:Pos}
abbrev wh(X:Cx)(a:V1):Prop:=∀o v,X.ay a≠some (.ei o v)
section
variable {a aA:Ur}{is:Uo}{c:WD}{d:List (Str×V1)}{f h:Wg}{i:Uu}{j:FE}{g:FG}{l:FB}
end
end
section
variable {X:Cx}{e:Wg}{a:Uu}{b:FN}{p pos:Pos}
end
theorem yC{X:Cx}{pos:Pos}{x:Str}{i:Int}(a:∃t,X.mg x=some (.int i t))(b:Gl X x:=by rfl)(c:(x==("__debug__":Str))=false:=by decide):QE X (.Name x pos) (fC (.int i)):=by
 obtain⟨t,a⟩:=a;exact(yG b a (v:=.int i) ⟨t,rfl⟩ c).imp λ_ _ _=>w4 λ_ _=>.int
section
variable {P:Wd}{w:Wf}{K:aK}{a:Str->Us}{b:V8}
end
theorem mQ.of{K:aK}{a:String}{f:Str}{C:V1}(e:aW K V5 (Str.ofString a)=some (some (.ref C)))(c:n1 K C)(n:oV K C f):mQ K a f:=λb h=>by
 rw[e]at h;cases h;exact⟨c,n⟩
end TL
namespace TL
open PySem L2
noncomputable def uy(y x:Str):Bool:= !(Wc.Str.occurrences y x 0 y.length 1).isEmpty
def BO(b a:T)(C:aq):Option (T×aq):=match b,a with
 | .str x,.str y=>some (.bl (uy y x),C)
 |_,_=>none
def fO(b a:T)(C:aq):Option (T×aq):=match b,a with
 | .str x,.str y=>if x.length+y.length<=lim then some (.str (x++y),C)else none
 |_,_=>none
def B0(b a:T)(C:aq):Option (T×aq):=match b,a with
 | .str z,.int i=>if z.length<=lim then(f5 z.cps.toList i).map λc=>(.str ⟨#[c]⟩,C)else none
 |_,_=>none
noncomputable abbrev Ez(x:Str)(n:Int):Str:=Txt.mul x n
def uB(b a:T)(C:aq):Option (T×aq):=match b,a with
 | .str x,.int n=>if(0<=n/\n<=100)/\x.length<=100 then some (.str (Ez x n),C)else none
 |_,_=>none
def CW(a:tl)(C:aq):Option (T×aq):=match a with
 | [.str x]=>if x.length<=lim then some (.int x.length,C)else none
 |_=>none
noncomputable def CM(a:tl)(C:aq):Option (T×aq):=match a with
 | [.str x]=>if x.length<=640 then(intText? x).map λn=>(.int n,C)else none
 |_=>none
noncomputable def tV(b a:T)(C:aq):Option (T×aq):=match b,a with
 | .str x,.str y=>some (.bl (Txt.startswith x y),C)
 |_,_=>none
noncomputable def strs?:tl->Option Ur
 | []=>some []
 | .str x::a=>(strs? a).map (x:: ·)
 |_=>none
def mY(c b:T)(C:aq):Option (T×aq):=match c with
 | .str x=>(dR C b).bind λa=>(strs? a).bind λxs=>if JoinOk x xs=true then some (.str (Txt.join x xs),C)else none
 |_=>none
def tb(fa:FE)(b c:FO):FE:=λa C=>(fa a C).bind λp=>(b a p.2).bind λq=>(c a q.2).bind λr=>match p.1 with
 | .str z=>if z.length<=lim then some (.str (Txt.slice z q.1 r.1),r.2)else none
 |_=>none
noncomputable def ip(z:Str):tl:=z.cps.toList.map λc=>T.str ⟨#[c]⟩
def rB(f:FE)(k:Nat)(is:Uo)(g:FG)(b:FB)(c:FE):FN:=λa C=>(f a C).bind λp=>match p.1 with
 | .str z=>if(ip z).length<lim then iH g b c (d3 k is a) (ip z) p.2 else none
 |_=>none
abbrev r1(fa:FN):FE:=mR fa CW
abbrev r2(fa:FN):FE:=mR fa CM
section
variable {K:aK}{W:XW}{b:St}{H:Hp}{Q:VK}{x y:V}
variable{xs:Uh}
theorem RT.str_inv{M:Hp}{a:bo}{z:Str}{v:V}(h:RT K M a (.str z) v):v=.str z:=by unfold RT at h;exact h
theorem JJ(h:∃c a,fh K b [c,a] [x,y] (BO c a) H Q):∃i j,x=.str i/\y=.str j/\Q (.bl (!(Wc.Str.occurrences j i 0 j.length 1).isEmpty)) H:=by
 obtain⟨c,a,d,Z,f,m,C,t,n,R,r,e,k⟩:=h;obtain⟨_,_,z,l,r⟩:=r.cons_inv;cases z;obtain⟨_,_,z,g,r⟩:=r.cons_inv;cases z;unfold BO at e;split at e
 .cases e;exact⟨_,_,l.str_inv,g.str_inv,k _ H f R .bl .refl⟩
 .cases e
theorem Lm(m:lim<=sizeLine)(h:∃c a,fh K b [c,a] [x,y] (fO c a) H Q):∃i j,x=.str i/\y=.str j/\i.length+j.length<=sizeLine/\Q (.str (i++j)) H:=by
 obtain⟨c,a,d,Z,f,n,C,t,o,R,r,e,k⟩:=h;obtain⟨_,_,z,l,r⟩:=r.cons_inv;cases z;obtain⟨_,_,z,g,r⟩:=r.cons_inv;cases z;unfold fO at e;split at e
 .split at e
  .rename_i hl;cases e;exact⟨_,_,l.str_inv,g.str_inv,aX hl m,k _ H f R .str .refl⟩
  .cases e
 .cases e
theorem KL(l:lim<=sizeLine)(h:∃d a,fh K b [d,a] [x,y] (B0 d a) H Q):Ep x y H Q:=by
 obtain⟨d,a,f,Z,g,n,C,t,o,R,r,e,k⟩:=h;obtain⟨_,_,z,j,r⟩:=r.cons_inv;cases z;obtain⟨_,_,z,i,r⟩:=r.cons_inv;cases z;unfold B0 at e;split at e
 .split at e
  .rename_i hl;obtain⟨c,m,e⟩:=eX e;cases e;exact⟨_,_,c,j.str_inv,i.int_inv,aX hl l,m,k _ H g R .str .refl⟩
  .cases e
 .cases e
theorem LX(h:∃c a,fh K b [c,a] [x,y] (uB c a) H Q):∃i n,x=.str i/\y=.int n/\((0<=n/\n<=100)/\i.length<=100)/\Q (.str (Ez i n)) H:=by
 obtain⟨c,a,d,Z,f,l,C,t,m,R,r,e,k⟩:=h;obtain⟨_,_,z,j,r⟩:=r.cons_inv;cases z;obtain⟨_,_,z,g,r⟩:=r.cons_inv;cases z;unfold uB at e;split at e
 .split at e
  .rename_i hl;cases e;exact⟨_,_,j.str_inv,g.int_inv,hl,k _ H f R .str .refl⟩
  .cases e
 .cases e
theorem J8(g:lim<=sizeLine)(h:∃a,fh K b a xs (CW a) H Q):∃z,xs=[.str z]/\z.length<=sizeLine/\Q (.int z.length) H:=by
 obtain⟨a,c,Z,d,i,C,t,j,R,r,e,k⟩:=h;unfold CW at e;split at e
 .obtain⟨v,_,rfl,f,r⟩:=r.cons_inv;rw[r.nil_inv,f.str_inv];split at e
  .rename_i hl;cases e;exact⟨_,rfl,aX hl g,k _ H d R .int .refl⟩
  .cases e
 .cases e
theorem J9(h:∃a,fh K b a xs (CM a) H Q):∃z n,xs=[.str z]/\z.length<=640/\intText? z=some n/\Q (.int n) H:=by
 obtain⟨a,c,Z,d,i,C,t,j,R,r,e,k⟩:=h;unfold CM at e;split at e
 .obtain⟨v,_,rfl,f,r⟩:=r.cons_inv;rw[r.nil_inv,f.str_inv];split at e
  .rename_i hl;obtain⟨n,g,e⟩:=eX e;cases e;exact⟨_,n,rfl,hl,g,k _ H d R .int .refl⟩
  .cases e
 .cases e
theorem Gy{fa fb:FE}{g:T->T->aq->Option (T×aq)}{r:V->Uh->Hp->VK->Prop}(q:∀c d C p,g c d C=some p->∃z,c=.str z)(s:∀b H Q x y,(∃c d,fh K b [c,d] [x,y] (g c d) H Q)->r x [y] H Q)
 (h:aD K (fP fa fb g) b H Q):Ae K "str" r (aD K fa) (B8 (aD K fb) yc) b H Q:=by
 obtain⟨a,Z,m,f,C,t,N,R,e,k⟩:=h;unfold fP at e;obtain⟨⟨c,l⟩,B,e⟩:=eW e;obtain⟨⟨d,M⟩,A,e⟩:=eW e;obtain⟨z,rfl⟩:=q _ _ _ _ e;refine⟨a,Z,m,f,C,_,l,R,B,λv P G J j o=>?_⟩;refine⟨by rw[j.str_inv];rfl,a,Z,G,f,l,_,_,J,A,λy O F R2 w i=>?_⟩;exact s _ _ _ _ _ ⟨_,_,a,Z,F,f,M,t,N,R2,.cons (j.step i) (.cons w .nil),e,λv L D I u n=>k v L D I u ((o.trans i).trans n)⟩
theorem LC(h:∃c a,fh K b [c,a] [x,y] (tV c a) H Q):∃i j,x=.str i/\[y]=[.str j]/\Q (.bl (Txt.startswith i j)) H:=by
 obtain⟨c,a,d,Z,f,m,C,t,n,R,r,e,k⟩:=h;obtain⟨_,_,z,l,r⟩:=r.cons_inv;cases z;obtain⟨_,_,z,g,r⟩:=r.cons_inv;cases z;unfold tV at e;split at e
 .cases e;exact⟨_,_,l.str_inv,by rw[g.str_inv],k _ H f R .bl .refl⟩
 .cases e
set_option maxHeartbeats 1000000 in
theorem rJ{M:Hp}{c:bo}:∀{a:tl}{vs:Uh}{xs:Ur},ax K M c a vs->strs? a=some xs->vs=xs.map V.str
 | [],vs,xs,h,e=>by cases e;rw[h.nil_inv];rfl
 |t::a,vs,xs,h,e=>by
  obtain⟨v,r,rfl,f,d⟩:=h.cons_inv;cases t with
  |str z=>
   have e:(strs? a).map (z:: ·)=some xs:=e;obtain⟨i,g,e⟩:=eX e;cases e;rw[f.str_inv,rJ d g];rfl
  |_=>exact absurd e (by simp[strs?])
theorem Lk(h:∃f d,fh K b [f,d] [x,y] (mY f d) H Q):∃i a c,x=.str i/\[y]=[.ref a]/\dw K H a (c.map V.str)/\JoinOk i c=true/\Q (.str (Txt.join i c)) H:=by
 obtain⟨f,d,g,Z,j,v,C,t,A,R,r,e,k⟩:=h;obtain⟨_,_,z,n,r⟩:=r.cons_inv;cases z;obtain⟨_,_,z,m,r⟩:=r.cons_inv;cases z;unfold mY at e;split at e
 .obtain⟨w,u,e⟩:=eW e;obtain⟨xs,s,e⟩:=eW e;split at e
  .rename_i p;cases e;obtain⟨a,vs,q,o,l⟩:=R.li m u;have:=rJ l s;subst this;exact⟨_,a,xs,n.str_inv,by rw[q],o,p,k _ H j R .str .refl⟩
  .cases e
 .cases e
end
def Au:V->Option Int->Option Int->Hp->VK->Prop:=λx lo a H Q=>∃z,x=.str z/\z.length<=sizeLine/\Q (.str (Txt.slice z lo a)) H
noncomputable def FD(z:Str):It:=⟨λi _=>i<z.cps.size,λi H x a=>a=H/\∃c,z.cps[i]?=some c/\x=.str ⟨#[c]⟩,λi _=>i=z.cps.size⟩
def Bv(b:TE):TI:=λa H R=>b a H λx c=>∃z,x=.str z/\R (FD z) c
section
variable {K:aK}{W:XW}{a:St}{H:Hp}{Q:VK}{D:Ends}
theorem KO{f:FE}{lo d:FO}(p:lim<=sizeLine)(h:aD K (tb f lo d) a H Q):Do Au (aD K f) (tj K lo) (tj K d) a H Q:=by
 obtain⟨b,Z,j,c,C,G,M,R,e,k⟩:=h;unfold tb at e;obtain⟨⟨t,i⟩,w,e⟩:=eW e;obtain⟨⟨l,g⟩,s,e⟩:=eW e;obtain⟨⟨u,L⟩,r,e⟩:=eW e;dsimp only at e;split at e
 .split at e
  .rename_i hl;cases e;refine⟨b,Z,j,c,C,_,i,R,w,λv J z B q o=>?_⟩;refine⟨b,Z,z,c,i,l,g,B,s,λI y R2 n=>?_⟩;refine⟨b,Z,y,c,g,u,_,R2,r,λF x A m=>?_⟩;exact⟨_,q.str_inv,aX hl p,k _ F x A .str ((o.trans n).trans m)⟩
  .cases e
 .cases e
theorem NS{Z:V1->Prop}{q:Hp}{m:bo}{z:Str}:td K (FD z) Z q m (ip z) (λ_=>True):=by
 refine⟨λi s b o n l r a H d p sm ix k _=>?_,λb o n l r a H p sm ix k _=>?_⟩
 .unfold ip at d;rw[bF]at d;obtain⟨c,f,e⟩:=eX d;subst e;rw[eI]at f;refine⟨(gQ f).1,λx u ⟨j,t,g,h⟩=>?_⟩;subst j;rw[f]at g;cases g;rw[h];exact⟨.refl _,.str⟩
 .show _=z.cps.size;simp[ip]
theorem Pd{f:FE}{k:Nat}{is:Uo}{g:FG}{c:FB}{d:FE}(o:i1 k g)(h:jh K (rB f k is g c d) a H Q):t4 (Bv (aD K f)) (hG k is) (ke K g) (hL K c) (aD K d) a H Q:=by
 obtain⟨b,Z,j,i,C,B,I,R,e,q⟩:=h;unfold rB at e;obtain⟨⟨t,A⟩,u,e⟩:=eW e;dsimp only at e;split at e
 .split at e
  .rename_i hl;refine⟨b,Z,j,i,C,_,A,R,u,λv G F x s l=>?_⟩;exact⟨_,s.str_inv,λD r=>oP (P:=λ_=>True) x o NS trivial (λ_ _ _ _=>trivial) hl e r λp z w vs y hp n m=>q p z w vs y hp n (l.trans m)⟩
  .cases e
 .cases e
end
end TL
namespace TL
open PySem PySem.Spec PyProof.Rows L2
section
variable {X:Cx}{a b c e o:Wg}{f:Uu}{fa fb fc:FE}{m:FN}{p B pos:Pos}
theorem pU{x:Str}{z:Str}(d:∃t,X.mg x=some (.str z t))(g:Gl X x:=by rfl)(h:(x==("__debug__":Str))=false:=by decide):QE X (.Name x pos) (fC (.str z)):=by
 obtain⟨t,d⟩:=d;exact(yG g d (v:=.str z) ⟨t,rfl⟩ h).imp λ_ _ _=>w4 λ_ _=>.str
theorem JW(h:QE X a fa)(g:QE X b fb)(d:Wo .In b=false:=by rfl):QE X (.Compare a [.In] [b] pos) (fP fa fb BO):=E9 Se (λ_ _ _ _ _=>JJ) h g d
theorem fG(g:QE X a fa)(d:QE X b fb):QE X (.BinOp a .Add b pos) (fP fa fb fO):=(v7 Th g d).imp λ_ _ _=>y7 λ_ _ _ _ _=>Lm jC
theorem KN(h:QE X a fa)(g:QE X b fb)(d:y0 b:=by exact λ_ _=>rfl):QE X (.Subscript a b pos) (fP fa fb B0):=(ER Ht h g d).imp λ_ _ _=>y7 λ_ _ _ _ _=>KL jC
theorem OX:gm X (Xm .Mult) (λx y H Q=>∃i n,x=.str i/\y=.int n/\((0<=n/\n<=100)/\i.length<=100)/\Q (.str (Ez i n)) H):=by
 intro A s v H x y u w Q I j g h;obtain⟨i,n,rfl,rfl,⟨⟨z,r⟩,l⟩,q⟩:=h;obtain⟨t,rfl⟩:=j;obtain⟨d,rfl⟩:=g;exact SB.mul (VZ 100 100 l r (by omega) (by decide) (by decide)) λd k=>⟨.str _,H,I.tok _,⟨_,rfl⟩,q⟩
theorem Fk(g:QE X a fa)(d:QE X b fb):QE X (.BinOp a .Mult b pos) (fP fa fb uB):=(v7 OX g d).imp λ_ _ _=>y7 λ_ _ _ _ _=>LX
theorem Mw(d:X.mg "len"=none)(i:QA X (e::f) m)(g:Gl X "len":=by rfl)(h:V2 (e::f) X.env=(false,Wh e X.env)::V2 f X.env:=by rfl)(j:(Wj pos (V2 f X.env)).any (·.1)=false:=by rfl):
 QE X (.Call (.Name "len" p) (e::f) [] pos) (r1 m):=CJ yB (λ_ _ _ _=>J8 jC) boot_len d g i (by decide) (by decide) h j
theorem LR:C7 X Au:=by
 intro K s F H x v vl G lo J sl Q I A D C y h;obtain⟨z,rfl,d,q⟩:=h;obtain⟨t,rfl⟩:=A;refine⟨"str",_,PySem.F.slot_str_getitem.lookup,Xc _ _ _,?_⟩;obtain⟨ob,n,l,g⟩:=D;cases C with
 |none=>cases y with
  |none=>exact WT (l:=none) (u:=none) (st:=none) ⟨ob,n,l,g⟩ rfl (Xg ⟨aX (Txt.slice_le z _ _) d,λu k=>⟨.str _,H,I.tok _,⟨_,rfl⟩,q⟩⟩)
  |int j r=>exact WT (l:=none) (u:=some (j,r)) (st:=none) ⟨ob,n,l,g⟩ rfl (Xg ⟨aX (Txt.slice_le z _ _) d,λu k=>⟨.str _,H,I.tok _,⟨_,rfl⟩,q⟩⟩)
 |int i w=>cases y with
  |none=>exact WT (l:=some (i,w)) (u:=none) (st:=none) ⟨ob,n,l,g⟩ rfl (Xg ⟨aX (Txt.slice_le z _ _) d,λu k=>⟨.str _,H,I.tok _,⟨_,rfl⟩,q⟩⟩)
  |int j r=>exact WT (l:=some (i,w)) (u:=some (j,r)) (st:=none) ⟨ob,n,l,g⟩ rfl (Xg ⟨aX (Txt.slice_le z _ _) d,λu k=>⟨.str _,H,I.tok _,⟨_,rfl⟩,q⟩⟩)
theorem E6{lo d:Option Wg}{g h:FO}(i:QE X a fa)(hl:QO X lo g)(hh:QO X d h):QE X (.Subscript a (.Slice lo d none B) pos) (tb fa g h):=(uF LR i hl hh).imp λ_ _ _=>KO jC
theorem S3:mU X (.type "int") (λxs H Q=>∃z n,xs=[.str z]/\z.length<=640/\intText? z=some n/\Q (.int n) H):=by
 intro k s i H xs j Q I r h;obtain⟨z,n,rfl,g,d,q⟩:=h;obtain⟨u,rfl,t,rfl⟩:=vals1 r;exact PySem.W.KIN.call_text d g ⟨.int n,H,I.tok _,⟨_,rfl⟩,q⟩
theorem Gq{r:Uh->Hp->VK->Prop}{g:tl->aq->Option (T×aq)}{d:String}{x:Str}(t:mU X (.type d) r)(k:∀i H Q xs,(∃h,fh X.K i h xs (g h) H Q)->r xs H Q)(j:WN x=some (.type d))(n:X.mg x=none)(q:Gl X x)(u:QA X (e::f) m)(l:x≠"__name__":=by decide)(v:(x==("__debug__":Str))=false:=by decide)
 (s:V2 (e::f) X.env=(false,Wh e X.env)::V2 f X.env:=by rfl)(w:(Wj pos (V2 f X.env)).any (·.1)=false:=by rfl):QE X (.Call (.Name x p) (e::f) [] pos) (mR m g):=
 (q5 t q n j u l v s w).imp λ_ _ _=>EE k
theorem Ld(d:X.mg "int"=none)(i:QA X (e::f) m)(g:Gl X "int":=by rfl)(h:V2 (e::f) X.env=(false,Wh e X.env)::V2 f X.env:=by rfl)(j:(Wj pos (V2 f X.env)).any (·.1)=false:=by rfl):
 QE X (.Call (.Name "int" p) (e::f) [] pos) (r2 m):=Gq S3 (λ_ _ _ _=>J9) boot_int d g i (by decide) (by decide) h j
theorem Lz:yk X "str.startswith" (λx vs H Q=>∃i j,x=.str i/\vs=[.str j]/\Q (.bl (Txt.startswith i j)) H):=by
 intro n s g H x xs v k Q I d rs h;obtain⟨i,j,rfl,rfl,q⟩:=h;obtain⟨t,rfl⟩:=d;obtain⟨u,rfl,l,rfl⟩:=vals1 rs;exact SC.startswith ⟨.bl _,H,I,rfl,q⟩
theorem xD:∀{g:Ur}{d:Uq},au (g.map V.str) d->∃l:List (Str×Tok),d=strValues l/\l.map (·.1)=g
 | [],d,r=>by cases r;exact⟨[],rfl,rfl⟩
 |z::g,d,r=>by
  cases r with
  |cons i h=>
   obtain⟨t,rfl⟩:=i;obtain⟨l,rfl,rfl⟩:=xD h;exact⟨(z,t)::l,rfl,rfl⟩
theorem K4:yk X "str.join" (λx vs H Q=>∃i a d,x=.str i/\vs=[.ref a]/\dw X.K H a (d.map V.str)/\JoinOk i d=true/\Q (.str (Txt.join i d)) H):=by
 intro F s z H x xs v A Q I g rs h;obtain⟨i,a,d,rfl,rfl,w,y,q⟩:=h;obtain⟨t,rfl⟩:=g;obtain⟨u,rfl,g⟩:=vals1 rs;cases g;obtain⟨r,j,n,D⟩:=I.list w;obtain⟨l,rfl,hl⟩:=xD j;exact SC.join n.isList hl y λC k=>⟨.str _,H,I.tok _,⟨_,rfl⟩,q⟩
theorem Qd(d g:T)(C:aq)(p:T×aq)(e:tV d g C=some p):∃z,d=.str z:=by
 unfold tV at e;split at e
 .exact⟨_,rfl⟩
 .cases e
theorem Ro(d g:T)(C:aq)(p:T×aq)(e:mY d g C=some p):∃z,d=.str z:=by
 unfold mY at e;split at e
 .exact⟨_,rfl⟩
 .cases e
section
variable {g d:Pos}
theorem Ll(i:QE X a fa)(j:QE X b fb)(n:Wv a "startswith" X.env (Wh a X.env)=Wh a X.env:=by rfl)
 (k:((Wj d (V2 [b] X.env)).all (λx=> !x.1)&&(WX d (WC [] X.env)).all (λx=>x.1.isSome)
  &&decide (([b]:Uu).length+([]:List WG).length+(if([]:List WG).isEmpty then 0 else 1)<30))=true:=by rfl)
 (l:(g.endLine==d.line)=true:=by rfl)(h:V2 [b] X.env=(false,Wh b X.env)::V2 [] X.env:=by rfl)(q:(Wj d (V2 [] X.env)).any (·.1)=false:=by rfl):
 QE X (.Call (.Attribute a "startswith" g) [b] [] d) (fP fa fb tV):=
 (wK PySem.F.plainAttrs_str PySem.F.slot_str_startswith PySem.F.type_str_startswith Lz i (jZ j oF h) n k l h q).imp λ_ _ _=>Gy Qd λ_ _ _ _ _=>LC
theorem yK(i:QE X a fa)(j:QE X b fb)(n:Wv a "join" X.env (Wh a X.env)=Wh a X.env:=by rfl)
 (k:((Wj d (V2 [b] X.env)).all (λx=> !x.1)&&(WX d (WC [] X.env)).all (λx=>x.1.isSome)
  &&decide (([b]:Uu).length+([]:List WG).length+(if([]:List WG).isEmpty then 0 else 1)<30))=true:=by rfl)
 (l:(g.endLine==d.line)=true:=by rfl)(h:V2 [b] X.env=(false,Wh b X.env)::V2 [] X.env:=by rfl)(q:(Wj d (V2 [] X.env)).any (·.1)=false:=by rfl):
 QE X (.Call (.Attribute a "join" g) [b] [] d) (fP fa fb mY):=
 (wK PySem.F.plainAttrs_str PySem.F.slot_str_join PySem.F.type_str_join K4 i (jZ j oF h) n k l h q).imp λ_ _ _=>Gy Ro λ_ _ _ _ _=>Lk
end
theorem IP{P:Wd}{w:Wf}{K:aK}{Y:Wg}{n:String}{g:V1}{z:Str}{t:Tok}
 (hn:["enumerate","zip","dict_itemiterator","dict_reverseitemiterator","odict_iterator","itertools.zip_longest","itertools.pairwise"].contains n=false)
 (R:∀A:We,A.handled=none->Walks P w A g [g] [g] z.cps.size (SignAt z) (λi h=>h.IsStrIter g n z t i))
 (hS:∀(A:We)(i:Nat)(s:V4)(Q:Ut)(E:Ut),s.heap.IsStrIter g n z t i->Q (.ref g) s->Wa (Wb P w) A (pyIter (.ref g)) Q E s):
 Turn P w K Y (FD z) [g] g (λi h=>h.IsStrIter g n z t i) where
 mem:=by simp
 obj:=λi h st b j=>by
  have e:b=g:=by simpa using j
  subst e;obtain⟨o,e,c,d⟩:=st;exact⟨o,e,λv z=>by rw[d]at z;cases z⟩
 keep:=λi h q st k=>by
  obtain⟨o,e,r⟩:=st;exact⟨o,k g (by simp) o e,r⟩
 item:=by
  intro X F x G D i U s O H E I l st C;subst F x G;obtain⟨N,f1,f2,M,L,J⟩:=l g (by simp);refine(R X.A (I.ok.hd D)).item i s _ _ C st λv q tk hv S u=>?_;obtain⟨c,Z,hx,rfl⟩:=hv;have I1:Inv X U O H {s with heap:=q,toks:=tk}:=I.turned (λb o j e=>u b o (by simpa using j) e) N f1 M L J;obtain⟨o,e,cl,d⟩:=id S;exact⟨_,rfl,CP (s:={s with heap:=q,toks:=tk}) e cl d hn ⟨.str ⟨#[c]⟩,H,I1,⟨Z,rfl⟩,⟨rfl,c,hx,rfl⟩,S,λb j=>(l b j).1⟩⟩
 done:=by
  intro X F x G D i U s O H E I l st C;subst F x G;have y:i=z.cps.size:=C;subst y;obtain⟨N,f1,f2,M,L,J⟩:=l g (by simp);exact(R X.A (I.ok.hd D)).done s _ _ st λq tk u=>⟨rfl,I.turned (λb o j e=>u b o (by simpa using j) e) N f1 M L J⟩
 self:=λA i s Q E st h=>hS A i s Q E st h
theorem Ls{y l:Wg}{n:TE}(hl:PE X l n):PI X y l (Bv n):=by
 intro F s w H R I h;refine aC (hl F s w H _ I h) λv d ⟨x,u,g,C,D⟩=>?_;obtain⟨z,e,q⟩:=D;subst e;obtain⟨t,rfl⟩:=C;cases r:z.cps.all (· <128)
 .refine wpAny_pyIter_wide r ⟨d.heap.objs.size,[d.heap.objs.size],_,_,u,rfl,g.kept (t':=d.toks) λb o e=>V8.get?_push_of_some _ e,IP (n:="str_iterator") (z:=z) (t:=t) (by decide) (λA k=>Walks.strWide k _ z t) (λA i s Q E st h=>wpAny_pyIter_striter_wide st h),⟨_,V8.get?_push_size _ rfl,rfl,rfl⟩,λb j=>?_,q⟩;have e:b=d.heap.objs.size:=by simpa using j
  subst e;exact g.l2 (bI _) (g.aF.fresh (bI _))
 .refine wpAny_pyIter_ascii r ⟨d.heap.objs.size,[d.heap.objs.size],_,_,u,rfl,g.kept (t':=d.toks) λb o e=>V8.get?_push_of_some _ e,IP (n:="str_ascii_iterator") (z:=z) (t:=t) (by decide) (λA k=>Walks.strAscii k _ z t) (λA i s Q E st h=>wpAny_pyIter_striter_ascii st h),⟨_,V8.get?_push_size _ rfl,rfl,rfl⟩,λb j=>?_,q⟩;have e:b=d.heap.objs.size:=by simpa using j
  subst e;exact g.l2 (bI _) (g.aF.fresh (bI _))
section
variable {d aA:Ur}{is:Uo}{h:WD}{i:List (Str×V1)}{j iter l:Wg}{n:Uu}{q r:FE}{g:FG}{s:FB}
theorem MR(G:X.calm=true)(k:jT X d aA is h i)(A:QE X iter q)(z:i1 d.length g)(D:∀C t v u,QG (fZ X (d++aA) h i C t v u) j g)(w:∀C t v u,p3 (fZ X (d++aA) h i C t v u) n s)
 (F:∀C t v u,QE (fZ X (d++aA) h i C t v u) l r)(y:∀x,Wi iter X.env x=pure x:=by intro _;rfl):QN X (.ListComp l [⟨j,iter,n,0⟩] h pos) (rB q d.length is g s r):=
 (pV G k (Ls A) D w F y).imp λ_ _ _=>Pd z
end
end
end TL
namespace TL
open PySem PySem.Spec PyProof.Rows L2 Builtin Builtin.Str
section
variable {X:Cx}
theorem qT:∀{l:List (Str×Tok)},au ((l.map (·.1)).map V.str) (strValues l)
 | []=>.nil
 | (x,t)::l=>.cons ⟨t,rfl⟩ qT
theorem Sv{x y:Str}(h:x.length+2<=sizeLine):(Txt.split x y).length<=sizeLine:=by
 have a:(1:Nat)<=sizeLine:=aX (Nat.le_add_left 1 (x.length+1)) h;unfold Txt.split;split
 .exact a
 .split
  .exact a
  .have b:=StrLaws.occ_length_le x y 0 x.length (x.length+1);rw[length_partsBetween];omega
theorem Nr:yk X "str.split" (λx vs H Q=>∃i j,x=.str i/\vs=[.str j]/\(j.length==0)=false/\i.length+2<=sizeLine/\∀l,H l=none->Q (.ref l) (upd H l (.lst ((Txt.split i j).map V.str)))):=by
 intro p s n H x xs v r Q I f rs h;obtain⟨x,y,rfl,rfl,m,g,q⟩:=h;obtain⟨t,rfl⟩:=f;obtain⟨u,rfl,f⟩:=vals1 rs;obtain⟨u,rfl⟩:=f;have a:∀(l:List (Str×Tok))(k:Nat),l.map (·.1)=Txt.split x y->EP X p n Q (.ref s.heap.objs.size) {s with heap:=s.heap.push {cls:=.type "list",data:=.seq (strValues l).toArray},toks:=k}:=λl k e=>by
  refine⟨.ref s.heap.objs.size,_,I.laid (a:=s.heap.objs.size) (o:=.lst ((Txt.split x y).map V.str)) (λb u e=>V8.get?_push_of_some _ e) (bI _) ?_,rfl,q _ (I.aF.fresh (bI _))⟩;refine⟨by rw[aQ];exact Sv g,strValues l,0,?_,V8.get?_push_size _ rfl⟩;rw[<-e];exact qT
 have o:(partsBetween x (occurrences x y 0 x.length (x.length+1)) y.length).length<=sizeLine:=by
  have w:=StrLaws.occ_length_le x y 0 x.length (x.length+1);rw[length_partsBetween];omega
 cases c:(decide (x.length<y.length)||decide (strKind x<strKind y))
 .cases d:(occurrences x y 0 x.length (x.length+1)).isEmpty
  .refine call_meets PySem.F.slot_str_split (Xc _ _ _) PySem.F.entry_str_split (PySem.F.args_str_split_2 _ _) (meets_str_split_sep x y t u c m d (by omega) o) ?_;show wants _ _ _ {s with toks:=_,heap:=s.heap.push {cls:=.type "list",data:=.seq (strsFrom s.toks (partsBetween x (occurrences x y 0 x.length (x.length+1)) y.length)).toArray}};rw[strsFrom_eq];exact a (numbered s.toks _) _ ((numbered_texts _ _).trans ((V9 (ne_true_of_eq_false c)).trans (V9 (ne_true_of_eq_false d))).symm)
  .exact call_meets PySem.F.slot_str_split (Xc _ _ _) PySem.F.entry_str_split (PySem.F.args_str_split_2 _ _) (meets_str_split_not_found x y t u c m d) (a [(x,t)] s.toks ((V9 (ne_true_of_eq_false c)).trans (V6 d)).symm)
 .exact call_meets PySem.F.slot_str_split (Xc _ _ _) PySem.F.entry_str_split (PySem.F.args_str_split_2 _ _) (meets_str_split_cannot_occur x y t u c) (a [(x,t)] s.toks (V6 c).symm)
noncomputable def xy(b a:T)(_:aq):Option tl:=match b with
 | .str x=>match a with
   | .str y=>if(y.length==0)=false/\x.length+2<=sizeLine then some ((Txt.split x y).map T.str)else none
   |_=>none
 |_=>none
abbrev CL(a b:FE):FN:=qN a b xy
theorem OR{c b:T}{C:aq}{a:tl}(e:xy c b C=some a):∃x y,c=.str x/\b=.str y/\(y.length==0)=false/\x.length+2<=sizeLine/\a=(Txt.split x y).map T.str:=by
 unfold xy at e;split at e
 .split at e
  .split at e
   .rename_i h;cases e;exact⟨_,_,rfl,rfl,h.1,h.2,rfl⟩
   .cases e
  .cases e
 .cases e
theorem zM{K:aK}{M:Hp}{a:bo}:∀{l:Ur},ax K M a (l.map T.str) (l.map V.str)
 | []=>rfl
 |x::l=>⟨_,_,rfl,rfl,zM⟩
theorem Ku{K:aK}{c:L2.St}{H:Hp}{Q:VK}{fa fb:FE}(h:jh K (CL fa fb) c H Q):Ae K "str" (λx vs H Q=>∃i j,x=.str i/\vs=[.str j]/\(j.length==0)=false/\i.length+2<=sizeLine/\∀l,H l=none->Q (.ref l) (upd H l (.lst ((Txt.split i j).map V.str)))) (aD K fa) (B8 (aD K fb) yc) c H Q:=by
 obtain⟨a,Z,g,b,C,F,M,R,e,k⟩:=h;unfold CL qN at e;obtain⟨⟨I,f⟩,t,e⟩:=eW e;obtain⟨⟨G,L⟩,s,e⟩:=eW e;obtain⟨D,r,e⟩:=eX e;cases e;obtain⟨x,y,rfl,rfl,o,p,rfl⟩:=OR r;refine⟨a,Z,g,b,C,_,f,R,t,λv J z A d n=>?_⟩;refine⟨by rw[d.str_inv];rfl,a,Z,z,b,f,_,_,A,s,λu B w R2 q m=>?_⟩;rw[d.str_inv,q.str_inv];exact⟨x,y,rfl,rfl,o,p,λl hl=>k l B w _ R2 hl zM (n.trans m)⟩
section
variable {a b:Wg}{fa fb:FE}{d c:Pos}
theorem KC(g:QE X a fa)(h:QE X b fb)(k:Wv a "split" X.env (Wh a X.env)=Wh a X.env:=by rfl)
 (i:((Wj c (V2 [b] X.env)).all (λx=> !x.1)&&(WX c (WC [] X.env)).all (λx=>x.1.isSome)
  &&decide (([b]:Uu).length+([]:List WG).length+(if([]:List WG).isEmpty then 0 else 1)<30))=true:=by rfl)
 (j:(d.endLine==c.line)=true:=by rfl)(f:V2 [b] X.env=(false,Wh b X.env)::V2 [] X.env:=by rfl)(l:(Wj c (V2 [] X.env)).any (·.1)=false:=by rfl):
 QN X (.Call (.Attribute a "split" d) [b] [] c) (CL fa fb):=
 (wK PySem.F.plainAttrs_str PySem.F.slot_str_split PySem.F.type_str_split Nr g (jZ h oF f) k i j f l).imp λ_ _ _=>Ku
end
end
end TL
namespace TL
open PySem PySem.Spec PyProof.Rows L2
theorem Sy{h:V8}{a:V1}:V8.SameBut a h (bT h [a]):=by
 refine⟨U6 _ _,λb c=>?_⟩;cases e:h.get? b with
 |some o=>exact cH _ e (by simpa using c)
 |none=>
  cases d:(bT h [a]).get? b with
  |none=>rfl
  |some o=>rw[cC _ d]at e;cases e
section
variable {M:Model}{A:We}{E:Ut}{s:V4}{B:V8}{l:List Env}{a C:V1}
theorem Q0{v:Type}{w:String}{k:Env}{Q:v->V4->Prop}(h:hE B l a C s)(G:∀h',hE B l a C {s with heap:=h'}->(∀b o,s.heap.get? b=some o->(∀vs,o.data≠Data.fields vs)->h'.get? b=some o)->E (.ref a) {s with heap:=h'}):
 Wa M A (PySem.passOn w (.ref a) k) Q E s:=by
 obtain⟨t,O,st,D,J,q,vs,T,y,i,m,⟨N,I⟩,n,p,u,r,j,c,H⟩:=h;obtain⟨L,K,P,sl⟩:=y;dsimp only at c;subst c;have c:({cls:=L,dict:=K,data:=Data.fields i,slots:=sl}:Obj).data=Data.fields i:=rfl;unfold PySem.passOn;refine V0 (Wl m n p ?_);rw[V9 (show¬(V3.ref T==V3.none)=true from by simp)];unfold PySem.setFlight;refine V0 (V0 (Wl m n p ?_));rw[V6 (show(V3.ref T !=V3.none)=true from rfl)];have g:3<i.size:=(gQ H).1;refine WU j c g (wpAny_throw (G _ ?_ ?_))
 .have kp:∀b o,b≠T->s.heap.get? b=some o->(s.heap.update T (Obj.mapFields λx=>x.setIfInBounds 3 (k.frame.elim V3.none λf=>WY f))).get? b=some o:=λb o F e=>V8.get?_update_of_ne _ (Ne.symm F) e;have nT:∀b o,s.heap.get? b=some o->(∀vs,o.data≠Data.fields vs)->b≠T:=λb o e d z=>by
   subst z;rw[j]at e;cases e;exact d _ c
  exact⟨t,k.frame.elim V3.none λf=>WY f,λb o e=>kp b o (λz=>by subst z;rw[u]at e;cases e) (st b o e),D,J.of_keeps λb o e d=>⟨o,kp b o (nT b o e d) e,rfl⟩,q,vs,T,_,i.setIfInBounds 3 (k.frame.elim V3.none λf=>WY f),kp a q r.symm m,⟨N,I⟩,n,p,u,r,V8.get?_update_self _ j rfl,rfl,Array.getElem?_setIfInBounds_self_of_lt g⟩
 .intro b o e d;exact V8.get?_update_of_ne _ (λz=>by subst z;rw[j]at e;cases e;exact d _ c) e
theorem RW{h h' c k:V8}:∀(l:List Env),(∀b∈aA l,∀o,h.get? b=some o->(∀vs,o.data≠Data.fields vs)->∃f,h'.get? b=some f/\f.data=o.data)->(∀b∈aA l,c.get? b=none->k.get? b=none)->h.FunFrames c l->h'.FunFrames k l:=by
 intro l;induction l with
 |nil=>intro _ _ _;trivial
 |cons env r ih=>
  intro m g hl;obtain⟨v,⟨L,o,j,u,t,n⟩,q⟩:=hl;have p:L∈aA (env::r):=by unfold aA;rw[dG,j];exact bG
  have sub:∀b∈aA r,b∈aA (env::r):=λb g=>by unfold aA;rw[dG,j];exact bJ _ g
  obtain⟨f,e,d⟩:=m L p o t n;exact⟨v,⟨L,f,j,g L p u,e,λvs z=>n vs (d ▸ z)⟩,ih (λb i=>m b (sub b i)) (λb i=>g b (sub b i)) q⟩
end
section
variable {X:Cx}{g:List (V1×Obj)}{i:L2.St}{H f:Hp}{s s':V4}{c:String}{C a Cl:V1}{B:V8}
variable{h:V8}{b:V1}
theorem rM{l:List V1}(e:h.get? b=none):(bT h l).get? b=none:=by
 cases q:(bT h l).get? b with
 |none=>rfl
 |some o=>rw[cC _ q]at e;cases e
theorem sY{d:V1}{o:Obj}(e:(bT h [d]).get? b=some o):b≠d:=λz=>by
 rw[U7 [d] (by rw[z];simp)]at e;cases e
theorem da.round{h':V8}(I:Inv X g i H {s with heap:=bT s.heap [Cl]})(A:da X.prog X.w X.K X.stack H s c f C B s')(F:f Cl=none)(st:(bT B [Cl]).StaysIn h')
 (sm:∀b o,b≠Cl->s'.heap.get? b=some o->(∀vs,o.data≠Data.fields vs)->∃sl,h'.get? b=some {o with slots:=sl}):
 da X.prog X.w X.K X.stack H {s with heap:=bT s.heap [Cl]} c f C (bT B [Cl]) {s' with heap:=h'}:=by
 have x:∀b u,f b=some u->b≠Cl:=λb u e z=>by rw[z,F]at e;cases e
 have l:∀b u o,f b=some u->s'.heap.get? b=some o->(bT B [Cl]).get? b=some o:=λb u o e q=>cH _ (A.lz b u o e q) (by simpa using x b u e);have cp:∀b u o,f b=some u->s'.heap.get? b=some o->h'.get? b=some o:=λb u o e q=>st b o (l b u o e q);have w:∀b∈aA X.stack,∃o,(bT s.heap [Cl]).get? b=some o/\∀vs,o.data≠ .fields vs:=λb k=>(I.stack.mem k).2;have j:∀b o,(bT s.heap [Cl]).get? b=some o->H b=none->b∉aA X.stack->(bT B [Cl]).get? b=some o:=λb o e n r=>cH _ (A.ji b o (cC _ e) n r) (by simpa using sY e);have d:∀b o,(bT s.heap [Cl]).get? b=some o->b∉aA X.stack->∃m,(bT B [Cl]).get? b=some m:=λb o e r=>by
  obtain⟨m,q⟩:=A.gw b o (cC _ e) r;exact⟨m,cH _ q (by simpa using sY e)⟩
 have slot:∀b o,(bT s.heap [Cl]).get? b=some o->H b=none->b∈aA X.stack->∃sl,h'.get? b=some {o with slots:=sl}:=λb o e n k=>by
  obtain⟨K,J⟩:=A.un.any (cC _ e) n (by simp);obtain⟨m,p,y⟩:=w b k;rw[e]at p;cases p;obtain⟨D,G⟩:=sm b _ (sY e) J y;exact⟨D,G⟩
 refine⟨A.nm,A.os,A.bare,⟨λb o e n r _=>st b o (j b o e n r),λb o e n k _=>slot b o e n k,λb o e=>A.un.free b o (cC _ e),λb o e _=>?_,A.un.eL,A.un.eh,A.un.eN⟩,zA A.aF cp,j,λb u o e q=>?_,d⟩
 .by_cases k:b∈aA X.stack
  .obtain⟨sl,p⟩:=slot b o e (I.ez b k) k;exact⟨_,p⟩
  .obtain⟨m,p⟩:=d b o e k;exact⟨m,st b m p⟩
 .obtain⟨ob,t⟩:=lZ (A.aF b u e);have v:=(cp b u ob e t).symm.trans q;cases v;exact l b u _ e t
end
abbrev o4(X:Cx)(N:Ur)(scope:WD)(cl:List (Str×V1))(C:V1)(a:V4)(c:Hp)(b:List V1)(xe:Ut):Cx:={fZ X N scope cl C a c b with xe:=xe}
section
variable {X:Cx}{own fr:Ur}{is:Uo}{scope:WD}{cl:List (Str×V1)}
theorem RS{n:List (V1×Obj)}{u av:L2.St}{q r:Hp}{d:V4}{K:List V1}{L:V1}{c:String}{acc:V3}{Q:Ut}(bb:X.stack=X.env::X.outer)(A:X.env.frame=some L)
 (I3:Inv X n u q d)(f3:∀b∈K,oQ X n q b)(h:br X c u r):
 br (o4 X (own++fr) scope cl d.heap.objs.size d q K (notedBy (Wb X.prog X.w) X.A (compEnvC scope cl d.heap.objs.size X.env) λe jd=>Xl (Wb X.prog X.w) X.A X.xe none Q acc d.heap.objs.size (.error e) jd)) c av r:=by
 intro bv H s a C B s' O al v;have J:Inv (fZ X (own++fr) scope cl d.heap.objs.size d q K) [] av H s:=uZ (calm:=X.calm) (pn:=[]) (xe:=λ_ _=>False) O O.ok.frames O.ok.hd λp z=>by simp at z
 have N:X.A.frames=some (X.env::X.outer):=by rw[I3.ok.frames,bb]
 have x:da X.prog X.w X.K X.stack H s c r C B s':=al;show Wa (Wb X.prog X.w) X.A (WZ (.ref a) X.env) _ _ s';have key:∀f t,V8.HeldW B X.stack a (.ref C) (.ref t) L f->s'.heap.UpToSlots f->Xl (Wb X.prog X.w) X.A X.xe none Q acc d.heap.objs.size (.error (.ref a)) {s' with heap:=f}:=by
  intro f t i g;have R:H d.heap.objs.size=none:=J.free;have P:d.heap.objs.size∉aA X.stack:=λz=>by
   obtain⟨_,o,l,_⟩:=J.ok.fk.mem z;exact absurd (V8.lt_size l) (cE _)
  obtain⟨m,⟨o,es,ep,l,hd,hk,ly⟩,_⟩:=J.loc;have hB:B.get? d.heap.objs.size=some o:=x.ji _ o l R P;have I:r d.heap.objs.size=none:=x.un.free _ o l R (by simp);obtain⟨Z,w,M,S,vs,T,U,ts,he,⟨bw,h0⟩,D,h1,y,lj,hT,gi,h3⟩:=i;have ha:a≠d.heap.objs.size:=λz=>by rw[z,hB]at w;cases w
  have G:T≠d.heap.objs.size:=λz=>by rw[z,hB]at y;cases y
  refine⟨m,⟨o,es,ep,Z _ o hB,hd,hk,ly⟩,λE ko cn yi=>?_⟩;have j:∀b o,b≠d.heap.objs.size->f.get? b=some o->E.get? b=some o:=λb o k e=>(ko.2 b k).trans e;have L5:hE (bT B [d.heap.objs.size]) X.stack a C {s' with heap:=E}:=by
   refine⟨t,_,λb o e=>j b o (sY e) (Z b o (cC _ e)),rM w,RW X.stack (λb k o e _=>⟨o,j b o (λz=>P (z ▸ k)) e,rfl⟩) (λb _ e=>rM e) M,S,vs,T,U,ts,j a S ha he,⟨bw,h0⟩,D,h1,rM y,lj,j T U G hT,gi,h3⟩
  refine Q0 L5 λh6 L6 se=>?_;have Ib:Inv X n u H {s with heap:=bT s.heap [d.heap.objs.size]}:=wI I3 f3 J Sy;refine h n H _ a C _ _ Ib (x.round (s':=s') (h':=h6) Ib I L6.choose_spec.choose_spec.1 λb o k e Y=>?_) (.inr (.inr L6));obtain⟨sl,e4⟩:=g b o e Y;exact⟨sl,se b _ (j b _ k e4) Y⟩
 have gz:Made B X.stack a C s'\/ls B X.stack a C s'\/hE B X.stack a C s':=v;rw[bb]at gz key;rcases gz with⟨h0,vs,st,ff,me⟩| ⟨t,F⟩|L
 .exact uU N A st ff me λf t i g=>key f t i g
 .exact wpAny_looks_onW N A F λf i g=>key f t i g
 .exact rH N A L λf t i g=>key f t i g
end
theorem Tx{b:Wd}{w:Wf}{A:We}{R:Result->V4->Prop}{s:V4}{j a iter:Wg}{scope:WD}{pos:Pos}{g acc:V3}{env:Env}(I:Nat->V4->Prop)
 (d:∀n s,I n s->Wa (Wb b w) A (W8 g) (λr f=>match r with
  |none=>False
  |some v=>Wa (Wb b w) A (W5 a g v) (λ_ f=>Wa (Wb b w) A (W6 a env v) (λ_ o=>
   Wa (Wb b w) A (Wh j env) (λx l=>
    Wa (Wb b w) A (call (.builtin "list.append") [acc,x]) (λ_ k=>∃m,m<n/\I m k) (λ_ _=>False) l) (notedBy (Wb b w) A env λe p=>R (.error e) p) o) (λ_ _=>False) f) (λ_ _=>False) f) (λ_ _=>False) s)
 (n:Nat)(h:I n s):
 W1 (Wb b w) A (.compLoop (.ListComp j [⟨a,iter,[],0⟩] scope pos) 0 g acc env) R s:=by
 refine codeAny_loop rfl I (λn s u=>?_) n h;show Wa _ A ((compTurn (.ListComp j [⟨a,iter,[],0⟩] scope pos) 0 g acc env).onRaise (λx=>do WZ x env;theTreesLotGoes x)) _ _ s;refine wpAny_noted ?_;rw[compTurn_list];refine V0 (Xa (V0 (Wm (d n s u) (λr f i=>?_) λ_ _ c=>c.elim)));cases r with
 |none=>exact i.elim
 |some v=>
  refine V0 (Wm i (λ_ f i=>?_) λ_ _ c=>c.elim);refine V0 (Wm i (λ_ o y=>V0 (wpAny_tests_nil ?_)) λ_ _ c=>c.elim);exact V0 (V0 (Wm y (λx l q=>V0 (Wm q (λ_ k t=>V7 (V7 ⟨rfl,t⟩)) λ_ _ c=>c.elim)) λ_ _ c=>c))
section
variable {X:Cx}{own fr:Ur}{is:Uo}{scope:WD}{cl:List (Str×V1)}
variable{a iter f:Wg}{pos:Pos}{j:TE}{L:V1}
theorem zF{g:TG}{tx:L2.St->Hp->Prop}{aa:List (V1×Obj)}{U:L2.St}{A:Hp}{l:V4}{it:V1}{s:List V1}{P:Nat->V8->Prop}{J:It}{Q:Ut}
 {E:Ut}(bb:X.stack=X.env::X.outer)(hf:X.env.frame=some L)
 (hc:X.calm=true)(k:jT X own fr is scope cl)
 (hg:∀C B I s,PG (fZ X (own++fr) scope cl C B I s) a g)(he:∀C B I s,PE (fZ X (own++fr) scope cl C B I s) f j)
 (hx:∀C B I s xe,(∀c M w,br X c U w->br (o4 X (own++fr) scope cl C B I s xe) c M w)->PE (o4 X (own++fr) scope cl C B I s xe) f λM H _=>tx M H)
 (I2:Inv X aa U A l)(T:Turn X.prog X.w X.K a J s it P)(fq:P 0 l.heap)(f2:∀b∈s,oQ X aa A b)
 (q:∀D,A D=none->∃W:Nat->Nat->L2.St->Hp->Prop,(∃m,W 0 m (hG own.length is U) (upd A D (.lst [])))/\∀i m bp H,W i m bp H->
  J.go i H/\∀x w,J.n3 i H x w->g x bp w λM A=>tx M A\/j M A λy H4=>∃N G,H4 D=some (.lst N)/\N.length<lim/\G<m/\W (i+1) G M (upd H4 D (.lst (N++[y])))):
 Wa (Wb X.prog X.w) X.A (newList []) (λacc bz=>Wa (Wb X.prog X.w) X.A (newFunctionEnv scope X.env.globals cl [] X.env.qual none .none (some X.env)) (λcn cw=>
  W1 (Wb X.prog X.w) X.A (.compStart (.ListComp f [⟨a,iter,[],0⟩] scope pos) 0 (.ref it) acc {cn with scope:=Xn scope X.env}) (Xl (Wb X.prog X.w) X.A X.xe none Q acc cn.locals) cw) E bz) E l:=by
 refine Wn (wpAny_newFunctionEnv k.cell (by intro y hy;simp at hy) (λaw ef ck=>?_) k.kind);have I3:Inv X aa U (upd A l.heap.objs.size (.lst [])) {l with heap:=l.heap.push {cls:=.type "list",data:=.seq ([]:Uq).toArray}}:=I2.uu (t':=l.toks) (its:=[]) .nil (cU _);have hD:A l.heap.objs.size=none:=I2.fresh;obtain⟨W,⟨m0,w0⟩,O⟩:=q _ hD;have bj:∀b∈s,b<l.heap.objs.size:=λb t=>by
  obtain⟨o,e,_⟩:=T.obj _ _ fq b t;exact V8.lt_size e
 have f3:∀b∈s,oQ X aa (upd A l.heap.objs.size (.lst [])) b/\b<(l.heap.push {cls:=.type "list",data:=.seq ([]:Uq).toArray}).objs.size:=λb t=>
  ⟨⟨by rw[fL (bQ (bj b t))];exact(f2 b t).1,(f2 b t).2⟩,by rw[V8.size_push];exact dS (bj b t)⟩
 have J0:=zR (tk:=l.toks+([]:List (Str×V3)).length) k I3 f3 ef ck;have kept:∀b o,l.heap.get? b=some o->aw.get? b=some o:=λb o e=>(ck.2 b (by
  show b≠(l.heap.push _).objs.size;rw[V8.size_push];exact bQ (dS (V8.lt_size e)))).trans (V8.get?_push_of_some _ (V8.get?_push_of_some _ e))
 have jk:P 0 aw:=T.keep _ _ _ fq λb _ o e=>kept b o e;obtain⟨B,gr⟩:∃B:V4,B={l with heap:=l.heap.push {cls:=.type "list",data:=.seq ([]:Uq).toArray}}:=⟨_,rfl⟩;have cr:∀{w:Hp},(∀b∈s,w b=none)->∀b∈s,oQ (fZ X (own++fr) scope cl (l.heap.push {cls:=.type "list",data:=.seq ([]:Uq).toArray}).objs.size {l with heap:=l.heap.push {cls:=.type "list",data:=.seq ([]:Uq).toArray}} (upd A l.heap.objs.size (.lst [])) s) [] w b:=λhn b t=>
  ⟨hn b t,bQ (f3 b t).2,λz=>J0.ok.ki b t z,.inl t,λx c e=>(J0.ok.BI b t).2 x c e,λp hp=>absurd hp (by simp)⟩
 have K:W1 (Wb X.prog X.w) X.A (.compLoop (.ListComp f [⟨a,iter,[],0⟩] scope pos) 0 (.ref it) (.ref l.heap.objs.size) (compEnvC scope cl (l.heap.push {cls:=.type "list",data:=.seq ([]:Uq).toArray}).objs.size X.env))
  (Xl (Wb X.prog X.w) X.A X.xe none Q (.ref l.heap.objs.size) (l.heap.push {cls:=.type "list",data:=.seq ([]:Uq).toArray}).objs.size) {l with heap:=aw,toks:=l.toks+([]:List (Str×V3)).length}:=by
  refine Tx (λn s'=>∃i S w,Inv (fZ X (own++fr) scope cl (l.heap.push {cls:=.type "list",data:=.seq ([]:Uq).toArray}).objs.size {l with heap:=l.heap.push {cls:=.type "list",data:=.seq ([]:Uq).toArray}} (upd A l.heap.objs.size (.lst [])) s) [] S w s'/\P i s'.heap/\(∀b∈s,w b=none)/\W i n S w) ?_ m0
   ⟨0,_,_,J0,jk,λb t=>(f3 b t).1.1,w0⟩
  rintro n B ⟨i,ci,I,rk,kb,lm,w3⟩;obtain⟨go,step⟩:=O i n ci I w3;refine aC (T.item (fZ X (own++fr) scope cl _ _ _ s) rfl rfl rfl hc i [] B ci I (λ_ _=>False) rk (cr lm) kb go) λr s4 F=>?_;obtain⟨u,hr,h4⟩:=F;subst hr;refine aC h4 λ_ s5 F=>?_;obtain⟨x,H5,I5,r5,y5,ig,pj⟩:=F;have lr:=I5.pinned (cr pj) (T.obj _ _ ig);refine aC (hg _ _ _ _ _ s5 ci H5 x u _ lr r5 (step x H5 y5)) λ_ s6 F=>?_;obtain⟨Z,H6,I6,R⟩:=F;rcases R with R|R
  .have h:=hx _ _ _ s (notedBy (Wb X.prog X.w) X.A (compEnvC scope cl (l.heap.push {cls:=.type "list",data:=.seq ([]:Uq).toArray}).objs.size X.env) λe jd=>Xl (Wb X.prog X.w) X.A X.xe none Q (.ref l.heap.objs.size) (l.heap.push {cls:=.type "list",data:=.seq ([]:Uq).toArray}).objs.size (.error e) jd)
    (λc M w hw=>RS (own:=own) (fr:=fr) (scope:=scope) (cl:=cl) (acc:=.ref l.heap.objs.size) (Q:=Q) bb hf I3 (λb t=>(f3 b t).1) hw)
   exact Wm (h _ s6 Z H6 (λ_ _=>False) (uZ (X:=fZ X (own++fr) scope cl _ _ _ s) (calm:=X.calm) (pn:=[]) I6 I6.ok.frames I6.ok.hd λp z=>z) R) (λ_ _ z=>by obtain⟨_,_,_,_,z⟩:=z;exact z.elim) λ_ _ z=>z
  .have back:∀{cq:L2.St}{H7:Hp}{Y:V4}{G:Nat},Inv (fZ X (own++fr) scope cl (l.heap.push {cls:=.type "list",data:=.seq ([]:Uq).toArray}).objs.size {l with heap:=l.heap.push {cls:=.type "list",data:=.seq ([]:Uq).toArray}} (upd A l.heap.objs.size (.lst [])) s) ([]++rW s s5.heap) cq H7 Y->G<n->W (i+1) G cq H7->
    ∃m,m<n/\∃i S w,Inv (fZ X (own++fr) scope cl (l.heap.push {cls:=.type "list",data:=.seq ([]:Uq).toArray}).objs.size {l with heap:=l.heap.push {cls:=.type "list",data:=.seq ([]:Uq).toArray}} (upd A l.heap.objs.size (.lst [])) s) [] S w Y/\P i Y.heap/\(∀b∈s,w b=none)/\W i m S w:=λ{cq H7 Y G} I7 hm w7=>by
    refine⟨G,hm,i+1,cq,H7,I7.el,T.keep _ _ _ ig λb t o e=>(I7.pin (b,o) (bM _ (bM _ (k7 t e)))).1,λb t=>?_,w7⟩;obtain⟨o,e,d⟩:=T.obj _ _ ig b t;exact(I7.pin (b,o) (bM _ (bM _ (k7 t e)))).2.1
   refine Wm (he _ _ _ _ _ s6 Z H6 _ I6 R) (λy s8 F=>?_) λ_ _ z=>z.elim;obtain⟨v,H8,I8,r8,N,G,e8,l8,hm,w8⟩:=F;refine aC (r9 _ s8 Z H8 (.ref l.heap.objs.size) [v] (.ref l.heap.objs.size) [y] (λ_ H9=>W (i+1) G Z H9) I8 rfl (.cons r8 .nil) ⟨_,N,v,rfl,rfl,e8,bC l8 jC,w8⟩) λ_ s9 F=>?_;obtain⟨_,H9,I9,_,w9⟩:=F;exact back I9 hm w9
 exact codeAny_compStart_list K (T.self X.A 0 _ _ _ jk K)
theorem QR{w:TI}{g:TG}{tx:L2.St->L2.St->Hp->Prop}(Y:X.stack=X.env::X.outer)(N:X.env.frame=some L)(P:X.calm=true)(k:jT X own fr is scope cl)(K:PI X a iter w)
 (M:∀C l n d,PG (fZ X (own++fr) scope cl C l n d) a g)(O:∀C l n d,PE (fZ X (own++fr) scope cl C l n d) f j)
 (F:∀b C l n d t,(∀c o r,br X c b r->br (o4 X (own++fr) scope cl C l n d t) c o r)->PE (o4 X (own++fr) scope cl C l n d t) f λo H _=>tx b o H)
 (G:∀x,Wi iter X.env x=pure x:=by intro _;rfl):PE X (.ListComp f [⟨a,iter,[],0⟩] scope pos) λb H _=>w b H λJ p=>∀D,p D=none->∃W:Nat->Nat->L2.St->Hp->Prop,(∃m,W 0 m (hG own.length is b) (upd p D (.lst [])))/\∀i m A H,W i m A H->
  J.go i H/\∀x r,J.n3 i H x r->g x A r λo p=>tx b o p\/j o p λy B=>∃u z,B D=some (.lst u)/\u.length<lim/\z<m/\W (i+1) z o (upd B D (.lst (u++[y]))):=by
 intro Z s b H Q I h;rw[eval_ListComp];refine Xb (use:=none) rfl G (zB k.l5) k.kind k.names (aC (K Z s b H _ I h) λv s1 S=>aC S λnj s2 R=>?_);obtain⟨it,d,tn,J,p,e,E,T,U,f2,q⟩:=R;subst e;exact zF Y N P k M O (λC l n d t=>F b C l n d t) E T U f2 q
end
section
variable {P:Wd}{w:Wf}{A:We}{E:Ut}{s:V4}{z TI TO d f g m j l:V1}{p r i:Nat}{xs u items:Array V3}{x y a b B f1:V3}
variable{Q:Ut}
theorem Qu(h:s.heap.IsTupleIter j l i)(hl:s.heap.IsTuple l items)(D:items[i]?=some x)(G:∀q,q.IsTupleIter j l (i+1)->V8.SameBut j s.heap q->Q x {s with heap:=q}):
 Wa (Wb P w) A (Wc.SmallTypes.nextOf (.ref j)) Q E s:=by
 have v:s.TypeIs (.ref j) "tuple_iterator":=h.typeIs;obtain⟨o,k,t,c⟩:=h;unfold Wc.SmallTypes.nextOf;refine V0 (Wp (name:=Str.ofString "__next__") v PySem.F.slot_tuple_iterator_next (Wz PySem.F.slot_tuple_iterator_next v PySem.F.entry_tuple_iterator_next ?_ (PySem.F.args_tuple_iterator_next_1 _)));show Wa _ _ (field (.ref j) 0>>=_) _ _ _;refine V0 (Wl k c (x:=.ref l) rfl ?_);show Wa _ _ (field (.ref j) 1>>=_) _ _ _;refine V0 (Wl k c (x:=.int i 0) rfl ?_);obtain⟨H,e,L,n,C⟩:=hl;refine V0 (WM e C ?_);simp only[cV,D];refine V0 (WU k c (by simp) (V7 ⟨_,rfl,V7 (G _ ?_ ?_)⟩))
 .obtain⟨K,I,J,sl⟩:=o;dsimp only at c t;subst c t;exact⟨_,V8.get?_update_self _ k rfl,rfl,rfl⟩
 .exact⟨V8.size_update _ _ _,λb F=>V8.get?_update_ne _ _ _ _ F⟩
theorem y4(hh:A.handled=none)(h:s.heap.IsTupleIter j l i)(hl:s.heap.IsTuple l items)(H:items[i]?=none)
 (I:∀v e,V8.ExtBut j s.heap v->(∃o,v.get? e=some o/\o.cls=.type "StopIteration")->E (.ref e) {s with heap:=v}):
 Wa (Wb P w) A (Wc.SmallTypes.nextOf (.ref j)) Q E s:=by
 have D:s.TypeIs (.ref j) "tuple_iterator":=h.typeIs;obtain⟨o,c,K,q⟩:=h;unfold Wc.SmallTypes.nextOf;refine V0 (Wp (name:=Str.ofString "__next__") D PySem.F.slot_tuple_iterator_next (Wz PySem.F.slot_tuple_iterator_next D PySem.F.entry_tuple_iterator_next ?_ (PySem.F.args_tuple_iterator_next_1 _)));show Wa _ _ (field (.ref j) 0>>=_) _ _ _;refine V0 (Wl c q (x:=.ref l) rfl ?_);show Wa _ _ (field (.ref j) 1>>=_) _ _ _;refine V0 (Wl c q (x:=.int i 0) rfl ?_);obtain⟨J,F,L,n,G⟩:=hl;refine V0 (WM F G ?_);simp only[cV,H];refine V0 (wpAny_rule (V0 (WU c q (by simp) ?_)));have C:V8.ExtBut j s.heap (s.heap.update j (Obj.mapFields λx=>x.setIfInBounds 0 V3.none)):=λb o t e=>V8.get?_update_of_ne _ (Ne.symm t) e;unfold Wc.SmallTypes.stopIteration newExc;refine V0 (V0 (Xi ?_ (cU _)));refine V0 (wpAny_of_eq (a:=.none) rfl (Wn ?_));unfold raiseNew;refine V0 (wpAny_handled ?_);have k:A.in1.handled=none:=hh;rw[k];refine wpAny_throw (I _ _ (λb o t e=>V8.get?_push_of_some _ (V8.get?_push_of_some _ (C b o t e))) ⟨_,V8.get?_push_size _ rfl,rfl⟩)
theorem Sr(D:ZipApart z TI TO d f g m)(J:IsZip s.heap z TI TO .none)(cy:WH s.heap TI (.ref d) (.ref f))(dm:WH s.heap TO a b)(h1:s.heap.IsTupleIter d g p)(h2:s.heap.IsListIter f m r)
 (jg:s.heap.IsTuple g xs)(jr:s.heap.IsList m u)(hx:xs[p]?=some x)(hy:u[r]?=some y)
 (hQ:∀t,IsZip t z TI TO (WY s.heap.objs.size)->WH t TO x y->t.IsTupleIter d g (p+1)->t.IsListIter f m (r+1)->WH t s.heap.objs.size x y->ZK z TO d f s.heap t->Q (.ref s.heap.objs.size) {s with heap:=t}):
 Wa (Wb P w) A (Wc.«zip.__next__» ⟨[.ref z],[]⟩) (λY s'=>∃v,Y=.done (.ret v)/\Q v s') E s:=by
 show Wa _ _ (field (.ref z) 2>>=_) _ _ _;refine V0 (Wl J rfl (x:=.bool false) rfl ?_);show Wa _ _ (field (.ref z) 3>>=_) _ _ _;refine V0 (Wl J rfl (x:=.ref TI) rfl (V0 (WM cy rfl ?_)));show Wa _ _ (Wc.SmallTypes.ownedTupleIsFree (.ref z)>>=_) _ _ _;refine V0 ?_;unfold Wc.SmallTypes.ownedTupleIsFree;refine V0 (Wl J rfl (x:=.none) rfl (V7 ?_));simp only[if_true];refine V0 (wpAny_rule (V0 (Wl J rfl (x:=.ref TO) rfl ?_)));refine V0 (WS J (by simp) λg1 U C=>V0 ?_)
 replace U:Zp g1 z TI TO .ellipsis (.bool false):=U
 simp only[VF,VL,d7,UZ];have a1:=h1.extBut C.extBut D.i1z;have a2:=h2.extBut C.extBut D.i2z;have tup:∀{h t:V8}{c:V1},h.IsTuple g xs->V8.ExtBut c h t->g≠c->t.IsTuple g xs:=fun⟨o,e,q⟩ x n=>⟨o,x _ _ n e,q⟩;refine V0 (V0 (wpAny_onRaise ?_));show Wa _ _ (Wc.SmallTypes.nextOf (.ref d)>>=_) _ _ _;refine V0 (Qu a1 (tup jg C.extBut D.l1z) hx λg2 b1 G=>V7 ?_);have p2:WH g2 TO a b:=G.extBut _ _ D.TOi1 (C.extBut _ _ D.TOz dm);refine V0 (WM p2 rfl (V0 (wpAny_updateSeq_pair p2 λg3 S F=>V0 (wpAny_letGo (V7 ?_)))))
 replace S:WH g3 TO x b:=S
 refine V0 (V0 (wpAny_onRaise ?_));show Wa _ _ (Wc.SmallTypes.nextOf (.ref f)>>=_) _ _ _;refine V0 (wpAny_nextOf_list_item ((a2.extBut G.extBut D.i12.symm).extBut F.extBut D.TOi2.symm) (((jr.extBut C.extBut D.l2z).extBut G.extBut D.l2i1).extBut F.extBut D.l2TO) hy λg4 b2 H=>V7 ?_);have p4:WH g4 TO x b:=H.extBut _ _ D.TOi2 S;refine V0 (WM p4 rfl (V0 (wpAny_updateSeq_pair p4 λk L I=>V0 (wpAny_letGo (V7 (V7 ?_))))))
 replace L:WH k TO x y:=L
 refine V0 (WM L rfl (V0 (Xi ?_ (by show 2<=sizeLine;decide))));have X:k.objs.size=s.heap.objs.size:=by rw[I.1,H.1,F.1,G.1,C.1]
 have xn:Zp k z TI TO .ellipsis (.bool false):=I.extBut _ _ D.TOz.symm (H.extBut _ _ D.i2z.symm (F.extBut _ _ D.TOz.symm (G.extBut _ _ D.i1z.symm U)));have up:∀c o,c≠z->c≠TO->c≠d->c≠f->s.heap.get? c=some o->k.get? c=some o:=λc o c1 O c3 c4 e=>I.extBut _ _ O (H.extBut _ _ c4 (F.extBut _ _ O (G.extBut _ _ c3 (C.extBut _ _ c1 e))));have b1':k.IsTupleIter d g (p+1):=((b1.extBut F.extBut D.TOi1.symm).extBut H.extBut D.i12).extBut I.extBut D.TOi1.symm;have Z:k.IsListIter f m (r+1):=b2.extBut I.extBut D.TOi2.symm;have pz:z<k.objs.size:=V8.lt_size xn;show Wa _ _ (Wc.SmallTypes.ownedTupleHandOut (.ref z) (.ref k.objs.size)>>=_) _ _ _;refine V0 ?_;unfold Wc.SmallTypes.ownedTupleHandOut;refine V0 (WS (show Zp (k.push {cls:=.type "tuple",data:=.seq #[x,y]}) z TI TO .ellipsis (.bool false)from V8.get?_push_of_some _ xn) (by simp) λg7 R xv=>?_)
 replace R:Zp g7 z TI TO (WY k.objs.size) (.bool false):=R
 refine WS R (by simp) λN K xu=>V7 ⟨_,rfl,?_⟩
 replace K:Zp N z TI TO (WY k.objs.size) (.bool false):=K
 have M:∀c o,c≠z->k.get? c=some o->N.get? c=some o:=λc o c1 e=>xu.extBut _ _ c1 (xv.extBut _ _ c1 (V8.get?_push_of_some _ e));have pT:WH N k.objs.size x y:=xu.extBut _ _ (UR pz) (xv.extBut _ _ (UR pz) (V8.get?_push_size _ rfl));show Q (.ref k.objs.size) _;rw[X]at pT K|-;exact hQ N K (M _ _ D.TOz L) (b1'.at λo e=>M _ o D.i1z e) (Z.at λo e=>M _ o D.i2z e) pT λc o c1 O c3 c4 e=>M c o c1 (up c o c1 O c3 c4 e)
theorem OO{Q:Fin->V4->Prop}(hh:A.handled=none)(D:ZipApart z TI TO d f g m)(h:IsZip s.heap z TI TO .none)(U:WH s.heap TI (.ref d) (.ref f))(Y:WH s.heap TO a b)(R:s.heap.IsTupleIter d g p)
 (L:s.heap.IsTuple g xs)(M:xs[p]?=none)
 (O:∀v e,ZK z TO d f s.heap v->(∃o,v.get? e=some o/\o.cls=.type "StopIteration")->E (.ref e) {s with heap:=v}):
 Wa (Wb P w) A (Wc.«zip.__next__» ⟨[.ref z],[]⟩) Q E s:=by
 show Wa _ _ (field (.ref z) 2>>=_) _ _ _;refine V0 (Wl h rfl (x:=.bool false) rfl ?_);show Wa _ _ (field (.ref z) 3>>=_) _ _ _;refine V0 (Wl h rfl (x:=.ref TI) rfl (V0 (WM U rfl ?_)));show Wa _ _ (Wc.SmallTypes.ownedTupleIsFree (.ref z)>>=_) _ _ _;refine V0 ?_;unfold Wc.SmallTypes.ownedTupleIsFree;refine V0 (Wl h rfl (x:=.none) rfl (V7 ?_));simp only[if_true];refine V0 (wpAny_rule (V0 (Wl h rfl (x:=.ref TO) rfl ?_)));refine V0 (WS h (by simp) λg1 n q=>V0 ?_)
 replace n:Zp g1 z TI TO .ellipsis (.bool false):=n
 simp only[VF,VL,d7,UZ];have X:=R.extBut q.extBut D.i1z;refine V0 (V0 (wpAny_onRaise ?_));show Wa _ _ (Wc.SmallTypes.nextOf (.ref d)>>=_) _ _ _;obtain⟨J,S,I⟩:=L;refine V0 (y4 hh X ⟨J,q.extBut _ _ D.l1z S,I⟩ M λg2 e H N=>?_);obtain⟨K,k,F⟩:=N;have C:Zp g2 z TI TO .ellipsis (.bool false):=H _ _ D.i1z.symm n;have t:e≠z:=λx=>by subst x;rw[C]at k;cases k;simp at F
 exact WS C (by simp) λg3 _ G=>O g3 e (λc o c1 _ c3 _ x=>G.extBut _ _ c1 (H _ _ c3 (q.extBut _ _ c1 x))) ⟨K,G.extBut _ _ t k,F⟩
theorem Tz{Q:Us->V4->Prop}(D:ZipApart z TI TO d f g m)(h:IsZip s.heap z TI TO .none)(G:WH s.heap TI (.ref d) (.ref f))(F:WH s.heap TO a b)(C:s.heap.IsTupleIter d g p)(e:s.heap.IsListIter f m r)
 (o:s.heap.IsTuple g xs)(n:s.heap.IsList m u)(t:xs[p]?=some x)(q:u[r]?=some y)
 (v:∀c,IsZip c z TI TO (WY s.heap.objs.size)->WH c TO x y->c.IsTupleIter d g (p+1)->c.IsListIter f m (r+1)->WH c s.heap.objs.size x y->ZK z TO d f s.heap c->Q (some (.ref s.heap.objs.size)) {s with heap:=c}):
 Wa (Wb P w) A (W8 (.ref z)) Q E s:=by
 have k:s.TypeIs (.ref z) "zip":=⟨_,h,rfl⟩;unfold W8;exact V0 (wpAny_attempt (Wp (name:=Str.ofString "__next__") k PySem.F.slot_zip_next (Wz PySem.F.slot_zip_next k PySem.F.entry_zip_next
  (Sr D h G F C e o n t q λc M L K J I H=>V7 (v c M L K J I H)) (PySem.F.args_zip_next_1 _))))
theorem Si{Q:Us->V4->Prop}(hh:A.handled=none)(D:ZipApart z TI TO d f g m)(h:IsZip s.heap z TI TO .none)(J:WH s.heap TI (.ref d) (.ref f))(I:WH s.heap TO a b)(H:s.heap.IsTupleIter d g p)
 (n:s.heap.IsTuple g xs)(q:xs[p]?=none)(G:∀c,ZK z TO d f s.heap c->Q none {s with heap:=c}):Wa (Wb P w) A (W8 (.ref z)) Q E s:=by
 have k:s.TypeIs (.ref z) "zip":=⟨_,h,rfl⟩;unfold W8;refine V0 (wpAny_attempt (Wp (name:=Str.ofString "__next__") k PySem.F.slot_zip_next (Wz PySem.F.slot_zip_next k PySem.F.entry_zip_next
  (OO hh D h J I H n q λc e v C=>?_) (PySem.F.args_zip_next_1 _))))
 obtain⟨o,t,F⟩:=C;exact V0 (wpAny_isInstance (T:="StopIteration") (b:=true) ⟨o,t,F⟩ isSubtype_stop (V7 (G _ v)))
end
section
variable {a b:V1}{xs d:Array V3}
noncomputable abbrev Dh(h:V8)(a:V1):V8:=h.push {cls:=.type "tuple_iterator",data:=.fields #[.ref a,.int 0 0]}
abbrev Dg(h:V8)(a b:V1):V8:=(Dh h a).push {cls:=.type "list_iterator",data:=.fields #[.ref b,.int 0 0]}
abbrev Df(h:V8)(a b:V1):V8:=(Dg h a b).push {cls:=.type "tuple",data:=.seq #[.ref h.objs.size,.ref (Dh h a).objs.size]}
abbrev Ck(h:V8)(a b:V1):V8:=(Df h a b).push {cls:=.type "tuple",data:=.seq #[.none,.none]}
abbrev FP(h:V8)(a b:V1):V8:=(Ck h a b).push {cls:=.type "zip",data:=.fields #[.none,.bool false,.bool false,.ref (Dg h a b).objs.size,.ref (Df h a b).objs.size]}
theorem Sb(a b:V1)(xs d:Array V3):Meets (Wc.«zip.__new__» ⟨[.type "zip",.ref a,.ref b],[]⟩) λ_ R s=>s.heap.IsTuple a xs/\s.heap.IsList b d/\R (.ok (.ret (.ref (Ck s.heap a b).objs.size))) {s with heap:=FP s.heap a b}:=by
 intro c w A R s ⟨i,h,g⟩;have f:=sub_zip;unfold Wc.«zip.__new__» Wc.SmallTypes.newClass;refine V0 (V0 (wpAny_of_eq (a:=true) rfl ?_));dsimp only;rw[V9 (by simp)];refine V0 (wpAny_of_eq (a:=true) f ?_);rw[V9 (by simp)];refine V7 ?_;dsimp only;rw[V9 (by simp)];unfold Wc.SmallTypes.iterAll;refine V0 (V0 ?_);rw[d7];refine V0 (V0 (Wq (wpAny_pyIter_tuple i (V7 ?_))));dsimp only;rw[d7];refine V0 (V0 (Wq (W9 (h.push _) (V7 ?_))));dsimp only;rw[UZ];refine V7 (V7 (V0 (Xi (V0 (Xi (V0 ?_) (by show 2<=sizeLine;decide))) (by show 2<=sizeLine;decide))));unfold Wc.SmallTypes.newRecord;exact Wn (V7 g) (by show 5<=sizeLine+2;decide)
theorem P9{g:Wd}{w:Wf}{A:We}{E:Ut}{s:V4}{Q:Ut}(q:s.heap.IsTuple a xs)(p:s.heap.IsList b d)
 (n:∀f,IsZip f (s.heap.objs.size+4) (s.heap.objs.size+2) (s.heap.objs.size+3) .none->WH f (s.heap.objs.size+2) (.ref s.heap.objs.size) (.ref (s.heap.objs.size+1))->WH f (s.heap.objs.size+3) .none .none->
  f.IsTupleIter s.heap.objs.size a 0->f.IsListIter (s.heap.objs.size+1) b 0->(∀c o,s.heap.get? c=some o->f.get? c=some o)->Q (.ref (s.heap.objs.size+4)) {s with heap:=f}):
 Wa (Wb g w) A (call (.type "zip") [.ref a,.ref b]) Q E s:=by
 have j:(Dh s.heap a).objs.size=s.heap.objs.size+1:=V8.size_push _ _;have i:(Dg s.heap a b).objs.size=s.heap.objs.size+2:=by rw[V8.size_push,j]
 have h:(Df s.heap a b).objs.size=s.heap.objs.size+3:=by rw[V8.size_push,i]
 have k:(Ck s.heap a b).objs.size=s.heap.objs.size+4:=by rw[V8.size_push,h]
 have l:IsZip (FP s.heap a b) (s.heap.objs.size+4) (s.heap.objs.size+2) (s.heap.objs.size+3) .none:=by rw[<-k,<-i,<-h];exact V8.get?_push_size _ rfl
 refine callType_new PySem.F.called_zip (by decide) (PySem.F.typeCall_zip_2 _ _) (PySem.F.newCall_zip_2 _ _) (λm=>PySem.F.args_object_init_3 _ _ _) PySem.F.entry_zip_new (Sb a b xs d) ⟨q,p,?_⟩;show _/\Q (.ref (Ck s.heap a b).objs.size) _;refine⟨⟨_,V8.get?_push_size _ rfl,rfl⟩,?_⟩;rw[k];refine n _ l ?_ ?_ ?_ ?_ λc o e=>V8.get?_push_of_some _ (V8.get?_push_of_some _ (V8.get?_push_of_some _ (V8.get?_push_of_some _ (V8.get?_push_of_some _ e))))
 .rw[<-i];refine V8.get?_push_of_some _ (V8.get?_push_of_some _ ?_);rw[<-j];exact V8.get?_push_size _ rfl
 .rw[<-h];exact V8.get?_push_of_some _ (V8.get?_push_size _ rfl)
 .exact⟨_,V8.get?_push_of_some _ (V8.get?_push_of_some _ (V8.get?_push_of_some _ (V8.get?_push_of_some _ (V8.get?_push_size _ rfl)))),rfl,rfl⟩
 .rw[<-j];exact⟨_,V8.get?_push_of_some _ (V8.get?_push_of_some _ (V8.get?_push_of_some _ (V8.get?_push_size _ rfl))),rfl,rfl⟩
end
def we(K:aK)(b c:V1):It:=
 ⟨λi H=>∃xs a x y,fv K H b xs/\dw K H c a/\xs[i]?=some x/\a[i]?=some y,
  λi H v d=>∃p x y,H p=none/\v=.ref p/\d=upd H p (.tup [x,y])/\(∀xs,fv K H b xs->xs[i]?=some x)/\∀a,dw K H c a->a[i]?=some y,
  λi H=>∃xs,fv K H b xs/\xs[i]?=none⟩
def EX(K:aK)(t:TA):TI:=λd H R=>t d H λvs c=>∃b a,vs=[.ref b,.ref a]/\(∃xs,fv K c b xs)/\(∃f,dw K c a f)/\R (we K b a) c
theorem T3{P:Wd}{w:Wf}{K:aK}{ts:Uu}{k:Nat}{pos:Pos}(z TI TO n m r N:V1)(D:ZipApart z TI TO n m r N):
 Turn P w K (.Tuple ts k pos) (we K r N) [z,TI,TO,n,m] z (λi h=>IsZip h z TI TO .none/\WH h TI (.ref n) (.ref m)/\(∃a b,WH h TO a b)/\h.IsTupleIter n r i/\h.IsListIter m N i) where
 mem:=by simp
 obj:=λi h st b c=>by
  obtain⟨d,f,⟨a,J,g⟩,⟨o1,e1,c1,d1⟩,⟨o2,Z,c2,d2⟩⟩:=st;simp only[bX,bS,or_false]at c;rcases c with rfl|rfl|rfl|rfl|rfl
  .exact⟨_,d,λv z=>by simp at z⟩
  .exact⟨_,f,λv z=>by simp at z⟩
  .exact⟨_,g,λv z=>by simp at z⟩
  .exact⟨o1,e1,λv z=>by rw[d1]at z;cases z⟩
  .exact⟨o2,Z,λv z=>by rw[d2]at z;cases z⟩
 keep:=λi h Y st j=>by
  obtain⟨d,f,⟨a,J,g⟩,p,t⟩:=st;exact⟨j z (by simp) _ d,j TI (by simp) _ f,⟨a,J,j TO (by simp) _ g⟩,p.at λo e=>j n (by simp) o e,t.at λo e=>j m (by simp) o e⟩
 item:=by
  intro X S O U hc i aa s σ H E I G st R;subst S O U;obtain⟨d,f,⟨a,J,g⟩,p,t⟩:=st;obtain⟨xs,ys,x,y,C,q2,g1,g2⟩:=R;obtain⟨l,L,M,z1⟩:=I.tuple C;obtain⟨il,qh,p2,z2⟩:=I.list q2;obtain⟨u,hu,ru⟩:=L.get g1;obtain⟨A,Q,kc⟩:=qh.get g2;refine Tz D d f g p t (show s.heap.IsTuple r l.toArray from M) p2.isList (x:=u) (y:=A) (by simpa using hu) (by simpa using Q) λY a1 a2 a3 a4 a5 F=>?_;refine⟨_,rfl,wpAny_letOwnedTupleGo_zip (s:={s with heap:=Y}) a1 λB ul q=>?_⟩;have pz:z≠s.heap.objs.size:=bQ (V8.lt_size d);have j:∀b ob,b∉[z,TI,TO,n,m]->s.heap.get? b=some ob->B.get? b=some ob:=λb ob c e=>by
   simp only[bX,bS,or_false,not_or]at c;exact(q.2 b c.1).trans (F b ob c.1 c.2.2.1 c.2.2.2.1 c.2.2.2.2 e)
  have hT:B.get? s.heap.objs.size=some {cls:=.type "tuple",data:=.seq #[u,A]}:=(q.2 _ (Ne.symm pz)).trans a5;have I1:Inv X aa σ (upd H s.heap.objs.size (.tup [x,y])) {s with heap:=B,toks:=s.toks}:=Pw I G j (bI _)
   (show iZ X.prog X.w _ B _ (.tup [x,y])from⟨by show 2<=sizeLine;decide,[u,A],.cons ru (.cons kc .nil),⟨_,hT,rfl,_,rfl⟩⟩)
  have hn:H s.heap.objs.size=none:=I.fresh;refine⟨.ref s.heap.objs.size,_,I1,rfl,⟨_,x,y,hn,rfl,rfl,λzs d=>by rw[I.lx d C];exact g1,λzs d=>by rw[I.g6 d q2];exact g2⟩,?_,λb c=>?_⟩
  .refine⟨ul,(q.2 _ D.TIz).trans (F _ _ D.TIz D.TITO D.TIi1 D.TIi2 f),⟨u,A,(q.2 _ D.TOz).trans a2⟩,a3.at λo e=>(q.2 _ D.i1z).trans e,a4.at λo e=>(q.2 _ D.i2z).trans e⟩
  .have jw:=(G b c).1;rw[fL]
   .exact jw
   .rintro rfl;have:∃o,s.heap.get? s.heap.objs.size=some o:=by
     simp only[bX,bS,or_false]at c;obtain⟨o1,e1,_⟩:=p;obtain⟨o2,Z,_⟩:=t;rcases c with h|h|h|h|h
     .rw[h];exact⟨_,d⟩
     .rw[h];exact⟨_,f⟩
     .rw[h];exact⟨_,g⟩
     .rw[h];exact⟨_,e1⟩
     .rw[h];exact⟨_,Z⟩
    obtain⟨o,e⟩:=this;exact absurd (V8.lt_size e) (cE _)
 done:=by
  intro X S O U hc i aa s σ H E I G st R;subst S O U;obtain⟨d,f,⟨a,J,g⟩,p,t⟩:=st;obtain⟨xs,C,vy⟩:=R;obtain⟨l,L,M,z1⟩:=I.tuple C;have r:=L.length;refine Si (I.ok.hd hc) D d f g p (show s.heap.IsTuple _ l.toArray from M) (by simp at vy|-;lia) λY F=>⟨rfl,SA (t':=s.toks) I G λb ob c e=>?_⟩;simp only[bX,bS,or_false,not_or]at c;exact F b ob c.1 c.2.2.1 c.2.2.2.1 c.2.2.2.2 e
 self:=λ_ _ _ _ _ st h=>wpAny_pyIter_zip st.1 h
section
variable {X:Cx}{a b:Wg}{pos p:Pos}
theorem IG{A:Uu}{k:Nat}{Y:Pos}{o:TA}(O:Gl X "zip")(M:X.mg "zip"=none)(P:PA X [a,b] o)(L:V2 [a,b] X.env=[(false,Wh a X.env),(false,Wh b X.env)]:=by rfl)(x:V2 [b] X.env=[(false,Wh b X.env)]:=by rfl):
 PI X (.Tuple A k Y) (.Call (.Name "zip" p) [a,b] [] pos) (EX X.K o):=by
 intro y s m H R I h;refine Call_ (uT I O M boot_zip (dQ (aC (P pos y s m H _ I h) λus c ⟨vs,z,f,C,G⟩=>?_) (by rw[L,x]) (by rw[x];rfl)));obtain⟨g,t,e,⟨xs,F⟩,⟨ys,D⟩,q⟩:=G;subst e;obtain⟨u,u2,rfl,B,K⟩:=C.two;cases B;cases K;obtain⟨i,rv,J,z1⟩:=f.tuple F;obtain⟨il,qh,r,z2⟩:=f.list D;have n:c.heap.IsTuple g i.toArray:=J;have E:g<c.heap.objs.size:=let ⟨_,e,_⟩:=n;V8.lt_size e
 have Z:t<c.heap.objs.size:=r.lt;refine P9 n r.isList λQ v U S l j N=>wpAny_pyIter_zip v ?_;have I2:Inv X y m z {c with heap:=Q}:=f.kept (t':=c.toks) N;refine⟨c.heap.objs.size+4,[c.heap.objs.size+4,c.heap.objs.size+2,c.heap.objs.size+3,c.heap.objs.size,c.heap.objs.size+1],_,_,z,rfl,I2,T3 _ _ _ _ _ g t (zipApart_new E Z),⟨v,U,⟨_,_,S⟩,l,j⟩,λb w=>?_,q⟩;have d:c.heap.objs.size<=b:=by
  simp only[bX,bS,or_false]at w;rcases w with rfl|rfl|rfl|rfl|rfl
  .exact eO _ _
  .exact eO _ _
  .exact eO _ _
  .exact bI _
  .exact eO _ _
 exact f.l2 d (f.aF.fresh d)
end
def m7(g:FG)(b:FE)(x:XF)(a:aB):tl->aq->Option (String×aq)
 | [],_=>none
 |t::d,C=>(g t C a).bind λc=>match x c C with
  |some r=>some r
  |none=>(b c C).bind λy=>kp C y.2 (m7 g b x a d y.2)
section
variable {K:aK}{f:L2.St}{H:Hp}{Q:VK}
variable{s:Hp}{f1 f2:FE}
theorem Tq{d:Hp}{Z:V1->Prop}{l:bo}{p:aB}{C:aq}{k:Nat}{is:Uo}{D:V1}(R:Rel K d Z l p C f s)(w:s D=none):
 Rel K d (λa=>Z a\/a=D) l (d3 k is p) C (hG k is f) (upd s D (.lst []))/\Step s (upd s D (.lst [])) l l:=by
 obtain⟨I,A,B⟩:=R.dn w;refine⟨?_,.of0 λb o z=>by rw[fL (by rintro rfl;rw[w]at z;cases z)];exact z⟩;have sm:aG (mask s Z l) (mask (upd s D (.lst [])) (λa=>Z a\/a=D) l):=λa o z=>by
  obtain⟨n,h,m⟩:=gK z;have x:a≠D:=λz=>by rw[z,w]at m;cases m
  exact jX (by rintro(z|z);exact n z;exact x z) h (by rw[fL x];exact m)
 refine⟨λb o z=>?_,λa g=>⟨(R.aA a g).1,?_⟩,R.nd,λa z=>?_,λi t z=>?_,λc a z=>?_,R.len,by simp[d3,hG]⟩
 .rw[fL (by rintro rfl;rw[B]at z;cases z)];exact R.old b o z
 .rintro(z|z)
  .exact(R.aA a g).2 z
  .subst z;exact A g
 .by_cases g:a=D
  .subst g;rw[gS];trivial
  .rw[fL g];rcases z with z|z
   .exact R.zd a z
   .exact absurd z g
 .unfold d3 at z;by_cases r:i<k
  .rw[bK (by simpa using r),b3,V6 r]at z;cases z
  .rw[bP (by simpa using cM r),bF]at z;obtain⟨j,y,z⟩:=eX z;have F:p[j]?=some (some t):=by
    cases q:p[j]?with
    |none=>rw[q]at z;cases z
    |some u=>rw[q]at z;exact congrArg some z
   obtain⟨v,n,h⟩:=R.loc j t F;refine⟨v,?_,h.mono sm (λc a z=>z)⟩;unfold hG;rw[bP (by simpa using cM r),bF];simp only[cS]at y|-;rw[y];simp[n]
 .obtain⟨e,vs,ob,n,h,G,m⟩:=R.hH c a z;refine⟨e,vs,ob,n,?_,G,m.mono sm (λc a z=>z)⟩;rw[fL (by rintro rfl;rw[w]at h;cases h)];exact h
theorem S7{J:It}{A:Hp}{Z:V1->Prop}{N:bo}{X:aB}{C C':aq}{P:aq->Prop}{g:FG}{fe:FE}{x:XF}{k:Nat}{is:Uo}{B:tl}{D:V1}{c:String}{Wx:String->Hp->Prop}
 (R:Rel K A Z N X C f s)(hg:i1 k g)(w:td K J Z s N B P)(hP:P C)(rg:∀C C2:aq,C<+:C2->P C->P C2)(hl:B.length<lim)(e:m7 g fe x (d3 k is X) B C=some (c,C'))(Y:s D=none)
 (q:∀G h,Rel K A Z h X C' f G->Step s G N h->Wx c G):
 ∃W:Nat->Nat->L2.St->Hp->Prop,(∃m,W 0 m (hG k is f) (upd s D (.lst [])))/\∀i m U H,W i m U H->
  J.go i H/\∀v G,J.n3 i H v G->ke K g v U G λav H2=>jt K (λc _ G=>Wx c G) x av H2\/aD K fe av H2 λy H4=>∃ys m',H4 D=some (.lst ys)/\ys.length<lim/\m'<m/\W (i+1) m' av (upd H4 D (.lst (ys++[y]))):=by
 obtain⟨nz,nr,n0⟩:=R.dn Y;obtain⟨R0,s0⟩:=Tq (k:=k) (is:=is) R Y;refine⟨λi m U H=>∃h M rest vs,m=rest.length/\B.drop i=rest/\i<=B.length/\vs.length<=i/\Rel K A (λa=>Z a\/a=D) h (d3 k is X) M U H/\H D=some (.lst vs)/\
  Step s H N h/\P M/\m7 g fe x (d3 k is X) rest M=some (c,C'),⟨B.length,N,C,B,[],rfl,rfl,cU _,bI _,R0,gS,s0,hP,e⟩,?_⟩
 rintro i m U H ⟨h,M,rest,vs,rfl,hd,hi,xq,R1,ph,F,ja,p⟩;have ix:∀(c:Nat)(a:V1),N[c]?=some a->h[c]?=some a:=F.idx;have qe:aG (mask s Z N) (mask H (λa=>Z a\/a=D) h):=λa o z=>by
  obtain⟨O,L,I⟩:=gK z;have ne:a≠D:=λz=>by rw[z,Y]at I;cases I
  refine jX (by rintro(z|z);exact O z;exact ne z) (F.kept a o I L).1 (F.kept a o I L).2
 cases rest with
 |nil=>cases p
 |cons t rest=>
  have ht:B[i]?=some t:=by
   have:=congrArg (λl=>l[0]?) hd;simpa using this
  have bj:i<B.length:=(fA ht).1;have i':B.drop (i+1)=rest:=by
   have:=congrArg U1 hd;simpa using this
  obtain⟨g1,g2⟩:=w.go i t _ _ h _ M U H ht R1 qe ix (.inl ja) F.fz;refine⟨g1,λv G hy=>?_⟩;obtain⟨rz,rx⟩:=g2 v G hy;obtain⟨px,bf⟩:=R1.same rz;unfold m7 at p;obtain⟨aj,eg,p⟩:=eW p;obtain⟨o1,o2⟩:=hg _ _ _ _ eg;refine⟨_,_,h,_,M,t,aj,px,rx,eg,λav R2=>?_⟩;have nD:D∉h:=λz=>(R1.aA D z).2 (.inr rfl);split at p
  .rename_i r hx;cases p;refine .inl ⟨_,_,h,aj,M,c,C',R2,hx,λH3 be S s3=>q H3 be ?_ ((F.trans bf).trans s3)⟩;have st:=(F.trans bf).trans s3;have mm:aG (mask H3 (λa=>Z a\/a=D) be) (mask H3 Z be):=λa o z=>by
    obtain⟨O,L,I⟩:=gK z;exact jX (λz=>O (.inl z)) L I
   refine⟨S.old,λa ha=>⟨(S.aA a ha).1,λz=>(S.aA a ha).2 (.inl z)⟩,S.nd,λa z=>S.zd a (.inl z),λj t z=>?_,λd a z=>?_,S.len,R.mx⟩
   .obtain⟨u,O,L⟩:=R.loc j t z;exact⟨u,O,L.step st⟩
   .obtain⟨us,ws,ob,O,L,h4,I⟩:=S.hH d a z;exact⟨us,ws,ob,O,L,h4,I.mono mm λ_ _ z=>z⟩
  .obtain⟨⟨ty,C3⟩,ee,p⟩:=eW p;obtain⟨nv,p⟩:=xR p;refine .inr ⟨_,_,h,aj,M,ty,C3,R2,ee,λy H4 gy R4 xp s4=>?_⟩;have E:=bf.trans s4;obtain⟨R5,em⟩:=R4.n7 (D:=D) (o:=.lst (vs++[y])) (.inr rfl) n0 trivial;refine⟨vs,rest.length,(E.kept _ _ ph nD).2,dB xq (US bj hl),by simp,gy,C3,rest,vs++[y],rfl,i',bj,by simp;exact xq,R5.weak (by rw[o1]) (uA o1 o2),gS,?_,rg _ _ nv ja,p⟩;exact⟨λb o z n=>⟨((F.trans E).kept b o z n).1,by
    rw[fL (by rintro rfl;rw[Y]at z;cases z)];exact((F.trans E).kept b o z n).2⟩,(F.trans E).pre,λb ob u z=>by
    rw[fL (by rintro rfl;rw[Y]at z;cases z)];exact(F.trans E).fz b ob u z⟩
theorem IB{Z:V1->Prop}{k:bo}{d:Hp}{L:aB}{C:aq}{f:L2.St}{u:T}{o n:tl}{a b:V1}(R1:Rel K d Z k L C f s)(h1:RT K (mask s Z k) k (.tup o) (.ref a))
 (h2:RT K (mask s Z k) k u (.ref b))(e2:dR C u=some n)(y:o.length<=n.length):td K (we K a b) Z s k (nY o n) (λC=>stays u n C):=by
 have g:∀{H₀':Hp}{m:V1->Prop}{l:bo}{H:Hp},aG (mask s Z k) (mask H m l)->(∀(c:Nat)(a:V1),k[c]?=some a->l[c]?=some a)->∃j,fv K H a j/\ax K (mask H m l) l o j:=λ{_ m l H} sm ix=>by
  have I:=h1.mono sm ix;unfold RT at I;obtain⟨a',j,ea,q,r⟩:=I;cases ea;exact⟨j,fv.mv (.of q),r⟩
 refine⟨λi t' d m l ao C' f H w e sm ix J _=>?_,λd m l ao C' f H e sm ix J _=>?_⟩
 .obtain⟨j,t,v⟩:=g (H₀':=d) sm ix;obtain⟨xs,F,S⟩:=Tp R1 h2 e2 e sm ix J;unfold nY at w;rw[bF]at w;obtain⟨⟨x1,x2⟩,E,rfl⟩:=eX w;obtain⟨O,N⟩:=Vn.mp E;obtain⟨R,G,M⟩:=v.get O;obtain⟨P,A,U⟩:=S.get N;refine⟨⟨j,xs,R,P,t,F,G,A⟩,λx H' hy=>?_⟩;obtain⟨p,y1,y2,hp,rfl,rfl,Y,X⟩:=hy;have D:=Y j t;have B:=X xs F;rw[G]at D;cases D;rw[A]at B;cases B;exact⟨λb u h=>by rw[fL (λz=>by rw[z,hp]at h;cases h)];exact h,e.gf hp (.cons M (.cons U .nil))⟩
 .obtain⟨j,t,v⟩:=g (H₀':=d) sm ix;refine⟨j,t,eJ ?_⟩;simp only[nY,aQ,cJ,Nat.min_eq_left y,v.length];exact bI _
noncomputable def CB:T->Option tl
 | .tup a=>some a
 |_=>none
theorem xC{t:T}{a:tl}(h:CB t=some a):t=.tup a:=by
 unfold CB at h;split at h
 .cases h;rfl
 .cases h
def kU(f1 f2:FE)(k:Nat)(is:Uo)(g:FG)(d:FB)(h:FE):FN:=λa C=>(f1 a C).bind λp=>(f2 a p.2).bind λq=>(CB p.1).bind λc=>(dR q.2 q.1).bind λb=>
 if c.length<=b.length/\(nY c b).length<lim then iH g d h (d3 k is a) (nY c b) q.2 else none
def lS(f1 f2:FE)(k:Nat)(is:Uo)(g:FG)(d:FE)(x:XF):XF:=λa C=>(f1 a C).bind λp=>(f2 a p.2).bind λq=>(CB p.1).bind λc=>(dR q.2 q.1).bind λb=>
 if c.length<=b.length/\(nY c b).length<lim then m7 g d x (d3 k is a) (nY c b) q.2 else none
theorem QQ{k:Nat}{is:Uo}{g:FG}{l:FB}{w:FE}(M:i1 k g)(h:jh K (kU f1 f2 k is g l w) f H Q):t4 (EX K (gn K (e7 f1 (e7 f2 fR)))) (hG k is) (ke K g) (hL K l) (aD K w) f H Q:=by
 obtain⟨c,Z,y,x,C,ys,C',R,e,q⟩:=h;unfold kU at e;obtain⟨⟨t,C1⟩,Y,e⟩:=eW e;obtain⟨⟨u,C2⟩,X,e⟩:=eW e;obtain⟨ts,U,e⟩:=eW e;obtain⟨us,i,d⟩:=eW e;split at d
 .rename_i hl;refine⟨c,Z,y,x,C,[t,u],C2,R,by simp[e7,fR,Y,X],λvs s af j O A=>?_⟩;obtain⟨v,r,rfl,n,L⟩:=O.cons_inv;obtain⟨v',r',rfl,m,J⟩:=L.cons_inv;rw[J.nil_inv];have:=xC U;dsimp only at this;subst this;obtain⟨b,z,P,G,rb⟩:=j.li m i;subst P;have o:=n;unfold RT at o;obtain⟨a,vs,S,I,ra⟩:=o;subst S;exact⟨a,b,rfl,⟨vs,fv.mv (.of I)⟩,⟨z,G⟩,λD N=>oP j M (IB j n m i hl.1) (pN i) rC hl.2 d N λp H' E vs R' hp F B=>q p H' E vs R' hp F (A.trans B)⟩
 .cases d
theorem S0{k:Nat}{is:Uo}{g:FG}{I:FE}{x:XF}{W:XW}(hg:i1 k g)(h:jt K W (lS f1 f2 k is g I x) f H):EX K (gn K (e7 f1 (e7 f2 fR))) f H λJ l=>∀D,l D=none->∃V:Nat->Nat->L2.St->Hp->Prop,(∃m,V 0 m (hG k is f) (upd l D (.lst [])))/\∀i m L H,V i m L H->
 J.go i H/\∀v d,J.n3 i H v d->ke K g v L d λw l=>jt K (λc _ d=>W c f d) x w l\/aD K I w l λy M=>∃n G,M D=some (.lst n)/\n.length<lim/\G<m/\V (i+1) G w (upd M D (.lst (n++[y]))):=by
 obtain⟨j,Z,O,N,C,c,C',R,e,q⟩:=h;unfold lS at e;obtain⟨⟨t,C1⟩,e1,e⟩:=eW e;obtain⟨⟨u,C2⟩,e2,e⟩:=eW e;obtain⟨ts,e3,e⟩:=eW e;obtain⟨us,p,o⟩:=eW e;split at o
 .rename_i hl;refine⟨j,Z,O,N,C,[t,u],C2,R,by simp[e7,fR,e1,e2],λvs s af z h1 S=>?_⟩;obtain⟨v,r,rfl,B,q2⟩:=h1.cons_inv;obtain⟨v',r',rfl,A,E⟩:=q2.cons_inv;rw[E.nil_inv];have:=xC e3;dsimp only at this;subst this;obtain⟨b,P,eb,X,rb⟩:=z.li A p;subst eb;have F:=B;unfold RT at F;obtain⟨a,vs,ea,Y,ra⟩:=F;subst ea;exact⟨a,b,rfl,⟨vs,fv.mv (.of Y)⟩,⟨P,X⟩,λD hD=>S7 (Wx:=λc d=>W c f d) z hg (IB z B A p hl.1) (pN p) rC hl.2 o hD λd ae R' U=>q d ae R' (S.trans U)⟩
 .cases o
end
section
variable {X:Cx}{a b j:Wg}{fa fb l:FE}{x:XF}{pos p m:Pos}{d aA:Ur}{is:Uo}{f:WD}{i:List (Str×V1)}{n:Uu}{tk:Nat}{o:Pos}{r:Uu}{g:FG}{s:FB}
theorem IE(e:X.mg "zip"=none)(D:X.calm=true)(k:jT X d aA is f i)(G:QE X a fa)(F:QE X b fb)(z:i1 d.length g)(A:∀C c q h,QG (fZ X (d++aA) f i C c q h) (.Tuple n tk o) g)(w:∀C c q h,p3 (fZ X (d++aA) f i C c q h) r s)
 (B:∀C c q h,QE (fZ X (d++aA) f i C c q h) j l)(v:Gl X "zip":=by rfl)(y:∀x,Wi (.Call (.Name "zip" p) [a,b] [] m) X.env x=pure x:=by intro _;rfl)
 (u:V2 [a,b] X.env=[(false,Wh a X.env),(false,Wh b X.env)]:=by rfl)(t:V2 [b] X.env=[(false,Wh b X.env)]:=by rfl):
 QN X (.ListComp j [⟨.Tuple n tk o,.Call (.Name "zip" p) [a,b] [] m,r,0⟩] f pos) (kU fa fb d.length is g s l):=
 (pV D k (IG v e (eY G (eY F fD (by rw[t];rfl)) (by rw[u,t])) u t) A w B y).imp λ_ _ _=>QQ z
theorem QV{K:aK}{W v:XW}{x:XF}{t:L2.St}{H:Hp}(h:jt K W x t H)(A:∀c u,W c t u->v c t u):jt K v x t H:=by
 obtain⟨k,Z,y,w,C,c,F,R,e,q⟩:=h;exact⟨k,Z,y,w,C,c,F,R,e,λu B D z=>A _ _ (q u B D z)⟩
theorem Rv{L:V1}(M:X.mg "zip"=none)(w:X.calm=true)(k:jT X d aA is f i)(S:QE X a fa)(R:QE X b fb)(K:i1 d.length g)(N:∀C q u t,QG (fZ X (d++aA) f i C q u t) (.Tuple n tk o) g)
 (P:∀C q u t,QE (fZ X (d++aA) f i C q u t) j l)(G:∀C q u t v,XE (o4 X (d++aA) f i C q u t v) j x)(D:X.stack=X.env::X.outer:=by rfl)(O:X.env.frame=some L:=by rfl)(F:Gl X "zip":=by rfl)(J:∀x,Wi (.Call (.Name "zip" p) [a,b] [] m) X.env x=pure x:=by intro _;rfl)
 (B:V2 [a,b] X.env=[(false,Wh a X.env),(false,Wh b X.env)]:=by rfl)(y:V2 [b] X.env=[(false,Wh b X.env)]:=by rfl):
 XE X (.ListComp j [⟨.Tuple n tk o,.Call (.Name "zip" p) [a,b] [] m,[],0⟩] f pos) (lS fa fb d.length is g l x):=
 (QR (tx:=λA z H=>jt X.K (λc _ e=>br X c A e) x z H) D O w k (IG F M (eY S (eY R fD (by rw[y];rfl)) (by rw[B,y])) B y) N P
  (λA C q u t v I=>PE.imp (G C q u t v) λz H Q h=>QV h λc e w=>I c z e w) J).imp λ_ _ _=>S0 K
end
section
variable {P:Wd}{w:Wf}{K:aK}{mg:Str->Us}{base h:V8}{f:V1}{fd:Ww}{x d:Str}{t:WO}{N ps:Ur}{k n:Nat}{g:Sp}{B:FS}{cls:String}{C:V1}
variable{oc kV u m p q:V3}{od r:Option V1}{sl:Array Us}{Q:Uq->Prop}
abbrev hB(K:aK)(N:Ur)(g:Sp)(B:FS):Prop:=∀{W:XW}{vs:Uh}{H:Hp}{Q:VK}{E:XK},g vs H Q E->ey K W B {nx:=λ_ a=>Q .bg a,rt:=Q} (vs.map some++aS (N.length - vs.length) none) H
abbrev hY(P:Wd)(w:Wf)(K:aK)(mg:Str->Us)(base:V8)(N:Ur)(d:Str)(t:WO)(f:V1)(k:Nat)(B:FS):Prop:=∀{b:V3}{A:We}{a:List Env}{s:V4}{H:Hp}{E:XK},N.Nodup->aJ k (A.deeper (W0 d (gF t) s.heap.objs.size f b))->
 jf (vL n2 P w K mg base N d (gF t) f b A a s H E).w1 (iQ t) (ey K (br (Cx.w1 (vL n2 P w K mg base N d (gF t) f b A a s H E))) B)
theorem jx(F:lq K x d t f fd)(len:∀vs H Q E,g vs H Q E->vs.length=ps.length)(b:hB K N g B)(y:hY P w K mg base N d t f k B)(S:n5 N ps (gF t):=by exact⟨rfl,rfl,rfl,by decide+kernel,rfl,by decide+kernel,by decide+kernel⟩):lB P w K mg base n2 (k+1) f fd ps g:=
 F.ok S len λi A a s H vs Q E c z=>⟨_,y S.nd c,b z⟩
theorem dc{A:We}{j:Nat}(a:aJ k A)(h:j<=k:=by decide):aJ j A:=a.mono h
structure Nm(K:aK)(x:Str)(t:WO):Prop where
 ex:∃f fd,aW K V5 x=some (some (.ref f))/\lq K x x t f fd
theorem Nm.of(a:aW K V5 x=some (some (.ref f)))(l:K.lookup f=some ⟨oc,od,.func (cG x x (jJ t) (iQ t) (gF t) .none kV u m r p q),sl⟩)
 (c:dI K p x=true)(k:bL K (.ref f)=true):Nm K x t:=⟨_,_,a,xQ l c k⟩
structure Cm(K:aK)(cls:String)(C:V1):Prop where
 e:aW K V5 (Str.ofString cls)=some (some (.ref C))
 c:n1 K C
 mi:UM K C=true
 kp:bL K (.ref C)=true
structure Mm(K:aK)(C:V1)(x d:Str)(t:WO):Prop where
 ex:∃f fd,bH K (.ref C) x=some (some (.ref f))/\Uz K (.ref f)=true/\lq K x d t f fd
theorem Mm.of(a:bH K (.ref C) x=some (some (.ref f)))(l:K.lookup f=some ⟨oc,od,.func (cG x d (jJ t) (iQ t) (gF t) .none kV u m r p q),sl⟩)
 (c:dI K p d=true)(k:bL K (.ref f)=true)(n:Uz K (.ref f)=true):Mm K C x d t:=⟨_,_,a,n,xQ l c k⟩
theorem qk(h:∀a,Q [a]):∀b:Uq,b.length=1->Q b
 | [a],_=>h a
theorem yb{n:Nat}(h:∀a b,b.length=n->Q (a::b)):∀b:Uq,b.length=n+1->Q b
 |a::b,e=>h a b (Nat.succ.inj e)
abbrev Bd(x d:Str)(t:WO)(ps:Ur):Prop:=∀(kV b m:V3)(r:Option V1)(c q:V3)(a:Uq),a.length=ps.length->bindArgs (cG x d (jJ t) (iQ t) (gF t) .none kV b m r c q) ⟨a,[]⟩=pure (ps.zip a)
abbrev Ky(P:Wd)(w:Wf)(K:aK)(mg:Str->Us)(base:V8)(x d:Str)(t:WO)(ps:Ur)(k:Nat)(g:Sp):Prop:=∀{f:V1}{fd:Ww},lq K x d t f fd->lB P w K mg base n2 k f fd ps g
section
variable (X:K.In h)(G:h.Ns V5 mg)
include X G
variable{R:tl->aq->Option (T×aq)}
theorem Nm.df(a:Nm K x t)(o:Ky P w K mg base x x t ps k g)(b:Bd x x t ps):∃f fd ps,lB P w K mg base n2 k f fd ps g/\mg x=some (.ref f)/\bL K (.ref f)=true/\Binds K fd ps []:=
 let ⟨f,fd,a,F⟩:=a.ex
 ⟨f,fd,ps,o F,bR X G a,F.kp,F.binds b⟩
theorem mw{R:tl->Ug}(a:Nm K x t)(o:Ky P w K mg base x x t ps k (spT K n R))(b:Bd x x t ps:=by walk_at "bq"):oA P w K mg base k x n R:=⟨a.df X G o b⟩
theorem F1(a:Nm K x t)(o:Ky P w K mg base x x t ps k (spS K n R))(b:Bd x x t ps:=by walk_at "bq"):Cy P w K mg base k x n R:=⟨a.df X G o b⟩
theorem Jm(c:Cm K cls C)(a:Mm K C "__init__" d t)(o:Ky P w K mg base "__init__" d t ps k (spS K n R))(b:Bd "__init__" d t ps:=by walk_at "bq"):EI P w K mg base k cls n R [] []:=
 let ⟨f,fd,a,i,F⟩:=a.ex
 ⟨⟨C,f,fd,ps,[],c.e,bR X G c.e,⟨c.mi,a,i,c.kp⟩,o F,F.binds b,.nil⟩,λ_ _=>.nil⟩
end
end
section
variable {X:Cx}{e:Wg}{a:FE}{pos:Pos}
end
def CD(K:aK)(n:Nat)(G:tl->aq->Option (String×aq))(vs:Uh)(H:Hp)(E:XK):Prop:=∃a Z b g C h d c j,Rel K a Z b g C h H/\ax K (mask H Z b) b d vs/\d.length=n/\G d C=some (c,j)/\
 ∀f i,Rel K a Z i g j h f->Step H f b i->E (.type c) none f
def o8(K:aK)(n:Nat)(R:tl->aq->Option (T×aq))(G:tl->aq->Option (String×aq)):Sp:=λvs H Q E=>spS K n R vs H Q E\/CD K n G vs H E
def lP(B:FS)(m:Nat)(a:tl)(C:aq):Option (String×aq):=match B (gg m a) C with
 |some (.ex c,_,b)=>some (c,b)
 |_=>none
theorem SK{K:aK}{n:Nat}{R:tl->aq->Option (T×aq)}{G:tl->aq->Option (String×aq)}:∀vs H Q E,o8 K n R G vs H Q E->vs.length=n:=λvs H Q E z=>by
 rcases z with z| ⟨a,Z,g,d,C,f,h,c,i,_,r,b,_⟩
 .exact tR vs H Q E z
 .rw[r.length,b]
theorem ON{K:aK}{W:XW}{H:Hp}{n m:Nat}{B:FS}{vs:Uh}{E:XK}{D:Ends}(j:∀c d b,E (.type c) none b->W c d b)(h:CD K n (lP B m) vs H E):
 ey K W B D (vs.map some++aS (m - vs.length) none) H:=by
 obtain⟨a,Z,g,p,C,d,i,c,t,R,r,q,e,k⟩:=h;unfold lP at e;split at e
 .rename_i hB;cases e;exact⟨a,Z,g,gg m i,C,_,_,_,R.locals r,hB,λs b l o f=>j _ _ _ (k b l (R.back o f) f)⟩
 .cases e
section
variable {P:Wd}{w:Wf}{K:aK}{mg:Str->Us}{base h:V8}{f:V1}{fd:Ww}{x a:Str}{t:WO}{N ps:Ur}{k n:Nat}{B:FS}{cls:String}{C:V1}
abbrev Gh(P:Wd)(w:Wf)(K:aK)(mg:Str->Us)(base:V8)(N:Ur)(a:Str)(t:WO)(f:V1)(k:Nat)(B:FS):Prop:=∀{c:V3}{A:We}{b:List Env}{s:V4}{H:Hp}{E:XK},N.Nodup->aJ k (A.deeper (W0 a (gF t) s.heap.objs.size f c))->
 md (Gk P w K mg base N a (gF t) f c A b s H E) (iQ t) B
theorem yZ(F:lq K x a t f fd)(g:ps.length=n)(y:Gh P w K mg base N a t f k B)(S:n5 N ps (gF t):=by exact⟨rfl,rfl,rfl,by decide+kernel,rfl,by decide+kernel,by decide+kernel⟩):
 lB P w K mg base (lu P w K) (k+1) f fd ps (o8 K n (nN B N.length) (lP B N.length)):=by
 obtain⟨oc,od,kV,j,o,u,r,q,p,rfl,lk,l⟩:=F.ex;refine Fd lk l S (λvs H Q E h=>(SK vs H Q E h).trans g.symm) λA b s H vs Q E d i=>⟨_,y S.nd d,?_⟩;rcases i with h|h
 .exact xV h
 .exact ON (λc m v z=>Ie z) h
structure ES(P:Wd)(w:Wf)(K:aK)(mg:Str->Us)(base:V8)(k:Nat)(x:Str)(n:Nat)(R:tl->aq->Option (T×aq))(G:tl->aq->Option (String×aq)):Prop where
 ex:∃f fd ps,lB P w K mg base (lu P w K) k f fd ps (o8 K n R G)/\mg x=some (.ref f)/\bL K (.ref f)=true/\Binds K fd ps []
structure zN(P:Wd)(w:Wf)(K:aK)(mg:Str->Us)(base:V8)(k:Nat)(cls:String)(m:Str)(n:Nat)(R:tl->aq->Option (T×aq))(G:tl->aq->Option (String×aq)):Prop where
 ex:∃C f fd ps,aW K V5 (Str.ofString cls)=some (some (.ref C))/\n1 K C/\wd K C m f/\lB P w K mg base (lu P w K) k f fd ps (o8 K n R G)/\Binds K fd ps []
end
noncomputable def zC(n:Nat)(G:tl->aq->Option (String×aq))(a:tl)(C:aq):Option (String×aq):=if a.length=n then G a C else none
def wJ(a:String)(m:Str)(n:Nat)(G:tl->aq->Option (String×aq))(c:FE)(fa:FN):XF:=λb C=>(c b C).bind λp=>(oc a p.2 p.1).bind λx=>match du m x.2.1 x.2.2 with
 |some _=>none
 |none=>(fa b p.2).bind λq=>zC n G (p.1::q.1) q.2
section
variable {K:aK}{W:XW}{b:L2.St}{H:Hp}{Q:VK}
variable{G:tl->aq->Option (String×aq)}
def Ja(K:aK)(W:XW)(b:L2.St)(k:tl)(vs:Uh)(g:aq->Option (String×aq))(H:Hp):Prop:=∃a Z d h C c j,Rel K a Z d h C b H/\ax K (mask H Z d) d k vs/\g C=some (c,j)/\
 ∀f i,Rel K a Z i h j b f->Step H f d i->W c b f
theorem Iq{n:Nat}{vs:Uh}(h:∃d,Ja K W b d vs (zC n G d) H):CD K n G vs H λv _ f=>∃c,v=.type c/\W c b f:=by
 obtain⟨d,a,Z,i,g,C,c,o,R,r,e,k⟩:=h;unfold zC at e;split at e
 .rename_i j;exact⟨a,Z,i,g,C,b,d,c,o,R,r,j,e,λf l m s=>⟨c,rfl,k f l m s⟩⟩
 .cases e
theorem OG{f:String}{m:Str}{n:Nat}{u:FE}{fa:FN}{B:V1}(N:aW K V5 (Str.ofString f)=some (some (.ref B)))(h:jt K W (wJ f m n G u fa) b H):
 aD K u b H λx i=>∃a dx fs,x=.ref a/\i a=some (.ins B dx fs)/\fs.lookup m=none/\gn K fa b i λvs A=>CD K n G (x::vs) A λv _ j=>∃c,v=.type c/\W c b j:=by
 obtain⟨d,Z,I,g,C,c,C',R,e,k⟩:=h;unfold wJ at e;obtain⟨⟨o,F⟩,U,e⟩:=eW e;obtain⟨⟨cc,ns,ts⟩,y,e⟩:=eW e;dsimp only at y e;split at e
 .cases e
 .rename_i M;obtain⟨⟨l,D⟩,w,e⟩:=eW e;dsimp only at w e;refine⟨d,Z,I,g,C,o,F,R,U,λx i Y z t J=>?_⟩;obtain⟨a,Cl,dx,vs,S,q,hl,r,O,L⟩:=z.oc t y;rw[N]at r;cases r;refine⟨a,dx,_,S,O,by rw[tT];exact rG (by rw[L.length]) M,?_⟩;exact⟨d,Z,Y,g,F,l,D,z,w,λws A X R2 P p=>Iq ⟨o::l,d,Z,X,g,D,c,C',R2,.cons (t.step p) P,e,λj E R' s=>k j E R' ((J.trans p).trans s)⟩⟩
end
section
variable {X:Cx}{k n:Nat}{x:Str}{e o:Wg}{b:Uu}{p pos d:Pos}{g:FN}{i:FE}{R:tl->aq->Option (T×aq)}{G:tl->aq->Option (String×aq)}
variable{pl:Sem Bool}{j:String}
theorem zG{C f:V1}{m:Str}{J:Ww}{ps:Ur}{A:Sp}{z:TE}{t:TA}(Z:PE X o z)(c:n1 X.K C)(D:wd X.K C m f)(F:lB X.prog X.w X.K X.mg X.base (lu X.prog X.w X.K) k f J ps A)(Y:aJ k X.A)(E:Binds X.K J ps [])(ha:PA X (e::b) t)
 (bb:V2 (e::b) X.env=(false,Wh e X.env)::V2 b X.env:=by rfl)(ba:(Wj pos (V2 b X.env)).any (·.1)=false:=by rfl)
 (U:Wh (.Call (.Attribute o m d) (e::b) [] pos) X.env=(do
  let B<-Wh o X.env
  standAt d.atName
  let (f,first)<-W7 [B] (getMethod B m pl)
  callWith pos f first (Wj pos (V2 (e::b) X.env)) (WX pos (WC [] X.env))):=by rfl):
 PE X (.Call (.Attribute o m d) (e::b) [] pos) λw H Q=>z w H λx y=>∃a dx fs,x=.ref a/\y a=some (.ins C dx fs)/\fs.lookup m=none/\t w y λvs N=>A (x::vs) N Q λv _ H'=>∃c,v=.type c/\br X c w H':=by
 intro K s w H Q I h;refine PySem.W.methodCall_KW (pl:=pl) (aC (Z K s w H _ I h) λu O ⟨x,y,M,P,a,dx,fs,ex,ea,l,q⟩=>?_) U;subst ex;obtain rfl:u=V3.ref a:=P;refine Ts M ea c D l ?_;refine dM (first:=[.ref a]) (h₀:=X.base) I.ok.mod.ql D.kp (aC (ha pos K O w y _ M q) λus s2 ⟨vs,N,L,r,S⟩=>⟨L.gh,?_⟩) bb ba;exact yJ (us:=.ref a::us) (vs:=.ref a::vs) F Y E L (.cons rfl r) S
theorem n6{m:Str}(D:zN X.prog X.w X.K X.mg X.base k j m n R G)(z:aJ k X.A)(A:QE X o i)(K:QA X (e::b) g)
 (L:V2 (e::b) X.env=(false,Wh e X.env)::V2 b X.env:=by rfl)(M:(Wj pos (V2 b X.env)).any (·.1)=false:=by rfl)
 (y:Wh (.Call (.Attribute o m d) (e::b) [] pos) X.env=(do
  let l<-Wh o X.env
  standAt d.atName
  let (f,first)<-W7 [l] (getMethod l m pl)
  callWith pos f first (Wj pos (V2 (e::b) X.env)) (WX pos (WC [] X.env))):=by rfl):QE X (.Call (.Attribute o m d) (e::b) [] pos) (k6 j m n R i g):=by
 obtain⟨C,f,O,ps,I,c,B,F,J⟩:=D.ex;refine(zG (pl:=pl) A c B F z J K L M y).imp λr H Q h=>?_;refine h9 (MA (E:=λv _ N=>∃c,v=.type c/\br X c r N) I h) λx S ⟨a,dx,fs,w,u,t,s⟩=>⟨a,dx,fs,w,u,t,lI s λvs P q=>.inl ?_⟩;rw[aT]at q;exact q
theorem J3{m:Str}(D:zN X.prog X.w X.K X.mg X.base k j m n R G)(w:aJ k X.A)(y:QE X o i)(I:QA X (e::b) g)
 (J:V2 (e::b) X.env=(false,Wh e X.env)::V2 b X.env:=by rfl)(K:(Wj pos (V2 b X.env)).any (·.1)=false:=by rfl)
 (v:Wh (.Call (.Attribute o m d) (e::b) [] pos) X.env=(do
  let l<-Wh o X.env
  standAt d.atName
  let (f,first)<-W7 [l] (getMethod l m pl)
  callWith pos f first (Wj pos (V2 (e::b) X.env)) (WX pos (WC [] X.env))):=by rfl):XE X (.Call (.Attribute o m d) (e::b) [] pos) (wJ j m n G i g):=by
 obtain⟨C,f,M,ps,A,c,z,F,B⟩:=D.ex;refine(zG (pl:=pl) y c z F w B I J K v).imp λL H Q h=>?_;exact h9 (OG A h) λx O ⟨a,dx,fs,u,t,s,r⟩=>⟨a,dx,fs,u,t,s,lI r λvs N q=>.inr q⟩
end
def Dd(K:aK)(f:String)(v:V):Prop:=∃a,v=.ref a/\aW K V5 (Str.ofString f)=some (some (.ref a))
def yl(K:aK)(f:String)(u:V3):Prop:=∃a,u=.ref a/\aW K V5 (Str.ofString f)=some (some (.ref a))
def m9(K:aK)(fs:List String)(t:V1):Prop:=∃o a n,K.lookup t=some o/\o.cls=.type "tuple"/\o.data=.seq a n/\a.size<=sizeLine/\Paired (yl K) fs a.toList
def Er(w:Wf)(K:aK)(p:Str×List String)(e:WQ):Prop:=∃tk t,e=⟨WL w p.1,.str p.1 tk,.ref t⟩/\m9 K p.2 t
structure nG(w:Wf)(K:aK)(mg:Str->Us)(x:Str)(tab:List (Str×List String)):Prop where
 nd:(tab.map (·.1)).Nodup
 ex:∃d o es ep,mg x=some (.ref d)/\(d==Wr)=false/\K.lookup d=some o/\o.ExactDict/\o.data=.dict es ep/\Paired (Er w K) tab es.toList
def EL(K:aK)(p:Str×List String)(a:Key×V3):Prop:=a.1=.inr p.1/\∃t,a.2=.ref t/\m9 K p.2 t
theorem yl.vals{K:aK}:∀{fs:List String}{b:Uq},Paired (yl K) fs b->∃vs,au vs b/\Paired (Dd K) fs vs
 |_,_,.nil=>⟨[],.nil,.nil⟩
 |_,_,.cons ⟨a,e,h⟩ t=>by
  obtain⟨vs,d,c⟩:=yl.vals t;subst e;exact⟨.ref a::vs,.cons rfl d,.cons ⟨a,rfl,h⟩ c⟩
theorem m9.sq{K:aK}{H:Hp}{fs:List String}{t:V1}(h:m9 K fs t):∃vs,fv K H t vs/\Paired (Dd K) fs vs:=by
 obtain⟨o,a,n,j,i,g,f,d⟩:=h;obtain⟨vs,c,b⟩:=yl.vals d;exact⟨vs,.inr ⟨o,a,n,j,i,g,f,c⟩,b⟩
theorem uE{P:Wd}{w:Wf}{K:aK}:∀{b:List (Str×List String)}{c:List WQ},Paired (Er w K) b c->
 ∃a,Pairs (iF P w) c a/\Paired (EL K) b a/\(∀e∈c,∃k,(iF P w).is k e.key=true/\e.hash=(iF P w).hash k)/\a.map (·.1)=b.map λp=>(Sum.inr p.1:Key)
 |_,_,.nil=>⟨[],.nil,.nil,λ_ z=>absurd z (by simp),rfl⟩
 |p::_,_,.cons ⟨tk,t,e,h⟩ r=>by
  obtain⟨a,i,g,f,d⟩:=uE r;subst e;refine⟨(.inr p.1,.ref t)::a,.cons (rX p.1 tk) rfl i,.cons ⟨rfl,t,rfl,h⟩ g,λe he=>?_,by rw[aN,aN,d]⟩;rcases fU he with rfl|he
  .exact⟨.inr p.1,rX p.1 tk,rfl⟩
  .exact f e he
theorem xM{K:aK}{z:Str}:∀{b:List (Str×List String)}{a:List (Key×V3)},Paired (EL K) b a->(match b.lookup z with|some fs=>∃t,WW a (.inr z)=some (.ref t)/\m9 K fs t|none=>WW a (.inr z)=none)
 |_,_,.nil=>rfl
 | (x,fs)::b,(k,u)::a,.cons ⟨e,t,d,h⟩ r=>by
   have ih:=xM (z:=z) r;dsimp only at e d h;subst e d;rw[cP];unfold WW at ih|-;rw[cF];by_cases c:z=x
   .subst c;rw[beq_self_eq_true];dsimp only;rw[decide_eq_true rfl];exact⟨t,rfl,h⟩
   .rw[beq_eq_false_iff_ne.mpr c];dsimp only;rw[decide_eq_false (λq=>c (Sum.inr.inj q).symm)];exact ih
theorem nG.dict{P:Wd}{w:Wf}{K:aK}{mg:Str->Us}{x:Str}{a:List (Str×List String)}(R:nG w K mg x a){h:V8}(k:K.In h):
 ∃d b,mg x=some (.ref d)/\(d==Wr)=false/\h.DictOf (iF P w) d b/\Paired (EL K) a b:=by
 obtain⟨d,o,t,u,s,r,q,n,m,l⟩:=R.ex;obtain⟨b,i,g,f,c⟩:=uE (P:=P) l;refine⟨d,b,s,r,⟨o,t,u,k d o q,n,m,λe j=>f e (eS.mpr j),i,?_⟩,g⟩;rw[c];have:(a.map λp=>(Sum.inr p.1:Key))=(a.map (·.1)).map Sum.inr:=by rw[cK];rfl
 rw[this];exact eE.mpr (R.nd.imp λh e=>h (Sum.inr.inj e))
section
variable {X:Cx}{i:Wg}{b:TE}{x:Str}{a:List (Str×List String)}{p pos:Pos}
theorem Fo(R:nG X.w X.K X.mg x a)(C:PE X i b)(D:Gl X x)(B:wb i)(F:(x==("__debug__":Str))=false:=by decide):
 PE X (.Subscript (.Name x p) i pos) λc H Q=>b c H λy o=>∃z fs,y=.str z/\a.lookup z=some fs/\∀t vs,fv X.K o t vs->Paired (Dd X.K) fs vs->Q (.ref t) o:=by
 intro J s c H Q I h;obtain⟨d,f,k,_,_,_⟩:=R.dict (P:=X.prog) I.gh;refine HP PySem.F.slot_dict_getitem.lookup B (mV I D k (aC (C J s c H _ I h) λL K r=>?_) F);obtain⟨y,n,m,u,z,fs,G,hl,q⟩:=r;subst G;obtain⟨M,f,g,_,l,v⟩:=R.dict (P:=X.prog) m.gh;rw[k]at g;cases g;have j:=xM (z:=z) v;rw[hl]at j;obtain⟨t,A,rt⟩:=j;obtain⟨vs,e,w⟩:=rt.sq (H:=n);exact⟨l.typeIs,wpAny_getItem_of (k:=Sum.inr z) (tZ (k:=.inr z) u) l.mapOf A ⟨.ref t,n,m.tok _,rfl,q t vs e w⟩⟩
theorem Oq(R:nG X.w X.K X.mg x a)(v:PE X i b)(w:Gl X x)(e:(x==("__debug__":Str))=false:=by decide):
 PC X .NotIn i (.Name x p) λf H Q=>b f H λy F=>∃z,y=.str z/\Q (.bl (!(a.lookup z).isSome)) F:=by
 intro C s f H Q I h;refine aC (v C s f H _ I h) λJ G l=>?_;obtain⟨y,D,k,m,z,A,q⟩:=l;subst A;obtain⟨d,c,u,r,B,n⟩:=R.dict (P:=X.prog) k.gh;refine mV k w u ?_ e;have g:=xM (z:=z) n;refine wpAny_notIn_of (k:=Sum.inr z) (tZ (k:=.inr z) m) r B.mapOf ⟨.bl (!(WW c (Sum.inr z)).isSome),D,k.tok _,rfl,?_⟩;have:(WW c (Sum.inr z)).isSome=(a.lookup z).isSome:=by
  split at g
  .rename_i fs j;obtain⟨t,o,_⟩:=g;rw[o,j];rfl
  .rename_i j;rw[g,j];rfl
 rw[this];exact q
end
noncomputable def vR(a:List (Str×List String))(g:List String->Ug)(c:FE):FE:=λb C=>(c b C).bind λp=>match p.1 with
 | .str z=>((a.lookup z).bind g).map λt=>(t,p.2)
 |_=>none
noncomputable def Ar:List String->Ug
 |f::_=>some (.fn f)
 | []=>none
noncomputable def Ap:List String->Ug
 |_::r=>some (.tup (r.map T.fn))
 | []=>none
def Aq(fs:List String):Ug:=some (.int fs.length)
noncomputable def B3(a:List (Str×List String))(c:FE):FE:=λb C=>(c b C).bind λp=>match p.1 with
 | .str z=>some (.bl (!(a.lookup z).isSome),p.2)
 |_=>none
theorem rZ{a:List (Str×List String)}{g:List String->Ug}{c:FE}{b:aB}{C d:aq}{t:T}(h:vR a g c b C=some (t,d)):∃z fs,c b C=some (.str z,d)/\a.lookup z=some fs/\g fs=some t:=by
 unfold vR at h;obtain⟨⟨u,l⟩,k,h⟩:=eW h;dsimp only at h;split at h
 .obtain⟨v,j,h⟩:=eX h;cases h;obtain⟨fs,i,f⟩:=eW j;exact⟨_,fs,k,i,f⟩
 .cases h
theorem GV{K:aK}{M:Hp}{a:bo}:∀{fs:List String}{vs:Uh},Paired (Dd K) fs vs->ax K M a (fs.map T.fn) vs
 |_,_,.nil=>.nil
 |_,_,.cons h t=>.cons (by unfold RT;exact h) (GV t)
section
variable {X:Cx}{i:Wg}{c:FE}{x:Str}{d:List (Str×List String)}{p pos f:Pos}
theorem L7{o}{n:Pos}(R:nG X.w X.K X.mg x d)(u:QE X i c)(w:Gl X x:=by rfl)(s:wb i:=by exact λ_ _=>rfl)(A:(x==("__debug__":Str))=false:=by decide):
 QE X (.Subscript (.Subscript (.Name x p) i f) (.Constant (.int 0) o n) pos) (vR d Ar c):=by
 refine(ER G6 (Fo R u w s A) Fy (λ_ _=>rfl)).imp λM H Q h=>?_;obtain⟨b,Z,l,j,C,t,L,I,e,k⟩:=h;obtain⟨z,fs,F,D,g⟩:=rZ e;refine⟨b,Z,l,j,C,_,L,I,F,λv K G J B m=>⟨z,fs,B.str_inv,D,λa vs q pv=>?_⟩⟩;cases pv with
 |nil=>cases g
 |cons y r=>
  cases g;exact⟨a,_,0,_,rfl,rfl,q,OA (j:=0) rfl,k _ K G J (by unfold RT;exact y) m⟩
theorem Le{B}{A ps:Pos}(R:nG X.w X.K X.mg x d)(F:QE X i c)(G:Gl X x:=by rfl)(D:wb i:=by exact λ_ _=>rfl)(I:(x==("__debug__":Str))=false:=by decide):
 QE X (.Subscript (.Subscript (.Name x p) i f) (.Slice (some (.Constant (.int 1) B A)) none none ps) pos) (vR d Ap c):=by
 refine(uF L9 (Fo R F G D I) (HE Fy) Io).imp λU H Q h=>?_;obtain⟨g,Z,s,o,C,t,S,P,e,k⟩:=h;obtain⟨z,fs,N,M,n⟩:=rZ e;refine⟨g,Z,s,o,C,_,S,P,N,λv H1 O l J y=>⟨z,fs,J.str_inv,M,λa vs q pv=>?_⟩⟩;cases pv with
 |nil=>cases n
 | @cons E u K m Y r=>
   cases n;refine⟨1,rfl,a,_,rfl,q,λw=>?_,λb j=>?_⟩
   .have w:=w.1;simp[HT.cb]at w
   .have L:vI (u::m) (some 1) none=m:=by simp[vI,HT.cb]
    rw[L];exact k _ _ O (l.alloc j).1 (l.gf j (GV r)) (y.trans (l.alloc j).2)
theorem Lg{n:Pos}(s:X.mg "len"=none)(R:nG X.w X.K X.mg x d)(u:QE X i c)(w:Gl X x:=by rfl)(o:Gl X "len":=by rfl)(r:wb i:=by exact λ_ _=>rfl)(y:(x==("__debug__":Str))=false:=by decide)
 (g:V2 [.Subscript (.Name x p) i f] X.env=(false,Wh (.Subscript (.Name x p) i f) X.env)::V2 [] X.env:=by rfl):
 QE X (.Call (.Name "len" n) [.Subscript (.Name x p) i f] [] pos) (vR d Aq c):=by
 refine(p8 pZ o s PySem.boot_len (jZ (Fo R u w r y) oF g) (by decide) (by decide) g rfl).imp λM H Q h=>?_;obtain⟨b,Z,l,j,C,t,L,I,e,k⟩:=h;obtain⟨z,fs,F,D,B⟩:=rZ e;refine⟨b,Z,l,j,C,_,L,I,F,λv K G J A m=>⟨z,fs,A.str_inv,D,λa vs q pv=>?_⟩⟩;cases B;exact⟨a,vs,rfl,.inr q,by rw[<-Paired.length pv];exact k _ K G J .int m⟩
theorem LF(R:nG X.w X.K X.mg x d)(o:QE X i c)(q:Gl X x:=by rfl)(n:Wo .NotIn (.Name x p)=false:=by rfl)(r:(x==("__debug__":Str))=false:=by decide):
 QT X (.Compare i [.NotIn] [.Name x p] pos) (i4 (B3 d c)):=by
 refine(Hk (Oq R o q r) n).imp λb H Q h=>EW (te:=λb H Q=>aD X.K c b H λy g=>∃z,y=V.str z/\Q (V.bl (!(d.lookup z).isSome)) g) (λb H Q h=>?_) h;obtain⟨a,Z,l,j,C,t,G,B,e,k⟩:=h;unfold B3 at e;obtain⟨⟨u,F⟩,w,e⟩:=eW e;dsimp only at e;split at e
 .cases e;exact⟨a,Z,l,j,C,_,_,B,w,λv g A D s m=>⟨_,s.str_inv,k _ g A D .bl m⟩⟩
 .cases e
end
abbrev FT:=String->Option (Nat×(tl->aq->Option (T×aq))×(tl->aq->Option (String×aq)))
def k9(ft:FT)(i:Nat)(fa:FN):FE:=λa C=>match a[i]?with
 |some (some (.fn c))=>(ft c).bind λq=>(fa a C).bind λp=>pL q.1 q.2.1 p.1 p.2
 |_=>none
def m8(ft:FT)(i:Nat)(fa:FN):XF:=λa C=>match a[i]?with
 |some (some (.fn c))=>(ft c).bind λq=>(fa a C).bind λp=>zC q.1 q.2.2 p.1 p.2
 |_=>none
def sO(kt:List String)(i:Nat)(x:XF):XF:=λa C=>match a[i]?with
 |some (some (.fn c))=>if c∈kt then x a C else none
 |_=>none
def j8(K:aK)(kt:List String):Prop:=∀c∈kt,∃a,aW K V5 (Str.ofString c)=some (some (.ref a))/\bL K (.ref a)=true
theorem j8.nil{K:aK}:j8 K []:=λ_ h=>absurd h bS
theorem j8.cons{K:aK}{c:String}{kt:List String}{a:V1}(h:aW K V5 (Str.ofString c)=some (some (.ref a)))(f:bL K (.ref a)=true)(b:j8 K kt):j8 K (c::kt):=
 λd g=>(fU g).elim (λe=>by rw[e];exact⟨a,h,f⟩) (b d)
structure jR(P:Wd)(w:Wf)(K:aK)(mg:Str->Us)(base:V8)(k:Nat)(ft:FT):Prop where
 ok:∀c q,ft c=some q->∃j,j<=k/\ES P w K mg base j (Str.ofString c) q.1 q.2.1 q.2.2
section
variable {X:Cx}{k i:Nat}{x:Str}{e:Wg}{b:Uu}{p pos:Pos}{fr:FN}{ft:FT}{d:XF}
theorem Iz{t:TA}(J:X.N[i]?=some x)(A:th X.env.scope x)(G:PA X (e::b) t)(O:(x==("__debug__":Str))=false:=by decide)(N:(x==("__classdict__":Str))=false:=by decide)
 (C:V2 (e::b) X.env=(false,Wh e X.env)::V2 b X.env:=by rfl)(P:(Wj pos (V2 b X.env)).any (·.1)=false:=by rfl):
 PE X (.Call (.Name x p) (e::b) [] pos) λf H Q=>∃a j ps g k,f[i]?=some (some (.ref a))/\lB X.prog X.w X.K X.mg X.base (lu X.prog X.w X.K) k a j ps g/\aJ k X.A/\bL X.K (.ref a)=true/\Binds X.K j ps []/\
  t f H λvs l=>g vs l Q λv _ m=>∃c,v=.type c/\br X c f m:=by
 intro n s f H Q I h;obtain⟨a,j,ps,g,k,L,F,hr,B,D,h⟩:=h;refine WA (aC (Fu J A O N n s f H (λv m=>v=.ref a/\m=H) I ⟨.ref a,L,rfl,rfl⟩) λu y w=>?_);obtain⟨v,l,R,z,K,M⟩:=w;subst K M;obtain rfl:u=V3.ref a:=z;refine dM (h₀:=X.base) I.ok.mod.ql B (aC (G pos n y f l _ R h) λS U ⟨vs,Y,o,r,q⟩=>⟨o.gh,?_⟩) C P;exact yJ F hr D o r q
theorem jR.at{D:jR X.prog X.w X.K X.mg X.base k ft}{hr:aJ k X.A}{t:List (V1×Obj)}{σ:L2.St}{H:Hp}{s:V4}{c:String}{q}(I:Inv X t σ H s)(h:ft c=some q){a:V1}(l:aW X.K V5 (Str.ofString c)=some (some (.ref a))):
 ∃g ps j,lB X.prog X.w X.K X.mg X.base (lu X.prog X.w X.K) j a g ps (o8 X.K q.1 q.2.1 q.2.2)/\aJ j X.A/\bL X.K (.ref a)=true/\Binds X.K g ps []:=by
 obtain⟨j,o,u⟩:=D.ok c q h;obtain⟨f,g,ps,F,m,n,r⟩:=u.ex;have:=bR I.ok.mod.ql I.ok.mod.glob l;rw[m]at this;cases this;exact⟨g,ps,j,F,hr.mono o,n,r⟩
theorem sZ(i:Nat)(D:jR X.prog X.w X.K X.mg X.base k ft)(hr:aJ k X.A)(M:QA X (e::b) fr)(N:X.N[i]?=some x:=by rfl)(l:th X.env.scope x:=by first|exact Uv rfl|exact dZ (Uv rfl)|exact dZ (dZ rfl))(U:(x==("__debug__":Str))=false:=by decide)(S:(x==("__classdict__":Str))=false:=by decide)
 (J:V2 (e::b) X.env=(false,Wh e X.env)::V2 b X.env:=by rfl)(Y:(Wj pos (V2 b X.env)).any (·.1)=false:=by rfl):QE X (.Call (.Name x p) (e::b) [] pos) (k9 ft i fr):=by
 intro aa s w H Q I h;refine Iz N l M U S J Y aa s w H Q I ?_;obtain⟨f,Z,y,m,C,t,C',o,e,k⟩:=h;unfold k9 at e;split at e
 .rename_i c K;obtain⟨q,A,e⟩:=eW e;obtain⟨⟨n,u⟩,R,e⟩:=eW e;obtain⟨v,l,g⟩:=o.loc i _ K;unfold RT at g;obtain⟨a,P,B⟩:=g;subst P;obtain⟨O,ps,j,F,hr,G,L⟩:=jR.at (D:=D) (hr:=hr) I A B;exact⟨a,O,ps,_,j,l,F,hr,G,L,⟨f,Z,y,m,C,n,u,o,R,λvs H1 E R1 r z=>.inl (tN ⟨n,f,Z,E,m,u,t,C',R1,r,e,λv H' ae R' g s=>k v H' ae R' g (z.trans s)⟩)⟩⟩
 .cases e
theorem HJ(i:Nat)(D:jR X.prog X.w X.K X.mg X.base k ft)(hr:aJ k X.A)(M:QA X (e::b) fr)(N:X.N[i]?=some x:=by rfl)(g:th X.env.scope x:=by first|exact Uv rfl|exact dZ (Uv rfl)|exact dZ (dZ rfl))(U:(x==("__debug__":Str))=false:=by decide)(S:(x==("__classdict__":Str))=false:=by decide)
 (J:V2 (e::b) X.env=(false,Wh e X.env)::V2 b X.env:=by rfl)(Y:(Wj pos (V2 b X.env)).any (·.1)=false:=by rfl):XE X (.Call (.Name x p) (e::b) [] pos) (m8 ft i fr):=by
 intro aa s w H Q I h;refine Iz N g M U S J Y aa s w H Q I ?_;obtain⟨f,Z,y,l,C,t,C',o,e,k⟩:=h;unfold m8 at e;split at e
 .rename_i c K;obtain⟨q,A,e⟩:=eW e;obtain⟨⟨m,u⟩,R,e⟩:=eW e;obtain⟨v,g,n⟩:=o.loc i _ K;unfold RT at n;obtain⟨a,P,B⟩:=n;subst P;obtain⟨O,ps,j,F,hr,G,L⟩:=jR.at (D:=D) (hr:=hr) I A B;exact⟨a,O,ps,_,j,g,F,hr,G,L,⟨f,Z,y,l,C,m,u,o,R,λvs H1 E R1 r z=>.inr (Iq ⟨m,f,Z,E,l,u,t,C',R1,r,e,λH' ae R' s=>k H' ae R' (z.trans s)⟩)⟩⟩
 .cases e
theorem Nv(i:Nat){kt:List String}(D:j8 X.K kt)(M:XA X (e::b) d)(N:X.N[i]?=some x:=by rfl)(B:th X.env.scope x:=by first|exact Uv rfl|exact dZ (Uv rfl)|exact dZ (dZ rfl))(U:(x==("__debug__":Str))=false:=by decide)(S:(x==("__classdict__":Str))=false:=by decide)
 (K:V2 (e::b) X.env=(false,Wh e X.env)::V2 b X.env:=by rfl)(Y:(Wj pos (V2 b X.env)).any (·.1)=false:=by rfl):XE X (.Call (.Name x p) (e::b) [] pos) (sO kt i d):=by
 intro n s l H Q I h;obtain⟨f,Z,y,w,C,t,C',o,e,k⟩:=h;unfold sO at e;split at e
 .rename_i c L;split at e
  .rename_i G;obtain⟨v,j,g⟩:=o.loc i _ L;unfold RT at g;obtain⟨a,P,F⟩:=g;subst P;obtain⟨a',m,J⟩:=D c G;rw[F]at m;cases m;refine WA (aC (Fu N B U S n s l H (λv H'=>v=.ref a/\H'=H) I ⟨.ref a,j,rfl,rfl⟩) λu A z=>?_);obtain⟨v,H1,E,g,O,R⟩:=z;subst O R;obtain rfl:u=V3.ref a:=g;refine dM (h₀:=X.base) I.ok.mod.ql J (aC (M pos n A l H1 (λ_ _=>False) E ⟨f,Z,y,w,C,t,C',o,e,k⟩) λus s2 ⟨vs,H2,I2,r,q⟩=>q.elim) K Y
  .cases e
 .cases e
end
end TL
namespace TL
open PySem L2
section
variable {K:aK}{W:XW}{j:L2.St}{H:Hp}{Q:VK}{D:Ends}{M:Hp}{d:bo}
variable{ks:List Key}{xs:Uh}
def FH(a:V1)(ob:Obj)(b:List (Key×V)):It:=
 ⟨λi H=>H a=some (.ei ob (.dK b))/\i<b.length,λi H x c=>c=H/\∃k v,x=kV k/\b[i]?=some (k,v),λi H=>H a=some (.ei ob (.dK b))/\b.length<=i⟩
def ow(B:V1->Prop)(t:TE):TI:=λj H R=>t j H λx b=>∃a kvs,x=.ref a/\b a=some (.dK kvs)/\(B a->∀ob,R (FH a ob kvs) (upd b a (.ei ob (.dK kvs))))
theorem SD{Z:V1->Prop}{o:Hp}{s:bo}{a:V1}{ob:Obj}{vs:Uh}(hl:ks.length=vs.length)(n:o a=some (.ei ob (.dK (ks.zip vs)))):td K (FH a ob (ks.zip vs)) Z o s (ks.map kT) (λ_=>True):=by
 have h:(ks.zip vs).length=ks.length:=by rw[cJ];lia
 refine⟨λi z b u t r y j H l w sm ix q f=>?_,λb u t r y j H w sm ix q f=>?_⟩
 .rw[bF]at l;obtain⟨k,m,rfl⟩:=eX l;refine⟨⟨f _ _ _ n,by rw[h];exact(fA m).1⟩,λx A p=>?_⟩;obtain⟨rfl,e,v,rfl,c⟩:=p;obtain⟨g,_⟩:=Vn.mp c;rw[m]at g;cases g;exact⟨.refl _,JV⟩
 .exact⟨f _ _ _ n,by rw[aQ,h];exact bI _⟩
def rE(f:FE)(k:Nat)(is:Uo)(g:FG)(c:FB)(h:FE):FN:=λa C=>(f a C).bind λp=>(nk p.2 p.1).bind λx=>if x.2.1.length<lim/\x.2.1.length=x.2.2.length then
 (iH g c h (d3 k is a) (x.2.1.map kT) (p.2.set x.1 (.dy x.2.1,x.2.2))).bind λr=>match r.2[x.1]?with
  |some (.dy ks,b)=>some (r.1,r.2.set x.1 (.dk ks,b))
  |_=>none else none
theorem MN{f:FE}{k:Nat}{is:Uo}{g:FG}{O:FB}{P:FE}{B:V1->Prop}(hg:i1 k g)(h:jh K (rE f k is g O P) j H Q):Dm B (t4 (ow B (aD K f)) (hG k is) (ke K g) (hL K O) (aD K P) j H) Q:=by
 obtain⟨r,Z,d,τ,C,ys,C',R,e,q⟩:=h;unfold rE at e;obtain⟨⟨t,C1⟩,e1,e⟩:=eW e;obtain⟨⟨c,ks,ts⟩,S,e⟩:=eW e;dsimp only at S e;split at e
 .rename_i hl;obtain⟨⟨zs,C2⟩,e3,e⟩:=eW e;dsimp only at e;split at e
  .rename_i N ts' e4;cases e;refine⟨r,Z,d,τ,C,t,C1,R,e1,λv H1 af Y i s1=>?_⟩;obtain⟨a,vs,ev,I,L,J,hr⟩:=Y.dk i S;subst ev;refine⟨a,_,rfl,J,λhB ob D hD=>?_⟩;obtain⟨Rf,sf⟩:=Y.put (kd:=.dy ks) (ob:=.ei ob (.dK (ks.zip vs))) I (by rw[J];trivial) ⟨L,ob,rfl⟩ hr;refine oP (Q:=λv H=>∃a ob u,B a/\H a=some (.ei ob u)/\Q v (upd H a u)) (P:=λ_=>True) Rf hg (SD L gS) trivial (λ_ _ _ _=>trivial) (by simpa using hl.1) e3 hD λp H' X A E hp rv l=>?_;have G:=l.idx _ _ I;have s:=l.fz a ob _ gS;obtain⟨x,us,o2,c1,U,c4,c3⟩:=E.hH c a G;rw[e4]at c1;cases c1;rw[s]at U;cases U;obtain⟨jr,ob2,z⟩:=c4;have z2:ks.zip vs=N.zip us:=by
    injection z with _ z
    injection z
   have F:a≠p:=λz=>by rw[z,hp]at s;cases s
   refine⟨a,ob,.dK (ks.zip vs),hB,by rw[fL F];exact s,?_⟩;obtain⟨Rt,em⟩:=E.AA (kd:=.dk N) (ob:=.dK (ks.zip vs)) G ⟨jr,by rw[z2]⟩ c3;have pd:upd (upd H' p (.lst A)) a (.dK (ks.zip vs))=upd (upd H' a (.dK (ks.zip vs))) p (.lst A):=by
    funext b;unfold upd;by_cases i:b=a
    .subst i;rw[V6 rfl,V9 F,V6 rfl]
    .by_cases w:b=p
     .rw[V9 i,V6 w,V6 w]
     .rw[V9 i,V9 w,V9 w,V9 i]
   rw[pd];have am:a∈af:=bV I;have am':a∈X:=bV G;refine q p _ X A Rt (by rw[fL (Ne.symm F)];exact hp) (by rw[em];exact rv) (s1.trans ⟨λb o z n=>?_,l.pre,λb o u z=>?_⟩)
   .have m:b≠a:=λz=>n (by rw[z];exact am);have:=l.kept b o (by rw[fL m];exact z) n;exact⟨this.1,by rw[fL m];exact this.2⟩
   .have m:b≠a:=λy=>by rw[y,J]at z;cases z
    rw[fL m];exact l.fz b o u (by rw[fL m];exact z)
  .cases e
 .cases e
noncomputable def vh(k:Key)(ks:List Key)(b:tl):List Key×tl:=((((ks.zip b).filter λa=>decide (a.1≠k)).map (·.1)),((ks.zip b).filter λa=>decide (a.1≠k)).map (·.2))
theorem Mq{k:Key}{vs:Uh}:vC (ks.zip vs) k=(((ks.zip vs).filter λa=>decide (a.1≠k)).map (·.1)).zip (((ks.zip vs).filter λa=>decide (a.1≠k)).map (·.2)):=by
 unfold vC;generalize ((ks.zip vs).filter λa=>decide (a.1≠k))=l;induction l with
 |nil=>rfl
 |cons p l ih=>rw[aN,aN,bO,<-ih]
theorem xH{c b:Type}{k:Key}:∀{ks:List Key}{ts:List c}{vs:List b},ts.length=vs.length->((ks.zip ts).filter λa=>decide (a.1≠k)).map (·.1)=((ks.zip vs).filter λa=>decide (a.1≠k)).map (·.1)
 | [],_,_,_=>rfl
 |_::_,[],[],_=>rfl
 |_::_,[],_::_,h=>by cases h
 |_::_,_::_,[],h=>by cases h
 |x::ks,t::ts,v::vs,h=>by
  rw[bO,bO,dL,dL];dsimp only;by_cases e:x=k
  .rw[V9 (by simpa using e),V9 (by simpa using e)];exact xH (by simpa using h)
  .rw[V6 (by simpa using e),V6 (by simpa using e),aN,aN,xH (ts:=ts) (vs:=vs) (by simpa using h)]
theorem ax.dp{k:Key}:∀{ks:List Key}{a:tl}{vs:Uh},ax K M d a vs->ax K M d (((ks.zip a).filter λb=>decide (b.1≠k)).map (·.2)) (((ks.zip vs).filter λb=>decide (b.1≠k)).map (·.2))
 | [],_,_,_=>.nil
 |_::_,[],vs,h=>by rw[h.nil_inv];exact .nil
 |x::ks,t::a,vs,h=>by
  obtain⟨v,r,rfl,f,c⟩:=h.cons_inv;rw[bO,bO,dL,dL];dsimp only;by_cases e:x=k
  .rw[V9 (by simpa using e),V9 (by simpa using e)];exact ax.dp c
  .rw[V6 (by simpa using e),V6 (by simpa using e)];exact .cons f (ax.dp c)
def v4(c b:FE):FE:=λa C=>(c a C).bind λp=>if(nk p.2 p.1).isSome=true then(b a p.2).bind λq=>(nk q.2 p.1).bind λx=>(uw q.1).bind λk=>(vl (x.2.1.zip x.2.2) k).map λt=>(t,q.2.set x.1 (.dk (vh k x.2.1 x.2.2).1,(vh k x.2.1 x.2.2).2))else none
theorem LS{w s:FE}(h:aD K (v4 w s) j H Q):oh (aD K w) (aD K s) j H Q:=by
 obtain⟨f,Z,d,l,C,t,C',R,e,k⟩:=h;unfold v4 at e;obtain⟨⟨P,L⟩,e1,e⟩:=eW e;dsimp only at e;split at e
 .rename_i Y;obtain⟨⟨O,C2⟩,e2,e⟩:=eW e;obtain⟨⟨c,ks,n⟩,I,e⟩:=eW e;obtain⟨b,G,e⟩:=eW e;obtain⟨u,F,e⟩:=eX e;cases e;dsimp only at I G F;refine⟨f,Z,d,l,C,P,L,R,e1,λx H1 af J r S=>?_⟩;obtain⟨a,B,E⟩:=J.ou r (by unfold TL.ou;rw[Y];rfl);refine⟨a,B,E,?_⟩;refine⟨f,Z,af,l,L,O,C2,J,e2,λy H2 az R2 h2 o=>?_⟩;obtain⟨a',vs,z,q,hl,p,i⟩:=R2.dk (r.step o) I;rw[B]at z;cases z;obtain⟨v,X,U⟩:=i.vl (k:=b) F;refine⟨_,b,v,p,xI h2 G,X,?_⟩;have A:((ks.zip n).filter λg=>decide (g.1≠b)).map (·.1)=((ks.zip vs).filter λg=>decide (g.1≠b)).map (·.1):=xH i.length.symm;rw[Mq];obtain⟨N,m⟩:=R2.put (kd:=.dk (vh b ks n).1) (ob:=.dK ((((ks.zip vs).filter λg=>decide (g.1≠b)).map (·.1)).zip (((ks.zip vs).filter λg=>decide (g.1≠b)).map (·.2)))) q (by rw[p];trivial)
   ⟨by unfold vh;rw[A,aQ,aQ],by unfold vh;rw[A]⟩ (i.dp (k:=b) (ks:=ks))
  exact k _ _ az N (U.step m) ((S.trans o).trans m)
 .cases e
def B4(a:tl)(C:aq):Option (T×aq):=match a with
 | [t]=>(nk C t).bind λx=>if x.2.1.length=x.2.2.length then some (.int x.2.1.length,C)else none
 |_=>none
abbrev wA(a:FN):FE:=mR a B4
theorem Lx(h:∃f,fh K j f xs (B4 f) H Q):∃a b,xs=[.ref a]/\H a=some (.dK b)/\Q (.int b.length) H:=by
 obtain⟨f,g,Z,d,o,C,t,s,R,r,e,k⟩:=h;unfold B4 at e;split at e
 .obtain⟨v,_,rfl,i,r⟩:=r.cons_inv;rw[r.nil_inv];obtain⟨⟨c,ks,f⟩,n,e⟩:=eW e;dsimp only at e;split at e
  .cases e;obtain⟨a,vs,m,q,hl,l,p⟩:=R.dk i n;refine⟨a,_,by rw[m],l,?_⟩;have:(ks.zip vs).length=ks.length:=by rw[cJ,<-hl,UA]
   rw[this];exact k _ H d R .int .refl
  .cases e
 .cases e
noncomputable def x3:List Key->Option Ur
 | []=>some []
 | .inr x::ks=>(x3 ks).map (x:: ·)
 | .inl _::_=>none
def u8(a:tl)(C:aq):Option tl:=match a with
 | [t]=>(nk C t).bind λx=>(x3 x.2.1).bind λxs=>if xs.length<=lim then some (xs.map T.str)else none
 |_=>none
abbrev Fw(a:FN):FN:=sE a u8
theorem wU:∀{ks:List Key}{xs:Ur},x3 ks=some xs->ks=xs.map Sum.inr
 | [],_,h=>by cases h;rfl
 | .inr x::ks,_,h=>by
   unfold x3 at h;obtain⟨a,e,rfl⟩:=eX h;rw[wU e];rfl
 | .inl _::_,_,h=>by cases h
theorem H0:∀{l:Ur},ax K M d (l.map T.str) (l.map V.str)
 | []=>.nil
 |_::_=>.cons .str H0
theorem OW(h:∃f,wi K j f xs (u8 f) H Q):∃a,∃b:Ur,∃vs:Uh,xs=[.ref a]/\b.length=vs.length/\b.length<=lim/\H a=some (.dK ((b.map (Sum.inr:Str->Key)).zip vs))/\∀p,H p=none->Q (.ref p) (upd H p (.lst (b.map V.str))):=by
 obtain⟨f,g,Z,d,t,C,u,R,r,e,k⟩:=h;unfold u8 at e;split at e
 .obtain⟨v,_,rfl,i,r⟩:=r.cons_inv;rw[r.nil_inv];obtain⟨⟨c,ks,f⟩,s,e⟩:=eW e;obtain⟨b,o,e⟩:=eW e;split at e
  .rename_i l;cases e;obtain⟨a,vs,n,q,hl,m,w⟩:=R.dk i s;have:=wU o;dsimp only at this;subst this;refine⟨a,b,vs,by rw[n],by simpa using hl,l,m,λp hp=>k p H d _ R hp H0 .refl⟩
  .cases e
 .cases e
end
end TL
namespace TL
open PySem PySem.Spec PyProof.Rows L2
section
variable {X:Cx}{d:List (V1×Obj)}{f:L2.St}{H:Hp}{s:V4}{a:V1}{ob:Obj}
theorem SX{kvs:List (Key×V)}(I:L2.Inv X d f H s)(h:H a=some (.dK kvs))(t:s.heap.get? a=some ob):L2.Inv X d f (upd H a (.ei ob (.dK kvs))) s:=by
 have g:∀b,H b=none->b≠a:=λb n z=>by rw[z,h]at n;cases n
 refine⟨I.ok,I.os,I.bare,⟨I.base.keep,I.base.slot,λb o q n r=>by have e:=I.base.free b o q n r;rw[fL (g b e)];exact e,I.base.there,λb xs q=>?_,λb o u q=>?_,λb ps q=>?_⟩,I.loc,I.cell,by rw[fL (g _ I.free)];exact I.free,λx c q=>by rw[fL (g _ (I.cz x c q))];exact I.cz x c q,λp hp=>?_,λb o q=>?_,I.len⟩
 .have e:=I.base.eL b xs q;rw[fL (m6 e h (λz=>nomatch z))];exact e
 .have e:=I.base.eh b o u q;rw[fL (m6 e h (λz=>nomatch z))];exact e
 .obtain⟨m,e⟩:=I.base.eN b ps q;exact⟨m,by rw[fL (m6 e h (λz=>nomatch z))];exact e⟩
 .obtain⟨l,i,k⟩:=I.pin p hp;exact⟨l,by rw[fL (g _ i)];exact i,k⟩
 .by_cases j:b=a
  .subst j;rw[gS]at q;cases q;exact⟨t,(I.aF b _ h).cp (λc v _ q=>q) (λc q=>by rw[fL (m6 q h (λz=>nomatch z))];exact q) λc xs q=>by rw[fL (m6 q h (λz=>nomatch z))];exact q⟩
  .rw[fL j]at q;exact(I.aF b o q).cp (λc v _ q=>q) (λc q=>by rw[fL (m6 q h (λz=>nomatch z))];exact q) λc xs q=>by rw[fL (m6 q h (λz=>nomatch z))];exact q
end
theorem zT{P:Wd}{w:Wf}{b:Type}[DecidableEq b]{a:PySem.KeyKind P w b}:∀{c:List WQ}{vs:List (b×V3)},Pairs a c vs->∀(i:Nat)(f:i<c.length)(d:i<vs.length),a.is vs[i].1 c[i].key=true
 |_,_,.cons h _ _,0,_,_=>h
 |_,_,.cons _ _ t,i+1,f,d=>zT t i (by simpa using f) (by simpa using d)
theorem KJ{k:Key}{u:V3}(h:t5 k u=true):RelV (kV k) u:=by
 rcases hX h with⟨i,t,rfl,rfl⟩| ⟨x,t,rfl,rfl⟩
 .exact⟨t,rfl⟩
 .exact⟨t,rfl⟩
theorem T1{P:Wd}{w:Wf}{K:aK}{tg:Wg}{a f:V1}{ob:Obj}{j:Array WQ}{Q:Nat}{kvs:List (Key×V)}(hx:ob.ExactDict)(L:ob.data=.dict j Q)(hl:j.size=kvs.length):
 Turn P w K tg (FH a ob kvs) [f] f (λi h=>h.IsKeyIter f a i j.size Q) where
 mem:=by simp
 obj:=λi h st b g=>by
  have e:b=f:=by simpa using g
  subst e;obtain⟨o,e,c,d⟩:=st;exact⟨o,e,λv z=>by rw[d]at z;cases z⟩
 keep:=λi h q st k=>st.at λo e=>k f (by simp) o e
 item:=by
  intro X A t B O i Z s M H E I p st y;subst A t B;obtain⟨C,m⟩:=y;obtain⟨n,_,_,vs,l,o2,es2,ep2,U,e2,S,e4,R,e6⟩:=(show iZ X.prog X.w H s.heap a (.ei ob (.dK kvs))from I.aF a _ C);rw[n]at U;cases U;rw[L]at S;cases S;obtain⟨J,f1,f2,G,F,D⟩:=p f (by simp);have u:vs.length=kvs.length:=(Paired.length l).symm;have x:j.toList.length=vs.length:=R.length;have r:i<vs.length:=by rw[u];exact m
  have N:i<j.toList.length:=by rw[x];exact r
  have vo:j[i]?=some j.toList[i]:=by rw[<-eI,bD N]
  refine Rn st n L vo λq Y sb=>?_;have I1:L2.Inv X Z M H {s with heap:=q}:=I.turned (t':=s.toks) (λb o g e=>(sb.2 b g).trans e) J f1 G F D;obtain⟨o,e,c,d⟩:=id Y;have hk:=zT R i N r;have hr:=(wF l i m r).1;refine⟨_,rfl,CP (s:={s with heap:=q}) e c d (by decide) ⟨kV kvs[i].1,H,I1,KJ (by rw[hr];exact hk),⟨rfl,kvs[i].1,kvs[i].2,rfl,bD m⟩,Y,λb g=>(p b g).1⟩⟩
 done:=by
  intro X A t B O i Z s M H E I p st y;subst A t B;obtain⟨C,m⟩:=y;have n:=(show iZ X.prog X.w H s.heap a (.ei ob (.dK kvs))from I.aF a _ C).1;obtain⟨J,f1,f2,G,F,D⟩:=p f (by simp);exact RF (I.ok.hd O) st n L (by simp;exact aX (eC hl) m) λq eb=>⟨rfl,I.turned (t':=s.toks) (λb o g e=>eb b o g e) J f1 G F D⟩
 self:=λ_ _ _ _ _ st h=>wpAny_pyIter_keyiter st h
section
variable {X:Cx}{iter:Wg}{fa:FE}{p pos c:Pos}
theorem Q4{B l:Wg}{n:TE}(hl:PE X l n):PI X B l (ow (wh X) n):=by
 intro w s m H R I h;refine aC (hl w s m H _ I h) λv d A=>?_;obtain⟨x,y,f,C,D⟩:=A;obtain⟨a,kvs,e,j,q⟩:=D;subst e;cases C;obtain⟨_,F,vs,g,o,r,J,k,u,t,N,K,M⟩:=(show iZ X.prog X.w y d.heap a (.dK kvs)from f.aF a _ j);have hB:wh X a:=λo v z=>by
  have:=f.base.eh a o v z;rw[j]at this;cases this
 have i:r.size=kvs.length:=by rw[<-dH,K.length];exact(Paired.length g).symm
 have L:L2.Inv X w m y {d with heap:=d.heap.push {cls:=.type "dict_keyiterator",data:=.fields #[.ref a,.int 0 0,.int r.size 0,.int J 0]}}:=f.kept (t':=d.toks) λb o e=>V8.get?_push_of_some _ e;refine P5 F k u t ⟨d.heap.objs.size,[d.heap.objs.size],_,_,_,rfl,SX L j (V8.get?_push_of_some _ k),T1 (a:=a) (kvs:=kvs) u t i,⟨_,V8.get?_push_size _ rfl,rfl,rfl⟩,λb G=>?_,q hB o⟩;have e:b=d.heap.objs.size:=by simpa using G
 subst e;refine f.l2 (bI _) ?_;rw[fL (Ne.symm (bQ (V8.lt_size k)))];exact f.aF.fresh (bI _)
section
variable {b aA:Ur}{is:Uo}{d:WD}{f:List (Str×V1)}{i j:Wg}{l:Uu}{m:FE}{g:FG}{n:FB}
theorem N4(K:X.calm=true)(k:jT X b aA is d f)(L:QE X iter fa)(D:i1 b.length g)(F:∀C o y t,QG (fZ X (b++aA) d f C o y t) i g)(A:∀C o y t,p3 (fZ X (b++aA) d f C o y t) l n)
 (J:∀C o y t,QE (fZ X (b++aA) d f C o y t) j m)(B:∀x,Wi iter X.env x=pure x:=by intro _;rfl):
 QN X (.ListComp j [⟨i,iter,l,0⟩] d pos) (rE fa b.length is g n m):=by
 intro M s z H Q I h;refine aC (pV K k (Q4 L) F A J B M s z H _ I (MN (B:=wh X) D h)) λu O e=>?_;obtain⟨v,P,N,r,a,ob,w,hB,G,q⟩:=e;exact⟨v,_,P7 N G hB,r,q⟩
end
end
section
variable {X:Cx}{o e:Wg}{b:Uu}{c d:FE}{f:FN}{p pos g i:Pos}
theorem LV(a:QE X o c)(h:QE X e d)(m:M1 X o "pop" g e i:=by exact⟨rfl,rfl,rfl,rfl⟩):QE X (.Call (.Attribute o "pop" g) [e] [] i) (v4 c d):=(Sn a h m).imp λ_ _ _=>LS
theorem S4:mU X (.builtin "len") (λxs H Q=>∃a j,xs=[.ref a]/\H a=some (.dK j)/\Q (.int j.length) H):=by
 intro x s n H xs v Q I r h;obtain⟨a,j,rfl,l,q⟩:=h;obtain⟨u,rfl,k⟩:=vals1 r;cases k;exact Ks I (.inl l) λt w m=>⟨.int j.length,H,m,⟨t,rfl⟩,q⟩
theorem Fh(a:X.mg "len"=none)(k:QA X (e::b) f)(h:Gl X "len":=by rfl)(j:V2 (e::b) X.env=(false,Wh e X.env)::V2 b X.env:=by rfl)(l:(Wj pos (V2 b X.env)).any (·.1)=false:=by rfl):
 QE X (.Call (.Name "len" p) (e::b) [] pos) (wA f):=CJ S4 (λ_ _ _ _=>Lx) PySem.boot_len a h k (by decide) (by decide) j l
end
noncomputable def B6(a:tl)(C:aq):Option (T×aq):=match a with
 | [.int i]=>if i.natAbs.log2<1920 then some (.str (toString i),C)else none
 | [.str x]=>some (.str x,C)
 |_=>none
abbrev E7(a:FN):FE:=mR a B6
theorem KY{K:aK}{f:L2.St}{H:Hp}{Q:VK}{xs:Uh}(h:∃a,fh K f a xs (B6 a) H Q):(∃i,xs=[.int i]/\i.natAbs.log2<1920/\Q (.str (toString i)) H)\/∃x,xs=[.str x]/\Q (.str x) H:=by
 obtain⟨a,d,Z,c,g,C,t,j,R,r,e,k⟩:=h;unfold B6 at e;split at e
 .obtain⟨v,_,rfl,b,r⟩:=r.cons_inv;rw[r.nil_inv,b.int_inv];split at e
  .rename_i hl;cases e;exact .inl ⟨_,rfl,hl,k _ H c R .str .refl⟩
  .cases e
 .obtain⟨v,_,rfl,b,r⟩:=r.cons_inv;rw[r.nil_inv,b.str_inv];cases e;exact .inr ⟨_,rfl,k _ H c R .str .refl⟩
 .cases e
section
variable {X:Cx}{a b e:Wg}{c:Uu}{fa fb:FE}{d:FN}{p pos:Pos}
theorem Sj:mU X (.type "str") (λxs H Q=>(∃i,xs=[.int i]/\i.natAbs.log2<1920/\Q (.str (toString i)) H)\/∃x,xs=[.str x]/\Q (.str x) H):=by
 intro j s f H xs g Q I r h;rcases h with h| ⟨x,rfl,q⟩
 .exact yM j s f H xs g Q I r h
 .obtain⟨u,rfl,t,rfl⟩:=vals1 r;exact PySem.P.str_of_str ⟨.str x,H,I,⟨t,rfl⟩,q⟩
theorem Hd(f:X.mg "str"=none)(i:QA X (e::c) d)(g:Gl X "str":=by rfl)(h:V2 (e::c) X.env=(false,Wh e X.env)::V2 c X.env:=by rfl)(j:(Wj pos (V2 c X.env)).any (·.1)=false:=by rfl):
 QE X (.Call (.Name "str" p) (e::c) [] pos) (E7 d):=Gq Sj (λ_ _ _ _=>KY) boot_str f g i (by decide) (by decide) h j
def la(K:aK):V->Uh->Hp->VK->Prop:=λx vs H Q=>∃(l:V1)(f:Ur)(k:Str),x=.ref l/\vs=[.str k]/\dw K H l (f.map V.str)/\k∈f/\Q (.int (f.idxOf k:Nat)) H
noncomputable def y8(x:Str):V3->Bool
 | .str y _=>y==x
 |_=>false
theorem Hz{f:Ur}{g:Uq}(r:au (f.map V.str) g)(x:Str)(i:Nat)(k:i<g.length)(j:i<f.length):y8 x g[i]=(f[i]==x):=by
 obtain⟨u,h,t,rfl⟩:=r.get (i:=i) (x:=V.str f[i]) (by rw[bF,bD j];rfl);rw[bD k]at h;rw[bZ.inj h];rfl
theorem RX:yk X "list.index" (la X.K):=by
 intro aa s Y H x xs v Z Q I G rs h;obtain⟨l,f,k,rfl,rfl,M,N,q⟩:=h;cases G;obtain⟨u,rfl,t,rfl⟩:=vals1 rs;obtain⟨g,m,J,K⟩:=I.list M;obtain⟨⟨R,P,F,sl⟩,B,D,n,C⟩:=id J.isList;simp only at D C;subst D C;have U:f.length=g.length:=by have:=m.length;simpa using this
 have w:f.idxOf k<f.length:=List.idxOf_lt_length_iff.mpr N;have qr:f.length<=sizeLine:=by simpa using K
 have A:(sizeLine:Int)<2^62:=by rw[W3];decide
 refine call_meets PySem.F.slot_list_index ⟨_,B,rfl⟩ PySem.F.entry_list_index (PySem.F.args_list_index_2 _ _)
  (PySem.SeqAt.list_indexAt l g.toArray n P sl (.str k t) (y8 k) (f.idxOf k) (by simpa[U]using w) (by lia) ?_ ?_) ⟨B,λy L=>?_,?_⟩
 .show y8 k g[f.idxOf k]=true;rw[Hz m k _ (by lia) w];simpa using Vw w
 .intro j r S;show y8 k g[j]=false;rw[Hz m k j (by simpa using r) (by lia)];have:=List.not_of_lt_findIdx (p:=(· ==k)) (xs:=f) (i:=j) S;simpa using this
 .have o:y∈g:=by simpa using L
  obtain⟨i,O,rfl⟩:=Vs o;obtain⟨u,z,E,rfl⟩:=m.get (i:=i) (x:=V.str (f[i]'(by lia))) (by rw[bF,bD (by lia:i<f.length)];rfl);rw[bD O]at z;rw[bZ.inj z];exact Fv (X:=X) (H:=H) (t1:=.str (f[i]'(by lia))) (t2:=.str k) (x:=.str (f[i]'(by lia))) (y:=.str k) .str .str ⟨_,rfl⟩ ⟨_,rfl⟩ rfl
 .exact⟨.int (f.idxOf k:Nat),H,I.tok _,⟨_,rfl⟩,q⟩
end
def qC(d c:T)(C:aq):Option (T×aq):=match c with
 | .str k=>(dR [] d).bind λb=>(strs? b).bind λa=>if k∈a then some (.int (a.idxOf k),C)else none
 |_=>none
abbrev Ff(a b:FE):FE:=fP a b qC
theorem Lb{K:aK}{j:L2.St}{H:Hp}{Q:VK}{fa fb:FE}(h:aD K (fP fa fb qC) j H Q):Ae K "list" (la K) (aD K fa) (B8 (aD K fb) yc) j H Q:=by
 obtain⟨c,Z,p,i,C,t,Y,R,e,k⟩:=h;unfold fP at e;obtain⟨⟨d,o⟩,M,e⟩:=eW e;obtain⟨⟨s,S⟩,L,e⟩:=eW e;cases s with
 |str B=>
  obtain⟨r,g,e⟩:=eW e;obtain⟨A,J,e⟩:=eW e;split at e
  .rename_i D;cases e;refine⟨c,Z,p,i,C,d,o,R,M,λv X O n m u=>?_⟩;obtain⟨a,vs,G,q⟩:=n.Ef m g;refine⟨by subst G;exact .inl ⟨rfl,_,q⟩,c,Z,O,i,o,_,_,n,L,λy P N R2 F l=>?_⟩;have f:dR S d=some r:=by cases d<;>first|exact g|cases g
   obtain⟨b,U,I,x,w⟩:=R2.li (m.step l) f;have:=rJ w J;subst this;exact⟨b,A,B,I,congrArg (λz=>[z]) F.str_inv,x,D,k _ P N R2 .int (u.trans l)⟩
  .cases e
 |_=>cases e
section
variable {X:Cx}{a b e:Wg}{c:Uu}{fa fb:FE}{d:FN}{p pos:Pos}
theorem Hu{h f:Pos}(i:QE X a fa)(j:QE X b fb)(m:Wv a "index" X.env (Wh a X.env)=Wh a X.env:=by rfl)
 (k:((Wj f (V2 [b] X.env)).all (λx=> !x.1)&&(WX f (WC [] X.env)).all (λx=>x.1.isSome)
  &&decide (([b]:Uu).length+([]:List WG).length+(if([]:List WG).isEmpty then 0 else 1)<30))=true:=by rfl)
 (l:(h.endLine==f.line)=true:=by rfl)(g:V2 [b] X.env=(false,Wh b X.env)::V2 [] X.env:=by rfl)(n:(Wj f (V2 [] X.env)).any (·.1)=false:=by rfl):
 QE X (.Call (.Attribute a "index" h) [b] [] f) (Ff fa fb):=
 (wK PySem.F.plainAttrs_list PySem.F.slot_list_index PySem.F.type_list_index RX i (jZ j oF g) m k l g n).imp λ_ _ _=>Lb
end
theorem G9:∀{a:List (Str×V3)}{P:Uq->Prop},(∀vs,au (a.map λp=>V.str p.1) vs->P vs)->UK a P
 | [],P,h=>by unfold UK;exact h [] .nil
 |p::a,P,h=>by
  unfold UK;exact λt=>G9 λvs r=>h (.str p.1 t::vs) (.cons ⟨t,rfl⟩ r)
section
variable {X:Cx}{f:List (V1×Obj)}{d:L2.St}{H:Hp}{s:V4}{a:V8}{B:V1}{o:HO}{m:Str->Us}{g:Nat}
theorem Sz(I:L2.Inv X f d H s)(hl:∀(i:Nat)(x:Str)(v:V),X.N[i]?=some x->d[i]?=some (some v)->th X.env.scope x->∃u,RelV v u/\Look X.env s.heap m x u)(R:a.Ns X.env.locals m)
 (k:∀b u,b≠X.env.locals->s.heap.get? b=some u->a.get? b=some u)(hB:s.heap.get? B=none)(y:iZ X.prog X.w (upd H B o) a B o):L2.Inv X f d (upd H B o) {s with heap:=a,toks:=g}:=by
 have t:H B=none:=by
  cases q:H B with
  |none=>rfl
  |some u=>
   obtain⟨ob,e⟩:=lZ (I.aF B u q);rw[hB]at e;cases e
 have w:∀b ob,s.heap.get? b=some ob->b≠B:=λb ob e z=>by rw[z,hB]at e;cases e
 have A:∀b ob,X.dq.heap.get? b=some ob->b≠X.env.locals:=λb ob e=>bQ (bC (V8.lt_size e) I.ok.above);have kj:=I.kj;have cell:∀{x c v},X.env.cells.lookup x=some c->s.heap.IsCell c v->a.IsCell c v:=λ{x c v} e ⟨ob,h,C⟩=>⟨ob,k c ob (kj x c e) h,C⟩;obtain⟨Y,⟨U,_,_,K,_⟩,_⟩:=id I.loc;refine⟨I.ok,I.os,I.bare,⟨λb ob e n l j=>k b ob (A b ob e) (I.base.keep b ob e n l j),λb ob e n l j=>?_,λb ob e n j=>?_,λb ob e j=>?_,λb xs e=>?_,λb ob u e=>?_,λb ps e=>?_⟩,⟨m,R,λi x v h C S=>?_⟩,λx c e=>?_,?_,λx c e=>?_,λp hp=>?_,λb u e=>?_,I.len⟩
 .obtain⟨sl,h⟩:=I.base.slot b ob e n l j;exact⟨sl,k b _ (A b ob e) h⟩
 .obtain⟨sl,h⟩:=I.base.any e n j;rw[fL (w b _ h)];exact I.base.free b ob e n j
 .obtain⟨O,h⟩:=I.base.there b ob e j;exact⟨O,k b _ (A b ob e) h⟩
 .have:=I.base.eL b xs e;rw[fL (gW this t)];exact this
 .have:=I.base.eh b ob u e;rw[fL (gW this t)];exact this
 .obtain⟨P,this⟩:=I.base.eN b ps e;exact⟨P,by rw[fL (gW this t)];exact this⟩
 .obtain⟨u,r,q⟩:=hl i x v h C S;refine⟨u,r,?_⟩;rcases q with q| ⟨Q,c,G,q⟩
  .exact .inl q
  .exact .inr ⟨Q,c,G,cell G q⟩
 .obtain⟨v,q⟩:=I.cell x c e;exact⟨v,cell e q⟩
 .show upd H B o X.env.locals=none;rw[fL (w _ _ K)];exact I.free
 .obtain⟨v,ob,q,_⟩:=I.cell x c e;rw[fL (w _ _ q)];exact I.cz x c e
 .obtain⟨F,N,D,M,L⟩:=I.pin p hp;exact⟨k _ _ D F,by rw[fL (w _ _ F)];exact N,D,M,L⟩
 .by_cases l:b=B
  .subst l;rw[gS]at e;cases e;exact y
  .rw[fL l]at e;refine(I.aF b u e).cp (λc J hc q=>k c J ?_ q) (λc q=>by rw[fL (gW q t)];exact q) λc xs q=>by rw[fL (gW q t)];exact q
   rintro rfl;rcases hc with rfl|hc
   .rw[I.free]at e;cases e
   .rw[I.free]at hc;cases hc
end
theorem v3{P:Wd}{w:Wf}:∀{d:List WQ}{b:List (Key×V3)}{a:Ur},Pairs (iF P w) d b->b.map (·.1)=a.map (Sum.inr:Str->Key)->
 Pairs (PySem.strKind P w) d (a.zip (b.map (·.2)))/\(∀e∈d,∃x t,e.key=.str x t)
 |_,_,a,.nil,h=>by
  cases a with
  |nil=>exact⟨.nil,λ_ z=>absurd z (by simp)⟩
  |cons _ _=>cases h
 |_,(k,u)::b,a,.cons (e:=e) c g r,h=>by
  cases a with
  |nil=>cases h
  |cons z a=>
   rw[aN,aN]at h;injection h with f m
   dsimp only at f c g;subst f;obtain⟨l,j⟩:=v3 r m;refine⟨.cons c g l,λe he=>?_⟩;rcases fU he with rfl|he
   .rcases hX (k:=.inr z) (v:=e.key) c with⟨i,t,z,_⟩| ⟨x,t,_,q⟩
    .cases z
    .exact⟨x,t,q⟩
   .exact j e he
theorem M7{a:List (Key×V)}{b:List (Key×V3)}(h:KV a b):b.map (·.1)=a.map (·.1):=by
 induction h with
 |nil=>rfl
 |cons h _ ih=>rw[aN,aN,ih,h.1]
section
variable {X:Cx}{e:Wg}{d:Uu}{f:FN}{p pos:Pos}
theorem Tr(hc:X.calm=true):mU X (.type "list") (λxs H Q=>∃a,∃g:Ur,∃vs:Uh,xs=[.ref a]/\g.length=vs.length/\g.length<=lim/\H a=some (.dK ((g.map (Sum.inr:Str->Key)).zip vs))/\∀p,H p=none->Q (.ref p) (upd H p (.lst (g.map V.str)))):=by
 intro aa s σ H xs w Q I r h;obtain⟨a,g,vs,rfl,ap,S,l,q⟩:=h;obtain⟨u,rfl,Z⟩:=vals1 r;cases Z;obtain⟨_,hd,n,A,o,d,ep,e1,e2,e3,e4,e5,R⟩:=(show iZ X.prog X.w H s.heap a (.dK _)from I.aF a _ l);have D:n.map (·.1)=g.map (Sum.inr:Str->Key):=by
  rw[M7 A,VG (by rw[aQ];exact eC ap)]
 obtain⟨p1,p2⟩:=v3 e5 D;have N:n.length=g.length:=by have:=congrArg U0 D;simpa using this
 have M:(g.zip (n.map (·.2))).map (·.1)=g:=VG (by rw[aQ,N];exact bI _);obtain⟨m,hn,hl⟩:=id I.loc;have F:Fr X.base X.env.locals s.heap m:=⟨hn,I.bk,aX I.ok.oz I.ok.above⟩;have J:a≠X.env.locals:=λz=>by rw[z,I.free]at l;cases l
 have G:X.base.get? a=none:=by
  cases k:X.base.get? a with
  |none=>rfl
  |some ob=>rw[(I.bs a ob k).2]at l;cases l
 have C:=jC;refine PySem.W.kdl_list_keysS (I.ok.hd hc) F Rh (oW J G e1) ⟨d,ep,e2,e3,λK P=>?_,p1,?_⟩ hd (by rw[cJ,aQ,N,UA];exact aX S (by decide)) λB c h' tk=>G9 λw r U v lt=>?_
 .obtain⟨kk,O,k2⟩:=e4 K P;obtain⟨x,t,ex⟩:=p2 K (eS.mpr P);rcases hX (k:=kk) (v:=K.key) O with⟨i,Y,rfl,q⟩| ⟨y,Y,rfl,q⟩
  .rw[ex]at q;cases q
  .exact⟨y,O,k2⟩
 .rw[M];rw[D]at R;exact(eE.mp R).imp λh e=>h (by rw[e])
 .have hB:s.heap.get? B=none:=by
   cases k:s.heap.get? B with
   |none=>rfl
   |some ob=>
    by_cases L:B=X.env.locals
    .exact absurd L (v _ bG).2.1
    .cases j:X.base.get? B with
     |some ob'=>exact absurd (v _ bG).2.2 (by rw[j];simp)
     |none=>exact absurd (lt (B,ob) (oW L j k)) (cE _)
  have kept:∀b u,b≠X.env.locals->s.heap.get? b=some u->h'.get? b=some u:=λb u hb e=>by
   cases j:X.base.get? b with
   |some ob=>
    have:=I.bk b ob j;rw[e]at this;cases this;exact U.keep b _ j
   |none=>exact(v (b,u) (bJ _ (oW hb j e))).1
  have ll:H B=none:=by
   cases k:H B with
   |none=>rfl
   |some u=>
    obtain⟨ob,e⟩:=lZ (I.aF B u k);rw[hB]at e;cases e
  have E:au (g.map V.str) w:=by
   have:((g.zip (n.map (·.2))).map λp=>V.str p.1)=g.map V.str:=by
    rw[show(λp:Str×V3=>V.str p.1)=V.str ∘ (·.1)from rfl,<-cK,M]
   rw[this]at r;exact r
  refine⟨.ref B,_,Sz (o:=.lst (g.map V.str)) I hl U.ns kept hB ⟨by rw[aQ];exact aX S C,w,c,E,(v _ bG).1⟩,rfl,q B ll⟩
theorem HI(a:X.mg "list"=none)(g:X.calm=true)(h:QA X (e::d) f)(b:Gl X "list":=by rfl)(c:V2 (e::d) X.env=(false,Wh e X.env)::V2 d X.env:=by rfl)(i:(Wj pos (V2 d X.env)).any (·.1)=false:=by rfl):
 QN X (.Call (.Name "list" p) (e::d) [] pos) (Fw f):=(q5 (Tr g) b a boot_list h (by decide) (by decide) c i).imp λ_ _ _=>JN λ_ _ _ _=>OW
end
section
variable {X:Cx}{p pos:Pos}
theorem N0{k n:Nat}{a:String}{G:tl->aq->Option (T×aq)}{b:tl}{m:Uh}(D:EI X.prog X.w X.K X.mg X.base k a n G b m)(c:aJ (k+1) X.A)(g:Gl X (Str.ofString a):=by rfl)
 (o:(Str.ofString a==("__debug__":Str))=false:=by decide):QE X (.Call (.Name (Str.ofString a) p) [] [] pos) (zL a n G b fR):=by
 obtain⟨C,f,q,ps,r,j,d,M,F,l,i⟩:=D.ex;refine(Qh (E:=λ_ _ _=>False) M F c g d l i (λ_ _ _ _ _ _ _ h=>h.elim) o).imp λ_ _ _ h=>?_;exact Gv (K6 j D.rt h)
end
section
variable {P:Wd}{w:Wf}{K:aK}{mg:Str->Us}{base h:V8}{f:V1}{fd:Ww}{x y g:Str}{t:WO}{N ps:Ur}{k n:Nat}{m:Sp}{B:FS}{p:String}{C:V1}
abbrev jz(P:Wd)(w:Wf)(K:aK)(mg:Str->Us)(base:V8)(x g:Str)(t:WO)(ps:Ur)(k:Nat)(m:Sp):Prop:=∀{f:V1}{fd:Ww},lq K x g t f fd->lB P w K mg base (lu P w K) k f fd ps m
theorem CK{R:tl->Ug}(F:lq K x g t f fd)(d:ps.length=n)(i:∀a t,a.length=n->R a=some t->∃r,B (gg N.length a) []=some r/\Ex t r)(b:Gh P w K mg base N g t f k B)(S:n5 N ps (gF t):=by exact⟨rfl,rfl,rfl,by decide+kernel,rfl,by decide+kernel,by decide+kernel⟩):
 lB P w K mg base (lu P w K) (k+1) f fd ps (qb (spT K n R) K n (rR B N.length)):=
 Jl F S d jG (λ_ _ _ _ _ h=>kP i h) λ_ _ _ _ _ _ c=>b S.nd c
structure Na(K:aK)(y x:Str)(t:WO):Prop where
 ex:∃f fd,aW K V5 y=some (some (.ref f))/\lq K x x t f fd
theorem Na.of{oc:V3}{od o:Option V1}{sl:Array Us}{kV i d b j:V3}(a:aW K V5 y=some (some (.ref f)))(l:K.lookup f=some ⟨oc,od,.func (cG x x (jJ t) (iQ t) (gF t) .none kV i d o b j),sl⟩)
 (c:dI K b x=true)(k:bL K (.ref f)=true):Na K y x t:=⟨_,_,a,xQ l c k⟩
theorem Nm.na(a:Nm K x t):Na K x x t:=⟨a.ex⟩
section
variable (X:K.In h)(G:h.Ns V5 mg)
include X G
theorem Cr{R:tl->Ug}{c:tl->Option String}(a:Nm K x t)(o:jz P w K mg base x x t ps k (qb (spT K n R) K n c))(b:Bd x x t ps:=by walk_at "bq"):vp P w K mg base k x n (spT K n R) c:=
 let ⟨f,fd,a,F⟩:=a.ex
 ⟨f,fd,ps,o F,bR X G a,F.kp,F.binds b⟩
theorem sv{R:tl->aq->Option (T×aq)}{c:tl->aq->Option (String×aq)}(a:Na K y x t)(o:jz P w K mg base x x t ps k (o8 K n R c))(b:Bd x x t ps:=by walk_at "bq"):ES P w K mg base k y n R c:=
 let ⟨f,fd,a,F⟩:=a.ex
 ⟨f,fd,ps,o F,bR X G a,F.kp,F.binds b⟩
end
variable{R:tl->aq->Option (T×aq)}{s:tl->aq->Option (String×aq)}
theorem D6(c:Cm K p C)(a:Mm K C x g t)(o:jz P w K mg base x g t ps k (o8 K n R s))(b:Bd x g t ps:=by walk_at "bq"):zN P w K mg base k p x n R s:=
 let ⟨f,fd,a,i,F⟩:=a.ex
 ⟨C,f,fd,ps,c.e,c.c,⟨a,i,F.kp⟩,o F,F.binds b⟩
noncomputable def x8:List (String×Nat×(tl->aq->Option (T×aq))×(tl->aq->Option (String×aq)))->FT
 | [],_=>none
 | (c,q)::r,x=>if x=c then some q else x8 r x
theorem jR.nil:jR P w K mg base k (x8 []):=⟨λ_ _ e=>by cases e⟩
theorem jR.cons{c:String}{j n:Nat}{l}(h:ES P w K mg base j (Str.ofString c) n R s)(a:jR P w K mg base k (x8 l))(b:j<=k:=by decide):jR P w K mg base k (x8 ((c,n,R,s)::l)):=
 ⟨λd q e=>by
  unfold x8 at e;split at e
  .rename_i i;cases e;subst i;exact⟨j,b,h⟩
  .exact a.ok d q e⟩
theorem m9.of{fs:List String}{tA:V1}{oc:V3}{od:Option V1}{n:Nat}{sl:Array Us}{a:Uq}(l:K.lookup tA=some ⟨.type "tuple",od,.seq a.toArray n,sl⟩)(b:a.length<=100)(h:Paired (yl K) fs a):m9 K fs tA:=
 ⟨_,_,n,l,rfl,rfl,by rw[bA];exact aX b (by decide),by rw[Vt];exact h⟩
theorem nG.of{b:List (Str×List String)}{d:V1}{i:Nat}{c:List WQ}(nd:(b.map (·.1)).Nodup)(a:aW K V5 x=some (some (.ref d)))(X:K.In h)(G:h.Ns V5 mg)(j:(d==Wr)=false)
 (l:K.lookup d=some ⟨.type "dict",none,.dict c.toArray i,#[]⟩)(hp:Paired (Er w K) b c):nG w K mg x b:=
 ⟨nd,d,_,_,i,bR X G a,j,l,⟨rfl,rfl,rfl⟩,rfl,by rw[Vt];exact hp⟩
end
end TL
namespace cx
open PySem L2 TL
def G1:FS:=
 (iY (vF (vm (vS (vS (vm Y0 Y0) (vm Y1 Y0)) (vm (vm (fI 7) Y1) Y1)) (fI 1103515245)) (fI 2147483629)))
def j1:tl->Ug:=jU G1 2
def wX:FS:=
 (gG (gj (i4 (Ek Y1 (BV (e7 Y0 fR)))) (iY (f7 Y0 Y1)) jM)
  (iY (fI 0)))
def l0:tl->Ug:=jU wX 2
def wV:FS:=
 (iY (BE (fI 0) Y1 Y0))
def lY:tl->Ug:=jU wV 2
def kB:FS:=
 (gG (gj (rO (qH (uM (iN 2 lY (e7 Y0 (e7 Y3 fR))))) (qH (uM (iN 2 lY (e7 Y0 (e7 Y4 fR)))))) (lF "NoOrder" (e7 (fC (.str "a need names a number that is no work")) fR)) jM)
  (gj (i4 (CH Y3 (f7 Y2 Y4))) (x5 (f7 Y2 Y4) (e7 Y3 fR)) jM))
def jF:FS:=
 (gG (gZ (kY (lH Y0 1 [] (gN 0) gY (kY (hZ fR)))) (gN 2))
  (gG (ta Y1 (gU [3,4])
   kB)
  (iY Y2)))
def jE:tl->Ug:=jU jF 5
def i6:tl->Option String:=rR jF 5
def k8:FS:=
 (gj (sA (i4 (CH Y2 Y1)) (uM (EK (e7 (fS (kK (f7 Y0 Y2) 1 [1] (gN 0) gY (Gi Y0 Y1))) fR)))) (iY Y2) jM)
def jK:FS:=
 (gG (nU (BV (e7 Y0 fR)) (gN 2)
  k8)
  (lF "NoOrder" (e7 (fC (.str "a work would have to be done ahead of itself")) fR)))
def kW:tl->Ug:=jU jK 3
def iI:tl->Option String:=rR jK 3
def pA:FS:=
 (fX (BZ Y3 (n9 2 iI (e7 Y2 (e7 Y3 fR)))) (x5 Y3 (e7 (iN 2 kW (e7 Y2 (e7 Y3 fR))) fR)))
def j4:FS:=
 (gG (fX (n9 2 i6 (e7 Y0 (e7 Y1 fR))) (gZ (iN 2 jE (e7 Y0 (e7 Y1 fR))) (gN 2)))
  (gG (gZ (kY (hZ fR)) (gN 3))
  (gG (pJ (i4 (Ek (BV (e7 Y3 fR)) Y0)) pA 10)
  (iY Y3))))
def j5:tl->Ug:=jU j4 4
def i9:tl->Option String:=rR j4 4
end cx
namespace ed
open PySem L2 TL cx
noncomputable def gv(c:String):List String:=if c="NoText" then["NoText","BookError","ValueError"]else if c="NoRoom" then["NoRoom","BookError","ValueError"]else if c="NoOrder" then["NoOrder","BookError","ValueError"]else if c="NoName" then["NoName","BookError","ValueError"]else if c="NoRow" then["NoRow","BookError","ValueError"]else[]
theorem QX(c:String)(h:gv c≠[]):c∈["NoText","NoRoom","NoOrder","NoName","NoRow"]:=by
 unfold gv at h;repeat(split at h;·subst c;decide)
 exact absurd rfl h
noncomputable def rows:List (Str×List String):=[("work",["put_in","any_name","any_number","any_number","any_number"]),("need",["add_need","work_name","work_name"]),("free",["free_need","work_name","work_name"]),("drop",["take_out_books","work_name"]),("names",["tell_names"]),("show",["tell_work","work_name"]),("ends",["tell_ends"]),("price",["tell_price","any_number"]),("plan",["tell_plan","any_number"]),("why",["tell_why","any_number"]),("curve",["tell_curve"]),("spare",["tell_spare","any_number"]),("budget",["tell_budget","any_number"]),("bonus",["tell_bonus","any_number"])]
def To:FS:=
 (gG (pS "Book" "works" Y0 (Fb (.dk [])))
  (pS "Book" "needs" Y0 (fS (hZ fR))))
def nS:tl->aq->Option (T×aq):=nN To 1
def sN:FS:=
 (gZ (fP Y6 (fP Y1 (vF (vS (iN 2 j1 (e7 (vS Y0 (vm Y7 Y7)) (e7 (fI 3) fR))) (vm Y5 (r3 (e7 (vc Y7 Y3) fR)))) (fI 26)) B0) fO) (gN 6))
def sJ:FS:=
 (gG (gZ (fC (.str "")) (gN 6))
  (gG (nU Y2 (gN 7)
   sN)
  (x5 Y4 (e7 Y6 fR))))
def wC:FS:=
 (gG (gZ (fC (.str "abcdefghijklmnopqrstuvwxyz")) (gN 1))
  (gG (gZ (vS (fI 1) (vF (iN 2 j1 (e7 Y0 (e7 (fI 1) fR))) (fI 8))) (gN 2))
  (gG (gZ (vF (iN 2 j1 (e7 Y0 (e7 (fI 2) fR))) Y2) (gN 3))
  (gG (gZ (kY (hZ fR)) (gN 4))
  (gG (nU (fI 9) (gN 5)
   sJ)
  (iY Y4))))))
def nL:tl->Ug:=jU wC 8
def nK:FS:=
 (gG (gZ (f7 Y1 (fI 0)) (gN 2))
  (gG (gZ (fS (hO Y1 (i8 (fI 1)) iB)) (gN 3))
  (gG (gj (i4 (Ek (f7 Y3 (fI 0)) (f7 Y3 (fI 1)))) (lF "NoText" (e7 (fC (.str "the usual hours are below the least ones")) fR)) jM)
  (gG (gj (sA (i4 (fP Y2 (mM "Book" "works" Y0) (x0 false))) (i4 (Jt (wA (e7 (mM "Book" "works" Y0) fR)) (fI 8)))) (lF "NoRoom" (e7 (fC (.str "the book is full")) fR)) jM)
  (gG (t8 (mM "Book" "works" Y0) Y2 Y3)
  (iY (fC (.str "ok"))))))))
def qL:tl->aq->Option (T×aq):=nN nK 4
def nP:tl->aq->Option (String×aq):=lP nK 4
def uG:FS:=
 (gG (gZ (fS (Fw (e7 (mM "Book" "works" Y0) fR))) (gN 2))
  (iY (fS (kK Y1 2 [2] (gU [0,1]) gY (fS (hZ (e7 (Ff Y2 Y0) (e7 (Ff Y2 Y1) fR))))))))
def jO:tl->aq->Option (T×aq):=nN uG 3
def mL:FS:=
 (gG (gj (i4 (CH Y1 (mM "Book" "needs" Y0))) (gG (gZ (fS (nE (mM "Book" "needs" Y0) (fS (hZ (e7 Y1 fR))))) (gN 2))
  (gG (fX (n9 2 i9 (e7 (wA (e7 (mM "Book" "works" Y0) fR)) (e7 (oH 2 jO (e7 Y0 (e7 Y2 fR))) fR))) (sL (iN 2 j5 (e7 (wA (e7 (mM "Book" "works" Y0) fR)) (e7 (oH 2 jO (e7 Y0 (e7 Y2 fR))) fR)))))
  (pS "Book" "needs" Y0 Y2))) jM)
  (iY (fC (.str "ok"))))
def n4:tl->aq->Option (T×aq):=nN mL 3
def iU:tl->aq->Option (String×aq):=lP mL 3
def lD:FS:=
 (gG (sL (v4 (mM "Book" "works" Y0) (f7 Y1 (fI 0))))
  (gG (pS "Book" "needs" Y0 (fS (kK (mM "Book" "needs" Y0) 1 [1] (gN 0) (i4 (CH (f7 Y1 (fI 0)) Y0)) Y0)))
  (iY (fC (.str "ok")))))
def mJ:tl->aq->Option (T×aq):=nN lD 2
def oE:tl->aq->Option (String×aq):=lP lD 2
def zJ:FS:=
 (iY (fP (fC (.str " ")) (fS (kK Y0 1 [] (gN 0) gY (E7 (e7 Y0 fR)))) mY))
def kH:tl->Ug:=jU zJ 1
def lX:FS:=
 (iY (iN 1 kH (e7 (fS (Fw (e7 (mM "Book" "works" Y0) fR))) fR)))
def lQ:tl->aq->Option (T×aq):=nN lX 2
def nA:tl->aq->Option (String×aq):=lP lX 2
def mT:FS:=
 (gG (gZ (f7 Y1 (fI 0)) (gN 2))
  (iY (iN 1 kH (e7 (fS (nE (CS (mM "Book" "works" Y0) Y2) (fS (rE (mM "Book" "works" Y0) 1 [2,0] (gN 0) (i4 (Gi (fS (hZ (e7 Y0 (e7 Y1 fR)))) (mM "Book" "needs" Y2))) Y0)))) fR))))
def m5:tl->aq->Option (T×aq):=nN mT 3
def nX:tl->aq->Option (String×aq):=lP mT 3
def qF:FS:=
 (iY (sD (BF (fI 1) (r1 (e7 Y2 fR)) Y1) (EK (e7 (fS (rB Y2 1 [0] (gN 0) gY (fP Y0 Y1 BO))) fR))))
def iS:tl->Ug:=jU qF 3
def xA:FS:=
 (iY (iN 3 iS (e7 (fC (.str "abcdefghijklmnopqrstuvwxyz")) (e7 (fI 8) (e7 Y0 fR)))))
def l3:tl->Ug:=jU xA 1
def l4:FS:=
 (gG (gj (qH (uM (iN 1 l3 (e7 Y1 fR)))) (lF "NoName" (e7 (fC (.str "that is no name")) fR)) jM)
  (iY Y1))
def nW:tl->aq->Option (T×aq):=nN l4 2
def mZ:tl->aq->Option (String×aq):=lP l4 2
def lN:FS:=
 (gG (gj (i4 (fP Y1 (mM "Book" "works" Y0) (x0 false))) (lF "NoName" (e7 (fC (.str "no work of that name stands in the book")) fR)) jM)
  (iY Y1))
def m3:tl->aq->Option (T×aq):=nN lN 2
def lU:tl->aq->Option (String×aq):=lP lN 2
def uJ:FS:=
 (gG (gj (sA (uM (fP Y0 (fC (.str "0")) tV)) (i4 (jl Y0 (fC (.str "0"))))) (iY (fC (.bl false))) jM)
  (iY (iN 3 iS (e7 (fC (.str "0123456789")) (e7 (fI 30) (e7 Y0 fR))))))
def lE:tl->Ug:=jU uJ 1
def kI:FS:=
 (gG (gj (qH (uM (iN 1 lE (e7 Y0 fR)))) (lF "NoText" (e7 (fC (.str "that is no text of a number")) fR)) jM)
  (iY (r2 (e7 Y0 fR))))
def kJ:tl->Ug:=jU kI 1
def jW:tl->Option String:=rR kI 1
def kG:FS:=
 (fX (n9 1 jW (e7 Y1 fR)) (iY (iN 1 kJ (e7 Y1 fR))))
def lV:tl->aq->Option (T×aq):=nN kG 2
def lG:tl->aq->Option (String×aq):=lP kG 2
noncomputable def kt:List String:=["put_in","add_need","free_need","take_out_books","tell_work","tell_price","tell_plan","tell_why","tell_spare","tell_budget","tell_bonus"]
def ft:FT:=x8 [("put_in",2,qL,nP),("add_need",2,n4,iU),("take_out_books",2,mJ,oE),("tell_names",2,lQ,nA),("tell_work",2,m5,nX),("any_name",2,nW,mZ),("work_name",2,m3,lU),("any_number",2,lV,lG)]
def lA:FS:=
 (gG (gZ (fS (CL Y1 (fC (.str " ")))) (gN 2))
  (gG (gj (rO (i4 (B3 rows (f7 Y2 (fI 0)))) (i4 (jl (BV (e7 Y2 fR)) (vR rows Aq (f7 Y2 (fI 0)))))) (lF "NoRow" (e7 (fC (.str "that is none of the rows")) fR)) jM)
  (gG (gZ (vR rows Ar (f7 Y2 (fI 0))) (gN 3))
  (gG (gZ (vR rows Ap (f7 Y2 (fI 0))) (gN 4))
  (fX (sO kt 3 (wY Y0 (lS Y4 (fS (hO Y2 (i8 (fI 1)) iB)) 2 [0] (gU [0,1]) (k9 ft 0 (e7 Y2 (e7 Y1 fR))) (m8 ft 0 (e7 Y2 (e7 Y1 fR)))))) (fX (m8 ft 3 (e7 Y0 (e7 (fS (kU Y4 (fS (hO Y2 (i8 (fI 1)) iB)) 2 [0] (gU [0,1]) gY (k9 ft 0 (e7 Y2 (e7 Y1 fR))))) fR))) (iY (k9 ft 3 (e7 Y0 (e7 (fS (kU Y4 (fS (hO Y2 (i8 (fI 1)) iB)) 2 [0] (gU [0,1]) gY (k9 ft 0 (e7 Y2 (e7 Y1 fR))))) fR))))))))))
def fW:tl->aq->Option (T×aq):=nN lA 5
def e9:tl->aq->Option (String×aq):=lP lA 5
def qU:FS:=
 (gG (gZ (fS (hZ (e7 (fP (fP (fC (.str "work ")) Y0 fO) (fC (.str " x 2 1")) fO) (e7 (fP (fP (fC (.str "work ")) Y0 fO) (fC (.str " 3 -2 1")) fO) (e7 (fP (fP (fC (.str "work ")) Y0 fO) (fC (.str " 3 2 01")) fO) (e7 (fP (fP (fC (.str "work ")) Y3 fO) (fC (.str " 3  1")) fO) fR)))))) (gN 4))
  (gG (gZ (fS (nE Y4 (fS (hZ (e7 (fP (fP (fC (.str "work ")) Y3 fO) (fC (.str " 1 2 x")) fO) (e7 (fP (fP (fC (.str "work ")) Y0 fO) (fC (.str " 2 3 1")) fO) (e7 (fP (fP (fC (.str "work ")) Y3 fO) (fC (.str " 2 3 1")) fO) (e7 (fP (fP (fC (.str "work ")) Y3 fO) (fC (.str " 0 1 0")) fO) fR)))))))) (gN 4))
  (gG (gZ (fS (nE Y4 (fS (hZ (e7 (fC (.str "price -1")) (e7 (fC (.str "plan 00")) (e7 (fC (.str "why +1")) (e7 (fC (.str "budget -1")) (e7 (fC (.str "bonus x")) (e7 (fC (.str "budget ")) fR)))))))))) (gN 4))
  (gG (gZ (fS (nE Y4 (fS (hZ (e7 (fC (.str "spare 1_0")) (e7 (fC (.str "plan 1.")) (e7 (fP (fC (.str "price ")) (fP (fC (.str "9")) (fI 31) uB) fO) (e7 (fP (fP (fP (fP (fC (.str "work ")) Y3 fO) (fC (.str " ")) fO) (fP (fC (.str "9")) (fI 31) uB) fO) (fC (.str " 1 1")) fO) (e7 (fP (fC (.str "why ")) Y0 fO) fR))))))))) (gN 4))
  (gG (gZ (kY (kK Y4 1 [] (gN 0) gY (mF (e7 Y0 (e7 (fI 3) fR))))) (gN 5))
  (gG (gZ (kY (nE Y5 (fS (hZ (e7 (mF (e7 (fP (fP (fC (.str "work ")) Y3 fO) (fC (.str " 3 2 1")) fO) (e7 (fI 4) fR))) (e7 (mF (e7 (fP (fP (fC (.str "work ")) Y3 fO) (fC (.str " 0 0 0")) fO) (e7 (fI 4) fR))) fR)))))) (gN 5))
  (gG (x5 Y5 (e7 (mF (e7 (fP (fP (fP (fP (fC (.str "work ")) Y3 fO) (fC (.str " ")) fO) (fP (fC (.str "9")) (fI 30) uB) fO) (fC (.str " 1 1")) fO) (e7 (fI 4) fR))) fR))
  (gG (gZ (fS (hZ (e7 (fP (fP (fP (fC (.str "need ")) Y0 fO) (fC (.str " ")) fO) Y0 fO) (e7 (fP (fP (fP (fC (.str "need ")) Y1 fO) (fC (.str " ")) fO) Y0 fO) (e7 (fP (fP (fP (fC (.str "need ")) Y2 fO) (fC (.str " ")) fO) Y0 fO) (e7 (fP (fP (fP (fC (.str "need ")) Y2 fO) (fC (.str " ")) fO) Y1 fO) fR)))))) (gN 4))
  (iY (fS (nE Y5 (fS (kK Y4 1 [] (gN 0) gY (mF (e7 Y0 (e7 (fI 5) fR))))))))))))))))
def kO:tl->Ug:=jU qU 6
def sF:FS:=
 (gG (gZ (fC .bg) (gN 2))
  (gG (BX gv "BookError" 3 (fX (wJ "Book" "say" 2 e9 Y0 (e7 Y1 fR)) (sL (k6 "Book" "say" 2 fW Y0 (e7 Y1 fR)))) (gZ Y3 (gN 2)))
  (gG (gZ (fS (hZ (e7 (uI gv ["NoRow"] Y2) (e7 (uI gv ["NoName"] Y2) (e7 (uI gv ["NoText"] Y2) fR))))) (gN 4))
  (iY (fS (nE Y4 (fS (hZ (e7 (uI gv ["NoRoom"] Y2) (e7 (uI gv ["NoOrder"] Y2) (e7 (uI gv ["ValueError"] Y2) fR)))))))))))
def lM:tl->aq->Option (T×aq):=nN sF 5
def qS:FS:=
 (gG (gZ (fS (hZ (e7 (fC (.str "")) (e7 (fC (.str " names")) (e7 (fC (.str "names ")) (e7 (fC (.str "name")) (e7 (fC (.str "Names")) (e7 (fC (.str "work")) (e7 (fP (fP (fC (.str "work ")) Y1 fO) (fC (.str " 3 2")) fO) (e7 (fP (fP (fC (.str "work ")) Y0 fO) (fC (.str " 3 2 1 0")) fO) fR)))))))))) (gN 2))
  (gG (gZ (fS (nE Y2 (fS (hZ (e7 (fP (fC (.str "need ")) Y0 fO) (e7 (fP (fP (fP (fP (fP (fC (.str "need ")) Y0 fO) (fC (.str " ")) fO) Y0 fO) (fC (.str " ")) fO) Y0 fO) (e7 (fP (fC (.str "free ")) Y0 fO) (e7 (fC (.str "drop")) (e7 (fP (fP (fP (fC (.str "drop ")) Y0 fO) (fC (.str " ")) fO) Y0 fO) fR))))))))) (gN 2))
  (gG (gZ (fS (nE Y2 (fS (hZ (e7 (fC (.str "show")) (e7 (fP (fP (fC (.str "show ")) Y0 fO) (fC (.str " ")) fO) (e7 (fC (.str "ends 3")) (e7 (fC (.str "ends ")) (e7 (fP (fC (.str "curve ")) Y0 fO) (e7 (fC (.str "price")) (e7 (fC (.str "price 3 4")) fR))))))))))) (gN 2))
  (gG (gZ (fS (nE Y2 (fS (hZ (e7 (fC (.str "plan 3 ")) (e7 (fC (.str "why")) (e7 (fC (.str "spare")) (e7 (fC (.str "spare 1 2")) (e7 (fP Y1 (fC (.str "abcdefgh")) fO) (e7 (fC (.str "budget")) (e7 (fC (.str "bonus 1 2")) (e7 (fC (.str "budget 3 ")) fR)))))))))))) (gN 2))
  (gG (gZ (fS (kK Y2 1 [] (gN 0) gY (mF (e7 Y0 (e7 (fI 1) fR))))) (gN 3))
  (iY (fS (nE Y3 (fS (hZ (e7 (mF (e7 (fC (.str "plan ")) (e7 (fI 3) fR))) (e7 (mF (e7 (fC (.str "price ")) (e7 (fI 3) fR))) (e7 (mF (e7 (fC (.str "why ")) (e7 (fI 3) fR))) (e7 (mF (e7 (fC (.str "spare ")) (e7 (fI 3) fR))) fR))))))))))))))
def kX:tl->Ug:=jU qS 4
def qB:FS:=
 (gG (gZ (fS (hZ (e7 (fP (fP (fC (.str "work ")) Y2 fO) (fC (.str " 3 2 1")) fO) (e7 (fP (fP (fC (.str "work ")) Y2 fO) (fC (.str " x 2 1")) fO) (e7 (fP (fP (fP (fC (.str "need ")) Y1 fO) (fC (.str " ")) fO) Y0 fO) (e7 (fP (fP (fP (fC (.str "need ")) Y0 fO) (fC (.str " ")) fO) Y1 fO) fR)))))) (gN 3))
  (gG (gZ (fS (nE Y3 (fS (hZ (e7 (fP (fP (fP (fC (.str "need ")) Y2 fO) (fC (.str " ")) fO) Y1 fO) (e7 (fP (fP (fP (fC (.str "need ")) Y1 fO) (fC (.str " ")) fO) Y1 fO) (e7 (fP (fP (fP (fC (.str "free ")) Y1 fO) (fC (.str " ")) fO) Y0 fO) (e7 (fP (fP (fP (fC (.str "free ")) Y0 fO) (fC (.str " ")) fO) Y2 fO) fR)))))))) (gN 3))
  (gG (gZ (fS (nE Y3 (fS (hZ (e7 (fP (fC (.str "drop ")) Y1 fO) (e7 (fP (fC (.str "drop ")) Y2 fO) (e7 (fP (fC (.str "show ")) Y1 fO) (e7 (fP (fC (.str "show ")) Y2 fO) (e7 (fP (fP (fP (fC (.str "need ")) Y0 fO) (fC (.str " ")) fO) Y2 fO) (e7 (fP (fP (fC (.str "work ")) Y2 fO) (fC (.str " 1 2 x")) fO) fR)))))))))) (gN 3))
  (iY (fS (kK Y3 1 [] (gN 0) gY (mF (e7 Y0 (e7 (fI 2) fR)))))))))
def kL:tl->Ug:=jU qB 4
def sR:FS:=
 (iY (f7 (fS (hZ (e7 (fC (.str "")) (e7 (fP Y0 (fC (.str "abcdefgh")) fO) (e7 (fP (tb Y0 (i8 (fI 1)) iB) (fC (.str "A")) fO) (e7 (fP (tb Y0 iB (i8 (Ej (fI 1)))) (fC (.str "1")) fO) (e7 (fP (tb Y0 (i8 (fI 1)) iB) (fC (.str "-")) fO) fR))))))) (vF (iN 2 j1 (e7 Y1 (e7 (fI 4) fR))) (fI 5))))
def lK:tl->Ug:=jU sR 2
def tH:FS:=
 (gG (gZ (fS (hZ (e7 (vS (fI 5) (vF (iN 2 j1 (e7 Y3 (e7 Y9 fR))) (fI 9))) (e7 (vF (iN 2 j1 (e7 Y3 (e7 (vS (fI 9) Y9) fR))) (fI 5)) (e7 (vF (iN 2 j1 (e7 Y3 (e7 (vS (fI 18) Y9) fR))) (fI 4)) fR))))) (gN 10))
  (gG (x5 Y8 (e7 (fP (fC (.str " ")) (fS (kK T6 1 [] (gN 0) gY (E7 (e7 Y0 fR)))) mY) fR))
  (gj (i4 (jl (k6 "Book" "say" 2 fW Y1 (e7 (fP (fP (fP (fC (.str "work ")) (f7 Y2 Y9) fO) (fC (.str " ")) fO) (f7 Y8 Y9) fO) fR)) (fC (.str "ok")))) (iY (fC (.bl false))) jM)))
def tQ:FS:=
 (gG (gZ (fS (nE (fS (nE (iN 2 kX (e7 Y4 (e7 Y7 fR))) (iN 3 kL (e7 Y4 (e7 Y7 (e7 (iN 2 lK (e7 Y4 (e7 IY fR))) fR)))))) (iN 4 kO (e7 Y4 (e7 Y5 (e7 Y6 (e7 Y7 fR))))))) (gN 12))
  (gG (gZ (f7 IX (vF (iN 2 j1 (e7 IY (e7 (fI 6) fR))) (BV (e7 IX fR)))) (gU [13,14]))
  (gG (gj (i4 (jl (oH 2 lM (e7 Y1 (e7 IW fR))) (fS (nE (fS (lH (fI 5) 1 [14] (gN 0) gY (vc Y1 (vS Y0 (fI 1))))) (fS (hZ (e7 (fC (.bl true)) fR))))))) (iY (fC (.bl false))) jM)
  (gj (rO (i4 (jl (k6 "Book" "say" 2 fW Y1 (e7 (fC (.str "names")) fR)) (fP (fC (.str " ")) (fS (hO Y2 iB (i8 (fI 8)))) mY))) (i4 (jl (fS (kK (fS (hO Y2 iB (i8 (fI 8)))) 1 [1] (gN 0) gY (k6 "Book" "say" 2 fW Y1 (e7 (fP (fC (.str "show ")) Y0 fO) fR)))) Y8))) (iY (fC (.bl false))) jM))))
def GD:FS:=
 (gG (gZ (zL "Book" 1 nS [] fR) (gN 1))
  (gG (gZ (iN 1 nL (e7 (iN 2 l0 (e7 Y0 (e7 (fI 0) fR))) fR)) (gN 2))
  (gG (gZ (iN 2 l0 (e7 Y0 (e7 (fI 1) fR))) (gN 3))
  (gG (gZ (fS (hO Y2 iB (i8 (fI 3)))) (gU [4,5,6]))
  (gG (gZ (f7 Y2 (fI 8)) (gN 7))
  (gG (gZ (kY (hZ fR)) (gN 8))
  (gG (nU (fI 8) (gN 9)
   tH)
  (gG (gj (rO (i4 (jl (k6 "Book" "say" 2 fW Y1 (e7 (fP (fP (fP (fC (.str "need ")) Y4 fO) (fC (.str " ")) fO) Y5 fO) fR)) (fC (.str "ok")))) (i4 (jl (k6 "Book" "say" 2 fW Y1 (e7 (fP (fP (fP (fC (.str "need ")) Y5 fO) (fC (.str " ")) fO) Y6 fO) fR)) (fC (.str "ok"))))) (iY (fC (.bl false))) jM)
  (gG (uS (fP (fP (f7 Y8 (fI 1)) (fC (.str " ")) fO) Y4 fO) Y8 (fI 1))
  (gG (uS (fP (fP (f7 Y8 (fI 2)) (fC (.str " ")) fO) Y5 fO) Y8 (fI 2))
  (gG (ta (fS (nE (fS (hZ (e7 (fI 2) fR))) (fS (hO Y0 (i8 (fI 2)) (i8 (fI 63)))))) (gN 11)
   tQ)
  (gG (gZ (vF (iN 2 j1 (e7 Y3 (e7 (fI 30) fR))) (fI 8)) (gN 15))
  (gG (gj (rO (i4 (jl (k6 "Book" "say" 2 fW Y1 (e7 (fP (fC (.str "drop ")) (f7 Y2 IV) fO) fR)) (fC (.str "ok")))) (i4 (jl (k6 "Book" "say" 2 fW Y1 (e7 (fP (fP (fC (.str "work ")) Y7 fO) (fC (.str " 3 2 1")) fO) fR)) (fC (.str "ok"))))) (iY (fC (.bl false))) jM)
  (gG (gZ (fS (nE (fS (lH (fI 8) 1 [15,2] (gN 0) (i4 (jl Y0 Y1)) (f7 Y2 Y0))) (fS (hZ (e7 Y7 fR))))) (gN 16))
  (gG (gj (rO (i4 (jl (k6 "Book" "say" 2 fW Y1 (e7 (fC (.str "names")) fR)) (fP (fC (.str " ")) IU mY))) (i4 (jl (k6 "Book" "say" 2 fW Y1 (e7 (fP (fC (.str "show ")) Y7 fO) fR)) (fC (.str "3 2 1"))))) (iY (fC (.bl false))) jM)
  (iY (sD (vc (k6 "Book" "say" 2 fW Y1 (e7 (fP (fP (fC (.str "work ")) Y7 fO) (fC (.str " 7 2 3")) fO) fR)) (fC (.str "ok"))) (vc (k6 "Book" "say" 2 fW Y1 (e7 (fP (fC (.str "show ")) Y7 fO) fR)) (fC (.str "7 2 3"))))))))))))))))))))
def C5:tl->Ug:=jU GD 17
end ed
namespace TL
open PySem L2
section
variable {d:aB}{C:aq}{a b c f s A D:FE}{fa H fn:FN}{fb ga gb:FB}{F G:FS}
def aI(f:FE)(d:aB)(C:aq)(Q:T->aq->Prop):Prop:=∃t g,f d C=some (t,g)/\Q t g
def ej(f:FN)(d:aB)(C:aq)(Q:tl->aq->Prop):Prop:=∃t g,f d C=some (t,g)/\Q t g
def ie(f:FB)(d:aB)(C:aq)(Q:Bool->aq->Prop):Prop:=∃t g,f d C=some (t,g)/\Q t g
def wpS(F:FS)(d:aB)(C:aq)(Q:Fl->aB->aq->Prop):Prop:=∃l t g,F d C=some (l,t,g)/\Q l t g
def aH(o:Option (T×aq))(Q:T->aq->Prop):Prop:=∃t g,o=some (t,g)/\Q t g
def jo(o:Option tl)(Q:tl->Prop):Prop:=∃t,o=some t/\Q t
def pb(o:Option (tl×aq))(Q:tl->aq->Prop):Prop:=∃t g,o=some (t,g)/\Q t g
def mr(g:FG)(t:T)(C:aq)(d:aB)(Q:aB->Prop):Prop:=∃h,g t C d=some h/\Q h
def Cn(o:Ug)(Q:T->Prop):Prop:=∃t,o=some t/\Q t
variable {Q:T->aq->Prop}{J:tl->aq->Prop}{K:Bool->aq->Prop}{QS:Fl->aB->aq->Prop}{QG:aB->Prop}{L:tl->Prop}
variable{i j lo:Int}{u:T}{R:tl->Ug}{P:aq->Prop}
theorem HQ{i:Nat}:aI (mO i) d C Q↔∃t,d[i]?=some (some t)/\Q t C:=by
 unfold aI mO;constructor
 .rintro⟨t,k,e,q⟩;split at e
  .rename_i g h;cases e;exact⟨_,h,q⟩
  .cases e
 .rintro⟨t,e,q⟩;exact⟨t,C,by rw[e],q⟩
theorem Uc{d:aB}{C:aq}{Q:T->aq->Prop}{i:Nat}{t:T}(h:d[i]?=some (some t))(q:Q t C):aI (mO i) d C Q:=HQ.mpr ⟨_,h,q⟩
theorem GA{t:T}:aI (fC t) d C Q↔Q t C:=by
 unfold aI fC;constructor
 .rintro⟨_,_,e,q⟩;cases e;exact q
 .exact λq=>⟨_,_,rfl,q⟩
theorem M3{g:T->T->aq->Option (T×aq)}:aI (fP a b g) d C Q↔aI a d C λx k=>aI b d k λy h=>aH (g x y h) Q:=by
 unfold aI fP aH;constructor
 .rintro⟨t,n,e,q⟩;obtain⟨⟨x,k⟩,m,e⟩:=eW e;obtain⟨⟨y,h⟩,l,e⟩:=eW e;exact⟨x,k,m,y,h,l,t,n,e,q⟩
 .rintro⟨x,k,m,y,h,l,t,n,e,q⟩;exact⟨t,n,by simp[m,l,e],q⟩
theorem GY{g:T->aq->Option (T×aq)}:aI (ry a g) d C Q↔aI a d C λx h=>aH (g x h) Q:=by
 unfold aI ry aH;constructor
 .rintro⟨t,l,e,q⟩;obtain⟨⟨x,h⟩,k,e⟩:=eW e;exact⟨x,h,k,t,l,e,q⟩
 .rintro⟨x,h,k,t,l,e,q⟩;exact⟨t,l,by simp[k,e],q⟩
theorem PX{g:T->T->aq->Option tl}:ej (qN a b g) d C J↔aI a d C λx k=>aI b d k λy h=>jo (g x y h) λn=>J n h:=by
 unfold ej aI qN jo;constructor
 .rintro⟨t,p,e,q⟩;obtain⟨⟨x,k⟩,m,e⟩:=eW e;obtain⟨⟨y,h⟩,l,e⟩:=eW e;obtain⟨n,o,e⟩:=eX e;cases e;exact⟨x,k,m,y,_,l,_,o,q⟩
 .rintro⟨x,k,m,y,h,l,t,e,q⟩;exact⟨t,h,by simp[m,l,e],q⟩
theorem OC:ej fR d C J↔J [] C:=by
 unfold ej fR;constructor
 .rintro⟨_,_,e,q⟩;cases e;exact q
 .exact λq=>⟨_,_,rfl,q⟩
theorem RL:ej (e7 a H) d C J↔aI a d C λx h=>ej H d h λxs g=>J (x::xs) g:=by
 unfold ej aI e7;constructor
 .rintro⟨t,m,e,q⟩;obtain⟨⟨x,h⟩,l,e⟩:=eW e;obtain⟨⟨y,g⟩,k,e⟩:=eX e;cases e;exact⟨x,h,l,y,_,k,q⟩
 .rintro⟨x,h,l,y,g,k,q⟩;exact⟨_,g,by simp[l,k],q⟩
theorem OY{g:tl->aq->Option (T×aq)}:aI (mR fa g) d C Q↔ej fa d C λxs h=>aH (g xs h) Q:=by
 unfold aI ej mR aH;constructor
 .rintro⟨t,l,e,q⟩;obtain⟨⟨x,h⟩,k,e⟩:=eW e;exact⟨x,h,k,t,l,e,q⟩
 .rintro⟨x,h,k,t,l,e,q⟩;exact⟨t,l,by simp[k,e],q⟩
theorem IS{g:tl->aq->Option tl}:ej (sE fa g) d C J↔ej fa d C λxs h=>jo (g xs h) λl=>J l h:=by
 unfold ej sE jo;constructor
 .rintro⟨t,n,e,q⟩;obtain⟨⟨x,h⟩,k,e⟩:=eW e;obtain⟨l,m,e⟩:=eX e;cases e;exact⟨x,_,k,_,m,q⟩
 .rintro⟨x,h,k,t,e,q⟩;exact⟨t,h,by simp[k,e],q⟩
theorem QF:ej (hZ fa) d C J↔ej fa d C λxs g=>xs.length<=lim/\J xs g:=by
 unfold hZ;rw[IS];unfold ej jo;constructor
 .rintro⟨x,g,e,t,k,q⟩;split at k
  .cases k;exact⟨_,_,e,‹_›,q⟩
  .cases k
 .rintro⟨x,g,e,h,q⟩;exact⟨x,g,e,x,by rw[V6 h],q⟩
theorem IC:aI (fS fn) d C Q↔ej fn d C λk g=>Q (.lst k) g:=by
 unfold aI ej fS;constructor
 .rintro⟨t,l,e,q⟩;obtain⟨⟨x,g⟩,h,e⟩:=eX e;cases e;exact⟨x,_,h,q⟩
 .rintro⟨x,g,h,q⟩;exact⟨_,g,by simp[h],q⟩
theorem QZ:aI (kY fn) d C Q↔ej fn d C λk g=>Q (.cell g.length) (g++[(.l,k)]):=by
 unfold aI ej kY;constructor
 .rintro⟨t,l,e,q⟩;obtain⟨⟨x,g⟩,h,e⟩:=eX e;cases e;exact⟨x,_,h,q⟩
 .rintro⟨x,g,h,q⟩;exact⟨_,_,by simp[h],q⟩
theorem KG{g:Int->Int->T}:aH (gI g (.int i) (.int j) C) Q↔Q (g i j) C:=by
 unfold aH gI;constructor
 .rintro⟨_,_,e,q⟩;cases e;exact q
 .exact λq=>⟨_,_,rfl,q⟩
theorem LN{p:Prop}[Decidable p]{o:Option (T×aq)}:aH (if p then o else none) Q↔p/\aH o Q:=by
 by_cases h:p<;>simp[h,aH]
theorem iE{t:T}:aH (some (t,C)) Q↔Q t C:=by
 unfold aH;constructor
 .rintro⟨_,_,e,q⟩;cases e;exact q
 .exact λq=>⟨_,_,rfl,q⟩
theorem LM{k:Int->Int->Bool}{g:Int->Int->T}:aH (u1 k g (.int i) (.int j) C) Q↔k i j=true/\Q (g i j) C:=by
 show aH (if k i j=true then some (g i j,C)else none) Q↔_;rw[LN,iE]
theorem LI{t:T}:aH (xf t (.int i) C) Q↔∃g,kf C t=some g/\∃x,f5 g i=some x/\Q x C:=by
 unfold aH xf;constructor
 .rintro⟨t,l,e,q⟩;obtain⟨g,k,e⟩:=eW e;obtain⟨x,h,e⟩:=eX e;cases e;exact⟨g,k,_,h,q⟩
 .rintro⟨g,k,x,h,q⟩;exact⟨_,C,by simp[k,h],q⟩
theorem Of{t:T}:aH (xr [t] C) Q↔∃g,kf C t=some g/\Q (.int g.length) C:=by
 unfold aH xr;constructor
 .rintro⟨t,k,e,q⟩;obtain⟨g,h,e⟩:=eX e;cases e;exact⟨g,h,q⟩
 .rintro⟨g,h,q⟩;exact⟨_,C,by simp[h],q⟩
theorem Pz{t:T}:jo (By [t] C) L↔∃g,kf C t=some g/\L g:=Uw
theorem Pk{t:T}:jo (ya t u C) L↔∃g,dR C t=some g/\∃us,dR C u=some us/\g.length+us.length<=lim/\L (g++us):=by
 unfold jo ya;constructor
 .rintro⟨t,e,q⟩;obtain⟨g,l,e⟩:=eW e;obtain⟨us,k,e⟩:=eW e;split at e
  .cases e;exact⟨g,l,us,k,‹_›,q⟩
  .cases e
 .rintro⟨g,l,us,k,h,q⟩;exact⟨_,by simp[l,k,h],q⟩
theorem O9{g:List Bool->Bool}{t:T}:aH (BS g [t] C) Q↔∃k,dR C t=some k/\∃h,kn k=some h/\Q (.bl (g h)) C:=by
 unfold aH BS;constructor
 .rintro⟨t,o,e,q⟩;obtain⟨n,m,e⟩:=eW e;obtain⟨h,l,e⟩:=eX e;cases e;exact⟨n,m,h,l,q⟩
 .rintro⟨n,m,k,l,q⟩;exact⟨_,_,by simp[m,l],q⟩
theorem SU{i:Bool}:aH (CQ [.bl i] C) Q↔Q (.int (if i then 1 else 0)) C:=iE
theorem NN:aH (BY (.int i) C) Q↔Q (.int (-i)) C:=iE
theorem G5{n:Bool}{t:T}:aH (jj n t u C) Q↔∃x,dr 3 C t=some x/\∃y,dr 3 C u=some y/\∃k,eqT 5 x y=some k/\Q (.bl (if n then !k else k)) C:=by
 unfold aH jj;constructor
 .rintro⟨t,m,e,q⟩;obtain⟨x,l,e⟩:=eW e;obtain⟨y,h,e⟩:=eW e;obtain⟨k,g,e⟩:=eX e;cases e;exact⟨x,l,y,h,k,g,q⟩
 .rintro⟨x,l,y,h,k,g,q⟩;exact⟨_,_,by simp[l,h,g],q⟩
theorem LU{n:Bool}{t:T}:aH (jy n t u C) Q↔∃x,dr 3 C t=some x/\∃p,dR C u=some p/\∃o,bt (dr 3 C) p=some o/\∃k,mz (λw=>eqT 5 w x) o=some k/\Q (.bl (if n then !k else k)) C:=by
 unfold aH jy;constructor
 .rintro⟨t,r,e,q⟩;obtain⟨x,m,e⟩:=eW e;obtain⟨y,l,e⟩:=eW e;obtain⟨z,g,e⟩:=eW e;obtain⟨k,h,e⟩:=eX e;cases e;exact⟨x,m,y,l,z,g,k,h,q⟩
 .rintro⟨x,m,y,l,z,g,k,h,q⟩;exact⟨_,_,by simp[m,l,h,g],q⟩
theorem Qy{n:Nat}{g:tl}(hl:g.length=n)(h:ew g=true):aH (iX n R g C) Q↔Cn (R g) λt=>Q t C:=by
 unfold aH iX Cn;rw[V6 hl,V6 h];constructor
 .rintro⟨t,l,e,q⟩;obtain⟨x,k,e⟩:=eX e;cases e;exact⟨_,k,q⟩
 .rintro⟨t,e,q⟩;exact⟨_,_,by simp[e],q⟩
theorem gT{n:Nat}{ts:tl}{t:T}(e:R ts=some t)(hl:ts.length=n)(g:ew ts=true):aH (iX n R ts C) Q↔Q t C:=by
 rw[Qy hl g,e];unfold Cn;constructor
 .rintro⟨_,e,q⟩;cases e;exact q
 .exact λq=>⟨_,rfl,q⟩
theorem Sh{n:Nat}{ts k:tl}(hl:ts.length=n)(g:bt (dr 3 C) ts=some k)(h:Cn (R k) λt=>An t=true/\Q t C):aH (iX n R ts C) Q:=by
 unfold aH iX;obtain⟨t,e,o,q⟩:=h;rw[V6 hl];split
 .rename_i m;have:k=ts:=by
   have l:=tG.mp m;clear hl m e;induction ts generalizing k with
   |nil=>cases g;rfl
   |cons t ts ih=>
    obtain⟨u,w,g⟩:=eW g;obtain⟨r,p,g⟩:=eX g;cases g;have v:=l t bG;rw[ih p λt h=>l t (bJ _ h)];have:u=t:=by
     cases t<;>simp_all [dr,CF]
    rw[this]
  rw[<-this,e];exact⟨_,_,rfl,q⟩
 .rw[g];exact⟨t,C,by simp[e,o],q⟩
theorem N7:ie (i4 a) d C K↔aI a d C λt g=>∃x,t=.bl x/\K x g:=by
 unfold ie aI i4;constructor
 .rintro⟨t,k,e,q⟩;obtain⟨⟨x,g⟩,h,e⟩:=eW e;dsimp only at e;split at e
  .cases e;exact⟨_,_,h,_,rfl,q⟩
  .cases e
 .rintro⟨x,g,h,y,rfl,q⟩;exact⟨y,g,by simp[h],q⟩
theorem N2:ie (uM a) d C K↔aI a d C λt g=>∃x,Ew g t=some x/\K x g:=by
 unfold ie aI uM;constructor
 .rintro⟨t,l,e,q⟩;obtain⟨⟨x,g⟩,k,e⟩:=eW e;obtain⟨y,h,e⟩:=eX e;cases e;exact⟨_,_,k,_,h,q⟩
 .rintro⟨x,g,k,y,h,q⟩;exact⟨y,g,by simp[k,h],q⟩
theorem NO:ie (sA ga gb) d C K↔ie ga d C λx g=>if x=true then ie gb d g K else K false g:=by
 unfold ie sA;constructor
 .rintro⟨t,h,e,q⟩;obtain⟨⟨x,g⟩,k,e⟩:=eW e;refine⟨x,g,k,?_⟩;dsimp only at e;split at e
  .rw[V6 ‹_›];exact⟨t,h,e,q⟩
  .cases e;rw[V9 ‹_›];exact q
 .rintro⟨x,g,k,q⟩;split at q
  .obtain⟨t,h,e,q⟩:=q;exact⟨t,h,by simp_all,q⟩
  .exact⟨false,g,by simp_all,q⟩
theorem Lq:ie (rO ga gb) d C K↔ie ga d C λx g=>if x=true then K true g else ie gb d g K:=by
 unfold ie rO;constructor
 .rintro⟨t,h,e,q⟩;obtain⟨⟨x,g⟩,k,e⟩:=eW e;refine⟨x,g,k,?_⟩;dsimp only at e;split at e
  .cases e;rw[V6 ‹_›];exact q
  .rw[V9 ‹_›];exact⟨t,h,e,q⟩
 .rintro⟨x,g,k,q⟩;split at q
  .exact⟨true,g,by simp_all,q⟩
  .obtain⟨t,h,e,q⟩:=q;exact⟨t,h,by simp_all,q⟩
theorem OZ:ie (qH ga) d C K↔ie ga d C λx g=>K (!x) g:=by
 unfold ie qH;constructor
 .rintro⟨t,k,e,q⟩;obtain⟨⟨x,g⟩,h,e⟩:=eX e;cases e;exact⟨x,_,h,q⟩
 .rintro⟨x,g,h,q⟩;exact⟨_,g,by simp[h],q⟩
theorem NY:aI (sD a b) d C Q↔aI a d C λt g=>∃x,t=.bl x/\if x=true then aI b d g Q else Q (.bl false) g:=by
 unfold aI sD;constructor
 .rintro⟨t,h,e,q⟩;obtain⟨⟨x,g⟩,k,e⟩:=eW e;refine⟨x,g,k,?_⟩;dsimp only at e;split at e
  .exact⟨true,rfl,by rw[V6 rfl];exact⟨t,h,e,q⟩⟩
  .cases e;exact⟨false,rfl,by rw[V9 (by simp)];exact q⟩
  .cases e
 .rintro⟨x,g,k,y,rfl,q⟩;split at q
  .obtain⟨t,h,e,q⟩:=q;exact⟨t,h,by simp_all,q⟩
  .exact⟨.bl false,g,by simp_all,q⟩
theorem RZ{p q:Int->Int->Bool}:aI (oO a b c p q) d C Q↔aI a d C λx m=>aI b d m λy g=>∃i j,x=.int i/\y=.int j/\if p i j=true then aI c d g (λz k=>∃l,z=.int l/\Q (.bl (q j l)) k)else Q (.bl false) g:=by
 unfold aI oO;constructor
 .rintro⟨t,v,e,q⟩;obtain⟨⟨x,m⟩,r,e⟩:=eW e;obtain⟨⟨y,g⟩,o,e⟩:=eW e;refine⟨x,m,r,y,g,o,?_⟩;dsimp only at e;split at e
  .refine⟨_,_,rfl,rfl,?_⟩;split at e
   .rw[V6 ‹_›];obtain⟨⟨z,k⟩,n,e⟩:=eW e;dsimp only at e;split at e
    .cases e;exact⟨_,_,n,_,rfl,q⟩
    .cases e
   .rw[V9 ‹_›];cases e;exact q
  .cases e
 .rintro⟨x,m,r,y,g,o,i,j,rfl,rfl,h⟩;split at h
  .obtain⟨z,k,n,l,rfl,q⟩:=h;exact⟨_,k,by simp_all,q⟩
  .exact⟨_,g,by simp_all,h⟩
theorem Qi:wpS jM d C QS↔QS .nx d C:=by
 unfold wpS jM;constructor
 .rintro⟨_,_,_,e,q⟩;cases e;exact q
 .exact λq=>⟨_,_,_,rfl,q⟩
def sq(G:FS)(Q:Fl->aB->aq->Prop)(l:Fl)(d:aB)(C:aq):Prop:=match l with
 | .nx=>wpS G d C Q
 |l=>Q l d C
theorem o0:wpS (gG F G) d C QS↔wpS F d C (sq G QS):=by
 unfold wpS gG;constructor
 .rintro⟨l,t,C',e,q⟩;obtain⟨⟨g,m,n⟩,k,e⟩:=eW e;refine⟨g,m,n,k,?_⟩;cases g<;>first| (cases e;exact q)|exact⟨l,t,C',e,q⟩
 .rintro⟨g,m,n,k,h⟩;cases g with
  |nx=>obtain⟨l,t,C',e,q⟩:=h;exact⟨l,t,C',by rw[k];exact e,q⟩
  |_=>exact⟨_,m,n,by rw[k];rfl,h⟩
theorem Kw:sq G QS .nx d C↔wpS G d C QS:=Uw
theorem Ki{t:T}:sq G QS (.rt t) d C↔QS (.rt t) d C:=Uw
theorem JO{c:String}:sq G QS (.ex c) d C↔QS (.ex c) d C:=Uw
theorem Kt:sq G QS .bk d C↔QS .bk d C:=Uw
theorem KD:sq G QS .ct d C↔QS .ct d C:=Uw
theorem LJ:wpS (gj ga F G) d C QS↔ie ga d C λx h=>if x=true then wpS F d h QS else wpS G d h QS:=by
 unfold ie wpS gj;constructor
 .rintro⟨l,t,g,e,q⟩;obtain⟨⟨x,h⟩,k,e⟩:=eW e;refine⟨x,h,k,?_⟩;dsimp only at e;split at e
  .rw[V6 ‹_›];exact⟨l,t,g,e,q⟩
  .rw[V9 ‹_›];exact⟨l,t,g,e,q⟩
 .rintro⟨x,h,k,q⟩;split at q
  .obtain⟨l,t,g,e,q⟩:=q;exact⟨l,t,g,by simp_all,q⟩
  .obtain⟨l,t,g,e,q⟩:=q;exact⟨l,t,g,by simp_all,q⟩
theorem zD:wpS (iY a) d C QS↔aI a d C λt g=>QS (.rt t) d g:=by
 unfold aI wpS iY;constructor
 .rintro⟨l,t,k,e,q⟩;obtain⟨⟨x,g⟩,h,e⟩:=eX e;cases e;exact⟨x,_,h,q⟩
 .rintro⟨x,g,h,q⟩;exact⟨_,_,g,by simp[h],q⟩
theorem tX:wpS (sL a) d C QS↔aI a d C λt g=>QS .nx d g:=by
 unfold aI wpS sL;constructor
 .rintro⟨l,t,k,e,q⟩;obtain⟨⟨x,g⟩,h,e⟩:=eX e;cases e;exact⟨x,_,h,q⟩
 .rintro⟨x,g,h,q⟩;exact⟨_,_,g,by simp[h],q⟩
theorem MM{g:FG}:wpS (gZ a g) d C QS↔aI a d C λt h=>mr g t h d λn=>QS .nx n h:=by
 unfold aI wpS mr gZ;constructor
 .rintro⟨l,t,o,e,q⟩;obtain⟨⟨x,h⟩,m,e⟩:=eW e;obtain⟨n,k,e⟩:=eX e;cases e;exact⟨x,_,m,_,k,q⟩
 .rintro⟨x,h,m,n,k,q⟩;exact⟨_,_,h,by simp[m,k],q⟩
theorem CU{i:Nat}{t:T}:mr (gN i) t C d QG↔QG (d.set i (some t)):=by
 unfold mr gN;constructor
 .rintro⟨_,e,q⟩;cases e;exact q
 .exact λq=>⟨_,rfl,q⟩
theorem KI{is:Uo}{t:T}:mr (gU is) t C d QG↔∃g,kf C t=some g/\g.length=is.length/\QG (cj is g d):=by
 unfold mr gU;constructor
 .rintro⟨_,e,q⟩;obtain⟨g,k,e⟩:=eW e;split at e
  .cases e;exact⟨g,k,‹_›,q⟩
  .cases e
 .rintro⟨g,k,h,q⟩;exact⟨_,by simp[k,h],q⟩
theorem SQ:wpS (uS s A D) d C QS↔aI s d C λx n=>aI A d n λy m=>aI D d m λz h=>∃k i,y=.cell k/\z=.int i/\∃g,lc h k=some g/\∃j,ot g.length i=some j/\QS .nx d (h.set k (.l,g.set j x)):=by
 unfold aI wpS uS;constructor
 .rintro⟨l,t,B,e,q⟩;obtain⟨⟨x,n⟩,w,e⟩:=eW e;obtain⟨⟨y,m⟩,v,e⟩:=eW e;obtain⟨⟨z,h⟩,r,e⟩:=eW e;refine⟨x,n,w,y,m,v,z,h,r,?_⟩;dsimp only at e;split at e
  .obtain⟨g,p,e⟩:=eW e;obtain⟨j,o,e⟩:=eX e;cases e;exact⟨_,_,rfl,rfl,g,p,j,o,q⟩
  .cases e
 .rintro⟨x,n,w,y,m,v,z,h,r,k,i,rfl,rfl,g,p,j,o,q⟩;exact⟨_,_,_,by simp[w,v,r,p,o],q⟩
theorem MV{g:tl->tl->Option tl}:wpS (BP a fa g) d C QS↔aI a d C λx o=>ej fa d o λxs n=>∃k,x=.cell k/\(lc o k).isSome=true/\∃h,lc n k=some h/\jo (g h xs) λz=>QS .nx d (n.set k (.l,z)):=by
 unfold aI ej wpS BP jo;constructor
 .rintro⟨l,t,B,e,q⟩;obtain⟨⟨x,o⟩,w,e⟩:=eW e;obtain⟨⟨y,n⟩,v,e⟩:=eW e;refine⟨x,o,w,y,n,v,?_⟩;dsimp only at e;split at e
  .obtain⟨t0,m,e⟩:=eW e;obtain⟨h,r,e⟩:=eW e;obtain⟨j,p,e⟩:=eX e;cases e;exact⟨_,rfl,d4.mpr ⟨_,m⟩,h,r,j,p,q⟩
  .cases e
 .rintro⟨x,o,w,y,n,v,k,rfl,m,h,r,j,p,q⟩;obtain⟨t0,m⟩:=gD m;exact⟨_,_,_,by simp[w,v,m,r,p],q⟩
theorem N1{g:tl}{y:T}:jo (zX g [y]) L↔g.length<lim/\L (g++[y]):=by
 unfold jo zX;by_cases h:g.length<lim<;>simp[h]
theorem MK{g:FG}(I:Nat->aB->aq->Prop){o:tl}(B:I 0 d C)
 (y:∀i t d C,o[i]?=some t->I i d C->mr g t C d λM=>wpS F M C λl m k=>match l with
  | .nx=>P k/\I (i+1) m k
  | .ct=>P k/\I (i+1) m k
  | .bk=>QS .nx m k
  | .rt v=>QS (.rt v) m k
  | .ex v=>QS (.ex v) m k)
 (z:∀d C,I o.length d C->QS .nx d C):wpS (j6 P g F o) d C QS:=by
 induction o generalizing d C I with
 |nil=>exact⟨.nx,d,C,by simp[j6],z _ _ B⟩
 |cons t o ih=>
  obtain⟨M,r,l,m,k,p,n⟩:=y 0 t d C rfl B;have go:P k/\I 1 m k->wpS (j6 P g F o) m k QS:=λh=>ih (λi=>I (i+1)) h.2 (λi t d C e h=>y (i+1) t d C e h) (λd C h=>z d C h);cases l with
  |nx=>
   obtain⟨l,w,x,e,q⟩:=go n;exact⟨l,w,x,by simp[j6,r,p,n.1,e],q⟩
  |ct=>
   obtain⟨l,w,x,e,q⟩:=go n;exact⟨l,w,x,by simp[j6,r,p,n.1,e],q⟩
  |bk=>exact⟨.nx,m,k,by simp[j6,r,p],n⟩
  |rt v=>exact⟨.rt v,m,k,by simp[j6,r,p],n⟩
  |ex v=>exact⟨.ex v,m,k,by simp[j6,r,p],n⟩
theorem HK{g:FG}:wpS (ta a g F) d C QS↔aI a d C λt k=>∃h,dR k t=some h/\wpS (j6 (stays t h) g F h) d k QS:=by
 unfold aI wpS ta;constructor
 .rintro⟨l,t,o,e,q⟩;obtain⟨⟨x,k⟩,n,e⟩:=eW e;obtain⟨h,m,e⟩:=eW e;exact⟨x,k,n,h,m,l,t,o,e,q⟩
 .rintro⟨x,k,n,h,m,l,t,o,e,q⟩;exact⟨l,t,o,by simp[n,m,e],q⟩
theorem wD{g:FG}:wpS (nU a g F) d C QS↔aI a d C λt k=>∃j,t=.int j/\(-(2^62)<=j/\j<2^62)/\wpS (j6 (λ_=>True) g F (sT 0 j.toNat)) d k QS:=by
 unfold aI wpS nU;constructor
 .rintro⟨l,t,n,e,q⟩;obtain⟨⟨x,k⟩,m,e⟩:=eW e;dsimp only at e;split at e
  .split at e
   .exact⟨_,k,m,_,rfl,‹_›,l,t,n,e,q⟩
   .cases e
  .cases e
 .rintro⟨x,k,m,j,rfl,h,l,t,n,e,q⟩;exact⟨l,t,n,by rw[m];exact(V6 h).trans e,q⟩
theorem tP{n:Type}{g:FG}{o:n->T}{xs:List n}(I:Nat->aB->aq->Prop)(r:I 0 d C)
 (p:∀i x d C,xs[i]?=some x->I i d C->mr g (o x) C d λy=>wpS F y C λl m k=>match l with
  | .nx=>P k/\I (i+1) m k
  | .ct=>P k/\I (i+1) m k
  | .bk=>QS .nx m k
  | .rt v=>QS (.rt v) m k
  | .ex v=>QS (.ex v) m k)
 (q:∀d C,I xs.length d C->QS .nx d C):wpS (j6 P g F (xs.map o)) d C QS:=by
 refine MK I r (λi t d C e h=>?_) (λd C h=>q d C (by simpa using h));rw[bF]at e;obtain⟨x,w,rfl⟩:=eX e;exact p i x d C w h
theorem qG{g:FG}{n:Nat}(I:Nat->aB->aq->Prop)(t:I 0 d C)
 (p:∀i d C,i<n->I i d C->mr g (.int (lo+(i:Int))) C d λw=>wpS F w C λl m k=>match l with
  | .nx=>P k/\I (i+1) m k
  | .ct=>P k/\I (i+1) m k
  | .bk=>QS .nx m k
  | .rt v=>QS (.rt v) m k
  | .ex v=>QS (.ex v) m k)
 (q:∀d C,I n d C->QS .nx d C):wpS (j6 P g F (sT lo n)) d C QS:=by
 refine tP I t (λi x d C e h=>?_) (λd C h=>q d C (by simpa using h));obtain⟨r,o⟩:=fA e;rw[Vx]at o;subst o;exact p _ d C (by simpa using r) h
theorem z0{k:Nat}{is:Uo}{g:FG}:ej (kK a k is g fb s) d C J↔aI a d C λt m=>∃l,dR m t=some l/\l.length<lim/\pb (iH g fb s (d3 k is d) l m) J:=by
 unfold aI ej kK pb;constructor
 .rintro⟨t,p,e,q⟩;obtain⟨⟨x,m⟩,o,e⟩:=eW e;obtain⟨l,n,e⟩:=eW e;split at e
  .exact⟨x,m,o,l,n,‹_›,t,p,e,q⟩
  .cases e
 .rintro⟨x,m,o,l,n,h,t,p,e,q⟩;exact⟨t,p,by simp[o,n,h,e],q⟩
theorem TR{k:Nat}{is:Uo}{g:FG}:ej (lH a k is g fb s) d C J↔aI a d C λt l=>∃j,t=.int j/\(j<400000/\ -(2^62)<=j)/\pb (iH g fb s (d3 k is d) (sT 0 j.toNat) l) J:=by
 unfold aI ej lH pb;constructor
 .rintro⟨t,n,e,q⟩;obtain⟨⟨x,l⟩,m,e⟩:=eW e;dsimp only at e;split at e
  .split at e
   .exact⟨_,l,m,_,rfl,‹_›,t,n,e,q⟩
   .cases e
  .cases e
 .rintro⟨x,l,m,j,rfl,h,t,n,e,q⟩;exact⟨t,n,by rw[m];exact(V6 h).trans e,q⟩
theorem tM{k:Type}{g:FG}{n:k->T}{xs:List k}(p:k->Bool)(u:k->T)
 (h:∀x∈xs,mr g (n x) C d λl=>ie fb l C λy q=>q=C/\y=p x/\(p x=true->aI s l C λt o=>o=C/\t=u x))
 (m:J ((xs.filter p).map u) C):pb (iH g fb s d (xs.map n) C) J:=by
 refine⟨_,C,?_,m⟩;clear m;induction xs with
 |nil=>rfl
 |cons x xs ih=>
  obtain⟨l,e,y,q,z,rfl,rfl,v⟩:=h x bG;have ih:=ih λy r=>h y (bJ _ r);rw[aN];unfold iH;rw[e,aM,z,aM];by_cases hp:p x=true
  .obtain⟨t,o,w,rfl,rfl⟩:=v hp;rw[V6 hp,w,aM,ih,d9 hp,qQ];rfl
  .rw[V9 hp,qQ,ih,eA hp]
theorem mI{k:Type}{g:FG}{en:k->T}{xs:List k}(u:k->T)
 (h:∀x∈xs,mr g (en x) C d λl=>aI s l C λt o=>o=C/\t=u x)
 (n:J (xs.map u) C):pb (iH g gY s d (xs.map en) C) J:=
 tM (λ_=>true) u (λx m=>let ⟨l,e,q⟩:=h x m;⟨l,e,true,C,rfl,rfl,rfl,λ_=>q⟩) (by rw[List.filter_eq_self.mpr (λ_ _=>rfl)];exact n)
theorem IF{n:Nat}:sT lo n=(bB n).map fun(i:Nat)=>T.int (lo+(i:Int)):=rfl
theorem jA{B:FS}{m:Nat}{g:tl}{t:T}(h:wpS B (gg m g) [] λl d C=>match l with
 | .rt r=>dr 3 C r=some t
 | .nx=>t=.bg
 |_=>False):jU B m g=some t:=by
 obtain⟨l,d,C,e,q⟩:=h;unfold jU;rw[e];cases l with
 |nx=>cases q;rfl
 |rt r=>exact q
 |_=>exact q.elim
theorem uV{t:tl}:jo (some t) L↔L t:=by
 unfold jo;constructor
 .rintro⟨_,e,q⟩;cases e;exact q
 .exact λq=>⟨_,rfl,q⟩
end
variable{i j:Int}{c:Nat}
theorem i3{a:Type}{o:Option a}{y:a}{p:a->Prop}(e:o=some y):(∃x,o=some x/\p x)↔p y:=by
 constructor
 .rintro⟨x,b,h⟩;rw[e]at b;cases b;exact h
 .exact λh=>⟨y,e,h⟩
def Bt(k:Nat)(n:Int):Prop:=n.natAbs<2^k
theorem Bt.of_bits{n:Int}{k:Nat}(h:Wc.Int.intBits n<=k):Bt k n:=by
 unfold Wc.Int.intBits at h;unfold Bt;by_cases z:n=0
 .subst z;exact Ve k
 .have:(n==0)=false:=by simpa using z
  rw[this]at h;exact(UT (by lia)).mp (by simp at h;exact Nat.lt_of_succ_le h)
theorem Bt.bits{n:Int}{k:Nat}(h:Bt k n):Wc.Int.intBits n<=k:=by
 unfold Wc.Int.intBits;unfold Bt at h;by_cases z:n=0
 .subst z;exact cU _
 .have:(n==0)=false:=by simpa using z
  rw[this];have:=(UT (by lia)).mpr h;simp;exact Nat.succ_le_of_lt this
theorem Bt.mono{n:Int}{k m:Nat}(h:Bt k n)(a:k<=m):Bt m n:=bC h (Nat.pow_le_pow_right (by decide) a)
theorem Bt.add{x y:Int}{k:Nat}(h:Bt k x)(a:Bt k y):Bt (k+1) (x+y):=by
 show(x+y).natAbs<2^(k+1);rw[Nat.pow_succ,Nat.mul_two];exact dB (Int.natAbs_add_le x y) (Nat.add_lt_add h a)
theorem Bt.of_lt{x:Int}{k:Nat}(b:0<=x)(a:x<2^k):Bt k x:=by
 unfold Bt;have:((x.natAbs:Nat):Int)<((2^k:Nat):Int):=by
  rw[Int.natAbs_of_nonneg b];simpa using a
 exact U2.mp this
theorem uk{m n:Nat}(b:Bt m i)(a:Bt n j)(h:m+n<=134217728):mE i j=true:=by
 have b:=b.bits;have a:=a.bits;have d:Wc.Int.intTooBig (Wc.Int.intBits i+Wc.Int.intBits j)=false:=by
  unfold Wc.Int.intTooBig bitsLine;exact decide_eq_false (by lia)
 unfold mE;rw[d];simp
theorem kF(a:Bt 64 i):mE i j=true:=by
 have:=a.bits;unfold mE Xf;rw[show decide (Wc.Int.intBits i>64)=false from decide_eq_false (UP this)];simp
theorem lT(a:Bt 64 j):mE i j=true:=by
 have:=a.bits;unfold mE Xf;rw[show decide (Wc.Int.intBits j>64)=false from decide_eq_false (UP this)];simp
theorem pF{a:Type}{xs:List a}(b:0<=i):f5 xs i=xs[i.toNat]?:=by
 unfold f5 ot;rw[V6 b];by_cases h:i<xs.length
 .rw[V6 h];rfl
 .rw[V9 h,eJ (by lia)];rfl
theorem nH{a:Type}{xs:List a}{j:Nat}:f5 xs (j:Int)=xs[j]?:=pF (dN _)
theorem uD{a:Type}{x:a}{xs:List a}:f5 (x::xs) 0=some x:=by rw[pF (by decide)];rfl
theorem EU{a:Type}{x y:a}{xs:List a}:f5 (x::y::xs) 1=some y:=by rw[pF (by decide)];rfl
theorem iV:ew []=true:=by unfold ew;rfl
theorem gE{t:T}{ts:tl}:ew (t::ts)=(CF t&&ew ts):=by rw[ew]
theorem hJ:CF (.int i)=true:=by unfold CF;rfl
theorem jH{i:Bool}:CF (.bl i)=true:=by unfold CF;rfl
theorem g9{ts:tl}:CF (.lst ts)=ew ts:=by rw[CF]
theorem j2{a:tl}:CF (.tup a)=ew a:=by rw[CF]
theorem iR{s:Str}:CF (.str s)=true:=by unfold CF;rfl
theorem O6:CF (.cell c)=false:=by unfold CF;rfl
theorem mX{a:Type}{f:a->T}{xs:List a}(h:∀x∈xs,CF (f x)=true):ew (xs.map f)=true:=tG.mpr λt d=>by
 obtain⟨x,b,rfl⟩:=fQ d;exact h x b
theorem iD{a:Um}:ew (a.map T.int)=true:=mX λ_ _=>hJ
theorem iG{t:T}{n:Nat}{C:aq}(h:CF t=true):dr n C t=some t:=by
 cases n with
 |zero=>unfold dr;rw[V6 h]
 |succ n=>
  cases t with
  |cell c=>rw[O6]at h;cases h
  |lst ts=>unfold dr;rw[g9]at h;rw[V6 h]
  |tup ts=>unfold dr;rw[j2]at h;rw[V6 h]
  |_=>unfold dr;rw[V6 h]
theorem OE{f:T->Ug}{a:tl}(h:∀t∈a,f t=some t):bt f a=some a:=by
 induction a with
 |nil=>rfl
 |cons t a ih=>unfold bt;rw[h t bG,aM,ih λu b=>h u (bJ _ b)];rfl
theorem tJ{a:tl}{n:Nat}{C:aq}(h:ew a=true):bt (dr n C) a=some a:=OE λt b=>iG (tG.mp h t b)
theorem tO{n:Nat}{C:aq}{a:tl}(e:lc C c=some a)(h:ew a=true):dr (n+1) C (.cell c)=some (.lst a):=by
 unfold dr;rw[e,aM,tJ h];rfl
theorem nO{f:T->Ug}{t u:T}{ts a:tl}(h:f t=some u)(b:bt f ts=some a):bt f (t::ts)=some (u::a):=by
 unfold bt;rw[h,aM,b];rfl
theorem RC{e:T->T->Option Bool}{a:tl}(h:∀t∈a,e t t=some true):r4 e a a=some true:=by
 induction a with
 |nil=>rfl
 |cons t a ih=>unfold r4;rw[h t bG,aM,ih λu b=>h u (bJ _ b)];rfl
theorem Nc{n:Nat}:eqT n (.int i) (.int j)=some (i==j):=by cases n<;>rfl
theorem Ma{n:Nat}{i j:Bool}:eqT n (.bl i) (.bl j)=some (i==j):=by cases n<;>rfl
theorem qK{n:Nat}{a:tl}(h:∀t∈a,eqT n t t=some true):eqT (n+1) (.lst a) (.lst a)=some true:=by
 unfold eqT;rw[V6 rfl];exact RC h
theorem zE{a:Type}{xs:List a}{f:a->Bool}:kn (xs.map λx=>T.bl (f x))=some (xs.map f):=by
 rw[show(xs.map λx=>T.bl (f x))=(xs.map f).map T.bl by simp];exact Rl _
theorem Hm{n:Nat}(h:n<=1000):n<=lim:=by unfold lim;exact aX h (by decide)
section
variable {d:aB}{C:aq}{a b c f r s v:FE}{fa fr fn:FN}{fb ga gb:FB}{F G:FS}{lo g:FO}
variable {Q:T->aq->Prop}{w:tl->aq->Prop}{A:Bool->aq->Prop}{QS:Fl->aB->aq->Prop}{QG:aB->Prop}{B:tl->Prop}{QO:Option Int->aq->Prop}
variable{l h:Option Int}{p:Int×Int}{ns:Um}{u:T}
def pa(f:FO)(d:aB)(C:aq)(Q:Option Int->aq->Prop):Prop:=∃o k,f d C=some (o,k)/\Q o k
theorem My:pa iB d C QO↔QO none C:=by
 unfold pa iB;constructor
 .rintro⟨_,_,e,q⟩;cases e;exact q
 .exact λq=>⟨_,_,rfl,q⟩
theorem Qk:pa (i8 a) d C QO↔aI a d C λt k=>∃i,t=.int i/\QO (some i) k:=by
 unfold pa aI i8;constructor
 .rintro⟨t,n,e,q⟩;obtain⟨⟨x,k⟩,m,e⟩:=eW e;dsimp only at e;split at e
  .cases e;exact⟨_,_,m,_,rfl,q⟩
  .cases e
 .rintro⟨x,k,m,y,rfl,q⟩;exact⟨some y,k,by simp[m],q⟩
theorem Kb:ej (hO a lo g) d C w↔aI a d C λt o=>pa lo d o λl n=>pa g d n λh m=>∃k,dR m t=some k/\w (vT k l h) m:=by
 unfold ej aI pa hO;constructor
 .rintro⟨t,K,e,q⟩;obtain⟨⟨x,o⟩,J,e⟩:=eW e;obtain⟨⟨y,n⟩,I,e⟩:=eW e;obtain⟨⟨z,m⟩,H,e⟩:=eW e;obtain⟨k,D,e⟩:=eX e;cases e;exact⟨x,o,J,y,n,I,z,_,H,k,D,q⟩
 .rintro⟨x,o,J,y,n,I,z,m,H,k,D,q⟩;exact⟨_,m,by simp[J,I,H,D],q⟩
def yf{k:Type}(xs:List k)(lo g:Option Int):List k:=(xs.drop (HT.cb xs.length 0 lo)).take (HT.cb xs.length xs.length g - HT.cb xs.length 0 lo)
theorem PZ{k:Type}{f:k->T}{xs:List k}:vT (xs.map f) l h=(yf xs l h).map f:=by
 unfold vT yf;simp[List.map_drop,List.map_take]
theorem Qs{k:Type}{xs:List k}{x:k}(m:x∈yf xs l h):x∈xs:=List.mem_of_mem_drop (List.mem_of_mem_take m)
theorem Ss{k:Type}{xs:List k}:(yf xs l h).length<=xs.length:=by
 unfold yf;simp;lia
noncomputable def pT(p:Int×Int):T:=.lst [.int p.1,.int p.2]
noncomputable def w3(p:Int×Int×Int):T:=.lst [.int p.1,.int p.2.1,.int p.2.2]
noncomputable def iT(ns:Um):T:=.lst (ns.map T.int)
theorem Kx:CF (pT p)=true:=by simp[pT,g9,gE,iV,hJ]
theorem JY:CF (iT ns)=true:=by rw[iT,g9];exact iD
theorem rN{ps:Uj}:ew (ps.map pT)=true:=mX λ_ _=>Kx
theorem Hi{ps:Ul}:ew (ps.map iT)=true:=mX λ_ _=>JY
theorem tU{n:Nat}{i j:Int}:eqT n (.int i) (.int j)=some (decide (i=j)):=by rw[Nc];congr 1
theorem Ic{k:Type}[DecidableEq k]{e:T->T->Option Bool}{f:k->T}(h:∀x y,e (f x) (f y)=some (decide (x=y))){y:k}:∀{xs:List k},mz (λu=>e u (f y)) (xs.map f)=some (decide (y∈xs))
 | []=>rfl
 |x::xs=>by
  rw[aN];unfold mz;rw[h,aM,Ic h];simp only[cY,bZ.injEq,bX,Bool.decide_or];congr 1;by_cases z:x=y
  .simp[z]
  .simp[z,show¬y=x from λq=>z q.symm]
theorem MS{k:Type}[DecidableEq k]{n:Bool}{f:k->T}{y:k}{xs:List k}[Decidable (y∈xs)]{t:T}(h:∀x y,eqT 5 (f x) (f y)=some (decide (x=y)))(q:∀x,CF (f x)=true)(o:dr 3 C t=some (f y))(m:dR C u=some (xs.map f)):
 aH (jy n t u C) Q↔Q (.bl (if n then !decide (y∈xs)else decide (y∈xs))) C:=by
 rw[LU,i3 o,i3 m,i3 (tJ (mX λx _=>q x)),i3 ((Ic h).trans (congrArg some (decide_eq_decide.mpr Uw)))]
theorem Hx{k:Type}[DecidableEq k]{n:Bool}{f:k->T}{x y:k}{t:T}(h:∀x y,eqT 5 (f x) (f y)=some (decide (x=y)))(o:dr 3 C t=some (f x))(m:dr 3 C u=some (f y)):
 aH (jj n t u C) Q↔Q (.bl (if n then !decide (x=y)else decide (x=y))) C:=by
 rw[G5,i3 o,i3 m,i3 (h x y)]
theorem N5{i j:Int}:aH (jj false (.int i) (.int j) C) Q↔Q (.bl (decide (i=j))) C:=Hx (f:=T.int) (λ_ _=>tU) (iG hJ) (iG hJ)
theorem xG{i j:Int}:aH (jj true (.int i) (.int j) C) Q↔Q (.bl (!decide (i=j))) C:=Hx (f:=T.int) (λ_ _=>tU) (iG hJ) (iG hJ)
theorem xX{n:Bool}{i:Int}(h:dR C u=some (ns.map T.int)):aH (jy n (.int i) u C) Q↔Q (.bl (if n then !decide (i∈ns)else decide (i∈ns))) C:=MS (f:=T.int) (λ_ _=>tU) (λ_=>hJ) (iG hJ) h
theorem So{n:Bool}{i:Int}:aH (jy n (.int i) (.lst (ns.map T.int)) C) Q↔Q (.bl (if n then !decide (i∈ns)else decide (i∈ns))) C:=xX rfl
theorem JR{x y:Bool}:(if false=true then x else y)=y:=rfl
theorem KP{x y:Bool}:(if true=true then x else y)=x:=rfl
instance{k:Nat}{n:Int}:Decidable (Bt k n):=by unfold Bt;infer_instance
theorem Bt.zero{k:Nat}:Bt k 0:=Ve k
theorem Bt.tw{k:Nat}{n:Int}(o:0<=n)(h:n<1024)(m:10<=k):Bt k n:=(Bt.of_lt (k:=10) o h).mono m
theorem M6{k:tl}:dR C (.lst k)=some k:=rfl
theorem M4{k:tl}:lc ((.l,k)::C) 0=some k:=rfl
theorem Pc{x:Cl}{n:Nat}:lc (x::C) (n+1)=lc C n:=rfl
theorem QM{c:Nat}:dR C (.cell c)=lc C c:=rfl
theorem NZ{k:tl}:kf C (.lst k)=some k:=rfl
theorem Rp{c:Nat}:kf C (.cell c)=lc C c:=rfl
theorem Nx{k:tl}:kf C (.tup k)=some k:=rfl
theorem Li:kf C (pT p)=some [.int p.1,.int p.2]:=rfl
theorem LY{p:Int×Int×Int}:kf C (w3 p)=some [.int p.1,.int p.2.1,.int p.2.2]:=rfl
theorem Mf{p:Um}:kf C (iT p)=some (p.map T.int):=rfl
theorem K5{p:Um}:dR C (iT p)=some (p.map T.int):=rfl
theorem MH:dR C (pT p)=some [.int p.1,.int p.2]:=rfl
theorem LQ{p:Int×Int×Int}:dR C (w3 p)=some [.int p.1,.int p.2.1,.int p.2.2]:=rfl
def BA(Q:Fl->aB->aq->Prop)(l:Fl)(d:aB)(C:aq):Prop:=match l with
 | .nx=>∃k,ei C d=some k/\Q .nx k []
 |l=>Q l d C
theorem OL:BA QS .nx d C↔∃k,ei C d=some k/\QS .nx k []:=Uw
theorem Nh{t:T}:BA QS (.rt t) d C↔QS (.rt t) d C:=Uw
theorem mG{b:Bool}:Ew C (.bl b)=some b:=rfl
end
variable{ps:Um}
theorem PU{B:FS}{m:Nat}{a:tl}{P:T->Prop}(h:wpS B (gg m a) [] λl b C=>match l with
 | .rt r=>∃t,dr 3 C r=some t/\P t
 | .nx=>P .bg
 |_=>False):∃t,jU B m a=some t/\P t:=by
 obtain⟨l,b,C,e,q⟩:=h;unfold jU;rw[e];cases l with
 |nx=>exact⟨_,rfl,q⟩
 |rt r=>exact q
 |_=>exact q.elim
theorem nC{x m:Int}(h:0<m):0<=x%m/\x%m<m:=⟨Int.emod_nonneg _ (by lia),Int.emod_lt_of_pos _ h⟩
theorem nV{x y:Int}(a:0<=x)(h:x<1024):mE x y=true:=kF (Bt.tw a h (by decide))
theorem vG{p:Prop}[Decidable p](h:p):decide p=true:=decide_eq_true h
theorem u5{n c:Nat}{C:aq}(e:lc C c=some (ps.map T.int)):dr (n+1) C (.cell c)=some (.lst (ps.map T.int)):=tO e iD
theorem Fg{a:Int}:ps.map T.int++[.int a]=(ps++[a]).map T.int:=by rw[bW];rfl
end TL
section
open PySem L2 TL
local macro_rules
 | `(tactic|simp_arith[$xs,*])=>do
   let xs:Lean.TSyntaxArray [`Lean.Parser.Tactic.simpStar,`Lean.Parser.Tactic.simpErase,`Lean.Parser.Tactic.simpLemma]:=xs
   `(tactic|simp (maxSteps:=2000000) (disch:=first|assumption|decide) only[↓OL,↓Nh,↓Li,↓LY,↓Mf,↓K5,↓MH,↓LQ,if_true,if_false,Bool.false_eq_true,↓So,JR,KP,↓My,↓Qk,↓Kb,↓N5,↓xG,↓HQ,↓GA,↓M3,↓GY,↓PX,↓OC,↓RL,↓OY,↓IS,↓QF,↓IC,↓QZ,↓KG,↓iE,↓LM,↓LI,↓Of,↓Pz,↓Pk,↓O9,↓SU,↓NN,↓N7,↓N2,↓NO,↓Lq,↓OZ,↓NY,↓RZ,↓Qi,↓o0,↓Kw,↓Ki,↓Kt,↓KD,↓JO,↓LJ,↓zD,↓tX,↓MM,↓CU,↓KI,↓SQ,↓MV,↓N1,↓HK,↓wD,↓z0,↓TR,↓uV,M4,Pc,Option.isSome_some,List.getElem?_cons_zero,List.getElem?_cons_succ,List.set_cons_zero,List.set_cons_succ,List.length_cons,List.length_nil,List.nil_append,List.cons_append,Option.some.injEq,T.int.injEq,T.bl.injEq,T.lst.injEq,T.cell.injEq,T.tup.injEq,exists_eq_left,exists_eq_left',exists_and_left,cj,NZ,Rp,Nx,M6,QM,and_true,true_and,Nat.reduceAdd,$xs,*])
namespace cx
open PySem L2 TL
variable{Q:T->aq->Prop}{ns:Um}
abbrev Bg(n:Int):Prop:=Bt 1100000 n
theorem Bg.of{n:Int}{k:Nat}(h:Bt k n)(a:k<=1100000):Bg n:=h.mono a
noncomputable def cu(a k:Int):Int:=(a*a+k*a+7*k*k)*1103515245%2147483629
theorem Oy{a k:Int}(h:Bg a)(b:Bt 60 k):j1 [.int a,.int k]=some (.int (cu a k)):=by
 apply jA;unfold G1;walk_at "b";simp_arith[if_true];have c:Bt 4 7:=.of_lt (by decide) (by decide);exact⟨uk h h (by decide),kF (b.mono (by decide)),kF (c.mono (by decide)),lT (b.mono (by decide)),lT (.of_lt (by decide) (by decide)),rfl,rfl⟩
theorem nF{a k:Int}{C:aq}(h:Bg a)(b:Bt 60 k):aH (iX 2 j1 [.int a,.int k] C) Q↔Q (.int (cu a k)) C:=gT (Oy h b) rfl (by walk_at "e")
noncomputable def pD(ns:Um)(k:Int):Int:=(ns[k.toNat]?).getD 0
theorem Po{k:Int}(a:0<=k):l0 [.lst (ns.map T.int),.int k]=some (.int (pD ns k)):=by
 apply jA;unfold wX;walk_at "b";simp_arith[if_true];simp only[aQ];unfold pD;by_cases h:k<ns.length
 .rw[V6 (by simpa using h)];rw[pF a,bF,bD (by lia)];exact⟨_,rfl,iG hJ⟩
 .rw[V9 (by simpa using h)];rw[eJ (by lia)];exact iG hJ
theorem Iw{k:Int}{C:aq}(a:0<=k):aH (iX 2 l0 [.lst (ns.map T.int),.int k] C) Q↔Q (.int (pD ns k)) C:=gT (Po a) rfl (by walk_at "e")
theorem Rc{P:Int->Prop}{k:Int}(h:∀n∈ns,P n)(a:P 0):P (pD ns k):=by
 unfold pD;cases e:ns[k.toNat]?with
 |none=>exact a
 |some x=>exact h x (bV e)
noncomputable def rQ(m n:Int):Bool:=decide (0<=n/\n<m)
theorem TB{m n:Int}:lY [.int m,.int n]=some (.bl (rQ m n)):=by
 apply jA;unfold wV rQ;walk_at "b";simp_arith[if_true];by_cases h:0<=n
 .rw[V6 (by simpa using h)];rw[iG jH];simp[h]
 .rw[V9 (by simpa using h),iG jH];simp[h]
theorem m4{m n:Int}{C:aq}:aH (iX 2 lY [.int m,.int n] C) Q↔Q (.bl (rQ m n)) C:=gT TB rfl (by walk_at "e")
end cx
namespace TL
open PySem L2
section
variable {a:aB}{C:aq}{c:FB}{F:FS}{Q:Fl->aB->aq->Prop}
theorem Sw{n:Nat}(I:Nat->aB->aq->Prop){k:Nat}(t:k<n)(w:I k a C)
 (s:∀i a C,i<n->I i a C->ie c a C λb o=>if b=true then wpS F a o (λl f g=>match l with
  | .nx=>i+1<n/\I (i+1) f g
  | .ct=>i+1<n/\I (i+1) f g
  | .bk=>Q .nx f g
  | .rt v=>Q (.rt v) f g
  | .ex v=>Q (.ex v) f g)else Q .nx a o):wpS (pJ c F (n - k)) a C Q:=by
 obtain⟨d,u⟩:∃d,n - k=d:=⟨_,rfl⟩;rw[u];induction d generalizing k a C with
 |zero=>lia
 |succ d ih=>
  obtain⟨b,o,j,h⟩:=s k a C t w;cases b with
  |false=>
   rw[V9 (by simp)]at h;exact⟨.nx,a,o,by unfold pJ;rw[j];rfl,h⟩
  |true=>
   rw[V6 rfl]at h;obtain⟨l,f,g,m,h⟩:=h;cases l with
   |nx=>
    obtain⟨l,p,r,e,q⟩:=ih h.1 h.2 (by lia);exact⟨l,p,r,by unfold pJ;rw[j,aM,V6 rfl,m,aM];exact e,q⟩
   |ct=>
    obtain⟨l,p,r,e,q⟩:=ih h.1 h.2 (by lia);exact⟨l,p,r,by unfold pJ;rw[j,aM,V6 rfl,m,aM];exact e,q⟩
   |bk=>exact⟨.nx,f,g,by unfold pJ;rw[j,aM,V6 rfl,m];rfl,h⟩
   |rt v=>exact⟨.rt v,f,g,by unfold pJ;rw[j,aM,V6 rfl,m];rfl,h⟩
   |ex v=>exact⟨.ex v,f,g,by unfold pJ;rw[j,aM,V6 rfl,m];rfl,h⟩
theorem p6{g:FG}{b:tl}(f:∀t∈b,∀C,∃d,g t C a=some d):∀{C:aq},iH g gY (kY (hZ fR)) a b C=some ((bB b.length).map (λi=>T.cell (C.length+i)),C++aS b.length (.l,[])):=by
 induction b with
 |nil=>intro C;simp[iH]
 |cons t b ih=>
  intro C;obtain⟨d,e⟩:=f t bG C;unfold iH;rw[e,aM];show(gY d C).bind _=_;have j:kY (hZ fR) d C=some (.cell C.length,C++[(.l,[])]):=by
   unfold kY hZ sE fR;simp[lim]
  simp only[gY,aM,if_true,j];rw[ih λu h=>f u (bJ _ h),Gz (List.prefix_append _ _)];simp only[cY,bN,aO,aP,eD];congr 2
  .rw[Vp,aN,cK];simp only[Nat.add_zero,List.cons.injEq,true_and];apply d0;intro i _;simp only[Function.comp];congr 1;lia
end
end TL
namespace cx
open PySem L2 TL
variable{ps:Uj}{told o:Um}{w:Nat}
def Nd(ps:Uj)(m:Nat)(c:Ul):Prop:=c.length=m/\∀(b:Nat)(l:Um),c[b]?=some l->l.length<=ps.length/\∀a,a∈l↔(a,(b:Int))∈ps
def mf(m:Nat)(ps:Uj):Prop:=∀p∈ps,(0<=p.1/\p.1<m)/\(0<=p.2/\p.2<m)
theorem oU{m n:Int}(h:0<=n/\n<m):rQ m n=true:=vG h
def Ca(b:Ul)(told:Um)(w:Nat):Prop:=(w:Int)∉told/\∀l,b[w]?=some l->∀a∈l,a∈told
theorem z4{P:Nat->Prop}(h:∃n,P n):∃n,P n/\∀k<n,¬P k:=by
 obtain⟨n,d⟩:=h;induction n using Nat.strongRecOn with
 |_ n ih=>
  by_cases c:∃k,k<n/\P k
  .obtain⟨k,b,a⟩:=c;exact ih k b a
  .exact⟨n,d,λk b a=>c ⟨k,b,a⟩⟩
theorem Hv:∀(m:Nat)(l:Um),(∀w:Nat,w<m->(w:Int)∈l)->m<=l.length
 |0,_,_=>cU _
 |m+1,l,h=>by
  have a:=h m (eM _);have:=Hv m (l.erase m) λw b=>(List.mem_erase_of_ne (by lia)).mpr (h w (dS b));rw[Vo a]at this;have:=List.length_pos_of_mem a;lia
theorem yP:∀(m:Nat)(l:Um),l.Nodup->(∀x∈l,0<=x/\x<m)->l.length<=m
 |0,l,_,h=>by
  cases l with
  |nil=>simp
  |cons x l=>have:=h x bG;lia
 |m+1,l,b,h=>by
  by_cases c:(m:Int)∈l
  .have:=yP m (l.erase m) (b.erase _) λx a=>by
    have f:=h x (List.mem_of_mem_erase a);have d:x≠m:=λz=>by subst z;exact(List.Nodup.mem_erase_iff b).mp a |>.1 rfl
    lia
   rw[Vo c]at this;lia
  .have:=yP m l b λx a=>by
    have f:=h x a;have d:x≠m:=λz=>c (z ▸ a);lia
   exact Vd this
def vY(ps:Uj)(told:Um)(w:Nat):Prop:=(w:Int)∉told/\∀a,(a,(w:Int))∈ps->a∈told
theorem Nd.D0{m:Nat}{nd:Ul}(h:Nd ps m nd)(j:w<m):Ca nd told w↔vY ps told w:=by
 have i:w<nd.length:=by rw[h.1];exact j
 have e:=bD i;obtain⟨_,f⟩:=h.2 w _ e;constructor
 .rintro⟨d,c⟩;exact⟨d,λa b=>c _ e a ((f a).mpr b)⟩
 .rintro⟨d,c⟩;refine⟨d,λl g a b=>?_⟩;rw[e]at g;cases g;exact c a ((f a).mp b)
def De(ps:Uj):Prop:=∃r:Int->Nat,∀p∈ps,r p.1<r p.2
theorem Mj{m:Nat}(b:mf m ps)(c:De ps)(hl:told.length<m):∃w,w<m/\vY ps told w:=by
 obtain⟨r,c⟩:=c;have hex:∃w:Nat,w<m/\(w:Int)∉told:=dC λl=>by
  have:=Hv m told λw b=>dC λd=>l ⟨w,b,d⟩;exact absurd hl (UP this)
 obtain⟨k,⟨w,h,g,n⟩,p⟩:=z4 (P:=λk=>∃w:Nat,w<m/\(w:Int)∉told/\r w=k) (by obtain⟨w,h,g⟩:=hex;exact⟨r w,w,h,g,rfl⟩);refine⟨w,h,g,λa i=>dC λd=>?_⟩;have f:=(b _ i).1;have j:=c _ i;simp only at f j;refine p (r a) (bC j (eC n)) ⟨a.toNat,by lia,?_,?_⟩
 .rw[c7 f.1];exact d
 .rw[c7 f.1]
def xP(ps:Uj)(m:Nat)(o:Um):Prop:=∀(i:Nat)(x:Int),o[i]?=some x->∃w:Nat,x=w/\w<m/\vY ps (o.take i) w/\∀v<w,¬vY ps (o.take i) v
theorem xP.snoc{m:Nat}(h:xP ps m o)(b:w<m)(c:vY ps o w)(d:∀v<w,¬vY ps o v):xP ps m (o++[(w:Int)]):=by
 intro i x e;by_cases a:i<o.length
 .rw[bK a]at e;rw[List.take_append_of_le_length (dW a)];exact h i x e
 .have bq:i=o.length:=by
   have:=(fA e).1;simp at this;exact eV (Vc this) (cM a)
  subst bq;simp only[List.getElem?_concat_length,bZ.injEq]at e;rw[List.take_left']
  .exact⟨w,e.symm,b,c,d⟩
  .rfl
structure qp(ps:Uj)(m:Nat)(o:Um):Prop where
 len:o.length=m
 nd:o.Nodup
 As:∀x∈o,0<=x/\x<m
 all:∀w:Nat,w<m->(w:Int)∈o
 top:∀(j:Nat)(b:Int),o[j]?=some b->∀a,(a,b)∈ps->a∈o.take j
theorem xP.Dl{m:Nat}(h:xP ps m o)(hl:o.length=m):qp ps m o:=by
 have c:∀x∈o,0<=x/\x<m:=λx d=>by
  obtain⟨i,k⟩:=gR d;obtain⟨w,rfl,f,_⟩:=h i x k;exact⟨dN w,U2.mpr f⟩
 have n:o.Nodup:=by
  refine List.pairwise_iff_getElem.mpr λi j k p g e=>?_;have s:=bD p;obtain⟨w,t,_,l,_⟩:=h j _ s;refine l.1 (bV (i:=i) ?_);rw[d5 g,bD k,e,t]
 refine⟨hl,n,c,λw f=>dC λq=>?_,λj b e a r=>?_⟩
 .have:=yP m ((w:Int)::o) (UW.mpr ⟨q,n⟩) (λx d=>by
   rcases fU d with rfl|d
   .exact⟨dN w,U2.mpr f⟩
   .exact c x d)
  simp at this;lia
 .obtain⟨w,rfl,_,l,_⟩:=h j b e;exact l.2 a r
end cx
namespace TL
open PySem L2
section
variable {d:aB}{C:aq}{fa:FN}{x:XF}{F:FS}{Q:Fl->aB->aq->Prop}{c:String}
variable{C':aq}{G:tl->Option String}{B:FS}{f:String->List String}
theorem i7:wpS (lF c fa) d C Q↔ej fa d C λa g=>a.length<=10/\Q (.ex c) d g:=by
 unfold wpS ej lF;constructor
 .rintro⟨l,t,C',e,q⟩;obtain⟨⟨a,g⟩,b,e⟩:=eW e;split at e
  .rename_i h;cases e;exact⟨a,_,b,h,q⟩
  .cases e
 .rintro⟨a,g,b,h,q⟩;exact⟨_,_,_,by rw[b];exact V6 h,q⟩
theorem nQ(h:x d C=none):wpS (fX x F) d C Q↔wpS F d C Q:=by
 unfold wpS fX;rw[h]
theorem nR(h:x d C=some (c,C')):wpS (fX x F) d C Q↔Q (.ex c) d C':=by
 unfold wpS fX;rw[h];constructor
 .rintro⟨l,t,C',e,q⟩;cases e;exact q
 .exact λq=>⟨_,_,_,rfl,q⟩
theorem nJ{n:Nat}{ts:tl}(h:fa d C=some (ts,C'))(hl:ts.length=n)(a:ew ts=true):n9 n G fa d C=(G ts).map λc=>(c,C'):=by
 unfold n9 gX;rw[h,aM];dsimp only;rw[V6 hl,V6 a]
theorem SW{n:Nat}{ts a:tl}(h:fa d C=some (ts,C'))(hl:ts.length=n)(g:ew ts=false)(b:bt (dr 3 C') ts=some a):n9 n G fa d C=(G a).map λc=>(c,C'):=by
 unfold n9 gX;rw[h,aM];dsimp only;rw[V6 hl,V9 (by rw[g];simp),b];rfl
theorem tK{m:Nat}{ts:tl}(h:wpS B (gg m ts) [] λl _ _=>l=.ex c):rR B m ts=some c:=by
 obtain⟨l,t,C',e,q⟩:=h;subst q;unfold rR;rw[e]
theorem o5{m:Nat}{ts:tl}{t:T}(h:jU B m ts=some t):rR B m ts=none:=by
 unfold jU at h;unfold rR;split at h
 .rename_i e;rw[e]
 .rename_i e;rw[e]
 .cases h
theorem NM{n:String}{i:Nat}{G:FS}(h:wpS F d C λl a b=>match l with
 | .ex c=>(f c).contains n=true/\wpS G (a.set i (some (.exc c))) b λj o p=>(match j with
  | .ex _=>False
  |j=>Q j (o.set i none) p)
 |l=>Q l a b):wpS (BX f n i F G) d C Q:=by
 obtain⟨l,a,b,e,q⟩:=h;unfold wpS BX;cases l with
 |ex c=>
  obtain⟨k,j,o,p,m,g⟩:=q;cases j with
  |ex _=>exact g.elim
  |nx=>exact⟨.nx,_,_,by rw[e,aM];dsimp only;rw[V6 k,m];rfl,g⟩
  |bk=>exact⟨.bk,_,_,by rw[e,aM];dsimp only;rw[V6 k,m];rfl,g⟩
  |ct=>exact⟨.ct,_,_,by rw[e,aM];dsimp only;rw[V6 k,m];rfl,g⟩
  |rt v=>exact⟨.rt v,_,_,by rw[e,aM];dsimp only;rw[V6 k,m];rfl,g⟩
 |nx=>exact⟨.nx,a,b,by rw[e];rfl,q⟩
 |bk=>exact⟨.bk,a,b,by rw[e];rfl,q⟩
 |ct=>exact⟨.ct,a,b,by rw[e];rfl,q⟩
 |rt v=>exact⟨.rt v,a,b,by rw[e];rfl,q⟩
theorem ND{i:List String}{a:FE}{Q:T->aq->Prop}:aI (uI f i a) d C Q↔aI a d C λt g=>∃b,Bu f i t=some b/\Q (.bl b) g:=by
 unfold uI;rw[GY];unfold aH aI;constructor
 .rintro⟨t,g,e,u,l,k,q⟩;obtain⟨b,h,j⟩:=eX k;cases j;exact⟨t,_,e,b,h,q⟩
 .rintro⟨t,g,e,b,h,q⟩;exact⟨t,g,e,_,_,by rw[h];rfl,q⟩
end
end TL
namespace cx
open PySem L2 TL
end cx
namespace cx
open PySem L2 TL
end cx
namespace cx
open PySem L2 TL
end cx
set_option maxHeartbeats 4000000
namespace cx
open PySem L2 TL
end cx
namespace TL
open PySem L2
section
variable {a:aB}{C:aq}{b c d:FE}{fa:FN}{Q:T->aq->Prop}{QS:Fl->aB->aq->Prop}
theorem fK:aI (mF fa) a C Q↔ej fa a C λts g=>ts.length<=lim/\Q (.tup ts) g:=by
 unfold aI ej mF mR;constructor
 .rintro⟨t,C',e,q⟩;obtain⟨⟨ts,g⟩,f,e⟩:=eW e;dsimp only at e;split at e
  .cases e;exact⟨ts,_,f,‹_›,q⟩
  .cases e
 .rintro⟨ts,g,f,h,q⟩;exact⟨_,_,by rw[f];exact V6 h,q⟩
end
end TL
namespace cx
open PySem L2 TL
end cx
namespace cx
open PySem L2 TL
variable{ps:Uj}{nd:Ul}{told:Um}
theorem Qj{m:Nat}(N:m<=100)(hl:ps.length<=1000)(H:mf m ps):∃t,jE [.int m,.lst (ps.map pT)]=some t/\∃nd,t=.lst (nd.map iT)/\Nd ps m nd:=by
 apply PU;unfold jF;walk_at "b";simp_arith[if_true];refine⟨by lia,?_⟩;refine⟨_,_,p6 (g:=gN 0) (λt M C=>⟨_,rfl⟩),?_⟩;simp only[sT,aQ,dU,aU,aP,Vf,cS,cV];refine tP (λi p C=>∃a b,p=[some (.int m),some (.lst (ps.map pT)),some (.cell m),a,b]/\∃d:Ul,C=d.map (λl=>(Kd.l,l.map T.int))++[(.l,(bB m).map T.cell)]/\d.length=m/\
  ∀(b:Nat)(l:Um),d[b]?=some l->l.length<=i/\∀a,a∈l↔(a,(b:Int))∈ps.take i) ?_ ?_ ?_
 .refine⟨_,_,rfl,aS m [],by simp,by simp,λb l e=>?_⟩;rw[b3]at e;split at e
  .cases e;simp
  .cases e
 .rintro i ⟨x,y⟩ p C r ⟨a,b,rfl,d,rfl,f,n⟩;obtain⟨v,q⟩:=H _ (bV r);have P:i<ps.length:=(fA r).1;simp only at v q;unfold kB;obtain⟨y,rfl⟩:∃B:Nat,y=B:=⟨_,(c7 q.1).symm⟩;have g:y<d.length:=by lia
  have K:lc (d.map (λl=>(Kd.l,l.map T.int))++[(.l,(bB m).map T.cell)]) m=some ((bB m).map T.cell):=by
   rw[mW];rw[bP (by simp[f])];simp[f]
  have w:lc (d.map (λl=>(Kd.l,l.map T.int))++[(.l,(bB m).map T.cell)]) y=some (d[y].map T.int):=by
   rw[mW];rw[bK (by simpa using g)];simp[g]
  have L:f5 ((bB m).map T.cell) (y:Int)=some (.cell y):=by
   rw[nH,bF,cZ (by lia)];rfl
  simp_arith[↓m4,mG,oU v,oU q,↓i3 K,↓i3 L,↓xX (show dR _ (T.cell y)=_ from w),UG,UE];have next:∀l,(∀c,c∈l↔c∈d[y]\/c=x)->l.length<=i+1->∀(b:Nat)(j:Um),(d.set y l)[b]?=some j->j.length<=i+1/\∀a,a∈j↔(a,(b:Int))∈ps.take (i+1):=by
   intro l G F b j e;have z:∀a,(a,(b:Int))∈ps.take (i+1)↔(a,(b:Int))∈ps.take i\/(a=x/\b=y):=λa=>by
    rw[Vz,r];simp only[Vj,dO,cL,Uy.injEq];constructor
    .rintro(h| ⟨o,u⟩)
     .exact .inl h
     .exact .inr ⟨o,by lia⟩
    .rintro(h| ⟨o,u⟩)
     .exact .inl h
     .exact .inr ⟨o,by lia⟩
   by_cases s:b=y
   .subst s;rw[b0 g]at e;cases e;refine⟨F,λa=>?_⟩;rw[G,z,(n b _ (bD g)).2];simp
   .rw[bY (Ne.symm s)]at e;obtain⟨o,u⟩:=n b j e;refine⟨by lia,λa=>?_⟩;rw[z,u];simp[s]
  obtain⟨J,_⟩:=n y _ (bD g);split
  .rw[w];refine⟨rfl,_,rfl,by walk_at "d",trivial,_,_,rfl,d.set y (d[y]++[x]),?_,by simpa using f,next _ (λc=>by simp) (by simp;lia)⟩;rw[Fg,Vr _ _ (by simpa using g),VP]
  .rename_i I;have D:x∈d[y]:=by simpa using I
   refine⟨trivial,_,_,rfl,d,rfl,f,λb l e=>?_⟩;have:=next d[y] (λc=>⟨.inl,λh=>h.elim id λh=>by rw[h];exact D⟩) (by lia) b l
   rw[List.set_getElem_self]at this;exact this e
 .rintro p C ⟨a,b,rfl,d,rfl,f,n⟩;simp_arith[if_true];refine⟨.lst (d.map iT),?_,d,rfl,f,λb l e=>?_⟩
  .unfold dr;rw[show lc (d.map (λl=>(Kd.l,l.map T.int))++[(.l,(bB m).map T.cell)]) m=some ((bB m).map T.cell)from by rw[mW,bP (by simp[f])];simp[f]];simp only[aM];rw[show bt (dr 2 (d.map (λl=>(Kd.l,l.map T.int))++[(.l,(bB m).map T.cell)])) ((bB m).map T.cell)=some (d.map iT)from ?_]
   .rfl
   .have:∀(k:Nat),k<=m->bt (dr 2 (d.map (λl=>(Kd.l,l.map T.int))++[(.l,(bB m).map T.cell)])) (((bB m).drop (m - k)).map T.cell)=some ((d.drop (m - k)).map iT):=by
     intro k;induction k with
     |zero=>intro _;rw[Nat.sub_zero,Vq (by simp),Vq (by lia)];rfl
     |succ k ih=>
      intro O;have A:m - (k+1)<m:=by lia
      rw[dY (by simpa using A),dY (by lia:m - (k+1)<d.length),show m - (k+1)+1=m - k by lia];rw[aN,aN];refine nO ?_ (ih (by lia));rw[Vx];refine tO ?_ iD;rw[mW];rw[bK (by simp;lia)];simp[f,A]
    have:=this m (bI _);simpa using this
  .have:=n b l e;rw[VH]at this;exact this
theorem Ra{m:Nat}(G:m<=100)(hl:ps.length<=1000)(w:¬mf m ps):i6 [.int m,.lst (ps.map pT)]=some "NoOrder":=by
 apply tK;unfold jF;walk_at "b";simp_arith[if_true];refine⟨by lia,?_⟩;refine⟨_,_,p6 (g:=gN 0) (λt F C=>⟨_,rfl⟩),?_⟩;simp only[sT,aQ,dU,aU,aP,Vf,cS,cV];refine tP (λi n C=>mf m (ps.take i)/\∃a b,n=[some (.int m),some (.lst (ps.map pT)),some (.cell m),a,b]/\∃c:Ul,C=c.map (λl=>(Kd.l,l.map T.int))++[(.l,(bB m).map T.cell)]/\c.length=m/\
  ∀l∈c,l.length<=i) ?_ ?_ ?_
 .exact⟨λp hp=>by simp at hp,_,_,rfl,aS m [],by simp,by simp,λl h=>by rw[List.eq_of_mem_replicate h];simp⟩
 .rintro i ⟨x,y⟩ n C r ⟨g,a,b,rfl,c,rfl,k,o⟩;have H:i<ps.length:=(fA r).1;unfold kB;by_cases d:0<=x/\x<m
  .by_cases f:0<=y/\y<m
   .obtain⟨y,rfl⟩:∃u:Nat,y=u:=⟨_,(c7 f.1).symm⟩;have j:y<c.length:=by lia
    have B:lc (c.map (λl=>(Kd.l,l.map T.int))++[(.l,(bB m).map T.cell)]) m=some ((bB m).map T.cell):=by
     rw[mW];rw[bP (by simp[k])];simp[k]
    have s:lc (c.map (λl=>(Kd.l,l.map T.int))++[(.l,(bB m).map T.cell)]) y=some (c[y].map T.int):=by
     rw[mW];rw[bK (by simpa using j)];simp[j]
    have D:f5 ((bB m).map T.cell) (y:Int)=some (.cell y):=by
     rw[nH,bF,cZ (by lia)];rfl
    simp_arith[↓m4,mG,oU d,oU f,↓i3 B,↓i3 D,↓xX (show dR _ (T.cell y)=_ from s),UG,UE];have z:=o _ (c9 j);have q:mf m (ps.take (i+1)):=λp hp=>by
     rw[Vz,r]at hp;simp only[Vj,dO,cL]at hp;rcases hp with hp|rfl
     .exact g p hp
     .exact⟨d,f⟩
    split
    .rw[s];refine⟨rfl,_,rfl,by walk_at "d",trivial,q,_,_,rfl,c.set y (c[y]++[x]),?_,by simpa using k,λl v=>?_⟩
     .rw[Fg,Vr _ _ (by simpa using j),VP]
     .rcases List.mem_or_eq_of_mem_set v with h|rfl
      .have:=o l h;lia
      .simp;lia
    .exact⟨trivial,q,_,_,rfl,c,rfl,k,λl h=>by have:=o l h;lia⟩
   .have e:rQ m y=false:=decide_eq_false f;simp_arith[↓m4,mG,oU d,e,UG,UE,↓i7,aO,aP];lia
  .have A:rQ m x=false:=decide_eq_false d;simp_arith[↓m4,mG,A,UG,UE,↓i7,aO,aP];lia
 .rintro n C ⟨g,_⟩;rw[VH]at g;exact absurd g w
theorem Ml{w:Nat}(t:nd.length<=100)(hl:∀l∈nd,l.length<=1000)(s:w<nd.length)(o:Ca nd told w)(r:∀v<w,¬Ca nd told v):
 kW [.lst (nd.map iT),.lst (told.map T.int)]=some (.int w):=by
 apply jA;unfold jK;walk_at "b";simp_arith[aQ];refine⟨by lia,qG (λi j C=>C=[]/\∃a,j=[some (.lst (nd.map iT)),some (.lst (told.map T.int)),a]/\i<=w) ⟨rfl,_,rfl,cU _⟩ ?_ ?_⟩
 .rintro i j C u ⟨rfl,a,rfl,k⟩;have bq:i<nd.length:=by lia
  have q:f5 (nd.map iT) (0+(i:Int))=some (iT nd[i]):=by
   rw[dX,nH,bF,bD bq];rfl
  have p:=hl _ (c9 bq);unfold k8;simp_arith[↓i3 q];have f:∀b:Bool,(b=true↔Ca nd told i)->if b=true then dr 3 [] (.int (0+(i:Int)))=some (T.int w)else∃a,[some (T.lst (nd.map iT)),some (T.lst (told.map T.int)),some (T.int (0+(i:Int)))]=[some (.lst (nd.map iT)),some (.lst (told.map T.int)),a]/\i+1<=w:=by
   intro b c;have n:i<w\/i=w:=by lia
   rcases n with h|h
   .rw[V9 (λz=>r i h (c.mp z))];exact⟨_,rfl,h⟩
   .subst h;rw[V6 (c.mpr o),dX];exact iG hJ
  by_cases g:(0+(i:Int))∈told
  .have d:=f false (Iff.intro (λz=>nomatch z) (λz=>(z.1 (by simpa using g)).elim));rw[V9 (by simp)]at d;rw[V9 (by simpa using g)];exact d
  .rw[V6 (by simpa using g)];refine⟨by walk_at "d",mI (λa=>T.bl (decide (a∈told))) (λa _=>?_) ?_⟩
   .simp only[d3,aS,aN,aY,aU,aV,aT,b4,b5,cO];simp_arith[if_true]
   rw[zE];refine⟨_,rfl,_,mG,?_⟩;have d:=f (List.all (nd[i].map λa=>decide (a∈told)) id) (by
    rw[UD,cN];constructor
    .intro h;refine⟨by simpa using g,λl e a m=>?_⟩;rw[bD bq]at e;cases e;simpa using h a m
    .intro h a m;simpa using h.2 _ (bD bq) a m)
   split at d
   .rename_i c;rw[V6 c];exact d
   .rename_i c;rw[V9 c];exact⟨rfl,d⟩
 .rintro j C ⟨rfl,a,rfl,k⟩;lia
theorem LB(k:nd.length<=100)(hl:∀l∈nd,l.length<=1000)(f:∀w<nd.length,¬Ca nd told w):
 iI [.lst (nd.map iT),.lst (told.map T.int)]=some "NoOrder":=by
 apply tK;unfold jK;walk_at "b";simp_arith[aQ];refine⟨by lia,qG (λi b C=>C=[]/\∃a,b=[some (.lst (nd.map iT)),some (.lst (told.map T.int)),a]) ⟨rfl,_,rfl⟩ ?_ ?_⟩
 .rintro i b C m ⟨rfl,a,rfl⟩;have bq:i<nd.length:=by lia
  have j:f5 (nd.map iT) (0+(i:Int))=some (iT nd[i]):=by
   rw[dX,nH,bF,bD bq];rfl
  have g:=hl _ (c9 bq);unfold k8;simp_arith[↓i3 j];by_cases c:(0+(i:Int))∈told
  .rw[V9 (by simpa using c)];exact⟨_,rfl⟩
  .rw[V6 (by simpa using c)];refine⟨by walk_at "d",mI (λa=>T.bl (decide (a∈told))) (λa _=>?_) ?_⟩
   .simp only[d3,aS,aN,aY,aU,aV,aT,b4,b5,cO];simp_arith[if_true]
   rw[zE];refine⟨_,rfl,_,mG,?_⟩;rw[V9 (λd=>f i bq ⟨by simpa using c,λl e a h=>by
    rw[UD,cN]at d;rw[bD bq]at e;cases e;simpa using d a h⟩)]
   exact⟨rfl,_,rfl⟩
 .rintro b C ⟨rfl,a,rfl⟩;simp_arith[↓i7,aO,aP];lia
theorem w6{m:Nat}(L:m<=8)(hl:ps.length<=1000)(F:mf m ps):
 wpS j4 (gg 4 [.int m,.lst (ps.map pT)]) [] λl f C=>(∃o,l=.rt (.cell 0)/\C=[(.l,o.map T.int)]/\o.length=m/\xP ps m o)\/(l=.ex "NoOrder"/\∃o:Um,o.length<m/\xP ps m o/\∀w<m,¬vY ps o w):=by
 obtain⟨_,y,nd,rfl,a⟩:=Qj (by lia) hl F;have q:=a.1;have h:ew [.int m,.lst (ps.map pT)]=true:=by rw[gE,gE,iV,g9,hJ,rN];rfl
 have B:∀{C Q},aH (iX 2 jE [.int m,.lst (ps.map pT)] C) Q↔Q (.lst (nd.map iT)) C:=gT y rfl h;have j:∀l∈nd,l.length<=1000:=λl D=>by
  obtain⟨b,I⟩:=gR D;have:=(a.2 b l I).1;lia
 unfold j4;walk_at "b";rw[o0,nQ (by rw[nJ (n:=2) (ts:=[.int m,.lst (ps.map pT)]) rfl rfl h,show i6 [.int m,.lst (ps.map pT)]=none from o5 y];rfl)];simp_arith[↓B];refine⟨by walk_at "d",Sw (n:=10) (k:=0) (λi f C=>∃o:Um,f=[some (.int m),some (.lst (ps.map pT)),some (.lst (nd.map iT)),some (.cell 0)]/\C=[(.l,o.map T.int)]/\o.length=i/\i<=m/\xP ps m o) (by lia) ⟨[],rfl,rfl,rfl,cU _,λi x e=>by simp at e⟩ ?_⟩;rintro i f C M ⟨o,rfl,rfl,G,H,hp⟩;simp_arith[aQ];by_cases K:i<m
 .rw[V6 (vG (by lia))];unfold pA;have p:∀r,iI [.lst (nd.map iT),.lst (o.map T.int)]=r->BZ Y3 (n9 2 iI (e7 Y2 (e7 Y3 fR))) [some (.int m),some (.lst (ps.map pT)),some (.lst (nd.map iT)),some (.cell 0)] [(.l,o.map T.int)]=r.map λc=>(c,[(.l,o.map T.int)]):=λr d=>by
   unfold BZ;show(n9 2 iI (e7 Y2 (e7 Y3 fR)) [some (.int m),some (.lst (ps.map pT)),some (.lst (nd.map iT)),some (.cell 0)] [(.l,o.map T.int)])=_;rw[SW (n:=2) (ts:=[.lst (nd.map iT),.cell 0]) rfl rfl (by rw[gE,gE];simp[CF]) (nO (iG (by rw[g9];exact Hi)) (nO (u5 rfl) rfl)),d]
  by_cases hex:∃w,w<m/\vY ps o w
  .obtain⟨w,⟨t,s⟩,J⟩:=z4 hex;have A:∀v<w,¬vY ps o v:=λv g z=>J v g ⟨by lia,z⟩;have u:=Ml (nd:=nd) (told:=o) (w:=w) (by lia) j (by lia) ((a.D0 t).mpr s) (λv g z=>A v g ((a.D0 (by lia)).mp z));rw[nQ (p _ (o5 u))];simp_arith[if_true];refine Sh rfl (nO (iG (by rw[g9];exact Hi)) (nO (u5 rfl) rfl)) ?_;refine⟨_,u,rfl,?_⟩;simp_arith[if_true];refine⟨by walk_at "d",by lia,o++[(w:Int)],by rw[Fg],by simp[G],K,hp.snoc t s A⟩
  .have n:∀w<m,¬vY ps o w:=λw k d=>hex ⟨w,k,d⟩;rw[nR (p _ (LB (by lia) j λw k d=>n w (by lia) ((a.D0 (by lia)).mp d)))];exact .inr ⟨rfl,o,by lia,hp,n⟩
 .rw[V9 (by simpa using(by lia:m<=o.length))];exact .inl ⟨o,rfl,by lia,hp⟩
theorem Sa{m:Nat}(f:m<=8)(hl:ps.length<=1000)(b:mf m ps)(d:De ps):∃t,j5 [.int m,.lst (ps.map pT)]=some t/\∃o,t=.lst (o.map T.int)/\o.length=m/\xP ps m o:=by
 obtain⟨l,j,k,e,q⟩:=w6 f hl b;rcases q with⟨o,rfl,rfl,a,c⟩| ⟨_,o,a,c,i⟩
 .refine⟨_,?_,o,rfl,a,c⟩;unfold j5 jU;rw[e];exact u5 rfl
 .obtain⟨w,h,g⟩:=Mj b d a;exact absurd g (i w h)
theorem Sk{m:Nat}(c:m<=8)(hl:ps.length<=1000)(b:mf m ps->∀o,¬qp ps m o):i9 [.int m,.lst (ps.map pT)]=some "NoOrder":=by
 by_cases a:mf m ps
 .obtain⟨l,g,C',e,q⟩:=w6 c hl a;rcases q with⟨o,rfl,rfl,f,d⟩| ⟨rfl,_⟩
  .exact absurd (d.Dl f) (b a o)
  .unfold i9 rR;rw[e]
 .apply tK;unfold j4;walk_at "b";rw[o0,nR (c:="NoOrder") (C':=[]) (by rw[nJ (n:=2) (ts:=[.int m,.lst (ps.map pT)]) rfl rfl (by rw[gE,gE,iV,g9,hJ,rN];rfl),Ra (by lia) hl a];rfl)];rfl
end cx
namespace TL
open PySem L2
section
variable {d:aB}{C:aq}{a b f m:FE}{lo o:FO}{fb:FB}{F:FS}{x y z:Str}{i:Int}
variable {Q:T->aq->Prop}{p:tl->aq->Prop}{QS:Fl->aB->aq->Prop}
theorem MZ:aH (BO (.str x) (.str y) C) Q↔Q (.bl (uy y x)) C:=iE
theorem tS{c:Prop}[Decidable c]{t:T}:aH (if c then some (t,C)else none) Q↔c/\Q t C:=by
 by_cases h:c
 .rw[V6 h];exact⟨λq=>⟨h,iE.mp q⟩,λq=>iE.mpr q.2⟩
 .rw[V9 h];exact⟨fun⟨_,_,e,_⟩=>(nomatch e),λq=>absurd q.1 h⟩
theorem jN:aH (fO (.str x) (.str y) C) Q↔x.length+y.length<=lim/\Q (.str (x++y)) C:=tS
theorem P0:aH (uB (.str x) (.int i) C) Q↔((0<=i/\i<=100)/\x.length<=100)/\Q (.str (Txt.mul x i)) C:=tS
theorem Qc:aH (CW [.str x] C) Q↔x.length<=lim/\Q (.int x.length) C:=tS
theorem QB:aH (tV (.str x) (.str y) C) Q↔Q (.bl (Txt.startswith x y)) C:=iE
theorem aId:aH (B0 (.str z) (.int i) C) Q↔z.length<=lim/\∃c,f5 z.cps.toList i=some c/\Q (.str ⟨#[c]⟩) C:=by
 show aH (if z.length<=lim then(f5 z.cps.toList i).map (λc=>(T.str ⟨#[c]⟩,C))else none) Q↔_;unfold aH;constructor
 .rintro⟨t,j,e,q⟩;split at e
  .obtain⟨c,g,e⟩:=eX e;cases e;exact⟨‹_›,c,g,q⟩
  .cases e
 .rintro⟨h,c,e,q⟩;exact⟨_,_,by rw[V6 h,e];rfl,q⟩
theorem Rx:aH (CM [.str z] C) Q↔z.length<=640/\∃n,intText? z=some n/\Q (.int n) C:=by
 show aH (if z.length<=640 then(intText? z).map (λn=>(T.int n,C))else none) Q↔_;unfold aH;constructor
 .rintro⟨t,j,e,q⟩;split at e
  .obtain⟨c,g,e⟩:=eX e;cases e;exact⟨‹_›,c,g,q⟩
  .cases e
 .rintro⟨h,c,e,q⟩;exact⟨_,_,by rw[V6 h,e];rfl,q⟩
theorem Ng:aH (jj true (.str x) (.str y) C) Q↔Q (.bl (!(x==y))) C:=by
 rw[G5,i3 (iG iR),i3 (iG iR),i3 (show eqT 5 (.str x) (.str y)=some (x==y)from rfl)];rfl
theorem wP:∀{xs:Ur},strs? (xs.map T.str)=some xs
 | []=>rfl
 |x::xs=>by
  show(strs? (xs.map T.str)).map (x:: ·)=_;rw[wP];rfl
theorem qW{xs:Ur}:aH (mY (.str x) (.lst (xs.map T.str)) C) Q↔JoinOk x xs=true/\Q (.str (Txt.join x xs)) C:=by
 have:mY (.str x) (.lst (xs.map T.str)) C=if JoinOk x xs=true then some (.str (Txt.join x xs),C)else none:=by
  show((strs? (xs.map T.str)).bind λc=>if JoinOk x c=true then some (T.str (Txt.join x c),C)else none)=_;rw[wP];rfl
 rw[this];exact tS
theorem Ob:aI (tb a lo o) d C Q↔aI a d C λt j=>pa lo d j λl g=>pa o d g λh c=>∃z,t=.str z/\z.length<=lim/\Q (.str (Txt.slice z l h)) c:=by
 unfold aI pa tb;constructor
 .rintro⟨t,u,e,q⟩;obtain⟨⟨x,j⟩,r,e⟩:=eW e;obtain⟨⟨y,g⟩,n,e⟩:=eW e;obtain⟨⟨z,c⟩,k,e⟩:=eW e;dsimp only at e;split at e
  .split at e
   .cases e;exact⟨_,j,r,y,g,n,z,_,k,_,rfl,‹_›,q⟩
   .cases e
  .cases e
 .rintro⟨x,j,r,y,g,n,z,c,k,w,rfl,s,q⟩;exact⟨_,c,by simp[r,n,k,s],q⟩
theorem SV{k:Nat}{is:Uo}{g:FG}:ej (rB a k is g fb m) d C p↔aI a d C λt c=>∃z,t=.str z/\(ip z).length<lim/\pb (iH g fb m (d3 k is d) (ip z) c) p:=by
 unfold aI ej rB pb;constructor
 .rintro⟨t,n,e,q⟩;obtain⟨⟨x,c⟩,l,e⟩:=eW e;dsimp only at e;split at e
  .split at e
   .exact⟨_,c,l,_,rfl,‹_›,t,n,e,q⟩
   .cases e
  .cases e
 .rintro⟨x,c,l,j,rfl,h,t,n,e,q⟩;exact⟨t,n,by rw[l];exact(V6 h).trans e,q⟩
end
end TL
namespace cx
open PySem L2 TL
def xZ:FS:=
 (BH (λi j=>i - j) Y0 Y3 Y2)
def lD:FS:=
 (gG (gZ (BD (e7 (fS (kK Y1 1 [0] (gN 0) gY (CS Y1 Y0))) fR)) (gN 2))
  (gG (ta Y1 (gN 3)
   xZ)
  (iY Y2)))
def mJ:tl->aq->Option (T×aq):=nN lD 4
end cx
namespace cx
open PySem L2 TL
noncomputable def rT(r:Int×Um):T:=.lst (.int r.1::r.2.map T.int)
end cx
namespace cx
open PySem L2 TL
end cx
set_option maxHeartbeats 1000000
namespace cx
open PySem L2 TL
end cx
namespace cx
open PySem L2 TL
end cx
namespace cx
open PySem L2 TL
end cx
namespace cx
open PySem L2 TL
inductive oD(ps:Uj)(x:Int):Int->Prop
 |refl:oD ps x x
 |step {y z:Int}:oD ps x y->(y,z)∈ps->oD ps x z
def FJ(ps:Uj)(m:Nat)(q:Int×Int):Prop:=¬(0<=q.1/\q.1<m)\/¬(0<=q.2/\q.2<m)\/oD ps q.2 q.1
theorem Mz{ps a:Uj}{m:Nat}{q:Int×Int}(c:FJ ps m q)(l:∀p∈ps,p∈a)(d:q∈a)(b:mf m a)(o:Um):¬qp a m o:=λt=>by
 rcases c with h|h|h
 .exact h (b q d).1
 .exact h (b q d).2
 .have pos:∀p∈a,o.idxOf p.1<o.idxOf p.2:=λp hp=>by
   have c:=t.all p.2.toNat (by have:=(b p hp).2;lia);rw[c7 (b p hp).2.1]at c;have e:o[o.idxOf p.2]?=some p.2:=by rw[bD (List.idxOf_lt_length_of_mem c),Vw]
   have n:=t.top _ _ e p.1 (by exact hp);obtain⟨k,i⟩:=gR n;have r:k<o.idxOf p.2:=by
    have:=(fA i).1;simp at this;lia
   rw[d5 r]at i;obtain⟨g,f⟩:=fA i;have:o.idxOf p.1=k:=by rw[<-f];exact t.nd.idxOf_getElem k g
   lia
  have le:∀{y},oD ps q.2 y->o.idxOf q.2<=o.idxOf y:=λh=>by
   induction h with
   |refl=>exact bI _
   |step _ j ih=>exact aX ih (dW (pos _ (l _ j)))
  have u:=le h;have s:=pos q d;lia
end cx
namespace cx
open PySem L2 TL
end cx
namespace cx
open PySem L2 TL
end cx
namespace cx
open PySem L2 TL
def Cd(m:Nat)(ps:Uj):Prop:=i9 [.int m,.lst (ps.map pT)]=some "NoOrder"
section
variable {a:List (Int×Int×Int)}{ps:Uj}{e:Int}(hl:a.length<=1000)(h:Cd a.length ps)
include hl h
end
end cx
namespace cx
open PySem L2 TL
end cx
namespace NF
noncomputable def sm:Nat->Up->Int
 |0,_=>0
 |n+1,g=>sm n g+g n
noncomputable def up(f:Up)(k:Nat)(v:Int):Up:=λj=>if j=k then v else f j
structure Nt where
 m:Nat
 t:Nat->Nat
 h:Nat->Nat
 d:Up
 c:Up
variable {N:Nt}{f c p q:Up}{a b x:Int}
def ti(N:Nt)(f p:Up):Prop:=∀k,k<N.m->(f k<N.c k->p (N.t k)+N.d k<=p (N.h k))/\(0<f k->p (N.h k)<=p (N.t k)+N.d k)
noncomputable def pos(x:Int):Int:=if 0<x then x else 0
def len(N:Nt)(f:Up):Int:=sm N.m λk=>f k*N.d k
noncomputable def rt(N:Nt)(e:Nat×Bool):Nat:=if e.2 then N.t e.1 else N.h e.1
noncomputable def rh(N:Nt)(e:Nat×Bool):Nat:=if e.2 then N.h e.1 else N.t e.1
noncomputable def rd(N:Nt)(e:Nat×Bool):Int:=if e.2 then N.d e.1 else - N.d e.1
noncomputable def rr(N:Nt)(f:Up)(e:Nat×Bool):Int:=if e.2 then N.c e.1 - f e.1 else f e.1
end NF
namespace NF
variable {N:Nt}{f p q st:Up}{a e x:Int}{n:Nat}
def In(N:Nt)(n:Nat):Prop:=∀k,k<N.m->N.t k<n/\N.h k<n
structure Cf(N:Nt)(n:Nat)(f st p:Up):Prop where
 ge:∀v,v<n->st v<=p v
 T9:ti N f p
 le:∀q,(∀v,v<n->st v<=q v)->ti N f q->∀v,v<n->p v<=q v
def Cc(N:Nt)(f:Up)(o:Nat×Bool):Prop:=o.1<N.m/\0<rr N f o
theorem p7:ti N f p↔∀o,Cc N f o->p (rt N o)+rd N o<=p (rh N o):=by
 constructor
 .rintro h ⟨k,b⟩ ⟨g,c⟩;obtain⟨d,i⟩:=h k g;unfold rr at c;unfold rt rd rh;cases b
  .simp only[cT,if_false]at c|-;have:=i c;lia
  .simp only[if_true]at c|-;exact d (Int.lt_of_sub_pos c)
 .intro h k g;refine⟨λd=>?_,λd=>?_⟩
  .have:=h (k,true) ⟨g,by unfold rr;simp only[if_true];exact Int.sub_pos_of_lt d⟩;simpa only[rt,rd,rh,if_true]using this
  .have:=h (k,false) ⟨g,by unfold rr;simp only[cT,if_false];exact d⟩;simp only[rt,rd,rh,cT,if_false]at this;lia
theorem Pb(d:ti N f p)(c:ti N f q)(x:Int):ti N f λv=>if p v<q v - x then q v - x else p v:=p7.mpr λo b=>by
 have:=p7.mp d o b;have:=p7.mp c o b;try dsimp only
 split<;>split<;>lia
theorem ends(L:Cf N n f (λv=>if v=1 then e else 0) p)(b:1<n){c:Up}(m:∀v,v<n->0<=c v)(l:ti N f c)(r:c 0=0)(i:c 1<=e)
 (g:(∃q,ti N f q/\q 0=0/\e<=q 1)\/∀o,Cc N f o->rt N o≠1):p 1=e/\p 0=0:=by
 have g1:=L.ge 1 b;have s:=L.ge 0 (UO b);simp only[if_true,V9 (show¬(0:Nat)=1 from by decide)]at g1 s;rcases g with⟨q,g,u,t⟩|g
 .have:=L.le _ (λv j=>?_) (Pb l g (q 1 - e))
  .have h:=this 1 b;have t0:=this 0 (UO b);try simp only at h t0
   split at h<;>split at t0<;>lia
  .have:=m v j;by_cases d:v=1
   .subst d;simp only[if_true];split<;>lia
   .simp only[V9 d];split<;>lia
 .have:=L.le (λv=>if v=1 then e else c v) (λv j=>?_) (p7.mpr λo k=>?_)
  .have h:=this 1 b;have t0:=this 0 (UO b);simp only[if_true,V9 (show¬(0:Nat)=1 from by decide)]at h t0;lia
  .by_cases d:v=1
   .simp only[V6 d];exact Int.le_refl _
   .simp only[V9 d];exact m v j
  .have:=p7.mp l o k;simp only[V9 (g o k)];split
   .rename_i z;rw[z]at this;exact Int.le_trans this i
   .exact this
end NF
namespace NF
structure Wk where
 u:Up
 l:Up
 p:Up
noncomputable def net(w:Wk)(n:Nat)(es:Uk)(P:Int):Nt where
 m:=4*n+es.length
 t k:=if k<4*n then(match k%4 with|0=>0|1=>2*(k/4)+2|2=>2*(k/4)+2|_=>2*(k/4)+3)else 2*((es[k - 4*n]?).getD (0,0)).1+3
 h k:=if k<4*n then(match k%4 with|0=>2*(k/4)+2|1=>2*(k/4)+3|2=>2*(k/4)+3|_=>1)else 2*((es[k - 4*n]?).getD (0,0)).2+2
 d k:=if k<4*n then(match k%4 with|1=>w.u (k/4)|2=>w.l (k/4)|_=>0)else 0
 c k:=if k<4*n/\k%4=1 then w.p (k/4)else P
variable {w:Wk}{n:Nat}{b:Uk}{P:Int}{f p q:Up}{a:Int}
end NF
namespace NF
variable {w:Wk}{n:Nat}{c:Uk}{P E:Int}{f p q b h:Up}{a:Int}
end NF
namespace NF
variable {w:Wk}{n:Nat}{c:Uk}{P E:Int}{f p q b h:Up}{a x:Int}
end NF
namespace NF
noncomputable abbrev Fl:=List ((Nat×Nat)×Int)
noncomputable def sl(L:Fl)(g:Nat×Nat->Int):Int:=(L.map λe=>e.2*g e.1).sum
noncomputable def tk(x:Int)(s:Nat×Nat)(L:Fl):Fl:=L.map λe=>if e.1=s then(e.1,e.2 - x)else e
end NF
namespace NF
variable {L:Fl}{a x:Int}
noncomputable def at_(L:Fl)(s:Nat×Nat):Int:=(L.lookup s).getD 0
end NF
namespace NF
variable {N:Nt}{f:Up}{a v:Int}{s:Nat×Nat}{g:Nat×Nat->Int}
end NF
namespace NF
variable {w:Wk}{n:Nat}{b:Uk}{P:Int}{f p:Up}{a:Int}
end NF
namespace NF
variable {w:Wk}{n:Nat}{b:Uk}{P c:Int}{f d p q m:Up}{a g e:Int}
end NF
namespace NF
variable {N:Nt}{n:Nat}{f st x p:Up}
end NF
namespace NF
variable {n:Nat}{a:Uk}
noncomputable def od{b:Type}:List b->List b
 |_::y::r=>y::od r
 |_=>[]
inductive Ky(n:Nat)(a:Uk)(s:Nat×Nat):Prop where
 |src (i:Nat) (hi:i<n) (e:s=(0,2*i+2))
 |wk (i:Nat) (hi:i<n) (e:s=(2*i+2,2*i+3))
 |T8 (i:Nat) (hi:i<n) (e:s=(2*i+3,1))
 |Ua (x y:Nat) (h:(x,y)∈a) (e:s=(2*x+3,2*y+2))
end NF
namespace TL
open PySem L2
section
variable {d:aB}{C:aq}{Q:T->aq->Prop}{l:tl->aq->Prop}{QS:Fl->aB->aq->Prop}{a b c g i j:FE}{fa:FN}{F:FS}
variable{m:String}{p tk:T}
def zK(m:String)(f:Str)(C:aq)(t:T):Ug:=(oc m C t).bind λx=>du f x.2.1 x.2.2
theorem jQ{f:Str}{t:T}:aH (CG m f t C) Q↔∃u,zK m f C t=some u/\Q u C:=by
 unfold aH CG zK;constructor
 .rintro⟨u,o,h,q⟩;obtain⟨x,k,h⟩:=eW h;obtain⟨y,n,h⟩:=eX h;cases h;exact⟨u,by rw[k];exact n,q⟩
 .rintro⟨u,h,q⟩;obtain⟨x,k,h⟩:=eW h;exact⟨u,C,by rw[k,aM,h];rfl,q⟩
def CA(m:String)(f:Str)(x:T)(C:aq)(t:T):Option aq:=(oc m C t).bind λy=>if y.2.1.length<900 then some (C.set y.1 (.o m (pn f y.2.1),pv f x y.2.1 y.2.2))else none
theorem HG{f:Str}(h:aI a d C λx r=>aI g d r λt o=>∃n,CA m f x o t=some n/\QS .nx d n):wpS (pS m f g a) d C QS:=by
 obtain⟨x,r,v,t,o,u,n,k,q⟩:=h;refine⟨.nx,d,n,?_,q⟩;unfold pS;rw[v,aM,u,aM];unfold CA at k;obtain⟨y,s,k⟩:=eW k;rw[s,aM];try dsimp only at k|-
 split at k
 .rename_i h;cases k;rw[V6 h]
 .cases k
theorem PH:aH (zS p tk C) Q↔∃t,gk C p tk=some (some t)/\Q t C:=by
 unfold aH zS;constructor
 .rintro⟨t,h,e,q⟩;split at e
  .rename_i u f;cases e;exact⟨_,f,q⟩
  .cases e
 .rintro⟨t,e,q⟩;exact⟨t,C,by rw[e],q⟩
theorem Pe{n:Bool}:aH (x0 n tk p C) Q↔∃o,gk C p tk=some o/\Q (.bl (o.isSome==n)) C:=by
 unfold aH x0;constructor
 .rintro⟨t,h,e,q⟩;obtain⟨o,f,e⟩:=eX e;cases e;exact⟨o,f,q⟩
 .rintro⟨o,e,q⟩;exact⟨_,C,by rw[e];rfl,q⟩
theorem Ry(h:aI j d C λk r=>aI g d r λp o=>aI i d o λtk n=>∃f,dput n p tk k=some f/\QS .nx d f):wpS (t8 g i j) d C QS:=by
 obtain⟨k,r,v,p,o,u,tk,n,t,f,s,q⟩:=h;refine⟨.nx,d,f,?_,q⟩;unfold t8;rw[v,aM];try dsimp only
 rw[u,aM];try dsimp only
 rw[t,aM];try dsimp only
 rw[s];rfl
end
end TL
set_option maxHeartbeats 2000000
namespace ed
open PySem L2 TL cx
variable{z:Str}{B:FS}{C':aq}
noncomputable abbrev BC:Str:="0123456789"
noncomputable abbrev ec:Str:="abcdefghijklmnopqrstuvwxyz"
def x4(g x:Str):Bool:=x.cps.toList.all λc=>uy g ⟨#[c]⟩
def gJ(g:Str)(m:Int)(x:Str):Bool:=decide (1<=(x.length:Int)/\(x.length:Int)<=m)&&x4 g x
theorem IA:ip z=z.cps.toList.map λc=>T.str ⟨#[c]⟩:=rfl
theorem Bs:z.cps.toList.length=z.length:=dH
theorem Eb:(ip z).length=z.length:=by rw[IA,aQ,Bs]
theorem HA{g x:Str}{m:Int}(h:x.length<=1000):iS [.str g,.int m,.str x]=some (.bl (gJ g m x)):=by
 apply jA;unfold qF gJ;walk_at "b";simp_arith[↓fK,↓Qc,↓SV,T.str.injEq];refine⟨by unfold lim;omega,?_⟩;by_cases b:1<=(x.length:Int)
 .rw[V6 (vG b)];by_cases a:(x.length:Int)<=m
  .rw[V6 (vG a)];refine⟨by rw[Eb];unfold lim;omega,?_⟩;rw[IA];refine mI (λc=>T.bl (uy g ⟨#[c]⟩)) (λc _=>?_) ?_
   .simp only[d3,aS,aN,aY,aU,aV,aT,b4,b5,cO];simp_arith[↓fK,↓MZ]
   rw[zE];refine⟨_,rfl,?_⟩;rw[iG jH,decide_eq_true ⟨b,a⟩,VT,UD];rfl
  .rw[V9 (by simpa using a),iG jH,decide_eq_false (λz=>a z.2),eB]
 .rw[V9 (by simpa using b),iG jH,decide_eq_false (λz=>b z.1),eB]
theorem vk{x:Str}:ew [T.str x]=true:=by walk_at "e"
theorem HU{x:Str}(h:x.length<=1000):l3 [.str x]=some (.bl (gJ ec 8 x)):=by
 have a:∀{C Q},aH (iX 3 iS [.str ec,.int 8,.str x] C) Q↔Q (.bl (gJ ec 8 x)) C:=gT (HA h) rfl (by walk_at "e");apply jA;unfold xA;walk_at "b";simp_arith[↓fK,↓a];exact iG jH
def iM(x:Str):Bool:=if(Txt.startswith x "0"&& !(x==("0":Str)))=true then false else gJ BC 30 x
theorem IM{x:Str}(h:x.length<=1000):lE [.str x]=some (.bl (iM x)):=by
 have a:∀{C Q},aH (iX 3 iS [.str BC,.int 30,.str x] C) Q↔Q (.bl (gJ BC 30 x)) C:=gT (HA h) rfl (by walk_at "e");apply jA;unfold uJ iM;walk_at "b";simp_arith[↓fK,↓QB,mG,↓Ng,↓a];cases c:Txt.startswith x "0" with
 |true=>
  rw[V6 rfl,VT];cases b: !(x==("0":Str))with
  |true=>rw[V6 rfl,V6 rfl];exact iG jH
  |false=>rw[V9 (by simp),V9 (by simp)];exact iG jH
 |false=>
  rw[V9 (by simp),eB,V9 (by simp)];exact iG jH
theorem Om{x:Str}{n:Int}(h:x.length<=640)(c:iM x=true)(b:intText? x=some n):kJ [.str x]=some (.int n):=by
 have a:∀{C Q},aH (iX 1 lE [.str x] C) Q↔Q (.bl (iM x)) C:=gT (IM (by omega)) rfl vk;apply jA;unfold kI;walk_at "b";simp_arith[↓fK,↓a,mG,c,↓Rx];rw[V9 (by simp)];exact⟨h,n,b,iG hJ⟩
theorem OM{x:Str}(h:x.length<=640)(b:iM x=false):jW [.str x]=some "NoText":=by
 have a:∀{C Q},aH (iX 1 lE [.str x] C) Q↔Q (.bl (iM x)) C:=gT (IM (by omega)) rfl vk;apply tK;unfold kI;walk_at "b";simp_arith[↓fK,↓a,mG,b,↓i7,aO,aP];rw[V6 (by decide)];decide
theorem j9{m:Nat}{ts:tl}{C:aq}{t:T}(h:wpS B (gg m ts) C λl _ D=>l=.rt t/\D=C'):nN B m ts C=some (t,C'):=by
 obtain⟨l,a,D,e,rfl,rfl⟩:=h;unfold nN;rw[e]
theorem kS{m:Nat}{ts:tl}{C:aq}{c:String}(h:wpS B (gg m ts) C λl _ D=>l=.ex c/\D=C'):lP B m ts C=some (c,C'):=by
 obtain⟨l,a,D,e,rfl,rfl⟩:=h;unfold lP;rw[e]
theorem lL{m:Nat}{a:tl}{C:aq}{p:T×aq}(h:nN B m a C=some p):lP B m a C=none:=by
 unfold nN at h;unfold lP;split at h
 .rename_i e;rw[e]
 .rename_i e;rw[e]
 .cases h
noncomputable abbrev Wk:=Str×Int×Int×Int
noncomputable def nT(p:Str×Str):T:=.lst [.str p.1,.str p.2]
noncomputable def wT(p:Wk):T:=.lst [.int p.2.1,.int p.2.2.1,.int p.2.2.2]
noncomputable def fx(ws:List Wk):List Key:=ws.map λp=>.inr p.1
def bk(ws:List Wk)(nd:List (Str×Str))(r:aq):aq:=(.o "Book" ["works","needs"],[.cell 1,.lst (nd.map nT)])::(.dk (fx ws),ws.map wT)::r
section
variable {ws:List Wk}{nd nd':List (Str×Str)}{r:aq}
variable{w:Str}
theorem FW:("needs":Str)≠"works":=by decide
theorem DX:("works":Str)≠"needs":=by decide
theorem B9:TL.oc "Book" (bk ws nd r) (T.cell 0)=some (0,(["works","needs"]:Ur),[T.cell 1,T.lst (nd.map nT)]):=rfl
theorem yI:zK "Book" "works" (bk ws nd r) (.cell 0)=some (.cell 1):=by
 unfold zK;rw[B9];simp[du]
theorem Es:zK "Book" "needs" (bk ws nd r) (.cell 0)=some (.lst (nd.map nT)):=by
 unfold zK;rw[B9];simp[du,FW]
theorem Am:CA "Book" "needs" (.lst (nd'.map nT)) (bk ws nd r) (.cell 0)=some (bk ws nd' r):=by
 unfold CA;rw[B9];simp[pn,TL.pv,DX,bk]
theorem vj:nk (bk ws nd r) (.cell 1)=some (1,fx ws,ws.map wT):=rfl
theorem EZ{x:Str}:∀{ws:List Wk},(vl ((fx ws).zip (ws.map wT)) (.inr x)).isSome=decide (x∈ws.map (·.1))
 | []=>rfl
 |p::ws=>by
  have ih:=EZ (x:=x) (ws:=ws);unfold vl fx at ih|-;rw[aN,aN,bO,cF,aN];by_cases h:p.1=x
  .subst h;simp
  .rw[decide_eq_false (λz=>h (Sum.inr.inj z))];dsimp only;rw[ih];simp[Ne.symm h]
theorem sd{x:Str}:gk (bk ws nd r) (.cell 1) (.str x)=some (vl ((fx ws).zip (ws.map wT)) (.inr x)):=by
 unfold gk;rw[vj];rfl
theorem CV{x:Str}{n:Bool}{Q:T->aq->Prop}:aH (x0 n (.str x) (.cell 1) (bk ws nd r)) Q↔Q (.bl (decide (x∈ws.map (·.1))==n)) (bk ws nd r):=by
 rw[Pe,sd];constructor
 .rintro⟨o,e,q⟩;cases e;rw[EZ]at q;exact q
 .intro q;exact⟨_,rfl,by rw[EZ];exact q⟩
theorem tW{t:T}{C:aq}(h:w.length<=1000)(b:gJ ec 8 w=true):nW [t,.str w] C=some (.str w,C):=by
 have a:∀{C Q},aH (iX 1 l3 [.str w] C) Q↔Q (.bl (gJ ec 8 w)) C:=gT (HU h) rfl vk;apply j9;unfold l4;walk_at "b";simp_arith[↓fK,↓a,mG,b];rw[V9 (by simp)];trivial
theorem Tg{t:T}{C:aq}(h:w.length<=1000)(b:gJ ec 8 w=false):mZ [t,.str w] C=some ("NoName",C):=by
 have a:∀{C Q},aH (iX 1 l3 [.str w] C) Q↔Q (.bl (gJ ec 8 w)) C:=gT (HU h) rfl vk;apply kS;unfold l4;walk_at "b";simp_arith[↓fK,↓a,mG,b,↓i7,aO,aP];rw[V6 (by decide)];decide
theorem sK(h:w∈ws.map (·.1)):m3 [.cell 0,.str w] (bk ws nd r)=some (.str w,bk ws nd r):=by
 apply j9;unfold lN;walk_at "b";simp_arith[↓fK,↓jQ,yI,↓CV,h];rw[V9 (by simp)];trivial
theorem zW(h:w∉ws.map (·.1)):lU [.cell 0,.str w] (bk ws nd r)=some ("NoName",bk ws nd r):=by
 apply kS;unfold lN;walk_at "b";simp_arith[↓fK,↓jQ,yI,↓CV,h,↓i7,aO,aP];rw[V6 (by decide)];decide
end
end ed
namespace ed
open PySem L2 TL cx
theorem wW{t:T}{w:Str}{n:Int}{C:aq}(h:w.length<=640)(c:iM w=true)(b:intText? w=some n):lV [t,.str w] C=some (.int n,C):=by
 have e:=Om h c b;have a:∀{C Q},aH (iX 1 kJ [.str w] C) Q↔Q (.int n) C:=gT e rfl vk;apply j9;unfold kG;walk_at "b";rw[nQ (by rw[nJ (n:=1) (ts:=[.str w]) rfl rfl vk];rw[show jW [.str w]=none from o5 e];rfl)];simp_arith[↓fK,↓a]
theorem RV{t:T}{w:Str}{C:aq}(h:w.length<=640)(a:iM w=false):lG [t,.str w] C=some ("NoText",C):=by
 apply kS;unfold kG;walk_at "b";rw[nR (c:="NoText") (C':=C) (by rw[nJ (n:=1) (ts:=[.str w]) rfl rfl vk,OM h a];rfl)];exact⟨rfl,rfl⟩
section
variable {ws:List Wk}{nd a:List (Str×Str)}{r:aq}
variable{xs:Ur}{u l p:Int}
theorem pQ:(fx ws).length=ws.length:=by unfold fx;rw[aQ]
theorem xK{Q:T->aq->Prop}:aH (B4 [.cell 1] (bk ws nd r)) Q↔Q (.int ws.length) (bk ws nd r):=by
 unfold B4;dsimp only;rw[vj,aM];dsimp only;rw[V6 (by rw[pQ,aQ]),iE,pQ]
noncomputable abbrev Cu(n:Str)(u l p:Int):T:=.lst [.str n,.int u,.int l,.int p]
theorem qo{x:T}{xs:tl}:vT (x::xs) (some 1) none=xs:=by
 simp[vT,HT.cb]
theorem Jo(h:u<l):decide (u<l)=true:=decide_eq_true h
theorem F5(h:l<=u):decide (u<l)=false:=decide_eq_false (U3.mpr h)
theorem pM{n:Str}{C:aq}{t:T}(h:u<l):nP [t,Cu n u l p] C=some ("NoText",C):=by
 apply kS;unfold nK;walk_at "b";simp_arith[↓fK,↓i7,aO,aP,uD,EU,qo];rw[V6 (Jo h)];decide
theorem pH{n:Str}(h:l<=u)(b:n∉ws.map (·.1))(c:8<=ws.length):nP [.cell 0,Cu n u l p] (bk ws nd r)=some ("NoRoom",bk ws nd r):=by
 apply kS;unfold nK;walk_at "b";simp_arith[↓fK,↓i7,aO,aP,uD,EU,qo,↓jQ,yI,↓CV,b,↓xK];rw[V9 (by rw[F5 h];decide),V6 (by decide),V6 (decide_eq_true (by lia))];decide
noncomputable def t7(ws:List Wk)(x:Wk):List Wk:=if x.1∈ws.map (·.1)then ws.map λp=>if p.1=x.1 then x else p else ws++[x]
theorem Pu{x:Wk}(hl:ws.length<100):dput (bk ws nd r) (.cell 1) (.str x.1) (wT x)=some (bk (t7 ws x) nd r):=by
 unfold dput;rw[vj];have f:uw (.str x.1)=some (.inr x.1):=rfl;dsimp only;rw[f,aM,V6 (by rw[pQ];exact US hl (by decide))];have b:((Sum.inr x.1:Key)∈fx ws)↔x.1∈ws.map (·.1):=by
  unfold fx;simp
 unfold t7;by_cases h:x.1∈ws.map (·.1)
 .have c:lb (Sum.inr x.1:Key) (fx ws)=fx (ws.map λp=>if p.1=x.1 then x else p):=by
   unfold lb;rw[V6 (b.mpr h)];unfold fx;rw[cK];refine d0 λp _=>?_;by_cases e:p.1=x.1
   .simp[e]
   .simp[e]
  have d:TL.i2 (Sum.inr x.1:Key) (wT x) (fx ws) (ws.map wT)=(ws.map λp=>if p.1=x.1 then x else p).map wT:=by
   unfold TL.i2;rw[V6 (b.mpr h)];clear b h c hl;induction ws with
   |nil=>rfl
   |cons p ws ih=>
    unfold fx at ih|-;rw[aN,aN,bO,aN,ih,aN,aN];by_cases e:p.1=x.1
    .simp[e]
    .simp[e]
  rw[V6 h,c,d];rfl
 .have c:lb (Sum.inr x.1:Key) (fx ws)=fx (ws++[x]):=by
   unfold lb;rw[V9 (λz=>h (b.mp z))];unfold fx;rw[bW];rfl
  have d:TL.i2 (Sum.inr x.1:Key) (wT x) (fx ws) (ws.map wT)=(ws++[x]).map wT:=by
   unfold TL.i2;rw[V9 (λz=>h (b.mp z)),bW];rfl
  rw[V9 h,c,d];rfl
theorem QI{n:Str}(h:l<=u)(d:n∈ws.map (·.1)\/ws.length<8)(hl:ws.length<100):qL [.cell 0,Cu n u l p] (bk ws nd r)=some (.str "ok",bk (t7 ws (n,u,l,p)) nd r):=by
 apply j9;unfold nK;walk_at "b";simp_arith[↓fK,↓i7,aO,aP,uD,EU,qo,↓jQ,yI,↓CV,↓xK];rw[V9 (by rw[F5 h];decide)];have b:wpS (t8 (mM "Book" "works" Y0) Y2 Y3) [some (.cell 0),some (Cu n u l p),some (.str n),some (.lst [.int u,.int l,.int p])] (bk ws nd r) (sq (iY (fC (.str "ok"))) λf _ D=>f=.rt (.str "ok")/\D=bk (t7 ws (n,u,l,p)) nd r):=by
  refine Ry ?_;simp_arith[↓fK,↓jQ,yI];exact⟨_,Pu (x:=(n,u,l,p)) hl,rfl⟩
 by_cases c:n∈ws.map (·.1)
 .rw[V9 (by rw[decide_eq_true c];decide)];exact b
 .rw[V6 (by rw[decide_eq_false c];decide),V9 (by rw[decide_eq_false (by have:=d.resolve_left c;lia)];decide)];exact b
noncomputable def sx:T->Str
 | .int i=>toString i
 | .str x=>x
 |_=>""
def qi:T->Prop
 | .int i=>i.natAbs.log2<1920/\(toString i:Str).length<=1000
 | .str x=>x.length<=1000
 |_=>False
theorem yX(h:∀x∈xs,x.length<=1000)(hl:xs.length<=1000):JoinOk " " xs=true:=by
 unfold JoinOk;rw[StrLaws.joinFits (B:=1000) h (by
  have:(" ":Str).length=1:=by decide
  rw[this];have:xs.length*1000<=1000*1000:=Nat.mul_le_mul_right _ hl;lia)]
 rfl
theorem rF{g:FG}{d:FE}{c:aB}{C:aq}{b:tl}{f:tl->aq->Prop}(u:T->T)(h:∀x∈b,mr g x C c λj=>aI d j C λt k=>k=C/\t=u x)(i:f (b.map u) C):pb (iH g gY d c b C) f:=by
 have key:=mI (en:=λt:T=>t) u h i;rw[List.map_id']at key;exact key
theorem wZ{ts:tl}(h:∀t∈ts,qi t)(hl:ts.length<=1000):kH [.lst ts]=some (.str (Txt.join " " (ts.map sx))):=by
 apply jA;unfold zJ;walk_at "b";simp_arith[↓fK];refine⟨by unfold lim;lia,?_⟩;refine rF (λt=>T.str (sx t)) (λt b=>?_) ?_
 .have ok:=h t b;simp only[d3,aS,aY,aU,aV,aT];simp_arith[↓fK];unfold B6 sx;cases t with
  |int i=>dsimp only;rw[V6 ok.1,iE];exact⟨rfl,rfl⟩
  |str x=>dsimp only;rw[iE];exact⟨rfl,rfl⟩
  |_=>exact ok.elim
 .have e:(ts.map λt=>T.str (sx t))=(ts.map sx).map T.str:=by rw[cK];rfl
  rw[e,qW];refine⟨yX (λx c=>?_) (by rw[aQ];exact hl),iG iR⟩;obtain⟨t,b,rfl⟩:=fQ c;have ok:=h t b;unfold sx;cases t with
  |int i=>exact ok.2
  |str x=>exact ok
  |_=>exact ok.elim
theorem Hc:∀{ws:List Wk},x3 (fx ws)=some (ws.map (·.1))
 | []=>rfl
 |p::ws=>by
  have:=Hc (ws:=ws);unfold fx at this|-;rw[aN];unfold x3;rw[this];rfl
theorem w5{Q:tl->Prop}(hl:ws.length<=1000):jo (u8 [.cell 1] (bk ws nd r)) Q↔Q ((ws.map (·.1)).map T.str):=by
 unfold u8;dsimp only;rw[vj,aM];dsimp only;rw[Hc,aM,V6 (by rw[aQ];exact Hm hl),uV]
theorem ox:ew (xs.map T.str)=true:=mX λ_ _=>iR
theorem HN:(xs.map T.str).map sx=xs:=by rw[cK];exact(d0 λ_ _=>rfl).trans (VQ _)
theorem Qx{t:T}(hl:ws.length<=1000)(f:∀p∈ws,p.1.length<=1000):lQ [.cell 0,t] (bk ws nd r)=some (.str (Txt.join " " (ws.map (·.1))),bk ws nd r):=by
 have b:∀{C Q},aH (iX 1 kH [.lst ((ws.map (·.1)).map T.str)] C) Q↔Q (.str (Txt.join " " (ws.map (·.1)))) C:=by
  have e:=wZ (ts:=(ws.map (·.1)).map T.str) (λt d=>by
   obtain⟨x,c,rfl⟩:=fQ d;obtain⟨p,hp,rfl⟩:=fQ c;exact f p hp) (by rw[aQ,aQ];exact hl)
  rw[HN]at e;intro C Q;exact gT e rfl (by rw[gE,g9,ox];rfl)
 apply j9;unfold lX;walk_at "b";simp_arith[↓fK,↓jQ,yI,↓w5 hl,↓b]
end
end ed
namespace ed
open PySem L2 TL cx
section
variable {ws:List Wk}{nd nd':List (Str×Str)}{r:aq}
variable{p q:Str×Str}{Q:T->aq->Prop}{xs:Ur}
theorem K3:eqT 5 (nT p) (nT q)=some (decide (p=q)):=by
 have e:eqT 5 (nT p) (nT q)=some ((p.1==q.1)&&((p.2==q.2)&&true)):=rfl;rw[e];congr 1;obtain⟨a,b⟩:=p;obtain⟨c,d⟩:=q;simp only[Uy.injEq,b6];rw[dD];simp
theorem GU{q:Str×Str}:∀{nd:List (Str×Str)},mz (λu=>eqT 5 u (nT q)) (nd.map nT)=some (decide (q∈nd))
 | []=>rfl
 |p::nd=>by
  rw[aN];unfold mz;rw[K3,aM,GU];by_cases h:p=q
  .subst h;simp
  .simp[h,Ne.symm h]
theorem Gu:CF (nT p)=true:=by unfold nT;rw[g9];walk_at "e"
theorem Lh{nd:List (Str×Str)}:ew (nd.map nT)=true:=mX λ_ _=>Gu
theorem Ft{n:Bool}{C:aq}:aH (jy n (nT q) (.lst (nd.map nT)) C) Q↔Q (.bl (if n then !(decide (q∈nd))else decide (q∈nd))) C:=by
 unfold jy;rw[iG Gu,aM];show aH ((some (nd.map nT)).bind _) Q↔_;rw[aM,tJ Lh,aM,GU,cY,iE]
theorem Ko{n a b:Str}:mz (λu=>eqT 5 u (.str n)) [.str a,.str b]=some (decide (n=a\/n=b)):=by
 have e:mz (λu=>eqT 5 u (.str n)) [.str a,.str b]=some ((a==n)||((b==n)||false)):=rfl;rw[e];by_cases d:a=n
 .subst d;simp
 .by_cases c:b=n
  .subst c;simp
  .simp[d,c,Ne.symm d,Ne.symm c]
theorem Pj{n:Str}{C:aq}:aH (jy true (.str n) (nT q) C) Q↔Q (.bl (!(decide (n=q.1\/n=q.2)))) C:=by
 unfold jy;rw[iG iR,aM];show aH ((some [T.str q.1,T.str q.2]).bind _) Q↔_;rw[aM,tJ (by walk_at "e"),aM,Ko,cY,iE];rfl
def BK(ws:List Wk)(nd:List (Str×Str))(r:aq):aq:=(.o "Book" ["works","needs"],[.cell 1,.lst (nd.map nT)])::(.dy (fx ws),ws.map wT)::r
theorem BB:zK "Book" "needs" (BK ws nd r) (.cell 0)=some (.lst (nd.map nT)):=by
 have oc_y:TL.oc "Book" (BK ws nd r) (T.cell 0)=some (0,(["works","needs"]:Ur),[T.cell 1,T.lst (nd.map nT)]):=rfl;unfold zK;rw[oc_y];simp[du,FW]
theorem JG:(fx ws).map kT=(ws.map (·.1)).map T.str:=by
 unfold fx;rw[cK,cK];rfl
theorem S6{a:FE}{k:Nat}{is:Uo}{g:FG}{d:FB}{f:FE}{b:aB}{i:tl->aq->Prop}(l:a b (bk ws nd r)=some (.cell 1,bk ws nd r))(hl:ws.length<=1000)
 (h:pb (iH g d f (d3 k is b) ((ws.map (·.1)).map T.str) (BK ws nd r)) λc D=>D=BK ws nd r/\i c (bk ws nd r)):ej (rE a k is g d f) b (bk ws nd r) i:=by
 obtain⟨c,D,e,rfl,q⟩:=h;refine⟨c,bk ws nd r,?_,q⟩;unfold rE;rw[l,aM];dsimp only;rw[vj,aM];dsimp only;rw[V6 ⟨by rw[pQ];unfold lim;lia,by rw[pQ,aQ]⟩,JG];have j:(bk ws nd r).set 1 (.dy (fx ws),ws.map wT)=BK ws nd r:=rfl;rw[j,e,aM];rfl
theorem Oh{x:Wk}(h:vl ((fx ws).zip (ws.map wT)) (.inr x.1)=some (wT x)):aH (zS (.cell 1) (.str x.1) (bk ws nd r)) Q↔Q (wT x) (bk ws nd r):=by
 rw[PH,sd,h];constructor
 .rintro⟨t,e,q⟩;cases e;exact q
 .intro q;exact⟨_,rfl,q⟩
theorem EN{x:Wk}:∀{ws:List Wk},(ws.map (·.1)).Nodup->x∈ws->vl ((fx ws).zip (ws.map wT)) (.inr x.1)=some (wT x)
 | [],_,h=>by simp at h
 |p::ws,a,h=>by
  unfold vl fx;rw[aN,aN,bO,cF];rw[aN,UW]at a;rcases fU h with rfl|h
  .rw[decide_eq_true rfl];rfl
  .have b:p.1≠x.1:=λz=>a.1 (gL ⟨x,h,z.symm⟩);rw[decide_eq_false (λz=>b (Sum.inr.inj z))];exact EN a.2 h
noncomputable def sC(ws:List Wk)(nd:List (Str×Str))(x:Wk):Str:=Txt.join " " (([toString x.2.1,toString x.2.2.1,toString x.2.2.2]:Ur)++(ws.map (·.1)).filter λf=>decide ((f,x.1)∈nd))
theorem NU{f:Str->Bool}:((xs.filter f).map T.str).map sx=xs.filter f:=HN
theorem M5{x:Wk}(hl:ws.length<=900)(h:∀p∈ws,p.1.length<=1000)(i:(ws.map (·.1)).Nodup)(g:x∈ws)(b:qi (.int x.2.1)/\qi (.int x.2.2.1)/\qi (.int x.2.2.2)):
 m5 [.cell 0,.lst [.str x.1]] (bk ws nd r)=some (.str (sC ws nd x),bk ws nd r):=by
 have j:((ws.map (·.1)).filter λf=>decide ((f,x.1)∈nd)).length<=900:=aX (dP _ _) (by rw[aQ];exact hl);have d:∀{C Q},aH (iX 1 kH [.lst ([.int x.2.1,.int x.2.2.1,.int x.2.2.2]++((ws.map (·.1)).filter λf=>decide ((f,x.1)∈nd)).map T.str)] C) Q↔Q (.str (sC ws nd x)) C:=by
  have e:=wZ (ts:=[.int x.2.1,.int x.2.2.1,.int x.2.2.2]++((ws.map (·.1)).filter λf=>decide ((f,x.1)∈nd)).map T.str) (λt a=>by
   rcases f8 a with a|a
   .simp only[bX,bS,or_false]at a;rcases a with rfl|rfl|rfl
    .exact b.1
    .exact b.2.1
    .exact b.2.2
   .obtain⟨y,c,rfl⟩:=fQ a;obtain⟨p,hp,rfl⟩:=fQ (hV c).1;exact h p hp) (by rw[bN,aQ];simp only[aO,aP];omega)
  rw[bW,NU]at e
  replace e:kH [.lst ([.int x.2.1,.int x.2.2.1,.int x.2.2.2]++((ws.map (·.1)).filter λf=>decide ((f,x.1)∈nd)).map T.str)]=some (.str (sC ws nd x)):=e
  intro C Q;refine gT e rfl ?_;rw[gE,g9,tG.mpr]
  .rfl
  .intro t a;rcases f8 a with a|a
   .simp only[bX,bS,or_false]at a;rcases a with rfl|rfl|rfl<;>exact hJ
   .obtain⟨y,c,rfl⟩:=fQ a;exact iR
 apply j9;unfold mT;walk_at "b";simp_arith[↓fK,↓jQ,yI,uD,↓Oh (EN i g)];refine S6 (by unfold mM;rfl) (by omega) ?_;simp only[d3,aS,aY,aN,aU,aV,aT,b4,b5,cO];refine tM (λf=>decide ((f,x.1)∈nd)) T.str (λf k=>?_) ?_
 .simp_arith[↓fK,↓jQ,BB];refine⟨by decide,?_⟩;refine(Ft (n:=false) (q:=(f,x.1))).mpr ?_;exact⟨_,rfl,rfl,rfl,λ_=>trivial⟩
 .refine⟨rfl,_,rfl,?_,d.mpr ⟨rfl,rfl⟩⟩;rw[aQ];simp only[aO,aP];unfold lim;omega
theorem HV{n:Str}:∀{ws:List Wk},vh (.inr n) (fx ws) (ws.map wT)=(fx (ws.filter λp=>decide (p.1≠n)),(ws.filter λp=>decide (p.1≠n)).map wT)
 | []=>rfl
 |p::ws=>by
  have ih:=HV (n:=n) (ws:=ws);unfold vh fx at ih|-;rw[aN,aN,bO];by_cases h:p.1=n
  .rw[eA (by simp[h]),eA (by simp[h])];exact ih
  .rw[d9 (by simp[h]),d9 (by simp[h])];simp only[Uy.injEq,aN]at ih|-;exact⟨by rw[ih.1],by rw[ih.2]⟩
noncomputable def iw(n:Str)(nd:List (Str×Str)):List (Str×Str):=nd.filter λq=> !(decide (n=q.1\/n=q.2))
noncomputable def ym(n:Str)(ws:List Wk):List Wk:=ws.filter λp=>decide (p.1≠n)
theorem Oi{x:Wk}(b:(ws.map (·.1)).Nodup)(a:x∈ws)(hl:nd.length<=1000):mJ [.cell 0,.lst [.str x.1]] (bk ws nd r)=some (.str "ok",bk (ym x.1 ws) (iw x.1 nd) r):=by
 apply j9;unfold lD;walk_at "b";have c:v4 (mM "Book" "works" Y0) (f7 Y1 (fI 0)) [some (.cell 0),some (.lst [.str x.1])] (bk ws nd r)=some (wT x,bk (ym x.1 ws) nd r):=by
  have f1:mM "Book" "works" Y0 [some (T.cell 0),some (.lst [.str x.1])] (bk ws nd r)=some (.cell 1,bk ws nd r):=rfl;have f2:f7 Y1 (fI 0) [some (T.cell 0),some (.lst [.str x.1])] (bk ws nd r)=some (.str x.1,bk ws nd r):=rfl;unfold v4;rw[f1,aM];dsimp only;rw[vj,Vi,V6 rfl,f2,aM];dsimp only;rw[vj,aM];show(some (Sum.inr x.1:Key)).bind _=_;rw[aM,EN b a,cY,HV];rfl
 rw[o0,tX];refine⟨_,_,c,?_⟩;show wpS _ _ _ _;rw[o0];refine HG ?_;simp_arith[↓fK,↓jQ,Es];refine⟨by rw[aQ];unfold lim;omega,?_⟩;refine tM (λq=> !(decide (x.1=q.1\/x.1=q.2))) nT (λq d=>?_) ?_
 .simp only[d3,aS,aY,aN,aU,aV,aT,b4,b5,cO];simp_arith[↓fK,uD,↓Pj];exact λ_=>trivial
 .exact⟨_,Am (nd':=iw x.1 nd),rfl⟩
noncomputable def ix(ws:List Wk)(x:Str):Int:=((ws.map (·.1)).idxOf x:Nat)
def fi(ws:List Wk)(q:Str×Str):Int×Int:=(ix ws q.1,ix ws q.2)
theorem IQ:∀{xs:Ur},strs? (xs.map T.str)=some xs
 | []=>rfl
 |x::xs=>by rw[aN];unfold strs?;rw[IQ];rfl
theorem Hw{x:Str}{C:aq}(h:x∈xs):aH (qC (.lst (xs.map T.str)) (.str x) C) Q↔Q (.int (xs.idxOf x:Nat)) C:=by
 have e:qC (.lst (xs.map T.str)) (.str x) C=some (.int (xs.idxOf x:Nat),C):=by
  unfold qC;dsimp only;rw[show dR [] (T.lst (xs.map T.str))=some (xs.map T.str)from rfl,aM,IQ,aM,V6 h]
 rw[e,iE]
def Ci(ws:List Wk)(nd:List (Str×Str)):Prop:=∀q∈nd,q.1∈ws.map (·.1)/\q.2∈ws.map (·.1)
theorem sI{a:List (Str×Str)}(hl:ws.length<=1000)(d:a.length<=1000)(c:Ci ws a):jO [.cell 0,.lst (a.map nT)] (bk ws nd r)=some (.lst ((a.map (fi ws)).map pT),bk ws nd r):=by
 apply j9;unfold uG;walk_at "b";simp_arith[↓fK,↓jQ,yI,↓w5 hl];refine⟨by rw[aQ];unfold lim;omega,?_⟩;refine mI (λq=>pT (fi ws q)) (λq b=>?_) ?_
 .simp only[d3,aS,aY,aN,aU,aV,aT,b4,b5,cO];unfold nT;simp_arith[↓fK,↓Hw (c q b).1,↓Hw (c q b).2];exact⟨by decide,rfl⟩
 .rw[cK];exact⟨rfl,rfl⟩
theorem rY{t:T}(b:jO [T.cell 0,.lst ((nd++[q]).map nT)] (bk ws nd r)=some (t,bk ws nd r)):
 (e7 (wA (e7 (mM "Book" "works" Y0) fR)) (e7 (oH 2 jO (e7 Y0 (e7 Y2 fR))) fR)) [some (T.cell 0),some (nT q),some (T.lst ((nd++[q]).map nT))] (bk ws nd r)=some ([.int ws.length,t],bk ws nd r):=by
 have h:ej (e7 (wA (e7 (mM "Book" "works" Y0) fR)) (e7 (oH 2 jO (e7 Y0 (e7 Y2 fR))) fR)) [some (T.cell 0),some (nT q),some (T.lst ((nd++[q]).map nT))] (bk ws nd r) λa D=>a=[.int ws.length,t]/\D=bk ws nd r:=by
  simp_arith[↓fK,↓jQ,yI,↓xK];unfold pL;rw[V6 (show[T.cell 0,T.lst (List.map nT (nd++[q]))].length=2 from rfl),b,iE];exact⟨rfl,rfl⟩
 obtain⟨a,D,e,rfl,rfl⟩:=h;exact e
theorem rN{ps:Uj}:ew (ps.map pT)=true:=mX λp _=>by unfold pT;rw[g9];walk_at "e"
theorem O0(hl:ws.length<=8)(h:nd.length<=900)(c:Ci ws (nd++[q]))(b:q∉nd)(a:mf ws.length ((nd++[q]).map (fi ws))->∀o,¬qp ((nd++[q]).map (fi ws)) ws.length o):
 iU [.cell 0,nT q] (bk ws nd r)=some ("NoOrder",bk ws nd r):=by
 have g:=sI (nd:=nd) (r:=r) (aX hl (by decide)) (by rw[bN];simp only[aO,aP];omega) c;have f:=Sk (m:=ws.length) (ps:=(nd++[q]).map (fi ws)) hl (by rw[aQ,bN];simp only[aO,aP];omega) a;have d:nd.map nT++[nT q]=(nd++[q]).map nT:=by rw[bW];rfl
 apply kS;unfold mL;walk_at "b";simp_arith[↓fK,↓jQ,Es,↓Ft,b];rw[V6 (by decide)];refine⟨by decide,by rw[aQ];unfold lim;omega,?_⟩;rw[d,nR (c:="NoOrder") (C':=bk ws nd r) (by rw[nJ (n:=2) (rY g) rfl (by rw[gE,gE,g9,rN];rfl),f];rfl)];exact⟨rfl,rfl⟩
theorem NV(hl:ws.length<=8)(i:nd.length<=900)(f:Ci ws (nd++[q]))(a:q∉nd)(d:mf ws.length ((nd++[q]).map (fi ws)))(g:De ((nd++[q]).map (fi ws))):
 n4 [.cell 0,nT q] (bk ws nd r)=some (.str "ok",bk ws (nd++[q]) r):=by
 have c:=sI (nd:=nd) (r:=r) (aX hl (by decide)) (by rw[bN];simp only[aO,aP];omega) f;obtain⟨t,b,o,rfl,_⟩:=Sa (m:=ws.length) (ps:=(nd++[q]).map (fi ws)) hl (by rw[aQ,bN];simp only[aO,aP];omega) d g;have h:nd.map nT++[nT q]=(nd++[q]).map nT:=by rw[bW];rfl
 apply j9;unfold mL;walk_at "b";simp_arith[↓fK,↓jQ,Es,↓Ft,a];rw[V6 (by decide)];refine⟨by decide,by rw[aQ];unfold lim;omega,?_⟩;rw[h,nQ (by rw[nJ (n:=2) (rY c) rfl (by rw[gE,gE,g9,rN];rfl),show i9 [.int ws.length,.lst (((nd++[q]).map (fi ws)).map pT)]=none from o5 b];rfl),tX];have a:iX 2 j5 [.int ws.length,.lst (((nd++[q]).map (fi ws)).map pT)] (bk ws nd r)=some (.lst (o.map T.int),bk ws nd r):=by
  unfold iX;rw[V6 (show[T.int ws.length,T.lst (((nd++[q]).map (fi ws)).map pT)].length=2 from rfl),V6 (by rw[gE,gE,g9,rN];rfl),b];rfl
 refine⟨.lst (o.map T.int),bk ws nd r,by unfold iN mR;rw[rY c];exact a,?_⟩;show wpS _ _ _ _;refine HG ?_;simp_arith[↓fK];exact⟨_,Am (nd':=nd++[q]),rfl⟩
end
end ed
namespace ed
open PySem L2 TL cx
variable{r:List Uo}
noncomputable def gl:List Uo->Uo
 | []=>[]
 | [a]=>a
 |a::b::r=>a++32::gl (b::r)
theorem qV:∀xs:Ur,(Str.join " " xs).cps.toList=gl (xs.map (·.cps.toList))
 | []=>rfl
 | [x]=>rfl
 |x::y::r=>by
  have ih:=qV (y::r);show((x.cps++(" ":Str).cps)++(Str.join " " (y::r)).cps).toList=_;rw[c8,c8,ih];show _++[32]++_=_;rw[eD];rfl
theorem OU{a b s t:Uo}(d:32∉a)(c:32∉b)(g:s=[]\/∃u,s=32::u)(f:t=[]\/∃u,t=32::u)(e:a++s=b++t):a=b/\s=t:=by
 induction a generalizing b with
 |nil=>
  cases b with
  |nil=>exact⟨rfl,e⟩
  |cons y b=>
   rcases g with rfl| ⟨u,rfl⟩
   .cases e
   .injection e with e _;subst e;exact absurd bG c
 |cons x a ih=>
  cases b with
  |nil=>
   rcases f with rfl| ⟨u,rfl⟩
   .cases e
   .injection e with e _;subst e;exact absurd bG d
  |cons y b=>
   injection e with i h
   subst i;obtain⟨rfl,rfl⟩:=ih (λz=>d (bJ _ z)) (λz=>c (bJ _ z)) h;exact⟨rfl,rfl⟩
def xb:List Uo->Uo
 | []=>[]
 |b::r=>32::gl (b::r)
theorem qM{a:Uo}:gl (a::r)=a++xb r:=by
 cases r with
 |nil=>unfold gl xb;rw[aT]
 |cons b r=>rfl
theorem GW:xb r=[]\/∃u,xb r=32::u:=by
 cases r with
 |nil=>exact .inl rfl
 |cons b r=>exact .inr ⟨_,rfl⟩
theorem He:∀{c bs:List Uo},c≠[]->bs≠[]->(∀a∈c,32∉a)->(∀b∈bs,32∉b)->gl c=gl bs->c=bs
 | [],_,h,_,_,_,_=>absurd rfl h
 |_::_,[],_,h,_,_,_=>absurd rfl h
 |a::c,b::bs,_,_,i,g,e=>by
  rw[qM,qM]at e;obtain⟨j,d⟩:=OU (i _ bG) (g _ bG) GW GW e;clear e;subst j;cases c with
  |nil=>
   cases bs with
   |nil=>rfl
   |cons y bs=>cases d
  |cons x c=>
   cases bs with
   |nil=>cases d
   |cons y bs=>
    unfold xb at d;injection d with _ e
    rw[He (by simp) (by simp) (λz f=>i z (bJ _ f)) (λz f=>g z (bJ _ f)) e]
theorem u4{x:Str}{b:Ur}(g:b≠[])(f:∀w∈b,32∉w.cps.toList)(e:x.cps.toList=gl (b.map (·.cps.toList))):Txt.split x " "=b:=by
 have d:(Str.join " " (Txt.split x " ")).cps.toList=x.cps.toList:=by rw[StrLaws.join_split]
 rw[qV,e]at d;have i:=He (by
  have:=VW x " ";intro z;rw[Vu]at z;rw[z]at this;exact absurd this (by decide)) (λz=>g (Vu.mp z)) (λa c=>by
  obtain⟨p,hp,rfl⟩:=fQ c;exact StrLaws.split_free x 32 p hp) (λa c=>by
  obtain⟨p,hp,rfl⟩:=fQ c;exact f p hp) d
 exact List.map_inj_right (f:=λs:Str=>s.cps.toList) (λp q h=>by
  cases p;cases q;simpa using h) |>.mp i
noncomputable def aE:Ur->Ur->Ur
 | [],ys=>ys
 | [x],[]=>[x]
 | [x],y::ys=>(x++y)::ys
 |x::y::r,ys=>x::aE (y::r) ys
theorem IJ:∀{xs a:Ur},(∀w∈xs,32∉w.cps.toList)->(∀w∈a,32∉w.cps.toList)->∀w∈aE xs a,32∉w.cps.toList
 | [],a,_,h=>h
 | [x],[],h,_=>h
 | [x],y::a,c,b=>by
   intro w hw;unfold aE at hw;rcases fU hw with rfl|hw
   .show 32∉(x.cps++y.cps).toList;rw[c8,dO];exact λz=>z.elim (c x bG) (b y bG)
   .exact b w (bJ _ hw)
 |x::y::r,a,c,b=>by
  intro w hw;unfold aE at hw;rcases fU hw with rfl|hw
  .exact c _ bG
  .exact IJ (λz d=>c z (bJ _ d)) b w hw
theorem Hj:∀{xs ys:Ur},xs≠[]->ys≠[]->gl ((aE xs ys).map (·.cps.toList))=gl (xs.map (·.cps.toList))++gl (ys.map (·.cps.toList))
 | [],_,h,_=>absurd rfl h
 |_,[],_,h=>absurd rfl h
 | [x],y::ys,_,_=>by
   unfold aE;rw[aN,qM,aN,qM,aN,qM];show(x.cps++y.cps).toList++_=_;rw[c8];simp[xb]
 |x::y::r,z::ys,_,_=>by
  unfold aE;have ih:=Hj (xs:=y::r) (ys:=z::ys) (by simp) (by simp);have:∃u v,aE (y::r) (z::ys)=u::v:=by
   cases r with
   |nil=>exact⟨_,_,rfl⟩
   |cons a r=>exact⟨_,_,rfl⟩
  obtain⟨u,v,e⟩:=this;rw[e]at ih|-;calc gl ((x::u::v).map (·.cps.toList))=x.cps.toList++32::gl ((u::v).map (·.cps.toList)):=rfl
   _=x.cps.toList++32::(gl ((y::r).map (·.cps.toList))++gl ((z::ys).map (·.cps.toList))):=by rw[ih]
   _=(x.cps.toList++32::gl ((y::r).map (·.cps.toList)))++gl ((z::ys).map (·.cps.toList)):=by rw[eD];rfl
   _=gl ((x::y::r).map (·.cps.toList))++gl ((z::ys).map (·.cps.toList)):=rfl
theorem Ms:∀{xs a:Ur},xs≠[]->aE xs a≠[]
 | [],_,h=>absurd rfl h
 | [x],[],_=>by unfold aE;simp
 | [x],y::a,_=>by unfold aE;simp
 |x::y::r,a,_=>by unfold aE;simp
theorem u7{x:Str}:Txt.split x " "≠[]:=by
 have:=VW x " ";intro z;rw[z]at this;exact absurd this (by decide)
theorem fB{x y:Str}:Txt.split (x++y) " "=aE (Txt.split x " ") (Txt.split y " "):=by
 refine u4 (Ms u7) (IJ (StrLaws.split_free x 32) (StrLaws.split_free y 32)) ?_;rw[Hj u7 u7,<-qV,<-qV,StrLaws.join_split,StrLaws.join_split];show(x.cps++y.cps).toList=_;rw[c8]
theorem fF{x:Str}(h:32∉x.cps.toList):Txt.split x " "=[x]:=u4 (by simp) (by simpa using h) rfl
theorem fM{x:Str}:("":Str)++x=x:=by
 show(⟨#[]++x.cps⟩:Str)=x;rw[Array.empty_append]
theorem fN{x:Str}:x++("":Str)=x:=by
 show(⟨x.cps++#[]⟩:Str)=x;rw[Array.append_empty]
theorem iC{m:Int}{x:Str}(h:gJ ec m x=true):32∉x.cps.toList:=by
 unfold gJ x4 at h;rw[b8,cN]at h;intro z;exact absurd (h.2 32 z) (by decide+kernel)
end ed
namespace ed
open PySem L2 TL cx
variable{b:List (Str×List String)}{Q:T->aq->Prop}{row w:Str}{ws:Ur}{r:String}
theorem HC{x:Str}{C:aq}{a:tl->Prop}(h:x.length<=1000):jo (xy (.str x) (.str " ") C) a↔a ((Txt.split x " ").map T.str):=by
 have e:xy (.str x) (.str " ") C=some ((Txt.split x " ").map T.str):=by
  unfold xy;dsimp only;rw[V6 ⟨by decide,aX (Nat.add_le_add_right h 2) (by rw[W3];decide)⟩]
 rw[e,uV]
theorem zQ{a:FE}{d:aB}{C:aq}:aI (B3 b a) d C Q↔aI a d C λt c=>∃z,t=.str z/\Q (.bl (!(b.lookup z).isSome)) c:=by
 unfold aI B3;constructor
 .rintro⟨t,c,e,q⟩;obtain⟨⟨u,g⟩,f,e⟩:=eW e;dsimp only at e;split at e
  .cases e;exact⟨_,_,f,_,rfl,q⟩
  .cases e
 .rintro⟨t,c,e,z,rfl,q⟩;exact⟨_,_,by rw[e];rfl,q⟩
theorem Ij{g:List String->Ug}{a:FE}{f:aB}{C:aq}:aI (vR b g a) f C Q↔aI a f C λt d=>∃z,t=.str z/\∃u,(b.lookup z).bind g=some u/\Q u d:=by
 unfold aI vR;constructor
 .rintro⟨t,d,e,q⟩;obtain⟨⟨u,i⟩,h,e⟩:=eW e;dsimp only at e;split at e
  .obtain⟨y,c,e⟩:=eX e;cases e;exact⟨_,_,h,_,rfl,_,c,q⟩
  .cases e
 .rintro⟨t,d,e,z,rfl,u,c,q⟩;exact⟨_,_,by rw[e,aM];dsimp only;rw[c];rfl,q⟩
theorem gB{C:aq}{t:T}(hl:row.length<=1000)(c:Txt.split row " "=w::ws)(h:∀fs,rows.lookup w=some fs->fs.length≠ws.length+1):
 e9 [t,.str row] C=some ("NoRow",C):=by
 apply kS;unfold lA;walk_at "b";simp_arith[↓fK,↓HC hl,c,aN,↓zQ,↓Ij,uD,↓i7,aO,aP];refine⟨w,rfl,?_⟩;cases a:rows.lookup w with
 |none=>exact(by decide:1<=10)
 |some fs=>
  refine⟨w,rfl,.int fs.length,by rw[a];rfl,?_⟩;have e:∀{Q:T->aq->Prop},aH (jj true (T.int ((ws.map T.str).length+1:Nat)) (.int fs.length) C) Q↔Q (.bl true) C:=by
   intro Q;rw[xG,aQ,decide_eq_false (show¬((ws.length+1:Nat):Int)=(fs.length:Nat)from λz=>h fs a (by omega))];rfl
  refine e.mpr ⟨true,rfl,?_⟩;exact⟨by decide,rfl⟩
def B2:FS:=(fX (sO kt 3 (wY Y0 (lS Y4 (fS (hO Y2 (i8 (fI 1)) iB)) 2 [0] (gU [0,1]) (k9 ft 0 (e7 Y2 (e7 Y1 fR))) (m8 ft 0 (e7 Y2 (e7 Y1 fR)))))) (fX (m8 ft 3 (e7 Y0 (e7 (fS (kU Y4 (fS (hO Y2 (i8 (fI 1)) iB)) 2 [0] (gU [0,1]) gY (k9 ft 0 (e7 Y2 (e7 Y1 fR))))) fR))) (iY (k9 ft 3 (e7 Y0 (e7 (fS (kU Y4 (fS (hO Y2 (i8 (fI 1)) iB)) 2 [0] (gU [0,1]) gY (k9 ft 0 (e7 Y2 (e7 Y1 fR))))) fR))))))
theorem Fi{C:aq}{t:T}{f:String}{rs:List String}{Q:Fl->aB->aq->Prop}(hl:row.length<=1000)(c:Txt.split row " "=w::ws)(a:rows.lookup w=some (f::rs))(d:rs.length=ws.length)
 (h:wpS B2 [some t,some (.str row),some (.lst (T.str w::ws.map T.str)),some (.fn f),some (.tup (rs.map T.fn))] C Q):wpS lA (gg 5 [t,.str row]) C Q:=by
 unfold lA;unfold B2 at h;walk_at "b";simp_arith[↓fK,↓HC hl,c,aN,↓zQ,↓Ij,uD,↓i7,aO,aP];refine⟨w,rfl,?_⟩;rw[a];refine⟨w,rfl,.int (rs.length+1:Nat),by rw[a];rfl,?_⟩;have e:∀{Q:T->aq->Prop},aH (jj true (T.int ((ws.map T.str).length+1:Nat)) (.int (rs.length+1:Nat)) C) Q↔Q (.bl false) C:=by
  intro Q;rw[xG,aQ,d,decide_eq_true rfl];rfl
 refine e.mpr ⟨false,rfl,?_⟩;exact⟨w,rfl,.fn f,by rw[a];rfl,w,rfl,.tup (rs.map T.fn),by rw[a];rfl,h⟩
def t6(C:aq):List String->Ur->tl->Prop
 | [],[],[]=>True
 |r::rs,w::ws,t::c=>(∃R a,ft r=some (2,R,a)/\R [.cell 0,.str w] C=some (t,C)/\a [.cell 0,.str w] C=none)/\t6 C rs ws c
 |_,_,_=>False
def x6(C:aq)(c:String):List String->Ur->Prop
 |r::rs,w::ws=>(∃R a,ft r=some (2,R,a)/\a [.cell 0,.str w] C=some (c,C))\/(∃t R a,ft r=some (2,R,a)/\R [.cell 0,.str w] C=some (t,C)/\a [.cell 0,.str w] C=none)/\x6 C c rs ws
 |_,_=>False
abbrev kg:FE:=k9 ft 0 (e7 Y2 (e7 Y1 fR))
abbrev p0:XF:=m8 ft 0 (e7 Y2 (e7 Y1 fR))
theorem Fx{C:aq}{t:T}{R a}(h:ft r=some (2,R,a))(e:R [.cell 0,.str w] C=some (t,C)):kg [some (.fn r),some (.str w),some (.cell 0)] C=some (t,C):=by
 unfold kg k9;show(ft r).bind _=_;rw[h,aM];exact e
theorem Fn{C:aq}{R a}(h:ft r=some (2,R,a)):p0 [some (.fn r),some (.str w),some (.cell 0)] C=a [.cell 0,.str w] C:=by
 unfold p0 m8;show(ft r).bind _=_;rw[h,aM];rfl
theorem GJ{C:aq}:∀{rs:List String}{ws:Ur}{a:tl},t6 C rs ws a->iH (gU [0,1]) gY kg [none,none,some (.cell 0)] (nY (rs.map T.fn) (ws.map T.str)) C=some (a,C)
 | [],[],[],_=>rfl
 |r::rs,w::ws,t::a,⟨⟨R,g,d,c,f⟩,h⟩=>by
  have ih:=GJ h;show iH _ _ _ _ (T.tup [.fn r,.str w]::nY (rs.map T.fn) (ws.map T.str)) C=_;unfold iH;rw[show gU [0,1] (T.tup [.fn r,.str w]) C [none,none,some (.cell 0)]=some [some (.fn r),some (.str w),some (.cell 0)]from rfl,aM];show eT (some (true,C)) _=_;rw[aM];dsimp only;rw[V6 rfl,Fx d c,aM,ih,qQ];rfl
 | [],[],_::_,h=>h.elim
 | [],_::_,_,h=>h.elim
 |_::_,[],_,h=>h.elim
 |_::_,_::_,[],h=>h.elim
theorem EC{C:aq}:∀{rs:List String}{ws:Ur}{a:tl},t6 C rs ws a->m7 (gU [0,1]) kg p0 [none,none,some (.cell 0)] (nY (rs.map T.fn) (ws.map T.str)) C=none
 | [],[],[],_=>rfl
 |r::rs,w::ws,t::a,⟨⟨R,g,c,f,d⟩,h⟩=>by
  have ih:=EC h;show m7 _ _ _ _ (T.tup [.fn r,.str w]::nY (rs.map T.fn) (ws.map T.str)) C=_;unfold m7;rw[show gU [0,1] (T.tup [.fn r,.str w]) C [none,none,some (.cell 0)]=some [some (.fn r),some (.str w),some (.cell 0)]from rfl,aM,Fn c,d];dsimp only;rw[Fx c f,aM,ih,qQ]
 | [],[],_::_,h=>h.elim
 | [],_::_,_,h=>h.elim
 |_::_,[],_,h=>h.elim
 |_::_,_::_,[],h=>h.elim
theorem Gr{C:aq}{c:String}:∀{rs:List String}{ws:Ur},x6 C c rs ws->m7 (gU [0,1]) kg p0 [none,none,some (.cell 0)] (nY (rs.map T.fn) (ws.map T.str)) C=some (c,C)
 | [],_,h=>h.elim
 |_::_,[],h=>h.elim
 |r::rs,w::ws,h=>by
  show m7 _ _ _ _ (T.tup [.fn r,.str w]::nY (rs.map T.fn) (ws.map T.str)) C=_;unfold m7;rw[show gU [0,1] (T.tup [.fn r,.str w]) C [none,none,some (.cell 0)]=some [some (.fn r),some (.str w),some (.cell 0)]from rfl,aM];rcases h with⟨R,g,a,d⟩| ⟨⟨t,R,g,a,d,f⟩,h⟩
  .rw[Fn a,d]
  .rw[Fn a,f];dsimp only;rw[Fx a d,aM,Gr h,qQ]
theorem t6.len{C:aq}:∀{rs:List String}{ws:Ur}{a:tl},t6 C rs ws a->rs.length=ws.length
 | [],[],[],_=>rfl
 |r::rs,w::ws,t::a,⟨_,h⟩=>by rw[aO,aO,h.len]
 | [],[],_::_,h=>h.elim
 | [],_::_,_,h=>h.elim
 |_::_,[],_,h=>h.elim
 |_::_,_::_,[],h=>h.elim
section
variable {row w:Str}{ws:Ur}{C C':aq}{f c:String}{rs:List String}
noncomputable abbrev pE(row w:Str)(ws:Ur)(f:String)(rs:List String):aB:=[some (.cell 0),some (.str row),some (.lst (T.str w::ws.map T.str)),some (.fn f),some (.tup (rs.map T.fn))]
abbrev qc:FE:=fS (hO Y2 (i8 (fI 1)) iB)
theorem GN:qc (pE row w ws f rs) C=some (.lst (ws.map T.str),C):=by
 have h:aI qc (pE row w ws f rs) C λt D=>t=.lst (ws.map T.str)/\D=C:=by
  unfold qc pE;simp_arith[↓fK,qo]
 obtain⟨t,D,e,rfl,rfl⟩:=h;exact e
theorem GC(a:rs.length=ws.length)(hl:ws.length<=100):lS Y4 qc 2 [0] (gU [0,1]) kg p0 (pE row w ws f rs) C=m7 (gU [0,1]) kg p0 [none,none,some (.cell 0)] (nY (rs.map T.fn) (ws.map T.str)) C:=by
 unfold lS;rw[show Y4 (pE row w ws f rs) C=some (.tup (rs.map T.fn),C)from rfl,aM];dsimp only;rw[GN,aM];show(some (rs.map T.fn)).bind _=_;rw[aM];show(some (ws.map T.str)).bind _=_;rw[aM,V6 ⟨by rw[aQ,aQ,a];exact bI _,by unfold nY;rw[aQ,cJ,aQ,aQ,a,UA];unfold lim;omega⟩];rfl
theorem JI(a:rs.length=ws.length)(hl:ws.length<=100):kU Y4 qc 2 [0] (gU [0,1]) gY kg (pE row w ws f rs) C=iH (gU [0,1]) gY kg [none,none,some (.cell 0)] (nY (rs.map T.fn) (ws.map T.str)) C:=by
 unfold kU;rw[show Y4 (pE row w ws f rs) C=some (.tup (rs.map T.fn),C)from rfl,aM];dsimp only;rw[GN,aM];show(some (rs.map T.fn)).bind _=_;rw[aM];show(some (ws.map T.str)).bind _=_;rw[aM,V6 ⟨by rw[aQ,aQ,a];exact bI _,by unfold nY;rw[aQ,cJ,aQ,aQ,a,UA];unfold lim;omega⟩];rfl
theorem Og(a:rs.length=ws.length)(hl:ws.length<=100)(d:f∈kt):sO kt 3 (wY Y0 (lS Y4 qc 2 [0] (gU [0,1]) kg p0)) (pE row w ws f rs) C=m7 (gU [0,1]) kg p0 [none,none,some (.cell 0)] (nY (rs.map T.fn) (ws.map T.str)) C:=by
 unfold sO;show(if f∈kt then _ else none)=_;rw[V6 d];exact GC a hl
theorem Ih(d:rs.length=ws.length)(hl:ws.length<=100)(h:m7 (gU [0,1]) kg p0 [none,none,some (.cell 0)] (nY (rs.map T.fn) (ws.map T.str)) C=none):sO kt 3 (wY Y0 (lS Y4 qc 2 [0] (gU [0,1]) kg p0)) (pE row w ws f rs) C=none:=by
 unfold sO;show(if f∈kt then _ else none)=_;by_cases a:f∈kt
 .rw[V6 a];exact(GC d hl).trans h
 .rw[V9 a]
abbrev BN:FN:=e7 Y0 (e7 (fS (kU Y4 qc 2 [0] (gU [0,1]) gY kg)) fR)
theorem ET{a:tl}(hl:ws.length<=100)(h:t6 C rs ws a):BN (pE row w ws f rs) C=some ([.cell 0,.lst a],C):=by
 have e:fS (kU Y4 qc 2 [0] (gU [0,1]) gY kg) (pE row w ws f rs) C=some (.lst a,C):=by
  unfold fS;rw[JI h.len hl,GJ h];rfl
 unfold BN e7 fR;rw[show Y0 (pE row w ws f rs) C=some (.cell 0,C)from rfl,aM];dsimp only;rw[e];rfl
theorem gO(hl:row.length<=1000)(g:Txt.split row " "=w::ws)(d:rows.lookup w=some (f::rs))(a:rs.length=ws.length)(j:ws.length<=100)(i:f∈kt)(h:x6 C c rs ws):e9 [.cell 0,.str row] C=some (c,C):=by
 apply kS;refine Fi hl g d a ?_;unfold B2;rw[nR ((Og a j i).trans (Gr h))];exact⟨rfl,rfl⟩
theorem nB{a:tl}{R g}(hl:row.length<=1000)(j:Txt.split row " "=w::ws)(i:rows.lookup w=some (f::rs))(d:ws.length<=100)(h:t6 C rs ws a)(k:ft f=some (2,R,g))(e:g [.cell 0,.lst a] C=some (c,C)):e9 [.cell 0,.str row] C=some (c,C):=by
 apply kS;refine Fi hl j i h.len ?_;unfold B2;rw[nQ (Ih h.len d (EC h)),nR (c:=c) (C':=C) (by
  unfold m8;show(ft f).bind _=_;rw[k,aM];show eT (BN (pE row w ws f rs) C) _=_;rw[ET d h];exact e)]
 exact⟨rfl,rfl⟩
theorem uN{a:tl}{R i}{v:T}(hl:row.length<=1000)(k:Txt.split row " "=w::ws)(j:rows.lookup w=some (f::rs))(d:ws.length<=100)(h:t6 C rs ws a)(g:ft f=some (2,R,i))(e:R [.cell 0,.lst a] C=some (v,C'))(l:i [.cell 0,.lst a] C=none):fW [.cell 0,.str row] C=some (v,C'):=by
 apply j9;refine Fi hl k j h.len ?_;unfold B2;rw[nQ (Ih h.len d (EC h)),nQ (by
  unfold m8;show(ft f).bind _=_;rw[g,aM];show eT (BN (pE row w ws f rs) C) _=_;rw[ET d h];exact l),zD]
 refine⟨v,C',?_,rfl,rfl⟩;unfold k9;show(ft f).bind _=_;rw[g,aM];show eT (BN (pE row w ws f rs) C) _=_;rw[ET d h];exact e
end
end ed
namespace ed
open PySem L2 TL cx
variable{c:Int}{j:Nat}
def ch(c a:Int)(k j:Nat):Nat:=97+((cu (c+(j:Int)*(j:Int)) 3+(k:Int)*(if(j:Int)=a then 1 else 0))%26).toNat
def mu(c a:Int)(k j:Nat):Str:=⟨((bB j).map (ch c a k)).toArray⟩
theorem HY{a:Int}{k:Nat}:(mu c a k j).length=j:=by
 show((bB j).map (ch c a k)).toArray.size=j;simp
theorem Ri{a:Int}{k:Nat}:mu c a k j++(⟨#[ch c a k j]⟩:Str)=mu c a k (j+1):=by
 show(⟨((bB j).map (ch c a k)).toArray++#[ch c a k j]⟩:Str)=⟨((bB (j+1)).map (ch c a k)).toArray⟩;rw[UC,bW];simp
theorem LG{i:Int}(a:0<=i)(h:i<26):f5 ec.cps.toList i=some (97+i.toNat):=by
 rw[pF a];have:∀n:Fin 26,ec.cps.toList[n.val]?=some (97+n.val):=by decide
 exact this ⟨i.toNat,by omega⟩
theorem Nq:∀n:Fin 26,uy ec ⟨#[97+n.val]⟩=true:=by decide+kernel
theorem NH{a:Int}{k:Nat}(g:1<=j)(f:j<=8):gJ ec 8 (mu c a k j)=true:=by
 unfold gJ x4;rw[HY,b8,cN];refine⟨decide_eq_true ⟨by omega,by omega⟩,λx b=>?_⟩;have b:x∈(bB j).map (ch c a k):=by simpa[mu]using b
 obtain⟨i,_,rfl⟩:=fQ b;have d:=nC (x:=cu (c+(i:Int)*(i:Int)) 3+(k:Int)*(if(i:Int)=a then 1 else 0)) (m:=26) (by decide);have:=Nq ⟨((cu (c+(i:Int)*(i:Int)) 3+(k:Int)*(if(i:Int)=a then 1 else 0))%26).toNat,by omega⟩;exact this
theorem Lf{a k l:Nat}(d:a<j)(f:k<9)(hl:l<9)(e:mu c a k j=mu c a l j):k=l:=by
 unfold mu at e;injection e with e
 have e:(bB j).map (ch c a k)=(bB j).map (ch c a l):=by simpa using e
 have b:((bB j).map (ch c a k))[a]?=((bB j).map (ch c a l))[a]?:=by rw[e]
 rw[bF,bF,cZ d]at b;simp only[cY,bZ.injEq]at b;unfold ch at b;rw[V6 rfl]at b;omega
theorem PP(z:Bg c)(t:∀k:Int,0<=k->k<10->Bg (c+k*k)):∃N:Nat->Str,nL [.int c]=some (.lst (((bB 9).map N).map T.str))/\(∀i j,i<9->j<9->N i=N j->i=j)/\∀i,gJ ec 8 (N i)=true:=by
 have w:=nC (x:=cu c 1) (m:=8) (by decide);generalize l:cu c 1%8=r at w;obtain⟨s,v⟩:∃s:Nat,(1:Int)+r=s:=⟨(1+r).toNat,by omega⟩;have y:=nC (x:=cu c 2) (m:=(s:Int)) (by omega);generalize n:cu c 2%(s:Int)=q at y;obtain⟨a,rfl⟩:∃a:Nat,q=a:=⟨q.toNat,by omega⟩;refine⟨λk=>mu c a k s,?_,λi j x m e=>Lf (by omega) x m e,λi=>NH (by omega) (by omega)⟩
 .apply jA;unfold wC;walk_at "b";simp_arith[↓fK,↓nF,l,v,n];refine⟨by decide,decide_eq_true (by omega),by decide,by decide,?_⟩;refine qG (λi b C=>∃g f d,b=[some (.int c),some (.str ec),some (.int s),some (.int a),some (.cell 0),g,f,d]/\C=[(Kd.l,((bB i).map λk=>mu c a k s).map T.str)]) ⟨_,_,_,rfl,rfl⟩ ?_ ?_
  .rintro k b C p ⟨g,f,d,rfl,rfl⟩;have p:k<9:=p;unfold sJ;simp_arith[↓fK];refine⟨⟨by omega,by omega⟩,?_⟩;refine qG (λj b C=>∃d,b=[some (.int c),some (.str ec),some (.int s),some (.int a),some (.cell 0),some (.int k),some (.str (mu c a k j)),d]/\C=[(Kd.l,((bB k).map λk=>mu c a k s).map T.str)]) ⟨_,by rw[dX];rfl,rfl⟩ ?_ ?_
   .rintro j b C m ⟨d,rfl,rfl⟩;have m:j<s:=by omega
    unfold sN;have A:=t (0+(j:Int)) (by omega) (by omega);simp_arith[↓fK,↓nF,↓jN,↓aId];have u:(cu (c+(0+(j:Int))*(0+(j:Int))) 3+(k:Int)*if decide (0+(j:Int)=a)=true then 1 else 0)%26=(cu (c+(j:Int)*(j:Int)) 3+(k:Int)*(if(j:Int)=a then 1 else 0))%26:=by
     rw[dX];by_cases h:(j:Int)=a
     .rw[V6 h,V6 (decide_eq_true h)]
     .rw[V9 h,V9 (by rw[decide_eq_false h];decide)]
    have o:=nC (x:=cu (c+(j:Int)*(j:Int)) 3+(k:Int)*(if(j:Int)=a then 1 else 0)) (m:=26) (by decide);refine⟨by(first| (apply nV<;>lia)| (apply mulOk_t<;>lia)| (apply kF;assumption)| (apply lT;assumption)),kF (Bt.tw (by omega) (by omega) (by decide)),by decide,by decide,_,by rw[u];exact LG o.1 o.2,?_,some (.int (0+(j:Int))),?_⟩
    .rw[HY];show j+1<=lim;unfold lim;omega
    .rw[<-Ri];rfl
   .rintro b C ⟨d,rfl,rfl⟩;simp_arith[↓fK];refine⟨by rw[aQ,aQ,dU];unfold lim;omega,_,_,_,rfl,?_⟩;rw[UC,bW,bW,cV];rfl
  .rintro b C ⟨g,f,d,rfl,rfl⟩;simp_arith[↓fK];exact tO rfl ox
end ed
namespace ed
open PySem L2 TL cx
theorem wQ{x:Str}{l u:Option Int}{c:Nat}(h:c∈(Txt.slice x l u).cps.toList):c∈x.cps.toList:=by
 unfold Txt.slice at h;split at h
 .exact h
 .have h:c∈(Wc.Str.strSliceIndices l u 1 x.length).filterMap (x.cps[·]?):=by simpa using h
  obtain⟨i,_,e⟩:=dA.mp h;rw[<-eI]at e;exact bV e
structure oT(m:Str):Prop where
 no:gJ ec 8 m=false
 fr:32∉m.cps.toList
 le:m.length<=16
theorem uC{x y:Str}:(x++y).cps.toList=x.cps.toList++y.cps.toList:=c8
theorem xJ{x y:Str}{c:Nat}(d:32∉x.cps.toList)(a:32∉y.cps.toList)(f:c∈y.cps.toList)(b:uy ec ⟨#[c]⟩=false)(hl:x.length+y.length<=16):oT (x++y):=by
 refine⟨?_,?_,by rw[Str.length_append];exact hl⟩
 .have:x4 ec (x++y)=false:=by
   unfold x4;rw[uC,List.all_append,VR];right;rw[VA];exact⟨c,f,by rw[b];decide⟩
  unfold gJ;rw[this,Bool.and_false]
 .rw[uC,dO];exact λz=>z.elim d a
theorem Rq{x:Str}(h:gJ ec 8 x=true):oT (x++"abcdefgh"):=by
 have a:(x.length:Int)<=8/\1<=(x.length:Int):=by
  unfold gJ at h;rw[b8,decide_eq_true_iff]at h;exact⟨h.1.2,h.1.1⟩
 have e:(("abcdefgh":Str)).length=8:=by decide
 refine⟨?_,?_,by rw[Str.length_append,e];omega⟩
 .unfold gJ;rw[decide_eq_false (by rw[Str.length_append,e];omega),eB]
 .rw[uC,dO];exact λz=>z.elim (iC h) (by decide)
theorem fJ{m:Int}{x:Str}(h:gJ ec 8 x=true):1<=x.length/\x.length<=8:=by
 unfold gJ at h;rw[b8,decide_eq_true_iff]at h;exact⟨by omega,by omega⟩
theorem S2{a:Str}{c:Int}(b:gJ ec 8 a=true)(t:Bg c):∃m,lK [.str a,.int c]=some (.str m)/\oT m:=by
 have u:=fJ (m:=0) b;have j:=nC (x:=cu c 4) (m:=5) (by decide);have s:=Txt.slice_le a (some 1) none;have r:=Txt.slice_le a none (some (-1));have f1:32∉(Txt.slice a (some 1) none).cps.toList:=λz=>iC b (wQ z);have f2:32∉(Txt.slice a none (some (-1))).cps.toList:=λz=>iC b (wQ z);have v:(("abcdefgh":Str)).length=8:=by decide
 have q:(("A":Str)).length=1:=by decide
 have p:(("1":Str)).length=1:=by decide
 have o:(("-":Str)).length=1:=by decide
 have h:oT (Txt.slice a (some 1) none++"A"):=xJ (c:=65) f1 (by decide) (by decide) (by decide+kernel) (by rw[q];omega);have g:oT (Txt.slice a none (some (-1))++"1"):=xJ (c:=49) f2 (by decide) (by decide) (by decide+kernel) (by rw[p];omega);have f:oT (Txt.slice a (some 1) none++"-"):=xJ (c:=45) f1 (by decide) (by decide) (by decide+kernel) (by rw[o];omega);have i:oT "":=⟨by decide+kernel,by decide,by decide⟩;have key:∃m,f5 [T.str "",.str (a++"abcdefgh"),.str (Txt.slice a (some 1) none++"A"),.str (Txt.slice a none (some (-1))++"1"),.str (Txt.slice a (some 1) none++"-")] (cu c 4%5)=some (.str m)/\oT m:=by
  rw[pF j.1];obtain⟨n,k⟩:∃n,(cu c 4%5).toNat=n:=⟨_,rfl⟩;rw[k];have:n<5:=by omega
  match n,this with
  |0,_=>exact⟨_,rfl,i⟩
  |1,_=>exact⟨_,rfl,Rq b⟩
  |2,_=>exact⟨_,rfl,h⟩
  |3,_=>exact⟨_,rfl,g⟩
  |4,_=>exact⟨_,rfl,f⟩
 obtain⟨m,l,d⟩:=key;refine⟨m,?_,d⟩;apply jA;unfold sR;walk_at "b";simp_arith[↓fK,↓nF,↓jN,↓Ob,T.str.injEq];unfold lim;exact⟨by omega,by omega,by omega,by omega,by omega,by omega,by omega,by decide,by decide,_,l,iG iR⟩
end ed
set_option maxHeartbeats 4000000
namespace ed
open PySem L2 TL cx
noncomputable def rT(p:Str×Int):T:=.tup [.str p.1,.int p.2]
theorem Gg:(Str.ofString "").length=0:=by decide
theorem Gf:(Str.ofString " ").length=1:=by decide
theorem Ge:(Str.ofString " 0 0 0").length=6:=by decide
theorem Gd:(Str.ofString " 0 1 0").length=6:=by decide
theorem Gc:(Str.ofString " 1 1").length=4:=by decide
theorem Gb:(Str.ofString " 1 2 x").length=6:=by decide
theorem Ga:(Str.ofString " 2 3 1").length=6:=by decide
theorem F9:(Str.ofString " 3  1").length=5:=by decide
theorem F8:(Str.ofString " 3 -2 1").length=7:=by decide
theorem F7:(Str.ofString " 3 2").length=4:=by decide
theorem Br:(Str.ofString " 3 2 01").length=7:=by decide
theorem Bq:(Str.ofString " 3 2 1").length=6:=by decide
theorem Bp:(Str.ofString " 3 2 1 0").length=8:=by decide
theorem Bo:(Str.ofString " names").length=6:=by decide
theorem Bn:(Str.ofString " x 2 1").length=6:=by decide
theorem Bm:(Str.ofString "Names").length=5:=by decide
theorem Bl:(Str.ofString "abcdefgh").length=8:=by decide
theorem Bk:(Str.ofString "bonus 1 2").length=9:=by decide
theorem Bj:(Str.ofString "bonus x").length=7:=by decide
theorem Bi:(Str.ofString "budget").length=6:=by decide
theorem Bh:(Str.ofString "budget ").length=7:=by decide
theorem Bf:(Str.ofString "budget -1").length=9:=by decide
theorem Be:(Str.ofString "budget 3 ").length=9:=by decide
theorem Bc:(Str.ofString "curve ").length=6:=by decide
theorem Bb:(Str.ofString "drop").length=4:=by decide
theorem Ba:(Str.ofString "drop ").length=5:=by decide
theorem A9:(Str.ofString "ends ").length=5:=by decide
theorem A8:(Str.ofString "ends 3").length=6:=by decide
theorem A7:(Str.ofString "free ").length=5:=by decide
theorem A6:(Str.ofString "name").length=4:=by decide
theorem A5:(Str.ofString "names ").length=6:=by decide
theorem A4:(Str.ofString "need ").length=5:=by decide
theorem A3:(Str.ofString "plan ").length=5:=by decide
theorem A2:(Str.ofString "plan 00").length=7:=by decide
theorem A1:(Str.ofString "plan 1.").length=7:=by decide
theorem A0:(Str.ofString "plan 3 ").length=7:=by decide
theorem AZ:(Str.ofString "price").length=5:=by decide
theorem AY:(Str.ofString "price ").length=6:=by decide
theorem AX:(Str.ofString "price -1").length=8:=by decide
theorem AW:(Str.ofString "price 3 4").length=9:=by decide
theorem AV:(Str.ofString "show").length=4:=by decide
theorem AU:(Str.ofString "show ").length=5:=by decide
theorem AS:(Str.ofString "spare").length=5:=by decide
theorem AR:(Str.ofString "spare ").length=6:=by decide
theorem AQ:(Str.ofString "spare 1 2").length=9:=by decide
theorem AO:(Str.ofString "spare 1_0").length=9:=by decide
theorem AN:(Str.ofString "why").length=3:=by decide
theorem AM:(Str.ofString "why ").length=4:=by decide
theorem AL:(Str.ofString "why +1").length=6:=by decide
theorem AK:(Str.ofString "work").length=4:=by decide
theorem AJ:(Str.ofString "work ").length=5:=by decide
theorem l9:(Str.ofString "9").length=1:=by decide
theorem F2:(Txt.mul (Str.ofString "9") 31).length=31:=by decide+kernel
theorem F3:(Txt.mul (Str.ofString "9") 30).length=30:=by decide+kernel
noncomputable def q9(a u:Str):List (Str×Int):=[
 (Str.ofString "",1),
 (Str.ofString " names",1),
 (Str.ofString "names ",1),
 (Str.ofString "name",1),
 (Str.ofString "Names",1),
 (Str.ofString "work",1),
 (Str.ofString "work "++u++Str.ofString " 3 2",1),
 (Str.ofString "work "++a++Str.ofString " 3 2 1 0",1),
 (Str.ofString "need "++a,1),
 (Str.ofString "need "++a++Str.ofString " "++a++Str.ofString " "++a,1),
 (Str.ofString "free "++a,1),
 (Str.ofString "drop",1),
 (Str.ofString "drop "++a++Str.ofString " "++a,1),
 (Str.ofString "show",1),
 (Str.ofString "show "++a++Str.ofString " ",1),
 (Str.ofString "ends 3",1),
 (Str.ofString "ends ",1),
 (Str.ofString "curve "++a,1),
 (Str.ofString "price",1),
 (Str.ofString "price 3 4",1),
 (Str.ofString "plan 3 ",1),
 (Str.ofString "why",1),
 (Str.ofString "spare",1),
 (Str.ofString "spare 1 2",1),
 (u++Str.ofString "abcdefgh",1),
 (Str.ofString "budget",1),
 (Str.ofString "bonus 1 2",1),
 (Str.ofString "budget 3 ",1),
 (Str.ofString "plan ",3),
 (Str.ofString "price ",3),
 (Str.ofString "why ",3),
 (Str.ofString "spare ",3)]
noncomputable def rL(a u m:Str):List (Str×Int):=[
 (Str.ofString "work "++m++Str.ofString " 3 2 1",2),
 (Str.ofString "work "++m++Str.ofString " x 2 1",2),
 (Str.ofString "need "++u++Str.ofString " "++a,2),
 (Str.ofString "need "++a++Str.ofString " "++u,2),
 (Str.ofString "need "++m++Str.ofString " "++u,2),
 (Str.ofString "need "++u++Str.ofString " "++u,2),
 (Str.ofString "free "++u++Str.ofString " "++a,2),
 (Str.ofString "free "++a++Str.ofString " "++m,2),
 (Str.ofString "drop "++u,2),
 (Str.ofString "drop "++m,2),
 (Str.ofString "show "++u,2),
 (Str.ofString "show "++m,2),
 (Str.ofString "need "++a++Str.ofString " "++m,2),
 (Str.ofString "work "++m++Str.ofString " 1 2 x",2)]
noncomputable def rS(a b c u:Str):List (Str×Int):=[
 (Str.ofString "work "++a++Str.ofString " x 2 1",3),
 (Str.ofString "work "++a++Str.ofString " 3 -2 1",3),
 (Str.ofString "work "++a++Str.ofString " 3 2 01",3),
 (Str.ofString "work "++u++Str.ofString " 3  1",3),
 (Str.ofString "work "++u++Str.ofString " 1 2 x",3),
 (Str.ofString "work "++a++Str.ofString " 2 3 1",3),
 (Str.ofString "work "++u++Str.ofString " 2 3 1",3),
 (Str.ofString "work "++u++Str.ofString " 0 1 0",3),
 (Str.ofString "price -1",3),
 (Str.ofString "plan 00",3),
 (Str.ofString "why +1",3),
 (Str.ofString "budget -1",3),
 (Str.ofString "bonus x",3),
 (Str.ofString "budget ",3),
 (Str.ofString "spare 1_0",3),
 (Str.ofString "plan 1.",3),
 (Str.ofString "price "++Txt.mul (Str.ofString "9") 31,3),
 (Str.ofString "work "++u++Str.ofString " "++Txt.mul (Str.ofString "9") 31++Str.ofString " 1 1",3),
 (Str.ofString "why "++a,3),
 (Str.ofString "work "++u++Str.ofString " 3 2 1",4),
 (Str.ofString "work "++u++Str.ofString " 0 0 0",4),
 (Str.ofString "work "++u++Str.ofString " "++Txt.mul (Str.ofString "9") 30++Str.ofString " 1 1",4),
 (Str.ofString "need "++a++Str.ofString " "++a,5),
 (Str.ofString "need "++b++Str.ofString " "++a,5),
 (Str.ofString "need "++c++Str.ofString " "++a,5),
 (Str.ofString "need "++c++Str.ofString " "++b,5)]
theorem T5{a u m:Str}(f:a.length<=16)(b:u.length<=16)(d:m.length<=16):kL [.str a,.str u,.str m]=some (.lst ((rL a u m).map rT)):=by
 apply jA;unfold qB;walk_at "b";simp_arith[↓fK,↓jN,T.str.injEq]
 (repeat(refine⟨by first| (walk_at "c")|exact aL rfl,?_⟩))
 refine rF (λt=>.tup [t,.int 2]) (λt c=>?_) ?_
 .simp only[d3,aS,aY,aU];simp_arith[↓fK];exact aL rfl
 .exact iG rfl
theorem Tc{a u:Str}(d:a.length<=16)(b:u.length<=16):kX [.str a,.str u]=some (.lst ((q9 a u).map rT)):=by
 apply jA;unfold qS;walk_at "b";simp_arith[↓fK,↓jN,T.str.injEq]
 (repeat(refine⟨by first| (walk_at "c")|exact aL rfl,?_⟩))
 refine rF (λt=>.tup [t,.int 1]) (λt c=>?_) ?_
 .simp only[d3,aS,aY,aU];simp_arith[↓fK];exact aL rfl
 .simp only[aN,aY];simp_arith[↓fK]
  (repeat(refine⟨by first| (walk_at "c")|exact aL rfl,?_⟩))
  exact iG rfl
end ed
set_option maxHeartbeats 1000000
namespace ed
open PySem L2 TL cx
theorem T4{a b c u:Str}(i:a.length<=16)(h:b.length<=16)(g:c.length<=16)(f:u.length<=16):kO [.str a,.str b,.str c,.str u]=some (.lst ((rS a b c u).map rT)):=by
 apply jA;unfold qU;walk_at "b";simp_arith[↓fK,↓jN,↓P0,T.str.injEq]
 (repeat(refine⟨by first| (walk_at "c")|exact⟨⟨by decide,by decide⟩,by rw[l9];decide⟩|exact aL rfl,?_⟩))
 refine rF (λt=>.tup [t,.int 3]) (λt d=>?_) ?_
 .simp only[d3,aS,aY,aU];simp_arith[↓fK];exact aL rfl
 .simp only[aN,aY]
  (repeat(refine⟨by first| (walk_at "c")|exact⟨⟨by decide,by decide⟩,by rw[l9];decide⟩|exact aL rfl,?_⟩))
  refine⟨_,rfl,?_⟩
  (repeat(refine⟨by first| (walk_at "c")|exact⟨⟨by decide,by decide⟩,by rw[l9];decide⟩|exact aL rfl,?_⟩))
  refine⟨rfl,_,rfl,?_⟩
  (repeat(refine⟨by first| (walk_at "c")|exact⟨⟨by decide,by decide⟩,by rw[l9];decide⟩|exact aL rfl,?_⟩))
  refine rF (λt=>.tup [t,.int 5]) (λt d=>?_) ?_
  .simp only[d3,aS,aY,aU];simp_arith[↓fK];exact aL rfl
  .simp only[aN,aY];refine⟨_,rfl,?_⟩
   (repeat(refine⟨by first| (walk_at "c")|exact⟨⟨by decide,by decide⟩,by rw[l9];decide⟩|exact aL rfl,?_⟩))
   exact iG rfl
end ed
set_option maxHeartbeats 2000000
namespace ed
open PySem L2 TL cx
theorem Jh:Txt.split (Str.ofString "") " "=[(Str.ofString "")]:=by decide+kernel
theorem jv:Txt.split (Str.ofString " ") " "=[(Str.ofString ""),(Str.ofString "")]:=by decide+kernel
theorem Jg:Txt.split (Str.ofString " 0 0 0") " "=[(Str.ofString ""),(Str.ofString "0"),(Str.ofString "0"),(Str.ofString "0")]:=by decide+kernel
theorem Jf:Txt.split (Str.ofString " 0 1 0") " "=[(Str.ofString ""),(Str.ofString "0"),(Str.ofString "1"),(Str.ofString "0")]:=by decide+kernel
theorem FV:Txt.split (Str.ofString " 1 1") " "=[(Str.ofString ""),(Str.ofString "1"),(Str.ofString "1")]:=by decide+kernel
theorem FU:Txt.split (Str.ofString " 1 2 x") " "=[(Str.ofString ""),(Str.ofString "1"),(Str.ofString "2"),(Str.ofString "x")]:=by decide+kernel
theorem FR:Txt.split (Str.ofString " 2 3 1") " "=[(Str.ofString ""),(Str.ofString "2"),(Str.ofString "3"),(Str.ofString "1")]:=by decide+kernel
theorem Je:Txt.split (Str.ofString " 3  1") " "=[(Str.ofString ""),(Str.ofString "3"),(Str.ofString ""),(Str.ofString "1")]:=by decide+kernel
theorem Jd:Txt.split (Str.ofString " 3 -2 1") " "=[(Str.ofString ""),(Str.ofString "3"),(Str.ofString "-2"),(Str.ofString "1")]:=by decide+kernel
theorem Jc:Txt.split (Str.ofString " 3 2") " "=[(Str.ofString ""),(Str.ofString "3"),(Str.ofString "2")]:=by decide+kernel
theorem DW:Txt.split (Str.ofString " 3 2 01") " "=[(Str.ofString ""),(Str.ofString "3"),(Str.ofString "2"),(Str.ofString "01")]:=by decide+kernel
theorem Ak:Txt.split (Str.ofString " 3 2 1") " "=[(Str.ofString ""),(Str.ofString "3"),(Str.ofString "2"),(Str.ofString "1")]:=by decide+kernel
theorem DV:Txt.split (Str.ofString " 3 2 1 0") " "=[(Str.ofString ""),(Str.ofString "3"),(Str.ofString "2"),(Str.ofString "1"),(Str.ofString "0")]:=by decide+kernel
theorem DU:Txt.split (Str.ofString " names") " "=[(Str.ofString ""),(Str.ofString "names")]:=by decide+kernel
theorem Aj:Txt.split (Str.ofString " x 2 1") " "=[(Str.ofString ""),(Str.ofString "x"),(Str.ofString "2"),(Str.ofString "1")]:=by decide+kernel
theorem DT:Txt.split (Str.ofString "Names") " "=[(Str.ofString "Names")]:=by decide+kernel
theorem DS:Txt.split (Str.ofString "abcdefgh") " "=[(Str.ofString "abcdefgh")]:=by decide+kernel
theorem DR:Txt.split (Str.ofString "bonus 1 2") " "=[(Str.ofString "bonus"),(Str.ofString "1"),(Str.ofString "2")]:=by decide+kernel
theorem DQ:Txt.split (Str.ofString "bonus x") " "=[(Str.ofString "bonus"),(Str.ofString "x")]:=by decide+kernel
theorem DP:Txt.split (Str.ofString "budget") " "=[(Str.ofString "budget")]:=by decide+kernel
theorem DO:Txt.split (Str.ofString "budget ") " "=[(Str.ofString "budget"),(Str.ofString "")]:=by decide+kernel
theorem DN:Txt.split (Str.ofString "budget -1") " "=[(Str.ofString "budget"),(Str.ofString "-1")]:=by decide+kernel
theorem DM:Txt.split (Str.ofString "budget 3 ") " "=[(Str.ofString "budget"),(Str.ofString "3"),(Str.ofString "")]:=by decide+kernel
theorem DL:Txt.split (Str.ofString "curve ") " "=[(Str.ofString "curve"),(Str.ofString "")]:=by decide+kernel
theorem DK:Txt.split (Str.ofString "drop") " "=[(Str.ofString "drop")]:=by decide+kernel
theorem tv:Txt.split (Str.ofString "drop ") " "=[(Str.ofString "drop"),(Str.ofString "")]:=by decide+kernel
theorem DJ:Txt.split (Str.ofString "ends ") " "=[(Str.ofString "ends"),(Str.ofString "")]:=by decide+kernel
theorem DI:Txt.split (Str.ofString "ends 3") " "=[(Str.ofString "ends"),(Str.ofString "3")]:=by decide+kernel
theorem tu:Txt.split (Str.ofString "free ") " "=[(Str.ofString "free"),(Str.ofString "")]:=by decide+kernel
theorem DH:Txt.split (Str.ofString "name") " "=[(Str.ofString "name")]:=by decide+kernel
theorem DG:Txt.split (Str.ofString "names ") " "=[(Str.ofString "names"),(Str.ofString "")]:=by decide+kernel
theorem gV:Txt.split (Str.ofString "need ") " "=[(Str.ofString "need"),(Str.ofString "")]:=by decide+kernel
theorem DF:Txt.split (Str.ofString "plan ") " "=[(Str.ofString "plan"),(Str.ofString "")]:=by decide+kernel
theorem DE:Txt.split (Str.ofString "plan 00") " "=[(Str.ofString "plan"),(Str.ofString "00")]:=by decide+kernel
theorem DD:Txt.split (Str.ofString "plan 1.") " "=[(Str.ofString "plan"),(Str.ofString "1.")]:=by decide+kernel
theorem DC:Txt.split (Str.ofString "plan 3 ") " "=[(Str.ofString "plan"),(Str.ofString "3"),(Str.ofString "")]:=by decide+kernel
theorem DB:Txt.split (Str.ofString "price") " "=[(Str.ofString "price")]:=by decide+kernel
theorem Ai:Txt.split (Str.ofString "price ") " "=[(Str.ofString "price"),(Str.ofString "")]:=by decide+kernel
theorem DA:Txt.split (Str.ofString "price -1") " "=[(Str.ofString "price"),(Str.ofString "-1")]:=by decide+kernel
theorem Dz:Txt.split (Str.ofString "price 3 4") " "=[(Str.ofString "price"),(Str.ofString "3"),(Str.ofString "4")]:=by decide+kernel
theorem Dy:Txt.split (Str.ofString "show") " "=[(Str.ofString "show")]:=by decide+kernel
theorem tr:Txt.split (Str.ofString "show ") " "=[(Str.ofString "show"),(Str.ofString "")]:=by decide+kernel
theorem Dx:Txt.split (Str.ofString "spare") " "=[(Str.ofString "spare")]:=by decide+kernel
theorem Dw:Txt.split (Str.ofString "spare ") " "=[(Str.ofString "spare"),(Str.ofString "")]:=by decide+kernel
theorem Dv:Txt.split (Str.ofString "spare 1 2") " "=[(Str.ofString "spare"),(Str.ofString "1"),(Str.ofString "2")]:=by decide+kernel
theorem Du:Txt.split (Str.ofString "spare 1_0") " "=[(Str.ofString "spare"),(Str.ofString "1_0")]:=by decide+kernel
theorem Dt:Txt.split (Str.ofString "why") " "=[(Str.ofString "why")]:=by decide+kernel
theorem Ah:Txt.split (Str.ofString "why ") " "=[(Str.ofString "why"),(Str.ofString "")]:=by decide+kernel
theorem Dr:Txt.split (Str.ofString "why +1") " "=[(Str.ofString "why"),(Str.ofString "+1")]:=by decide+kernel
theorem Dq:Txt.split (Str.ofString "work") " "=[(Str.ofString "work")]:=by decide+kernel
theorem eo:Txt.split (Str.ofString "work ") " "=[(Str.ofString "work"),(Str.ofString "")]:=by decide+kernel
theorem DY:Txt.split (Txt.mul (Str.ofString "9") 30) " "=[Txt.mul (Str.ofString "9") 30]:=fF (by decide+kernel)
theorem Al:Txt.split (Txt.mul (Str.ofString "9") 31) " "=[Txt.mul (Str.ofString "9") 31]:=fF (by decide+kernel)
theorem zO:rows.lookup (Str.ofString "")=none:=by decide+kernel
theorem RG:rows.lookup (Str.ofString "Names")=none:=by decide+kernel
theorem zH:rows.lookup (Str.ofString "bonus")=some ["tell_bonus","any_number"]:=by decide+kernel
theorem o3:rows.lookup (Str.ofString "budget")=some ["tell_budget","any_number"]:=by decide+kernel
theorem RI:rows.lookup (Str.ofString "curve")=some ["tell_curve"]:=by decide+kernel
theorem pO:rows.lookup (Str.ofString "drop")=some ["take_out_books","work_name"]:=by decide+kernel
theorem Ip:rows.lookup (Str.ofString "ends")=some ["tell_ends"]:=by decide+kernel
theorem xL:rows.lookup (Str.ofString "free")=some ["free_need","work_name","work_name"]:=by decide+kernel
theorem O2:rows.lookup (Str.ofString "name")=none:=by decide+kernel
theorem zZ:rows.lookup (Str.ofString "names")=some ["tell_names"]:=by decide+kernel
theorem jY:rows.lookup (Str.ofString "need")=some ["add_need","work_name","work_name"]:=by decide+kernel
theorem tE:rows.lookup (Str.ofString "plan")=some ["tell_plan","any_number"]:=by decide+kernel
theorem oR:rows.lookup (Str.ofString "price")=some ["tell_price","any_number"]:=by decide+kernel
theorem pR:rows.lookup (Str.ofString "show")=some ["tell_work","work_name"]:=by decide+kernel
theorem p9:rows.lookup (Str.ofString "spare")=some ["tell_spare","any_number"]:=by decide+kernel
theorem yY:rows.lookup (Str.ofString "why")=some ["tell_why","any_number"]:=by decide+kernel
theorem iJ:rows.lookup (Str.ofString "work")=some ["put_in","any_name","any_number","any_number","any_number"]:=by decide+kernel
theorem BR:iM (Str.ofString "0")=true:=by decide+kernel
theorem BW:intText? (Str.ofString "0")=some 0:=by decide+kernel
theorem wa:iM (Str.ofString "1")=true:=by decide+kernel
theorem vq:intText? (Str.ofString "1")=some 1:=by decide+kernel
theorem BQ:iM (Str.ofString "2")=true:=by decide+kernel
theorem BU:intText? (Str.ofString "2")=some 2:=by decide+kernel
theorem xo:iM (Str.ofString "3")=true:=by decide+kernel
theorem yd:intText? (Str.ofString "3")=some 3:=by decide+kernel
theorem JF:iM (Txt.mul (Str.ofString "9") 30)=true:=by decide+kernel
theorem Jy:intText? (Txt.mul (Str.ofString "9") 30)=some 999999999999999999999999999999:=by decide+kernel
theorem Ia{g:Str}{c:Nat}:uy g ⟨#[c]⟩=decide (c∈g.cps.toList):=StrLaws.found_one g c
theorem Ph{x:Str}(h:9<=x.length):rows.lookup x=none:=by
 rw[List.lookup_eq_none_iff];have a:∀p∈rows,p.1.length<=6:=by decide+kernel
 intro p hp;have:=a p hp;rw[bne_iff_ne];rintro rfl;omega
theorem RP{x:Str}(h:gJ ec 8 x=true):iM x=false:=by
 have b:gJ BC 30 x=false:=by
  unfold gJ x4 at h|-;rw[b8,decide_eq_true_iff,cN]at h;rw[VR];right;rw[VA];have hl:0<x.cps.toList.length:=by rw[Bs];omega
  refine⟨x.cps.toList[0],c9 hl,?_⟩;have a:=h.2 _ (c9 hl);rw[Ia,decide_eq_true_iff]at a;rw[Ia];have:∀c∈ec.cps.toList,¬decide (c∈BC.cps.toList)=true:=by decide+kernel
  exact this _ a
 unfold iM;split
 .rfl
 .exact b
noncomputable def h7(k:Int):String:=if k=1 then"NoRow" else if k=2 then"NoName" else if k=3 then"NoText" else if k=4 then"NoRoom" else"NoOrder"
theorem oX{a:Type}{P:a->Prop}:∀p∈([]:List a),P p:=λ_ h=>absurd h bS
theorem all_cons{b:Type}{P:b->Prop}{a:b}{l:List b}(h:P a)(c:∀p∈l,P p):∀p∈a::l,P p:=λp hp=>(fU hp).elim (λe=>e ▸ h) (c p)
theorem lC:ft "put_in"=some (2,qL,nP):=rfl
theorem lJ:ft "add_need"=some (2,n4,iU):=rfl
theorem TV:ft "take_out_books"=some (2,mJ,oE):=rfl
theorem vU:ft "tell_names"=some (2,lQ,nA):=rfl
theorem xT:ft "tell_work"=some (2,m5,nX):=rfl
theorem sQ:ft "any_name"=some (2,nW,mZ):=rfl
theorem qI:ft "work_name"=some (2,m3,lU):=rfl
theorem pB:ft "any_number"=some (2,lV,lG):=rfl
section
variable {C:aq}{w:Str}{ws:List Wk}{nd:List (Str×Str)}{r:aq}{n:Int}
variable{fs:List String}{c:String}
abbrev yh(C:aq)(f:String)(w:Str)(t:T):Prop:=∃R a,ft f=some (2,R,a)/\R [.cell 0,.str w] C=some (t,C)/\a [.cell 0,.str w] C=none
abbrev C8(C:aq)(f:String)(w:Str)(c:String):Prop:=∃R a,ft f=some (2,R,a)/\a [.cell 0,.str w] C=some (c,C)
theorem nM(hl:w.length<=16)(h:gJ ec 8 w=true):yh C "any_name" w (.str w):=⟨_,_,sQ,tW (aX hl (by decide)) h,lL (tW (aX hl (by decide)) h)⟩
theorem EY(hl:w.length<=16)(h:gJ ec 8 w=false):C8 C "any_name" w "NoName":=⟨_,_,sQ,Tg (aX hl (by decide)) h⟩
theorem mK(h:w∈ws.map (·.1)):yh (bk ws nd r) "work_name" w (.str w):=⟨_,_,qI,sK h,lL (sK h)⟩
theorem oJ(h:w∉ws.map (·.1)):C8 (bk ws nd r) "work_name" w "NoName":=⟨_,_,qI,zW h⟩
theorem jD(hl:w.length<=640)(h:iM w=true)(a:intText? w=some n):yh C "any_number" w (.int n):=⟨_,_,pB,wW hl h a,lL (wW hl h a)⟩
theorem j7(hl:w.length<=640)(h:iM w=false):C8 C "any_number" w "NoText":=⟨_,_,pB,RV hl h⟩
theorem gA{f:String}{vs:Ur}(h:C8 C f w c):x6 C c (f::fs) (w::vs):=Uv h
theorem iO{f:String}{vs:Ur}{t:T}(h:yh C f w t)(a:x6 C c fs vs):x6 C c (f::fs) (w::vs):=dZ ⟨⟨t,h⟩,a⟩
theorem jB:t6 C [] [] []:=trivial
theorem fY{f:String}{vs:Ur}{t:T}{a:tl}(h:yh C f w t)(b:t6 C fs vs a):t6 C (f::fs) (w::vs) (t::a):=⟨h,b⟩
end
structure Ctx(ws:List Wk)(a b c u m:Str):Prop where
 l8:ws.length=8
 ha:gJ ec 8 a=true
 hb:gJ ec 8 b=true
 hc:gJ ec 8 c=true
 hu:gJ ec 8 u=true
 hm:oT m
 na:a∈ws.map (·.1)
 nb:b∈ws.map (·.1)
 nc:c∈ws.map (·.1)
 nu:u∉ws.map (·.1)
 nm:m∉ws.map (·.1)
 ia:ix ws a=0
 ib:ix ws b=1
 ic:ix ws c=2
section
variable {d:List Wk}{a b c u m:Str}{r:aq}
variable{q:Str×Str}
theorem Ctx.ga(x:Ctx d a b c u m):a.length<=16:=aX (fJ (m:=0) x.ha).2 (by decide)
theorem Ctx.gb(x:Ctx d a b c u m):b.length<=16:=aX (fJ (m:=0) x.hb).2 (by decide)
theorem Ctx.gc(x:Ctx d a b c u m):c.length<=16:=aX (fJ (m:=0) x.hc).2 (by decide)
theorem Ctx.gu(x:Ctx d a b c u m):u.length<=16:=aX (fJ (m:=0) x.hu).2 (by decide)
theorem Ctx.fa(x:Ctx d a b c u m):32∉a.cps.toList:=iC x.ha
theorem Ctx.fb(x:Ctx d a b c u m):32∉b.cps.toList:=iC x.hb
theorem Ctx.fc(x:Ctx d a b c u m):32∉c.cps.toList:=iC x.hc
theorem Ctx.fu(x:Ctx d a b c u m):32∉u.cps.toList:=iC x.hu
theorem Ctx.fm(x:Ctx d a b c u m):32∉m.cps.toList:=x.hm.fr
theorem Ctx.ab(x:Ctx d a b c u m):a≠b:=λe=>by have g:=x.ia;have f:=x.ib;rw[<-e,g]at f;cases f
theorem Ctx.ac(x:Ctx d a b c u m):a≠c:=λe=>by have g:=x.ia;have f:=x.ic;rw[<-e,g]at f;cases f
theorem Ctx.bc(x:Ctx d a b c u m):b≠c:=λe=>by have g:=x.ib;have f:=x.ic;rw[<-e,g]at f;cases f
theorem Ctx.Jp(x:Ctx d a b c u m)(g:q.1∈d.map (·.1))(f:q.2∈d.map (·.1)):Ci d ([(a,b),(b,c)]++[q]):=by
 intro p hp;simp only[aV,aU,bX,bS,or_false]at hp;rcases hp with rfl|rfl|rfl
 .exact⟨x.na,x.nb⟩
 .exact⟨x.nb,x.nc⟩
 .exact⟨g,f⟩
theorem Ctx.ps(x:Ctx d a b c u m):([(a,b),(b,c)]++[q]).map (fi d)=[(0,1),(1,2),fi d q]:=by
 show[fi d (a,b),fi d (b,c),fi d q]=_;unfold fi;rw[x.ia,x.ib,x.ic]
theorem Ctx.no(x:Ctx d a b c u m)(j:q.1∈d.map (·.1))(i:q.2∈d.map (·.1))(h:q∉[(a,b),(b,c)])(g:oD [(0,1),(1,2)] (fi d q).2 (fi d q).1):
 iU [.cell 0,nT q] (bk d [(a,b),(b,c)] r)=some ("NoOrder",bk d [(a,b),(b,c)] r):=by
 refine O0 (eC x.l8) (by simp) (x.Jp j i) h ?_;rw[x.ps];intro f o;exact Mz (ps:=[(0,1),(1,2)]) (q:=fi d q) (.inr (.inr g)) (by simp) (by simp) f o
theorem FY:oD [(0,1),(1,2)] 0 1:=oD.refl.step (by simp)
theorem Jj:oD [(0,1),(1,2)] 1 2:=oD.refl.step (by simp)
theorem Jk:oD [(0,1),(1,2)] 0 2:=FY.step (by simp)
theorem Ctx.AE(x:Ctx d a b c u m):iU [.cell 0,nT (a,a)] (bk d [(a,b),(b,c)] r)=some ("NoOrder",bk d [(a,b),(b,c)] r):=
 x.no x.na x.na (by simp[x.ab]) .refl
theorem Ctx.AD(x:Ctx d a b c u m):iU [.cell 0,nT (b,a)] (bk d [(a,b),(b,c)] r)=some ("NoOrder",bk d [(a,b),(b,c)] r):=
 x.no x.nb x.na (by simp[x.ab,x.ac]) (by unfold fi;rw[x.ia,x.ib];exact FY)
theorem Ctx.AC(x:Ctx d a b c u m):iU [.cell 0,nT (c,a)] (bk d [(a,b),(b,c)] r)=some ("NoOrder",bk d [(a,b),(b,c)] r):=
 x.no x.nc x.na (by simp[x.ab,x.ac]) (by unfold fi;rw[x.ia,x.ic];exact Jk)
theorem Ctx.AB(x:Ctx d a b c u m):iU [.cell 0,nT (c,b)] (bk d [(a,b),(b,c)] r)=some ("NoOrder",bk d [(a,b),(b,c)] r):=
 x.no x.nc x.nb (by simp[Ne.symm x.ac,x.bc]) (by unfold fi;rw[x.ib,x.ic];exact Jj)
theorem Pt(x:Ctx d a b c u m):e9 [.cell 0,.str (Str.ofString "")] (bk d [(a,b),(b,c)] r)=some ("NoRow",bk d [(a,b),(b,c)] r):=by
 have ga:=x.ga;have gb:=x.gb;have gc:=x.gc;have gu:=x.gu;have g:=x.hm.le;have h:=(fJ (m:=0) x.hu).1;have f:Txt.split (Str.ofString "") " "=[(Str.ofString "")]:=by simp only[fB,Jh,aE,fM,fN]
 exact gB (by walk_at "a") f (λfs e=>by rw[zO]at e;cases e)
theorem Pp(x:Ctx d a b c u m):e9 [.cell 0,.str (Str.ofString " names")] (bk d [(a,b),(b,c)] r)=some ("NoRow",bk d [(a,b),(b,c)] r):=by
 have ga:=x.ga;have gb:=x.gb;have gc:=x.gc;have gu:=x.gu;have g:=x.hm.le;have h:=(fJ (m:=0) x.hu).1;have f:Txt.split (Str.ofString " names") " "=[(Str.ofString ""),(Str.ofString "names")]:=by simp only[fB,DU,aE,fM,fN]
 exact gB (by walk_at "a") f (λfs e=>by rw[zO]at e;cases e)
theorem M8(x:Ctx d a b c u m):e9 [.cell 0,.str (Str.ofString "names ")] (bk d [(a,b),(b,c)] r)=some ("NoRow",bk d [(a,b),(b,c)] r):=by
 have ga:=x.ga;have gb:=x.gb;have gc:=x.gc;have gu:=x.gu;have g:=x.hm.le;have h:=(fJ (m:=0) x.hu).1;have f:Txt.split (Str.ofString "names ") " "=[(Str.ofString "names"),(Str.ofString "")]:=by simp only[fB,DG,aE,fM,fN]
 exact gB (by walk_at "a") f (λfs e=>by rw[zZ]at e;cases e;exact bE rfl)
theorem MW(x:Ctx d a b c u m):e9 [.cell 0,.str (Str.ofString "name")] (bk d [(a,b),(b,c)] r)=some ("NoRow",bk d [(a,b),(b,c)] r):=by
 have ga:=x.ga;have gb:=x.gb;have gc:=x.gc;have gu:=x.gu;have g:=x.hm.le;have h:=(fJ (m:=0) x.hu).1;have f:Txt.split (Str.ofString "name") " "=[(Str.ofString "name")]:=by simp only[fB,DH,aE,fM,fN]
 exact gB (by walk_at "a") f (λfs e=>by rw[O2]at e;cases e)
theorem OV(x:Ctx d a b c u m):e9 [.cell 0,.str (Str.ofString "Names")] (bk d [(a,b),(b,c)] r)=some ("NoRow",bk d [(a,b),(b,c)] r):=by
 have ga:=x.ga;have gb:=x.gb;have gc:=x.gc;have gu:=x.gu;have g:=x.hm.le;have h:=(fJ (m:=0) x.hu).1;have f:Txt.split (Str.ofString "Names") " "=[(Str.ofString "Names")]:=by simp only[fB,DT,aE,fM,fN]
 exact gB (by walk_at "a") f (λfs e=>by rw[RG]at e;cases e)
theorem M2(x:Ctx d a b c u m):e9 [.cell 0,.str (Str.ofString "work")] (bk d [(a,b),(b,c)] r)=some ("NoRow",bk d [(a,b),(b,c)] r):=by
 have ga:=x.ga;have gb:=x.gb;have gc:=x.gc;have gu:=x.gu;have g:=x.hm.le;have h:=(fJ (m:=0) x.hu).1;have f:Txt.split (Str.ofString "work") " "=[(Str.ofString "work")]:=by simp only[fB,Dq,aE,fM,fN]
 exact gB (by walk_at "a") f (λfs e=>by rw[iJ]at e;cases e;exact bE rfl)
theorem Ou(x:Ctx d a b c u m):e9 [.cell 0,.str (Str.ofString "work "++u++Str.ofString " 3 2")] (bk d [(a,b),(b,c)] r)=some ("NoRow",bk d [(a,b),(b,c)] r):=by
 have ga:=x.ga;have gb:=x.gb;have gc:=x.gc;have gu:=x.gu;have g:=x.hm.le;have h:=(fJ (m:=0) x.hu).1;have f:Txt.split (Str.ofString "work "++u++Str.ofString " 3 2") " "=[(Str.ofString "work"),u,(Str.ofString "3"),(Str.ofString "2")]:=by simp only[fB,eo,Jc,fF x.fu,aE,fM,fN]
 exact gB (by walk_at "a") f (λfs e=>by rw[iJ]at e;cases e;exact bE rfl)
theorem NQ(x:Ctx d a b c u m):e9 [.cell 0,.str (Str.ofString "work "++a++Str.ofString " 3 2 1 0")] (bk d [(a,b),(b,c)] r)=some ("NoRow",bk d [(a,b),(b,c)] r):=by
 have ga:=x.ga;have gb:=x.gb;have gc:=x.gc;have gu:=x.gu;have g:=x.hm.le;have h:=(fJ (m:=0) x.hu).1;have f:Txt.split (Str.ofString "work "++a++Str.ofString " 3 2 1 0") " "=[(Str.ofString "work"),a,(Str.ofString "3"),(Str.ofString "2"),(Str.ofString "1"),(Str.ofString "0")]:=by simp only[fB,DV,eo,fF x.fa,aE,fM,fN]
 exact gB (by walk_at "a") f (λfs e=>by rw[iJ]at e;cases e;exact bE rfl)
theorem Pm(x:Ctx d a b c u m):e9 [.cell 0,.str (Str.ofString "need "++a)] (bk d [(a,b),(b,c)] r)=some ("NoRow",bk d [(a,b),(b,c)] r):=by
 have ga:=x.ga;have gb:=x.gb;have gc:=x.gc;have gu:=x.gu;have g:=x.hm.le;have h:=(fJ (m:=0) x.hu).1;have f:Txt.split (Str.ofString "need "++a) " "=[(Str.ofString "need"),a]:=by simp only[fB,gV,fF x.fa,aE,fM,fN]
 exact gB (by walk_at "a") f (λfs e=>by rw[jY]at e;cases e;exact bE rfl)
theorem O3(x:Ctx d a b c u m):e9 [.cell 0,.str (Str.ofString "need "++a++Str.ofString " "++a++Str.ofString " "++a)] (bk d [(a,b),(b,c)] r)=some ("NoRow",bk d [(a,b),(b,c)] r):=by
 have ga:=x.ga;have gb:=x.gb;have gc:=x.gc;have gu:=x.gu;have g:=x.hm.le;have h:=(fJ (m:=0) x.hu).1;have f:Txt.split (Str.ofString "need "++a++Str.ofString " "++a++Str.ofString " "++a) " "=[(Str.ofString "need"),a,a,a]:=by simp only[fB,jv,gV,fF x.fa,aE,fM,fN]
 exact gB (by walk_at "a") f (λfs e=>by rw[jY]at e;cases e;exact bE rfl)
theorem OT(x:Ctx d a b c u m):e9 [.cell 0,.str (Str.ofString "free "++a)] (bk d [(a,b),(b,c)] r)=some ("NoRow",bk d [(a,b),(b,c)] r):=by
 have ga:=x.ga;have gb:=x.gb;have gc:=x.gc;have gu:=x.gu;have g:=x.hm.le;have h:=(fJ (m:=0) x.hu).1;have f:Txt.split (Str.ofString "free "++a) " "=[(Str.ofString "free"),a]:=by simp only[fB,tu,fF x.fa,aE,fM,fN]
 exact gB (by walk_at "a") f (λfs e=>by rw[xL]at e;cases e;exact bE rfl)
theorem Rg(x:Ctx d a b c u m):e9 [.cell 0,.str (Str.ofString "drop")] (bk d [(a,b),(b,c)] r)=some ("NoRow",bk d [(a,b),(b,c)] r):=by
 have ga:=x.ga;have gb:=x.gb;have gc:=x.gc;have gu:=x.gu;have g:=x.hm.le;have h:=(fJ (m:=0) x.hu).1;have f:Txt.split (Str.ofString "drop") " "=[(Str.ofString "drop")]:=by simp only[fB,DK,aE,fM,fN]
 exact gB (by walk_at "a") f (λfs e=>by rw[pO]at e;cases e;exact bE rfl)
theorem SM(x:Ctx d a b c u m):e9 [.cell 0,.str (Str.ofString "drop "++a++Str.ofString " "++a)] (bk d [(a,b),(b,c)] r)=some ("NoRow",bk d [(a,b),(b,c)] r):=by
 have ga:=x.ga;have gb:=x.gb;have gc:=x.gc;have gu:=x.gu;have g:=x.hm.le;have h:=(fJ (m:=0) x.hu).1;have f:Txt.split (Str.ofString "drop "++a++Str.ofString " "++a) " "=[(Str.ofString "drop"),a,a]:=by simp only[fB,jv,tv,fF x.fa,aE,fM,fN]
 exact gB (by walk_at "a") f (λfs e=>by rw[pO]at e;cases e;exact bE rfl)
theorem P2(x:Ctx d a b c u m):e9 [.cell 0,.str (Str.ofString "show")] (bk d [(a,b),(b,c)] r)=some ("NoRow",bk d [(a,b),(b,c)] r):=by
 have ga:=x.ga;have gb:=x.gb;have gc:=x.gc;have gu:=x.gu;have g:=x.hm.le;have h:=(fJ (m:=0) x.hu).1;have f:Txt.split (Str.ofString "show") " "=[(Str.ofString "show")]:=by simp only[fB,Dy,aE,fM,fN]
 exact gB (by walk_at "a") f (λfs e=>by rw[pR]at e;cases e;exact bE rfl)
theorem P8(x:Ctx d a b c u m):e9 [.cell 0,.str (Str.ofString "show "++a++Str.ofString " ")] (bk d [(a,b),(b,c)] r)=some ("NoRow",bk d [(a,b),(b,c)] r):=by
 have ga:=x.ga;have gb:=x.gb;have gc:=x.gc;have gu:=x.gu;have g:=x.hm.le;have h:=(fJ (m:=0) x.hu).1;have f:Txt.split (Str.ofString "show "++a++Str.ofString " ") " "=[(Str.ofString "show"),a,(Str.ofString "")]:=by simp only[fB,jv,tr,fF x.fa,aE,fM,fN]
 exact gB (by walk_at "a") f (λfs e=>by rw[pR]at e;cases e;exact bE rfl)
theorem OS(x:Ctx d a b c u m):e9 [.cell 0,.str (Str.ofString "ends 3")] (bk d [(a,b),(b,c)] r)=some ("NoRow",bk d [(a,b),(b,c)] r):=by
 have ga:=x.ga;have gb:=x.gb;have gc:=x.gc;have gu:=x.gu;have g:=x.hm.le;have h:=(fJ (m:=0) x.hu).1;have f:Txt.split (Str.ofString "ends 3") " "=[(Str.ofString "ends"),(Str.ofString "3")]:=by simp only[fB,DI,aE,fM,fN]
 exact gB (by walk_at "a") f (λfs e=>by rw[Ip]at e;cases e;exact bE rfl)
theorem SN(x:Ctx d a b c u m):e9 [.cell 0,.str (Str.ofString "ends ")] (bk d [(a,b),(b,c)] r)=some ("NoRow",bk d [(a,b),(b,c)] r):=by
 have ga:=x.ga;have gb:=x.gb;have gc:=x.gc;have gu:=x.gu;have g:=x.hm.le;have h:=(fJ (m:=0) x.hu).1;have f:Txt.split (Str.ofString "ends ") " "=[(Str.ofString "ends"),(Str.ofString "")]:=by simp only[fB,DJ,aE,fM,fN]
 exact gB (by walk_at "a") f (λfs e=>by rw[Ip]at e;cases e;exact bE rfl)
theorem Qb(x:Ctx d a b c u m):e9 [.cell 0,.str (Str.ofString "curve "++a)] (bk d [(a,b),(b,c)] r)=some ("NoRow",bk d [(a,b),(b,c)] r):=by
 have ga:=x.ga;have gb:=x.gb;have gc:=x.gc;have gu:=x.gu;have g:=x.hm.le;have h:=(fJ (m:=0) x.hu).1;have f:Txt.split (Str.ofString "curve "++a) " "=[(Str.ofString "curve"),a]:=by simp only[fB,DL,fF x.fa,aE,fM,fN]
 exact gB (by walk_at "a") f (λfs e=>by rw[RI]at e;cases e;exact bE rfl)
theorem Q7(x:Ctx d a b c u m):e9 [.cell 0,.str (Str.ofString "price")] (bk d [(a,b),(b,c)] r)=some ("NoRow",bk d [(a,b),(b,c)] r):=by
 have ga:=x.ga;have gb:=x.gb;have gc:=x.gc;have gu:=x.gu;have g:=x.hm.le;have h:=(fJ (m:=0) x.hu).1;have f:Txt.split (Str.ofString "price") " "=[(Str.ofString "price")]:=by simp only[fB,DB,aE,fM,fN]
 exact gB (by walk_at "a") f (λfs e=>by rw[oR]at e;cases e;exact bE rfl)
theorem Qo(x:Ctx d a b c u m):e9 [.cell 0,.str (Str.ofString "price 3 4")] (bk d [(a,b),(b,c)] r)=some ("NoRow",bk d [(a,b),(b,c)] r):=by
 have ga:=x.ga;have gb:=x.gb;have gc:=x.gc;have gu:=x.gu;have g:=x.hm.le;have h:=(fJ (m:=0) x.hu).1;have f:Txt.split (Str.ofString "price 3 4") " "=[(Str.ofString "price"),(Str.ofString "3"),(Str.ofString "4")]:=by simp only[fB,Dz,aE,fM,fN]
 exact gB (by walk_at "a") f (λfs e=>by rw[oR]at e;cases e;exact bE rfl)
theorem PK(x:Ctx d a b c u m):e9 [.cell 0,.str (Str.ofString "plan 3 ")] (bk d [(a,b),(b,c)] r)=some ("NoRow",bk d [(a,b),(b,c)] r):=by
 have ga:=x.ga;have gb:=x.gb;have gc:=x.gc;have gu:=x.gu;have g:=x.hm.le;have h:=(fJ (m:=0) x.hu).1;have f:Txt.split (Str.ofString "plan 3 ") " "=[(Str.ofString "plan"),(Str.ofString "3"),(Str.ofString "")]:=by simp only[fB,DC,aE,fM,fN]
 exact gB (by walk_at "a") f (λfs e=>by rw[tE]at e;cases e;exact bE rfl)
theorem Qq(x:Ctx d a b c u m):e9 [.cell 0,.str (Str.ofString "why")] (bk d [(a,b),(b,c)] r)=some ("NoRow",bk d [(a,b),(b,c)] r):=by
 have ga:=x.ga;have gb:=x.gb;have gc:=x.gc;have gu:=x.gu;have g:=x.hm.le;have h:=(fJ (m:=0) x.hu).1;have f:Txt.split (Str.ofString "why") " "=[(Str.ofString "why")]:=by simp only[fB,Dt,aE,fM,fN]
 exact gB (by walk_at "a") f (λfs e=>by rw[yY]at e;cases e;exact bE rfl)
theorem Q6(x:Ctx d a b c u m):e9 [.cell 0,.str (Str.ofString "spare")] (bk d [(a,b),(b,c)] r)=some ("NoRow",bk d [(a,b),(b,c)] r):=by
 have ga:=x.ga;have gb:=x.gb;have gc:=x.gc;have gu:=x.gu;have g:=x.hm.le;have h:=(fJ (m:=0) x.hu).1;have f:Txt.split (Str.ofString "spare") " "=[(Str.ofString "spare")]:=by simp only[fB,Dx,aE,fM,fN]
 exact gB (by walk_at "a") f (λfs e=>by rw[p9]at e;cases e;exact bE rfl)
theorem Qm(x:Ctx d a b c u m):e9 [.cell 0,.str (Str.ofString "spare 1 2")] (bk d [(a,b),(b,c)] r)=some ("NoRow",bk d [(a,b),(b,c)] r):=by
 have ga:=x.ga;have gb:=x.gb;have gc:=x.gc;have gu:=x.gu;have g:=x.hm.le;have h:=(fJ (m:=0) x.hu).1;have f:Txt.split (Str.ofString "spare 1 2") " "=[(Str.ofString "spare"),(Str.ofString "1"),(Str.ofString "2")]:=by simp only[fB,Dv,aE,fM,fN]
 exact gB (by walk_at "a") f (λfs e=>by rw[p9]at e;cases e;exact bE rfl)
theorem QP(x:Ctx d a b c u m):e9 [.cell 0,.str (u++Str.ofString "abcdefgh")] (bk d [(a,b),(b,c)] r)=some ("NoRow",bk d [(a,b),(b,c)] r):=by
 have ga:=x.ga;have gb:=x.gb;have gc:=x.gc;have gu:=x.gu;have g:=x.hm.le;have h:=(fJ (m:=0) x.hu).1;have f:Txt.split (u++Str.ofString "abcdefgh") " "=[(u++Str.ofString "abcdefgh")]:=by simp only[fB,DS,fF x.fu,aE,fM,fN]
 exact gB (by walk_at "a") f (λfs e=>by rw[Ph (by walk_at "a")]at e;cases e)
theorem PY(x:Ctx d a b c u m):e9 [.cell 0,.str (Str.ofString "budget")] (bk d [(a,b),(b,c)] r)=some ("NoRow",bk d [(a,b),(b,c)] r):=by
 have ga:=x.ga;have gb:=x.gb;have gc:=x.gc;have gu:=x.gu;have g:=x.hm.le;have h:=(fJ (m:=0) x.hu).1;have f:Txt.split (Str.ofString "budget") " "=[(Str.ofString "budget")]:=by simp only[fB,DP,aE,fM,fN]
 exact gB (by walk_at "a") f (λfs e=>by rw[o3]at e;cases e;exact bE rfl)
theorem OQ(x:Ctx d a b c u m):e9 [.cell 0,.str (Str.ofString "bonus 1 2")] (bk d [(a,b),(b,c)] r)=some ("NoRow",bk d [(a,b),(b,c)] r):=by
 have ga:=x.ga;have gb:=x.gb;have gc:=x.gc;have gu:=x.gu;have g:=x.hm.le;have h:=(fJ (m:=0) x.hu).1;have f:Txt.split (Str.ofString "bonus 1 2") " "=[(Str.ofString "bonus"),(Str.ofString "1"),(Str.ofString "2")]:=by simp only[fB,DR,aE,fM,fN]
 exact gB (by walk_at "a") f (λfs e=>by rw[zH]at e;cases e;exact bE rfl)
theorem Rj(x:Ctx d a b c u m):e9 [.cell 0,.str (Str.ofString "budget 3 ")] (bk d [(a,b),(b,c)] r)=some ("NoRow",bk d [(a,b),(b,c)] r):=by
 have ga:=x.ga;have gb:=x.gb;have gc:=x.gc;have gu:=x.gu;have g:=x.hm.le;have h:=(fJ (m:=0) x.hu).1;have f:Txt.split (Str.ofString "budget 3 ") " "=[(Str.ofString "budget"),(Str.ofString "3"),(Str.ofString "")]:=by simp only[fB,DM,aE,fM,fN]
 exact gB (by walk_at "a") f (λfs e=>by rw[o3]at e;cases e;exact bE rfl)
theorem Qr(x:Ctx d a b c u m):e9 [.cell 0,.str (Str.ofString "plan ")] (bk d [(a,b),(b,c)] r)=some ("NoText",bk d [(a,b),(b,c)] r):=by
 have ga:=x.ga;have gb:=x.gb;have gc:=x.gc;have gu:=x.gu;have g:=x.hm.le;have h:=(fJ (m:=0) x.hu).1;have f:Txt.split (Str.ofString "plan ") " "=[(Str.ofString "plan"),(Str.ofString "")]:=by simp only[fB,DF,aE,fM,fN]
 exact gO (by walk_at "a") f tE rfl (aL rfl) (by decide) (gA (j7 (by decide+kernel) (by decide+kernel)))
theorem Sq(x:Ctx d a b c u m):e9 [.cell 0,.str (Str.ofString "price ")] (bk d [(a,b),(b,c)] r)=some ("NoText",bk d [(a,b),(b,c)] r):=by
 have ga:=x.ga;have gb:=x.gb;have gc:=x.gc;have gu:=x.gu;have g:=x.hm.le;have h:=(fJ (m:=0) x.hu).1;have f:Txt.split (Str.ofString "price ") " "=[(Str.ofString "price"),(Str.ofString "")]:=by simp only[fB,Ai,aE,fM,fN]
 exact gO (by walk_at "a") f oR rfl (aL rfl) (by decide) (gA (j7 (by decide+kernel) (by decide+kernel)))
theorem RB(x:Ctx d a b c u m):e9 [.cell 0,.str (Str.ofString "why ")] (bk d [(a,b),(b,c)] r)=some ("NoText",bk d [(a,b),(b,c)] r):=by
 have ga:=x.ga;have gb:=x.gb;have gc:=x.gc;have gu:=x.gu;have g:=x.hm.le;have h:=(fJ (m:=0) x.hu).1;have f:Txt.split (Str.ofString "why ") " "=[(Str.ofString "why"),(Str.ofString "")]:=by simp only[fB,Ah,aE,fM,fN]
 exact gO (by walk_at "a") f yY rfl (aL rfl) (by decide) (gA (j7 (by decide+kernel) (by decide+kernel)))
theorem Q2(x:Ctx d a b c u m):e9 [.cell 0,.str (Str.ofString "spare ")] (bk d [(a,b),(b,c)] r)=some ("NoText",bk d [(a,b),(b,c)] r):=by
 have ga:=x.ga;have gb:=x.gb;have gc:=x.gc;have gu:=x.gu;have g:=x.hm.le;have h:=(fJ (m:=0) x.hu).1;have f:Txt.split (Str.ofString "spare ") " "=[(Str.ofString "spare"),(Str.ofString "")]:=by simp only[fB,Dw,aE,fM,fN]
 exact gO (by walk_at "a") f p9 rfl (aL rfl) (by decide) (gA (j7 (by decide+kernel) (by decide+kernel)))
theorem Oe(x:Ctx d a b c u m):e9 [.cell 0,.str (Str.ofString "work "++m++Str.ofString " 3 2 1")] (bk d [(a,b),(b,c)] r)=some ("NoName",bk d [(a,b),(b,c)] r):=by
 have ga:=x.ga;have gb:=x.gb;have gc:=x.gc;have gu:=x.gu;have g:=x.hm.le;have h:=(fJ (m:=0) x.hu).1;have f:Txt.split (Str.ofString "work "++m++Str.ofString " 3 2 1") " "=[(Str.ofString "work"),m,(Str.ofString "3"),(Str.ofString "2"),(Str.ofString "1")]:=by simp only[fB,Ak,eo,fF x.fm,aE,fM,fN]
 exact gO (by walk_at "a") f iJ rfl (aL rfl) (by decide) (gA (EY x.hm.le x.hm.no))
theorem O8(x:Ctx d a b c u m):e9 [.cell 0,.str (Str.ofString "work "++m++Str.ofString " x 2 1")] (bk d [(a,b),(b,c)] r)=some ("NoName",bk d [(a,b),(b,c)] r):=by
 have ga:=x.ga;have gb:=x.gb;have gc:=x.gc;have gu:=x.gu;have g:=x.hm.le;have h:=(fJ (m:=0) x.hu).1;have f:Txt.split (Str.ofString "work "++m++Str.ofString " x 2 1") " "=[(Str.ofString "work"),m,(Str.ofString "x"),(Str.ofString "2"),(Str.ofString "1")]:=by simp only[fB,Aj,eo,fF x.fm,aE,fM,fN]
 exact gO (by walk_at "a") f iJ rfl (aL rfl) (by decide) (gA (EY x.hm.le x.hm.no))
theorem MQ(x:Ctx d a b c u m):e9 [.cell 0,.str (Str.ofString "need "++u++Str.ofString " "++a)] (bk d [(a,b),(b,c)] r)=some ("NoName",bk d [(a,b),(b,c)] r):=by
 have ga:=x.ga;have gb:=x.gb;have gc:=x.gc;have gu:=x.gu;have g:=x.hm.le;have h:=(fJ (m:=0) x.hu).1;have f:Txt.split (Str.ofString "need "++u++Str.ofString " "++a) " "=[(Str.ofString "need"),u,a]:=by simp only[fB,jv,gV,fF x.fa,fF x.fu,aE,fM,fN]
 exact gO (by walk_at "a") f jY rfl (aL rfl) (by decide) (gA (oJ x.nu))
theorem Oz(x:Ctx d a b c u m):e9 [.cell 0,.str (Str.ofString "need "++a++Str.ofString " "++u)] (bk d [(a,b),(b,c)] r)=some ("NoName",bk d [(a,b),(b,c)] r):=by
 have ga:=x.ga;have gb:=x.gb;have gc:=x.gc;have gu:=x.gu;have g:=x.hm.le;have h:=(fJ (m:=0) x.hu).1;have f:Txt.split (Str.ofString "need "++a++Str.ofString " "++u) " "=[(Str.ofString "need"),a,u]:=by simp only[fB,jv,gV,fF x.fa,fF x.fu,aE,fM,fN]
 exact gO (by walk_at "a") f jY rfl (aL rfl) (by decide) (iO (mK x.na) (gA (oJ x.nu)))
theorem OJ(x:Ctx d a b c u m):e9 [.cell 0,.str (Str.ofString "need "++m++Str.ofString " "++u)] (bk d [(a,b),(b,c)] r)=some ("NoName",bk d [(a,b),(b,c)] r):=by
 have ga:=x.ga;have gb:=x.gb;have gc:=x.gc;have gu:=x.gu;have g:=x.hm.le;have h:=(fJ (m:=0) x.hu).1;have f:Txt.split (Str.ofString "need "++m++Str.ofString " "++u) " "=[(Str.ofString "need"),m,u]:=by simp only[fB,jv,gV,fF x.fm,fF x.fu,aE,fM,fN]
 exact gO (by walk_at "a") f jY rfl (aL rfl) (by decide) (gA (oJ x.nm))
theorem M9(x:Ctx d a b c u m):e9 [.cell 0,.str (Str.ofString "need "++u++Str.ofString " "++u)] (bk d [(a,b),(b,c)] r)=some ("NoName",bk d [(a,b),(b,c)] r):=by
 have ga:=x.ga;have gb:=x.gb;have gc:=x.gc;have gu:=x.gu;have g:=x.hm.le;have h:=(fJ (m:=0) x.hu).1;have f:Txt.split (Str.ofString "need "++u++Str.ofString " "++u) " "=[(Str.ofString "need"),u,u]:=by simp only[fB,jv,gV,fF x.fu,aE,fM,fN]
 exact gO (by walk_at "a") f jY rfl (aL rfl) (by decide) (gA (oJ x.nu))
theorem NP(x:Ctx d a b c u m):e9 [.cell 0,.str (Str.ofString "free "++u++Str.ofString " "++a)] (bk d [(a,b),(b,c)] r)=some ("NoName",bk d [(a,b),(b,c)] r):=by
 have ga:=x.ga;have gb:=x.gb;have gc:=x.gc;have gu:=x.gu;have g:=x.hm.le;have h:=(fJ (m:=0) x.hu).1;have f:Txt.split (Str.ofString "free "++u++Str.ofString " "++a) " "=[(Str.ofString "free"),u,a]:=by simp only[fB,jv,tu,fF x.fa,fF x.fu,aE,fM,fN]
 exact gO (by walk_at "a") f xL rfl (aL rfl) (by decide) (gA (oJ x.nu))
theorem Ol(x:Ctx d a b c u m):e9 [.cell 0,.str (Str.ofString "free "++a++Str.ofString " "++m)] (bk d [(a,b),(b,c)] r)=some ("NoName",bk d [(a,b),(b,c)] r):=by
 have ga:=x.ga;have gb:=x.gb;have gc:=x.gc;have gu:=x.gu;have g:=x.hm.le;have h:=(fJ (m:=0) x.hu).1;have f:Txt.split (Str.ofString "free "++a++Str.ofString " "++m) " "=[(Str.ofString "free"),a,m]:=by simp only[fB,jv,tu,fF x.fa,fF x.fm,aE,fM,fN]
 exact gO (by walk_at "a") f xL rfl (aL rfl) (by decide) (iO (mK x.na) (gA (oJ x.nm)))
theorem Pa(x:Ctx d a b c u m):e9 [.cell 0,.str (Str.ofString "drop "++u)] (bk d [(a,b),(b,c)] r)=some ("NoName",bk d [(a,b),(b,c)] r):=by
 have ga:=x.ga;have gb:=x.gb;have gc:=x.gc;have gu:=x.gu;have g:=x.hm.le;have h:=(fJ (m:=0) x.hu).1;have f:Txt.split (Str.ofString "drop "++u) " "=[(Str.ofString "drop"),u]:=by simp only[fB,tv,fF x.fu,aE,fM,fN]
 exact gO (by walk_at "a") f pO rfl (aL rfl) (by decide) (gA (oJ x.nu))
theorem O5(x:Ctx d a b c u m):e9 [.cell 0,.str (Str.ofString "drop "++m)] (bk d [(a,b),(b,c)] r)=some ("NoName",bk d [(a,b),(b,c)] r):=by
 have ga:=x.ga;have gb:=x.gb;have gc:=x.gc;have gu:=x.gu;have g:=x.hm.le;have h:=(fJ (m:=0) x.hu).1;have f:Txt.split (Str.ofString "drop "++m) " "=[(Str.ofString "drop"),m]:=by simp only[fB,tv,fF x.fm,aE,fM,fN]
 exact gO (by walk_at "a") f pO rfl (aL rfl) (by decide) (gA (oJ x.nm))
theorem PJ(x:Ctx d a b c u m):e9 [.cell 0,.str (Str.ofString "show "++u)] (bk d [(a,b),(b,c)] r)=some ("NoName",bk d [(a,b),(b,c)] r):=by
 have ga:=x.ga;have gb:=x.gb;have gc:=x.gc;have gu:=x.gu;have g:=x.hm.le;have h:=(fJ (m:=0) x.hu).1;have f:Txt.split (Str.ofString "show "++u) " "=[(Str.ofString "show"),u]:=by simp only[fB,tr,fF x.fu,aE,fM,fN]
 exact gO (by walk_at "a") f pR rfl (aL rfl) (by decide) (gA (oJ x.nu))
theorem aEl(x:Ctx d a b c u m):e9 [.cell 0,.str (Str.ofString "show "++m)] (bk d [(a,b),(b,c)] r)=some ("NoName",bk d [(a,b),(b,c)] r):=by
 have ga:=x.ga;have gb:=x.gb;have gc:=x.gc;have gu:=x.gu;have g:=x.hm.le;have h:=(fJ (m:=0) x.hu).1;have f:Txt.split (Str.ofString "show "++m) " "=[(Str.ofString "show"),m]:=by simp only[fB,tr,fF x.fm,aE,fM,fN]
 exact gO (by walk_at "a") f pR rfl (aL rfl) (by decide) (gA (oJ x.nm))
theorem Rz(x:Ctx d a b c u m):e9 [.cell 0,.str (Str.ofString "need "++a++Str.ofString " "++m)] (bk d [(a,b),(b,c)] r)=some ("NoName",bk d [(a,b),(b,c)] r):=by
 have ga:=x.ga;have gb:=x.gb;have gc:=x.gc;have gu:=x.gu;have g:=x.hm.le;have h:=(fJ (m:=0) x.hu).1;have f:Txt.split (Str.ofString "need "++a++Str.ofString " "++m) " "=[(Str.ofString "need"),a,m]:=by simp only[fB,jv,gV,fF x.fa,fF x.fm,aE,fM,fN]
 exact gO (by walk_at "a") f jY rfl (aL rfl) (by decide) (iO (mK x.na) (gA (oJ x.nm)))
theorem PM(x:Ctx d a b c u m):e9 [.cell 0,.str (Str.ofString "work "++m++Str.ofString " 1 2 x")] (bk d [(a,b),(b,c)] r)=some ("NoName",bk d [(a,b),(b,c)] r):=by
 have ga:=x.ga;have gb:=x.gb;have gc:=x.gc;have gu:=x.gu;have g:=x.hm.le;have h:=(fJ (m:=0) x.hu).1;have f:Txt.split (Str.ofString "work "++m++Str.ofString " 1 2 x") " "=[(Str.ofString "work"),m,(Str.ofString "1"),(Str.ofString "2"),(Str.ofString "x")]:=by simp only[fB,FU,eo,fF x.fm,aE,fM,fN]
 exact gO (by walk_at "a") f iJ rfl (aL rfl) (by decide) (gA (EY x.hm.le x.hm.no))
theorem OD(x:Ctx d a b c u m):e9 [.cell 0,.str (Str.ofString "work "++a++Str.ofString " x 2 1")] (bk d [(a,b),(b,c)] r)=some ("NoText",bk d [(a,b),(b,c)] r):=by
 have ga:=x.ga;have gb:=x.gb;have gc:=x.gc;have gu:=x.gu;have g:=x.hm.le;have h:=(fJ (m:=0) x.hu).1;have f:Txt.split (Str.ofString "work "++a++Str.ofString " x 2 1") " "=[(Str.ofString "work"),a,(Str.ofString "x"),(Str.ofString "2"),(Str.ofString "1")]:=by simp only[fB,Aj,eo,fF x.fa,aE,fM,fN]
 exact gO (by walk_at "a") f iJ rfl (aL rfl) (by decide) (iO (nM x.ga x.ha) (gA (j7 (by decide+kernel) (by decide+kernel))))
theorem NA(x:Ctx d a b c u m):e9 [.cell 0,.str (Str.ofString "work "++a++Str.ofString " 3 -2 1")] (bk d [(a,b),(b,c)] r)=some ("NoText",bk d [(a,b),(b,c)] r):=by
 have ga:=x.ga;have gb:=x.gb;have gc:=x.gc;have gu:=x.gu;have g:=x.hm.le;have h:=(fJ (m:=0) x.hu).1;have f:Txt.split (Str.ofString "work "++a++Str.ofString " 3 -2 1") " "=[(Str.ofString "work"),a,(Str.ofString "3"),(Str.ofString "-2"),(Str.ofString "1")]:=by simp only[fB,eo,Jd,fF x.fa,aE,fM,fN]
 exact gO (by walk_at "a") f iJ rfl (aL rfl) (by decide) (iO (nM x.ga x.ha) (iO (jD (by decide+kernel) xo yd) (gA (j7 (by decide+kernel) (by decide+kernel)))))
theorem M0(x:Ctx d a b c u m):e9 [.cell 0,.str (Str.ofString "work "++a++Str.ofString " 3 2 01")] (bk d [(a,b),(b,c)] r)=some ("NoText",bk d [(a,b),(b,c)] r):=by
 have ga:=x.ga;have gb:=x.gb;have gc:=x.gc;have gu:=x.gu;have g:=x.hm.le;have h:=(fJ (m:=0) x.hu).1;have f:Txt.split (Str.ofString "work "++a++Str.ofString " 3 2 01") " "=[(Str.ofString "work"),a,(Str.ofString "3"),(Str.ofString "2"),(Str.ofString "01")]:=by simp only[fB,DW,eo,fF x.fa,aE,fM,fN]
 exact gO (by walk_at "a") f iJ rfl (aL rfl) (by decide) (iO (nM x.ga x.ha) (iO (jD (by decide+kernel) xo yd) (iO (jD (by decide+kernel) BQ BU) (gA (j7 (by decide+kernel) (by decide+kernel))))))
theorem OI(x:Ctx d a b c u m):e9 [.cell 0,.str (Str.ofString "work "++u++Str.ofString " 3  1")] (bk d [(a,b),(b,c)] r)=some ("NoText",bk d [(a,b),(b,c)] r):=by
 have ga:=x.ga;have gb:=x.gb;have gc:=x.gc;have gu:=x.gu;have g:=x.hm.le;have h:=(fJ (m:=0) x.hu).1;have f:Txt.split (Str.ofString "work "++u++Str.ofString " 3  1") " "=[(Str.ofString "work"),u,(Str.ofString "3"),(Str.ofString ""),(Str.ofString "1")]:=by simp only[fB,eo,Je,fF x.fu,aE,fM,fN]
 exact gO (by walk_at "a") f iJ rfl (aL rfl) (by decide) (iO (nM x.gu x.hu) (iO (jD (by decide+kernel) xo yd) (gA (j7 (by decide+kernel) (by decide+kernel)))))
theorem N9(x:Ctx d a b c u m):e9 [.cell 0,.str (Str.ofString "work "++u++Str.ofString " 1 2 x")] (bk d [(a,b),(b,c)] r)=some ("NoText",bk d [(a,b),(b,c)] r):=by
 have ga:=x.ga;have gb:=x.gb;have gc:=x.gc;have gu:=x.gu;have g:=x.hm.le;have h:=(fJ (m:=0) x.hu).1;have f:Txt.split (Str.ofString "work "++u++Str.ofString " 1 2 x") " "=[(Str.ofString "work"),u,(Str.ofString "1"),(Str.ofString "2"),(Str.ofString "x")]:=by simp only[fB,FU,eo,fF x.fu,aE,fM,fN]
 exact gO (by walk_at "a") f iJ rfl (aL rfl) (by decide) (iO (nM x.gu x.hu) (iO (jD (by decide+kernel) wa vq) (iO (jD (by decide+kernel) BQ BU) (gA (j7 (by decide+kernel) (by decide+kernel))))))
theorem NX(x:Ctx d a b c u m):e9 [.cell 0,.str (Str.ofString "work "++a++Str.ofString " 2 3 1")] (bk d [(a,b),(b,c)] r)=some ("NoText",bk d [(a,b),(b,c)] r):=by
 have ga:=x.ga;have gb:=x.gb;have gc:=x.gc;have gu:=x.gu;have g:=x.hm.le;have h:=(fJ (m:=0) x.hu).1;have f:Txt.split (Str.ofString "work "++a++Str.ofString " 2 3 1") " "=[(Str.ofString "work"),a,(Str.ofString "2"),(Str.ofString "3"),(Str.ofString "1")]:=by simp only[fB,eo,FR,fF x.fa,aE,fM,fN]
 exact nB (by walk_at "a") f iJ (aL rfl) (fY (nM x.ga x.ha) (fY (jD (by decide+kernel) BQ BU) (fY (jD (by decide+kernel) xo yd) (fY (jD (by decide+kernel) wa vq) jB)))) lC (pM (by decide))
theorem Pn(x:Ctx d a b c u m):e9 [.cell 0,.str (Str.ofString "work "++u++Str.ofString " 2 3 1")] (bk d [(a,b),(b,c)] r)=some ("NoText",bk d [(a,b),(b,c)] r):=by
 have ga:=x.ga;have gb:=x.gb;have gc:=x.gc;have gu:=x.gu;have g:=x.hm.le;have h:=(fJ (m:=0) x.hu).1;have f:Txt.split (Str.ofString "work "++u++Str.ofString " 2 3 1") " "=[(Str.ofString "work"),u,(Str.ofString "2"),(Str.ofString "3"),(Str.ofString "1")]:=by simp only[fB,eo,FR,fF x.fu,aE,fM,fN]
 exact nB (by walk_at "a") f iJ (aL rfl) (fY (nM x.gu x.hu) (fY (jD (by decide+kernel) BQ BU) (fY (jD (by decide+kernel) xo yd) (fY (jD (by decide+kernel) wa vq) jB)))) lC (pM (by decide))
theorem O1(x:Ctx d a b c u m):e9 [.cell 0,.str (Str.ofString "work "++u++Str.ofString " 0 1 0")] (bk d [(a,b),(b,c)] r)=some ("NoText",bk d [(a,b),(b,c)] r):=by
 have ga:=x.ga;have gb:=x.gb;have gc:=x.gc;have gu:=x.gu;have g:=x.hm.le;have h:=(fJ (m:=0) x.hu).1;have f:Txt.split (Str.ofString "work "++u++Str.ofString " 0 1 0") " "=[(Str.ofString "work"),u,(Str.ofString "0"),(Str.ofString "1"),(Str.ofString "0")]:=by simp only[fB,Jf,eo,fF x.fu,aE,fM,fN]
 exact nB (by walk_at "a") f iJ (aL rfl) (fY (nM x.gu x.hu) (fY (jD (by decide+kernel) BR BW) (fY (jD (by decide+kernel) wa vq) (fY (jD (by decide+kernel) BR BW) jB)))) lC (pM (by decide))
theorem O4(x:Ctx d a b c u m):e9 [.cell 0,.str (Str.ofString "price -1")] (bk d [(a,b),(b,c)] r)=some ("NoText",bk d [(a,b),(b,c)] r):=by
 have ga:=x.ga;have gb:=x.gb;have gc:=x.gc;have gu:=x.gu;have g:=x.hm.le;have h:=(fJ (m:=0) x.hu).1;have f:Txt.split (Str.ofString "price -1") " "=[(Str.ofString "price"),(Str.ofString "-1")]:=by simp only[fB,DA,aE,fM,fN]
 exact gO (by walk_at "a") f oR rfl (aL rfl) (by decide) (gA (j7 (by decide+kernel) (by decide+kernel)))
theorem Nf(x:Ctx d a b c u m):e9 [.cell 0,.str (Str.ofString "plan 00")] (bk d [(a,b),(b,c)] r)=some ("NoText",bk d [(a,b),(b,c)] r):=by
 have ga:=x.ga;have gb:=x.gb;have gc:=x.gc;have gu:=x.gu;have g:=x.hm.le;have h:=(fJ (m:=0) x.hu).1;have f:Txt.split (Str.ofString "plan 00") " "=[(Str.ofString "plan"),(Str.ofString "00")]:=by simp only[fB,DE,aE,fM,fN]
 exact gO (by walk_at "a") f tE rfl (aL rfl) (by decide) (gA (j7 (by decide+kernel) (by decide+kernel)))
theorem RN(x:Ctx d a b c u m):e9 [.cell 0,.str (Str.ofString "why +1")] (bk d [(a,b),(b,c)] r)=some ("NoText",bk d [(a,b),(b,c)] r):=by
 have ga:=x.ga;have gb:=x.gb;have gc:=x.gc;have gu:=x.gu;have g:=x.hm.le;have h:=(fJ (m:=0) x.hu).1;have f:Txt.split (Str.ofString "why +1") " "=[(Str.ofString "why"),(Str.ofString "+1")]:=by simp only[fB,Dr,aE,fM,fN]
 exact gO (by walk_at "a") f yY rfl (aL rfl) (by decide) (gA (j7 (by decide+kernel) (by decide+kernel)))
theorem P4(x:Ctx d a b c u m):e9 [.cell 0,.str (Str.ofString "budget -1")] (bk d [(a,b),(b,c)] r)=some ("NoText",bk d [(a,b),(b,c)] r):=by
 have ga:=x.ga;have gb:=x.gb;have gc:=x.gc;have gu:=x.gu;have g:=x.hm.le;have h:=(fJ (m:=0) x.hu).1;have f:Txt.split (Str.ofString "budget -1") " "=[(Str.ofString "budget"),(Str.ofString "-1")]:=by simp only[fB,DN,aE,fM,fN]
 exact gO (by walk_at "a") f o3 rfl (aL rfl) (by decide) (gA (j7 (by decide+kernel) (by decide+kernel)))
theorem Q1(x:Ctx d a b c u m):e9 [.cell 0,.str (Str.ofString "bonus x")] (bk d [(a,b),(b,c)] r)=some ("NoText",bk d [(a,b),(b,c)] r):=by
 have ga:=x.ga;have gb:=x.gb;have gc:=x.gc;have gu:=x.gu;have g:=x.hm.le;have h:=(fJ (m:=0) x.hu).1;have f:Txt.split (Str.ofString "bonus x") " "=[(Str.ofString "bonus"),(Str.ofString "x")]:=by simp only[fB,DQ,aE,fM,fN]
 exact gO (by walk_at "a") f zH rfl (aL rfl) (by decide) (gA (j7 (by decide+kernel) (by decide+kernel)))
theorem QU(x:Ctx d a b c u m):e9 [.cell 0,.str (Str.ofString "budget ")] (bk d [(a,b),(b,c)] r)=some ("NoText",bk d [(a,b),(b,c)] r):=by
 have ga:=x.ga;have gb:=x.gb;have gc:=x.gc;have gu:=x.gu;have g:=x.hm.le;have h:=(fJ (m:=0) x.hu).1;have f:Txt.split (Str.ofString "budget ") " "=[(Str.ofString "budget"),(Str.ofString "")]:=by simp only[fB,DO,aE,fM,fN]
 exact gO (by walk_at "a") f o3 rfl (aL rfl) (by decide) (gA (j7 (by decide+kernel) (by decide+kernel)))
theorem QH(x:Ctx d a b c u m):e9 [.cell 0,.str (Str.ofString "spare 1_0")] (bk d [(a,b),(b,c)] r)=some ("NoText",bk d [(a,b),(b,c)] r):=by
 have ga:=x.ga;have gb:=x.gb;have gc:=x.gc;have gu:=x.gu;have g:=x.hm.le;have h:=(fJ (m:=0) x.hu).1;have f:Txt.split (Str.ofString "spare 1_0") " "=[(Str.ofString "spare"),(Str.ofString "1_0")]:=by simp only[fB,Du,aE,fM,fN]
 exact gO (by walk_at "a") f p9 rfl (aL rfl) (by decide) (gA (j7 (by decide+kernel) (by decide+kernel)))
theorem PV(x:Ctx d a b c u m):e9 [.cell 0,.str (Str.ofString "plan 1.")] (bk d [(a,b),(b,c)] r)=some ("NoText",bk d [(a,b),(b,c)] r):=by
 have ga:=x.ga;have gb:=x.gb;have gc:=x.gc;have gu:=x.gu;have g:=x.hm.le;have h:=(fJ (m:=0) x.hu).1;have f:Txt.split (Str.ofString "plan 1.") " "=[(Str.ofString "plan"),(Str.ofString "1.")]:=by simp only[fB,DD,aE,fM,fN]
 exact gO (by walk_at "a") f tE rfl (aL rfl) (by decide) (gA (j7 (by decide+kernel) (by decide+kernel)))
theorem RE(x:Ctx d a b c u m):e9 [.cell 0,.str (Str.ofString "price "++Txt.mul (Str.ofString "9") 31)] (bk d [(a,b),(b,c)] r)=some ("NoText",bk d [(a,b),(b,c)] r):=by
 have ga:=x.ga;have gb:=x.gb;have gc:=x.gc;have gu:=x.gu;have g:=x.hm.le;have h:=(fJ (m:=0) x.hu).1;have f:Txt.split (Str.ofString "price "++Txt.mul (Str.ofString "9") 31) " "=[(Str.ofString "price"),(Txt.mul (Str.ofString "9") 31)]:=by simp only[fB,Al,Ai,aE,fM,fN]
 exact gO (by walk_at "a") f oR rfl (aL rfl) (by decide) (gA (j7 (by decide+kernel) (by decide+kernel)))
theorem Rb(x:Ctx d a b c u m):e9 [.cell 0,.str (Str.ofString "work "++u++Str.ofString " "++Txt.mul (Str.ofString "9") 31++Str.ofString " 1 1")] (bk d [(a,b),(b,c)] r)=some ("NoText",bk d [(a,b),(b,c)] r):=by
 have ga:=x.ga;have gb:=x.gb;have gc:=x.gc;have gu:=x.gu;have g:=x.hm.le;have h:=(fJ (m:=0) x.hu).1;have f:Txt.split (Str.ofString "work "++u++Str.ofString " "++Txt.mul (Str.ofString "9") 31++Str.ofString " 1 1") " "=[(Str.ofString "work"),u,(Txt.mul (Str.ofString "9") 31),(Str.ofString "1"),(Str.ofString "1")]:=by simp only[fB,Al,jv,FV,eo,fF x.fu,aE,fM,fN]
 exact gO (by walk_at "a") f iJ rfl (aL rfl) (by decide) (iO (nM x.gu x.hu) (gA (j7 (by decide+kernel) (by decide+kernel))))
theorem PF(x:Ctx d a b c u m):e9 [.cell 0,.str (Str.ofString "why "++a)] (bk d [(a,b),(b,c)] r)=some ("NoText",bk d [(a,b),(b,c)] r):=by
 have ga:=x.ga;have gb:=x.gb;have gc:=x.gc;have gu:=x.gu;have g:=x.hm.le;have h:=(fJ (m:=0) x.hu).1;have f:Txt.split (Str.ofString "why "++a) " "=[(Str.ofString "why"),a]:=by simp only[fB,Ah,fF x.fa,aE,fM,fN]
 exact gO (by walk_at "a") f yY rfl (aL rfl) (by decide) (gA (j7 (aX x.ga (by decide)) (RP x.ha)))
theorem RD(x:Ctx d a b c u m):e9 [.cell 0,.str (Str.ofString "work "++u++Str.ofString " 3 2 1")] (bk d [(a,b),(b,c)] r)=some ("NoRoom",bk d [(a,b),(b,c)] r):=by
 have ga:=x.ga;have gb:=x.gb;have gc:=x.gc;have gu:=x.gu;have g:=x.hm.le;have h:=(fJ (m:=0) x.hu).1;have f:Txt.split (Str.ofString "work "++u++Str.ofString " 3 2 1") " "=[(Str.ofString "work"),u,(Str.ofString "3"),(Str.ofString "2"),(Str.ofString "1")]:=by simp only[fB,Ak,eo,fF x.fu,aE,fM,fN]
 exact nB (by walk_at "a") f iJ (aL rfl) (fY (nM x.gu x.hu) (fY (jD (by decide+kernel) xo yd) (fY (jD (by decide+kernel) BQ BU) (fY (jD (by decide+kernel) wa vq) jB)))) lC (pH (by decide) x.nu (by rw[x.l8];decide))
theorem Qt(x:Ctx d a b c u m):e9 [.cell 0,.str (Str.ofString "work "++u++Str.ofString " 0 0 0")] (bk d [(a,b),(b,c)] r)=some ("NoRoom",bk d [(a,b),(b,c)] r):=by
 have ga:=x.ga;have gb:=x.gb;have gc:=x.gc;have gu:=x.gu;have g:=x.hm.le;have h:=(fJ (m:=0) x.hu).1;have f:Txt.split (Str.ofString "work "++u++Str.ofString " 0 0 0") " "=[(Str.ofString "work"),u,(Str.ofString "0"),(Str.ofString "0"),(Str.ofString "0")]:=by simp only[fB,Jg,eo,fF x.fu,aE,fM,fN]
 exact nB (by walk_at "a") f iJ (aL rfl) (fY (nM x.gu x.hu) (fY (jD (by decide+kernel) BR BW) (fY (jD (by decide+kernel) BR BW) (fY (jD (by decide+kernel) BR BW) jB)))) lC (pH (by decide) x.nu (by rw[x.l8];decide))
theorem Q9(x:Ctx d a b c u m):e9 [.cell 0,.str (Str.ofString "work "++u++Str.ofString " "++Txt.mul (Str.ofString "9") 30++Str.ofString " 1 1")] (bk d [(a,b),(b,c)] r)=some ("NoRoom",bk d [(a,b),(b,c)] r):=by
 have ga:=x.ga;have gb:=x.gb;have gc:=x.gc;have gu:=x.gu;have g:=x.hm.le;have h:=(fJ (m:=0) x.hu).1;have f:Txt.split (Str.ofString "work "++u++Str.ofString " "++Txt.mul (Str.ofString "9") 30++Str.ofString " 1 1") " "=[(Str.ofString "work"),u,(Txt.mul (Str.ofString "9") 30),(Str.ofString "1"),(Str.ofString "1")]:=by simp only[fB,DY,jv,FV,eo,fF x.fu,aE,fM,fN]
 exact nB (by walk_at "a") f iJ (aL rfl) (fY (nM x.gu x.hu) (fY (jD (by decide+kernel) JF Jy) (fY (jD (by decide+kernel) wa vq) (fY (jD (by decide+kernel) wa vq) jB)))) lC (pH (by decide) x.nu (by rw[x.l8];decide))
theorem Px(x:Ctx d a b c u m):e9 [.cell 0,.str (Str.ofString "need "++a++Str.ofString " "++a)] (bk d [(a,b),(b,c)] r)=some ("NoOrder",bk d [(a,b),(b,c)] r):=by
 have ga:=x.ga;have gb:=x.gb;have gc:=x.gc;have gu:=x.gu;have g:=x.hm.le;have h:=(fJ (m:=0) x.hu).1;have f:Txt.split (Str.ofString "need "++a++Str.ofString " "++a) " "=[(Str.ofString "need"),a,a]:=by simp only[fB,jv,gV,fF x.fa,aE,fM,fN]
 exact nB (by walk_at "a") f jY (aL rfl) (fY (mK x.na) (fY (mK x.na) jB)) lJ (x.AE (r:=r))
theorem Qn(x:Ctx d a b c u m):e9 [.cell 0,.str (Str.ofString "need "++b++Str.ofString " "++a)] (bk d [(a,b),(b,c)] r)=some ("NoOrder",bk d [(a,b),(b,c)] r):=by
 have ga:=x.ga;have gb:=x.gb;have gc:=x.gc;have gu:=x.gu;have g:=x.hm.le;have h:=(fJ (m:=0) x.hu).1;have f:Txt.split (Str.ofString "need "++b++Str.ofString " "++a) " "=[(Str.ofString "need"),b,a]:=by simp only[fB,jv,gV,fF x.fa,fF x.fb,aE,fM,fN]
 exact nB (by walk_at "a") f jY (aL rfl) (fY (mK x.nb) (fY (mK x.na) jB)) lJ (x.AD (r:=r))
theorem RA(x:Ctx d a b c u m):e9 [.cell 0,.str (Str.ofString "need "++c++Str.ofString " "++a)] (bk d [(a,b),(b,c)] r)=some ("NoOrder",bk d [(a,b),(b,c)] r):=by
 have ga:=x.ga;have gb:=x.gb;have gc:=x.gc;have gu:=x.gu;have g:=x.hm.le;have h:=(fJ (m:=0) x.hu).1;have f:Txt.split (Str.ofString "need "++c++Str.ofString " "++a) " "=[(Str.ofString "need"),c,a]:=by simp only[fB,jv,gV,fF x.fa,fF x.fc,aE,fM,fN]
 exact nB (by walk_at "a") f jY (aL rfl) (fY (mK x.nc) (fY (mK x.na) jB)) lJ (x.AC (r:=r))
theorem Rr(x:Ctx d a b c u m):e9 [.cell 0,.str (Str.ofString "need "++c++Str.ofString " "++b)] (bk d [(a,b),(b,c)] r)=some ("NoOrder",bk d [(a,b),(b,c)] r):=by
 have ga:=x.ga;have gb:=x.gb;have gc:=x.gc;have gu:=x.gu;have g:=x.hm.le;have h:=(fJ (m:=0) x.hu).1;have f:Txt.split (Str.ofString "need "++c++Str.ofString " "++b) " "=[(Str.ofString "need"),c,b]:=by simp only[fB,jv,gV,fF x.fb,fF x.fc,aE,fM,fN]
 exact nB (by walk_at "a") f jY (aL rfl) (fY (mK x.nc) (fY (mK x.nb) jB)) lJ (x.AB (r:=r))
theorem Qv(x:Ctx d a b c u m):∀p∈q9 a u,e9 [.cell 0,.str p.1] (bk d [(a,b),(b,c)] r)=some (h7 p.2,bk d [(a,b),(b,c)] r):=by
 exact(all_cons (Pt x) (all_cons (Pp x) (all_cons (M8 x) (all_cons (MW x) (all_cons (OV x) (all_cons (M2 x) (all_cons (Ou x) (all_cons (NQ x) (all_cons (Pm x) (all_cons (O3 x) (all_cons (OT x) (all_cons (Rg x) (all_cons (SM x) (all_cons (P2 x) (all_cons (P8 x) (all_cons (OS x) (all_cons (SN x) (all_cons (Qb x) (all_cons (Q7 x) (all_cons (Qo x) (all_cons (PK x) (all_cons (Qq x) (all_cons (Q6 x) (all_cons (Qm x) (all_cons (QP x) (all_cons (PY x) (all_cons (OQ x) (all_cons (Rj x) (all_cons (Qr x) (all_cons (Sq x) (all_cons (RB x) (all_cons (Q2 x) oX))))))))))))))))))))))))))))))))
theorem Qw(x:Ctx d a b c u m):∀p∈rL a u m,e9 [.cell 0,.str p.1] (bk d [(a,b),(b,c)] r)=some (h7 p.2,bk d [(a,b),(b,c)] r):=by
 exact(all_cons (Oe x) (all_cons (O8 x) (all_cons (MQ x) (all_cons (Oz x) (all_cons (OJ x) (all_cons (M9 x) (all_cons (NP x) (all_cons (Ol x) (all_cons (Pa x) (all_cons (O5 x) (all_cons (PJ x) (all_cons (aEl x) (all_cons (Rz x) (all_cons (PM x) oX))))))))))))))
theorem QK(x:Ctx d a b c u m):∀p∈rS a b c u,e9 [.cell 0,.str p.1] (bk d [(a,b),(b,c)] r)=some (h7 p.2,bk d [(a,b),(b,c)] r):=by
 exact(all_cons (OD x) (all_cons (NA x) (all_cons (M0 x) (all_cons (OI x) (all_cons (N9 x) (all_cons (NX x) (all_cons (Pn x) (all_cons (O1 x) (all_cons (O4 x) (all_cons (Nf x) (all_cons (RN x) (all_cons (P4 x) (all_cons (Q1 x) (all_cons (QU x) (all_cons (QH x) (all_cons (PV x) (all_cons (RE x) (all_cons (Rb x) (all_cons (PF x) (all_cons (RD x) (all_cons (Qt x) (all_cons (Q9 x) (all_cons (Px x) (all_cons (Qn x) (all_cons (RA x) (all_cons (Rr x) oX))))))))))))))))))))))))))
end
end ed
namespace ed
open PySem L2 TL cx
section
variable {ws:List Wk}{nd:List (Str×Str)}{r C g j C':aq}{f:aB}{a b x:FE}{row s t:Str}{v:T}{k:Int}
variable{c:FB}{G:FS}{Q:Fl->aB->aq->Prop}
theorem JL{f:aB}(h:Y0 f (bk ws nd r)=some (.cell 0,bk ws nd r))(d:Y1 f (bk ws nd r)=some (.str row,bk ws nd r)):wJ "Book" "say" 2 e9 Y0 (e7 Y1 fR) f (bk ws nd r)=e9 [.cell 0,.str row] (bk ws nd r):=by
 unfold wJ;rw[h,aM];dsimp only;rw[B9,aM];show eT (e7 Y1 fR f (bk ws nd r)) _=_;unfold e7;rw[d];rfl
noncomputable def flags(k:Int):tl:=[.bl (decide (k=1)),.bl (decide (k=2)),.bl (decide (k=3)),.bl (decide (k=4)),.bl (decide (k=5)),.bl true]
theorem Tu(d:k=1\/k=2\/k=3\/k=4\/k=5)(h:e9 [.cell 0,.str row] (bk ws nd r)=some (h7 k,bk ws nd r)):lM [.cell 0,.str row] (bk ws nd r)=some (.lst (flags k),bk ws nd r):=by
 apply j9;unfold sF;walk_at "b";rw[o0];simp_arith[↓fK];refine NM ?_;rw[nR (c:=h7 k) (C':=bk ws nd r) (by rw[JL rfl rfl];exact h)];refine⟨by rcases d with rfl|rfl|rfl|rfl|rfl<;>decide,?_⟩;simp_arith[↓fK,↓ND,List.set];rcases d with rfl|rfl|rfl|rfl|rfl
 .exact⟨true,by decide,false,by decide,false,by decide,by decide,false,by decide,false,by decide,true,by decide,by decide,by decide,rfl⟩
 .exact⟨false,by decide,true,by decide,false,by decide,by decide,false,by decide,false,by decide,true,by decide,by decide,by decide,rfl⟩
 .exact⟨false,by decide,false,by decide,true,by decide,by decide,false,by decide,false,by decide,true,by decide,by decide,by decide,rfl⟩
 .exact⟨false,by decide,false,by decide,false,by decide,by decide,true,by decide,false,by decide,true,by decide,by decide,by decide,rfl⟩
 .exact⟨false,by decide,false,by decide,false,by decide,by decide,false,by decide,true,by decide,true,by decide,by decide,by decide,rfl⟩
theorem jL(h:a f C=some (.str s,g))(d:b f g=some (.str t,j))(hl:s.length+t.length<=1000):fP a b fO f C=some (.str (s++t),j):=by
 unfold fP;rw[h,aM];dsimp only;rw[d,aM];show(if s.length+t.length<=lim then _ else _)=_;rw[V6 (Hm hl)]
theorem mD(h:Y1 f (bk ws nd r)=some (.cell 0,bk ws nd r))(d:x f (bk ws nd r)=some (.str row,bk ws nd r))(e:fW [.cell 0,.str row] (bk ws nd r)=some (v,C')):k6 "Book" "say" 2 fW Y1 (e7 x fR) f (bk ws nd r)=some (v,C'):=by
 unfold k6;rw[h,aM];dsimp only;rw[B9,aM];show eT (e7 x fR f (bk ws nd r)) _=_;unfold e7;rw[d];exact e
theorem oM(h:a f C=some (.str s,g))(d:b f g=some (.str s,j)):i4 (jl a b) f C=some (false,j):=by
 unfold i4 jl fP;rw[h,aM];dsimp only;rw[d,aM];have:jj true (.str s) (.str s) j=some (.bl (!(s==s)),j):=rfl;rw[this,beq_self_eq_true];rfl
theorem Hh(h:a f C=some (.str s,g))(d:b f g=some (.str s,j)):vc a b f C=some (.bl true,j):=by
 unfold vc fP;rw[h,aM];dsimp only;rw[d,aM];have:jj false (.str s) (.str s) j=some (.bl (s==s),j):=rfl;rw[this,beq_self_eq_true]
theorem CZ{d:FB}(i:c f C=some (false,g))(h:d f g=some (false,j)):rO c d f C=some (false,j):=by
 unfold rO;rw[i,aM];exact h
theorem oZ{F:FS}(h:c f C=some (false,g))(d:wpS G f g Q):wpS (gj c F G) f C Q:=by
 obtain⟨l,i,D,e,q⟩:=d;exact⟨l,i,D,by unfold gj;rw[h];exact e,q⟩
theorem Rk{i:Nat}(h:a f C=some (v,g))(q:Q .nx (f.set i (some v)) g):wpS (gZ a (gN i)) f C Q:=⟨_,_,_,by unfold gZ;rw[h];rfl,q⟩
theorem HS{F:FS}(h:wpS F f C λl d g=>l=.nx/\wpS G d g Q):wpS (gG F G) f C Q:=by
 obtain⟨l,d,g,e,rfl,i,n,j,m,q⟩:=h;refine⟨i,n,j,?_,q⟩;unfold gG;rw[e];exact m
theorem oY(q:Q .nx f C):wpS jM f C Q:=⟨_,_,_,rfl,q⟩
end
theorem L3:∀i:Fin 14,iM (Str.ofString (toString (i.val:Int)))=true/\intText? (Str.ofString (toString (i.val:Int)))=some (i.val:Int)/\32∉(Str.ofString (toString (i.val:Int))).cps.toList/\(Str.ofString (toString (i.val:Int))).length<=2:=by decide+kernel
theorem dg{n:Int}(a:0<=n)(h:n<14):iM (toString n)=true/\intText? (toString n)=some n/\32∉(toString n:Str).cps.toList/\(toString n:Str).length<=2:=by
 have:=L3 ⟨n.toNat,by omega⟩;dsimp only at this;rw[c7 a]at this;exact this
theorem n8{n:Int}(b:0<=n)(h:n<14):qi (.int n):=⟨by
 have:n.natAbs<2^10:=by omega
 have c:n.natAbs.log2<=10:=by
  by_cases a:n.natAbs=0
  .rw[a];decide
  .exact dW ((UT a).mpr this)
 omega,aX (dg b h).2.2.2 (by decide)⟩
theorem Tn{vs:Ur}(b:vs≠[])(a:∀w∈vs,32∉w.cps.toList):Txt.split (Txt.join " " vs) " "=vs:=by
 refine u4 b a ?_;show(Wc.Str.glued " " vs).cps.toList=_;rw[StrLaws.glued_eq_join,qV]
theorem Ir{vs:Ur}{x:Str}(h:vs≠[]):Txt.join " " (vs++[x])=Txt.join " " vs++" "++x:=by
 show Wc.Str.glued " " (vs++[x])=Wc.Str.glued " " vs++" "++x;rw[StrLaws.glued_eq_join,StrLaws.glued_eq_join];induction vs with
 |nil=>exact absurd rfl h
 |cons y vs ih=>
  cases vs with
  |nil=>rfl
  |cons z vs=>
   have:=ih (by simp);show y++" "++Str.join " " (z::vs++[x])=y++" "++Str.join " " (z::vs)++" "++x;rw[this];show(⟨y.cps++_++((_++_)++_)⟩:Str)=⟨((y.cps++_++_)++_)++_⟩;simp only[U4]
end ed
namespace ed
open PySem L2 TL cx
theorem Oc:Txt.split (Str.ofString "need ") " "=[Str.ofString "need",Str.ofString ""]:=by decide+kernel
theorem yA:Txt.split (Str.ofString "work ") " "=[Str.ofString "work",Str.ofString ""]:=by decide+kernel
theorem Oo:Txt.split (Str.ofString "show ") " "=[Str.ofString "show",Str.ofString ""]:=by decide+kernel
theorem Od:Txt.split (Str.ofString "drop ") " "=[Str.ofString "drop",Str.ofString ""]:=by decide+kernel
theorem Sm:Txt.split (Str.ofString "names") " "=[Str.ofString "names"]:=by decide+kernel
theorem Gm:Txt.split (Str.ofString " ") " "=[Str.ofString "",Str.ofString ""]:=by decide+kernel
theorem L0:Txt.split (Str.ofString " 3 2 1") " "=[Str.ofString "",Str.ofString (toString (3:Int)),Str.ofString (toString (2:Int)),Str.ofString (toString (1:Int))]:=by decide+kernel
theorem Lu:Txt.split (Str.ofString " 7 2 3") " "=[Str.ofString "",Str.ofString (toString (7:Int)),Str.ofString (toString (2:Int)),Str.ofString (toString (3:Int))]:=by decide+kernel
section
variable {ws:List Wk}{nd:List (Str×Str)}{r:aq}{row n f s:Str}{h l p:Int}
abbrev mo(n:Int):Prop:=0<=n/\n<14
theorem vA(c:gJ ec 8 n=true)(hh:mo h)(hl:mo l)(hp:mo p)(b:l<=h)(g:n∈ws.map (·.1)\/ws.length<8)(d:ws.length<100)(j:row.length<=1000)
 (i:Txt.split row " "=[Str.ofString "work",n,Str.ofString (toString h),Str.ofString (toString l),Str.ofString (toString p)]):fW [.cell 0,.str row] (bk ws nd r)=some (.str "ok",bk (t7 ws (n,h,l,p)) nd r):=by
 have k:n.length<=16:=aX (fJ (m:=0) c).2 (by decide);have e:=QI (ws:=ws) (nd:=nd) (r:=r) (p:=p) b g d;have q:∀{m:Int},mo m->yh (bk ws nd r) "any_number" (Str.ofString (toString m)) (.int m):=λa=>jD (aX (dg a.1 a.2).2.2.2 (by decide)) (dg a.1 a.2).1 (dg a.1 a.2).2.1;exact uN j i iJ (aL rfl) (fY (nM k c) (fY (q hh) (fY (q hl) (fY (q hp) jB)))) lC e (lL e)
theorem ID(i:32∉f.cps.toList)(c:32∉s.cps.toList)(t:f.length<=16)(q:s.length<=16)(o:f∈ws.map (·.1))(m:s∈ws.map (·.1))(hl:ws.length<=8)(j:nd.length<=900)(g:Ci ws (nd++[(f,s)]))(d:(f,s)∉nd)(b:mf ws.length ((nd++[(f,s)]).map (fi ws)))(k:De ((nd++[(f,s)]).map (fi ws))):
 fW [.cell 0,.str (Str.ofString "need "++f++Str.ofString " "++s)] (bk ws nd r)=some (.str "ok",bk ws (nd++[(f,s)]) r):=by
 have e:=NV (r:=r) hl j g d b k;have a:Txt.split (Str.ofString "need "++f++Str.ofString " "++s) " "=[Str.ofString "need",f,s]:=by simp only[fB,Oc,Gm,fF i,fF c,aE,fM,fN]
 exact uN (by walk_at "a") a jY (aL rfl) (fY (mK o) (fY (mK m) jB)) lJ e (lL e)
theorem wL(hl:ws.length<=1000)(a:∀p∈ws,p.1.length<=1000):fW [.cell 0,.str (Str.ofString "names")] (bk ws nd r)=some (.str (Txt.join " " (ws.map (·.1))),bk ws nd r):=by
 have e:=Qx (nd:=nd) (r:=r) (t:=.lst []) hl a;exact uN (by decide) Sm zZ (aL rfl) jB vU e (lL e)
theorem IT{x:Wk}(i:32∉x.1.cps.toList)(j:x.1.length<=16)(hl:ws.length<=900)(c:∀p∈ws,p.1.length<=1000)(g:(ws.map (·.1)).Nodup)(a:x∈ws)(d:qi (.int x.2.1)/\qi (.int x.2.2.1)/\qi (.int x.2.2.2)):
 fW [.cell 0,.str (Str.ofString "show "++x.1)] (bk ws nd r)=some (.str (sC ws nd x),bk ws nd r):=by
 have e:=M5 (nd:=nd) (r:=r) hl c g a d;have b:Txt.split (Str.ofString "show "++x.1) " "=[Str.ofString "show",x.1]:=by simp only[fB,Oo,fF i,aE,fM]
 exact uN (by walk_at "a") b pR (aL rfl) (fY (mK (gL ⟨x,a,rfl⟩)) jB) xT e (lL e)
theorem QC{x:Wk}(d:32∉x.1.cps.toList)(g:x.1.length<=16)(c:(ws.map (·.1)).Nodup)(a:x∈ws)(hl:nd.length<=1000):
 fW [.cell 0,.str (Str.ofString "drop "++x.1)] (bk ws nd r)=some (.str "ok",bk (ym x.1 ws) (iw x.1 nd) r):=by
 have e:=Oi (r:=r) c a hl;have b:Txt.split (Str.ofString "drop "++x.1) " "=[Str.ofString "drop",x.1]:=by simp only[fB,Od,fF d,aE,fM]
 exact uN (by walk_at "a") b pO (aL rfl) (fY (mK (gL ⟨x,a,rfl⟩)) jB) TV e (lL e)
end
end ed
namespace ed
open PySem L2 TL cx
variable{c:Int}
theorem pX{f:FE}{a:aB}{C b:aq}{t:T}(h:aI f a C λx D=>x=t/\D=b):f a C=some (t,b):=by
 obtain⟨x,D,e,rfl,rfl⟩:=h;exact e
theorem iK{F G:FS}{d:aB}{C:aq}{Q:Fl->aB->aq->Prop}(P:aB->aq->Prop)(g:wpS F d C λl a b=>l=.nx/\P a b)(f:∀a b,P a b->wpS G a b Q):wpS (gG F G) d C Q:=by
 obtain⟨l,a,b,e,rfl,p⟩:=g;exact HS ⟨_,_,_,e,rfl,f _ _ p⟩
theorem R9{a:aB}:zL "Book" 1 nS [] fR a []=some (.cell 0,bk [] [] []):=by rfl
def hh(c:Int)(k:Nat):Int:=5+cu c k%9
def hl(c:Int)(k:Nat):Int:=cu c (9+k)%5
def hp(c:Int)(k:Nat):Int:=cu c (18+k)%4
theorem sV{k:Nat}:mo (hh c k)/\5<=hh c k:=by
 have:=nC (x:=cu c k) (m:=9) (by decide);unfold mo hh;omega
theorem sW{k:Nat}:mo (hl c k)/\hl c k<5:=by
 have:=nC (x:=cu c (9+k)) (m:=5) (by decide);unfold mo hl;omega
theorem uX{k:Nat}:mo (hp c k):=by
 have:=nC (x:=cu c (18+k)) (m:=4) (by decide);unfold mo hp;omega
def tx(c:Int)(k:Nat):Str:=Txt.join " " ([toString (hh c k),toString (hl c k),toString (hp c k)]:Ur)
theorem PD{k:Nat}:Txt.split (tx c k) " "=[Str.ofString (toString (hh c k)),Str.ofString (toString (hl c k)),Str.ofString (toString (hp c k))]:=by
 refine Tn (by simp) λw a=>?_;simp only[bX,bS,or_false]at a;rcases a with rfl|rfl|rfl
 .exact(dg sV.1.1 sV.1.2).2.2.1
 .exact(dg sW.1.1 sW.1.2).2.2.1
 .exact(dg uX.1 uX.2).2.2.1
theorem Fs{k:Nat}:(tx c k).length<=12:=by
 have f:=(dg (sV (c:=c) (k:=k)).1.1 sV.1.2).2.2.2;have d:=(dg (sW (c:=c) (k:=k)).1.1 sW.1.2).2.2.2;have b:=(dg (uX (c:=c) (k:=k)).1 uX.2).2.2.2;have:=StrLaws.join_length_le " " ([toString (hh c k),toString (hl c k),toString (hp c k)]:Ur);have e:tx c k=Str.join " " ([toString (hh c k),toString (hl c k),toString (hp c k)]:Ur):=StrLaws.glued_eq_join _ _;rw[e];have a:(Str.ofString " ").length=1:=by decide
 rw[a]at this;simp only[aN,aY,List.sum_cons,List.sum_nil,aO,aP]at this;omega
section
variable {N:Nat->Str}{c:Int}
def wk(N:Nat->Str)(c:Int)(k:Nat):Wk:=(N k,hh c k,hl c k,hp c k)
def eH(N:Nat->Str)(c:Int)(k:Nat):List Wk:=(bB k).map (wk N c)
theorem lW{k:Nat}:(eH N c k).length=k:=by unfold eH;simp
theorem jP{k:Nat}:(eH N c k).map (·.1)=(bB k).map N:=by unfold eH;rw[cK];rfl
abbrev Inj(N:Nat->Str):Prop:=∀i j,i<9->j<9->N i=N j->i=j
theorem GS(h:Inj N){k i:Nat}(d:k<=i)(b:i<9):N i∉(eH N c k).map (·.1):=by
 rw[jP];intro z;obtain⟨j,a,e⟩:=fQ z;have a:=gC a;have:=h j i (by omega) b e;omega
theorem yF{k i:Nat}(a:i<k):N i∈(eH N c k).map (·.1):=by
 rw[jP];exact gL ⟨i,iA a,rfl⟩
theorem wS(h:Inj N){k:Nat}(f:k<=9):((eH N c k).map (·.1)).Nodup:=by
 rw[jP];refine eE.mpr ?_;refine List.Pairwise.imp_of_mem ?_ (VI (n:=k));intro i j b a d e;have b:=gC b;have a:=gC a;exact d (h i j (by omega) (by omega) e)
theorem Nz(h:Inj N){k:Nat}(a:k<9):t7 (eH N c k) (N k,hh c k,hl c k,hp c k)=eH N c (k+1):=by
 unfold t7;rw[V9 (GS h (bI k) a)];unfold eH;rw[UC,bW];rfl
theorem E4(h:Inj N){i j:Nat}(b:i<9)(a:j<9)(d:i≠j):N i≠N j:=λe=>d (h i j b a e)
theorem EB:ix (eH N c 8) (N 0)=0:=by
 unfold ix;rw[jP];show(([N 0,N 1,N 2,N 3,N 4,N 5,N 6,N 7].idxOf (N 0):Nat):Int)=0;rw[eU];rfl
theorem Et(h:Inj N):ix (eH N c 8) (N 1)=1:=by
 unfold ix;rw[jP];show(([N 0,N 1,N 2,N 3,N 4,N 5,N 6,N 7].idxOf (N 1):Nat):Int)=1;rw[UY,show(N 0==N 1)=false from beq_false_of_ne (E4 h (by decide) (by decide) (by decide)),cond_false,eU];rfl
theorem Gp(h:Inj N):ix (eH N c 8) (N 2)=2:=by
 unfold ix;rw[jP];show(([N 0,N 1,N 2,N 3,N 4,N 5,N 6,N 7].idxOf (N 2):Nat):Int)=2;rw[UY,show(N 0==N 2)=false from beq_false_of_ne (E4 h (by decide) (by decide) (by decide)),cond_false,UY,show(N 1==N 2)=false from beq_false_of_ne (E4 h (by decide) (by decide) (by decide)),cond_false,eU];rfl
noncomputable abbrev rn(N:Nat->Str):T:=.lst (((bB 9).map N).map T.str)
theorem xS{k:Nat}(h:k<9):f5 (((bB 9).map N).map T.str) (k:Int)=some (.str (N k)):=by
 rw[nH,bF,bF,cZ h];rfl
def pf(c:Int)(k:Nat):tl:=(bB k).map λi=>T.str (tx c i)
theorem Nw{k:Nat}:(pf c k).length=k:=by unfold pf;simp
theorem Hf{k i:Nat}(h:i<k):f5 (pf c k) (i:Int)=some (.str (tx c i)):=by
 unfold pf;rw[nH,bF,cZ h];rfl
abbrev tA(ns:Um)(N:Nat->Str)(c:Int)(x9 x10:Ug):aB:=[some (.lst (ns.map T.int)),some (.cell 0),some (rn N),some (.int c),some (.str (N 0)),some (.str (N 1)),some (.str (N 2)),some (.str (N 8)),some (.cell 2),x9,x10,none,none,none,none,none,none]
abbrev cA(N:Nat->Str)(c:Int)(k j:Nat):aq:=bk (eH N c k) [] [(.l,pf c j)]
theorem AI{ns:Um}{k:Nat}{x9 x10:Ug}(n:Inj N)(f:∀i,gJ ec 8 (N i)=true)(u:Bg c)(m:k<8):
 wpS tH (tA ns N c (some (.int k)) x10) (cA N c k k) λl a C=>l=.nx/\(∃x,a=tA ns N c (some (.int k)) x)/\C=cA N c (k+1) (k+1):=by
 unfold tH;have q:Bt 60 (k:Int):=Bt.tw (by omega) (by omega) (by decide);have p:Bt 60 (9+(k:Int)):=Bt.tw (by omega) (by omega) (by decide);have o:Bt 60 (18+(k:Int)):=Bt.tw (by omega) (by omega) (by decide);refine iK (λa C=>a=tA ns N c (some (.int k)) (some (.lst [.int (hh c k),.int (hl c k),.int (hp c k)]))/\C=cA N c k k) ?_ ?_
 .simp_arith[↓fK,↓nF];exact⟨by decide,by decide,by decide,by decide,rfl⟩
 rintro _ _ ⟨rfl,rfl⟩;refine iK (λa C=>a=tA ns N c (some (.int k)) (some (.lst [.int (hh c k),.int (hl c k),.int (hp c k)]))/\C=cA N c k (k+1)) ?_ ?_
 .simp_arith[↓fK];refine⟨by decide,?_⟩;refine rF (λt=>T.str (sx t)) (λt h=>?_) ?_
  .have ok:qi t:=by
    simp only[bX,bS,or_false]at h;rcases h with rfl|rfl|rfl
    .exact n8 sV.1.1 sV.1.2
    .exact n8 sW.1.1 sW.1.2
    .exact n8 uX.1 uX.2
   simp only[d3,aS,aY,aU];simp_arith[↓fK];unfold B6 sx;cases t with
   |int i=>dsimp only;rw[V6 ok.1,iE];exact⟨rfl,rfl⟩
   |str x=>dsimp only;rw[iE];exact⟨rfl,rfl⟩
   |_=>exact ok.elim
  .show aH (mY (T.str " ") (T.lst (([toString (hh c k),toString (hl c k),toString (hp c k)]:Ur).map T.str)) _) _;rw[qW];refine⟨yX (λx g=>?_) (aL rfl),rfl,_,rfl,?_,?_⟩
   .simp only[bX,bS,or_false]at g;rcases g with rfl|rfl|rfl
    .exact(n8 sV.1.1 sV.1.2).2
    .exact(n8 sW.1.1 sW.1.2).2
    .exact(n8 uX.1 uX.2).2
   .rw[Nw];unfold lim;omega
   .have e:pf c (k+1)=pf c k++[T.str (tx c k)]:=by unfold pf;rw[UC,bW];rfl
    unfold cA;rw[e];rfl
 rintro _ _ ⟨rfl,rfl⟩;have s:=(fJ (m:=0) (f k)).2;have r:=Fs (c:=c) (k:=k);have f1:f7 Y2 Y9 (tA ns N c (some (.int k)) (some (.lst [.int (hh c k),.int (hl c k),.int (hp c k)]))) (cA N c k (k+1))=some (.str (N k),cA N c k (k+1)):=pX (by
  simp_arith[↓fK];exact⟨_,xS (by omega),rfl⟩)
 have f2:f7 Y8 Y9 (tA ns N c (some (.int k)) (some (.lst [.int (hh c k),.int (hl c k),.int (hp c k)]))) (cA N c k (k+1))=some (.str (tx c k),cA N c k (k+1)):=pX (by
  simp_arith[↓fK];exact⟨_,rfl,_,Hf (by omega),rfl⟩)
 have j:Txt.split (Str.ofString "work "++N k++Str.ofString " "++tx c k) " "=[Str.ofString "work",N k,Str.ofString (toString (hh c k)),Str.ofString (toString (hl c k)),Str.ofString (toString (hp c k))]:=by
  simp only[fB,yA,Gm,fF (iC (f k)),PD,aE,fM,fN]
 have b:(Str.ofString "work ").length=5:=by decide
 have d:(Str.ofString " ").length=1:=by decide
 refine oZ (oM (mD rfl (jL (jL (jL rfl f1 ?_) rfl ?_) f2 ?_) (vA (f k) sV.1 sW.1 uX (by have:=sV (c:=c) (k:=k);have:=sW (c:=c) (k:=k);omega) (.inr (by rw[lW];exact m)) (by rw[lW];omega) ?_ j)) rfl) (oY ⟨rfl,⟨_,rfl⟩,by rw[Nz n (by omega)]⟩)
 .rw[b];omega
 .rw[Str.length_append,b,d];omega
 .rw[Str.length_append,Str.length_append,b,d];omega
 .rw[Str.length_append,Str.length_append,Str.length_append,b,d];omega
end
end ed
namespace ed
open PySem L2 TL cx
section
variable {N:Nat->Str}{c:Int}{d:aB}{C s o:aq}{a b:FE}
def Co(N:Nat->Str)(c:Int)(i:Nat):Str:=if i=1 then tx c 1++Str.ofString " "++N 0 else if i=2 then tx c 2++Str.ofString " "++N 1 else tx c i
noncomputable abbrev fw(N:Nat->Str):List (Str×Str):=[(N 0,N 1),(N 1,N 2)]
theorem Ei(h:Inj N){k:Nat}(l:k<8):((bB 8).map N).filter (λf=>decide ((f,N k)∈fw N))=if k=1 then[N 0]else if k=2 then[N 1]else[]:=by
 rw[VM];have p:(bB 8).filter ((λf=>decide ((f,N k)∈fw N)) ∘ N)=(bB 8).filter λi=>decide ((i=0/\k=1)\/(i=1/\k=2)):=by
  refine VB λi g=>?_;have g:=gC g;show decide ((N i,N k)∈fw N)=_;rw[decide_eq_decide];simp only[fw,bX,bS,or_false,Uy.injEq];have E:∀i j,i<9->j<9->(N i=N j↔i=j):=λi j g m=>⟨h i j g m,λe=>by rw[e]⟩;rw[E i 0 (by omega) (by omega),E k 1 (by omega) (by omega),E i 1 (by omega) (by omega),E k 2 (by omega) (by omega)]
 have n:∀k:Fin 8,((bB 8).filter λi=>decide ((i=0/\k.val=1)\/(i=1/\k.val=2)))=if k.val=1 then[0]else if k.val=2 then[1]else[]:=by decide
 rw[p,n ⟨k,l⟩];dsimp only;split
 .rfl
 .split<;>rfl
theorem N3(h:Inj N){k:Nat}(j:k<8):sC (eH N c 8) (fw N) (wk N c k)=Co N c k:=by
 unfold sC;rw[jP];show Txt.join " " (([toString (hh c k),toString (hl c k),toString (hp c k)]:Ur)++((bB 8).map N).filter λf=>decide ((f,N k)∈fw N))=_;rw[Ei h j];unfold Co;by_cases i:k=1
 .subst i;rw[V6 rfl,V6 rfl,Ir (by simp)];rfl
 .rw[V9 i,V9 i];by_cases g:k=2
  .subst g;rw[V6 rfl,V6 rfl,Ir (by simp)];rfl
  .rw[V9 g,V9 g,aT];rfl
theorem yH{n:Nat}{x:Str}:eqT n (.str x) (.str x)=some true:=by
 cases n<;>simp[eqT,ng]
theorem G7{g f v:T}(i:a d C=some (g,s))(h:b d s=some (f,o))(k:dr 3 o g=some v)(j:dr 3 o f=some v)(e:eqT 5 v v=some true):i4 (jl a b) d C=some (false,o):=by
 unfold i4 jl fP;rw[i,aM];dsimp only;rw[h,aM];unfold jj;dsimp only;rw[k,aM,j,aM,e];rfl
abbrev tB(ns:Um)(N:Nat->Str)(c:Int)(x9 x10 f x12 x13 x14:Ug):aB:=[some (.lst (ns.map T.int)),some (.cell 0),some (rn N),some (.int c),some (.str (N 0)),some (.str (N 1)),some (.str (N 2)),some (.str (N 8)),some (.cell 2),x9,x10,f,x12,x13,x14,none,none]
def o9(N:Nat->Str)(c:Int):tl:=(bB 8).map λi=>T.str (Co N c i)
abbrev cB(N:Nat->Str)(c:Int):aq:=bk (eH N c 8) (fw N) [(.l,o9 N c)]
theorem ctx(h:Inj N)(f:∀i,gJ ec 8 (N i)=true){m:Str}(g:oT m):Ctx (eH N c 8) (N 0) (N 1) (N 2) (N 8) m where
 l8:=lW
 ha:=f 0
 hb:=f 1
 hc:=f 2
 hu:=f 8
 hm:=g
 na:=yF (by decide)
 nb:=yF (by decide)
 nc:=yF (by decide)
 nu:=GS h (by decide) (by decide)
 nm:=by
  rw[jP];intro z;obtain⟨i,_,e⟩:=fQ z;have:=g.no;rw[<-e,f i]at this;cases this
 ia:=EB
 ib:=Et h
 ic:=Gp h
def oS(N:Nat->Str)(m:Str):List (Str×Int):=q9 (N 0) (N 8)++rL (N 0) (N 8) m++rS (N 0) (N 1) (N 2) (N 8)
theorem Kf(h:Inj N)(g:∀i,gJ ec 8 (N i)=true){m:Str}(f:oT m){r:aq}:∀p∈oS N m,e9 [.cell 0,.str p.1] (bk (eH N c 8) (fw N) r)=some (h7 p.2,bk (eH N c 8) (fw N) r):=by
 intro p hp;have x:=ctx (c:=c) h g f;rcases f8 hp with hp|hp
 .rcases f8 hp with hp|hp
  .exact Qv x p hp
  .exact Qw x p hp
 .exact QK x p hp
abbrev Mk(k:Int):Prop:=k=1\/k=2\/k=3\/k=4\/k=5
theorem f6{x:Str}:(λp:Str×Int=>p.2=1\/p.2=2\/p.2=3\/p.2=4\/p.2=5) (x,1):=.inl rfl
theorem lh{x:Str}:(λp:Str×Int=>p.2=1\/p.2=2\/p.2=3\/p.2=4\/p.2=5) (x,2):=.inr (.inl rfl)
theorem g5{x:Str}:(λp:Str×Int=>p.2=1\/p.2=2\/p.2=3\/p.2=4\/p.2=5) (x,3):=.inr (.inr (.inl rfl))
theorem D7{x:Str}:(λp:Str×Int=>p.2=1\/p.2=2\/p.2=3\/p.2=4\/p.2=5) (x,4):=.inr (.inr (.inr (.inl rfl)))
theorem Cs{x:Str}:(λp:Str×Int=>p.2=1\/p.2=2\/p.2=3\/p.2=4\/p.2=5) (x,5):=.inr (.inr (.inr (.inr (rfl))))
theorem Q3{a u:Str}:∀p∈q9 a u,Mk p.2:=(all_cons f6 (all_cons f6 (all_cons f6 (all_cons f6 (all_cons f6 (all_cons f6 (all_cons f6 (all_cons f6 (all_cons f6 (all_cons f6 (all_cons f6 (all_cons f6 (all_cons f6 (all_cons f6 (all_cons f6 (all_cons f6 (all_cons f6 (all_cons f6 (all_cons f6 (all_cons f6 (all_cons f6 (all_cons f6 (all_cons f6 (all_cons f6 (all_cons f6 (all_cons f6 (all_cons f6 (all_cons f6 (all_cons g5 (all_cons g5 (all_cons g5 (all_cons g5 oX))))))))))))))))))))))))))))))))
theorem Q5{a u m:Str}:∀p∈rL a u m,Mk p.2:=(all_cons lh (all_cons lh (all_cons lh (all_cons lh (all_cons lh (all_cons lh (all_cons lh (all_cons lh (all_cons lh (all_cons lh (all_cons lh (all_cons lh (all_cons lh (all_cons lh oX))))))))))))))
theorem PN{a b c u:Str}:∀p∈rS a b c u,Mk p.2:=(all_cons g5 (all_cons g5 (all_cons g5 (all_cons g5 (all_cons g5 (all_cons g5 (all_cons g5 (all_cons g5 (all_cons g5 (all_cons g5 (all_cons g5 (all_cons g5 (all_cons g5 (all_cons g5 (all_cons g5 (all_cons g5 (all_cons g5 (all_cons g5 (all_cons g5 (all_cons D7 (all_cons D7 (all_cons D7 (all_cons Cs (all_cons Cs (all_cons Cs (all_cons Cs oX))))))))))))))))))))))))))
theorem marks{m:Str}:∀p∈oS N m,Mk p.2:=by
 intro p hp;rcases f8 hp with hp|hp
 .rcases f8 hp with hp|hp
  .exact Q3 p hp
  .exact Q5 p hp
 .exact PN p hp
theorem zP{m:Str}:(oS N m).length=72:=rfl
theorem AH{ns:Um}{one:Int}{x9 x10 x12 x13 x14:Ug}(j:Inj N)(h:∀i,gJ ec 8 (N i)=true)(J:Bg one):
 wpS tQ (tB ns N c x9 x10 (some (.int one)) x12 x13 x14) (cB N c) λl d C=>l=.nx/\(∃w y z,d=tB ns N c x9 x10 (some (.int one)) w y z)/\C=cB N c:=by
 unfold tQ;obtain⟨m,em,u⟩:=S2 (c:=one) (h 0) J;have g:∀i,(N i).length<=16:=λi=>aX (fJ (m:=0) (h i)).2 (by decide);have D:∀{C Q},aH (iX 2 kX [.str (N 0),.str (N 8)] C) Q↔Q (.lst ((q9 (N 0) (N 8)).map rT)) C:=gT (Tc (g 0) (g 8)) rfl (by walk_at "e");have B:∀{C Q},aH (iX 3 kL [.str (N 0),.str (N 8),.str m] C) Q↔Q (.lst ((rL (N 0) (N 8) m).map rT)) C:=gT (T5 (g 0) (g 8) u.le) rfl (by walk_at "e");have w3:∀{C Q},aH (iX 4 kO [.str (N 0),.str (N 1),.str (N 2),.str (N 8)] C) Q↔Q (.lst ((rS (N 0) (N 1) (N 2) (N 8)).map rT)) C:=gT (T4 (g 0) (g 1) (g 2) (g 8)) rfl (by walk_at "e");have A:∀{C Q},aH (iX 2 lK [.str (N 0),.int one] C) Q↔Q (.str m) C:=gT em rfl (by walk_at "e");have e:(q9 (N 0) (N 8)).map rT++(rL (N 0) (N 8) m).map rT++(rS (N 0) (N 1) (N 2) (N 8)).map rT=(oS N m).map rT:=by
  unfold oS;rw[bW,bW]
 refine iK (λd C=>d=tB ns N c x9 x10 (some (.int one)) (some (.lst ((oS N m).map rT))) x13 x14/\C=cB N c) ?_ ?_
 .simp_arith[↓fK,↓D,↓B,↓w3,↓A];rw[<-e];exact⟨aL rfl,aL rfl,rfl⟩
 rintro _ _ ⟨rfl,rfl⟩;have H:=nC (x:=cu one 6) (m:=72) (by decide);obtain⟨p,hp,k⟩:∃p,p∈oS N m/\f5 ((oS N m).map rT) (cu one 6%72)=some (rT p):=by
  have v:(cu one 6%72).toNat<(oS N m).length:=by rw[zP];omega
  refine⟨(oS N m)[(cu one 6%72).toNat],c9 v,?_⟩;rw[pF H.1,bF,bD v];rfl
 refine iK (λd C=>d=tB ns N c x9 x10 (some (.int one)) (some (.lst ((oS N m).map rT))) (some (.str p.1)) (some (.int p.2))/\C=cB N c) ?_ ?_
 .simp_arith[↓fK,↓nF,aQ,zP];exact⟨by decide,_,k,_,rfl,rfl,rfl⟩
 rintro _ _ ⟨rfl,rfl⟩;refine iK (λd C=>d=tB ns N c x9 x10 (some (.int one)) (some (.lst ((oS N m).map rT))) (some (.str p.1)) (some (.int p.2))/\C=cB N c) ?_ ?_
 .have P:oH 2 lM (e7 Y1 (e7 IW fR)) (tB ns N c x9 x10 (some (.int one)) (some (.lst ((oS N m).map rT))) (some (.str p.1)) (some (.int p.2))) (cB N c)=some (.lst (flags p.2),cB N c):=
   Tu (marks p hp) (Kf j h u p hp)
  have O:fS (nE (fS (lH (fI 5) 1 [14] (gN 0) gY (vc Y1 (vS Y0 (fI 1))))) (fS (hZ (e7 (fC (.bl true)) fR)))) (tB ns N c x9 x10 (some (.int one)) (some (.lst ((oS N m).map rT))) (some (.str p.1)) (some (.int p.2))) (cB N c)=some (.lst (flags p.2),cB N c):=pX (by
   simp_arith[↓fK];refine⟨by decide,?_⟩;rw[IF];refine mI (fun(i:Nat)=>T.bl (decide (p.2=0+(i:Int)+1))) (λi _=>?_) ?_
   .simp only[d3,aS,aN,aY,aU,aV,aT,b4,b5,cO];simp_arith[↓fK]
   .exact⟨by decide,aL rfl,rfl,rfl⟩)
  refine oZ (G7 (v:=.lst (flags p.2)) P O (iG rfl) (iG rfl) ?_) (oY ⟨rfl,rfl,rfl⟩);unfold flags;refine qK λt f=>?_;simp only[bX,bS,or_false]at f;rcases f with rfl|rfl|rfl|rfl|rfl|rfl<;>(rw[Ma];simp)
 rintro _ _ ⟨rfl,rfl⟩;have gl:∀q∈eH N c 8,q.1.length<=1000:=λq I=>by
  obtain⟨i,_,rfl⟩:=fQ I;exact aX (g i) (by decide)
 have r:vT (((bB 9).map N).map T.str) none (some 8)=((bB 8).map N).map T.str:=rfl;have M:fS (hO Y2 iB (i8 (fI 8))) (tB ns N c x9 x10 (some (.int one)) (some (.lst ((oS N m).map rT))) (some (.str p.1)) (some (.int p.2))) (cB N c)=some (.lst (((bB 8).map N).map T.str),cB N c):=pX (by
  simp_arith[↓fK,r])
 have L:fP (fC (.str " ")) (fS (hO Y2 iB (i8 (fI 8)))) mY (tB ns N c x9 x10 (some (.int one)) (some (.lst ((oS N m).map rT))) (some (.str p.1)) (some (.int p.2))) (cB N c)=some (.str (Txt.join " " ((eH N c 8).map (·.1))),cB N c):=pX (by
  simp_arith[↓fK,r,↓qW];rw[jP];refine⟨yX (λx G=>?_) (by rw[aQ,dU];decide),rfl⟩;obtain⟨i,_,rfl⟩:=fQ G;exact aX (g i) (by decide))
 have K:fS (kK (fS (hO Y2 iB (i8 (fI 8)))) 1 [1] (gN 0) gY (k6 "Book" "say" 2 fW Y1 (e7 (fP (fC (.str "show ")) Y0 fO) fR))) (tB ns N c x9 x10 (some (.int one)) (some (.lst ((oS N m).map rT))) (some (.str p.1)) (some (.int p.2))) (cB N c)=some (.lst (o9 N c),cB N c):=pX (by
  refine IC.mpr (z0.mpr ⟨_,_,M,_,rfl,aL rfl,?_⟩);rw[cK];refine mI (fun(i:Nat)=>T.str (Co N c i)) (λi bq=>?_) ⟨rfl,rfl⟩;have bq:=gC bq;refine CU.mpr ⟨_,_,mD rfl (jL rfl rfl ?_) (IT (x:=wk N c i) (iC (h i)) (g i) (by rw[lW];decide) gl (wS j (by decide)) (gL ⟨i,iA bq,rfl⟩) ⟨n8 sV.1.1 sV.1.2,n8 sW.1.1 sW.1.2,n8 uX.1 uX.2⟩),rfl,by rw[N3 j bq]⟩;have F:(Str.ofString "show ").length=5:=by decide
  have:=g i;rw[F];show 5+(N i).length<=1000;omega)
 have n:ew (o9 N c)=true:=mX λ_ _=>iR;refine oZ (CZ (oM (mD rfl rfl (wL (by rw[lW];decide) gl)) L) (G7 (v:=.lst (o9 N c)) K rfl (iG (by rw[g9];exact n)) (tO rfl n) ?_)) (oY ⟨rfl,⟨_,_,_,rfl⟩,rfl⟩);refine qK λt f=>?_;obtain⟨i,_,rfl⟩:=fQ f;exact yH
end
end ed
namespace ed
open PySem L2 TL cx
section
variable {N:Nat->Str}{c:Int}{d:Nat}{nd:List (Str×Str)}{r:aq}
def fy(N:Nat->Str)(c:Int)(k:Nat):List Wk:=((bB 8).filter λi=>decide (i≠k)).map (wk N c)
theorem Kh(h:Inj N){k:Nat}(b:k<8):ym (N k) (eH N c 8)=fy N c k:=by
 unfold ym eH fy;rw[VM];congr 1;refine VB λi a=>?_;have a:=gC a;show decide (N i≠N k)=decide (i≠k);rw[decide_eq_decide];exact not_congr ⟨h i k (by omega) (by omega),λe=>by rw[e]⟩
theorem r0{k:Nat}:(fy N c k).map (·.1)=((bB 8).filter λi=>decide (i≠k)).map N:=by unfold fy;rw[cK];rfl
theorem qP{k:Nat}(a:k<8):(fy N c k).length=7:=by
 unfold fy;rw[aQ];have:∀k:Fin 8,((bB 8).filter λi=>decide (i≠k.val)).length=7:=by decide
 exact this ⟨k,a⟩
theorem Fc(h:Inj N){k:Nat}:N 8∉(fy N c k).map (·.1):=by
 rw[r0];intro z;obtain⟨i,a,e⟩:=fQ z;have a:=gC (hV a).1;have:=h i 8 (by omega) (by decide) e;omega
theorem Kp(h:Inj N){k:Nat}{x y z:Int}:t7 (fy N c k) (N 8,x,y,z)=fy N c k++[(N 8,x,y,z)]:=by
 unfold t7;rw[V9 (Fc h)]
theorem Ka(h:Inj N){k:Nat}{x y z x' y' z':Int}:t7 (fy N c k++[(N 8,x,y,z)]) (N 8,x',y',z')=fy N c k++[(N 8,x',y',z')]:=by
 unfold t7;rw[V6 (by rw[bW];exact bM _ bG),bW];congr 1
 .refine(d0 λp hp=>?_).trans (VQ _);rw[V9 λe=>Fc h (gL ⟨p,hp,e⟩)];rfl
 .simp
theorem MP(h:Inj N){k:Nat}{x y z:Int}:((fy N c k++[(N 8,x,y,z)]).map (·.1)).Nodup:=by
 rw[bW,Vy];refine⟨?_,by simp,?_⟩
 .rw[r0];refine eE.mpr ?_;refine List.Pairwise.imp_of_mem ?_ (List.Nodup.sublist List.filter_sublist (VI (n:=8)));intro i j g f n e;have g:=gC (hV g).1;have f:=gC (hV f).1;exact n (h i j (by omega) (by omega) e)
 .intro a m b l e;simp only[aN,aY,cL]at l;subst l;subst e;exact Fc h m
theorem L8(h:Inj N){k:Nat}{x y z:Int}{b:List Wk}:sC b (iw (N k) (fw N)) (N 8,x,y,z)=Txt.join " " ([toString x,toString y,toString z]:Ur):=by
 unfold sC;have e:((b.map (·.1)).filter λf=>decide ((f,N 8)∈iw (N k) (fw N)))=[]:=by
  rw[List.filter_eq_nil_iff];intro f _ a;rw[decide_eq_true_iff]at a;have a:=(hV a).1;simp only[fw,bX,bS,or_false,Uy.injEq]at a;rcases a with⟨_,a⟩| ⟨_,a⟩
  .exact absurd (h 8 1 (by decide) (by decide) a) (by decide)
  .exact absurd (h 8 2 (by decide) (by decide) a) (by decide)
 show Txt.join " " (([toString x,toString y,toString z]:Ur)++_)=_;rw[e,aT]
theorem Ee:Txt.join " " ([toString (3:Int),toString (2:Int),toString (1:Int)]:Ur)=Str.ofString "3 2 1":=by decide+kernel
theorem Ed:Txt.join " " ([toString (7:Int),toString (2:Int),toString (3:Int)]:Ur)=Str.ofString "7 2 3":=by decide+kernel
theorem GI(b:∀i,gJ ec 8 (N i)=true){k:Nat}{x y z:Int}:∀q∈fy N c k++[(N 8,x,y,z)],q.1.length<=1000:=by
 intro q a;rcases f8 a with a|a
 .obtain⟨i,_,rfl⟩:=fQ a;exact aX (fJ (m:=0) (b i)).2 (by decide)
 .rw[gP a];exact aX (fJ (m:=0) (b 8)).2 (by decide)
theorem HH(h:Inj N)(a:∀i,gJ ec 8 (N i)=true){k:Nat}(j:k<8){x y z:Int}(g:mo x)(f:mo y)(b:mo z):
 fW [.cell 0,.str (Str.ofString "show "++N 8)] (bk (fy N c k++[(N 8,x,y,z)]) (iw (N k) (fw N)) r)=some (.str (Txt.join " " ([toString x,toString y,toString z]:Ur)),bk (fy N c k++[(N 8,x,y,z)]) (iw (N k) (fw N)) r):=by
 have e:=IT (r:=r) (nd:=iw (N k) (fw N)) (x:=(N 8,x,y,z)) (iC (a 8)) (aX (fJ (m:=0) (a 8)).2 (by decide)) (by rw[bN,qP j];exact aL rfl) (GI (c:=c) (k:=k) a) (MP h) (bM _ bG) ⟨n8 g.1 g.2,n8 f.1 f.2,n8 b.1 b.2⟩;rw[L8 h]at e;exact e
end
end ed
set_option maxHeartbeats 4000000
namespace ed
open PySem L2 TL cx
theorem KZ{c:Int}(h:Bt 1048576 c):∀k:Int,0<=k->k<10->Bg (c+k*k):=λk a d=>by
 have b:Bt 1048576 (k*k):=by
  have:0<=k*k/\k*k<1024:=⟨Int.mul_nonneg a a,Int.lt_of_le_of_lt (Int.mul_le_mul (show k<=9 by omega) (show k<=9 by omega) a (by decide)) (by decide)⟩;exact Bt.tw this.1 this.2 (by decide)
 exact Bg.of (h.add b) (by decide)
section
variable {N:Nat->Str}{c:Int}{ns:Um}
noncomputable abbrev t0(ns:Um)(j i h g f d b a:Ug):aB:=[some (.lst (ns.map T.int)),j,i,h,g,f,d,b,a,none,none,none,none,none,none,none,none]
abbrev tD(ns:Um)(N:Nat->Str)(c:Int)(x9 x10 d x12 x13 x14 a b:Ug):aB:=[some (.lst (ns.map T.int)),some (.cell 0),some (rn N),some (.int c),some (.str (N 0)),some (.str (N 1)),some (.str (N 2)),some (.str (N 8)),some (.cell 2),x9,x10,d,x12,x13,x14,a,b]
theorem vN(k:Nat)(a:k<8):N k∈(eH N c 8).map (·.1):=yF a
theorem AG(h:Inj N)(a:∀i,gJ ec 8 (N i)=true){r:aq}:fW [.cell 0,.str (Str.ofString "need "++N 0++Str.ofString " "++N 1)] (bk (eH N c 8) [] r)=some (.str "ok",bk (eH N c 8) [(N 0,N 1)] r):=by
 have g:∀i,(N i).length<=16:=λi=>aX (fJ (m:=0) (a i)).2 (by decide);have e:([]++[(N 0,N 1)]).map (fi (eH N c 8))=[(0,1)]:=by
  show[fi _ (N 0,N 1)]=_;unfold fi;rw[EB,Et h]
 refine ID (nd:=[]) (iC (a 0)) (iC (a 1)) (g 0) (g 1) (vN 0 (by decide)) (vN 1 (by decide)) (by rw[lW];decide) (by decide) ?_ (by simp) ?_ ?_
 .intro q b;rw[aU,cL]at b;subst b;exact⟨vN 0 (by decide),vN 1 (by decide)⟩
 .rw[e,lW];intro p hp;rw[cL]at hp;subst hp;decide
 .rw[e];refine⟨λi=>i.toNat,λp hp=>?_⟩;rw[cL]at hp;subst hp;decide
theorem AF(h:Inj N)(a:∀i,gJ ec 8 (N i)=true){r:aq}:fW [.cell 0,.str (Str.ofString "need "++N 1++Str.ofString " "++N 2)] (bk (eH N c 8) [(N 0,N 1)] r)=some (.str "ok",bk (eH N c 8) (fw N) r):=by
 have g:∀i,(N i).length<=16:=λi=>aX (fJ (m:=0) (a i)).2 (by decide);have e:([(N 0,N 1)]++[(N 1,N 2)]).map (fi (eH N c 8))=[(0,1),(1,2)]:=by
  show[fi _ (N 0,N 1),fi _ (N 1,N 2)]=_;unfold fi;rw[EB,Et h,Gp h]
 refine ID (nd:=[(N 0,N 1)]) (iC (a 1)) (iC (a 2)) (g 1) (g 2) (vN 1 (by decide)) (vN 2 (by decide)) (by rw[lW];decide) (by simp) ?_ ?_ ?_ ?_
 .intro q b;simp only[aV,aU,bX,bS,or_false]at b;rcases b with rfl|rfl
  .exact⟨vN 0 (by decide),vN 1 (by decide)⟩
  .exact⟨vN 1 (by decide),vN 2 (by decide)⟩
 .rw[cL,Uy.injEq];intro z;exact absurd (h 1 0 (by decide) (by decide) z.1) (by decide)
 .rw[e,lW];intro p hp;simp only[bX,bS,or_false]at hp;rcases hp with rfl|rfl<;>decide
 .rw[e];refine⟨λi=>i.toNat,λp hp=>?_⟩;simp only[bX,bS,or_false]at hp;rcases hp with rfl|rfl<;>decide
end
theorem PQ:∀ns:Um,ns.length<=63->(∀n∈ns,Wc.Int.intBits n<=2^20)->C5 [.lst (ns.map T.int)]=some (.bl true):=by
 intro ns hl L;have hB:∀n∈ns,Bt 1048576 n:=λn K=>Bt.of_bits (L n K);have r:∀k,Bt 1048576 (pD ns k):=λk=>Rc hB Bt.zero;obtain⟨N,P,f,b⟩:=PP (c:=pD ns 0) (Bg.of (r 0) (by decide)) (KZ (r 0));have v:Bg (pD ns 1):=Bg.of (r 1) (by decide);have w:∀{C Q},aH (iX 1 nL [.int (pD ns 0)] C) Q↔Q (rn N) C:=gT P rfl (by walk_at "e");have g:∀i,(N i).length<=16:=λi=>aX (fJ (m:=0) (b i)).2 (by decide);generalize F:pD ns 1=c at v;apply jA;unfold GD;refine HS (Rk R9 ⟨rfl,?_⟩);show wpS _ (t0 ns (some (.cell 0)) none none none none none none none) _ _;refine iK (λa C=>a=t0 ns (some (.cell 0)) (some (rn N)) none none none none none none/\C=bk [] [] []) (by simp_arith[↓fK,↓Iw,↓w]) ?_;rintro _ _ ⟨rfl,rfl⟩;refine iK (λa C=>a=t0 ns (some (.cell 0)) (some (rn N)) (some (.int c)) none none none none none/\C=bk [] [] []) (by simp_arith[↓fK,↓Iw,F]) ?_;rintro _ _ ⟨rfl,rfl⟩;have G:vT (((bB 9).map N).map T.str) none (some 3)=[.str (N 0),.str (N 1),.str (N 2)]:=rfl;refine iK (λa C=>a=t0 ns (some (.cell 0)) (some (rn N)) (some (.int c)) (some (.str (N 0))) (some (.str (N 1))) (some (.str (N 2))) none none/\C=bk [] [] []) (by
  simp_arith[↓fK,G]) ?_
 rintro _ _ ⟨rfl,rfl⟩;refine iK (λa C=>a=t0 ns (some (.cell 0)) (some (rn N)) (some (.int c)) (some (.str (N 0))) (some (.str (N 1))) (some (.str (N 2))) (some (.str (N 8))) none/\C=bk [] [] []) (by
  simp_arith[↓fK];exact⟨_,xS (k:=8) (by decide),rfl⟩) ?_
 rintro _ _ ⟨rfl,rfl⟩;refine iK (λa C=>a=tA ns N c none none/\C=cA N c 0 0) (by
  simp_arith[↓fK];exact⟨by decide,rfl,rfl⟩) ?_
 rintro _ _ ⟨rfl,rfl⟩;refine iK (λa C=>(∃x9 x10,a=tA ns N c x9 x10)/\C=cA N c 8 8) ?_ ?_
 .refine wD.mpr (GA.mpr ⟨8,rfl,by decide,?_⟩);refine qG (λk a C=>(∃x9 x10,a=tA ns N c x9 x10)/\C=cA N c k k) ⟨⟨_,_,rfl⟩,rfl⟩ ?_ ?_
  .rintro k a C q ⟨⟨x9,x10,rfl⟩,rfl⟩;have q:k<8:=q;rw[dX];refine CU.mpr ?_;show wpS tH (tA ns N c (some (.int k)) x10) _ _;obtain⟨l,Z,E,e,rfl,⟨x,rfl⟩,rfl⟩:=AI (ns:=ns) (x9:=x9) (x10:=x10) f b v q;exact⟨_,_,_,e,trivial,⟨_,_,rfl⟩,rfl⟩
  .rintro a C ⟨⟨x9,x10,rfl⟩,rfl⟩;exact⟨rfl,⟨_,_,rfl⟩,rfl⟩
 rintro _ _ ⟨⟨x9,x10,rfl⟩,rfl⟩;have I:(Str.ofString "need ").length=5:=by decide
 have o:(Str.ofString " ").length=1:=by decide
 have ld:(Str.ofString "drop ").length=5:=by decide
 have m:(Str.ofString "work ").length=5:=by decide
 have s:(Str.ofString "show ").length=5:=by decide
 have g0:=g 0;have g1:=g 1;have g2:=g 2;have g8:=g 8;have t1:=Fs (c:=c) (k:=1);have t2:=Fs (c:=c) (k:=2);refine iK (λa C=>a=tA ns N c x9 x10/\C=bk (eH N c 8) (fw N) [(.l,pf c 8)]) ?_ ?_
 .refine oZ (CZ (oM (mD rfl (jL (jL (jL rfl rfl ?_) rfl ?_) rfl ?_) (AG f b)) rfl) (oM (mD rfl (jL (jL (jL rfl rfl ?_) rfl ?_) rfl ?_) (AF f b)) rfl)) (oY ⟨rfl,rfl,rfl⟩);all_goals simp only[Str.length_append,I,o];omega
 rintro _ _ ⟨rfl,rfl⟩;refine iK (λa C=>a=tA ns N c x9 x10/\C=bk (eH N c 8) (fw N) [(.l,(pf c 8).set 1 (.str (tx c 1++Str.ofString " "++N 0)))]) ?_ ?_
 .simp_arith[↓fK,↓jN];refine⟨_,rfl,_,Hf (i:=1) (by decide),?_⟩;rw[jN];refine⟨by rw[o];unfold lim;omega,?_⟩;rw[jN];exact⟨by rw[Str.length_append,o];unfold lim;omega,_,rfl,1,rfl,rfl⟩
 rintro _ _ ⟨rfl,rfl⟩;refine iK (λa C=>a=tB ns N c x9 x10 none none none none/\C=cB N c) ?_ ?_
 .simp_arith[↓fK,↓jN];refine⟨_,rfl,.str (tx c 2),rfl,?_⟩;rw[jN];refine⟨by rw[o];unfold lim;omega,?_⟩;rw[jN];exact⟨by rw[Str.length_append,o];unfold lim;omega,_,rfl,2,rfl,rfl⟩
 rintro _ _ ⟨rfl,rfl⟩;refine iK (λa C=>(∃d x12 x13 x14,a=tB ns N c x9 x10 d x12 x13 x14)/\C=cB N c) ?_ ?_
 .have O:fS (nE (fS (hZ (e7 (fI 2) fR))) (fS (hO Y0 (i8 (fI 2)) (i8 (fI 63))))) (tB ns N c x9 x10 none none none none) (cB N c)=some (.lst ((2::yf ns (some 2) (some 63)).map T.int),cB N c):=pX (by
   simp_arith[↓fK];rw[PZ,aQ];have:=Ss (xs:=ns) (l:=some 2) (h:=some 63);exact⟨by decide,by unfold lim;omega,rfl⟩)
  refine HK.mpr ⟨_,_,O,_,rfl,?_⟩;refine tP (λ_ a C=>(∃d x12 x13 x14,a=tB ns N c x9 x10 d x12 x13 x14)/\C=cB N c) ⟨⟨_,_,_,_,rfl⟩,rfl⟩ ?_ ?_
  .rintro i one a C h ⟨⟨d,x12,x13,x14,rfl⟩,rfl⟩;have J:Bg one:=by
    rcases fU (bV h)with rfl|h
    .exact Bt.tw (by decide) (by decide) (by decide)
    .exact Bg.of (hB one (Qs h)) (by decide)
   refine CU.mpr ?_;show wpS tQ (tB ns N c x9 x10 (some (.int one)) x12 x13 x14) _ _;obtain⟨l,Z,E,e,rfl,⟨wj,wg,wf,rfl⟩,rfl⟩:=AH (ns:=ns) (c:=c) (x9:=x9) (x10:=x10) (x12:=x12) (x13:=x13) (x14:=x14) f b J;exact⟨_,_,_,e,trivial,⟨_,_,_,_,rfl⟩,rfl⟩
  .rintro a C ⟨⟨d,x12,x13,x14,rfl⟩,rfl⟩;exact⟨rfl,⟨_,_,_,_,rfl⟩,rfl⟩
 rintro _ _ ⟨⟨d,x12,x13,x14,rfl⟩,rfl⟩;have hr:=nC (x:=cu c 30) (m:=8) (by decide);obtain⟨k,q⟩:∃k:Nat,cu c 30%8=k:=⟨(cu c 30%8).toNat,by omega⟩;have j:k<8:=by omega
 refine iK (λa C=>a=tD ns N c x9 x10 d x12 x13 x14 (some (.int k)) none/\C=cB N c) (by
  simp_arith[↓fK,↓nF,q];decide) ?_
 rintro _ _ ⟨rfl,rfl⟩;have M:=g k;have Y:fW [.cell 0,.str (Str.ofString "drop "++N k)] (cB N c)=some (.str "ok",bk (fy N c k) (iw (N k) (fw N)) [(.l,o9 N c)]):=by
  have:=QC (ws:=eH N c 8) (nd:=fw N) (r:=[(.l,o9 N c)]) (x:=wk N c k) (iC (b k)) M (wS f (by decide)) (gL ⟨k,iA j,rfl⟩) (aL rfl);rw[<-Kh f j];exact this
 have B:Txt.split (Str.ofString "work "++N 8++Str.ofString " 3 2 1") " "=[Str.ofString "work",N 8,Str.ofString (toString (3:Int)),Str.ofString (toString (2:Int)),Str.ofString (toString (1:Int))]:=by
  simp only[fB,yA,L0,fF (iC (b 8)),aE,fM,fN]
 have A:Txt.split (Str.ofString "work "++N 8++Str.ofString " 7 2 3") " "=[Str.ofString "work",N 8,Str.ofString (toString (7:Int)),Str.ofString (toString (2:Int)),Str.ofString (toString (3:Int))]:=by
  simp only[fB,yA,Lu,fF (iC (b 8)),aE,fM,fN]
 have u:(Str.ofString " 3 2 1").length=6:=by decide
 have t:(Str.ofString " 7 2 3").length=6:=by decide
 have X:fW [.cell 0,.str (Str.ofString "work "++N 8++Str.ofString " 3 2 1")] (bk (fy N c k) (iw (N k) (fw N)) [(.l,o9 N c)])=some (.str "ok",bk (fy N c k++[(N 8,3,2,1)]) (iw (N k) (fw N)) [(.l,o9 N c)]):=by
  rw[<-Kp f];exact vA (b 8) (by decide) (by decide) (by decide) (by decide) (.inr (by rw[qP j];decide)) (by rw[qP j];decide) (by simp only[Str.length_append,m,u];omega) B
 have U:fW [.cell 0,.str (Str.ofString "work "++N 8++Str.ofString " 7 2 3")] (bk (fy N c k++[(N 8,3,2,1)]) (iw (N k) (fw N)) [(.l,o9 N c)])=some (.str "ok",bk (fy N c k++[(N 8,7,2,3)]) (iw (N k) (fw N)) [(.l,o9 N c)]):=by
  rw[<-Ka f (x:=3) (y:=2) (z:=1) (x':=7) (y':=2) (z':=3)];exact vA (b 8) (by decide) (by decide) (by decide) (by decide) (.inl (by rw[bW];exact bM _ (gL ⟨(N 8,3,2,1),bG,rfl⟩))) (by rw[bN,qP j];exact aL rfl) (by simp only[Str.length_append,m,t];omega) A
 have f1:∀{C D},f7 Y2 IV (tD ns N c x9 x10 d x12 x13 x14 (some (.int k)) D) C=some (.str (N k),C):=pX (by
  simp_arith[↓fK];exact⟨_,xS (by omega),rfl⟩)
 refine iK (λa C=>a=tD ns N c x9 x10 d x12 x13 x14 (some (.int k)) none/\C=bk (fy N c k++[(N 8,3,2,1)]) (iw (N k) (fw N)) [(.l,o9 N c)]) ?_ ?_
 .refine oZ (CZ (oM (mD rfl (jL rfl f1 ?_) Y) rfl) (oM (mD rfl (jL (jL rfl rfl ?_) rfl ?_) X) rfl)) (oY ⟨rfl,rfl,rfl⟩);all_goals simp only[Str.length_append,ld,m,u];omega
 rintro _ _ ⟨rfl,rfl⟩;have R:(fy N c k++[(N 8,3,2,1)]).map (λp:Wk=>p.1)=((bB 8).filter λi=>decide (i≠k)).map N++[N 8]:=by
  rw[bW,r0];rfl
 have y:(((bB 8).filter λi=>decide (i≠k)).map N++[N 8]).length<=9:=by
  rw[bN,aQ];have:=dP (λi=>decide (i≠k)) (bB 8);rw[dU]at this;simp only[aO,aP];omega
 refine iK (λa C=>a=tD ns N c x9 x10 d x12 x13 x14 (some (.int k)) (some (.lst ((((bB 8).filter λi=>decide (i≠k)).map N++[N 8]).map T.str)))/\C=bk (fy N c k++[(N 8,3,2,1)]) (iw (N k) (fw N)) [(.l,o9 N c)]) ?_ ?_
 .simp_arith[↓fK];refine⟨by decide,?_⟩;rw[IF];refine tM (fun(i:Nat)=>decide (i≠k)) (fun(i:Nat)=>T.str (N i)) (λi bq=>?_) ?_
  .have bq:i<8:=gC bq;simp only[d3,aS,aN,aY,aU,aV,aT,b4,b5,cO,dX];simp_arith[↓fK];refine⟨?_,λ_=>⟨_,xS (by omega),rfl⟩⟩;by_cases e:i=k
   .rw[decide_eq_true (by rw[e]),decide_eq_false (λz=>z e)];rfl
   .rw[decide_eq_false (by omega),decide_eq_true e];rfl
  .refine⟨by decide,?_,?_,rfl⟩
   .rw[aQ];have:=dP (λi=>decide (i≠k)) (bB (VU 8));have e:(bB (VU 8)).length=8:=rfl;unfold lim;omega
   .rw[bW,cK];rfl
 rintro _ _ ⟨rfl,rfl⟩;have S:fP (fC (.str " ")) IU mY (tD ns N c x9 x10 d x12 x13 x14 (some (.int k)) (some (.lst ((((bB 8).filter λi=>decide (i≠k)).map N++[N 8]).map T.str)))) (bk (fy N c k++[(N 8,3,2,1)]) (iw (N k) (fw N)) [(.l,o9 N c)])=some (.str (Txt.join " " ((fy N c k++[(N 8,3,2,1)]).map (λp:Wk=>p.1))),bk (fy N c k++[(N 8,3,2,1)]) (iw (N k) (fw N)) [(.l,o9 N c)]):=pX (by
  simp_arith[↓fK,↓qW];rw[R];refine⟨yX (λx h=>?_) (aX y (by decide)),rfl⟩;rcases f8 h with h|h
  .obtain⟨i,_,rfl⟩:=fQ h;exact aX (g i) (by decide)
  .rw[gP h];exact aX (g 8) (by decide))
 have H:(fy N c k++[(N 8,3,2,1)]).length<=1000:=by rw[bN,qP j];exact aL rfl
 refine iK (λa C=>a=tD ns N c x9 x10 d x12 x13 x14 (some (.int k)) (some (.lst ((((bB 8).filter λi=>decide (i≠k)).map N++[N 8]).map T.str)))/\C=bk (fy N c k++[(N 8,3,2,1)]) (iw (N k) (fw N)) [(.l,o9 N c)]) ?_ ?_
 .refine oZ (CZ (oM (mD rfl rfl (wL H (GI b))) S) (oM (mD rfl (jL rfl rfl ?_) (HH f b j (x:=3) (y:=2) (z:=1) (by decide) (by decide) (by decide))) (by rw[Ee];rfl))) (oY ⟨rfl,rfl,rfl⟩);rw[s];omega
 rintro _ _ ⟨rfl,rfl⟩;refine zD.mpr ⟨.bl true,bk (fy N c k++[(N 8,7,2,3)]) (iw (N k) (fw N)) [(.l,o9 N c)],?_,iG jH⟩;unfold sD;rw[Hh (s:="ok") (mD rfl (jL (jL rfl rfl (by rw[m];omega)) rfl (by rw[Str.length_append,m,t];omega)) U) rfl,aM];exact Hh (s:=Str.ofString "7 2 3") ((mD rfl (jL rfl rfl (by rw[s];omega)) (HH f b j (x:=7) (y:=2) (z:=3) (by decide) (by decide) (by decide))).trans (by rw[Ed])) rfl
end ed
end
namespace ed
open PySem L2 TL cx
open HT (top)
local macro_rules| `(tactic|walk_at "bq")=>`(tactic|first|exact λ_ _ _ _ _ _=>qk λ_=>rfl|exact λ_ _ _ _ _ _=>yb λ_=>qk λ_=>rfl|exact λ_ _ _ _ _ _=>yb λ_=>yb λ_=>qk λ_=>rfl|exact λ_ _ _ _ _ _=>yb λ_=>yb λ_=>yb λ_=>qk λ_=>rfl)
section
variable {P:Wd}{w:Wf}{K:aK}{mg:Str->Us}{base:V8}{f:V1}{a:Ww}
set_option maxHeartbeats 0
theorem TJ(F_works:mQ K "Book" "works")(F_needs:mQ K "Book" "needs"):Ky P w K mg base "__init__" "Book.__init__" (inClass (top 101) 0) ["self"] 1 (spS K 1 nS):=λF=>jx (N:=["self"]) F tR xV λb c=>
 (fH (y3 F_works (eZ 0) Pq)
  (fT (y3 F_needs (eZ 0) (fV (hU fD)))))
theorem Ny:Ky P w K mg base "_law_mix" "_law_mix" (top 103) ["_law_number","_law_k"] 1 (spT K 2 j1):=λF=>jx (N:=["_law_number","_law_k"]) F jG (kP iW) λb c=>
 (fT (gM (pC (t9 (qE (qE (t9 (eZ 0) (eZ 0)) (t9 (eZ 1) (eZ 0))) (t9 (t9 f9 (eZ 1)) (eZ 1))) f9) f9)))
theorem Tw(D_mix1:oA P w K mg base 1 "_law_mix" 2 j1)(m_range:mg "range"=none)(m_int:mg "int"=none):Ky P w K mg base "_law_names" "_law_names" (top 105) ["_law_cell"] 2 (spT K 1 nL):=λF=>jx (N:=["_law_cell","_law_letters","_law_size","_law_at","_law_names_here","_law_k","_law_name","_law_j"]) F jG (kP iW) λb c=>
 (fH (gH b 1 fE)
  (fH (gH b 2 (qE f9 (pC (iL D_mix1 (dc c) (eY (eZ 0) (eY f9 fD))) f9)))
  (fH (gH b 3 (pC (iL D_mix1 (dc c) (eY (eZ 0) (eY f9 fD))) (eZ 2)))
  (fH (gH b 4 (u9 (hU fD)))
  (fH (qR m_range rfl f9 (nZ b 5) (fH (gH b 6 fE)
  (fH (qR m_range rfl (eZ 2) (nZ b 7) (fT (gH b 6 (fG (eZ 6) (KN (eZ 1) (pC (qE (iL D_mix1 (dc c) (eY (qE (eZ 0) (t9 (eZ 7) (eZ 7))) (eY f9 fD))) (t9 (eZ 5) (Mb m_int (eY (CI (dh c) (eZ 7) (eZ 3)) fD)))) f9))))))
  (fT (uK (eZ 4) (eY (eZ 6) fD))))))
  (fT (gM (eZ 4))))))))
theorem Ti(m_len:mg "len"=none):Ky P w K mg base "_law_cell_at" "_law_cell_at" (top 104) ["_law_script","_law_k"] 1 (spT K 2 l0):=λF=>jx (N:=["_law_script","_law_k"]) F jG (kP iW) λb c=>
 (fH (kZ (EM (eZ 1) (B1 m_len (eY (eZ 0) fD))) (fT (gM (mC (eZ 0) (eZ 1)))) iP)
  (fT (gM f9)))
theorem Sx(F_works:mQ K "Book" "works")(m_len:mg "len"=none)(G_DONE:∃t,mg "DONE"=some (.str "ok" t))(G_MOST_WORKS:∃t,mg "MOST_WORKS"=some (.int 8 t))(E_NoText:∃C,h5 K mg "NoText" C)(E_NoRoom:∃C,h5 K mg "NoRoom" C):jz P w K mg base "put_in" "put_in" (top 79) ["book","given"] 1 (o8 K 2 qL nP):=λF=>yZ (N:=["book","given","name","work"]) (B:=nK) F rfl λb c=>
 (fH (gH b 2 (mC (eZ 1) f9))
  (fH (gH b 3 (fV (mS (eZ 1) (lO f9) jV)))
  (fH (kZ (EM (mC (eZ 3) f9) (mC (eZ 3) f9)) (fT (j3 (c:="NoText") E_NoText rfl (eY fE fD))) iP)
  (fH (kZ (qa (EO (GR (dh c) (eZ 2) (mB F_works (eZ 0))) (Fq (JC (Fh m_len (eY (mB F_works (eZ 0)) fD)) (yC G_MOST_WORKS))))) (fT (j3 (c:="NoRoom") E_NoRoom rfl (eY fE fD))) iP)
  (fH (NC (dh c) (mB F_works (eZ 0)) (eZ 2) (eZ 3))
  (fT (gM (pU G_DONE))))))))
theorem T2:Ky P w K mg base "is_work" "is_work" (top 10) ["many","number"] 1 (spT K 2 lY):=λF=>jx (N:=["many","number"]) F jG (kP iW) λb c=>
 (fT (gM (vP f9 (eZ 1) (eZ 0))))
theorem rA(D_is_work:oA P w K mg base 1 "is_work" 2 lY)(m_range:mg "range"=none)(E_NoOrder:∃C,h5 K mg "NoOrder" C):jz P w K mg base "needed_works" "needed_works" (top 11) ["many","needs"] 2 (qb (spT K 2 jE) K 2 i6):=λF=>CK (N:=["many","needs","needed","first","second"]) (B:=jF) F rfl iW λb c=>
 (fH (SG b 2 m_range rfl (je ["work"] [] []) (eZ 0) (kE (by decide)) (λ_ _ _ _=>(nZ (show List.Nodup (["work"]:Ur)by decide) 0)) (λ_ _ _ _=>jI) (λ_ _ _ _=>(u9 (hU fD))))
  (fH (Hl rfl (eZ 1) (uY rfl (j0 b 3 (j0 b 4 uW))) (fH (kZ (qa (ye (CN (v9 (iL D_is_work (dc c) (eY (eZ 0) (eY (eZ 3) fD))))) (wO (CN (v9 (iL D_is_work (dc c) (eY (eZ 0) (eY (eZ 4) fD)))))))) (fT (j3 (c:="NoOrder") E_NoOrder rfl (eY fE fD))) iP)
  (fT (kZ (CO (dh c) (eZ 3) (mC (eZ 2) (eZ 4))) (fT (uK (mC (eZ 2) (eZ 4)) (eY (eZ 3) fD))) iP))))
  (fT (gM (eZ 2)))))
theorem sU(m_range:mg "range"=none)(m_len:mg "len"=none)(m_all:mg "all"=none)(E_NoOrder:∃C,h5 K mg "NoOrder" C):jz P w K mg base "least_ready" "least_ready" (top 12) ["needed","told"] 1 (qb (spT K 2 kW) K 2 iI):=λF=>CK (N:=["needed","told","work"]) (B:=jK) F rfl iW λc b=>
 (fH (qR m_range rfl (B1 m_len (eY (eZ 0) fD)) (nZ c 2) (fT (kZ (qa (EO (CO (dh b) (eZ 2) (eZ 1)) (Fq (v9 (GH m_all rfl (eY (fV (oC rfl (je ["first"] ["told"] [1]) (mC (eZ 0) (eZ 2)) (kE (by decide)) (λ_ _ _ _=>(nZ (show List.Nodup (["first","told"]:Ur)by decide) 0)) (λ_ _ _ _=>jI) (λ_ _ _ _=>(JB (dh b) (eZ 0) (eZ 1))))) fD)))))) (fT (gM (eZ 2))) iP)))
  (fT (j3 (c:="NoOrder") E_NoOrder rfl (eY fE fD))))
theorem y9(D_needed_worksX:vp P w K mg base 2 "needed_works" 2 (spT K 2 jE) i6)(D_least_readyX:vp P w K mg base 1 "least_ready" 2 (spT K 2 kW) iI)(m_len:mg "len"=none):jz P w K mg base "order_of" "order_of" (top 9) ["many","needs"] 3 (qb (spT K 2 j5) K 2 i9):=λF=>CK (N:=["many","needs","needed","order"]) (B:=j4) F rfl iW λc b=>
 (fH (vx (Me c 2 (yL D_needed_worksX (dc b) (eY (eZ 0) (eY (eZ 1) fD)))) (gH c 2 (tL D_needed_worksX (dc b) (eY (eZ 0) (eY (eZ 1) fD)))))
  (fH (gH c 3 (u9 (hU fD)))
  (fH (PB 10 (EM (B1 m_len (eY (eZ 3) fD)) (eZ 0)) (fT (vx (La (eZ 3) (GF (yL D_least_readyX (dc b) (eY (eZ 2) (eY (eZ 3) fD))) fD)) (uK (eZ 3) (eY (tL D_least_readyX (dc b) (eY (eZ 2) (eY (eZ 3) fD))) fD)))))
  (fT (gM (eZ 3))))))
theorem zV(F_works:mQ K "Book" "works")(m_list:mg "list"=none):Ky P w K mg base "numbered" "numbered" (top 96) ["book","needs"] 1 (spS K 2 jO):=λF=>jx (N:=["book","needs","names"]) F tR xV λb c=>
 (fH (gH b 2 (fV (HI m_list rfl (eY (mB F_works (eZ 0)) fD))))
  (fT (gM (fV (oC rfl (je ["first","second"] ["names"] [2]) (eZ 1) (xY (by decide)) (λ_ _ _ _=>(uY rfl (j0 (show List.Nodup (["first","second","names"]:Ur)by decide) 0 (j0 (show List.Nodup (["first","second","names"]:Ur)by decide) 1 uW)))) (λ_ _ _ _=>jI) (λ_ _ _ _=>(fV (hU (eY (Hu (eZ 2) (eZ 0)) (eY (Hu (eZ 2) (eZ 1)) fD))))))))))
theorem TZ(D_order_ofX:vp P w K mg base 3 "order_of" 2 (spT K 2 j5) i9)(D_numbered:Cy P w K mg base 1 "numbered" 2 jO)(F_needs:mQ K "Book" "needs")(F_works:mQ K "Book" "works")(m_len:mg "len"=none)(G_DONE:∃t,mg "DONE"=some (.str "ok" t)):jz P w K mg base "add_need" "add_need" (top 82) ["book","given"] 4 (o8 K 2 n4 iU):=λF=>yZ (N:=["book","given","needs"]) (B:=mL) F rfl λc b=>
 (fH (kZ (CO (dh b) (eZ 1) (mB F_needs (eZ 0))) (fH (gH c 2 (fV (kQ (mB F_needs (eZ 0)) (fV (hU (eY (eZ 1) fD))))))
  (fH (vx (Ig (yL D_order_ofX (dc b) (eY (Fh m_len (eY (mB F_works (eZ 0)) fD)) (eY (yT D_numbered (dc b) (eY (eZ 0) (eY (eZ 2) fD))) fD)))) (yV (tL D_order_ofX (dc b) (eY (Fh m_len (eY (mB F_works (eZ 0)) fD)) (eY (yT D_numbered (dc b) (eY (eZ 0) (eY (eZ 2) fD))) fD)))))
  (fT (y3 F_needs (eZ 0) (eZ 2))))) iP)
  (fT (gM (pU G_DONE))))
theorem TY(F_needs:mQ K "Book" "needs")(F_works:mQ K "Book" "works")(G_DONE:∃t,mg "DONE"=some (.str "ok" t)):jz P w K mg base "take_out" "take_out" (top 80) ["book","given"] 1 (o8 K 2 mJ oE):=λF=>yZ (N:=["book","given"]) (B:=lD) F rfl λc b=>
 (fH (yV (LV (mB F_works (eZ 0)) (mC (eZ 1) f9)))
  (fH (y3 F_needs (eZ 0) (fV (oC rfl (je ["need"] ["given"] [1]) (mB F_needs (eZ 0)) (kE (by decide)) (λ_ _ _ _=>(nZ (show List.Nodup (["need","given"]:Ur)by decide) 0)) (λ_ _ _ _=>(xW (CO (dh b) (mC (eZ 1) f9) (eZ 0)))) (λ_ _ _ _=>(eZ 0)))))
  (fT (gM (pU G_DONE)))))
theorem SH(m_str:mg "str"=none):Ky P w K mg base "spaced" "spaced" (top 98) ["things"] 1 (spT K 1 kH):=λF=>jx (N:=["things"]) F jG (kP iW) λb c=>
 (fT (gM (yK fE (fV (oC rfl (je ["thing"] [] []) (eZ 0) (kE (by decide)) (λ_ _ _ _=>(nZ (show List.Nodup (["thing"]:Ur)by decide) 0)) (λ_ _ _ _=>jI) (λ_ _ _ _=>(Hd m_str (eY (eZ 0) fD))))))))
theorem vO(D_spaced:oA P w K mg base 1 "spaced" 1 kH)(F_works:mQ K "Book" "works")(m_list:mg "list"=none):jz P w K mg base "tell_names" "tell_names" (top 84) ["book","given"] 2 (o8 K 2 lQ nA):=λF=>yZ (N:=["book","given"]) (B:=lX) F rfl λc b=>
 (fT (gM (iL D_spaced (dc b) (eY (fV (HI m_list rfl (eY (mB F_works (eZ 0)) fD))) fD))))
theorem yO(D_spaced:oA P w K mg base 1 "spaced" 1 kH)(F_works:mQ K "Book" "works")(F_needs:mQ K "Book" "needs"):jz P w K mg base "tell_work" "tell_work" (top 85) ["book","given"] 2 (o8 K 2 m5 nX):=λF=>yZ (N:=["book","given","name"]) (B:=mT) F rfl λc b=>
 (fH (gH c 2 (mC (eZ 1) f9))
  (fT (gM (iL D_spaced (dc b) (eY (fV (kQ (Md (dh b) (mB F_works (eZ 0)) (eZ 2)) (fV (N4 rfl (je ["first"] ["name","book"] [2,0]) (mB F_works (eZ 0)) (kE (by decide)) (λ_ _ _ _=>(nZ (show List.Nodup (["first","name","book"]:Ur)by decide) 0)) (λ_ _ _ _=>(xW (JH (dh b) (fV (hU (eY (eZ 0) (eY (eZ 1) fD)))) (mB F_needs (eZ 2))))) (λ_ _ _ _=>(eZ 0)))))) fD)))))
theorem vQ(m_all:mg "all"=none)(m_len:mg "len"=none):Ky P w K mg base "is_made_of" "is_made_of" (top 64) ["signs","most","text"] 1 (spT K 3 iS):=λF=>jx (N:=["signs","most","text"]) F jG (kP iW) λb c=>
 (fT (gM (Gx (vH f9 (Mw m_len (eY (eZ 2) fD)) (eZ 1)) (GG (GH m_all rfl (eY (fV (MR rfl (je ["sign"] ["signs"] [0]) (eZ 2) (kE (by decide)) (λ_ _ _ _=>(nZ (show List.Nodup (["sign","signs"]:Ur)by decide) 0)) (λ_ _ _ _=>jI) (λ_ _ _ _=>(JW (eZ 0) (eZ 1))))) fD))))))
theorem Td(D_is_made_of:oA P w K mg base 1 "is_made_of" 3 iS)(G_SMALL_LETTERS:∃t,mg "SMALL_LETTERS"=some (.str "abcdefghijklmnopqrstuvwxyz" t))(G_MOST_LETTERS:∃t,mg "MOST_LETTERS"=some (.int 8 t)):Ky P w K mg base "is_name" "is_name" (top 62) ["text"] 2 (spT K 1 l3):=λF=>jx (N:=["text"]) F jG (kP iW) λc b=>
 (fT (gM (iL D_is_made_of (dc b) (eY (pU G_SMALL_LETTERS) (eY (yC G_MOST_LETTERS) (eY (eZ 0) fD))))))
theorem TM(D_is_name:oA P w K mg base 2 "is_name" 1 l3)(E_NoName:∃C,h5 K mg "NoName" C):jz P w K mg base "any_name" "any_name" (top 76) ["book","word"] 3 (o8 K 2 nW mZ):=λF=>yZ (N:=["book","word"]) (B:=l4) F rfl λc b=>
 (fH (kZ (CN (v9 (iL D_is_name (dc b) (eY (eZ 1) fD)))) (fT (j3 (c:="NoName") E_NoName rfl (eY fE fD))) iP)
  (fT (gM (eZ 1))))
theorem yR(F_works:mQ K "Book" "works")(E_NoName:∃C,h5 K mg "NoName" C):jz P w K mg base "work_name" "work_name" (top 77) ["book","word"] 1 (o8 K 2 m3 lU):=λF=>yZ (N:=["book","word"]) (B:=lN) F rfl λc b=>
 (fH (kZ (GR (dh b) (eZ 1) (mB F_works (eZ 0))) (fT (j3 (c:="NoName") E_NoName rfl (eY fE fD))) iP)
  (fT (gM (eZ 1))))
theorem TH(D_is_made_of:oA P w K mg base 1 "is_made_of" 3 iS)(G_FIGURES:∃t,mg "FIGURES"=some (.str "0123456789" t))(G_MOST_FIGURES:∃t,mg "MOST_FIGURES"=some (.int 30 t)):Ky P w K mg base "is_count" "is_count" (top 63) ["text"] 2 (spT K 1 lE):=λF=>jx (N:=["text"]) F jG (kP iW) λc b=>
 (fH (kZ (qa (EO (v9 (Ll (eZ 0) fE)) (Fq (rV (dh b) (eZ 0) fE)))) (fT (gM su)) iP)
  (fT (gM (iL D_is_made_of (dc b) (eY (pU G_FIGURES) (eY (yC G_MOST_FIGURES) (eY (eZ 0) fD)))))))
theorem vW(D_is_count:oA P w K mg base 2 "is_count" 1 lE)(m_int:mg "int"=none)(E_NoText:∃C,h5 K mg "NoText" C):jz P w K mg base "read_count" "read_count" (top 61) ["text"] 3 (qb (spT K 1 kJ) K 1 jW):=λF=>CK (N:=["text"]) (B:=kI) F rfl iW λc b=>
 (fH (kZ (CN (v9 (iL D_is_count (dc b) (eY (eZ 0) fD)))) (fT (j3 (c:="NoText") E_NoText rfl (eY fE fD))) iP)
  (fT (gM (Ld m_int (eY (eZ 0) fD)))))
theorem vX(D_read_count:vp P w K mg base 3 "read_count" 1 (spT K 1 kJ) jW):jz P w K mg base "any_number" "any_number" (top 78) ["book","word"] 4 (o8 K 2 lV lG):=λF=>yZ (N:=["book","word"]) (B:=kG) F rfl λc b=>
 (fT (vx (Fj (yL D_read_count (dc b) (eY (eZ 1) fD))) (gM (tL D_read_count (dc b) (eY (eZ 1) fD)))))
theorem TK(m_len:mg "len"=none)(m_zip:mg "zip"=none)(E_NoRow:∃C,h5 K mg "NoRow" C)(c:nG w K mg "ROWS" rows)(FT:jR P w K mg base 4 ft)(KT:j8 K kt):jz P w K mg base "say" "Book.say" (inClass (top 101) 1) ["self","row"] 5 (o8 K 2 fW e9):=λF=>yZ (N:=["self","row","words","answer","readers"]) (B:=lA) F rfl λd b=>
 (fH (gH d 2 (fV (KC (eZ 1) fE)))
  (fH (kZ (qa (ye (LF c (mC (eZ 2) f9)) (wO (rV (dh b) (B1 m_len (eY (eZ 2) fD)) (Lg m_len c (mC (eZ 2) f9)))))) (fT (j3 (c:="NoRow") E_NoRow rfl (eY fE fD))) iP)
  (fH (gH d 3 (L7 c (mC (eZ 2) f9)))
  (fH (gH d 4 (Le c (mC (eZ 2) f9)))
  (fT (vx (Fj (Nv 3 KT (JT (eZ 0) (GF (Rv m_zip rfl (je ["read","word"] ["self"] [0]) (eZ 4) (fV (mS (eZ 2) (lO f9) jV)) (xY (by decide)) (λ_ _ _ _=>(uY rfl (j0 (show List.Nodup (["read","word","self"]:Ur)by decide) 0 (j0 (show List.Nodup (["read","word","self"]:Ur)by decide) 1 uW)))) (λ_ _ _ _=>(sZ 0 FT (dc b) (eY (eZ 2) (eY (eZ 1) fD)))) (λ_ _ _ _ _=>(HJ 0 FT (dc b) (eY (eZ 2) (eY (eZ 1) fD))))) fD)))) (vx (Fj (HJ 3 FT (dc b) (eY (eZ 0) (eY (fV (IE m_zip rfl (je ["read","word"] ["self"] [0]) (eZ 4) (fV (mS (eZ 2) (lO f9) jV)) (xY (by decide)) (λ_ _ _ _=>(uY rfl (j0 (show List.Nodup (["read","word","self"]:Ur)by decide) 0 (j0 (show List.Nodup (["read","word","self"]:Ur)by decide) 1 uW)))) (λ_ _ _ _=>jI) (λ_ _ _ _=>(sZ 0 FT (dc b) (eY (eZ 2) (eY (eZ 1) fD)))))) fD)))) (gM (sZ 3 FT (dc b) (eY (eZ 0) (eY (fV (IE m_zip rfl (je ["read","word"] ["self"] [0]) (eZ 4) (fV (mS (eZ 2) (lO f9) jV)) (xY (by decide)) (λ_ _ _ _=>(uY rfl (j0 (show List.Nodup (["read","word","self"]:Ur)by decide) 0 (j0 (show List.Nodup (["read","word","self"]:Ur)by decide) 1 uW)))) (λ_ _ _ _=>jI) (λ_ _ _ _=>(sZ 0 FT (dc b) (eY (eZ 2) (eY (eZ 1) fD)))))) fD)))))))))))
theorem vV:Ky P w K mg base "_law_of_texts" "_law_of_texts" (top 109) ["_law_a","_law_b","_law_c","_law_u"] 1 (spT K 4 kO):=λF=>jx (N:=["_law_a","_law_b","_law_c","_law_u","_law_rows","_law_found"]) F jG (kP iW) λb c=>
 (fH (gH b 4 (fV (hU (eY (fG (fG fE (eZ 0)) fE) (eY (fG (fG fE (eZ 0)) fE) (eY (fG (fG fE (eZ 0)) fE) (eY (fG (fG fE (eZ 3)) fE) fD)))))))
  (fH (gH b 4 (fV (kQ (eZ 4) (fV (hU (eY (fG (fG fE (eZ 3)) fE) (eY (fG (fG fE (eZ 0)) fE) (eY (fG (fG fE (eZ 3)) fE) (eY (fG (fG fE (eZ 3)) fE) fD)))))))))
  (fH (gH b 4 (fV (kQ (eZ 4) (fV (hU (eY fE (eY fE (eY fE (eY fE (eY fE (eY fE fD)))))))))))
  (fH (gH b 4 (fV (kQ (eZ 4) (fV (hU (eY fE (eY fE (eY (fG fE (Fk fE f9)) (eY (fG (fG (fG (fG fE (eZ 3)) fE) (Fk fE f9)) fE) (eY (fG fE (eZ 0)) fD))))))))))
  (fH (MT b 5 rfl (je ["_law_row"] [] []) (eZ 4) (kE (by decide)) (λ_ _ _ _=>(nZ (show List.Nodup (["_law_row"]:Ur)by decide) 0)) (λ_ _ _ _=>jI) (λ_ _ _ _=>(mP (eY (eZ 0) (eY f9 fD)))))
  (fH (gH b 5 (u9 (kQ (eZ 5) (fV (hU (eY (mP (eY (fG (fG fE (eZ 3)) fE) (eY f9 fD))) (eY (mP (eY (fG (fG fE (eZ 3)) fE) (eY f9 fD))) fD)))))))
  (fH (uK (eZ 5) (eY (mP (eY (fG (fG (fG (fG fE (eZ 3)) fE) (Fk fE f9)) fE) (eY f9 fD))) fD))
  (fH (gH b 4 (fV (hU (eY (fG (fG (fG fE (eZ 0)) fE) (eZ 0)) (eY (fG (fG (fG fE (eZ 1)) fE) (eZ 0)) (eY (fG (fG (fG fE (eZ 2)) fE) (eZ 0)) (eY (fG (fG (fG fE (eZ 2)) fE) (eZ 1)) fD)))))))
  (fT (gM (fV (kQ (eZ 5) (fV (oC rfl (je ["_law_row"] [] []) (eZ 4) (kE (by decide)) (λ_ _ _ _=>(nZ (show List.Nodup (["_law_row"]:Ur)by decide) 0)) (λ_ _ _ _=>jI) (λ_ _ _ _=>(mP (eY (eZ 0) (eY f9 fD))))))))))))))))))
theorem xU(D_Book_say:zN P w K mg base 5 "Book" "say" 2 fW e9)(m_isinstance:mg "isinstance"=none)(m_ValueError:mg "ValueError"=none)(TT:Tab K mg gv ["NoText","NoRoom","NoOrder","NoName","NoRow"] ["BookError","NoRow","NoName","NoText","NoRoom","NoOrder"]):Ky P w K mg base "_law_refused" "_law_refused" (top 110) ["_law_book","_law_row"] 6 (spS K 2 lM):=λF=>jx (N:=["_law_book","_law_row","_law_caught","e","_law_found"]) F tR xV λb c=>
 (fH (gH b 2 Kr)
  (fH (Kc (d:="BookError") TT (by decide) b 3 rfl (λ_ _=>(fT (vx (Ig (J3 D_Book_say (dc c) (eZ 0) (eY (eZ 1) fD))) (yV (n6 D_Book_say (dc c) (eZ 0) (eY (eZ 1) fD)))))) (λ_=>(fT (gH b 2 (eZ 3)))))
  (fH (gH b 4 (fV (hU (eY (uO (d:="NoRow") TT m_isinstance (eZ 2)) (eY (uO (d:="NoName") TT m_isinstance (eZ 2)) (eY (uO (d:="NoText") TT m_isinstance (eZ 2)) fD))))))
  (fT (gM (fV (kQ (eZ 4) (fV (hU (eY (uO (d:="NoRoom") TT m_isinstance (eZ 2)) (eY (uO (d:="NoOrder") TT m_isinstance (eZ 2)) (eY (Nn TT m_isinstance m_ValueError (eZ 2)) fD))))))))))))
theorem vJ:Ky P w K mg base "_law_of_words" "_law_of_words" (top 107) ["_law_a","_law_u"] 1 (spT K 2 kX):=λF=>jx (N:=["_law_a","_law_u","_law_rows","_law_found"]) F jG (kP iW) λb c=>
 (fH (gH b 2 (fV (hU (eY fE (eY fE (eY fE (eY fE (eY fE (eY fE (eY (fG (fG fE (eZ 1)) fE) (eY (fG (fG fE (eZ 0)) fE) fD)))))))))))
  (fH (gH b 2 (fV (kQ (eZ 2) (fV (hU (eY (fG fE (eZ 0)) (eY (fG (fG (fG (fG (fG fE (eZ 0)) fE) (eZ 0)) fE) (eZ 0)) (eY (fG fE (eZ 0)) (eY fE (eY (fG (fG (fG fE (eZ 0)) fE) (eZ 0)) fD))))))))))
  (fH (gH b 2 (fV (kQ (eZ 2) (fV (hU (eY fE (eY (fG (fG fE (eZ 0)) fE) (eY fE (eY fE (eY (fG fE (eZ 0)) (eY fE (eY fE fD))))))))))))
  (fH (gH b 2 (fV (kQ (eZ 2) (fV (hU (eY fE (eY fE (eY fE (eY fE (eY (fG (eZ 1) fE) (eY fE (eY fE (eY fE fD)))))))))))))
  (fH (Ot b 3 rfl (je ["_law_row"] [] []) (eZ 2) (kE (by decide)) (λ_ _ _ _=>(nZ (show List.Nodup (["_law_row"]:Ur)by decide) 0)) (λ_ _ _ _=>jI) (λ_ _ _ _=>(mP (eY (eZ 0) (eY f9 fD)))))
  (fT (gM (fV (kQ (eZ 3) (fV (hU (eY (mP (eY fE (eY f9 fD))) (eY (mP (eY fE (eY f9 fD))) (eY (mP (eY fE (eY f9 fD))) (eY (mP (eY fE (eY f9 fD))) fD)))))))))))))))
theorem vK:Ky P w K mg base "_law_of_names" "_law_of_names" (top 108) ["_law_a","_law_u","_law_m"] 1 (spT K 3 kL):=λF=>jx (N:=["_law_a","_law_u","_law_m","_law_rows"]) F jG (kP iW) λb c=>
 (fH (gH b 3 (fV (hU (eY (fG (fG fE (eZ 2)) fE) (eY (fG (fG fE (eZ 2)) fE) (eY (fG (fG (fG fE (eZ 1)) fE) (eZ 0)) (eY (fG (fG (fG fE (eZ 0)) fE) (eZ 1)) fD)))))))
  (fH (gH b 3 (fV (kQ (eZ 3) (fV (hU (eY (fG (fG (fG fE (eZ 2)) fE) (eZ 1)) (eY (fG (fG (fG fE (eZ 1)) fE) (eZ 1)) (eY (fG (fG (fG fE (eZ 1)) fE) (eZ 0)) (eY (fG (fG (fG fE (eZ 0)) fE) (eZ 2)) fD)))))))))
  (fH (gH b 3 (fV (kQ (eZ 3) (fV (hU (eY (fG fE (eZ 1)) (eY (fG fE (eZ 2)) (eY (fG fE (eZ 1)) (eY (fG fE (eZ 2)) (eY (fG (fG (fG fE (eZ 0)) fE) (eZ 2)) (eY (fG (fG fE (eZ 2)) fE) fD)))))))))))
  (fT (gM (fV (oC rfl (je ["_law_row"] [] []) (eZ 3) (kE (by decide)) (λ_ _ _ _=>(nZ (show List.Nodup (["_law_row"]:Ur)by decide) 0)) (λ_ _ _ _=>jI) (λ_ _ _ _=>(mP (eY (eZ 0) (eY f9 fD)))))))))))
theorem yE(D_mix1:oA P w K mg base 1 "_law_mix" 2 j1):Ky P w K mg base "_law_no_name" "_law_no_name" (top 106) ["_law_name","_law_cell"] 2 (spT K 2 lK):=λF=>jx (N:=["_law_name","_law_cell"]) F jG (kP iW) λc b=>
 (fT (gM (mC (fV (hU (eY fE (eY (fG (eZ 0) fE) (eY (fG (E6 (eZ 0) (lO f9) jV) fE) (eY (fG (E6 (eZ 0) jV (lO (Kl f9))) fE) (eY (fG (E6 (eZ 0) (lO f9) jV) fE) fD))))))) (pC (iL D_mix1 (dc b) (eY (eZ 1) (eY f9 fD))) f9))))
theorem K1(D_Book_new:EI P w K mg base 1 "Book" 1 nS [] [])(D_l_names:oA P w K mg base 2 "_law_names" 1 nL)(D_cell_at:oA P w K mg base 1 "_law_cell_at" 2 l0)(D_mix1:oA P w K mg base 1 "_law_mix" 2 j1)(D_Book_say:zN P w K mg base 5 "Book" "say" 2 fW e9)(D_l_of_texts:oA P w K mg base 1 "_law_of_texts" 4 kO)(D_l_refused:Cy P w K mg base 6 "_law_refused" 2 lM)(D_l_of_words:oA P w K mg base 1 "_law_of_words" 2 kX)(D_l_of_names:oA P w K mg base 1 "_law_of_names" 3 kL)(D_l_no_name:oA P w K mg base 2 "_law_no_name" 2 lK)(m_range:mg "range"=none)(m_len:mg "len"=none)(m_str:mg "str"=none):Ky P w K mg base "law" "law" (top 111) ["_law_script"] 7 (spT K 1 C5):=λF=>jx (N:=["_law_script","_law_book","_law_names_here","_law_cell","_law_a","_law_b","_law_c","_law_u","_law_texts","_law_k","_law_numbers","_law_one","_law_rows","_law_row","_law_mark","_law_at","_law_left"]) F jG (kP iW) λc b=>
 (fH (gH c 1 (N0 D_Book_new (dc b)))
  (fH (gH c 2 (iL D_l_names (dc b) (eY (iL D_cell_at (dc b) (eY (eZ 0) (eY f9 fD))) fD)))
  (fH (gH c 3 (iL D_cell_at (dc b) (eY (eZ 0) (eY f9 fD))))
  (fH (GZ (fV (mS (eZ 2) jV (lO f9))) (uY rfl (j0 c 4 (j0 c 5 (j0 c 6 uW)))))
  (fH (gH c 7 (mC (eZ 2) f9))
  (fH (gH c 8 (u9 (hU fD)))
  (fH (qR m_range rfl f9 (nZ c 9) (fH (gH c 10 (fV (hU (eY (qE f9 (pC (iL D_mix1 (dc b) (eY (eZ 3) (eY (eZ 9) fD))) f9)) (eY (pC (iL D_mix1 (dc b) (eY (eZ 3) (eY (qE f9 (eZ 9)) fD))) f9) (eY (pC (iL D_mix1 (dc b) (eY (eZ 3) (eY (qE f9 (eZ 9)) fD))) f9) fD))))))
  (fH (uK (eZ 8) (eY (yK fE (fV (oC rfl (je ["_law_number"] [] []) (eZ 10) (kE (by decide)) (λ_ _ _ _=>(nZ (show List.Nodup (["_law_number"]:Ur)by decide) 0)) (λ_ _ _ _=>jI) (λ_ _ _ _=>(Hd m_str (eY (eZ 0) fD)))))) fD))
  (fT (kZ (rV (dh b) (n6 D_Book_say (dc b) (eZ 1) (eY (fG (fG (fG fE (mC (eZ 2) (eZ 9))) fE) (mC (eZ 8) (eZ 9))) fD)) fE) (fT (gM su)) iP)))))
  (fH (kZ (qa (ye (rV (dh b) (n6 D_Book_say (dc b) (eZ 1) (eY (fG (fG (fG fE (eZ 4)) fE) (eZ 5)) fD)) fE) (wO (rV (dh b) (n6 D_Book_say (dc b) (eZ 1) (eY (fG (fG (fG fE (eZ 5)) fE) (eZ 6)) fD)) fE)))) (fT (gM su)) iP)
  (fH (Hy (fG (fG (mC (eZ 8) f9) fE) (eZ 4)) (eZ 8) f9)
  (fH (Hy (fG (fG (mC (eZ 8) f9) fE) (eZ 5)) (eZ 8) f9)
  (fH (Hl rfl (fV (kQ (fV (hU (eY f9 fD))) (fV (mS (eZ 0) (lO f9) (lO f9))))) (nZ c 11) (fH (gH c 12 (fV (kQ (fV (kQ (iL D_l_of_words (dc b) (eY (eZ 4) (eY (eZ 7) fD))) (iL D_l_of_names (dc b) (eY (eZ 4) (eY (eZ 7) (eY (iL D_l_no_name (dc b) (eY (eZ 4) (eY (eZ 11) fD))) fD)))))) (iL D_l_of_texts (dc b) (eY (eZ 4) (eY (eZ 5) (eY (eZ 6) (eY (eZ 7) fD))))))))
  (fH (GZ (mC (eZ 12) (pC (iL D_mix1 (dc b) (eY (eZ 11) (eY f9 fD))) (B1 m_len (eY (eZ 12) fD)))) (uY rfl (j0 c 13 (j0 c 14 uW))))
  (fH (kZ (rV (dh b) (yT D_l_refused (dc b) (eY (eZ 1) (eY (eZ 13) fD))) (fV (kQ (fV (IH m_range rfl (je ["_law_k"] ["_law_mark"] [14]) f9 (kE (by decide)) (λ_ _ _ _=>(nZ (show List.Nodup (["_law_k","_law_mark"]:Ur)by decide) 0)) (λ_ _ _ _=>jI) (λ_ _ _ _=>(CI (dh b) (eZ 1) (qE (eZ 0) f9))))) (fV (hU (eY su fD)))))) (fT (gM su)) iP)
  (fT (kZ (qa (ye (rV (dh b) (n6 D_Book_say (dc b) (eZ 1) (eY fE fD)) (yK fE (fV (mS (eZ 2) jV (lO f9))))) (wO (rV (dh b) (fV (oC rfl (je ["_law_name"] ["_law_book"] [1]) (fV (mS (eZ 2) jV (lO f9))) (kE (by decide)) (λ_ _ _ _=>(nZ (show List.Nodup (["_law_name","_law_book"]:Ur)by decide) 0)) (λ_ _ _ _=>jI) (λ_ _ _ _=>(n6 D_Book_say (dc b) (eZ 1) (eY (fG fE (eZ 0)) fD))))) (eZ 8))))) (fT (gM su)) iP))))))
  (fH (gH c 15 (pC (iL D_mix1 (dc b) (eY (eZ 3) (eY f9 fD))) f9))
  (fH (kZ (qa (ye (rV (dh b) (n6 D_Book_say (dc b) (eZ 1) (eY (fG fE (mC (eZ 2) (eZ 15))) fD)) fE) (wO (rV (dh b) (n6 D_Book_say (dc b) (eZ 1) (eY (fG (fG fE (eZ 7)) fE) fD)) fE)))) (fT (gM su)) iP)
  (fH (gH c 16 (fV (kQ (fV (IH m_range rfl (je ["_law_k"] ["_law_at","_law_names_here"] [15,2]) f9 (kE (by decide)) (λ_ _ _ _=>(nZ (show List.Nodup (["_law_k","_law_at","_law_names_here"]:Ur)by decide) 0)) (λ_ _ _ _=>(xW (rV (dh b) (eZ 0) (eZ 1)))) (λ_ _ _ _=>(mC (eZ 2) (eZ 0))))) (fV (hU (eY (eZ 7) fD))))))
  (fH (kZ (qa (ye (rV (dh b) (n6 D_Book_say (dc b) (eZ 1) (eY fE fD)) (yK fE (eZ 16))) (wO (rV (dh b) (n6 D_Book_say (dc b) (eZ 1) (eY (fG fE (eZ 7)) fD)) fE)))) (fT (gM su)) iP)
  (fT (gM (Gx (CI (dh b) (n6 D_Book_say (dc b) (eZ 1) (eY (fG (fG fE (eZ 7)) fE) fD)) fE) (GG (CI (dh b) (n6 D_Book_say (dc b) (eZ 1) (eY (fG fE (eZ 7)) fD)) fE))))))))))))))))))))
end
set_option maxHeartbeats 0 in
theorem LL{l:Va}{w:Wf}{K:aK}{h:V8}{mg:Str->Us}{fa:V1}(X:K.In h)(G:h.Ns V5 mg)(Z:mg "law"=some (.ref fa))
 {C_Book:V1}(h_Book:Cm K "Book" C_Book)
 (na_works:bH K (.ref C_Book) "works"=some none)
 (na_needs:bH K (.ref C_Book) "needs"=some none)
 (a1:Mm K C_Book "__init__" "Book.__init__" (inClass (top 101) 0))
 (a2:Nm K "_law_mix" (top 103))
 (a3:Nm K "_law_names" (top 105))
 (a4:Nm K "_law_cell_at" (top 104))
 (a5:Nm K "put_in" (top 79))
 (a6:Nm K "is_work" (top 10))
 (a7:Nm K "needed_works" (top 11))
 (a8:Nm K "least_ready" (top 12))
 (a9:Nm K "order_of" (top 9))
 (a10:Nm K "numbered" (top 96))
 (a11:Nm K "add_need" (top 82))
 (a12:Na K "take_out_books" "take_out" (top 80))
 (a13:Nm K "spaced" (top 98))
 (a14:Nm K "tell_names" (top 84))
 (a15:Nm K "tell_work" (top 85))
 (a16:Nm K "is_made_of" (top 64))
 (a17:Nm K "is_name" (top 62))
 (a18:Nm K "any_name" (top 76))
 (a19:Nm K "work_name" (top 77))
 (a20:Nm K "is_count" (top 63))
 (a21:Nm K "read_count" (top 61))
 (a22:Nm K "any_number" (top 78))
 (a23:Mm K C_Book "say" "Book.say" (inClass (top 101) 1))
 (a24:Nm K "_law_of_texts" (top 109))
 (a25:Nm K "_law_refused" (top 110))
 (a26:Nm K "_law_of_words" (top 107))
 (a27:Nm K "_law_of_names" (top 108))
 (a28:Nm K "_law_no_name" (top 106))
 {f:V1}{sw pw:Option V1}{sg:Array Us}{sy ni pk my q pq:V3}
 (a29:aW K V5 "law"=some (some (.ref f)))(I:K.lookup f=some ⟨sy,sw,.func (cG "law" "law" (jJ (top 111)) (iQ (top 111)) (gF (top 111)) .none ni pk my pw q pq),sg⟩)(c29:dI K q "law"=true)(Y:bL K (.ref f)=true)
 (z_range:aW K V5 "range"=some none)
 (z_int:aW K V5 "int"=some none)
 (z_len:aW K V5 "len"=some none)
 (z_all:aW K V5 "all"=some none)
 (z_list:aW K V5 "list"=some none)
 (z_str:aW K V5 "str"=some none)
 (z_zip:aW K V5 "zip"=some none)
 (z_isinstance:aW K V5 "isinstance"=some none)
 (z_ValueError:aW K V5 "ValueError"=some none)
 {u_DONE:Tok}(y_DONE:aW K V5 "DONE"=some (some (.str "ok" u_DONE)))
 {u_MOST_WORKS:Tok}(y_MOST_WORKS:aW K V5 "MOST_WORKS"=some (some (.int 8 u_MOST_WORKS)))
 {u_SMALL_LETTERS:Tok}(y_SMALL_LETTERS:aW K V5 "SMALL_LETTERS"=some (some (.str "abcdefghijklmnopqrstuvwxyz" u_SMALL_LETTERS)))
 {u_MOST_LETTERS:Tok}(y_MOST_LETTERS:aW K V5 "MOST_LETTERS"=some (some (.int 8 u_MOST_LETTERS)))
 {u_FIGURES:Tok}(y_FIGURES:aW K V5 "FIGURES"=some (some (.str "0123456789" u_FIGURES)))
 {u_MOST_FIGURES:Tok}(y_MOST_FIGURES:aW K V5 "MOST_FIGURES"=some (some (.int 30 u_MOST_FIGURES)))
 {X_BookError:V1}(e_BookError:aW K V5 "BookError"=some (some (.ref X_BookError)))(x_BookError:cQ K X_BookError mroVE "ValueError.__new__"=true)
 {X_NoRow:V1}(e_NoRow:aW K V5 "NoRow"=some (some (.ref X_NoRow)))(x_NoRow:cQ K X_NoRow mroVE "ValueError.__new__"=true)
 {X_NoName:V1}(e_NoName:aW K V5 "NoName"=some (some (.ref X_NoName)))(x_NoName:cQ K X_NoName mroVE "ValueError.__new__"=true)
 {X_NoText:V1}(e_NoText:aW K V5 "NoText"=some (some (.ref X_NoText)))(x_NoText:cQ K X_NoText mroVE "ValueError.__new__"=true)
 {X_NoRoom:V1}(e_NoRoom:aW K V5 "NoRoom"=some (some (.ref X_NoRoom)))(x_NoRoom:cQ K X_NoRoom mroVE "ValueError.__new__"=true)
 {X_NoOrder:V1}(e_NoOrder:aW K V5 "NoOrder"=some (some (.ref X_NoOrder)))(x_NoOrder:cQ K X_NoOrder mroVE "ValueError.__new__"=true)
 (t_BookError:b7 K (.ref X_BookError)=some (.type "type"))
 (t_NoRow:b7 K (.ref X_NoRow)=some (.type "type"))
 (t_NoName:b7 K (.ref X_NoName)=some (.type "type"))
 (t_NoText:b7 K (.ref X_NoText)=some (.type "type"))
 (t_NoRoom:b7 K (.ref X_NoRoom)=some (.type "type"))
 (t_NoOrder:b7 K (.ref X_NoOrder)=some (.type "type"))
 (g_NoText:bH K (.ref X_NoText) "__getattribute__"=some (some (.builtin "BaseException.__getattribute__")))(r_NoText:bH K (.ref X_NoText) "__getattr__"=some none)(b_NoText:aZ K X_NoText (.type "BaseException")=some true)(k_NoText:bH K (.ref X_NoText) "__class__"=some (some (.builtin "object.__class__")))(o_NoText:aZ K X_NoText (.type "object")=some true)(v_NoText:dE K (.ref X_NoText) (.type "ValueError")=some true)
 (p_NoText_BookError:aZ K X_NoText (.ref X_BookError)=some true)
 (p_NoText_NoRow:aZ K X_NoText (.ref X_NoRow)=some false)
 (p_NoText_NoName:aZ K X_NoText (.ref X_NoName)=some false)
 (p_NoText_NoText:aZ K X_NoText (.ref X_NoText)=some true)
 (p_NoText_NoRoom:aZ K X_NoText (.ref X_NoRoom)=some false)
 (p_NoText_NoOrder:aZ K X_NoText (.ref X_NoOrder)=some false)
 (g_NoRoom:bH K (.ref X_NoRoom) "__getattribute__"=some (some (.builtin "BaseException.__getattribute__")))(r_NoRoom:bH K (.ref X_NoRoom) "__getattr__"=some none)(b_NoRoom:aZ K X_NoRoom (.type "BaseException")=some true)(k_NoRoom:bH K (.ref X_NoRoom) "__class__"=some (some (.builtin "object.__class__")))(o_NoRoom:aZ K X_NoRoom (.type "object")=some true)(v_NoRoom:dE K (.ref X_NoRoom) (.type "ValueError")=some true)
 (p_NoRoom_BookError:aZ K X_NoRoom (.ref X_BookError)=some true)
 (p_NoRoom_NoRow:aZ K X_NoRoom (.ref X_NoRow)=some false)
 (p_NoRoom_NoName:aZ K X_NoRoom (.ref X_NoName)=some false)
 (p_NoRoom_NoText:aZ K X_NoRoom (.ref X_NoText)=some false)
 (p_NoRoom_NoRoom:aZ K X_NoRoom (.ref X_NoRoom)=some true)
 (p_NoRoom_NoOrder:aZ K X_NoRoom (.ref X_NoOrder)=some false)
 (g_NoOrder:bH K (.ref X_NoOrder) "__getattribute__"=some (some (.builtin "BaseException.__getattribute__")))(r_NoOrder:bH K (.ref X_NoOrder) "__getattr__"=some none)(b_NoOrder:aZ K X_NoOrder (.type "BaseException")=some true)(k_NoOrder:bH K (.ref X_NoOrder) "__class__"=some (some (.builtin "object.__class__")))(o_NoOrder:aZ K X_NoOrder (.type "object")=some true)(v_NoOrder:dE K (.ref X_NoOrder) (.type "ValueError")=some true)
 (p_NoOrder_BookError:aZ K X_NoOrder (.ref X_BookError)=some true)
 (p_NoOrder_NoRow:aZ K X_NoOrder (.ref X_NoRow)=some false)
 (p_NoOrder_NoName:aZ K X_NoOrder (.ref X_NoName)=some false)
 (p_NoOrder_NoText:aZ K X_NoOrder (.ref X_NoText)=some false)
 (p_NoOrder_NoRoom:aZ K X_NoOrder (.ref X_NoRoom)=some false)
 (p_NoOrder_NoOrder:aZ K X_NoOrder (.ref X_NoOrder)=some true)
 (g_NoName:bH K (.ref X_NoName) "__getattribute__"=some (some (.builtin "BaseException.__getattribute__")))(r_NoName:bH K (.ref X_NoName) "__getattr__"=some none)(b_NoName:aZ K X_NoName (.type "BaseException")=some true)(k_NoName:bH K (.ref X_NoName) "__class__"=some (some (.builtin "object.__class__")))(o_NoName:aZ K X_NoName (.type "object")=some true)(v_NoName:dE K (.ref X_NoName) (.type "ValueError")=some true)
 (p_NoName_BookError:aZ K X_NoName (.ref X_BookError)=some true)
 (p_NoName_NoRow:aZ K X_NoName (.ref X_NoRow)=some false)
 (p_NoName_NoName:aZ K X_NoName (.ref X_NoName)=some true)
 (p_NoName_NoText:aZ K X_NoName (.ref X_NoText)=some false)
 (p_NoName_NoRoom:aZ K X_NoName (.ref X_NoRoom)=some false)
 (p_NoName_NoOrder:aZ K X_NoName (.ref X_NoOrder)=some false)
 (g_NoRow:bH K (.ref X_NoRow) "__getattribute__"=some (some (.builtin "BaseException.__getattribute__")))(r_NoRow:bH K (.ref X_NoRow) "__getattr__"=some none)(b_NoRow:aZ K X_NoRow (.type "BaseException")=some true)(k_NoRow:bH K (.ref X_NoRow) "__class__"=some (some (.builtin "object.__class__")))(o_NoRow:aZ K X_NoRow (.type "object")=some true)(v_NoRow:dE K (.ref X_NoRow) (.type "ValueError")=some true)
 (p_NoRow_BookError:aZ K X_NoRow (.ref X_BookError)=some true)
 (p_NoRow_NoRow:aZ K X_NoRow (.ref X_NoRow)=some true)
 (p_NoRow_NoName:aZ K X_NoRow (.ref X_NoName)=some false)
 (p_NoRow_NoText:aZ K X_NoRow (.ref X_NoText)=some false)
 (p_NoRow_NoRoom:aZ K X_NoRow (.ref X_NoRoom)=some false)
 (p_NoRow_NoOrder:aZ K X_NoRow (.ref X_NoOrder)=some false)
 {E:V1}{eR:Nat}{wy:V1}{U:Tok}{zw:Option V1}{p:Nat}{zh:Array Us}{wx:V1}{S:Tok}{zv:Option V1}{o:Nat}{zg:Array Us}{ww:V1}{R:Tok}{zu:Option V1}{n:Nat}{zf:Array Us}{wv:V1}{Q:Tok}{zt:Option V1}{m:Nat}{ze:Array Us}{wu:V1}{P:Tok}{zr:Option V1}{k:Nat}{zc:Array Us}{wt:V1}{O:Tok}{zq:Option V1}{j:Nat}{zb:Array Us}{wo:V1}{N:Tok}{zp:Option V1}{i:Nat}{za:Array Us}{wn:V1}{M:Tok}{zo:Option V1}{g:Nat}{yz:Array Us}{wm:V1}{L:Tok}{zn:Option V1}{zy:Nat}{yy:Array Us}{wl:V1}{J:Tok}{zm:Option V1}{zx:Nat}{yx:Array Us}{mn:V1}{uj:Tok}{tt:Option V1}{uc:Nat}{sr:Array Us}{ml:V1}{ui:Tok}{tq:Option V1}{ub:Nat}{sk:Array Us}{mj:V1}{uh:Tok}{tm:Option V1}{ua:Nat}{sj:Array Us}{mh:V1}{ug:Tok}{tf:Option V1}{tz:Nat}{si:Array Us}
 {fR_put_in:V1}{fR_any_name:V1}{fR_any_number:V1}{fR_add_need:V1}{fR_work_name:V1}{fR_free_need:V1}{fR_take_out_books:V1}{fR_tell_names:V1}{fR_tell_work:V1}{fR_tell_ends:V1}{fR_tell_price:V1}{fR_tell_plan:V1}{fR_tell_why:V1}{fR_tell_curve:V1}{fR_tell_spare:V1}{fR_tell_budget:V1}{fR_tell_bonus:V1}
 (aR:aW K V5 "ROWS"=some (some (.ref E)))
 (lR:K.lookup E=some ⟨.type "dict",none,.dict ([⟨WL w "work",.str "work" U,.ref wy⟩,⟨WL w "need",.str "need" S,.ref wx⟩,⟨WL w "free",.str "free" R,.ref ww⟩,⟨WL w "drop",.str "drop" Q,.ref wv⟩,⟨WL w "names",.str "names" P,.ref wu⟩,⟨WL w "show",.str "show" O,.ref wt⟩,⟨WL w "ends",.str "ends" N,.ref wo⟩,⟨WL w "price",.str "price" M,.ref wn⟩,⟨WL w "plan",.str "plan" L,.ref wm⟩,⟨WL w "why",.str "why" J,.ref wl⟩,⟨WL w "curve",.str "curve" uj,.ref mn⟩,⟨WL w "spare",.str "spare" ui,.ref ml⟩,⟨WL w "budget",.str "budget" uh,.ref mj⟩,⟨WL w "bonus",.str "bonus" ug,.ref mh⟩]:List WQ).toArray eR,#[]⟩)
 (hR:(E==Wr)=false)
 (H:K.lookup wy=some ⟨.type "tuple",zw,.seq ([.ref fR_put_in,.ref fR_any_name,.ref fR_any_number,.ref fR_any_number,.ref fR_any_number]:Uq).toArray p,zh⟩)
 (F:K.lookup wx=some ⟨.type "tuple",zv,.seq ([.ref fR_add_need,.ref fR_work_name,.ref fR_work_name]:Uq).toArray o,zg⟩)
 (D:K.lookup ww=some ⟨.type "tuple",zu,.seq ([.ref fR_free_need,.ref fR_work_name,.ref fR_work_name]:Uq).toArray n,zf⟩)
 (B:K.lookup wv=some ⟨.type "tuple",zt,.seq ([.ref fR_take_out_books,.ref fR_work_name]:Uq).toArray m,ze⟩)
 (A:K.lookup wu=some ⟨.type "tuple",zr,.seq ([.ref fR_tell_names]:Uq).toArray k,zc⟩)
 (z:K.lookup wt=some ⟨.type "tuple",zq,.seq ([.ref fR_tell_work,.ref fR_work_name]:Uq).toArray j,zb⟩)
 (y:K.lookup wo=some ⟨.type "tuple",zp,.seq ([.ref fR_tell_ends]:Uq).toArray i,za⟩)
 (x:K.lookup wn=some ⟨.type "tuple",zo,.seq ([.ref fR_tell_price,.ref fR_any_number]:Uq).toArray g,yz⟩)
 (u:K.lookup wm=some ⟨.type "tuple",zn,.seq ([.ref fR_tell_plan,.ref fR_any_number]:Uq).toArray zy,yy⟩)
 (r:K.lookup wl=some ⟨.type "tuple",zm,.seq ([.ref fR_tell_why,.ref fR_any_number]:Uq).toArray zx,yx⟩)
 (d:K.lookup mn=some ⟨.type "tuple",tt,.seq ([.ref fR_tell_curve]:Uq).toArray uc,sr⟩)
 (c:K.lookup ml=some ⟨.type "tuple",tq,.seq ([.ref fR_tell_spare,.ref fR_any_number]:Uq).toArray ub,sk⟩)
 (b:K.lookup mj=some ⟨.type "tuple",tm,.seq ([.ref fR_tell_budget,.ref fR_any_number]:Uq).toArray ua,sj⟩)
 (a:K.lookup mh=some ⟨.type "tuple",tf,.seq ([.ref fR_tell_bonus,.ref fR_any_number]:Uq).toArray tz,si⟩)
 (aR_put_in:aW K V5 "put_in"=some (some (.ref fR_put_in)))
 (aR_any_name:aW K V5 "any_name"=some (some (.ref fR_any_name)))
 (aR_any_number:aW K V5 "any_number"=some (some (.ref fR_any_number)))
 (aR_add_need:aW K V5 "add_need"=some (some (.ref fR_add_need)))
 (aR_work_name:aW K V5 "work_name"=some (some (.ref fR_work_name)))
 (aR_free_need:aW K V5 "free_need"=some (some (.ref fR_free_need)))
 (aR_take_out_books:aW K V5 "take_out_books"=some (some (.ref fR_take_out_books)))
 (aR_tell_names:aW K V5 "tell_names"=some (some (.ref fR_tell_names)))
 (aR_tell_work:aW K V5 "tell_work"=some (some (.ref fR_tell_work)))
 (aR_tell_ends:aW K V5 "tell_ends"=some (some (.ref fR_tell_ends)))
 (aR_tell_price:aW K V5 "tell_price"=some (some (.ref fR_tell_price)))
 (aR_tell_plan:aW K V5 "tell_plan"=some (some (.ref fR_tell_plan)))
 (aR_tell_why:aW K V5 "tell_why"=some (some (.ref fR_tell_why)))
 (aR_tell_curve:aW K V5 "tell_curve"=some (some (.ref fR_tell_curve)))
 (aR_tell_spare:aW K V5 "tell_spare"=some (some (.ref fR_tell_spare)))
 (aR_tell_budget:aW K V5 "tell_budget"=some (some (.ref fR_tell_budget)))
 (aR_tell_bonus:aW K V5 "tell_bonus"=some (some (.ref fR_tell_bonus)))
 (kR_put_in:bL K (.ref fR_put_in)=true)
 (kR_add_need:bL K (.ref fR_add_need)=true)
 (kR_free_need:bL K (.ref fR_free_need)=true)
 (kR_take_out_books:bL K (.ref fR_take_out_books)=true)
 (kR_tell_work:bL K (.ref fR_tell_work)=true)
 (kR_tell_price:bL K (.ref fR_tell_price)=true)
 (kR_tell_plan:bL K (.ref fR_tell_plan)=true)
 (kR_tell_why:bL K (.ref fR_tell_why)=true)
 (kR_tell_spare:bL K (.ref fR_tell_spare)=true)
 (kR_tell_budget:bL K (.ref fR_tell_budget)=true)
 (kR_tell_bonus:bL K (.ref fR_tell_bonus)=true):
 ∃fd:Ww,(∀(s:V4)(v:V3),BindsTo s fd ⟨[v],[]⟩ [("_law_script",v)])/\∀base:V8,K.In base->base.Ns V5 mg->lB l.prog w K mg base n2 7 fa fd ["_law_script"] (spT K 1 C5):=by
 have e:=Z.symm.trans (bR X G a29);cases e;have F_works:mQ K "Book" "works":=mQ.of h_Book.e h_Book.c na_works;have F_needs:mQ K "Book" "needs":=mQ.of h_Book.e h_Book.c na_needs;have m_range:=cD X G z_range;have m_int:=cD X G z_int;have m_len:=cD X G z_len;have m_all:=cD X G z_all;have m_list:=cD X G z_list;have m_str:=cD X G z_str;have m_zip:=cD X G z_zip;have m_isinstance:=cD X G z_isinstance;have m_ValueError:=cD X G z_ValueError;have G_DONE:∃t,mg "DONE"=some (.str "ok" t):=⟨_,bR X G y_DONE⟩;have G_MOST_WORKS:∃t,mg "MOST_WORKS"=some (.int 8 t):=⟨_,bR X G y_MOST_WORKS⟩;have G_SMALL_LETTERS:∃t,mg "SMALL_LETTERS"=some (.str "abcdefghijklmnopqrstuvwxyz" t):=⟨_,bR X G y_SMALL_LETTERS⟩;have G_MOST_LETTERS:∃t,mg "MOST_LETTERS"=some (.int 8 t):=⟨_,bR X G y_MOST_LETTERS⟩;have G_FIGURES:∃t,mg "FIGURES"=some (.str "0123456789" t):=⟨_,bR X G y_FIGURES⟩;have G_MOST_FIGURES:∃t,mg "MOST_FIGURES"=some (.int 30 t):=⟨_,bR X G y_MOST_FIGURES⟩;have E_BookError:∃C,h5 K mg "BookError" C:=⟨X_BookError,e_BookError,bR X G e_BookError,x_BookError⟩;have E_NoRow:∃C,h5 K mg "NoRow" C:=⟨X_NoRow,e_NoRow,bR X G e_NoRow,x_NoRow⟩;have E_NoName:∃C,h5 K mg "NoName" C:=⟨X_NoName,e_NoName,bR X G e_NoName,x_NoName⟩;have E_NoText:∃C,h5 K mg "NoText" C:=⟨X_NoText,e_NoText,bR X G e_NoText,x_NoText⟩;have E_NoRoom:∃C,h5 K mg "NoRoom" C:=⟨X_NoRoom,e_NoRoom,bR X G e_NoRoom,x_NoRoom⟩;have E_NoOrder:∃C,h5 K mg "NoOrder" C:=⟨X_NoOrder,e_NoOrder,bR X G e_NoOrder,x_NoOrder⟩;have TT:Tab K mg gv ["NoText","NoRoom","NoOrder","NoName","NoRow"] ["BookError","NoRow","NoName","NoText","NoRoom","NoOrder"]:=Tab.of (rl:=[("NoText",X_NoText),("NoRoom",X_NoRoom),("NoOrder",X_NoOrder),("NoName",X_NoName),("NoRow",X_NoRow)]) (dl:=[("BookError",X_BookError),("NoRow",X_NoRow),("NoName",X_NoName),("NoText",X_NoText),("NoRoom",X_NoRoom),("NoOrder",X_NoOrder)]) (all1 e_NoText (all1 e_NoRoom (all1 e_NoOrder (all1 e_NoName (all1 e_NoRow hW))))) QX (all1 ⟨⟨e_BookError,bR X G e_BookError,x_BookError⟩,t_BookError⟩ (all1 ⟨⟨e_NoRow,bR X G e_NoRow,x_NoRow⟩,t_NoRow⟩ (all1 ⟨⟨e_NoName,bR X G e_NoName,x_NoName⟩,t_NoName⟩ (all1 ⟨⟨e_NoText,bR X G e_NoText,x_NoText⟩,t_NoText⟩ (all1 ⟨⟨e_NoRoom,bR X G e_NoRoom,x_NoRoom⟩,t_NoRoom⟩ (all1 ⟨⟨e_NoOrder,bR X G e_NoOrder,x_NoOrder⟩,t_NoOrder⟩ hW)))))) (all1 ⟨x_NoText,g_NoText,r_NoText,b_NoText,k_NoText,o_NoText⟩ (all1 ⟨x_NoRoom,g_NoRoom,r_NoRoom,b_NoRoom,k_NoRoom,o_NoRoom⟩ (all1 ⟨x_NoOrder,g_NoOrder,r_NoOrder,b_NoOrder,k_NoOrder,o_NoOrder⟩ (all1 ⟨x_NoName,g_NoName,r_NoName,b_NoName,k_NoName,o_NoName⟩ (all1 ⟨x_NoRow,g_NoRow,r_NoRow,b_NoRow,k_NoRow,o_NoRow⟩ hW))))) (all1 v_NoText (all1 v_NoRoom (all1 v_NoOrder (all1 v_NoName (all1 v_NoRow hW))))) (all1 (all1 p_NoText_BookError (all1 p_NoText_NoRow (all1 p_NoText_NoName (all1 p_NoText_NoText (all1 p_NoText_NoRoom (all1 p_NoText_NoOrder hW)))))) (all1 (all1 p_NoRoom_BookError (all1 p_NoRoom_NoRow (all1 p_NoRoom_NoName (all1 p_NoRoom_NoText (all1 p_NoRoom_NoRoom (all1 p_NoRoom_NoOrder hW)))))) (all1 (all1 p_NoOrder_BookError (all1 p_NoOrder_NoRow (all1 p_NoOrder_NoName (all1 p_NoOrder_NoText (all1 p_NoOrder_NoRoom (all1 p_NoOrder_NoOrder hW)))))) (all1 (all1 p_NoName_BookError (all1 p_NoName_NoRow (all1 p_NoName_NoName (all1 p_NoName_NoText (all1 p_NoName_NoRoom (all1 p_NoName_NoOrder hW)))))) (all1 (all1 p_NoRow_BookError (all1 p_NoRow_NoRow (all1 p_NoRow_NoName (all1 p_NoRow_NoText (all1 p_NoRow_NoRoom (all1 p_NoRow_NoOrder hW)))))) hW)))));have RK:nG w K mg "ROWS" rows:=nG.of (by decide) aR X G hR lR (.cons ⟨_,_,rfl,m9.of (oc:=.none) H (aL rfl) (.cons ⟨_,rfl,aR_put_in⟩ (.cons ⟨_,rfl,aR_any_name⟩ (.cons ⟨_,rfl,aR_any_number⟩ (.cons ⟨_,rfl,aR_any_number⟩ (.cons ⟨_,rfl,aR_any_number⟩ .nil)))))⟩ (.cons ⟨_,_,rfl,m9.of (oc:=.none) F (aL rfl) (.cons ⟨_,rfl,aR_add_need⟩ (.cons ⟨_,rfl,aR_work_name⟩ (.cons ⟨_,rfl,aR_work_name⟩ .nil)))⟩ (.cons ⟨_,_,rfl,m9.of (oc:=.none) D (aL rfl) (.cons ⟨_,rfl,aR_free_need⟩ (.cons ⟨_,rfl,aR_work_name⟩ (.cons ⟨_,rfl,aR_work_name⟩ .nil)))⟩ (.cons ⟨_,_,rfl,m9.of (oc:=.none) B (aL rfl) (.cons ⟨_,rfl,aR_take_out_books⟩ (.cons ⟨_,rfl,aR_work_name⟩ .nil))⟩ (.cons ⟨_,_,rfl,m9.of (oc:=.none) A (aL rfl) (.cons ⟨_,rfl,aR_tell_names⟩ .nil)⟩ (.cons ⟨_,_,rfl,m9.of (oc:=.none) z (aL rfl) (.cons ⟨_,rfl,aR_tell_work⟩ (.cons ⟨_,rfl,aR_work_name⟩ .nil))⟩ (.cons ⟨_,_,rfl,m9.of (oc:=.none) y (aL rfl) (.cons ⟨_,rfl,aR_tell_ends⟩ .nil)⟩ (.cons ⟨_,_,rfl,m9.of (oc:=.none) x (aL rfl) (.cons ⟨_,rfl,aR_tell_price⟩ (.cons ⟨_,rfl,aR_any_number⟩ .nil))⟩ (.cons ⟨_,_,rfl,m9.of (oc:=.none) u (aL rfl) (.cons ⟨_,rfl,aR_tell_plan⟩ (.cons ⟨_,rfl,aR_any_number⟩ .nil))⟩ (.cons ⟨_,_,rfl,m9.of (oc:=.none) r (aL rfl) (.cons ⟨_,rfl,aR_tell_why⟩ (.cons ⟨_,rfl,aR_any_number⟩ .nil))⟩ (.cons ⟨_,_,rfl,m9.of (oc:=.none) d (aL rfl) (.cons ⟨_,rfl,aR_tell_curve⟩ .nil)⟩ (.cons ⟨_,_,rfl,m9.of (oc:=.none) c (aL rfl) (.cons ⟨_,rfl,aR_tell_spare⟩ (.cons ⟨_,rfl,aR_any_number⟩ .nil))⟩ (.cons ⟨_,_,rfl,m9.of (oc:=.none) b (aL rfl) (.cons ⟨_,rfl,aR_tell_budget⟩ (.cons ⟨_,rfl,aR_any_number⟩ .nil))⟩ (.cons ⟨_,_,rfl,m9.of (oc:=.none) a (aL rfl) (.cons ⟨_,rfl,aR_tell_bonus⟩ (.cons ⟨_,rfl,aR_any_number⟩ .nil))⟩ .nil))))))))))))));have KT:j8 K kt:=(j8.cons aR_put_in kR_put_in (j8.cons aR_add_need kR_add_need (j8.cons aR_free_need kR_free_need (j8.cons aR_take_out_books kR_take_out_books (j8.cons aR_tell_work kR_tell_work (j8.cons aR_tell_price kR_tell_price (j8.cons aR_tell_plan kR_tell_plan (j8.cons aR_tell_why kR_tell_why (j8.cons aR_tell_spare kR_tell_spare (j8.cons aR_tell_budget kR_tell_budget (j8.cons aR_tell_bonus kR_tell_bonus j8.nil)))))))))));refine⟨cG "law" "law" (jJ (top 111)) (iQ (top 111)) (gF (top 111)) .none ni pk my pw q pq,λs v=>.of_eq rfl,λbase _ _=>?_⟩;have D_Book_new:=Jm (P:=l.prog) (w:=w) (base:=base) X G h_Book a1 (TJ F_works F_needs);have D_mix1:=mw (P:=l.prog) (w:=w) (base:=base) X G a2 Ny;have D_l_names:=mw (P:=l.prog) (w:=w) (base:=base) X G a3 (Tw D_mix1 m_range m_int);have D_cell_at:=mw (P:=l.prog) (w:=w) (base:=base) X G a4 (Ti m_len);have D_put_in:=sv (P:=l.prog) (w:=w) (base:=base) X G (Nm.na a5) (Sx F_works m_len G_DONE G_MOST_WORKS E_NoText E_NoRoom);have D_is_work:=mw (P:=l.prog) (w:=w) (base:=base) X G a6 T2;have D_needed_worksX:=Cr (P:=l.prog) (w:=w) (base:=base) X G a7 (rA D_is_work m_range E_NoOrder);have D_least_readyX:=Cr (P:=l.prog) (w:=w) (base:=base) X G a8 (sU m_range m_len m_all E_NoOrder);have D_order_ofX:=Cr (P:=l.prog) (w:=w) (base:=base) X G a9 (y9 D_needed_worksX D_least_readyX m_len);have D_numbered:=F1 (P:=l.prog) (w:=w) (base:=base) X G a10 (zV F_works m_list);have D_add_need:=sv (P:=l.prog) (w:=w) (base:=base) X G (Nm.na a11) (TZ D_order_ofX D_numbered F_needs F_works m_len G_DONE);have D_take_out:=sv (P:=l.prog) (w:=w) (base:=base) X G a12 (TY F_needs F_works G_DONE);have D_spaced:=mw (P:=l.prog) (w:=w) (base:=base) X G a13 (SH m_str);have D_tell_names:=sv (P:=l.prog) (w:=w) (base:=base) X G (Nm.na a14) (vO D_spaced F_works m_list);have D_tell_work:=sv (P:=l.prog) (w:=w) (base:=base) X G (Nm.na a15) (yO D_spaced F_works F_needs);have D_is_made_of:=mw (P:=l.prog) (w:=w) (base:=base) X G a16 (vQ m_all m_len);have D_is_name:=mw (P:=l.prog) (w:=w) (base:=base) X G a17 (Td D_is_made_of G_SMALL_LETTERS G_MOST_LETTERS);have D_any_name:=sv (P:=l.prog) (w:=w) (base:=base) X G (Nm.na a18) (TM D_is_name E_NoName);have D_work_name:=sv (P:=l.prog) (w:=w) (base:=base) X G (Nm.na a19) (yR F_works E_NoName);have D_is_count:=mw (P:=l.prog) (w:=w) (base:=base) X G a20 (TH D_is_made_of G_FIGURES G_MOST_FIGURES);have D_read_count:=Cr (P:=l.prog) (w:=w) (base:=base) X G a21 (vW D_is_count m_int E_NoText);have D_any_number:=sv (P:=l.prog) (w:=w) (base:=base) X G (Nm.na a22) (vX D_read_count);have FT:jR l.prog w K mg base 4 ft:=(jR.cons D_put_in (jR.cons D_add_need (jR.cons D_take_out (jR.cons D_tell_names (jR.cons D_tell_work (jR.cons D_any_name (jR.cons D_work_name (jR.cons D_any_number jR.nil))))))));have D_Book_say:=D6 (P:=l.prog) (w:=w) (base:=base) (mg:=mg) h_Book a23 (TK m_len m_zip E_NoRow RK FT KT);have D_l_of_texts:=mw (P:=l.prog) (w:=w) (base:=base) X G a24 vV;have D_l_refused:=F1 (P:=l.prog) (w:=w) (base:=base) X G a25 (xU D_Book_say m_isinstance m_ValueError TT);have D_l_of_words:=mw (P:=l.prog) (w:=w) (base:=base) X G a26 vJ;have D_l_of_names:=mw (P:=l.prog) (w:=w) (base:=base) X G a27 vK;have D_l_no_name:=mw (P:=l.prog) (w:=w) (base:=base) X G a28 (yE D_mix1);exact(K1 D_Book_new D_l_names D_cell_at D_mix1 D_Book_say D_l_of_texts D_l_refused D_l_of_words D_l_of_names D_l_no_name m_range m_len m_str) (xQ I c29 Y)
end ed
open PySem PySem.W PyProof.Rows
local macro_rules| `(tactic|walk_at "kN")=>`(tactic| (refine' TL.Nm.of ?a ?l ?c ?k;(case a=>k_is);(case l=>k_is);(case c=>k_is);(case k=>k_is)))
local macro_rules| `(tactic|walk_at "kA")=>`(tactic| (refine' TL.Na.of ?a ?l ?c ?k;(case a=>k_is);(case l=>k_is);(case c=>k_is);(case k=>k_is)))
local macro_rules| `(tactic|walk_at "kM")=>`(tactic| (refine' TL.Mm.of ?a ?l ?c ?k ?n;(case a=>k_is);(case l=>k_is);(case c=>k_is);(case k=>k_is);(case n=>k_is)))
local macro_rules| `(tactic|walk_at "kC")=>`(tactic| (refine'⟨?e,⟨?p,?h,?o,?s⟩,?m,?k⟩;(case e=>k_is);(case p=>k_is);(case h=>k_is);(case o=>k_is);(case s=>k_is);(case m=>k_is);(case k=>k_is)))
local macro_rules| `(tactic|walk_at "kR")=>`(tactic|k_is)
local macro_rules| `(tactic|walk_at "kD")=>`(tactic|decide)
set_option maxRecDepth 100000 in
set_option maxHeartbeats 0 in
theorem PySem.Challenge.cw_hastebook_k63_rows_refused_holds : PySem.Challenge.rw_hastebook_k63_rows_refused.Holds := by
 refine holds_law wsaid63 λyw=>?_;refine holds_open (q:=HT.vw) (YP:=Hook.says (kHook HT.KH HT.KA HT.ka)) (N:=5180) HT.left (Hook.of (kHook HT.KH HT.KA HT.ka)) (Hook.keeps _) HT.xs XL.keeps rfl rfl rfl HT.rs rfl (by first|assumption|decide+kernel) (by decide+kernel) ⟨rfl,rfl,rfl,rfl,rfl,by decide+kernel⟩ ?hw ?hc;(case hw=>w_witness2);k_fill;refine TL.SJ (l:=PySem.Challenge.rw_hastebook_k63_rows_refused) (x:="_law_script") (R:=ed.C5) (k:=7) rfl rfl ⟨rfl,by decide,by decide⟩ (λw h Y=>PySem.W.kIn_of Y) ed.PQ ?F
 case F=>
  intro w mg fa h KX G vg;refine' ed.LL KX G vg ?h_Book ?na_works ?na_needs ?a1 ?a2 ?a3 ?a4 ?a5 ?a6 ?a7 ?a8 ?a9 ?a10 ?a11 ?a12 ?a13 ?a14 ?a15 ?a16 ?a17 ?a18 ?a19 ?a20 ?a21 ?a22 ?a23 ?a24 ?a25 ?a26 ?a27 ?a28 ?a29 ?l29 ?c29 ?k29 ?z_range ?z_int ?z_len ?z_all ?z_list ?z_str ?z_zip ?z_isinstance ?z_ValueError ?y_DONE ?y_MOST_WORKS ?y_SMALL_LETTERS ?y_MOST_LETTERS ?y_FIGURES ?y_MOST_FIGURES ?e_BookError ?x_BookError ?e_NoRow ?x_NoRow ?e_NoName ?x_NoName ?e_NoText ?x_NoText ?e_NoRoom ?x_NoRoom ?e_NoOrder ?x_NoOrder ?t_BookError ?t_NoRow ?t_NoName ?t_NoText ?t_NoRoom ?t_NoOrder ?g_NoText ?r_NoText ?b_NoText ?k_NoText ?o_NoText ?v_NoText ?p_NoText_BookError ?p_NoText_NoRow ?p_NoText_NoName ?p_NoText_NoText ?p_NoText_NoRoom ?p_NoText_NoOrder ?g_NoRoom ?r_NoRoom ?b_NoRoom ?k_NoRoom ?o_NoRoom ?v_NoRoom ?p_NoRoom_BookError ?p_NoRoom_NoRow ?p_NoRoom_NoName ?p_NoRoom_NoText ?p_NoRoom_NoRoom ?p_NoRoom_NoOrder ?g_NoOrder ?r_NoOrder ?b_NoOrder ?k_NoOrder ?o_NoOrder ?v_NoOrder ?p_NoOrder_BookError ?p_NoOrder_NoRow ?p_NoOrder_NoName ?p_NoOrder_NoText ?p_NoOrder_NoRoom ?p_NoOrder_NoOrder ?g_NoName ?r_NoName ?b_NoName ?k_NoName ?o_NoName ?v_NoName ?p_NoName_BookError ?p_NoName_NoRow ?p_NoName_NoName ?p_NoName_NoText ?p_NoName_NoRoom ?p_NoName_NoOrder ?g_NoRow ?r_NoRow ?b_NoRow ?k_NoRow ?o_NoRow ?v_NoRow ?p_NoRow_BookError ?p_NoRow_NoRow ?p_NoRow_NoName ?p_NoRow_NoText ?p_NoRow_NoRoom ?p_NoRow_NoOrder ?aR ?lR ?hR ?lR0 ?lR1 ?lR2 ?lR3 ?lR4 ?lR5 ?lR6 ?lR7 ?lR8 ?lR9 ?lR10 ?lR11 ?lR12 ?lR13 ?aR_put_in ?aR_any_name ?aR_any_number ?aR_add_need ?aR_work_name ?aR_free_need ?aR_take_out_books ?aR_tell_names ?aR_tell_work ?aR_tell_ends ?aR_tell_price ?aR_tell_plan ?aR_tell_why ?aR_tell_curve ?aR_tell_spare ?aR_tell_budget ?aR_tell_bonus ?kR_put_in ?kR_add_need ?kR_free_need ?kR_take_out_books ?kR_tell_work ?kR_tell_price ?kR_tell_plan ?kR_tell_why ?kR_tell_spare ?kR_tell_budget ?kR_tell_bonus
  (case h_Book=>walk_at "kC")
  (case na_works=>k_is)
  (case na_needs=>k_is)
  (case a1=>walk_at "kM")
  (case a2=>walk_at "kN")
  (case a3=>walk_at "kN")
  (case a4=>walk_at "kN")
  (case a5=>walk_at "kN")
  (case a6=>walk_at "kN")
  (case a7=>walk_at "kN")
  (case a8=>walk_at "kN")
  (case a9=>walk_at "kN")
  (case a10=>walk_at "kN")
  (case a11=>walk_at "kN")
  (case a12=>walk_at "kA")
  (case a13=>walk_at "kN")
  (case a14=>walk_at "kN")
  (case a15=>walk_at "kN")
  (case a16=>walk_at "kN")
  (case a17=>walk_at "kN")
  (case a18=>walk_at "kN")
  (case a19=>walk_at "kN")
  (case a20=>walk_at "kN")
  (case a21=>walk_at "kN")
  (case a22=>walk_at "kN")
  (case a23=>walk_at "kM")
  (case a24=>walk_at "kN")
  (case a25=>walk_at "kN")
  (case a26=>walk_at "kN")
  (case a27=>walk_at "kN")
  (case a28=>walk_at "kN")
  (case a29=>k_is)
  (case l29=>k_is)
  (case c29=>k_is)
  (case k29=>k_is)
  (case z_range=>k_is)
  (case z_int=>k_is)
  (case z_len=>k_is)
  (case z_all=>k_is)
  (case z_list=>k_is)
  (case z_str=>k_is)
  (case z_zip=>k_is)
  (case z_isinstance=>k_is)
  (case z_ValueError=>k_is)
  (case y_DONE=>k_is)
  (case y_MOST_WORKS=>k_is)
  (case y_SMALL_LETTERS=>k_is)
  (case y_MOST_LETTERS=>k_is)
  (case y_FIGURES=>k_is)
  (case y_MOST_FIGURES=>k_is)
  (case e_BookError=>k_is)
  (case x_BookError=>k_exc)
  (case e_NoRow=>k_is)
  (case x_NoRow=>k_exc)
  (case e_NoName=>k_is)
  (case x_NoName=>k_exc)
  (case e_NoText=>k_is)
  (case x_NoText=>k_exc)
  (case e_NoRoom=>k_is)
  (case x_NoRoom=>k_exc)
  (case e_NoOrder=>k_is)
  (case x_NoOrder=>k_exc)
  (case t_BookError=>k_is)
  (case t_NoRow=>k_is)
  (case t_NoName=>k_is)
  (case t_NoText=>k_is)
  (case t_NoRoom=>k_is)
  (case t_NoOrder=>k_is)
  (case g_NoText=>k_is)
  (case r_NoText=>k_is)
  (case b_NoText=>k_is)
  (case k_NoText=>k_is)
  (case o_NoText=>k_is)
  (case v_NoText=>k_is)
  (case p_NoText_BookError=>k_is)
  (case p_NoText_NoRow=>k_is)
  (case p_NoText_NoName=>k_is)
  (case p_NoText_NoText=>k_is)
  (case p_NoText_NoRoom=>k_is)
  (case p_NoText_NoOrder=>k_is)
  (case g_NoRoom=>k_is)
  (case r_NoRoom=>k_is)
  (case b_NoRoom=>k_is)
  (case k_NoRoom=>k_is)
  (case o_NoRoom=>k_is)
  (case v_NoRoom=>k_is)
  (case p_NoRoom_BookError=>k_is)
  (case p_NoRoom_NoRow=>k_is)
  (case p_NoRoom_NoName=>k_is)
  (case p_NoRoom_NoText=>k_is)
  (case p_NoRoom_NoRoom=>k_is)
  (case p_NoRoom_NoOrder=>k_is)
  (case g_NoOrder=>k_is)
  (case r_NoOrder=>k_is)
  (case b_NoOrder=>k_is)
  (case k_NoOrder=>k_is)
  (case o_NoOrder=>k_is)
  (case v_NoOrder=>k_is)
  (case p_NoOrder_BookError=>k_is)
  (case p_NoOrder_NoRow=>k_is)
  (case p_NoOrder_NoName=>k_is)
  (case p_NoOrder_NoText=>k_is)
  (case p_NoOrder_NoRoom=>k_is)
  (case p_NoOrder_NoOrder=>k_is)
  (case g_NoName=>k_is)
  (case r_NoName=>k_is)
  (case b_NoName=>k_is)
  (case k_NoName=>k_is)
  (case o_NoName=>k_is)
  (case v_NoName=>k_is)
  (case p_NoName_BookError=>k_is)
  (case p_NoName_NoRow=>k_is)
  (case p_NoName_NoName=>k_is)
  (case p_NoName_NoText=>k_is)
  (case p_NoName_NoRoom=>k_is)
  (case p_NoName_NoOrder=>k_is)
  (case g_NoRow=>k_is)
  (case r_NoRow=>k_is)
  (case b_NoRow=>k_is)
  (case k_NoRow=>k_is)
  (case o_NoRow=>k_is)
  (case v_NoRow=>k_is)
  (case p_NoRow_BookError=>k_is)
  (case p_NoRow_NoRow=>k_is)
  (case p_NoRow_NoName=>k_is)
  (case p_NoRow_NoText=>k_is)
  (case p_NoRow_NoRoom=>k_is)
  (case p_NoRow_NoOrder=>k_is)
  (case aR=>k_is)
  (case lR=>walk_at "kR")
  (case hR=>walk_at "kD")
  (case lR0=>walk_at "kR")
  (case lR1=>walk_at "kR")
  (case lR2=>walk_at "kR")
  (case lR3=>walk_at "kR")
  (case lR4=>walk_at "kR")
  (case lR5=>walk_at "kR")
  (case lR6=>walk_at "kR")
  (case lR7=>walk_at "kR")
  (case lR8=>walk_at "kR")
  (case lR9=>walk_at "kR")
  (case lR10=>walk_at "kR")
  (case lR11=>walk_at "kR")
  (case lR12=>walk_at "kR")
  (case lR13=>walk_at "kR")
  (case aR_put_in=>k_is)
  (case aR_any_name=>k_is)
  (case aR_any_number=>k_is)
  (case aR_add_need=>k_is)
  (case aR_work_name=>k_is)
  (case aR_free_need=>k_is)
  (case aR_take_out_books=>k_is)
  (case aR_tell_names=>k_is)
  (case aR_tell_work=>k_is)
  (case aR_tell_ends=>k_is)
  (case aR_tell_price=>k_is)
  (case aR_tell_plan=>k_is)
  (case aR_tell_why=>k_is)
  (case aR_tell_curve=>k_is)
  (case aR_tell_spare=>k_is)
  (case aR_tell_budget=>k_is)
  (case aR_tell_bonus=>k_is)
  (case kR_put_in=>k_is)
  (case kR_add_need=>k_is)
  (case kR_free_need=>k_is)
  (case kR_take_out_books=>k_is)
  (case kR_tell_work=>k_is)
  (case kR_tell_price=>k_is)
  (case kR_tell_plan=>k_is)
  (case kR_tell_why=>k_is)
  (case kR_tell_spare=>k_is)
  (case kR_tell_budget=>k_is)
  (case kR_tell_bonus=>k_is)
