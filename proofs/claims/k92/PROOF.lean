import PyProof.Rows.All
import Wide.All
import OpenK.AllK
import Wide.FinOn
import Lean
import PyProof.EqAt
import PyProof.EqKinds
import PyProof.TupleCall
import PyProof.ExcClass3
import PyProof.NeKinds
import PyProof.ZipIter
import PyProof.ExcArgsOwn
import PyProof.EnumFor
import PyProof.EnumMake
import PyProof.DictUpdate
import PyProof.DictWalks
import KE.KSortTup
import PySem.Challenge.RW_hastebook_k92_whole_lots_behind
open List renaming map_cons->aK,length_cons->aN,getElem?_eq_getElem->aO,length_map->aP,getElem?_set_ne->aQ,getElem?_append_left->aR,replicate->aT,append_nil->aU,cons_append->aV,length_nil->aW,mem_of_getElem?->aX,length_append->aY,nil_append->aZ,mem_cons_of_mem->bA,map_nil->bE,size_toArray->bF,range->bH,getElem?_map->bI,getElem?_append_right->bL,mem_cons_self->bM,map_append->bR,getElem?_set_self->bT,getD_eq_getElem?_getD->cB,mem_cons->cC,getElem?_cons_zero->cD,getElem?_cons_succ->cH,map_map->cK,lookup_cons->cL,not_mem_nil->cP,mem_append_right->cR,map_congr_left->cU,set_append_right->cV,nodup_cons->c7,zip_cons_cons->c8,length_set->dD,take_length->dE,append_assoc->dH,getElem?_eq_none->dJ,mem_map_of_mem->dO,getElem?_replicate->dR,length_take->eE,filterMap_cons->eG,getElem?_range->eI,getElem?_take_of_lt->eR,find?_cons->eT,mem_singleton->eV,mem_append_left->eX,getElem_mem->e9,take_add_one->X7,mem_append->XZ,length_zip->X0,getElem_range->Yh,lookup->XR,length_range->Yi,take_of_length_le->YF,idxOf_lt_length_of_mem->YY,getElem_map->Yj,drop_eq_getElem_cons->YZ,getElem?_zip_eq_some->Za,length->XX,nodup_iff_count->YG,length_erase_of_mem->Zb,sum_cons->X8,drop_eq_nil_of_le->Zc,set_set->X9,count_cons->Yr,length_replicate->Zd,set_getElem_self->Ze,take_succ->Ys,all_eq_true->YH,ext_getElem->YI,pairwise_iff_getElem->Zx,mem_filter->YJ,of_mem_zip->YK,range_succ->YL,sum_append->YM,pairwise_cons->Zf,range_succ_eq_map->Zy,length_filter_le->Zz,getElem_inj->Zg,length_drop->Zh,any_cons->YN,getElem?_zipIdx->ZA,foldl_cons->Zi,map_eq_nil_iff->ZC,mem_map->YO,mem_range->Zj,count_eq_zero->ZD,getElem_idxOf->ZE,getElem?_eq_none_iff->aS7,mem_or_eq_of_mem_set->aS8,pairwise_map->ZF,mem_flatMap->ZG,length_pos_of_mem->aTl,mem_of_mem_drop->aTw,mem_of_mem_take->aTx,set_append_left->aTy,mem_erase_of_ne->aTz,count_singleton->aTA,set->Yt,take_succ_cons->aTD,mem_filterMap->aTF,foldl->Zk,filterMap_map->aTH,map_replicate->aTK,length_zipIdx->aTL,count_pos_iff->aTN,getElem?_drop->aTO,toArray->ZH,getElem?_inj->aTS,ext_getElem?->aTT,count_append->aTU,any_eq_true->aTZ,filter_cons->aT4,map_id->ZI,map_const'->aUd,nodup_nil->aUf,drop_zero->aUg,map->Zl,map_drop->aUn,map_take->aUo,cons->ZJ,all_map->aUs,map_set->aUv,tail->aUH,take->aUI,sum->aUK
open PySem.W renaming Frag->aL,nsIn->cE,findIn->cS,mg_none_of->c9,fnOf->dM,keepIn->dQ,kitOne->d8,emptyDict->eJ,codeIn->X1,instObj->Yb,kia_one->Yu,mg_of->Yv,isFn->Yw,plainGet->Zm,plainGet_of->ZK,lookIn->Zn,callWith_K->ZL,methodObj->ZM,hasDictIn->ZN,cellsFrom_some->aTk,takerIn->ZO,makesIn->ZP,methodCall_KW->aTr,kl_ins->ZQ,plainOver->aTQ,handedIn->aTW,OpenLaw->aUb
open Nat renaming lt_of_lt_of_le->aM,le_trans->bB,le_refl->bD,le_of_lt_succ->bJ,lt_of_le_of_lt->bO,succ_le_of_lt->bS,lt_of_le_of_ne->bV,ne_of_lt->bW,lt_succ_self->bX,le_of_eq->bZ,le_add_right->b8,lt_succ_of_lt->cI,add_sub_cancel_left->cQ,le_of_not_lt->cT,le_succ_of_le->cY,le_of_succ_le->cZ,zero_le->dF,lt_of_add_right_lt->dG,not_lt_zero->dP,sub_lt_right_of_lt_add->dS,le_of_lt->dY,min_le_left->d0,lt_add_left->d3,lt_irrefl->d4,succ_le_succ->eB,add_sub_of_le->eK,lt_succ_of_le->eO,add_assoc->fB,lt_of_succ_le->fD,sub_self->XS,le_succ->XQ,le_antisymm->X2,add_right_comm->Yk,not_lt_of_le->Yc,zero_add->XT,le_sub_of_add_le->Yx,le_of_add_right_le->YQ,le_add_left->Yl,add_lt_add_left->YR,add_le_add_left->YS,lt_trans->Yy,le_add_right_of_le->ZR,pow_le_pow_right->ZS,add_le_add_right->ZT,add_le_add->Zo,lt_of_succ_lt->ZU,min_eq_right->ZV,lt_of_not_le->ZW,succ_pos->Zp,min_eq_left->ZX,mul_le_mul_right->aTB,sub_le->Zq,eq_zero_or_pos->aTM,sub_lt_of_lt->aT1,not_le_of_lt->aT2,succ_lt_succ->aT5,lt_add_right->aT6,add_zero->aUt,sub_zero->aUw,log2_lt->aUA
open Option renaming bind_some->aS,getD_some->dA,some->dC,toList_some->d9,isSome_iff_exists->ZY,map_some->YT,isSome_map->ZZ,map_eq_some_iff->aTj,getD_none->aTY,none->aUz
open Int renaming lt_of_le_of_lt->bC,le_trans->bG,le_refl->bK,natCast_nonneg->bN,toNat_of_nonneg->bP,le_of_lt->bU,sub_nonneg_of_le->bY,le_add_of_nonneg_right->b9,le_antisymm->cA,lt_of_lt_of_le->cG,toNat_natCast->cJ,le_add_of_nonneg_left->cO,zero_add->cW,lt_trans->cX,mul_le_mul_of_nonneg_right->dB,le_of_eq->dI,mul_sub->dL,add_zero->dN,lt_add_one_of_le->dX,zero_mul->dZ,sub_pos_of_lt->d7,add_nonneg->eA,sub_zero->eU,add_le_add_left->Ym,mul_nonneg->X3,add_sub_cancel->Yz,sub_le_self->Yn,le_of_lt_add_one->YU,mul_zero->X4,one_mul->XY,add_lt_add_left->YV,mul_le_mul_of_nonneg_left->Z0,add_comm->Yd,add_mul->Ye,add_le_add_right->Zr,sub_self->Yo,add_assoc->YA,toNat->X5,sub_mul->Yp,min_le_right->Zs,min_le_left->Zt,le_max_left->Zu,mul_comm->YW,fdiv_eq_ediv_of_nonneg->aS1,natCast_inj->Z1,natAbs_of_nonneg->aTv,lt_irrefl->Z2,emod_lt_of_pos->aTJ,pow_succ->Z3,natCast_succ->aT3,le_max_right->aT7,mul_one->Z4,mul_add->Z5,emod_nonneg->aUc,sub_lt_self->aUe,mul_le_mul->aUl,ofNat_lt->aUr,neg_mul->aUB,sub_sub->aUC,not_lt->aUD,not_le->aUE,lt_min->aUF,max_le->aUG
open Bool renaming false_ne_true->bQ,false_eq_true->cM,and_true->dU,and_self->dW,eq_iff_iff->YB,and_eq_true_iff->Zv,and_eq_true->Z6,false_and->Z7,decide_or->aUj
open Array renaming length_toList->cF,perm_iff_toList_perm->Z8,getD_eq_getD_getElem?->aSY,mk->YC,getD->Z9
open Classical renaming byContradiction->cN,choose_spec->YD,axiomOfChoice->aUq,choose->aUJ
open Eq renaming symm->eS,trans->XU
open PyProof.Rows renaming callWith_type1->fA,callWith_builtin1->aTX,callWith_kw->aUm,iadd_int->aUx,isub_int->aUy
open Function renaming comp->Yg
open Iff renaming rfl->X6
open Prod renaming ext->YX,mk->Zw
open Or renaming inr->Yq,inl->YE
set_option hygiene false in
local macro_rules|`(tactic|walk_at "a")=>`(tactic|(simp only [ja, aK, bE, aN, aW, Nat.reduceAdd, Nat.reduceSub, aT, aU, aV, aZ]))
set_option hygiene false in
local macro_rules|`(tactic|walk_at "b")=>`(tactic|(first | exact m9 (by lia) | lia | (simp only [aP, aY, aN, aW, lim]; lia) | (first | (apply lK <;> lia) | (apply mY <;> lia) | (apply jV; assumption) | (apply lB; assumption)) | decide))
set_option hygiene false in
local macro_rules|`(tactic|walk_at "c")=>`(tactic|(simp only [gH, iQ, iE, nS, iH, lW, jH, dU, dW]))
set_option Elab.async false
set_option linter.all false
set_option bootstrap.genMatcherCode false
set_option compiler.extract_closed false
namespace L2
open PySem
def lE(s:Stmt):Arguments:=match s with
 | .FunctionDef _ a _ _ _ _ _ _ _ _=>a
 |_=>{posonlyargs:=[],args:=[],vararg:=none,kwonlyargs:=[],kw_defaults:=[],kwarg:=none,defaults:=[]}
def kG(s:Stmt):List Stmt:=match s with
 | .FunctionDef _ _ b _ _ _ _ _ _ _=>b
 |_=>[]
def iL(s:Stmt):Scope:=match s with
 | .FunctionDef _ _ _ _ _ _ a _ _ _=>a
 |_=>{kind:=.function,names:=[],isGenerator:=false,isCoroutine:=false}
def inClass(s:Stmt)(j:Nat):Stmt:=match s with
 | .ClassDef _ _ _ body _ _ _ _ _ _ _=>body.getD j (.Pass ⟨0,0,0,0⟩)
 |_=>.Pass ⟨0,0,0,0⟩
end L2
namespace HT
open PySem PySem.W PyProof.Rows
abbrev so(x:String):Str:=Str.ofString x
abbrev de:=PySem.DictEntry.mk
abbrev ob:=PySem.Obj.mk
abbrev kh:=PySem.PyData.keyHash
abbrev vs(x:String)(n:Tok):Value:=.str (so x) n
abbrev vi(i:Int):Value:=.int i 0
abbrev vr(a:Addr):Value:=.ref a
abbrev vn:Value:=.none
abbrev vb:Value:=.bool true
abbrev vt(x:String):Value:=.type x
abbrev dx(P:Params)(x:String)(n:Tok)(v:Value):DictEntry:=.mk (kh P (so x)) (vs x n) v
abbrev oc(x q:String)(i j k:Tok)(l a b:Int)(r:Addr)(h:Int)(s t u v:Addr)(z m:Int)(n:Tok):Obj:=ob (vt "code") none (Data.fields #[vs x i,vs q j,vs "/claim/cut.py" k,vi l,vi a,vi 0,vi 0,vi b,vr r,vb,vi h,vr s,vn,vr t,vr u,vr v,vi z,vi m,vs "/claim/cut.py" n]) #[]
open L2 (lE kG iL inClass)
abbrev PR:Program:=PySem.Challenge.pw_hastebook_k92_whole_lots_behind
def top(i:Nat):Stmt:=PR.main.body.getD i (.Pass ⟨0,0,0,0⟩)
abbrev of(x q:String)(s:Stmt)(p:String)(n:Tok)(c:Addr):Obj:=ob (vt "function") none (Data.func (dM x q (lE s) (kG s) (iL s) vn vn vn (vs p n) none (vr c) vn)) #[]
noncomputable def KH:Params->aL:=λP=>
 (nat_lit 2,ob vn none (Data.dict #[]) #[])::
 (nat_lit 3,ob (vt "dict") none (Data.dict #[dx P "__name__" 165 (vs "law_hastebook_k92_whole_lots_behind" 608),dx P "__doc__" 166 vn,dx P "__package__" 167 vn,dx P "__loader__" 168 (Value.builtin "__main__.__loader__#opaque"),dx P "__spec__" 169 vn,dx P "__annotations__" 170 (vr 6),dx P "__builtins__" 171 (vr 4),dx P "__file__" 173 (vs "/claim/cut.py" 172),dx P "__cached__" 174 vn,dx P "_wall" 193 (vr 21),dx P "BookError" 213 (vr 31),dx P "NoOrder" 229 (vr 44),dx P "order_of" 241 (vr 53),dx P "is_work" 249 (vr 60),dx P "needed_works" 255 (vr 65),dx P "least_ready" 261 (vr 70),dx P "earliest" 269 (vr 75),dx P "length" 277 (vr 82),dx P "done_moments" 283 (vr 87),dx P "SOURCE" 287 (Value.int 0 286),dx P "SINK" 289 (Value.int 1 288),dx P "Pipe" 325 (vr 104),dx P "Net" 422 (vr 174),dx P "begin_place" 429 (vr 185),dx P "done_place" 436 (vr 192),dx P "work_at" 443 (vr 199),dx P "raise_moments" 454 (vr 206),dx P "tight_route" 460 (vr 211),dx P "next_routes" 470 (vr 218),dx P "room_on" 476 (vr 223),dx P "pour" 485 (vr 230),dx P "flowing_route" 494 (vr 237),dx P "steps_from" 500 (vr 242),dx P "take_out" 506 (vr 247),dx P "works_on" 512 (vr 252),dx P "least_end" 522 (vr 259),dx P "free_end" 528 (vr 264),dx P "stream_at" 537 (vr 271),dx P "least_hours" 543 (vr 276),dx P "free_hours" 550 (vr 283),dx P "filled_net" 560 (vr 290),dx P "through" 568 (vr 295),dx P "worth" 574 (vr 300),dx P "work_worth" 582 (vr 307),dx P "corners" 598 (vr 314),dx P "price_at" 607 (vr 321),dx P "_law_whole" 616 (vr 328),dx P "_law_cell_at" 624 (vr 335),dx P "_law_mixed" 633 (vr 342),dx P "_law_names" 643 (vr 349),dx P "_law_numbers" 649 (vr 354),dx P "_law_work" 663 (vr 361),dx P "_law_lot_free" 681 (vr 368),dx P "_law_lot" 687 (vr 373),dx P "_law_length" 693 (vr 378),dx P "_law_ends" 699 (vr 383),dx P "_law_put" 705 (vr 388),dx P "_law_lots" 715 (vr 395),dx P "_law_pieces" 728 (vr 402),dx P "_law_cheapest" 739 (vr 409),dx P "law" 745 (vr 414)] 61) #[])::
 (nat_lit 22,ob (vt "tuple") none (Data.seq #[vt "ValueError"]) #[])::
 (nat_lit 29,ob (vt "tuple") none (Data.seq #[]) #[])::
 (nat_lit 30,ob (vt "dict") none (Data.dict #[dx P "__module__" 203 (vs "hastebook.errors" 194),dx P "__firstlineno__" 207 (Value.int 5 206),dx P "__static_attributes__" 208 (vr 29),dx P "__weakref__" 210 (vr 32),dx P "__doc__" 211 vn] 3) #[])::
 (nat_lit 31,ob (vt "type") none (Data.cls (PySem.ClassData.mk (so "BookError") [vt "ValueError"] [vr 31,vt "ValueError",vt "Exception",vt "BaseException",vt "object"] 30 (so "BookError") true [] [vr 44] false none false)) #[some (vr 22),none,some (vs "BookError" 196),some (vs "BookError" 204),some (Value.builtin "ValueError.__new__"),some (vb)])::
 (nat_lit 32,ob (vt "getset_descriptor") none (Data.fields #[vs "__weakref__" 209,vr 31,Value.builtin "ExceptionGroup.__weakref__",vn]) #[])::
 (nat_lit 35,ob (vt "tuple") none (Data.seq #[vr 31]) #[])::
 (nat_lit 42,ob (vt "tuple") none (Data.seq #[]) #[])::
 (nat_lit 43,ob (vt "dict") none (Data.dict #[dx P "__module__" 221 (vs "hastebook.errors" 194),dx P "__firstlineno__" 225 (Value.int 7 224),dx P "__static_attributes__" 226 (vr 42),dx P "__doc__" 227 vn] 2) #[])::
 (nat_lit 44,ob (vt "type") none (Data.cls (PySem.ClassData.mk (so "NoOrder") [vr 31] [vr 44,vr 31,vt "ValueError",vt "Exception",vt "BaseException",vt "object"] 43 (so "NoOrder") true [] [] false none false)) #[some (vr 35),none,some (vs "NoOrder" 214),some (vs "NoOrder" 222),some (Value.builtin "ValueError.__new__"),some (vb)])::
 (nat_lit 52,oc "order_of" "order_of" 232 233 234 10 2 3 47 181 48 49 50 51 239 10 240)::
 (nat_lit 53,of "order_of" "order_of" (top 5) "hastebook.needs" 230 52)::
 (nat_lit 59,oc "is_work" "is_work" 242 243 244 16 2 3 54 181 55 56 57 58 247 16 248)::
 (nat_lit 60,of "is_work" "is_work" (top 6) "hastebook.needs" 230 59)::
 (nat_lit 64,ob (vt "code") none (Data.fields #[vs "needed_works" 250,vs "needed_works" 251,vs "/claim/cut.py" 252,vi 18,vi 2,vi 0,vi 0,vi 3,vr 61,vb,vi 181,vr 62,vn,vn,vn,vr 63,vi 253,vi 18,vs "/claim/cut.py" 254]) #[])::
 (nat_lit 65,of "needed_works" "needed_works" (top 7) "hastebook.needs" 230 64)::
 (nat_lit 69,ob (vt "code") none (Data.fields #[vs "least_ready" 256,vs "least_ready" 257,vs "/claim/cut.py" 258,vi 26,vi 2,vi 0,vi 0,vi 3,vr 66,vb,vi 181,vr 67,vn,vn,vn,vr 68,vi 259,vi 26,vs "/claim/cut.py" 260]) #[])::
 (nat_lit 70,of "least_ready" "least_ready" (top 8) "hastebook.needs" 230 69)::
 (nat_lit 74,ob (vt "code") none (Data.fields #[vs "earliest" 264,vs "earliest" 265,vs "/claim/cut.py" 266,vi 32,vi 2,vi 0,vi 0,vi 3,vr 71,vb,vi 181,vr 72,vn,vn,vn,vr 73,vi 267,vi 32,vs "/claim/cut.py" 268]) #[])::
 (nat_lit 75,of "earliest" "earliest" (top 10) "hastebook.moments" 262 74)::
 (nat_lit 81,oc "length" "length" 270 271 272 39 2 3 76 181 77 78 79 80 275 39 276)::
 (nat_lit 82,of "length" "length" (top 11) "hastebook.moments" 262 81)::
 (nat_lit 86,ob (vt "code") none (Data.fields #[vs "done_moments" 278,vs "done_moments" 279,vs "/claim/cut.py" 280,vi 41,vi 2,vi 0,vi 0,vi 3,vr 83,vb,vi 181,vr 84,vn,vn,vn,vr 85,vi 281,vi 41,vs "/claim/cut.py" 282]) #[])::
 (nat_lit 87,of "done_moments" "done_moments" (top 12) "hastebook.moments" 262 86)::
 (nat_lit 100,oc "__init__" "Pipe.__init__" 302 303 304 48 5 3 95 181 96 97 98 99 310 48 311)::
 (nat_lit 101,of "__init__" "Pipe.__init__" (inClass (top 16) 0) "hastebook.nets" 284 100)::
 (nat_lit 102,ob (vt "tuple") none (Data.seq #[vs "back" 313,vs "head" 314,vs "hours" 315,vs "room" 316,vs "tail" 317]) #[])::
 (nat_lit 103,ob (vt "dict") none (Data.dict #[dx P "__module__" 297 (vs "hastebook.nets" 284),dx P "__firstlineno__" 301 (Value.int 46 300),dx P "__init__" 312 (vr 101),dx P "__static_attributes__" 318 (vr 102),dx P "__dict__" 320 (vr 105),dx P "__weakref__" 322 (vr 106),dx P "__doc__" 323 vn] 4) #[])::
 (nat_lit 104,ob (vt "type") none (Data.cls (PySem.ClassData.mk (so "Pipe") [vt "object"] [vr 104,vt "object"] 103 (so "Pipe") true [] [] false none false)) #[none,none,some (vs "Pipe" 290),some (vs "Pipe" 298),some (Value.builtin "object.__new__"),some (vb)])::
 (nat_lit 105,ob (vt "getset_descriptor") none (Data.fields #[vs "__dict__" 319,vr 104,Value.builtin "function.__dict__",Value.builtin "function.__dict__#set"]) #[])::
 (nat_lit 106,ob (vt "getset_descriptor") none (Data.fields #[vs "__weakref__" 321,vr 104,Value.builtin "ExceptionGroup.__weakref__",vn]) #[])::
 (nat_lit 116,ob (vt "tuple") none (Data.seq #[Value.int 0 338]) #[])::
 (nat_lit 120,ob (vt "code") none (Data.fields #[vs "__init__" 339,vs "Net.__init__" 340,vs "/claim/cut.py" 341,vi 56,vi 4,vi 0,vi 0,vi 3,vr 117,vb,vi 181,vr 118,vn,vn,vn,vr 119,vi 342,vi 56,vs "/claim/cut.py" 343]) #[])::
 (nat_lit 121,ob (vt "function") (none) (Data.func (dM "__init__" "Net.__init__" (lE (inClass (top 17) 0)) (kG (inClass (top 17) 0)) (iL (inClass (top 17) 0)) (vr 116) (vn) (vn) (vs "hastebook.nets" 284) (none) (vr 120) (vn))) (#[]))::
 (nat_lit 127,oc "lay" "Net.lay" 345 346 347 69 5 3 122 181 123 124 125 126 355 69 356)::
 (nat_lit 128,of "lay" "Net.lay" (inClass (top 17) 1) "hastebook.nets" 284 127)::
 (nat_lit 134,oc "fill" "Net.fill" 358 359 360 76 2 3 129 181 130 131 132 133 365 76 366)::
 (nat_lit 135,of "fill" "Net.fill" (inClass (top 17) 2) "hastebook.nets" 284 134)::
 (nat_lit 146,ob (vt "code") none (Data.fields #[vs "moments" 376,vs "Net.moments" 377,vs "/claim/cut.py" 378,vi 86,vi 2,vi 0,vi 0,vi 3,vr 143,vb,vi 181,vr 144,vn,vn,vn,vr 145,vi 379,vi 86,vs "/claim/cut.py" 380]) #[])::
 (nat_lit 147,of "moments" "Net.moments" (inClass (top 17) 4) "hastebook.nets" 284 146)::
 (nat_lit 153,oc "open_length" "Net.open_length" 382 383 384 94 1 3 148 181 149 150 151 152 386 94 387)::
 (nat_lit 154,of "open_length" "Net.open_length" (inClass (top 17) 5) "hastebook.nets" 284 153)::
 (nat_lit 158,ob (vt "code") none (Data.fields #[vs "open_pipes" 389,vs "Net.open_pipes" 390,vs "/claim/cut.py" 391,vi 97,vi 1,vi 0,vi 0,vi 3,vr 155,vb,vi 181,vr 156,vn,vn,vn,vr 157,vi 392,vi 97,vs "/claim/cut.py" 393]) #[])::
 (nat_lit 159,of "open_pipes" "Net.open_pipes" (inClass (top 17) 6) "hastebook.nets" 284 158)::
 (nat_lit 163,ob (vt "code") none (Data.fields #[vs "amount" 395,vs "Net.amount" 396,vs "/claim/cut.py" 397,vi 101,vi 1,vi 0,vi 0,vi 3,vr 160,vb,vi 181,vr 161,vn,vn,vn,vr 162,vi 398,vi 101,vs "/claim/cut.py" 399]) #[])::
 (nat_lit 164,of "amount" "Net.amount" (inClass (top 17) 7) "hastebook.nets" 284 163)::
 (nat_lit 170,oc "stream" "Net.stream" 401 402 403 104 1 3 165 181 166 167 168 169 410 104 411)::
 (nat_lit 171,of "stream" "Net.stream" (inClass (top 17) 8) "hastebook.nets" 284 170)::
 (nat_lit 172,ob (vt "tuple") none (Data.seq #[vs "pipes" 413,vs "places" 414]) #[])::
 (nat_lit 173,ob (vt "dict") none (Data.dict #[dx P "__module__" 333 (vs "hastebook.nets" 284),dx P "__firstlineno__" 337 (Value.int 54 336),dx P "__init__" 344 (vr 121),dx P "lay" 357 (vr 128),dx P "fill" 367 (vr 135),dx P "lead" 375 (vr 142),dx P "moments" 381 (vr 147),dx P "open_length" 388 (vr 154),dx P "open_pipes" 394 (vr 159),dx P "amount" 400 (vr 164),dx P "stream" 412 (vr 171),dx P "__static_attributes__" 415 (vr 172),dx P "__dict__" 417 (vr 175),dx P "__weakref__" 419 (vr 176),dx P "__doc__" 420 vn] 4) #[])::
 (nat_lit 174,ob (vt "type") none (Data.cls (PySem.ClassData.mk (so "Net") [vt "object"] [vr 174,vt "object"] 173 (so "Net") true [] [] false none false)) #[none,none,some (vs "Net" 326),some (vs "Net" 334),some (Value.builtin "object.__new__"),some (vb)])::
 (nat_lit 175,ob (vt "getset_descriptor") none (Data.fields #[vs "__dict__" 416,vr 174,Value.builtin "function.__dict__",Value.builtin "function.__dict__#set"]) #[])::
 (nat_lit 176,ob (vt "getset_descriptor") none (Data.fields #[vs "__weakref__" 418,vr 174,Value.builtin "ExceptionGroup.__weakref__",vn]) #[])::
 (nat_lit 184,oc "begin_place" "begin_place" 423 424 425 115 1 3 179 181 180 181 182 183 427 115 428)::
 (nat_lit 185,of "begin_place" "begin_place" (top 18) "hastebook.nets" 284 184)::
 (nat_lit 191,oc "done_place" "done_place" 430 431 432 117 1 3 186 181 187 188 189 190 434 117 435)::
 (nat_lit 192,of "done_place" "done_place" (top 19) "hastebook.nets" 284 191)::
 (nat_lit 198,oc "work_at" "work_at" 437 438 439 119 1 3 193 181 194 195 196 197 441 119 442)::
 (nat_lit 199,of "work_at" "work_at" (top 20) "hastebook.nets" 284 198)::
 (nat_lit 205,oc "raise_moments" "raise_moments" 444 445 446 121 2 3 200 181 201 202 203 204 452 121 453)::
 (nat_lit 206,of "raise_moments" "raise_moments" (top 21) "hastebook.nets" 284 205)::
 (nat_lit 210,ob (vt "code") none (Data.fields #[vs "tight_route" 455,vs "tight_route" 456,vs "/claim/cut.py" 457,vi 129,vi 2,vi 0,vi 0,vi 3,vr 207,vb,vi 181,vr 208,vn,vn,vn,vr 209,vi 458,vi 129,vs "/claim/cut.py" 459]) #[])::
 (nat_lit 211,of "tight_route" "tight_route" (top 22) "hastebook.nets" 284 210)::
 (nat_lit 217,oc "next_routes" "next_routes" 461 462 463 135 2 3 212 181 213 214 215 216 468 135 469)::
 (nat_lit 218,of "next_routes" "next_routes" (top 23) "hastebook.nets" 284 217)::
 (nat_lit 222,ob (vt "code") none (Data.fields #[vs "room_on" 471,vs "room_on" 472,vs "/claim/cut.py" 473,vi 141,vi 1,vi 0,vi 0,vi 3,vr 219,vb,vi 181,vr 220,vn,vn,vn,vr 221,vi 474,vi 141,vs "/claim/cut.py" 475]) #[])::
 (nat_lit 223,of "room_on" "room_on" (top 24) "hastebook.nets" 284 222)::
 (nat_lit 229,oc "pour" "pour" 477 478 479 143 2 3 224 181 225 226 227 228 483 143 484)::
 (nat_lit 230,of "pour" "pour" (top 25) "hastebook.nets" 284 229)::
 (nat_lit 236,oc "flowing_route" "flowing_route" 486 487 488 147 1 3 231 181 232 233 234 235 492 147 493)::
 (nat_lit 237,of "flowing_route" "flowing_route" (top 26) "hastebook.nets" 284 236)::
 (nat_lit 241,ob (vt "code") none (Data.fields #[vs "steps_from" 495,vs "steps_from" 496,vs "/claim/cut.py" 497,vi 154,vi 2,vi 0,vi 0,vi 3,vr 238,vb,vi 181,vr 239,vn,vn,vn,vr 240,vi 498,vi 154,vs "/claim/cut.py" 499]) #[])::
 (nat_lit 242,of "steps_from" "steps_from" (top 27) "hastebook.nets" 284 241)::
 (nat_lit 246,ob (vt "code") none (Data.fields #[vs "take_out" 501,vs "take_out" 502,vs "/claim/cut.py" 503,vi 156,vi 2,vi 0,vi 0,vi 3,vr 243,vb,vi 181,vr 244,vn,vn,vn,vr 245,vi 504,vi 156,vs "/claim/cut.py" 505]) #[])::
 (nat_lit 247,of "take_out" "take_out" (top 28) "hastebook.nets" 284 246)::
 (nat_lit 251,ob (vt "code") none (Data.fields #[vs "works_on" 507,vs "works_on" 508,vs "/claim/cut.py" 509,vi 161,vi 1,vi 0,vi 0,vi 3,vr 248,vb,vi 181,vr 249,vn,vn,vn,vr 250,vi 510,vi 161,vs "/claim/cut.py" 511]) #[])::
 (nat_lit 252,of "works_on" "works_on" (top 29) "hastebook.nets" 284 251)::
 (nat_lit 258,oc "least_end" "least_end" 515 516 517 164 2 3 253 181 254 255 256 257 520 164 521)::
 (nat_lit 259,of "least_end" "least_end" (top 31) "hastebook.haste" 513 258)::
 (nat_lit 263,ob (vt "code") none (Data.fields #[vs "free_end" 523,vs "free_end" 524,vs "/claim/cut.py" 525,vi 166,vi 2,vi 0,vi 0,vi 3,vr 260,vb,vi 181,vr 261,vn,vn,vn,vr 262,vi 526,vi 166,vs "/claim/cut.py" 527]) #[])::
 (nat_lit 264,of "free_end" "free_end" (top 32) "hastebook.haste" 513 263)::
 (nat_lit 270,oc "stream_at" "stream_at" 529 530 531 168 3 3 265 181 266 267 268 269 535 168 536)::
 (nat_lit 271,of "stream_at" "stream_at" (top 33) "hastebook.haste" 513 270)::
 (nat_lit 275,ob (vt "code") none (Data.fields #[vs "least_hours" 538,vs "least_hours" 539,vs "/claim/cut.py" 540,vi 172,vi 1,vi 0,vi 0,vi 3,vr 272,vb,vi 181,vr 273,vn,vn,vn,vr 274,vi 541,vi 172,vs "/claim/cut.py" 542]) #[])::
 (nat_lit 276,of "least_hours" "least_hours" (top 34) "hastebook.haste" 513 275)::
 (nat_lit 282,oc "free_hours" "free_hours" 544 545 546 174 1 3 277 181 278 279 280 281 548 174 549)::
 (nat_lit 283,of "free_hours" "free_hours" (top 35) "hastebook.haste" 513 282)::
 (nat_lit 289,oc "filled_net" "filled_net" 551 552 553 176 3 3 284 181 285 286 287 288 558 176 559)::
 (nat_lit 290,of "filled_net" "filled_net" (top 36) "hastebook.haste" 513 289)::
 (nat_lit 294,ob (vt "code") none (Data.fields #[vs "through" 563,vs "through" 564,vs "/claim/cut.py" 565,vi 181,vi 2,vi 0,vi 0,vi 3,vr 291,vb,vi 181,vr 292,vn,vn,vn,vr 293,vi 566,vi 181,vs "/claim/cut.py" 567]) #[])::
 (nat_lit 295,of "through" "through" (top 38) "hastebook.streams" 561 294)::
 (nat_lit 299,ob (vt "code") none (Data.fields #[vs "worth" 569,vs "worth" 570,vs "/claim/cut.py" 571,vi 187,vi 3,vi 0,vi 0,vi 3,vr 296,vb,vi 181,vr 297,vn,vn,vn,vr 298,vi 572,vi 187,vs "/claim/cut.py" 573]) #[])::
 (nat_lit 300,of "worth" "worth" (top 39) "hastebook.streams" 561 299)::
 (nat_lit 306,oc "work_worth" "work_worth" 575 576 577 191 2 3 301 181 302 303 304 305 580 191 581)::
 (nat_lit 307,of "work_worth" "work_worth" (top 40) "hastebook.streams" 561 306)::
 (nat_lit 313,oc "corners" "corners" 585 586 587 196 2 3 308 181 309 310 311 312 596 196 597)::
 (nat_lit 314,of "corners" "corners" (top 42) "hastebook.curves" 583 313)::
 (nat_lit 320,oc "price_at" "price_at" 599 600 601 209 3 3 315 181 316 317 318 319 605 209 606)::
 (nat_lit 321,of "price_at" "price_at" (top 43) "hastebook.curves" 583 320)::
 (nat_lit 327,oc "_law_whole" "_law_whole" 610 611 612 214 1 3 322 181 323 324 325 326 614 214 615)::
 (nat_lit 328,of "_law_whole" "_law_whole" (top 45) "law_hastebook_k92_whole_lots_behind" 608 327)::
 (nat_lit 334,oc "_law_cell_at" "_law_cell_at" 617 618 619 216 2 3 329 181 330 331 332 333 622 216 623)::
 (nat_lit 335,of "_law_cell_at" "_law_cell_at" (top 46) "law_hastebook_k92_whole_lots_behind" 608 334)::
 (nat_lit 341,oc "_law_mixed" "_law_mixed" 625 626 627 220 2 3 336 181 337 338 339 340 631 220 632)::
 (nat_lit 342,of "_law_mixed" "_law_mixed" (top 47) "law_hastebook_k92_whole_lots_behind" 608 341)::
 (nat_lit 348,oc "_law_names" "_law_names" 634 635 636 224 2 3 343 181 344 345 346 347 641 224 642)::
 (nat_lit 349,of "_law_names" "_law_names" (top 48) "law_hastebook_k92_whole_lots_behind" 608 348)::
 (nat_lit 353,ob (vt "code") none (Data.fields #[vs "_law_numbers" 644,vs "_law_numbers" 645,vs "/claim/cut.py" 646,vi 229,vi 1,vi 0,vi 0,vi 3,vr 350,vb,vi 181,vr 351,vn,vn,vn,vr 352,vi 647,vi 229,vs "/claim/cut.py" 648]) #[])::
 (nat_lit 354,of "_law_numbers" "_law_numbers" (top 49) "law_hastebook_k92_whole_lots_behind" 608 353)::
 (nat_lit 360,oc "_law_work" "_law_work" 650 651 652 235 5 3 355 181 356 357 358 359 661 235 662)::
 (nat_lit 361,of "_law_work" "_law_work" (top 50) "law_hastebook_k92_whole_lots_behind" 608 360)::
 (nat_lit 367,oc "_law_lot_free" "_law_lot_free" 664 665 666 249 3 3 362 181 363 364 365 366 679 249 680)::
 (nat_lit 368,of "_law_lot_free" "_law_lot_free" (top 51) "law_hastebook_k92_whole_lots_behind" 608 367)::
 (nat_lit 372,ob (vt "code") none (Data.fields #[vs "_law_lot" 682,vs "_law_lot" 683,vs "/claim/cut.py" 684,vi 271,vi 3,vi 0,vi 0,vi 3,vr 369,vb,vi 181,vr 370,vn,vn,vn,vr 371,vi 685,vi 271,vs "/claim/cut.py" 686]) #[])::
 (nat_lit 373,of "_law_lot" "_law_lot" (top 52) "law_hastebook_k92_whole_lots_behind" 608 372)::
 (nat_lit 377,ob (vt "code") none (Data.fields #[vs "_law_length" 688,vs "_law_length" 689,vs "/claim/cut.py" 690,vi 289,vi 2,vi 0,vi 0,vi 3,vr 374,vb,vi 181,vr 375,vn,vn,vn,vr 376,vi 691,vi 289,vs "/claim/cut.py" 692]) #[])::
 (nat_lit 378,of "_law_length" "_law_length" (top 53) "law_hastebook_k92_whole_lots_behind" 608 377)::
 (nat_lit 382,ob (vt "code") none (Data.fields #[vs "_law_ends" 694,vs "_law_ends" 695,vs "/claim/cut.py" 696,vi 295,vi 2,vi 0,vi 0,vi 3,vr 379,vb,vi 181,vr 380,vn,vn,vn,vr 381,vi 697,vi 295,vs "/claim/cut.py" 698]) #[])::
 (nat_lit 383,of "_law_ends" "_law_ends" (top 54) "law_hastebook_k92_whole_lots_behind" 608 382)::
 (nat_lit 387,ob (vt "code") none (Data.fields #[vs "_law_put" 700,vs "_law_put" 701,vs "/claim/cut.py" 702,vi 298,vi 4,vi 0,vi 0,vi 3,vr 384,vb,vi 181,vr 385,vn,vn,vn,vr 386,vi 703,vi 298,vs "/claim/cut.py" 704]) #[])::
 (nat_lit 388,of "_law_put" "_law_put" (top 55) "law_hastebook_k92_whole_lots_behind" 608 387)::
 (nat_lit 394,oc "_law_lots" "_law_lots" 706 707 708 312 1 3 389 181 390 391 392 393 713 312 714)::
 (nat_lit 395,of "_law_lots" "_law_lots" (top 56) "law_hastebook_k92_whole_lots_behind" 608 394)::
 (nat_lit 401,oc "_law_pieces" "_law_pieces" 716 717 718 318 1 3 396 181 397 398 399 400 726 318 727)::
 (nat_lit 402,of "_law_pieces" "_law_pieces" (top 57) "law_hastebook_k92_whole_lots_behind" 608 401)::
 (nat_lit 408,oc "_law_cheapest" "_law_cheapest" 729 730 731 326 2 3 403 181 404 405 406 407 737 326 738)::
 (nat_lit 409,of "_law_cheapest" "_law_cheapest" (top 58) "law_hastebook_k92_whole_lots_behind" 608 408)::
 (nat_lit 413,ob (vt "code") none (Data.fields #[vs "law" 740,vs "law" 741,vs "/claim/cut.py" 742,vi 332,vi 1,vi 0,vi 0,vi 3,vr 410,vb,vi 181,vr 411,vn,vn,vn,vr 412,vi 743,vi 332,vs "/claim/cut.py" 744]) #[])::
 (nat_lit 414,of "law" "law" (top 59) "law_hastebook_k92_whole_lots_behind" 608 413)::[]
def KA:List Addr:=[2,3,22,29,30,31,32,35,42,43,44,52,53,59,60,64,65,69,70,74,75,81,82,86,87,100,101,102,103,104,105,106,116,120,121,127,128,134,135,146,147,153,154,158,159,163,164,170,171,172,173,174,175,176,184,185,191,192,198,199,205,206,210,211,217,218,222,223,229,230,236,237,241,242,246,247,251,252,258,259,263,264,270,271,275,276,282,283,289,290,294,295,299,300,306,307,313,314,320,321,327,328,334,335,341,342,348,349,353,354,360,361,367,368,372,373,377,378,382,383,387,388,394,395,401,402,408,409,413,414]
noncomputable def sd:Nat->List Obj->BT->BT
 |_,[],t=>t
 |i,o::os,t=>sd (i+1) os (t.ins i o)
noncomputable def kR(p:Program)(w:World)(m:Nat)(an:Option Value):Nat->SharedT->Thread->Option SharedT
 |0,_,_=>none
 |n+1,s,t=>match through t with
  |true=>some s
  |false=>match stepOk m an t with
   |false=>none
   |true=>match stepT (denote treeTable) p w s t with
    |some r=>kR p w m an n r.1 r.2
    |none=>none
theorem IE{p:Program}{w:World}{m:Nat}{an:Option Value}:∀{n:Nat}{s s':SharedT}{t:Thread},kR p w m an n s t=some s'->topRun treeTable p w m an n s.abs t=some s'.abs
 |0,_,_,_,h=>by cases h
 |n+1,s,s',t,h=>by
  unfold kR at h;unfold topRun;cases h1:through t with
  |true=>rw[h1]at h;cases h;rfl
  |false=>
   rw[h1]at h;cases h2:stepOk m an t with
   |false=>rw[h2]at h;cases h
   |true=>
    rw[h2]at h;cases h3:stepT (denote treeTable) p w s t with
    |none=>rw[h3]at h;cases h
    |some r=>
     rw[h3]at h;rw[show step (denote treeTable) p w s.abs t=.go r.1.abs r.2 from stepT_spec h3];exact IE h
theorem Ae{p q:Program}{Xt:Shared->Bool}{α:Type}{Yf:Shared->α}{Ya:World->α}{N:Nat}{s0:World->OsState->SharedT}{ran:World->OsState->Option SharedT}{fin:World->OsState->Shared}
 (hf:∀w os,fin w os=((ran w os).getD (s0 w os)).abs)
 (hr:∀w os,ran w os=kR p w (boot_heap w.params).objs.size ((boot_heap w.params).nsMap mainGlobals "__annotations__") N (s0 w os) (topStub p))
 (c0:(fun(w:World) (os:OsState)=>(s0 w os).abs)=λw os=>⟨boot_heap w.params,YC [],boot_drawn,boot_toks,os⟩)
 (c1:(λw:World=>(boot_heap w.params).isNs mainGlobals)=λ_=>true)
 (c2:(fun(w:World) (os:OsState)=>(ran w os).isSome)=λ_ _=>true)
 (c3:(fun(w:World) (os:OsState)=>(staticsOk (importedModules p.main.body) (boot_heap w.params) (fin w os).heap&&namesBound p (fin w os).heap&&gensDone (fin w os))&&laidKept (boot_heap w.params) (fin w os).heap)=λ_ _=>true)
 (c4:(fun(w:World) (os:OsState)=>openSeen q [] (importedModules p.main.body) Xt true (fin w os))=λ_ _=>openGood q [])
 (c5:(fun(w:World) (os:OsState)=>Yf (fin w os))=λw _=>Ya w)
 (c6:opening p=plainProg p.main.scope.names)(hN:Nat.ble 600 N=true)(hm:∀s,fenceModules? p s=some s):LeftO p q [] Xt Yf Ya N:=λw=>by
 obtain⟨⟨h,gs,d,k,os⟩,e,e'⟩:=aTj.mp (boot_open (p:=p) (N:=N) c6 hN hm w);obtain⟨rfl,rfl,rfl,rfl⟩:h=boot_heap w.params/\gs=YC []/\d=boot_drawn/\k=boot_toks:=by simpa using e'
 have r:topRun treeTable p w (boot_heap w.params).objs.size ((boot_heap w.params).nsMap mainGlobals "__annotations__") N ⟨boot_heap w.params,YC [],boot_drawn,boot_toks,os⟩ (topStub p)=some (fin w os):=by
  have q0:(s0 w os).abs=⟨boot_heap w.params,YC [],boot_drawn,boot_toks,os⟩:=congrFun (congrFun c0 w) os;have q2:(ran w os).isSome=true:=congrFun (congrFun c2 w) os;rw[<-q0];obtain⟨x,hx⟩:=ZY.mp q2;have:fin w os=x.abs:=by rw[hf,hx];rfl
  rw[this];rw[hr]at hx;exact IE hx
 have t:topFrom treeTable p w N ⟨boot_heap w.params,YC [],boot_drawn,boot_toks,os⟩=some (fin w os):=by
  unfold topFrom;dsimp only;rw[show(boot_heap w.params).isNs mainGlobals=true from congrFun c1 w,r];have q3:((staticsOk (importedModules p.main.body) (boot_heap w.params) (fin w os).heap&&namesBound p (fin w os).heap&&gensDone (fin w os))&&laidKept (boot_heap w.params) (fin w os).heap)=true:=congrFun (congrFun c3 w) os;show(match((staticsOk (importedModules p.main.body) (boot_heap w.params) (fin w os).heap&&namesBound p (fin w os).heap&&gensDone (fin w os))&&laidKept (boot_heap w.params) (fin w os).heap)with|true=>some (fin w os)|false=>none)=_;rw[q3]
 unfold openEnds;rw[e];show(topFrom treeTable p w N _).map _=_;rw[t];exact congrArg some (YX (congrFun (congrFun c4 w) os) (congrFun (congrFun c5 w) os))
noncomputable def s0(w:World)(os:OsState):SharedT:=⟨sd 0 (boot_heap w.params).objs.toList .nil,(boot_heap w.params).objs.size,(boot_heap w.params).life,#[],boot_drawn,boot_toks,os⟩
noncomputable def ran(w:World)(os:OsState):Option SharedT:=kR PR w (boot_heap w.params).objs.size ((boot_heap w.params).nsMap mainGlobals "__annotations__") 4080 (s0 w os) (topStub PR)
noncomputable def fin(w:World)(os:OsState):Shared:=((ran w os).getD (s0 w os)).abs
def vw:Program:=view PR [0,2,3,5,6,7,8,10,11,12,14,15,16,17,18,19,20,21,22,23,24,25,26,27,28,29,31,32,33,34,35,36,38,39,40,42,43,45,46,47,48,49,50,51,52,53,54,55,56,57,58,59]
noncomputable def xt(s:Shared):Bool:=xlAt vw [] s&&recOk (RowW.records (OpenRow.toRowW (OpenLaw.row PySem.Challenge.rw_hastebook_k92_whole_lots_behind))) s
set_option maxHeartbeats 0 in
theorem c0:(fun(w:World) (os:OsState)=>(s0 w os).abs)=λw os=>⟨boot_heap w.params,YC [],boot_drawn,boot_toks,os⟩:=by kernel_rfl
theorem c1:(λw:World=>(boot_heap w.params).isNs mainGlobals)=λ_=>true:=by kernel_rfl
set_option maxHeartbeats 0 in
theorem c2:(fun(w:World) (os:OsState)=>(ran w os).isSome)=λ_ _=>true:=by kernel_rfl
set_option maxHeartbeats 0 in
theorem c3:(fun(w:World) (os:OsState)=>(staticsOk (importedModules PR.main.body) (boot_heap w.params) (fin w os).heap&&namesBound PR (fin w os).heap&&gensDone (fin w os))&&laidKept (boot_heap w.params) (fin w os).heap)=λ_ _=>true:=by kernel_rfl
set_option maxHeartbeats 0 in
theorem c4:(fun(w:World) (os:OsState)=>openSeen vw [] (importedModules PR.main.body) xt true (fin w os))=λ_ _=>openGood vw []:=by kernel_rfl
set_option maxHeartbeats 0 in
theorem c5:(fun(w:World) (os:OsState)=>KA.map (fin w os).heap.get?)=λw _=>(KH w.params).map λp=>some p.2:=by kernel_rfl
theorem c6:opening PR=plainProg PR.main.scope.names:=by kernel_rfl
theorem left:LeftO PR vw [] xt (λs=>KA.map s.heap.get?) (λw=>(KH w.params).map λp=>some p.2) 4080:=
 Ae (s0:=s0) (ran:=ran) (fin:=fin) (λ_ _=>rfl) (λ_ _=>rfl) c0 c1 c2 c3 c4 c5 c6 rfl (λ_=>rfl)
theorem ka(P:Params):KA=(KH P).map (·.1):=by kernel_rfl
theorem xs:∀s,xt s=true->XL vw [] (s.heap.nsMap mainGlobals) s.heap:=λs e=>xl_of s (Zv.mp e).1
theorem rs:∀s,xt s=true->RecFacts (RowW.records (OpenRow.toRowW (OpenLaw.row PySem.Challenge.rw_hastebook_k92_whole_lots_behind))) s.heap:=λs e=>recFacts_of (Zv.mp e).2
end HT
open PySem renaming wpAny_bind->aWb,starEach->aWd,Addr->aWe,Value->aWf,Shared->aWg,wpAny_pure->aWh,Heap->aWi,wpAny->aWj,mainGlobals->aWk,model->aWl,Program->aWm,Around->aWn,foldedSetIterable->aWo,Expr->aWp,eval->aWq,World->aWr,backTo->aWs,Builtin->aWt,PassesOwn->aWu,wpAny_holding->aWv,behindInMarks->aWw,NameKind->aWx,compareOp->aWy,assignEach->aWz,wpAny_truthy_bool->aXa,wpAny_mono->aXb,cLine->aXc,swapsWith->aXd,sysModules->aXe,sliceBounds->aXf,keywordEach->aXg,FuncData->aXh,wpAny_typeNameOfWhole_keyiter->aXi,holding->aXk,wpAny_passesOwn->aXl,attributeBase->aXm,bootBuiltins->aXn,wpAny_typeNameOf_keyiter->aXo,wpAny_Call_Name_kw->aXp,tupleKind_room_in1->aXq,wpAny_newObj_type->aXr,backToKw->aXs,Scope->aXt,numAt->aXu,argBest->aXv,Keyword->aXw,sizeLine_eq->aXx,intItems->aXy,codeAny->aXz,wpAny_tryCatch->aYa,binaryOp->aYb,assign->aYc,slot_list_getitem->aYd,wpAny_standAt->aYe,wpAny_getItem_list_slice->aYf,wpAny_call_entry->aYh,tupleKind->aYi,sliceRange->aYj,wpAny_execs_nil->aYk,shortFactorBits->aYl,letOwnedTupleGo->aYm,codeAny_builtin->aYn,wpAny_isOneOf_keyiter->aYo
open PyProof.Rows renaming seqObj->aXj,subscriptTail->aYg
abbrev aWa:=@if_neg
abbrev aWc:=@if_pos
abbrev XA:=List (Int×Int×Int)
abbrev XB:=List (Int×Int)
abbrev XC:=List (Nat×Nat)
abbrev XD:=List (List Int)
abbrev XE:=List Int
abbrev XG:=List Nat
abbrev XH:=Nat->Int
abbrev XI:=List PySem.Value
abbrev XJ:=List PySem.Str
abbrev XM:=Option PySem.Value
abbrev XN:=PySem.Value->PySem.Shared->Prop
abbrev XO:=List PySem.Expr
noncomputable section
def fE:=λ{a b c d e}=>(@Option.bind_eq_some_iff a b c d e).mp
def fG:=λ{a b c d e}=>(@aTj a b c d e).mp
def fK:=λ{a b c d}=>(@List.getElem?_eq_some_iff a b c d).mp
def fU:=λ{a b c d}=>(@cC a b c d).mp
def fY:=λ{a b c d e}=>(@YO a b c d e).mp
def fZ:=λ{a b c d}=>(@XZ a b c d).mp
def gT:=λ{a b}=>(@aUD a b).mp
def gB:=λ{a b c}=>(@List.mem_iff_getElem? a b c).mp
def iP:=λ{a b}=>(@aUE a b).mp
def gO:=λ{a b c}=>(@eV a b c).mp
def iC:=λ{a b}=>(@Zj a b).mp
def iG:=λ{a b c d e}=>(@YO a b c d e).mpr
def iO:=λ{a b}=>(@aUr a b).mpr
def i8:=λ{a b}=>(@aUD a b).mpr
def jZ:=λ{a b}=>(@aUE a b).mpr
def jB:=λ{a b c}=>(@c7 a b c).mp
def jO:=λ{a b c d}=>(@YJ a b c d).mp
def jF:=λ{a b c}=>(@List.nodup_append a b c).mpr
def jP:=λ{a b c d}=>(@XZ a b c d).mpr
def iV:=λ{a b}=>(@ZY a b).mp
def lL:=λ{a b}=>(@Zj a b).mpr
def mL:=λ{a b}=>(@Int.ofNat_le a b).mpr
def j3:=λ{a b}=>(@List.length_pos_iff a b).mpr
def mI:=λ{a b}=>(@aUr a b).mp
def kL:=λ{a b c d}=>(@Zf a b c d).mp
def nK:=λ{a b c}=>(@Int.le_min a b c).mpr
set_option maxRecDepth 100000
namespace L2
open PySem PySem.Spec PyProof.Rows
variable{H:Hp}{a b:aWe}{o:HO}
noncomputable abbrev Key:=Sum Int Str
noncomputable def Bc:Key->aWf->Bool
 | .inl k,v=>aWf.isInt k v
 | .inr x,v=>aWf.isStrOf x v
noncomputable def EH(w:aWr):Key->Int
 | .inl k=>hashInt k
 | .inr x=>hashStr w x
theorem k8:∀{k:Key}{v:aWf},Bc k v=true->(∃i t,k=Sum.inl i/\v=aWf.int i t)\/(∃x t,k=Sum.inr x/\v=aWf.str x t)
 | .inl i,v,h=>by
   obtain⟨t,e⟩:=aWf.isInt_shape (k:=i) (v:=v) h;exact .inl ⟨i,t,rfl,e⟩
 | .inr x,v,h=>by
   obtain⟨t,e⟩:=aWf.isStrOf_shape (x:=x) (v:=v) h;exact .inr ⟨x,t,rfl,e⟩
theorem VC(i:Int)(t:Tok):Bc (.inl i) (.int i t)=true:=by simp[Bc,aWf.isInt]
theorem VG(x:Str)(t:Tok):Bc (.inr x) (.str x t)=true:=by simp[Bc,aWf.isStrOf]
theorem N6(a b:Int):decide ((Sum.inl a:Key)=Sum.inl b)=(a==b):=by
 by_cases e:a=b
 .subst e;simp
 .have h:¬(Sum.inl a:Key)=Sum.inl b:=λq=>e (Sum.inl.inj q);rw[decide_eq_false h];exact(beq_eq_false_iff_ne.mpr e).symm
theorem Qv(a b:Str):decide ((Sum.inr a:Key)=Sum.inr b)=decide (a=b):=by
 by_cases e:a=b
 .subst e;simp
 .have h:¬(Sum.inr a:Key)=Sum.inr b:=λq=>e (Sum.inr.inj q);rw[decide_eq_false h,decide_eq_false e]
theorem Pw(a:Int)(b:Str):decide ((Sum.inl a:Key)=Sum.inr b)=false:=decide_eq_false (λq=>nomatch q)
theorem Qx(a:Str)(b:Int):decide ((Sum.inr a:Key)=Sum.inl b)=false:=decide_eq_false (λq=>nomatch q)
def j6(c:aWm)(w:aWr):PySem.KeyKind c w Key where
 is:=Bc
 hash:=EH w
 inj:=λv a b m g=>by
  rcases k8 m with⟨i,t,rfl,rfl⟩| ⟨x,t,rfl,rfl⟩
  .rcases k8 g with⟨j,u,rfl,e⟩| ⟨y,u,rfl,e⟩
   .injection e with d _;rw[d]
   .exact nomatch e
  .rcases k8 g with⟨j,u,rfl,e⟩| ⟨y,u,rfl,e⟩
   .exact nomatch e
   .injection e with d _;rw[d]
 byValue:=λk v h=>by
  rcases k8 h with⟨i,t,rfl,rfl⟩| ⟨x,t,rfl,rfl⟩<;>rfl
 pyHash:=λf h=>by
  rcases k8 f with⟨i,t,rfl,rfl⟩| ⟨x,t,rfl,rfl⟩
  .exact wpAny_pyHash_int h
  .exact wpAny_pyHash_str h
 eqBool:=λl f h=>by
  rcases k8 l with⟨i,t,rfl,rfl⟩| ⟨x,t,rfl,rfl⟩
  .rcases k8 f with⟨j,u,rfl,rfl⟩| ⟨y,u,rfl,rfl⟩
   .rw[N6]at h;exact wpAny_eqBool_int h
   .rw[Pw]at h;exact SeqAt.EqAt.int_str i t y u _ _ _ _ h
  .rcases k8 f with⟨j,u,rfl,rfl⟩| ⟨y,u,rfl,rfl⟩
   .rw[Qx]at h;exact SeqAt.EqAt.str_int x t j u _ _ _ _ h
   .rw[Qv]at h;exact wpAny_eqBool_str h
 «strs»:=λk x t v h=>by
  rcases k8 h with⟨i,u,rfl,e⟩| ⟨y,u,rfl,e⟩
  .exact nomatch e
  .injection e with d _
   subst d;cases v<;>rfl
theorem WG(c:aWm)(w:aWr)(i:Int)(t:Tok):(j6 c w).is (.inl i) (.int i t)=true:=VC i t
theorem Wd(c:aWm)(w:aWr)(x:Str)(t:Tok):(j6 c w).is (.inr x) (.str x t)=true:=VG x t
inductive V where
 |aF|bl (b:Bool)|int (i:Int)|str (x:Str)|qm (b:Array UInt8)|Dq (b:UInt64)|ref (a:aWe)|ty (n:String)
 deriving DecidableEq
abbrev Xy:=List V
abbrev Xz:=Option V
def RelV:V->aWf->Prop
 | .aF,u=>u=aWf.none
 | .bl b,u=>u=aWf.bool b
 | .int i,u=>∃t,u=aWf.int i t
 | .str x,u=>∃t,u=aWf.str x t
 | .qm b,u=>∃t,u=aWf.bytes b t
 | .Dq b,u=>∃t,u=aWf.float b t
 | .ref a,u=>u=aWf.ref a
 | .ty n,u=>u=aWf.type n
abbrev aA:Xy->XI->Prop:=Paired RelV
theorem aA.length{xs:Xy}{us:XI}(r:aA xs us):xs.length=us.length:=Paired.length r
theorem aA.get:∀{xs:Xy}{c:XI}{i:Nat}{x:V},aA xs c->xs[i]?=some x->∃u,c[i]?=some u/\RelV x u
 |_,_,_,_,.nil,e=>by simp at e
 |_,_,0,_,.cons r _,e=>by simp at e;subst e;exact⟨_,rfl,r⟩
 |_,_,i+1,x,.cons _ t,e=>by
  obtain⟨u,f,d⟩:=aA.get (i:=i) (x:=x) t (by simpa using e);exact⟨u,by simpa using f,d⟩
theorem aA.set{x:V}{u:aWf}(r:RelV x u):∀{xs:Xy}{c:XI}(i:Nat),aA xs c->aA (xs.set i x) (c.set i u)
 |_,_,_,.nil=>.nil
 |_,_,0,.cons _ t=>.cons r t
 |_,_,i+1,.cons q t=>.cons q (aA.set r i t)
theorem aA.append:∀{xs ys:Xy}{c ws:XI},aA xs c->aA ys ws->aA (xs++ys) (c++ws)
 |_,_,_,_,.nil,s=>s
 |_,_,_,_,.cons r t,s=>.cons r (aA.append t s)
theorem aA.take:∀{xs:Xy}{c:XI}(n:Nat),aA xs c->aA (xs.take n) (c.take n)
 |_,_,0,_=>.nil
 |_,_,_+1,.nil=>.nil
 |_,_,n+1,.cons r t=>.cons r (aA.take n t)
theorem aA.drop:∀{xs:Xy}{c:XI}(n:Nat),aA xs c->aA (xs.drop n) (c.drop n)
 |_,_,0,r=>r
 |_,_,_+1,.nil=>.nil
 |_,_,n+1,.cons _ t=>aA.drop n t
def rN:Xz->XM->Prop
 |some v,some u=>RelV v u
 |none,none=>True
 |_,_=>False
def KV{c:Type}:List (c×V)->List (c×aWf)->Prop:=Paired fun(p:c×V) (q:c×aWf)=>p.1=q.1/\RelV p.2 q.2
noncomputable def kV:Key->V
 | .inl i=>.int i
 | .inr x=>.str x
inductive HO where
 |lst (xs:Xy)
 |tup (xs:Xy)
 |dK (kvs:List (Key×V))|dT (kvs:List (List Key×V))
 |set (S:Int->Bool) (n:Nat)
 |ins (C dx:aWe) (fs:List (Str×V))
 |own (x:aWe)
 |xd (fs:List (Str×V))
 |met (f x:aWe)
 |hQ (lo hi:Int)
 |ft (o:Obj) (u:HO)
 |zi (ps:Array aWf)
 |ext (φ:aWi->Prop)
noncomputable abbrev Hp:=aWe->Option HO
noncomputable def upd(H:Hp)(a:aWe)(o:HO):Hp:=λb=>if b=a then some o else H b
theorem kD:upd H a o a=some o:=by unfold upd;rw[aWc rfl]
theorem gJ(h:b≠a):upd H a o b=H b:=by unfold upd;rw[aWa h]
theorem pQ{u:HO}(h:H a=some o)(c:H b=some u)(d:o≠u):a≠b:=by
 intro e;subst e;rw[h]at c;exact d (dC.inj c)
theorem pC(h:H a=some o)(c:H b=none):a≠b:=by
 intro e;subst e;rw[h]at c;cases c
section
variable (P:aWm)(w:aWr)
def k6(H:Hp)(h:aWi)(a:aWe):HO->Prop
 | .lst xs=>xs.length<=sizeLine/\∃(c:XI)(n:Nat),aA xs c/\h.get? a=some {cls:=.type "list",data:=.seq c.toArray n}
 | .tup xs=>xs.length<=sizeLine/\∃c:XI,aA xs c/\IsTup h a c.toArray
 | .dK kvs=>kvs.length<=sizeLine/\(a==aXe)=false/\∃vs,KV kvs vs/\h.DictOf (j6 P w) a vs
 | .dT kvs=>kvs.length<=sizeLine/\(a==aXe)=false/\∃xs:List (List Key×aWe×aWf),
  Paired (fun(p:List Key×V) (q:List Key×aWe×aWf)=>p.1=q.1/\H q.2.1=some (.tup (p.1.map kV))/\RelV p.2 q.2.2) kvs xs/\
  ∃o k r,h.get? a=some o/\o.ExactDict/\o.data=.dict k r/\k.toList=xs.map (entryOfKey (aYi (j6 P w)))/\(xs.map (·.1)).Nodup
 | .set S n=>h.SetOf (intKind P w) a S n
 | .ins C dx fs=>H dx=some (.own a)/\fs.length<=1000/\dx≠a/\h.get? a=some (Yb C dx)/\
  ∃d,h.Ns1 dx d/\(∀f,rN (fs.lookup f) (d f))/\PySem.Within d (fs.map (·.1))
 | .own _=>∃o,h.get? a=some o
 | .xd fs=>∃d,h.Ns1 a d/\∀f,rN (fs.lookup f) (d f)
 | .hQ lo m=>∃t u v,h.get? a=some {cls:=.type "range",data:=.fields #[.int lo t,.int m u,.int 1 v]}
 | .ft o u=>h.get? a=some o/\k6 H h a u
 | .zi l=>h.get? a=some {cls:=.none,data:=.fields l}
 | .met f x=>h.get? a=some (ZM (.ref f) (.ref x))
 | .ext g=>g h/\(∃o,h.get? a=some o)/\∀j i:aWi,g j->(∀o,j.get? a=some o->i.get? a=some o)->g i
def gg(H:Hp)(h:aWi):Prop:=∀a o,H a=some o->k6 P w H h a o
end
section
variable {P:aWm}{w:aWr}{H g:Hp}{h h':aWi}{a:aWe}{o:HO}
theorem k6.lt(x:k6 P w H h a o):a<h.objs.size:=by
 cases o with
 |lst xs=>obtain⟨_,_,_,_,e⟩:=x;exact aWi.lt_size e
 |tup xs=>obtain⟨_,_,_,p⟩:=x;exact p.lt
 |dK c=>obtain⟨_,_,_,_,o,_,_,e,_⟩:=x;exact aWi.lt_size e
 |dT c=>obtain⟨_,_,_,_,o,_,_,e,_⟩:=x;exact aWi.lt_size e
 |set S n=>obtain⟨o,_,_,_,e,_⟩:=x;exact aWi.lt_size e
 |ins C dx fs=>obtain⟨_,_,_,e,_⟩:=x;exact aWi.lt_size e
 |own y=>obtain⟨_,e⟩:=x;exact aWi.lt_size e
 |xd fs=>obtain⟨_,⟨_,_,_,e,_⟩,_⟩:=x;exact aWi.lt_size e
 |hQ lo j=>obtain⟨_,_,_,e⟩:=x;exact aWi.lt_size e
 |ft ob u=>obtain⟨e,_⟩:=x;exact aWi.lt_size e
 |zi i=>exact aWi.lt_size (show h.get? a=some _ from x)
 |met f y=>exact aWi.lt_size (show h.get? a=some _ from x)
 |ext d=>obtain⟨_,⟨_,e⟩,_⟩:=x;exact aWi.lt_size e
theorem Paired.Ac{i d:Type}{F G:i->d->Prop}:∀{j:List i}{c:List d},Paired F j c->(∀a b,F a b->G a b)->Paired G j c
 |_,_,.nil,_=>.nil
 |_,_,.cons r t,f=>.cons (f _ _ r) (Paired.Ac t f)
theorem k6.ig(x:k6 P w H h a o)(k:∀b u,(b=a\/H b=some (.own a))->h.get? b=some u->h'.get? b=some u)
 (F:∀b,H b=some (.own a)->g b=some (.own a))(D:∀b xs,H b=some (.tup xs)->g b=some (.tup xs)):k6 P w g h' a o:=by
 induction o with
 |lst xs=>obtain⟨z,l,n,r,e⟩:=x;exact⟨z,l,n,r,k _ _ (.inl rfl) e⟩
 |tup xs=>obtain⟨z,l,r,ob,e,c⟩:=x;exact⟨z,l,r,ob,k _ _ (.inl rfl) e,c⟩
 |dK s=>obtain⟨z,y,vs,r,ob,i,j,e,c⟩:=x;exact⟨z,y,vs,r,ob,i,j,k _ _ (.inl rfl) e,c⟩
 |dT s=>
  obtain⟨z,y,xs,r,ob,i,j,e,c⟩:=x;exact⟨z,y,xs,Paired.Ac r λp q z=>⟨z.1,D _ _ z.2.1,z.2.2⟩,ob,i,j,k _ _ (.inl rfl) e,c⟩
 |set S n=>obtain⟨ob,i,j,t,e,c⟩:=x;exact⟨ob,i,j,t,k _ _ (.inl rfl) e,c⟩
 |ins C dx fs=>
  obtain⟨d,z,B,e,m,⟨od,i,j,G,c⟩,r⟩:=x;exact⟨F _ d,z,B,k _ _ (.inl rfl) e,m,⟨od,i,j,k _ _ (.inr d) G,c⟩,r⟩
 |own y=>obtain⟨ob,e⟩:=x;exact⟨ob,k _ _ (.inl rfl) e⟩
 |xd fs=>obtain⟨m,⟨od,i,j,e,c⟩,r⟩:=x;exact⟨m,⟨od,i,j,k _ _ (.inl rfl) e,c⟩,r⟩
 |hQ lo J=>obtain⟨t,u,v,e⟩:=x;exact⟨t,u,v,k _ _ (.inl rfl) e⟩
 |ft ob u ih=>obtain⟨e,q⟩:=x;exact⟨k _ _ (.inl rfl) e,ih q⟩
 |zi A=>
  have e:h.get? a=some {cls:=.none,data:=.fields A}:=x;show h'.get? a=some {cls:=.none,data:=.fields A};exact k a _ (.inl rfl) e
 |met f y=>
  have e:h.get? a=some (ZM (.ref f) (.ref y)):=x;show h'.get? a=some (ZM (.ref f) (.ref y));exact k a _ (.inl rfl) e
 |ext I=>obtain⟨p,⟨o,e⟩,st⟩:=x;exact⟨st _ _ p λo q=>k _ _ (.inl rfl) q,⟨o,k _ _ (.inl rfl) e⟩,st⟩
theorem gg.lt(x:gg P w H h)(e:H a=some o):a<h.objs.size:=(x a o e).lt
theorem gg.fresh(x:gg P w H h)(e:h.objs.size<=a):H a=none:=by
 cases q:H a with
 |none=>rfl
 |some u=>exact absurd (aM (x.lt q) e) (d4 _)
theorem gg.kept(x:gg P w H h)(k:∀b u,h.get? b=some u->h'.get? b=some u):gg P w H h':=λa o e=>
 (x a o e).ig (λb u _ q=>k b u q) (λ_ q=>q) λ_ _ q=>q
theorem gg.laid(x:gg P w H h)(k:∀b u,h.get? b=some u->h'.get? b=some u)(j:h.objs.size<=a)(d:k6 P w (upd H a o) h' a o):gg P w (upd H a o) h':=λb u e=>by
 have f:=x.fresh j;by_cases i:b=a
 .subst i;rw[kD]at e;cases e;exact d
 .rw[gJ i]at e;exact(x b u e).ig (λc v _ q=>k c v q) (λc q=>by rw[gJ (pC q f)];exact q) λc xs q=>by rw[gJ (pC q f)];exact q
end
def Rd(H:Hp)(a:aWe)(u:HO):Prop:=H a=some u\/∃o,H a=some (.ft o u)
theorem Rd.ok{P:aWm}{w:aWr}{H:Hp}{h:aWi}{a:aWe}{u:HO}(r:Rd H a u)(x:gg P w H h):k6 P w H h a u:=by
 rcases r with r| ⟨o,r⟩
 .exact x a u r
 .obtain⟨_,q⟩:=x a _ r;exact q
def CV:Option HO->Prop
 |some (.lst _)=>True
 |some (.dK _)=>True
 |some (.dT _)=>True
 |some (.set _ _)=>True
 |some (.ins _ _ _)=>True
 |some (.ext _)=>True
 |_=>False
section
variable {P:aWm}{w:aWr}{H:Hp}{h d:aWi}{x e:aWe}{f:HO}
theorem gg.write(ok:gg P w H h)(g:CV (H x))(s:e=x\/H e=some (.own x))(k:∀b u,b≠e->h.get? b=some u->d.get? b=some u)(A:∃u,d.get? e=some u)
 (m:k6 P w (upd H x f) d x f):gg P w (upd H x f) d:=λb u q=>by
 have n:∀c y,H c=some (.own y)->c≠x:=λc y r z=>by subst z;rw[r]at g;exact g
 have t:∀c xs,H c=some (.tup xs)->c≠x:=λc xs r z=>by subst z;rw[r]at g;exact g
 by_cases l:b=x
 .subst l;rw[kD]at q;cases q;exact m
 .rw[gJ l]at q;by_cases i:b=e
  .have p:H b=some (.own x):=by
    rcases s with z|z
    .exact absurd (i.trans z) l
    .rw[i];exact z
   rw[q]at p;cases p;obtain⟨v,B⟩:=A;exact⟨v,by rw[i];exact B⟩
  .refine(ok b u q).ig (λc v j r=>k c v ?_ r) (λc r=>by rw[gJ (n c b r)];exact r) λc xs r=>by rw[gJ (t c xs r)];exact r
   rcases j with rfl|j
   .exact i
   .rintro rfl;rcases s with z|z
    .exact n c b j z
    .rw[j]at z;cases z;exact l rfl
end
structure Un(fs ex:List aWe)(H H':Hp)(h h':aWi):Prop where
 keep:∀b o,h.get? b=some o->H b=none->b∉fs->b∉ex->h'.get? b=some o
 slot:∀b o,h.get? b=some o->H b=none->b∈fs->b∉ex->∃sl,h'.get? b=some {o with slots:=sl}
 free:∀b o,h.get? b=some o->H b=none->b∉ex->H' b=none
 there:∀b o,h.get? b=some o->b∉ex->∃o',h'.get? b=some o'
 ki:∀b xs,H b=some (.tup xs)->H' b=some (.tup xs)
 jj:∀b o u,H b=some (.ft o u)->H' b=some (.ft o u)
 kj:∀b ps,H b=some (.zi ps)->∃more,H' b=some (.zi (ps++more))
section
variable {fs f ex g:List aWe}{H d i:Hp}{h c j h':aWi}{a x e:aWe}{o:HO}
theorem Un.any(u:Un fs ex H d h c){b:aWe}{ob:Obj}(q:h.get? b=some ob)(n:H b=none)(k:b∉ex):∃sl,c.get? b=some {ob with slots:=sl}:=by
 by_cases l:b∈fs
 .exact u.slot b ob q n l k
 .exact⟨ob.slots,u.keep b ob q n l k⟩
theorem Un.kept(k:∀b u,h.get? b=some u->h'.get? b=some u):Un fs ex H H h h':=
 ⟨λb ob q _ _ _=>k b ob q,λb ob q _ _ _=>⟨ob.slots,k b ob q⟩,λ_ _ _ n _=>n,λb ob q _=>⟨ob,k b ob q⟩,λ_ _ q=>q,λ_ _ _ q=>q,λ_ l q=>⟨#[],by rw[q];simp⟩⟩
theorem Un.refl:Un fs ex H H h h:=Un.kept λ_ _ q=>q
theorem Un.laid(k:∀b u,h.get? b=some u->h'.get? b=some u)(m:h.objs.size<=a)(l:H a=none):Un fs ex H (upd H a o) h h' where
 keep:=λb u q _ _ _=>k b u q
 slot:=λb u q _ _ _=>⟨u.slots,k b u q⟩
 free:=λb u q n _=>by rw[gJ (bW (aM (aWi.lt_size q) m))];exact n
 there:=λb u q _=>⟨u,k b u q⟩
 ki:=λb xs q=>by rw[gJ (pC q l)];exact q
 jj:=λb u xs q=>by rw[gJ (pC q l)];exact q
 kj:=λb p q=>⟨#[],by rw[gJ (pC q l),q];simp⟩
theorem Un.write(l:CV (H x))(y:e=x\/H e=some (.own x))(k:∀b u,b≠e->h.get? b=some u->h'.get? b=some u)(v:∃u,h'.get? e=some u):Un fs ex H (upd H x o) h h':=by
 have s:∀b,H b=none->b≠x:=λb n z=>by subst z;rw[n]at l;exact l
 have t:∀b,H b=none->b≠e:=λb n z=>by
  subst z;rcases y with r|r
  .exact s b n r
  .rw[n]at r;cases r
 have m:∀b u,H b=some u->¬CV (some u)->b≠x:=λb u q w z=>by subst z;rw[q]at l;exact w l
 refine⟨λb u q n _ _=>k b u (t b n) q,λb u q n _ _=>⟨u.slots,k b u (t b n) q⟩,λb u q n _=>by rw[gJ (s b n)];exact n,λb u q _=>?_,
  λb xs q=>by rw[gJ (m b _ q λz=>z)];exact q,λb u xs q=>by rw[gJ (m b _ q λz=>z)];exact q,λb A q=>⟨#[],by rw[gJ (m b _ q λz=>z),q];simp⟩⟩
 by_cases p:b=e
 .subst p;exact v
 .exact⟨u,k b u p q⟩
end
noncomputable def Dd(h:aWi)(H:Hp):List aWe:=(bH h.objs.size).filter λa=>(H a).isSome
def u0(h:aWi)(H:Hp):aWi:=PySem.W.hideAll h (Dd h H)
theorem UB(h:aWi)(H:Hp):(u0 h H).objs.size=h.objs.size:=PySem.W.hideAll_size _ _
theorem Ut{h:aWi}{H:Hp}{b:aWe}{o:Obj}(e:h.get? b=some o)(n:H b=none):(u0 h H).get? b=some o:=
 PySem.W.hideAll_get _ e λc=>by
  have q:(H b).isSome=true:=(jO c).2;rw[n]at q;simp at q
theorem SX{h:aWi}{H:Hp}{b:aWe}{o:Obj}(e:(u0 h H).get? b=some o):h.get? b=some o/\H b=none:=by
 have c:h.get? b=some o:=PySem.W.of_hideAll (Dd h H) e;refine⟨c,?_⟩;cases q:H b with
 |none=>rfl
 |some x=>
  have d:b∈Dd h H:=YJ.mpr ⟨lL (aWi.lt_size c),by simp[q]⟩;have z:(u0 h H).get? b=none:=PySem.W.hideAll_none (Dd h H) d;rw[z]at e;cases e
noncomputable def uv(g h:aWi)(L:aWe):List (aWe×Obj):=(bH h.objs.size).filterMap λa=>if a=L\/(g.get? a).isSome=true then none else(h.get? a).map λo=>(a,o)
def rest(g h:aWi)(L d:aWe):List (aWe×Obj):=(uv g h L).filter λp=>decide (p.1≠d)
structure Mod(K:aL)(mg:Str->XM)(base:aWi):Prop where
 B1:K.In base
 glob:base.Ns aWk mg
 blt:∃mb,base.Ns builtinsNs mb/\∀x:Str,x≠"__name__"->mb x=aXn x
 nolimit:base.NoLimit
structure Cx where
 prog:aWm
 w:aWr
 K:aL
 mg:Str->XM
 base:aWi
 A:aWn
 N:XJ
 eH:aWg
 aG:Hp
 env:Env
 outer:List Env
 stack:List Env
 ex:List aWe
 fn:Str->Bool
 calm:Bool
 pn:List (aWe×Obj)
 xe:XN
noncomputable def b4(l:List Env):List aWe:=l.filterMap (·.frame)
abbrev Cx.fs(X:Cx):List aWe:=b4 X.outer
def Ee(c:aXt)(x:Str):Prop:=c.names.lookup x=some .local\/c.names.lookup x=some .cell\/c.names.lookup x=some .free
def Loc(c:aXt)(x:Str):Prop:=c.names.lookup x=some .local\/c.names.lookup x=some .cell
def Look(env:Env)(h:aWi)(m:Str->XM)(x:Str)(u:aWf):Prop:=
 (env.kindOf x=some .local/\m x=some u)\/((env.kindOf x=some .cell\/env.kindOf x=some .free)/\∃c,env.cells.lookup x=some c/\h.IsCell c (some u))
structure Cx.Ok(X:Cx):Prop where
 mod:Mod X.K X.mg X.base
 kind:X.env.scope.kind=.function
 glob:X.env.globals=aWk
 blt:X.env.builtins=builtinsNs
 above:X.eH.heap.objs.size<=X.env.locals
 inj:∀x y c,X.env.cells.lookup x=some c->X.env.cells.lookup y=some c->x=y
 has:∀x,(X.env.kindOf x=some .cell\/X.env.kindOf x=some .free)->∃c,X.env.cells.lookup x=some c
 Cd:∀x c,X.fn x=true->X.env.cells.lookup x=some c->X.eH.heap.objs.size<=c
 hd:X.calm=true->X.A.handled=none
 frames:X.A.frames=some X.stack
 Dh:X.stack=X.outer\/(X.stack=X.env::X.outer/\X.env.frame=some X.env.locals)
 EU:∀b∈X.ex,b≠X.env.locals/\∀x c,X.env.cells.lookup x=some c->c≠b
 bs:∀b o,X.base.get? b=some o->X.eH.heap.get? b=some o/\X.aG b=none
 uq:X.base.objs.size<=X.eH.heap.objs.size
 rz:∀b o,X.base.get? b=some o->b∉X.ex
 ta:∀b∈X.ex,b∉X.fs
 ir:X.eH.heap.FunFrames X.base X.outer
 Ah:∀b∈X.fs,X.aG b=none
structure Inv(X:Cx)(aa:List (aWe×Obj))(σ:List Xz)(H:Hp)(s:aWg):Prop where
 ok:X.Ok
 os:s.os=X.eH.os
 bare:AllBare s.gens
 base:Un X.fs X.ex X.aG H X.eH.heap s.heap
 loc:∃m,s.heap.Ns X.env.locals m/\∀(i:Nat)(x:Str)(v:V),X.N[i]?=some x->σ[i]?=some (some v)->Ee X.env.scope x->∃u,RelV v u/\Look X.env s.heap m x u
 cell:∀x c,X.env.cells.lookup x=some c->∃v,s.heap.IsCell c v
 free:H X.env.locals=none
 dv:∀x c,X.env.cells.lookup x=some c->H c=none
 pin:∀p∈X.pn++aa,s.heap.get? p.1=some p.2/\H p.1=none/\p.1≠X.env.locals/\p.1∉X.fs/\∀v,p.2.data≠ .cell v
 bz:gg X.prog X.w H s.heap
 len:σ.length=X.N.length
section
variable {X:Cx}{aa:List (aWe×Obj)}{σ:List Xz}{H f:Hp}{s:aWg}{h':aWi}
variable{g':Array GenState}{t' i:Nat}{d':Drawn}{ch:List aWe}{x:Str}{M:Model}{A:aWn}{E:XN}{v:V}{u:aWf}{Q:Unit->aWg->Prop}
theorem Cx.Ok.Ez(ok:X.Ok){b:aWe}{o:Obj}(e:X.base.get? b=some o):b∉X.fs:=λc=>by
 have:=(ok.ir.mem c).1;rw[e]at this;cases this
theorem Inv.bs(I:Inv X aa σ H s):∀b o,X.base.get? b=some o->s.heap.get? b=some o/\H b=none:=λb o e=>
 ⟨I.base.keep b o (I.ok.bs b o e).1 (I.ok.bs b o e).2 (I.ok.Ez e) (I.ok.rz b o e),I.base.free b o (I.ok.bs b o e).1 (I.ok.bs b o e).2 (I.ok.rz b o e)⟩
theorem Inv.bk(I:Inv X aa σ H s):∀b o,X.base.get? b=some o->s.heap.get? b=some o:=λb o e=>(I.bs b o e).1
theorem Inv.mod(I:Inv X aa σ H s):Mod X.K X.mg X.base:=I.ok.mod
theorem Inv.jw(I:Inv X aa σ H s):X.K.In s.heap:=I.ok.mod.B1.keeps I.bk
theorem Inv.lt(I:Inv X aa σ H s):X.env.locals<s.heap.objs.size:=let ⟨_,c,_⟩:=I.loc;c.lt
theorem Inv.sz(I:Inv X aa σ H s):X.eH.heap.objs.size<=s.heap.objs.size:=bB I.ok.above (dY I.lt)
theorem Inv.Ey(I:Inv X aa σ H s){a:aWe}(h:s.heap.objs.size<=a):a∉X.fs:=λd=>by
 obtain⟨_,o,c,_⟩:=I.ok.ir.mem d;exact absurd (aM (aWi.lt_size c) (bB I.sz h)) (d4 _)
theorem Inv.ye(I:Inv X aa σ H s):∀x c,X.env.cells.lookup x=some c->c≠X.env.locals:=λx c e z=>by
 obtain⟨v,o,d,g⟩:=I.cell x c e;obtain⟨m,⟨k,l,n,j,h,_⟩,_⟩:=I.loc;rw[z,j]at d;cases d;rw[h]at g;cases g
theorem Inv.ir(I:Inv X aa σ H s):s.heap.FunFrames X.base X.outer:=by
 have all:∀(l:List Env),(∀b∈b4 l,b∈X.fs)->X.eH.heap.FunFrames X.base l->s.heap.FunFrames X.base l:=by
  intro l;induction l with
  |nil=>intro _ _;trivial
  |cons env r ih=>
   intro h n;obtain⟨p,⟨L,o,c,m,k,q⟩,j⟩:=n;have g:L∈X.fs:=h L (by unfold b4;rw[eG,c];exact bM);obtain⟨sl,e⟩:=I.base.slot L o k (I.ok.Ah L g) g λz=>I.ok.ta L z g
   exact⟨p,⟨L,_,c,m,e,q⟩,ih (λb d=>h b (by unfold b4;rw[eG,c];exact bA _ d)) j⟩
 exact all X.outer (λ_ d=>d) I.ok.ir
theorem Inv.stack(I:Inv X aa σ H s):s.heap.FunFrames X.base X.stack:=by
 rcases I.ok.Dh with e| ⟨e,d⟩
 .rw[e];exact I.ir
 .rw[e];obtain⟨m,c,_⟩:=I.loc;refine .cons (by rw[I.ok.kind];decide) d c ?_ I.ir;exact aWi.get?_none_of_le (bB I.ok.uq I.ok.above)
theorem Inv.mm(I:Inv X aa σ H s):∀b∈b4 X.stack,b∈X.env.locals::X.fs:=λb c=>by
 rcases I.ok.Dh with e| ⟨e,d⟩
 .rw[e]at c;exact bA _ c
 .rw[e]at c;unfold b4 at c;rw[eG,d]at c;exact c
theorem Inv.ny(I:Inv X aa σ H s):∀b∈b4 X.stack,H b=none:=λb c=>by
 rcases fU (I.mm b c)with e|c
 .rw[e];exact I.free
 .obtain⟨_,o,d,_⟩:=I.ok.ir.mem c;exact I.base.free b o d (I.ok.Ah b c) λz=>I.ok.ta b z c
theorem Inv.step(I:Inv X aa σ H s)
 (L:∀b∈ch,(b∈X.ex\/X.eH.heap.objs.size<=b)/\b≠X.env.locals/\(∀x c,X.env.cells.lookup x=some c->c≠b)/\∀p∈X.pn++aa,p.1≠b)
 (keep:∀b o,b≠X.env.locals->b∉X.fs->b∉ch->s.heap.get? b=some o->H b=none->h'.get? b=some o)
 (slot:∀b o,b≠X.env.locals->b∈X.fs->b∉ch->s.heap.get? b=some o->H b=none->∃sl,h'.get? b=some {o with slots:=sl})(free:∀b o,b∉ch->s.heap.get? b=some o->H b=none->f b=none)
 (t:∀b o,b∉ch->s.heap.get? b=some o->∃D,h'.get? b=some D)
 (B:∀b xs,H b=some (.tup xs)->f b=some (.tup xs))(J:∀b o u,H b=some (.ft o u)->f b=some (.ft o u))(C:∀b O,H b=some (.zi O)->∃more,f b=some (.zi (O++more)))
 (ns:∀m,s.heap.Ns X.env.locals m->h'.Ns X.env.locals m)(R:gg X.prog X.w f h')(hg:AllBare g'):
 Inv X aa σ f {s with heap:=h',gens:=g',drawn:=d',toks:=t'}:=by
 have F:∀b o,X.eH.heap.get? b=some o->b≠X.env.locals:=λb o e=>bW (aM (aWi.lt_size e) I.ok.above);have N:∀b o,X.eH.heap.get? b=some o->b∉X.ex->b∉ch:=λb o e g w=>by
  rcases(L b w).1 with z|z
  .exact g z
  .exact absurd (aM (aWi.lt_size e) z) (d4 _)
 have h:∀x c,X.env.cells.lookup x=some c->∀v,s.heap.IsCell c v->h'.IsCell c v:=λx c e v ⟨o,y,S⟩=>by
  have G:c∉ch:=λz=>(L c z).2.2.1 x c e rfl;by_cases hc:c∈X.fs
  .obtain⟨sl,q⟩:=slot c o (I.ye x c e) hc G y (I.dv x c e);exact⟨_,q,S⟩
  .exact⟨o,keep c o (I.ye x c e) hc G y (I.dv x c e),S⟩
 refine⟨I.ok,I.os,hg,⟨λb o e n w g=>?_,λb o e n w g=>?_,λb o e n g=>?_,λb o e g=>?_,λb xs e=>B b xs (I.base.ki b xs e),λb o xs e=>J b o xs (I.base.jj b o xs e),λb O e=>?_⟩,?_,λx c e=>?_,?_,λx c e=>?_,λp Z=>?_,R,I.len⟩
 .exact keep b o (F b o e) w (N b o e g) (I.base.keep b o e n w g) (I.base.free b o e n g)
 .obtain⟨sl,j⟩:=I.base.slot b o e n w g;obtain⟨P,K⟩:=slot b _ (F b o e) w (N b o e g) j (I.base.free b o e n g);exact⟨P,K⟩
 .obtain⟨D,j⟩:=I.base.there b o e g;exact free b D (N b o e g) j (I.base.free b o e n g)
 .obtain⟨D,j⟩:=I.base.there b o e g;exact t b D (N b o e g) j
 .obtain⟨m1,j⟩:=I.base.kj b O e;obtain⟨m2,K⟩:=C b _ j;exact⟨m1++m2,by rw[K,Array.append_assoc]⟩
 .obtain⟨m,hn,hl⟩:=I.loc;refine⟨m,ns m hn,λi x v j K e3=>?_⟩;obtain⟨u,r,l⟩:=hl i x v j K e3;refine⟨u,r,?_⟩;rcases l with l| ⟨k,c,e,z⟩
  .exact .inl l
  .exact .inr ⟨k,c,e,h x c e _ z⟩
 .obtain⟨v,z⟩:=I.cell x c e;exact⟨v,h x c e v z⟩
 .obtain⟨m,⟨o,_,_,y,_⟩,_⟩:=I.loc;exact free _ o (λz=>(L _ z).2.1 rfl) y I.free
 .obtain⟨v,o,y,S⟩:=I.cell x c e;exact free c o (λz=>(L c z).2.2.1 x c e rfl) y (I.dv x c e)
 .obtain⟨e,n,Y,U,d⟩:=I.pin p Z;have G:p.1∉ch:=λz=>(L p.1 z).2.2.2 p Z rfl;exact⟨keep p.1 p.2 Y U G e n,free p.1 p.2 G e n,Y,U,d⟩
theorem Inv.un(I:Inv X aa σ H s)(u:Un X.fs [] H f s.heap h')(c:gg X.prog X.w f h'):Inv X aa σ f {s with heap:=h',toks:=t'}:=by
 obtain⟨m,⟨o,y,B,k,r⟩,_⟩:=id I.loc;obtain⟨sl,q⟩:=u.any k I.free (by simp);exact I.step (g':=s.gens) (d':=s.drawn) (ch:=[]) (λ_ z=>nomatch z) (λb o _ d _ e n=>u.keep b o e n d (by simp)) (λb o _ d _ e n=>u.slot b o e n d (by simp)) (λb o _ e n=>u.free b o e n (by simp)) (λb o _ e=>u.there b o e (by simp)) u.ki u.jj u.kj (λw p=>by
  obtain⟨t,g,h,j,l⟩:=p;rw[k]at j;cases j;exact⟨_,g,h,q,l⟩) c I.bare
theorem Inv.call(I:Inv X aa σ H s)(u:Un (b4 X.stack) ch H f s.heap h')(g:gg X.prog X.w f h')(B:AllBare g')
 (t:∀b∈ch,(b∈X.ex\/X.eH.heap.objs.size<=b)/\b≠X.env.locals/\(∀x c,X.env.cells.lookup x=some c->c≠b)/\∀p∈X.pn++aa,p.1≠b):
 Inv X aa σ f {s with heap:=h',gens:=g',drawn:=d',toks:=t'}:=by
 obtain⟨m,⟨o,G,J,q,r⟩,_⟩:=id I.loc;obtain⟨sl,h⟩:=u.any q I.free λz=>(t _ z).2.1 rfl
 exact I.step (ch:=ch) t (λb o h C d e n=>u.keep b o e n (λz=>(fU (I.mm b z)).elim h C) d) (λb o _ _ d e n=>u.any e n d) (λb o d e n=>u.free b o e n d) (λb o d e=>u.there b o e d) u.ki u.jj u.kj (λF y=>by
  obtain⟨D,j,k,l,w⟩:=y;rw[q]at l;cases l;exact⟨_,j,k,h,w⟩) g B
theorem Inv.turned{d:aWe}(I:Inv X aa σ H s)(k:∀b o,b≠d->s.heap.get? b=some o->h'.get? b=some o)(t:H d=none)(j:d≠X.env.locals)
 (D:d∈X.ex\/X.eH.heap.objs.size<=d)(C:∀x c,X.env.cells.lookup x=some c->c≠d)(B:∀p∈X.pn++aa,p.1≠d):Inv X aa σ H {s with heap:=h',toks:=t'}:=by
 have h:∀b u,H b=some u->b≠d:=λb u e z=>by rw[z,t]at e;cases e
 refine I.step (g':=s.gens) (d':=s.drawn) (ch:=[d]) (λb y=>?_) (λb o _ _ g e _=>k b o (λz=>g (by simp[z])) e) (λb o _ _ g e _=>⟨o.slots,k b o (λz=>g (by simp[z])) e⟩) (λ_ _ _ _ n=>n)
  (λb o g e=>⟨o,k b o (λz=>g (by simp[z])) e⟩) (λ_ _ e=>e) (λ_ _ _ e=>e) (λb J e=>⟨#[],by rw[e];simp⟩) (λm w=>?_) (λb u e=>?_) I.bare
 .have e:b=d:=by simpa using y
  subst e;exact⟨D,j,C,B⟩
 .obtain⟨o,F,G,l,r⟩:=w;exact⟨o,F,G,k _ o (Ne.symm j) l,r⟩
 .refine(I.bz b u e).ig (λc v g q=>k c v ?_ q) (λ_ q=>q) λ_ _ q=>q;rcases g with z|z
  .rw[z];exact h b u e
  .exact h c _ z
theorem Inv.tok(I:Inv X aa σ H s)(t:Nat):Inv X aa σ H {s with toks:=t}:=I.un (h':=s.heap) (t':=t) Un.refl I.bz
theorem Inv.kept(I:Inv X aa σ H s)(k:∀b u,s.heap.get? b=some u->h'.get? b=some u):Inv X aa σ H {s with heap:=h',toks:=t'}:=I.un (Un.kept k) (I.bz.kept k)
theorem Inv.laid{a:aWe}{o:HO}(I:Inv X aa σ H s)(k:∀b u,s.heap.get? b=some u->h'.get? b=some u)(d:s.heap.objs.size<=a)(c:k6 X.prog X.w (upd H a o) h' a o):
 Inv X aa σ (upd H a o) {s with heap:=h',toks:=t'}:=I.un (Un.laid k d (I.bz.fresh d)) (I.bz.laid k d c)
theorem Inv.write{x e:aWe}{o:HO}(I:Inv X aa σ H s)(g:CV (H x))(h:e=x\/H e=some (.own x))(k:∀b u,b≠e->s.heap.get? b=some u->h'.get? b=some u)(d:∃u,h'.get? e=some u)
 (c:k6 X.prog X.w (upd H x o) h' x o):Inv X aa σ (upd H x o) {s with heap:=h',toks:=t'}:=I.un (Un.write g h k d) (I.bz.write g h k d c)
theorem Inv.n1{c:List (aWe×Obj)}(I:Inv X aa σ H s)(h:∀p∈c,s.heap.get? p.1=some p.2/\H p.1=none/\p.1≠X.env.locals/\p.1∉X.fs/\∀v,p.2.data≠ .cell v):Inv X c σ H s:=
 ⟨I.ok,I.os,I.bare,I.base,I.loc,I.cell,I.free,I.dv,λp d=>(fZ d).elim (λz=>I.pin p (eX _ z)) (h p),I.bz,I.len⟩
theorem LJ{N:XJ}(c:N.Nodup){j:Nat}(a:N[i]?=some x)(b:N[j]?=some x):i=j:=by
 obtain⟨k,g⟩:=fK a;obtain⟨h,d⟩:=fK b;exact(Zg c).mp (g.trans d.symm)
theorem Ma(I:Inv X aa σ H s)(hN:X.N.Nodup)(N:X.N[i]?=some x)(B:Loc X.env.scope x)(r:RelV v u)
 (h:∀s',Inv X aa (σ.set i (some v)) H s'->(∃a,aWi.SameBut a s.heap s'.heap/\(a=X.env.locals\/X.env.cells.lookup x=some a))->Q () s')(hf:X.fn x=true\/X.env.scope.names.lookup x=some .local:=by first|exact .inl rfl|exact .inr rfl|assumption):aWj M A (storeName X.env x u) Q E s:=by
 obtain⟨m,hn,hl⟩:=id I.loc;have O:(X.env.scope.kind== .class||(X.env.scope.kind== .module&&X.env.locals !=X.env.globals))=false:=by rw[I.ok.kind];rfl
 have vd:i<σ.length:=by rw[I.len];exact(fK N).1
 have ye:=I.ye;have l:∀{a:aWe}{h':aWi},(∃o,s.heap.get? a=some o/\H a=none)->aWi.SameBut a s.heap h'->gg X.prog X.w H h':=λ{a h'} ha g b ob e=>by
  obtain⟨_,_,fg⟩:=ha;refine(I.bz b ob e).ig (λc R w q=>(g.2 c ?_).trans q) (λ_ q=>q) λ_ _ q=>q;rintro rfl;rcases w with rfl|w
  .rw[fg]at e;cases e
  .rw[fg]at w;cases w
 rcases B with D|D
 .refine wpAny_storeName_local D hn (λh' ly g=>?_) O;obtain⟨oL,_,_,xl,_⟩:=id hn;refine h _ ⟨I.ok,I.os,I.bare,⟨λb o e n J B=>?_,λb o e n J B=>?_,I.base.free,λb o e B=>?_,I.base.ki,I.base.jj,I.base.kj⟩,⟨_,ly,λj y Y t C e3=>?_⟩,λy c e=>?_,I.free,I.dv,λp hp=>?_,l ⟨oL,xl,I.free⟩ g,by simpa using I.len⟩ ⟨_,g,.inl rfl⟩
  .exact(g.2 b (bW (aM (aWi.lt_size e) I.ok.above))).trans (I.base.keep b o e n J B)
  .obtain⟨sl,t⟩:=I.base.slot b o e n J B;exact⟨sl,(g.2 b (bW (aM (aWi.lt_size e) I.ok.above))).trans t⟩
  .obtain⟨o',t⟩:=I.base.there b o e B;exact⟨o',(g.2 b (bW (aM (aWi.lt_size e) I.ok.above))).trans t⟩
  .by_cases F:j=i
   .subst F;rw[N]at t;cases t;rw[bT vd]at C;cases C;exact⟨u,r,.inl ⟨D,by simp⟩⟩
   .rw[aQ (Ne.symm F)]at C;obtain⟨Z,r',q⟩:=hl j y Y t C e3;refine⟨Z,r',?_⟩;rcases q with⟨k,e⟩| ⟨k,c,e,z⟩
    .refine .inl ⟨k,?_⟩;have:y≠x:=λe=>F (LJ hN t (e ▸ N));simp[this,e]
    .exact .inr ⟨k,c,e,z.sameBut g (ye y c e)⟩
  .obtain⟨R,z⟩:=I.cell y c e;exact⟨R,z.sameBut g (ye y c e)⟩
  .obtain⟨e,n,S,nf,d⟩:=I.pin p hp;exact⟨(g.2 p.1 S).trans e,n,S,nf,d⟩
 .have G:X.fn x=true:=by
   rcases hf with z|z
   .exact z
   .rw[z]at D;cases D
  obtain⟨c,w⟩:=I.ok.has x (.inl D);obtain⟨R,z⟩:=I.cell x c w;refine wpAny_storeName_cell I.ok.kind D w z (λh' qo g=>?_);obtain⟨oc,L,K⟩:=id z;refine h {s with heap:=h'} ⟨I.ok,I.os,I.bare,⟨λb o e n J B=>?_,λb o e n J B=>?_,I.base.free,λb o e B=>?_,I.base.ki,I.base.jj,I.base.kj⟩,⟨m,hn.sameBut g (Ne.symm (ye x c w)),λj y Y t C e3=>?_⟩,λy U e=>?_,I.free,I.dv,λp hp=>?_,l ⟨oc,L,I.dv x c w⟩ g,by simpa using I.len⟩ ⟨c,g,.inr w⟩
  .exact(g.2 b (bW (aM (aWi.lt_size e) (I.ok.Cd x c G w)))).trans (I.base.keep b o e n J B)
  .obtain⟨sl,t⟩:=I.base.slot b o e n J B;exact⟨sl,(g.2 b (bW (aM (aWi.lt_size e) (I.ok.Cd x c G w)))).trans t⟩
  .obtain⟨o',t⟩:=I.base.there b o e B;exact⟨o',(g.2 b (bW (aM (aWi.lt_size e) (I.ok.Cd x c G w)))).trans t⟩
  .by_cases F:j=i
   .subst F;rw[N]at t;cases t;rw[bT vd]at C;cases C;exact⟨u,r,.inr ⟨.inl D,c,w,qo⟩⟩
   .rw[aQ (Ne.symm F)]at C;obtain⟨Z,r',q⟩:=hl j y Y t C e3;refine⟨Z,r',?_⟩;rcases q with q| ⟨k,U,e,z'⟩
    .exact .inl q
    .refine .inr ⟨k,U,e,z'.sameBut g ?_⟩;rintro rfl;exact F (LJ hN t (I.ok.inj _ _ _ e w ▸ N))
  .by_cases P:U=c
   .subst P;exact⟨_,qo⟩
   .obtain⟨w2,z2⟩:=I.cell y U e;exact⟨w2,z2.sameBut g P⟩
  .obtain⟨e,n,S,nf,d⟩:=I.pin p hp;refine⟨(g.2 p.1 ?_).trans e,n,S,nf,d⟩;intro q;rw[q,L]at e;have q':oc=p.2:=dC.inj e;exact d R (by rw[<-q'];exact K)
theorem GW(I:Inv X aa σ H s)(k:X.N.Nodup)(g:X.N[i]?=some x)(d:Loc X.env.scope x)(r:RelV v u)
 (h:∀c,Inv X aa (σ.set i (some v)) H c->Q () c)(j:X.fn x=true\/X.env.scope.names.lookup x=some .local:=by first|exact .inl rfl|exact .inr rfl|assumption):aWj M A (storeName X.env x u) Q E s:=
 Ma I k g d r (λc l _=>h c l) j
theorem Inv.Cc{s':aWg}(I:Inv X aa σ H s)(h:s'.os=s.os)(u:Un (b4 X.stack) ch H f s.heap s'.heap)(d:gg X.prog X.w f s'.heap)(j:AllBare s'.gens)
 (k:∀b∈ch,(b∈X.ex\/X.eH.heap.objs.size<=b)/\b≠X.env.locals/\(∀x c,X.env.cells.lookup x=some c->c≠b)/\∀p∈X.pn++aa,p.1≠b):Inv X aa σ f s':=by
 obtain⟨h',g',d',t',g⟩:=s';have e:g=s.os:=h;subst e;exact I.call (g':=g') (t':=t') (d':=d') u d j k
end
abbrev XK:=aWf->Option aWe->Hp->Prop
noncomputable abbrev St:=List Xz
abbrev VK:=V->Hp->Prop
abbrev TE:=St->Hp->VK->Prop
abbrev TT:=St->Hp->(Bool->Hp->Prop)->Prop
abbrev TA:=St->Hp->(Xy->Hp->Prop)->Prop
structure Ends where
 nx:St->Hp->Prop
 rt:VK
 bk:St->Hp->Prop:=λ_ _=>False
 ct:St->Hp->Prop:=λ_ _=>False
abbrev TS:=Ends->St->Hp->Prop
def EP(X:Cx)(g:List (aWe×Obj))(d:St)(Q:VK)(u:aWf)(f:aWg):Prop:=∃v c,Inv X g d c f/\RelV v u/\Q v c
def TP(X:Cx)(g:List (aWe×Obj))(d:St)(Q:Bool->Hp->Prop)(b:Bool)(f:aWg):Prop:=∃c,Inv X g d c f/\Q b c
def AP(X:Cx)(h:List (aWe×Obj))(d:St)(Q:Xy->Hp->Prop)(f:XI)(g:aWg):Prop:=∃vs c,Inv X h d c g/\aA vs f/\Q vs c
def SP(X:Cx)(h:List (aWe×Obj))(D:Ends)(f:Flow)(g:aWg):Prop:=
 match f with
 | .next=>∃d c,Inv X h d c g/\D.nx d c
 | .brk=>∃d c,Inv X h d c g/\D.bk d c
 | .cont=>∃d c,Inv X h d c g/\D.ct d c
 | .ret u=>∃v d c,Inv X h d c g/\RelV v u/\D.rt v c
def PE(X:Cx)(e:aWp)(t:TE):Prop:=
 ∀(d:List (aWe×Obj))(s:aWg)(c:St)(H:Hp)(Q:VK),Inv X d c H s->t c H Q->aWj (aWl X.prog X.w) X.A (aWq e X.env) (EP X d c Q) X.xe s
def PT(X:Cx)(e:aWp)(t:TT):Prop:=
 ∀(d:List (aWe×Obj))(s:aWg)(c:St)(H:Hp)(Q:Bool->Hp->Prop),Inv X d c H s->t c H Q->aWj (aWl X.prog X.w) X.A (isTrue e X.env (aWq e X.env)) (TP X d c Q) X.xe s
def PW(X:Cx)(e:aWp)(t:TT):Prop:=
 ∀(c:Sem aWf)(f:List (aWe×Obj))(s:aWg)(d:St)(H:Hp)(Q:Bool->Hp->Prop),Inv X f d H s->t d H Q->aWj (aWl X.prog X.w) X.A (isTrue e X.env c) (TP X f d Q) X.xe s
theorem PW.pt{X:Cx}{e:aWp}{t:TT}(h:PW X e t):PT X e t:=h _
def PA(X:Cx)(f:XO)(t:TA):Prop:=
 ∀(pos:Pos)(d:List (aWe×Obj))(s:aWg)(c:St)(H:Hp)(Q:Xy->Hp->Prop),Inv X d c H s->t c H Q->aWj (aWl X.prog X.w) X.A (spliced (aWs pos (aWd f X.env))) (AP X d c Q) X.xe s
def PS(X:Cx)(st:Stmt)(t:TS):Prop:=
 ∀(d:List (aWe×Obj))(s:aWg)(c:St)(H:Hp)(D:Ends),Inv X d c H s->t D c H->aWj (aWl X.prog X.w) X.A (exec st X.env) (SP X d D) X.xe s
def km(X:Cx)(st:List Stmt)(t:TS):Prop:=
 ∀(d:List (aWe×Obj))(s:aWg)(c:St)(H:Hp)(D:Ends),Inv X d c H s->t D c H->aWj (aWl X.prog X.w) X.A (execs st X.env) (SP X d D) X.xe s
theorem aI{c:Type}{t:Sem c}{Q d:c->aWg->Prop}{M:Model}{A:aWn}{E:XN}{s:aWg}(h:aWj M A t Q E s)(f:∀a s,Q a s->d a s):aWj M A t d E s:=aXb h f λ_ _ x=>x
section
variable {X:Cx}
variable{x:Str}{pos:Pos}{E Q:XN}{g:List (aWe×Obj)}{s:aWg}{f:St}{u:aWf}{v:V}
noncomputable def Bw(i:Nat):TE:=λf H Q=>∃v,f[i]?=some (some v)/\Q v H
noncomputable def tC(v:V):TE:=λ_ H Q=>Q v H
theorem Pt{i:Nat}(z:X.N[i]?=some x)(q:Ee X.env.scope x)(j:(x==("__debug__":Str))=false:=by decide)(p:(x==("__classdict__":Str))=false:=by decide):PE X (.Name x pos) (Bw i):=by
 intro g s f H Q I h;obtain⟨v,e,h⟩:=h;obtain⟨m,t,y⟩:=I.loc;obtain⟨u,r,l⟩:=y i x v z e q;have fin:EP X g f Q u s:=⟨v,H,I,r,h⟩;rcases l with⟨d,w⟩| ⟨d,c,n,k⟩
 .exact wpAny_Name (wpAny_loadName_local I.ok.kind d t w fin) j
 .rcases d with d|d
  .exact wpAny_Name (wpAny_loadName_cell I.ok.kind d n k fin) j
  .exact wpAny_Name (wpAny_loadName_free I.ok.kind d n k fin p) j
theorem DX{i j pos}:PE X (.Constant (.int i) j pos) (tC (.int i)):=λ_ _ _ H _ I h=>wpAny_Constant_int ⟨.int i,H,I.tok _,⟨_,rfl⟩,h⟩
theorem Os{b j pos}:PE X (.Constant (.bool b) j pos) (tC (.bl b)):=λ_ _ _ H _ I h=>Constant_bool ⟨.bl b,H,I,rfl,h⟩
theorem Qg{j pos}:PE X (.Constant .none j pos) (tC .aF):=λ_ _ _ H _ I h=>Constant_none ⟨.aF,H,I,rfl,h⟩
def Gl(X:Cx)(x:Str):Prop:=X.env.kindOf x=some .globalImplicit
theorem Gz{H:Hp}(I:Inv X g f H s)(d:Gl X x)(c:X.mg x=some u)(h:Q u s)
 (i:(x==("__debug__":Str))=false:=by decide):aWj (aWl X.prog X.w) X.A (aWq (.Name x pos) X.env) Q E s:=
 Calls.Name_function_global I.ok.kind d (Calls.loadGlobal_global (by rw[I.ok.glob];exact I.mod.glob.keeps I.bk) c h) i
theorem sJ{H:Hp}(I:Inv X g f H s)(j:Gl X x)(i:X.mg x=none)(c:aXn x=some u)(h:Q u s)
 (d:x≠"__name__":=by decide)(k:(x==("__debug__":Str))=false:=by decide):aWj (aWl X.prog X.w) X.A (aWq (.Name x pos) X.env) Q E s:=by
 obtain⟨n,m,l⟩:=I.mod.blt;exact Calls.Name_function_global I.ok.kind j (Calls.loadGlobal_builtin (by rw[I.ok.glob];exact I.mod.glob.keeps I.bk) i (by rw[I.ok.blt];exact m.keeps I.bk) ((l x d).trans c) h) k
theorem Ra(d:Gl X x)(c:X.mg x=some u)(r:RelV v u)(i:(x==("__debug__":Str))=false:=by decide):PE X (.Name x pos) (tC v):=
 λ_ _ _ H _ I h=>Gz I d c ⟨v,H,I,r,h⟩ i
theorem Se(j:Gl X x)(i:X.mg x=none)(c:aXn x=some u)(r:RelV v u)(d:x≠"__name__":=by decide)(k:(x==("__debug__":Str))=false:=by decide):PE X (.Name x pos) (tC v):=
 λ_ _ _ H _ I h=>sJ I j i c ⟨v,H,I,r,h⟩ d k
variable {a b:aWp}{i j:TE}{pos:Pos}
def PC(X:Cx)(c:CmpOp)(a b:aWp)(t:TE):Prop:=
 ∀(g:List (aWe×Obj))(s:aWg)(f:St)(H:Hp)(Q:VK),Inv X g f H s->t f H Q->
  aWj (aWl X.prog X.w) X.A (aWq a X.env) (λv d=>aWj (aWl X.prog X.w) X.A (aWq b X.env) (λu bq=>aWj (aWl X.prog X.w) X.A (aWy c v u) (EP X g f Q) X.xe bq) X.xe d) X.xe s
noncomputable def tB(t:TE):TT:=λf H Q=>t f H λx d=>∃c,x=.bl c/\Q c d
theorem Jp{k:CmpOp}{t:TE}(h:PC X k a b t)(l:aWw k b=false:=by first|exact e _ (by decide) (by decide)|rfl):PT X (.Compare a [k] [b] pos) (tB t):=by
 intro g s f H Q I r;refine wpAny_isTrue_Compare1 (aI (h g s f H _ I r) λv C l=>aI l λu B w=>aI w λc A m=>?_) l;obtain⟨x,z,y,n,p⟩:=m;obtain⟨d,rfl,q⟩:=p;cases n;exact aXa ⟨z,y,q⟩
variable {l m:TT}{rest:XO}
noncomputable def BF(t u:TT):TT:=λf H Q=>t f H λc d=>if c=true then u f d Q else Q false d
noncomputable def Hh(t u:TT):TT:=λf H Q=>t f H λc d=>if c=true then Q true d else u f d Q
noncomputable def BA(t:TT):TT:=λf H Q=>t f H λc d=>Q (!c) d
theorem Sy(d:PT X a l):PW X (.BoolOp .And [a] pos) l:=by
 intro k g s f H Q I h;refine isTrue_and (aI (d g s f H Q I h) λc n e=>?_);cases c with
 |true=>exact isTrue_and_nil e
 |false=>exact e
theorem Qt(d:PT X a l):PW X (.BoolOp .Or [a] pos) l:=by
 intro k g s f H Q I h;refine isTrue_or (aI (d g s f H Q I h) λc n e=>?_);cases c with
 |false=>exact isTrue_or_nil e
 |true=>exact e
theorem OY(w:PT X a l)(t:PW X (.BoolOp .And (b::rest) pos) m):PW X (.BoolOp .And (a::b::rest) pos) (BF l m):=by
 intro q g s f H Q I h;refine isTrue_and (aI (w g s f H _ I h) λc r p=>?_);obtain⟨n,k,d⟩:=p;cases c with
 |true=>exact t q g r f n Q k d
 |false=>exact⟨n,k,d⟩
theorem Nx(w:PT X a l)(t:PW X (.BoolOp .Or (b::rest) pos) m):PW X (.BoolOp .Or (a::b::rest) pos) (Hh l m):=by
 intro q g s f H Q I h;refine isTrue_or (aI (w g s f H _ I h) λc r p=>?_);obtain⟨n,k,d⟩:=p;cases c with
 |true=>exact⟨n,k,d⟩
 |false=>exact t q g r f n Q k d
theorem Qs(d:PT X a l):PT X (.UnaryOp .Not a pos) (BA l):=by
 intro g s f H Q I h;exact isTrue_not (d g s f H (λc k=>Q (!c) k) I h)
noncomputable def xh(i j:TE):TE:=λf H Q=>i f H λx d=>∃c,x=.bl c/\if c=true then j f d Q else Q (.bl false) d
noncomputable def wo(i:TE):TE:=λf H Q=>i f H λx d=>∃c,x=.bl c/\Q (.bl (!c)) d
theorem PP{c}{t:TE}(h:PE X a t):PE X (.BoolOp c [a] pos) t:=λg s f H Q I d=>BoolOp_one (h g s f H Q I d)
theorem OQ(w:PE X a i)(t:PE X (.BoolOp .And (b::rest) pos) j):PE X (.BoolOp .And (a::b::rest) pos) (xh i j):=by
 intro g s f H Q I h;refine BoolOp_and (aI (w g s f H _ I h) λv q p=>?_);obtain⟨x,n,k,r,d⟩:=p;obtain⟨c,rfl,d⟩:=d;cases r;refine aXa ?_;cases c with
 |true=>exact t g q f n Q k d
 |false=>exact⟨.bl false,n,k,rfl,d⟩
theorem Pg(p:PE X a i):PE X (.UnaryOp .Not a pos) (wo i):=by
 intro g s f H Q I h;refine UnaryOp_ (aI (p g s f H _ I h) λv t k=>?_);obtain⟨x,r,q,n,d⟩:=k;obtain⟨c,rfl,d⟩:=d;cases n;exact not_of (aXa ⟨.bl (!c),r,q,rfl,d⟩)
noncomputable def Hi(t:TT)(i j:TE):TE:=λf H Q=>t f H λc d=>if c=true then i f d Q else j f d Q
theorem UV{c:aWp}(t:PT X c l)(y:PE X a i)(w:PE X b j):PE X (.IfExp c a b pos) (Hi l i j):=by
 intro g s f H Q I h;refine wpAny_IfExp (aI (t g s f H _ I h) λd k r=>?_);obtain⟨q,p,n⟩:=r;cases d with
 |true=>exact y g k f q Q p n
 |false=>exact w g k f q Q p n
end
variable{x:V}{u:aWf}
def cz(K:aL)(H:Hp)(a:aWe)(xs:Xy):Prop:=
 Rd H a (.lst xs)\/
  ∃(o:Obj)(c:Array aWf)(n:Nat),K.lookup a=some o/\o.cls=.type "list"/\o.dict=none/\o.data=.seq c n/\c.size<=sizeLine/\aA xs c.toList
def jc(K:aL)(H:Hp)(a:aWe)(xs:Xy):Prop:=
 Rd H a (.tup xs)\/
  ∃(o:Obj)(c:Array aWf)(n:Nat),K.lookup a=some o/\o.cls=.type "tuple"/\o.data=.seq c n/\c.size<=sizeLine/\aA xs c.toList
noncomputable def EW:aWf->Xz
 | .none=>some .aF
 | .bool b=>some (.bl b)
 | .int i _=>some (.int i)
 | .str x _=>some (.str x)
 | .bytes b _=>some (.qm b)
 | .float b _=>some (.Dq b)
 | .ref a=>some (.ref a)
 | .type n=>some (.ty n)
 |_=>none
theorem RelV.abs(r:RelV x u):EW u=some x:=by
 cases x with
 |aF=>cases r;rfl
 |bl _=>cases r;rfl
 |int _=>obtain⟨t,rfl⟩:=r;rfl
 |str _=>obtain⟨t,rfl⟩:=r;rfl
 |qm _=>obtain⟨t,rfl⟩:=r;rfl
 |Dq _=>obtain⟨t,rfl⟩:=r;rfl
 |ref _=>cases r;rfl
 |ty _=>cases r;rfl
theorem RelV.inj{y:V}(r:RelV x u)(q:RelV y u):x=y:=dC.inj (r.abs.symm.trans q.abs)
theorem aA.inj:∀{xs c:Xy}{d:XI},aA xs d->aA c d->xs=c
 |_,_,_,.nil,.nil=>rfl
 |_,_,_,.cons r t,.cons g f=>by rw[r.inj g,aA.inj t f]
section
variable {X:Cx}{c:List (aWe×Obj)}{f:St}{H:Hp}{s:aWg}{a:aWe}{xs g:Xy}
variable{K:aL}
theorem cz.of(h:H a=some (.lst xs)):cz K H a xs:=.inl (.inl h)
theorem jc.of(h:H a=some (.tup xs)):jc K H a xs:=.inl (.inl h)
theorem Inv.list(I:Inv X c f H s)(h:cz X.K H a xs):∃d:XI,aA xs d/\PlainL s.heap a d.toArray/\xs.length<=sizeLine:=by
 rcases h with h| ⟨o,d,n,k,m,l,j,i,r⟩
 .obtain⟨z,d,n,r,e⟩:=h.ok I.bz;exact⟨d,r,⟨_,n,e,rfl,rfl,rfl⟩,z⟩
 .refine⟨d.toList,r,⟨o,n,I.jw a o k,m,l,by simpa using j⟩,?_⟩;have e:=r.length;simp only[cF]at e;exact bB (bZ e) i
theorem Inv.tuple(I:Inv X c f H s)(h:jc X.K H a xs):∃d:XI,aA xs d/\IsTup s.heap a d.toArray/\xs.length<=sizeLine:=by
 rcases h with h| ⟨o,d,n,k,l,j,i,r⟩
 .obtain⟨z,d,r,p⟩:=h.ok I.bz;exact⟨d,r,p,z⟩
 .refine⟨d.toList,r,⟨o,I.jw a o k,l,n,by simpa using j⟩,?_⟩;have e:=r.length;simp only[cF]at e;exact bB (bZ e) i
theorem Inv.fq(I:Inv X c f H s)(h:cz X.K H a xs)(p:cz X.K H a g):xs=g:=by
 obtain⟨j,r,⟨o,n,e,_,_,d⟩,_⟩:=I.list h;obtain⟨i,m,⟨t,v,k,_,_,l⟩,_⟩:=I.list p;rw[e]at k;cases k;rw[d]at l;injection l with q _
 have:j=i:=by simpa using congrArg Array.toList q
 subst this;exact r.inj m
end
noncomputable abbrev Cx.gw(X:Cx)(E:XN):Cx:={X with xe:=E}
abbrev Cx.xr(X:Cx):Cx:=X.gw λ_ _=>False
theorem Cx.Ok.gw{X:Cx}(ok:X.Ok)(E:XN):(X.gw E).Ok:=
 ⟨ok.mod,ok.kind,ok.glob,ok.blt,ok.above,ok.inj,ok.has,ok.Cd,ok.hd,ok.frames,ok.Dh,ok.EU,ok.bs,ok.uq,ok.rz,ok.ta,ok.ir,ok.Ah⟩
theorem Cx.Ok.fj{X:Cx}{E:XN}(ok:(X.gw E).Ok):X.Ok:=
 ⟨ok.mod,ok.kind,ok.glob,ok.blt,ok.above,ok.inj,ok.has,ok.Cd,ok.hd,ok.frames,ok.Dh,ok.EU,ok.bs,ok.uq,ok.rz,ok.ta,ok.ir,ok.Ah⟩
section
variable {X:Cx}{c:List (aWe×Obj)}{d:St}{H:Hp}{s:aWg}{E:XN}
theorem Inv.gw(I:Inv X c d H s)(E:XN):Inv (X.gw E) c d H s:=⟨I.ok.gw E,I.os,I.bare,I.base,I.loc,I.cell,I.free,I.dv,I.pin,I.bz,I.len⟩
theorem Inv.fj(I:Inv (X.gw E) c d H s):Inv X c d H s:=⟨I.ok.fj,I.os,I.bare,I.base,I.loc,I.cell,I.free,I.dv,I.pin,I.bz,I.len⟩
theorem SP.fj{D:Ends}{f:Flow}{j:aWg}(h:SP (X.gw E) c D f j):SP X c D f j:=by
 cases f with
 |next=>obtain⟨g,i,I,q⟩:=h;exact⟨g,i,I.fj,q⟩
 |brk=>obtain⟨g,i,I,q⟩:=h;exact⟨g,i,I.fj,q⟩
 |cont=>obtain⟨g,i,I,q⟩:=h;exact⟨g,i,I.fj,q⟩
 |ret u=>obtain⟨v,g,i,I,r,q⟩:=h;exact⟨v,g,i,I.fj,r,q⟩
theorem km.xr{st:List Stmt}{t:TS}(h:km X.xr st t):km X st t:=λc s d H D I f=>
 aXb (h c s d H D (I.gw _) f) (λ_ _ q=>q.fj) λ_ _ z=>False.elim z
end
section
variable {X:Cx}{st:Stmt}{rest:List Stmt}{t u:TS}{e:aWp}{g:TE}{pos:Pos}
noncomputable def Fo:TS:=λD c H=>D.nx c H
noncomputable def By(t u:TS):TS:=λD c H=>t {D with nx:=u D} c H
theorem Sr:km X [] Fo:=λ_ _ c H _ I h=>aYk ⟨c,H,I,h⟩
theorem TQ(k:PS X st t)(j:km X rest u):km X (st::rest) (By t u):=by
 intro c s d H D I h;refine wpAny_execs_cons (aI (k c s d H {D with nx:=u D} I h) λf i q=>?_);cases f with
 |next=>
  obtain⟨l,n,m,q⟩:=q;exact j c i l n D m q
 |ret v=>exact q
 |brk=>exact q
 |cont=>exact q
theorem QC(d:PS X st t):km X [st] t:=by
 intro i s c H D I h;refine wpAny_execs_cons (aI (d i s c H D I h) λf j q=>?_);cases f with
 |next=>exact aYk q
 |ret v=>exact q
 |brk=>exact q
 |cont=>exact q
theorem RB:PS X (.Pass pos) Fo:=λ_ _ c H _ I h=>wpAny_Pass ⟨c,H,I,h⟩
theorem Inv.quiet{d:List (aWe×Obj)}{c:St}{H:Hp}{s:aWg}(I:Inv X d c H s):interactive X.env=false:=by simp[interactive,I.ok.kind]
noncomputable def FT(g:TE):TS:=λD c H=>g c H λ_ d=>D.nx c d
theorem GG(j:PE X e g)(i:aXd e none pos.line X.env=pure false:=by rfl):PS X (.Expr e pos) (FT g):=by
 intro k s c H D I h;refine wpAny_Expr_any (aI (j k s c H _ I h) λv n d=>?_) I.quiet i;obtain⟨x,m,l,p,f⟩:=d;exact⟨c,m,l,f⟩
def Bz(g:TE):TS:=λD c H=>g c H D.rt
theorem NS(j:PE X e g):PS X (.Return (some e) pos) (Bz g):=by
 intro k s c H D I h;refine wpAny_Return_some (aI (j k s c H _ I h) λv n d=>?_);obtain⟨x,m,l,f,i⟩:=d;exact⟨x,c,m,l,f,i⟩
noncomputable def BC(c:TT)(t u:TS):TS:=λD d H=>c d H λb f=>if b=true then t D d f else u D d f
theorem Oq{c:aWp}{a b:List Stmt}{j:TT}(q:PT X c j)(v:km X a t)(r:km X b u):PS X (.If c a b pos) (BC j t u):=by
 intro i s f H D I h;refine wpAny_If (aI (q i s f H _ I h) λd k p=>?_);obtain⟨n,m,l⟩:=p;cases d with
 |true=>exact v i k f n D m l
 |false=>exact r i k f n D m l
end
abbrev TG:=V->St->Hp->(St->Hp->Prop)->Prop
abbrev vk:=Xy->St->Hp->(St->Hp->Prop)->Prop
def PG(X:Cx)(c:aWp)(t:TG):Prop:=
 ∀(g:List (aWe×Obj))(s:aWg)(d:St)(H:Hp)(v:V)(u:aWf)(Q:St->Hp->Prop),Inv X g d H s->RelV v u->t v d H Q->
  aWj (aWl X.prog X.w) X.A (aYc c X.env u) (λ_ i=>∃f h,Inv X g f h i/\Q f h) X.xe s
def Br(X:Cx)(i:XO)(t:vk):Prop:=
 ∀(g:List (aWe×Obj))(s:aWg)(c:St)(H:Hp)(vs:Xy)(d:XI)(Q:St->Hp->Prop),Inv X g c H s->aA vs d->t vs c H Q->
  aWj (aWl X.prog X.w) X.A (assignInOrder ((aWz i X.env).map (·.2)) d) (λ_ j=>∃f h,Inv X g f h j/\Q f h) X.xe s
abbrev Ck:=V->V->V->Hp->(Hp->Prop)->Prop
def EZ(X:Cx)(t:Ck):Prop:=
 ∀(g:List (aWe×Obj))(s:aWg)(c:St)(H:Hp)(o i v:V)(d f u:aWf)(Q:Hp->Prop),Inv X g c H s->RelV o d->RelV i f->RelV v u->t o i v H Q->
  aWj (aWl X.prog X.w) X.A (setItem d f u) (λ_ j=>∃h,Inv X g c h j/\Q h) X.xe s
abbrev Bq:=V->V->Hp->VK->Prop
def G6(X:Cx)(f:Operator)(t:Bq):Prop:=
 ∀(d:List (aWe×Obj))(s:aWg)(c:St)(H:Hp)(x y:V)(v u:aWf)(Q:VK),Inv X d c H s->RelV x v->RelV y u->t x y H Q->
  aWj (aWl X.prog X.w) X.A (inplaceOp f v u) (EP X d c Q) X.xe s
section
variable {X:Cx}{pos:Pos}
variable{i:Nat}{e:aWp}{A:XO}{to p d:TE}{C:Pos}{B:Operator}
noncomputable def vL(i:Nat):TG:=λv c H Q=>Q (c.set i (some v)) H
theorem KB{x:Str}(j:X.N.Nodup)(f:X.N[i]?=some x)(c:Loc X.env.scope x)(g:X.fn x=true\/X.env.scope.names.lookup x=some .local:=by first|exact .inl rfl|exact .inr rfl|assumption):PG X (.Name x pos) (vL i):=by
 intro n s l H v u Q I r h;exact wpAny_assign_Name (GW I j f c r (λm k=>⟨_,H,k,h⟩) g)
noncomputable def Dv:vk:=λvs c H Q=>vs=[]/\Q c H
noncomputable def DG(t:TG)(u:vk):vk:=λvs c H Q=>∃v r,vs=v::r/\t v c H λf g=>u r f g Q
theorem SE:Br X [] Dv:=by
 intro g s c H vs f Q I r h;obtain⟨e,h⟩:=h;subst e;cases r;exact assignInOrder_nil ⟨c,H,I,h⟩
theorem Tp{t:TG}{u:vk}(n:PG X e t)(m:Br X A u)
 (l:(aWz (e::A) X.env).map (·.2)=aYc e X.env::(aWz A X.env).map (·.2):=by rfl):Br X (e::A) (DG t u):=by
 intro c s f H vs D Q I r h;obtain⟨v,vr,q,h⟩:=h;subst q;cases r with
 |cons r rr=>
  rw[l];refine assignInOrder_cons (aI (n c s f H _ _ _ I r h) λ_ j g=>?_);obtain⟨w,z,y,k⟩:=g;exact m c j w z _ _ Q y rr k
noncomputable def EL(K:aL)(n:Nat)(t:vk):TG:=λv c H Q=>∃a xs,v=.ref a/\jc K H a xs/\xs.length=n/\t xs c H Q
theorem Qc{k:Nat}{t:vk}{n:Nat}(D:X.calm=true)(h:Br X A t)
 (y:(aWz A X.env).length=n:=by rfl)(J:(aWz A X.env).findIdx? (·.1)=none:=by rfl):PG X (.Tuple A k pos) (EL X.K n t):=by
 intro j s f H v u Q I r c;obtain⟨a,xs,G,w,z,c⟩:=c;subst G;cases r;obtain⟨l,g,q,L⟩:=I.tuple w;refine assign_Tuple_tuple (I.ok.hd D) q (by simp[y,<-z,g.length]) J λF m=>?_;have K:Inv X j f H {s with heap:=F}:=I.kept (t':=s.toks) λb o e=>m b o (bW (aWi.lt_size e)) e;exact h j _ f H xs _ Q K (by simpa using g) c
noncomputable def B3(to p:TE)(t:Ck):TG:=λv c H Q=>to c H λo h=>p c h λi g=>t o i v g λf=>Q c f
theorem PU{o i:aWp}{t:Ck}(G:PE X o to)(J:PE X i p)(F:EZ X t)
 (K:∀v,aYc (.Subscript o i pos) X.env v=(do
  let c<-aXk [v] (aWq o X.env)
  let g<-aXk [v,c] (aWq i X.env)
  standAt pos
  aXk [v,c,g] (setItem c g v)
  release [v,c,g] []):=by intro _;rfl):PG X (.Subscript o i pos) (B3 to p t):=by
 intro k s j H v u Q I r h;rw[K];refine aWb (aWv (aI (G k s j H _ I h) λc m f=>?_));obtain⟨x,R,N,q,D⟩:=f;refine aWb (aWv (aI (J k m j R _ N D) λg l f=>?_));obtain⟨y,P,M,n,z⟩:=f;refine aWb (aYe (aWb (aWv (aI (F k l j P x y v c g u _ M q n r z) λ_ S f=>?_))));obtain⟨O,L,w⟩:=f;exact wpAny_release ⟨j,O,L,w⟩
noncomputable def Ar(d:TE)(g:TG):TS:=λD c H=>d c H λx f=>g x c f D.nx
theorem Ja{c:aWp}{g:TG}(y:PE X e d)(w:PG X c g)(t:swapsWithSole [c] e pos.line X.env=pure false:=by rfl)(r:swappedStores [c] e X.env=pure none:=by rfl)
 (z:(aWz [c] X.env).map (·.2)=[aYc c X.env]:=by rfl):PS X (.Assign [c] e pos) (Ar d g):=by
 intro j s f H D I h;refine wpAny_Assign_stores (aI (y j s f H _ I h) λv l k=>?_) t r;obtain⟨x,G,F,m,n⟩:=k;rw[z];exact aI (w j l f G x v _ F m n) λ_ J q=>q
theorem Pd{x:Str}(r:X.N.Nodup)(m:X.N[i]?=some x)(k:Loc X.env.scope x)(q:PE X e d)(l:aXd e (some (.Name x C)) pos.line X.env=pure false:=by rfl)(n:X.fn x=true\/X.env.scope.names.lookup x=some .local:=by first|exact .inl rfl|exact .inr rfl|assumption):
 PS X (.Assign [.Name x C] e pos) (Ar d (vL i)):=by
 intro t s c H D I h;refine wpAny_Assign_Name (aI (q t s c H _ I h) λv J f=>?_) l;obtain⟨y,F,z,g,j⟩:=f;exact GW z r m k g (λG w=>⟨_,F,w,j⟩) n
noncomputable def Es(i:Nat)(d:TE)(p:Bq):TS:=λD c H=>∃x,c[i]?=some (some x)/\d c H λy g=>p x y g λz f=>D.nx (c.set i (some z)) f
theorem Qj{x:Str}{p:Bq}(Z:X.N.Nodup)(F:X.N[i]?=some x)(n:Loc X.env.scope x)(U:PE X e d)(O:G6 X B p)(S:X.fn x=true\/X.env.scope.names.lookup x=some .local:=by first|exact .inl rfl|exact .inr rfl|assumption):
 PS X (.AugAssign (.Name x C) B e pos) (Es i d p):=by
 intro q s t H D I h;obtain⟨v,E,h⟩:=h;obtain⟨m,P,R⟩:=I.loc;have j:Ee X.env.scope x:=by rcases n with k|k;exact .inl k;exact .inr (.inl k)
 obtain⟨u,r,l⟩:=R i x v F E j;refine wpAny_AugAssign_Name ?_;have go:aWj (aWl X.prog X.w) X.A (aWq e X.env) (λw bq=>aWj (aWl X.prog X.w) X.A (inplaceOp B u w) (λr ce=>aWj (aWl X.prog X.w) X.A (storeName X.env x r) (λ_=>SP X q D .next) X.xe ce) X.xe bq) X.xe s:=by
  refine aI (U q s t H _ I h) λw G g=>?_;obtain⟨y,H1,I1,K,M⟩:=g;refine aI (O q G t H1 v y u w _ I1 r K M) λz s2 g=>?_;obtain⟨zv,H2,I2,J,L⟩:=g;exact GW I2 Z F n J (λs3 I3=>⟨_,H2,I3,L⟩) S
 rcases l with⟨f,Q⟩| ⟨f,c,Y,N⟩
 .exact wpAny_loadName_local I.ok.kind f P Q go
 .rcases f with f|f
  .exact wpAny_loadName_cell I.ok.kind f Y N go
  .rcases n with k|k
   .have:X.env.scope.names.lookup x=some .free:=f;rw[k]at this;cases this
   .have:X.env.scope.names.lookup x=some .free:=f;rw[k]at this;cases this
noncomputable def xg(to p d:TE)(g:V->V->Hp->VK->Prop)(f:Bq)(h:Ck):TS:=λD c H=>to c H λo q=>p c q λi n=>g o i n λx m=>d c m λy l=>f x y l λz k=>h o i z k λj=>D.nx c j
def CT(X:Cx)(t:V->V->Hp->VK->Prop):Prop:=
 ∀(h:List (aWe×Obj))(s:aWg)(c:St)(H:Hp)(o i:V)(f g:aWf)(Q:VK),Inv X h c H s->RelV o f->RelV i g->t o i H Q->
  aWj (aWl X.prog X.w) X.A (getItem f g) (EP X h c Q) X.xe s
theorem Sh{o i:aWp}{y:V->V->Hp->VK->Prop}{r:Bq}{z:Ck}{ay:Pos}(ho:PE X o to)(hi:PE X i p)(hg:CT X y)(he:PE X e d)(hp:G6 X B r)(hs:EZ X z)
 (ha:∀j k c,augStore i j k c=(do aXk [c,j,k] (setItem j k c);release [c,j,k] [];pure .next):=by intros;rfl):PS X (.AugAssign (.Subscript o i ay) B e pos) (xg to p d y r z):=by
 intro l s g H D I h;refine wpAny_AugAssign_SubscriptAny (aI (ho l s g H _ I h) λj O f=>?_) ha;obtain⟨q,H1,I1,w,q1⟩:=f;refine aI (hi l O g H1 _ I1 q1) λk N f=>?_;obtain⟨n,H2,I2,t,E⟩:=f;refine aI (hg l N g H2 q n j k _ I2 w t E) λm M f=>?_;obtain⟨J,H3,I3,R,Z⟩:=f;refine aI (he l M g H3 _ I3 Z) λv L f=>?_;obtain⟨G,H4,I4,Q,Y⟩:=f;refine aI (hp l L g H4 J G m v _ I4 R Q Y) λc K f=>?_;obtain⟨F,H5,I5,P,U⟩:=f;refine aI (hs l K g H5 q n F j k c _ I5 w t P U) λ_ s6 f=>?_;obtain⟨H6,I6,S⟩:=f;exact⟨g,H6,I6,S⟩
noncomputable def Ho(f:Int->Int->Int):Bq:=λx y H Q=>∃i j,x=.int i/\y=.int j/\Q (.int (f i j)) H
theorem Js:G6 X .Add (Ho λi j=>i+j):=by
 intro n s l H x y v u Q I f c h;obtain⟨i,j,k,g,q⟩:=h;subst k;subst g;obtain⟨t,rfl⟩:=f;obtain⟨m,rfl⟩:=c;exact iadd_int ⟨.int _,H,I.tok _,⟨_,rfl⟩,q⟩
end
section
variable {X:Cx}{pos:Pos}
def qs(c:TT)(j:TS):TS:=λD d H=>∃W:Nat->St->Hp->Prop,(∃m,W m d H)/\∀m d H,W m d H->
 c d H λb h=>if b=true then∃N:St->Hp->Prop,(∀g i,N g i->∃f,f<m/\W f g i)/\j {D with nx:=N,ct:=N,bk:=D.nx} d h else D.nx d h
theorem UN{c:aWp}{body:List Stmt}{w:TT}{y:TS}(z:aWu (aWl X.prog X.w) X.A X.env X.xe)(S:PT X c w)(U:km X body y):PS X (.While c body [] pos) (qs w y):=by
 intro r s J H D I h;obtain⟨W,⟨R,M⟩,d⟩:=h;refine wpAny_While (codeAny_whileLoop (λn Q=>∃A G,Inv X r A G Q/\W n A G) ?_ R ⟨J,H,I,M⟩);rintro n P ⟨l,F,Y,L⟩;refine aXl z (aI (S r P l F _ Y (d n l F L)) λb O K=>?_);obtain⟨C,B,k⟩:=K;cases b with
 |true=>
  obtain⟨N,e,k⟩:=k;rw[aWc rfl];refine aXl z (aI (U r O l C _ B k) λf Z j=>?_);cases f with
  |next=>
   obtain⟨g,i,t,m⟩:=j;obtain⟨p,q,w3⟩:=e g i m;exact⟨p,q,g,i,t,w3⟩
  |cont=>
   obtain⟨g,i,t,m⟩:=j;obtain⟨p,q,w3⟩:=e g i m;exact⟨p,q,g,i,t,w3⟩
  |brk=>exact j
  |ret v=>exact j
 |false=>
  rw[aWa bQ];exact aYk ⟨l,C,B,k⟩
end
variable{s:aWg}{tg:aWp}{P:aWm}{w:aWr}{K:aL}
structure It where
 go:Nat->Hp->Prop
 yx:Nat->Hp->V->Hp->Prop
 stop:Nat->Hp->Prop
def wV(X:Cx)(aa:List (aWe×Obj))(H:Hp)(b:aWe):Prop:=
 H b=none/\b≠X.env.locals/\b∉X.fs/\(b∈X.ex\/X.eH.heap.objs.size<=b)/\(∀x c,X.env.cells.lookup x=some c->c≠b)/\∀p∈X.pn++aa,p.1≠b
theorem Inv.sj{X:Cx}{f:List (aWe×Obj)}{h:St}{H g:Hp}{b:aWe}(I:Inv X f h H s)(d:s.heap.objs.size<=b)(j:g b=none):wV X f g b:=by
 refine⟨j,Nat.ne_of_gt (aM I.lt d),I.Ey d,.inr (bB I.sz d),λx c e z=>?_,λp i z=>?_⟩
 .obtain⟨v,q⟩:=I.cell x c e;exact absurd (aM q.lt (by rw[z];exact d)) (d4 _)
 .exact absurd (aM (aWi.lt_size (I.pin p i).1) (by rw[z];exact d)) (d4 _)
structure Turn(P:aWm)(w:aWr)(K:aL)(tg:aWp)(J:It)(fp:List aWe)(it:aWe)(tn:Nat->aWi->Prop):Prop where
 mem:it∈fp
 obj:∀i h,tn i h->∀b∈fp,∃o,h.get? b=some o/\∀v,o.data≠ .cell v
 keep:∀i h h',tn i h->(∀b∈fp,∀o,h.get? b=some o->h'.get? b=some o)->tn i h'
 item:∀(X:Cx),X.prog=P->X.w=w->X.K=K->X.calm=true->∀(i:Nat)(aa:List (aWe×Obj))(s:aWg)(σ:St)(H:Hp)(E:XN),Inv X aa σ H s->(∀b∈fp,wV X aa H b)->tn i s.heap->J.go i H->
  aWj (aWl P w) X.A (pyNext (.ref it)) (λr s1=>∃u,r=some u/\
   aWj (aWl P w) X.A (aYm tg (.ref it) u) (λ_ s2=>∃x H',Inv X aa σ H' s2/\RelV x u/\J.yx i H x H'/\tn (i+1) s2.heap/\∀b∈fp,H' b=none) E s1) E s
 done:∀(X:Cx),X.prog=P->X.w=w->X.K=K->X.calm=true->∀(i:Nat)(aa:List (aWe×Obj))(s:aWg)(σ:St)(H:Hp)(E:XN),Inv X aa σ H s->(∀b∈fp,wV X aa H b)->tn i s.heap->J.stop i H->
  aWj (aWl P w) X.A (pyNext (.ref it)) (λr s1=>r=none/\Inv X aa σ H s1) E s
 self:∀(A:aWn)(i:Nat)(s:aWg)(Q:XN)(E:XN),tn i s.heap->Q (.ref it) s->aWj (aWl P w) A (pyIter (.ref it)) Q E s
abbrev TI:=St->Hp->(It->Hp->Prop)->Prop
def MP(X:Cx)(i:List (aWe×Obj))(j:St)(tg:aWp)(R:It->Hp->Prop)(k:aWf)(f:aWg):Prop:=
 ∃(g:aWe)(h:List aWe)(d:Nat->aWi->Prop)(J:It)(c:Hp),k=.ref g/\Inv X i j c f/\Turn X.prog X.w X.K tg J h g d/\d 0 f.heap/\(∀b∈h,wV X i c b)/\R J c
def PI(X:Cx)(tg iter:aWp)(f:TI):Prop:=
 ∀(d:List (aWe×Obj))(s:aWg)(c:St)(H:Hp)(R:It->Hp->Prop),Inv X d c H s->f c H R->
  aWj (aWl X.prog X.w) X.A (aWq iter X.env) (λv g=>aWj (aWl X.prog X.w) X.A (pyIter v) (MP X d c tg R) X.xe g) X.xe s
theorem FC{M:Model}{A:aWn}{E:XN}{d:aWe}{u:aWf}{o:Obj}{n:String}{vs:Array aWf}{Q:Unit->aWg->Prop}(f:s.heap.get? d=some o)(j:o.cls=.type n)(i:o.data=.fields vs)
 (g:["enumerate","zip","dict_itemiterator","dict_reverseitemiterator","odict_iterator","itertools.zip_longest","itertools.pairwise"].contains n=false)(c:Q () s):aWj M A (aYm tg (.ref d) u) Q E s:=by
 unfold aYm;cases tg<;>first
  |exact aWh c
  | (cases u<;>first
   |exact aWh c
   | (refine aWb (wpAny_load f ?_)
      rw[j,i];show aWj M A (if(["enumerate","zip","dict_itemiterator","dict_reverseitemiterator","odict_iterator","itertools.zip_longest","itertools.pairwise"].contains n&&vs[0]?==some (rawInt _))=true then _ else _) Q E s;rw[aWa (by intro h;rw[g,Z7]at h;cases h)];exact aWh c))
noncomputable def G9(K:aL)(a:aWe):It:=
 ⟨λi H=>∃xs x,cz K H a xs/\xs[i]?=some x,λi H x c=>c=H/\∀xs,cz K H a xs->xs[i]?=some x,λi H=>∃xs,cz K H a xs/\xs.length<=i⟩
noncomputable def CY(lo:Int)(n:Nat):It:=⟨λi _=>i<n,λi H x c=>c=H/\x=.int (lo+i),λi _=>n<=i⟩
theorem Vc(a f:aWe):Turn P w K tg (G9 K a) [f] f (λi h=>h.IsListIter f a i) where
 mem:=by simp
 obj:=λi h st b g=>by
  have e:b=f:=by simpa using g
  subst e;obtain⟨o,e,c,d⟩:=st;exact⟨o,e,λv z=>by rw[d]at z;cases z⟩
 keep:=λi h m st k=>st.at λo e=>k f (by simp) o e
 item:=by
  intro X A t B L i N s J H E I l st y;subst A t B;obtain⟨xs,x,j,r⟩:=y;obtain⟨q,n,p,R⟩:=I.list j;obtain⟨u,U,Q⟩:=n.get r;obtain⟨G,f1,f2,F,D,C⟩:=l f (by simp);refine wpAny_pyNext_list_item st p.isList (x:=u) (by simpa using U) λm M O=>?_;have Z:Inv X N J H {s with heap:=m}:=I.turned (t':=s.toks) (λb o g e=>(O.2 b g).trans e) G f1 F D C;obtain⟨o,e,c,d⟩:=id M;exact⟨u,rfl,FC (s:={s with heap:=m}) e c d (by decide) ⟨x,H,Z,Q,⟨rfl,λys S=>by rw[I.fq S j];exact r⟩,M,λb g=>(l b g).1⟩⟩
 done:=by
  intro X A t B L i N s J H E I l st y;subst A t B;obtain⟨xs,j,r⟩:=y;obtain⟨q,n,p,R⟩:=I.list j;obtain⟨G,f1,f2,F,D,C⟩:=l f (by simp);have hl:=n.length;exact wpAny_pyNext_list_end (I.ok.hd L) st p.isList (by simp;lia) λm Y=>⟨rfl,I.turned (t':=s.toks) (λb o g e=>Y b o g e) G f1 F D C⟩
 self:=λ_ _ _ _ _ st h=>wpAny_pyIter_listiter st h
theorem Wg(c:aWe)(lo:Int)(n:Nat):Turn P w K tg (CY lo n) [c] c (λi h=>IsRangeIter h c (lo+(i:Nat)*1) ((n:Int) - (i:Nat)) 1) where
 mem:=by simp
 obj:=λi h st b d=>by
  have e:b=c:=by simpa using d
  subst e;exact⟨_,st,λv z=>by
   have G:Data.fields _=Data.cell v:=z;cases G⟩
 keep:=λi h g st k=>k c (by simp) _ st
 item:=by
  intro X p j q m i F s C H E I f st l;subst p j q;obtain⟨B,f1,f2,A,y,r⟩:=f c (by simp);have W:=Walks.range (prog:=X.prog) (w:=X.w) (I.ok.hd m) c lo 1 n;refine W.item i s _ _ l st λv g tk L D J=>?_;obtain⟨t,rfl⟩:=L;have N:Inv X F C H {s with heap:=g,toks:=tk}:=I.turned (λb o d e=>J b o (by simpa using d) e) B f1 A y r;refine⟨_,rfl,FC (s:={s with heap:=g,toks:=tk}) (n:="range_iterator") D rfl rfl (by decide) ⟨.int (lo+i),H,N,⟨t,?_⟩,⟨rfl,rfl⟩,D,λb d=>(f b d).1⟩⟩;rw[Z4]
 done:=by
  intro X p j q m i F s C H E I f st l;subst p j q;obtain⟨B,f1,f2,A,y,r⟩:=f c (by simp);exact wpAny_pyNext_range_end (I.ok.hd m) st (by have:n<=i:=l;lia) λg M=>⟨rfl,I.turned (t':=s.toks) (λb o d e=>M b o d e) B f1 A y r⟩
 self:=λ_ _ _ _ _ st h=>wpAny_pyIter_rangeiter st h
section
variable {X:Cx}{tg:aWp}
variable{y:List (aWe×Obj)}{c:St}{B:TA}{pos:Pos}{A:List aWe}{h:aWi}
def FL(K:aL)(tl:TE):TI:=λc H R=>tl c H λx d=>∃a,x=.ref a/\(∃xs,cz K d a xs)/\R (G9 K a) d
theorem yT{l:aWp}{tl:TE}(n:PE X l tl):PI X tg l (FL X.K tl):=by
 intro y s c H R I h;refine aI (n y s c H _ I h) λv d g=>?_;obtain⟨x,t,f,i,j⟩:=g;obtain⟨a,e,⟨xs,m⟩,q⟩:=j;subst e;cases i;obtain⟨k,z,p,C⟩:=f.list m;refine wpAny_pyIter_list p.isList ?_;refine⟨d.heap.objs.size,[d.heap.objs.size],_,_,t,rfl,f.kept (t':=d.toks) λb o e=>aWi.get?_push_of_some _ e,Vc a _,⟨_,aWi.get?_push_size _ rfl,rfl,rfl⟩,λb r=>?_,q⟩;have e:b=d.heap.objs.size:=by simpa using r
 subst e;exact f.sj (bD _) (f.bz.fresh (bD _))
theorem K0{H:Hp}{s:aWg}{R:It->Hp->Prop}{E:XN}{lo d:Int}{t u v:Tok}{tk:Nat}(I:Inv X y c H s)(l: -(2^62)<=lo)(k:lo<2^62)(j: -(2^62)<=d)(i:d<2^62)
 (q:R (CY lo (d - lo).toNat) H):aWj (aWl X.prog X.w) X.A (pyIter (.ref s.heap.objs.size)) (MP X y c tg R) E {s with heap:=s.heap.push {cls:=.type "range",data:=.fields #[.int lo t,.int d u,.int 1 v]},toks:=tk}:=by
 refine wpAny_pyIter_range (IsRange.new ..) (small_one l k j i) ?_;have f:Inv X y c H {s with heap:=s.heap.push {cls:=.type "range",data:=.fields #[.int lo t,.int d u,.int 1 v]},toks:=tk}:=I.kept λb o e=>aWi.get?_push_of_some _ e;refine⟨(s.heap.push {cls:=.type "range",data:=.fields #[.int lo t,.int d u,.int 1 v]}).objs.size,[(s.heap.push {cls:=.type "range",data:=.fields #[.int lo t,.int d u,.int 1 v]}).objs.size],_,_,H,rfl,
  f.kept (t':=tk) λb o e=>aWi.get?_push_of_some _ e,Wg _ lo (d - lo).toNat,?_,λb g=>?_,q⟩
 .have n:lo+((0:Nat):Int)*1=lo:=by simp
  have m:(((d - lo).toNat:Nat):Int) - ((0:Nat):Int)=aWt.Range.rangeSize lo d 1:=by rw[rangeSize_one];split<;>lia
  show IsRangeIter _ _ (lo+((0:Nat):Int)*1) ((((d - lo).toNat:Nat):Int) - ((0:Nat):Int)) 1;rw[n,m];exact aWi.get?_push_size _ rfl
 .have e:b=(s.heap.push {cls:=.type "range",data:=.fields #[.int lo t,.int d u,.int 1 v]}).objs.size:=by simpa using g
  subst e;exact f.sj (bD _) (f.bz.fresh (bD _))
def FK(B:TA):TI:=λc H R=>B c H λvs d=>∃j:Int,vs=[.int j]/\ -(2^62)<=j/\j<2^62/\R (CY 0 j.toNat) d
def xv(B:TA):TI:=λc H R=>B c H λvs d=>∃i j:Int,vs=[.int i,.int j]/\(-(2^62)<=i/\i<2^62/\ -(2^62)<=j/\j<2^62)/\R (CY i (j - i).toNat) d
theorem tK{a:aWp}{p:Pos}(m:Gl X "range")(l:X.mg "range"=none)(n:PA X [a] B)(k:aWd [a] X.env=[(false,aWq a X.env)]:=by rfl):PI X tg (.Call (.Name "range" p) [a] [] pos) (FK B):=by
 intro y s c H R I h;refine Call_ (sJ I m l boot_range (fA (aI (n pos y s c H _ I h) λz C f=>?_) k rfl));obtain⟨vs,D,v,g,d⟩:=f;obtain⟨j,e,d,i,q⟩:=d;subst e;cases g with
 |cons r rr=>
  cases rr;obtain⟨t,rfl⟩:=r;exact call_range_1 (K0 v (by decide) (by decide) d i (by simpa using q))
theorem Uw{a b:aWp}{p:Pos}(D:Gl X "range")(C:X.mg "range"=none)(F:PA X [a,b] B)(z:aWd [a,b] X.env=[(false,aWq a X.env),(false,aWq b X.env)]:=by rfl)(f:aWd [b] X.env=[(false,aWq b X.env)]:=by rfl):
 PI X tg (.Call (.Name "range" p) [a,b] [] pos) (xv B):=by
 intro y s c H R I h;refine Call_ (sJ I D C boot_range (fA (aI (F pos y s c H _ I h) λJ M g=>?_) (by rw[z,f]) (by rw[f];rfl)));obtain⟨vs,N,G,k,d⟩:=g;obtain⟨i,j,e,⟨d,v,n,m⟩,q⟩:=d;subst e;cases k with
 |cons r rr=>
  cases rr with
  |cons l rr=>
   cases rr;obtain⟨t,rfl⟩:=r;obtain⟨L,rfl⟩:=l;exact call_range_2 (K0 G d v n m q)
def Co(k:TI)(g:TG)(l:TS):TS:=λD c H=>k c H λJ q=>∃W:Nat->Nat->St->Hp->Prop,(∃m,W 0 m c q)/\∀i m c H,W i m c H->
 (J.stop i H/\D.nx c H)\/(J.go i H/\∃N:St->Hp->Prop,(∀j d,N j d->∃f,f<m/\W (i+1) f j d)/\∀x d,J.yx i H x d->g x c d λn p=>l {D with nx:=N,ct:=N,bk:=D.nx} n p)
noncomputable def CP(A:List aWe)(h:aWi):List (aWe×Obj):=A.filterMap λb=>(h.get? b).map λo=>(b,o)
theorem qT{b:aWe}{o:Obj}(d:b∈A)(e:h.get? b=some o):(b,o)∈CP A h:=aTF.mpr ⟨b,d,by rw[e];rfl⟩
theorem Vn{p:aWe×Obj}(d:p∈CP A h):p.1∈A/\h.get? p.1=some p.2:=by
 obtain⟨b,f,e⟩:=aTF.mp d;cases q:h.get? b with
 |none=>rw[q]at e;cases e
 |some o=>
  rw[q]at e;have g:(b,o)=p:=dC.inj e;subst g;exact⟨f,q⟩
theorem Inv.pinned{H:Hp}{s:aWg}(I:Inv X y c H s)(k:∀b∈A,wV X y H b)(j:∀b∈A,∃o,s.heap.get? b=some o/\∀v,o.data≠ .cell v):Inv X (y++CP A s.heap) c H s:=
 I.n1 λp i=>(fZ i).elim (λz=>I.pin p (cR _ z)) λz=>by
  obtain⟨f,e⟩:=Vn z;obtain⟨l,f1,f2,_⟩:=k p.1 f;obtain⟨o,g,d⟩:=j p.1 f;rw[e]at g;cases g;exact⟨e,l,f1,f2,d⟩
theorem Inv.gx{pl:List (aWe×Obj)}{H:Hp}{s:aWg}(I:Inv X (y++pl) c H s):Inv X y c H s:=I.n1 λp d=>I.pin p (cR _ (eX _ d))
theorem Ec{iter:aWp}{body:List Stmt}{wi:TI}{g:TG}{tb:TS}(L:aWu (aWl X.prog X.w) X.A X.env X.xe)(hc:X.calm=true)(hi:PI X tg iter wi)(hg:PG X tg g)(j:km X body tb)
 (hs:∀x,aWo iter X.env x=pure x:=by intro _;rfl):PS X (.For tg iter body [] pos) (Co wi g tb):=by
 intro y s c H D I h;refine wpAny_For (aI (hi y s c H _ I h) λv s1 h1=>aI h1 λxb s2 h2=>?_) hs;obtain⟨it,A,tn,J,H2,e,I2,T,lm,f2,W,⟨m0,w0⟩,C⟩:=h2;subst e;have Y:∀{q:Hp},(∀b∈A,q b=none)->∀b∈A,wV X y q b:=λhn b j=>⟨hn b j,(f2 b j).2⟩;refine codeAny_forLoop_any (λn s'=>∃i O q,Inv X y O q s'/\tn i s'.heap/\(∀b∈A,q b=none)/\W i n O q) ?_ m0 ⟨0,c,H2,I2,lm,λb j=>(f2 b j).1,w0⟩;rintro n s3 ⟨i,M,Q,I3,sk,we,w3⟩;rcases C i n M Q w3 with⟨F,qn⟩| ⟨go,N,hN,step⟩
 .refine aXl L (aI (T.done X rfl rfl rfl hc i y s3 M Q X.xe I3 (Y we) sk F) λr s4 ⟨U,I4⟩=>?_);subst U;exact aYk ⟨M,Q,I4,qn⟩
 .refine aXl L (aI (T.item X rfl rfl rfl hc i y s3 M Q X.xe I3 (Y we) sk go) λr s4 z=>?_);obtain⟨u,U,h4⟩:=z;subst U;refine aXl L (aI h4 λ_ s5 z=>?_);obtain⟨x,H5,I5,r5,y5,S,Z⟩:=z;have E:=I5.pinned (Y Z) (T.obj _ _ S);refine aXl L (aI (hg _ s5 M H5 x u _ E r5 (step x H5 y5)) λ_ s6 z=>?_);obtain⟨pq,H6,I6,q6⟩:=z;refine aXl L (aI (j _ s6 pq H6 _ I6 q6) λf R t=>?_);have again:∀{k:St}{p:Hp},Inv X (y++CP A s5.heap) k p R->N k p->∃m,m<n/\∃i O q,Inv X y O q R/\tn i R.heap/\(∀b∈A,q b=none)/\W i m O q:=λ{k p} l G=>by
   obtain⟨m',hm,w7⟩:=hN k p G;refine⟨m',hm,i+1,k,p,l.gx,T.keep _ _ _ S λb j o e=>(l.pin (b,o) (cR _ (cR _ (qT j e)))).1,λb j=>?_,w7⟩;obtain⟨o,e,d⟩:=T.obj _ _ S b j;exact(l.pin (b,o) (cR _ (cR _ (qT j e)))).2.1
  cases f with
  |next=>obtain⟨k,p,l,G⟩:=t;exact again l G
  |cont=>obtain⟨k,p,l,G⟩:=t;exact again l G
  |brk=>obtain⟨k,p,l,t⟩:=t;exact⟨k,p,l.gx,t⟩
  |ret v=>obtain⟨x7,k,p,l,r7,t⟩:=t;exact⟨x7,k,p,l.gx,r7,t⟩
end
abbrev R2:=V->V->Hp->VK->Prop
def hO(X:Cx)(f:aWf->aWf->Sem aWf)(r:R2):Prop:=
 ∀(d:List (aWe×Obj))(s:aWg)(c:St)(H:Hp)(x y:V)(v u:aWf)(Q:VK),Inv X d c H s->RelV x v->RelV y u->r x y H Q->
  aWj (aWl X.prog X.w) X.A (f v u) (EP X d c Q) X.xe s
def GZ(X:Cx)(f:aWf->Sem aWf)(r:V->Hp->VK->Prop):Prop:=
 ∀(d:List (aWe×Obj))(s:aWg)(c:St)(H:Hp)(x:V)(v:aWf)(Q:VK),Inv X d c H s->RelV x v->r x H Q->
  aWj (aWl X.prog X.w) X.A (f v) (EP X d c Q) X.xe s
def pG(X:Cx)(f:aWf)(r:Xy->Hp->VK->Prop):Prop:=
 ∀(g:List (aWe×Obj))(s:aWg)(c:St)(H:Hp)(xs:Xy)(d:XI)(Q:VK),Inv X g c H s->aA xs d->r xs H Q->
  aWj (aWl X.prog X.w) X.A (call f d) (EP X g c Q) X.xe s
def G5(X:Cx)(r:V->Hp->(Bool->Hp->Prop)->Prop):Prop:=
 ∀(d:List (aWe×Obj))(s:aWg)(c:St)(H:Hp)(x:V)(v:aWf)(Q:Bool->Hp->Prop),Inv X d c H s->RelV x v->r x H Q->
  aWj (aWl X.prog X.w) X.A (truthy v) (TP X d c Q) X.xe s
noncomputable def zp(r:R2)(f d:TE):TE:=λc H Q=>f c H λx h=>d c h λy g=>r x y g Q
noncomputable def MS(r:V->Hp->VK->Prop)(d:TE):TE:=λc H Q=>d c H λx f=>r x f Q
noncomputable def rI(C:Int->Int->Prop)(g:Int->Int->V):R2:=λx y H Q=>∃i j,x=.int i/\y=.int j/\C i j/\Q (g i j) H
noncomputable def z3(g:Int->Int->V):R2:=λx y H Q=>∃i j,x=.int i/\y=.int j/\Q (g i j) H
def rU(g:Int->V):V->Hp->VK->Prop:=λx H Q=>∃i,x=.int i/\Q (g i) H
section
variable {X:Cx}{a b c:aWp}{d l m:TE}{pos:Pos}
variable{f:aWf->aWf->Sem aWf}{g:Int->Int->Int}
theorem E1(D:PE X a d)(C:PE X b l){n:List (aWe×Obj)}{s:aWg}{i:St}{H:Hp}{R:V->V->Hp->Prop}(I:Inv X n i H s)
 (h:d i H λx q=>l i q λy j=>R x y j){Q:XN}
 (B:∀v u k x y j,Inv X n i j k->RelV x v->RelV y u->R x y j->aWj (aWl X.prog X.w) X.A (f v u) Q X.xe k):
 aWj (aWl X.prog X.w) X.A (aWq a X.env) (λv F=>aWj (aWl X.prog X.w) X.A (aWq b X.env) (λu bq=>aWj (aWl X.prog X.w) X.A (f v u) Q X.xe bq) X.xe F) X.xe s:=by
 refine aI (D n s i H _ I h) λv r p=>?_;obtain⟨x,q,J,z,A⟩:=p;refine aI (C n r i q _ J A) λu k p=>?_;obtain⟨y,j,G,t,e⟩:=p;exact B v u k x y j G z t e
theorem w6{i:Operator}{r:R2}(t:hO X (aYb i) r)(e:PE X a d)(z:PE X b l):PE X (.BinOp a i b pos) (zp r d l):=by
 intro A s j H Q I h;exact wpAny_BinOp (E1 e z I h λv u k x y C B p n q=>t A k j C x y v u Q B p n q)
theorem Ox{j:UnaryOp}{r:V->Hp->VK->Prop}(y:GZ X (unaryOp j) r)(z:PE X a d):PE X (.UnaryOp j a pos) (MS r d):=by
 intro k s i H Q I h;refine UnaryOp_ (aI (z k s i H _ I h) λv p n=>?_);obtain⟨x,A,e,q,t⟩:=n;exact y k p i A x v Q e q t
theorem BS{C:Int->Int->Prop}
 (rule:∀(i j:Int)(t u:Tok)(s:aWg)(Q:XN)(E:XN),C i j->Q (.int (g i j) s.toks) {s with toks:=s.toks+1}->aWj (aWl X.prog X.w) X.A (f (.int i t) (.int j u)) Q E s):
 hO X f (rI C λi j=>.int (g i j)):=by
 intro e s z H x y v u Q I p n h;obtain⟨i,j,rfl,rfl,r,q⟩:=h;obtain⟨t,rfl⟩:=p;obtain⟨k,rfl⟩:=n;exact rule i j t k s _ _ r ⟨.int (g i j),H,I.tok _,⟨_,rfl⟩,q⟩
theorem BR
 (rule:∀(i j:Int)(t u:Tok)(s:aWg)(Q:XN)(E:XN),Q (.int (g i j) s.toks) {s with toks:=s.toks+1}->aWj (aWl X.prog X.w) X.A (f (.int i t) (.int j u)) Q E s):
 hO X f (z3 λi j=>.int (g i j)):=by
 intro z s r H x y v u Q I p n h;obtain⟨i,j,rfl,rfl,q⟩:=h;obtain⟨t,rfl⟩:=p;obtain⟨k,rfl⟩:=n;exact rule i j t k s _ _ ⟨.int (g i j),H,I.tok _,⟨_,rfl⟩,q⟩
theorem EX{g:Int->Int->Bool}
 (rule:∀(i j:Int)(t u:Tok)(s:aWg)(Q:XN)(E:XN),Q (.bool (g i j)) s->aWj (aWl X.prog X.w) X.A (f (.int i t) (.int j u)) Q E s):
 hO X f (z3 λi j=>.bl (g i j)):=by
 intro z s r H x y v u Q I p n h;obtain⟨i,j,rfl,rfl,q⟩:=h;obtain⟨t,rfl⟩:=p;obtain⟨k,rfl⟩:=n;exact rule i j t k s _ _ ⟨.bl (g i j),H,I,rfl,q⟩
def Hd(i j:Int):Prop:=0<j/\j<1073741824
def Hc(i j:Int):Prop:=0<=j/\j<=1000000/\i.natAbs<2^64
theorem OR:hO X (aYb .Add) (z3 λi j=>.int (i+j)):=BR λ_ _ _ _ _ _ _ q=>add_int q
theorem Pz:hO X (aYb .Sub) (z3 λi j=>.int (i - j)):=BR λ_ _ _ _ _ _ _ q=>sub_int q
theorem RA:hO X (aYb .FloorDiv) (rI Hd λi j=>.int (i/j)):=BS λi j _ _ _ _ _ h q=>by
 have k:(0:Int)<j:=h.1;have n:j<1073741824:=h.2;exact floordiv_int (by lia) (by rw[aS1 i (bU k)];exact q) (.inl (PyProof.noPylong_small (by lia)))
theorem PM:hO X (aYb .Mod) (rI (λ_ j=>0<j) λi j=>.int (i%j)):=BS λi j _ _ _ _ _ h q=>by
 have k:(0:Int)<j:=h;exact mod_int' (by lia) (by rw[Int.fmod_eq_emod_of_nonneg i (bU h)];exact q)
theorem O0:hO X (aYb .Pow) (rI Hc λi j=>.int (i^j.toNat)):=BS λ_ _ _ _ _ _ _ h q=>pow_int_small h.1 h.2.1 h.2.2 q
theorem MQ{f:aWf->Sem aWf}{g:Int->Int}
 (rule:∀(i:Int)(t:Tok)(s:aWg)(Q:XN)(E:XN),Q (.int (g i) s.toks) {s with toks:=s.toks+1}->aWj (aWl X.prog X.w) X.A (f (.int i t)) Q E s):
 GZ X f (rU λi=>.int (g i)):=by
 intro n s k H x v Q I j h;obtain⟨i,rfl,q⟩:=h;obtain⟨t,rfl⟩:=j;exact rule i t s _ _ ⟨.int (g i),H,I.tok _,⟨_,rfl⟩,q⟩
theorem Pq:GZ X (unaryOp .USub) (rU λi=>.int (-i)):=MQ λ_ _ _ _ _ q=>neg_int q
end
noncomputable def Eu:V->V->Bool
 | .aF,.aF=>true| .aF,.int _=>true| .int _,.aF=>true| .aF,.bl _=>true| .bl _,.aF=>true| .aF,.str _=>true| .str _,.aF=>true
 | .int _,.int _=>true| .bl _,.bl _=>true| .str _,.str _=>true| .qm _,.qm _=>true
 | .int _,.str _=>true| .str _,.int _=>true| .bl _,.str _=>true| .str _,.bl _=>true
 |_,_=>false
def MT:R2:=λx y H Q=>Eu x y=true/\Q (.bl (!decide (x=y))) H
theorem JE{i j:Int}:decide (V.int i=V.int j)=(i==j):=by
 rw[YB];simp
theorem Jo{i j:Bool}:decide (V.bl i=V.bl j)=(i==j):=by
 rw[YB];simp
theorem Kh{i j:Str}:decide (V.str i=V.str j)=(i==j):=by
 rw[YB];simp
theorem Q6{i j:Array UInt8}:decide (V.qm i=V.qm j)=(i.toList==j.toList):=by
 rw[YB];cases i;cases j;simp
section
variable {X:Cx}{a b c:aWp}{f g l:TE}{pos:Pos}
variable{n:CmpOp}{r:R2}{A:XI}
theorem mP{i:List (aWe×Obj)}{d:St}{H:Hp}{s:aWg}{Q:VK}{k h:Bool}(I:Inv X i d H s)(q:Q (.bl k) H)(e:k=h):EP X i d Q (.bool h) s:=by
 subst e;exact⟨.bl k,H,I,rfl,q⟩
theorem FH:hO X (aWy .NotEq) MT:=by
 intro e s z H x y v u Q I p d h;obtain⟨m,q⟩:=h;cases x with
 |aF=>
  cases p;cases y with
  |aF=>cases d;exact PySem.EqNone.ne_none_none (mP I q (by simp))
  |bl j=>cases d;exact PySem.EqNone.ne_none_bool (mP I q (by simp))
  |int j=>obtain⟨k,rfl⟩:=d;exact PySem.EqNone.ne_none_int (mP I q (by simp))
  |str j=>obtain⟨k,rfl⟩:=d;exact PySem.EqNone.ne_none_str (mP I q (by simp))
  |_=>exact absurd (show false=true from m) bQ
 |bl i=>
  cases p;cases y with
  |aF=>cases d;exact PySem.EqNone.ne_bool_none (mP I q (by simp))
  |bl j=>cases d;exact ne_bool (mP I q (congrArg not Jo))
  |str j=>obtain⟨k,rfl⟩:=d;exact PySem.EqMixed.ne_bool_str (mP I q (by simp))
  |_=>exact absurd (show false=true from m) bQ
 |int i=>
  obtain⟨t,rfl⟩:=p;cases y with
  |aF=>cases d;exact PySem.EqNone.ne_int_none (mP I q (by simp))
  |int j=>obtain⟨k,rfl⟩:=d;exact ne_int (mP I q (congrArg not JE))
  |str j=>obtain⟨k,rfl⟩:=d;exact PySem.EqMixed.ne_int_str (mP I q (by simp))
  |_=>exact absurd (show false=true from m) bQ
 |str i=>
  obtain⟨t,rfl⟩:=p;cases y with
  |aF=>cases d;exact PySem.EqNone.ne_str_none (mP I q (by simp))
  |bl j=>cases d;exact PySem.EqMixed.ne_str_bool (mP I q (by simp))
  |int j=>obtain⟨k,rfl⟩:=d;exact PySem.EqMixed.ne_str_int (mP I q (by simp))
  |str j=>obtain⟨k,rfl⟩:=d;exact ne_str (mP I q (congrArg not Kh))
  |_=>exact absurd (show false=true from m) bQ
 |qm i=>
  obtain⟨t,rfl⟩:=p;cases y with
  |qm j=>obtain⟨k,rfl⟩:=d;exact PySem.W.ne_bytes (mP I q (congrArg not Q6))
  |_=>exact absurd (show false=true from m) bQ
 |_=>cases y<;>exact absurd (show false=true from m) bQ
theorem Fy:hO X (aWy .Lt) (z3 λi j=>.bl (decide (i<j))):=EX λ_ _ _ _ _ _ _ q=>lt_int q
theorem HJ:hO X (aWy .LtE) (z3 λi j=>.bl (decide (i<=j))):=EX λ_ _ _ _ _ _ _ q=>le_int q
theorem H0:hO X (aWy .Gt) (z3 λi j=>.bl (decide (j<i))):=EX λ_ _ _ _ _ _ _ q=>gt_int q
theorem Sk:hO X (aWy .IsNot) (λx y H Q=>y=.aF/\Q (.bl (!decide (x=.aF))) H):=by
 intro k s j H x y v u Q I d i h;obtain⟨rfl,q⟩:=h;cases i;refine isnot_none_gen (mP I q ?_);cases x<;>first
  | (cases d;rfl)
  | (obtain⟨t,rfl⟩:=d;rfl)
theorem fo(b:aWp)(h:n≠ .In:=by decide)(d:n≠ .NotIn:=by decide):aWw n b=false:=by
 have j:(n==CmpOp.In)=false:=by cases n<;>first|rfl|exact absurd rfl h
 have i:(n==CmpOp.NotIn)=false:=by cases n<;>first|rfl|exact absurd rfl d
 cases b<;>simp[aWw,j,i]
theorem Rg(m:hO X (aWy n) r)(z:PE X a f)(t:PE X b g)(p:aWw n b=false):PE X (.Compare a [n] [b] pos) (zp r f g):=by
 intro e s d H Q I h;exact wpAny_Compare1 (E1 z t I h λv u i x y C B k j q=>m e i d C x y v u Q B k j q) p
noncomputable def wd(t:TE):TT:=λd H Q=>t d H λx h=>∃k,x=.bl k/\Q k h
theorem Sx(F:hO X (aWy n) r)(L:PE X a f)(J:PE X b g)(G:aWw n b=false):PT X (.Compare a [n] [b] pos) (wd (zp r f g)):=by
 intro i s d H Q I h;refine wpAny_isTrue_Compare1 (aI (L i s d H _ I h) λv m ⟨x,U,O,t,D⟩=>aI (J i m d U _ O D) λu j ⟨y,S,N,q,C⟩=>
  aI (F i j d S x y v u _ N t q C) λc Y ⟨z,R,M,p,k,e,B⟩=>?_) G
 subst e;cases p;exact aXa ⟨R,M,B⟩
noncomputable def rg(r j:R2)(f g l:TE):TE:=λd H Q=>f d H λx q=>g d q λy p=>r x y p λz h=>∃k,z=.bl k/\
 (if k=true then l d h λi m=>j y i m Q else Q (.bl false) h)
theorem UR{m:CmpOp}{q:R2}(E:hO X (aWy n) r)(Z:hO X (aWy m) q)(ha:PE X a f)(hb:PE X b g)(hc:PE X c l)
 (hm:lastMarks [n,m] [b,c]=false:=by with_unfolding_all rfl):PE X (.Compare a [n,m] [b,c] pos) (rg r q f g l):=by
 intro j s i H Q I h;refine Compare_chain (aI (ha j s i H _ I h) λv M ⟨x,H1,I1,R,Y⟩=>chain_link (aI (hb j M i H1 _ I1 Y) λu L ⟨y,H2,I2,p,U⟩=>
  aI (E j L i H2 x y v u _ I2 R p U) λd J ⟨z,C,B,O,k,e,t⟩=>?_)) hm
 subst e;cases O;refine aXa ?_;cases k with
 |false=>exact ite_ff ⟨.bl false,C,B,rfl,t⟩
 |true=>exact ite_tt (chain_last (aI (hc j J i C _ B t) λF G ⟨D,H4,I4,N,S⟩=>Z j G i H4 y D u F Q I4 p N S))
def Fe(K:aL)(x:V)(H:Hp)(k:Bool):Prop:=
 match x with
 | .aF=>k=false
 | .bl b=>k=b
 | .int i=>k=(i !=0)
 | .str y=>y.length<=sizeLine/\k=((y.length:Int)!=0)
 | .qm y=>y.size<=sizeLine/\k=((y.size:Int)!=0)
 | .ref p=>(∃xs,cz K H p xs/\k= !xs.isEmpty)\/(∃xs,jc K H p xs/\k= !xs.isEmpty)\/∃d,H p=some (.dK d)/\k= !d.isEmpty
 |_=>False
theorem Wi{h:Type}{d:List (h×V)}{vs:List (h×aWf)}(r:KV d vs):(!vs.isEmpty)= !d.isEmpty:=by
 cases r<;>rfl
theorem y9{xs:Xy}{d:XI}(r:aA xs d):(!d.toArray.isEmpty)= !xs.isEmpty:=by
 cases r<;>simp
theorem gi:(sizeLine:Nat)<2^63:=by rw[aXx];decide
theorem PY:G5 X (λx H Q=>∃k,Fe X.K x H k/\Q k H):=by
 intro R s M H x v Q I z h;obtain⟨k,e,q⟩:=h;have O:=gi;have N:sizeLine=16777216:=aXx;cases x with
 |aF=>
  cases z;have d:k=false:=e;subst d;exact truthy_none ⟨H,I,q⟩
 |bl b=>
  cases z;have d:k=b:=e;subst d;exact aXa ⟨H,I,q⟩
 |int i=>
  obtain⟨t,rfl⟩:=z;have d:k=(i !=0):=e;subst d;exact PySem.P.truthy_int ⟨H,I,q⟩
 |str y=>
  obtain⟨t,rfl⟩:=z;obtain⟨F,d⟩:y.length<=sizeLine/\k=((y.length:Int)!=0):=e;subst d;exact PySem.P.truthy_str (jZ (bC (mL F) (by decide))) ⟨H,I.tok _,q⟩
 |qm y=>
  obtain⟨t,rfl⟩:=z;obtain⟨F,d⟩:y.size<=sizeLine/\k=((y.size:Int)!=0):=e;subst d;exact PySem.W.truthy_bytes (bB F (by decide)) ⟨H,I.tok _,q⟩
 |ref p=>
  cases z;have d:(∃xs,cz X.K H p xs/\k= !xs.isEmpty)\/(∃xs,jc X.K H p xs/\k= !xs.isEmpty)\/∃j,H p=some (.dK j)/\k= !j.isEmpty:=e;rcases d with⟨xs,B,d⟩| ⟨xs,B,d⟩| ⟨j,B,d⟩
  .subst d;obtain⟨D,r,C,G⟩:=I.list B;have J:=r.length;exact wpAny_truthy_list C.isList (by simp only[bF];lia) ⟨H,I.tok _,by rw[y9 r];exact q⟩
  .subst d;obtain⟨D,r,C,G⟩:=I.tuple B;have J:=r.length;exact truthy_tuple C (by simp only[bF];lia) ⟨H,I.tok _,by rw[y9 r];exact q⟩
  .subst d;obtain⟨G,L,vs,r,m⟩:j.length<=sizeLine/\(p==aXe)=false/\∃vs,KV j vs/\s.heap.DictOf (j6 X.prog X.w) p vs:=I.bz p _ B;have J:j.length=vs.length:=Paired.length r;exact wpAny_truthy_dict L m (by lia) ⟨H,I.tok _,by rw[Wi r];exact q⟩
 |_=>exact(show False from e).elim
theorem Ui(e:PE X a f)(z:∀d,isTrue a X.env d=(do let v<-d;standAt a.pos;aXk [v] (truthy v))):
 PT X a (λi H Q=>f i H λx m=>∃k,Fe X.K x m k/\Q k m):=by
 intro j s i H Q I h;refine isTrue_plain (aI (e j s i H _ I h) λv q p=>?_) (z _);obtain⟨x,C,B,t,y⟩:=p;exact PY j q i C x v Q B t y
theorem vals1{x:V}(r:aA [x] A):∃u,A=[u]/\RelV x u:=by
 cases r with
 |cons h d=>cases d;exact⟨_,rfl,h⟩
theorem vals2{x y:V}(r:aA [x,y] A):∃u d,A=[u,d]/\RelV x u/\RelV y d:=by
 cases r with
 |cons k j=>
  cases j with
  |cons i h=>cases h;exact⟨_,_,rfl,k,i⟩
theorem UF(m:X.calm=true):pG X (.builtin "max") (λxs H Q=>∃i j,xs=[.int i,.int j]/\Q (.int (if j>i then j else i)) H):=by
 intro e s p H xs A Q I r h;obtain⟨i,j,rfl,q⟩:=h;obtain⟨u,v,rfl,⟨t,rfl⟩,⟨y,rfl⟩⟩:=vals2 r;refine max_two_ints (I.ok.hd m) λz tk k=>⟨_,H,I.kept k,?_,q⟩;by_cases d:j>i
 .rw[aWc d,aWc d];exact⟨_,rfl⟩
 .rw[aWa d,aWa d];exact⟨_,rfl⟩
theorem Vl(m:X.calm=true):pG X (.builtin "min") (λxs H Q=>∃i j,xs=[.int i,.int j]/\Q (.int (if j<i then j else i)) H):=by
 intro e s p H xs A Q I r h;obtain⟨i,j,rfl,q⟩:=h;obtain⟨u,v,rfl,⟨t,rfl⟩,⟨y,rfl⟩⟩:=vals2 r;refine min_two_ints (I.ok.hd m) λz tk k=>⟨_,H,I.kept k,?_,q⟩;by_cases d:j<i
 .rw[aWc d,aWc d];exact⟨_,rfl⟩
 .rw[aWa d,aWa d];exact⟨_,rfl⟩
theorem Vq:pG X (.type "int") (λxs H Q=>(∃i,xs=[.int i]/\Q (.int i) H)\/∃k,xs=[.bl k]/\Q (.int (if k then 1 else 0)) H):=by
 intro m s j H xs A Q I r h;rcases h with⟨i,rfl,q⟩| ⟨k,rfl,q⟩
 .obtain⟨u,rfl,t,rfl⟩:=vals1 r;exact call_int_int ⟨.int i,H,I,⟨_,rfl⟩,q⟩
 .obtain⟨u,rfl,d⟩:=vals1 r;cases d;exact call_int_bool ⟨.int (if k then 1 else 0),H,I.tok _,⟨_,rfl⟩,q⟩
end
variable{h:aWi}{dx:aWe}{mA:Str->XM}
structure Ap(h:aWi)(x dx C:aWe)(mA:Str->XM):Prop where
 obj:h.get? x=some (Yb C dx)
 ns:h.Ns1 dx mA
 ne:dx≠x
theorem VI(n:h.Ns1 dx mA):∃od,h.get? dx=some od/\∀name,Zn name od=some (mA name):=by
 obtain⟨o,d,m,g,k,j,_,i⟩:=n;refine⟨o,g,λname=>?_⟩;have e:=i name;unfold nsFind findBy at e;rw[<-Array.find?_toList]at e;unfold Zn;rw[k];dsimp only;split
 .rename_i y q;rw[q]at e;exact congrArg some e
 .rename_i q;rw[q]at e;have a:d.toList.any (·.refKey)=false:=by
   rw[List.any_eq_false];intro y f;obtain⟨z,t,c⟩:=j y (Array.mem_toList_iff.mp f);simp[DictEntry.refKey,c]
  have l:¬d.toList.any (·.refKey)=true:=by rw[a];exact bQ
  rw[aWa l];exact congrArg some e
theorem Ap.look{x C:aWe}(I:Ap h x dx C mA):∃od,PySem.W.InstAt h x (Yb C dx) C (some od)/\∀name,Zn name od=some (mA name):=
 let ⟨od,c,d⟩:=VI I.ns
 ⟨od,⟨I.obj,rfl,rfl,c⟩,d⟩
section
variable {c:aWm}{w:aWr}{A:aWn}{E:XN}{s:aWg}{K:aL}{x dx C f:aWe}{mA:Str->XM}{name:Str}{v:aWf}
theorem Q2{expr:Bool}{Q:XN}(X:K.In s.heap)(I:Ap s.heap x dx C mA)(k:Zm K C name=true)(j:ZN K C=true)
 (l:cS K (.ref C) name=some none)(g:mA name=some v)(d:aTW v=true)(h:Q v {s with toks:=s.toks+1}):
 aWj (aWl c w) A (getAttr (.ref x) name expr) Q E s:=by
 obtain⟨od,J,i⟩:=I.look;exact PySem.W.get_value X J (ZK k).1 (PySem.W.findObj_own j l rfl (by rw[i,g])) d h
theorem T1{g:Sem Bool}{Q:aWf×XI->aWg->Prop}(X:K.In s.heap)(I:Ap s.heap x dx C mA)(d:Zm K C name=true)
 (l:cS K (.ref C) name=some (some (.ref f)))(j:Yw K (.ref f)=true)(i:mA name=none)(h:Q (.ref f,[.ref x]) s):
 aWj (aWl c w) A (getMethod (.ref x) name g) Q E s:=by
 obtain⟨od,J,k⟩:=I.look;exact PySem.W.method_fn X J (ZK d).1 (ZK d).2 l (beq_iff_eq.mp j) (by show(Zn name od).map (·.isSome)=some false;rw[k,i];rfl) h
theorem Qy{m:XJ}{Q:Unit->aWg->Prop}(X:K.In s.heap)(I:Ap s.heap x dx C mA)
 (z:cS K (.ref C) "__setattr__"=some (some (.builtin "object.__setattr__")))(e:aTQ K C=true)(t:ZO K C name=some none)(B:ZN K C=true)
 (r:PySem.Within mA m)(g:m.length<=sizeLine)
 (h:∀d,Ap d x dx C (λy=>if y=name then some v else mA y)->aWi.SameBut dx s.heap d->Q () {s with heap:=d,toks:=s.toks+2}):
 aWj (aWl c w) A (setAttr (.ref x) name v) Q E s:=by
 obtain⟨od,J,M⟩:=I.look;refine PySem.W.set_plain X J z (PySem.W.osa_open (s:={s with toks:=s.toks+1}) (r:=none) X J e t λb=>?_);obtain⟨N,D,p⟩:=PySem.W.any_some B;have q:s.heap.get? x=some ⟨.ref C,some dx,.plain,#[]⟩:=I.obj;refine aWb (aWh (aWb (aWb (wpAny_loadPart q (aWb (PySem.W.Looks.here (s:={s with toks:=s.toks+1}) (PySem.W.looks_clsIn X D) ?_))))));rw[p];refine aWh (a:=some dx) (aWb (aWh (aWb ?_)));refine wpAny_nsSet1 (s:={s with toks:=s.toks+1}) I.ns λd l n=>?_;obtain⟨L,F,G,i,j,k⟩:=l.count (PySem.Within.cons name v r);refine aWb (wpAny_lookBehind i (by rw[j];exact pastItsLine_dict (bB k (by rw[aN];exact eB g))) ?_);exact aWh (h _ ⟨(n.2 _ (Ne.symm I.ne)).trans I.obj,l,I.ne⟩ n)
theorem Uj{R:Result->aWg->Prop}{vs:XI}{i:List (Str×aWf)}(X:K.In s.heap)(j:ZP K C=true)
 (k:cS K (.ref C) "__init__"=some (some (.ref f)))(l:PySem.W.typeIn K (.ref f)=some (.type "function"))
 (h:aXz (aWl c w) (A.under (.builtin "type.__call__" ⟨.ref C::vs,i⟩)) (.call (.ref f) ⟨.ref (s.heap.objs.size+1)::vs,i⟩) (PySem.W.InitBack (s.heap.objs.size+1) R)
  {s with heap:=(s.heap.push eJ).push (Yb C s.heap.objs.size)}):
 aXz (aWl c w) A (.call (.ref C) ⟨vs,i⟩) R s:=by
 obtain⟨m,g,d,t,os⟩:=s;exact PySem.W.make_core (PySem.W.makes_of X j) (PySem.W.looks_findIn X k) (λself=>PySem.W.bind_fn X self l) (.inl rfl) h
end
noncomputable def qR(f:Str)(v:V):List (Str×V)->List (Str×V)
 | []=>[(f,v)]
 | (g,x)::r=>if g=f then(g,v)::r else(g,x)::qR f v r
theorem wX(f g:Str)(v:V):∀fs:List (Str×V),(qR f v fs).lookup g=if g=f then some v else fs.lookup g
 | []=>by
   show XR g [(f,v)]=_;by_cases h:g=f
   .have c:(g==f)=true:=beq_iff_eq.mpr h;simp only[XR,c,aWc h]
   .have c:(g==f)=false:=beq_eq_false_iff_ne.mpr h;simp only[XR,c,aWa h]
 | (k,x)::r=>by
   have ih:=wX f g v r;rw[show qR f v ((k,x)::r)=(if k=f then(k,v)::r else(k,x)::qR f v r)from rfl];by_cases d:k=f
   .rw[aWc d];by_cases h:g=k
    .have c:(g==k)=true:=beq_iff_eq.mpr h;simp only[XR,c,aWc (h.trans d)]
    .have c:(g==k)=false:=beq_eq_false_iff_ne.mpr h;simp only[XR,c,aWa (λe:g=f=>h (e.trans d.symm))]
   .rw[aWa d];by_cases h:g=k
    .have c:(g==k)=true:=beq_iff_eq.mpr h;simp only[XR,c,aWa (λe:g=f=>d (h.symm.trans e))]
    .have c:(g==k)=false:=beq_eq_false_iff_ne.mpr h;simp only[XR,c];exact ih
theorem wM(f:Str)(v:V):∀fs:List (Str×V),f∈(qR f v fs).map (·.1)/\∀g,g∈fs.map (·.1)->g∈(qR f v fs).map (·.1)
 | []=>⟨by simp[qR],λg h=>by simp at h⟩
 | (k,x)::r=>by
   obtain⟨i,d⟩:=wM f v r;rw[show qR f v ((k,x)::r)=(if k=f then(k,v)::r else(k,x)::qR f v r)from rfl];by_cases c:k=f
   .rw[aWc c];subst c;exact⟨by simp,λg h=>by simpa using h⟩
   .rw[aWa c];refine⟨?_,λg h=>?_⟩
    .rw[aK];exact bA _ i
    .rw[aK]at h|-;rcases fU h with e|e
     .exact cC.mpr (.inl e)
     .exact bA _ (d g e)
theorem xK(f:Str)(v:V):∀fs:List (Str×V),(qR f v fs).length<=fs.length+1
 | []=>by simp[qR]
 | (k,x)::r=>by
   have ih:=xK f v r;rw[show qR f v ((k,x)::r)=(if k=f then(k,v)::r else(k,x)::qR f v r)from rfl];by_cases c:k=f
   .rw[aWc c,aN,aN];exact XQ _
   .rw[aWa c,aN,aN];exact eB ih
theorem rN.some_of{v:V}{o:XM}(r:rN (some v) o):∃u,o=some u/\RelV v u:=by
 cases o with
 |none=>exact(show False from r).elim
 |some u=>exact⟨u,rfl,r⟩
theorem rN.none_of{o:XM}(r:rN none o):o=none:=by
 cases o with
 |none=>rfl
 |some u=>exact(show False from r).elim
theorem U8{v:V}{u:aWf}(r:RelV v u):aTW u=true:=by
 cases v with
 |aF=>cases (show u=aWf.none from r);rfl
 |bl b=>cases (show u=aWf.bool b from r);rfl
 |int i=>obtain⟨t,e⟩:=(show∃t,u=aWf.int i t from r);cases e;rfl
 |str x=>obtain⟨t,e⟩:=(show∃t,u=aWf.str x t from r);cases e;rfl
 |qm b=>obtain⟨t,e⟩:=(show∃t,u=aWf.bytes b t from r);cases e;rfl
 |Dq b=>obtain⟨t,e⟩:=(show∃t,u=aWf.float b t from r);cases e;rfl
 |ref a=>cases (show u=aWf.ref a from r);rfl
 |ty n=>cases (show u=aWf.type n from r);rfl
section
variable {P:aWm}{w:aWr}{H c:Hp}{h g:aWi}{a C dx:aWe}{fs i:List (Str×V)}
theorem GL(j:gg P w H h)(e:H a=some (.ins C dx fs)):∃mA,Ap h a dx C mA/\(∀f,rN (fs.lookup f) (mA f))/\PySem.Within mA (fs.map (·.1))/\fs.length<=1000/\H dx=some (.own a):=by
 obtain⟨d,z,k,ob,mA,n,r,q⟩:=(show k6 P w H h a (.ins C dx fs)from j a _ e);exact⟨mA,⟨ob,n,k⟩,r,q,z,d⟩
end
structure oe(K:aL)(C:aWe):Prop where
 pg:Zm K C Str.empty=true
 hd:ZN K C=true
 po:aTQ K C=true
 sa:cS K (.ref C) "__setattr__"=some (some (.builtin "object.__setattr__"))
theorem oe.get{K:aL}{C:aWe}(c:oe K C)(f:Str):Zm K C f=true:=c.pg
def qM(K:aL)(C:aWe)(f:Str):Prop:=cS K (.ref C) f=some none
theorem qM.Bv{K:aL}{C:aWe}{f:Str}(n:qM K C f):ZO K C f=some none:=by
 unfold ZO;rw[show cS K (.ref C) f=some none from n];rfl
structure vv(K:aL)(C:aWe)(f:Str)(v:V)(u:aWf):Prop where
 at_:cS K (.ref C) f=some (some u)
 rel:RelV v u
 get:PySem.W.specialIn K u "__get__"=some none
 cp:PySem.W.copiedNames.contains f=false
structure vo(K:aL)(C:aWe)(m:Str)(f:aWe):Prop where
 at_:cS K (.ref C) m=some (some (.ref f))
 fn:Yw K (.ref f)=true
 kp:dQ K (.ref f)=true
section
variable {X:Cx}{d:List (aWe×Obj)}{i:St}{H:Hp}{s:aWg}{a C dx:aWe}{fs:List (Str×V)}{f:Str}{v:V}{A:aWn}{E:XN}
variable{Q:XN}
theorem zS{b:Bool}(I:Inv X d i H s)(e:H a=some (.ins C dx fs))(c:oe X.K C)(n:qM X.K C f)(l:fs.lookup f=some v)
 (h:∀u g,Inv X d i H g->RelV v u->Q u g):aWj (aWl X.prog X.w) A (getAttr (.ref a) f b) Q E s:=by
 obtain⟨mA,O,r,_,_,_⟩:=GL I.bz e;obtain⟨u,k,j⟩:=rN.some_of (v:=v) (o:=mA f) (by rw[<-l];exact r f);exact Q2 I.jw O (c.get f) c.hd n k (U8 j) (h u _ (I.tok _) j)
theorem Mw{m:Str}{g:aWe}{pl:Sem Bool}{Q:aWf×XI->aWg->Prop}(I:Inv X d i H s)(e:H a=some (.ins C dx fs))(c:oe X.K C)(k:vo X.K C m g)(l:fs.lookup m=none)
 (h:Q (.ref g,[.ref a]) s):aWj (aWl X.prog X.w) A (getMethod (.ref a) m pl) Q E s:=by
 obtain⟨mA,O,r,_,_,_⟩:=GL I.bz e;have j:mA m=none:=rN.none_of (by rw[<-l];exact r m);exact T1 I.jw O (c.get m) k.at_ k.fn j h
theorem y7{y:V}{u:aWf}{Q:Unit->aWg->Prop}(I:Inv X d i H s)(e:H a=some (.ins C dx fs))(c:oe X.K C)(n:qM X.K C f)(p:fs.length<1000)(B:RelV y u)
 (h:∀l,Inv X d i (upd H a (.ins C dx (qR f y fs))) l->Q () l):aWj (aWl X.prog X.w) A (setAttr (.ref a) f u) Q E s:=by
 obtain⟨mA,O,r,k,_,m⟩:=GL I.bz e;have D:(fs.map (·.1)).length<=sizeLine:=by rw[aP,aXx];exact dY (aM p (by decide))
 refine Qy I.jw O c.sa c.po n.Bv c.hd k D λL j t=>h _ ?_;have G:∃o,L.get? dx=some o:=let ⟨o,_,_,M,_⟩:=j.ns;⟨o,M⟩
 refine I.write (x:=a) (e:=dx) (by rw[e];exact True.intro) (.inr m) (λb q J z=>(t.2 b J).trans z) G ?_;refine⟨by rw[gJ O.ne];exact m,?_,O.ne,j.obj,_,j.ns,λg=>?_,λg F=>?_⟩
 .have:=xK f y fs;exact bB this (bS p)
 .show rN ((qR f y fs).lookup g) (if g=f then some u else mA g);rw[wX];by_cases q:g=f
  .rw[aWc q,aWc q];exact B
  .rw[aWa q,aWa q];exact r g
 .by_cases q:g=f
  .rw[q];exact(wM f y fs).1
  .refine(wM f y fs).2 g (k g λz=>F ?_);show(if g=f then some u else mA g)=none;rw[aWa q];exact z
theorem Inv.made(I:Inv X d i H s):Inv X d i (upd (upd H s.heap.objs.size (.own (s.heap.objs.size+1))) (s.heap.objs.size+1) (.ins C s.heap.objs.size []))
 {s with heap:=(s.heap.push eJ).push (Yb C s.heap.objs.size)}:=by
 have g:(s.heap.push eJ).get? s.heap.objs.size=some eJ:=aWi.get?_push_size s.heap rfl;have m:((s.heap.push eJ).push (Yb C s.heap.objs.size)).get? (s.heap.objs.size+1)=some (Yb C s.heap.objs.size):=by
  have:=aWi.get?_push_size (s.heap.push eJ) (o:=Yb C s.heap.objs.size) rfl;rwa[aWi.size_push]at this
 have l:(s.heap.push eJ).Ns s.heap.objs.size (λ_=>none):=⟨eJ,#[],_,g,rfl,(λe k=>absurd k (by simp)),λ_=>rfl⟩;have n:=I.laid (a:=s.heap.objs.size) (o:=.own (s.heap.objs.size+1)) (h':=s.heap.push eJ) (t':=s.toks) (λb u q=>aWi.get?_push_of_some _ q) (bD _) ⟨_,g⟩;refine n.laid (a:=s.heap.objs.size+1) (o:=.ins C s.heap.objs.size []) (t':=s.toks) (λb u q=>aWi.get?_push_of_some _ q) (bZ (aWi.size_push _ _)) ?_;have c:s.heap.objs.size≠s.heap.objs.size+1:=bW (bX _);refine⟨by rw[gJ c,kD],dF _,c,m,λ_=>none,(aWi.Ns1.of_empty l).at λo q=>aWi.get?_push_of_some _ q,λ_=>True.intro,λy j=>absurd rfl j⟩
theorem RN{c:aWm}{w:aWr}{env:Env}{e:aWp}{f:Str}{pos:Pos}{s:aWg}(g:aXm e f env (aWq e env)=aWq e env)
 (h:aWj (aWl c w) A (aWq e env) (λo j=>aWj (aWl c w) A (getAttr o f true) Q E j) E s):aWj (aWl c w) A (aWq (.Attribute e f pos) env) Q E s:=
 Attribute_any_ h (by rw[arm_eval_Attribute,g])
end
def BD(K:aL)(g:TE)(f:Str):TE:=λd H Q=>g d H λx c=>∃a C dx fs v,x=.ref a/\c a=some (.ins C dx fs)/\oe K C/\qM K C f/\fs.lookup f=some v/\Q v c
def BI(K:aL)(i g:TE)(f:Str):TS:=λD c H=>g c H λy j=>i c j λx d=>∃a C dx fs,x=.ref a/\d a=some (.ins C dx fs)/\oe K C/\qM K C f/\fs.length<1000/\
 D.nx c (upd d a (.ins C dx (qR f y fs)))
def Dx(X:Cx)(f:Operator)(rd:V->V->Hp->VK->Prop):Prop:=
 ∀(d:List (aWe×Obj))(s:aWg)(c:St)(H:Hp)(x y:V)(u v:aWf)(Q:VK),Inv X d c H s->RelV x u->RelV y v->rd x y H Q->aWj (aWl X.prog X.w) X.A (inplaceOp f u v) (EP X d c Q) X.xe s
def nU(K:aL)(l k:TE)(rd:V->V->Hp->VK->Prop)(f:Str):TS:=λD c H=>l c H λx j=>∃a C dx fs v,x=.ref a/\j a=some (.ins C dx fs)/\oe K C/\qM K C f/\fs.lookup f=some v/\
 k c j λy m=>rd v y m λz i=>∃g d,i a=some (.ins C g d)/\d.length<1000/\D.nx c (upd i a (.ins C g (qR f z d)))
section
variable {X:Cx}{o e value:aWp}{f:Str}{pos m p:Pos}{d g:TE}
theorem Pp(t:PE X e d)(y:aXm e f X.env (aWq e X.env)=aWq e X.env):PE X (.Attribute e f pos) (BD X.K d f):=by
 intro A s i H Q I h;refine RN y (aI (t A s i H _ I h) λu L j=>?_);obtain⟨x,F,D,k,a,C,dx,fs,v,ex,z,c,n,l,q⟩:=j;subst ex;obtain rfl:u=aWf.ref a:=k;exact zS D z c n l λG J B r=>⟨v,F,B,r,q⟩
theorem PJ(G:PE X o d)(B:PE X value g)(F:aXd value (some (.Attribute o f m)) pos.line X.env=pure false):PS X (.Assign [.Attribute o f m] value pos) (BI X.K d g f):=by
 intro k s i H D I h;refine plainObj_wpAny_Assign_Attribute (aI (B k s i H _ I h) λu r j=>?_) F;obtain⟨y,O,N,t,q⟩:=j;refine aI (G k r i O _ N q) λA R j=>?_;obtain⟨x,S,M,v,a,C,dx,fs,ex,J,c,n,l,z⟩:=j;subst ex;obtain rfl:A=aWf.ref a:=v;exact y7 M J c n l t λQ L=>⟨i,_,L,z⟩
theorem LM{A:Operator}{rd:V->V->Hp->VK->Prop}(U:PE X o d)(S:PE X value g)(k:Dx X A rd):PS X (.AugAssign (.Attribute o f p) A value pos) (nU X.K d g rd f):=by
 intro t s j H D I h;refine wpAny_AugAssign_AttributeAny (aI (U t s j H _ I h) λQ s1 i=>?_);obtain⟨x,H1,I1,L,a,C,dx,fs,v,ex,Y,c,n,l,q⟩:=i;subst ex;obtain rfl:Q=aWf.ref a:=L;refine zS I1 Y c n l λu F I2 M=>aI (S t F j H1 _ I2 q) λw3 B i=>?_;obtain⟨y,H2,I3,J,O⟩:=i;refine aI (k t B j H2 v y u w3 _ I3 M J O) λw4 s4 i=>?_;obtain⟨z,H3,E,G,oh,mj,r,R,N⟩:=i;exact y7 E r c n R G λs5 Z=>⟨j,_,Z,N⟩
def Ex:V->V->Hp->VK->Prop:=λx y H Q=>∃i j,x=.int i/\y=.int j/\Q (.int (i+j)) H
def Ew:V->V->Hp->VK->Prop:=λx y H Q=>∃i j,x=.int i/\y=.int j/\Q (.int (i - j)) H
theorem O9:Dx X .Add Ex:=by
 rintro r s n H x y u v Q I l k ⟨i,j,rfl,rfl,q⟩;obtain⟨t,rfl⟩:=(show∃t,u=aWf.int i t from l);obtain⟨c,rfl⟩:=(show∃c,v=aWf.int j c from k);exact aUx ⟨.int (i+j),H,I.tok _,⟨_,rfl⟩,q⟩
theorem Jc:Dx X .Sub Ew:=by
 rintro r s n H x y u v Q I l k ⟨i,j,rfl,rfl,q⟩;obtain⟨t,rfl⟩:=(show∃t,u=aWf.int i t from l);obtain⟨c,rfl⟩:=(show∃c,v=aWf.int j c from k);exact aUy ⟨.int (i - j),H,I.tok _,⟨_,rfl⟩,q⟩
end
section
variable {X:Cx}{d:List (aWe×Obj)}{f:St}{H:Hp}{s:aWg}{A:aWn}{E:XN}{Q:XN}{c:aWf}{b:Bool}
end
variable{k:Nat}{A:aWn}{C:aWe}{us:XI}{B:List (Str×aWf)}
structure cc(k:Nat)(A:aWn):Prop where
 hd:A.handled=none
 dp:A.depth+3*k+5<recursionLimit
 un:A.units+16*k+200<aXc
theorem cc.mono{j:Nat}(r:cc k A)(h:j<=k):cc j A:=⟨r.hd,by have:=r.dp;lia,by have:=r.un;lia⟩
theorem cc.deeper(r:cc (k+1) A)(env:Env):cc k (A.deeper env):=
 ⟨r.hd,by have:=r.dp;show A.depth+1+3*k+5<_;lia,by have:=r.un;show A.units+3+16*k+200<_;lia⟩
theorem Wr:(A.under (.builtin "type.__call__" ⟨.ref C::us,B⟩)).depth=A.depth+1:=by
 first|rfl|simp[aWn.under,Code.weight,Code.isCreation,Code.isGuard,Code.isCaller,Code.frames,Code.isFrame,guardIds]
theorem VR:(A.under (.builtin "type.__call__" ⟨.ref C::us,B⟩)).units=A.units+1:=by
 first|rfl|simp[aWn.under,Code.cUnits,Code.frames,Code.isFrame]
theorem cc.make(r:cc (k+1) A)(C:aWe)(us:XI)(B:List (Str×aWf)):cc k (A.under (.builtin "type.__call__" ⟨.ref C::us,B⟩)):=
 ⟨r.hd,by have:=r.dp;rw[Wr];lia,by have:=r.un;rw[VR];lia⟩
theorem cc.depth(r:cc k A):A.depth<recursionLimit:=by have:=r.dp;exact dG (dG this)
noncomputable def Dw:TA:=λ_ H Q=>Q [] H
noncomputable def Fj(f:TE)(d:TA):TA:=λc H Q=>f c H λx i=>d c i λxs g=>Q (x::xs) g
section
variable {X:Cx}{e:aWp}{c:XO}{d:TE}{t:TA}{pos:Pos}
theorem F4:PA X [] Dw:=λ_ _ _ _ H Q I h=>Calls.spliced_nil ⟨[],H,I,.nil,h⟩
theorem x9(v:PE X e d)(r:PA X c t)(q:aWd (e::c) X.env=(false,aWq e X.env)::aWd c X.env:=by rfl):PA X (e::c) (Fj d t):=by
 intro pos i s g H Q I h;rw[q];show aWj _ _ (spliced ((false,aWq e X.env)::aWs pos (aWd c X.env))) _ _ s;refine Calls.spliced_cons (aI (v i s g H _ I h) λu j f=>?_);obtain⟨x,F,z,m,p⟩:=f;refine aI (r pos i j g F _ z p) λus G f=>?_;obtain⟨xs,D,y,l,n⟩:=f;exact⟨x::xs,D,y,.cons m l,n⟩
def Bx(t:TA):TE:=λg H Q=>t g H λxs f=>xs.length<=sizeLine/\∀p,f p=none->Q (.ref p) (upd f p (.tup xs))
def BB(t:TA):TE:=λg H Q=>t g H λxs f=>xs.length<=sizeLine/\∀p,f p=none->Q (.ref p) (upd f p (.lst xs))
theorem N4{m}(h:PA X c t):PE X (.Tuple c m pos) (Bx t):=by
 intro v s j H Q I n;refine wpAny_Tuple_spliced (aI (h pos v s j H _ I n) λus f l=>?_);obtain⟨xs,i,g,r,z,q⟩:=l;refine⟨by rw[<-r.length];exact z,?_⟩;have p:i f.heap.objs.size=none:=g.bz.fresh (bD _);refine⟨.ref f.heap.objs.size,upd i f.heap.objs.size (.tup xs),g.laid (t':=f.toks) (λb u e=>aWi.get?_push_of_some _ e) (bD _) ?_,rfl,q _ p⟩;exact⟨z,us,r,⟨_,aWi.get?_push_size _ rfl,rfl,_,rfl⟩⟩
theorem Qh(h:PA X c t):PE X (.List c pos) (BB t):=by
 intro p s j H Q I m;refine wpAny_List_spliced (aI (h pos p s j H _ I m) λus f l=>?_);obtain⟨xs,i,g,r,z,q⟩:=l;refine⟨by rw[<-r.length];exact z,?_⟩;have n:i f.heap.objs.size=none:=g.bz.fresh (bD _);refine⟨.ref f.heap.objs.size,upd i f.heap.objs.size (.lst xs),g.laid (t':=f.toks) (λb u e=>aWi.get?_push_of_some _ e) (bD _) ?_,rfl,q _ n⟩;exact⟨z,us,0,r,aWi.get?_push_size _ rfl⟩
end
abbrev Sp:=Xy->Hp->VK->XK->Prop
abbrev vz:=List Env->Hp->aWg->XK->XN
structure nc(P:aWm)(w:aWr)(K:aL)(mg:Str->XM)(base:aWi)(A:aWn)(outer:List Env)(s:aWg)(H:Hp):Prop where
 frames:A.frames=some outer
 mod:Mod K mg base
 bs:∀b o,base.get? b=some o->s.heap.get? b=some o/\H b=none
 uq:base.objs.size<=s.heap.objs.size
 ir:s.heap.FunFrames base outer
 Ah:∀b∈b4 outer,H b=none
 bz:gg P w H s.heap
 bare:AllBare s.gens
def CE(c:List Env)(P:aWm)(w:aWr)(H:Hp)(s:aWg)(Q:VK)(u:aWf)(d:aWg):Prop:=
 ∃v f,d.os=s.os/\AllBare d.gens/\Un (b4 c) [] H f s.heap d.heap/\gg P w f d.heap/\RelV v u/\Q v f
def CR(f:vz)(c:List Env)(P:aWm)(w:aWr)(H:Hp)(s:aWg)(Q:VK)(E:XK)(r:Result)(d:aWg):Prop:=
 match r with
 | .ok (.ret u)=>CE c P w H s Q u d
 | .ok _=>False
 | .error e=>f c H s E e d
structure pK(P:aWm)(w:aWr)(K:aL)(mg:Str->XM)(base:aWi)(CX:vz)(k:Nat)(f:aWe)(fd:aXh)(ps:XJ)(sp:Sp):Prop where
 len:∀vs H Q E,sp vs H Q E->vs.length=ps.length
 run:∀(A:aWn)(outer:List Env)(s:aWg)(H:Hp)(args:Args)(us:XI)(vs:Xy)(Q:VK)(E:XK),cc k A->nc P w K mg base A outer s H->BindsTo s fd args (ps.zip us)->aA vs us->sp vs H Q E->
  aXz (aWl P w) A (.call (.ref f) args) (CR CX outer P w H s Q E) s
theorem nc.make{P:aWm}{w:aWr}{K:aL}{f:Str->XM}{d:aWi}{A:aWn}{c:List Env}{s:aWg}{H:Hp}(e:nc P w K f d A c s H)(C:aWe)(us:XI)(B:List (Str×aWf)):
 nc P w K f d (A.under (.builtin "type.__call__" ⟨.ref C::us,B⟩)) c s H:=⟨by first|exact e.frames| (simpa[aWn.under,Code.envs,Code.isFrame,pushEnvs]using e.frames),e.mod,e.bs,e.uq,e.ir,e.Ah,e.bz,e.bare⟩
section
variable {X:Cx}{c:List (aWe×Obj)}{f:St}{H:Hp}{s i:aWg}
theorem Inv.B8(I:Inv X c f H s):nc X.prog X.w X.K X.mg X.base X.A X.stack s H:=
 ⟨I.ok.frames,I.ok.mod,I.bs,bB I.ok.uq I.sz,I.stack,I.ny,I.bz,I.bare⟩
theorem Inv.after{Q:VK}{u:aWf}(I:Inv X c f H s)(h:CE X.stack X.prog X.w H s Q u i):EP X c f Q u i:=by
 obtain⟨v,p,os,j,un,m,r,q⟩:=h;obtain⟨n,g,d,t,l⟩:=i;obtain rfl:l=s.os:=os;exact⟨v,p,I.call (h':=n) (g':=g) (d':=d) (t':=t) (ch:=[]) un m j (λb z=>absurd z (by simp)),r,q⟩
end
noncomputable def DI(d:Sp)(bo:Xy)(E:XK)(t:TA):TE:=λc H Q=>t c H λvs f=>d (vs++bo) f Q E
def FR(C:aWe)(m:Str)(g:Sp)(bo:Xy)(E:XK)(f:TE)(t:TA):TE:=λc H Q=>f c H λx d=>∃a dx fs,x=.ref a/\d a=some (.ins C dx fs)/\fs.lookup m=none/\
 t c d λvs i=>g (x::(vs++bo)) i Q E
def wq(C:aWe)(d:Sp)(bo:Xy)(E:XK)(t:TA):TE:=λσ H Q=>t σ H λvs c=>∀x dx,c x=none->c dx=none->dx≠x->
 d (.ref x::(vs++bo)) (upd (upd c dx (.own x)) x (.ins C dx [])) (λv f=>v=.aF/\Q (.ref x) f) E
def Binds(K:aL)(fd:aXh)(c:XJ)(ds:XI):Prop:=
 ∀(s:aWg)(us:XI),K.In s.heap->(us++ds).length=c.length->BindsTo s fd ⟨us,[]⟩ (c.zip (us++ds))
theorem Binds.all{K:aL}{fd:aXh}{c:XJ}(h:∀us:XI,us.length=c.length->bindArgs fd ⟨us,[]⟩=pure (c.zip us)):Binds K fd c []:=λs us _ d=>by
 rw[aU]at d|-;exact .of_eq (h us d)
def hL(g:vz)(X:Cx)(E:XK):Prop:=∀(f:List (aWe×Obj))(d:St)(H:Hp)(s:aWg)(e:aWf)(c:aWg),Inv X f d H s->g X.stack H s E e c->X.xe e c
section
variable {X:Cx}{i:vz}{k:Nat}{f C:aWe}{fd:aXh}{g:XJ}{j:Sp}{bo:Xy}{ds:XI}{E:XK}{x m:Str}{p pos n:Pos}{e o:aWp}{d:XO}{y:TE}{t:TA}
variable{z:List (aWe×Obj)}{D:St}{Q:VK}{vs:Xy}{pl:Sem Bool}
theorem Gp{H:Hp}{s:aWg}{us:XI}(F:pK X.prog X.w X.K X.mg X.base i k f fd g j)(G:cc k X.A)(M:Binds X.K fd g ds)(L:aA bo ds)(v:hL i X E)
 (I:Inv X z D H s)(r:aA vs us)(h:j (vs++bo) H Q E):aWj (aWl X.prog X.w) X.A (call (.ref f) us) (EP X z D Q) X.xe s:=by
 have l:aA (vs++bo) (us++ds):=r.append L;have J:(us++ds).length=g.length:=by rw[<-l.length];exact F.len _ _ _ _ h
 refine wpAny_call (codeAny_mono (F.run X.A X.stack s H ⟨us,[]⟩ (us++ds) (vs++bo) Q E G I.B8 (M s us I.jw J) l h) λr q c=>?_);cases r with
 |error e=>exact v z D H s e q I c
 |ok N=>
  cases N with
  |ret u=>exact I.after c
  |next=>exact False.elim c
  |brk=>exact False.elim c
  |cont=>exact False.elim c
theorem GQ(F:pK X.prog X.w X.K X.mg X.base i k f fd g j)(G:cc k X.A)(M:Gl X x)(J:X.mg x=some (.ref f))(L:dQ X.K (.ref f)=true)(R:Binds X.K fd g ds)(O:aA bo ds)(v:hL i X E)
 (S:PA X (e::d) t)(U:(x==("__debug__":Str))=false:=by decide)(N:aWd (e::d) X.env=(false,aWq e X.env)::aWd d X.env:=by rfl)(Y:(aWs pos (aWd d X.env)).any (·.1)=false:=by rfl):
 PE X (.Call (.Name x p) (e::d) [] pos) (DI j bo E t):=by
 intro z s D H Q I h;refine aXp (Gz I M J ?_ U);refine ZL (h₀:=X.base) I.ok.mod.B1 L (aI (S pos z s D H _ I h) λus Z l=>?_) N Y;obtain⟨vs,H1,c,r,q⟩:=l;refine⟨c.jw,?_⟩;exact Gp F G R O v c r q
theorem Rh(Z:PE X o y)(c:oe X.K C)(J:vo X.K C m f)(F:pK X.prog X.w X.K X.mg X.base i k f fd g j)(Y:cc k X.A)(hb:Binds X.K fd g ds)(hd:aA bo ds)(S:hL i X E)(ha:PA X (e::d) t)
 (be:aWd (e::d) X.env=(false,aWq e X.env)::aWd d X.env:=by rfl)(au:(aWs pos (aWd d X.env)).any (·.1)=false:=by rfl)
 (U:aWq (.Call (.Attribute o m n) (e::d) [] pos) X.env=(do
  let G<-aWq o X.env
  standAt n.atName
  let (f,first)<-aXk [G] (getMethod G m pl)
  callWith pos f first (aWs pos (aWd (e::d) X.env)) (aXs pos (aXg [] X.env))):=by rfl):
 PE X (.Call (.Attribute o m n) (e::d) [] pos) (FR C m j bo E y t):=by
 intro z s D H Q I h;refine aTr (pl:=pl) (aI (Z z s D H _ I h) λu N v=>?_) U;obtain⟨x,H1,M,O,a,dx,fs,ex,ea,l,q⟩:=v;subst ex;obtain rfl:u=aWf.ref a:=O;refine Mw M ea c J l ?_;refine ZL (first:=[.ref a]) (h₀:=X.base) I.ok.mod.B1 J.kp (aI (ha pos z N D H1 _ M q) λus s2 v=>?_) be au;obtain⟨vs,H2,L,r,R⟩:=v;refine⟨L.jw,?_⟩;exact Gp (us:=.ref a::us) (vs:=.ref a::vs) F Y hb hd S L (.cons rfl r) R
theorem Tt(R:PE X o y)(c:oe X.K C)(G:vo X.K C m f)(F:pK X.prog X.w X.K X.mg X.base i k f fd g j)(O:cc k X.A)(U:Binds X.K fd g ds)(S:aA bo ds)(M:hL i X E)
 (N:aWq (.Call (.Attribute o m n) [] [] pos) X.env=(do
  let v<-aWq o X.env
  standAt n.atName
  let (f,first)<-aXk [v] (getMethod v m pl)
  callWith pos f first (aWs pos (aWd [] X.env)) (aXs pos (aXg [] X.env))):=by rfl):
 PE X (.Call (.Attribute o m n) [] [] pos) (FR C m j bo E y Dw):=by
 intro z s D H Q I h;refine aTr (pl:=pl) (aI (R z s D H _ I h) λu Z J=>?_) N;obtain⟨x,H1,r,L,a,dx,fs,ex,Y,l,q⟩:=J;subst ex;obtain rfl:u=aWf.ref a:=L;refine Mw r Y c G l ?_;exact PySem.W.callWith_K0 (first:=[.ref a]) r.jw G.kp (Gp (us:=[.ref a]) (vs:=[.ref a]) F O U S M r (.cons rfl .nil) q)
structure Mk(K:aL)(C f:aWe):Prop where
 makes:ZP K C=true
 init:cS K (.ref C) "__init__"=some (some (.ref f))
 fn:Yw K (.ref f)=true
 kp:dQ K (.ref C)=true
theorem UL{H:Hp}{s:aWg}{us:XI}(M:Mk X.K C f)(F:pK X.prog X.w X.K X.mg X.base i k f fd g j)(R:cc (k+1) X.A)(Y:Binds X.K fd g ds)(U:aA bo ds)
 (O:hL i X E)(I:Inv X z D H s)(r:aA vs us)
 (h:∀x dx,H x=none->H dx=none->dx≠x->j (.ref x::(vs++bo)) (upd (upd H dx (.own x)) x (.ins C dx [])) (λv H2=>v=.aF/\Q (.ref x) H2) E):
 aWj (aWl X.prog X.w) X.A (call (.ref C) us) (EP X z D Q) X.xe s:=by
 have G:=h (s.heap.objs.size+1) s.heap.objs.size (I.bz.fresh (XQ _)) (I.bz.fresh (bD _)) (bW (bX _));have l:=Inv.made (C:=C) I;have q:aA (V.ref (s.heap.objs.size+1)::(vs++bo)) (aWf.ref (s.heap.objs.size+1)::(us++ds)):=.cons rfl (r.append U);have S:(aWf.ref (s.heap.objs.size+1)::us++ds).length=g.length:=by
  have e:=q.length;rw[F.len _ _ _ _ G]at e;exact e.symm
 refine wpAny_call (Uj (f:=f) I.jw M.makes M.init (beq_iff_eq.mp M.fn) (codeAny_mono (F.run _ X.stack _ _ ⟨aWf.ref (s.heap.objs.size+1)::us,[]⟩ (aWf.ref (s.heap.objs.size+1)::(us++ds)) _ _ E (R.make C us [])
  (l.B8.make C us []) (Y _ (aWf.ref (s.heap.objs.size+1)::us) l.jw S) q G) λr J c=>?_))
 cases r with
 |error e=>exact O z D _ _ e J l c
 |ok Z=>
  cases Z with
  |ret u=>
   obtain⟨v,H',I3,L,ev,N⟩:=l.after c;subst ev;exact⟨L,⟨V.ref (s.heap.objs.size+1),H',I3,rfl,N⟩⟩
  |next=>exact False.elim c
  |brk=>exact False.elim c
  |cont=>exact False.elim c
theorem S1(M:Mk X.K C f)(F:pK X.prog X.w X.K X.mg X.base i k f fd g j)(G:cc (k+1) X.A)(L:Gl X x)(J:X.mg x=some (.ref C))(R:Binds X.K fd g ds)(O:aA bo ds)(v:hL i X E)
 (S:PA X (e::d) t)(U:(x==("__debug__":Str))=false:=by decide)(N:aWd (e::d) X.env=(false,aWq e X.env)::aWd d X.env:=by rfl)(Y:(aWs pos (aWd d X.env)).any (·.1)=false:=by rfl):
 PE X (.Call (.Name x p) (e::d) [] pos) (wq C j bo E t):=by
 intro z s D H Q I h;refine aXp (Gz I L J ?_ U);refine ZL (h₀:=X.base) I.ok.mod.B1 M.kp (aI (S pos z s D H _ I h) λus Z l=>?_) N Y;obtain⟨vs,H1,c,r,q⟩:=l;refine⟨c.jw,?_⟩;exact UL M F G R O v c r q
end
def PK(X:Cx)(f:List aXw)(t:TA):Prop:=
 ∀(pos:Pos)(d:List (aWe×Obj))(s:aWg)(c:St)(H:Hp)(Q:Xy->Hp->Prop),Inv X d c H s->t c H Q->aWj (aWl X.prog X.w) X.A (evalAll ((aXs pos (aXg f X.env)).map (·.2))) (AP X d c Q) X.xe s
section
variable {X:Cx}{l:vz}{k:Nat}{f C:aWe}{fd:aXh}{n q:XJ}{r:Sp}{E:XK}{x m:Str}{p pos y i:Pos}{e o:aWp}{z:XO}{c:List aXw}{d D:TE}{t tk:TA}{j:Option Str}
theorem N8:PK X [] Dw:=λ_ _ _ _ H Q I h=>wpAny_evalAll_nil ⟨[],H,I,.nil,h⟩
theorem Sg(S:PE X e d)(R:PK X c t):PK X (⟨j,e,i⟩::c) (Fj d t):=by
 intro pos G s F H Q I h;show aWj _ _ (evalAll ((do let v<-aWq e X.env;standAt pos;pure v)::(aXs pos (aXg c X.env)).map (·.2))) _ _ s;refine wpAny_evalAll_cons (aWb (aI (S G s F H _ I h) λu J g=>?_));obtain⟨x,H1,Y,M,O⟩:=g;refine aWb (aYe (aWh ?_));refine aI (R pos G J F H1 _ Y O) λus s2 g=>?_;obtain⟨xs,Z,U,L,N⟩:=g;exact⟨x::xs,Z,U,.cons M L,N⟩
variable {g:XI->XI->XI}{v:Xy->Xy->Xy}
end
variable{l:vz}{D:Str->XM}{F:aWi}{N j:XJ}{g:Str}{d:aXt}{f:aWe}
structure tL(N P:XJ)(sc:aXt):Prop where
 kind:sc.kind=.function
 co:sc.isCoroutine=false
 gen:sc.isGenerator=false
 nd:N.Nodup
 pre:N.take P.length=P
 par:∀x∈P,sc.names.lookup x=some .local\/sc.names.lookup x=some .cell
 Aa:∀y∈sc.names,y.2≠ .free
theorem Ms{kindOf:Str->Option aWx}{x:Str}:∀{binds:List (Str×aWf)}{m:Str->XM},(∀v,(x,v)∉binds)->bindL kindOf binds m x=m x
 | [],_,_=>rfl
 | (n,v)::r,m,h=>by
   unfold bindL;rw[Ms λw c=>h w (bA _ c)];split
   .have:x≠n:=by rintro rfl;exact h v bM
    simp[this]
   .rfl
theorem LZ{kindOf:Str->Option aWx}{x:Str}:∀{binds:List (Str×aWf)}{m:Str->XM},(∀v,(x,v)∉binds)->bindC kindOf binds m x=m x
 | [],_,_=>rfl
 | (n,v)::r,m,h=>by
   unfold bindC;rw[LZ λw c=>h w (bA _ c)];split
   .rfl
   .have:x≠n:=by rintro rfl;exact h v bM
    simp[this]
theorem Mf{kindOf:Str->Option aWx}{x:Str}{v:aWf}:∀{P:XJ}{vs:XI}{i:Nat}{m:Str->XM},P.Nodup->P[i]?=some x->vs[i]?=some v->kindOf x=some .local->
 bindL kindOf (P.zip vs) m x=some v
 | [],_,_,_,_,h,_,_=>by simp at h
 |_::_,[],_,_,_,_,h,_=>by simp at h
 |p::P,w::vs,0,m,q,n,c,r=>by
  simp at n c;subst n;subst c;show bindL kindOf ((p,w)::P.zip vs) m p=_;unfold bindL;rw[Ms λv t=>(jB q).1 (YK t).1,aWc r];simp
 |p::P,w::vs,i+1,m,q,n,c,r=>by
  show bindL kindOf ((p,w)::P.zip vs) m x=_;unfold bindL;exact Mf (i:=i) (jB q).2 (by simpa using n) (by simpa using c) r
theorem ML{kindOf:Str->Option aWx}{x:Str}{v:aWf}:∀{P:XJ}{vs:XI}{i:Nat}{m:Str->XM},P.Nodup->P[i]?=some x->vs[i]?=some v->kindOf x≠some .local->
 bindC kindOf (P.zip vs) m x=some v
 | [],_,_,_,_,h,_,_=>by simp at h
 |_::_,[],_,_,_,_,h,_=>by simp at h
 |p::P,w::vs,0,m,q,n,c,r=>by
  simp at n c;subst n;subst c;show bindC kindOf ((p,w)::P.zip vs) m p=_;unfold bindC;rw[LZ λv t=>(jB q).1 (YK t).1,aWa r];simp
 |p::P,w::vs,i+1,m,q,n,c,r=>by
  show bindC kindOf ((p,w)::P.zip vs) m x=_;unfold bindC;exact ML (i:=i) (jB q).2 (by simpa using n) (by simpa using c) r
noncomputable def start(N:XJ)(vs:Xy):St:=vs.map some++aT (N.length - vs.length) none
def vg(l:vz)(P:aWm)(w:aWr)(K:aL)(D:Str->XM)(F:aWi)(N:XJ)(g:Str)(d:aXt)(f:aWe)(i:aWf)(A:aWn)(c:List Env)(s:aWg)(H:Hp)(E:XK):Cx where
 prog:=P
 w:=w
 K:=K
 mg:=D
 base:=F
 A:=A.deeper (envOfC g d s.heap.objs.size f i)
 N:=N
 eH:=s
 aG:=H
 env:=envOfC g d s.heap.objs.size f i
 outer:=c
 stack:=envOfC g d s.heap.objs.size f i::c
 ex:=[]
 calm:=true
 fn:=λ_=>true
 pn:=[]
 xe:=λe n=>aWj (aWl P w) (A.deeper (envOfC g d s.heap.objs.size f i)) (leaving (envOfC g d s.heap.objs.size f i) e) (λ_ m=>l c H s E e m) (λp m=>l c H s E p m) n
theorem Lr{i:aXt}{n:Nat}{x:Str}(h:i.names.lookup x=some .cell):∃c,(cellsFrom n i.names []).lookup x=some c:=by
 have q:=aTk i.names n [] (.inl h);exact iV q
theorem UD{P:aWm}{w:aWr}{K:aL}{O:aWf}{A:aWn}{m:List Env}{s R:aWg}{H:Hp}{E:XK}{us:XI}{vs:Xy}
 (S:tL N j d)(hd:A.handled=none)(t:nc P w K D F A m s H)(X:vs.length=j.length)(r:aA vs us)
 (x:InCallC s s.heap.objs.size (bindL (envOfC g d s.heap.objs.size f O).kindOf (j.zip us) λ_=>none) (cellsFrom (s.heap.objs.size+1) d.names []) (bindC (envOfC g d s.heap.objs.size f O).kindOf (j.zip us) λ_=>none) R):
 Inv (vg l P w K D F N g d f O A m s H E) [] (start N vs) H R:=by
 have au:j.length<=N.length:=by have:=congrArg XX S.pre;rw[eE]at this;lia
 obtain⟨M,tk,rfl,Y⟩:=x.done;have Q:∀b:aWe,b∉(vg l P w K D F N g d f O A m s H E).ex:=λb z=>absurd (show b∈([]:List aWe)from z) (by simp);refine⟨⟨t.mod,S.kind,rfl,rfl,bD _,λy z c M n=>?_,λy G=>?_,λy c _ h=>?_,λ_=>hd,aWn.frames_deeper t.frames,.inr ⟨rfl,rfl⟩,λb z=>absurd z (Q b),t.bs,t.uq,λb _ _=>Q b,λb z=>absurd z (Q b),t.ir,t.Ah⟩,
  rfl,t.bare,Un.kept Y,⟨_,x.toInCall.ns,λi y v M n h3=>?_⟩,λy c h=>⟨_,x.cell y c h⟩,t.bz.fresh (bD _),λy c h=>?_,λp J=>absurd (show p∈([]:List (aWe×Obj))from J) (by simp),t.bz.kept Y,?_⟩
 .exact name_of_addr x.apart (PySem.mem_of_lookup M) (PySem.mem_of_lookup n)
 .have G:d.names.lookup y=some .cell\/d.names.lookup y=some .free:=G;rcases G with G|G
  .exact Lr G
  .exact absurd rfl (S.Aa _ (PySem.mem_of_lookup G))
 .exact dY (x.above y c (PySem.mem_of_lookup h))
 .have L:i<vs.length:=by
   unfold start at n;by_cases L:i<vs.length
   .exact L
   .rw[bL (by simpa using L)]at n;rw[dR]at n;split at n<;>cases n
  have ha:vs[i]?=some v:=by
   unfold start at n;rw[aR (by simpa using L),bI]at n;cases e:vs[i]?with
   |none=>rw[e]at n;cases n
   |some a=>rw[e]at n;cases n;rfl
  obtain⟨u,U,Z⟩:=r.get ha;have J:j[i]?=some y:=by
   rw[<-S.pre,eR (aM L (bZ X))];exact M
  have I:j.Nodup:=by rw[<-S.pre];exact S.nd.sublist (List.take_sublist _ _)
  refine⟨u,Z,?_⟩;rcases S.par y (aX J)with k|k
  .exact .inl ⟨k,Mf I J U k⟩
  .obtain⟨c,e⟩:=Lr (n:=s.heap.objs.size+1) k;refine .inr ⟨.inl k,c,e,?_⟩;have q:=x.cell y c e;rw[ML I J U (by show d.names.lookup y≠_;rw[k];decide)]at q;exact q
 .exact t.bz.fresh (dY (x.above y c (PySem.mem_of_lookup h)))
 .unfold start;show _=N.length;rw[aY,aP,Zd];exact eK (bB (bZ X) au)
theorem Ik{P:aWm}{w:aWr}{K:aL}{k:Nat}{name:Str}{i:Arguments}{body:List Stmt}{dV kV L Z p ct oc:aWf}{an od:Option aWe}
 {gk:Array XM}{O:Sp}(lk:K.lookup f=some ⟨oc,od,.func (dM name g i body d dV kV L Z an p ct),gk⟩)(jn:X1 K p g=true)(S:tL N j d)
 (len:∀vs H Q E,O vs H Q E->vs.length=j.length)
 (fm:∀(A:aWn)(c:List Env)(s:aWg)(H:Hp)(vs:Xy)(Q:VK)(E:XK),cc k (A.deeper (envOfC g d s.heap.objs.size f p))->O vs H Q E->
  ∃t,km (vg l P w K D F N g d f p A c s H E) body t/\t {nx:=λ_ m=>Q .aF m,rt:=Q} (start N vs) H):
 pK P w K D F l (k+1) f (dM name g i body d dV kV L Z an p ct) j O:=by
 refine⟨len,λA c s H args us vs Q E X G hb r gn=>?_⟩;have hl:=len _ _ _ _ gn;have KX:K.In s.heap:=G.mod.B1.keeps λb o e=>(G.bs b o e).1;have lim:s.heap.NoLimit:=G.mod.nolimit.keeps λb o e=>(G.bs b o e).1;have uz:∀y∈j.zip us,d.names.lookup y.1=some .local\/(d.names.lookup y.1=some .cell/\((cellsFrom (s.heap.objs.size+1) d.names []).lookup y.1).isSome=true):=fun⟨n,v⟩ hy=>by
  rcases S.par n (YK hy).1 with q|q
  .exact .inl q
  .exact .inr ⟨q,aTk _ _ _ (.inl q)⟩
 refine codeAny_call_function X.depth (KX _ _ lk) rfl S.co S.gen rfl (PySem.W.codeRec_of KX jn) (hb _ _ _ _ ?_);refine wpAny_newFunctionEnv_cells S.kind uz λenv he Y x=>?_;subst he;refine⟨lim.keeps x.toInCall.keep,codeAny_func ?_⟩;obtain⟨t,ht,hq⟩:=fm A c s H vs Q E (X.deeper _) gn;have I:Inv (vg l P w K D F N g d f p A c s H E) [] (start N vs) H Y:=UD S X.hd G hl r x;refine aXb (ht [] Y (start N vs) H _ I hq) (λfl R z=>?_) λe R z=>z;have fin:∀{M:St}{m:Hp}{v:V}{u:aWf},Inv (vg l P w K D F N g d f p A c s H E) [] M m R->RelV v u->Q v m->CE c P w H s Q u R:=
  λ{M m v u} J U q=>⟨v,m,J.os,J.bare,J.base,J.bz,U,q⟩
 cases fl with
 |ret u=>
  obtain⟨v,M,m,J,U,q⟩:=z;exact fin J U q
 |next=>
  obtain⟨M,m,J,q⟩:=z;exact fin (v:=V.aF) (u:=aWf.none) J rfl q
 |brk=>
  obtain⟨_,_,_,q⟩:=z;exact False.elim q
 |cont=>
  obtain⟨_,_,_,q⟩:=z;exact False.elim q
section
variable {X:Cx}{x:Str}{p pos:Pos}{e:aWp}{c:XO}{t:TA}{id T:String}{r:Xy->Hp->VK->Prop}
noncomputable def Dg(r:Xy->Hp->VK->Prop)(t:TA):TE:=λi H Q=>t i H λvs m=>r vs m Q
theorem zB(O:pG X (.builtin id) r)(L:Gl X x)(J:X.mg x=none)(z:aXn x=some (.builtin id))(R:PA X (e::c) t)(G:x≠"__name__":=by decide)(S:(x==("__debug__":Str))=false:=by decide)
 (M:aWd (e::c) X.env=(false,aWq e X.env)::aWd c X.env:=by rfl)(U:(aWs pos (aWd c X.env)).any (·.1)=false:=by rfl):PE X (.Call (.Name x p) (e::c) [] pos) (Dg r t):=by
 intro m s i H Q I h;refine aXp (sJ I L J z ?_ G S);refine aTX (aI (R pos m s i H _ I h) λus q n=>?_) M U;obtain⟨vs,Z,Y,v,y⟩:=n;exact O m q i Z vs us Q Y v y
theorem Mn(O:pG X (.type T) r)(L:Gl X x)(J:X.mg x=none)(z:aXn x=some (.type T))(R:PA X (e::c) t)(G:x≠"__name__":=by decide)(S:(x==("__debug__":Str))=false:=by decide)
 (M:aWd (e::c) X.env=(false,aWq e X.env)::aWd c X.env:=by rfl)(U:(aWs pos (aWd c X.env)).any (·.1)=false:=by rfl):PE X (.Call (.Name x p) (e::c) [] pos) (Dg r t):=by
 intro m s i H Q I h;refine aXp (sJ I L J z ?_ G S);refine fA (aI (R pos m s i H _ I h) λus q n=>?_) M U;obtain⟨vs,Z,Y,v,y⟩:=n;exact O m q i Z vs us Q Y v y
end
end L2
namespace HT
open PySem PyProof.Rows
section
open PySem.SeqAt
open PySem.AutoSeq1 (wpAny_loadPart')
open PySem.MeetsSeq PySem.MeetsSeq2 PySem.MeetsSeq3
end
section
variable {prog:aWm}{w:aWr}{A:aWn}{E:XN}{s:aWg}
noncomputable def jb(n d:Nat):Option Int->Nat
 |none=>d
 |some v=>if v<0 then(v+(n:Int)).toNat else min v.toNat n
theorem KM(n d:Nat):jb n d none=d:=rfl
end
end HT
namespace L2
open PySem PySem.Spec PyProof.Rows
abbrev TO:=St->Hp->(Option Int->Hp->Prop)->Prop
def PO(X:Cx)(e:Option aWp)(t:TO):Prop:=
 ∀(b:List (aWe×Obj))(s:aWg)(a:St)(H:Hp)(Q:Option Int->Hp->Prop),Inv X b a H s->t a H Q->
  aWj (aWl X.prog X.w) X.A (evalPart e X.env) (λu d=>∃o c,Inv X b a c d/\IsPart u o/\Q o c) X.xe s
noncomputable def nq:TO:=λ_ H Q=>Q none H
noncomputable def wh(t:TE):TO:=λa H Q=>t a H λx b=>∃i,x=.int i/\Q (some i) b
theorem qW{b:XE}:∀{a:XI},aA (b.map V.int) a->IntsAre a b:=by
 induction b with
 |nil=>intro a r;rw[bE]at r;cases r;exact .nil
 |cons n b ih=>
  intro a r;rw[aK]at r;cases r with
  |cons d c=>
   obtain⟨t,e⟩:=d;subst e;exact .cons n t (ih c)
section
variable {X:Cx}{e:aWp}{c:TE}{lo a:Option aWp}{tl d:TO}{pos f:Pos}
theorem RJ:PO X none nq:=by
 intro g s b H Q I h;rw[evalPart_none];exact aWh ⟨none,H,I,.none,h⟩
theorem yA(h:PE X e c):PO X (some e) (wh c):=by
 intro m s b H Q I l;rw[evalPart_some];refine aI (h m s b H _ I l) λu p g=>?_;obtain⟨x,o,n,j,k⟩:=g;obtain⟨i,rfl,q⟩:=k;obtain⟨t,rfl⟩:=j;exact⟨some i,o,n,.int i t,q⟩
def MO(X:Cx)(r:V->Option Int->Option Int->Hp->VK->Prop):Prop:=
 ∀(h:List (aWe×Obj))(s:aWg)(b:St)(H:Hp)(x:V)(v vl g:aWf)(lo a:Option Int)(sl:aWe)(Q:VK),Inv X h b H s->RelV x v->s.heap.IsSliceOf sl vl g .none->IsPart vl lo->IsPart g a->r x lo a H Q->
  ∃T id,typeLookup (.type T) "__getitem__"=pure (some (.builtin id))/\s.TypeIs v T/\aWj (aWl X.prog X.w) X.A (getItem v (.ref sl)) (EP X h b Q) X.xe s
noncomputable def Df(r:V->Option Int->Option Int->Hp->VK->Prop)(c:TE)(tl d:TO):TE:=λb H Q=>c b H λx i=>tl b i λl h=>d b h λu g=>r x l u g Q
theorem Tq{r:V->Option Int->Option Int->Hp->VK->Prop}(F:MO X r)(K:PE X e c)(G:PO X lo tl)(C:PO X a d):PE X (.Subscript e (.Slice lo a none f) pos) (Df r c tl d):=by
 intro j s i H Q I h;refine Subscript_ (aI (K j s i H _ I h) λv p k=>?_);obtain⟨x,S,P,t,z⟩:=k;refine wpAny_Slice (aI (G j p i S _ P z) λvl o k=>?_);obtain⟨l,R,O,B,y⟩:=k;refine aI (C j o i R _ O y) λm g k=>?_;obtain⟨u,n,N,A,w⟩:=k;rw[evalPart_none];refine aWh ?_;have M:Inv X j i n {g with heap:=g.heap.push {cls:=.type "slice",data:=.fields #[vl,m,.none]}}:=N.kept (t':=g.toks) λb ob q=>aWi.get?_push_of_some _ q;obtain⟨T,id,L,D,J⟩:=F j {g with heap:=g.heap.push {cls:=.type "slice",data:=.fields #[vl,m,.none]}} i n x v vl m l u g.heap.objs.size Q M t (aWi.IsSliceOf.new ..) B A w;show aWj (aWl X.prog X.w) X.A (aYg e (.Slice lo a none f) v (.ref g.heap.objs.size)) (EP X j i Q) X.xe {g with heap:=g.heap.push {cls:=.type "slice",data:=.fields #[vl,m,.none]}};exact tail_any (ops:=[.ref g.heap.objs.size,v]) D L J (by with_unfolding_all rfl)
def AZ(xs:Xy)(lo a:Option Int):Xy:=(xs.drop (HT.jb xs.length 0 lo)).take (HT.jb xs.length xs.length a - HT.jb xs.length 0 lo)
theorem WE(xs:Xy)(lo a:Option Int):(AZ xs lo a).length<=xs.length:=by
 unfold AZ;rw[eE,Zh];lia
end
variable{i:Int}{j:Nat}{α:Type}
noncomputable def jz(n:Nat)(i:Int):Option Nat:=if 0<=i then(if i<n then some i.toNat else none)else if -(n:Int)<=i then some (i+n).toNat else none
def dc{α:Type}(xs:List α)(i:Int):Option α:=(jz xs.length i).bind λj=>xs[j]?
theorem Kw{n:Nat}(h:jz n i=some j):seqIndex? i n=some j/\j<n/\ -(n:Int)<=i/\i<n:=by
 unfold jz at h;by_cases b:0<=i
 .rw[aWc b]at h;by_cases a:i<n
  .rw[aWc a]at h;have e:i.toNat=j:=dC.inj h;exact⟨by rw[seqIndex_of b a,e],by lia,by lia,a⟩
  .rw[aWa a]at h;cases h
 .rw[aWa b]at h;by_cases a: -(n:Int)<=i
  .rw[aWc a]at h;have e:(i+n).toNat=j:=dC.inj h;exact⟨by rw[seqIndex_neg (iP b) a,e],by lia,a,cG (iP b) (bN n)⟩
  .rw[aWa a]at h;cases h
theorem yQ{xs:List α}{v:α}(h:dc xs i=some v):∃j,seqIndex? i xs.length=some j/\xs[j]?=some v/\j<xs.length/\ -(xs.length:Int)<=i/\i<xs.length:=by
 unfold dc at h;cases e:jz xs.length i with
 |none=>rw[e]at h;cases h
 |some j=>
  rw[e]at h;obtain⟨d,c,b,a⟩:=Kw e;exact⟨j,d,h,c,b,a⟩
theorem Kk{xs:List α}{v:α}(h:xs[j]?=some v):dc xs (j:Int)=some v:=by
 have a:j<xs.length:=(fK h).1;have e:jz xs.length (j:Int)=some j:=by
  unfold jz;rw[aWc (bN _),aWc (iO a)];simp
 unfold dc;rw[e];exact h
def n7(b:aWp):Prop:=∀o i,subscripted b false o i=operate [o,i] (getItem o i)
def vp(X:Cx)(r:R2):Prop:=
 ∀(value slice:aWp)(b:List (aWe×Obj))(s:aWg)(a:St)(H:Hp)(x y:V)(v u:aWf)(Q:VK),Inv X b a H s->RelV x v->RelV y u->r x y H Q->
  subscripted slice false v u=operate [v,u] (getItem v u)->aWj (aWl X.prog X.w) X.A (aYg value slice v u) (EP X b a Q) X.xe s
def G7(X:Cx)(id:String)(r:V->Xy->Hp->VK->Prop):Prop:=
 ∀(c:List (aWe×Obj))(s:aWg)(a:St)(H:Hp)(x:V)(xs:Xy)(v:aWf)(b:XI)(Q:VK),Inv X c a H s->RelV x v->aA xs b->r x xs H Q->
  aWj (aWl X.prog X.w) X.A (call (.builtin id) (v::b)) (EP X c a Q) X.xe s
section
variable {X:Cx}{a b:aWp}{d g:TE}{pos:Pos}
variable{r:R2}{B:List (aWe×Obj)}{m:St}{H:Hp}{s:aWg}{p:aWe}{xs:Xy}{x:V}{v:aWf}
theorem vp.or{k:R2}(h:vp X r)(n:vp X k):vp X (λx y H Q=>r x y H Q\/k x y H Q):=by
 intro value slice B s m H x y v u Q I f c q l;rcases q with q|q
 .exact h value slice B s m H x y v u Q I f c q l
 .exact n value slice B s m H x y v u Q I f c q l
theorem Oc(n:vp X r)(t:PE X a d)(o:PE X b g)(l:n7 b):PE X (.Subscript a b pos) (zp r d g):=by
 intro B s m H Q I h;exact Subscript_ (E1 t o I h λv u c x y z w k f q=>n a b B c m z x y v u Q w k f q (l _ _))
def Du(K:aL):R2:=λx y H Q=>∃p xs i v,x=.ref p/\y=.int i/\cz K H p xs/\dc xs i=some v/\Q v H
def BL(K:aL):R2:=λx y H Q=>∃p xs i v,x=.ref p/\y=.int i/\jc K H p xs/\dc xs i=some v/\Q v H
def BM:R2:=λx y H Q=>∃z i c,x=.str z/\y=.int i/\z.length<=sizeLine/\dc z.cps.toList i=some c/\Q (.str ⟨#[c]⟩) H
theorem SQ:vp X (Du X.K):=by
 intro value slice B s m H x y v u Q I D C h o;obtain⟨p,xs,i,z,rfl,rfl,F,J,q⟩:=h;cases D;obtain⟨t,rfl⟩:=C;obtain⟨l,r,k,O⟩:=I.list F;obtain⟨j,c,M,R,L,K⟩:=yQ J;obtain⟨w,e,N⟩:=r.get M;have G:=r.length;have P:=gi;have fin:EP X B m Q w s:=⟨z,H,I,N,q⟩;by_cases f:0<=i
 .have n:i.toNat=j:=by
   rw[seqIndex_of f K]at c;exact dC.inj c
  exact item_listR k.isList f (by lia) (by rw[n];simpa using e) fin o
 .have n:(i+(l.toArray.size:Int)).toNat=j:=by
   rw[seqIndex_neg (iP f) L]at c;rw[bF,<-G];exact dC.inj c
  exact subscriptTail_builtinR (x:=w) k.isList.typeIs aYd.lookup
   (wpAny_getItem_list_neg (Q:=λr A=>r=w/\EP X B m Q r A) k.isList (iP f) (by rw[bF]<;>lia) (by lia) (by rw[n];simpa using e) ⟨rfl,fin⟩) o
theorem P3:vp X (BL X.K):=by
 intro value slice B s m H x y v u Q I l k h o;obtain⟨p,xs,i,z,rfl,rfl,e,C,q⟩:=h;cases l;obtain⟨t,rfl⟩:=k;obtain⟨n,r,c,K⟩:=I.tuple e;obtain⟨j,F,D,O,N,M⟩:=yQ C;obtain⟨w,G,J⟩:=r.get D;have A:=r.length;have L:=gi;have fin:EP X B m Q w s:=⟨z,H,I,J,q⟩;exact subscriptTail_builtinR (x:=w) c.typeIs slot_tuple_getitem.lookup
  (getItem_tuple (j:=j) (Q:=λr f=>r=w/\EP X B m Q r f) c (by lia) (by lia) (by rw[bF,<-A];exact F) (by simpa using G) ⟨rfl,fin⟩) o
theorem Pv:vp X BM:=by
 intro value slice B s m H x y v u Q I l k h n;obtain⟨z,i,c,rfl,rfl,J,w,q⟩:=h;obtain⟨t,rfl⟩:=l;obtain⟨G,rfl⟩:=k;obtain⟨j,f,C,L,A,e⟩:=yQ w;have o:z.cps.toList.length=z.length:=by simp[Str.length]
 rw[o]at f A e;have K:=gi;exact tail_any (typeIs_str s z t) slot_str_getitem.lookup (getItem_str (c:=c) (by
  have F:decide (i< -(2^63:Int))=false:=decide_eq_false (by lia);have D:decide (i>=2^63)=false:=decide_eq_false (by lia);rw[F,D,Bool.or_false]) (by rw[f];simpa using C) ⟨.str ⟨#[c]⟩,H,I.tok _,⟨_,rfl⟩,q⟩) n
def Hl(K:aL):R2:=λx y H Q=>Du K x y H Q\/BL K x y H Q\/BM x y H Q
theorem Pr:vp X (Hl X.K):=SQ.or (P3.or Pv)
theorem V1(c:XI)(n j:Nat)(u:aWf):Obj.mapSeq (·.setIfInBounds j u) {cls:=.type "list",data:=.seq c.toArray n}={cls:=.type "list",data:=.seq (c.set j u).toArray n}:=by
 simp[Obj.mapSeq]
theorem Inv.lst(I:Inv X B m H s)(h:H p=some (.lst xs)):
 ∃(its:XI)(n:Nat),aA xs its/\s.heap.get? p=some {cls:=.type "list",data:=.seq its.toArray n}/\xs.length<=sizeLine:=by
 obtain⟨z,its,n,r,e⟩:=I.bz p _ h;exact⟨its,n,r,e,z⟩
theorem Inv.Ad{l:Xy}{k c:XI}{n o:Nat}{f:Obj->Obj}(I:Inv X B m H s)(h:H p=some (.lst xs))
 (z:s.heap.get? p=some {cls:=.type "list",data:=.seq k.toArray n})(w:f {cls:=.type "list",data:=.seq k.toArray n}={cls:=.type "list",data:=.seq c.toArray o})(r:aA l c)(y:l.length<=sizeLine)(t:Nat):
 Inv X B m (upd H p (.lst l)) {s with heap:=s.heap.update p f,toks:=t}:=by
 have e:(s.heap.update p f).get? p=some {cls:=.type "list",data:=.seq c.toArray o}:=by
  rw[aWi.get?_update_self f z (by rw[w]<;>rfl),w]
 refine I.write (x:=p) (e:=p) (by rw[h];trivial) (.inl rfl) (λb u A q=>(aWi.get?_update_other _ _ (Ne.symm A)).trans q) ⟨_,e⟩ ?_;exact⟨y,c,o,r,e⟩
def Fx:V->V->V->Hp->(Hp->Prop)->Prop:=λo i v H Q=>∃p xs k j,o=.ref p/\i=.int k/\H p=some (.lst xs)/\jz xs.length k=some j/\Q (upd H p (.lst (xs.set j v)))
theorem KZ:EZ X Fx:=by
 intro B s m H o i v M N u Q I G J F h;obtain⟨p,xs,k,j,rfl,rfl,e,L,q⟩:=h;cases G;obtain⟨t,rfl⟩:=J;obtain⟨c,n,r,w,K⟩:=I.lst e;obtain⟨f,P,C,A⟩:=Kw L;have y:=r.length;have O:=gi;have D:Inv X B m (upd H p (.lst (xs.set j v))) {s with heap:=s.heap.update p (Obj.mapSeq (·.setIfInBounds j u))}:=
  I.Ad e w (V1 c n j u) (r.set F j) (by rw[dD];exact K) s.toks
 by_cases l:0<=k
 .have z:k.toNat=j:=by
   rw[seqIndex_of l A]at f;exact dC.inj f
  exact PySem.W.ki_setAt w l (by lia) (by rw[bF,<-y];exact A) (by rw[z];exact⟨_,D,q⟩)
 .have z:(k+(c.toArray.size:Int)).toNat=j:=by
   rw[seqIndex_neg (iP l) C]at f;rw[bF,<-y];exact dC.inj f
  exact PySem.W.ki_setBack w (iP l) (by rw[bF,<-y];exact C) (by lia) (by rw[z];exact⟨_,D,q⟩)
theorem WT(lo c:Option Int)(n:Nat):(aXf lo c none n).1=((HT.jb n 0 lo:Nat):Int)/\(aXf lo c none n).2.1=((HT.jb n n c:Nat):Int)/\(aXf lo c none n).2.2=1:=by
 refine⟨?_,?_,rfl⟩
 .cases lo with
  |none=>simp[aXf,HT.jb]
  |some i=>
   simp only[aXf,HT.jb,aTY,show(1:Int)>0 by decide,if_true];by_cases h:i<0
   .simp only[h,if_true]<;>lia
   .simp only[h,if_false]<;>lia
 .cases c with
  |none=>simp[aXf,HT.jb]
  |some i=>
   simp only[aXf,HT.jb,aTY,show(1:Int)>0 by decide,if_true];by_cases h:i<0
   .simp only[h,if_true]<;>lia
   .simp only[h,if_false]<;>lia
theorem Xm(c:XI)(lo f:Option Int):slicePick c.toArray lo f none=((c.drop (HT.jb c.length 0 lo)).take (HT.jb c.length c.length f - HT.jb c.length 0 lo)).toArray:=by
 obtain⟨l,k,h⟩:=WT lo f c.toArray.size;unfold slicePick;rw[l,k,h];simp only[sliceRange_one,pick_run,bF]<;>rfl
def BK(K:aL):V->Option Int->Option Int->Hp->VK->Prop:=λx lo c H Q=>∃a xs,x=.ref a/\cz K H a xs/\∀p,H p=none->Q (.ref p) (upd H p (.lst (AZ xs lo c)))
theorem RY:MO X (BK X.K):=by
 intro B s m H x v vl z lo c sl Q I k w n l h;obtain⟨a,xs,rfl,u,q⟩:=h;cases k;obtain⟨o,r,f,t⟩:=I.list u;have y:=r.length;refine⟨"list",_,aYd.lookup,f.isList.typeIs,?_⟩;refine aYf f.isList w n l .none (by simp) ?_ (by rw[bF]<;>lia);rw[Xm,<-y];refine⟨.ref s.heap.objs.size,_,I.laid (t':=s.toks) (o:=.lst (AZ xs lo c)) (λb ob q=>aWi.get?_push_of_some _ q) (bD _) ?_,rfl,q _ (I.bz.fresh (bD _))⟩;exact⟨bB (WE xs lo c) t,_,0,(r.drop (HT.jb xs.length 0 lo)).take (HT.jb xs.length xs.length c - HT.jb xs.length 0 lo),aWi.get?_push_size _ rfl⟩
noncomputable def xT:V->Bool
 | .aF=>true
 | .bl _=>true
 | .int _=>true
 | .str _=>true
 |_=>false
noncomputable def Ng:V->V->Bool
 | .aF,.aF=>true
 | .bl a,.bl b=>a==b
 | .bl a,.int b=>(if a then 1 else 0)==b
 | .int a,.bl b=>a==(if b then 1 else 0)
 | .int a,.int b=>a==b
 | .str a,.str b=>a==b
 |_,_=>false
theorem N1{A:aWn}{y:V}{u:aWf}(h:RelV y u)(c:RelV x v)(l:xT y=true)(k:xT x=true):SeqAt.EqAt A s u v (Ng y x):=by
 cases y with
 |aF=>
  cases h;cases x with
  |aF=>cases c;exact SeqAt.EqAt.same _
  |bl b=>cases c;exact SeqAt.EqAt.none_bool b
  |int b=>obtain⟨t,rfl⟩:=c;exact SeqAt.EqAt.none_int b t
  |str b=>obtain⟨t,rfl⟩:=c;exact SeqAt.EqAt.none_str b t
  |_=>exact absurd (show false=true from k) bQ
 |bl a=>
  cases h;cases x with
  |aF=>cases c;exact SeqAt.EqAt.bool_none a
  |bl b=>cases c;exact SeqAt.EqAt.bool_bool a b
  |int b=>obtain⟨t,rfl⟩:=c;exact SeqAt.EqAt.bool_int a b t
  |str b=>obtain⟨t,rfl⟩:=c;exact SeqAt.EqAt.bool_str a b t
  |_=>exact absurd (show false=true from k) bQ
 |int a=>
  obtain⟨f,rfl⟩:=h;cases x with
  |aF=>cases c;exact SeqAt.EqAt.int_none a f
  |bl b=>cases c;exact SeqAt.EqAt.int_bool a f b
  |int b=>obtain⟨t,rfl⟩:=c;exact SeqAt.EqAt.int_int a f b t
  |str b=>obtain⟨t,rfl⟩:=c;exact SeqAt.EqAt.int_str a f b t
  |_=>exact absurd (show false=true from k) bQ
 |str a=>
  obtain⟨f,rfl⟩:=h;cases x with
  |aF=>cases c;exact SeqAt.EqAt.str_none a f
  |bl b=>cases c;exact SeqAt.EqAt.str_bool a f b
  |int b=>obtain⟨t,rfl⟩:=c;exact SeqAt.EqAt.str_int a f b t
  |str b=>obtain⟨t,rfl⟩:=c;exact SeqAt.EqAt.str_str a f b t
  |_=>exact absurd (show false=true from k) bQ
 |_=>exact absurd (show false=true from l) bQ
theorem WN:pG X (.builtin "len") (λxs H Q=>∃p c,xs=[.ref p]/\(cz X.K H p c\/jc X.K H p c)/\Q (.int c.length) H):=by
 intro B s m H xs y Q I r h;obtain⟨p,c,rfl,f,q⟩:=h;obtain⟨u,rfl,t⟩:=vals1 r;cases t;have z:=gi;rcases f with f|f
 .obtain⟨n,k,l,w⟩:=I.list f;have o:=k.length;exact Calls.call_len_list l.isList (by simp only[bF]<;>lia) ⟨.int c.length,H,I.tok _,⟨s.toks+1,by rw[bF,o]⟩,q⟩
 .obtain⟨n,k,l,w⟩:=I.tuple f;have o:=k.length;exact len_tuple l (by simp only[bF]<;>lia) ⟨.int c.length,H,I.tok _,⟨s.toks+1,by rw[bF,o]⟩,q⟩
theorem WZ:pG X (.type "list") (λxs H Q=>∃p k,xs=[.ref p]/\(cz X.K H p k\/jc X.K H p k)/\∀l,H l=none->Q (.ref l) (upd H l (.lst k))):=by
 intro B s m H xs L Q I r h;obtain⟨p,k,rfl,z,q⟩:=h;obtain⟨u,rfl,J⟩:=vals1 r;cases J;have fin:∀(c:XI),aA k c->k.length<=sizeLine->∀(f:aWi)(w:Nat),(∀b G,s.heap.get? b=some G->f.get? b=some G)->
  f.get? s.heap.objs.size=some {cls:=.type "list",dict:=none,data:=.seq c.toArray w,slots:=#[]}->EP X B m Q (.ref s.heap.objs.size) {s with heap:=f}:=λc t y f w kp e=>
  ⟨.ref s.heap.objs.size,_,I.laid (t':=s.toks) kp (bD _) (show k6 X.prog X.w _ f _ (.lst k)from⟨y,c,w,t,e⟩),rfl,q _ (I.bz.fresh (bD _))⟩
 rcases z with z|z
 .obtain⟨c,t,A,y⟩:=I.list z;have K:=t.length;obtain⟨o,C,F,n,D⟩:=A.isList;exact call_list_seq p (.inl rfl) C F D (λf w kp e=>fin c t y f w kp e) (by simp only[bF]<;>lia)
 .obtain⟨c,t,A,y⟩:=I.tuple z;have K:=t.length;obtain⟨o,C,F,n,D⟩:=A;exact call_list_seq p (.inr rfl) C F D (λf w kp e=>fin c t y f w kp e) (by simp only[bF]<;>lia)
def Hg(K:aL)(T:String)(x:V)(H:Hp):Prop:=match x with
 | .str _=>T="str"
 | .int _=>T="int"
 | .ref p=>(T="list"/\∃xs,cz K H p xs)\/(T="tuple"/\∃o,K.lookup p=some o/\o.cls=.type "tuple"/\o.dict=none)\/
  (T="dict"/\((∃c,H p=some (.dK c))\/∃c,H p=some (.dT c)))\/(T="set"/\∃S n,H p=some (.set S n))
 |_=>False
theorem PD{T:String}(I:Inv X B m H s)(r:RelV x v)(h:Hg X.K T x H):
 s.TypeIs v T/\∀a,v=.ref a->∃ob,s.heap.get? a=some ob/\ob.dict=none:=by
 cases x with
 |str z=>
  obtain⟨t,rfl⟩:=r;cases (show T="str" from h);exact⟨typeIs_str s z t,λ_ e=>nomatch e⟩
 |int i=>
  obtain⟨t,rfl⟩:=r;cases (show T="int" from h);exact⟨typeIs_int s i t,λ_ e=>nomatch e⟩
 |ref p=>
  cases r;rcases h with⟨rfl,xs,y⟩| ⟨rfl,o,f,A,l⟩| ⟨rfl,f⟩| ⟨rfl,S,n,f⟩
  .obtain⟨w,_,u,_⟩:=I.list y;refine⟨u.isList.typeIs,λa e=>?_⟩;cases e;obtain⟨o,n,e,c,l,_⟩:=u;exact⟨o,e,l⟩
  .refine⟨⟨o,I.jw p o f,A⟩,λa e=>?_⟩;cases e;exact⟨o,I.jw _ o f,l⟩
  .have z:∃o,s.heap.get? p=some o/\o.ExactDict:=by
    rcases f with⟨k,f⟩| ⟨k,f⟩
    .obtain⟨_,_,_,_,o,_,_,e,ex,_⟩:=I.bz p _ f;exact⟨o,e,ex⟩
    .obtain⟨_,_,_,_,o,_,_,e,ex,_⟩:=I.bz p _ f;exact⟨o,e,ex⟩
   obtain⟨o,e,ex⟩:=z;refine⟨⟨o,e,ex.1⟩,λa q=>?_⟩;cases q;exact⟨o,e,ex.2.1⟩
  .obtain⟨o,_,_,_,e,ex,_⟩:=I.bz p _ f;refine⟨⟨o,e,ex.1⟩,λa q=>?_⟩;cases q;exact⟨o,e,ex.2.1⟩
 |_=>exact False.elim h
noncomputable def Hj(K:aL)(T:String)(r:V->Xy->Hp->VK->Prop)(to:TE)(t:TA):TE:=λm H Q=>to m H λx c=>Hg K T x c/\t m c λxs f=>r x xs f Q
variable {o e:aWp}{c:XO}{to:TE}{t:TA}{name:Str}{l f:Pos}{T id:String}{r:V->Xy->Hp->VK->Prop}
theorem Ii(J:PlainAttrs T)(slot:Slot T name id)(n:typeOf (.builtin id)=pure (.type "method_descriptor"))(N:G7 X id r)(M:PE X o to)(O:PA X (e::c) t)
 (S:aXm o name X.env (aWq o X.env)=aWq o X.env:=by rfl)
 (K:((aWs f (aWd (e::c) X.env)).all (λx=> !x.1)&&(aXs f (aXg [] X.env)).all (λx=>x.1.isSome)
  &&decide ((e::c).length+([]:List aXw).length+(if([]:List aXw).isEmpty then 0 else 1)<30))=true:=by rfl)
 (U:(l.endLine==f.line)=true:=by rfl)(L:aWd (e::c) X.env=(false,aWq e X.env)::aWd c X.env:=by rfl)(Y:(aWs f (aWd c X.env)).any (·.1)=false:=by rfl):
 PE X (.Call (.Attribute o name l) (e::c) [] f) (Hj X.K T r to t):=by
 intro B s m H Q I h;refine wpAny_Call_method_late S K U rfl (aI (M B s m H _ I h) λv C k=>?_);obtain⟨x,H1,w,q,z,G⟩:=k;obtain⟨R,P⟩:=PD w q z;refine⟨T,id,J,slot,n,R,P,?_⟩;have u:=O f B C m H1 _ w G;rw[L]at u|-;refine Calls.callWith_builtin (by show(false||(aWs f (aWd c X.env)).any (·.1))=false;rw[Y]<;>rfl) (Calls.evalArgs_plain ?_);refine aI u λy A k=>?_;obtain⟨vs,E,Z,D,F⟩:=k;exact N B A m E x vs v y Q Z q D F
end
def Xs(X:Cx)(id:String)(r:V->Xy->Hp->VK->Prop):Prop:=
 ∀(c:List (aWe×Obj))(s:aWg)(a:St)(H:Hp)(x:V)(xs:Xy)(v:aWf)(b:XI)(Q:VK),Inv X c a H s->RelV x v->aA xs b->r x xs H Q->
  aWj (aWl X.prog X.w) X.A (call (.builtin id) (v::b)) (EP X c a Q) X.xe s
theorem aA.one:∀{x:V}{a:XI},aA [x] a->∃u,a=[u]/\RelV x u
 |_,_,.cons r .nil=>⟨_,rfl,r⟩
theorem aA.two{x y:V}{a:XI}(h:aA [x,y] a):∃u v,a=[u,v]/\RelV x u/\RelV y v:=by
 cases h with
 |cons r h=>
  cases h with
  |cons q h=>
   cases h;exact⟨_,_,rfl,r,q⟩
section
variable {X:Cx}{a:List (aWe×Obj)}{c:St}{H:Hp}{s:aWg}{l b:aWe}{xs d g:Xy}
variable{its:XI}{t':Nat}
theorem Inv.BW{its':XI}{n:Nat}{f:Array aWf->Array aWf}(I:Inv X a c H s)(r:H l=some (.lst xs))
 (e:s.heap.get? l=some {cls:=.type "list",data:=.seq its.toArray n})(o:f its.toArray=its'.toArray)(k:aA d its')(h:d.length<=sizeLine):
 Inv X a c (upd H l (.lst d)) {s with heap:=s.heap.update l (Obj.mapSeq f),toks:=t'}:=by
 have q:=PySem.IsL.update e f;rw[o]at q;refine I.write (x:=l) (e:=l) (by rw[r];exact trivial) (.inl rfl) (λt u p m=>(aWi.get?_update_other s.heap (Obj.mapSeq f) (Ne.symm p)).trans m) ⟨_,q⟩ ?_;exact⟨h,its',_,k,q⟩
theorem Inv.BZ(I:Inv X a c H s)(h:aA d its)(f:d.length<=sizeLine):
 Inv X a c (upd H s.heap.objs.size (.lst d)) {s with heap:=s.heap.push {cls:=.type "list",data:=.seq its.toArray},toks:=t'}:=
 I.laid (λ_ _ q=>aWi.get?_push_of_some _ q) (bD _) ⟨f,its,0,h,aWi.get?_push_size _ rfl⟩
theorem Inv.fresh(I:Inv X a c H s):H s.heap.objs.size=none:=I.bz.fresh (bD _)
theorem Inv.BV(I:Inv X a c H s)(f:H l=some (.lst xs)):xs.length<=sizeLine/\∃(its:XI)(n:Nat),aA xs its/\xs.length=its.length/\s.heap.get? l=some {cls:=.type "list",data:=.seq its.toArray n}:=by
 obtain⟨z,its,n,r,e⟩:=I.bz l _ f;exact⟨z,its,n,r,r.length,e⟩
end
section
variable {X:Cx}
def uh:V->Xy->Hp->VK->Prop:=λx vs H Q=>∃l xs y,x=.ref l/\vs=[y]/\H l=some (.lst xs)/\xs.length<sizeLine/\Q .aF (upd H l (.lst (xs++[y])))
theorem Mr:Xs X "list.append" uh:=by
 intro o s g H x vs v k Q I b c h;obtain⟨l,xs,y,rfl,rfl,a,f,q⟩:=h;cases b;obtain⟨u,rfl,d⟩:=c.one;obtain⟨z,its,n,r,m,e⟩:=I.BV a;refine call_meets F.slot_list_append ⟨_,e,rfl⟩ F.entry_list_append (F.args_list_append_2 _ _) (PySem.list_append l its.toArray n u (by rw[bF];lia)) ⟨e,?_⟩;refine⟨.aF,_,I.BW (its':=its++[u]) a e (by simp) (r.append (.cons d .nil)) ?_,rfl,q⟩;rw[aY,List.length_singleton];exact bS f
end
section
variable {a:aWm}{w:aWr}{A:aWn}{E:XN}{s:aWg}
end
section
variable {X:Cx}
end
end L2
namespace He
open PySem PySem.W PySem.Calls PyProof.Rows
variable{P:Params}{h:aWi}
theorem xU:∀(c:XE)(vs:XI),WellAll P h vs (c.map WData.int)->IntsAre vs c:=by
 intro c;induction c with
 |nil=>
  intro vs w;rw[bE]at w;cases w;exact .nil
 |cons n c ih=>
  intro vs w;rw[aK]at w;cases w with
  |cons a b=>
   cases a;exact .cons _ _ (ih _ b)
theorem VJ{l:OpenLaw}{n:Nat}(u:l.most=some n){args:List WData}{c:XI}
 (j:l.row.toRowW.claim.pre args=true)(y:WellAll P h c args):
 ∃a vs b,c=[aWf.ref a]/\args=[WData.list (b.map WData.int)]/\h.get? a=some {cls:=.type "list",data:=.seq vs.toArray}/\IntsAre vs b/\b.length<=n:=by
 have i:WShape.hasAll [] args [.list .int]=true:=(pre_splitW j).1;have k:l.pre.holds [] {args:=args}=true:=(pre_splitW j).2;obtain⟨d,r,rfl,x,w⟩:=hasAllW_cons i;obtain rfl:=hasAllW_nil w;obtain⟨xs,rfl,v⟩:=hasW_list x;obtain⟨b,rfl⟩:=items_int v;have z:b.length<=n:=by
  unfold OpenLaw.pre at k;have g:(WTm.not (.lt (.lit (.int (n:Int))) (.len (.arg 0)))).holds [] {args:=[.list (b.map .int)]}=true:=by
   have g:=(holds_andW k).1;rw[u]at g;exact g
  have f:=condW_of g (w_not (w_lt w_lit (w_len_list (w_arg rfl))));rw[aP]at f;refine cT λq=>?_;have p:(n:Int)<((b.length:Nat):Int):=iO q;first
   | (rw[decide_eq_true p]at f;exact absurd f (by decide))
   | (simp at f;lia)
 cases y with
 |cons o m=>
  cases m;cases o with
  |list t s=>exact⟨_,_,b,rfl,rfl,t,xU b _ s,z⟩
theorem Vh(l:OpenLaw)(args:List WData):l.row.toRowW.claim.post args (.bool true) args=true:=
 postW_of (r:=l.row.toRowW) (X:=(true==true))
  (show WShape.has [] (.bool true) .bool=true by first|rfl|decide|simp[WShape.has,WShape.arms,WShape.armsAll])
  (show(WTm.eq .res (.lit (.bool true))).value [] {args:=args,res:=some (.bool true),after:=args}=some (.bool (true==true))from w_eq_bool (w_res rfl) w_lit) rfl
section
variable {a:aWm}{w:aWr}{A:aWn}{E:XN}{s:aWg}{K:Frag}
end
end He
namespace L2
open PySem PySem.Spec PyProof.Rows
theorem LX:∀{vs:XI}{a:XE},IntsAre vs a->aA (a.map V.int) vs
 |_,_,.nil=>.nil
 |_,_,.cons n t h=>.cons ⟨t,rfl⟩ (LX h)
def AD(H:Hp):Prop:=∀b,H b=none\/∃o xs,H b=some (.ft o (.lst xs))
theorem Tx{P:aWm}{w:aWr}{K:aL}{t L:Str->XM}{CX:vz}{k:Nat}{Q a:aWe}{fd:aXh}{x:Str}{S:Sp}{c:aWg}{vs:XI}{p:XE}
 (KX:K.In c.heap)(gp:c.heap.Ns aWk t)(f:c.heap.Ns builtinsNs L)(N:∀x:Str,x≠"__name__"->L x=aXn x)(cb:c.heap.NoLimit)(hg:c.gens=#[])
 (J:c.heap.get? a=some {cls:=.type "list",data:=.seq vs.toArray})(Y:IntsAre vs p)(X:p.length<=sizeLine)(hr:cc k callerA)
 (F:∀i:aWi,K.In i->i.Ns aWk t->pK P w K t i CX k Q fd [x] S)(vy:∀(s:aWg)(u:aWf),BindsTo s fd ⟨[u],[]⟩ [(x,u)])
 (gn:∀H:Hp,AD H->cz K H a (p.map V.int)->S [.ref a] H (λv _=>v=.bl true) λ_ _ _=>False)
 (O:∀H e g,CX [] H c (λ_ _ _=>False) e g->False):
 aXz (aWl P w) callerA (.call (.ref Q) ⟨[.ref a],[]⟩) (λr g=>r=.ok (.ret (.bool true))/\OldK c.heap g.heap/\g.os=c.os/\AllBare g.gens) c:=by
 have U:=LX Y;have zn:=Y.length;have j:∀H:Hp,AD H->cz K H a (p.map V.int)->gg P w H c.heap->(∀b,H b≠none->b=a)->(H a≠none->K.lookup a=none)->
  aXz (aWl P w) callerA (.call (.ref Q) ⟨[.ref a],[]⟩) (λr g=>r=.ok (.ret (.bool true))/\OldK c.heap g.heap/\g.os=c.os/\AllBare g.gens) c:=by
  intro H Z hS A E hK;have base_of:∀{b:aWe}{o:Obj},c.heap.get? b=some o->H b=none->(u0 c.heap H).get? b=some o:=λe n=>Ut e n;have tt:∀{b:aWe}{o:Obj}{C:Array DictEntry}{D:Nat},c.heap.get? b=some o->o.data=.dict C D->H b=none:=λ{b o C D} e d=>by
   cases q:H b with
   |none=>rfl
   |some u=>
    have R:b=a:=E b (by rw[q];simp);subst R;rw[J]at e;cases e;have d':Data.seq vs.toArray _=Data.dict C D:=d;cases d'
  have I:∀{b:aWe}{m:Str->XM},c.heap.Ns b m->(u0 c.heap H).Ns b m:=λ{b m} ⟨o,C,D,e,d,r⟩=>⟨o,C,D,base_of e (tt e d),d,r⟩;have B:K.In (u0 c.heap H):=λb o e=>base_of (KX b o e) (by
   cases q:H b with
   |none=>rfl
   |some u=>
    have R:b=a:=E b (by rw[q];simp);subst R;rw[hK (by rw[q];simp)]at e;cases e)
  have hM:Mod K t (u0 c.heap H):=⟨B,I gp,⟨L,I f,N⟩,let ⟨mc,h1,h2⟩:=cb;⟨mc,I h1,h2⟩⟩;have e0:nc P w K t (u0 c.heap H) callerA [] c H:=⟨rfl,hM,λb o e=>SX e,bZ (UB _ _),trivial,λb f=>absurd (show b∈([]:List aWe)from f) (by simp),A,.of_eq hg⟩;refine codeAny_mono ((F _ B (I gp)).run callerA [] c H ⟨[.ref a],[]⟩ [.ref a] [.ref a] _ _ hr e0 (vy c (.ref a)) (.cons rfl .nil) (gn H Z hS)) λr g h=>?_;cases r with
  |error e=>exact(O H e g h).elim
  |ok fl=>
   cases fl with
   |next=>exact False.elim h
   |brk=>exact False.elim h
   |cont=>exact False.elim h
   |ret u=>
    obtain⟨v,H',os,G,un,y,r',q⟩:=h;have q':v=.bl true:=q;subst q';obtain rfl:u=aWf.bool true:=r';refine⟨rfl,OldK.of_keep λb o e=>?_,os,G⟩;cases q:H b with
    |none=>exact un.keep b o e q (by intro z;exact absurd (show b∈([]:List aWe)from z) (by simp)) (by simp)
    |some u=>
     rcases Z b with z| ⟨ob,xs,z⟩
     .rw[q]at z;cases z
     .have z2:=un.jj b ob _ z;obtain⟨e1,_⟩:=A b _ z;obtain⟨e2,_⟩:=y b _ z2;rw[e]at e1;cases e1;exact e2
 cases M:K.lookup a with
 |some o=>
  have e:=KX a o M;rw[J]at e;cases e;refine j (λ_=>none) (λ_=>.inl rfl) (.inr ⟨_,vs.toArray,_,M,rfl,rfl,rfl,by rw[bF,zn];exact X,by simpa using U⟩) (λb u z=>by have l:(none:Option HO)=some u:=z;cases l) (λb z=>absurd rfl z) λz=>absurd rfl z
 |none=>
  refine j (λb=>if b=a then some (.ft {cls:=.type "list",data:=.seq vs.toArray} (.lst (p.map V.int)))else none) (λb=>?_) (.inl (.inr ⟨{cls:=.type "list",data:=.seq vs.toArray},aWc rfl⟩)) (λb u z=>?_) (λb z=>?_) λ_=>M
  .by_cases f:b=a
   .exact .inr ⟨_,_,aWc f⟩
   .exact .inl (aWa f)
  .by_cases f:b=a
   .have l:=(aWc f).symm.trans z;cases l;subst f;exact⟨J,by rw[aP];exact X,vs,_,U,J⟩
   .have l:=(aWa f).symm.trans z;cases l
  .by_cases f:b=a
   .exact f
   .exact absurd (aWa f) z
noncomputable abbrev Xv{K:aL}{h:aWi}(_:K.In h):aL:=K
end L2
namespace L2
open PySem PySem.Spec PyProof.Rows
noncomputable abbrev ku:vz:=λ_ _ _ _ _ _=>False
structure vu(K:aL)(x qual:Str)(st:Stmt)(f:aWe)(fd:aXh):Prop where
 ex:∃(oc:aWf)(od:Option aWe)(kV doc pm:aWf)(an:Option aWe)(bc ct:aWf)(gk:Array XM),
  fd=dM x qual (lE st) (kG st) (iL st) .none kV doc pm an bc ct/\K.lookup f=some ⟨oc,od,.func fd,gk⟩/\X1 K bc qual=true
 kp:dQ K (.ref f)=true
section
variable {P:aWm}{w:aWr}{K:aL}{a:Str->XM}{b:aWi}
variable{x d:Str}{st:Stmt}{f:aWe}{fd:aXh}{ps:XJ}
theorem vu.ok{N:XJ}{k:Nat}{i:Sp}(F:vu K x d st f fd)(S:tL N ps (iL st))(len:∀vs H Q E,i vs H Q E->vs.length=ps.length)
 (n:∀(g:aWf)(A:aWn)(c:List Env)(s:aWg)(H:Hp)(vs:Xy)(Q:VK)(E:XK),cc k (A.deeper (envOfC d (iL st) s.heap.objs.size f g))->i vs H Q E->
  ∃t,km (vg ku P w K a b N d (iL st) f g A c s H E).xr (kG st) t/\t {nx:=λ_ p=>Q .aF p,rt:=Q} (start N vs) H):pK P w K a b ku (k+1) f fd ps i:=by
 obtain⟨oc,od,kV,o,r,y,g,v,u,rfl,lk,j⟩:=F.ex;refine Ik lk j S len λA c s H vs Q E l m=>?_;obtain⟨t,h,q⟩:=n g A c s H vs Q E l m;exact⟨t,h.xr,q⟩
theorem vu.binds(F:vu K x d st f fd)
 (h:∀(kV c i:aWf)(l:Option aWe)(k j:aWf)(g:XI),g.length=ps.length->bindArgs (dM x d (lE st) (kG st) (iL st) .none kV c i l k j) ⟨g,[]⟩=pure (ps.zip g)):Binds K fd ps []:=by
 obtain⟨oc,od,kV,c,i,l,k,j,n,rfl,lk,m⟩:=F.ex;exact .all (h kV c i l k j)
theorem Gh{oc:aWf}{od m:Option aWe}{n:Array XM}{kV g i h j:aWf}(l:K.lookup f=some ⟨oc,od,.func (dM x d (lE st) (kG st) (iL st) .none kV g i m h j),n⟩)
 (c:X1 K h d=true)(k:dQ K (.ref f)=true):vu K x d st f (dM x d (lE st) (kG st) (iL st) .none kV g i m h j):=⟨⟨oc,od,kV,g,i,m,h,j,n,rfl,l,c⟩,k⟩
end
section
variable {X:Cx}
end
variable{H d:Hp}
def b6(H d:Hp):Prop:=∀b o,H b=some o->d b=some o
theorem b6.refl(H:Hp):b6 H H:=λ_ _ h=>h
theorem b6.trans{g f:Hp}(a:b6 H g)(b:b6 g f):b6 H f:=λc o h=>b c o (a c o h)
theorem b6.free(e:b6 H d){l:aWe}(h:d l=aUz):H l=aUz:=by
 cases q:H l with
 |none=>rfl
 |some o=>
  rw[e l o q]at h;cases h
theorem b6.seq{K:aL}{a:aWe}{xs:Xy}(e:b6 H d)(h:cz K H a xs):cz K d a xs:=by
 rcases h with(h| ⟨o,h⟩)|h
 .exact .inl (.inl (e _ _ h))
 .exact .inl (.inr ⟨o,e _ _ h⟩)
 .exact .inr h
end L2
namespace PySem
section
variable {M:Model}{A:aWn}{E:XN}
variable {a q:Str}{C N:aWe}{bs b:XI}{c:Bool}{d:XJ}{sub:XI}{f:Bool}{g:Option Bool}{h:Option aWe}{i j l m n:XM}{o:String}
variable {p r:Str}{D s:aWe}{u v:XI}{w:Bool}{x:XJ}{y:XI}{z:Bool}{e:Option Bool}{B:Option aWe}{F G H I J:XM}{K:String}
end
end PySem
namespace TL
open PySem L2
variable{H:Hp}{Z:aWe->Prop}{ρ:cn}{a:aWe}{o:HO}
inductive T where
 |aF|bl (b:Bool)|int (i:Int)|str (x:Str)|lst (xs:List T)|tup (xs:List T)|cell (c:Nat)|exc (c:String)
abbrev Xw:=List T
abbrev Xx:=Option T
noncomputable abbrev aE:=List Xx
inductive Kd where
 |l|o (cls:String) (ns:XJ)|dk (ks:List Key)|dt (ks:List (List Key))|dz (ks:List (List Key))
noncomputable abbrev Cl:=Kd×Xw
abbrev ab:=List Cl
noncomputable abbrev cn:=List aWe
open Classical in
noncomputable def mask(H:Hp)(Z:aWe->Prop)(ρ:cn):Hp:=λa=>if Z a\/a∈ρ then none else H a
theorem Me:mask H Z ρ a=some o↔¬Z a/\a∉ρ/\H a=some o:=by
 unfold mask;constructor
 .intro h;split at h
  .cases h
  .rename_i q;exact⟨λz=>q (.inl z),λz=>q (.inr z),h⟩
 .rintro⟨d,c,b⟩;rw[aWa (by
   rintro(z|z)
   .exact d z
   .exact c z)]
  exact b
def jT:=λ{a b c d e}=>(@Me a b c d e).mp
theorem oS(d:¬Z a)(c:a∉ρ)(b:H a=some o):mask H Z ρ a=some o:=Me.mpr ⟨d,c,b⟩
theorem qG:b6 (mask H Z ρ) H:=λa o h=>(jT h).2.2
noncomputable def Nf(a C:aWe):HO:=.ext λh=>∃ob,h.get? a=some ob/\ob.cls=.ref C
mutual
def RT(K:aL)(M:Hp)(ρ:cn):T->V->Prop
 | .aF,v=>v=.aF
 | .bl b,v=>v=.bl b
 | .int i,v=>v=.int i
 | .str x,v=>v=.str x
 | .lst ts,v=>∃a vs,v=.ref a/\cz K M a vs/\aB K M ρ ts vs
 | .tup ts,v=>∃a vs,v=.ref a/\M a=some (.tup vs)/\aB K M ρ ts vs
 | .cell c,v=>∃a,v=.ref a/\ρ[c]?=some a
 | .exc c,v=>∃a C,v=.ref a/\cE K aWk (Str.ofString c)=some (some (.ref C))/\M a=some (Nf a C)
def aB(K:aL)(M:Hp)(ρ:cn):Xw->Xy->Prop
 | [],vs=>vs=[]
 |t::ts,vs=>∃v r,vs=v::r/\RT K M ρ t v/\aB K M ρ ts r
end
theorem b6.En{K:aL}{H b:Hp}{a:aWe}{xs:Xy}(e:b6 H b)(h:jc K H a xs):jc K b a xs:=by
 rcases h with(h| ⟨o,h⟩)|h
 .exact .inl (.inl (e _ _ h))
 .exact .inl (.inr ⟨o,e _ _ h⟩)
 .exact .inr h
theorem QI{ρ e:cn}{c:Nat}{a:aWe}(h:ρ[c]?=some a):(ρ++e)[c]?=some a:=by
 rw[aR (fK h).1];exact h
section
variable {K:aL}{M b:Hp}{ρ d:cn}
mutual
theorem RT.mono(s:b6 M b)(p:∀(c:Nat)(a:aWe),ρ[c]?=some a->d[c]?=some a):∀{t:T}{v:V},RT K M ρ t v->RT K b d t v
 | .aF,_,h=>by unfold RT at*;exact h
 | .bl _,_,h=>by unfold RT at*;exact h
 | .int _,_,h=>by unfold RT at*;exact h
 | .str _,_,h=>by unfold RT at*;exact h
 | .lst f,v,h=>by
   unfold RT at*;obtain⟨a,vs,e,q,r⟩:=h;exact⟨a,vs,e,s.seq q,aB.mono s p r⟩
 | .tup f,v,h=>by
   unfold RT at*;obtain⟨a,vs,e,q,r⟩:=h;exact⟨a,vs,e,s _ _ q,aB.mono s p r⟩
 | .cell c,v,h=>by
   unfold RT at*;obtain⟨a,e,q⟩:=h;exact⟨a,e,p c a q⟩
 | .exc c,v,h=>by
   unfold RT at*;obtain⟨a,C,e,q,r⟩:=h;exact⟨a,C,e,q,s _ _ r⟩
theorem aB.mono(s:b6 M b)(p:∀(c:Nat)(a:aWe),ρ[c]?=some a->d[c]?=some a):∀{f:Xw}{vs:Xy},aB K M ρ f vs->aB K b d f vs
 | [],_,h=>by unfold aB at*;exact h
 |t::f,vs,h=>by
  unfold aB at*;obtain⟨v,r,e,i,g⟩:=h;exact⟨v,r,e,RT.mono s p i,aB.mono s p g⟩
end
variable{t:T}{ts:Xw}{v:V}{vs:Xy}
theorem aB.nil:aB K M ρ [] []:=by unfold aB;rfl
theorem aB.cons(h:RT K M ρ t v)(c:aB K M ρ ts vs):aB K M ρ (t::ts) (v::vs):=by
 unfold aB;exact⟨v,vs,rfl,h,c⟩
theorem aB.nil_inv(h:aB K M ρ [] vs):vs=[]:=by unfold aB at h;exact h
theorem aB.cons_inv(h:aB K M ρ (t::ts) vs):∃v r,vs=v::r/\RT K M ρ t v/\aB K M ρ ts r:=by unfold aB at h;exact h
theorem aB.length:∀{ts:Xw}{vs:Xy},aB K M ρ ts vs->vs.length=ts.length
 | [],_,h=>by rw[h.nil_inv];rfl
 |t::ts,vs,h=>by
  obtain⟨v,r,rfl,_,c⟩:=h.cons_inv;simp[c.length]
theorem aB.get:∀{ts:Xw}{vs:Xy}{i:Nat}{t:T},aB K M ρ ts vs->ts[i]?=some t->∃v,vs[i]?=some v/\RT K M ρ t v
 | [],_,_,_,_,e=>by simp at e
 |x::ts,vs,0,t,h,e=>by
  obtain⟨v,r,rfl,f,c⟩:=h.cons_inv;simp at e;subst e;exact⟨v,rfl,f⟩
 |x::ts,vs,i+1,t,h,e=>by
  obtain⟨v,r,rfl,f,c⟩:=h.cons_inv;obtain⟨u,j,g⟩:=aB.get (i:=i) c (by simpa using e);exact⟨u,by simpa using j,g⟩
theorem aB.EK{i:Nat}(h:aB K M ρ ts vs)(e:vs[i]?=some v):∃t,ts[i]?=some t/\RT K M ρ t v:=by
 have f:i<ts.length:=by rw[<-h.length];exact(fK e).1
 obtain⟨j,c,g⟩:=h.get (aO f);rw[e]at c;cases c;exact⟨_,aO f,g⟩
theorem aB.append:∀{ts us:Xw}{vs ws:Xy},aB K M ρ ts vs->aB K M ρ us ws->aB K M ρ (ts++us) (vs++ws)
 | [],_,_,_,h,c=>by rw[h.nil_inv];exact c
 |t::ts,_,_,_,h,c=>by
  obtain⟨v,r,rfl,g,f⟩:=h.cons_inv;exact .cons g (f.append c)
theorem aB.take:∀(n:Nat){ts:Xw}{vs:Xy},aB K M ρ ts vs->aB K M ρ (ts.take n) (vs.take n)
 |0,_,_,_=>by simpa using aB.nil
 |n+1,[],_,h=>by rw[h.nil_inv];simpa using aB.nil
 |n+1,t::ts,_,h=>by
  obtain⟨v,r,rfl,f,c⟩:=h.cons_inv;exact .cons f (c.take n)
theorem aB.drop:∀(n:Nat){ts:Xw}{vs:Xy},aB K M ρ ts vs->aB K M ρ (ts.drop n) (vs.drop n)
 |0,_,_,h=>h
 |n+1,[],_,h=>by rw[h.nil_inv];simpa using aB.nil
 |n+1,t::ts,_,h=>by
  obtain⟨v,r,rfl,f,c⟩:=h.cons_inv;exact c.drop n
theorem aB.set(g:RT K M ρ t v):∀(n:Nat){ts:Xw}{vs:Xy},aB K M ρ ts vs->aB K M ρ (ts.set n t) (vs.set n v)
 |_,[],_,h=>by rw[h.nil_inv];simpa using aB.nil
 |0,x::ts,_,h=>by
  obtain⟨u,r,rfl,f,c⟩:=h.cons_inv;exact .cons g c
 |n+1,x::ts,_,h=>by
  obtain⟨u,r,rfl,f,c⟩:=h.cons_inv;exact .cons f (c.set g n)
end
variable{H H':Hp}{a:aWe}{K:aL}{ρ ae:cn}{Z:aWe->Prop}
def tm(K:aL):Kd->Xy->HO->Prop
 | .l,vs,o=>o=.lst vs
 | .o c d,vs,o=>d.length=vs.length/\∃C dx,cE K aWk (Str.ofString c)=some (some (.ref C))/\o=.ins C dx (d.zip vs)
 | .dk b,vs,o=>b.length=vs.length/\o=.dK (b.zip vs)
 | .dt b,vs,o=>b.length=vs.length/\o=.dT (b.zip vs)
 | .dz b,vs,o=>b.length=vs.length/\∃ob,o=.ft ob (.dT (b.zip vs))
def NT:Option HO->Prop
 |some (.tup _)=>False
 |none=>False
 |_=>True
theorem NT.same(s:b6 H H')(h:NT (H a)):NT (H' a):=by
 cases e:H a with
 |none=>rw[e]at h;exact False.elim h
 |some o=>rw[s a o e,<-e];exact h
theorem NT.some(h:NT (H a)):H a≠none:=λz=>by rw[z]at h;exact h
theorem tm.nt{k:Kd}{vs:Xy}{o:HO}(h:tm K k vs o):NT (some o):=by
 cases k with
 |l=>unfold tm at h;subst h;trivial
 |o c d=>unfold tm at h;obtain⟨_,C,dx,_,rfl⟩:=h;trivial
 |dk b=>unfold tm at h;obtain⟨_,rfl⟩:=h;trivial
 |dt b=>unfold tm at h;obtain⟨_,rfl⟩:=h;trivial
 |dz b=>unfold tm at h;obtain⟨_,ob,rfl⟩:=h;trivial
def Hm:Option HO->Prop
 |some (.ft _ _)=>False
 |_=>True
structure Rel(K:aL)(aG:Hp)(Z:aWe->Prop)(ρ:cn)(τ:aE)(C:ab)(σ:St)(H:Hp):Prop where
 old:b6 aG H
 b4:∀a∈ρ,aG a=none/\¬Z a
 nd:ρ.Nodup
 zd:∀a,Z a->NT (H a)
 loc:∀(i:Nat)(t:T),τ[i]?=some (some t)->∃v,σ[i]?=some (some v)/\RT K (mask H Z ρ) ρ t v
 jq:∀(c:Nat)(a:aWe),ρ[c]?=some a->∃x vs o,C[c]?=some x/\H a=some o/\tm K x.1 vs o/\aB K (mask H Z ρ) ρ x.2 vs
 len:ρ.length=C.length
 rA:τ.length=σ.length
structure Step(H H':Hp)(ρ ae:cn):Prop where
 kept:∀(a:aWe)(o:HO),H a=some o->a∉ρ->a∉ae/\H' a=some o
 pre:∃e,ae=ρ++e
 fz:∀(a:aWe) ob u,H a=some (.ft ob u)->H' a=some (.ft ob u)
theorem Step.refl:Step H H ρ ρ:=⟨λa o h n=>⟨n,h⟩,⟨[],by simp⟩,λ_ _ _ h=>h⟩
theorem Step.trans{i g:Hp}{d c:cn}(a:Step H i ρ d)(b:Step i g d c):Step H g ρ c:=by
 obtain⟨e,k⟩:=a.pre;obtain⟨f,j⟩:=b.pre;exact⟨λx o h n=>(b.kept x o (a.kept x o h n).2 (a.kept x o h n).1),⟨e++f,by rw[j,k,dH]⟩,λx ob u h=>b.fz x ob u (a.fz x ob u h)⟩
theorem Step.of{e:cn}(s:b6 H H')(h:∀a∈e,H a=none):Step H H' ρ (ρ++e):=
 ⟨λa o q n=>⟨λz=>(fZ z).elim n (λz=>by rw[h a z]at q;cases q),s a o q⟩,⟨e,rfl⟩,λa ob u h=>s a _ h⟩
theorem Step.of0(s:b6 H H'):Step H H' ρ ρ:=⟨λa o q n=>⟨n,s a o q⟩,⟨[],by simp⟩,λa ob u h=>s a _ h⟩
theorem Step.idx(s:Step H H' ρ ae):∀(c:Nat)(a:aWe),ρ[c]?=some a->ae[c]?=some a:=λc a h=>by
 obtain⟨e,b⟩:=s.pre;rw[b];exact QI h
theorem Step.tw(s:Step H H' ρ ae)(Z:aWe->Prop):b6 (mask H Z ρ) (mask H' Z ae):=λa o h=>by
 obtain⟨d,c,b⟩:=jT h;exact oS d (s.kept a o b c).1 (s.kept a o b c).2
theorem RT.step{t:T}{v:V}(h:RT K (mask H Z ρ) ρ t v)(s:Step H H' ρ ae):RT K (mask H' Z ae) ae t v:=h.mono (s.tw Z) s.idx
theorem aB.step{t:Xw}{v:Xy}(h:aB K (mask H Z ρ) ρ t v)(s:Step H H' ρ ae):aB K (mask H' Z ae) ae t v:=h.mono (s.tw Z) s.idx
abbrev SStep(Z:aWe->Prop)(H H':Hp)(ρ ae:cn):Prop:=Step H H' ρ ae
theorem Step.ss(s:Step H H' ρ ae):Step H H' ρ ae:=s
section
variable {K:aL}{g H H':Hp}{Z:aWe->Prop}{ρ ae:cn}{f:aE}{C:ab}{σ:St}
variable{p:aWe}{kd:Kd}{ob:HO}{c:Nat}
theorem Rel.alloc(R:Rel K g Z ρ f C σ H){o:HO}(k:H p=none):Rel K g Z ρ f C σ (upd H p o)/\Step H (upd H p o) ρ ρ:=by
 have sm:b6 H (upd H p o):=λb u h=>by rw[gJ (λz=>by rw[z,k]at h;cases h)];exact h
 have st:Step H (upd H p o) ρ ρ:=.of0 sm;refine⟨⟨R.old.trans sm,R.b4,R.nd,λa z=>(R.zd a z).same sm,λi t e=>?_,λc a e=>?_,R.len,R.rA⟩,st⟩
 .obtain⟨v,j,d⟩:=R.loc i t e;exact⟨v,j,d.step st⟩
 .obtain⟨x,vs,ob,j,d,l,m⟩:=R.jq c a e;exact⟨x,vs,ob,j,sm _ _ d,l,m.step st⟩
theorem Rel.fy(R:Rel K g Z ρ f C σ H)(b:H p=none):¬Z p/\p∉ρ/\g p=none:=by
 refine⟨λz=>(R.zd p z).some b,λz=>?_,R.old.free b⟩;obtain⟨c,d⟩:=gB z;obtain⟨_,_,_,_,h,_⟩:=R.jq c p d;rw[b]at h;cases h
theorem Rel.pz(R:Rel K g Z ρ f C σ H){b:Xw}{vs:Xy}(d:H p=none)(h:aB K (mask H Z ρ) ρ b vs):
 RT K (mask (upd H p (.lst vs)) Z ρ) ρ (.lst b) (.ref p):=by
 obtain⟨j,i,_⟩:=R.fy d;unfold RT;exact⟨p,vs,rfl,.of (oS j i kD),h.step (R.alloc d).2⟩
theorem Rel.hG(R:Rel K g Z ρ f C σ H){b:Xw}{vs:Xy}(d:H p=none)(h:aB K (mask H Z ρ) ρ b vs):
 RT K (mask (upd H p (.tup vs)) Z ρ) ρ (.tup b) (.ref p):=by
 obtain⟨j,i,_⟩:=R.fy d;unfold RT;exact⟨p,vs,rfl,(oS j i kD),h.step (R.alloc d).2⟩
theorem Rel.fu(R:Rel K g Z ρ f C σ H){ts:Xw}{vs:Xy}(j:H p=none)(r:tm K kd vs ob)(h:aB K (mask H Z ρ) ρ ts vs):
 Rel K g Z (ρ++[p]) f (C++[(kd,ts)]) σ (upd H p ob)/\Step H (upd H p ob) ρ (ρ++[p])/\RT K (mask (upd H p ob) Z (ρ++[p])) (ρ++[p]) (.cell C.length) (.ref p):=by
 obtain⟨A,y,x⟩:=R.fy j;have sm:b6 H (upd H p ob):=λb u h=>by rw[gJ (λz=>by rw[z,j]at h;cases h)];exact h
 have st:Step H (upd H p ob) ρ (ρ++[p]):=.of sm λa d=>by rw[gO d];exact j
 refine⟨⟨R.old.trans sm,λa d=>?_,?_,λa z=>(R.zd a z).same sm,λi t e=>?_,λc a e=>?_,by simp[R.len],R.rA⟩,st,?_⟩
 .rcases fZ d with d|d
  .exact R.b4 a d
  .rw[gO d];exact⟨x,A⟩
 .refine jF ⟨R.nd,by simp,λa d b B=>?_⟩;rw[gO B];rintro rfl;exact y d
 .obtain⟨v,m,l⟩:=R.loc i t e;exact⟨v,m,l.step st⟩
 .by_cases k:c<ρ.length
  .rw[aR k]at e;obtain⟨q,n,w,m,l,D,F⟩:=R.jq c a e;exact⟨q,n,w,by rw[aR (by rw[<-R.len];exact k)];exact m,sm _ _ l,D,F.step st⟩
  .have s:c=ρ.length:=by
    have:=(fK e).1;simp at this;exact X2 (bJ this) (cT k)
   subst s;rw[bL (bD _)]at e;simp at e;subst e;exact⟨(kd,ts),vs,ob,by rw[R.len];simp,kD,r,h.step st⟩
 .unfold RT;exact⟨p,rfl,by rw[<-R.len];simp⟩
theorem Rel.mx(R:Rel K g Z ρ f C σ H){b:Xw}{vs:Xy}(d:H p=none)(h:aB K (mask H Z ρ) ρ b vs):
 Rel K g Z (ρ++[p]) f (C++[(.l,b)]) σ (upd H p (.lst vs))/\Step H (upd H p (.lst vs)) ρ (ρ++[p])/\RT K (mask (upd H p (.lst vs)) Z (ρ++[p])) (ρ++[p]) (.cell C.length) (.ref p):=R.fu d rfl h
theorem Rel.pw(R:Rel K g Z ρ f C σ H){a:aWe}{ts:Xw}(h:ρ[c]?=some a)(e:C[c]?=some (.l,ts)):∃vs,H a=some (.lst vs)/\aB K (mask H Z ρ) ρ ts vs:=by
 obtain⟨x,vs,ob,d,j,b,i⟩:=R.jq c a h;rw[e]at d;cases d;have b:ob=.lst vs:=b;subst b;exact⟨vs,j,i⟩
theorem Rel.BO(R:Rel K g Z ρ f C σ H){a:aWe}{k:Xw}{vs:Xy}(j:ρ[c]?=some a)(s:tm K kd vs ob)(h:aB K (mask H Z ρ) ρ k vs):
 Rel K g Z ρ f (C.set c (kd,k)) σ (upd H a ob)/\mask (upd H a ob) Z ρ=mask H Z ρ:=by
 have m:a∈ρ:=aX j;have em:mask (upd H a ob) Z ρ=mask H Z ρ:=by
  funext b;unfold mask;split
  .rfl
  .rename_i q;rw[gJ (by rintro rfl;exact q (.inr m))]
 refine⟨⟨λb o q=>?_,R.b4,R.nd,λb z=>?_,λi t e=>?_,λd b e=>?_,by simp[R.len],R.rA⟩,em⟩
 .rw[gJ (by rintro rfl;rw[(R.b4 b m).1]at q;cases q)];exact R.old b o q
 .rw[gJ (by rintro rfl;exact(R.b4 b m).2 z)];exact R.zd b z
 .rw[em];exact R.loc i t e
 .rw[em];by_cases l:d=c
  .subst l;rw[j]at e;cases e;have v:d<C.length:=by rw[<-R.len];exact(fK j).1
   exact⟨(kd,k),vs,ob,by rw[bT v],kD,s,h⟩
  .obtain⟨r,n,u,A,y,w,x⟩:=R.jq d b e;refine⟨r,n,u,by rw[aQ (Ne.symm l)];exact A,?_,w,x⟩;rw[gJ]
   .exact y
   .rintro rfl;obtain⟨G,D⟩:=fK e;obtain⟨F,B⟩:=fK j;exact l ((Zg R.nd).mp (D.trans B.symm))
theorem Rel.put(R:Rel K g Z ρ f C σ H){a:aWe}{ts:Xw}{vs:Xy}(i:ρ[c]?=some a)(d:Hm (H a))(j:tm K kd vs ob)(h:aB K (mask H Z ρ) ρ ts vs):
 Rel K g Z ρ f (C.set c (kd,ts)) σ (upd H a ob)/\SStep Z H (upd H a ob) ρ ρ:=
 have k:a∈ρ:=aX i
 ⟨(R.BO i j h).1,⟨λb o q n=>⟨n,by rw[gJ (by rintro rfl;exact n k)];exact q⟩,⟨[],by simp⟩,λb ob u h=>by rw[gJ (by rintro rfl;rw[h]at d;exact d)];exact h⟩⟩
theorem Rel.write(R:Rel K g Z ρ f C σ H){a:aWe}{ts:Xw}{vs:Xy}(d:ρ[c]?=some a)(b:Hm (H a))(h:aB K (mask H Z ρ) ρ ts vs):
 Rel K g Z ρ f (C.set c (.l,ts)) σ (upd H a (.lst vs))/\SStep Z H (upd H a (.lst vs)) ρ ρ:=R.put d b rfl h
theorem Rel.set(R:Rel K g Z ρ f C σ H){i:Nat}{t:T}{v:V}(h:RT K (mask H Z ρ) ρ t v):Rel K g Z ρ (f.set i (some t)) C (σ.set i (some v)) H:=by
 refine⟨R.old,R.b4,R.nd,R.zd,λj u e=>?_,R.jq,R.len,by simp[R.rA]⟩;by_cases b:j=i
 .subst b;have d:j<f.length:=by
   have:=(fK e).1;simpa using this
  rw[bT d]at e;cases e;exact⟨v,by rw[bT (by rw[<-R.rA];exact d)],h⟩
 .rw[aQ (Ne.symm b)]at e;obtain⟨w,l,k⟩:=R.loc j u e;exact⟨w,by rw[aQ (Ne.symm b)];exact l,k⟩
theorem Rel.weak(R:Rel K g Z ρ f C σ H){b:aE}(d:b.length=f.length)(h:∀(i:Nat) t,b[i]?=some (some t)->f[i]?=some (some t)):Rel K g Z ρ b C σ H:=
 ⟨R.old,R.b4,R.nd,R.zd,λi t e=>R.loc i t (h i t e),R.jq,R.len,d.trans R.rA⟩
end
noncomputable def lim:Nat:=400000
abbrev FE:=aE->ab->Option (T×ab)
abbrev FN:=aE->ab->Option (Xw×ab)
abbrev FB:=aE->ab->Option (Bool×ab)
def bg(K:aL)(f:FE):TE:=λσ H Q=>∃b Z ρ c C t d,Rel K b Z ρ c C σ H/\f c C=some (t,d)/\
 ∀v H' ae,Rel K b Z ae c d σ H'->RT K (mask H' Z ae) ae t v->Step H H' ρ ae->Q v H'
def jd(K:aL)(f:FN):TA:=λσ H Q=>∃b Z ρ c C ts d,Rel K b Z ρ c C σ H/\f c C=some (ts,d)/\
 ∀vs H' ae,Rel K b Z ae c d σ H'->aB K (mask H' Z ae) ae ts vs->Step H H' ρ ae->Q vs H'
def kv(K:aL)(f:FN):TE:=λd H Q=>∃b Z ρ c C g h,Rel K b Z ρ c C d H/\f c C=some (g,h)/\
 ∀p H' ae vs,Rel K b Z ae c h d H'->H' p=none->aB K (mask H' Z ae) ae g vs->Step H H' ρ ae->Q (.ref p) (upd H' p (.lst vs))
noncomputable def jo(K:aL)(f:FB):TT:=λg H Q=>∃c Z ρ d C b h,Rel K c Z ρ d C g H/\f d C=some (b,h)/\
 ∀H' ae,Rel K c Z ae d h g H'->Step H H' ρ ae->Q b H'
def ib(K:aL)(d:St)(h:Xw)(vs:Xy)(g:ab->Option (T×ab))(H:Hp)(Q:VK):Prop:=∃b Z ρ c C t f,Rel K b Z ρ c C d H/\aB K (mask H Z ρ) ρ h vs/\g C=some (t,f)/\
 ∀v H' ae,Rel K b Z ae c f d H'->RT K (mask H' Z ae) ae t v->Step H H' ρ ae->Q v H'
def zf(K:aL)(d:St)(i:Xw)(vs:Xy)(g:ab->Option Xw)(H:Hp)(Q:VK):Prop:=∃b Z ρ c C h,Rel K b Z ρ c C d H/\aB K (mask H Z ρ) ρ i vs/\g C=some h/\
 ∀p H' ae f,Rel K b Z ae c C d H'->H' p=none->aB K (mask H' Z ae) ae h f->Step H H' ρ ae->Q (.ref p) (upd H' p (.lst f))
noncomputable def kI(i:Nat):FE:=λb C=>match b[i]?with
 |some (some t)=>some (t,C)
 |_=>none
noncomputable def fC(t:T):FE:=λ_ C=>some (t,C)
abbrev Y0:FE:=kI 0
abbrev Y1:FE:=kI 1
abbrev Y2:FE:=kI 2
abbrev Y3:FE:=kI 3
abbrev Y4:FE:=kI 4
abbrev Y5:FE:=kI 5
abbrev Y6:FE:=kI 6
abbrev Y7:FE:=kI 7
abbrev Y8:FE:=kI 8
abbrev Y9:FE:=kI 9
abbrev vj:FE:=kI 10
abbrev Bp:FE:=kI 11
abbrev CQ:FE:=kI 12
abbrev MN:FE:=kI 13
abbrev Xr:FE:=kI 14
abbrev fI(n:Int):FE:=fC (.int n)
noncomputable def kA(d c:FE)(g:T->T->ab->Option (T×ab)):FE:=λb C=>(d b C).bind λp=>(c b p.2).bind λq=>g p.1 q.1 q.2
noncomputable def x3(c:FE)(g:T->ab->Option (T×ab)):FE:=λb C=>(c b C).bind λp=>g p.1 p.2
noncomputable def z8(f d:FE)(g:T->T->ab->Option Xw):FN:=λb C=>(f b C).bind λp=>(d b p.2).bind λq=>(g p.1 q.1 q.2).map λc=>(c,q.2)
noncomputable def f7:FN:=λ_ C=>some ([],C)
noncomputable def fN(d:FE)(c:FN):FN:=λb C=>(d b C).bind λp=>(c b p.2).map λq=>(p.1::q.1,q.2)
noncomputable def pJ(c:FN)(g:Xw->ab->Option (T×ab)):FE:=λb C=>(c b C).bind λp=>g p.1 p.2
noncomputable def uZ(d:FN)(g:Xw->ab->Option Xw):FN:=λb C=>(d b C).bind λp=>(g p.1 p.2).map λc=>(c,p.2)
noncomputable def hZ(f:FN):FE:=λb C=>(f b C).map λp=>(.lst p.1,p.2)
noncomputable def jL(f:FN):FE:=λb C=>(f b C).map λp=>(.cell p.2.length,p.2++[(.l,p.1)])
section
variable {K:aL}{σ:St}{H:Hp}{Q:VK}
variable{m n:FE}{g:Int->Int->V}{f:Int->Int->T}{C:ab}{M d:Hp}{l:aE}{x y:V}
theorem Ig{i:Nat}(h:bg K (kI i) σ H Q):Bw i σ H Q:=by
 obtain⟨d,Z,ρ,l,C,t,p,R,e,k⟩:=h;unfold kI at e;split at e
 .rename_i u b;cases e;obtain⟨v,j,c⟩:=R.loc i t b;exact⟨v,j,k v H ρ R c .refl⟩
 .cases e
theorem Dp{t:T}{v:V}(b:∀M ρ,RT K M ρ t v)(h:bg K (fC t) σ H Q):tC v σ H Q:=by
 obtain⟨d,Z,ρ,l,C,t,c,R,e,k⟩:=h;cases e;exact k v H ρ R (b _ _) .refl
theorem DR{g:T->T->ab->Option (T×ab)}(h:bg K (kA m n g) σ H Q):
 bg K m σ H λx p=>bg K n σ p λy j=>∃c b,ib K σ [c,b] [x,y] (g c b) j Q:=by
 obtain⟨d,Z,ρ,l,C,t,O,R,e,k⟩:=h;unfold kA at e;obtain⟨⟨c,r⟩,D,e⟩:=fE e;obtain⟨⟨b,q⟩,B,e⟩:=fE e;refine⟨d,Z,ρ,l,C,c,r,R,D,λx p I L A u=>?_⟩;refine⟨d,Z,I,l,r,b,q,L,B,λy j G R2 z i=>?_⟩;exact⟨c,b,d,Z,G,l,q,t,O,R2,.cons (A.step i) (.cons z .nil),e,λv N F J w s=>k v N F J w ((u.trans i).trans s)⟩
theorem Fg{g:T->ab->Option (T×ab)}(h:bg K (x3 m g) σ H Q):
 bg K m σ H λx c=>∃b,ib K σ [b] [x] (g b) c Q:=by
 obtain⟨d,Z,ρ,l,C,t,D,R,e,k⟩:=h;unfold x3 at e;obtain⟨⟨b,i⟩,s,e⟩:=fE e;refine⟨d,Z,ρ,l,C,b,i,R,s,λx c w A r p=>?_⟩;exact⟨b,d,Z,w,l,i,t,D,A,.cons r .nil,e,λv B u z q j=>k v B u z q (p.trans j)⟩
theorem OT{g:T->T->ab->Option Xw}(h:kv K (z8 m n g) σ H Q):
 bg K m σ H λx q=>bg K n σ q λy j=>∃c b,zf K σ [c,b] [x,y] (g c b) j Q:=by
 obtain⟨d,Z,ρ,l,C,S,X,R,e,k⟩:=h;unfold z8 at e;obtain⟨⟨c,r⟩,F,e⟩:=fE e;obtain⟨⟨b,U⟩,D,e⟩:=fE e;obtain⟨P,B,e⟩:=fG e;cases e;refine⟨d,Z,ρ,l,C,c,r,R,F,λx q J N A u=>?_⟩;refine⟨d,Z,J,l,r,b,_,N,D,λy j I R2 z i=>?_⟩;exact⟨c,b,d,Z,I,l,_,_,R2,.cons (A.step i) (.cons z .nil),B,λp O G s L v w t=>k p O G s L v w ((u.trans i).trans t)⟩
theorem HD{Q:Xy->Hp->Prop}(h:jd K f7 σ H Q):Dw σ H Q:=by
 obtain⟨d,Z,ρ,l,C,b,c,R,e,k⟩:=h;cases e;exact k [] H ρ R .nil .refl
theorem OV{c:FN}{Q:Xy->Hp->Prop}(h:jd K (fN m c) σ H Q):Fj (bg K m) (jd K c) σ H Q:=by
 obtain⟨d,Z,ρ,l,C,B,G,R,e,k⟩:=h;unfold fN at e;obtain⟨⟨p,i⟩,u,e⟩:=fE e;obtain⟨⟨j,F⟩,t,e⟩:=fG e;cases e;refine⟨d,Z,ρ,l,C,p,i,R,u,λx D w z s q=>?_⟩;exact⟨d,Z,w,l,i,j,_,z,t,λvs A v R2 r b=>k (x::vs) A v R2 (.cons (s.step b) r) (q.trans b)⟩
theorem CA{m:FN}{g:Xw->ab->Option (T×ab)}(h:bg K (pJ m g) σ H Q):
 jd K m σ H λvs c=>∃b,ib K σ b vs (g b) c Q:=by
 obtain⟨d,Z,ρ,l,C,t,D,R,e,k⟩:=h;unfold pJ at e;obtain⟨⟨b,i⟩,s,e⟩:=fE e;refine⟨d,Z,ρ,l,C,b,i,R,s,λx c w A r p=>?_⟩;exact⟨b,d,Z,w,l,i,t,D,A,r,e,λv B u z q j=>k v B u z q (p.trans j)⟩
theorem Jb{m:FN}{g:Xw->ab->Option Xw}(h:kv K (uZ m g) σ H Q):
 jd K m σ H λvs j=>∃b,zf K σ b vs (g b) j Q:=by
 obtain⟨d,Z,ρ,l,C,b,I,R,e,k⟩:=h;unfold uZ at e;obtain⟨⟨i,G⟩,w,e⟩:=fE e;obtain⟨c,v,e⟩:=fG e;cases e;refine⟨d,Z,ρ,l,C,i,_,R,w,λx j A D u r=>?_⟩;exact⟨i,d,Z,A,l,_,_,D,u,v,λp F z c B s t q=>k p F z c B s t (r.trans q)⟩
theorem Jk{f:FN}(h:bg K (hZ f) σ H Q):kv K f σ H Q:=by
 obtain⟨d,Z,ρ,l,C,t,w,R,e,k⟩:=h;unfold hZ at e;obtain⟨⟨i,v⟩,r,e⟩:=fG e;cases e;exact⟨d,Z,ρ,l,C,i,_,R,r,λp u s vs c b q j=>k _ _ s (c.alloc b).1 (c.pz b q) (j.trans (c.alloc b).2)⟩
theorem IJ{f:FN}(h:bg K (jL f) σ H Q):kv K f σ H Q:=by
 obtain⟨d,Z,ρ,l,C,t,B,R,e,k⟩:=h;unfold jL at e;obtain⟨⟨b,A⟩,u,e⟩:=fG e;cases e;refine⟨d,Z,ρ,l,C,b,_,R,u,λp z w vs v r s c=>?_⟩;obtain⟨q,j,i⟩:=v.mx r s;exact k _ _ _ q i (c.trans j)
noncomputable def lc(C:ab)(c:Nat):Option Xw:=(C[c]?).bind λx=>match x.1 with
 | .l=>some x.2
 |_=>none
theorem oA{c:Nat}{b:Xw}:lc C c=some b↔C[c]?=some (.l,b):=by
 unfold lc;constructor
 .intro h;obtain⟨⟨k,i⟩,e,h⟩:=fE h;cases k<;>cases h;exact e
 .intro h;rw[h];rfl
def gS:=λ{a b c}=>(@oA a b c).mpr
def lF:=λ{a b c}=>(@oA a b c).mp
def dm(C:ab):T->Option Xw
 | .lst b=>some b
 | .cell c=>lc C c
 |_=>none
def jg(C:ab):T->Option Xw
 | .lst b=>some b
 | .cell c=>lc C c
 | .tup b=>some b
 |_=>none
theorem cz.tw{Z:aWe->Prop}{ρ:cn}{a:aWe}{vs:Xy}(h:cz K (mask M Z ρ) a vs):cz K M a vs:=qG.seq h
theorem jc.tw{Z:aWe->Prop}{ρ:cn}{a:aWe}{vs:Xy}(h:jc K (mask M Z ρ) a vs):jc K M a vs:=b6.En qG h
theorem Rel.li{Z:aWe->Prop}{ρ:cn}(R:Rel K d Z ρ l C σ H){t:T}{v:V}{ts:Xw}(h:RT K (mask H Z ρ) ρ t v)(e:dm C t=some ts):
 ∃a vs,v=.ref a/\cz K H a vs/\aB K (mask H Z ρ) ρ ts vs:=by
 cases t with
 |lst p=>
  cases e;unfold RT at h;obtain⟨a,vs,e,q,r⟩:=h;exact⟨a,vs,e,cz.tw q,r⟩
 |cell c=>
  unfold RT at h;obtain⟨a,k,q⟩:=h;obtain⟨b,j,i⟩:=R.pw q (lF e);exact⟨a,b,k,.of j,i⟩
 |_=>cases e
theorem Rel.sq{Z:aWe->Prop}{ρ:cn}(R:Rel K d Z ρ l C σ H){t:T}{v:V}{b:Xw}(h:RT K (mask H Z ρ) ρ t v)(e:jg C t=some b):
 ∃a vs,v=.ref a/\(cz K H a vs\/jc K H a vs)/\aB K (mask H Z ρ) ρ b vs:=by
 cases t with
 |lst p=>
  obtain⟨a,vs,k,j,i⟩:=R.li h (show dm C (.lst p)=some b from e);exact⟨a,vs,k,.inl j,i⟩
 |cell c=>
  obtain⟨a,vs,k,j,i⟩:=R.li h (show dm C (.cell c)=some b from e);exact⟨a,vs,k,.inl j,i⟩
 |tup p=>
  cases e;unfold RT at h;obtain⟨a,vs,e,q,r⟩:=h;exact⟨a,vs,e,.inr (jc.tw (.of q)),r⟩
 |_=>cases e
theorem RT.int_inv{ρ:cn}{i:Int}{v:V}(h:RT K M ρ (.int i) v):v=.int i:=by unfold RT at h;exact h
theorem RT.el{ρ:cn}{b:Bool}{v:V}(h:RT K M ρ (.bl b) v):v=.bl b:=by unfold RT at h;exact h
theorem RT.kk{ρ:cn}{v:V}(h:RT K M ρ .aF v):v=.aF:=by unfold RT at h;exact h
theorem RT.int{M:Hp}{ρ:cn}{i:Int}:RT K M ρ (.int i) (.int i):=by unfold RT;rfl
theorem RT.bl{M:Hp}{ρ:cn}{i:Bool}:RT K M ρ (.bl i) (.bl i):=by unfold RT;rfl
theorem RT.aF{M:Hp}{ρ:cn}:RT K M ρ .aF .aF:=by unfold RT;rfl
noncomputable def gI(f:Int->Int->T):T->T->ab->Option (T×ab)
 | .int i,.int j,C=>some (f i j,C)
 |_,_,_=>none
noncomputable def qg(c:Int->Int->Bool)(f:Int->Int->T):T->T->ab->Option (T×ab)
 | .int i,.int j,C=>if c i j=true then some (f i j,C)else none
 |_,_,_=>none
theorem xp(p:∀i j M ρ,RT K M ρ (f i j) (g i j))(h:∃c b,ib K σ [c,b] [x,y] (gI f c b) H Q):
 ∃i j,x=.int i/\y=.int j/\Q (g i j) H:=by
 obtain⟨c,b,d,Z,ρ,l,C,t,u,R,r,e,k⟩:=h;obtain⟨_,_,z,s,r⟩:=r.cons_inv;cases z;obtain⟨_,_,z,q,r⟩:=r.cons_inv;cases z;unfold gI at e;split at e
 .cases e;exact⟨_,_,s.int_inv,q.int_inv,k _ H ρ R (p _ _ _ _) .refl⟩
 .cases e
theorem Cp{c:Int->Int->Bool}(q:∀i j M ρ,RT K M ρ (f i j) (g i j))(h:∃p b,ib K σ [p,b] [x,y] (qg c f p b) H Q):
 ∃i j,x=.int i/\y=.int j/\c i j=true/\Q (g i j) H:=by
 obtain⟨p,b,d,Z,ρ,l,C,t,w,R,r,e,k⟩:=h;obtain⟨_,_,z,u,r⟩:=r.cons_inv;cases z;obtain⟨_,_,z,s,r⟩:=r.cons_inv;cases z;unfold qg at e;split at e
 .split at e
  .rename_i v;cases e;exact⟨_,_,u.int_inv,s.int_inv,v,k _ H ρ R (q _ _ _ _) .refl⟩
  .cases e
 .cases e
end
inductive Fl where
 |nx|bk|ct|rt (t:T)|ex (c:String)
abbrev FS:=aE->ab->Option (Fl×aE×ab)
abbrev XW:=String->St->Hp->Prop
def C8(K:aL)(W:XW)(D:Ends)(Z:aWe->Prop)(ρ:cn)(d:Fl)(b:St)(H:Hp):Prop:=match d with
 | .nx=>D.nx b H
 | .bk=>D.bk b H
 | .ct=>D.ct b H
 | .rt t=>∀v,RT K (mask H Z ρ) ρ t v->D.rt v H
 | .ex c=>W c b H
noncomputable def ep(K:aL)(W:XW)(F:FS):TS:=λD i H=>∃b Z ρ c C d g h,Rel K b Z ρ c C i H/\F c C=some (d,g,h)/\
 ∀f H' ae,Rel K b Z ae g h f H'->SStep Z H H' ρ ae->C8 K W D Z ae d f H'
abbrev FG:=T->ab->aE->Option aE
def nj(K:aL)(g:FG):TG:=λv h H Q=>∃b Z ρ c C t f,Rel K b Z ρ c C h H/\RT K (mask H Z ρ) ρ t v/\g t C c=some f/\
 ∀d,Rel K b Z ρ f C d H->Q d H
noncomputable def k7:FS:=λb C=>some (.nx,b,C)
noncomputable def D6:FS:=λ_ _=>none
noncomputable def gF(F G:FS):FS:=λb C=>(F b C).bind λr=>match r with
 | (.nx,c,d)=>G c d
 |r=>some r
noncomputable def gV(c:FB)(F G:FS):FS:=λb C=>(c b C).bind λp=>if p.1=true then F b p.2 else G b p.2
def jG(f:FE):FS:=λb C=>(f b C).map λp=>(.rt p.1,b,p.2)
noncomputable def oR(f:FE):FS:=λb C=>(f b C).map λp=>(.nx,b,p.2)
noncomputable def gW(f:FE)(g:FG):FS:=λb C=>(f b C).bind λp=>(g p.1 p.2 b).map λc=>(.nx,c,p.2)
noncomputable def gN(i:Nat):FG:=λt _ b=>some (b.set i (some t))
noncomputable def cu:XG->Xw->aE->aE
 |i::is,t::ts,b=>cu is ts (b.set i (some t))
 |_,_,b=>b
def gU(is:XG):FG:=λt C c=>(jg C t).bind λb=>if b.length=is.length then some (cu is b c)else none
section
variable {K:aL}{W:XW}{σ:St}{H:Hp}{D:Ends}
variable{F G:FS}{c:FB}{f:FE}{g:FG}{aG A:Hp}{d:aE}{C:ab}{B:cn}{n:Nat}
theorem Ir(h:ep K W k7 D σ H):Fo D σ H:=by
 obtain⟨aG,Z,ρ,d,C,b,i,j,R,e,k⟩:=h;cases e;exact k σ H ρ R .refl
theorem SS(h:ep K W D6 D σ H):False:=by
 obtain⟨aG,Z,ρ,d,C,b,i,j,R,e,k⟩:=h;cases e
theorem Oj(h:ep K W (gF F G) D σ H):By (ep K W F) (ep K W G) D σ H:=by
 obtain⟨aG,Z,ρ,d,C,q,v,x,R,e,k⟩:=h;unfold gF at e;obtain⟨⟨f1,l,m⟩,r,e⟩:=fE e;refine⟨aG,Z,ρ,d,C,f1,l,m,R,r,λj A B i b=>?_⟩;cases f1 with
 |nx=>exact⟨aG,Z,B,l,m,q,v,x,i,e,λs w u R2 p=>k s w u R2 (b.trans p)⟩
 |bk=>cases e;exact k j A B i b
 |ct=>cases e;exact k j A B i b
 |rt t=>cases e;exact k j A B i b
 |ex c=>cases e;exact k j A B i b
theorem Np(h:ep K W (gV c F G) D σ H):BC (jo K c) (ep K W F) (ep K W G) D σ H:=by
 obtain⟨aG,Z,ρ,d,C,r,s,u,R,e,k⟩:=h;unfold gV at e;obtain⟨⟨b,p⟩,v,e⟩:=fE e;refine⟨aG,Z,ρ,d,C,b,p,R,v,λA B t q=>?_⟩;cases b with
 |true=>
  rw[aWc rfl]at e|-;exact⟨aG,Z,B,d,p,r,s,u,t,e,λj m l R2 i=>k j m l R2 (q.ss.trans i)⟩
 |false=>
  rw[aWa (by simp)]at e|-;exact⟨aG,Z,B,d,p,r,s,u,t,e,λj m l R2 i=>k j m l R2 (q.ss.trans i)⟩
theorem On(h:ep K W (jG f) D σ H):Bz (bg K f) D σ H:=by
 obtain⟨aG,Z,ρ,d,C,m,p,r,R,e,k⟩:=h;unfold jG at e;obtain⟨⟨t,q⟩,j,e⟩:=fG e;cases e;exact⟨aG,Z,ρ,d,C,t,_,R,j,λv A B l i b=>k σ A B l b.ss v i⟩
theorem OI(h:ep K W (oR f) D σ H):FT (bg K f) D σ H:=by
 obtain⟨aG,Z,ρ,d,C,m,p,r,R,e,k⟩:=h;unfold oR at e;obtain⟨⟨t,q⟩,i,e⟩:=fG e;cases e;exact⟨aG,Z,ρ,d,C,t,_,R,i,λv A B j l b=>k σ A B j b.ss⟩
theorem CB(h:ep K W (gW f g) D σ H):Ar (bg K f) (nj K g) D σ H:=by
 obtain⟨aG,Z,ρ,d,C,r,u,x,R,e,k⟩:=h;unfold gW at e;obtain⟨⟨t,w⟩,l,e⟩:=fE e;obtain⟨s,j,e⟩:=fG e;cases e;refine⟨aG,Z,ρ,d,C,t,_,R,l,λv A B p i b=>?_⟩;exact⟨aG,Z,B,d,_,t,_,p,i,j,λm q=>k m A B q b.ss⟩
theorem z5{i:Nat}{v:V}{Q:St->Hp->Prop}(h:nj K (gN i) v σ H Q):vL i v σ H Q:=by
 obtain⟨aG,Z,ρ,d,C,t,b,R,r,e,k⟩:=h;cases e;exact k _ (R.set r)
theorem Rel.cu{aG:Hp}{Z:aWe->Prop}{ρ:cn}{C:ab}:∀{is:XG}{ts:Xw}{vs:Xy}{d:aE}{σ:St},Rel K aG Z ρ d C σ H->aB K (mask H Z ρ) ρ ts vs->ts.length=is.length->∀{Q:St->Hp->Prop},
 (∀h,Rel K aG Z ρ (TL.cu is ts d) C h H->Q h H)->(is.foldr (λi g=>DG (vL i) g) Dv) vs σ H Q
 | [],[],vs,d,σ,R,r,_,Q,k=>⟨r.nil_inv,k σ R⟩
 |i::is,t::ts,vs,d,σ,R,r,b,Q,k=>by
  obtain⟨v,j,rfl,m,l⟩:=r.cons_inv;exact⟨v,j,rfl,Rel.cu (is:=is) (ts:=ts) (R.set m) l (by simpa using b) k⟩
 | [],t::ts,_,_,_,_,_,b,_,_=>by simp at b
 |i::is,[],_,_,_,_,_,b,_,_=>by simp at b
open Classical in
def lQ(P:ab->Prop)(g:FG)(F:FS):Xw->FS
 | [],d,C=>some (.nx,d,C)
 |t::i,d,C=>(g t C d).bind λj=>(F j C).bind λr=>match r with
  | (.nx,h,b)=>if P b then lQ P g F i h b else none
  | (.ct,h,b)=>if P b then lQ P g F i h b else none
  | (.bk,h,b)=>some (.nx,h,b)
  | (.rt v,h,b)=>some (.rt v,h,b)
  | (.ex c,h,b)=>some (.ex c,h,b)
def stays(t:T)(b:Xw)(C:ab):Prop:=match t with
 | .cell c=>lc C c=some b
 |_=>True
def oN(f:FE)(g:FG)(F:FS):FS:=λd C=>(f d C).bind λp=>(dm p.2 p.1).bind λb=>lQ (stays p.1 b) g F b d p.2
theorem Rel.same{aG:Hp}{Z:aWe->Prop}{ρ:cn}{d:aE}{C:ab}{H':Hp}(R:Rel K aG Z ρ d C σ H)(s:b6 H H'):Rel K aG Z ρ d C σ H'/\Step H H' ρ ρ:=by
 have st:Step H H' ρ ρ:=.of0 s;refine⟨⟨R.old.trans s,R.b4,R.nd,λa z=>(R.zd a z).same s,λi t e=>?_,λc a e=>?_,R.len,R.rA⟩,st⟩
 .obtain⟨v,h,b⟩:=R.loc i t e;exact⟨v,h,b.step st⟩
 .obtain⟨j,vs,ob,h,b,k,l⟩:=R.jq c a e;exact⟨j,vs,ob,h,s _ _ b,k,l.step st⟩
structure AB(K:aL)(J:It)(Z:aWe->Prop)(A:Hp)(B:cn)(ts:Xw)(P:ab->Prop):Prop where
 go:∀(i:Nat)(t:T)(aG:Hp)(Z':aWe->Prop)(ae:cn)(d:aE)(C:ab)(σ:St)(H:Hp),ts[i]?=some t->Rel K aG Z' ae d C σ H->b6 (mask A Z B) (mask H Z' ae)->
  (∀(c:Nat)(a:aWe),B[c]?=some a->ae[c]?=some a)->(P C\/b6 A H)->(∀a ob u,A a=some (.ft ob u)->H a=some (.ft ob u))->J.go i H/\∀x H',J.yx i H x H'->b6 H H'/\RT K (mask H' Z' ae) ae t x
 stop:∀(aG:Hp)(Z':aWe->Prop)(ae:cn)(d:aE)(C:ab)(σ:St)(H:Hp),Rel K aG Z' ae d C σ H->b6 (mask A Z B) (mask H Z' ae)->
  (∀(c:Nat)(a:aWe),B[c]?=some a->ae[c]?=some a)->(P C\/b6 A H)->(∀a ob u,A a=some (.ft ob u)->H a=some (.ft ob u))->J.stop ts.length H
theorem yI{J:It}{Z:aWe->Prop}{ρ:cn}{Q:aE}{U:ab}{P:ab->Prop}{h:Xw}{O:Fl}{du:St}
 (R:Rel K aG Z ρ d C du A)(hP:P C)(e:lQ P g F h d C=some (O,Q,U))(w:AB K J Z A ρ h P)
 (k:∀s H' ae,Rel K aG Z ae Q U s H'->SStep Z A H' ρ ae->C8 K W D Z ae O s H'):
 ∃V:Nat->Nat->St->Hp->Prop,(∃m,V 0 m du A)/\∀i m σ H,V i m σ H->
  (J.stop i H/\D.nx σ H)\/(J.go i H/\∃N:St->Hp->Prop,(∀s H',N s H'->∃m',m'<m/\V (i+1) m' s H')/\∀x H',J.yx i H x H'->nj K g x σ H' λbr H2=>ep K W F {D with nx:=N,ct:=N,bk:=D.nx} br H2):=by
 refine⟨λi m σ H=>∃ae M z rest,m=rest.length/\h.drop i=rest/\i<=h.length/\Rel K aG Z ae M z σ H/\SStep Z A H ρ ae/\P z/\lQ P g F rest M z=some (O,Q,U),
  ⟨h.length,ρ,d,C,h,rfl,rfl,dF _,R,.refl,hP,e⟩,?_⟩
 rintro i m σ H ⟨ae,M,z,rest,rfl,Y,hi,S,q,og,b⟩;cases rest with
 |nil=>
  have dw:i=h.length:=by
   have:h.length<=i:=by simpa using Y
   exact X2 hi this
  subst dw;cases b;exact .inl ⟨w.stop _ _ _ _ _ _ _ S (q.tw _) q.idx (.inl og) q.fz,k σ H ae S q⟩
 |cons t rest=>
  have ht:h[i]?=some t:=by
   have:=congrArg (λl=>l[0]?) Y;simpa using this
  have aw:i<h.length:=(fK ht).1;have jy:h.drop (i+1)=rest:=by
   have:=congrArg aUH Y;simpa using this
  obtain⟨g1,g2⟩:=w.go i t _ _ ae M z σ H ht S (q.tw _) q.idx (.inl og) q.fz;unfold lQ at b;obtain⟨al,eg,b⟩:=fE b;obtain⟨⟨f3,r,p⟩,eF,b⟩:=fE b;refine .inr ⟨g1,λs H'=>∃j r p,Rel K aG Z j r p s H'/\SStep Z A H' ρ j/\P p/\lQ P g F rest r p=some (O,Q,U),?_,?_⟩
  .rintro s H' ⟨j,r,p,u,X,I,e3⟩;exact⟨rest.length,by simp,j,r,p,rest,rfl,jy,aw,u,X,I,e3⟩
  .intro x H' y;obtain⟨sm,rx⟩:=g2 x H' y;obtain⟨wt,av⟩:=S.same sm;refine⟨aG,Z,ae,M,z,t,al,wt,rx,eg,λbr R2=>?_⟩;refine⟨aG,Z,ae,al,z,f3,r,p,R2,eF,λE H3 j u X=>?_⟩;have L:=(q.trans av.ss).trans X;cases f3 with
   |nx=>
    dsimp only at b;split at b
    .rename_i I;exact⟨j,r,p,u,L,I,b⟩
    .cases b
   |ct=>
    dsimp only at b;split at b
    .rename_i I;exact⟨j,r,p,u,L,I,b⟩
    .cases b
   |bk=>
    cases b;exact k E H3 j u L
   |rt v=>
    cases b;exact k E H3 j u L
   |ex c=>
    cases b;exact k E H3 j u L
theorem rV{t:T}{b:Xw}(e:dm C t=some b):stays t b C:=by
 cases t with
 |cell c=>exact e
 |_=>trivial
theorem Ls{Z:aWe->Prop}{σ:St}{t:T}{m:Xw}{a:aWe}(Q:Rel K aG Z B d C σ A)(I:RT K (mask A Z B) B t (.ref a))(w:dm C t=some m):
 AB K (G9 K a) Z A B m (stays t m):=by
 have h:∀{aG:Hp}{q:aWe->Prop}{ae:cn}{u:aE}{r:ab}{σ:St}{H:Hp},Rel K aG q ae u r σ H->b6 (mask A Z B) (mask H q ae)->(∀(c:Nat)(a:aWe),B[c]?=some a->ae[c]?=some a)->(stays t m r\/b6 A H)->
  ∃b,cz K H a b/\aB K (mask H q ae) ae m b:=by
  intro aG q ae u r σ H s sm p j;rcases j with j|j
  .have N:=I.mono sm p;have O:dm r t=some m:=by
    cases t with
    |cell c=>exact j
    |lst R=>exact w
    |_=>cases w
   obtain⟨P,b,v,k,l⟩:=s.li N O;cases v;exact⟨b,k,l⟩
  .obtain⟨P,b,v,k,l⟩:=Q.li I w;cases v;exact⟨b,j.seq k,l.mono sm p⟩
 refine⟨λi S aG q ae u r σ H M s sm p j _=>?_,λaG q ae u r σ H s sm p j _=>?_⟩
 .obtain⟨b,k,l⟩:=h s sm p j;obtain⟨x,e,J⟩:=l.get M;refine⟨⟨b,x,k,e⟩,λy H' ⟨L,z⟩=>?_⟩;subst L;have:=z b k;rw[e]at this;cases this;exact⟨.refl _,J⟩
 .obtain⟨b,k,l⟩:=h s sm p j;exact⟨b,k,by rw[l.length];exact bD _⟩
noncomputable def v5(lo:Int)(n:Nat):Xw:=(bH n).map fun(i:Nat)=>T.int (lo+(i:Int))
theorem v9{Z:aWe->Prop}{lo:Int}:AB K (CY lo n) Z A B (v5 lo n) (λ_=>True):=by
 refine⟨λi t aG q ae p s σ H b r sm j m _=>?_,λaG q ae p s σ H r sm j m _=>?_⟩
 .unfold v5 at b;have h:i<n:=by
   have:=(fK b).1;simpa using this
  rw[bI,eI h]at b;cases b;refine⟨h,λx H' ⟨l,k⟩=>?_⟩;subst l;rw[k];exact⟨.refl _,.int⟩
 .show n<=_;simp[v5]
theorem N9(h:ep K W (oN f g F) D σ H):Co (FL K (bg K f)) (nj K g) (ep K W F) D σ H:=by
 obtain⟨aG,Z,ρ,d,C,z,I,J,R,e,k⟩:=h;unfold oN at e;obtain⟨⟨t,x⟩,s,e⟩:=fE e;obtain⟨y,b,e⟩:=fE e;refine⟨aG,Z,ρ,d,C,t,x,R,s,λv A B i j l=>?_⟩;obtain⟨a,vs,p,q,r⟩:=i.li j b;subst p;exact⟨a,rfl,⟨vs,q⟩,yI i (rV b) e (Ls i j b) λu H' ae w m=>k u H' ae w (l.ss.trans m)⟩
def yc(lo:Int)(n:Nat)(g:FG)(F:FS):FS:=lQ (λ_=>True) g F (v5 lo n)
def m3(f:FE)(g:FG)(F:FS):FS:=λd C=>(f d C).bind λp=>match p.1 with
 | .int j=>if -(2^62)<=j/\j<2^62 then yc 0 j.toNat g F d p.2 else none
 |_=>none
def qL(f1 f2:FE)(g:FG)(F:FS):FS:=λd C=>(f1 d C).bind λp=>(f2 d p.2).bind λq=>match p.1,q.1 with
 | .int i,.int j=>if -(2^62)<=i/\i<2^62/\ -(2^62)<=j/\j<2^62 then yc i (j - i).toNat g F d q.2 else none
 |_,_=>none
theorem R6(h:ep K W (m3 f g F) D σ H):Co (FK (jd K (fN f f7))) (nj K g) (ep K W F) D σ H:=by
 obtain⟨aG,Z,ρ,d,C,y,z,I,R,e,k⟩:=h;unfold m3 at e;obtain⟨⟨t,x⟩,q,e⟩:=fE e;refine⟨aG,Z,ρ,d,C,[t],x,R,by simp[fN,f7,q],λvs A B u p i=>?_⟩;obtain⟨v,r,rfl,m,l⟩:=p.cons_inv;rw[l.nil_inv];dsimp only at e;split at e
 .split at e
  .rename_i b;exact⟨_,by rw[m.int_inv],b.1,b.2,yI (P:=λ_=>True) u trivial e v9 λs H' ae w j=>k s H' ae w (i.ss.trans j)⟩
  .cases e
 .cases e
theorem Rn{f1 f2:FE}(h:ep K W (qL f1 f2 g F) D σ H):Co (xv (jd K (fN f1 (fN f2 f7)))) (nj K g) (ep K W F) D σ H:=by
 obtain⟨aG,Z,ρ,d,C,N,O,Q,R,e,k⟩:=h;unfold qL at e;obtain⟨⟨t,P⟩,x,e⟩:=fE e;obtain⟨⟨u,J⟩,w,e⟩:=fE e;refine⟨aG,Z,ρ,d,C,[t,u],J,R,by simp[fN,f7,x,w],λvs A B z s b=>?_⟩;obtain⟨v,r,rfl,p,m⟩:=s.cons_inv;obtain⟨L,M,rfl,l,j⟩:=m.cons_inv;rw[j.nil_inv];dsimp only at e;split at e
 .split at e
  .rename_i q;exact⟨_,_,by rw[p.int_inv,l.int_inv],q,yI (P:=λ_=>True) z trivial e v9 λy H' ae I i=>k y H' ae I (b.ss.trans i)⟩
  .cases e
 .cases e
def nF(c:FB)(F:FS):Nat->FS
 |0,_,_=>none
 |n+1,d,C=>(c d C).bind λp=>if p.1=true then(F d p.2).bind λr=>match r with
  | (.nx,b,h)=>nF c F n b h
  | (.ct,b,h)=>nF c F n b h
  | (.bk,b,h)=>some (.nx,b,h)
  | (.rt v,b,h)=>some (.rt v,b,h)
  | (.ex v,b,h)=>some (.ex v,b,h)
  else some (.nx,d,p.2)
theorem SM(h:ep K W (nF c F n) D σ H):qs (jo K c) (ep K W F) D σ H:=by
 obtain⟨aG,Z,ρ,d,C,J,P,S,R,e,k⟩:=h;refine⟨λm y A=>∃B t w,Rel K aG Z B t w y A/\SStep Z H A ρ B/\nF c F m t w=some (J,P,S),⟨n,ρ,d,C,R,.refl,e⟩,?_⟩;rintro m y A ⟨B,t,w,Y,l,i⟩;cases m with
 |zero=>cases i
 |succ m=>
  unfold nF at i;obtain⟨⟨b,Q⟩,X,i⟩:=fE i;refine⟨aG,Z,B,t,w,b,Q,Y,X,λE N R2 j=>?_⟩;cases b with
  |false=>
   rw[aWa (by simp)]at i|-;cases i;exact k y E N R2 (l.trans j.ss)
  |true=>
   rw[aWc rfl]at i|-;obtain⟨⟨L,p,q⟩,U,i⟩:=fE i;refine⟨λO H'=>∃M p q,Rel K aG Z M p q O H'/\SStep Z H H' ρ M/\nF c F m p q=some (J,P,S),λO H' z=>⟨m,bX _,z⟩,?_⟩;refine⟨aG,Z,N,t,Q,L,p,q,R2,U,λx I s u r=>?_⟩;cases L with
   |nx=>exact⟨s,p,q,u,(l.trans j.ss).trans r,i⟩
   |ct=>exact⟨s,p,q,u,(l.trans j.ss).trans r,i⟩
   |bk=>cases i;exact k x I s u ((l.trans j.ss).trans r)
   |rt v=>cases i;exact k x I s u ((l.trans j.ss).trans r)
   |ex c=>cases i;exact k x I s u ((l.trans j.ss).trans r)
end
section
variable {K:aL}{m:St}{H:Hp}{Q:VK}
variable{M:Hp}{x y:V}{f s A B:FE}{xs:Xy}{c d:FB}{D:Ends}
theorem IR{ρ:cn}{ts:Xw}{vs:Xy}{i:Int}{t:T}(h:aB K M ρ ts vs)(e:dc ts i=some t):∃v,dc vs i=some v/\RT K M ρ t v:=by
 unfold dc at e|-;rw[h.length];cases q:jz ts.length i with
 |none=>rw[q]at e;cases e
 |some j=>
  rw[q]at e;exact h.get e
def AI(h g:T)(C:ab):Option (T×ab):=match g with
 | .int i=>(jg C h).bind λb=>(dc b i).map λt=>(t,C)
 |_=>none
theorem Nl(h:∃g b,ib K m [g,b] [x,y] (AI g b) H Q):Hl K x y H Q:=by
 obtain⟨g,b,n,Z,ρ,I,C,t,L,R,r,e,k⟩:=h;obtain⟨_,_,z,p,r⟩:=r.cons_inv;cases z;obtain⟨_,_,z,i,r⟩:=r.cons_inv;cases z;unfold AI at e;split at e
 .obtain⟨J,G,e⟩:=fE e;obtain⟨u,F,e⟩:=fG e;cases e;obtain⟨a,vs,l,q,rr⟩:=R.sq p G;obtain⟨v,j,w⟩:=IR rr F;have fin:=k v H ρ R w .refl;rcases q with q|q
  .exact .inl ⟨a,vs,_,v,l,i.int_inv,q,j,fin⟩
  .exact .inr (.inl ⟨a,vs,_,v,l,i.int_inv,q,j,fin⟩)
 .cases e
abbrev FO:=aE->ab->Option (Option Int×ab)
noncomputable def oG:FO:=λ_ C=>some (none,C)
noncomputable def qC(f:FE):FO:=λb C=>(f b C).bind λp=>match p.1 with
 | .int i=>some (some i,p.2)
 |_=>none
noncomputable def zg(K:aL)(f:FO):TO:=λm H Q=>∃b Z ρ g C o h,Rel K b Z ρ g C m H/\f g C=some (o,h)/\
 ∀H' ae,Rel K b Z ae g h m H'->Step H H' ρ ae->Q o H'
theorem UM{Q:Option Int->Hp->Prop}(h:zg K oG m H Q):nq m H Q:=by
 obtain⟨b,Z,ρ,g,C,o,i,R,e,k⟩:=h;cases e;exact k H ρ R .refl
theorem Pf{Q:Option Int->Hp->Prop}(h:zg K (qC f) m H Q):wh (bg K f) m H Q:=by
 obtain⟨b,Z,ρ,g,C,o,u,R,e,k⟩:=h;unfold qC at e;obtain⟨⟨t,r⟩,l,e⟩:=fE e;dsimp only at e;split at e
 .cases e;exact⟨b,Z,ρ,g,C,_,_,R,l,λv q n p j i=>⟨_,j.int_inv,k q n p i⟩⟩
 .cases e
def Aw(xs:Xw)(lo b:Option Int):Xw:=(xs.drop (HT.jb xs.length 0 lo)).take (HT.jb xs.length xs.length b - HT.jb xs.length 0 lo)
theorem aB.cut{ρ:cn}{b:Xw}{vs:Xy}(h:aB K M ρ b vs)(lo g:Option Int):aB K M ρ (Aw b lo g) (AZ vs lo g):=by
 unfold Aw AZ;rw[h.length];exact(h.drop _).take _
def sx(f:FE)(lo h:FO):FN:=λb C=>(f b C).bind λp=>(lo b p.2).bind λq=>(h b q.2).bind λr=>(dm r.2 p.1).map λg=>(Aw g q.1 r.1,r.2)
theorem Nh{lo n:FO}(h:kv K (sx f lo n) m H Q):Df (BK K) (bg K f) (zg K lo) (zg K n) m H Q:=by
 obtain⟨b,Z,ρ,g,C,ts,C',R,e,k⟩:=h;unfold sx at e;obtain⟨⟨t,F⟩,S,e⟩:=fE e;obtain⟨⟨l,z⟩,P,e⟩:=fE e;obtain⟨⟨u,C3⟩,O,e⟩:=fE e;obtain⟨us,N,e⟩:=fG e;cases e;refine⟨b,Z,ρ,g,C,t,F,R,S,λv H1 Y E J G=>?_⟩;refine⟨b,Z,Y,g,F,l,z,E,P,λH2 X R2 j=>?_⟩;refine⟨b,Z,X,g,z,u,_,R2,O,λH3 U w i=>?_⟩;obtain⟨a,vs,L,q,r⟩:=w.li ((J.step j).step i) N;exact⟨a,vs,L,q,λp I=>k p H3 U _ w I (r.cut l u) ((G.trans j).trans i)⟩
def xo(K:aL):R2:=λx y H Q=>∃l b xs zs,x=.ref l/\y=.ref b/\cz K H l xs/\cz K H b zs/\xs.length+zs.length<=lim/\∀p,H p=none->Q (.ref p) (upd H p (.lst (xs++zs)))
def AU(h g:T)(C:ab):Option Xw:=(dm C h).bind λb=>(dm C g).bind λus=>if b.length+us.length<=lim then some (b++us)else none
theorem NN(h:∃i g,zf K m [i,g] [x,y] (AU i g) H Q):xo K x y H Q:=by
 obtain⟨i,g,n,Z,ρ,O,C,S,R,r,e,k⟩:=h;obtain⟨_,_,z,u,r⟩:=r.cons_inv;cases z;obtain⟨_,_,z,t,r⟩:=r.cons_inv;cases z;unfold AU at e;obtain⟨U,N,e⟩:=fE e;obtain⟨P,L,e⟩:=fE e;split at e
 .rename_i G;cases e;obtain⟨a,vs,J,w,l⟩:=R.li u N;obtain⟨b,q,I,v,j⟩:=R.li t L;exact⟨a,b,vs,q,J,I,w,v,by rw[l.length,j.length];exact G,λp F=>k p H ρ _ R F (l.append j) .refl⟩
 .cases e
def iR(s:FN):FN:=uZ s λb _=>if b.length<=lim then some b else none
theorem Qw{s:FN}(n:lim<=sizeLine)(h:kv K (iR s) m H Q):BB (jd K s) m H Q:=by
 obtain⟨b,Z,ρ,i,C,j,F,R,e,k⟩:=Jb h;refine⟨b,Z,ρ,i,C,j,F,R,e,λvs g v w u l=>?_⟩;obtain⟨I,J,N,ae,L,O,G,z,r,e,k⟩:=k vs g v w u l;split at e
 .rename_i t;cases e;exact⟨by rw[r.length];exact bB t n,λp q=>k p g ae _ z q r .refl⟩
 .cases e
def DP(b:Xw)(C:ab):Option Xw:=match b with
 | [t]=>jg C t
 |_=>none
theorem PF(h:∃g,zf K m g xs (DP g) H Q):∃p b,xs=[.ref p]/\(cz K H p b\/jc K H p b)/\∀l,H l=none->Q (.ref l) (upd H l (.lst b)):=by
 obtain⟨g,i,Z,ρ,w,C,z,R,r,e,k⟩:=h;unfold DP at e;split at e
 .obtain⟨v,_,rfl,n,r⟩:=r.cons_inv;rw[r.nil_inv];obtain⟨a,vs,u,q,j⟩:=R.sq n e;exact⟨a,vs,by rw[u],q,λp t=>k p H ρ _ R t j .refl⟩
 .cases e
def AX(g:Xw)(C:ab):Option (T×ab):=match g with
 | [t]=>(jg C t).map λb=>(.int b.length,C)
 |_=>none
theorem OG(h:∃g,ib K m g xs (AX g) H Q):∃p b,xs=[.ref p]/\(cz K H p b\/jc K H p b)/\Q (.int b.length) H:=by
 obtain⟨g,i,Z,ρ,w,C,t,F,R,r,e,k⟩:=h;unfold AX at e;split at e
 .obtain⟨v,_,rfl,l,r⟩:=r.cons_inv;rw[r.nil_inv];obtain⟨z,u,e⟩:=fG e;cases e;obtain⟨a,vs,q,n,j⟩:=R.sq l u;exact⟨a,vs,by rw[q],n,k _ H ρ R (by rw[j.length];exact .int) .refl⟩
 .cases e
noncomputable def gy:Xw->Option XE
 | []=>some []
 | .int i::b=>(gy b).map (i:: ·)
 |_::_=>none
noncomputable def mw:Xw->Option (List Bool)
 | []=>some []
 | .bl i::b=>(mw b).map (i:: ·)
 |_::_=>none
theorem LS{ρ:cn}:∀{b:Xw}{vs:Xy}{g:XE},aB K M ρ b vs->gy b=some g->vs=g.map V.int:=by
 intro b;induction b with
 |nil=>intro _ _ r e;cases e;rw[r.nil_inv];rfl
 |cons t b ih=>
  intro _ _ r e;cases t with
  |int i=>
   obtain⟨v,vs,rfl,h,r⟩:=r.cons_inv;obtain⟨g,j,rfl⟩:=fG e;rw[aK,h.int_inv,ih r j]
  |_=>cases e
theorem Ur{ρ:cn}:∀{b:Xw}{vs:Xy}{g:List Bool},aB K M ρ b vs->mw b=some g->vs=g.map V.bl:=by
 intro b;induction b with
 |nil=>intro _ _ r e;cases e;rw[r.nil_inv];rfl
 |cons t b ih=>
  intro _ _ r e;cases t with
  |bl i=>
   obtain⟨v,vs,rfl,h,r⟩:=r.cons_inv;obtain⟨g,j,rfl⟩:=fG e;rw[aK,h.el,ih r j]
  |_=>cases e
theorem tH(ns:XE):gy (ns.map T.int)=some ns:=by
 induction ns with
 |nil=>rfl
 |cons n ns ih=>simp[gy,ih]
theorem UO(b:List Bool):mw (b.map T.bl)=some b:=by
 induction b with
 |nil=>rfl
 |cons n b ih=>simp[mw,ih]
def zE(c:XE->Bool)(f:XE->Int)(h:Xw)(C:ab):Option (T×ab):=match h with
 | [t]=>(dm C t).bind λg=>(gy g).bind λb=>if c b=true then some (.int (f b),C)else none
 |_=>none
def CH(K:aL)(c:XE->Bool)(f:XE->Int):Xy->Hp->VK->Prop:=λxs H Q=>∃p b,xs=[.ref p]/\cz K H p (b.map V.int)/\c b=true/\Q (.int (f b)) H
theorem Ge{c:XE->Bool}{f:XE->Int}(h:∃b,ib K m b xs (zE c f b) H Q):CH K c f xs H Q:=by
 obtain⟨b,g,Z,ρ,z,C,t,G,R,r,e,k⟩:=h;unfold zE at e;split at e
 .obtain⟨v,_,rfl,j,r⟩:=r.cons_inv;rw[r.nil_inv];obtain⟨F,w,e⟩:=fE e;obtain⟨n,u,e⟩:=fE e;split at e
  .rename_i p;cases e;obtain⟨a,vs,q,l,i⟩:=R.li j w;have:=LS i u;subst this;exact⟨a,n,by rw[q],l,p,k _ H ρ R .int .refl⟩
  .cases e
 .cases e
def Cq(f:List Bool->Bool)(g:Xw)(C:ab):Option (T×ab):=match g with
 | [t]=>(dm C t).bind λb=>(mw b).map λh=>(.bl (f h),C)
 |_=>none
def BN(K:aL)(f:List Bool->Bool):Xy->Hp->VK->Prop:=λxs H Q=>∃p b,xs=[.ref p]/\cz K H p (b.map V.bl)/\Q (.bl (f b)) H
theorem NC{f:List Bool->Bool}(h:∃b,ib K m b xs (Cq f b) H Q):BN K f xs H Q:=by
 obtain⟨b,g,Z,ρ,w,C,t,F,R,r,e,k⟩:=h;unfold Cq at e;split at e
 .obtain⟨v,_,rfl,j,r⟩:=r.cons_inv;rw[r.nil_inv];obtain⟨z,u,e⟩:=fE e;obtain⟨n,q,e⟩:=fG e;cases e;obtain⟨a,vs,p,l,i⟩:=R.li j u;have:=Ur i q;subst this;exact⟨a,n,by rw[p],l,k _ H ρ R .bl .refl⟩
 .cases e
noncomputable def Ag(f:Int->Int->Int)(b:Xw)(C:ab):Option (T×ab):=match b with
 | [.int i,.int j]=>some (.int (f i j),C)
 |_=>none
theorem HC{f:Int->Int->Int}(h:∃b,ib K m b xs (Ag f b) H Q):∃i j,xs=[.int i,.int j]/\Q (.int (f i j)) H:=by
 obtain⟨b,g,Z,ρ,p,C,t,q,R,r,e,k⟩:=h;unfold Ag at e;split at e
 .obtain⟨v,_,rfl,n,r⟩:=r.cons_inv;obtain⟨w,_,rfl,l,r⟩:=r.cons_inv;rw[r.nil_inv,n.int_inv,l.int_inv];cases e;exact⟨_,_,rfl,k _ H ρ R .int .refl⟩
 .cases e
def E0(C:ab):T->Option Bool
 | .aF=>some false
 | .bl b=>some b
 | .int i=>some (i !=0)
 | .lst g=>some (!g.isEmpty)
 | .tup g=>some (!g.isEmpty)
 | .cell c=>(lc C c).map λg=> !g.isEmpty
 | .str _=>none
 | .exc _=>none
def tT(f:FE):FB:=λg C=>(f g C).bind λp=>(E0 p.2 p.1).map λb=>(b,p.2)
theorem uM{ρ:cn}{b:Xw}{vs:Xy}(h:aB K M ρ b vs):vs.isEmpty=b.isEmpty:=by
 cases b with
 |nil=>rw[h.nil_inv];rfl
 |cons t b=>obtain⟨v,r,rfl,_⟩:=h.cons_inv;rfl
theorem NJ{Q:Bool->Hp->Prop}(h:jo K (tT f) m H Q):bg K f m H λx u=>∃k,Fe K x u k/\Q k u:=by
 obtain⟨q,Z,ρ,z,C,b,O,R,e,k⟩:=h;unfold tT at e;obtain⟨⟨t,N⟩,I,e⟩:=fE e;obtain⟨L,g,e⟩:=fG e;cases e;refine⟨q,Z,ρ,z,C,t,_,R,I,λv u J r j F=>⟨b,?_,k u J r F⟩⟩;dsimp only at g r;cases t with
 |aF=>rw[j.kk];cases g;rfl
 |bl c=>rw[j.el];cases g;rfl
 |int i=>rw[j.int_inv];cases g;rfl
 |str x=>cases g
 |exc x=>cases g
 |lst w=>
  obtain⟨a,vs,p,n,l⟩:=r.li j rfl;rw[p];cases g;exact .inl ⟨vs,n,by rw[uM l]⟩
 |tup w=>
  unfold RT at j;obtain⟨a,vs,p,n,l⟩:=j;rw[p];cases g;exact .inr (.inl ⟨vs,jc.tw (.of n),by rw[uM l]⟩)
 |cell c=>
  obtain⟨w,G,g⟩:=fG g;obtain⟨a,vs,p,n,l⟩:=r.li j G;rw[p];cases g;exact .inl ⟨vs,n,by rw[uM l]⟩
noncomputable def kB(f:FE):FB:=λg C=>(f g C).bind λp=>match p.1 with
 | .bl b=>some (b,p.2)
 |_=>none
theorem Ft{i:TE}{Q:Bool->Hp->Prop}(n:∀m H Q,bg K f m H Q->i m H Q)(h:jo K (kB f) m H Q):wd i m H Q:=by
 obtain⟨g,Z,ρ,j,C,b,F,R,e,k⟩:=h;unfold kB at e;obtain⟨⟨t,z⟩,q,e⟩:=fE e;dsimp only at e;split at e
 .cases e;exact n _ _ _ ⟨g,Z,ρ,j,C,_,_,R,q,λv w r u p l=>⟨_,p.el,k w r u l⟩⟩
 .cases e
noncomputable def t8(c d:FB):FB:=λb C=>(c b C).bind λp=>if p.1=true then d b p.2 else some (false,p.2)
noncomputable def ve(c d:FB):FB:=λb C=>(c b C).bind λp=>if p.1=true then some (true,p.2)else d b p.2
noncomputable def tV(c:FB):FB:=λb C=>(c b C).map λp=>(!p.1,p.2)
theorem OU{Q:Bool->Hp->Prop}(h:jo K (t8 c d) m H Q):BF (jo K c) (jo K d) m H Q:=by
 obtain⟨g,Z,ρ,i,C,b,z,R,e,k⟩:=h;unfold t8 at e;obtain⟨⟨l,q⟩,t,e⟩:=fE e;refine⟨g,Z,ρ,i,C,l,q,R,t,λw n p j=>?_⟩;cases l with
 |true=>
  rw[aWc rfl]at e|-;exact⟨g,Z,n,i,q,b,z,p,e,λv u R2 r=>k v u R2 (j.trans r)⟩
 |false=>
  rw[aWa (by simp)]at e|-;cases e;exact k w n p j
theorem OE{Q:Bool->Hp->Prop}(h:jo K (ve c d) m H Q):Hh (jo K c) (jo K d) m H Q:=by
 obtain⟨g,Z,ρ,i,C,b,z,R,e,k⟩:=h;unfold ve at e;obtain⟨⟨l,q⟩,t,e⟩:=fE e;refine⟨g,Z,ρ,i,C,l,q,R,t,λw n p j=>?_⟩;cases l with
 |false=>
  rw[aWa (by simp)]at e|-;exact⟨g,Z,n,i,q,b,z,p,e,λv u R2 r=>k v u R2 (j.trans r)⟩
 |true=>
  rw[aWc rfl]at e|-;cases e;exact k w n p j
theorem Po{Q:Bool->Hp->Prop}(h:jo K (tV c) m H Q):BA (jo K c) m H Q:=by
 obtain⟨g,Z,ρ,i,C,b,u,R,e,k⟩:=h;unfold tV at e;obtain⟨⟨n,t⟩,l,e⟩:=fG e;cases e;exact⟨g,Z,ρ,i,C,n,_,R,l,λr p q j=>k r p q j⟩
noncomputable def Bn(s A:FE):FE:=λb C=>(s b C).bind λp=>match p.1 with
 | .bl true=>A b p.2
 | .bl false=>some (.bl false,p.2)
 |_=>none
noncomputable def Bf(s:FE):FE:=λg C=>(s g C).bind λp=>match p.1 with
 | .bl b=>some (.bl (!b),p.2)
 |_=>none
theorem O1(h:bg K (Bn s A) m H Q):xh (bg K s) (bg K A) m H Q:=by
 obtain⟨b,Z,ρ,g,C,t,I,R,e,k⟩:=h;unfold Bn at e;obtain⟨⟨q,p⟩,w,e⟩:=fE e;refine⟨b,Z,ρ,g,C,q,p,R,w,λv G l n j i=>?_⟩;dsimp only at e;split at e
 .refine⟨true,j.el,?_⟩;rw[aWc rfl];exact⟨b,Z,l,g,p,t,I,n,e,λv F z R2 u r=>k v F z R2 u (i.trans r)⟩
 .refine⟨false,j.el,?_⟩;rw[aWa (by simp)];cases e;exact k _ G l n .bl i
 .cases e
theorem N5(h:bg K (Bf s) m H Q):wo (bg K s) m H Q:=by
 obtain⟨b,Z,ρ,g,C,t,w,R,e,k⟩:=h;unfold Bf at e;obtain⟨⟨i,u⟩,n,e⟩:=fE e;refine⟨b,Z,ρ,g,C,i,u,R,n,λv r p q l j=>?_⟩;dsimp only at e;split at e
 .cases e;exact⟨_,l.el,k _ r p q .bl j⟩
 .cases e
noncomputable def AN(c:FB)(s A:FE):FE:=λb C=>(c b C).bind λp=>if p.1=true then s b p.2 else A b p.2
theorem Ot(h:bg K (AN c s A) m H Q):Hi (jo K c) (bg K s) (bg K A) m H Q:=by
 obtain⟨b,Z,ρ,g,C,t,z,R,e,k⟩:=h;unfold AN at e;obtain⟨⟨r,p⟩,F,e⟩:=fE e;refine⟨b,Z,ρ,g,C,r,p,R,F,λG u w q=>?_⟩;cases r with
 |false=>
  rw[aWa (by simp)]at e|-;exact⟨b,Z,u,g,p,t,z,w,e,λv n l R2 j i=>k v n l R2 j (q.trans i)⟩
 |true=>
  rw[aWc rfl]at e|-;exact⟨b,Z,u,g,p,t,z,w,e,λv n l R2 j i=>k v n l R2 j (q.trans i)⟩
noncomputable def wF(s A g:FE)(p q:Int->Int->Bool):FE:=λb C=>(s b C).bind λx=>(A b x.2).bind λy=>match x.1,y.1 with
 | .int i,.int j=>if p i j=true then(g b y.2).bind λz=>match z.1 with
  | .int l=>some (.bl (q j l),z.2)
  |_=>none
   else some (.bl false,y.2)
 |_,_=>none
theorem QX{v:FE}{p q:Int->Int->Bool}(h:bg K (wF s A v p q) m H Q):
 rg (λx y H Q=>∃i j,x=.int i/\y=.int j/\Q (.bl (p i j)) H) (λx y H Q=>∃i j,x=.int i/\y=.int j/\Q (.bl (q i j)) H) (bg K s) (bg K A) (bg K v) m H Q:=by
 obtain⟨b,Z,ρ,g,C,t,C',R,e,k⟩:=h;unfold wF at e;obtain⟨⟨L,G⟩,X,e⟩:=fE e;obtain⟨⟨J,F⟩,U,e⟩:=fE e;refine⟨b,Z,ρ,g,C,L,G,R,X,λx H1 E R1 P r=>?_⟩;refine⟨b,Z,E,g,G,J,F,R1,U,λy H2 w R2 u n=>?_⟩;dsimp only at e;split at e
 .refine⟨_,_,P.int_inv,u.int_inv,_,rfl,?_⟩;split at e
  .rename_i l;rw[aWc l];obtain⟨⟨I,C3⟩,S,e⟩:=fE e;refine⟨b,Z,w,g,F,I,C3,R2,S,λz H3 Y R3 O N=>?_⟩;dsimp only at e;split at e
   .cases e;exact⟨_,_,u.int_inv,O.int_inv,k _ H3 Y R3 .bl ((r.trans n).trans N)⟩
   .cases e
  .rename_i l;rw[aWa l];cases e;exact k _ H2 w R2 .bl (r.trans n)
 .cases e
def rW(k B h:FE):FS:=λb C=>(k b C).bind λp=>(B b p.2).bind λq=>(h b q.2).bind λr=>match q.1,r.1 with
 | .cell c,.int i=>(lc r.2 c).bind λg=>(jz g.length i).map λj=>(.nx,b,r.2.set c (.l,g.set j p.1))
 |_,_=>none
theorem OJ{r q:FE}(h:ep K W (rW r B q) D m H):Ar (bg K r) (B3 (bg K B) (bg K q) Fx) D m H:=by
 obtain⟨b,Z,ρ,g,C,fl,ah,C',R,e,k⟩:=h;unfold rW at e;obtain⟨⟨J,v⟩,e1,e⟩:=fE e;obtain⟨⟨I,u⟩,E,e⟩:=fE e;obtain⟨⟨G,C3⟩,Y,e⟩:=fE e;refine⟨b,Z,ρ,g,C,J,v,R,e1,λx H1 af R1 P L=>?_⟩;refine⟨b,Z,af,g,v,I,u,R1,E,λy H2 ar R2 O l=>?_⟩;refine⟨b,Z,ar,g,u,G,C3,R2,Y,λz H3 az t N i=>?_⟩;dsimp only at e;split at e
 .obtain⟨ts,X,e⟩:=fE e;obtain⟨j,U,e⟩:=fG e;cases e;have p:=O.step i;unfold RT at p;obtain⟨a,S,n⟩:=p;obtain⟨vs,c2,c3⟩:=t.pw n (lF X);obtain⟨F,w⟩:=t.write n (by rw[c2];trivial) (c3.set ((P.step l).step i) j);exact⟨a,vs,_,j,S,N.int_inv,c2,by rw[c3.length];exact U,k m _ az F (((L.trans l).trans i).ss.trans w)⟩
 .cases e
def A5(B:FE)(s:FN)(g:Xw->Xw->Option Xw):FS:=λb C=>(B b C).bind λp=>(s b p.2).bind λq=>match p.1 with
 | .cell c=>(lc p.2 c).bind λ_=>(lc q.2 c).bind λi=>(g i q.1).map λh=>(.nx,b,q.2.set c (.l,h))
 |_=>none
def E4(g:Xy->Xy->Option Xy):V->Xy->Hp->VK->Prop:=λx vs H Q=>∃l xs b,x=.ref l/\H l=some (.lst xs)/\g xs vs=some b/\Q .aF (upd H l (.lst b))
theorem HR{s:FN}{g:Xw->Xw->Option Xw}{w:Xy->Xy->Option Xy}
 (S:∀M ρ p n t vs xs,aB K M ρ p vs->aB K M ρ n xs->g p n=some t->∃j,w vs xs=some j/\aB K M ρ t j)
 (h:ep K W (A5 B s g) D m H):FT (Hj K "list" (E4 w) (bg K B) (jd K s)) D m H:=by
 obtain⟨b,Z,ρ,r,C,fl,ah,C',R,e,k⟩:=h;unfold A5 at e;obtain⟨⟨O,F⟩,e1,e⟩:=fE e;obtain⟨⟨N,C2⟩,e2,e⟩:=fE e;refine⟨b,Z,ρ,r,C,O,F,R,e1,λx H1 af z v P=>?_⟩;dsimp only at e;split at e
 .obtain⟨_,E,e⟩:=fE e;obtain⟨p,Y,e⟩:=fE e;obtain⟨n,X,e⟩:=fG e;cases e;refine⟨?_,b,Z,af,r,F,N,C2,z,e2,λxs H2 ar R2 U u=>?_⟩
  .have i:=v;unfold RT at i;obtain⟨a,q,l⟩:=i;obtain⟨vs,c2,c3⟩:=z.pw l (lF E);rw[q];exact .inl ⟨rfl,vs,.of c2⟩
  .have i:=v.step u;unfold RT at i;obtain⟨a,q,l⟩:=i;obtain⟨vs,c2,c3⟩:=R2.pw l (lF Y);obtain⟨j,I,G⟩:=S _ _ _ _ _ _ _ c3 U X;obtain⟨L,J⟩:=R2.write l (by rw[c2];trivial) G;exact⟨a,vs,j,q,c2,I,k m _ ar L ((P.trans u).ss.trans J)⟩
 .cases e
end
mutual
def CF:T->Bool
 | .cell _=>false
 | .lst ts=>fc ts
 | .tup ts=>fc ts
 |_=>true
def fc:Xw->Bool
 | []=>true
 |t::b=>CF t&&fc b
end
theorem Gx{b:Xw}:fc b=true↔∀t∈b,CF t=true:=by
 induction b with
 |nil=>simp[fc]
 |cons t b ih=>simp[fc,ih]
section
variable {K:aL}{s:St}{H:Hp}{Q:VK}
mutual
theorem RT.cf{M:Hp}{ρ ae:cn}:∀{t:T}{v:V},CF t=true->RT K M ρ t v->RT K M ae t v
 | .aF,_,_,h=>by unfold RT at*;exact h
 | .bl _,_,_,h=>by unfold RT at*;exact h
 | .int _,_,_,h=>by unfold RT at*;exact h
 | .str _,_,_,h=>by unfold RT at*;exact h
 | .exc _,_,_,h=>by unfold RT at*;exact h
 | .lst b,v,c,h=>by
   unfold RT at*;obtain⟨a,vs,e,q,r⟩:=h;exact⟨a,vs,e,q,aB.cf (by unfold CF at c;exact c) r⟩
 | .tup b,v,c,h=>by
   unfold RT at*;obtain⟨a,vs,e,q,r⟩:=h;exact⟨a,vs,e,q,aB.cf (by unfold CF at c;exact c) r⟩
 | .cell c,_,h,_=>by unfold CF at h;cases h
theorem aB.cf{M:Hp}{ρ ae:cn}:∀{b:Xw}{vs:Xy},fc b=true->aB K M ρ b vs->aB K M ae b vs
 | [],_,_,h=>by unfold aB at*;exact h
 |t::b,vs,c,h=>by
  unfold fc at c;rw[Z6]at c;unfold aB at*;obtain⟨v,r,e,f,d⟩:=h;exact⟨v,r,e,RT.cf c.1 f,aB.cf c.2 d⟩
end
variable{I:Hp}{A:aE}{C:ab}{neg:Bool}{x y:V}{n m k:Nat}{F:Xw->Xx}{E:XK}{α:Type}{D:aWe}{is:XG}{g:FG}{B:FB}{L f:FE}
noncomputable def b7(f:T->Xx):Xw->Option Xw
 | []=>some []
 |t::b=>(f t).bind λu=>(b7 f b).map (u:: ·)
def dr:Nat->ab->T->Xx
 |0,_,t=>if CF t=true then some t else none
 |n+1,C,.cell c=>(lc C c).bind λb=>(b7 (dr n C) b).map T.lst
 |n+1,C,.lst b=>if fc b=true then some (.lst b)else(b7 (dr n C) b).map T.lst
 |n+1,C,.tup b=>if fc b=true then some (.tup b)else(b7 (dr n C) b).map T.tup
 |_+1,_,t=>if CF t=true then some t else none
theorem tE{Z:aWe->Prop}{ρ:cn}:b6 (mask H Z ρ) (mask H Z []):=λa o h=>by
 obtain⟨c,d,b⟩:=jT h;exact oS c (by simp) b
theorem aB.b7{M j:Hp}{ρ ae:cn}{f:T->Xx}(i:∀t v d,RT K M ρ t v->f t=some d->RT K j ae d v):∀{c:Xw}{vs:Xy}{b:Xw},aB K M ρ c vs->TL.b7 f c=some b->aB K j ae b vs
 | [],_,_,h,e=>by cases e;rw[h.nil_inv];exact .nil
 |t::c,_,b,h,e=>by
  obtain⟨v,r,rfl,p,l⟩:=h.cons_inv;unfold TL.b7 at e;obtain⟨u,w,e⟩:=fE e;obtain⟨b,q,rfl⟩:=fG e;exact .cons (i t v u p w) (aB.b7 i l q)
theorem Rel.dr{Z:aWe->Prop}{ρ:cn}(R:Rel K I Z ρ A C s H):∀(n:Nat)(t:T)(v:V)(i:T),RT K (mask H Z ρ) ρ t v->TL.dr n C t=some i->RT K (mask H Z []) [] i v:=by
 intro n;induction n with
 |zero=>
  intro t v i h e;unfold TL.dr at e;split at e
  .rename_i d;cases e;exact(h.cf d).mono tE (λc a z=>z)
  .cases e
 |succ n ih=>
  intro t v i h e;by_cases d:∃c,t=.cell c
  .obtain⟨c,rfl⟩:=d;unfold TL.dr at e;obtain⟨G,J,e⟩:=fE e;obtain⟨w,q,rfl⟩:=fG e;unfold RT at h;obtain⟨a,l,j⟩:=h;obtain⟨vs,c2,c3⟩:=R.pw j (lF J);unfold RT;exact⟨a,vs,l,.of (oS (R.b4 a (aX j)).2 (by simp) c2),c3.b7 ih q⟩
  .have fin:CF t=true->t=i->RT K (mask H Z []) [] i v:=λd z=>by
    subst z;exact(h.cf d).mono tE (λc a z=>z)
   have b:∀{p:Bool}{u:T},(if p=true then some u else none)=some i->p=true/\u=i:=λ{p u} z=>by
    cases p with
    |true=>exact⟨rfl,dC.inj z⟩
    |false=>cases z
   cases t with
   |cell c=>exact absurd ⟨c,rfl⟩ d
   |lst G=>
    unfold TL.dr at e;split at e
    .rename_i d;exact fin (by unfold CF;exact d) (dC.inj e)
    .obtain⟨w,q,rfl⟩:=fG e;unfold RT at h;obtain⟨a,vs,l,j,r⟩:=h;unfold RT;exact⟨a,vs,l,tE.seq j,r.b7 ih q⟩
   |tup G=>
    unfold TL.dr at e;split at e
    .rename_i d;exact fin (by unfold CF;exact d) (dC.inj e)
    .obtain⟨w,q,rfl⟩:=fG e;unfold RT at h;obtain⟨a,vs,l,j,r⟩:=h;unfold RT;exact⟨a,vs,l,tE _ _ j,r.b7 ih q⟩
   |aF=>exact fin (b e).1 (b e).2
   |bl _=>exact fin (b e).1 (b e).2
   |int _=>exact fin (b e).1 (b e).2
   |str _=>exact fin (b e).1 (b e).2
   |exc _=>exact fin (b e).1 (b e).2
noncomputable def td:T->T->Option Bool
 | .bl a,.bl b=>some (a==b)
 | .int a,.int b=>some (a==b)
 | .str a,.str b=>some (a==b)
 |_,_=>none
noncomputable def AJ(e:T->T->Option Bool):Xw->Xw->Option Bool
 | [],[]=>some true
 |x::xs,y::c=>(e x y).bind λa=>(AJ e xs c).map λb=>a&&b
 |_,_=>none
def eqT:Nat->T->T->Option Bool
 |n+1,.lst xs,.lst c=>if xs.length=c.length then AJ (eqT n) xs c else some false
 |_,a,b=>td a b
def E9(K:aL)(neg:Bool):R2:=λx y H Q=>∃d c b,RT K H [] d x/\RT K H [] c y/\eqT 5 d c=some b/\Q (.bl (if neg then !b else b)) H
def qi(neg:Bool)(i h:T)(C:ab):Option (T×ab):=(dr 3 C i).bind λd=>(dr 3 C h).bind λc=>(eqT 5 d c).map λb=>(.bl (if neg then !b else b),C)
theorem EY(h:∃i d,ib K s [i,d] [x,y] (qi neg i d) H Q):E9 K neg x y H Q:=by
 obtain⟨i,d,I,Z,ρ,A,C,t,G,R,r,e,k⟩:=h;obtain⟨_,_,z,q,r⟩:=r.cons_inv;cases z;obtain⟨_,_,z,p,r⟩:=r.cons_inv;cases z;unfold qi at e;obtain⟨l,w,e⟩:=fE e;obtain⟨j,v,e⟩:=fE e;obtain⟨b,u,e⟩:=fG e;cases e;exact⟨l,j,b,(R.dr _ _ _ _ q w).mono qG (λc a z=>z),(R.dr _ _ _ _ p v).mono qG (λc a z=>z),u,k _ H ρ R .bl .refl⟩
noncomputable def xu(e:T->Option Bool):Xw->Option Bool
 | []=>some false
 |x::xs=>(e x).bind λa=>(xu e xs).map λb=>a||b
def E6(K:aL)(neg:Bool):R2:=λx y H Q=>∃t p vs c b,RT K H [] t x/\y=.ref p/\cz K H p vs/\aB K H [] c vs/\xu (λu=>eqT 5 u t) c=some b/\Q (.bl (if neg then !b else b)) H
def sg(neg:Bool)(j i:T)(C:ab):Option (T×ab):=(dr 3 C j).bind λd=>(dm C i).bind λh=>(b7 (dr 3 C) h).bind λc=>(xu (λu=>eqT 5 u d) c).map λb=>(.bl (if neg then !b else b),C)
theorem Hy(h:∃i d,ib K s [i,d] [x,y] (sg neg i d) H Q):E6 K neg x y H Q:=by
 obtain⟨i,d,I,Z,ρ,A,C,t,U,R,r,e,k⟩:=h;obtain⟨_,_,z,u,r⟩:=r.cons_inv;cases z;obtain⟨_,_,z,q,r⟩:=r.cons_inv;cases z;unfold sg at e;obtain⟨l,O,e⟩:=fE e;obtain⟨P,N,e⟩:=fE e;obtain⟨j,J,e⟩:=fE e;obtain⟨b,M,e⟩:=fG e;cases e;obtain⟨a,vs,G,w,p⟩:=R.li q N;exact⟨l,a,vs,j,b,(R.dr _ _ _ _ u O).mono qG (λc a z=>z),G,w,p.b7 (λt v S h e=>(R.dr _ _ _ _ h e).mono qG (λc a z=>z)) J,M,k _ H ρ R .bl .refl⟩
def spT(K:aL)(n:Nat)(F:Xw->Xx):Sp:=λvs H Q _=>∃Z b t,b.length=n/\(∀a,Z a->NT (H a))/\aB K (mask H Z []) [] b vs/\F b=some t/\
 ∀v H',b6 H H'->RT K (mask H' Z []) [] t v->Q v H'
theorem iJ:∀vs H Q E,spT K n F vs H Q E->vs.length=n:=λvs H Q E b=>by obtain⟨Z,c,t,h,_,r,_⟩:=b;rw[r.length,h]
noncomputable def BH:T->Bool
 | .aF=>true
 | .bl _=>true
 | .int _=>true
 | .str _=>true
 |_=>false
theorem RT.BH{M c:Hp}{ρ ae:cn}{t:T}{v:V}(b:TL.BH t=true)(h:RT K M ρ t v):RT K c ae t v:=by
 cases t with
 |aF=>unfold RT at*;exact h
 |bl _=>unfold RT at*;exact h
 |int _=>unfold RT at*;exact h
 |str _=>unfold RT at*;exact h
 |_=>cases b
def kU(n:Nat)(F:Xw->Xx)(b:Xw)(C:ab):Option (T×ab):=if b.length=n then
 if fc b=true then(F b).map λt=>(t,C)
 else(b7 (dr 3 C) b).bind λc=>(F c).bind λt=>if BH t=true then some (t,C)else none
 else none
theorem GO{Z:aWe->Prop}{ρ:cn}:mask H (λa=>Z a\/a∈ρ) []=mask H Z ρ:=by
 funext a;unfold mask;by_cases h:Z a\/a∈ρ
 .rw[aWc (.inl h),aWc h]
 .rw[aWa (by rintro(z|z);exact h z;cases z),aWa h]
theorem Lx{f:T->Xx}:∀{c b:Xw},b7 f c=some b->b.length=c.length
 | [],_,e=>by cases e;rfl
 |t::c,b,e=>by
  unfold b7 at e;obtain⟨u,h,e⟩:=fE e;obtain⟨b,d,rfl⟩:=fG e;simp[Lx d]
theorem Rel.jk{Z:aWe->Prop}{ρ:cn}(R:Rel K I Z ρ A C s H){a:aWe}(i:a∈ρ):NT (H a):=by
 obtain⟨c,b⟩:=gB i;obtain⟨_,_,_,_,h,d,_⟩:=R.jq c a b;rw[h];exact d.nt
theorem Pj{vs:Xy}(h:∃b,ib K s b vs (kU n F b) H Q):spT K n F vs H Q E:=by
 obtain⟨b,I,Z,ρ,A,C,t,M,R,r,e,k⟩:=h;unfold kU at e;split at e
 .rename_i l;split at e
  .rename_i w;obtain⟨u,i,e⟩:=fG e;cases e;refine⟨λa=>Z a\/a∈ρ,b,_,l,λa z=>?_,by rw[GO];exact r.cf w,i,λv H' sm d=>?_⟩
   .rcases z with z|z
    .exact R.zd a z
    .exact R.jk z
   .obtain⟨j,st⟩:=R.same sm;rw[GO]at d;exact k v H' ρ j (d.mono (.refl _) (λc a z=>by cases z)) st
  .obtain⟨p,i,e⟩:=fE e;obtain⟨u,G,e⟩:=fE e;split at e
   .rename_i q;cases e;refine⟨Z,p,_,(Lx i).trans l,R.zd,r.b7 (λt v J h e=>R.dr _ _ _ _ h e) i,G,λv H' sm d=>?_⟩;obtain⟨j,st⟩:=R.same sm;exact k v H' ρ j (d.BH q) st
   .cases e
 .cases e
noncomputable def ja(m:Nat)(b:Xw):aE:=b.map some++aT (m - b.length) none
theorem Rel.start{Z:aWe->Prop}{b:Xw}{vs:Xy}(j:∀a,Z a->NT (H a))(h:aB K (mask H Z []) [] b vs):
 Rel K H Z [] (ja m b) [] (vs.map some++aT (m - vs.length) none) H:=by
 refine⟨.refl _,(λa l=>nomatch l),aUf,j,λi t e=>?_,(λc a e=>nomatch e),rfl,by simp[ja,h.length]⟩;unfold ja at e;have d:i<b.length:=by
  by_cases d:i<b.length
  .exact d
  .rw[bL (by simpa using d),dR]at e;split at e<;>cases e
 rw[aR (by simpa using d),bI]at e;cases q:b[i]?with
 |none=>rw[q]at e;cases e
 |some u=>
  rw[q]at e;cases e;obtain⟨v,r,p⟩:=h.get q;refine⟨v,?_,p⟩;rw[aR (by simpa[h.length]using d),bI,r];rfl
def C7(t:T):Fl×aE×ab->Prop
 | (.rt r,_,C)=>dr 3 C r=some t
 | (.nx,_,_)=>t=.aF
 |_=>False
theorem jC{G:Xw->Xx}{F:FS}{vs:Xy}(w:∀b t,b.length=n->G b=some t->∃r,F (ja m b) []=some r/\C7 t r)(h:spT K n G vs H Q E):
 ep K W F {nx:=λ_ H'=>Q .aF H',rt:=Q} (vs.map some++aT (m - vs.length) none) H:=by
 obtain⟨Z,b,t,q,l,r,e,k⟩:=h;obtain⟨⟨j,J,M⟩,z,d⟩:=w b t q e;refine⟨H,Z,[],ja m b,[],j,J,M,Rel.start l r,z,λN H' ae i _=>?_⟩;cases j with
 |nx=>
  have:t=.aF:=d;subst this;exact k .aF H' i.old .aF
 |bk=>exact False.elim d
 |ct=>exact False.elim d
 |rt u=>exact λv p=>k v H' i.old (i.dr _ _ _ _ p d)
 |ex c=>exact False.elim d
def Bo(r:TI)(u:St->St)(g:TG)(B:TT)(t:TE):TE:=λs H Q=>r s H λJ q=>∀D,q D=none->∃W:Nat->Nat->St->Hp->Prop,(∃m,W 0 m (u s) (upd q D (.lst [])))/\∀i m j H,W i m j H->
 (J.stop i H/\Q (.ref D) H)\/(J.go i H/\∀x H',J.yx i H x H'->g x j H' λd v=>B d v λb p=>
  if b=true then t d p λy l=>∃h c,l D=some (.lst h)/\h.length<lim/\c<m/\W (i+1) c d (upd l D (.lst (h++[y])))else∃c,c<m/\W (i+1) c d p)
open Classical in
noncomputable def kp{α:Type}(C D:ab)(x:Option α):Option α:=if C<+:D then x else none
theorem HL{D:ab}{x:Option α}(h:C<+:D):kp C D x=x:=aWc h
theorem JU{x:Option α}:kp C C x=x:=HL (List.prefix_refl _)
theorem JR{D:ab}{x:Option α}{y:α}(h:kp C D x=some y):C<+:D/\x=some y:=by
 unfold kp at h;split at h
 .exact⟨by assumption,h⟩
 .cases h
def lM(g:FG)(B:FB)(L:FE)(A:aE):Xw->ab->Option (Xw×ab)
 | [],C=>some ([],C)
 |t::c,C=>(g t C A).bind λd=>(B d C).bind λb=>if b.1=true then(L d b.2).bind λy=>kp C y.2 ((lM g B L A c y.2).map λr=>(y.1::r.1,r.2))else kp C b.2 (lM g B L A c b.2)
noncomputable def gh(k:Nat)(is:XG)(A:aE):aE:=aT k none++is.map λi=>(A[i]?).getD none
noncomputable def nR(k:Nat)(is:XG)(s:St):St:=aT k none++is.map λi=>(s[i]?).getD none
def mz(k:Nat)(g:FG):Prop:=∀t C A b,g t C A=some b->b.length=A.length/\∀j,k<=j->b[j]?=A[j]?
theorem Rel.yz{Z:aWe->Prop}{ρ:cn}{o:HO}(R:Rel K I Z ρ A C s H)(c:Z D)(J:I D=none)(p:NT (some o)):Rel K I Z ρ A C s (upd H D o)/\mask (upd H D o) Z ρ=mask H Z ρ:=by
 have em:mask (upd H D o) Z ρ=mask H Z ρ:=by
  funext b;unfold mask;split
  .rfl
  .rename_i q;rw[gJ (by rintro rfl;exact q (.inl c))]
 refine⟨⟨λb u q=>?_,R.b4,R.nd,λb z=>?_,λi t e=>?_,λd b e=>?_,R.len,R.rA⟩,em⟩
 .rw[gJ (by rintro rfl;rw[J]at q;cases q)];exact R.old b u q
 .by_cases h:b=D
  .subst h;rw[kD];exact p
  .rw[gJ h];exact R.zd b z
 .rw[em];exact R.loc i t e
 .rw[em];obtain⟨l,j,ob,G,w,r,v⟩:=R.jq d b e;refine⟨l,j,ob,G,?_,r,v⟩;rw[gJ]
  .exact w
  .rintro rfl;exact(R.b4 b (aX e)).2 c
theorem K9{c:aE}(d:c.length=(gh k is A).length)(h:∀j,k<=j->c[j]?=(gh k is A)[j]?):∀(i:Nat) t,(gh k is A)[i]?=some (some t)->c[i]?=some (some t):=λi t e=>by
 by_cases b:i<k
 .unfold gh at e;rw[aR (by simpa using b),dR,aWc b]at e;cases e
 .rw[h i (cT b)];exact e
theorem u5{J:It}{Z:aWe->Prop}{ρ:cn}{C':ab}{P:ab->Prop}{N ys:Xw}{X:Hp}
 (R:Rel K I Z ρ A C s X)(hg:mz k g)(w:AB K J Z X ρ N P)(hP:P C)(hPm:∀C C2:ab,C<+:C2->P C->P C2)(hl:N.length<lim)(e:lM g B L (gh k is A) N C=some (ys,C'))(Y:X D=none)
 (q:∀p H' ae vs,Rel K I Z ae A C' s H'->H' p=none->aB K (mask H' Z ae) ae ys vs->Step X H' ρ ae->Q (.ref p) (upd H' p (.lst vs))):
 ∃W:Nat->Nat->St->Hp->Prop,(∃m,W 0 m (nR k is s) (upd X D (.lst [])))/\∀i m gu H,W i m gu H->
  (J.stop i H/\Q (.ref D) H)\/(J.go i H/\∀x H',J.yx i H x H'->nj K g x gu H' λbr H2=>jo K B br H2 λb H3=>
   if b=true then bg K L br H3 λy H4=>∃ys m',H4 D=some (.lst ys)/\ys.length<lim/\m'<m/\W (i+1) m' br (upd H4 D (.lst (ys++[y])))else∃m',m'<m/\W (i+1) m' br H3):=by
 obtain⟨nz,nr,n0⟩:=R.fy Y;have hZD:∀a,Z a->a≠D:=λa z h=>by subst h;exact nz z
 refine⟨λi m gu H=>∃ae C1 done rest vs,m=rest.length/\N.drop i=rest/\i<=N.length/\done.length<=i/\Rel K I (λa=>Z a\/a=D) ae (gh k is A) C1 gu H/\H D=some (.lst vs)/\
  aB K (mask H (λa=>Z a\/a=D) ae) ae done vs/\Step X H ρ ae/\P C1/\∃yr,lM g B L (gh k is A) rest C1=some (yr,C')/\ys=done++yr,?_,?_⟩
 .refine⟨N.length,ρ,C,[],N,[],rfl,rfl,dF _,bD _,?_,kD,.nil,?_,hP,ys,e,rfl⟩
  .have sm:b6 (mask X Z ρ) (mask (upd X D (.lst [])) (λa=>Z a\/a=D) ρ):=λa o z=>by
    obtain⟨U,G,O⟩:=jT z;have ne:a≠D:=λz=>by rw[z,Y]at O;cases O
    exact oS (by rintro(z|z);exact U z;exact ne z) G (by rw[gJ ne];exact O)
   refine⟨λb o z=>?_,λa r=>⟨(R.b4 a r).1,?_⟩,R.nd,λa z=>?_,λi t z=>?_,λc a z=>?_,R.len,by simp[gh,nR]⟩
   .rw[gJ (by rintro rfl;rw[n0]at z;cases z)];exact R.old b o z
   .rintro(z|z)
    .exact(R.b4 a r).2 z
    .subst z;exact nr r
   .by_cases r:a=D
    .subst r;rw[kD];trivial
    .rw[gJ r];rcases z with z|z
     .exact R.zd a z
     .exact absurd z r
   .unfold gh at z;by_cases hi:i<k
    .rw[aR (by simpa using hi),dR,aWc hi]at z;cases z
    .rw[bL (by simpa using cT hi),bI]at z;obtain⟨j,hj,z⟩:=fG z;have qd:A[j]?=some (some t):=by
      cases q:A[j]?with
      |none=>rw[q]at z;cases z
      |some u=>rw[q]at z;exact congrArg some z
     obtain⟨v,U,G⟩:=R.loc j t qd;refine⟨v,?_,G.mono sm (λc a z=>z)⟩;unfold nR;rw[bL (by simpa using cT hi),bI];simp only[Zd]at hj|-;rw[hj];simp[U]
   .obtain⟨us,vs,ob,U,G,h4,O⟩:=R.jq c a z;refine⟨us,vs,ob,U,?_,h4,O.mono sm (λc a z=>z)⟩;rw[gJ (by rintro rfl;rw[Y]at G;cases G)];exact G
  .exact .of0 λb o z=>by
    rw[gJ (by rintro rfl;rw[Y]at z;cases z)];exact z
 .rintro i m gu H ⟨ae,C1,done,rest,vs,rfl,hd,hi,hdl,S,hDv,rd,M,og,yr,d,hys⟩;have ix:∀(c:Nat)(a:aWe),ρ[c]?=some a->ae[c]?=some a:=M.idx;have smm:b6 (mask X Z ρ) (mask H (λa=>Z a\/a=D) ae):=λa o z=>by
   obtain⟨U,G,O⟩:=jT z;have ne:a≠D:=λz=>by rw[z,Y]at O;cases O
   refine oS (by rintro(z|z);exact U z;exact ne z) (M.kept a o O G).1 (M.kept a o O G).2
  cases rest with
  |nil=>
   have dw:i=N.length:=by
    have:N.length<=i:=by simpa using hd
    exact X2 hi this
   subst dw;cases d;refine .inl ⟨w.stop _ _ _ _ _ _ _ S smm ix (.inl og) M.fz,?_⟩;have hm:mask (λb=>if b=D then none else H b) Z ae=mask H (λa=>Z a\/a=D) ae:=by
    funext a;unfold mask;by_cases r:a=D
    .subst r;rw[aWc (show(Z a\/a=a)\/a∈ae from .inl (.inr rfl))];split
     .rfl
     .exact aWc rfl
    .by_cases hz:Z a\/a∈ae
     .rw[aWc hz,aWc (by rcases hz with z|z;exact .inl (.inl z);exact .inr z)]
     .rw[aWa hz,aWa (by rintro((z|z)|z);exact hz (.inl z);exact r z;exact hz (.inr z))]
      exact aWa r
   have hu:upd (λb=>if b=D then none else H b) D (.lst vs)=H:=by
    funext b;unfold upd;by_cases hb:b=D
    .subst hb;rw[aWc rfl,hDv]
    .rw[aWa hb];exact aWa hb
   have st:Step X (λb=>if b=D then none else H b) ρ ae:=⟨λb o z n=>⟨(M.kept b o z n).1,by
    show(if b=D then none else H b)=some o;rw[aWa (by rintro rfl;rw[Y]at z;cases z)];exact(M.kept b o z n).2⟩,M.pre,λb ob u z=>by
    show(if b=D then none else H b)=_;rw[aWa (by rintro rfl;rw[Y]at z;cases z)];exact M.fz b ob u z⟩
   have R2:Rel K I Z ae A C' s (λb=>if b=D then none else H b):=by
    refine⟨λb o z=>by
     show(if b=D then none else H b)=some o;rw[aWa (by rintro rfl;rw[n0]at z;cases z)];exact S.old b o z,λa r=>⟨(S.b4 a r).1,λz=>(S.b4 a r).2 (.inl z)⟩,S.nd,λa z=>(by
     show NT (if a=D then none else H a);rw[aWa (hZD a z)];exact S.zd a (.inl z)),λj t z=>?_,λc a z=>?_,S.len,R.rA⟩
    .obtain⟨v,U,G⟩:=R.loc j t z;exact⟨v,U,G.step st⟩
    .obtain⟨us,ws,ob,U,G,h4,O⟩:=S.jq c a z;refine⟨us,ws,ob,U,?_,h4,by rw[hm];exact O⟩;show(if a=D then none else H a)=_;rw[aWa (λz'=>(S.b4 a (aX z)).2 (.inr z'))];exact G
   have fin:=q D (λb=>if b=D then none else H b) ae vs R2 (aWc rfl) (by rw[hm,hys,aU];exact rd) st;rw[hu]at fin;exact fin
  |cons t rest=>
   have ht:N[i]?=some t:=by
    have:=congrArg (λl=>l[0]?) hd;simpa using this
   have aw:i<N.length:=(fK ht).1;have jy:N.drop (i+1)=rest:=by
    have:=congrArg aUH hd;simpa using this
   obtain⟨g1,g2⟩:=w.go i t _ _ ae _ C1 gu H ht S smm ix (.inl og) M.fz;refine .inr ⟨g1,λx H' hy=>?_⟩;obtain⟨smy,rx⟩:=g2 x H' hy;obtain⟨wt,av⟩:=S.same smy;unfold lM at d;obtain⟨aq,eg,d⟩:=fE d;obtain⟨⟨b,C2⟩,et,d⟩:=fE d;obtain⟨o1,o2⟩:=hg _ _ _ _ eg;refine⟨_,_,ae,_,C1,t,aq,wt,rx,eg,λbr R2=>?_⟩;refine⟨_,_,ae,aq,C1,b,C2,R2,et,λH3 az R3 s3=>?_⟩;have ww:=av.trans s3;have nD:D∉ae:=λz=>(S.b4 D z).2 (.inr rfl);cases b with
   |false=>
    rw[aWa (by simp)]at d;obtain⟨hpx,d⟩:=JR d;dsimp only;rw[aWa (by simp)];exact⟨rest.length,by simp,az,C2,done,rest,vs,rfl,jy,aw,cY hdl,R3.weak (by rw[o1]) (K9 o1 o2),(ww.kept _ _ hDv nD).2,rd.step ww,M.trans ww,hPm _ _ hpx og,yr,d,hys⟩
   |true=>
    rw[aWc rfl]at d;dsimp only;rw[aWc rfl];obtain⟨⟨ty,C3⟩,ee,d⟩:=fE d;obtain⟨hpx,d⟩:=JR d;obtain⟨⟨yr',C4⟩,e3,e2⟩:=fG d;cases e2;refine⟨_,_,az,aq,C2,ty,C3,R3,ee,λy H4 kg R4 hy4 s4=>?_⟩;have px:=ww.trans s4;have rd4:=rd.step px;obtain⟨R5,em⟩:=R4.yz (D:=D) (o:=.lst (vs++[y])) (.inr rfl) n0 trivial;refine⟨vs,rest.length,(px.kept _ _ hDv nD).2,by rw[rd.length];exact aM (bO hdl aw) (dY hl),by simp,kg,C3,done++[ty],rest,vs++[y],rfl,jy,aw,by simp;exact hdl,R5.weak (by rw[o1]) (K9 o1 o2),kD,?_,?_,hPm _ _ hpx og,yr',e3,by rw[hys];simp⟩
    .rw[em];exact rd4.append (.cons hy4 .nil)
    .exact⟨λb o z n=>⟨((M.trans px).kept b o z n).1,by
      rw[gJ (by rintro rfl;rw[Y]at z;cases z)];exact((M.trans px).kept b o z n).2⟩,(M.trans px).pre,λb ob u z=>by
      rw[gJ (by rintro rfl;rw[Y]at z;cases z)];exact(M.trans px).fz b ob u z⟩
theorem P9{d:ab}{c:Nat}{b:Xw}(h:C<+:d)(e:lc C c=some b):lc d c=some b:=by
 obtain⟨D,rfl⟩:=h;rw[oA]at e|-;rw[aR (fK e).1];exact e
theorem wQ{t:T}{b:Xw}(C c:ab)(h:C<+:c)(e:stays t b C):stays t b c:=by
 unfold stays at*;split
 .exact P9 h e
 .trivial
def lA(f:FE)(k:Nat)(is:XG)(g:FG)(B:FB)(L:FE):FN:=λA C=>(f A C).bind λp=>(dm p.2 p.1).bind λb=>if b.length<lim then lM g B L (gh k is A) b p.2 else none
theorem Gm(G:mz k g)(h:kv K (lA f k is g B L) s H Q):Bo (FL K (bg K f)) (nR k is) (nj K g) (jo K B) (bg K L) s H Q:=by
 obtain⟨I,Z,ρ,A,C,S,C',R,e,q⟩:=h;unfold lA at e;obtain⟨⟨t,P⟩,N,e⟩:=fE e;obtain⟨U,b,e⟩:=fE e;split at e
 .rename_i z;refine⟨I,Z,ρ,A,C,t,P,R,N,λv Y X c d i=>?_⟩;obtain⟨a,vs,M,u,r⟩:=c.li d b;subst M;exact⟨a,rfl,⟨vs,u⟩,λD J=>u5 c G (Ls c d b) (rV b) wQ z e J λp H' ae vs O w l j=>q p H' ae vs O w l (i.trans j)⟩
 .cases e
def lD(f:FE)(k:Nat)(is:XG)(g:FG)(B:FB)(L:FE):FN:=λA C=>(f A C).bind λp=>match p.1 with
 | .int j=>if j<400000/\ -(2^62)<=j then lM g B L (gh k is A) (v5 0 j.toNat) p.2 else none
 |_=>none
theorem GY(w:mz k g)(h:kv K (lD f k is g B L) s H Q):Bo (FK (jd K (fN f f7))) (nR k is) (nj K g) (jo K B) (bg K L) s H Q:=by
 obtain⟨I,Z,ρ,A,C,P,X,R,e,q⟩:=h;unfold lD at e;obtain⟨⟨t,O⟩,J,e⟩:=fE e;dsimp only at e;split at e
 .split at e
  .rename_i b;refine⟨I,Z,ρ,A,C,_,O,R,by simp[fN,f7,J];rfl,λvs U S M G c=>?_⟩;obtain⟨v,r,rfl,l,j⟩:=G.cons_inv;rw[j.nil_inv];refine⟨_,by rw[l.int_inv],b.2,cG b.1 (by decide),λD z=>u5 (P:=λ_=>True) M w v9 trivial (λ_ _ _ _=>trivial) (by simp[v5,lim];exact b.1) e z λp H' ae vs N u i d=>q p H' ae vs N u i (c.trans d)⟩
  .cases e
 .cases e
theorem j9{i:Nat}(h:i<k):mz k (gN i):=λt C A c e=>by
 cases e;refine⟨by simp,λj b=>?_⟩;rw[aQ (by lia)]
theorem zW{k:Nat}:∀(is:XG)(b:Xw)(A:aE),(∀i∈is,i<k)->(cu is b A).length=A.length/\∀j,k<=j->(cu is b A)[j]?=A[j]?
 | [],_,_,_=>by simp[cu]
 |i::is,[],_,_=>by simp[cu]
 |i::is,t::b,A,h=>by
  obtain⟨l,d⟩:=zW (k:=k) is b (A.set i (some t)) (λj c=>h j (bA _ c));have p:=h i bM;refine⟨by simp[cu,l],λj c=>?_⟩;show(cu is b (A.set i (some t)))[j]?=_;rw[d j c,aQ (by lia)]
theorem D8(h:∀i∈is,i<k):mz k (gU is):=λt C A d e=>by
 unfold gU at e;obtain⟨b,c,e⟩:=fE e;split at e
 .cases e;exact zW is b A h
 .cases e
end
section
variable {K:aL}{d:St}{H:Hp}
variable{Q:VK}{l:FN}{m:FE}{r:Xy->Hp->VK->Prop}
theorem jM{f:FE}{i:VK}(h:bg K f d H Q)(n:∀v H',Q v H'->i v H'):bg K f d H i:=by
 obtain⟨g,Z,ρ,j,C,t,p,R,e,k⟩:=h;exact⟨g,Z,ρ,j,C,t,p,R,e,λv H' ae a b c=>n _ _ (k v H' ae a b c)⟩
theorem sA{f:FN}{Q i:Xy->Hp->Prop}(h:jd K f d H Q)(n:∀v H',Q v H'->i v H'):jd K f d H i:=by
 obtain⟨g,Z,ρ,j,C,t,p,R,e,k⟩:=h;exact⟨g,Z,ρ,j,C,t,p,R,e,λv H' ae a b c=>n _ _ (k v H' ae a b c)⟩
theorem xO{l:FE}{g:T->T->ab->Option (T×ab)}{r:R2}(f:∀d H Q x y,(∃c b,ib K d [c,b] [x,y] (g c b) H Q)->r x y H Q)(h:bg K (kA l m g) d H Q):zp r (bg K l) (bg K m) d H Q:=
 jM (DR h) λ_ _ q=>jM q λ_ _ q=>f _ _ _ _ _ q
theorem Ov{l:FE}{g:T->T->ab->Option Xw}{r:R2}(f:∀d H Q x y,(∃c b,zf K d [c,b] [x,y] (g c b) H Q)->r x y H Q)(h:kv K (z8 l m g) d H Q):zp r (bg K l) (bg K m) d H Q:=
 jM (OT h) λ_ _ q=>jM q λ_ _ q=>f _ _ _ _ _ q
theorem HB{g:Xw->ab->Option (T×ab)}(c:∀d H Q xs,(∃b,ib K d b xs (g b) H Q)->r xs H Q)(h:bg K (pJ l g) d H Q):Dg r (jd K l) d H Q:=
 sA (CA h) λ_ _ q=>c _ _ _ _ q
theorem HG{g:Xw->ab->Option Xw}(c:∀d H Q xs,(∃b,zf K d b xs (g b) H Q)->r xs H Q)(h:kv K (uZ l g) d H Q):Dg r (jd K l) d H Q:=
 sA (Jb h) λ_ _ q=>c _ _ _ _ q
theorem PL{n:Nat}{F:Xw->Xx}{E:XK}(h:bg K (pJ l (kU n F)) d H Q):DI (spT K n F) [] E (jd K l) d H Q:=
 sA (CA h) λvs _ q=>by rw[aU];exact Pj q
noncomputable def Xu(b:Xw)(C:ab):Option (T×ab):=match b with
 | [.int i,.int j]=>if 0<j/\j<1073741824 then some (.tup [.int (i/j),.int (i%j)],C)else none
 |_=>none
noncomputable def DM(b:Xw)(C:ab):Option (T×ab):=match b with
 | [.int i]=>some (.int i,C)
 | [.bl k]=>some (.int (if k then 1 else 0),C)
 |_=>none
theorem OL{xs:Xy}(h:∃b,ib K d b xs (DM b) H Q):(∃i,xs=[.int i]/\Q (.int i) H)\/∃k,xs=[.bl k]/\Q (.int (if k then 1 else 0)) H:=by
 obtain⟨b,f,Z,ρ,g,C,t,j,R,r,e,k⟩:=h;unfold DM at e;split at e
 .obtain⟨v,_,rfl,c,r⟩:=r.cons_inv;rw[r.nil_inv,c.int_inv];cases e;exact .inl ⟨_,rfl,k _ H ρ R .int .refl⟩
 .obtain⟨v,_,rfl,c,r⟩:=r.cons_inv;rw[r.nil_inv,c.el];cases e;exact .inr ⟨_,rfl,k _ H ρ R .int .refl⟩
 .cases e
noncomputable def Ci(t:T)(C:ab):Option (T×ab):=match t with
 | .int i=>some (.int (-i),C)
 |_=>none
theorem Og{x:V}(h:∃t,ib K d [t] [x] (Ci t) H Q):∃i,x=.int i/\Q (.int (-i)) H:=by
 obtain⟨g,b,Z,ρ,f,C,t,j,R,r,e,k⟩:=h;obtain⟨_,_,z,c,r⟩:=r.cons_inv;cases z;unfold Ci at e;split at e
 .cases e;exact⟨_,c.int_inv,k _ H ρ R .int .refl⟩
 .cases e
end
noncomputable def oP(i j:Int):Bool:= !(decide (aWt.Int.intBits i>aYl)&&decide (aWt.Int.intBits j>aYl)&&aWt.Int.intTooBig (aWt.Int.intBits i+aWt.Int.intBits j))
noncomputable def b5{b:Type}(xs:List b)(i:Int)(y:b):List b:=xs.take (if i<0 then(i+(xs.length:Int)).toNat else min i.toNat xs.length)++y::xs.drop (if i<0 then(i+(xs.length:Int)).toNat else min i.toNat xs.length)
def CG(xs vs:Xw):Option Xw:=match vs with
 | [y]=>if xs.length<lim then some (xs++[y])else none
 |_=>none
def Cy(xs vs:Xw):Option Xw:=match vs with
 | [.int i,y]=>if xs.length<lim/\ -(2^63)<=i/\i<2^63 then some (b5 xs i y)else none
 |_=>none
noncomputable def wK:XE->Int
 | []=>0
 |n::ns=>ns.foldl (λa b=>if b>a then b else a) n
noncomputable def wW:XE->Int
 | []=>0
 |n::ns=>ns.foldl (λa b=>if b<a then b else a) n
abbrev j7(a b:FE):FE:=kA a b (gI λi j=>.int (i+j))
abbrev qK(a b:FE):FE:=kA a b (gI λi j=>.int (i - j))
abbrev pI(a b:FE):FE:=kA a b (qg oP λi j=>.int (i*j))
abbrev lJ(a b:FE):FE:=kA a b (qg (λ_ j=>decide (0<j)) λi j=>.int (i%j))
abbrev tU(a b:FE):FE:=kA a b (qg (λ_ j=>decide (0<j/\j<1073741824)) λi j=>.int (i/j))
abbrev E7(a b:FE):FE:=kA a b (qg (λi j=>decide (0<=j/\j<=1000000/\i.natAbs<2^64)) λi j=>.int (i^j.toNat))
abbrev ET(a:FE):FE:=x3 a Ci
abbrev Aj(a b:FE):FE:=kA a b (gI λi j=>.bl (decide (i<j)))
abbrev Nc(a b:FE):FE:=kA a b (gI λi j=>.bl (decide (i<=j)))
abbrev pk(a b:FE):FE:=kA a b (gI λi j=>.bl (decide (j<i)))
abbrev qk(a b:FE):FE:=kA a b (qi false)
abbrev Dr(a b:FE):FE:=kA a b (qi true)
abbrev Ht(a b:FE):FE:=kA a b (sg false)
abbrev Dy(a b:FE):FE:=kA a b (sg true)
abbrev B7(a b c:FE):FE:=wF a b c (λi j=>decide (i<=j)) (λi j=>decide (i<j))
abbrev aH(a b:FE):FE:=kA a b AI
abbrev AS(a b:FE):FN:=z8 a b AU
abbrev nX(a:FN):FE:=pJ a AX
abbrev ya(a:FN):FN:=uZ a DP
abbrev Ct(a:FN):FE:=pJ a (zE (λ_=>true) aUK)
abbrev x5(a:FN):FE:=pJ a (zE (λb=> !b.isEmpty) wK)
abbrev FF(a:FN):FE:=pJ a (zE (λb=> !b.isEmpty) wW)
abbrev Fh(a:FN):FE:=pJ a (Cq λbs=>bs.all id)
abbrev FD(a:FN):FE:=pJ a (Ag λi j=>if j>i then j else i)
abbrev sM(a:FN):FE:=pJ a (Ag λi j=>if j<i then j else i)
abbrev uF(a:FN):FE:=pJ a DM
abbrev g8(n:Nat)(F:Xw->Xx)(a:FN):FE:=pJ a (kU n F)
noncomputable def E2(c:String):T->Option Bool
 | .aF=>some (c=="NoneType")
 | .bl _=>some (c=="bool"||c=="int")
 | .int _=>some (c=="int")
 | .str _=>some (c=="str")
 | .lst _=>some (c=="list")
 | .cell _=>none
 | .tup _=>some (c=="tuple")
 | .exc _=>none
def yf(c:String)(a:FE):FE:=x3 a λt C=>(E2 c t).map λb=>(.bl b,C)
abbrev vC(o:FE)(a:FN):FS:=A5 o a CG
abbrev Cu(o:FE)(a:FN):FS:=A5 o a Cy
noncomputable def jA:FB:=λ_ C=>some (true,C)
def kR(B:FS)(m:Nat)(b:Xw):Xx:=match B (ja m b) []with
 |some (.rt r,_,C)=>dr 3 C r
 |some (.nx,_,_)=>some .aF
 |_=>none
theorem iI{B:FS}{m n:Nat}:∀b t,b.length=n->kR B m b=some t->∃r,B (ja m b) []=some r/\C7 t r:=λb t _ e=>by
 unfold kR at e;split at e
 .rename_i h;exact⟨_,h,e⟩
 .rename_i h;cases e;exact⟨_,h,rfl⟩
 .cases e
end TL
namespace L2
open PySem PySem.Spec PyProof.Rows
variable{X:Cx}{e:aWp}{a:TT}
theorem PE.imp{t a:TE}(h:PE X e t)(c:∀b H Q,a b H Q->t b H Q):PE X e a:=λd s b H Q I q=>h d s b H Q I (c b H Q q)
theorem PT.imp{t:TT}(h:PT X e t)(c:∀b H Q,a b H Q->t b H Q):PT X e a:=λd s b H Q I q=>h d s b H Q I (c b H Q q)
theorem PW.imp{t:TT}(h:PW X e t)(d:∀b H Q,a b H Q->t b H Q):PW X e a:=λc f s b H Q I q=>h c f s b H Q I (d b H Q q)
theorem PA.imp{e:XO}{t a:TA}(h:PA X e t)(c:∀b H Q,a b H Q->t b H Q):PA X e a:=λpos d s b H Q I q=>h pos d s b H Q I (c b H Q q)
theorem PS.imp{e:Stmt}{t a:TS}(h:PS X e t)(c:∀D b H,a D b H->t D b H):PS X e a:=λd s b H D I q=>h d s b H D I (c D b H q)
theorem km.imp{e:List Stmt}{t a:TS}(h:km X e t)(c:∀D b H,a D b H->t D b H):km X e a:=λd s b H D I q=>h d s b H D I (c D b H q)
theorem PG.imp{t a:TG}(h:PG X e t)(c:∀v b H Q,a v b H Q->t v b H Q):PG X e a:=λd s b H v u Q I r q=>h d s b H v u Q I r (c v b H Q q)
theorem PO.imp{e:Option aWp}{t a:TO}(h:PO X e t)(c:∀b H Q,a b H Q->t b H Q):PO X e a:=λd s b H Q I q=>h d s b H Q I (c b H Q q)
end L2
namespace TL
open PySem PySem.Spec PyProof.Rows L2
theorem nC:lim<=sizeLine:=by unfold lim;rw[aXx];decide
section
variable {X:Cx}
theorem QQ:hO X (aYb .Add) (xo X.K):=by
 intro S s L H x y v u Q I e z h;obtain⟨l,b,xs,M,rfl,rfl,D,hB,C,q⟩:=h;cases e;cases z;obtain⟨a,r,p,O⟩:=I.list D;obtain⟨ik,j,A,N⟩:=I.list hB;obtain⟨⟨J,G,t,sl⟩,k,o,n,m⟩:=id p.isList;obtain⟨⟨w,i,data2,g⟩,c,f,B,d⟩:=id A.isList;simp only at o m f d;subst o m f d;have R:=r.length;have P:=j.length;have K:=nC;have F:a.toArray++ik.toArray=(a++ik).toArray:=by simp
 refine concat_meets ⟨_,k,rfl⟩ ⟨_,c,rfl⟩ noFill_list_add seq_list_add PySem.F.slot_list_add PySem.F.entry_list_add (PySem.F.args_list_add_2 _ _)
  (list_addW l b a.toArray ik.toArray n B G i sl g (by rw[bF,bF];lia)) ⟨k,c,?_⟩
 rw[F];exact⟨.ref _,_,I.BZ (t':=s.toks) (r.append j) (by rw[aY];exact bB C K),rfl,q _ I.fresh⟩
def FV(xs vs:Xy):Option Xy:=match vs with
 | [y]=>if xs.length<lim then some (xs++[y])else none
 |_=>none
theorem N3{K:aL}:∀M a d c b vs xs,aB K M a d vs->aB K M a c xs->CG d c=some b->∃f,FV vs xs=some f/\aB K M a b f:=by
 intro M a d c b vs xs g k e;unfold CG at e;split at e
 .obtain⟨v,_,rfl,i,h⟩:=k.cons_inv;rw[h.nil_inv];split at e
  .rename_i j;cases e;refine⟨vs++[v],?_,g.append (.cons i .nil)⟩;show(if vs.length<lim then some (vs++[v])else none)=_;rw[aWc (by rw[g.length];exact j)]
  .cases e
 .cases e
theorem OW:G7 X "list.append" (E4 FV):=by
 intro i s a H x vs v b Q I c d h;obtain⟨l,xs,j,ex,g,e,q⟩:=h;unfold FV at e;split at e
 .split at e
  .rename_i f;cases e;exact Mr i s a H x _ v b Q I c d ⟨l,xs,_,ex,rfl,g,aM f nC,q⟩
  .cases e
 .cases e
def FI(xs vs:Xy):Option Xy:=match vs with
 | [.int i,y]=>if xs.length<lim/\ -(2^63)<=i/\i<2^63 then some (b5 xs i y)else none
 |_=>none
theorem P7{K:aL}:∀M a f d c vs xs,aB K M a f vs->aB K M a d xs->Cy f d=some c->∃h,FI vs xs=some h/\aB K M a c h:=by
 intro M a f d c vs xs b m e;unfold Cy at e;split at e
 .obtain⟨v,_,rfl,k,g⟩:=m.cons_inv;obtain⟨i,_,rfl,g,j⟩:=g.cons_inv;rw[j.nil_inv,k.int_inv];split at e
  .rename_i l;cases e;refine⟨b5 vs _ i,by
    show(if vs.length<lim/\_ then some (b5 vs _ i)else none)=_;rw[aWc (by rw[b.length];exact l)],?_⟩
   unfold b5;rw[b.length];exact(b.take _).append (.cons g (b.drop _))
  .cases e
 .cases e
theorem U7{a:Type}(xs:List a)(i:Int)(y:a):(b5 xs i y).length=xs.length+1:=by
 unfold b5;rw[aY,aN,eE,Zh];lia
theorem aA.b5{xs:Xy}{us:XI}{y:V}{u:aWf}(h:aA xs us)(r:RelV y u)(i:Int):aA (TL.b5 xs i y) (ZQ us i u):=by
 unfold TL.b5 ZQ;rw[h.length];exact(L2.aA.take _ h).append (.cons r (L2.aA.drop _ h))
theorem PQ:G7 X "list.insert" (E4 FI):=by
 intro y s m H x vs v p Q I f g h;obtain⟨l,xs,o,ex,d,e,q⟩:=h;subst ex;cases f;unfold FI at e;split at e
 .split at e
  .rename_i b;cases e;obtain⟨u,a,rfl,j,i⟩:=g.two;obtain⟨t,rfl⟩:=j;obtain⟨z,its,n,r,w,c⟩:=I.BV d;have k:=nC;refine call_meets PySem.F.slot_list_insert ⟨_,c,rfl⟩ PySem.F.entry_list_insert (PySem.F.args_list_insert_3 _ _ _) (PySem.AutoSeq1.list_insert_list_int_val_1 l its.toArray n _ t a (by rw[fitsIndex_both b.2.1 b.2.2];exact bQ) (by rw[bF];lia)) ⟨c,?_⟩;refine⟨.aF,_,I.BW (its':=ZQ its _ a) d c ?_ (aA.b5 r i _) ?_,rfl,q⟩
   .show(its.toArray.extract 0 _).push a++its.toArray.extract _=_;rw[PySem.W.kl_ins_eq,bF];rfl
   .rw[U7];exact bS (aM b.1 k)
  .cases e
 .cases e
theorem VA(m:X.calm=true):pG X (.builtin "sum") (CH X.K (λ_=>true) (λa=>a.sum)):=by
 intro e s v H xs w Q I r h;obtain⟨p,a,rfl,k,_,q⟩:=h;obtain⟨u,rfl,i⟩:=vals1 r;cases i;obtain⟨c,g,j,y⟩:=I.list k;have f:=qW g;obtain⟨b,d⟩:=f.allInts.items;have t:s.heap.IsList p (aXy b):=d ▸ j.isList;refine sum_intListG (I.ok.hd m) t λz tk x l=>?_;have o:a=b.toList.map (·.1):=by
  rw[<-nums_intItems,<-d];exact(show numsOf c.toArray.toList=a from f.numsOf).symm
 have n:preSum (aXu b) b.size=a.sum:=by
  rw[preSum_eq,YF (by simp),o]
 rw[n];exact⟨.int a.sum,H,I.kept l,⟨_,rfl⟩,q⟩
theorem Md:∀{c:XE},c≠[]->wK c∈c/\∀a∈c,a<=wK c:=by
 have key:∀(c:XE)(n:Int),(c.foldl (λa b=>if b>a then b else a) n=n\/c.foldl (λa b=>if b>a then b else a) n∈c)/\n<=c.foldl (λa b=>if b>a then b else a) n/\∀a∈c,a<=c.foldl (λa b=>if b>a then b else a) n:=by
  intro c;induction c with
  |nil=>intro n;simp
  |cons m c ih=>
   intro n;rw[Zi];obtain⟨h1,f,g⟩:=ih (if m>n then m else n);by_cases h:m>n
   .rw[aWc h]at h1 f g|-;refine⟨?_,bU (cG h f),λa d=>?_⟩
    .rcases h1 with h1|h1
     .rw[h1];simp
     .exact .inr (bA _ h1)
    .rcases fU d with rfl|d
     .exact f
     .exact g a d
   .rw[aWa h]at h1 f g|-;refine⟨?_,f,λa d=>?_⟩
    .rcases h1 with h1|h1
     .exact .inl h1
     .exact .inr (bA _ h1)
    .rcases fU d with rfl|d
     .exact bG (gT h) f
     .exact g a d
 intro c i;cases c with
 |nil=>exact absurd rfl i
 |cons n c=>
  obtain⟨h1,f,g⟩:=key c n;refine⟨?_,λa d=>?_⟩
  .rcases h1 with h1|h1
   .show Zk (λa b=>if b>a then b else a) n c∈n::c;rw[h1];simp
   .exact bA _ h1
  .rcases fU d with rfl|d
   .exact f
   .exact g a d
theorem U9(F:X.calm=true):pG X (.builtin "max") (CH X.K (λb=> !b.isEmpty) wK):=by
 intro Y s O H xs P Q I r h;obtain⟨p,b,rfl,C,N,q⟩:=h;obtain⟨u,rfl,z⟩:=vals1 r;cases z;obtain⟨c,y,A,R⟩:=I.list C;have w:=qW y;have m:b≠[]:=by rintro rfl;simp at N
 obtain⟨a,n⟩:=w.allInts.items;have L:s.heap.IsList p (aXy a):=n ▸ A.isList;have f:b=a.toList.map (·.1):=by
  rw[<-nums_intItems,<-n];exact(show numsOf c.toArray.toList=b from w.numsOf).symm
 have d:0<a.size:=by
  have x:0<b.length:=j3 m;rw[f,aP,cF]at x;exact x
 refine max_intList (I.ok.hd F) L d λv U tk B D=>?_;obtain⟨t,rfl⟩:=intItems_at B;obtain⟨S,J⟩:=argBest_gt (aXu a) (a.size - 1);obtain⟨l,k⟩:=Md m;obtain⟨M,G⟩:∃M,M=wK b:=⟨_,rfl⟩;rw[<-G]at l k q;have e:aXu a (aXv (λi j=>decide (aXu a i>aXu a j)) (a.size - 1))=M:=by
  apply cA
  .refine k _ ?_;rw[f,numAt_eq];exact getD_mem (by rw[aP,cF];lia)
  .have g:=l;rw[f]at g;obtain⟨j,o,K⟩:=mem_getD g;rw[aP,cF]at o;rw[<-K,<-numAt_eq];exact J j (Yx (bS o))
 exact⟨.int M,H,I.kept D,⟨_,by rw[e]⟩,q⟩
theorem Wu{bs:List Bool}:∀{a:XI},aA (bs.map V.bl) a->a=bs.map aWf.bool:=by
 induction bs with
 |nil=>intro a r;rw[bE]at r;cases r;rfl
 |cons n d ih=>
  intro a r;rw[aK]at r;cases r with
  |cons c b=>
   cases c;rw[ih b];rfl
theorem VW(bs:List Bool):((bH bs.length).all λi=>(bs[i]?).getD true)=bs.all id:=by
 rw[YB,YH,YH];constructor
 .intro h b d;obtain⟨i,a,rfl⟩:=List.getElem_of_mem d;have:=h i (lL a);simpa[aO a]using this
 .intro h i a;have c:=iC a;simpa[aO c]using h _ (e9 c)
theorem Rq{s:aWg}{a:aWi}{o:Obj}(d:∀b x,b∉[s.heap.objs.size]->(s.heap.push o).get? b=some x->a.get? b=some x):∀b x,s.heap.get? b=some x->a.get? b=some x:=
 λb x e=>d b x (λc=>by rw[gO c]at e;exact d4 _ (aWi.lt_size e)) (aWi.get?_push_of_some _ e)
theorem Vw(m:X.calm=true):pG X (.builtin "all") (BN X.K (λbs=>bs.all id)):=by
 intro A s t H xs w Q I r h;obtain⟨p,bs,rfl,k,q⟩:=h;obtain⟨u,rfl,g⟩:=vals1 r;cases g;obtain⟨j,f,c,y⟩:=I.list k;have n:=Wu f;subst n;have o:p<s.heap.objs.size:=c.lt;refine call_all_walk (wpAny_pyIter_list c.isList ?_);refine⟨s.heap.objs.size,[s.heap.objs.size,p],[s.heap.objs.size],(bs.map aWf.bool).toArray.size,_,_,λi=>(bs[i]?).getD true,rfl,Walks.list (A:=X.A.in1) (I.ok.hd m) _ p (bW o) (bs.map aWf.bool).toArray,
  ⟨⟨_,aWi.get?_push_size _ rfl,rfl,rfl⟩,c.isList.push _⟩,λi v x B C a d=>?_,λz tk l=>?_⟩
 .simp only[List.getElem?_toArray,bI]at a;cases e:bs[i]?with
  |none=>rw[e]at a;cases a
  |some b=>
   rw[e]at a;cases a;simp only[e,dA]at d;exact aXa d
 .have e:((bH (bs.map aWf.bool).toArray.size).all λi=>(bs[i]?).getD true)=bs.all id:=by
   rw[bF,aP];exact VW bs
  rw[e];exact⟨.bl _,H,I.kept (Rq l),rfl,q⟩
end
section
variable {X:Cx}{g:List (aWe×Obj)}{h:L2.St}{H:Hp}{s:aWg}
variable{i l:T}{b:Bool}
theorem Iy{A:aWn}{x y:V}{u v:aWf}(c:RT X.K H [] i x)(a:RT X.K H [] l y)(f:RelV x u)(d:RelV y v)(e:td i l=some b):SeqAt.EqAt A s u v b:=by
 unfold td at e;split at e<;>first
  | (cases e;done)
  | (cases e
     unfold RT at c a;subst c a;have q:=N1 (A:=A) (s:=s) f d rfl rfl;exact q)
theorem LB{x:V}(c:RT X.K H [] i x)(a:RT X.K H [] l x)(e:td i l=some b):b=true:=by
 unfold td at e;split at e<;>first
  | (cases e;done)
  | (cases e
     unfold RT at c a;rw[c]at a;first|rfl| (cases a;simp)| (exact nomatch a))
theorem K4{e:T->T->Option Bool}{vs:Xy}(j:∀i l x b,RT X.K H [] i x->RT X.K H [] l x->e i l=some b->b=true):∀{f a:Xw}{vs:Xy}{b:Bool},aB X.K H [] f vs->aB X.K H [] a vs->AJ e f a=some b->b=true
 | [],[],_,b,_,_,q=>by cases q;rfl
 |t::f,u::a,vs,b,o,n,q=>by
  obtain⟨v,r,rfl,A,y⟩:=o.cons_inv;obtain⟨B,C,z,w,p⟩:=n.cons_inv;cases z;unfold AJ at q;obtain⟨c,m,q⟩:=fE q;obtain⟨d,k,q⟩:=fG q;rw[j _ _ _ _ A w m,K4 (vs:=vs) j y p k]at q;exact q.symm
 | [],_::_,_,_,_,_,q=>by cases q
 |_::_,[],_,_,_,_,q=>by cases q
theorem US(I:Inv X g h H s):∀(n:Nat)(i l:T)(x:V)(b:Bool),RT X.K H [] i x->RT X.K H [] l x->eqT n i l=some b->b=true:=by
 intro n;induction n with
 |zero=>intro i l x b d c e;exact LB d c (by unfold eqT at e;exact e)
 |succ n ih=>
  intro i l x b d c e;by_cases m:∃xs f,i=.lst xs/\l=.lst f
  .obtain⟨xs,f,rfl,rfl⟩:=m;unfold RT at d c;obtain⟨a,vs,t,r,k⟩:=d;obtain⟨v,p,o,q,j⟩:=c;rw[t]at o;cases o;have:=I.fq r q;subst this;unfold eqT at e;rw[aWc (by rw[<-k.length,<-j.length])]at e;exact K4 (vs:=vs) ih k j e
  .have u:td i l=some b:=by
    unfold eqT at e;split at e
    .exact absurd ⟨_,_,rfl,rfl⟩ m
    .exact e
   exact LB d c u
theorem DV{e:T->T->Option Bool}{A:aWn}(D:∀i l x y u v b,RT X.K H [] i x->RT X.K H [] l y->RelV x u->RelV y v->e i l=some b->SeqAt.EqAt A s u v b):
 ∀{p o:Xw}{vs n:Xy}{is w:XI}{b:Bool},aB X.K H [] p vs->aB X.K H [] o n->aA vs is->aA n w->AJ e p o=some b->
  ∃f:Nat->Bool,(∀j u v,is[j]?=some u->w[j]?=some v->SeqAt.EqAt A s u v (f j))/\(bH is.length).all f=b
 | [],[],_,_,_,_,b,B,F,a,C,q=>by
   cases q;rw[B.nil_inv]at a;cases a;exact⟨λ_=>true,λj u v z=>by simp at z,rfl⟩
 |t::p,u::o,vs,n,is,w,b,B,F,a,C,q=>by
  obtain⟨v,r,rfl,Q,P⟩:=B.cons_inv;obtain⟨R,S,rfl,O,N⟩:=F.cons_inv;unfold AJ at q;obtain⟨c,M,q⟩:=fE q;obtain⟨d,L,q⟩:=fG q;cases a with
  |cons K I=>
   cases C with
   |cons J G=>
    obtain⟨f,f1,f2⟩:=DV D P N I G L;refine⟨λj=>match j with|0=>c|j+1=>f j,λj u v m k=>?_,?_⟩
    .cases j with
     |zero=>
      simp at m k;subst m k;exact D _ _ _ _ _ _ _ Q O K J M
     |succ j=>exact f1 j u v (by simpa using m) (by simpa using k)
    .rw[aN,Zy,List.all_cons,aUs,<-q,<-f2];rfl
 | [],_::_,_,_,_,_,_,_,_,_,_,q=>by cases q
 |_::_,[],_,_,_,_,_,_,_,_,_,q=>by cases q
theorem FY(I:Inv X g h H s):∀(n:Nat)(A:aWn)(i l:T)(x y:V)(u v:aWf)(b:Bool),A.units+n<aXc->RT X.K H [] i x->RT X.K H [] l y->RelV x u->RelV y v->eqT n i l=some b->SeqAt.EqAt A s u v b:=by
 intro n;induction n with
 |zero=>intro A i l x y u v b w k d o m e;exact Iy k d o m (by unfold eqT at e;exact e)
 |succ n ih=>
  intro A i l x y u v b w k d o m e;by_cases M:∃xs C,i=.lst xs/\l=.lst C
  .obtain⟨xs,C,rfl,rfl⟩:=M;have sm:x=y->b=true:=λz=>by subst z;exact US I _ _ _ _ _ k d e
   unfold RT at k d;obtain⟨a,vs,Q,O,t⟩:=k;obtain⟨c,ws,P,N,r⟩:=d;subst Q P;cases o;cases m;by_cases p:a=c
   .subst p;rw[sm rfl];exact SeqAt.EqAt.same _
   .obtain⟨is,F,J,z1⟩:=I.list O;obtain⟨js,D,G,z2⟩:=I.list N;have L:=F.length;have K:=D.length;unfold eqT at e;split at e
    .rename_i B;obtain⟨f,f1,f2⟩:=DV (A:=A.in1) (λi l x y u v b E Z Y U S=>ih A.in1 i l x y u v b (by show A.units+1+n<aXc;lia) E Z Y U S) t r F D e;have q:=SeqAt.EqAt.of_refs p (SeqAt.RcAt.lists (A:=A) (s:=s) (e:=f) J.isList G.isList (by rw[bF,bF,<-L,<-K,t.length,r.length];exact B) (dG w) λj k d=>
      f1 j _ _ (by simp) (by simp))
     rw[bF,f2]at q;exact q
    .rename_i B;cases e;refine SeqAt.EqAt.of_refs p (SeqAt.RcAt.lists_lengths J.isList G.isList ?_ (dG w));rw[bF,bF,<-L,<-K,t.length,r.length];simpa using B
  .have R:td i l=some b:=by
    unfold eqT at e;split at e
    .exact absurd ⟨_,_,rfl,rfl⟩ M
    .exact e
   exact Iy k d o m R
end
noncomputable def rS(a:List (Str×aWe)):List (Str×aWx)->List (Str×aWe)->Option (List (Str×aWe))
 | [],b=>some b
 | (n,k)::r,b=>if(k==aWx.free)=true then(match a.lookup n with
  |some c=>rS a r ((n,c)::b)
  |none=>none)else rS a r b
theorem z6{env:Env}:∀(f:List (Str×aWx))(a b:List (Str×aWe)),rS env.cells f a=some b->
 (forIn f a fun(x:Str×aWx) (g:List (Str×aWe))=>if(x.2==aWx.free)=true then do let c<-cellOf env x.1;pure (ForInStep.yield ((x.1,c)::g))else pure (ForInStep.yield g):Sem (List (Str×aWe)))=pure b
 | [],a,b,e=>by cases e;rfl
 | (n,k)::r,a,b,e=>by
   unfold rS at e;rw[List.forIn_cons];split at e
   .rename_i d;split at e
    .rename_i c h;have:=z6 r _ b e;simp only[d,if_true];unfold cellOf;rw[h];exact this
    .cases e
   .rename_i d;have:=z6 r _ b e;simp only[d,if_false];exact this
theorem Ke{env:Env}{a:aXt}{b:List (Str×aWe)}(e:rS env.cells a.names []=some b):closureFor a env=pure b:=by
 have h:=z6 a.names [] b e;unfold closureFor;first
  |exact h
  | (simp only[bind_pure]at*;exact h)
  | (show(forIn a.names [] _>>=λr=>pure r)=pure b;rw[bind_pure];exact h)
theorem vZ{a:List (Str×aWe)}:∀(i:List (Str×aWx))(b f:List (Str×aWe)),rS a i b=some f->(∀x c,b.lookup x=some c->a.lookup x=some c)->
 (∀x c,f.lookup x=some c->a.lookup x=some c)
 | [],b,f,e,h=>by cases e;exact h
 | (n,k)::r,b,f,e,h=>by
   unfold rS at e;split at e
   .split at e
    .rename_i c j;refine vZ r _ f e λx d g=>?_;rw[cL]at g;split at g
     .rename_i q;cases g;rw[eq_of_beq q];exact j
     .exact h x d g
    .cases e
   .exact vZ r _ f e h
theorem sY{b:List (Str×aWe)}:∀(g:List (Str×aWx))(a f:List (Str×aWe)),rS b g a=some f->∀x,((x,aWx.free)∈g\/∃c,a.lookup x=some c)->∃c,f.lookup x=some c
 | [],a,f,e,x,h=>by
   cases e;rcases h with h|h
   .cases h
   .exact h
 | (n,k)::r,a,f,e,x,h=>by
   unfold rS at e;split at e
   .split at e
    .rename_i c m;refine sY r _ f e x ?_;rcases h with h|h
     .rcases fU h with h|h
      .cases h;exact .inr ⟨c,by simp[cL]⟩
      .exact .inl h
     .obtain⟨d,l⟩:=h;by_cases i:(x==n)=true
      .exact .inr ⟨c,by rw[cL,i]⟩
      .refine .inr ⟨d,?_⟩;rw[cL];simp only[i];exact l
    .cases e
   .rename_i j;refine sY r _ f e x ?_;rcases h with h|h
    .rcases fU h with h|h
     .cases h;exact absurd rfl j
     .exact .inl h
    .exact .inr h
abbrev iN(X:Cx)(N:XJ)(a:aXt)(d:List (Str×aWe))(C:aWe)(b:aWg)(f:Hp)(c:List aWe):Cx:=
 {X with N:=N,eH:=b,aG:=f,env:=compEnvC a d C X.env,outer:=X.stack,stack:=X.stack,ex:=c,fn:=λ_=>false,pn:=[],xe:=λ_ _=>False}
theorem pA{env:Env}:∀{a:List (Str×aWx)}{x:Str},(∀y∈a,y.2≠ .cell)->
 ((a.map fun(n,k)=>if(k==aWx.free&&env.scope.kind== .function&&env.kindOf n==some .cell)=true then(n,aWx.cell)else(n,k)).lookup x=some .cell\/
  (a.map fun(n,k)=>if(k==aWx.free&&env.scope.kind== .function&&env.kindOf n==some .cell)=true then(n,aWx.cell)else(n,k)).lookup x=some .free)->(x,aWx.free)∈a
 | [],x,_,h=>by rcases h with h|h<;>simp at h
 | (n,k)::r,x,d,h=>by
   have ih:= @pA env r x (λy g=>d y (bA _ g));have i:k≠ .cell:=d (n,k) bM;rw[aK]at h;by_cases c:(x==n)=true
   .have f:x=n:=eq_of_beq c;subst f;by_cases b:(k==aWx.free&&env.scope.kind== .function&&env.kindOf x==some .cell)=true
    .have:k=.free:=by
      rw[Z6,Z6]at b;exact eq_of_beq b.1.1
     subst this;exact bM
    .simp only[aWa b,cL,c]at h;rcases h with h|h
     .cases h;exact absurd rfl i
     .cases h;exact bM
   .refine bA _ (ih ?_);by_cases b:(k==aWx.free&&env.scope.kind== .function&&env.kindOf n==some .cell)=true
    .simp only[aWc b,cL,c]at h;exact h
    .simp only[aWa b,cL,c]at h;exact h
structure n9(X:Cx)(own fr:XJ)(is:XG)(scope:aXt)(cl:List (Str×aWe)):Prop where
 th:rS X.env.cells scope.names []=some cl
 cell:∀y∈scope.names,y.2≠ .cell
 kind:scope.kind=.function
 names:∀y∈scope.names,y.2=.local->scope.names.lookup y.1=some .local
 pick:is.map (λi=>X.N[i]?)=fr.map some
 kx:fr.all (λx=>X.env.kindOf x==some .cell||X.env.kindOf x==some .free)=true
 ky:fr.all (λx=>(relabel scope X.env).names.lookup x==some .cell||(relabel scope X.env).names.lookup x==some .free)=true
section
variable {X:Cx}{B fr:XJ}{is:XG}{f:aXt}{F:List (Str×aWe)}
variable{L:List (aWe×Obj)}{K:L2.St}{s:aWg}{G:List aWe}{N iter O:aWp}{M:XO}{pos:Pos}{P:TE}{S:TI}
theorem Kp{x:Option aWx}(h:(x==some .cell||x==some .free)=true):x=some .cell\/x=some .free:=by
 rw[Bool.or_eq_true]at h;rcases h with h|h
 .exact .inl (eq_of_beq h)
 .exact .inr (eq_of_beq h)
theorem T3{H:Hp}{t:aWi}{tk:Nat}(k:n9 X B fr is f F)(I:Inv X L K H s)(n:∀b∈G,wV X L H b/\b<s.heap.objs.size)
 (hn:t.Ns s.heap.objs.size (λx=>([]:List (Str×aWf)).reverse.lookup x))(hs:aWi.SameBut s.heap.objs.size (s.heap.push {cls:=.type "dict",data:=.dict #[]}) t):
 Inv (iN X (B++fr) f F s.heap.objs.size s H G) [] (nR B.length is K) H {s with heap:=t,toks:=tk}:=by
 have Q:∀b o,s.heap.get? b=some o->t.get? b=some o:=λb o e=>(hs.2 b (bW (aWi.lt_size e))).trans (aWi.get?_push_of_some _ e);have sub:=vZ _ _ _ k.th (λx c z=>by simp at z);have Z:∀x c,F.lookup x=some c->∃v,s.heap.IsCell c v:=λx c e=>I.cell x c (sub x c e);have Y:∀{c v},s.heap.IsCell c v->t.IsCell c v:=fun⟨o,J,C⟩=>⟨o,Q _ o J,C⟩;have ye:∀x c,F.lookup x=some c->c≠s.heap.objs.size:=λx c e z=>by
  obtain⟨v,o,J,_⟩:=Z x c e;exact absurd (z ▸ aWi.lt_size J) (d4 _)
 refine⟨⟨I.ok.mod,k.kind,I.ok.glob,I.ok.blt,bD _,λx y c R a=>I.ok.inj x y c (sub x c R) (sub y c a),λx hx=>?_,λx c h=>(by cases h),I.ok.hd,I.ok.frames,.inl rfl,λb g=>⟨bW (n b g).2,λx c e=>(n b g).1.2.2.2.2.1 x c (sub x c e)⟩,
  λb o e=>I.bs b o e,bB I.ok.uq I.sz,λb o e g=>?_,λb g z=>?_,I.stack,I.ny⟩,
  rfl,I.bare,Un.kept Q,⟨_,hn,λi x v R a h3=>?_⟩,λx c e=>?_,I.bz.fresh (bD _),λx c e=>I.dv x c (sub x c e),λp hp=>absurd hp (by simp),I.bz.kept Q,?_⟩
 .have qf:(relabel f X.env).names.lookup x=some .cell\/(relabel f X.env).names.lookup x=some .free:=hx;exact sY _ _ _ k.th x (.inl (pA k.cell qf))
 .rcases(n b g).1.2.2.2.1 with z|z
  .exact I.ok.rz b o e z
  .exact absurd (aM (aWi.lt_size e) (bB I.ok.uq z)) (d4 _)
 .rcases fU (I.mm b z)with q|q
  .exact(n b g).1.2.1 q
  .exact(n b g).1.2.2.1 q
 .
  have A:¬i<B.length:=λA=>by
   unfold nR at a;rw[aR (by simpa using A),dR,aWc A]at a;cases a
  have dw:=cT A;unfold nR at a;rw[bL (by simpa using dw),bI]at a;simp only[Zd]at a;obtain⟨j,hj,z⟩:=fG a;have D:K[j]?=some (some v):=by
   cases q:K[j]?with
   |none=>rw[q]at z;cases z
   |some u=>rw[q]at z;exact congrArg some z
  have iw:fr[i - B.length]?=some x:=by
   have:(B++fr)[i]?=some x:=R;rw[bL dw]at this;exact this
  have hN:X.N[j]?=some x:=by
   have:=congrArg (λl=>l[i - B.length]?) k.pick;simp only[bI,hj,iw,YT]at this;exact dC.inj this
  have U:x∈fr:=aX iw;have kx:=Kp (YH.mp k.kx x U);have E:=Kp (YH.mp k.ky x U);obtain⟨m,_,hl⟩:=I.loc
  obtain⟨u,r,l⟩:=hl j x v hN D (by rcases kx with z|z;exact .inr (.inl z);exact .inr (.inr z))
  refine⟨u,r,.inr ⟨E,?_⟩⟩;rcases l with⟨z,_⟩| ⟨_,c,e,q⟩
  .rcases kx with w|w<;>(rw[w]at z;cases z)
  .obtain⟨d,C⟩:=sY _ _ _ k.th x (.inl (pA k.cell E));have:=sub x d C;rw[e]at this;cases this;exact⟨c,C,Y q⟩
 .obtain⟨v,q⟩:=Z x c e;exact⟨v,Y q⟩
 .unfold nR;show _=(B++fr).length;have:=congrArg XX k.pick;simp only[aP]at this;simp[this]
theorem Vt{w:L2.St}{H a:Hp}{s':aWg}{g:aWi}(I:Inv X L K H s)(i:∀b∈G,wV X L H b)
 (J:Inv (iN X (B++fr) f F s.heap.objs.size s H G) [] w a s')(h:aWi.SameBut s.heap.objs.size s'.heap g):Inv X L K a {s' with heap:=g}:=by
 have u:Un (b4 X.stack) G H a s.heap s'.heap:=J.base;have l:∀b o,s.heap.get? b=some o->b≠s.heap.objs.size:=λb o e=>bW (aWi.lt_size e);have t:Un (b4 X.stack) G H a s.heap g:=⟨λb o e n p d=>(h.2 b (l b o e)).trans (u.keep b o e n p d),λb o e n p d=>by
  obtain⟨sl,q⟩:=u.slot b o e n p d;exact⟨sl,(h.2 b (l b o e)).trans q⟩,u.free,λb o e d=>by
  obtain⟨v,q⟩:=u.there b o e d;exact⟨v,(h.2 b (l b o e)).trans q⟩,u.ki,u.jj,u.kj⟩
 have r:a s.heap.objs.size=none:=J.free;have m:gg X.prog X.w a g:=λb ob e=>by
  refine(J.bz b ob e).ig (λc x j q=>(h.2 c ?_).trans q) (λ_ q=>q) λ_ _ q=>q;rintro rfl;rcases j with rfl|j
  .rw[r]at e;cases e
  .rw[r]at j;cases j
 exact I.Cc (s':={s' with heap:=g}) J.os t m J.bare λb k=>⟨(i b k).2.2.2.1,(i b k).2.1,(i b k).2.2.2.2.1,(i b k).2.2.2.2.2⟩
theorem W9{b:aWm}{w:aWr}{A:aWn}{R:Result->aWg->Prop}{a:aWp}{f:aXt}{k g:aWf}{env:Env}(I:Nat->aWg->Prop)
 (j:∀n s,I n s->aWj (aWl b w) A (pyNext k) (λr i=>match r with
  |none=>R (.ok .next) i
  |some v=>aWj (aWl b w) A (aYm a k v) (λ_ i=>aWj (aWl b w) A (aYc a env v) (λ_ bq=>
   aWj (aWl b w) A (forIn M true λc r=>if r=true then do let ok<-isTrue c env (aWq c env);pure (ForInStep.yield ok)else pure (ForInStep.yield r)) (λok o=>
    if ok=true then aWj (aWl b w) A (aWq N env) (λx t=>
     aWj (aWl b w) A (call (.builtin "list.append") [g,x]) (λ_ p=>∃m,m<n/\I m p) (λ_ _=>False) t) (λ_ _=>False) o
    else∃m,m<n/\I m o) (λ_ _=>False) bq) (λ_ _=>False) i) (λ_ _=>False) i) (λ_ _=>False) s)
 (n:Nat)(h:I n s):
 aXz (aWl b w) A (.compLoop (.ListComp N [⟨a,iter,M,0⟩] f pos) 0 k g env) R s:=by
 refine codeAny_loop rfl I (λn s z=>?_) n h;show aWj _ A ((compTurn (.ListComp N [⟨a,iter,M,0⟩] f pos) 0 k g env).onRaise (λx=>do noteFrame x env;theTreesLotGoes x)) _ _ s;refine wpAny_noted ?_;rw[compTurn_list];refine aWb (aYe (aWb (aXb (j n s z) (λr i l=>?_) λ_ _ d=>d.elim)));cases r with
 |none=>exact aWh l
 |some v=>
  refine aWb (aXb l (λ_ i l=>?_) λ_ _ d=>d.elim);refine aWb (aXb l (λ_ bq e=>aWb (aXb e (λok o q=>?_) λ_ _ d=>d.elim)) λ_ _ d=>d.elim);cases ok with
  |false=>exact aWh ⟨rfl,q⟩
  |true=>
   exact aWb (aWb (aXb q (λx t u=>aWb (aXb u (λ_ p y=>aWh (aWh ⟨rfl,y⟩)) λ_ _ d=>d.elim)) λ_ _ d=>d.elim))
def vm(X:Cx)(M:XO)(t:TT):Prop:=
 ∀(L:List (aWe×Obj))(s:aWg)(K:L2.St)(H:Hp)(Q:Bool->Hp->Prop),Inv X L K H s->t K H Q->
  aWj (aWl X.prog X.w) X.A (forIn M true λc r=>if r=true then do let ok<-isTrue c X.env (aWq c X.env);pure (ForInStep.yield ok)else pure (ForInStep.yield r)) (TP X L K Q) X.xe s
theorem Sv:vm X [] (λ_ H Q=>Q true H):=λ_ _ _ H _ I h=>wpAny_tests_nil ⟨H,I,h⟩
theorem RO{c:aWp}{t:TT}(h:PT X c t):vm X [c] t:=λL s K H Q I q=>wpAny_tests_one (h L s K H Q I q)
theorem MG{g:TG}{tc:TT}{w:Hp}{a:aWg}{it:aWe}{tn:Nat->aWi->Prop}{J:It}{Q:VK}
 {RR:aWf->aWe->Result->aWg->Prop}{E:XN}
 (hc:X.calm=true)(k:n9 X B fr is f F)
 (hg:∀C I t G,PG (iN X (B++fr) f F C I t G) O g)(ht:∀C I t G,vm (iN X (B++fr) f F C I t G) M tc)(he:∀C I t G,PE (iN X (B++fr) f F C I t G) N P)
 (I2:Inv X L K w a)(T:Turn X.prog X.w X.K O J G it tn)(lm:tn 0 a.heap)(f2:∀b∈G,wV X L w b)
 (q:∀D,w D=none->∃W:Nat->Nat->L2.St->Hp->Prop,(∃m,W 0 m (nR B.length is K) (upd w D (.lst [])))/\∀i m gu H,W i m gu H->
  (J.stop i H/\Q (.ref D) H)\/(J.go i H/\∀x j,J.yx i H x j->g x gu j λbr w=>tc br w λb t=>
   if b=true then P br t λy H4=>∃ys l,H4 D=some (.lst ys)/\ys.length<lim/\l<m/\W (i+1) l br (upd H4 D (.lst (ys++[y])))else∃l,l<m/\W (i+1) l br t))
 (hRR:∀D C j U,(∃m,U.heap.Ns C m)->(∀h',aWi.SameBut C U.heap h'->Inv X L K j {U with heap:=h'})->j C=none->a.heap.objs.size<=C->Q (.ref D) j->RR (.ref D) C (.ok .next) U):
 aWj (aWl X.prog X.w) X.A (newList []) (λacc ce=>aWj (aWl X.prog X.w) X.A (newFunctionEnv f X.env.globals F [] X.env.qual none .none (some X.env)) (λwl kl=>
  aXz (aWl X.prog X.w) X.A (.compStart (.ListComp N [⟨O,iter,M,0⟩] f pos) 0 (.ref it) acc {wl with scope:=relabel f X.env}) (RR acc wl.locals) kl) E ce) E a:=by
 refine aXr (wpAny_newFunctionEnv k.cell (by intro y hy;simp at hy) (λbj nh jf=>?_) k.kind);have I3:Inv X L K (upd w a.heap.objs.size (.lst [])) {a with heap:=a.heap.push {cls:=.type "list",data:=.seq ([]:XI).toArray}}:=I2.BZ (t':=a.toks) (its:=[]) .nil (dF _);have hD:w a.heap.objs.size=none:=I2.fresh;obtain⟨W,⟨m0,w0⟩,turn⟩:=q _ hD;have aw:∀b∈G,b<a.heap.objs.size:=λb h=>by
  obtain⟨o,e,_⟩:=T.obj _ _ lm b h;exact aWi.lt_size e
 have f3:∀b∈G,wV X L (upd w a.heap.objs.size (.lst [])) b/\b<(a.heap.push {cls:=.type "list",data:=.seq ([]:XI).toArray}).objs.size:=λb h=>
  ⟨⟨by rw[gJ (bW (aw b h))];exact(f2 b h).1,(f2 b h).2⟩,by rw[aWi.size_push];exact cI (aw b h)⟩
 have J0:=T3 (tk:=a.toks+([]:List (Str×aWf)).length) k I3 f3 nh jf;have kept:∀b o,a.heap.get? b=some o->bj.get? b=some o:=λb o e=>(jf.2 b (by
  show b≠(a.heap.push _).objs.size;rw[aWi.size_push];exact bW (cI (aWi.lt_size e)))).trans (aWi.get?_push_of_some _ (aWi.get?_push_of_some _ e))
 have st4:tn 0 bj:=T.keep _ _ _ lm λb _ o e=>kept b o e;have gj:∀{j:Hp},(∀b∈G,j b=none)->∀b∈G,wV (iN X (B++fr) f F (a.heap.push {cls:=.type "list",data:=.seq ([]:XI).toArray}).objs.size {a with heap:=a.heap.push {cls:=.type "list",data:=.seq ([]:XI).toArray}} (upd w a.heap.objs.size (.lst [])) G) [] j b:=λhn b h=>
  ⟨hn b h,bW (f3 b h).2,λz=>J0.ok.ta b h z,.inl h,λx c e=>(J0.ok.EU b h).2 x c e,λp hp=>absurd hp (by simp)⟩
 have R:aXz (aWl X.prog X.w) X.A (.compLoop (.ListComp N [⟨O,iter,M,0⟩] f pos) 0 (.ref it) (.ref a.heap.objs.size) (compEnvC f F (a.heap.push {cls:=.type "list",data:=.seq ([]:XI).toArray}).objs.size X.env))
  (RR (.ref a.heap.objs.size) (a.heap.push {cls:=.type "list",data:=.seq ([]:XI).toArray}).objs.size) {a with heap:=bj,toks:=a.toks+([]:List (Str×aWf)).length}:=by
  refine W9 (λn U=>∃i ai j,Inv (iN X (B++fr) f F (a.heap.push {cls:=.type "list",data:=.seq ([]:XI).toArray}).objs.size {a with heap:=a.heap.push {cls:=.type "list",data:=.seq ([]:XI).toArray}} (upd w a.heap.objs.size (.lst [])) G) [] ai j U/\tn i U.heap/\(∀b∈G,j b=none)/\W i n ai j) ?_ m0
   ⟨0,_,_,J0,st4,λb h=>(f3 b h).1.1,w0⟩
  rintro n I ⟨i,cq,t,I3',sk,we,w3⟩;rcases turn i n cq t w3 with⟨stop,qn⟩| ⟨go,step⟩
  .refine aI (T.done (iN X (B++fr) f F _ _ _ G) rfl rfl rfl hc i [] I cq t (λ_ _=>False) I3' (gj we) sk stop) λr s4 ⟨hr,I4⟩=>?_;subst hr;obtain⟨m,Y,_⟩:=I4.loc;refine hRR _ _ t s4 ⟨m,Y⟩ (λh' qh=>?_) I4.free ?_ qn
   .have:=Vt I3 (λb h=>(f3 b h).1) I4 qh;exact this
   .show a.heap.objs.size<=(a.heap.push _).objs.size;rw[aWi.size_push];exact XQ _
  .refine aI (T.item (iN X (B++fr) f F _ _ _ G) rfl rfl rfl hc i [] I cq t (λ_ _=>False) I3' (gj we) sk go) λr s4 A=>?_;obtain⟨u,hr,h4⟩:=A;subst hr;refine aI h4 λ_ s5 A=>?_;obtain⟨x,H5,I5,r5,y5,ms,fr5⟩:=A;have I5':=I5.pinned (gj fr5) (T.obj _ _ ms);refine aI (hg _ _ _ _ _ s5 cq H5 x u _ I5' r5 (step x H5 y5)) λ_ s6 A=>?_;obtain⟨pq,H6,I6,q6⟩:=A;refine aI (ht _ _ _ _ _ s6 pq H6 _ I6 q6) λok Z A=>?_;obtain⟨H7,I7,q7⟩:=A;have back:∀{gc:L2.St}{H7:Hp}{Z:aWg}{l:Nat},Inv (iN X (B++fr) f F (a.heap.push {cls:=.type "list",data:=.seq ([]:XI).toArray}).objs.size {a with heap:=a.heap.push {cls:=.type "list",data:=.seq ([]:XI).toArray}} (upd w a.heap.objs.size (.lst [])) G) ([]++CP G s5.heap) gc H7 Z->l<n->W (i+1) l gc H7->
    ∃m,m<n/\∃i ai j,Inv (iN X (B++fr) f F (a.heap.push {cls:=.type "list",data:=.seq ([]:XI).toArray}).objs.size {a with heap:=a.heap.push {cls:=.type "list",data:=.seq ([]:XI).toArray}} (upd w a.heap.objs.size (.lst [])) G) [] ai j Z/\tn i Z.heap/\(∀b∈G,j b=none)/\W i m ai j:=λ{gc H7 Z l} I7 Y w7=>by
    refine⟨l,Y,i+1,gc,H7,I7.gx,T.keep _ _ _ ms λb h o e=>(I7.pin (b,o) (cR _ (cR _ (qT h e)))).1,λb h=>?_,w7⟩;obtain⟨o,e,d⟩:=T.obj _ _ ms b h;exact(I7.pin (b,o) (cR _ (cR _ (qT h e)))).2.1
   cases ok with
   |false=>
    try dsimp only at q7
    try dsimp only
    rw[aWa (by simp)]at q7|-;obtain⟨l,Y,w7⟩:=q7;exact back I7 Y w7
   |true=>
    try dsimp only at q7
    try dsimp only
    rw[aWc rfl]at q7|-;refine aI (he _ _ _ _ _ Z pq H7 _ I7 q7) λy s8 A=>?_;obtain⟨v,H8,I8,r8,ys,l,e8,l8,Y,w8⟩:=A;refine aI (Mr _ s8 pq H8 (.ref a.heap.objs.size) [v] (.ref a.heap.objs.size) [y] (λ_ H9=>W (i+1) l pq H9) I8 rfl (.cons r8 .nil) ⟨_,ys,v,rfl,rfl,e8,aM l8 nC,w8⟩) λ_ s9 A=>?_;obtain⟨_,H9,I9,_,w9⟩:=A;exact back I9 Y w9
 exact codeAny_compStart_list R (T.self X.A 0 _ _ _ st4 R)
theorem yN{g:TG}{i:TT}(w:X.calm=true)(k:n9 X B fr is f F)(r:PI X O iter S)
 (t:∀C a b G,PG (iN X (B++fr) f F C a b G) O g)(o:∀C a b G,vm (iN X (B++fr) f F C a b G) M i)(u:∀C a b G,PE (iN X (B++fr) f F C a b G) N P)
 (p:∀x,aWo iter X.env x=pure x:=by intro _;rfl):PE X (.ListComp N [⟨O,iter,M,0⟩] f pos) (Bo S (nR B.length is) g i P):=by
 intro L s K H Q I h;rw[eval_ListComp];refine wpAny_comprehension_free (use:=none) rfl p (Ke k.th) k.kind k.names (aI (r L s K H _ I h) λv s1 A=>aI A λZ s2 z=>?_);obtain⟨it,G,E,J,H2,e,U,T,n,f2,q⟩:=z;subst e;refine MG (RR:=λd C=>compPost (aWl X.prog X.w) X.A X.xe none (EP X L K Q) d C) w k t o u U T n f2 q ?_;intro D C Y s' c y _ _ l;obtain⟨m,c⟩:=c;exact⟨m,c,λR j=>⟨.ref D,Y,y R j,rfl,l⟩⟩
theorem q8{n bv:Pos}{g:TG}{tc:TT}{i:Nat}{x:Str}(hN:X.N.Nodup)(hx:X.N[i]?=some x)(E:X.env.scope.names.lookup x=some .local)
 (hc:X.calm=true)(k:n9 X B fr is f F)(hi:PI X O iter S)
 (hg:∀C r u G,PG (iN X (B++fr) f F C r u G) O g)(ht:∀C r u G,vm (iN X (B++fr) f F C r u G) M tc)(he:∀C r u G,PE (iN X (B++fr) f F C r u G) N P)
 (iy:aXd (.ListComp N [⟨O,iter,M,0⟩] f pos) (some (.Name x n)) bv.line X.env=pure true)
 (hs:∀x,aWo iter X.env x=pure x:=by intro _;rfl):PS X (.Assign [.Name x n] (.ListComp N [⟨O,iter,M,0⟩] f pos) bv) (Ar (Bo S (nR B.length is) g tc P) (vL i)):=by
 intro L s K H D I h;rw[exec_Assign_Name_used _ _ _ _ iy];refine aWb (aYe (aWb ?_));show aWj _ X.A (do let _<-comprehension (.ListComp N [⟨O,iter,M,0⟩] f pos) f X.env _ (newList []) false (aWq iter X.env) (some (aYc (.Name x n) X.env))) _ _ s;refine aWb (aXb (wpAny_comprehension_free (use:=some (aYc (.Name x n) X.env)) (Q:=λ_ j=>SP X L D .next j) rfl hs (Ke k.th) k.kind k.names
  (aI (hi L s K H _ I h) λv s1 h1=>aI h1 λxb s2 h2=>?_)) (λ_ j hq=>aWh (aWh hq)) λ_ _ e=>e)
 obtain⟨it,G,tn,J,H2,e,t,T,lm,f2,q⟩:=h2;subst e;refine MG (Q:=λv H1=>D.nx (K.set i (some v)) H1) (RR:=λY C=>compPost (aWl X.prog X.w) X.A X.xe (some (aYc (.Name x n) X.env)) (λ_ j=>SP X L D .next j) Y C) hc k hg ht he t T lm f2 q ?_;intro A C H' j Q hI hC ax qD;obtain⟨m,Q⟩:=Q;show aWj _ X.A (aYc (.Name x n) X.env (.ref A)) _ _ _;have I':Inv X L K H' j:=hI j.heap (aWi.SameBut.refl ..);refine wpAny_assign_Name (Ma (v:=.ref A) I' hN hx (.inl E) rfl (λsu Z bu=>?_) (.inr E));obtain⟨a,sb,U⟩:=bu;have d:∀b o,s2.heap.get? b=some o->C≠b:=λb o e z=>by
  subst z;exact absurd (aM (aWi.lt_size e) ax) (d4 _)
 have hl:∃o,s2.heap.get? X.env.locals=some o:=let ⟨_,⟨o,_,_,l,_⟩,_⟩:=t.loc;⟨o,l⟩
 have iu:∀y c,X.env.cells.lookup y=some c->C≠c:=λy c e=>by
  obtain⟨v,o,l,_⟩:=t.cell y c e;exact d c o l
 have R:C≠a:=by
  rcases U with rfl|U
  .obtain⟨o,l⟩:=hl;exact d _ o l
  .exact iu x a U
 refine⟨m,Q.sameBut sb R,λh3 w=>⟨K.set i (some (.ref A)),H',?_,qD⟩⟩;refine Z.turned (t':=su.toks) (λb o hb e=>(w.2 b hb).trans e) hC ?_ (.inr (bB t.sz ax)) (λy c e=>Ne.symm (iu y c e)) λp hp=>?_
 .obtain⟨o,l⟩:=hl;exact d _ o l
 .exact Ne.symm (d _ _ (t.pin p hp).1)
end
section
variable {X:Cx}
variable{A:aWn}{s:aWg}{rs:List (aWf×Bool)}
theorem IT(J:X.A.units+20<aXc):hO X (aWy .Eq) (E9 X.K false):=by
 intro U s L H x y u v Q I n m h;obtain⟨l,k,b,g,d,e,q⟩:=h;have P:Q (.bl b) H:=q;have fin:EP X U L Q (.bool b) s:=⟨.bl b,H,I,rfl,P⟩;by_cases K:∃xs w,l=.lst xs/\k=.lst w
 .obtain⟨xs,w,rfl,rfl⟩:=K;unfold RT at g d;obtain⟨a,vs,S,O,p⟩:=g;obtain⟨c,ws,R,N,o⟩:=d;subst S R;cases n;cases m;obtain⟨is,B,D,z1⟩:=I.list O;obtain⟨js,z,C,z2⟩:=I.list N;have G:=B.length;have F:=z.length;unfold eqT at e;split at e
  .rename_i r;obtain⟨f,f1,f2⟩:=DV (A:=X.A.in1) (λl k x y u v b a1 a2 E Z Y=>FY I _ X.A.in1 l k x y u v b (by show X.A.units+1+4<aXc;lia) a1 a2 E Z Y) p o B z e;refine SeqAt.eq_listAt (e:=f) D.isList C.isList (by rw[bF,bF,<-G,<-F,p.length,o.length];exact r) (dG J) (λj g d=>
    f1 j _ _ (by simp) (by simp)) ?_
   rw[bF,f2];exact fin
  .rename_i r;cases e;refine SeqAt.eq_list_lengthsAt D.isList C.isList ?_ (dG J) fin;rw[bF,bF,<-G,<-F,p.length,o.length];simpa using r
 .have i:td l k=some b:=by
   unfold eqT at e;split at e
   .exact absurd ⟨_,_,rfl,rfl⟩ K
   .exact e
  unfold td at i;split at i
  .cases i;unfold RT at g d;subst g d;cases n;cases m;exact SeqAt.RcAt.bool_bool _ _ _ _ _ _ fin
  .cases i;unfold RT at g d;subst g d;obtain⟨t,rfl⟩:=n;obtain⟨M,rfl⟩:=m;exact SeqAt.RcAt.int_int _ _ _ _ _ _ _ _ fin
  .cases i;unfold RT at g d;subst g d;obtain⟨t,rfl⟩:=n;obtain⟨M,rfl⟩:=m;exact SeqAt.RcAt.str_str _ _ _ _ _ _ _ _ fin
  .cases i
theorem NY(L:X.A.units+20<aXc):hO X (aWy .NotEq) (E9 X.K true):=by
 intro r s k H x y u v Q I o n h;obtain⟨m,l,b,g,d,e,q⟩:=h;have p:Q (.bl (!b)) H:=q;have fin:EP X r k Q (.bool (!b)) s:=⟨.bl (!b),H,I,rfl,p⟩;by_cases M:∃xs B,m=.lst xs/\l=.lst B
 .obtain⟨xs,B,rfl,rfl⟩:=M;unfold RT at g d;obtain⟨a,vs,R,O,w⟩:=g;obtain⟨c,ws,P,N,t⟩:=d;subst R P;cases o;cases n;obtain⟨is,D,G,z1⟩:=I.list O;obtain⟨js,C,F,z2⟩:=I.list N;have K:=D.length;have J:=C.length;unfold eqT at e;split at e
  .rename_i z;obtain⟨f,f1,f2⟩:=DV (A:=X.A.in1) (λm l x y u v b E Z Y U S=>FY I _ X.A.in1 m l x y u v b (by show X.A.units+1+4<aXc;lia) E Z Y U S) w t D C e;refine SeqAt.RcNeAt.lists (e:=f) G.isList F.isList (by rw[bF,bF,<-K,<-J,w.length,t.length];exact z) (dG L) (λj g d=>
    f1 j _ _ (by simp) (by simp)) _ _ _ _ ?_
   rw[bF,f2];exact fin
  .rename_i z;cases e;refine SeqAt.RcNeAt.lists_lengths G.isList F.isList ?_ (dG L) _ _ _ _ fin;rw[bF,bF,<-K,<-J,w.length,t.length];simpa using z
 .have i:td m l=some b:=by
   unfold eqT at e;split at e
   .exact absurd ⟨_,_,rfl,rfl⟩ M
   .exact e
  unfold td at i;split at i
  .cases i;unfold RT at g d;subst g d;exact FH r s k H _ _ u v Q I o n ⟨rfl,by rw[Jo];exact p⟩
  .cases i;unfold RT at g d;subst g d;exact FH r s k H _ _ u v Q I o n ⟨rfl,by rw[JE];exact p⟩
  .cases i;unfold RT at g d;subst g d;exact FH r s k H _ _ u v Q I o n ⟨rfl,by rw[Kh];exact p⟩
  .cases i
theorem F1{t:T}{x:V}{u:aWf}{A:aWn}{B:List (aWe×Obj)}{s:aWg}{k:L2.St}{H:Hp}(I:Inv X B k H s)(j:A.units+5<aXc)(h:RT X.K H [] t x)(r:RelV x u):
 ∀{g:Xw}{vs:Xy}{is:XI}{b:Bool},aB X.K H [] g vs->aA vs is->xu (λy=>eqT 5 y t) g=some b->∃rs:List (aWf×Bool),rs.map (·.1)=is/\(∀p∈rs,SeqAt.EqAt A s p.1 u p.2)/\b=rs.any (·.2)
 | [],_,_,b,i,f,q=>by
   cases q;rw[i.nil_inv]at f;cases f;exact⟨[],rfl,(λp a=>nomatch a),rfl⟩
 |w::g,_,_,b,i,f,q=>by
  obtain⟨v,F,rfl,D,C⟩:=i.cons_inv;unfold xu at q;obtain⟨c,e,q⟩:=fE q;obtain⟨d,z,q⟩:=fG q;cases f with
  |cons m l=>
   obtain⟨rs,o,n,w3⟩:=F1 I j h r C l z;refine⟨(_,c)::rs,by rw[aK,o],λp a=>?_,by rw[YN,<-w3,q]⟩;rcases fU a with rfl|a
   .exact FY I 5 A w t _ _ _ _ c j D h m r e
   .exact n p a
open Classical in
noncomputable def rZ(rs:List (aWf×Bool))(y:aWf):Bool:=if∃p∈rs,p.1=y/\p.2=true then true else false
theorem Jj{u y:aWf}(h:∀p∈rs,SeqAt.EqAt A s p.1 u p.2)(b:y∈rs.map (·.1)):SeqAt.EqAt A s y u (rZ rs y):=by
 unfold rZ;split
 .rename_i d;obtain⟨p,a,rfl,e⟩:=d;rw[<-e];exact h p a
 .rename_i c;obtain⟨p,a,rfl⟩:=fY b;have:p.2=false:=by
   cases e:p.2 with
   |false=>rfl
   |true=>exact absurd ⟨p,a,rfl,e⟩ c
  rw[<-this];exact h p a
theorem Kc:(rs.map (·.1)).any (rZ rs)=rs.any (·.2):=by
 rw[YB,aTZ,aTZ];constructor
 .rintro⟨y,c,e⟩;unfold rZ at e;split at e
  .rename_i b;obtain⟨p,a,_,e⟩:=b;exact⟨p,a,e⟩
  .cases e
 .rintro⟨p,a,e⟩;refine⟨p.1,iG ⟨p,a,rfl⟩,?_⟩;unfold rZ;rw[aWc ⟨p,a,rfl,e⟩]
theorem O2(w:X.A.units+20<aXc):hO X (aWy .In) (E6 X.K false):=by
 intro z s n H x y u v Q I g f h;obtain⟨t,p,vs,r,b,m,rfl,l,k,e,q⟩:=h;cases f;obtain⟨is,d,i,o⟩:=I.list l;obtain⟨rs,c,a,w3⟩:=F1 (A:=X.A.in1) I (by show X.A.units+1+5<aXc;lia) m g k d e;subst c;refine SeqAt.in_listAt (rZ rs) i.isList (λy j=>Jj a (by simpa using j)) ?_;rw[show(rs.map (·.1)).toArray.any (rZ rs)=(rs.map (·.1)).any (rZ rs)by simp,Kc,<-w3];exact⟨.bl b,H,I,rfl,q⟩
theorem Vo(w:X.A.units+20<aXc):hO X (aWy .NotIn) (E6 X.K true):=by
 intro z s n H x y u v Q I g f h;obtain⟨t,p,vs,r,b,m,rfl,l,k,e,q⟩:=h;cases f;obtain⟨is,d,i,o⟩:=I.list l;obtain⟨rs,c,a,w3⟩:=F1 (A:=X.A.in1) I (by show X.A.units+1+5<aXc;lia) m g k d e;subst c;refine SeqAt.notIn_listAt (rZ rs) i.isList (λy j=>Jj a (by simpa using j)) ?_;rw[show(rs.map (·.1)).toArray.any (rZ rs)=(rs.map (·.1)).any (rZ rs)by simp,Kc,<-w3];exact⟨.bl (!b),H,I,rfl,q⟩
theorem MM{c:aWm}{w:aWr}{A:aWn}{E:XN}{b t:aWe}{items:Array aWf}(j:t≠b):∀(n i:Nat)(s:aWg)(Q:XI->aWg->Prop),s.heap.IsListIter b t i->s.heap.IsList t items->i+n<=items.size->
 (∀f,f.IsListIter b t (i+n)->aWi.SameBut b s.heap f->Q ((items.toList.drop i).take n) {s with heap:=f})->aWj (aWl c w) A (draw (.ref b) n) Q E s
 |0,i,s,Q,a,_,_,d=>by
  show aWj _ _ (pure []) Q E s;exact aWh (by simpa using d s.heap a (aWi.SameBut.refl ..))
 |n+1,i,s,Q,a,g,o,d=>by
  have k:i<items.size:=by lia
  show aWj _ _ (pyNext (.ref b)>>=_) Q E s;refine aWb (wpAny_pyNext_list_item a g (x:=items[i]) (by simp[k]) λu q h=>?_);refine aWb (aWv (MM j n (i+1) _ _ q (g.extBut h.extBut j) (by lia) λr m l=>aWh ?_));have p:items.toList.drop i=items[i]::items.toList.drop (i+1):=by simp[YZ,k]
  have:=d r (by rw[show i+(n+1)=i+1+n from eS (XU (Yk i 1 n) (fB i n 1))];exact m) (h.trans l);rw[p,aTD]at this;exact this
theorem v6{a:aWm}{w:aWr}{E:XN}{t:aWe}{items:Array aWf}{Q:XI->aWg->Prop}(m:A.handled=none)(c:s.heap.IsList t items)
 (n:∀f,aWi.ExtBut s.heap.objs.size s.heap f->Q items.toList {s with heap:=f}):aWj (aWl a w) A (unpackItems (.ref t) items.size none) Q E s:=by
 have h:t≠s.heap.objs.size:=by obtain⟨o,l,_⟩:=c;exact bW (aWi.lt_size l)
 unfold unpackItems;refine aWb ?_
 .unfold notIterableAtAll;refine aWb (wpAny_specialOf c.typeIs slot_list_iter.lookup ?_);refine aWh ?_;simp only[cM,if_false];refine aWb (aWv (wpAny_pyIter_list c ?_));refine aWb (aWv (MM h items.size 0 _ _ ⟨_,aWi.get?_push_size _ rfl,rfl,rfl⟩ (c.push _) (by lia) λr p g=>?_));have k:aUI items.size (List.drop 0 items.toList)=items.toList:=by
   rw[aUg];exact YF (by simp)
  rw[k];rw[aWa (by simp)];have j:r.IsList t items:=(c.push _).extBut g.extBut h;refine aWb (aWv (wpAny_pyNext_list_end m p j (by simp) λq i=>?_));simp only[Option.isSome_none,cM,if_false];refine aWh (n q λb o d e=>i b o d (g.extBut b o d (aWi.get?_push_of_some _ e)))
noncomputable def B4(K:aL)(n:Nat)(t:vk):TG:=λv b H Q=>∃a xs,v=.ref a/\(cz K H a xs\/jc K H a xs)/\xs.length=n/\t xs b H Q
theorem O6{d:XO}{k:Nat}{t:vk}{n:Nat}{pos:Pos}(q:X.calm=true)(h:Br X d t)
 (m:(aWz d X.env).length=n:=by rfl)(x:(aWz d X.env).findIdx? (·.1)=none:=by rfl):PG X (.Tuple d k pos) (B4 X.K n t):=by
 intro j s g H v u Q I r f;obtain⟨a,xs,w,c,p,f⟩:=f;rcases c with c|c
 .subst w;cases r;obtain⟨i,l,B,F⟩:=I.list c;rw[assign_Tuple];refine aWb (aYe ?_);unfold unpack;have y:(aWz d X.env).length=i.toArray.size:=by simp[m,<-p,l.length]
  rw[y,x];refine aWb (aWv (v6 (I.ok.hd q) B.isList λC z=>?_));have D:Inv X j g H {s with heap:=C}:=I.kept (t':=s.toks) λb o e=>z b o (bW (aWi.lt_size e)) e;exact h j _ g H xs _ Q D (by simpa using l) f
 .exact Qc q h m x j s g H v u Q I r ⟨a,xs,w,c,p,f⟩
end
end TL
namespace TL
open PySem L2
def G8(K:aL)(c b:aWe):It:=
 ⟨λi H=>∃xs a x y,cz K H c xs/\cz K H b a/\xs[i]?=some x/\a[i]?=some y,
  λi H v d=>∃p x y,H p=none/\v=.ref p/\d=upd H p (.tup [x,y])/\(∀xs,cz K H c xs->xs[i]?=some x)/\∀a,cz K H b a->a[i]?=some y,
  λi H=>∃xs a,cz K H c xs/\cz K H b a/\(xs[i]?=none\/a[i]?=none)⟩
def B2(K:aL)(t:TA):TI:=λd H R=>t d H λvs c=>∃b a,vs=[.ref b,.ref a]/\(∃xs,cz K c b xs)/\(∃f,cz K c a f)/\R (G8 K b a) c
noncomputable def tz(b a:Xw):Xw:=(b.zip a).map λp=>.tup [p.1,p.2]
section
variable {K:aL}{d:L2.St}{H:Hp}{Q:VK}
variable{j:Hp}{f:cn}
theorem n4{Z:aWe->Prop}{i:Hp}{u:aE}{C:ab}{d:L2.St}{t:T}{k:Xw}{a:aWe}(A:Rel K i Z f u C d j)(s:RT K (mask j Z f) f t (.ref a))(o:dm C t=some k)
 {v:Hp}{p:aWe->Prop}{h:cn}{z:aE}{q:ab}{y:L2.St}{H:Hp}(B:Rel K v p h z q y H)(sm:b6 (mask j Z f) (mask H p h))(r:∀(c:Nat)(a:aWe),f[c]?=some a->h[c]?=some a)(g:stays t k q\/b6 j H):
  ∃b,cz K H a b/\aB K (mask H p h) h k b:=by
 rcases g with g|g
 .have w:=s.mono sm r;have x:dm q t=some k:=by
   cases t with
   |cell c=>exact g
   |lst D=>exact o
   |_=>cases o
  obtain⟨e,b,n,m,l⟩:=B.li w x;cases n;exact⟨b,m,l⟩
 .obtain⟨e,b,n,m,l⟩:=A.li s o;cases n;exact⟨b,g.seq m,l.mono sm r⟩
theorem S3{Z:aWe->Prop}{c:Hp}{M:aE}{C:ab}{d:L2.St}{t u:T}{k g:Xw}{a b:aWe}(v:Rel K c Z f M C d j)(I:RT K (mask j Z f) f t (.ref a))(L:dm C t=some k)
 (G:RT K (mask j Z f) f u (.ref b))(J:dm C u=some g):AB K (G8 K a b) Z j f (tz k g) (λC=>stays t k C/\stays u g C):=by
 refine⟨λi t' c Z' ae ah C' d H e l sm m o _=>?_,λc Z' ae ah C' d H l sm m o _=>?_⟩
 .obtain⟨q,s,y⟩:=n4 v I L l sm m (o.imp (·.1) id);obtain⟨xs,r,w⟩:=n4 v G J l sm m (o.imp (·.2) id);unfold tz at e;rw[bI]at e;obtain⟨⟨x1,x2⟩,E,rfl⟩:=fG e;obtain⟨O,N⟩:=Za.mp E;obtain⟨S,D,P⟩:=y.get O;obtain⟨R,n,U⟩:=w.get N;refine⟨⟨q,xs,S,R,s,r,D,n⟩,λx H' hy=>?_⟩;obtain⟨p,y1,y2,F,rfl,rfl,Y,X⟩:=hy;have B:=Y q s;have A:=X xs r;rw[D]at B;cases B;rw[n]at A;cases A;exact⟨λb u h=>by rw[gJ (λz=>by rw[z,F]at h;cases h)];exact h,l.hG F (.cons P (.cons U .nil))⟩
 .obtain⟨q,s,y⟩:=n4 v I L l sm m (o.imp (·.1) id);obtain⟨xs,r,w⟩:=n4 v G J l sm m (o.imp (·.2) id);refine⟨q,xs,s,r,?_⟩;have hl:(tz k g).length=min k.length g.length:=by simp[tz]
  rw[hl];rcases Nat.le_total k.length g.length with h|h
  .exact .inl (dJ (by rw[y.length,ZX h];exact bD _))
  .exact .inr (dJ (by rw[w.length,ZV h];exact bD _))
def uJ(f1 f2:FE)(k:Nat)(is:XG)(g:FG)(h:FB)(i:FE):FN:=λa C=>(f1 a C).bind λp=>(f2 a p.2).bind λq=>(dm q.2 p.1).bind λc=>(dm q.2 q.1).bind λb=>
 if(tz c b).length<lim then lM g h i (gh k is a) (tz c b) q.2 else none
theorem Tb{f1 f2:FE}{k:Nat}{is:XG}{g:FG}{o:FB}{x:FE}(S:mz k g)(h:kv K (uJ f1 f2 k is g o x) d H Q):Bo (B2 K (jd K (fN f1 (fN f2 f7)))) (nR k is) (nj K g) (jo K o) (bg K x) d H Q:=by
 obtain⟨c,Z,A,y,C,ys,C',R,e,q⟩:=h;unfold uJ at e;obtain⟨⟨t,C1⟩,e1,e⟩:=fE e;obtain⟨⟨u,l⟩,e2,e⟩:=fE e;obtain⟨ts,n,e⟩:=fE e;obtain⟨us,m,e⟩:=fE e;split at e
 .rename_i P;refine⟨c,Z,A,y,C,[t,u],l,R,by simp[fN,f7,e1,e2],λvs j f i X F=>?_⟩;obtain⟨v,r,rfl,w,N⟩:=X.cons_inv;obtain⟨v',r',rfl,s,M⟩:=N.cons_inv;rw[M.nil_inv];obtain⟨a,vs,E,L,ra⟩:=i.li w n;obtain⟨b,B,Y,J,rb⟩:=i.li s m;subst E Y;exact⟨a,b,rfl,⟨vs,L⟩,⟨B,J⟩,λD U=>u5 i S (S3 i w n s m) ⟨rV n,rV m⟩ (λC l h z=>⟨wQ C l h z.1,wQ C l h z.2⟩) P e U λp H' ae vs R' O I G=>q p H' ae vs R' O I (F.trans G)⟩
 .cases e
end
def lI(d:Int)(ns:XE):Int:=if ns.isEmpty then d else wK ns
def CM(c b:T)(C:ab):Option (T×ab):=match b with
 | .int d=>(dm C c).bind λa=>(gy a).map λf=>(.int (lI d f),C)
 |_=>none
abbrev Fv(a b:FE):FE:=kA a b CM
def EO(C:ab):Xx->Option Xx
 |none=>some none
 |some t=>(dr 3 C t).map some
def ft(C:ab):aE->Option aE
 | []=>some []
 |o::a=>(EO C o).bind λb=>(ft C a).map (b:: ·)
section
variable {K:aL}{a:St}{H:Hp}{D:Ends}{F G:FS}{Q:VK}
end
end TL
namespace TL
open PySem PySem.Spec PyProof.Rows L2
section
variable {P:aWm}{w:aWr}{H b:Hp}{h c:aWi}{a:aWe}{o:HO}
end
def Named(K:aL)(c:String)(C:aWe):Prop:=cE K aWk (Str.ofString c)=some (some (.ref C))
structure C9(P:aWm)(w:aWr)(K:aL)(l:List Env)(H:Hp)(s:aWg)(c:String)(H':Hp)(C:aWe)(B:aWi)(s':aWg):Prop where
 nm:Named K c C
 os:s'.os=s.os
 bare:AllBare s'.gens
 un:Un (b4 l) [] H H' s.heap s'.heap
 bz:gg P w H' s'.heap
 Hn:∀b o,s.heap.get? b=some o->H b=none->b∉b4 l->B.get? b=some o
 MR:∀b u o,H' b=some u->s'.heap.get? b=some o->B.get? b=some o
 Ep:∀b o,s.heap.get? b=some o->b∉b4 l->∃o',B.get? b=some o'
def C6(B:aWi)(l:List Env)(a C:aWe)(b:aWg):Prop:=∃t,aWi.FlyingW B l a (.ref C) (.ref t) b.heap
def Made(B:aWi)(l:List Env)(a C:aWe)(b:aWg):Prop:=∃h vs,B.StaysIn h/\h.FunFrames B l/\aWi.MadeExcOf h b.heap a (.ref C) vs
noncomputable def gw(X:Cx):XW:=λc d g=>∀f H s a C B b,Inv X f d H s->C9 X.prog X.w X.K X.stack H s c g C B b->(Made B X.stack a C b\/C6 B X.stack a C b)->X.xe (.ref a) b
section
variable {X:Cx}{b:List (aWe×Obj)}{d:L2.St}{H f:Hp}{s g:aWg}{c:String}{C a:aWe}{B:aWi}
end
section
variable {P:aWm}{w:aWr}{K:aL}{a:Str->XM}{b:aWi}{N:XJ}{c:Str}{d:aXt}{f:aWe}{g:aWf}{A:aWn}{h:List Env}{s:aWg}{H:Hp}{E:XK}
end
abbrev QE(X:Cx)(e:aWp)(f:FE):Prop:=PE X e (bg X.K f)
abbrev QN(X:Cx)(e:aWp)(f:FN):Prop:=PE X e (kv X.K f)
abbrev QA(X:Cx)(e:XO)(f:FN):Prop:=PA X e (jd X.K f)
abbrev QT(X:Cx)(e:aWp)(f:FB):Prop:=PT X e (jo X.K f)
abbrev QW(X:Cx)(e:aWp)(f:FB):Prop:=PW X e (jo X.K f)
abbrev QO(X:Cx)(e:Option aWp)(f:FO):Prop:=PO X e (zg X.K f)
abbrev QS(X:Cx)(e:Stmt)(f:FS):Prop:=PS X e (ep X.K (gw X) f)
abbrev tj(X:Cx)(e:List Stmt)(f:FS):Prop:=km X e (ep X.K (gw X) f)
abbrev QG(X:Cx)(e:aWp)(g:FG):Prop:=PG X e (nj X.K g)
abbrev ue(X:Cx)(e:XO)(f:FB):Prop:=vm X e (jo X.K f)
theorem vm.imp{X:Cx}{e:XO}{t b:TT}(h:vm X e t)(c:∀a H Q,b a H Q->t a H Q):vm X e b:=λd s a H Q I q=>h d s a H Q I (c a H Q q)
theorem UQ{i j:Int}(h:oP i j=true):IntMulOk i j:=by
 unfold oP at h;unfold IntMulOk;intro z;rw[z]at h;cases h
section
variable {X:Cx}{a b c e:aWp}{d:XO}{l m z f:FE}{o fn:FN}{s B:FB}{pos p u:Pos}{j:Nat}
variable{I:CmpOp}{r:R2}
theorem fH(i:Nat){x:Str}(n:X.N[i]?=some x:=by rfl)(h:Ee X.env.scope x:=by first|exact YE rfl|exact Yq (YE rfl)|exact Yq (Yq rfl))(k:(x==("__debug__":Str))=false:=by decide)
 (g:(x==("__classdict__":Str))=false:=by decide):QE X (.Name x pos) (kI i):=(Pt n h k g).imp λ_ _ _=>Ig
theorem fW{i:Int}{k}:QE X (.Constant (.int i) k pos) (fC (.int i)):=DX.imp λ_ _ _=>Dp λ_ _=>.int
theorem Ao{i:Bool}{k}:QE X (.Constant (.bool i) k pos) (fC (.bl i)):=Os.imp λ_ _ _=>Dp λ_ _=>.bl
theorem DK{k}:QE X (.Constant .none k pos) (fC .aF):=Qg.imp λ_ _ _=>Dp λ_ _=>.aF
theorem iZ(h:QE X a l)(g:QE X b m):QE X (.BinOp a .Add b pos) (kA l m (gI λi j=>.int (i+j))):=(w6 OR h g).imp λ_ _ _=>xO λ_ _ _ _ _=>xp λ_ _ _ _=>.int
theorem nT(h:QE X a l)(g:QE X b m):QE X (.BinOp a .Sub b pos) (kA l m (gI λi j=>.int (i - j))):=(w6 Pz h g).imp λ_ _ _=>xO λ_ _ _ _ _=>xp λ_ _ _ _=>.int
theorem Su:hO X (aYb .Mult) (rI IntMulOk λi j=>.int (i*j)):=BS λ_ _ _ _ _ _ _ g q=>mul_int q g
theorem mO(k:QE X a l)(g:QE X b m):QE X (.BinOp a .Mult b pos) (kA l m (qg oP λi j=>.int (i*j))):=(w6 Su k g).imp λ_ _ _=>xO λ_ _ _ _ _ h=>by
 obtain⟨i,j,v,t,n,q⟩:=Cp (g:=λi j=>.int (i*j)) (λ_ _ _ _=>.int) h;exact⟨i,j,v,t,UQ n,q⟩
theorem jQ(k:QE X a l)(g:QE X b m):QE X (.BinOp a .Mod b pos) (kA l m (qg (λ_ j=>decide (0<j)) λi j=>.int (i%j))):=(w6 PM k g).imp λ_ _ _=>xO λ_ _ _ _ _ h=>by
 obtain⟨i,j,v,t,n,q⟩:=Cp (g:=λi j=>.int (i%j)) (λ_ _ _ _=>.int) h;exact⟨i,j,v,t,of_decide_eq_true n,q⟩
theorem m5(k:QE X a l)(g:QE X b m):QE X (.BinOp a .FloorDiv b pos) (kA l m (qg (λ_ j=>decide (0<j/\j<1073741824)) λi j=>.int (i/j))):=(w6 RA k g).imp λ_ _ _=>xO λ_ _ _ _ _ h=>by
 obtain⟨i,j,w,v,t,q⟩:=Cp (g:=λi j=>.int (i/j)) (λ_ _ _ _=>.int) h;have n:0<j/\j<1073741824:=of_decide_eq_true t;exact⟨i,j,w,v,n,q⟩
theorem Fs(k:QE X a l)(g:QE X b m):QE X (.BinOp a .Pow b pos) (kA l m (qg (λi j=>decide (0<=j/\j<=1000000/\i.natAbs<2^64)) λi j=>.int (i^j.toNat))):=(w6 O0 k g).imp λ_ _ _=>xO λ_ _ _ _ _ h=>by
 obtain⟨i,j,w,v,t,q⟩:=Cp (g:=λi j=>.int (i^j.toNat)) (λ_ _ _ _=>.int) h;have n:0<=j/\j<=1000000/\i.natAbs<2^64:=of_decide_eq_true t;exact⟨i,j,w,v,n,q⟩
theorem OA(g:QE X a l):QE X (.UnaryOp .USub a pos) (x3 l Ci):=(Ox Pq g).imp λ_ _ _ h=>jM (Fg h) λ_ _ q=>Og q
theorem DO{g:T->T->ab->Option (T×ab)}(n:hO X (aWy I) r)(t:∀k H Q x y,(∃i h,ib X.K k [i,h] [x,y] (g i h) H Q)->r x y H Q)(w:QE X a l)(v:QE X b m)(q:aWw I b=false):
 QE X (.Compare a [I] [b] pos) (kA l m g):=(Rg n w v q).imp λ_ _ _=>xO t
theorem Ay{g:T->T->ab->Option (T×ab)}(n:hO X (aWy I) r)(t:∀k H Q x y,(∃i h,ib X.K k [i,h] [x,y] (g i h) H Q)->r x y H Q)(w:QE X a l)(v:QE X b m)(q:aWw I b=false):
 QT X (.Compare a [I] [b] pos) (kB (kA l m g)):=(Sx n w v q).imp λ_ _ _=>Ft λ_ _ _=>xO t
abbrev Hr:=gI λi j=>.bl (decide (i<j))
abbrev Na:=gI λi j=>.bl (decide (i<=j))
abbrev Hs:=gI λi j=>.bl (decide (j<i))
theorem Nk(h:QE X a l)(g:QE X b m):QE X (.Compare a [.Lt] [b] pos) (kA l m Hr):=DO Fy (λ_ _ _ _ _=>xp λ_ _ _ _=>.bl) h g (fo _)
theorem A8(h:QE X a l)(g:QE X b m):QE X (.Compare a [.Gt] [b] pos) (kA l m Hs):=DO H0 (λ_ _ _ _ _=>xp λ_ _ _ _=>.bl) h g (fo _)
theorem Dz(h:QE X a l)(g:QE X b m):QT X (.Compare a [.Lt] [b] pos) (kB (kA l m Hr)):=Ay Fy (λ_ _ _ _ _=>xp λ_ _ _ _=>.bl) h g (fo _)
theorem Nq(h:QE X a l)(g:QE X b m):QT X (.Compare a [.LtE] [b] pos) (kB (kA l m Na)):=Ay HJ (λ_ _ _ _ _=>xp λ_ _ _ _=>.bl) h g (fo _)
theorem A9(h:QE X a l)(g:QE X b m):QT X (.Compare a [.Gt] [b] pos) (kB (kA l m Hs)):=Ay H0 (λ_ _ _ _ _=>xp λ_ _ _ _=>.bl) h g (fo _)
theorem Ni(g:X.A.units+20<aXc)(i:QE X a l)(h:QE X b m):QE X (.Compare a [.Eq] [b] pos) (kA l m (qi false)):=DO (IT g) (λ_ _ _ _ _=>EY) i h (fo _)
theorem ub(g:X.A.units+20<aXc)(i:QE X a l)(h:QE X b m):QT X (.Compare a [.Eq] [b] pos) (kB (kA l m (qi false))):=Ay (IT g) (λ_ _ _ _ _=>EY) i h (fo _)
theorem Ff(g:X.A.units+20<aXc)(i:QE X a l)(h:QE X b m):QT X (.Compare a [.NotEq] [b] pos) (kB (kA l m (qi true))):=Ay (NY g) (λ_ _ _ _ _=>EY) i h (fo _)
theorem Nj(g:X.A.units+20<aXc)(k:QE X a l)(i:QE X b m)(h:aWw .In b=false:=by rfl):QE X (.Compare a [.In] [b] pos) (kA l m (sg false)):=DO (O2 g) (λ_ _ _ _ _=>Hy) k i h
theorem HX(g:X.A.units+20<aXc)(k:QE X a l)(i:QE X b m)(h:aWw .NotIn b=false:=by rfl):QT X (.Compare a [.NotIn] [b] pos) (kB (kA l m (sg true))):=Ay (Vo g) (λ_ _ _ _ _=>Hy) k i h
theorem Xc(n:QE X a l)(k:QE X b m)(h:QE X c z)(g:lastMarks [.LtE,.Lt] [b,c]=false:=by with_unfolding_all rfl):QE X (.Compare a [.LtE,.Lt] [b,c] pos) (wF l m z (λi j=>decide (i<=j)) (λi j=>decide (i<j))):=
 (UR HJ Fy n k h g).imp λ_ _ _=>QX
theorem Nz{I}(g:QE X a l):QE X (.BoolOp I [a] pos) l:=PP g
theorem Nu(h:QE X a l)(g:QE X (.BoolOp .And (b::d) pos) m):QE X (.BoolOp .And (a::b::d) pos) (Bn l m):=(OQ h g).imp λ_ _ _=>O1
theorem Of(g:QE X a l):QE X (.UnaryOp .Not a pos) (Bf l):=(Pg g).imp λ_ _ _=>N5
theorem DW(g:QT X a s):QW X (.BoolOp .And [a] pos) s:=Sy g
theorem FX(g:QT X a s):QW X (.BoolOp .Or [a] pos) s:=Qt g
theorem DD(h:QT X a s)(g:QW X (.BoolOp .And (b::d) pos) B):QW X (.BoolOp .And (a::b::d) pos) (t8 s B):=(OY h g).imp λ_ _ _=>OU
theorem Fi(h:QT X a s)(g:QW X (.BoolOp .Or (b::d) pos) B):QW X (.BoolOp .Or (a::b::d) pos) (ve s B):=(Nx h g).imp λ_ _ _=>OE
theorem zo(h:QW X a s):QT X a s:=h.pt
theorem FJ(g:QT X a s):QT X (.UnaryOp .Not a pos) (tV s):=(Qs g).imp λ_ _ _=>Po
theorem xL(i:QE X a l)(h:∀g,isTrue a X.env g=(do let v<-g;standAt a.pos;aXk [v] (truthy v)):=by intro _;rfl):QT X a (tT l):=(Ui i h).imp λ_ _ _=>NJ
theorem ND(g:QT X c s)(i:QE X a l)(h:QE X b m):QE X (.IfExp c a b pos) (AN s l m):=(UV g i h).imp λ_ _ _=>Ot
theorem iD(i:QE X a l)(h:QE X b m)(g:n7 b:=by exact λ_ _=>rfl):QE X (.Subscript a b pos) (kA l m AI):=(Oc Pr i h g).imp λ_ _ _=>xO λ_ _ _ _ _=>Nl
theorem qA:QO X none oG:=RJ.imp λ_ _ _=>UM
theorem sT(g:QE X a l):QO X (some a) (qC l):=(yA g).imp λ_ _ _=>Pf
theorem tF{lo g:Option aWp}{h fh:FO}(n:QE X a l)(i:QO X lo h)(k:QO X g fh):QN X (.Subscript a (.Slice lo g none u) pos) (sx l h fh):=(Tq RY n i k).imp λ_ _ _=>Nh
theorem fR:QA X [] f7:=F4.imp λ_ _ _=>HD
theorem fJ(i:QE X e f)(h:QA X d o)(g:aWd (e::d) X.env=(false,aWq e X.env)::aWd d X.env:=by rfl):QA X (e::d) (fN f o):=(x9 i h g).imp λ_ _ _=>OV
theorem iM(h:QA X d o):QN X (.List d pos) (iR o):=(Qh h).imp λ_ _ _=>Qw nC
theorem Bh(h:QE X a l)(g:QE X b m):QN X (.BinOp a .Add b pos) (z8 l m AU):=(w6 QQ h g).imp λ_ _ _=>Ov λ_ _ _ _ _=>NN
theorem gZ(h:QN X a fn):QE X a (hZ fn):=PE.imp h λ_ _ _=>Jk
theorem lV(h:QN X a fn):QE X a (jL fn):=PE.imp h λ_ _ _=>IJ
section
variable {x:Str}{id:String}
theorem Aq{r:Xy->Hp->VK->Prop}{g:Xw->ab->Option (T×ab)}(y:pG X (.builtin id) r)(n:∀i H Q xs,(∃h,ib X.K i h xs (g h) H Q)->r xs H Q)(k:aXn x=some (.builtin id))(t:X.mg x=none)(v:Gl X x)(A:QA X (e::d) o)(q:x≠"__name__":=by decide)(C:(x==("__debug__":Str))=false:=by decide)
 (w:aWd (e::d) X.env=(false,aWq e X.env)::aWd d X.env:=by rfl)(D:(aWs pos (aWd d X.env)).any (·.1)=false:=by rfl):QE X (.Call (.Name x p) (e::d) [] pos) (pJ o g):=
 (zB y v t k A q C w D).imp λ_ _ _=>HB n
end
theorem m8(g:X.mg "len"=none)(k:QA X (e::d) o)(h:Gl X "len":=by rfl)(i:aWd (e::d) X.env=(false,aWq e X.env)::aWd d X.env:=by rfl)(n:(aWs pos (aWd d X.env)).any (·.1)=false:=by rfl):
 QE X (.Call (.Name "len" p) (e::d) [] pos) (pJ o AX):=Aq WN (λ_ _ _ _=>OG) PySem.boot_len g h k (by decide) (by decide) i n
theorem VN(g:X.calm=true):pG X (.builtin "sum") (CH X.K (λ_=>true) aUK):=VA g
theorem DF(g:X.mg "sum"=none)(k:X.calm=true)(n:QA X (e::d) o)(h:Gl X "sum":=by rfl)(i:aWd (e::d) X.env=(false,aWq e X.env)::aWd d X.env:=by rfl)(q:(aWs pos (aWd d X.env)).any (·.1)=false:=by rfl):
 QE X (.Call (.Name "sum" p) (e::d) [] pos) (Ct o):=Aq (VN k) (λ_ _ _ _=>Ge) boot_sum g h n (by decide) (by decide) i q
theorem OS(g:X.mg "max"=none)(k:X.calm=true)(n:QA X (e::d) o)(h:Gl X "max":=by rfl)(i:aWd (e::d) X.env=(false,aWq e X.env)::aWd d X.env:=by rfl)(q:(aWs pos (aWd d X.env)).any (·.1)=false:=by rfl):
 QE X (.Call (.Name "max" p) (e::d) [] pos) (x5 o):=Aq (U9 k) (λ_ _ _ _=>Ge) boot_max g h n (by decide) (by decide) i q
theorem I0(g:X.mg "max"=none)(k:X.calm=true)(n:QA X (e::d) o)(h:Gl X "max":=by rfl)(i:aWd (e::d) X.env=(false,aWq e X.env)::aWd d X.env:=by rfl)(q:(aWs pos (aWd d X.env)).any (·.1)=false:=by rfl):
 QE X (.Call (.Name "max" p) (e::d) [] pos) (FD o):=Aq (UF k) (λ_ _ _ _=>HC) boot_max g h n (by decide) (by decide) i q
theorem r6(g:X.mg "min"=none)(k:X.calm=true)(n:QA X (e::d) o)(h:Gl X "min":=by rfl)(i:aWd (e::d) X.env=(false,aWq e X.env)::aWd d X.env:=by rfl)(q:(aWs pos (aWd d X.env)).any (·.1)=false:=by rfl):
 QE X (.Call (.Name "min" p) (e::d) [] pos) (sM o):=Aq (Vl k) (λ_ _ _ _=>HC) boot_min g h n (by decide) (by decide) i q
theorem Oi(g:X.mg "all"=none)(k:X.calm=true)(n:QA X (e::d) o)(h:Gl X "all":=by rfl)(i:aWd (e::d) X.env=(false,aWq e X.env)::aWd d X.env:=by rfl)(q:(aWs pos (aWd d X.env)).any (·.1)=false:=by rfl):
 QE X (.Call (.Name "all" p) (e::d) [] pos) (Fh o):=Aq (Vw k) (λ_ _ _ _=>NC) boot_all g h n (by decide) (by decide) i q
theorem sR(g:X.mg "int"=none)(k:QA X (e::d) o)(h:Gl X "int":=by rfl)(i:aWd (e::d) X.env=(false,aWq e X.env)::aWd d X.env:=by rfl)(n:(aWs pos (aWd d X.env)).any (·.1)=false:=by rfl):
 QE X (.Call (.Name "int" p) (e::d) [] pos) (uF o):=(Mn Vq h g boot_int k (by decide) (by decide) i n).imp λ_ _ _=>HB λ_ _ _ _=>OL
theorem O5(g:X.mg "list"=none)(k:QA X (e::d) o)(h:Gl X "list":=by rfl)(i:aWd (e::d) X.env=(false,aWq e X.env)::aWd d X.env:=by rfl)(n:(aWs pos (aWd d X.env)).any (·.1)=false:=by rfl):
 QN X (.Call (.Name "list" p) (e::d) [] pos) (ya o):=(Mn WZ h g boot_list k (by decide) (by decide) i n).imp λ_ _ _=>HG λ_ _ _ _=>PF
structure kO(P:aWm)(w:aWr)(K:aL)(mg:Str->XM)(base:aWi)(k:Nat)(x:Str)(n:Nat)(F:Xw->Xx):Prop where
 ex:∃f fd ps,pK P w K mg base ku k f fd ps (spT K n F)/\mg x=some (.ref f)/\dQ K (.ref f)=true/\Binds K fd ps []
theorem gR{k n:Nat}{x:Str}{F:Xw->Xx}(D:kO X.prog X.w X.K X.mg X.base k x n F)(g:cc k X.A)(y:QA X (e::d) o)(t:Gl X x:=by rfl)(A:(x==("__debug__":Str))=false:=by decide)
 (v:aWd (e::d) X.env=(false,aWq e X.env)::aWd d X.env:=by rfl)(C:(aWs pos (aWd d X.env)).any (·.1)=false:=by rfl):QE X (.Call (.Name x p) (e::d) [] pos) (g8 n F o):=by
 obtain⟨f,fd,H,G,i,q,w⟩:=D.ex;exact(GQ (E:=λ_ _ _=>False) G g t i q w .nil (λ_ _ _ _ _ _ _ h=>h.elim) y A v C).imp λ_ _ _=>PL
theorem da{k:Nat}{A:aWn}(g:cc k A):A.units+20<aXc:=by have:=g.un;lia
theorem kH{x:Str}(n:X.N.Nodup)(i:Nat)(h:X.N[i]?=some x:=by rfl)(g:Loc X.env.scope x:=by first|exact YE rfl|exact Yq rfl)(k:X.fn x=true\/X.env.scope.names.lookup x=some .local:=by first|exact .inl rfl|exact .inr rfl):QG X (.Name x pos) (gN i):=
 (KB n h g k).imp λ_ _ _ _=>z5
structure NG(X:Cx)(ts:XO)(is:XG):Prop where
 h:Br X ts (is.foldr (λi g=>DG (vL i) g) Dv)
theorem rE:NG X [] []:=⟨SE⟩
theorem kJ{x:Str}{g:XO}{is:XG}(v:X.N.Nodup)(i:Nat)(h:NG X g is)(q:X.N[i]?=some x:=by rfl)(k:Loc X.env.scope x:=by first|exact YE rfl|exact Yq rfl)(t:X.fn x=true\/X.env.scope.names.lookup x=some .local:=by first|exact .inl rfl|exact .inr rfl)
 (n:(aWz (.Name x pos::g) X.env).map (·.2)=aYc (.Name x pos) X.env::(aWz g X.env).map (·.2):=by rfl):NG X (.Name x pos::g) (i::is):=⟨Tp (KB v q k t) h.h n⟩
theorem Ob{K:aL}{is:XG}{v:V}{n:L2.St}{H:Hp}{Q:L2.St->Hp->Prop}(h:nj K (gU is) v n H Q):B4 K is.length (is.foldr (λi g=>DG (vL i) g) Dv) v n H Q:=by
 obtain⟨x,Z,G,F,C,t,L,R,r,e,k⟩:=h;unfold gU at e;obtain⟨J,D,e⟩:=fE e;split at e
 .rename_i w;cases e;obtain⟨a,vs,A,y,q⟩:=R.sq r D;exact⟨a,vs,A,y,by rw[q.length];exact w,Rel.cu R q w k⟩
 .cases e
theorem rH{g:XO}{is:XG}{k:Nat}(n:X.calm=true)(h:NG X g is)(i:(aWz g X.env).length=is.length:=by rfl)(q:(aWz g X.env).findIdx? (·.1)=none:=by rfl):QG X (.Tuple g k pos) (gU is):=
 (O6 n h.h i q).imp λ_ _ _ _=>Ob
theorem g0(h o:XJ)(is:XG){g:aXt}{k:List (Str×aWe)}(C:rS X.env.cells g.names []=some k:=by with_unfolding_all rfl)(A:∀y∈g.names,y.2≠ .cell:=by decide+kernel)(w:g.kind=.function:=by rfl)
 (v:∀y∈g.names,y.2=.local->g.names.lookup y.1=some .local:=by decide+kernel)(t:is.map (λi=>X.N[i]?)=o.map some:=by rfl)
 (q:o.all (λx=>X.env.kindOf x==some .cell||X.env.kindOf x==some .free)=true:=by rfl)(n:o.all (λx=>(relabel g X.env).names.lookup x==some .cell||(relabel g X.env).names.lookup x==some .free)=true:=by rfl):n9 X h o is g k:=
 ⟨C,A,w,v,t,q,n⟩
theorem jI:ue X [] jA:=Sv.imp λq H Q h=>by
 obtain⟨g,Z,i,n,C,b,t,R,e,k⟩:=h;cases e;exact k H i R .refl
theorem yM(h:QT X c s):ue X [c] s:=RO h
section
variable {n b4:XJ}{is:XG}{v:aXt}{w:List (Str×aWe)}{y iter A:aWp}{F:XO}{G J:FE}{g:FG}{L:FB}{M N:Pos}{x:Str}
variable{W:XW}{P:TE}{i:Nat}{O:L2.St}
theorem mR(U:X.calm=true)(k:n9 X n b4 is v w)(Q:QE X iter G)(K:mz n.length g)(R:∀C h t q,QG (iN X (n++b4) v w C h t q) y g)(D:∀C h t q,ue (iN X (n++b4) v w C h t q) F L)
 (S:∀C h t q,QE (iN X (n++b4) v w C h t q) A J)(H:∀x,aWo iter X.env x=pure x:=by intro _;rfl):QN X (.ListComp A [⟨y,iter,F,0⟩] v pos) (lA G n.length is g L J):=
 (yN U k (yT Q) R D S H).imp λ_ _ _=>Gm K
theorem SC(R:X.mg "range"=none)(Z:X.calm=true)(k:n9 X n b4 is v w)(S:QE X iter G)(Q:mz n.length g)(U:∀C h t q,QG (iN X (n++b4) v w C h t q) y g)(H:∀C h t q,ue (iN X (n++b4) v w C h t q) F L)
 (Y:∀C h t q,QE (iN X (n++b4) v w C h t q) A J)(E:Gl X "range":=by rfl)(K:∀x,aWo (.Call (.Name "range" p) [iter] [] u) X.env x=pure x:=by intro _;rfl)(D:aWd [iter] X.env=[(false,aWq iter X.env)]:=by rfl):
 QN X (.ListComp A [⟨y,.Call (.Name "range" p) [iter] [] u,F,0⟩] v pos) (lD G n.length is g L J):=
 (yN Z k (tK E R (fJ S fR (by rw[D];rfl)) D) U H Y K).imp λ_ _ _=>GY Q
theorem Cf{K:aL}{fn:FN}{D:Ends}{H:Hp}(k:∀O H Q,kv K fn O H Q->P O H Q)(h:ep K W (gW (hZ fn) (gN i)) D O H):Ar P (vL i) D O H:=
 k _ _ _ (Jk (jM (CB h) λ_ _ q=>z5 q))
theorem Cg{K:aL}{fn:FN}{D:Ends}{H:Hp}(k:∀O H Q,kv K fn O H Q->P O H Q)(h:ep K W (gW (jL fn) (gN i)) D O H):Ar P (vL i) D O H:=
 k _ _ _ (IJ (jM (CB h) λ_ _ q=>z5 q))
theorem JD(hN:X.N.Nodup)(i:Nat)(E:X.calm=true)(k:n9 X n b4 is v w)(U:QE X iter G)(R:mz n.length g)(Y:∀C h t q,QG (iN X (n++b4) v w C h t q) y g)(K:∀C h t q,ue (iN X (n++b4) v w C h t q) F L)
 (Z:∀C h t q,QE (iN X (n++b4) v w C h t q) A J)(H:X.N[i]?=some x:=by rfl)(S:X.env.scope.names.lookup x=some .local:=by rfl)
 (D:aXd (.ListComp A [⟨y,iter,F,0⟩] v pos) (some (.Name x N)) M.line X.env=pure true:=by rfl)(Q:∀x,aWo iter X.env x=pure x:=by intro _;rfl):
 QS X (.Assign [.Name x N] (.ListComp A [⟨y,iter,F,0⟩] v pos) M) (gW (hZ (lA G n.length is g L J)) (gN i)):=
 (q8 hN H S E k (yT U) Y K Z D Q).imp λ_ _ _=>Cf λ_ _ _=>Gm R
theorem SN(hN:X.N.Nodup)(i:Nat)(E:X.calm=true)(k:n9 X n b4 is v w)(U:QE X iter G)(R:mz n.length g)(Y:∀C h t q,QG (iN X (n++b4) v w C h t q) y g)(K:∀C h t q,ue (iN X (n++b4) v w C h t q) F L)
 (Z:∀C h t q,QE (iN X (n++b4) v w C h t q) A J)(H:X.N[i]?=some x:=by rfl)(S:X.env.scope.names.lookup x=some .local:=by rfl)
 (D:aXd (.ListComp A [⟨y,iter,F,0⟩] v pos) (some (.Name x N)) M.line X.env=pure true:=by rfl)(Q:∀x,aWo iter X.env x=pure x:=by intro _;rfl):
 QS X (.Assign [.Name x N] (.ListComp A [⟨y,iter,F,0⟩] v pos) M) (gW (jL (lA G n.length is g L J)) (gN i)):=
 (q8 hN H S E k (yT U) Y K Z D Q).imp λ_ _ _=>Cg λ_ _ _=>Gm R
theorem Vz(hN:X.N.Nodup)(i:Nat)(U:X.mg "range"=none)(hc:X.calm=true)(k:n9 X n b4 is v w)(Z:QE X iter G)(S:mz n.length g)(E:∀C h t q,QG (iN X (n++b4) v w C h t q) y g)(Q:∀C h t q,ue (iN X (n++b4) v w C h t q) F L)
 (he:∀C h t q,QE (iN X (n++b4) v w C h t q) A J)(cm:Gl X "range":=by rfl)(K:X.N[i]?=some x:=by rfl)(Y:X.env.scope.names.lookup x=some .local:=by rfl)
 (H:aXd (.ListComp A [⟨y,.Call (.Name "range" p) [iter] [] u,F,0⟩] v pos) (some (.Name x N)) M.line X.env=pure true:=by rfl)(R:∀x,aWo (.Call (.Name "range" p) [iter] [] u) X.env x=pure x:=by intro _;rfl)(D:aWd [iter] X.env=[(false,aWq iter X.env)]:=by rfl):
 QS X (.Assign [.Name x N] (.ListComp A [⟨y,.Call (.Name "range" p) [iter] [] u,F,0⟩] v pos) M) (gW (hZ (lD G n.length is g L J)) (gN i)):=
 (q8 hN K Y hc k (tK cm U (fJ Z fR (by rw[D];rfl)) D) E Q he H R).imp λ_ _ _=>Cf λ_ _ _=>GY S
theorem qB(hN:X.N.Nodup)(i:Nat)(U:X.mg "range"=none)(hc:X.calm=true)(k:n9 X n b4 is v w)(Z:QE X iter G)(S:mz n.length g)(E:∀C h t q,QG (iN X (n++b4) v w C h t q) y g)(Q:∀C h t q,ue (iN X (n++b4) v w C h t q) F L)
 (he:∀C h t q,QE (iN X (n++b4) v w C h t q) A J)(cm:Gl X "range":=by rfl)(K:X.N[i]?=some x:=by rfl)(Y:X.env.scope.names.lookup x=some .local:=by rfl)
 (H:aXd (.ListComp A [⟨y,.Call (.Name "range" p) [iter] [] u,F,0⟩] v pos) (some (.Name x N)) M.line X.env=pure true:=by rfl)(R:∀x,aWo (.Call (.Name "range" p) [iter] [] u) X.env x=pure x:=by intro _;rfl)(D:aWd [iter] X.env=[(false,aWq iter X.env)]:=by rfl):
 QS X (.Assign [.Name x N] (.ListComp A [⟨y,.Call (.Name "range" p) [iter] [] u,F,0⟩] v pos) M) (gW (jL (lD G n.length is g L J)) (gN i)):=
 (q8 hN K Y hc k (tK cm U (fJ Z fR (by rw[D];rfl)) D) E Q he H R).imp λ_ _ _=>Cg λ_ _ _=>GY S
end
section
variable {st:Stmt}{w A:List Stmt}{F G:FS}{y iter:aWp}{g:FG}
variable{D C:Pos}
theorem kF:tj X [] k7:=Sr.imp λ_ _ _=>Ir
theorem f6(h:QS X st F):tj X [st] F:=QC h
theorem fP(h:QS X st F)(i:tj X w G):tj X (st::w) (gF F G):=(TQ h i).imp λ_ _ _=>Oj
theorem Ss:QS X (.Pass pos) k7:=RB.imp λ_ _ _=>Ir
theorem KW:QS X st D6:=λ_ _ _ _ _ _ h=>(SS h).elim
theorem hV(h:QE X a l):QS X (.Return (some a) pos) (jG l):=(NS h).imp λ_ _ _=>On
theorem o3(h:QE X a l)(i:aXd a none pos.line X.env=pure false:=by rfl):QS X (.Expr a pos) (oR l):=(GG h i).imp λ_ _ _=>OI
theorem nL(h:QT X c s)(k:tj X w F)(i:tj X A G):QS X (.If c w A pos) (gV s F G):=(Oq h k i).imp λ_ _ _=>Np
theorem gD{x:Str}{k:Pos}(J:X.N.Nodup)(i:Nat)(h:QE X a l)(v:X.N[i]?=some x:=by rfl)(n:Loc X.env.scope x:=by first|exact YE rfl|exact Yq rfl)(t:aXd a (some (.Name x k)) pos.line X.env=pure false:=by rfl)
 (H:X.fn x=true\/X.env.scope.names.lookup x=some .local:=by first|exact .inl rfl|exact .inr rfl):QS X (.Assign [.Name x k] a pos) (gW l (gN i)):=(Pd J v n h t H).imp λ_ _ _ h=>jM (CB h) λ_ _ q=>z5 q
theorem ON(h:QE X a l)(n:QG X y g)(k:swapsWithSole [y] a pos.line X.env=pure false:=by rfl)(i:swappedStores [y] a X.env=pure none:=by rfl)(q:(aWz [y] X.env).map (·.2)=[aYc y X.env]:=by rfl):QS X (.Assign [y] a pos) (gW l g):=
 (Ja h n k i q).imp λ_ _ _=>CB
theorem tR(n:QE X a l)(t:QE X b m)(x:QE X c z)(q:swapsWithSole [.Subscript b c p] a pos.line X.env=pure false:=by rfl)(k:swappedStores [.Subscript b c p] a X.env=pure none:=by rfl)
 (J:(aWz [.Subscript b c p] X.env).map (·.2)=[aYc (.Subscript b c p) X.env]:=by rfl)
 (H:∀v,aYc (.Subscript b c p) X.env v=(do
  let h<-aXk [v] (aWq b X.env)
  let i<-aXk [v,h] (aWq c X.env)
  standAt p
  aXk [v,h,i] (setItem h i v)
  release [v,h,i] []):=by intro _;rfl):QS X (.Assign [.Subscript b c p] a pos) (rW l m z):=
 (Ja n (PU t x KZ H) q k J).imp λ_ _ _=>OJ
theorem lU(q:X.calm=true)(k:QE X iter l)(n:QG X y g)(t:tj X w F)(i:aWu (aWl X.prog X.w) X.A X.env X.xe:=by first|exact aWu.never|exact aWu.leaving|exact aWu.looking)(h:∀x,aWo iter X.env x=pure x:=by intro _;rfl):QS X (.For y iter w [] pos) (oN l g F):=
 (Ec i q (yT k) n t h).imp λ_ _ _=>N9
theorem oH(n:X.mg "range"=none)(v:X.calm=true)(q:QE X iter l)(t:QG X y g)(H:tj X w F)(k:aWu (aWl X.prog X.w) X.A X.env X.xe:=by first|exact aWu.never|exact aWu.leaving|exact aWu.looking)(J:Gl X "range":=by rfl)
 (i:∀x,aWo (.Call (.Name "range" p) [iter] [] u) X.env x=pure x:=by intro _;rfl)(h:aWd [iter] X.env=[(false,aWq iter X.env)]:=by rfl):QS X (.For y (.Call (.Name "range" p) [iter] [] u) w [] pos) (m3 l g F):=
 (Ec k v (tK J n (fJ q fR (by rw[h];rfl)) h) t H i).imp λ_ _ _=>R6
theorem zV(q:X.mg "range"=none)(v:X.calm=true)(K:QE X a l)(J:QE X b m)(t:QG X y g)(H:tj X w F)(n:aWu (aWl X.prog X.w) X.A X.env X.xe:=by first|exact aWu.never|exact aWu.leaving|exact aWu.looking)(L:Gl X "range":=by rfl)
 (k:∀x,aWo (.Call (.Name "range" p) [a,b] [] u) X.env x=pure x:=by intro _;rfl)(i:aWd [a,b] X.env=[(false,aWq a X.env),(false,aWq b X.env)]:=by rfl)(h:aWd [b] X.env=[(false,aWq b X.env)]:=by rfl):QS X (.For y (.Call (.Name "range" p) [a,b] [] u) w [] pos) (qL l m g F):=
 (Ec n v (Uw L q (fJ K (fJ J fR (by rw[h];rfl)) (by rw[i,h])) i h) t H k).imp λ_ _ _=>Rn
theorem pD(n:Nat)(i:QT X c s)(k:tj X w F)(h:aWu (aWl X.prog X.w) X.A X.env X.xe:=by first|exact aWu.never|exact aWu.leaving|exact aWu.looking):QS X (.While c w [] pos) (nF s F n):=(UN h i k).imp λ_ _ _=>SM
theorem pH(k:QE X a l)(n:QA X (e::d) o)(i:aXd (.Call (.Attribute a "append" D) (e::d) [] C) none pos.line X.env=pure false:=by rfl)(q:aXm a "append" X.env (aWq a X.env)=aWq a X.env:=by rfl)
 (h:((aWs C (aWd (e::d) X.env)).all (λx=> !x.1)&&(aXs C (aXg [] X.env)).all (λx=>x.1.isSome)
  &&decide ((e::d).length+([]:List aXw).length+(if([]:List aXw).isEmpty then 0 else 1)<30))=true:=by rfl)
 (t:(D.endLine==C.line)=true:=by rfl)(H:aWd (e::d) X.env=(false,aWq e X.env)::aWd d X.env:=by rfl)(v:(aWs C (aWd d X.env)).any (·.1)=false:=by rfl):
 QS X (.Expr (.Call (.Attribute a "append" D) (e::d) [] C) pos) (vC l o):=
 (GG (Ii PySem.F.plainAttrs_list PySem.F.slot_list_append PySem.F.type_list_append OW k n q h t H v) i).imp λ_ _ _=>HR N3
theorem D1(k:QE X a l)(n:QA X (e::d) o)(i:aXd (.Call (.Attribute a "insert" D) (e::d) [] C) none pos.line X.env=pure false:=by rfl)(q:aXm a "insert" X.env (aWq a X.env)=aWq a X.env:=by rfl)
 (h:((aWs C (aWd (e::d) X.env)).all (λx=> !x.1)&&(aXs C (aXg [] X.env)).all (λx=>x.1.isSome)
  &&decide ((e::d).length+([]:List aXw).length+(if([]:List aXw).isEmpty then 0 else 1)<30))=true:=by rfl)
 (t:(D.endLine==C.line)=true:=by rfl)(H:aWd (e::d) X.env=(false,aWq e X.env)::aWd d X.env:=by rfl)(v:(aWs C (aWd d X.env)).any (·.1)=false:=by rfl):
 QS X (.Expr (.Call (.Attribute a "insert" D) (e::d) [] C) pos) (Cu l o):=
 (GG (Ii PySem.F.plainAttrs_list PySem.F.slot_list_insert PySem.F.type_list_insert PQ k n q h t H v) i).imp λ_ _ _=>HR P7
end
end
section
variable {X:Cx}{a:List (aWe×Obj)}{d:L2.St}{H:Hp}{s:aWg}
variable{ch:List aWe}{f:aWi}{t':Nat}
theorem Lb{p:aWe}{o:HO}(I:Inv X a d H s)(i:∀b∈ch,wV X a H b)(k:∀b ob,b∉ch->s.heap.get? b=some ob->f.get? b=some ob)(w:s.heap.objs.size<=p)
 (l:k6 X.prog X.w (upd H p o) f p o):Inv X a d (upd H p o) {s with heap:=f,toks:=t'}:=by
 have y:H p=none:=I.bz.fresh w;have j:∀b u,H b=some u->b≠p:=λb u e z=>by rw[z,y]at e;cases e
 have t:∀b u,H b=some u->b∉ch:=λb u e z=>by rw[(i b z).1]at e;cases e
 refine I.step (g':=s.gens) (d':=s.drawn) (ch:=ch) (λb h=>⟨(i b h).2.2.2.1,(i b h).2.1,(i b h).2.2.2.2.1,(i b h).2.2.2.2.2⟩) (λb o _ _ g e _=>k b o g e) (λb o _ _ g e _=>⟨o.slots,k b o g e⟩)
  (λb ob _ e n=>by rw[gJ (bW (aM (aWi.lt_size e) w))];exact n) (λb ob g e=>⟨ob,k b ob g e⟩)
  (λb xs e=>by rw[gJ (j _ _ e)];exact e) (λb ob u e=>by rw[gJ (j _ _ e)];exact e) (λb D e=>⟨#[],by rw[gJ (j _ _ e),e];simp⟩) (λm A=>?_) (λb u e=>?_) I.bare
 .obtain⟨ob,B,C,x,r⟩:=A;exact⟨ob,B,C,k _ ob (λz=>(i _ z).2.1 rfl) x,r⟩
 .by_cases h:b=p
  .subst h;rw[kD]at e;cases e;exact l
  .rw[gJ h]at e;refine(I.bz b u e).ig (λc v g q=>k c v ?_ q) (λc q=>by rw[gJ (j _ _ q)];exact q) λc xs q=>by rw[gJ (j _ _ q)];exact q
   rcases g with z|z
   .rw[z];exact t b u e
   .exact t c _ z
theorem LP(I:Inv X a d H s)(h:∀b∈ch,wV X a H b)(k:∀b ob,b∉ch->s.heap.get? b=some ob->f.get? b=some ob):Inv X a d H {s with heap:=f,toks:=t'}:=by
 have j:∀b u,H b=some u->b∉ch:=λb u e z=>by rw[(h b z).1]at e;cases e
 refine I.step (g':=s.gens) (d':=s.drawn) (ch:=ch) (λb i=>⟨(h b i).2.2.2.1,(h b i).2.1,(h b i).2.2.2.2.1,(h b i).2.2.2.2.2⟩) (λb o _ _ g e _=>k b o g e) (λb o _ _ g e _=>⟨o.slots,k b o g e⟩)
  (λb ob _ e n=>n) (λb ob g e=>⟨ob,k b ob g e⟩) (λb xs e=>e) (λb ob u e=>e) (λb x e=>⟨#[],by rw[e];simp⟩) (λm p=>?_) (λb u e=>?_) I.bare
 .obtain⟨ob,t,w,l,r⟩:=p;exact⟨ob,t,w,k _ ob (λz=>(h _ z).2.1 rfl) l,r⟩
 .refine(I.bz b u e).ig (λc v g q=>k c v ?_ q) (λc q=>q) λc xs q=>q;rcases g with z|z
  .rw[z];exact j b u e
  .exact j c _ z
end
theorem T8{P:aWm}{w:aWr}{K:aL}{ts:XO}{k:Nat}{pos:Pos}(z TI TO m l C B:aWe)(D:ZipApart z TI TO m l C B):
 Turn P w K (.Tuple ts k pos) (G8 K C B) [z,TI,TO,m,l] z (λi h=>IsZip h z TI TO .none/\IsPair h TI (.ref m) (.ref l)/\(∃a b,IsPair h TO a b)/\h.IsListIter m C i/\h.IsListIter l B i) where
 mem:=by simp
 obj:=λi h st b c=>by
  obtain⟨d,f,⟨a,L,g⟩,⟨o1,e1,c1,d1⟩,⟨o2,e2,c2,d2⟩⟩:=st;simp only[cC,cP,or_false]at c;rcases c with rfl|rfl|rfl|rfl|rfl
  .exact⟨_,d,λv z=>by simp at z⟩
  .exact⟨_,f,λv z=>by simp at z⟩
  .exact⟨_,g,λv z=>by simp at z⟩
  .exact⟨o1,e1,λv z=>by rw[d1]at z;cases z⟩
  .exact⟨o2,e2,λv z=>by rw[d2]at z;cases z⟩
 keep:=λi h h' st j=>by
  obtain⟨d,f,⟨a,L,g⟩,p,n⟩:=st;exact⟨j z (by simp) _ d,j TI (by simp) _ f,⟨a,L,j TO (by simp) _ g⟩,p.at λo e=>j m (by simp) o e,n.at λo e=>j l (by simp) o e⟩
 item:=by
  intro X Z U hK hc i aa s σ H E I J st Y;subst Z U hK;obtain⟨d,f,⟨a,L,g⟩,p,n⟩:=st;obtain⟨xs,ys,x,y,A,t,g1,g2⟩:=Y;obtain⟨S,N,R,z1⟩:=I.list A;obtain⟨ik,O,Q,z2⟩:=I.list t;obtain⟨u,hu,ru⟩:=N.get g1;obtain⟨r,jv,mv⟩:=O.get g2;refine wpAny_pyNext_zip_item D d f g p n R.isList Q.isList (x:=u) (y:=r) (by simpa using hu) (by simpa using jv) λh' a1 a2 a3 a4 a5 a6 G=>?_;refine⟨_,rfl,wpAny_letOwnedTupleGo_zip (s:={s with heap:=h'}) a1 λF zx q=>?_⟩;have M:z≠s.heap.objs.size:=bW (aWi.lt_size d);have j:∀b ob,b∉[z,TI,TO,m,l]->s.heap.get? b=some ob->F.get? b=some ob:=λb ob c e=>by
   simp only[cC,cP,or_false,not_or]at c;exact(q.2 b c.1).trans (G b ob c.1 c.2.2.1 c.2.2.2.1 c.2.2.2.2 e)
  have hT:F.get? s.heap.objs.size=some {cls:=.type "tuple",data:=.seq #[u,r]}:=(q.2 _ (Ne.symm M)).trans a5;have I1:Inv X aa σ (upd H s.heap.objs.size (.tup [x,y])) {s with heap:=F,toks:=s.toks}:=Lb I J j (bD _)
   (show k6 X.prog X.w _ F _ (.tup [x,y])from⟨by show 2<=sizeLine;decide,[u,r],.cons ru (.cons mv .nil),⟨_,hT,rfl,_,rfl⟩⟩)
  have hn:H s.heap.objs.size=none:=I.fresh;refine⟨.ref s.heap.objs.size,_,I1,rfl,⟨_,x,y,hn,rfl,rfl,λzs d=>by rw[I.fq d A];exact g1,λzs d=>by rw[I.fq d t];exact g2⟩,?_,λb c=>?_⟩
  .refine⟨zx,(q.2 _ D.TIz).trans (G _ _ D.TIz D.TITO D.TIi1 D.TIi2 f),⟨u,r,(q.2 _ D.TOz).trans a2⟩,a3.at λo e=>(q.2 _ D.i1z).trans e,a4.at λo e=>(q.2 _ D.i2z).trans e⟩
  .have me:=(J b c).1;rw[gJ]
   .exact me
   .rintro rfl;have:∃o,s.heap.get? s.heap.objs.size=some o:=by
     simp only[cC,cP,or_false]at c;obtain⟨o1,e1,_⟩:=p;obtain⟨o2,e2,_⟩:=n;rcases c with h|h|h|h|h
     .rw[h];exact⟨_,d⟩
     .rw[h];exact⟨_,f⟩
     .rw[h];exact⟨_,g⟩
     .rw[h];exact⟨_,e1⟩
     .rw[h];exact⟨_,e2⟩
    obtain⟨o,e⟩:=this;exact absurd (aWi.lt_size e) (d4 _)
 done:=by
  intro X Z U hK hc i aa s σ H E I J st Y;subst Z U hK;obtain⟨d,f,⟨a,L,g⟩,p,n⟩:=st;obtain⟨xs,ys,A,t,vq⟩:=Y;obtain⟨S,N,R,z1⟩:=I.list A;obtain⟨ik,O,Q,z2⟩:=I.list t;have C:=N.length;have B:=O.length;refine wpAny_pyNext_zip_end (I.ok.hd hc) D d f g p n R.isList Q.isList ?_ λh' G=>⟨rfl,LP (t':=s.toks) I J λb ob c e=>?_⟩
  .rcases vq with h|h
   .exact .inl (by simp at h|-;lia)
   .exact .inr (by simp at h|-;lia)
  .simp only[cC,cP,or_false,not_or]at c;exact G b ob c.1 c.2.2.1 c.2.2.2.1 c.2.2.2.2 e
 self:=λ_ _ _ _ _ st h=>wpAny_pyIter_zip st.1 h
section
variable {X:Cx}{a b e:aWp}{l:XO}{f j:FE}{m:FN}{pos p d:Pos}
theorem O4{D:XO}{k:Nat}{ay:Pos}{t:TA}(Z:Gl X "zip")(U:X.mg "zip"=none)(E:PA X [a,b] t)(S:aWd [a,b] X.env=[(false,aWq a X.env),(false,aWq b X.env)]:=by rfl)(w:aWd [b] X.env=[(false,aWq b X.env)]:=by rfl):
 PI X (.Tuple D k ay) (.Call (.Name "zip" p) [a,b] [] pos) (B2 X.K t):=by
 intro B s r H R I h;refine Call_ (sJ I Z U boot_zip (fA (aI (E pos B s r H _ I h) λus c ⟨vs,C,i,G,L⟩=>?_) (by rw[S,w]) (by rw[w];rfl)));obtain⟨y,x,e,⟨xs,K⟩,⟨ys,J⟩,q⟩:=L;subst e;obtain⟨u,u2,rfl,F,M⟩:=G.two;cases F;cases M;obtain⟨P,rv,v,z1⟩:=i.list K;obtain⟨ik,py,d,z2⟩:=i.list J;have a1:y<c.heap.objs.size:=v.lt;have a2:x<c.heap.objs.size:=d.lt;refine call_zip_2 v.isList d.isList λh' z O N o n Q Y=>wpAny_pyIter_zip z ?_;have I2:Inv X B r C {c with heap:=h'}:=i.kept (t':=c.toks) Y;refine⟨c.heap.objs.size+4,[c.heap.objs.size+4,c.heap.objs.size+2,c.heap.objs.size+3,c.heap.objs.size,c.heap.objs.size+1],_,_,C,rfl,I2,T8 _ _ _ _ _ y x (zipApart_new a1 a2),⟨z,O,⟨_,_,N⟩,o,n⟩,λb A=>?_,q⟩;have g:c.heap.objs.size<=b:=by
  simp only[cC,cP,or_false]at A;rcases A with rfl|rfl|rfl|rfl|rfl
  .exact b8 _ _
  .exact b8 _ _
  .exact b8 _ _
  .exact bD _
  .exact b8 _ _
 exact i.sj g (i.bz.fresh g)
section
variable {c b4:XJ}{is:XG}{h:aXt}{i:List (Str×aWe)}{n:XO}{tk:Nat}{o:Pos}{q:aWp}{r:XO}{s:FE}{g:FG}{u:FB}
theorem JO(F:X.mg "zip"=none)(I:X.calm=true)(k:n9 X c b4 is h i)(K:QE X a f)(J:QE X b j)(D:mz c.length g)(G:∀C t w v,QG (iN X (c++b4) h i C t w v) (.Tuple n tk o) g)(A:∀C t w v,ue (iN X (c++b4) h i C t w v) r u)
 (H:∀C t w v,QE (iN X (c++b4) h i C t w v) q s)(L:Gl X "zip":=by rfl)(B:∀x,aWo (.Call (.Name "zip" p) [a,b] [] d) X.env x=pure x:=by intro _;rfl)
 (z:aWd [a,b] X.env=[(false,aWq a X.env),(false,aWq b X.env)]:=by rfl)(y:aWd [b] X.env=[(false,aWq b X.env)]:=by rfl):
 QN X (.ListComp q [⟨.Tuple n tk o,.Call (.Name "zip" p) [a,b] [] d,r,0⟩] h pos) (uJ f j c.length is g u s):=
 (yN I k (O4 L F (fJ K (fJ J fR (by rw[y];rfl)) (by rw[z,y])) z y) G A H B).imp λ_ _ _=>Tb D
end
variable{c:String}
def CZ(K:aL)(H:Hp)(x:V)(c:String)(b:Bool):Prop:=match x with
 | .aF=>d8 K (.type "NoneType") (.type c)=some b
 | .bl _=>d8 K (.type "bool") (.type c)=some b
 | .int _=>d8 K (.type "int") (.type c)=some b
 | .str _=>d8 K (.type "str") (.type c)=some b
 | .ref a=>((∃xs,cz K H a xs)/\d8 K (.type "list") (.type c)=some b)\/((∃xs,jc K H a xs)/\d8 K (.type "tuple") (.type c)=some b)
 |_=>False
theorem TU:pG X (.builtin "isinstance") (λxs H Q=>∃x c b,xs=[x,.ty c]/\CZ X.K H x c b/\Q (.bl b) H):=by
 intro C s A H xs D Q I r h;obtain⟨x,c,b,rfl,g,q⟩:=h;obtain⟨u,F,rfl,k,B⟩:=r.two;cases B;have fin:∀tk,EP X C A Q (.bool b) {s with toks:=tk}:=λtk=>⟨.bl b,H,I.tok tk,rfl,q⟩;cases x with
 |aF=>cases k;exact Yu PySem.W.kitx_none I.jw True.intro g (λz=>nomatch z) fin
 |bl y=>cases k;exact Yu PySem.W.kitx_bool I.jw True.intro g (λz=>nomatch z) fin
 |int i=>obtain⟨t,q⟩:=k;cases q;exact Yu PySem.W.kitx_int I.jw True.intro g (λz=>nomatch z) fin
 |str y=>obtain⟨t,q⟩:=k;cases q;exact Yu PySem.W.kitx_str I.jw True.intro g (λz=>nomatch z) fin
 |ref a=>
  cases k;rcases g with⟨⟨xs,w⟩,g⟩| ⟨⟨xs,w⟩,g⟩
  .obtain⟨v,_,⟨o,n,e,c,_⟩,_⟩:=I.list w;exact Yu PySem.W.kitx_list I.jw ⟨o,e,c⟩ g (λz=>nomatch z) fin
  .obtain⟨v,_,⟨o,e,c,_⟩,_⟩:=I.tuple w;exact Yu PySem.W.kitx_tuple I.jw ⟨o,e,c⟩ g (λz=>nomatch z) fin
 |_=>exact False.elim g
def DN(c:String):Prop:=∀(K:aL),d8 K (.type "NoneType") (.type c)=some (c=="NoneType")/\d8 K (.type "bool") (.type c)=some (c=="bool"||c=="int")/\d8 K (.type "int") (.type c)=some (c=="int")/\
 d8 K (.type "str") (.type c)=some (c=="str")/\d8 K (.type "list") (.type c)=some (c=="list")/\d8 K (.type "tuple") (.type c)=some (c=="tuple")
theorem SG:DN "int":=λK=>⟨rfl,rfl,rfl,rfl,rfl,rfl⟩
theorem Tj:DN "bool":=λK=>⟨rfl,rfl,rfl,rfl,rfl,rfl⟩
theorem NM{K:aL}{v:L2.St}{H:Hp}{Q:VK}(G:DN c)(h:bg K (yf c f) v H Q):bg K f v H λx o=>∃b,CZ K o x c b/\Q (.bl b) o:=by
 obtain⟨O,N,M,L,J,I⟩:=G K;refine jM (Fg h) λx o q=>?_;obtain⟨D,w,Z,A,P,C,t,S,R,r,e,k⟩:=q;obtain⟨_,_,z,g,r⟩:=r.cons_inv;cases z;obtain⟨b,n,e⟩:=fG e;cases e;refine⟨b,?_,k _ o A R .bl .refl⟩;cases D with
 |aF=>rw[g.kk];exact O.trans n
 |bl y=>rw[g.el];exact N.trans n
 |int i=>rw[g.int_inv];exact M.trans n
 |str y=>
  unfold RT at g;rw[g];exact L.trans n
 |exc y=>cases n
 |lst B=>
  obtain⟨a,vs,u,s,F⟩:=R.li g rfl;rw[u];exact .inl ⟨⟨vs,s⟩,J.trans n⟩
 |tup B=>
  unfold RT at g;obtain⟨a,vs,u,s,F⟩:=g;rw[u];exact .inr ⟨⟨vs,jc.tw (.of s)⟩,I.trans n⟩
 |cell c=>cases n
theorem Ip{x:Str}(v:DN c)(s:X.mg "isinstance"=none)(n:X.mg x=none)(o:aXn x=some (.type c))(w:QE X a f)(t:Gl X "isinstance":=by rfl)(k:Gl X x:=by rfl)(r:x≠"__name__":=by decide)(u:(x==("__debug__":Str))=false:=by decide)
 (g:aWd [a,.Name x d] X.env=(false,aWq a X.env)::aWd [.Name x d] X.env:=by rfl)(i:(aWs pos (aWd [.Name x d] X.env)).any (·.1)=false:=by rfl):
 QE X (.Call (.Name "isinstance" p) [a,.Name x d] [] pos) (yf c f):=
 (zB TU t s boot_isinstance (x9 w (x9 (Se (v:=.ty c) k n o rfl r u) F4 rfl) g) (by decide) (by decide) g i).imp λy H Q h=>jM (NM v h) λx z q=>by
  obtain⟨b,g,i⟩:=q;exact⟨x,c,b,rfl,g,i⟩
theorem Uu(i:X.mg "isinstance"=none)(h:X.mg "int"=none)(n:QE X a f)(k:Gl X "isinstance":=by rfl)(g:Gl X "int":=by rfl)(q:aWd [a,.Name "int" d] X.env=(false,aWq a X.env)::aWd [.Name "int" d] X.env:=by rfl)(o:(aWs pos (aWd [.Name "int" d] X.env)).any (·.1)=false:=by rfl):
 QE X (.Call (.Name "isinstance" p) [a,.Name "int" d] [] pos) (yf "int" f):=Ip SG i h boot_int n k g (by decide) (by decide) q o
theorem Wl(i:X.mg "isinstance"=none)(h:X.mg "bool"=none)(n:QE X a f)(k:Gl X "isinstance":=by rfl)(g:Gl X "bool":=by rfl)(q:aWd [a,.Name "bool" d] X.env=(false,aWq a X.env)::aWd [.Name "bool" d] X.env:=by rfl)(o:(aWs pos (aWd [.Name "bool" d] X.env)).any (·.1)=false:=by rfl):
 QE X (.Call (.Name "isinstance" p) [a,.Name "bool" d] [] pos) (yf "bool" f):=Ip Tj i h boot_bool n k g (by decide) (by decide) q o
end
end TL
namespace TL
open PySem PySem.W PySem.Calls PyProof.Rows L2
theorem Ce{n:Int}(h:(WData.int n).layable=true):aWt.Int.intBits n<=2^20:=by
 obtain⟨_,_,a⟩:=layableW_iff.mp h;unfold WData.weight at a;unfold aWt.Int.intBits;exact a
theorem Wa{a:XE}(h:WData.layableAll [WData.list (a.map WData.int)]=true):∀n∈a,aWt.Int.intBits n<=2^20:=λn b=>
 Ce (layableW_item (layableW_arg h _ bM) _ (iG ⟨n,b,rfl⟩))
theorem UC{l:aUb}{k:Nat}{q:aWm}{j:XJ}{XP:(Str->XM)->aWi->Prop}{YP:aWr->aWi->Prop}{d:DefRec}{K:Params->aL}{x:Str}{R:Xw->Xx}
 (X:l.most=some 63)(y:d.params.defaults=[])(S:cc k callerA)
 (hY:∀(w:aWr)(h:aWi),YP w h->(K w.params).In h)
 (hR:∀i:XE,i.length<=63->(∀n∈i,aWt.Int.intBits n<=2^20)->R [.lst (i.map T.int)]=some (.bl true))
 (F:∀(w:aWr)(m:Str->XM)(p:aWe)(h:aWi),(K w.params).In h->h.Ns aWk m->m d.name=some (.ref p)->
  ∃fd:aXh,(∀(s:aWg)(u:aWf),BindsTo s fd ⟨[u],[]⟩ [(x,u)])/\
   ∀g:aWi,(K w.params).In g->g.Ns aWk m->pK l.prog w (K w.params) m g ku k p fd [x] (spT (K w.params) 1 R)):
 PySem.W.WalkO q j XP YP l.row.toRowW d [] (λf vs=>PySem.call f vs):=by
 intro w I aj m mb G Y p o pm cd doc dV kV ho hd jn M t hg args B as J C P N E;obtain rfl:dV=.none:=Dflts.none M y;obtain rfl:kV=.none:=Dflts.noKw M;obtain⟨a,vs,i,rfl,rfl,D,c,A⟩:=He.VJ X J N;have O:=hY w _ Y;obtain⟨fd,hb,hF⟩:=F w m p _ O G.T.g t;have gn:∀H:Hp,AD H->cz (K w.params) H a (i.map V.int)->spT (K w.params) 1 R [.ref a] H (λv _=>v=.bl true) λ_ _ _=>False:=λH _ L=>by
  refine⟨λ_=>False,[.lst (i.map T.int)],.bl true,rfl,λ_ z=>z.elim,.cons ?_ .nil,hR i A (Wa C),λv H' _ r=>r.el⟩;unfold RT;have sm:b6 H (mask H (λ_=>False) []):=λb o e=>oS (λz=>z) (by simp) e;refine⟨a,_,rfl,sm.seq L,?_⟩;clear L D c A C J P N;induction i with
  |nil=>exact .nil
  |cons n i ih=>exact .cons .int ih
 refine enter_call (codeAny_mono (Tx O G.T.g G.T.b G.T.builtins G.T.nolimit hg D c (bB A (by decide)) S hF hb gn (λH e Q z=>z)) λr Q U=>?_);obtain⟨rfl,h2,h3,h4⟩:=U;exact⟨.inl ⟨.bool true,.bool true,[],rfl,λ_=>rfl,.bool true,He.Vh l _,λ_=>⟨List.Pairwise.nil,λ_ Z=>(nomatch Z)⟩⟩,h2,h3,h4⟩
end TL
namespace TL
open PySem PySem.Spec PyProof.Rows L2
theorem VO(a d:aWf):argsOk "max" ⟨[a],[("default",d)]⟩:=by unfold argsOk;kernel_rfl
noncomputable abbrev Gb(a:Array aWf)(c:Nat):Obj:={cls:=.type "list",dict:=none,data:=.seq a c,slots:=#[]}
section
variable {P:aWm}{w:aWr}{A:aWn}{R:Result->aWg->Prop}{a bs:aWe}{i f:List aWe}{n:Nat}{h:Nat->aWf->Prop}{St:Nat->aWi->Prop}{l:List (Str×aWf)}{bt:Nat->Nat->Bool}
variable{s:aWg}{c:Nat}
theorem DZ:(toString "max"++toString ".loop":String)="max.loop":=by decide
theorem Uz(W:Walks P w A.in1 a i f n h St)(I:CmpOf P w A.in1 .Gt h bt)(F:bs∉i):∀(k j:Nat)(s:aWg)(vb:aWf)(c:Nat),n - (j+1)=k->j+1<=n->St (j+1) s.heap->h (aXv bt j) vb->s.heap.get? bs=some (Gb #[vb,vb] c)->
 (∀v g tk,h (aXv bt (n - 1)) v->(∀b o,b∉f->b≠bs->s.heap.get? b=some o->g.get? b=some o)->R (.ok (.ret v)) {s with heap:=g,toks:=tk})->aXz (aWl P w) A (.builtin "max.loop" ⟨[.ref a,.none,.ref bs],l⟩) R s:=by
 have D:bs∉f:=λq=>F (W.sub _ q);intro k;induction k with
 |zero=>
  intro j s vb c J K st t r fin;have en:j+1=n:=by lia
  refine aYn PySem.F.entry_max_loop (by
   rw[aWn.under_plainId PySem.F.plain_max_loop _];show aWj _ A.in1 (seqItems? (.ref bs)>>=_) _ _ s;refine aWb (wpAny_seqItems r rfl ?_);show aWj _ A.in1 (tryCatch (pyNext (.ref a)) _>>=_) _ _ s;refine aWb (aYa (W.done s _ _ (en ▸ st) λg tk kp=>?_));have p:=kp bs _ D r;show aWj _ A.in1 (updateSeq bs (λ_=>#[])>>=_) _ _ _;exact aWb (wpAny_updateSeq p rfl (aWb (wpAny_letGo (aWh (fin vb _ tk (by rw[<-en];exact t) λb o d m e=>(aWi.get?_update_other _ _ (Ne.symm m)).trans (kp b o d e)))))))
 |succ k ih=>
  intro j s vb c J K st t r fin;have lt:j+1<n:=by lia
  refine aYn PySem.F.entry_max_loop (by
   rw[aWn.under_plainId PySem.F.plain_max_loop _];show aWj _ A.in1 (seqItems? (.ref bs)>>=_) _ _ s;refine aWb (wpAny_seqItems r rfl ?_);show aWj _ A.in1 (tryCatch (pyNext (.ref a)) _>>=_) _ _ s;refine aWb (aYa (W.item (j+1) s _ _ lt st λv g tk pv H kp=>?_));have p:=kp bs _ D r;show aWj _ A.in1 (tryCatch (aXk [v,v] (richCompare .Gt v vb>>=_)) _>>=_) _ _ _;refine aWb (aYa (aWv (aWb (I (j+1) (aXv bt j) v vb _ _ _ pv t (aWb (aWv (aXa (aWb (wpAny_letGo (aWh ?_))))))))));cases G:bt (j+1) (aXv bt j)with
   |true=>
    simp only[if_true];refine aWb (wpAny_updateSeq p rfl (aWb (wpAny_letGo ?_)));rw[DZ];refine aWh ⟨plainId_quiet PySem.F.plain_max_loop _,ih (j+1) _ v _ (by lia) lt (W.frame _ _ _ H λb z o e=>?_) (by simp only[aXv,G,if_true];exact pv) (aWi.get?_update_self _ p rfl) λu C y B x=>?_⟩
    .exact(aWi.get?_update_other _ _ (λq:bs=b=>F (by rw[q];exact z))).trans e
    .exact fin u C y B λb o d m e=>x b o d m ((aWi.get?_update_other _ _ (Ne.symm m)).trans (kp b o d e))
   |false=>
    simp only[cM,if_false];refine aWb (wpAny_letGo ?_);rw[DZ];refine aWh ⟨plainId_quiet PySem.F.plain_max_loop _,ih (j+1) _ vb c (by lia) lt H (by simp only[aXv,G,cM,if_false];exact t) p λu C y B x=>?_⟩;exact fin u C y B λb o d m e=>x b o d m (kp b o d e))
theorem Wq(W:Walks P w A.in1 a i f n h St)(y:CmpOf P w A.in1 .Gt h bt)(d:bs∉i)(p:0<n)(st:St 0 s.heap)(r:s.heap.get? bs=some (Gb #[] c))
 (fin:∀v g tk,h (aXv bt (n - 1)) v->(∀b o,b∉f->b≠bs->s.heap.get? b=some o->g.get? b=some o)->R (.ok (.ret v)) {s with heap:=g,toks:=tk}):aXz (aWl P w) A (.builtin "max.loop" ⟨[.ref a,.none,.ref bs],l⟩) R s:=by
 have B:bs∉f:=λq=>d (W.sub _ q);refine aYn PySem.F.entry_max_loop (by
  rw[aWn.under_plainId PySem.F.plain_max_loop _];show aWj _ A.in1 (seqItems? (.ref bs)>>=_) _ _ s;refine aWb (wpAny_seqItems r rfl ?_);show aWj _ A.in1 (tryCatch (pyNext (.ref a)) _>>=_) _ _ s;refine aWb (aYa (W.item 0 s _ _ p st λv g tk pv F kp=>?_));have m:=kp bs _ B r;show aWj _ A.in1 (updateSeq bs (λ_=>#[v,v])>>=_) _ _ _;refine aWb (wpAny_updateSeq m rfl ?_);rw[DZ];refine aWh ⟨plainId_quiet PySem.F.plain_max_loop _,Uz W y d _ 0 _ v _ rfl p (W.frame _ _ _ F λb z o e=>?_) pv (aWi.get?_update_self _ m rfl) λt D x C u=>?_⟩
  .exact(aWi.get?_update_other _ _ (λq:bs=b=>d (by rw[q];exact z))).trans e
  .exact fin t D x C λb o k j e=>u b o k j ((aWi.get?_update_other _ _ (Ne.symm j)).trans (kp b o k e)))
theorem U5{d:aWf}{k:Str}(W:Walks P w A.in1 a i f 0 h St)(p:bs∉i)(st:St 0 s.heap)(m:s.heap.get? bs=some (Gb #[] c))
 (fin:∀g tk,(∀b o,b∉f->b≠bs->s.heap.get? b=some o->g.get? b=some o)->R (.ok (.ret d)) {s with heap:=g,toks:=tk}):aXz (aWl P w) A (.builtin "max.loop" ⟨[.ref a,.none,.ref bs],[(k,d)]⟩) R s:=by
 refine aYn PySem.F.entry_max_loop (by
  rw[aWn.under_plainId PySem.F.plain_max_loop _];show aWj _ A.in1 (seqItems? (.ref bs)>>=_) _ _ s;refine aWb (wpAny_seqItems m rfl ?_);show aWj _ A.in1 (tryCatch (pyNext (.ref a)) _>>=_) _ _ s;refine aWb (aYa (W.done s _ _ st λg tk kp=>?_));exact aWb (wpAny_rule (aWh (fin g tk λb o j _ e=>kp b o j e))))
end
section
variable {X:Cx}{a:List (aWe×Obj)}{c:L2.St}{H:Hp}{s:aWg}{Q:VK}
theorem VB{p:aWe}{h:XE}{d:Int}{t:Tok}(K:X.calm=true)(I:Inv X a c H s)(J:cz X.K H p (h.map V.int))(q:Q (.int (lI d h)) H):
 aWj (aWl X.prog X.w) X.A (call (.builtin "max") [.ref p] [("default",.int d t)]) (EP X a c Q) X.xe s:=by
 obtain⟨r,B,C,Z⟩:=I.list J;have A:=qW B;obtain⟨f,x⟩:=A.allInts.items;have S:s.heap.IsList p (aXy f):=x ▸ C.isList;have n:h=f.toList.map (·.1):=by
  rw[<-nums_intItems,<-x];exact(show numsOf r.toArray.toList=h from A.numsOf).symm
 refine kmk_tree PySem.F.kind_max PySem.F.plain_max PySem.F.entry_max (VO _ _) ?_;show aWj _ X.A.in1 (aWt.Builtins.bindParams "max" ["key","default"] 0 ⟨[],[("default",.int d t)]⟩>>=_) _ _ s;refine aWb (wpAny_of_eq (show aWt.Builtins.bindParams "max" ["key","default"] 0 ⟨[],[("default",.int d t)]⟩=pure [none,some (.int d t)]from rfl) (aWb (aWh ?_)));refine aWb (iter_intList S λY R st N D=>?_);subst R;have W:=Walks.list (prog:=X.prog) (w:=X.w) (A:=X.A.in1) (I.ok.hd K) s.heap.objs.size p D (aXy f);have w:(s.heap.push {cls:=.type "list_iterator",data:=.fields #[.ref p,.int 0 0]}).objs.size∉[s.heap.objs.size,p]:=λz=>d4 _ (N _ z);refine aWb (aXr ?_);rw[DZ];refine aWh ⟨plainId_quiet PySem.F.plain_max_loop _,?_⟩;by_cases l:h=[]
 .have k:(aXy f).size=0:=by
   have m:h.length=0:=by rw[l];rfl
   rw[n,aP,cF]at m;simpa[aXy]using m
  rw[k]at W;refine U5 W w (W.frame _ _ _ st λb _ o e=>aWi.get?_push_of_some _ e) (aWi.get?_push_size _ rfl) λg tk kp=>?_;refine⟨.int d,H,I.kept λb o e=>kp b o (λz=>?_) (bW (Yy (aWi.lt_size e) (by rw[aWi.size_push];exact bX _))) (aWi.get?_push_of_some _ (aWi.get?_push_of_some _ e)),⟨_,rfl⟩,?_⟩
  .exact d4 _ (gO z ▸ aWi.lt_size e)
  .have:lI d h=d:=by unfold lI;rw[l];rfl
   rw[this]at q;exact q
 .have k:0<f.size:=by
   have m:0<h.length:=j3 l;rw[n,aP,cF]at m;exact m
  refine Wq W (bt:=λi j=>decide (aXu f i>aXu f j)) (CmpOf.ints_gt (aXu f) (λ_ _=>intItems_at)) w (by simpa[aXy]using k) (W.frame _ _ _ st λb _ o e=>aWi.get?_push_of_some _ e) (aWi.get?_push_size _ rfl) λv g tk pv kp=>?_;have F:(aXy f)[aXv (λi j=>decide (aXu f i>aXu f j)) (f.size - 1)]?=some v:=by simpa[aXy]using pv
  obtain⟨U,rfl⟩:=intItems_at F;obtain⟨E,L⟩:=argBest_gt (aXu f) (f.size - 1);obtain⟨u,G⟩:=Md l;have P:aXu f (aXv (λi j=>decide (aXu f i>aXu f j)) (f.size - 1))=wK h:=by
   apply cA
   .refine G _ ?_;generalize aXv (λi j=>decide (aXu f i>aXu f j)) (f.size - 1)=j at*;rw[n,numAt_eq];exact getD_mem (by rw[aP,cF];lia)
   .generalize wK h=M at*;rw[n]at u;obtain⟨j,y,O⟩:=mem_getD u;rw[aP,cF]at y;rw[<-O,<-numAt_eq];exact L j (Yx (bS y))
  refine⟨.int (wK h),H,I.kept λb o e=>kp b o (λz=>?_) (bW (Yy (aWi.lt_size e) (by rw[aWi.size_push];exact bX _))) (aWi.get?_push_of_some _ (aWi.get?_push_of_some _ e)),⟨_,by rw[P]⟩,?_⟩
  .exact d4 _ (gO z ▸ aWi.lt_size e)
  .have:lI d h=wK h:=by
    unfold lI;rw[aWa (by simpa using l)]
   rw[this]at q;exact q
end
def DQ(K:aL):R2:=λx y H Q=>∃p a d,x=.ref p/\y=.int d/\cz K H p (a.map V.int)/\Q (.int (lI d a)) H
theorem PX{K:aL}{f:L2.St}{H:Hp}{Q:VK}{x y:V}(h:∃c b,ib K f [c,b] [x,y] (CM c b) H Q):DQ K x y H Q:=by
 obtain⟨c,b,d,Z,g,s,C,t,v,R,r,e,k⟩:=h;obtain⟨_,_,z,l,r⟩:=r.cons_inv;cases z;obtain⟨_,_,z,j,r⟩:=r.cons_inv;cases z;unfold CM at e;split at e
 .obtain⟨u,q,e⟩:=fE e;obtain⟨n,p,e⟩:=fG e;cases e;obtain⟨a,vs,o,m,i⟩:=R.li l q;have:=LS i p;subst this;exact⟨a,n,_,o,j.int_inv,m,k _ H g R .int .refl⟩
 .cases e
section
variable {X:Cx}{p pos kp:Pos}{e de:aWp}{b a:TE}{c f:FE}
theorem Rl(C:X.mg "max"=none)(G:X.calm=true)(K:PE X e b)(J:PE X de a)(D:Gl X "max":=by rfl)
 (F:aWs pos (aWd [e] X.env)=(false,aWq e X.env)::aWs pos (aWd [] X.env):=by rfl)(L:(aWs pos (aWd [e] X.env)).any (·.1)=false:=by rfl)
 (n:aWd [e] X.env=(false,aWq e X.env)::aWd [] X.env:=by rfl):
 PE X (.Call (.Name "max" p) [e] [⟨some "default",de,kp⟩] pos) (zp (DQ X.K) b a):=by
 intro r s k H Q I h;refine aXp (sJ I D C boot_max ?_ (by decide) (by decide));refine aUm (aI ((x9 K F4 n) pos r s k H (λvs o=>match vs with
  | [x]=>a k o λy j=>DQ X.K x y j Q
  |_=>False) I h) λP w ⟨vs,o,N,m,i⟩=>?_) F L rfl rfl
 match vs,m,i with
 | [x],m,i=>
   obtain⟨u,rfl,z⟩:=vals1 m;refine aI ((Sg J N8) pos r w k o (λvs j=>match vs with
    | [y]=>DQ X.K x y j Q
    |_=>False) N i) λO S ⟨v,j,M,l,g⟩=>?_
   match v,l,g with
   | [y],l,g=>
     obtain⟨R,rfl,A⟩:=vals1 l;obtain⟨p,U,d,rfl,rfl,B,q⟩:=g;cases z;obtain⟨t,rfl⟩:=A;exact VB G M B q
   | [],_,g=>exact g.elim
   |_::_::_,_,g=>exact g.elim
 | [],_,i=>exact i.elim
 |_::_::_,_,i=>exact i.elim
theorem Iw(g:X.mg "max"=none)(j:X.calm=true)(l:QE X e c)(k:QE X de f)(h:Gl X "max":=by rfl)
 (i:aWs pos (aWd [e] X.env)=(false,aWq e X.env)::aWs pos (aWd [] X.env):=by rfl)(m:(aWs pos (aWd [e] X.env)).any (·.1)=false:=by rfl)
 (d:aWd [e] X.env=(false,aWq e X.env)::aWd [] X.env:=by rfl):
 QE X (.Call (.Name "max" p) [e] [⟨some "default",de,kp⟩] pos) (Fv c f):=(Rl g j l k h i m d).imp λ_ _ _=>xO (λ_ _ _ _ _=>PX)
end
section
variable {P:aWm}{w:aWr}{A:aWn}{E:XN}{s:aWg}{z TI TO c d f g:aWe}{h i:Nat}{xs j:Array aWf}{x y a b l f1:aWf}
end
section
variable {X:Cx}{a b e:aWp}{c d:FE}{pos p f:Pos}
variable {h b4:XJ}{is:XG}{i:aXt}{j:List (Str×aWe)}{x:Str}{l:Pos}{m:aWp}{n:XO}{o:FE}{g:FG}{q:FB}
end
section
variable {X:Cx}{a e:aWp}{b:TE}{c:FE}{pos d f g:Pos}
end
section
variable {X:Cx}{a b:aWp}{c d:FE}
end
section
variable {X:Cx}{a e b:aWp}{c:FE}{pos p d:Pos}{f:List Stmt}{F:FS}{g:FG}
end
section
variable {X:Cx}{st:Stmt}{a:List Stmt}{F G:FS}
end
end TL
namespace TL
open PySem L2
abbrev XF:=aE->ab->Option (String×ab)
noncomputable def fX(x:XF)(F:FS):FS:=λa C=>match x a C with
 |some (c,b)=>some (.ex c,a,b)
 |none=>F a C
noncomputable def s7(c:String)(b:FN):FS:=λa C=>(b a C).bind λp=>if p.1.length<=10 then some (.ex c,a,p.2)else none
def gX(n:Nat)(G:Xw->Option String)(a:Xw)(C:ab):Option String:=if a.length=n then(if fc a=true then G a else(b7 (dr 3 C) a).bind G)else none
def wc(n:Nat)(G:Xw->Option String)(b:FN):XF:=λa C=>(b a C).bind λp=>(gX n G p.1 p.2).map λc=>(c,p.2)
def E3(B:FS)(m:Nat)(a:Xw):Option String:=match B (ja m a) []with
 |some (.ex c,_,_)=>some c
 |_=>none
def Ek(b:FE)(x:XF):XF:=λa C=>(b a C).bind λp=>match p.1 with
 | .cell c=>(lc p.2 c).bind λ_=>x a p.2
 |_=>none
section
variable {K:aL}{a:L2.St}{H:Hp}{Q:VK}
end
end TL
namespace TL
open PySem PySem.Spec PyProof.Rows L2
section
variable {K:aL}{W:XW}{a:L2.St}{H:Hp}{x:XF}
end
section
variable {X:Cx}{c:List (aWe×Obj)}{d:L2.St}{H:Hp}{s:aWg}{k:Nat}{f:aWe}{fd:aXh}{g:XJ}{h:Sp}{e a b:aWp}{i:XO}{pos p:Pos}{x:XF}{j l:FE}{m:FN}{st:Stmt}{F:FS}
end
section
variable {X:Cx}{a:List (aWe×Obj)}{b:L2.St}{H:Hp}{s:aWg}{c:String}{C:aWe}{d:aWp}{rest:XO}{f g pos:Pos}{h:FN}
end
section
variable {P:aWm}{w:aWr}{K:aL}{a:Str->XM}{b:aWi}
end
end TL
namespace PySem
end PySem
namespace TL
open PySem PySem.Spec PyProof.Rows L2
section
variable {X:Cx}{b:List (aWe×Obj)}{σ:L2.St}{H d:Hp}{s s':aWg}{c:String}{C a:aWe}{B:aWi}
abbrev Cx.at(X:Cx)(A:aWn)(f:Bool)(pn:List (aWe×Obj))(g:XN):Cx:={X with A:=A,calm:=f,pn:=pn,xe:=g}
end
section
variable {X:Cx}{a:String->List String}{rs b:List String}{d:String}{i:Nat}{n:Str}{F G:FS}{body c:List Stmt}{f:Stmt}{g h pos:Pos}
end
end TL
namespace PySem.W
open PySem PySem.Spec PySem.Calls PyProof.Rows Builtin Builtin.ObjectAttr Builtin.Getset_descriptor
section
variable {a:aWm}{w:aWr}{A:aWn}{E:XN}{s:aWg}{K:Frag}{x C D:aWe}{name:Str}{R:Result->aWg->Prop}
end
section
variable {a:aWm}{w:aWr}{A:aWn}{E:XN}{K:Frag}{x C:aWe}{R:Result->aWg->Prop}{h:aWi}{g:Array GenState}{d:Drawn}{t:Nat}{os:OsState}
end
end PySem.W
namespace TL
open PySem PySem.Spec PyProof.Rows L2
section
variable {X:Cx}
variable {b:String->List String}{rs c:List String}{a:aWp}{f:FE}{p pos g h:Pos}{d:String}{i:List String}{j:XO}
end
section
variable {X:Cx}{a e:aWp}{b:XO}{c:FE}{x:XF}{pos:Pos}
end
section
variable {X:Cx}{e:aWp}{a:XO}{b:FN}{p pos:Pos}
end
section
variable {X:Cx}{a b e de:aWp}{c d:FE}{x:XF}{p pos kp:Pos}
end
end TL
namespace TL
open PySem L2
def Bl(f g h:FE):FS:=λa C=>(f a C).bind λq=>(g a q.2).bind λr=>match q.1,r.1 with
 | .cell c,.int i=>(lc r.2 c).bind λts=>(dc ts i).bind λb=>match b with
   | .int x=>(h a r.2).bind λp=>match p.1 with
     | .int y=>(lc p.2 c).bind λd=>(jz d.length i).map λj=>(.nx,a,p.2.set c (.l,d.set j (.int (x+y))))
     |_=>none
   |_=>none
 |_,_=>none
abbrev Bj(a b:FE):FE:=kA a b (qg (λ_ j=>decide (0<j/\j<2^250)) λi j=>.int (i/j))
def uA(b:FN):FE:=pJ b λa C=>if a.length<=lim then some (.tup a,C)else none
section
variable {K:aL}{W:XW}{b:St}{H:Hp}
theorem PV{r s t:FE}{D:Ends}(h:ep K W (Bl r s t) D b H):xg (bg K r) (bg K s) (bg K t) (Du K) (Ho λi j=>i+j) Fx D b H:=by
 obtain⟨c,Z,G,d,C,fl,ah,C',R,e,k⟩:=h;unfold Bl at e;obtain⟨⟨M,F⟩,e1,e⟩:=fE e;obtain⟨⟨L,B⟩,e2,e⟩:=fE e;refine⟨c,Z,G,d,C,M,F,R,e1,λy H1 af R1 Y N=>?_⟩;refine⟨c,Z,af,d,F,L,B,R1,e2,λz H2 ar R2 q n=>?_⟩;dsimp only at e;split at e
 .obtain⟨ts,e3,e⟩:=fE e;obtain⟨U,e4,e⟩:=fE e;split at e
  .rename_i x;obtain⟨⟨t3,C3⟩,e5,e⟩:=fE e;dsimp only at e;split at e
   .rename_i w;obtain⟨us,e6,e⟩:=fE e;obtain⟨j,e7,e⟩:=fG e;cases e;have p:=Y.step n;obtain⟨a,vs,E,P,O⟩:=R2.li p (ts:=ts) e3;obtain⟨v,S,Q⟩:=IR O e4;refine⟨a,vs,_,v,E,q.int_inv,P,S,?_⟩;refine⟨c,Z,ar,d,B,_,C3,R2,e5,λu H3 az A X m=>?_⟩;refine⟨x,w,Q.int_inv,X.int_inv,?_⟩;have l:=p.step m;unfold RT at l;obtain⟨a',g,o⟩:=l;obtain⟨f,c2,c3⟩:=A.pw o (lF e6);obtain⟨J,I⟩:=A.write o (by rw[c2];trivial) (c3.set (t:=.int (x+w)) (v:=.int (x+w)) .int j);exact⟨a',f,_,j,g,q.int_inv,c2,by rw[c3.length];exact e7,k b _ az J (((N.trans n).trans m).ss.trans I)⟩
   .cases e
  .cases e
 .cases e
theorem Pi{f:FN}{Q:VK}(m:lim<=sizeLine)(h:bg K (uA f) b H Q):Bx (jd K f) b H Q:=by
 obtain⟨a,Z,i,g,C,j,w,R,e,k⟩:=CA h;refine⟨a,Z,i,g,C,j,w,R,e,λvs v q u o l=>?_⟩;obtain⟨x,y,A,s,z,D,t,B,d,r,e,k⟩:=k vs v q u o l;split at e
 .rename_i n;cases e;exact⟨by rw[r.length];exact bB n m,λp c=>k _ _ s (d.alloc c).1 (d.hG c r) (d.alloc c).2⟩
 .cases e
end
end TL
namespace TL
open PySem PySem.Spec PyProof.Rows L2
section
variable {X:Cx}{a b c e:aWp}{g:XO}{d f l:FE}{m:FN}{p pos:Pos}
theorem Vf:CT X (Du X.K):=by
 intro N s A H o i O P Q I C B h;obtain⟨p,xs,i,z,rfl,rfl,D,G,q⟩:=h;cases C;obtain⟨t,rfl⟩:=B;obtain⟨u,r,x,R⟩:=I.list D;obtain⟨j,k,L,U,K,J⟩:=yQ G;obtain⟨w,y,M⟩:=r.get L;have F:=r.length;have S:=gi;have fin:EP X N A Q w s:=⟨z,H,I,M,q⟩;by_cases n:0<=i
 .have v:i.toNat=j:=by
   rw[seqIndex_of n J]at k;exact dC.inj k
  exact wpAny_getItem_list x.isList n (by lia) (by rw[v];simpa using y) fin
 .have v:(i+(u.toArray.size:Int)).toNat=j:=by
   rw[seqIndex_neg (iP n) K]at k;rw[bF,<-F];exact dC.inj k
  exact wpAny_getItem_list_neg x.isList (iP n) (by rw[bF]<;>lia) (by lia) (by rw[v];simpa using y) fin
theorem Ri(n:QE X a d)(o:QE X b f)(k:QE X c l)
 (q:∀i j h,augStore b i j h=(do aXk [h,i,j] (setItem i j h);release [h,i,j] [];pure .next):=by intros;rfl):QS X (.AugAssign (.Subscript a b p) .Add c pos) (Bl d f l):=
 (Sh n o Vf k Js KZ q).imp λ_ _ _=>PV
theorem wP{k}(h:QA X g m):QE X (.Tuple g k pos) (uA m):=(N4 h).imp λ_ _ _=>Pi nC
theorem rm{j:Int}(h:0<j/\j<2^250):j.natAbs.log2<9000:=by
 have k:j.natAbs≠0:=by lia
 have:j.natAbs<2^250:=by
  have i:=h.2;have:((j.natAbs:Nat):Int)<((2^250:Nat):Int):=by
   rw[aTv (bU h.1)];simpa using i
  exact mI this
 have:=(aUA k).mpr this;exact aM this (by decide)
theorem Tr:hO X (aYb .FloorDiv) (rI (λ_ j=>0<j/\j<2^250) λi j=>.int (i/j)):=BS λi j _ _ _ _ _ h q=>by
 have k:(0:Int)<j:=h.1;exact floordiv_int (by lia) (by rw[aS1 i (bU h.1)];exact q) (.inl (PyProof.noPylong_of_log2 (rm h)))
theorem yF(n:QE X a d)(k:QE X b f):QE X (.BinOp a .FloorDiv b pos) (Bj d f):=(w6 Tr n k).imp λ_ _ _=>xO λ_ _ _ _ _ h=>by
 obtain⟨i,j,t,s,r,q⟩:=Cp (g:=λi j=>.int (i/j)) (λ_ _ _ _=>.int) h;have o:0<j/\j<2^250:=of_decide_eq_true r;exact⟨i,j,t,s,o,q⟩
end
end TL
namespace TL
open PySem L2
noncomputable def Av(x:Int):XE->XE
 | []=>[x]
 |y::a=>if x<=y then x::y::a else y::Av x a
def Di:XE->XE
 | []=>[]
 |x::xs=>Av x (Di xs)
theorem wI{x:Int}:∀{a:XE},(Av x a).Perm (x::a)
 | []=>.refl _
 |y::a=>by
  unfold Av;split
  .exact .refl _
  .exact(List.Perm.cons y wI).trans (List.Perm.swap x y a)
theorem zK:∀{xs:XE},(Di xs).Perm xs
 | []=>.refl _
 |x::xs=>wI.trans (List.Perm.cons x zK)
theorem LF{x:Int}:∀{b:XE},b.Pairwise (· <= ·)->(Av x b).Pairwise (· <= ·)
 | [],_=>by simp[Av]
 |y::b,h=>by
  unfold Av;obtain⟨c,d⟩:=kL h;split
  .rename_i a;refine Zf.mpr ⟨λz hz=>?_,h⟩;rcases fU hz with rfl|hz
   .exact a
   .exact bG a (c z hz)
  .rename_i a;refine Zf.mpr ⟨λz hz=>?_,LF d⟩;rcases fU (wI.mem_iff.mp hz)with rfl|hz
   .exact bU (iP a)
   .exact c z hz
theorem GE:∀{xs:XE},(Di xs).Pairwise (· <= ·)
 | []=>.nil
 |x::xs=>LF GE
theorem KO:∀{xs a:XE},xs.Perm a->xs.Pairwise (· <= ·)->a.Pairwise (· <= ·)->xs=a
 | [],a,h,_,_=>(List.nil_perm.mp h).symm
 |x::xs,[],h,_,_=>absurd (List.perm_nil.mp h) (by simp)
 |x::xs,y::a,h,f,d=>by
  obtain⟨k,j⟩:=kL f;obtain⟨i,g⟩:=kL d;have e:x=y:=by
   have c:x<=y:=by
    rcases fU (h.mem_iff.mpr (bM (a:=y) (l:=a)))with h|h
    .exact dI (eS h)
    .exact k y h
   have b:y<=x:=by
    rcases fU (h.mem_iff.mp (bM (a:=x) (l:=xs)))with h|h
    .exact dI (eS h)
    .exact i x h
   exact cA c b
  subst e;rw[KO (List.Perm.cons_inv h) j g]
end TL
namespace TL
open PySem PySem.Spec PyProof.Rows L2
section
variable {X:Cx}{e:aWp}{a:XO}{b:FN}{p pos:Pos}
end
end TL
namespace TL
open PySem L2
end TL
namespace TL
open PySem PySem.Spec PyProof.Rows L2
section
variable {X:Cx}{a b:aWp}{c d:FE}{p pos:Pos}
end
end TL
namespace TL
open PySem L2
noncomputable def Bm(b a:T)(C:ab):Option (T×ab):=match a with
 | .aF=>match b with
   | .aF=>some (.bl false,C)
   |_=>some (.bl true,C)
 |_=>none
end TL
namespace TL
open PySem PySem.Spec PyProof.Rows L2
section
variable {K:aL}{c:L2.St}{H:Hp}
theorem OO{x y:V}{Q:VK}(h:∃f g,ib K c [f,g] [x,y] (Bm f g) H Q):y=.aF/\Q (.bl (!decide (x=.aF))) H:=by
 obtain⟨f,g,l,Z,i,m,C,t,n,R,r,e,k⟩:=h;obtain⟨_,_,z,d,r⟩:=r.cons_inv;cases z;obtain⟨_,_,z,j,r⟩:=r.cons_inv;cases z;unfold Bm at e;split at e
 .unfold RT at j;refine⟨j,?_⟩;cases f with
  |aF=>cases e;unfold RT at d;rw[d];exact k _ H i R .bl .refl
  |_=>
   cases e;have:decide (x=V.aF)=false:=by
    unfold RT at d;first
     | (rw[d];rfl)
     | (obtain⟨a,d⟩:=d;first| (rw[d.1];rfl)| (obtain⟨b,d⟩:=d;rw[d.1];rfl))
   rw[this];exact k _ H i R .bl .refl
 .cases e
end
section
variable {X:Cx}{a b e:aWp}{f:XO}{c d:FE}{g:FN}{p pos:Pos}
theorem Pc(j:QE X a c)(i:QE X b d)(h:aWw .IsNot b=false:=by rfl):QT X (.Compare a [.IsNot] [b] pos) (kB (kA c d Bm)):=Ay Sk (λ_ _ _ _ _=>OO) j i h
end
section
variable {X:Cx}{a b:XJ}{is:XG}{c:aXt}{d:List (Str×aWe)}{x:Str}
end
section
variable {X:Cx}{p a pos:Pos}{b b4:XJ}{is:XG}{c:aXt}{d:List (Str×aWe)}{f iter h:aWp}{i:XO}{j l:FE}{g:FG}{m:FB}{n:Str}
end
end TL
namespace TL
open PySem L2
mutual
def sh(k:Nat):T->T
 | .lst a=>.lst (mn k a)
 | .tup a=>.tup (mn k a)
 | .cell c=>.cell (k+c)
 | .aF=>.aF
 | .bl b=>.bl b
 | .int i=>.int i
 | .str x=>.str x
 | .exc c=>.exc c
def mn(k:Nat):Xw->Xw
 | []=>[]
 |t::a=>sh k t::mn k a
end
def xk(k:Nat)(x:Cl):Cl:=(x.1,mn k x.2)
section
variable {K:aL}{M:Hp}{b d:cn}{k:Nat}
mutual
theorem RT.sh(p:∀(c:Nat)(a:aWe),b[c]?=some a->d[k+c]?=some a):∀{t:T}{v:V},RT K M b t v->RT K M d (TL.sh k t) v
 | .aF,_,h=>by unfold TL.sh;unfold RT at*;exact h
 | .bl _,_,h=>by unfold TL.sh;unfold RT at*;exact h
 | .int _,_,h=>by unfold TL.sh;unfold RT at*;exact h
 | .str _,_,h=>by unfold TL.sh;unfold RT at*;exact h
 | .lst f,v,h=>by
   unfold TL.sh;unfold RT at*;obtain⟨a,vs,e,q,r⟩:=h;exact⟨a,vs,e,q,aB.sh p r⟩
 | .tup f,v,h=>by
   unfold TL.sh;unfold RT at*;obtain⟨a,vs,e,q,r⟩:=h;exact⟨a,vs,e,q,aB.sh p r⟩
 | .cell c,v,h=>by
   unfold TL.sh;unfold RT at*;obtain⟨a,e,q⟩:=h;exact⟨a,e,p c a q⟩
 | .exc c,v,h=>by
   unfold TL.sh;unfold RT at*;exact h
theorem aB.sh(p:∀(c:Nat)(a:aWe),b[c]?=some a->d[k+c]?=some a):∀{f:Xw}{vs:Xy},aB K M b f vs->aB K M d (mn k f) vs
 | [],_,h=>by unfold mn;unfold aB at*;exact h
 |t::f,vs,h=>by
  unfold mn;unfold aB at*;obtain⟨v,r,e,i,g⟩:=h;exact⟨v,r,e,RT.sh p i,aB.sh p g⟩
end
end
def ym(K:aL)(n:Nat)(G:Xw->Option (T×ab)):Sp:=λvs H Q _=>∃Z b r f,b.length=n/\(∀a,Z a->NT (H a))/\aB K (mask H Z []) [] b vs/\G b=some (r,f)/\
 ∀v d c g h,Rel K H Z c h f g d->RT K (mask d Z c) c r v->Q v d
theorem Lg{K:aL}{n:Nat}{G:Xw->Option (T×ab)}:∀vs H Q E,ym K n G vs H Q E->vs.length=n:=λvs H Q E a=>by obtain⟨Z,b,r,c,h,_,rr,_⟩:=a;rw[rr.length,h]
def yv(p:T×ab):Fl×aE×ab->Prop
 | (.rt r,_,C)=>p=(r,C)
 |_=>False
def Ba(B:FS)(m:Nat)(a:Xw):Option (T×ab):=match B (ja m a) []with
 |some (.rt r,_,C)=>some (r,C)
 |_=>none
theorem K3{B:FS}{m n:Nat}:∀a p,a.length=n->Ba B m a=some p->∃r,B (ja m a) []=some r/\yv p r:=λa p _ e=>by
 unfold Ba at e;split at e
 .rename_i h;cases e;exact⟨_,h,rfl⟩
 .cases e
section
variable {K:aL}{W:XW}{d:St}{H:Hp}{Q:VK}{D:Ends}
variable{G:Xw->Option (T×ab)}
theorem JI{n m:Nat}{F:FS}{vs:Xy}{E:XK}(q:∀a p,a.length=n->G a=some p->∃r,F (ja m a) []=some r/\yv p r)(h:ym K n G vs H Q E):
 ep K W F {nx:=λ_ f=>Q .aF f,rt:=Q} (vs.map some++aT (m - vs.length) none) H:=by
 obtain⟨Z,a,r,z,o,j,rr,e,k⟩:=h;obtain⟨⟨g,i,y⟩,s,b⟩:=q a _ o e;refine⟨H,Z,[],ja m a,[],g,i,y,Rel.start j rr,s,λt f w x _=>?_⟩;cases g with
 |nx=>exact False.elim b
 |bk=>exact False.elim b
 |ct=>exact False.elim b
 |ex c=>exact False.elim b
 |rt u=>
  cases b;exact λv l=>k v f w t i x l
def uN(n:Nat)(G:Xw->Option (T×ab))(a:Xw)(C:ab):Option (T×ab):=if a.length=n/\fc a=true then(G a).map λp=>(sh C.length p.1,C++p.2.map (xk C.length))else none
abbrev Gg(n:Nat)(G:Xw->Option (T×ab))(a:FN):FE:=pJ a (uN n G)
theorem Ry{n:Nat}{vs:Xy}{E:XK}(h:∃q,ib K d q vs (uN n G q) H Q):ym K n G vs H Q E:=by
 obtain⟨q,o,Z,f,J,C,t,P,R,r,e,k⟩:=h;unfold uN at e;split at e
 .rename_i I;obtain⟨⟨u,Cn⟩,M,e⟩:=fG e;cases e;refine⟨λa=>Z a\/a∈f,q,u,Cn,I.1,λa z=>?_,by rw[GO];exact r.cf I.2,M,λv p ae N O g F=>?_⟩
  .rcases z with z|z
   .exact R.zd a z
   .exact R.jk z
  .have em:mask p (fun a=>Z a\/a∈f) ae=mask p Z (f++ae):=by
    funext a;unfold mask;by_cases h:(Z a\/a∈f)\/a∈ae
    .rw[aWc h,aWc (by rcases h with(h|h)|h;exact .inl h;exact .inr (jP (.inl h));exact .inr (jP (.inr h)))]
    .rw[aWa h,aWa (by
      rintro(z|z)
      .exact h (.inl (.inl z))
      .rcases fZ z with z|z
       .exact h (.inl (.inr z))
       .exact h (.inr z))]
   have B:∀(c:Nat)(a:aWe),ae[c]?=some a->(f++ae)[C.length+c]?=some a:=λc a z=>by
    rw[<-R.len,bL (b8 _ _)];rw[show f.length+c - f.length=c from cQ (XX f) c];exact z
   have st:Step H p f (f++ae):=.of g.old λa j=>(g.b4 a j).1;have L:Rel K o Z (f++ae) J (C++Cn.map (xk C.length)) d p:=by
    refine⟨R.old.trans g.old,λa j=>?_,?_,λa z=>g.zd a (.inl z),λi t e=>?_,λc a e=>?_,?_,R.rA⟩
    .rcases fZ j with j|j
     .exact R.b4 a j
     .exact⟨R.old.free (g.b4 a j).1,λz=>(g.b4 a j).2 (.inl z)⟩
    .exact jF ⟨R.nd,g.nd,λa m b l z=>by subst z;exact(g.b4 a l).2 (.inr m)⟩
    .obtain⟨v,m,l⟩:=R.loc i t e;exact⟨v,m,l.step st⟩
    .by_cases s:c<f.length
     .rw[aR s]at e;obtain⟨y,x,ob,m,l,A,w⟩:=R.jq c a e;exact⟨y,x,ob,by rw[aR (by rw[<-R.len];exact s)];exact m,g.old _ _ l,A,w.step st⟩
     .rw[bL (cT s)]at e;obtain⟨y,x,ob,m,l,A,w⟩:=g.jq _ a e;refine⟨xk C.length y,x,ob,?_,l,A,?_⟩
      .rw[bL (by rw[<-R.len];exact cT s),<-R.len,bI,m];rfl
      .rw[em]at w;exact w.sh B
    .rw[aY,aY,aP,R.len,g.len]
   rw[em]at F;exact k v p (f++ae) L (F.sh B) st
 .cases e
theorem RH{a:FN}{n:Nat}{E:XK}(h:bg K (pJ a (uN n G)) d H Q):DI (ym K n G) [] E (jd K a) d H Q:=
 sA (CA h) λvs _ q=>by rw[aU];exact Ry q
theorem Rel.locals{a:Hp}{Z:aWe->Prop}{f:cn}{g:aE}{C:ab}{b:Xw}{vs:Xy}{m:Nat}(R:Rel K a Z f g C d H)(h:aB K (mask H Z f) f b vs):
 Rel K a Z f (ja m b) C (vs.map some++aT (m - vs.length) none) H:=by
 refine⟨R.old,R.b4,R.nd,R.zd,λi t e=>?_,R.jq,R.len,by simp[ja,h.length]⟩;unfold ja at e;have c:i<b.length:=by
  by_cases c:i<b.length
  .exact c
  .rw[bL (by simpa using c),dR]at e;split at e<;>cases e
 rw[aR (by simpa using c),bI]at e;cases q:b[i]?with
 |none=>rw[q]at e;cases e
 |some u=>
  rw[q]at e;cases e;obtain⟨v,k,j⟩:=h.get q;refine⟨v,?_,j⟩;rw[aR (by simpa[h.length]using c),bI,k];rfl
end
end TL
namespace TL
open PySem PySem.Spec PyProof.Rows L2
section
variable {X:Cx}{e:aWp}{c:XO}{d:FN}{p pos i:Pos}
structure DH(P:aWm)(w:aWr)(K:aL)(mg:Str->XM)(base:aWi)(k:Nat)(x:Str)(n:Nat)(G:Xw->Option (T×ab)):Prop where
 ex:∃f fd ps,pK P w K mg base ku k f fd ps (ym K n G)/\mg x=some (.ref f)/\dQ K (.ref f)=true/\Binds K fd ps []
theorem JT{k n:Nat}{x:Str}{G:Xw->Option (T×ab)}(D:DH X.prog X.w X.K X.mg X.base k x n G)(a:cc k X.A)(o:QA X (e::c) d)(j:Gl X x:=by rfl)(q:(x==("__debug__":Str))=false:=by decide)
 (l:aWd (e::c) X.env=(false,aWq e X.env)::aWd c X.env:=by rfl)(r:(aWs pos (aWd c X.env)).any (·.1)=false:=by rfl):QE X (.Call (.Name x p) (e::c) [] pos) (Gg n G d):=by
 obtain⟨f,fd,s,F,b,g,m⟩:=D.ex;exact(GQ (E:=λ_ _ _=>False) F a j b g m .nil (λ_ _ _ _ _ _ _ h=>h.elim) o q l r).imp λ_ _ _=>RH
section
variable {f b4:XJ}{is:XG}{h:aXt}{j:List (Str×aWe)}{l a b:aWp}{m n:XO}{tk}{o q r:Pos}{s u v:FE}{g:FG}{w:FB}{x:Str}
end
end
end TL
namespace TL
open PySem L2
noncomputable def dn{a:Type}(f:Str):XJ->List a->Option a
 |n::b,t::ts=>if f=n then some t else dn f b ts
 |_,_=>none
noncomputable def pn(f:Str):XJ->XJ
 | []=>[f]
 |n::a=>if n=f then n::a else n::pn f a
noncomputable def pv{a:Type}(f:Str)(t:a):XJ->List a->List a
 | [],_=>[t]
 |n::b,x::ts=>if n=f then t::ts else x::pv f t b ts
 |_::_,[]=>[]
theorem yR{f:Str}:∀{a:XJ}{vs:Xy},(a.zip vs).lookup f=dn f a vs
 | [],_=>rfl
 |_::_,[]=>rfl
 |n::a,v::vs=>by
  rw[c8,cL];unfold dn;by_cases h:f=n
  .rw[aWc h,beq_iff_eq.mpr h]
  .rw[aWa h,(beq_eq_false_iff_ne).mpr h];exact yR
theorem GN{f:Str}{v:V}:∀{a:XJ}{vs:Xy},a.length=vs.length->qR f v (a.zip vs)=(pn f a).zip (pv f v a vs)
 | [],_,_=>rfl
 |_::_,[],h=>by cases h
 |n::a,x::vs,h=>by
  rw[c8];unfold qR pn pv;split
  .rfl
  .rw[GN (by simpa using h),c8]
theorem F6{b:Type}{f:Str}{t:b}:∀{a:XJ}{ts:List b},a.length=ts.length->(pn f a).length=(pv f t a ts).length
 | [],_,_=>rfl
 |_::_,[],h=>by cases h
 |n::a,x::ts,h=>by
  have c:a.length=ts.length:=by simpa using h
  unfold pn pv;split
  .simpa using c
  .simpa using F6 c
section
variable {K:aL}{M:Hp}{a:cn}
theorem aB.dn{f:Str}:∀{b:XJ}{ts:Xw}{vs:Xy}{t:T},aB K M a ts vs->TL.dn f b ts=some t->∃v,TL.dn f b vs=some v/\RT K M a t v
 | [],ts,vs,t,_,e=>by unfold TL.dn at e;cases e
 |_::_,[],vs,t,_,e=>by unfold TL.dn at e;cases e
 |n::b,x::ts,vs,t,h,e=>by
  obtain⟨v,r,rfl,g,d⟩:=h.cons_inv;unfold TL.dn at e|-;split at e
  .rename_i c;cases e;exact⟨v,aWc c,g⟩
  .rename_i c;rw[aWa c];exact aB.dn d e
theorem aB.pv{f:Str}{t:T}{v:V}(c:RT K M a t v):∀{b:XJ}{ts:Xw}{vs:Xy},aB K M a ts vs->aB K M a (TL.pv f t b ts) (TL.pv f v b vs)
 | [],_,_,_=>.cons c .nil
 |n::b,[],vs,h=>by rw[h.nil_inv];exact .nil
 |n::b,x::ts,vs,h=>by
  obtain⟨u,r,rfl,g,d⟩:=h.cons_inv;unfold TL.pv;split
  .exact .cons c d
  .exact .cons g (aB.pv c d)
end
noncomputable def oc(a:String)(C:ab):T->Option (Nat×XJ×Xw)
 | .cell c=>(C[c]?).bind λx=>match x.1 with
   | .o k b=>if k=a then some (c,b,x.2)else none
   |_=>none
 |_=>none
theorem RM{a:String}{C:ab}{t:T}{c:Nat}{d:XJ}{b:Xw}(h:oc a C t=some (c,d,b)):t=.cell c/\C[c]?=some (.o a d,b):=by
 unfold oc at h;split at h
 .obtain⟨⟨k,g⟩,e,h⟩:=fE h;dsimp only at h;split at h
  .split at h
   .rename_i f;cases h;cases f;exact⟨rfl,e⟩
   .cases h
  .cases h
 .cases h
def jS(K:aL)(a:String)(f:Str):Prop:=∀C,cE K aWk (Str.ofString a)=some (some (.ref C))->oe K C/\qM K C f
def AW(a:String)(f:Str)(t:T)(C:ab):Option (T×ab):=(oc a C t).bind λx=>(dn f x.2.1 x.2.2).map λu=>(u,C)
abbrev mG(b:String)(f:Str)(a:FE):FE:=x3 a (AW b f)
def pS(a:String)(f:Str)(c d:FE):FS:=λb C=>(d b C).bind λp=>(c b p.2).bind λq=>(oc a q.2 q.1).bind λx=>if x.2.1.length<900 then some (.nx,b,q.2.set x.1 (.o a (pn f x.2.1),pv f p.1 x.2.1 x.2.2))else none
def xG(a:String)(f:Str)(g:Int->Int->Int)(d h:FE):FS:=λb C=>(d b C).bind λq=>(oc a q.2 q.1).bind λx=>(dn f x.2.1 x.2.2).bind λc=>match c with
 | .int i=>(h b q.2).bind λp=>match p.1 with
   | .int j=>(oc a p.2 q.1).bind λy=>if y.2.1.length<900 then some (.nx,b,p.2.set y.1 (.o a (pn f y.2.1),pv f (.int (g i j)) y.2.1 y.2.2))else none
   |_=>none
 |_=>none
section
variable {K:aL}{W:XW}{d:St}{H:Hp}{Q:VK}{D:Ends}{b:String}{f:Str}
theorem Rel.oc{i:Hp}{Z:aWe->Prop}{g:cn}{l:aE}{C:ab}{t:T}{v:V}{c:Nat}{j:XJ}{ts:Xw}(R:Rel K i Z g l C d H)(h:RT K (mask H Z g) g t v)(e:TL.oc b C t=some (c,j,ts)):
 ∃a Cl dx vs,v=.ref a/\g[c]?=some a/\j.length=vs.length/\cE K aWk (Str.ofString b)=some (some (.ref Cl))/\H a=some (.ins Cl dx (j.zip vs))/\aB K (mask H Z g) g ts vs:=by
 obtain⟨rfl,w⟩:=RM e;unfold RT at h;obtain⟨a,u,q⟩:=h;obtain⟨x,vs,ob,k,s,r,p⟩:=R.jq c a q;rw[w]at k;cases k;obtain⟨o,Cl,dx,n,m⟩:=r;subst m;exact⟨a,Cl,dx,vs,u,q,o,n,s,p⟩
theorem Ow{g:FE}(p:jS K b f)(h:bg K (mG b f g) d H Q):BD K (bg K g) f d H Q:=by
 refine jM (Fg h) λx I q=>?_;obtain⟨M,i,Z,j,J,C,t,P,R,r,e,k⟩:=q;obtain⟨_,_,z,m,r⟩:=r.cons_inv;cases z;unfold AW at e;obtain⟨⟨c,N,L⟩,G,e⟩:=fE e;obtain⟨u,F,e⟩:=fG e;cases e;obtain⟨a,Cl,dx,vs,A,q,O,o,s,n⟩:=R.oc m G;obtain⟨v,B,l⟩:=n.dn F;obtain⟨y,w⟩:=p Cl o;exact⟨a,Cl,dx,_,v,A,s,y,w,by rw[yR];exact B,k v I j R l .refl⟩
theorem Oh{r s:FE}(J:jS K b f)(h:ep K W (pS b f r s) D d H):BI K (bg K r) (bg K s) f D d H:=by
 obtain⟨g,Z,u,l,C,fl,ah,C',R,e,k⟩:=h;unfold pS at e;obtain⟨⟨A,t⟩,S,e⟩:=fE e;obtain⟨⟨z,E⟩,P,e⟩:=fE e;obtain⟨⟨c,i,ts⟩,O,e⟩:=fE e;dsimp only at e;split at e
 .rename_i j;cases e;refine⟨g,Z,u,l,C,A,t,R,S,λy H1 X Y M B=>?_⟩;refine⟨g,Z,X,l,t,z,E,Y,P,λx H2 U R2 L m=>?_⟩;obtain⟨a,Cl,dx,vs,N,q,o,n,p,I⟩:=R2.oc L O;obtain⟨G,F⟩:=J Cl n;obtain⟨w,v⟩:=R2.put (kd:=.o b (pn f i)) (ob:=.ins Cl dx ((pn f i).zip (pv f y i vs))) q (by rw[p];trivial) ⟨F6 o,Cl,dx,n,rfl⟩ (I.pv (M.step m));exact⟨a,Cl,dx,_,N,p,G,F,by rw[X0];exact bO (d0 i.length vs.length) (aM j (by decide)),by rw[GN o];exact k d _ U w ((B.trans m).ss.trans v)⟩
 .cases e
theorem Lv{F G:FE}{g:Int->Int->Int}{rd:V->V->Hp->VK->Prop}(U:∀i j H Q,Q (.int (g i j)) H->rd (.int i) (.int j) H Q)(hc:jS K b f)(h:ep K W (xG b f g F G) D d H):nU K (bg K F) (bg K G) rd f D d H:=by
 obtain⟨l,Z,N,t,C,fl,ah,C',R,e,k⟩:=h;unfold xG at e;obtain⟨⟨X,M⟩,e1,e⟩:=fE e;obtain⟨⟨c,ns,ts⟩,e3,e⟩:=fE e;obtain⟨old,e4,e⟩:=fE e;dsimp only at e;split at e
 .rename_i i;obtain⟨⟨t2,C2⟩,e2,e⟩:=fE e;dsimp only at e;split at e
  .rename_i j;obtain⟨⟨c2,n,o⟩,e5,e⟩:=fE e;dsimp only at e;split at e
   .rename_i s;cases e;refine⟨l,Z,N,t,C,X,M,R,e1,λx H1 af L B Y=>?_⟩;obtain⟨a,Cl,dx,vs,I,q,hl,r,hH,hr⟩:=L.oc B e3;obtain⟨v,e6,E⟩:=hr.dn e4;obtain⟨p1,p2⟩:=hc Cl r;refine⟨a,Cl,dx,_,v,I,hH,p1,p2,by rw[yR];exact e6,?_⟩;refine⟨l,Z,af,t,M,_,C2,L,e2,λy H2 ar R2 h2 w=>?_⟩;rw[E.int_inv,h2.int_inv];refine U i j H2 _ ?_;obtain⟨a',Cl',p,m,A,q',J,z,u,S⟩:=R2.oc (B.step w) e5;rw[I]at A;cases A;rw[r]at z;cases z;obtain⟨P,O⟩:=R2.put (kd:=.o b (pn f n)) (ob:=.ins Cl p ((pn f n).zip (pv f (.int (g i j)) n m))) (ts:=pv f (.int (g i j)) n o) q' (by rw[u];trivial) ⟨F6 J,Cl,p,r,rfl⟩ (S.pv .int);exact⟨p,_,u,by rw[X0];exact bO (d0 n.length m.length) (aM s (by decide)),by rw[GN J];exact k d _ ar P ((Y.trans w).ss.trans O)⟩
   .cases e
  .cases e
 .cases e
end
end TL
namespace TL
open PySem PySem.Spec PyProof.Rows L2
section
variable {X:Cx}{e o value:aWp}{d b c:FE}{a:String}{f:Str}{pos g h:Pos}
theorem k9(j:jS X.K a f)(i:QE X e d)(k:aXm e f X.env (aWq e X.env)=aWq e X.env:=by rfl):QE X (.Attribute e f pos) (mG a f d):=(Pp i k).imp λ_ _ _=>Ow j
theorem qO(l:jS X.K a f)(k:QE X o b)(i:QE X value c)(j:aXd value (some (.Attribute o f g)) pos.line X.env=pure false:=by rfl):QS X (.Assign [.Attribute o f g] value pos) (pS a f b c):=(PJ k i j).imp λ_ _ _=>Oh l
theorem Vv(m:jS X.K a f)(l:QE X o b)(k:QE X value c):QS X (.AugAssign (.Attribute o f h) .Add value pos) (xG a f (λi j=>i+j) b c):=(LM l k O9).imp λ_ _ _=>Lv (λi j H Q q=>⟨i,j,rfl,rfl,q⟩) m
theorem UK(m:jS X.K a f)(l:QE X o b)(k:QE X value c):QS X (.AugAssign (.Attribute o f h) .Sub value pos) (xG a f (λi j=>i - j) b c):=(LM l k Jc).imp λ_ _ _=>Lv (λi j H Q q=>⟨i,j,rfl,rfl,q⟩) m
end
end TL
namespace TL
open PySem L2
def spS(K:aL)(n:Nat)(G:Xw->ab->Option (T×ab)):Sp:=λvs H Q _=>∃a Z b f C σ ts r g,Rel K a Z b f C σ H/\aB K (mask H Z b) b ts vs/\ts.length=n/\G ts C=some (r,g)/\
 ∀v d c,Rel K a Z c f g σ d->RT K (mask d Z c) c r v->Step H d b c->Q v d
def oZ(B:FS)(m:Nat)(b:Xw)(C:ab):Option (T×ab):=match B (ja m b) C with
 |some (.nx,_,a)=>some (.aF,a)
 |some (.rt r,_,a)=>some (r,a)
 |_=>none
section
variable {K:aL}{W:XW}{σ:St}{H:Hp}{Q:VK}{D:Ends}
variable{G:Xw->ab->Option (T×ab)}{b:FN}{d:String}{g:aWe}
theorem kE{n:Nat}:∀vs H Q E,spS K n G vs H Q E->vs.length=n:=λvs H Q E c=>by obtain⟨a,Z,i,f,C,σ,j,r,k,R,rr,h,_⟩:=c;rw[rr.length,h]
theorem Rel.back{a:Hp}{Z:aWe->Prop}{k f:cn}{j p:aE}{C l:ab}{o:St}{h:Hp}(R:Rel K a Z k j C σ H)(c:Rel K a Z f p l o h)(s:Step H h k f):Rel K a Z f j l σ h:=
 ⟨c.old,c.b4,c.nd,c.zd,λi t e=>let ⟨v,n,m⟩:=R.loc i t e;⟨v,n,m.step s⟩,c.jq,c.len,R.rA⟩
theorem lN{n m:Nat}{F:FS}{vs:Xy}{E:XK}(h:spS K n (oZ F m) vs H Q E):
 ep K W F {nx:=λ_ f=>Q .aF f,rt:=Q} (vs.map some++aT (m - vs.length) none) H:=by
 obtain⟨a,Z,p,z,C,t,q,r,s,R,rr,A,e,k⟩:=h;unfold oZ at e;split at e
 .rename_i j y i;cases e;refine⟨a,Z,p,ja m q,C,.nx,j,s,R.locals rr,i,λx f l o c=>?_⟩;exact k .aF f l (R.back o c) .aF c
 .rename_i u j y i;cases e;refine⟨a,Z,p,ja m q,C,.rt r,j,s,R.locals rr,i,λx f l o c=>?_⟩;exact λv w=>k v f l (R.back o c) w c
 .cases e
noncomputable def sH(n:Nat)(G:Xw->ab->Option (T×ab))(a:Xw)(C:ab):Option (T×ab):=if a.length=n then G a C else none
abbrev m4(n:Nat)(G:Xw->ab->Option (T×ab))(b:FN):FE:=pJ b (sH n G)
theorem GT{n:Nat}{vs:Xy}{E:XK}(h:∃ts,ib K σ ts vs (sH n G ts) H Q):spS K n G vs H Q E:=by
 obtain⟨ts,a,Z,f,c,C,t,p,R,r,e,k⟩:=h;unfold sH at e;split at e
 .rename_i j;exact⟨a,Z,f,c,C,σ,ts,t,p,R,r,j,e,λv o l m i s=>k v o l m i s⟩
 .cases e
theorem Ru{n:Nat}{E:XK}(h:bg K (m4 n G b) σ H Q):DI (spS K n G) [] E (jd K b) σ H Q:=
 sA (CA h) λvs _ q=>by rw[aU];exact GT q
def mC(d:String)(m:Str)(n:Nat)(G:Xw->ab->Option (T×ab))(c:FE)(b:FN):FE:=λa C=>(c a C).bind λp=>(oc d p.2 p.1).bind λx=>match dn m x.2.1 x.2.2 with
 |some _=>none
 |none=>(b a p.2).bind λq=>sH n G (p.1::q.1) q.2
theorem L5{j i:Type}{f:Str}:∀{c:XJ}{a:List j}{vs:List i},a.length=vs.length->dn f c a=none->dn f c vs=none
 | [],_,_,_,_=>by unfold dn;rfl
 |_::_,[],[],_,_=>by unfold dn;rfl
 |_::_,[],_::_,h,_=>by cases h
 |_::_,_::_,[],h,_=>by cases h
 |n::c,t::a,v::vs,h,e=>by
  unfold dn at e|-;split at e
  .cases e
  .rename_i k;rw[aWa k];exact L5 (by simpa using h) e
theorem IM{m:Str}{n:Nat}{s:FE}{E:XK}(M:cE K aWk (Str.ofString d)=some (some (.ref g)))(h:bg K (mC d m n G s b) σ H Q):FR g m (spS K n G) [] E (bg K s) (jd K b) σ H Q:=by
 obtain⟨f,Z,B,i,C,t,C',R,e,k⟩:=h;unfold mC at e;obtain⟨⟨l,A⟩,U,e⟩:=fE e;obtain⟨⟨c,ns,ts⟩,w,e⟩:=fE e;dsimp only at w e;split at e
 .cases e
 .rename_i L;obtain⟨⟨j,z⟩,u,e⟩:=fE e;dsimp only at u e;refine⟨f,Z,B,i,C,l,A,R,U,λx H1 af y r I=>?_⟩;obtain⟨a,Cl,dx,vs,S,q,hl,p,N,J⟩:=y.oc r w;rw[M]at p;cases p;refine⟨a,dx,_,S,N,by rw[yR];exact L5 (by rw[J.length]) L,?_⟩;refine⟨f,Z,af,i,A,j,z,y,u,λws H2 Y R2 P o=>?_⟩;dsimp only;rw[aU];exact GT ⟨l::j,f,Z,Y,i,z,t,C',R2,.cons (r.step o) P,e,λv H3 X R3 O F=>k v H3 X R3 O ((I.trans o).trans F)⟩
def vF(d:String)(n:Nat)(G:Xw->ab->Option (T×ab))(ie:Xw)(b:FN):FE:=λa C=>(b a C).bind λp=>(sH n G (.cell p.2.length::(p.1++ie)) (p.2++[(.o d [],[])])).bind λq=>match q.1 with
 | .aF=>some (.cell p.2.length,q.2)
 |_=>none
theorem Qe{n:Nat}{ie:Xw}{u:Xy}{E:XK}(B:cE K aWk (Str.ofString d)=some (some (.ref g)))(A:∀M c,aB K M c ie u)
 (h:bg K (vF d n G ie b) σ H Q):wq g (spS K n G) u E (jd K b) σ H Q:=by
 obtain⟨a,Z,c,l,C,t,C',R,e,k⟩:=h;unfold vF at e;obtain⟨⟨ts,j⟩,J,e⟩:=fE e;obtain⟨⟨r,Y⟩,s,e⟩:=fE e;dsimp only at s e;split at e
 .cases e;refine⟨a,Z,c,l,C,ts,j,R,J,λvs X N S I w x dx z i L=>?_⟩;obtain⟨R2,p⟩:=S.alloc (o:=.own x) i;have f:upd X dx (.own x) x=none:=by rw[gJ (Ne.symm L)];exact z
  obtain⟨P,o,q⟩:=R2.fu (kd:=.o d []) (ts:=[]) (vs:=[]) (ob:=.ins g dx []) f ⟨rfl,g,dx,B,rfl⟩ .nil;refine GT (σ:=σ) ⟨.cell j.length::(ts++ie),a,Z,N++[x],l,j++[(.o d [],[])],.aF,_,P,.cons q (((I.step p).step o).append (A _ _)),s,λv U y O F m=>⟨F.kk,?_⟩⟩;exact k _ U y O (q.step m) (((w.trans p).trans o).trans m)
 .cases e
end
end TL
namespace L2
open PySem PySem.Spec PyProof.Rows
section
variable {a:Type}[DecidableEq a]
variable{p:a×V}{r kvs:List (a×V)}{o:Xz}{u:XM}
noncomputable def wS(kvs:List (a×V))(k:a):Xz:=(kvs.find? λb=>decide (b.1=k)).map (·.2)
noncomputable def putK(kvs:List (a×V))(k:a)(v:V):List (a×V):=
 if(kvs.any λb=>decide (b.1=k))=true then kvs.map (λb=>if b.1=k then(b.1,v)else b)else kvs++[(k,v)]
theorem u9{k:a}(e:p.1=k):wS (p::r) k=some p.2:=by simp[wS,eT,e]
theorem sG{k:a}(e:¬p.1=k):wS (p::r) k=wS r k:=by simp[wS,eT,e]
theorem K2(k:a):∀kvs:List (a×V),(kvs.any λb=>decide (b.1=k))=(wS kvs k).isSome
 | []=>rfl
 |p::r=>by
  rw[YN];by_cases e:p.1=k
  .simp only[u9 e,decide_eq_true e,Bool.true_or,Option.isSome_some]
  .rw[sG e,decide_eq_false e,Bool.false_or];exact K2 k r
theorem rP(kvs:List (a×V))(k:a)(v:V):(putK kvs k v).length<=kvs.length+1:=by
 unfold putK;split
 .rw[aP];exact XQ _
 .rw[aY,aN,aW];exact bD (kvs.length+(0+1))
theorem rN.ec(r:rN o u):o.isSome=u.isSome:=by
 cases o with
 |none=>cases u with
  |none=>rfl
  |some _=>exact(show False from r).elim
 |some _=>cases u with
  |none=>exact(show False from r).elim
  |some _=>rfl
theorem rN.getD{d:V}{b:aWf}(r:rN o u)(rd:RelV d b):RelV (o.getD d) (u.getD b):=by
 cases o with
 |none=>cases u with
  |none=>exact rd
  |some _=>exact(show False from r).elim
 |some _=>cases u with
  |none=>exact(show False from r).elim
  |some _=>exact r
theorem KV.val{vs:List (a×aWf)}(r:KV kvs vs)(k:a):rN (wS kvs k) (valueAt vs k):=by
 unfold KV at r;induction r with
 |nil=>exact True.intro
 | @cons p q i c h t ih=>
   obtain⟨f,g⟩:=h;by_cases e:p.1=k
   .have d:q.1=k:=f.symm.trans e;have b:valueAt (q::c) k=some q.2:=by simp[valueAt,eT,d]
    rw[u9 e,b];exact g
   .have d:¬q.1=k:=λz=>e (f.trans z);have b:valueAt (q::c) k=valueAt c k:=by simp[valueAt,eT,d]
    rw[sG e,b];exact ih
theorem KV.any{vs:List (a×aWf)}(r:KV kvs vs)(k:a):(kvs.any λb=>decide (b.1=k))=vs.any λb=>decide (b.1=k):=by
 unfold KV at r;induction r with
 |nil=>rfl
 |cons h t ih=>rw[YN,YN,ih,h.1]
theorem KV.zu{vs:List (a×aWf)}(r:KV kvs vs)(k:a){y:V}{u:aWf}(d:RelV y u):
 KV (kvs.map λb=>if b.1=k then(b.1,y)else b) (vs.map λb=>if b.1=k then(b.1,u)else b):=by
 unfold KV at r|-;induction r with
 |nil=>exact .nil
 | @cons p q i g h t ih=>
   rw[aK,aK];refine .cons ?_ ih;obtain⟨c,f⟩:=h;by_cases e:p.1=k
   .rw[aWc e,aWc (c.symm.trans e)];exact⟨c,d⟩
   .rw[aWa e,aWa (λz=>e (c.trans z))];exact⟨c,f⟩
theorem KV.put{vs:List (a×aWf)}(r:KV kvs vs)(k:a){y:V}{u:aWf}(b:RelV y u):KV (putK kvs k y) (stored vs k u):=by
 unfold putK stored;rw[r.any k];by_cases e:(vs.any λc=>decide (c.1=k))=true
 .rw[aWc e,aWc e];exact r.zu k b
 .rw[aWa e,aWa e];exact Paired.snoc r ⟨rfl,b⟩
theorem KV.length{vs:List (a×aWf)}(r:KV kvs vs):kvs.length=vs.length:=Paired.length r
end
variable{u:aWf}{kvs:List (List Key×V)}{xs:List (List Key×aWe×aWf)}
theorem Ax{P:aWm}{w:aWr}{k:Key}(r:RelV (kV k) u):(j6 P w).is k u=true:=by
 cases k with
 |inl i=>obtain⟨t,e⟩:=(show∃t,u=aWf.int i t from r);subst e;exact WG P w i t
 |inr x=>obtain⟨t,e⟩:=(show∃t,u=aWf.str x t from r);subst e;exact Wd P w x t
theorem LR{P:aWm}{w:aWr}:∀{a:List Key}{b:XI},aA (a.map kV) b->ItemsAre (j6 P w) a b
 | [],_,r=>by rw[bE]at r;cases r;exact .nil
 |k::a,_,r=>by
  rw[aK]at r;cases r with
  |cons h t=>exact .cons (Ax h) (LR t)
abbrev KT(H:Hp):List (List Key×V)->List (List Key×aWe×aWf)->Prop:=Paired λp q=>p.1=q.1/\H q.2.1=some (.tup (p.1.map kV))/\RelV p.2 q.2.2
theorem KT.val{H:Hp}(r:KT H kvs xs)(k:List Key):rN (wS kvs k) ((atKey xs k).map (·.2)):=by
 induction r with
 |nil=>exact True.intro
 | @cons p q g a h t ih=>
   obtain⟨d,_,f⟩:=h;by_cases e:p.1=k
   .have c:q.1=k:=d.symm.trans e;have b:atKey (q::a) k=some q.2:=by simp[atKey,eT,c]
    rw[u9 e,b];exact f
   .have c:¬q.1=k:=λz=>e (d.trans z);have b:atKey (q::a) k=atKey a k:=by simp[atKey,eT,c]
    rw[sG e,b];exact ih
theorem KT.zu{H:Hp}(r:KT H kvs xs)(k:List Key){y:V}(d:RelV y u):
 KT H (kvs.map λb=>if b.1=k then(b.1,y)else b) (xs.map (putAt k u)):=by
 induction r with
 |nil=>exact .nil
 | @cons p q i g h t ih=>
   rw[aK,aK];refine .cons ?_ ih;obtain⟨a,c,f⟩:=h;unfold putAt;by_cases e:p.1=k
   .rw[aWc e,aWc (a.symm.trans e)];exact⟨a,c,d⟩
   .rw[aWa e,aWa (λz=>e (a.trans z))];exact⟨a,c,f⟩
theorem KT.put{H:Hp}(r:KT H kvs xs)(k:List Key){b:aWe}{y:V}(d:H b=some (.tup (k.map kV)))(a:RelV y u):
 KT H (putK kvs k y) (storedH xs k b u):=by
 have e:(kvs.any λc=>decide (c.1=k))=(atKey xs k).isSome:=by
  rw[K2,(r.val k).ec,ZZ]
 unfold putK storedH;rw[e];by_cases q:(atKey xs k).isSome=true
 .rw[aWc q,aWc q];exact r.zu k a
 .rw[aWa q,aWa q];exact Paired.snoc r ⟨rfl,d,a⟩
theorem KT.keeps{H c:Hp}(r:KT H kvs xs)(d:∀b a,H b=some (.tup a)->c b=some (.tup a)):KT c kvs xs:=
 Paired.Ac r λ_ _ z=>⟨z.1,d _ _ z.2.1,z.2.2⟩
section
variable {P:aWm}{w:aWr}{H:Hp}{h:aWi}{a:aWe}
theorem HI{u:HO}(ok:gg P w H h)(e:Rd H a u):k6 P w H h a u:=e.ok ok
theorem AA{kvs:List (Key×V)}(ok:gg P w H h)(e:Rd H a (.dK kvs)):kvs.length<=sizeLine/\(a==aXe)=false/\∃vs,KV kvs vs/\h.DictOf (j6 P w) a vs:=
 show k6 P w H h a (.dK kvs)from HI ok e
theorem DS{kvs:List (Key×V)}(ok:gg P w H h)(e:H a=some (.dK kvs)):kvs.length<=sizeLine/\(a==aXe)=false/\∃vs,KV kvs vs/\h.DictOf (j6 P w) a vs:=AA ok (.inl e)
theorem wN{b:List Key}(ok:gg P w H h)(e:H a=some (.tup (b.map kV))):(aYi (j6 P w)).is h b a:=by
 obtain⟨_,c,r,o,g,f,n,d⟩:=(show k6 P w H h a (.tup (b.map kV))from ok a _ e);exact⟨o,c.toArray,n,g,f,d,by simpa using LR r⟩
theorem zN{kvs:List (List Key×V)}(ok:gg P w H h)(e:Rd H a (.dT kvs)):kvs.length<=sizeLine/\(a==aXe)=false/\
 ∃xs,KT H kvs xs/\h.DictOfH (aYi (j6 P w)) a xs:=by
 obtain⟨z,y,xs,r,o,k,n,j,i,g,f,d⟩:=(show k6 P w H h a (.dT kvs)from HI ok e);refine⟨z,y,xs,r,o,k,n,j,i,g,f,λx b=>?_,d⟩;have all:∀{l:List (List Key×V)}{m:List (List Key×aWe×aWf)},KT H l m->∀x∈m,(aYi (j6 P w)).is h x.1 x.2.1:=by
  intro l m q;induction q with
  |nil=>intro x b;exact nomatch b
  | @cons p q v s c t ih=>
    intro x b;rcases fU b with e|b
    .subst e;exact wN ok (by rw[<-c.1];exact c.2.1)
    .exact ih x b
 exact all r x b
theorem NA{kvs:List (List Key×V)}(ok:gg P w H h)(e:H a=some (.dT kvs)):kvs.length<=sizeLine/\(a==aXe)=false/\
 ∃xs,KT H kvs xs/\h.DictOfH (aYi (j6 P w)) a xs:=zN ok (.inl e)
end
def uP(H:Hp)(a:aWe)(y:V)(r:Xz):Prop:=
 (∃kvs k,Rd H a (.dK kvs)/\y=kV k/\r=wS kvs k)\/∃kvs k b,Rd H a (.dT kvs)/\y=.ref b/\H b=some (.tup (k.map kV))/\r=wS kvs k
def t6(H:Hp)(a:aWe)(y v:V)(c:Hp):Prop:=
 (∃kvs k,H a=some (.dK kvs)/\y=kV k/\kvs.length<sizeLine/\c=upd H a (.dK (putK kvs k v)))\/
 ∃kvs k b,H a=some (.dT kvs)/\y=.ref b/\H b=some (.tup (k.map kV))/\kvs.length<sizeLine/\c=upd H a (.dT (putK kvs k v))
theorem uP.k{H:Hp}{a:aWe}{kvs:List (Key×V)}{k:Key}(e:H a=some (.dK kvs)):uP H a (kV k) (wS kvs k):=.inl ⟨kvs,k,.inl e,rfl,rfl⟩
theorem t6.k{H:Hp}{a:aWe}{kvs:List (Key×V)}{k:Key}{v:V}(e:H a=some (.dK kvs))(b:kvs.length<sizeLine):t6 H a (kV k) v (upd H a (.dK (putK kvs k v))):=.inl ⟨kvs,k,e,rfl,b,rfl⟩
theorem t6.t{H:Hp}{a b:aWe}{kvs:List (List Key×V)}{k:List Key}{v:V}(e:H a=some (.dT kvs))(d:H b=some (.tup (k.map kV)))(c:kvs.length<sizeLine):
 t6 H a (.ref b) v (upd H a (.dT (putK kvs k v))):=.inr ⟨kvs,k,b,e,rfl,d,c,rfl⟩
section
variable {X:Cx}{d:List (aWe×Obj)}{f:St}{H:Hp}{s:aWg}{a:aWe}{y v:V}{u r:aWf}{o:Xz}{A:aWn}{E:XN}
variable{Q:XN}{h':aWi}
theorem Inv.AM(I:Inv X d f H s):aXe<s.heap.objs.size:=by
 have h:aWk<s.heap.objs.size:=(I.mod.glob.keeps I.bk).lt;exact Yy (by decide) h
theorem MK(B:A.units+1<aXc)(I:Inv X d f H s)(g:uP H a y (some v))(w:RelV y u)(h:∀i t,Inv X d f H t->RelV v i->Q i t):
 aWj (aWl X.prog X.w) A (getItem (.ref a) u) Q E s:=by
 rcases g with⟨kvs,k,e,m,l⟩| ⟨kvs,k,b,e,m,F,l⟩
 .subst m;obtain⟨z,D,vs,c,n⟩:=AA I.bz e;obtain⟨i,j,q⟩:=rN.some_of (v:=v) (o:=valueAt vs k) (by rw[l];exact c.val k);exact wpAny_getItem_of (Ax w) n.mapOf j (h i _ (I.tok _) q)
 .subst m;cases (show u=aWf.ref b from w);obtain⟨z,D,xs,c,n⟩:=zN I.bz e;obtain⟨i,j,q⟩:=rN.some_of (v:=v) (o:=(atKey xs k).map (·.2)) (by rw[l];exact c.val k);obtain⟨p,C,x⟩:=fG j;refine wpAny_getItem_heap (aXq B) (wN I.bz F) n C ?_;rw[x];exact h i _ (I.tok _) q
theorem Nn(t:A.units+1<aXc)(I:Inv X d f H s)(g:uP H a y o)(p:RelV y u)(h:∀n,Inv X d f H n->Q (.bool o.isSome) n):
 aWj (aWl X.prog X.w) A (aWy .In u (.ref a)) Q E s:=by
 rcases g with⟨kvs,k,e,j,l⟩| ⟨kvs,k,b,e,j,w,l⟩
 .subst j;obtain⟨z,i,vs,c,m⟩:=AA I.bz e;refine wpAny_in_of (Ax p) i m.mapOf ?_;rw[<-(c.val k).ec,<-l];exact h _ (I.tok _)
 .subst j;cases (show u=aWf.ref b from p);obtain⟨z,i,xs,c,m⟩:=zN I.bz e;refine wpAny_in_heap (aXq t) (wN I.bz w) i m ?_;have q:=(c.val k).ec;rw[ZZ]at q;rw[<-q,<-l];exact h _ (I.tok _)
theorem Sf(t:A.units+1<aXc)(I:Inv X d f H s)(g:uP H a y o)(p:RelV y u)(h:∀n,Inv X d f H n->Q (.bool (!o.isSome)) n):
 aWj (aWl X.prog X.w) A (aWy .NotIn u (.ref a)) Q E s:=by
 rcases g with⟨kvs,k,e,j,l⟩| ⟨kvs,k,b,e,j,w,l⟩
 .subst j;obtain⟨z,i,vs,c,m⟩:=AA I.bz e;refine wpAny_notIn_of (Ax p) i m.mapOf ?_;rw[<-(c.val k).ec,<-l];exact h _ (I.tok _)
 .subst j;cases (show u=aWf.ref b from p);obtain⟨z,i,xs,c,m⟩:=zN I.bz e;refine wpAny_notIn_heap (aXq t) (wN I.bz w) i m ?_;have q:=(c.val k).ec;rw[ZZ]at q;rw[<-q,<-l];exact h _ (I.tok _)
theorem yK{t':Nat}{ob:HO}(I:Inv X d f H s)(g:CV (H a))(h:aWi.SameBut a s.heap h')(i:∃q,h'.get? a=some q)(c:k6 X.prog X.w (upd H a ob) h' a ob):
 Inv X d f (upd H a ob) {s with heap:=h',toks:=t'}:=
 I.write (x:=a) (e:=a) g (.inl rfl) (λb q j z=>(h.2 b j).trans z) i c
theorem FZ{P:aWm}{w:aWr}{h:Hp}{kvs:List (Key×V)}{vs:List (Key×aWf)}(z:kvs.length<=sizeLine)(c:(a==aXe)=false)(b:KV kvs vs)(g:h'.DictOf (j6 P w) a vs):
 k6 P w h h' a (.dK kvs):=⟨z,c,vs,b,g⟩
theorem L6{L:Hp}{Q:Unit->aWg->Prop}(M:A.units+1<aXc)(I:Inv X d f H s)(g:t6 H a y v L)(F:RelV y u)(G:RelV v r)(h:∀D,Inv X d f L D->Q () D):
 aWj (aWl X.prog X.w) A (setItem (.ref a) u r) Q E s:=by
 rcases g with⟨kvs,k,e,x,l,B⟩| ⟨kvs,k,b,e,x,K,l,B⟩
 .subst x B;obtain⟨z,w,vs,i,C⟩:=DS I.bz e;have n:vs.length<=sizeLine:=by rw[<-i.length];exact z
  have t:(putK kvs k v).length<=sizeLine:=by have:=rP kvs k v;exact bB this (bS l)
  refine wpAny_setItem_pairs (hsz:=n) (Ax F) C λh' j p=>h _ ?_;have N:∃q,h'.get? a=some q:=let ⟨q,_,_,m,_⟩:=j;⟨q,m⟩
  exact yK I (by rw[e];exact True.intro) p N (FZ t w (i.put k G) j)
 .subst x B;cases (show u=aWf.ref b from F);obtain⟨z,w,xs,i,C⟩:=NA I.bz e;have n:xs.length<=sizeLine:=by rw[<-Paired.length i];exact z
  have t:(putK kvs k v).length<=sizeLine:=by have:=rP kvs k v;exact bB this (bS l)
  refine wpAny_setItem_heap (hsz:=n) (aXq M) (wN I.bz K) C λh' j p=>h _ ?_;obtain⟨q,U,Y,m,S,R,P,_,O⟩:=j;refine yK I (by rw[e];exact True.intro) p ⟨q,m⟩ ⟨t,w,_,(i.put k K G).keeps λc Z J=>?_,q,U,Y,m,S,R,P,O⟩;rw[gJ (pQ J e (λz=>nomatch z))];exact J
end
section
variable {X:Cx}{b:List (aWe×Obj)}{c:St}{H:Hp}{s:aWg}{a:aWe}{kvs:List (Key×V)}{k:Key}{u:aWf}{A:aWn}{E:XN}
end
variable{s:aWg}
def E8(i:aWp):Prop:=∀a b,subscripted i false a b=operate [a,b] (getItem a b)
theorem RU{a:aWm}{w:aWr}{A:aWn}{E:XN}{env:Env}{value slice:aWp}{pos:Pos}{T id:String}{Q:XN}
 (k:typeLookup (.type T) "__getitem__"=pure (some (.builtin id)))(j:E8 slice)
 (h:aWj (aWl a w) A (aWq value env) (λo f=>aWj (aWl a w) A (aWq slice env) (λi bq=>bq.TypeIs o T/\aWj (aWl a w) A (getItem o i) Q E bq) E f) E s):
 aWj (aWl a w) A (aWq (.Subscript value slice pos) env) Q E s:=by
 refine Subscript_ (aXb h (λo f l=>aXb l (λi bq b=>?_) λ_ _ x=>x) λ_ _ x=>x);obtain⟨c,b⟩:=b;unfold aYg;refine aWb ?_;rw[getitemInPython_of_ne c.not_modules];refine aWb (wpAny_specialOf c k ?_);have fin:aWj (aWl a w) A (subscripted slice false o i) (λr d=>aWj (aWl a w) A (letTemporaryGo value o r>>=λ_=>pure r) Q E d) E bq:=by
  rw[j o i];exact wpAny_operating (aXb b (λr d g=>aWb (wpAny_letTemporaryGo (aWh g))) λ_ _ x=>x)
 first
  |exact aWh (aWb fin)
  |exact aWb (aWh (aWb fin))
  |exact aWb fin
theorem WV{X:Cx}{f:List (aWe×Obj)}{d:St}{H:Hp}{a:aWe}{y:V}{o:Xz}(I:Inv X f d H s)(g:uP H a y o):s.TypeIs (.ref a) "dict":=by
 rcases g with⟨kvs,k,e,_,_⟩| ⟨kvs,k,b,e,_,_,_⟩
 .obtain⟨_,_,vs,_,c⟩:=AA I.bz e;exact c.typeIs
 .obtain⟨_,_,xs,_,c⟩:=zN I.bz e;exact c.typeIs
noncomputable def wy(f d:TE):TE:=λb H Q=>f b H λx g=>d b g λy c=>∃a v,x=.ref a/\uP c a y (some v)/\Q v c
noncomputable def BE(d f:TE):TE:=λb H Q=>d b H λy g=>f b g λx c=>∃a o,x=.ref a/\uP c a y o/\Q (.bl o.isSome) c
noncomputable def nu(d f:TE):TE:=λb H Q=>d b H λy g=>f b g λx c=>∃a o,x=.ref a/\uP c a y o/\Q (.bl (!o.isSome)) c
noncomputable def xm(g d f:TE):TS:=λD b H=>f b H λv j=>g b j λx i=>d b i λy h=>∃a c,x=.ref a/\t6 h a y v c/\D.nx b c
def xn(i g h:TE)(rd:V->V->Hp->VK->Prop):TS:=λD b H=>i b H λx l=>g b l λy d=>∃a v,x=.ref a/\uP d a y (some v)/\
 h b d λf k=>rd v f k λz j=>∃c,t6 j a y z c/\D.nx b c
section
variable {X:Cx}{o i e value:aWp}{pos f j:Pos}{b c d:TE}
theorem QZ(z:X.A.units+1<aXc)(B:PE X o b)(C:PE X i c)(A:E8 i):PE X (.Subscript o i pos) (wy b c):=by
 intro m s l H Q I h;refine RU PySem.F.slot_dict_getitem.lookup A (aI (B m s l H _ I h) λu p k=>?_);obtain⟨x,K,G,r,w⟩:=k;refine aI (C m p l K _ G w) λO N k=>?_;obtain⟨y,J,n,q,a,v,ex,g,t⟩:=k;subst ex;obtain rfl:u=aWf.ref a:=r;exact⟨WV n g,MK z n g q λL M F D=>⟨v,J,F,D,t⟩⟩
theorem P5(w:X.A.units+1<aXc)(A:PE X i c)(z:PE X o b):PC X .In i o (BE c b):=by
 intro m s l H Q I h;refine aI (A m s l H _ I h) λL n k=>?_;obtain⟨y,G,D,p,t⟩:=k;refine aI (z m n l G _ D t) λu K k=>?_;obtain⟨x,F,C,q,a,v,ex,g,r⟩:=k;subst ex;obtain rfl:u=aWf.ref a:=q;exact Nn w C g p λJ B=>⟨.bl v.isSome,F,B,rfl,r⟩
theorem VM(w:X.A.units+1<aXc)(A:PE X i c)(z:PE X o b):PC X .NotIn i o (nu c b):=by
 intro m s l H Q I h;refine aI (A m s l H _ I h) λL n k=>?_;obtain⟨y,G,D,p,t⟩:=k;refine aI (z m n l G _ D t) λu K k=>?_;obtain⟨x,F,C,q,a,v,ex,g,r⟩:=k;subst ex;obtain rfl:u=aWf.ref a:=q;exact Sf w C g p λJ B=>⟨.bl (!v.isSome),F,B,rfl,r⟩
theorem QF(F:X.A.units+1<aXc)(J:PE X o b)(K:PE X i c)(C:PE X value d)(G:aXd value (some (.Subscript o i f)) pos.line X.env=pure false):
 PS X (.Assign [.Subscript o i f] value pos) (xm b c d):=by
 intro m s l H D I h;refine wpAny_Assign_Subscript (aI (C m s l H _ I h) λr p k=>?_) G;obtain⟨v,R,O,w,B⟩:=k;refine aI (J m p l R _ O B) λu n k=>?_;obtain⟨x,Q,N,t,A⟩:=k;refine aI (K m n l Q _ N A) λY U k=>?_;obtain⟨y,Z,M,q,a,P,ex,g,z⟩:=k;subst ex;obtain rfl:u=aWf.ref a:=t;exact L6 F M g q w λS L=>⟨l,P,L,z⟩
theorem Rm{A:Operator}{rd:V->V->Hp->VK->Prop}(B:X.A.units+1<aXc)(U:PE X o b)(Y:PE X i c)(S:PE X value d)(t:Dx X A rd)
 (Z:∀p n k,augStore i p n k=(do aXk [k,p,n] (setItem p n k);release [k,p,n] [];pure .next)):PS X (.AugAssign (.Subscript o i j) A value pos) (xn b c d rd):=by
 intro q s m H D I h;refine wpAny_AugAssign_SubscriptAny (aI (U q s m H _ I h) λu L l=>?_) Z;obtain⟨x,H1,I1,N,R⟩:=l;refine aI (Y q L m H1 _ I1 R) λn s2 l=>?_;obtain⟨y,H2,I2,w,a,v,ex,g,Q⟩:=l;subst ex;obtain rfl:u=aWf.ref a:=N;refine MK B I2 g w λG K I3 cy=>aI (S q K m H2 _ I3 Q) λF J l=>?_;obtain⟨C,H3,I4,r,P⟩:=l;refine aI (t q J m H3 v C G F _ I4 cy r P) λw3 s5 l=>?_;obtain⟨z,H4,I5,M,H5,E,O⟩:=l;exact L6 B I5 E w M λs6 I6=>⟨m,H5,I6,O⟩
end
variable{P:aWm}{w:aWr}
theorem KS{H:Hp}(h:aWi)(a:aXe<h.objs.size):k6 P w H (h.push {cls:=.type "dict",data:=.dict #[]}) h.objs.size (.dK []):=
 ⟨dF _,beq_eq_false_iff_ne.mpr (Ne.symm (bW a)),[],.nil,aWi.DictOf.new h⟩
theorem T4{H:Hp}(h:aWi)(a:aXe<h.objs.size):k6 P w H (h.push {cls:=.type "dict",data:=.dict #[]}) h.objs.size (.dT []):=
 ⟨dF _,beq_eq_false_iff_ne.mpr (Ne.symm (bW a)),[],.nil,_,#[],0,aWi.get?_push_size _ rfl,⟨rfl,rfl,rfl⟩,rfl,rfl,aUf⟩
def qy:TE:=λ_ H Q=>∀p,H p=none->Q (.ref p) (upd H p (.dK []))
def qx:TE:=λ_ H Q=>∀p,H p=none->Q (.ref p) (upd H p (.dT []))
section
variable {X:Cx}{pos:Pos}
theorem T6:PE X (.Dict [] [] pos) qy:=λb s a H Q I h=>
 wpAny_Dict_empty ⟨.ref s.heap.objs.size,_,I.laid (a:=s.heap.objs.size) (o:=.dK []) (t':=s.toks) (λ_ _ q=>aWi.get?_push_of_some _ q) (bD _) (KS s.heap I.AM),rfl,h _ (I.bz.fresh (bD _))⟩
theorem Tf:PE X (.Dict [] [] pos) qx:=λb s a H Q I h=>
 wpAny_Dict_empty ⟨.ref s.heap.objs.size,_,I.laid (a:=s.heap.objs.size) (o:=.dT []) (t':=s.toks) (λ_ _ q=>aWi.get?_push_of_some _ q) (bD _) (T4 s.heap I.AM),rfl,h _ (I.bz.fresh (bD _))⟩
end
variable{X:Cx}{pos:Pos}{i:List (TE×TE)}
def F2:List (TE×TE)->St->Hp->(List (V×V)->Hp->Prop)->Prop
 | [],_,H,Q=>Q [] H
 | (tk,b)::r,a,H,Q=>tk a H λx g=>b a g λy f=>F2 r a f λc d=>Q ((x,y)::c) d
abbrev VV:List (V×V)->List (aWf×aWf)->Prop:=Paired λp q=>RelV p.1 q.1/\RelV p.2 q.2
def Eh(X:Cx)(pos:Pos)(a:List (Option aWp))(values:XO)(i:List (TE×TE)):Prop:=
 ∀(d:List (aWe×Obj))(s:aWg)(b:St)(H:Hp)(Q:List (V×V)->Hp->Prop),Inv X d b H s->F2 i b H Q->
  aWj (aWl X.prog X.w) X.A (evalPairs (pairTrees a values X.env pos)) (λvs g=>∃c f,Inv X d b f g/\VV c vs/\Q c f) X.xe s
theorem RK:Eh X pos [] [] []:=λb s a H Q I h=>pairTrees_nil_walk ⟨[],H,I,.nil,h⟩
theorem T9{k v:aWp}{f:List (Option aWp)}{vs:XO}{tk d:TE}(z:PE X k tk)(r:PE X v d)(t:Eh X pos f vs i):
 Eh X pos (some k::f) (v::vs) ((tk,d)::i):=λc s a H Q I h=>
 pairTrees_cons_walk (aI (z c s a H _ I h) λu j ⟨x,F,B,m,p⟩=>aI (r c j a F _ B p) λJ g ⟨y,D,A,l,o⟩=>
  aI (t c g a D _ A o) λG K ⟨q,C,e,b,n⟩=>⟨(x,y)::q,C,e,.cons ⟨m,l⟩ b,n⟩)
def sW(kvs more:List (Key×V)):List (Key×V):=more.foldl (λa b=>putK a b.1 b.2) kvs
theorem KV.merge:∀{more:List (Key×V)}{rs:List (Key×aWf)}{kvs:List (Key×V)}{vs:List (Key×aWf)},KV more rs->KV kvs vs->KV (sW kvs more) (merged vs rs):=by
 intro more rs kvs vs r;unfold KV at r;induction r generalizing kvs vs with
 |nil=>intro q;exact q
 | @cons p q c b h t ih=>
   intro a;have e:KV (putK kvs p.1 p.2) (stored vs q.1 q.2):=by
    have:=a.put p.1 h.2;rw[<-h.1];exact this
   exact ih e
theorem pW:∀(more kvs:List (Key×V)),(sW kvs more).length<=kvs.length+more.length
 | [],kvs=>by show kvs.length<=kvs.length+0;exact b8 _ _
 |p::r,kvs=>by
  have b:=pW r (putK kvs p.1 p.2);have a:=rP kvs p.1 p.2;show(sW (putK kvs p.1 p.2) r).length<=_;rw[aN];lia
theorem yW{P:aWm}{w:aWr}:∀{kvs:List (Key×V)}{d:List (aWf×aWf)},VV (kvs.map λf=>(kV f.1,f.2)) d->∃rs,Carries (j6 P w) d rs/\KV kvs rs
 | [],_,r=>by rw[bE]at r;cases r;exact⟨[],True.intro,.nil⟩
 |p::kvs,_,r=>by
  rw[aK]at r;cases r with
  | @cons a b k bs h t=>
    obtain⟨rs,c,q⟩:=yW (P:=P) (w:=w) t;obtain⟨j,g⟩:=b;exact⟨(p.1,g)::rs,⟨Ax h.1,rfl,c⟩,.cons ⟨rfl,h.2⟩ q⟩
def wu(i:List (TE×TE)):TE:=λc H Q=>∀p,H p=none->F2 i c (upd H p (.dK [])) λd b=>b p=some (.dK [])/\∃kvs:List (Key×V),d=kvs.map (λa=>(kV a.1,a.2))/\kvs.length<=15/\Q (.ref p) (upd b p (.dK (sW [] kvs)))
theorem R8{a:List (Option aWp)}{values:XO}(h:Eh X pos a values i)(o:a.all (·.isSome)=true)(x:a.length=values.length)(C:a≠[])
 (d:a.length<=15):PE X (.Dict a values pos) (wu i):=by
 intro G s j H Q I q;have v:=I.bz.fresh (bD s.heap.objs.size);have J:=I.laid (a:=s.heap.objs.size) (o:=.dK []) (h':=s.heap.push {cls:=.type "dict",data:=.dict #[]}) (t':=s.toks) (λ_ _ q=>aWi.get?_push_of_some _ q) (bD _) (KS s.heap I.AM);refine wpAny_Dict_walk (knd:=j6 X.prog X.w) o x C d (aI (h G _ j _ _ J (q _ v)) λK L k=>?_);obtain⟨M,N,g,b,e,kvs,D,lk,n⟩:=k;subst D;obtain⟨rs,c,rk⟩:=yW (P:=X.prog) (w:=X.w) b;obtain⟨z,A,l,m,F⟩:=DS g.bz e;cases m;refine⟨rs,c,F,λh' f r=>⟨.ref s.heap.objs.size,_,?_,rfl,n⟩⟩;have p:(sW [] kvs).length<=sizeLine:=by
  have B:=pW kvs [];rw[aW]at B;rw[aXx];lia
 have y:∃q,h'.get? s.heap.objs.size=some q:=let ⟨q,_,_,t,_⟩:=f;⟨q,t⟩
 exact yK g (by rw[e];exact True.intro) r y (FZ p A (rk.merge .nil) f)
structure M1(X:Cx)(o:aWp)(m:Str)(ao:Pos)(e:aWp)(ak:Pos):Prop where
 base:aXm o m X.env (aWq o X.env)=aWq o X.env
 lq:((aWs ak (aWd [e] X.env)).all (λx=> !x.1)&&(aXs ak (aXg [] X.env)).all (λx=>x.1.isSome)
  &&decide (([e]:XO).length+([]:List aXw).length+(if([]:List aXw).isEmpty then 0 else 1)<30))=true
 line:(ao.endLine==ak.line)=true
 trees:aWs ak (aWd [e] X.env)=[(false,aWq e X.env)]
structure M2(X:Cx)(o:aWp)(m:Str)(ao:Pos)(e f:aWp)(ak:Pos):Prop where
 base:aXm o m X.env (aWq o X.env)=aWq o X.env
 lq:((aWs ak (aWd [e,f] X.env)).all (λx=> !x.1)&&(aXs ak (aXg [] X.env)).all (λx=>x.1.isSome)
  &&decide (([e,f]:XO).length+([]:List aXw).length+(if([]:List aXw).isEmpty then 0 else 1)<30))=true
 line:(ao.endLine==ak.line)=true
 trees:aWs ak (aWd [e,f] X.env)=[(false,aWq e X.env),(false,aWq f X.env)]
def C5(H:Hp)(a:aWe):Prop:=(∃kvs,Rd H a (.dK kvs))\/∃kvs,Rd H a (.dT kvs)
theorem Jg{k:List (aWe×Obj)}{j:St}{H:Hp}{s:aWg}{a:aWe}(I:Inv X k j H s)(d:C5 H a):
 s.TypeIs (.ref a) "dict"/\(∀b,aWf.ref a=.ref b->∃ob,s.heap.get? b=some ob/\ob.dict=none)/\(a==aXe)=false:=by
 rcases d with⟨kvs,e⟩| ⟨kvs,e⟩
 .obtain⟨_,f,vs,_,c⟩:=AA I.bz e;refine⟨c.typeIs,λb q=>?_,f⟩;cases q;obtain⟨ob,_,_,h,g,_⟩:=c;exact⟨ob,h,g.2.1⟩
 .obtain⟨_,f,xs,_,c⟩:=zN I.bz e;refine⟨c.typeIs,λb q=>?_,f⟩;cases q;obtain⟨ob,_,_,h,g,_⟩:=c;exact⟨ob,h,g.2.1⟩
section
variable {X:Cx}{c:List (aWe×Obj)}{f:St}{H:Hp}{s:aWg}{a:aWe}{y d:V}{u r:aWf}{o:Xz}{A:aWn}{E:XN}
theorem Qr{Q:XN}(x:A.units+1<aXc)(I:Inv X c f H s)(g:uP H a y o)(v:RelV y u)(rd:RelV d r)(h:∀q t,Inv X c f H t->RelV (o.getD d) q->Q q t):
 aWj (aWl X.prog X.w) A (call (.builtin "dict.get") [.ref a,u,r]) Q E s:=by
 rcases g with⟨kvs,k,e,p,l⟩| ⟨kvs,k,b,e,p,B,l⟩
 .subst p;obtain⟨z,n,vs,j,m⟩:=AA I.bz e;refine call_meetsIn PySem.F.slot_dict_get m.typeIs PySem.F.entry_dict_get (PySem.F.args_dict_get_3 _ _ _) (meets_dict_get_default (j6 X.prog X.w) a (Ax v) n r) ⟨_,m.mapOf,h _ _ (I.tok _) ?_⟩;rw[l];exact(j.val k).getD rd
 .subst p;cases (show u=aWf.ref b from v);obtain⟨z,n,xs,j,m⟩:=zN I.bz e;refine call_meetsIn PySem.F.slot_dict_get m.typeIs PySem.F.entry_dict_get (PySem.F.args_dict_get_3 _ _ _) (meetsH_dict_get_default (aYi (j6 X.prog X.w)) a b n r) ⟨aXq x,k,xs,wN I.bz B,m,h _ _ (I.tok _) ?_⟩;rw[l];exact(j.val k).getD rd
end
noncomputable def q5(h f g:TE):TE:=λb H Q=>h b H λx d=>∃a,x=.ref a/\C5 d a/\f b d λy j=>g b j λz c=>∃o,uP c a y o/\Q (o.getD z) c
section
variable {X:Cx}{o e f:aWp}{b c:Pos}{j l n:TE}
theorem UW(L:X.A.units+1<aXc)(M:PE X o j)(O:PE X e l)(N:PE X f n)(m:M2 X o "get" b e f c):PE X (.Call (.Attribute o "get" b) [e,f] [] c) (q5 j l n):=by
 intro p s k H Q I h;refine wpAny_Call_method m.base m.lq m.line PySem.F.plainAttrs_dict PySem.F.slot_dict_get PySem.F.type_dict_get (aI (M p s k H _ I h) λu B r=>?_);obtain⟨x,H1,q,F,a,ex,d,K⟩:=r;subst ex;obtain rfl:u=aWf.ref a:=F;obtain⟨v,t,_⟩:=Jg q d;refine⟨v,t,?_⟩;rw[m.trees];refine Calls.callWith_builtin rfl (Calls.evalArgs_plain (Calls.spliced_cons (aI (O p B k H1 _ q K) λiv A ⟨y,E,Y,D,J⟩=>
  Calls.spliced_cons (aI (N p A k E _ Y J) λfv s3 ⟨z,Z,U,C,ov,g,G⟩=>Calls.spliced_nil ?_))))
 exact Qr L U g D C λw' s4 S R=>⟨_,Z,S,R,G⟩
end
section
variable {X:Cx}{b:List (aWe×Obj)}{c:St}{H:Hp}{s:aWg}{a:aWe}{kvs:List (Key×V)}{A:aWn}{E:XN}
end
section
variable {X:Cx}{b:List (aWe×Obj)}{c:St}{H:Hp}{s:aWg}{a:aWe}{y:V}{u:aWf}{A:aWn}{E:XN}
end
end L2
namespace TL
open PySem L2
section
variable {a:Type}[DecidableEq a]{b:Type}
variable{ks:List a}
noncomputable def vl(l:List (a×b))(k:a):Option b:=(l.find? λc=>decide (c.1=k)).map (·.2)
noncomputable def mq(k:a)(ks:List a):List a:=if k∈ks then ks else ks++[k]
noncomputable def jt(k:a)(v:b)(ks:List a)(vs:List b):List b:=if k∈ks then(ks.zip vs).map λc=>if c.1=k then v else c.2 else vs++[v]
theorem JM{k:a}:∀{ks:List a}{vs:List b},ks.length=vs.length->((ks.zip vs).any λc=>decide (c.1=k))=decide (k∈ks)
 | [],_,_=>rfl
 |_::_,[],h=>by cases h
 |x::ks,v::vs,h=>by
  rw[c8,YN,JM (by simpa using h)];by_cases e:x=k
  .simp[e]
  .simp[e,Ne.symm e]
theorem xM{k:a}{v:b}:∀{ks:List a}{vs:List b},ks.length=vs.length->(ks.zip vs).map (λc=>if c.1=k then(c.1,v)else c)=ks.zip ((ks.zip vs).map λc=>if c.1=k then v else c.2)
 | [],_,_=>rfl
 |_::_,[],h=>by cases h
 |x::ks,w::vs,h=>by
  rw[c8,aK,aK,c8,xM (by simpa using h)];dsimp only;split<;>rfl
theorem y4{k:a}{v:V}{vs:Xy}(h:ks.length=vs.length):putK (ks.zip vs) k v=(mq k ks).zip (jt k v ks vs):=by
 unfold putK mq jt;rw[JM h];by_cases e:k∈ks
 .rw[aWc (decide_eq_true e),aWc e,aWc e,xM h]
 .rw[aWa (by simpa using e),aWa e,aWa e,List.zip_append h];rfl
theorem Ga{k:a}{v:b}{vs:List b}(h:ks.length=vs.length):(mq k ks).length=(jt k v ks vs).length:=by
 unfold mq jt;split
 .rw[aP,X0,<-h,Nat.min_self]
 .simp[h]
end
section
variable {K:aL}{M:Hp}{a:cn}{b:Type}[DecidableEq b]
theorem aB.vl{k:b}:∀{d:List b}{c:Xw}{vs:Xy},aB K M a c vs->∀{t:T},TL.vl (d.zip c) k=some t->∃v,wS (d.zip vs) k=some v/\RT K M a t v
 | [],_,_,_,_,e=>by cases e
 |_::_,[],_,_,_,e=>by cases e
 |x::d,u::c,vs,h,t,e=>by
  obtain⟨v,r,rfl,g,f⟩:=h.cons_inv;rw[c8];rw[c8]at e;unfold TL.vl at e;rw[eT]at e;by_cases q:x=k
  .rw[show decide ((x,u).1=k)=true from decide_eq_true q]at e;cases e;exact⟨v,u9 q,g⟩
  .rw[show decide ((x,u).1=k)=false from decide_eq_false q]at e;rw[sG (p:=(x,v)) q];exact aB.vl f e
theorem aB.Em{k:b}:∀{d:List b}{c:Xw}{vs:Xy},aB K M a c vs->TL.vl (d.zip c) k=none->wS (d.zip vs) k=none
 | [],_,_,_,_=>rfl
 |_::_,[],vs,h,_=>by rw[h.nil_inv];rfl
 |x::d,u::c,vs,h,e=>by
  obtain⟨v,r,rfl,g,f⟩:=h.cons_inv;rw[c8]at e|-;unfold TL.vl at e;rw[eT]at e;by_cases q:x=k
  .rw[show decide ((x,u).1=k)=true from decide_eq_true q]at e;cases e
  .rw[show decide ((x,u).1=k)=false from decide_eq_false q]at e;rw[sG (p:=(x,v)) q];exact aB.Em f e
theorem aB.jt{k:b}{t:T}{v:V}(f:RT K M a t v){ks:List b}{c:Xw}{vs:Xy}(h:aB K M a c vs):aB K M a (TL.jt k t ks c) (TL.jt k v ks vs):=by
 unfold TL.jt;split
 .have:∀{ks:List b}{c:Xw}{vs:Xy},aB K M a c vs->aB K M a ((ks.zip c).map λd=>if d.1=k then t else d.2) ((ks.zip vs).map λd=>if d.1=k then v else d.2):=by
   intro ks;induction ks with
   |nil=>intro c vs _;exact .nil
   |cons x ks ih=>
    intro c vs h;cases c with
    |nil=>rw[h.nil_inv];exact .nil
    |cons u c=>
     obtain⟨w,r,rfl,i,g⟩:=h.cons_inv;rw[c8,c8,aK,aK];refine .cons ?_ (ih g);dsimp only;split
     .exact f
     .exact i
  exact this h
 .exact h.append (.cons f .nil)
end
variable{c:Nat}{ks:List (List Key)}
noncomputable def Af:T->Option Key
 | .int i=>some (.inl i)
 |_=>none
def Dt:Xw->Option (List Key)
 | []=>some []
 |t::a=>(Af t).bind λk=>(Dt a).map λks=>k::ks
def Dl:T->Option (List Key)
 | .tup a=>Dt a
 |_=>none
noncomputable def te(C:ab):T->Option (Nat×List Key×Xw)
 | .cell c=>(C[c]?).bind λx=>match x.1 with
   | .dk ks=>some (c,ks,x.2)
   |_=>none
 |_=>none
noncomputable def AL(C:ab):T->Option (Nat×List (List Key)×Xw)
 | .cell c=>(C[c]?).bind λx=>match x.1 with
   | .dt ks=>some (c,ks,x.2)
   |_=>none
 |_=>none
noncomputable def AK(C:ab):T->Option (Nat×List (List Key)×Xw)
 | .cell c=>(C[c]?).bind λx=>match x.1 with
   | .dt ks=>some (c,ks,x.2)
   | .dz ks=>some (c,ks,x.2)
   |_=>none
 |_=>none
theorem Lp{C:ab}{t:T}{ks:List Key}{ts:Xw}(h:te C t=some (c,ks,ts)):t=.cell c/\C[c]?=some (.dk ks,ts):=by
 unfold te at h;split at h
 .obtain⟨⟨k,a⟩,e,h⟩:=fE h;dsimp only at h;split at h
  .cases h;exact⟨rfl,e⟩
  .cases h
 .cases h
theorem UT{C:ab}{t:T}{a:Xw}(h:AL C t=some (c,ks,a)):t=.cell c/\C[c]?=some (.dt ks,a):=by
 unfold AL at h;split at h
 .obtain⟨⟨k,b⟩,e,h⟩:=fE h;dsimp only at h;split at h
  .cases h;exact⟨rfl,e⟩
  .cases h
 .cases h
theorem TX{C:ab}{t:T}{a:Xw}(h:AK C t=some (c,ks,a)):t=.cell c/\(C[c]?=some (.dt ks,a)\/C[c]?=some (.dz ks,a)):=by
 unfold AK at h;split at h
 .obtain⟨⟨k,b⟩,e,h⟩:=fE h;dsimp only at h;split at h
  .cases h;exact⟨rfl,.inl e⟩
  .cases h;exact⟨rfl,.inr e⟩
  .cases h
 .cases h
section
variable {K:aL}{W:XW}{f:St}{H:Hp}{Q:VK}{D:Ends}{M:Hp}{d:cn}
variable{l n fd:FE}{m tk:T}
theorem D5{t:T}{v:V}{k:Key}(h:RT K M d t v)(e:Af t=some k):v=kV k:=by
 unfold Af at e;split at e
 .cases e;exact h.int_inv
 .cases e
theorem J9:∀{a:Xw}{vs:Xy}{ks:List Key},aB K M d a vs->Dt a=some ks->vs=ks.map kV
 | [],_,_,h,e=>by cases e;exact h.nil_inv
 |t::a,vs,ks,h,e=>by
  obtain⟨v,r,rfl,i,g⟩:=h.cons_inv;unfold Dt at e;obtain⟨k,o,e⟩:=fE e;obtain⟨b,j,e⟩:=fG e;cases e;rw[D5 i o,J9 g j];rfl
theorem Jn{Z:aWe->Prop}{t:T}{v:V}{k:List Key}(h:RT K (mask H Z d) d t v)(e:Dl t=some k):∃b,v=.ref b/\H b=some (.tup (k.map kV)):=by
 unfold Dl at e;split at e
 .unfold RT at h;obtain⟨a,vs,g,q,r⟩:=h;exact⟨a,g,by rw[(jT q).2.2,J9 r e]⟩
 .cases e
theorem Rel.dk{b:Hp}{Z:aWe->Prop}{i:aE}{C:ab}{t:T}{v:V}{c:Nat}{ks:List Key}{ts:Xw}(R:Rel K b Z d i C f H)(h:RT K (mask H Z d) d t v)(e:te C t=some (c,ks,ts)):
 ∃a vs,v=.ref a/\d[c]?=some a/\ks.length=vs.length/\H a=some (.dK (ks.zip vs))/\aB K (mask H Z d) d ts vs:=by
 obtain⟨rfl,s⟩:=Lp e;unfold RT at h;obtain⟨a,r,q⟩:=h;obtain⟨x,vs,ob,g,p,o,k⟩:=R.jq c a q;rw[s]at g;cases g;obtain⟨j,rfl⟩:=o;exact⟨a,vs,r,q,j,p,k⟩
theorem Rel.dt{b:Hp}{Z:aWe->Prop}{i:aE}{C:ab}{t:T}{v:V}{c:Nat}{ks:List (List Key)}{ts:Xw}(R:Rel K b Z d i C f H)(h:RT K (mask H Z d) d t v)(e:AL C t=some (c,ks,ts)):
 ∃a vs,v=.ref a/\d[c]?=some a/\ks.length=vs.length/\H a=some (.dT (ks.zip vs))/\aB K (mask H Z d) d ts vs:=by
 obtain⟨rfl,s⟩:=UT e;unfold RT at h;obtain⟨a,r,q⟩:=h;obtain⟨x,vs,ob,g,p,o,k⟩:=R.jq c a q;rw[s]at g;cases g;obtain⟨j,rfl⟩:=o;exact⟨a,vs,r,q,j,p,k⟩
theorem Rel.dz{b:Hp}{Z:aWe->Prop}{u:aE}{C:ab}{t:T}{v:V}{c:Nat}{ks:List (List Key)}{j:Xw}(R:Rel K b Z d u C f H)(h:RT K (mask H Z d) d t v)(e:AK C t=some (c,ks,j)):
 ∃a vs,v=.ref a/\d[c]?=some a/\ks.length=vs.length/\Rd H a (.dT (ks.zip vs))/\aB K (mask H Z d) d j vs:=by
 obtain⟨rfl,e0⟩:=TX e;unfold RT at h;obtain⟨a,s,q⟩:=h;obtain⟨x,vs,ob,g,r,p,k⟩:=R.jq c a q;rcases e0 with e0|e0
 .rw[e0]at g;cases g;obtain⟨i,rfl⟩:=p;exact⟨a,vs,s,q,i,.inl r,k⟩
 .rw[e0]at g;cases g;obtain⟨i,o,rfl⟩:=p;exact⟨a,vs,s,q,i,.inr ⟨o,r⟩,k⟩
noncomputable def xH(kd:Kd):FE:=λ_ C=>some (.cell C.length,C++[(kd,[])])
theorem SY(h:bg K (xH (.dk [])) f H Q):qy f H Q:=by
 obtain⟨a,Z,d,o,C,t,q,R,e,k⟩:=h;cases e;intro p i;obtain⟨j,b,g⟩:=R.fu (kd:=.dk []) (ts:=[]) (vs:=[]) (ob:=.dK []) i ⟨rfl,rfl⟩ .nil;exact k _ _ _ j g b
theorem Sd(h:bg K (xH (.dt [])) f H Q):qx f H Q:=by
 obtain⟨a,Z,d,o,C,t,q,R,e,k⟩:=h;cases e;intro p i;obtain⟨j,b,g⟩:=R.fu (kd:=.dt []) (ts:=[]) (vs:=[]) (ob:=.dT []) i ⟨rfl,rfl⟩ .nil;exact k _ _ _ j g b
def wE(l n:FE):FE:=λa C=>(l a (C++[(.dk [],[])])).bind λp=>(n a p.2).bind λq=>(Af p.1).bind λk=>match te q.2 (.cell C.length)with
 |some (_,[],[])=>some (.cell C.length,q.2.set C.length (.dk [k],[q.1]))
 |_=>none
theorem QL(h:bg K (wE l n) f H Q):wu [(bg K l,bg K n)] f H Q:=by
 obtain⟨b,Z,d,j,C,t,C',R,e,k⟩:=h;intro p N;unfold wE at e;obtain⟨⟨G,A⟩,Y,e⟩:=fE e;obtain⟨⟨r,C2⟩,z,e⟩:=fE e;obtain⟨g,X,e⟩:=fE e;dsimp only at z e;split at e
 .rename_i w;cases e;obtain⟨R1,I,J⟩:=R.fu (kd:=.dk []) (ts:=[]) (vs:=[]) (ob:=.dK []) N ⟨rfl,rfl⟩ .nil;refine⟨b,Z,_,j,_,G,A,R1,Y,λx H1 af B P u=>?_⟩;refine⟨b,Z,af,j,A,r,C2,B,z,λy H2 E R2 O s=>?_⟩;have v:=(J.step u).step s;obtain⟨a,vs,S,q,hl,i,L⟩:=R2.dk v w;have U:=(Lp w).1;cases U;cases S;rw[L.nil_inv]at i;refine⟨i,[(g,y)],by rw[D5 P X];rfl,by simp,?_⟩;obtain⟨F,o⟩:=R2.put (kd:=.dk [g]) (ts:=[r]) (vs:=[y]) (ob:=.dK [(g,y)]) q (by rw[i];trivial) ⟨rfl,rfl⟩ (.cons O .nil);exact k _ _ E F (v.step o) (((I.trans u).trans s).trans o)
 .cases e
def ek(C:ab)(m tk:T):Option Xx:=match te C m with
 |some x=>(Af tk).map λk=>vl (x.2.1.zip x.2.2) k
 |none=>(AK C m).bind λx=>(Dl tk).map λk=>vl (x.2.1.zip x.2.2) k
theorem Rel.ek{i:Hp}{Z:aWe->Prop}{A:aE}{C:ab}{x y:V}{o:Xx}(R:Rel K i Z d A C f H)(u:RT K (mask H Z d) d m x)(s:RT K (mask H Z d) d tk y)(e:TL.ek C m tk=some o):
 ∃a w,x=.ref a/\C5 H a/\uP H a y w/\match o with
  |some t=>∃v,w=some v/\RT K (mask H Z d) d t v
  |none=>w=none:=by
 unfold TL.ek at e;split at e
 .rename_i z j;obtain⟨c,ks,B⟩:=z;obtain⟨k,r,e⟩:=fG e;obtain⟨a,vs,p,q,F,h,g⟩:=R.dk u j;refine⟨a,_,p,.inl ⟨_,.inl h⟩,by rw[D5 s r];exact uP.k h,?_⟩;cases o with
  |some t=>exact g.vl e
  |none=>exact g.Em e
 .obtain⟨⟨c,ks,B⟩,j,e⟩:=fE e;obtain⟨k,r,e⟩:=fG e;obtain⟨a,vs,p,q,F,h,g⟩:=R.dz u j;obtain⟨b,I,G⟩:=Jn s r;refine⟨a,_,p,.inr ⟨_,h⟩,.inr ⟨_,k,b,h,I,G,rfl⟩,?_⟩;cases o with
  |some t=>exact g.vl e
  |none=>exact g.Em e
def DJ(m tk:T)(C:ab):Option (T×ab):=match ek C m tk with
 |some (some t)=>some (t,C)
 |_=>none
abbrev Be(fd l:FE):FE:=kA fd l DJ
theorem Qu(h:bg K (Be fd l) f H Q):wy (bg K fd) (bg K l) f H Q:=by
 refine jM (DR h) λx I q=>jM q λy A q=>?_;obtain⟨G,F,b,Z,d,B,C,t,J,R,r,e,k⟩:=q;obtain⟨_,_,z,o,r⟩:=r.cons_inv;cases z;obtain⟨_,_,z,j,r⟩:=r.cons_inv;cases z;unfold DJ at e;split at e
 .rename_i u p;cases e;obtain⟨a,w,ex,_,g,v,s,i⟩:=R.ek o j p;subst s;exact⟨a,v,ex,g,k v A d R i .refl⟩
 .cases e
def zT(b:Bool)(tk m:T)(C:ab):Option (T×ab):=(ek C m tk).map λo=>(.bl (o.isSome==b),C)
theorem HZ{x y:V}{h:Hp}(b:Bool)(q:∃j i,ib K f [j,i] [y,x] (zT b j i) h Q):∃a o,x=.ref a/\uP h a y o/\Q (.bl (o.isSome==b)) h:=by
 obtain⟨j,i,s,Z,d,G,C,t,J,R,r,e,k⟩:=q;obtain⟨_,_,z,A,r⟩:=r.cons_inv;cases z;obtain⟨_,_,z,u,r⟩:=r.cons_inv;cases z;unfold zT at e;obtain⟨o,F,e⟩:=fG e;cases e;obtain⟨a,w,ex,_,g,p⟩:=R.ek u A F;refine⟨a,w,ex,g,?_⟩;cases o with
 |some t=>obtain⟨v,B,I⟩:=p;subst B;exact k _ h d R .bl .refl
 |none=>subst p;exact k _ h d R .bl .refl
theorem OD(h:bg K (kA l fd (zT true)) f H Q):BE (bg K l) (bg K fd) f H Q:=by
 refine jM (DR h) λx i q=>jM q λy b q=>?_;obtain⟨a,o,ex,g,q⟩:=HZ true q;exact⟨a,o,ex,g,by cases o<;>exact q⟩
theorem OM(h:bg K (kA l fd (zT false)) f H Q):nu (bg K l) (bg K fd) f H Q:=by
 refine jM (DR h) λx i q=>jM q λy b q=>?_;obtain⟨a,o,ex,g,q⟩:=HZ false q;exact⟨a,o,ex,g,by cases o<;>exact q⟩
def iq(C:ab)(t:T):Bool:=(te C t).isSome||(AK C t).isSome
theorem Rel.iq{b:Hp}{Z:aWe->Prop}{j:aE}{C:ab}{t:T}{v:V}(R:Rel K b Z d j C f H)(h:RT K (mask H Z d) d t v)(e:TL.iq C t=true):∃a,v=.ref a/\C5 H a:=by
 unfold TL.iq at e;rcases Bool.or_eq_true_iff.mp e with e|e
 .obtain⟨⟨c,ks,k⟩,e⟩:=iV e;obtain⟨a,vs,i,q,p,g,o⟩:=R.dk h e;exact⟨a,i,.inl ⟨_,.inl g⟩⟩
 .obtain⟨⟨c,ks,k⟩,e⟩:=iV e;obtain⟨a,vs,i,q,p,g,o⟩:=R.dz h e;exact⟨a,i,.inr ⟨_,g⟩⟩
def wU(fd l b:FE):FE:=λa C=>(fd a C).bind λp=>if iq p.2 p.1=true then(l a p.2).bind λq=>(b a q.2).bind λr=>(ek r.2 p.1 q.1).map λo=>(o.getD r.1,r.2)else none
theorem Rv{B:FE}(h:bg K (wU fd l B) f H Q):q5 (bg K fd) (bg K l) (bg K B) f H Q:=by
 obtain⟨b,Z,d,j,C,t,C',R,e,k⟩:=h;unfold wU at e;obtain⟨⟨X,P⟩,e1,e⟩:=fE e;dsimp only at e;split at e
 .rename_i E;obtain⟨⟨U,O⟩,e2,e⟩:=fE e;obtain⟨⟨S,C3⟩,I,e⟩:=fE e;obtain⟨o,G,e⟩:=fG e;cases e;dsimp only at I G;refine⟨b,Z,d,j,C,X,P,R,e1,λx H1 af L A r=>?_⟩;obtain⟨a,F,hD⟩:=L.iq A E;refine⟨a,F,hD,?_⟩;refine⟨b,Z,af,j,P,U,O,L,e2,λy H2 ar R2 h2 p=>?_⟩;refine⟨b,Z,ar,j,O,S,C3,R2,I,λz N J q h3 i=>?_⟩;obtain⟨a',w,ex,_,g,s⟩:=q.ek ((A.step p).step i) (h2.step i) G;rw[F]at ex;cases ex;refine⟨w,g,?_⟩;cases o with
  |some u=>obtain⟨v,ew,Y⟩:=s;subst ew;exact k _ N J q Y ((r.trans p).trans i)
  |none=>subst s;exact k _ N J q h3 ((r.trans p).trans i)
 .cases e
def dput(C:ab)(m tk a:T):Option ab:=match te C m with
 |some x=>(Af tk).bind λk=>if x.2.1.length<lim then some (C.set x.1 (.dk (mq k x.2.1),jt k a x.2.1 x.2.2))else none
 |none=>(AL C m).bind λx=>(Dl tk).bind λk=>if x.2.1.length<lim then some (C.set x.1 (.dt (mq k x.2.1),jt k a x.2.1 x.2.2))else none
theorem Rel.dput(F:lim<=sizeLine){g:Hp}{Z:aWe->Prop}{A:aE}{C L:ab}{B:T}{x y v:V}(R:Rel K g Z d A C f H)(J:RT K (mask H Z d) d m x)(I:RT K (mask H Z d) d tk y)(G:RT K (mask H Z d) d B v)(e:TL.dput C m tk B=some L):
 ∃a w,x=.ref a/\t6 H a y v w/\Rel K g Z d A L f w/\Step H w d d:=by
 unfold TL.dput at e;split at e
 .rename_i z h;obtain⟨c,ks,N⟩:=z;obtain⟨k,t,e⟩:=fE e;dsimp only at e;split at e
  .rename_i u;cases e;obtain⟨a,vs,s,q,i,j,r⟩:=R.dk J h;obtain⟨p,o⟩:=R.put (kd:=.dk (mq k ks)) (ob:=.dK ((mq k ks).zip (jt k v ks vs))) q (by rw[j];trivial) ⟨Ga i,rfl⟩ (r.jt (k:=k) (ks:=ks) G);refine⟨a,_,s,?_,p,o⟩;rw[D5 I t,<-y4 i];exact t6.k j (by rw[X0];exact bO (d0 ks.length vs.length) (aM u F))
  .cases e
 .obtain⟨⟨c,ks,N⟩,h,e⟩:=fE e;obtain⟨k,t,e⟩:=fE e;dsimp only at e;split at e
  .rename_i u;cases e;obtain⟨a,vs,s,q,i,j,r⟩:=R.dt J h;obtain⟨p,o⟩:=R.put (kd:=.dt (mq k ks)) (ob:=.dT ((mq k ks).zip (jt k v ks vs))) q (by rw[j];trivial) ⟨Ga i,rfl⟩ (r.jt (k:=k) (ks:=ks) G);obtain⟨b,P,O⟩:=Jn I t;refine⟨a,_,s,?_,p,o⟩;rw[P,<-y4 i];exact t6.t j O (by rw[X0];exact bO (d0 ks.length vs.length) (aM u F))
  .cases e
def Az(fd l n:FE):FS:=λa C=>(n a C).bind λp=>(fd a p.2).bind λq=>(l a q.2).bind λr=>(dput r.2 q.1 r.1 p.1).map λb=>(.nx,a,b)
theorem Qm(G:lim<=sizeLine)(h:ep K W (Az fd l n) D f H):xm (bg K fd) (bg K l) (bg K n) D f H:=by
 obtain⟨b,Z,d,i,C,fl,ah,C',R,e,k⟩:=h;unfold Az at e;obtain⟨⟨A,u⟩,N,e⟩:=fE e;obtain⟨⟨z,t⟩,r,e⟩:=fE e;obtain⟨⟨w,E⟩,q,e⟩:=fE e;obtain⟨C4,p,e⟩:=fG e;cases e;dsimp only at r q p;refine⟨b,Z,d,i,C,A,u,R,N,λv H1 S Y L F=>?_⟩;refine⟨b,Z,S,i,u,z,t,Y,r,λx H2 P R2 J o=>?_⟩;refine⟨b,Z,P,i,t,w,E,R2,q,λy H3 O X I j=>?_⟩;obtain⟨a,s,ex,g,U,B⟩:=X.dput G (J.step j) I ((L.step o).step j) p;exact⟨a,s,ex,g,k f s O U (((F.trans o).trans j).trans B)⟩
def Bk(g:Int->Int->Int)(fd l n:FE):FS:=λa C=>(fd a C).bind λp=>(l a p.2).bind λq=>match ek q.2 p.1 q.1 with
 |some (some (.int i))=>(n a q.2).bind λr=>match r.1 with
  | .int j=>(dput r.2 p.1 q.1 (.int (g i j))).map λb=>(.nx,a,b)
  |_=>none
 |_=>none
theorem NR(P:lim<=sizeLine){g:Int->Int->Int}{rd:V->V->Hp->VK->Prop}(G:∀i j H Q,Q (.int (g i j)) H->rd (.int i) (.int j) H Q)(h:ep K W (Bk g fd l n) D f H):xn (bg K fd) (bg K l) (bg K n) rd D f H:=by
 obtain⟨b,Z,d,p,C,fl,ah,C',R,e,k⟩:=h;unfold Bk at e;obtain⟨⟨J,F⟩,e1,e⟩:=fE e;obtain⟨⟨I,B⟩,u,e⟩:=fE e;dsimp only at u e;split at e
 .rename_i i S;obtain⟨⟨t3,C3⟩,e3,e⟩:=fE e;dsimp only at e;split at e
  .rename_i j;obtain⟨C4,e4,e⟩:=fG e;cases e;refine⟨b,Z,d,p,C,J,F,R,e1,λx H1 af R1 t N=>?_⟩;refine⟨b,Z,af,p,F,I,B,R1,u,λy H2 ar R2 s r=>?_⟩;obtain⟨a,w,ex,_,X,v,E,O⟩:=R2.ek (t.step r) s S;subst E;refine⟨a,v,ex,X,?_⟩;refine⟨b,Z,ar,p,B,_,C3,R2,e3,λz H3 az R3 U q=>?_⟩;rw[O.int_inv,U.int_inv];refine G i j H3 _ ?_;obtain⟨a',A,o,Y,R4,L⟩:=R3.dput P ((t.step r).step q) (s.step q) (v:=.int (g i j)) (.int) e4;rw[ex]at o;cases o;exact⟨A,Y,k f A az R4 (((N.trans r).trans q).trans L)⟩
  .cases e
 .cases e
end
noncomputable def od{a:Type}:List a->List a
 |_::y::r=>y::od r
 |_=>[]
def AR(f:FE):FN:=λa C=>(f a C).bind λp=>(dm p.2 p.1).map λb=>(od b,p.2)
section
variable {K:aL}{W:XW}{d:St}{H:Hp}{Q:VK}{D:Ends}{M:Hp}{j:cn}
variable{m:Hp}{s:cn}
theorem aB.od:∀{a:Xw}{vs:Xy},aB K M j a vs->aB K M j (TL.od a) (TL.od vs)
 | [],_,h=>by rw[h.nil_inv];exact .nil
 | [t],vs,h=>by
   obtain⟨v,r,rfl,_,b⟩:=h.cons_inv;rw[b.nil_inv];exact .nil
 |t::u::a,vs,h=>by
  obtain⟨v,r,rfl,_,b⟩:=h.cons_inv;obtain⟨w,r,rfl,g,f⟩:=b.cons_inv;unfold TL.od;exact .cons g (aB.od f)
theorem Oa{f:FE}(h:kv K (AR f) d H Q):bg K f d H λx m=>∃a xs,x=.ref a/\cz K m a xs/\∀p,m p=none->Q (.ref p) (upd m p (.lst (od xs))):=by
 obtain⟨b,Z,j,i,C,z,F,R,e,q⟩:=h;unfold AR at e;obtain⟨⟨t,B⟩,y,e⟩:=fE e;obtain⟨A,w,e⟩:=fG e;cases e;refine⟨b,Z,j,i,C,t,_,R,y,λv m s g o k=>?_⟩;obtain⟨a,vs,u,l,r⟩:=g.li o w;exact⟨a,vs,u,l,λp n=>q p m s _ g n r.od k⟩
def Ha(K:aL)(l:aWe):It:=
 ⟨λi H=>∃xs x,cz K H l xs/\xs[i]?=some x,λi H v a=>∃p x,H p=none/\v=.ref p/\a=upd H p (.tup [.int i,x])/\∀xs,cz K H l xs->xs[i]?=some x,λi H=>∃xs,cz K H l xs/\xs.length<=i⟩
def xw(K:aL)(t:TA):TI:=λd H R=>t d H λvs m=>∃l,vs=[.ref l]/\(∃xs,cz K m l xs)/\R (Ha K l) m
noncomputable def u1(a:Xw):Xw:=a.zipIdx.map λp=>.tup [.int p.2,p.1]
theorem TZ{a:Xw}{i:Nat}:(u1 a)[i]?=(a[i]?).map λt=>.tup [.int i,t]:=by
 unfold u1;rw[bI,ZA];cases a[i]?<;>simp
theorem Tz{a:Xw}:(u1 a).length=a.length:=by simp[u1]
theorem TH{Z:aWe->Prop}{f:Hp}{I:aE}{C:ab}{d:L2.St}{t:T}{n:Xw}{a:aWe}(G:Rel K f Z s I C d m)(B:RT K (mask m Z s) s t (.ref a))(F:dm C t=some n):
 AB K (Ha K a) Z m s (u1 n) (stays t n):=by
 refine⟨λi Y f U S R X d H e l sm q r _=>?_,λf U S R X d H l sm q r _=>?_⟩
 .obtain⟨g,k,o⟩:=n4 G B F l sm q r;rw[TZ]at e;obtain⟨u,J,rfl⟩:=fG e;obtain⟨N,w,L⟩:=o.get J;refine⟨⟨g,N,k,w⟩,λx E P=>?_⟩;obtain⟨p,y,A,rfl,rfl,O⟩:=P;have v:=O g k;rw[w]at v;cases v;exact⟨λb u h=>by rw[gJ (λz=>by rw[z,A]at h;cases h)];exact h,l.hG A (.cons .int (.cons L .nil))⟩
 .obtain⟨g,k,o⟩:=n4 G B F l sm q r;exact⟨g,k,by rw[o.length,Tz];exact bD _⟩
def zJ(f:FE)(g:FG)(F:FS):FS:=λa C=>(f a C).bind λp=>(dm p.2 p.1).bind λb=>lQ (stays p.1 b) g F (u1 b) a p.2
theorem OK{f:FE}{g:FG}{F:FS}(h:ep K W (zJ f g F) D d H):Co (xw K (jd K (fN f f7))) (nj K g) (ep K W F) D d H:=by
 obtain⟨b,Z,j,o,C,O,P,S,R,e,k⟩:=h;unfold zJ at e;obtain⟨⟨t,J⟩,z,e⟩:=fE e;obtain⟨L,i,e⟩:=fE e;refine⟨b,Z,j,o,C,[t],J,R,by simp[fN,f7,z],λvs m s l x p=>?_⟩;obtain⟨v,r,rfl,n,w⟩:=x.cons_inv;rw[w.nil_inv];obtain⟨a,vs,y,u,N⟩:=l.li n i;subst y;exact⟨a,rfl,⟨vs,u⟩,yI l (rV i) e (TH l n i) λA I B G q=>k A I B G (p.trans q)⟩
def cx{a:Type}:List Key->List a->List Key×List a->List Key×List a
 |k::ks,v::vs,x=>cx ks vs (mq k x.1,jt k v x.1 x.2)
 |_,_,x=>x
theorem Kv:∀{ks':List Key}{vs':Xy}{ks:List Key}{vs:Xy},ks.length=vs.length->ks'.length=vs'.length->
 sW (ks.zip vs) (ks'.zip vs')=(cx ks' vs' (ks,vs)).1.zip (cx ks' vs' (ks,vs)).2/\(cx ks' vs' (ks,vs)).1.length=(cx ks' vs' (ks,vs)).2.length
 | [],_,ks,vs,h,_=>by unfold cx;exact⟨rfl,h⟩
 |_::_,[],ks,vs,h,a=>by cases a
 |k::ks',v::vs',ks,vs,h,a=>by
  rw[c8];show sW (putK (ks.zip vs) k v) (ks'.zip vs')=_/\_;rw[y4 h];unfold cx;exact Kv (Ga h) (by simpa using a)
theorem aB.cx:∀{ks':List Key}{b:Xw}{vs':Xy}{ks:List Key}{a:Xw}{vs:Xy},aB K M j b vs'->aB K M j a vs->(TL.cx ks' b (ks,a)).1=(TL.cx ks' vs' (ks,vs)).1/\aB K M j (TL.cx ks' b (ks,a)).2 (TL.cx ks' vs' (ks,vs)).2
 | [],_,_,ks,a,vs,_,h=>by unfold TL.cx;exact⟨rfl,h⟩
 |_::_,[],vs',ks,a,vs,f,h=>by rw[f.nil_inv];unfold TL.cx;exact⟨rfl,h⟩
 |k::ks',t::b,vs',ks,a,vs,f,h=>by
  obtain⟨v,r,rfl,i,g⟩:=f.cons_inv;unfold TL.cx;exact aB.cx g (h.jt (k:=k) (ks:=ks) i)
def wx(i h:TE):TE:=λd H Q=>i d H λx m=>∃a,x=.ref a/\C5 m a/\h d m λy g=>∃b f more,y=.ref b/\a≠b/\g a=some (.dK f)/\g b=some (.dK more)/\f.length+more.length<=sizeLine/\Q .aF (upd g a (.dK (sW f more)))
def z9(fd b:FE):FE:=λa C=>(fd a C).bind λp=>if iq p.2 p.1=true then(b a p.2).bind λq=>(te q.2 p.1).bind λx=>(te q.2 q.1).bind λy=>if x.1≠y.1/\x.2.1.length+y.2.1.length<=lim then
 some (.aF,q.2.set x.1 (.dk (cx y.2.1 y.2.2 (x.2.1,x.2.2)).1,(cx y.2.1 y.2.2 (x.2.1,x.2.2)).2))else none else none
theorem Qb(hz:lim<=sizeLine){fd p:FE}(h:bg K (z9 fd p) d H Q):wx (bg K fd) (bg K p) d H Q:=by
 obtain⟨f,Z,j,g,C,t,C',R,e,k⟩:=h;unfold z9 at e;obtain⟨⟨U,B⟩,e1,e⟩:=fE e;dsimp only at e;split at e
 .rename_i hd;obtain⟨⟨S,C2⟩,e2,e⟩:=fE e;obtain⟨⟨c,ks,P⟩,w,e⟩:=fE e;obtain⟨⟨c',ks',cw⟩,v,e⟩:=fE e;dsimp only at w v e;split at e
  .rename_i hl;cases e;refine⟨f,Z,j,g,C,U,B,R,e1,λx m s A o X=>?_⟩;obtain⟨a,u,hD⟩:=A.iq o hd;refine⟨a,u,hD,?_⟩;refine⟨f,Z,s,g,B,S,C2,A,e2,λy H2 ar R2 h2 l=>?_⟩;obtain⟨a',vs,r,q,jx,n,hr⟩:=R2.dk (o.step l) w;rw[u]at r;cases r;obtain⟨b,vs',i',E,nk,J,O⟩:=R2.dk h2 v;have Y:a≠b:=λz=>by
    subst z;obtain⟨i1,j1⟩:=fK q;obtain⟨i2,j2⟩:=fK E;exact hl.1 ((Zg R2.nd).mp (j1.trans j2.symm))
   refine⟨b,_,_,i',Y,n,J,by rw[X0,X0];lia,?_⟩;obtain⟨I,G⟩:=Kv (ks':=ks') (vs':=vs') jx nk;obtain⟨i,F⟩:=aB.cx (ks':=ks') (ks:=ks) O hr;rw[I];obtain⟨N,L⟩:=R2.put (kd:=.dk (cx ks' cw (ks,P)).1) (ob:=.dK ((cx ks' vs' (ks,vs)).1.zip (cx ks' vs' (ks,vs)).2)) q (by rw[n];trivial) ⟨by rw[i];exact G,by rw[i]⟩ F;exact k _ _ ar N .aF ((X.trans l).trans L)
  .cases e
 .cases e
def Hb(a:aWe)(ob:Obj)(f:List (List Key×V)):It:=
 ⟨λi H=>H a=some (.ft ob (.dT f))/\i<f.length,λi H x g=>g=H/\∃b k v,x=.ref b/\f[i]?=some (k,v)/\H b=some (.tup (k.map kV)),λi H=>H a=some (.ft ob (.dT f))/\f.length<=i⟩
def xS(B:aWe->Prop)(t:TE):TI:=λd H R=>t d H λx m=>∃a kvs,x=.ref a/\m a=some (.dT kvs)/\(B a->∀ob,R (Hb a ob kvs) (upd m a (.ft ob (.dT kvs))))
def Er(B:aWe->Prop)(t:(VK->Prop))(Q:VK):Prop:=t λv H=>∃a ob u,B a/\H a=some (.ft ob u)/\Q v (upd H a u)
noncomputable def kT:Key->T
 | .inl i=>.int i
 | .inr x=>.str x
def Cj(k:List Key):T:=.tup (k.map kT)
theorem Ny{k:Key}:RT K M j (kT k) (kV k):=by cases k<;>(unfold kT RT;rfl)
theorem IB:∀{k:List Key},aB K M j (k.map kT) (k.map kV)
 | []=>.nil
 |k::ks=>.cons Ny IB
theorem TF{Z:aWe->Prop}{a:aWe}{ob:Obj}{ks:List (List Key)}{vs:Xy}(I:ks.length=vs.length)(t:m a=some (.ft ob (.dT (ks.zip vs)))):AB K (Hb a ob (ks.zip vs)) Z m s (ks.map Cj) (λ_=>True):=by
 have p:(ks.zip vs).length=ks.length:=by rw[X0];lia
 refine⟨λi F f B A e C d H q n sm u y l=>?_,λf B A e C d H n sm u y l=>?_⟩
 .rw[bI]at q;obtain⟨k,r,rfl⟩:=fG q;refine⟨⟨l _ _ _ t,by rw[p];exact(fK r).1⟩,λx J w=>?_⟩;obtain⟨rfl,b,G,v,rfl,g,h⟩:=w;obtain⟨o,_⟩:=Za.mp g;rw[r]at o;cases o;refine⟨.refl _,?_⟩;unfold Cj RT;refine⟨b,_,rfl,oS (λz=>?_) (λz=>?_) h,IB⟩
  .have:=n.zd b z;rw[h]at this;exact this
  .have:=n.jk z;rw[h]at this;exact this
 .exact⟨l _ _ _ t,by rw[aP,p];exact bD _⟩
def wG(f:FE)(k:Nat)(is:XG)(g:FG)(h:FB)(i:FE):FN:=λa C=>(f a C).bind λp=>(AL p.2 p.1).bind λx=>if x.2.1.length<lim/\x.2.1.length=x.2.2.length then
 (lM g h i (gh k is a) (x.2.1.map Cj) (p.2.set x.1 (.dz x.2.1,x.2.2))).bind λr=>match r.2[x.1]?with
  |some (.dz ks,b)=>some (r.1,r.2.set x.1 (.dt ks,b))
  |_=>none else none
theorem Rz{f:FE}{k:Nat}{is:XG}{g:FG}{S:FB}{X:FE}{B:aWe->Prop}(hg:mz k g)(h:kv K (wG f k is g S X) d H Q):Er B (Bo (xS B (bg K f)) (nR k is) (nj K g) (jo K S) (bg K X) d H) Q:=by
 obtain⟨F,Z,j,τ,C,ys,C',R,e,q⟩:=h;unfold wG at e;obtain⟨⟨t,C1⟩,e1,e⟩:=fE e;obtain⟨⟨c,ks,ts⟩,Y,e⟩:=fE e;dsimp only at Y e;split at e
 .rename_i hl;obtain⟨⟨zs,C2⟩,e3,e⟩:=fE e;dsimp only at e;split at e
  .rename_i w cw e4;cases e;refine⟨F,Z,j,τ,C,t,C1,R,e1,λv m s R1 i s1=>?_⟩;obtain⟨a,vs,ev,N,A,P,hr⟩:=R1.dt i Y;subst ev;refine⟨a,_,rfl,P,λhB ob D hD=>?_⟩;obtain⟨Rf,sf⟩:=R1.put (kd:=.dz ks) (ob:=.ft ob (.dT (ks.zip vs))) N (by rw[P];trivial) ⟨A,ob,rfl⟩ hr;refine u5 (Q:=λv H=>∃a ob u,B a/\H a=some (.ft ob u)/\Q v (upd H a u)) (P:=λ_=>True) Rf hg (TF A kD) trivial (λ_ _ _ _=>trivial) (by simpa using hl.1) e3 hD λp H' E L R' U rv l=>?_;have O:=l.idx _ _ N;have G:=l.fz a ob _ kD;obtain⟨x,us,o2,c1,c2,c4,c3⟩:=R'.jq c a O;rw[e4]at c1;cases c1;rw[G]at c2;cases c2;obtain⟨nk,ob2,z⟩:=c4;have z2:ks.zip vs=w.zip us:=by
    injection z with _ z
    injection z
   have J:a≠p:=λz=>by rw[z,U]at G;cases G
   refine⟨a,ob,.dT (ks.zip vs),hB,by rw[gJ J];exact G,?_⟩;obtain⟨Rt,em⟩:=R'.BO (kd:=.dt w) (ob:=.dT (ks.zip vs)) O ⟨nk,by rw[z2]⟩ c3;have vx:upd (upd H' p (.lst L)) a (.dT (ks.zip vs))=upd (upd H' a (.dT (ks.zip vs))) p (.lst L):=by
    funext b;unfold upd;by_cases i:b=a
    .subst i;rw[aWc rfl,aWa J,aWc rfl]
    .by_cases I:b=p
     .rw[aWa i,aWc I,aWc I]
     .rw[aWa i,aWa I,aWa I,aWa i]
   rw[vx];have am:a∈s:=aX N;have am':a∈E:=aX O;refine q p _ E L Rt (by rw[gJ (Ne.symm J)];exact U) (by rw[em];exact rv) (s1.trans ⟨λb o z n=>?_,l.pre,λb o u z=>?_⟩)
   .have r:b≠a:=λz=>n (by rw[z];exact am);have:=l.kept b o (by rw[gJ r];exact z) n;exact⟨this.1,by rw[gJ r];exact this.2⟩
   .have r:b≠a:=λy=>by rw[y,P]at z;cases z
    rw[gJ r];exact l.fz b o u (by rw[gJ r];exact z)
  .cases e
 .cases e
end
end TL
namespace TL
open PySem PySem.Spec PyProof.Rows L2
structure xW(P:aWm)(w:aWr)(K:aL)(mg:Str->XM)(base:aWi)(k:Nat)(x:Str)(n:Nat)(G:Xw->ab->Option (T×ab)):Prop where
 ex:∃f fd ps,pK P w K mg base ku k f fd ps (spS K n G)/\mg x=some (.ref f)/\dQ K (.ref f)=true/\Binds K fd ps []
structure p5(P:aWm)(w:aWr)(K:aL)(mg:Str->XM)(base:aWi)(k:Nat)(cls:String)(m:Str)(n:Nat)(G:Xw->ab->Option (T×ab)):Prop where
 ex:∃C f fd ps,cE K aWk (Str.ofString cls)=some (some (.ref C))/\oe K C/\vo K C m f/\pK P w K mg base ku k f fd ps (spS K n G)/\Binds K fd ps []
structure A6(P:aWm)(w:aWr)(K:aL)(mg:Str->XM)(base:aWi)(k:Nat)(cls:String)(n:Nat)(G:Xw->ab->Option (T×ab))(ie:Xw)(bo:Xy):Prop where
 ex:∃C f fd ps ds,cE K aWk (Str.ofString cls)=some (some (.ref C))/\mg (Str.ofString cls)=some (.ref C)/\Mk K C f/\pK P w K mg base ku k f fd ps (spS K n G)/\Binds K fd ps ds/\aA bo ds
 rt:∀M ρ,aB K M ρ ie bo
section
variable {X:Cx}{e o:aWp}{b:XO}{i j:FE}{d:FN}{p pos l g:Pos}
variable{G:Xw->ab->Option (T×ab)}{q:String}{pl:Sem Bool}
theorem mX{k n:Nat}{x:Str}(D:xW X.prog X.w X.K X.mg X.base k x n G)(a:cc k X.A)(u:QA X (e::b) d)(r:Gl X x:=by rfl)(v:(x==("__debug__":Str))=false:=by decide)
 (s:aWd (e::b) X.env=(false,aWq e X.env)::aWd b X.env:=by rfl)(w:(aWs pos (aWd b X.env)).any (·.1)=false:=by rfl):QE X (.Call (.Name x p) (e::b) [] pos) (m4 n G d):=by
 obtain⟨f,fd,y,F,c,m,t⟩:=D.ex;exact(GQ (E:=λ_ _ _=>False) F a r c m t .nil (λ_ _ _ _ _ _ _ h=>h.elim) u v s w).imp λ_ _ _=>Ru
theorem tA{k n:Nat}{m:Str}(D:p5 X.prog X.w X.K X.mg X.base k q m n G)(s:cc k X.A)(t:QE X o i)(x:QA X (e::b) d)
 (y:aWd (e::b) X.env=(false,aWq e X.env)::aWd b X.env:=by rfl)(z:(aWs pos (aWd b X.env)).any (·.1)=false:=by rfl)
 (r:aWq (.Call (.Attribute o m g) (e::b) [] pos) X.env=(do
  let a<-aWq o X.env
  standAt g.atName
  let (f,first)<-aXk [a] (getMethod a m pl)
  callWith pos f first (aWs pos (aWd (e::b) X.env)) (aXs pos (aXg [] X.env))):=by rfl):QE X (.Call (.Attribute o m g) (e::b) [] pos) (mC q m n G i d):=by
 obtain⟨C,f,fd,A,v,c,u,F,w⟩:=D.ex;exact(Rh (E:=λ_ _ _=>False) (pl:=pl) t c u F s w .nil (λ_ _ _ _ _ _ _ h=>h.elim) x y z r).imp λ_ _ _=>IM v
theorem Cw{k n:Nat}{m:Str}(D:p5 X.prog X.w X.K X.mg X.base k q m n G)(y:cc k X.A)(z:QE X o i)
 (w:aWq (.Call (.Attribute o m g) [] [] pos) X.env=(do
  let r<-aWq o X.env
  standAt g.atName
  let (f,first)<-aXk [r] (getMethod r m pl)
  callWith pos f first (aWs pos (aWd [] X.env)) (aXs pos (aXg [] X.env))):=by rfl):QE X (.Call (.Attribute o m g) [] [] pos) (mC q m n G i f7):=by
 obtain⟨C,f,fd,I,B,c,A,F,H⟩:=D.ex;refine(Tt (E:=λ_ _ _=>False) (pl:=pl) z c A F y H .nil (λ_ _ _ _ _ _ _ h=>h.elim) w).imp λ_ _ _ h=>?_;exact jM (IM B h) λx J ⟨a,dx,fs,v,u,t,s⟩=>⟨a,dx,fs,v,u,t,HD s⟩
theorem Eb{k n:Nat}{a:Xw}{y:Xy}(D:A6 X.prog X.w X.K X.mg X.base k q n G a y)(c:cc (k+1) X.A)(w:QA X (e::b) d)(r:Gl X (Str.ofString q):=by rfl)
 (x:(Str.ofString q==("__debug__":Str))=false:=by decide)(s:aWd (e::b) X.env=(false,aWq e X.env)::aWd b X.env:=by rfl)(z:(aWs pos (aWd b X.env)).any (·.1)=false:=by rfl):
 QE X (.Call (.Name (Str.ofString q) p) (e::b) [] pos) (vF q n G a d):=by
 obtain⟨C,f,fd,A,B,u,m,M,F,v,t⟩:=D.ex;exact(S1 (E:=λ_ _ _=>False) M F c r m v t (λ_ _ _ _ _ _ _ h=>h.elim) w x s z).imp λ_ _ _=>Qe u D.rt
end
section
variable {X:Cx}{o i e f value k v:aWp}{a b c d:FE}{p pos g n h l:Pos}
theorem S4:QE X (.Dict [] [] pos) (xH (.dk [])):=T6.imp λ_ _ _=>SY
theorem Q5:QE X (.Dict [] [] pos) (xH (.dt [])):=Tf.imp λ_ _ _=>Sd
theorem Sa(m:QE X k b)(j:QE X v c):QE X (.Dict [some k] [v] pos) (wE b c):=(R8 (T9 m j RK) rfl rfl (by simp) (by simp)).imp λ_ _ _=>QL
theorem D4(r:X.A.units+20<aXc)(m:QE X o a)(q:QE X i b)(j:E8 i:=by exact λ_ _=>rfl):QE X (.Subscript o i pos) (Be a b):=(QZ (by lia) m q j).imp λ_ _ _=>Qu
theorem Sz(s:X.A.units+20<aXc)(j:QE X o a)(r:QE X e c)(q:QE X f d)(m:M2 X o "get" h e f l:=by exact⟨rfl,rfl,rfl,rfl⟩):QE X (.Call (.Attribute o "get" h) [e,f] [] l) (wU a c d):=
 (UW (by lia) j r q m).imp λ_ _ _=>Rv
theorem Kx(s:X.A.units+20<aXc)(q:QE X o a)(r:QE X i b)(j:QE X value c)(m:aXd value (some (.Subscript o i g)) pos.line X.env=pure false:=by rfl):QS X (.Assign [.Subscript o i g] value pos) (Az a b c):=(QF (by lia) q r j m).imp λ_ _ _=>Qm nC
theorem VY(y:X.A.units+20<aXc)(u:QE X o a)(w:QE X i b)(t:QE X value c)(x:∀r s m,augStore i r s m=(do aXk [m,r,s] (setItem r s m);release [m,r,s] [];pure .next):=by intro _ _ _;rfl):
 QS X (.AugAssign (.Subscript o i n) .Sub value pos) (Bk (λi j=>i - j) a b c):=(Rm (by lia) u w t Jc x).imp λ_ _ _=>NR nC λi j H Q q=>⟨i,j,rfl,rfl,q⟩
theorem NO(r:X.A.units+20<aXc)(q:QE X i b)(j:QE X o a)(m:aWw .In o=false:=by rfl):QT X (.Compare i [.In] [o] pos) (kB (kA b a (zT true))):=(Jp (P5 (by lia) q j) m).imp λ_ _ _=>Ft λ_ _ _=>OD
theorem Jf(r:X.A.units+20<aXc)(q:QE X i b)(j:QE X o a)(m:aWw .NotIn o=false:=by rfl):QT X (.Compare i [.NotIn] [o] pos) (kB (kA b a (zT false))):=(Jp (VM (by lia) q j) m).imp λ_ _ _=>Ft λ_ _ _=>OM
end
theorem aId{P:aWm}{w:aWr}{K:aL}{Y:XO}{k:Nat}{pos:Pos}(e f l:aWe)(D:e≠f):
 Turn P w K (.Tuple Y k pos) (Ha K l) [e,f] e (λi h=>(∃c,IsEnum h e f i c)/\h.IsListIter f l i) where
 mem:=by simp
 obj:=λi h st b a=>by
  obtain⟨⟨c,d⟩,⟨Q,M,c1,d1⟩⟩:=st;simp only[cC,cP,or_false]at a;rcases a with rfl|rfl
  .exact⟨_,d,λv z=>by simp at z⟩
  .exact⟨Q,M,λv z=>by rw[d1]at z;cases z⟩
 keep:=λi h L st p=>by
  obtain⟨⟨c,d⟩,g⟩:=st;exact⟨⟨c,p e (by simp) _ d⟩,g.at λo e'=>p f (by simp) o e'⟩
 item:=by
  intro X G B J R i S s O H E I r st F;subst G B J;obtain⟨⟨c,d⟩,g⟩:=st;obtain⟨xs,x,m,g1⟩:=F;obtain⟨A,t,y,U⟩:=I.list m;obtain⟨u,hu,Z⟩:=t.get g1;refine wpAny_pyNext_enum_item d g y.isList (x:=u) (by simpa using hu) D λL a1 a2 a3 a4 C=>?_;refine⟨_,rfl,wpAny_letOwnedTupleGo_enum (s:={s with heap:=L,toks:=s.toks+1}) a1 λn j N=>?_⟩;have bi:e≠s.heap.objs.size:=bW (aWi.lt_size d);have p:∀b ob,b∉[e,f]->s.heap.get? b=some ob->n.get? b=some ob:=λb ob a q=>by
   simp only[cC,cP,or_false,not_or]at a;exact(N.2 b a.1).trans (C b ob a.1 a.2 q)
  have hT:n.get? s.heap.objs.size=some {cls:=.type "tuple",data:=.seq #[.int i s.toks,u]}:=(N.2 _ (Ne.symm bi)).trans a3;have I1:Inv X S O (upd H s.heap.objs.size (.tup [.int i,x])) {s with heap:=n,toks:=s.toks+1}:=Lb I r p (bD _)
   (show k6 X.prog X.w _ n _ (.tup [.int i,x])from⟨by show 2<=sizeLine;decide,[.int i s.toks,u],.cons ⟨_,rfl⟩ (.cons Z .nil),⟨_,hT,rfl,_,rfl⟩⟩)
  refine⟨.ref s.heap.objs.size,_,I1,rfl,⟨_,x,I.fresh,rfl,rfl,λzs hz=>by rw[I.fq hz m];exact g1⟩,?_,λb a=>?_⟩
  .exact⟨⟨u,by exact_mod_cast j⟩,a2.at λo q=>(N.2 _ (Ne.symm D)).trans q⟩
  .have me:=(r b a).1;rw[gJ]
   .exact me
   .rintro rfl;have:∃o,s.heap.get? s.heap.objs.size=some o:=by
     simp only[cC,cP,or_false]at a;obtain⟨Q,M,_⟩:=g;rcases a with h|h
     .rw[h];exact⟨_,d⟩
     .rw[h];exact⟨_,M⟩
    obtain⟨o,q⟩:=this;exact absurd (aWi.lt_size q) (d4 _)
 done:=by
  intro X G B J R i S s O H E I r st F;subst G B J;obtain⟨⟨c,d⟩,g⟩:=st;obtain⟨xs,m,vq⟩:=F;obtain⟨A,t,y,U⟩:=I.list m;have l1:=t.length;refine wpAny_pyNext_enum_end (I.ok.hd R) d g y.isList (by simp;lia) λL C=>⟨rfl,LP (t':=s.toks) I r λb ob a q=>?_⟩;simp only[cC,cP,or_false,not_or]at a;exact C b ob a.2 q
 self:=λ_ _ _ _ _ st h=>wpAny_pyIter_enum st.1.choose_spec h
section
variable {X:Cx}{a b e:aWp}{f:XO}{c i:FE}{j:FN}{pos p d:Pos}
variable{ay:Pos}
theorem RW{z:XO}{k:Nat}{t:TA}(N:Gl X "enumerate")(L:X.mg "enumerate"=none)(O:PA X [a] t)(K:aWd [a] X.env=[(false,aWq a X.env)]:=by rfl):
 PI X (.Tuple z k ay) (.Call (.Name "enumerate" p) [a] [] pos) (xw X.K t):=by
 intro x s r H R I h;refine Call_ (sJ I N L boot_enumerate (fA (aI (O pos x s r H _ I h) λY g ⟨vs,y,n,B,D⟩=>?_) (by rw[K];rfl) rfl));obtain⟨l,Q,⟨xs,C⟩,q⟩:=D;subst Q;obtain⟨u,rfl,A⟩:=B.one;cases A;obtain⟨G,Z,F,U⟩:=n.list C;refine call_enumerate_list F.isList λP v o J M=>wpAny_pyIter_enum v ?_;have S:Inv X x r y {g with heap:=P}:=n.kept (t':=g.toks) M;refine⟨g.heap.objs.size+1,[g.heap.objs.size+1,g.heap.objs.size],_,_,y,rfl,S,aId _ _ l (Nat.succ_ne_self _),⟨⟨_,v⟩,o⟩,λb w=>?_,q⟩;have m:g.heap.objs.size<=b:=by
  simp only[cC,cP,or_false]at w;rcases w with rfl|rfl
  .exact b8 _ _
  .exact bD _
 exact n.sj m (n.bz.fresh m)
theorem JF{h:XO}{k:Nat}{l:List Stmt}{g:FG}{F:FS}(q:X.mg "enumerate"=none)(t:X.calm=true)(r:QE X a c)(s:QG X (.Tuple h k ay) g)(u:tj X l F)(v:Gl X "enumerate":=by rfl)
 (m:aWd [a] X.env=[(false,aWq a X.env)]:=by rfl)(o:aWu (aWl X.prog X.w) X.A X.env X.xe:=by first|exact aWu.never|exact aWu.leaving|exact aWu.looking)
 (n:∀x,aWo (.Call (.Name "enumerate" p) [a] [] d) X.env x=pure x:=by intro _;rfl):QS X (.For (.Tuple h k ay) (.Call (.Name "enumerate" p) [a] [] d) l [] pos) (zJ c g F):=
 (Ec o t (RW v q (fJ r fR (by rw[m];rfl)) m) s u n).imp λ_ _ _=>OK
section
variable {h b4:XJ}{is:XG}{l:aXt}{m:List (Str×aWe)}{n:XO}{tk:Nat}{ay:Pos}{o:aWp}{q:XO}{r:FE}{g:FG}{s:FB}
end
end
section
variable {X:Cx}{o e:aWp}{c f:Pos}{g i:TE}{j l:FE}
theorem Td(ho:PE X o g)(he:PE X e i)(m:M1 X o "update" c e f):PE X (.Call (.Attribute o "update" c) [e] [] f) (wx g i):=by
 intro F s v H Q I h;refine wpAny_Call_method m.base m.lq m.line PySem.F.plainAttrs_dict PySem.F.slot_dict_update PySem.F.type_dict_update (aI (ho F s v H _ I h) λu M n=>?_);obtain⟨x,H1,G,O,a,ex,d,S⟩:=n;subst ex;obtain rfl:u=aWf.ref a:=O;obtain⟨K,J,_⟩:=Jg G d;refine⟨K,J,?_⟩;rw[m.trees];refine Calls.callWith_builtin rfl (Calls.evalArgs_plain (Calls.spliced_cons (aI (he F M v H1 _ G S) λE L n=>?_)));obtain⟨y,H2,t,N,b,U,more,ey,P,B,hb,A,R⟩:=n;refine Calls.spliced_nil ?_;subst ey;obtain rfl:E=aWf.ref b:=N;obtain⟨z,hd,vs,k,C⟩:=DS t.bz B;obtain⟨z',Z,p,w,Y⟩:=DS t.bz hb;refine call_meetsIn PySem.F.slot_dict_update C.typeIs PySem.F.entry_dict_update (PySem.F.args_dict_update_2 _ _) (meets_dict_update (j6 X.prog X.w) a b P Z)
  ⟨vs,p,C,Y,by rw[<-k.length,<-w.length];exact A,λh' D d2 hs=>⟨.aF,_,?_,rfl,R⟩⟩
 have r:∃q,h'.get? a=some q:=let ⟨q,_,_,r,_⟩:=D;⟨q,r⟩
 exact yK (t':=L.toks) t (by rw[B];exact True.intro) hs r (FZ (bB (pW _ _) A) hd (w.merge k) D)
theorem N7(a:QE X o j)(b:QE X e l)(m:M1 X o "update" c e f:=by exact⟨rfl,rfl,rfl,rfl⟩):QE X (.Call (.Attribute o "update" c) [e] [] f) (z9 j l):=(Td a b m).imp λ_ _ _=>Qb nC
end
theorem IA{c:Type}:∀(l:List c),(bH (l.length/2)).filterMap (λk=>l[1+2*k]?)=od l
 | []=>by simp[od]
 | [_]=>by simp[od]
 |a::b::r=>by
  have ih:=IA r;have e:(a::b::r).length/2=r.length/2+1:=by simp only[aN];lia
  rw[e,Zy,eG];simp only[Nat.mul_zero,aUt,cH,cD];unfold od;rw[aTH,<-ih];congr 1
theorem Jd{c:Type}:∀(l:List c),(od l).length<=l.length
 | []=>bD _
 | [_]=>dF _
 |a::b::r=>by
  have:=Jd r;unfold od;simp only[aN];exact cY (eB this)
theorem Tg(items:Array aWf):slicePick items (some 1) none (some 2)=(od items.toList).toArray:=by
 unfold slicePick;have c:aXf (some 1) none (some 2) items.size=(max 0 (min 1 (items.size:Int)),(items.size:Int),2):=rfl;rw[c];show((aYj (max 0 (min 1 (items.size:Int))) (items.size:Int) 2).filterMap (items[·]?)).toArray=_;congr 1;have b:aYj (max 0 (min 1 (items.size:Int))) (items.size:Int) 2=(bH (items.size/2)).map λk=>1+2*k:=by
  unfold aYj;by_cases h:items.size<2
  .have g:items.size/2=0:=by lia
   have a:¬(max 0 (min 1 (items.size:Int))<(items.size:Int)):=by lia
   simp only[show(2:Int)>0 by decide,if_true,a,if_false,g];rfl
  .have a:max 0 (min 1 (items.size:Int))=1:=by lia
   rw[a];have f:(1:Int)<(items.size:Int):=by lia
   have d:(((items.size:Int) - 1+2 - 1)/2).toNat=items.size/2:=by lia
   simp only[show(2:Int)>0 by decide,if_true,f,d];apply cU;intro k _;lia
 rw[b,aTH];have:=IA items.toList;rw[cF]at this;rw[<-this];congr 1;funext k;simp[Yg]
section
variable {X:Cx}{a e:aWp}{f:TE}{g:FE}{pos i c d:Pos}
def Fd(K:aL)(x:V)(H:Hp)(Q:VK):Prop:=∃a xs,x=.ref a/\cz K H a xs/\∀p,H p=none->Q (.ref p) (upd H p (.lst (od xs)))
theorem aA.od:∀{xs:Xy}{b:XI},aA xs b->aA (TL.od xs) (TL.od b)
 | [],_,h=>by cases h;exact .nil
 | [x],_,h=>by cases h with|cons _ t=>cases t;exact .nil
 |x::y::r,_,h=>by
  cases h with
  |cons k t=>
   cases t with
   |cons j t=>unfold TL.od;exact .cons j (aA.od t)
theorem Pm{j k}(U:PE X e f):PE X (.Subscript e (.Slice (some (.Constant (.int 1) j c)) none (some (.Constant (.int 2) k d)) i) pos) (λn H Q=>f n H λx A=>Fd X.K x A Q):=by
 intro p s n H Q I h;refine Subscript_ (aI (U p s n H _ I h) λv G t=>?_);obtain⟨x,A,I1,J,M⟩:=t;have Z:PE X (.Constant (.int 1) j c) (tC (.int 1)):=DX;have Y:PE X (.Constant (.int 2) k d) (tC (.int 2)):=DX;refine wpAny_Slice ?_;refine aI ((yA Z) p G n A (λo z=>o=some 1/\Fd X.K x z Q) I1 ⟨1,rfl,rfl,M⟩) λvl F t=>?_;obtain⟨o,z,I2,N,u,L⟩:=t;subst u;rw[evalPart_none];refine aWh ?_;refine aI ((yA Y) p F n z (λo y=>o=some 2/\Fd X.K x y Q) I2 ⟨2,rfl,rfl,L⟩) λB m t=>?_;obtain⟨o,y,E,D,u,K⟩:=t;subst u;obtain⟨l,xs,rfl,R,q⟩:=K;cases J;have w:Inv X p n y {m with heap:=m.heap.push {cls:=.type "slice",data:=.fields #[vl,.none,B]}}:=E.kept (t':=m.toks) λb ob q=>aWi.get?_push_of_some _ q;obtain⟨O,r,C,P⟩:=w.list R;have ag:=r.length;have S:aWj (aWl X.prog X.w) X.A (getItem (.ref l) (.ref m.heap.objs.size)) (EP X p n Q) X.xe {m with heap:=m.heap.push {cls:=.type "slice",data:=.fields #[vl,.none,B]}}:=by
  refine aYf C.isList (aWi.IsSliceOf.new ..) N .none D (by decide) ?_ (by rw[bF]<;>lia);rw[Tg];refine⟨.ref _,_,w.laid (t':=m.toks) (o:=.lst (od xs)) (λb ob q=>aWi.get?_push_of_some _ q) (bD _) ?_,rfl,q _ (w.bz.fresh (bD _))⟩;exact⟨bB (Jd _) P,_,0,aA.od r,aWi.get?_push_size _ rfl⟩
 show aWj (aWl X.prog X.w) X.A (aYg e _ (.ref l) (.ref m.heap.objs.size)) (EP X p n Q) X.xe _;exact tail_any (ops:=[.ref l,.ref m.heap.objs.size]) C.isList.typeIs aYd.lookup S (by with_unfolding_all rfl)
theorem Oo{j k}(b:QE X a g):QN X (.Subscript a (.Slice (some (.Constant (.int 1) j c)) none (some (.Constant (.int 2) k d)) i) pos) (AR g):=(Pm b).imp λ_ _ _=>Oa
end
section
variable {X:Cx}{d:List (aWe×Obj)}{f:L2.St}{H:Hp}{s:aWg}{a:aWe}{ob:Obj}
theorem Ts{kvs:List (List Key×V)}(I:L2.Inv X d f H s)(h:H a=some (.dT kvs))(y:s.heap.get? a=some ob):L2.Inv X d f (upd H a (.ft ob (.dT kvs))) s:=by
 have g:∀b,H b=none->b≠a:=λb n z=>by rw[z,h]at n;cases n
 refine⟨I.ok,I.os,I.bare,⟨I.base.keep,I.base.slot,λb o q n t=>by have e:=I.base.free b o q n t;rw[gJ (g b e)];exact e,I.base.there,λb xs q=>?_,λb o u q=>?_,λb k q=>?_⟩,I.loc,I.cell,by rw[gJ (g _ I.free)];exact I.free,λx c q=>by rw[gJ (g _ (I.dv x c q))];exact I.dv x c q,λp w=>?_,λb o q=>?_,I.len⟩
 .have e:=I.base.ki b xs q;rw[gJ (pQ e h (λz=>nomatch z))];exact e
 .have e:=I.base.jj b o u q;rw[gJ (pQ e h (λz=>nomatch z))];exact e
 .obtain⟨m,e⟩:=I.base.kj b k q;exact⟨m,by rw[gJ (pQ e h (λz=>nomatch z))];exact e⟩
 .obtain⟨r,i,l⟩:=I.pin p w;exact⟨r,by rw[gJ (g _ i)];exact i,l⟩
 .by_cases j:b=a
  .subst j;rw[kD]at q;cases q;exact⟨y,(I.bz b _ h).ig (λc v _ q=>q) (λc q=>by rw[gJ (pQ q h (λz=>nomatch z))];exact q) λc xs q=>by rw[gJ (pQ q h (λz=>nomatch z))];exact q⟩
  .rw[gJ j]at q;exact(I.bz b o q).ig (λc v _ q=>q) (λc q=>by rw[gJ (pQ q h (λz=>nomatch z))];exact q) λc xs q=>by rw[gJ (pQ q h (λz=>nomatch z))];exact q
theorem TC{u:HO}(I:L2.Inv X d f H s)(h:H a=some (.ft ob u))(y:∀o v,X.aG a≠some (.ft o v)):L2.Inv X d f (upd H a u) s:=by
 have g:∀b,H b=none->b≠a:=λb n z=>by rw[z,h]at n;cases n
 refine⟨I.ok,I.os,I.bare,⟨I.base.keep,I.base.slot,λb o q n t=>by have e:=I.base.free b o q n t;rw[gJ (g b e)];exact e,I.base.there,λb xs q=>?_,λb o u q=>?_,λb k q=>?_⟩,I.loc,I.cell,by rw[gJ (g _ I.free)];exact I.free,λx c q=>by rw[gJ (g _ (I.dv x c q))];exact I.dv x c q,λp w=>?_,λb o q=>?_,I.len⟩
 .have e:=I.base.ki b xs q;rw[gJ (pQ e h (λz=>nomatch z))];exact e
 .have e:=I.base.jj b o u q;rw[gJ (by rintro rfl;exact y _ _ q)];exact e
 .obtain⟨m,e⟩:=I.base.kj b k q;exact⟨m,by rw[gJ (pQ e h (λz=>nomatch z))];exact e⟩
 .obtain⟨r,i,l⟩:=I.pin p w;exact⟨r,by rw[gJ (g _ i)];exact i,l⟩
 .by_cases j:b=a
  .subst j;rw[kD]at q;cases q;exact((I.bz b _ h).2).ig (λc v _ q=>q) (λc q=>by rw[gJ (pQ q h (λz=>nomatch z))];exact q) λc xs q=>by rw[gJ (pQ q h (λz=>nomatch z))];exact q
  .rw[gJ j]at q;exact(I.bz b o q).ig (λc v _ q=>q) (λc q=>by rw[gJ (pQ q h (λz=>nomatch z))];exact q) λc xs q=>by rw[gJ (pQ q h (λz=>nomatch z))];exact q
end
section
variable {P:aWm}{w:aWr}{A:aWn}{E:XN}{s:aWg}{d a:aWe}{o:Obj}{b:Array DictEntry}{c i:Nat}
variable{Q:XM->aWg->Prop}
theorem UX{Q:XN}(k:(d==aXe)=false)(f:s.heap.get? d=some o)(j:o.ExactDict)(h:o.data=.dict b c)
 (l:Q (.ref s.heap.objs.size) {s with heap:=s.heap.push {cls:=.type "dict_keyiterator",data:=.fields #[.ref d,.int 0 0,.int b.size 0,.int c 0]}}):aWj (aWl P w) A (pyIter (.ref d)) Q E s:=by
 have g:s.TypeIs (.ref d) "dict":=⟨o,f,j.1⟩;refine wpAny_pyIter_slot g F.slot_dict_iter (aYh F.slot_dict_iter g F.entry_dict_iter ?_ (F.args_dict_iter_1 _));unfold aWt.«dict.__iter__»;refine aWb ?_;unfold aWt.Dict.dictSlotNone;refine aWb (wpAny_notOrdered_dict g ?_);show aWj _ _ (pure (aWf.ref d)) _ _ s;refine aWh ?_;show aWj _ _ (aWt.Dict.showsAll d>>=_) _ _ s;unfold aWt.Dict.showsAll;rw[aWa (by rw[k];exact bQ)];refine aWb (aWh ?_);refine aWb (wpAny_dictEntries f h (aWb (wpAny_dictEpoch f h ?_)));refine aWb (aXr (aWh ⟨_,rfl,"dict_keyiterator",_,⟨_,aWi.get?_push_size _ rfl,rfl⟩,F.slot_dict_keyiterator_next.lookup,?_⟩));simpa[rawInt]using l
theorem SB{e:DictEntry}(f:s.heap.IsKeyIter a d i b.size c)(l:s.heap.get? d=some o)(m:o.data=.dict b c)(n:b[i]?=some e)
 (q:∀j,j.IsKeyIter a d (i+1) b.size c->aWi.SameBut a s.heap j->Q (some e.key) {s with heap:=j}):aWj (aWl P w) A (pyNext (.ref a)) Q E s:=by
 obtain⟨r,h,p,g⟩:=id f;unfold pyNext;refine aWb (wpAny_attempt (wpAny_callSpecial?_slot (name:=Str.ofString "__next__") f.typeIs F.slot_dict_keyiterator_next (aYh F.slot_dict_keyiterator_next f.typeIs F.entry_dict_keyiterator_next ?_ (F.args_dict_keyiterator_next_1 _))));refine aWb (aWh (aWb (aWb ?_)));first|refine aWb (aXi f.typeIs (aWh (aWb (wpAny_fieldsOf h g ?_))))|refine aWb (aXo f.typeIs (aWh (aWb (wpAny_fieldsOf h g ?_))))
 simp only[show aWt.Dict_items.ownsTuple "dict_keyiterator"=false by decide,cM,if_false];show aWj _ _ (if(aWf.ref d==aWf.none)=true then _ else _) _ _ s;rw[aWa (show¬((aWf.ref d==aWf.none)=true)from bQ)];refine aWb (aWh (aWb (wpAny_dictEntries l m ?_)));rw[aWa (by simp)];refine aWb (aWh (aWb (wpAny_dictEpoch l m ?_)));rw[aWa (by simp)];refine aWh ?_;simp only[show¬((i:Int)<0)from i8 (bN i),if_false,cJ,n];refine aWb ?_;first|refine aWb (aXi f.typeIs (aWh (aWb (aYo f.typeIs ?_))))|refine aWb (aXo f.typeIs (aWh (aWb (aYo f.typeIs ?_))))
 show aWj _ _ (setField (.ref a) 1 (rawInt ((i:Int)+1))>>=_) _ _ s;refine aWb (wpAny_setField h g (by simp) ?_);have k:(s.heap.update a (Obj.mapFields (·.setIfInBounds 1 (rawInt ((i:Int)+1))))).IsKeyIter a d (i+1) b.size c:=⟨_,aWi.get?_update_self _ h (Obj.isFreed_of_fields (Obj.data_mapFields g _)),(Obj.cls_mapFields ..).trans p,by rw[Obj.data_mapFields g];simp[rawInt]⟩;refine aWb (aWv (aWb (aYo (s:={s with heap:=s.heap.update a (Obj.mapFields (·.setIfInBounds 1 (rawInt ((i:Int)+1))))}) k.typeIs ?_)));show aWj _ _ (pure e.key) _ _ _;exact aWh (aWh ⟨_,rfl,aWh (q _ k (aWi.SameBut.update ..))⟩)
theorem Uh(m:A.handled=none)(f:s.heap.IsKeyIter a d i b.size c)(j:s.heap.get? d=some o)(l:o.data=.dict b c)(n:b[i]?=none)
 (p:∀k,aWi.ExtBut a s.heap k->Q none {s with heap:=k}):aWj (aWl P w) A (pyNext (.ref a)) Q E s:=by
 obtain⟨q,g,r,h⟩:=id f;unfold pyNext;refine aWb (wpAny_attempt (wpAny_callSpecial?_slot (name:=Str.ofString "__next__") f.typeIs F.slot_dict_keyiterator_next (aYh F.slot_dict_keyiterator_next f.typeIs F.entry_dict_keyiterator_next ?_ (F.args_dict_keyiterator_next_1 _))));refine aWb (aWh (aWb (aWb ?_)));first|refine aWb (aXi f.typeIs (aWh (aWb (wpAny_fieldsOf g h ?_))))|refine aWb (aXo f.typeIs (aWh (aWb (wpAny_fieldsOf g h ?_))))
 simp only[show aWt.Dict_items.ownsTuple "dict_keyiterator"=false by decide,cM,if_false];show aWj _ _ (if(aWf.ref d==aWf.none)=true then _ else _) _ _ s;rw[aWa (show¬((aWf.ref d==aWf.none)=true)from bQ)];refine aWb (aWh (aWb (wpAny_dictEntries j l ?_)));rw[aWa (by simp)];refine aWb (aWh (aWb (wpAny_dictEpoch j l ?_)));rw[aWa (by simp)];refine aWh ?_;simp only[show¬((i:Int)<0)from i8 (bN i),if_false,cJ,n];refine aWb ?_;first|refine aWb (aXi f.typeIs (aWh ?_))|refine aWb (aXo f.typeIs (aWh ?_))
 show aWj _ _ (setField (.ref a) 0 .none>>=_) _ _ s;refine aWb (wpAny_setField g h (by simp) ?_);show aWj _ _ (newExc (.type "StopIteration") []>>=_) _ _ _;refine aWb ?_;simp only[newExc,newTuple];refine aWb (aXr (aWb (m:=firstArgMember _ _) (wpAny_of_eq (a:=aWf.none) (by first|rfl| (simp only[firstArgMember];rfl)) ?_)) (by size_fits));refine aXr ?_ (by size_fits);simp only[raiseNew];refine aWb (wpAny_handled ?_);rw[show A.in1.handled=none from m];refine aWb (aWh (wpAny_throw ?_));refine aWb (wpAny_isInstance (T:="StopIteration") (b:=true) ⟨_,aWi.get?_push_size _ rfl,rfl⟩ isSubtype_stop ?_);exact aWh (p _ (((aWi.SameBut.update ..).extBut.push _).push _))
end
theorem Mg{d c:Type}{F:d->c->Prop}:∀{b:List d}{a:List c},Paired F b a->∀(i:Nat)(g:i<b.length)(f:i<a.length),F b[i] a[i]
 |_,_,.cons h _,0,_,_=>h
 |_,_,.cons _ t,i+1,g,f=>Mg t i (by simpa using g) (by simpa using f)
theorem VD{P:aWm}{w:aWr}{K:aL}{U:aWp}{a f:aWe}{ob:Obj}{q:Array DictEntry}{N:Nat}{kvs:List (List Key×V)}(hx:ob.ExactDict)(G:ob.data=.dict q N)(hl:q.size=kvs.length):
 Turn P w K U (Hb a ob kvs) [f] f (λi h=>h.IsKeyIter f a i q.size N) where
 mem:=by simp
 obj:=λi h st b g=>by
  have e:b=f:=by simpa using g
  subst e;obtain⟨o,e,c,d⟩:=st;exact⟨o,e,λv z=>by rw[d]at z;cases z⟩
 keep:=λi h p st k=>st.at λo e=>k f (by simp) o e
 item:=by
  intro X x r y M i S s J H E I n st u;subst x r y;obtain⟨A,l⟩:=u;obtain⟨m,_,_,xs,j,o2,es2,ep2,Q,e2,O,e4,e5⟩:=(show k6 X.prog X.w H s.heap a (.ft ob (.dT kvs))from I.bz a _ A);rw[m]at Q;cases Q;rw[G]at O;cases O;obtain⟨F,f1,f2,D,C,B⟩:=n f (by simp);have t:xs.length=kvs.length:=(Paired.length j).symm;have L:i<xs.length:=by rw[t];exact l
  have oa:q[i]?=some (entryOfKey (aYi (j6 X.prog X.w)) xs[i]):=by
   rw[<-Array.getElem?_toList,e4,bI,aO L];rfl
  refine SB st m G oa λp R Y=>?_;have I1:L2.Inv X S J H {s with heap:=p}:=I.turned (t':=s.toks) (λb o g e=>(Y.2 b g).trans e) F f1 D C B;obtain⟨o,e,c,d⟩:=id R;obtain⟨r1,Z,r3⟩:=Mg j i l L;refine⟨_,rfl,FC (s:={s with heap:=p}) e c d (by decide) ⟨.ref xs[i].2.1,H,I1,rfl,⟨rfl,xs[i].2.1,kvs[i].1,kvs[i].2,rfl,aO l,Z⟩,R,λb g=>(n b g).1⟩⟩
 done:=by
  intro X x r y M i S s J H E I n st u;subst x r y;obtain⟨A,l⟩:=u;have m:=(show k6 X.prog X.w H s.heap a (.ft ob (.dT kvs))from I.bz a _ A).1;obtain⟨F,f1,f2,D,C,B⟩:=n f (by simp);exact Uh (I.ok.hd M) st m G (by simp;exact bB (bZ hl) l) λp eb=>⟨rfl,I.turned (t':=s.toks) (λb o g e=>eb b o g e) F f1 D C B⟩
 self:=λ_ _ _ _ _ st h=>wpAny_pyIter_keyiter st h
section
variable {X:Cx}{iter:aWp}{c:FE}{p pos d:Pos}
abbrev AF(X:Cx)(a:aWe):Prop:=∀o v,X.aG a≠some (.ft o v)
theorem Qz{B l:aWp}{tl:TE}(F:PE X l tl):PI X B l (xS (AF X) tl):=by
 intro w s n H R I h;refine aI (F w s n H _ I h) λv f A=>?_;obtain⟨x,y,g,C,D⟩:=A;obtain⟨a,kvs,e,k,q⟩:=D;subst e;cases C;obtain⟨_,G,xs,i,o,r,K,m,u,t,L,N⟩:=(show k6 X.prog X.w y f.heap a (.dT kvs)from g.bz a _ k);have hB:AF X a:=λo v z=>by
  have:=g.base.jj a o v z;rw[k]at this;cases this
 have j:r.size=kvs.length:=by rw[<-cF,L,aP];exact(Paired.length i).symm
 have M:L2.Inv X w n y {f with heap:=f.heap.push {cls:=.type "dict_keyiterator",data:=.fields #[.ref a,.int 0 0,.int r.size 0,.int K 0]}}:=g.kept (t':=f.toks) λb o e=>aWi.get?_push_of_some _ e;refine UX G m u t ⟨f.heap.objs.size,[f.heap.objs.size],_,_,_,rfl,Ts M k (aWi.get?_push_of_some _ m),VD (a:=a) (kvs:=kvs) u t j,⟨_,aWi.get?_push_size _ rfl,rfl,rfl⟩,λb J=>?_,q hB o⟩;have e:b=f.heap.objs.size:=by simpa using J
 subst e;refine g.sj (bD _) ?_;rw[gJ (Ne.symm (bW (aWi.lt_size m)))];exact g.bz.fresh (bD _)
section
variable {b b4:XJ}{is:XG}{f:aXt}{i:List (Str×aWe)}{j l:aWp}{m:XO}{n:FE}{g:FG}{o:FB}
theorem RI(L:X.calm=true)(k:n9 X b b4 is f i)(M:QE X iter c)(F:mz b.length g)(G:∀C t z y,QG (iN X (b++b4) f i C t z y) j g)(B:∀C t z y,ue (iN X (b++b4) f i C t z y) m o)
 (K:∀C t z y,QE (iN X (b++b4) f i C t z y) l n)(D:∀x,aWo iter X.env x=pure x:=by intro _;rfl):
 QN X (.ListComp l [⟨j,iter,m,0⟩] f pos) (wG c b.length is g o n):=by
 intro N s e H Q I h;refine aI (yN L k (Qz M) G B K D N s e H _ I (Rz (B:=AF X) F h)) λu P A=>?_;obtain⟨v,R,O,r,a,ob,w,hB,J,q⟩:=A;exact⟨v,_,TC O J hB,r,q⟩
end
end
theorem Vd:∀{c:XE},c≠[]->wW c∈c/\∀a∈c,wW c<=a:=by
 have key:∀(c:XE)(n:Int),(c.foldl (λa b=>if b<a then b else a) n=n\/c.foldl (λa b=>if b<a then b else a) n∈c)/\c.foldl (λa b=>if b<a then b else a) n<=n/\∀a∈c,c.foldl (λa b=>if b<a then b else a) n<=a:=by
  intro c;induction c with
  |nil=>intro n;exact⟨.inl rfl,bK _,λa h=>nomatch h⟩
  |cons m c ih=>
   intro n;rw[Zi];obtain⟨h1,f,g⟩:=ih (if m<n then m else n);by_cases i:m<n
   .rw[aWc i]at h1 f g|-;refine⟨?_,bU (bC f i),λa d=>?_⟩
    .rcases h1 with h1|h1
     .rw[h1];simp
     .exact .inr (bA _ h1)
    .rcases fU d with rfl|d
     .exact f
     .exact g a d
   .rw[aWa i]at h1 f g|-;refine⟨?_,f,λa d=>?_⟩
    .rcases h1 with h1|h1
     .exact .inl h1
     .exact .inr (bA _ h1)
    .rcases fU d with rfl|d
     .exact bG f (gT i)
     .exact g a d
 intro c j;cases c with
 |nil=>exact absurd rfl j
 |cons n c=>
  obtain⟨h1,f,g⟩:=key c n;refine⟨?_,λa d=>?_⟩
  .rcases h1 with h1|h1
   .show Zk (λa b=>if b<a then b else a) n c∈n::c;rw[h1];simp
   .exact bA _ h1
  .rcases fU d with rfl|d
   .exact f
   .exact g a d
section
variable {X:Cx}{e:aWp}{a:XO}{b:FN}{p pos:Pos}
theorem Ve(J:X.calm=true):pG X (.builtin "min") (CH X.K (λd=> !d.isEmpty) wW):=by
 intro E s R H xs S Q I r h;obtain⟨p,d,rfl,F,P,q⟩:=h;obtain⟨u,rfl,B⟩:=vals1 r;cases B;obtain⟨f,A,C,U⟩:=I.list F;have y:=qW A;have o:d≠[]:=by rintro rfl;simp at P
 obtain⟨c,w⟩:=y.allInts.items;have O:s.heap.IsList p (aXy c):=w ▸ C.isList;have k:d=c.toList.map (·.1):=by
  rw[<-nums_intItems,<-w];exact(show numsOf f.toArray.toList=d from y.numsOf).symm
 have g:0<c.size:=by
  have z:0<d.length:=j3 o;rw[k,aP,cF]at z;exact z
 refine min_intList (I.ok.hd J) O g λv Z tk D G=>?_;obtain⟨t,rfl⟩:=intItems_at D;obtain⟨Y,L⟩:=argBest_lt (aXu c) (c.size - 1);obtain⟨n,m⟩:=Vd o;obtain⟨M,K⟩:∃M,M=wW d:=⟨_,rfl⟩;rw[<-K]at n m q;have e:aXu c (aXv (λi j=>decide (aXu c i<aXu c j)) (c.size - 1))=M:=by
  apply cA
  .have l:=n;rw[k]at l;obtain⟨j,x,N⟩:=mem_getD l;rw[aP,cF]at x;rw[<-N,<-numAt_eq];exact L j (Yx (bS x))
  .refine m _ ?_;rw[k,numAt_eq];exact getD_mem (by rw[aP,cF];lia)
 exact⟨.int M,H,I.kept G,⟨_,by rw[e]⟩,q⟩
theorem Ji(c:X.mg "min"=none)(g:X.calm=true)(h:QA X (e::a) b)(d:Gl X "min":=by rfl)(f:aWd (e::a) X.env=(false,aWq e X.env)::aWd a X.env:=by rfl)(i:(aWs pos (aWd a X.env)).any (·.1)=false:=by rfl):
 QE X (.Call (.Name "min" p) (e::a) [] pos) (FF b):=Aq (Ve g) (λ_ _ _ _=>Ge) boot_min c d h (by decide) (by decide) f i
end
theorem oC{X:Cx}{pos:Pos}{x:Str}{i:Int}(a:∃t,X.mg x=some (.int i t))(b:Gl X x:=by rfl)(c:(x==("__debug__":Str))=false:=by decide):QE X (.Name x pos) (fC (.int i)):=by
 obtain⟨t,a⟩:=a;exact(Ra b a (v:=.int i) ⟨t,rfl⟩ c).imp λ_ _ _=>Dp λ_ _=>.int
structure Cs(K:aL)(x qual:Str)(st:Stmt)(f:aWe)(fd:aXh)(dV:aWf):Prop where
 ex:∃(oc:aWf)(od:Option aWe)(kV doc pm:aWf)(an:Option aWe)(bc ct:aWf)(gk:Array XM),
  fd=dM x qual (lE st) (kG st) (iL st) dV kV doc pm an bc ct/\K.lookup f=some ⟨oc,od,.func fd,gk⟩/\X1 K bc qual=true
section
variable {P:aWm}{w:aWr}{K:aL}{a:Str->XM}{b:aWi}
variable{d:Str}{st:Stmt}{fd:aXh}{g oc:aWf}{ps:XJ}{od:Option aWe}{i:Array XM}
theorem Cs.ok{x:Str}{f:aWe}{N:XJ}{k:Nat}{l:Sp}(F:Cs K x d st f fd g)(S:tL N ps (iL st))(len:∀vs H Q E,l vs H Q E->vs.length=ps.length)
 (p:∀(j:aWf)(A:aWn)(c:List Env)(s:aWg)(H:Hp)(vs:Xy)(Q:VK)(E:XK),cc k (A.deeper (envOfC d (iL st) s.heap.objs.size f j))->l vs H Q E->
  ∃t,km (vg ku P w K a b N d (iL st) f j A c s H E).xr (kG st) t/\t {nx:=λ_ u=>Q .aF u,rt:=Q} (start N vs) H):pK P w K a b ku (k+1) f fd ps l:=by
 obtain⟨oc,od,kV,r,v,z,j,y,i,e,lk,m⟩:=F.ex;subst e;refine Ik lk m S len λA c s H vs Q E n o=>?_;obtain⟨t,h,q⟩:=p j A c s H vs Q E n o;exact⟨t,h.xr,q⟩
theorem Q0{x:Str}{f:aWe}{n:Option aWe}{kV h k j m:aWf}(l:K.lookup f=some ⟨oc,od,.func (dM x d (lE st) (kG st) (iL st) g kV h k n j m),i⟩)
 (c:X1 K j d=true):Cs K x d st f (dM x d (lE st) (kG st) (iL st) g kV h k n j m) g:=⟨⟨oc,od,kV,h,k,n,j,m,i,rfl,l,c⟩⟩
theorem V3(m:Nat){T:aWe}{f:Array aWf}{n:Nat}{ds:XI}(o:fd.defaults=.ref T)(lk:K.lookup T=some ⟨oc,od,.seq f n,i⟩)
 (r:m+ds.length=ps.length)(h:∀c:XI,c.length=m->∃k:Option (Array aWf)->Sem (List (Str×aWf)),bindArgs fd ⟨c,[]⟩=seqItems? fd.defaults>>=k/\k (some f)=pure (ps.zip (c++ds))):Binds K fd ps ds:=λs c l j=>by
 obtain⟨k,q,p⟩:=h c (by rw[aY]at j;lia);exact .of_defaults o (l T _ lk) rfl q p
end
theorem jS.of{K:aL}{a:String}{f:Str}{C:aWe}(e:cE K aWk (Str.ofString a)=some (some (.ref C)))(c:oe K C)(n:qM K C f):jS K a f:=λb h=>by
 rw[e]at h;cases h;exact⟨c,n⟩
section
variable {P:aWm}{w:aWr}{K:aL}{d:Str->XM}{m h:aWi}{f:aWe}{fd:aXh}{x g:Str}{t:Stmt}{N ps:XJ}{k n:Nat}{p:Sp}{B:FS}{q:String}{C:aWe}
variable{oc kV I r u v:aWf}{od D:Option aWe}{sl:Array XM}{Q:XI->Prop}
abbrev hB(K:aL)(N:XJ)(p:Sp)(B:FS):Prop:=∀{W:XW}{vs:Xy}{H:Hp}{Q:VK}{E:XK},p vs H Q E->ep K W B {nx:=λ_ a=>Q .aF a,rt:=Q} (vs.map some++aT (N.length - vs.length) none) H
abbrev hY(P:aWm)(w:aWr)(K:aL)(d:Str->XM)(m:aWi)(N:XJ)(g:Str)(t:Stmt)(f:aWe)(k:Nat)(B:FS):Prop:=∀{b:aWf}{A:aWn}{a:List Env}{s:aWg}{H:Hp}{E:XK},N.Nodup->cc k (A.deeper (envOfC g (iL t) s.heap.objs.size f b))->
 km (vg ku P w K d m N g (iL t) f b A a s H E).xr (kG t) (ep K (gw (Cx.xr (vg ku P w K d m N g (iL t) f b A a s H E))) B)
theorem dh(F:vu K x g t f fd)(len:∀vs H Q E,p vs H Q E->vs.length=ps.length)(b:hB K N p B)(y:hY P w K d m N g t f k B)(S:tL N ps (iL t):=by exact⟨rfl,rfl,rfl,by decide+kernel,rfl,by decide+kernel,by decide+kernel⟩):pK P w K d m ku (k+1) f fd ps p:=
 F.ok S len λi A a s H vs Q E c z=>⟨_,y S.nd c,b z⟩
theorem MV{i:aWf}(F:Cs K x g t f fd i)(len:∀vs H Q E,p vs H Q E->vs.length=ps.length)(b:hB K N p B)(y:hY P w K d m N g t f k B)(S:tL N ps (iL t):=by exact⟨rfl,rfl,rfl,by decide+kernel,rfl,by decide+kernel,by decide+kernel⟩):pK P w K d m ku (k+1) f fd ps p:=
 F.ok S len λj A a s H vs Q E c z=>⟨_,y S.nd c,b z⟩
theorem bw{A:aWn}{j:Nat}(a:cc k A)(h:j<=k:=by decide):cc j A:=a.mono h
structure Nm(K:aL)(x:Str)(t:Stmt):Prop where
 ex:∃f fd,cE K aWk x=some (some (.ref f))/\vu K x x t f fd
theorem Nm.of(a:cE K aWk x=some (some (.ref f)))(l:K.lookup f=some ⟨oc,od,.func (dM x x (lE t) (kG t) (iL t) .none kV I r D u v),sl⟩)
 (c:X1 K u x=true)(k:dQ K (.ref f)=true):Nm K x t:=⟨_,_,a,Gh l c k⟩
structure Cm(K:aL)(q:String)(C:aWe):Prop where
 e:cE K aWk (Str.ofString q)=some (some (.ref C))
 c:oe K C
 mi:ZP K C=true
 kp:dQ K (.ref C)=true
structure Mm(K:aL)(C:aWe)(x g:Str)(t:Stmt):Prop where
 ex:∃f fd,cS K (.ref C) x=some (some (.ref f))/\Yw K (.ref f)=true/\vu K x g t f fd
theorem Mm.of(a:cS K (.ref C) x=some (some (.ref f)))(l:K.lookup f=some ⟨oc,od,.func (dM x g (lE t) (kG t) (iL t) .none kV I r D u v),sl⟩)
 (c:X1 K u g=true)(k:dQ K (.ref f)=true)(n:Yw K (.ref f)=true):Mm K C x g t:=⟨_,_,a,n,Gh l c k⟩
theorem r4(h:∀a,Q [a]):∀b:XI,b.length=1->Q b
 | [a],_=>h a
theorem t5{n:Nat}(h:∀a b,b.length=n->Q (a::b)):∀b:XI,b.length=n+1->Q b
 |a::b,e=>h a b (Nat.succ.inj e)
abbrev Bd(x g:Str)(t:Stmt)(ps:XJ):Prop:=∀(kV b r:aWf)(D:Option aWe)(c v:aWf)(a:XI),a.length=ps.length->bindArgs (dM x g (lE t) (kG t) (iL t) .none kV b r D c v) ⟨a,[]⟩=pure (ps.zip a)
abbrev Ky(P:aWm)(w:aWr)(K:aL)(d:Str->XM)(m:aWi)(x g:Str)(t:Stmt)(ps:XJ)(k:Nat)(p:Sp):Prop:=∀{f:aWe}{fd:aXh},vu K x g t f fd->pK P w K d m ku k f fd ps p
section
variable (X:K.In h)(G:h.Ns aWk d)
include X G
variable{R:Xw->ab->Option (T×ab)}
theorem Nm.df(a:Nm K x t)(o:Ky P w K d m x x t ps k p)(b:Bd x x t ps):∃f fd ps,pK P w K d m ku k f fd ps p/\d x=some (.ref f)/\dQ K (.ref f)=true/\Binds K fd ps []:=
 let ⟨f,fd,a,F⟩:=a.ex
 ⟨f,fd,ps,o F,Yv X G a,F.kp,F.binds b⟩
theorem M4{R:Xw->Xx}(a:Nm K x t)(o:Ky P w K d m x x t ps k (spT K n R))(b:Bd x x t ps:=by walk_at "bq"):kO P w K d m k x n R:=⟨a.df X G o b⟩
theorem EF{R:Xw->Option (T×ab)}(a:Nm K x t)(o:Ky P w K d m x x t ps k (ym K n R))(b:Bd x x t ps:=by walk_at "bq"):DH P w K d m k x n R:=⟨a.df X G o b⟩
theorem M5(a:Nm K x t)(o:Ky P w K d m x x t ps k (spS K n R))(b:Bd x x t ps:=by walk_at "bq"):xW P w K d m k x n R:=⟨a.df X G o b⟩
theorem M6(c:Cm K q C)(a:Mm K C "__init__" g t)(o:Ky P w K d m "__init__" g t ps k (spS K n R))(b:Bd "__init__" g t ps:=by walk_at "bq"):A6 P w K d m k q n R [] []:=
 let ⟨f,fd,a,i,F⟩:=a.ex
 ⟨⟨C,f,fd,ps,[],c.e,Yv X G c.e,⟨c.mi,a,i,c.kp⟩,o F,F.binds b,.nil⟩,λ_ _=>.nil⟩
end
theorem EG{R:Xw->ab->Option (T×ab)}(c:Cm K q C)(a:Mm K C x g t)(o:Ky P w K d m x g t ps k (spS K n R))(b:Bd x g t ps:=by walk_at "bq"):p5 P w K d m k q x n R:=
 let ⟨f,fd,a,i,F⟩:=a.ex
 ⟨C,f,fd,ps,c.e,c.c,⟨a,i,F.kp⟩,o F,F.binds b⟩
end
section
variable {X:Cx}{e:aWp}{a:FE}{pos:Pos}
theorem UE{x:Str}{l:Pos}(g:X.N.Nodup)(i:Nat)(f:QE X e a)(c:X.N[i]?=some x:=by rfl)(b:Loc X.env.scope x:=by first|exact YE rfl|exact Yq rfl)(d:X.fn x=true\/X.env.scope.names.lookup x=some .local:=by first|exact .inl rfl|exact .inr rfl):
 QS X (.AugAssign (.Name x l) .Add e pos) (gW (kA (kI i) a (gI λi j=>.int (i+j))) (gN i)):=(Qj g c b f Js d).imp λ_ _ _ h=>by
 obtain⟨v,k,q⟩:=Ig (xO (λ_ _ _ _ _=>xp (g:=λi j=>.int (i+j)) λ_ _ _ _=>.int) (jM (CB h) λ_ _ q=>z5 q));exact⟨v,k,q⟩
end
end TL
namespace TL
open PySem L2
end TL
namespace TL
open PySem PySem.Spec PyProof.Rows L2
section
variable {X:Cx}{a b:aWp}{c:FN}{pos:Pos}
end
end TL
namespace TL
open PySem L2
section
variable {K:aL}{W:XW}{H:Hp}{a:L2.St}{D:Ends}
end
end TL
namespace TL
open PySem PySem.Spec PyProof.Rows L2
section
variable {X:Cx}{a b:aWp}{c d:FE}{pos p f:Pos}
end
end TL
namespace TL
open PySem L2
noncomputable def sN{b:Type}(xs:List b)(lo a:Option Int):List b:=(aYj (aXf lo a (some 2) xs.length).1 (aXf lo a (some 2) xs.length).2.1 (aXf lo a (some 2) xs.length).2.2).filterMap (xs[·]?)
theorem To{a c:Type}{f:a->c}{xs:List a}{lo b:Option Int}:sN (xs.map f) lo b=(sN xs lo b).map f:=by
 unfold sN;rw[aP,List.map_filterMap];congr 1;funext k;rw[bI]
def A0(f:FE)(lo c:FO):FN:=λa C=>(f a C).bind λp=>(lo a p.2).bind λl=>(c a l.2).bind λu=>(dm u.2 p.1).map λb=>(sN b l.1 u.1,u.2)
section
variable {K:aL}{M:Hp}{b:cn}{H:Hp}{c:L2.St}{Q:VK}
theorem aB.pick{d:Xw}{vs:Xy}(h:aB K M b d vs):∀a:XG,aB K M b (a.filterMap (d[·]?)) (a.filterMap (vs[·]?))
 | []=>aB.nil
 |k::a=>by
  rw[eG,eG];cases e:d[k]?with
  |none=>
   have:vs[k]?=none:=dJ (by rw[h.length];exact aS7.mp e);rw[this];exact h.pick a
  |some t=>
   obtain⟨v,f,r⟩:=h.get e;rw[f];exact .cons r (h.pick a)
def E5(K:aL):V->Option Int->Option Int->Hp->VK->Prop:=λx lo d H Q=>∃a xs,x=.ref a/\cz K H a xs/\∀p,H p=none->Q (.ref p) (upd H p (.lst (sN xs lo d)))
theorem NH{f:FE}{lo m:FO}(h:kv K (A0 f lo m) c H Q):Df (E5 K) (bg K f) (zg K lo) (zg K m) c H Q:=by
 obtain⟨d,Z,b,g,C,P,Y,R,e,k⟩:=h;unfold A0 at e;obtain⟨⟨t,s⟩,F,e⟩:=fE e;obtain⟨⟨l,o⟩,D,e⟩:=fE e;obtain⟨⟨u,X⟩,B,e⟩:=fE e;obtain⟨O,A,e⟩:=fG e;cases e;refine⟨d,Z,b,g,C,t,s,R,F,λv U J L y w=>?_⟩;refine⟨d,Z,J,g,s,l,o,L,D,λS I R2 j=>?_⟩;refine⟨d,Z,I,g,o,u,_,R2,B,λN G n i=>?_⟩;obtain⟨a,vs,z,q,r⟩:=n.li ((y.step j).step i) A;refine⟨a,vs,z,q,λp x=>k p N G _ n x ?_ ((w.trans j).trans i)⟩;unfold sN;rw[r.length];exact r.pick _
end
end TL
namespace TL
open PySem PySem.Spec PyProof.Rows L2
theorem aA.pick{xs:Xy}{us:XI}(h:aA xs us):∀a:XG,aA (a.filterMap (xs[·]?)) (a.filterMap (us[·]?))
 | []=>.nil
 |k::a=>by
  rw[eG,eG];cases e:xs[k]?with
  |none=>
   have:us[k]?=none:=dJ (by rw[<-h.length];exact aS7.mp e);rw[this];exact aA.pick h a
  |some t=>
   obtain⟨v,b,r⟩:=h.get e;rw[b];exact .cons r (aA.pick h a)
section
variable {X:Cx}{a e:aWp}{f:TE}{tl g:TO}{i:FE}{j fh:FO}{lo c:Option aWp}{pos m d:Pos}
theorem O3{k}(he:PE X e f)(hl:PO X lo tl)(hu:PO X c g):PE X (.Subscript e (.Slice lo c (some (.Constant (.int 2) k d)) m) pos) (Df (E5 X.K) f tl g):=by
 intro w s t H Q I h;refine Subscript_ (aI (he w s t H _ I h) λv P y=>?_);obtain⟨x,H1,I1,R,Z⟩:=y;have z:PE X (.Constant (.int 2) k d) (tC (.int 2)):=DX;refine wpAny_Slice (aI (hl w P t H1 _ I1 Z) λvl O ⟨l,H2,I2,pl,Y⟩=>aI (hu w O t H2 _ I2 Y) λD N y=>?_);obtain⟨u,H3,I3,E,U⟩:=y;refine aI ((yA z) w N t H3 (λo C=>o=some 2/\E5 X.K x l u C Q) I3 ⟨2,rfl,rfl,U⟩) λF n y=>?_;obtain⟨o,C,I4,L,eo,S⟩:=y;subst eo;obtain⟨a,xs,rfl,hx,q⟩:=S;cases R;have B:Inv X w t C {n with heap:=n.heap.push {cls:=.type "slice",data:=.fields #[vl,D,F]}}:=I4.kept (t':=n.toks) λb ob q=>aWi.get?_push_of_some _ q;obtain⟨p,r,G,hz⟩:=B.list hx;have A:=r.length;have hg:aWj (aWl X.prog X.w) X.A (getItem (.ref a) (.ref n.heap.objs.size)) (EP X w t Q) X.xe {n with heap:=n.heap.push {cls:=.type "slice",data:=.fields #[vl,D,F]}}:=by
  refine aYf G.isList (aWi.IsSliceOf.new ..) pl E L (by decide) ?_ (by rw[bF]<;>lia);have K:slicePick p.toArray l u (some 2)=(sN p l u).toArray:=by
   unfold slicePick sN;simp
  rw[K];refine⟨.ref _,_,B.laid (t':=n.toks) (o:=.lst (sN xs l u)) (λb ob q=>aWi.get?_push_of_some _ q) (bD _) ?_,rfl,q _ (B.bz.fresh (bD _))⟩;have M:(sN xs l u).length<=xs.length:=by
   have J:=slicePick_size_le p.toArray l u (some 2);rw[K,bF,bF]at J;have z:aA (sN xs l u) (sN p l u):=by unfold sN;rw[A];exact aA.pick r _
   rw[A,z.length];exact J
  exact⟨bB M hz,_,0,by unfold sN;rw[A];exact aA.pick r _,aWi.get?_push_size _ rfl⟩
 show aWj (aWl X.prog X.w) X.A (aYg e _ (.ref a) (.ref n.heap.objs.size)) (EP X w t Q) X.xe _;exact tail_any (ops:=[.ref a,.ref n.heap.objs.size]) G.isList.typeIs aYd.lookup hg (by with_unfolding_all rfl)
theorem Oy{k}(l:QE X a i)(b:QO X lo j)(h:QO X c fh):QN X (.Subscript a (.Slice lo c (some (.Constant (.int 2) k d)) m) pos) (A0 i j fh):=(O3 l b h).imp λ_ _ _=>NH
end
end TL
namespace TL
open PySem PySem.W PyProof.Rows
def dd(g:XH)(N:Nat){b:Type}:KasT b->(b->Prop)->Prop
 | .ret a,Q=>Q a
 | .ask i j k,Q=>i<N/\j<N/\dd g N (k (decide (g i<g j))) Q
section
variable {g:XH}{N:Nat}{o u:Type}
variable{p:Array Nat}{i j:Nat}
theorem dd.bind{f:o->KasT u}{Q:u->Prop}:∀{t:KasT o},dd g N t (λa=>dd g N (f a) Q)->dd g N (t.bind f) Q
 | .ret _,h=>h
 | .ask _ _ _,⟨c,b,h⟩=>⟨c,b,dd.bind h⟩
theorem dd.mono{Q c:o->Prop}(b:∀a,Q a->c a):∀{t:KasT o},dd g N t Q->dd g N t c
 | .ret _,h=>b _ h
 | .ask _ _ _,⟨f,d,h⟩=>⟨f,d,dd.mono b h⟩
theorem dd.wp{b:Nat->Nat->(Bool->aWg->Prop)->aWg->Prop}{s:aWg}(d:∀i j C,i<N->j<N->C (decide (g i<g j)) s->b i j C s){P:o->Prop}{Q:o->aWg->Prop}(c:∀a,P a->Q a s):∀{t:KasT o},dd g N t P->t.kasWp b Q s
 | .ret _,h=>c _ h
 | .ask _ _ _,⟨k,f,h⟩=>d _ _ _ k f (dd.wp d c h)
noncomputable def cg(g:XH)(p:Array Nat)(i:Nat):Int:=g (p.getD i 0)
structure jm(N:Nat)(p:Array Nat):Prop where
 sz:p.size=N
 pm:p.Perm (ZH (bH N))
theorem jm.lt(h:jm N p)(b:i<N):p.getD i 0<N:=by
 have a:=h.sz;have:p[i]'(aM b (bZ (eS a)))∈p:=Array.getElem_mem _;have:=h.pm.mem_iff.mp this;rw[List.mem_toArray,Zj]at this;rw[Z9,dif_pos (aM b (bZ (eS a)))];exact this
def Up(g:XH)(p:Array Nat)(n:Nat):Prop:=∀i j,i<=j->j<n->cg g p i<=cg g p j
def Dn(g:XH)(p:Array Nat)(n:Nat):Prop:=∀i j,i<=j->j<n->cg g p j<=cg g p i
theorem rO{q:Array Nat}(h:p[i]?=q[j]?):cg g p i=cg g q j:=by
 unfold cg;rw[aSY,aSY,h]
theorem D2(h:jm N p)(i j:Nat):jm N (kas_rev p i j):=⟨(mirror_size _ _ _ _).trans h.sz,(mirror_perm _ _ _ _).trans h.pm⟩
theorem D7{k:Nat}(a:j<=p.size):cg g (kas_rev p i j) k=if i<=k/\k<j then cg g p (i+j - 1 - k)else cg g p k:=by
 have e:=getElem?_mirror_all (xs:=p) (i:=i) a k;by_cases h:i<=k/\k<j
 .rw[aWc h]at e|-;exact rO e
 .rw[aWa h]at e|-;exact rO e
theorem HV{n:Nat}(h:∀i,1<=i->i<n->cg g p (i - 1)<=cg g p i):Up g p n:=λi j a b=>by
 obtain⟨d,rfl⟩:∃d,j=i+d:=⟨j - i,eS (eK a)⟩;clear a;induction d with
 |zero=>exact bK _
 |succ d ih=>
  have:=h (i+d+1) (Yl _ _) (by lia);exact bG (ih (by lia)) this
theorem F8{p:Array Nat}(a:jm N p){Q:Nat->Prop}:∀(f n:Nat),1<=n->n+f<=N->(∀m,n<=m->m<=n+f->(∀i,n<=i->i<m->cg g p (i - 1)<=cg g p i)->(m<n+f->cg g p m<cg g p (m - 1))->Q m)->dd g N (kas_asc p f n) Q
 |0,n,k,d,h=>h n (bD _) (b8 _ _) (λi _ _=>by lia) (by lia)
 |f+1,n,k,d,h=>by
  refine⟨a.lt (by lia),a.lt (dS k (eO (YQ d))),?_⟩;by_cases c:cg g p n<cg g p (n - 1)
  .rw[show decide (g (p.getD n 0)<g (p.getD (n - 1) 0))=true from decide_eq_true c];exact h n (bD _) (b8 _ _) (λi _ _=>by lia) λ_=>c
  .rw[show decide (g (p.getD n 0)<g (p.getD (n - 1) 0))=false from decide_eq_false c];refine F8 a f (n+1) (Yl _ _) (by lia) λm s v r q=>h m (cZ s) (by lia) (λi t l=>?_) λb=>q (by lia);by_cases e:i=n
   .rw[e];exact gT c
   .exact r i (by lia) l
theorem yU{Q:Array Nat×Nat×Nat->Prop}:∀(f:Nat)(p:Array Nat)(n q:Nat),jm N p->n+f<=N->q+1<=n->Dn g p n->(∀i,n - (q+1)<=i->i<n->cg g p i=cg g p (n - 1))->
 (∀a b l,jm N a->(∀i,cg g a i=cg g p i)->n<=b->b<=n+f->l+1<=b->Dn g a b->(∀i,b - (l+1)<=i->i<b->cg g a i=cg g a (b - 1))->Q (a,b,l))->dd g N (kas_desc f p n q) Q
 |0,p,n,q,k,B,v,w,t,h=>h p n q k (λ_=>rfl) (bD _) (b8 _ _) v w t
 |f+1,p,n,q,k,B,v,w,t,h=>by
  have more:∀{a:Array Nat},(∀i,cg g a i=cg g p i)->cg g p n<=cg g p (n - 1)->Dn g a (n+1):=λ{a} e c i j G D=>by
   rw[e,e];by_cases s:j=n
   .by_cases F:i=n
    .rw[F,s];exact bK _
    .rw[s];exact bG c (w i (n - 1) (by lia) (by lia))
   .exact w i j G (bV (bJ D) s)
  refine⟨k.lt (by lia),k.lt (dS (bB (Yl 1 q) v) (eO (YQ B))),?_⟩;by_cases c:cg g p n<cg g p (n - 1)
  .rw[show decide (g (p.getD n 0)<g (p.getD (n - 1) 0))=true from decide_eq_true c];dsimp only;rw[aWc rfl];have one:∀{a:Array Nat}(i:Nat),n+1 - (0+1)<=i->i<n+1->cg g a i=cg g a (n+1 - 1):=λi r m=>by rw[show i=n+1 - 1 from X2 (Yx (bS m)) r]
   split
   .have e:∀i,cg g (kas_rev p (n - (q+1)) n) i=cg g p i:=λi=>by
     rw[D7 (by rw[k.sz];exact bB (b8 n (f+1)) B)];split
     .rw[t _ (by lia) (by lia),t i (by lia) (by lia)]
     .rfl
    exact yU f _ (n+1) 0 (D2 k _ _) (by lia) (Yl _ _) (more e (bU c)) one λa b l r m A C z y x=>h a b l r (λi=>(m i).trans (e i)) (cZ A) (by lia) z y x
   .exact yU f p (n+1) 0 k (by lia) (Yl _ _) (more (λ_=>rfl) (bU c)) one λa b l r m A C z y x=>h a b l r m (cZ A) (by lia) z y x
  .rw[show decide (g (p.getD n 0)<g (p.getD (n - 1) 0))=false from decide_eq_false c];dsimp only;rw[aWa bQ];refine⟨k.lt (dS (bB (Yl 1 q) v) (eO (YQ B))),k.lt (by lia),?_⟩;by_cases d:cg g p (n - 1)<cg g p n
   .rw[show decide (g (p.getD (n - 1) 0)<g (p.getD n 0))=true from decide_eq_true d];dsimp only;rw[aWc rfl];exact h p n q k (λ_=>rfl) (bD _) (b8 _ _) v w t
   .rw[show decide (g (p.getD (n - 1) 0)<g (p.getD n 0))=false from decide_eq_false d];dsimp only;rw[aWa bQ];refine yU f p (n+1) (q+1) k (by lia) (eB v) (more (λ_=>rfl) (gT d)) (λi r m=>?_) λa b l r m A C z y x=>h a b l r m (cZ A) (by lia) z y x;rw[show n+1 - 1=n from Nat.add_sub_cancel _ _];by_cases e:i=n
    .rw[e]
    .rw[t i (by lia) (bV (bJ m) e)];exact cA (gT c) (gT d)
def Fz(g:XH)(N:Nat)(r:Nat×Array Nat):Prop:=jm N r.2/\1<=r.1/\r.1<=N/\Up g r.2 r.1
theorem JC(f:jm N p){n:Nat}(b:1<=n)(a:n<=N)(k:Dn g p n):dd g N (kas_tail3 n N p) (Fz g N):=by
 have d:jm N (kas_rev p 0 n):=D2 f _ _;have e:∀i,i<n->cg g (kas_rev p 0 n) i=cg g p (n - 1 - i):=λi h=>by
  rw[D7 (by rw[f.sz];exact a),aWc ⟨dF _,h⟩,XT]
 refine dd.bind (F8 d (N - n) n b (bZ (eK a)) λm s r q _=>⟨d,by show 1<=m;exact bB b s,by show m<=N;exact bB r (bZ (eK a)),HV λi t l=>?_⟩);by_cases c:i<n
 .rw[e i c,e (i - 1) (aT1 c)];exact k _ _ (Nat.sub_le_sub_left (Zq i 1) (n - 1)) (aT1 (dS b (bX n)))
 .exact q i (cT c) l
theorem xC(q:jm N p){n:Nat}(d:1<=n)(r:n+1<=N)(t:Dn g p (n+1)):dd g N (kas_descPart n N p) (Fz g N):=by
 refine dd.bind (yU (N - (n+1)) p (n+1) 0 q (bZ (eK r)) (Yl _ _) t (λi a l=>by rw[show i=n+1 - 1 from X2 (Yx (bS l)) a]) λb c m a l k x w h f=>?_);dsimp only;split
 .refine JC (D2 a _ _) (bB d (cZ k)) (by lia) λi j v s=>?_;have e:∀i,cg g (kas_rev b (c - (m+1)) c) i=cg g b i:=λi=>by
   rw[D7 (by rw[a.sz];lia)];split
   .rw[f _ (by lia) (by lia),f i (by lia) (by lia)]
   .rfl
  rw[e,e];exact h i j v s
 .exact JC a (bB d (cZ k)) (by lia) h
theorem TK(a:jm N p)(h:2<=N):dd g N (kas_count N p) (Fz g N):=by
 refine dd.bind (F8 a (N - 1) 1 (by decide) (bZ (eK (cZ h))) λn b w v t=>?_);have up:Up g p n:=HV v;by_cases e:n=N
 .rw[aWc (by rw[e];simp)];exact⟨a,b,bZ e,up⟩
 rw[aWa (by simpa using e)];have k:=t (by lia);split
 .refine⟨a.lt (ZU (fD h)),a.lt (by lia),?_⟩;by_cases c:cg g p 0<cg g p (n - 1)
  .rw[show decide (g (p.getD 0 0)<g (p.getD (n - 1) 0))=true from decide_eq_true c];dsimp only;rw[aWc rfl];exact⟨a,b,by show n<=N;lia,up⟩
  .rw[show decide (g (p.getD 0 0)<g (p.getD (n - 1) 0))=false from decide_eq_false c];dsimp only;rw[aWa bQ];have eq:∀i,i<n->cg g p i=cg g p 0:=λi m=>by
    have:=up 0 i (dF _) m;have:=up i (n - 1) (Yx (bS m)) (dS b (bX n));lia
   have q:∀i,cg g (kas_rev p 0 n) i=cg g p i:=λi=>by
    rw[D7 (by rw[a.sz];lia)];split
    .rw[eq _ (by lia),eq i (by lia)]
    .rfl
   refine xC (D2 a _ _) b (by lia) λi j s l=>?_;rw[q,q];by_cases f:j=n
   .by_cases r:i=n
    .rw[r,f];exact bK _
    .rw[f,eq i (by lia)];rw[eq (n - 1) (dS b (bX n))]at k;exact bU k
   .rw[eq i (by lia),eq j (bV (bJ l) f)];exact bK _
 .obtain rfl:n=1:=by lia
  refine xC a b h λi j s l=>?_;by_cases d:i=j
  .rw[d];exact bK _
  .rw[show i=0 by lia,show j=1 by lia];exact bU k
theorem zR{p:Array Nat}(n:jm N p){k:Nat}(v:k<N)(m:Up g p k){Q:Nat->Prop}:∀(f l r:Nat),l<=r->r<=k->r - l<=f->(∀i,i<l->cg g p i<=cg g p k)->(∀i,r<=i->i<k->cg g p k<cg g p i)->
 (∀d,d<=k->(∀i,i<d->cg g p i<=cg g p k)->(∀i,d<=i->i<k->cg g p k<cg g p i)->Q d)->dd g N (kas_place p k f l r) Q
 |0,l,r,w,t,x,s,q,h=>h l (bB w t) s λi b a=>q i (by lia) a
 |f+1,l,r,w,t,x,s,q,h=>by
  unfold kas_place;split
  .exact h l (bB w t) s λi b a=>q i (by lia) a
  .refine⟨n.lt v,n.lt (by lia),?_⟩;by_cases c:cg g p k<cg g p ((l+r)/2)
   .rw[show decide (g (p.getD k 0)<g (p.getD ((l+r)/2) 0))=true from decide_eq_true c];dsimp only;rw[aWc rfl];exact zR n v m f l ((l+r)/2) (by lia) (by lia) (by lia) s (λi b a=>cG c (m _ _ b a)) h
   .rw[show decide (g (p.getD k 0)<g (p.getD ((l+r)/2) 0))=false from decide_eq_false c];dsimp only;rw[aWa bQ];exact zR n v m f ((l+r)/2+1) r (by lia) t (by lia) (λi b=>bG (m i ((l+r)/2) (bJ b) (by lia)) (gT c)) q h
theorem Iu{Q:Array Nat->Prop}:∀(f:Nat)(p:Array Nat)(k:Nat),jm N p->k+f=N->Up g p k->(∀n,jm N n->Up g n N->Q n)->dd g N (kas_bin f p k) Q
 |0,p,k,m,q,a,h=>h p m (by rw[<-q];exact a)
 |f+1,p,k,m,q,a,h=>by
  refine dd.bind (zR m (by lia) a k 0 k (dF _) (bD _) (Zq _ _) (λi b=>absurd b (dP i)) (λi v t=>absurd v (aT2 t)) λl y x w=>?_);have e:∀i,cg g (bubble p k (k - l)) i=if i=l then cg g p k else if l<i/\i<=k then cg g p (i - 1)else cg g p i:=λi=>by
   have e:=getElem?_bubble (xs:=p) (src:=k) (by rw[m.sz];lia) (k - l) (Zq _ _) i;rw[show k - (k - l)=l by lia]at e;by_cases c:i=l
   .rw[aWc c]at e|-;exact rO e
   .rw[aWa c]at e|-;by_cases d:l<i/\i<=k
    .rw[aWc d]at e|-;exact rO e
    .rw[aWa d]at e|-;exact rO e
  refine Iu f _ (k+1) ⟨(bubble_size _ _ _).trans m.sz,(bubble_perm _ _ _).trans m.pm⟩ (XU (Yk k 1 f) (XU (fB k f 1) q)) (λi j r s=>?_) h;rw[e,e];by_cases c1:i=l
  .rw[aWc c1];by_cases c2:j=l
   .rw[aWc c2];exact bK _
   .rw[aWa c2,aWc (by lia)];exact bU (w _ (by lia) (by lia))
  .rw[aWa c1];by_cases c2:j=l
   .rw[aWc c2,aWa (by lia)];exact x i (by lia)
   .rw[aWa c2];by_cases c3:l<i/\i<=k
    .rw[aWc c3,aWc (⟨aM c3.1 r,bJ s⟩)];exact a _ _ (Nat.sub_le_sub_right r 1) (by lia)
    .rw[aWa c3];by_cases c4:l<j/\j<=k
     .rw[aWc c4];exact a _ _ (by lia) (by lia)
     .rw[aWa c4];exact a _ _ r (by lia)
theorem QR(d:2<=N):dd g N (kas_sort N) λp=>jm N p/\Up g p N:=by
 have f:jm N (ZH (bH N)):=⟨by simp,.refl _⟩;refine dd.bind (dd.mono (λr c=>?_) (TK f d));obtain⟨b,n,l,a⟩:=c;split
 .rw[show max r.1 1=r.1 by lia];exact Iu _ _ _ b (eK l) a λm k h=>⟨k,h⟩
 .exact⟨b,by rw[show N=r.1 by lia];exact a⟩
end
section
variable {prog:aWm}{w:aWr}{A:aWn}{E:XN}{s:aWg}{g:XH}
structure FW(prog:aWm)(w:aWr)(s:aWg)(a:aWe)(vs:XI)(g:XH):Prop where
 kind:∀(h':aWi)(A:aWn)(E:XN)(Q:SortKind->aWg->Prop),2<=vs.length->(∀b o,b≠a->s.heap.get? b=some o->h'.get? b=some o)->Q (tuples' true) {s with heap:=h'}->aWj (aWl prog w) A (keyKind' vs.toArray) Q E {s with heap:=h'}
 ask:∀(h':aWi)(A:aWn) i j C,(∀b o,b≠a->s.heap.get? b=some o->h'.get? b=some o)->i<vs.length->j<vs.length->C (decide (g i<g j)) {s with heap:=h'}->kas_ask prog w A (tuples' true) vs i j C {s with heap:=h'}
def Gd(g:XH)(vs out:XI):Prop:=∃p:Array Nat,jm vs.length p/\Up g p vs.length/\out=p.toList.map λi=>vs.getD i aWf.none
theorem Xi{a:aWe}{vs:XI}{n:Nat}{P:PySem.Fin->aWg->Prop}(m:s.heap.get? a=some (aXj "list" vs.toArray n))(K:FW prog w s a vs g)(v:vs.length<64)
 (h:∀out:XI,Gd g vs out->P (.done (.ret .none)) {s with heap:=sortedHeap s.heap a vs out.toArray}):
 aWj (aWl prog w) A (aWt.«list.sort» ⟨[.ref a],[]⟩) P E s:=by
 rw[list_sort_plain];have F:a<s.heap.objs.size:=aWi.lt_size m;refine aWb (listItems_at m rfl ?_);refine aWb (listUpdate_at m rfl ?_);obtain⟨x,f⟩:∃x,(s.heap.update a (Obj.mapSeq λ_=>#[])).get? a=some (aXj "list" #[] x):=⟨_,get?_update_seq m (λ_=>#[])⟩;refine aWb (seqEpoch_at f rfl ?_);refine aWb (wpAny_newTuple ?_);refine aWb (wpAny_newList ?_);refine aWv ?_;have keep:∀b o,b≠a->s.heap.get? b=some o->(((s.heap.update a (Obj.mapSeq λ_=>#[])).push (aXj "tuple" vs.toArray 0)).push (aXj "list" #[] 0)).get? b=some o:=λb o M q=>by
  have G:b<s.heap.objs.size:=aWi.lt_size q;rw[aWi.get?_push_ne _ _ _ (by rw[size_push',aWi.size_update];exact bW (cI G)),aWi.get?_push_ne _ _ _ (by rw[aWi.size_update];exact bW G),aWi.get?_update_ne _ _ _ _ M];exact q
 have k:(((s.heap.update a (Obj.mapSeq λ_=>#[])).push (aXj "tuple" vs.toArray 0)).push (aXj "list" #[] 0)).get? a=some (aXj "list" #[] x):=by
  rw[aWi.get?_push_ne _ _ _ (by rw[size_push',aWi.size_update];exact bW (cI F)),aWi.get?_push_ne _ _ _ (by rw[aWi.size_update];exact bW F)];exact f
 show aWj (aWl prog w) A _ P E {s with heap:=((s.heap.update a (Obj.mapSeq λ_=>#[])).push (aXj "tuple" vs.toArray 0)).push (aXj "list" #[] 0)};dsimp only;have u:vs.toArray.size=vs.length:=by simp
 by_cases c:vs.toArray.size<2
 .rw[aWc c,aWc c];refine aWb (aWh ?_);rw[StateT.run_pure];refine aWb (aWh ?_);dsimp only;refine aWb (seqEpoch_at k rfl ?_);refine aWb (listUpdate_at k rfl ?_ (hsz2:=by rw[Array.size_map];show(pairsOf vs).size<=_;rw[pairsOf_size,aXx];omega));simp only[bne_self_eq_false,cM,if_false];have:=h vs ⟨ZH (bH vs.length),⟨by simp,.refl _⟩,λi j R D=>by rw[show i=j by lia];exact bK _,by
   apply YI (by simp);intro i N c;simp[N]⟩
  have e:(vs.toArray.zip vs.toArray).map (·.2)=vs.toArray:=by
   apply Array.toList_inj.mp;simp[List.map_snd_zip]
  refine aWh ?_;show P _ {s with heap:=sortedHeap s.heap a vs ((vs.toArray.zip vs.toArray).map (·.2))};rw[e];exact this
 .rw[aWa c,aWa c];have t:2<=vs.length:=bB (cT c) (bZ u);refine aWb (K.kind _ _ _ _ t keep ?_);refine aWb (aXb (kat_run (ks:=vs) (G:=λp d=>d={s with heap:=((s.heap.update a (Obj.mapSeq λ_=>#[])).push (aXj "tuple" vs.toArray 0)).push (aXj "list" #[] 0)}/\jm vs.length p/\Up g p vs.length) (Q:=λr d=>d={s with heap:=((s.heap.update a (Obj.mapSeq λ_=>#[])).push (aXj "tuple" vs.toArray 0)).push (aXj "list" #[] 0)}/\∃out,Gd g vs out/\(arrOf r).map (·.2)=out.toArray/\failedOf r=none) rfl t v (λp r d S Q O y=>?_)
   (dd.wp (g:=g) (N:=vs.length) (P:=λp=>jm vs.length p/\Up g p vs.length) (λi j C I D L=>K.ask _ _ i j C keep I D L) (λp l=>⟨rfl,l.1,l.2⟩) (QR t))) ?_ λ_ _ e=>e)
  .exact⟨y.1,_,⟨p,y.2.1,y.2.2,rfl⟩,kat_snds rfl Q,O⟩
  rintro⟨⟨⟩,r⟩ d ⟨rfl,out,z,B,J⟩;dsimp only;have H:out.length=vs.length:=by
   obtain⟨p,l,_,rfl⟩:=z;rw[aP,cF,l.sz]
  refine aWb (seqEpoch_at k rfl ?_);refine aWb (listUpdate_at k rfl ?_ (hsz2:=by rw[B,bF,H,aXx];omega));rw[J];simp only[bne_self_eq_false,cM,if_false];refine aWh ?_;rw[B];exact h out z
end
section
variable {d:aWm}{w:aWr}{A:aWn}{E:XN}{s:aWg}{g:XH}
theorem V2{l:aWe}{vs:XI}{Q:XN}(m:s.heap.IsList l vs.toArray)(c:vs.length<64)
 (K:∀j:aWg,(∀b o,s.heap.get? b=some o->j.heap.get? b=some o)->FW d w j (s.heap.objs.size+1) vs g)
 (h:∀out:XI,Gd g vs out->Q (.ref (s.heap.objs.size+1)) {s with heap:=sortedAll s.heap vs out.toArray}):
 aWj (aWl d w) A (call (.builtin "sorted") [.ref l]) Q E s:=by
 refine Calls.call_function_entry kind_sorted plain_sorted entry_sorted (args_sorted1 _) ?_;unfold aWt.«sorted»;refine aWb (m:=checkCount "sorted" 1 1 _) (aWh ?_);refine aWb (collect_list m ?_);refine aWb (wpAny_newList ?_);have a:((s.heap.push (aXj "list" #[] 0)).update s.heap.objs.size (Obj.mapSeq (· ++vs.toArray))).objs.size=s.heap.objs.size+1:=by
  rw[aWi.size_update,size_push']
 have i:(((s.heap.push (aXj "list" #[] 0)).update s.heap.objs.size (Obj.mapSeq (· ++vs.toArray))).push (aXj "list" vs.toArray 0)).get? (s.heap.objs.size+1)=some (aXj "list" vs.toArray 0):=by
  rw[<-a];exact aWi.get?_push_size _ rfl
 show aWj _ _ _ _ _ {s with heap:=((s.heap.push (aXj "list" #[] 0)).update s.heap.objs.size (Obj.mapSeq (· ++vs.toArray))).push (aXj "list" vs.toArray 0)};rw[a];refine aWb (aWv (aYh slot_list_sort ⟨_,i,rfl⟩ entry_list_sort (Xi i (K _ λb o q=>?_) c λout k=>⟨_,rfl,?_⟩) (args_list_sort _)))
 .have f:b<s.heap.objs.size:=aWi.lt_size q;show aWi.get? (((s.heap.push (aXj "list" #[] 0)).update s.heap.objs.size (Obj.mapSeq (· ++vs.toArray))).push (aXj "list" vs.toArray 0)) b=some o;rw[aWi.get?_push_ne _ _ _ (by rw[a];exact bW (cI f)),aWi.get?_update_ne _ _ _ _ (bW f),aWi.get?_push_ne _ _ _ (bW f)];exact q
 .exact aWh ⟨_,rfl,h out k⟩
def sS(h:aWi)(v:aWf)(p:Int×Int):Prop:=∃a o n t u,v=.ref a/\h.get? a=some o/\o.cls=.type "tuple"/\o.data=.seq #[.int p.1 t,.int p.2 u] n
noncomputable def t4(p q:Int×Int):Bool:=decide (p.1<q.1)||(decide (p.1=q.1)&&decide (p.2<q.2))
theorem RZ{x y:aWf}{p q:Int×Int}{C:Bool->aWg->Prop}(k:sS s.heap x p)(j:sS s.heap y q)(h:C (t4 p q) s):aWj (aWl d w) A (keyLt' (tuples' true) x y) C E s:=by
 obtain⟨a,o,n,t,u,rfl,r,_,B⟩:=k;obtain⟨b,G,m,F,D,rfl,l,_,z⟩:=j;refine kat_lt r B l z (kat_cons (wpAny_eqBool_int (kat_go (λe=>kat_yes (kat_cons (wpAny_eqBool_int (kat_go (λi=>kat_yes (kat_nil ?_)) λi=>kat_no (kat_one _ _ (lt_int ?_)))))) λe=>kat_no ?_)))
 .have:t4 p q=false:=by
   have f:=eq_of_beq e;have v:=eq_of_beq i;unfold t4;rw[f,v];simp
  rw[this]at h;exact h
 .have:t4 p q=decide (p.2<q.2):=by
   have f:=eq_of_beq e;unfold t4;rw[f];simp
  rw[this]at h;exact h
 .have:t4 p q=decide (p.1<q.1):=by
   have f:¬p.1=q.1:=λc=>by rw[c]at e;simp at e
   unfold t4;rw[decide_eq_false f];simp
  rw[this]at h;exact oneLt_int h
theorem J2{h:aWi}:∀{vs:XI},(∀v∈vs,∃p,sS h v p)->∃fs,KatTups h vs fs/\fs.length=vs.length/\∀f∈fs,∃x t,f=aWf.int x t
 | [],_=>⟨[],trivial,rfl,λf h=>by cases h⟩
 |v::vs,b=>by
  obtain⟨fs,m,l,k⟩:=J2 (vs:=vs) λv h=>b v (.tail _ h)
  obtain⟨p,a,o,n,t,u,rfl,j,i,c⟩:=b v (.head _);refine⟨.int p.1 t::fs,KatTups.cons j i c rfl m,by rw[aN,l];rfl,λf h=>?_⟩;rcases fU h with rfl|h
  .exact⟨_,_,rfl⟩
  .exact k f h
theorem ti{a:aWe}{vs:XI}{r:XB}(F:vs.length=r.length)(P:∀(i:Nat) v p,vs[i]?=some v->r[i]?=some p->sS s.heap v p/\v≠ .ref a)
 (S:∀(i j:Nat) p q,r[i]?=some p->r[j]?=some q->t4 p q=decide (g i<g j)):FW d w s a vs g:=by
 have keep:∀{l:aWi},(∀b o,b≠a->s.heap.get? b=some o->l.get? b=some o)->∀{v p},sS s.heap v p->v≠ .ref a->sS l v p:=λ{l} k {v p} ⟨b,o,n,t,u,e,Z,X⟩ z=>⟨b,o,n,t,u,e,k b _ (λc=>z (by rw[e,c])) Z,X⟩;have at_:∀i,i<vs.length->∃v p,vs[i]?=some v/\r[i]?=some p/\sS s.heap v p/\v≠ .ref a/\vs.getD i aWf.none=v:=λi h=>by
  obtain⟨y,m⟩:=P i _ _ (aO h) (aO (F ▸ h));exact⟨_,_,aO h,aO (F ▸ h),y,m,by rw[cB,aO h];rfl⟩
 refine⟨λl A E Q m k O=>?_,λl A i j C k h R Y=>?_⟩
 .obtain⟨fs,K,t2,J⟩:=J2 (h:=l) (vs:=vs) λv z=>by
   obtain⟨i,h⟩:=gB z;obtain⟨I,p,D,G,y,m,_⟩:=at_ i (fK h).1;rw[h]at D;cases D;exact⟨p,keep k y m⟩
  exact kat_kind (s:={s with heap:=l}) (T:=.type "int") K (by lia) (λf U=>by
   obtain⟨x,t,rfl⟩:=J f U;exact .now) rfl O
 .obtain⟨v,p,D,G,y,m,e3⟩:=at_ i h;obtain⟨I,L,e1',B,N,M,H⟩:=at_ j R;unfold kas_ask;rw[e3,H];refine RZ (s:={s with heap:=l}) (keep k y m) (keep k N M) ?_;rw[S i j p L G B];exact Y
end
end TL
namespace TL
open PySem L2
noncomputable def pU(p:Int×Int):T:=.tup [.int p.1,.int p.2]
noncomputable def tu(p:Int×Int):Int:=p.1*2^252+p.2
noncomputable def Dc(r:Int):Int×Int:=(r/2^252,r%2^252)
def oi(p:Int×Int):Prop:=0<=p.2/\p.2<2^252
def ua(ps:XB):XB:=(Di (ps.map tu)).map Dc
open Classical in
def DC(c:Xw)(C:ab):Option Xw:=match c with
 | [t]=>(dm C t).bind λb=>if h:∃a:XB,b=a.map pU/\a.length<64/\∀p∈a,oi p then some ((ua h.choose).map pU)else none
 |_=>none
abbrev x4(a:FN):FN:=uZ a DC
theorem HF{p:Int×Int}(h:oi p):Dc (tu p)=p:=by
 obtain⟨a,b⟩:=p;obtain⟨d,c⟩:=h;simp only at d c;unfold Dc tu;simp only[Zw.injEq];rw[Yd (a*2^252)];exact⟨by rw[Int.add_mul_ediv_right _ _ (by decide),Int.ediv_eq_zero_of_lt d c,cW],by rw[Int.add_mul_emod_self_right,Int.emod_eq_of_lt d c]⟩
theorem Py{p q:Int×Int}(g:oi p)(f:oi q):t4 p q=decide (tu p<tu q):=by
 obtain⟨a,b⟩:=p;obtain⟨c,d⟩:=q;obtain⟨l,k⟩:=g;obtain⟨j,i⟩:=f;simp only at l k j i;unfold t4 tu;rw[<-Bool.decide_and,<-aUj];exact decide_eq_decide.mpr ⟨λh=>by rcases h with h|h<;>lia,λh=>by lia⟩
def AH(a:XB)(i:Nat):Int:=tu (a.getD i (0,0))
theorem RD{a:XB}(o:∀p∈a,oi p){b:Array Nat}(h:jm a.length b)(k:Up (AH a) b a.length):b.toList.map (λi=>a.getD i (0,0))=ua a:=by
 have f:(b.toList.map λi=>a.getD i (0,0)).Perm a:=by
  have d:=(Z8.mp h.pm).map λi=>a.getD i (0,0);rw[show((bH a.length).toArray.toList.map λi=>a.getD i (0,0))=a from ?_]at d
  .exact d
  .apply YI (by simp);intro i d q;simp[q]
 have l:((b.toList.map λi=>a.getD i (0,0)).map tu).Pairwise (· <= ·):=by
  refine Zx.mpr λi j n c r=>?_;simp only[aP,cF,h.sz]at n c;have:=k i j (dY r) c;unfold cg AH at this;have g:=h.sz;rw[Z9,dif_pos (by lia),Z9,dif_pos (aM c (bZ (eS g)))]at this;simpa using this
 have e:=KO ((f.map tu).trans zK.symm) l GE;unfold ua;rw[<-e,cK]
 conv=>lhs;rw[<-ZI (b.toList.map λi=>a.getD i (0,0))]
 exact cU λp m=>(HF (o p (f.mem_iff.mp m))).symm
theorem IC{K:aL}{M:Hp}{a:cn}{f:Nat->T}{g:Nat->V}:∀{l:XG},(∀i∈l,RT K M a (f i) (g i))->aB K M a (l.map f) (l.map g)
 | [],_=>rfl
 |i::l,h=>⟨_,_,rfl,h i (.head _),IC λj b=>h j (.tail _ b)⟩
theorem NW{K:aL}{y:St}{H:Hp}{Q:VK}{xs:Xy}(h:∃g,zf K y g xs (DC g) H Q):∃p vs,∃c:XB,xs=[.ref p]/\cz K H p vs/\vs.length=c.length/\c.length<64/\(∀q∈c,oi q)/\(∀(i:Nat) v q,vs[i]?=some v->c[i]?=some q->∃a,v=.ref a/\jc K H a [.int q.1,.int q.2])/\
 ∀d:Array Nat,jm c.length d->Up (AH c) d c.length->∀l,H l=none->Q (.ref l) (upd H l (.lst (d.toList.map λi=>vs.getD i .aF))):=by
 obtain⟨g,x,Z,z,τ,C,A,R,r,e,k⟩:=h;unfold DC at e;split at e
 .obtain⟨v,_,rfl,G,r⟩:=r.cons_inv;rw[r.nil_inv];obtain⟨A,e1,e⟩:=fE e;split at e
  .rename_i s;obtain⟨f,P,w⟩:=s.choose_spec;generalize s.choose=c at*;cases e;obtain⟨a,vs,X,I,j⟩:=R.li G e1;subst f;have O:vs.length=c.length:=by rw[j.length,aP]
   refine⟨a,vs,c,by rw[X],I,O,P,w,λi v q M N=>?_,λd f S l dj=>?_⟩
   .obtain⟨t,u,rt⟩:=j.EK M;rw[bI,N]at u;cases u;obtain⟨b,ws,e,m,cy⟩:=rt;obtain⟨v1,r',E,L,F⟩:=cy;obtain⟨v2,n,Y,J,D⟩:=F;refine⟨b,e,.inl (.inl ?_)⟩;rw[(jT m).2.2,E,Y,L.int_inv,J.int_inv,show n=[]from D]
   .refine k l H z _ R dj ?_ .refl;rw[<-RD w f S,cK];refine IC λi o=>?_;have o:i<c.length:=by
     have:=(Z8.mp f.pm).mem_iff.mp o;simpa using this
    obtain⟨v,U,B⟩:=j.get (i:=i) (t:=pU (c.getD i (0,0))) (by rw[bI,cB,aO o];rfl);rw[cB (l:=vs),U];exact B
  .cases e
 .cases e
end TL
namespace TL
open PySem PySem.Spec PyProof.Rows L2
section
variable {X:Cx}{e:aWp}{d:XO}{f:FN}{p pos:Pos}
theorem Jt{vs:Xy}{a:XI}(r:aA vs a):∀{l:XG},(∀i∈l,i<vs.length)->aA (l.map λi=>vs.getD i .aF) (l.map λi=>a.getD i aWf.none)
 | [],_=>.nil
 |i::l,h=>by
  have b:=h i (.head _);obtain⟨u,k,c⟩:=r.get (aO b);refine .cons ?_ (Jt r λj g=>h j (.tail _ g));dsimp only;rw[cB,aO b,cB,k];exact c
theorem W0:pG X (.builtin "sorted") (λxs H Q=>∃p vs,∃g:XB,xs=[.ref p]/\cz X.K H p vs/\vs.length=g.length/\g.length<64/\(∀q∈g,oi q)/\(∀(i:Nat) v q,vs[i]?=some v->g[i]?=some q->∃a,v=.ref a/\jc X.K H a [.int q.1,.int q.2])/\
 ∀y:Array Nat,jm g.length y->Up (AH g) y g.length->∀l,H l=none->Q (.ref l) (upd H l (.lst (y.toList.map λi=>vs.getD i .aF)))):=by
 intro aa s σ H xs us Q I r h;obtain⟨p,vs,g,rfl,S,z,aw,J,U,q⟩:=h;obtain⟨u,rfl,O⟩:=vals1 r;cases O;obtain⟨x,B,P,R⟩:=I.list S;have D:x.length=g.length:=by rw[<-B.length,z]
 have pr:∀(i:Nat) v q,x[i]?=some v->g[i]?=some q->sS s.heap v q:=λi v q m w=>by
  have G:=(fK w).1;obtain⟨u,L,F⟩:=B.get (aO (show i<vs.length by lia));rw[m]at L;cases L;obtain⟨a,E,st⟩:=U i _ q (aO (show i<vs.length by lia)) w;rw[E]at F;obtain⟨ws,cy,N,_⟩:=I.tuple st;obtain⟨w1,w2,rfl,⟨t,rfl⟩,⟨u,rfl⟩⟩:=vals2 cy;obtain⟨o,A,Z,n,C⟩:=N;exact⟨a,o,n,t,u,F,A,Z,C⟩
 refine V2 (g:=AH g) P.isList (bO (bZ D) aw) (λs' k=>ti D (λi v q m w=>?_) λi j p' q' m w=>?_) λout A=>?_
 .obtain⟨a,o,n,t,u,K,A,C⟩:=pr i v q m w;refine⟨⟨a,o,n,t,u,K,k a o A,C⟩,λc=>?_⟩;rw[K]at c;injection c with c
  have:=aWi.lt_size A;lia
 .unfold AH;rw[cB,m,cB,w];exact Py (J _ (aX m)) (J _ (aX w))
 .obtain⟨y,m,w,rfl⟩:=A;rw[D]at m w;have M:∀i∈y.toList,i<vs.length:=λi G=>by
   have:=(Z8.mp m.pm).mem_iff.mp G;rw[z];simpa using this
  obtain⟨n,Y⟩:=sortedAll_at s.heap x (y.toList.map λi=>x.getD i aWf.none).toArray;refine⟨.ref (s.heap.objs.size+1),_,I.laid (t':=s.toks) (λb u e=>sortedAll_old e) (XQ _) (show k6 X.prog X.w _ _ _ (.lst (y.toList.map λi=>vs.getD i .aF))from⟨by rw[aP,cF,m.sz,<-z];exact R,_,n,Jt B M,Y⟩),rfl,q y m w _ (I.bz.fresh (XQ _))⟩
theorem Vs(a:X.mg "sorted"=none)(g:QA X (e::d) f)(b:Gl X "sorted":=by rfl)(c:aWd (e::d) X.env=(false,aWq e X.env)::aWd d X.env:=by rfl)(h:(aWs pos (aWd d X.env)).any (·.1)=false:=by rfl):
 QN X (.Call (.Name "sorted" p) (e::d) [] pos) (x4 f):=(zB W0 b a boot_sorted g (by decide) (by decide) c h).imp λ_ _ _=>HG λ_ _ _ _=>NW
end
end TL
namespace aJ
open PySem L2 TL
def LL:FS:=
 (gF (gV (kB (Aj Y1 (nX (fN Y0 f7)))) (jG (aH Y0 Y1)) k7)
  (jG (fI 0)))
def iW:Xw->Xx:=kR LL 2
def MJ:FS:=
 (jG (B7 (fI 0) Y1 Y0))
def m6:Xw->Xx:=kR MJ 2
def J8:FS:=
 (jG (Bn (yf "int" Y0) (Bf (yf "bool" Y0))))
def u3:Xw->Xx:=kR J8 1
def pY:FS:=
 (gF (gV (ve (tV (tT (g8 2 m6 (fN Y0 (fN Y3 f7))))) (tV (tT (g8 2 m6 (fN Y0 (fN Y4 f7)))))) D6 k7)
  (gV (kB (Dy Y3 (aH Y2 Y4))) (vC (aH Y2 Y4) (fN Y3 f7)) k7))
def rY:FS:=
 (gF (gW (jL (lD Y0 1 [] (gN 0) jA (jL (iR f7)))) (gN 2))
  (gF (oN Y1 (gU [3,4])
   pY)
  (jG Y2)))
def iU:Xw->Xx:=kR rY 5
def rM:FS:=
 (gV (t8 (kB (Dy Y2 Y1)) (tT (Fh (fN (hZ (lA (aH Y0 Y2) 1 [1] (gN 0) jA (Ht Y0 Y1))) f7)))) (jG Y2) k7)
def tW:FS:=
 (gF (m3 (nX (fN Y0 f7)) (gN 2)
  rM)
  D6)
def oB:Xw->Xx:=kR tW 3
def vI:FS:=
 (vC Y3 (fN (g8 2 oB (fN Y2 (fN Y3 f7))) f7))
def zI:FS:=
 (gF (gW (g8 2 iU (fN Y0 (fN Y1 f7))) (gN 2))
  (gF (gW (jL (iR f7)) (gN 3))
  (gF (nF (kB (Aj (nX (fN Y3 f7)) Y0)) vI 10)
  (jG Y3))))
def pE:Xw->Xx:=kR zI 4
def sB:FS:=
 (jG (hZ (uJ Y0 Y1 2 [] (gU [0,1]) jA (j7 Y0 Y1))))
def l6:Xw->Xx:=kR sB 2
def u7:FS:=
 (rW (Fv (hZ (lA (aH Y3 Y5) 1 [4,0] (gN 0) jA (j7 (aH Y1 Y0) (aH Y2 Y0)))) (fI 0)) Y4 Y5)
def zA:FS:=
 (gF (gW (g8 2 pE (fN (nX (fN Y0 f7)) (fN Y1 f7))) (gN 2))
  (gF (gW (g8 2 iU (fN (nX (fN Y0 f7)) (fN Y1 f7))) (gN 3))
  (gF (gW (jL (lA Y2 1 [] (gN 0) jA (fI 0))) (gN 4))
  (gF (oN Y2 (gN 5)
   u7)
  (jG Y4)))))
def n6:Xw->Xx:=kR zA 6
def LG:FS:=
 (jG (Fv (g8 2 l6 (fN (g8 2 n6 (fN Y0 (fN Y1 f7))) (fN Y0 f7))) (fI 0)))
def l5:Xw->Xx:=kR LG 2
def vQ:FS:=
 (gF (gV (ve (tV (tT (g8 2 m6 (fN Y0 (fN Y3 f7))))) (tV (tT (g8 2 m6 (fN Y0 (fN Y4 f7)))))) (s7 "NoOrder" (fN (fC (.str "a need names a number that is no work")) f7)) k7)
  (gV (kB (Dy Y3 (aH Y2 Y4))) (vC (aH Y2 Y4) (fN Y3 f7)) k7))
def rL:FS:=
 (gF (gW (jL (lD Y0 1 [] (gN 0) jA (jL (iR f7)))) (gN 2))
  (gF (oN Y1 (gU [3,4])
   vQ)
  (jG Y2)))
def xV:Xw->Xx:=kR rL 5
def wT:Xw->Option String:=E3 rL 5
def vY:FS:=
 (gV (t8 (kB (Dy Y2 Y1)) (tT (Fh (fN (hZ (lA (aH Y0 Y2) 1 [1] (gN 0) jA (Ht Y0 Y1))) f7)))) (jG Y2) k7)
def sE:FS:=
 (gF (m3 (nX (fN Y0 f7)) (gN 2)
  vY)
  (s7 "NoOrder" (fN (fC (.str "a work would have to be done ahead of itself")) f7)))
def W7:Xw->Xx:=kR sE 3
def xY:Xw->Option String:=E3 sE 3
def Xp:FS:=
 (fX (Ek Y3 (wc 2 xY (fN Y2 (fN Y3 f7)))) (vC Y3 (fN (g8 2 W7 (fN Y2 (fN Y3 f7))) f7)))
def Wy:FS:=
 (gF (fX (wc 2 wT (fN Y0 (fN Y1 f7))) (gW (g8 2 xV (fN Y0 (fN Y1 f7))) (gN 2)))
  (gF (gW (jL (iR f7)) (gN 3))
  (gF (nF (kB (Aj (nX (fN Y3 f7)) Y0)) Xp 10)
  (jG Y3))))
def WQ:Xw->Option String:=E3 Wy 4
def wY:FS:=
 (Bl Y2 Y4 (aH Y3 (fI 0)))
def xB:FS:=
 (oN (hZ (sx Y3 (qC (fI 1)) oG)) (gN 4)
  wY)
def Mp:FS:=
 (gF (gW (jL (lD Y0 1 [] (gN 0) jA (fI 0))) (gN 2))
  (gF (oN Y1 (gN 3)
   xB)
  (jG Y2)))
def o5:Xw->Xx:=kR Mp 5
def uT:FS:=
 (gF (gV (kB (Nc Y1 (aH Y0 (fI 2)))) (jG (pI Y1 (aH Y0 (fI 0)))) k7)
  (jG (j7 (pI (aH Y0 (fI 2)) (qK (aH Y0 (fI 0)) (aH Y0 (fI 1)))) (pI Y1 (aH Y0 (fI 1))))))
def nM:Xw->Xx:=kR uT 2
def J5:FS:=
 (gF (gW (g8 2 o5 (fN (nX (fN Y0 f7)) (fN Y1 f7))) (gN 3))
  (gF (gW (Ct (fN (hZ (uJ Y0 Y3 2 [] (gU [0,1]) jA (g8 2 nM (fN Y0 (fN Y1 f7))))) f7)) (gN 4))
  (jG (qK Y4 (pI Y2 (Ct (fN (hZ (lA Y1 1 [] (gN 0) jA (aH Y0 (fI 0)))) f7)))))))
def yP:Xw->Xx:=kR J5 5
def Le:FS:=
 (gF (gW (lJ (j7 (j7 (pI Y0 (fI 48271)) (pI (pI Y1 Y1) (fI 69621))) (fI 3)) (fI 2147483647)) (gN 2))
  (gF (gW (lJ (pI Y2 Y2) (fI 2147483629)) (gN 2))
  (jG (lJ (pI Y2 Y2) (fI 2147483587)))))
def kZ:Xw->Xx:=kR Le 3
def uV:FS:=
 (gF (gW (lJ Y2 (fI 40)) (gN 3))
  (rW (g8 2 kZ (fN (j7 (aH Y1 Y3) (aH Y0 Y2)) (fN Y2 f7))) Y1 Y3))
def ME:FS:=
 (gF (gW (jL (lD (fI 40) 1 [0] (gN 0) jA (g8 2 kZ (fN (g8 2 iW (fN Y1 (fN (fI 0) f7))) (fN (j7 (fI 90) Y0) f7))))) (gN 1))
  (gF (qL (fI 2) (sM (fN (fI 63) (fN (nX (fN Y0 f7)) f7))) (gN 2)
   uV)
  (jG Y1)))
def pF:Xw->Xx:=kR ME 4
def z7:FS:=
 (Cu Y2 (fN (lJ (g8 2 kZ (fN Y0 (fN Y3 f7))) (j7 Y3 (fI 1))) (fN Y3 f7)))
def KL:FS:=
 (gF (gW (jL (iR f7)) (gN 2))
  (gF (m3 Y1 (gN 3)
   z7)
  (jG Y2)))
def nP:Xw->Xx:=kR KL 4
def vD:FS:=
 (gF (gW (g8 2 iW (fN Y0 (fN (j7 (fI 3) Y5) f7))) (gN 6))
  (gF (gW (lJ Y6 (aH (hZ (iR (fN (fI 5) (fN Y3 f7)))) (uF (fN (pk Y3 (fI 1)) f7)))) (gN 7))
  (gF (gW (Bj Y6 (aH (hZ (iR (fN (fI 5) (fN Y3 f7)))) (uF (fN (pk Y3 (fI 1)) f7)))) (gN 6))
  (gF (gW (lJ Y6 (aH (hZ (iR (fN (fI 6) (fN Y3 f7)))) (uF (fN (pk Y3 (fI 1)) f7)))) (gN 8))
  (gF (gW (Bj Y6 (aH (hZ (iR (fN (fI 6) (fN Y3 f7)))) (uF (fN (pk Y3 (fI 1)) f7)))) (gN 6))
  (vC Y4 (fN (hZ (iR (fN (j7 Y7 Y8) (fN Y7 (fN (lJ Y6 (aH (hZ (iR (fN (fI 5) (fN Y3 f7)))) (uF (fN (pk Y3 (fI 1)) f7)))) f7))))) f7)))))))
def vO:FS:=
 (gF (Cu Y9 (fN (lJ Y6 (j7 Y5 (fI 1))) (fN Y5 f7)))
  (gW (Bj Y6 (j7 Y5 (fI 1))) (gN 6)))
def uS:FS:=
 (gF (gV (kB (qk (lJ Y6 (fI 2)) (fI 1))) (vC vj (fN (hZ (iR (fN Bp (fN (aH Y9 Y5) f7)))) f7)) k7)
  (gW (tU Y6 (fI 2)) (gN 6)))
def vX:FS:=
 (oN (hZ (sx Y9 oG (qC Y5))) (gN 11)
  uS)
def MH:FS:=
 (gF (gW (aH (hZ (iR (fN (fI 1) (fN (pI Y2 (E7 (fI 10) (fI 9))) f7)))) (lJ (tU (g8 2 iW (fN Y0 (fN (fI 1) f7))) (fI 576)) (fI 2))) (gN 3))
  (gF (gW (jL (iR f7)) (gN 4))
  (gF (m3 Y1 (gN 5)
   vD)
  (gF (gW (g8 2 iW (fN Y0 (fN (fI 2) f7))) (gN 6))
  (gF (gW (jL (iR f7)) (gN 9))
  (gF (m3 Y1 (gN 5)
   vO)
  (gF (gW (jL (iR f7)) (gN 10))
  (gF (m3 Y1 (gN 5)
   vX)
  (jG (uA (fN Y4 (fN vj f7))))))))))))
def qP:Xw->Xx:=kR MH 12
def Kq:FS:=
 (gF (gW (lJ Y0 (fI 5)) (gN 5))
  (gF (gW (lJ Y1 (fI 6)) (gN 6))
  (gF (gW (lJ Y2 (fI 5)) (gN 7))
  (gF (gV (kB (qk Y3 (fI 1))) (gF (gW (j7 (pI Y0 Y4) (lJ Y1 (fI 97))) (gN 5))
  (gF (gW (pI (pI Y1 Y4) (uF (fN (pk (lJ Y1 (fI 4)) (fI 0)) f7))) (gN 6))
  (gW (j7 (pI Y2 Y4) (lJ Y0 (fI 89))) (gN 7)))) k7)
  (gF (gV (kB (qk Y3 (fI 2))) (gF (gW (pI (lJ Y1 (fI 3)) (lJ (tU Y1 (fI 3)) (fI 50))) (gN 6))
  (gW (aH (hZ (iR (fN (fI 0) (fN (fI 3) (fN (fI 3) (fN (j7 (fI 1) (lJ Y2 (fI 40))) f7)))))) (lJ (tU Y2 (fI 64)) (fI 4))) (gN 7))) k7)
  (gF (gV (t8 (kB (qk Y3 (fI 3))) (kB (qk (lJ Y0 (fI 3)) (fI 0)))) (gW (fI 0) (gN 5)) k7)
  (jG (hZ (iR (fN (j7 Y5 Y6) (fN Y5 (fN Y7 f7))))))))))))
def vV:Xw->Xx:=kR Kq 8
def JH:FS:=
 (gV (kB (pk Y6 (fI 1))) (gF (gW (j7 (fI 1) (lJ (aH Y3 Bp) (qK Y6 (fI 1)))) (gN 12))
  (gF (gW (lJ (tU (aH Y3 Bp) (fI 16)) (sM (fN CQ (fN (aH (hZ (iR (fN (fI 1) (fN (fI 2) (fN (fI 8) f7))))) (lJ (tU Y7 (fI 16)) (fI 3))) f7)))) (gN 13))
  (gF (gW (aH (hZ (iR (fN (qK (qK CQ (fI 1)) MN) (fN MN f7)))) (lJ (tU Y7 (fI 48)) (fI 2))) (gN 14))
  (Cu vj (fN (lJ (tU (aH Y3 Bp) (fI 256)) (j7 (nX (fN vj f7)) (fI 1))) (fN (hZ (iR (fN (aH Y9 Xr) (fN (aH Y9 CQ) f7)))) f7)))))) k7)
def HN:FS:=
 (gF (gW (g8 1 pF (fN Y0 f7)) (gN 3))
  (gF (gW (g8 2 iW (fN Y0 (fN (fI 0) f7))) (gN 4))
  (gF (gW (lJ (tU Y4 (fI 4)) (sM (fN (fI 6) (fN (j7 Y1 (fI 1)) f7)))) (gN 5))
  (gF (gW (aH (hZ (iR (fN Y5 (fN (qK Y1 (aH (hZ (iR (fN (fI 0) (fN (fI 0) (fN (fI 1) (fN (fI 2) f7)))))) (lJ (tU Y4 (fI 4)) (fI 4)))) (fN Y5 (fN (sM (fN Y1 (fN (j7 (fI 3) (lJ (tU Y4 (fI 4)) (fI 3))) f7))) f7)))))) (lJ Y4 (fI 4))) (gN 6))
  (gF (gW (g8 2 iW (fN Y0 (fN (fI 1) f7))) (gN 7))
  (gF (gV (kB (qk (lJ (tU Y7 (fI 288)) (fI 2)) (fI 1))) (jG (g8 3 qP (fN Y0 (fN (sM (fN Y6 (fN (aH (hZ (iR (fN (fI 5) (fN (fI 3) f7)))) (uF (fN (Aj Y1 (fI 5)) f7))) f7))) (fN Y2 f7))))) k7)
  (gF (gW (hZ (lD Y6 1 [3,7,2] (gN 0) jA (g8 5 vV (fN (aH Y1 Y0) (fN (aH Y1 (j7 (fI 8) Y0)) (fN (aH Y1 (j7 (fI 16) Y0)) (fN (lJ Y2 (fI 4)) (fN Y3 f7)))))))) (gN 8))
  (gF (gW (g8 2 nP (fN (aH Y3 (fI 39)) (fN Y6 f7))) (gN 9))
  (gF (gW (jL (iR f7)) (gN 10))
  (gF (qL (fI 24) (j7 (fI 24) (sM (fN (fI 14) (fN (j7 Y6 (lJ (tU Y7 (fI 4)) (fI 4))) f7)))) (gN 11)
   JH)
  (jG (uA (fN Y8 (fN (hZ (sx vj (qC (lJ (tU Y7 (fI 96)) (fI 3))) oG)) f7))))))))))))))
def xE:Xw->Xx:=kR HN 15
def uB:FS:=
 (jG (hZ (lA Y0 1 [] (gN 0) jA (aH Y0 (fI 1)))))
def mU:Xw->Xx:=kR uB 1
def vJ:FS:=
 (jG (AN (kB (qk (aH Y0 (fI 2)) (fI 0))) (aH Y0 (fI 1)) (aH Y0 (fI 0))))
def nB:Xw->Xx:=kR vJ 1
def xF:FS:=
 (jG (g8 2 l5 (fN (g8 1 mU (fN Y0 f7)) (fN Y1 f7))))
def i7:Xw->Xx:=kR xF 2
def zM:FS:=
 (jG (g8 2 l5 (fN (hZ (lA Y0 1 [] (gN 0) jA (g8 1 nB (fN Y0 f7)))) (fN Y1 f7))))
def l9:Xw->Xx:=kR zM 2
def xN:FS:=
 (rW (FD (fN (aH Y2 Y5) (fN (j7 (aH Y2 Y4) (aH Y0 Y4)) f7))) Y2 Y5)
def xD:FS:=
 (oN Y1 (gU [4,5])
  xN)
def Mh:FS:=
 (gF (gW (jL (lA Y0 1 [] (gN 0) jA (fI 0))) (gN 2))
  (gF (m3 (nX (fN Y0 f7)) (gN 3)
   xD)
  (jG (x5 (fN (hZ (AS (hZ (lD (nX (fN Y0 f7)) 1 [2,0] (gN 0) jA (j7 (aH Y1 Y0) (aH Y2 Y0)))) (hZ (iR (fN (fI 0) f7))))) f7)))))
def mN:Xw->Xx:=kR Mh 6
def Kt:FS:=
 (gF (gW (g8 2 mN (fN (hZ (lA Y0 1 [] (gN 0) jA (aH Y0 (fI 1)))) (fN Y1 f7))) (gN 2))
  (jG (uA (fN Y2 (fN (g8 2 mN (fN (hZ (lA Y0 1 [] (gN 0) jA (aH Y0 (uF (fN (qk (aH Y0 (fI 2)) (fI 0)) f7))))) (fN Y1 f7))) f7)))))
def pV:Xw->Xx:=kR Kt 3
def uC:FS:=
 (jG (j7 (pI (fI 2) Y0) (fI 2)))
def jU:Xw->Xx:=kR uC 1
def vH:FS:=
 (jG (j7 (pI (fI 2) Y0) (fI 3)))
def kK:Xw->Xx:=kR vH 1
def L8:FS:=
 (jG (qK (tU Y0 (fI 2)) (fI 1)))
def tO:Xw->Xx:=kR L8 1
def yZ:FS:=
 (gF (pS "Pipe" "tail" Y0 Y1)
  (gF (pS "Pipe" "head" Y0 Y2)
  (gF (pS "Pipe" "hours" Y0 Y3)
  (gF (pS "Pipe" "room" Y0 Y4)
  (pS "Pipe" "back" Y0 (fC .aF))))))
def nV:Xw->ab->Option (T×ab):=oZ yZ 5
def MI:FS:=
 (gF (gW (vF "Pipe" 5 nV [] (fN Y1 (fN Y2 (fN Y3 (fN Y4 f7))))) (gN 5))
  (gF (gW (vF "Pipe" 5 nV [] (fN Y2 (fN Y1 (fN (ET Y3) (fN (fI 0) f7))))) (gN 6))
  (gF (pS "Pipe" "back" Y5 Y6)
  (gF (pS "Pipe" "back" Y6 Y5)
  (vC (mG "Net" "pipes" Y0) (fN Y5 f7))))))
def kW:Xw->ab->Option (T×ab):=oZ MI 7
def pM:FS:=
 (gF (oR (mC "Net" "lay" 5 kW Y0 (fN (fI 0) (fN (g8 1 jU (fN Y5 f7)) (fN (fI 0) (fN Y4 f7))))))
  (gF (oR (mC "Net" "lay" 5 kW Y0 (fN (g8 1 jU (fN Y5 f7)) (fN (g8 1 kK (fN Y5 f7)) (fN (aH Y6 (fI 0)) (fN (aH Y6 (fI 2)) f7))))))
  (gF (oR (mC "Net" "lay" 5 kW Y0 (fN (g8 1 jU (fN Y5 f7)) (fN (g8 1 kK (fN Y5 f7)) (fN (aH Y6 (fI 1)) (fN Y4 f7))))))
  (oR (mC "Net" "lay" 5 kW Y0 (fN (g8 1 kK (fN Y5 f7)) (fN (fI 1) (fN (fI 0) (fN Y4 f7)))))))))
def wZ:FS:=
 (oR (mC "Net" "lay" 5 kW Y0 (fN (g8 1 kK (fN Y9 f7)) (fN (g8 1 jU (fN Y7 f7)) (fN (fI 0) (fN Y4 f7))))))
def pL:FS:=
 (oN Y8 (gN 9)
  wZ)
def LO:FS:=
 (gF (pS "Net" "pipes" Y0 (jL (iR f7)))
  (gF (pS "Net" "places" Y0 (j7 (pI (fI 2) (nX (fN Y1 f7))) (fI 2)))
  (gF (gW (j7 (j7 (Ct (fN (hZ (lA Y1 1 [] (gN 0) jA (aH Y0 (fI 2)))) f7)) Y3) (fI 1)) (gN 4))
  (gF (zJ Y1 (gU [5,6])
   pM)
  (zJ (g8 2 iU (fN (nX (fN Y1 f7)) (fN Y2 f7))) (gU [7,8])
   pL)))))
def nW:Xw->ab->Option (T×ab):=oZ LO 10
def p7:FS:=
 (gF (gW (hZ (AS (mG "Net" "pipes" Y0) (hZ (lA (mG "Net" "pipes" Y0) 1 [] (gN 0) jA (mG "Pipe" "back" Y0))))) (gN 1))
  (jG (hZ (lA Y1 1 [] (gN 0) (kB (pk (mG "Pipe" "room" Y0) (fI 0))) Y0))))
def kQ:Xw->ab->Option (T×ab):=oZ p7 2
def pO:FS:=
 (gF (gW (j7 (aH Y0 (mG "Pipe" "tail" Y3)) (mG "Pipe" "hours" Y3)) (gN 4))
  (gV (kB (pk Y4 (aH Y0 (mG "Pipe" "head" Y3)))) (gF (rW Y4 Y0 (mG "Pipe" "head" Y3))
  (gW (fC (.bl true)) (gN 2))) k7))
def rJ:FS:=
 (gF (gW (fC (.bl false)) (gN 2))
  (gF (oN Y1 (gN 3)
   pO)
  (jG Y2)))
def mV:Xw->ab->Option (T×ab):=oZ rJ 5
def xX:FS:=
 k7
def t9:FS:=
 (gF (gW (jL (lD (mG "Net" "places" Y0) 1 [] (gN 0) jA (fI 0))) (gN 2))
  (gF (rW Y1 Y2 (fI 1))
  (gF (gW (mC "Net" "open_pipes" 1 kQ Y0 f7) (gN 3))
  (gF (nF (tT (m4 2 mV (fN Y2 (fN Y3 f7)))) xX (10^200))
  (jG Y2)))))
def kP:Xw->ab->Option (T×ab):=oZ t9 4
def rF:FS:=
 (gV (t8 (kB (kA (mG "Pipe" "tail" Y3) Y0 (zT true))) (kB (kA (mG "Pipe" "head" Y3) Y0 (zT false)))) (Az Y2 (mG "Pipe" "head" Y3) (hZ (AS (Be Y0 (mG "Pipe" "tail" Y3)) (hZ (iR (fN Y3 f7)))))) k7)
def tX:FS:=
 (gF (gW (xH (.dk [])) (gN 2))
  (gF (oN Y1 (gN 3)
   rF)
  (jG Y2)))
def oE:Xw->ab->Option (T×ab):=oZ tX 4
def rK:FS:=
 (oR (z9 Y3 (m4 2 oE (fN Y3 (fN Y2 f7)))))
def tY:FS:=
 (gF (gW (hZ (lA Y0 1 [1] (gN 0) (kB (qk (j7 (aH Y1 (mG "Pipe" "tail" Y0)) (mG "Pipe" "hours" Y0)) (aH Y1 (mG "Pipe" "head" Y0)))) Y0)) (gN 2))
  (gF (gW (wE (fI 0) (hZ (iR f7))) (gN 3))
  (gF (nF (kB (kA (fI 1) Y3 (zT false))) rK 40)
  (jG (Be Y3 (fI 1))))))
def oF:Xw->ab->Option (T×ab):=oZ tY 4
def LQ:FS:=
 (jG (FF (fN (hZ (lA Y0 1 [] (gN 0) jA (mG "Pipe" "room" Y0))) f7)))
def tP:Xw->ab->Option (T×ab):=oZ LQ 1
def KU:FS:=
 (gF (xG "Pipe" "room" (λi j=>i - j) Y2 Y1)
  (xG "Pipe" "room" (λi j=>i+j) (mG "Pipe" "back" Y2) Y1))
def ID:FS:=
 (oN Y0 (gN 2)
  KU)
def D9:Xw->ab->Option (T×ab):=oZ ID 3
def vT:FS:=
 (gF (gW (m4 2 oF (fN (mC "Net" "open_pipes" 1 kQ Y0 f7) (fN Y2 f7))) (gN 3))
  (gF (oR (m4 2 D9 (fN Y3 (fN (m4 1 tP (fN Y3 f7)) f7))))
  (gW (mC "Net" "moments" 2 kP Y0 (fN (fI 0) f7)) (gN 2))))
def Mv:FS:=
 (gF (gW (mC "Net" "moments" 2 kP Y0 (fN (fI 0) f7)) (gN 2))
  (nF (kB (pk (aH Y2 (fI 1)) Y1)) vT (10^200)))
def nZ:Xw->ab->Option (T×ab):=oZ Mv 4
def vN:FS:=
 (jG (hZ (wG Y1 1 [0,1] (gN 0) (t8 (kB (qk (aH Y0 (fI 0)) Y1)) (kB (pk (Be Y2 Y0) (fI 0)))) Y0)))
def nN:Xw->ab->Option (T×ab):=oZ vN 2
def pR:FS:=
 (gF (vC Y1 (fN (aH Y2 (fI 0)) f7))
  (gW (m4 2 nN (fN (aH (aH Y2 (fI 0)) (fI 1)) (fN Y0 f7))) (gN 2)))
def rG:FS:=
 (gF (gW (jL (iR f7)) (gN 1))
  (gF (gW (m4 2 nN (fN (fI 0) (fN Y0 f7))) (gN 2))
  (gF (nF (tT Y2) pR 40)
  (jG Y1))))
def lO:Xw->ab->Option (T×ab):=oZ rG 3
def Mu:FS:=
 (jG (hZ (lA (hZ (AR Y0)) 2 [] (gU [0,1]) jA (g8 1 tO (fN Y0 f7)))))
def qN:Xw->ab->Option (T×ab):=oZ Mu 1
def u4:FS:=
 (Bk (λi j=>i - j) Y0 Y3 Y2)
def MC:FS:=
 (gF (gW (FF (fN (hZ (lA Y1 1 [0] (gN 0) jA (Be Y1 Y0))) f7)) (gN 2))
  (gF (oN Y1 (gN 3)
   u4)
  (jG Y2)))
def rC:Xw->ab->Option (T×ab):=oZ MC 4
def sK:FS:=
 (gF (gW (uA (fN (mG "Pipe" "tail" Y2) (fN (mG "Pipe" "head" Y2) f7))) (gN 3))
  (Az Y1 Y3 (j7 (wU Y1 Y3 (fI 0)) (mG "Pipe" "room" (mG "Pipe" "back" Y2)))))
def r9:FS:=
 (gF (vC Y4 (fN (jL (AS (hZ (iR (fN (m4 2 rC (fN Y1 (fN Y5 f7))) f7))) (m4 1 qN (fN Y5 f7)))) f7))
  (gW (m4 1 lO (fN Y1 f7)) (gN 5)))
def uX:FS:=
 (gF (gW (xH (.dt [])) (gN 1))
  (gF (oN (mG "Net" "pipes" Y0) (gN 2)
   sK)
  (gF (gW (jL (iR f7)) (gN 4))
  (gF (gW (m4 1 lO (fN Y1 f7)) (gN 5))
  (gF (nF (tT Y5) r9 (10^200))
  (jG Y4))))))
def oY:Xw->ab->Option (T×ab):=oZ uX 6
def vU:FS:=
 (gF (gW (vF "Net" 4 nW [.int 0] (fN Y0 (fN Y1 f7))) (gN 3))
  (gF (oR (mC "Net" "fill" 2 nZ Y3 (fN Y2 f7)))
  (jG Y3)))
def oW:Xw->ab->Option (T×ab):=oZ vU 4
def rQ:FS:=
 (gF (gV (kB (Aj Y2 (g8 2 i7 (fN Y0 (fN Y1 f7))))) (jG (fC .aF)) k7)
  (jG (mC "Net" "stream" 1 oY (m4 3 oW (fN Y0 (fN Y1 (fN Y2 f7)))) f7)))
def lZ:Xw->Option (T×ab):=Ba rQ 3
def uL:FS:=
 (gF (gV (kB (Aj Y2 (g8 2 i7 (fN Y0 (fN Y1 f7))))) (jG (fC .aF)) k7)
  (jG (g8 3 yP (fN Y0 (fN (Gg 3 lZ (fN Y0 (fN Y1 (fN Y2 f7)))) (fN Y2 f7))))))
def mB:Xw->Xx:=kR uL 3
def pN:FS:=
 (jG (aH (mC "Net" "moments" 2 kP Y0 (fN (fI 0) f7)) (fI 1)))
def lX:Xw->ab->Option (T×ab):=oZ pN 1
def vE:FS:=
 (jG (Ct (fN (hZ (lA (mG "Net" "pipes" Y0) 1 [] (gN 0) (kB (qk (mG "Pipe" "tail" Y0) (fI 0))) (mG "Pipe" "room" (mG "Pipe" "back" Y0)))) f7)))
def oT:Xw->ab->Option (T×ab):=oZ vE 1
def xJ:FS:=
 (gF (oR (mC "Net" "fill" 2 nZ Y6 (fN (qK Y3 (fI 1)) f7)))
  (gF (gW (mC "Net" "open_length" 1 lX Y6 f7) (gN 7))
  (gF (gW (j7 Y4 (pI (mC "Net" "amount" 1 oT Y6 f7) (qK Y3 Y7))) (gN 4))
  (gF (gW Y7 (gN 3))
  (vC Y5 (fN (jL (iR (fN Y3 (fN Y4 f7)))) f7))))))
def Mo:FS:=
 (gF (gW (g8 2 i7 (fN Y0 (fN Y1 f7))) (gN 2))
  (gF (gW (g8 2 l9 (fN Y0 (fN Y1 f7))) (gN 3))
  (gF (gW (fI 0) (gN 4))
  (gF (gW (jL (iR (fN (jL (iR (fN Y3 (fN Y4 f7)))) f7))) (gN 5))
  (gF (gW (vF "Net" 4 nW [.int 0] (fN Y0 (fN Y1 f7))) (gN 6))
  (gF (nF (kB (pk Y3 Y2)) xJ (10^200))
  (jG Y5)))))))
def p8:Xw->Option (T×ab):=Ba Mo 8
end aJ
namespace TL
open PySem L2
section
variable {s:aE}{C:ab}{a b c f A L M:FE}{H N fn:FN}{J D K:FB}{F G:FS}
def aD(f:FE)(s:aE)(C:ab)(Q:T->ab->Prop):Prop:=∃t d,f s C=some (t,d)/\Q t d
def ef(f:FN)(s:aE)(C:ab)(Q:Xw->ab->Prop):Prop:=∃t d,f s C=some (t,d)/\Q t d
def ia(f:FB)(s:aE)(C:ab)(Q:Bool->ab->Prop):Prop:=∃t d,f s C=some (t,d)/\Q t d
def wpS(F:FS)(s:aE)(C:ab)(Q:Fl->aE->ab->Prop):Prop:=∃l t d,F s C=some (l,t,d)/\Q l t d
def bf(o:Option (T×ab))(Q:T->ab->Prop):Prop:=∃t d,o=some (t,d)/\Q t d
def lx(o:Option Xw)(Q:Xw->Prop):Prop:=∃t,o=some t/\Q t
def ug(o:Option (Xw×ab))(Q:Xw->ab->Prop):Prop:=∃t d,o=some (t,d)/\Q t d
def oD(g:FG)(t:T)(C:ab)(s:aE)(Q:aE->Prop):Prop:=∃d,g t C s=some d/\Q d
def Da(o:Xx)(Q:T->Prop):Prop:=∃t,o=some t/\Q t
variable {Q:T->ab->Prop}{O:Xw->ab->Prop}{S:Bool->ab->Prop}{QS:Fl->aE->ab->Prop}{QG:aE->Prop}{U:Xw->Prop}
variable{i j lo:Int}{u:T}{R:Xw->Xx}{P:ab->Prop}
theorem yB{i:Nat}:aD (kI i) s C Q↔∃t,s[i]?=some (some t)/\Q t C:=by
 unfold aD kI;constructor
 .rintro⟨t,g,e,q⟩;split at e
  .rename_i d h;cases e;exact⟨_,h,q⟩
  .cases e
 .rintro⟨t,e,q⟩;exact⟨t,C,by rw[e],q⟩
theorem fO{s:aE}{C:ab}{Q:T->ab->Prop}{i:Nat}{t:T}(h:s[i]?=some (some t))(q:Q t C):aD (kI i) s C Q:=yB.mpr ⟨_,h,q⟩
def hX:=λ{a b c d}=>(@yB a b c d).mpr
theorem Fp{t:T}:aD (fC t) s C Q↔Q t C:=by
 unfold aD fC;constructor
 .rintro⟨_,_,e,q⟩;cases e;exact q
 .exact λq=>⟨_,_,rfl,q⟩
def fS:=λ{a b c d}=>(@Fp a b c d).mpr
theorem GH{g:T->T->ab->Option (T×ab)}:aD (kA a b g) s C Q↔aD a s C λx h=>aD b s h λy d=>bf (g x y d) Q:=by
 unfold aD kA bf;constructor
 .rintro⟨t,m,e,q⟩;obtain⟨⟨x,h⟩,l,e⟩:=fE e;obtain⟨⟨y,d⟩,k,e⟩:=fE e;exact⟨x,h,l,y,d,k,t,m,e,q⟩
 .rintro⟨x,h,l,y,d,k,t,m,e,q⟩;exact⟨t,m,by simp[l,k,e],q⟩
def fL:=λ{a b c d e f}=>(@GH a b c d e f).mpr
theorem Gc{g:T->ab->Option (T×ab)}:aD (x3 a g) s C Q↔aD a s C λx d=>bf (g x d) Q:=by
 unfold aD x3 bf;constructor
 .rintro⟨t,k,e,q⟩;obtain⟨⟨x,d⟩,h,e⟩:=fE e;exact⟨x,d,h,t,k,e,q⟩
 .rintro⟨x,d,h,t,k,e,q⟩;exact⟨t,k,by simp[h,e],q⟩
theorem Lf{g:T->T->ab->Option Xw}:ef (z8 a b g) s C O↔aD a s C λx h=>aD b s h λy d=>lx (g x y d) λm=>O m d:=by
 unfold ef aD z8 lx;constructor
 .rintro⟨t,o,e,q⟩;obtain⟨⟨x,h⟩,l,e⟩:=fE e;obtain⟨⟨y,d⟩,k,e⟩:=fE e;obtain⟨m,n,e⟩:=fG e;cases e;exact⟨x,h,l,y,_,k,_,n,q⟩
 .rintro⟨x,h,l,y,d,k,t,e,q⟩;exact⟨t,d,by simp[l,k,e],q⟩
def lR:=λ{a b c d e f}=>(@Lf a b c d e f).mpr
theorem Kr:ef f7 s C O↔O [] C:=by
 unfold ef f7;constructor
 .rintro⟨_,_,e,q⟩;cases e;exact q
 .exact λq=>⟨_,_,rfl,q⟩
def fM:=λ{a b c}=>(@Kr a b c).mpr
theorem KG:ef (fN a N) s C O↔aD a s C λx g=>ef N s g λxs d=>O (x::xs) d:=by
 unfold ef aD fN;constructor
 .rintro⟨t,l,e,q⟩;obtain⟨⟨x,g⟩,k,e⟩:=fE e;obtain⟨⟨y,d⟩,h,e⟩:=fG e;cases e;exact⟨x,g,k,y,_,h,q⟩
 .rintro⟨x,g,k,y,d,h,q⟩;exact⟨_,d,by simp[k,h],q⟩
def fF:=λ{a b c d e}=>(@KG a b c d e).mpr
theorem Gv{g:Xw->ab->Option (T×ab)}:aD (pJ H g) s C Q↔ef H s C λxs d=>bf (g xs d) Q:=by
 unfold aD ef pJ bf;constructor
 .rintro⟨t,k,e,q⟩;obtain⟨⟨x,d⟩,h,e⟩:=fE e;exact⟨x,d,h,t,k,e,q⟩
 .rintro⟨x,d,h,t,k,e,q⟩;exact⟨t,k,by simp[h,e],q⟩
def f9:=λ{a b c d e}=>(@Gv a b c d e).mpr
theorem u8{g:Xw->ab->Option Xw}:ef (uZ H g) s C O↔ef H s C λxs d=>lx (g xs d) λk=>O k d:=by
 unfold ef uZ lx;constructor
 .rintro⟨t,m,e,q⟩;obtain⟨⟨x,d⟩,h,e⟩:=fE e;obtain⟨k,l,e⟩:=fG e;cases e;exact⟨x,_,h,_,l,q⟩
 .rintro⟨x,d,h,t,e,q⟩;exact⟨t,d,by simp[h,e],q⟩
theorem KJ:ef (iR H) s C O↔ef H s C λxs d=>xs.length<=lim/\O xs d:=by
 unfold iR;rw[u8];unfold ef lx;constructor
 .rintro⟨x,d,e,t,g,q⟩;split at g
  .cases g;exact⟨_,_,e,‹_›,q⟩
  .cases g
 .rintro⟨x,d,e,h,q⟩;exact⟨x,d,e,x,by rw[aWc h],q⟩
def gK:=λ{a b c d}=>(@KJ a b c d).mpr
theorem LH:aD (hZ fn) s C Q↔ef fn s C λh d=>Q (.lst h) d:=by
 unfold aD ef hZ;constructor
 .rintro⟨t,k,e,q⟩;obtain⟨⟨x,d⟩,g,e⟩:=fG e;cases e;exact⟨x,_,g,q⟩
 .rintro⟨x,d,g,q⟩;exact⟨_,d,by simp[g],q⟩
def gA:=λ{a b c d}=>(@LH a b c d).mpr
theorem La:aD (jL fn) s C Q↔ef fn s C λh d=>Q (.cell d.length) (d++[(.l,h)]):=by
 unfold aD ef jL;constructor
 .rintro⟨t,k,e,q⟩;obtain⟨⟨x,d⟩,g,e⟩:=fG e;cases e;exact⟨x,_,g,q⟩
 .rintro⟨x,d,g,q⟩;exact⟨_,_,by simp[g],q⟩
def iK:=λ{a b c d}=>(@La a b c d).mpr
theorem HE{g:Int->Int->T}:bf (gI g (.int i) (.int j) C) Q↔Q (g i j) C:=by
 unfold bf gI;constructor
 .rintro⟨_,_,e,q⟩;cases e;exact q
 .exact λq=>⟨_,_,rfl,q⟩
def gC:=λ{a b c d e}=>(@HE a b c d e).mpr
theorem Qp{p:Prop}[Decidable p]{o:Option (T×ab)}:bf (if p then o else none) Q↔p/\bf o Q:=by
 by_cases h:p<;>simp[h,bf]
theorem p6{t:T}:bf (some (t,C)) Q↔Q t C:=by
 unfold bf;constructor
 .rintro⟨_,_,e,q⟩;cases e;exact q
 .exact λq=>⟨_,_,rfl,q⟩
theorem IW{k:Int->Int->Bool}{g:Int->Int->T}:bf (qg k g (.int i) (.int j) C) Q↔k i j=true/\Q (g i j) C:=by
 show bf (if k i j=true then some (g i j,C)else none) Q↔_;rw[Qp,p6]
def gE:=λ{a b c d e f}=>(@IW a b c d e f).mpr
theorem II{t:T}:bf (AI t (.int i) C) Q↔∃d,jg C t=some d/\∃x,dc d i=some x/\Q x C:=by
 unfold bf AI;constructor
 .rintro⟨t,k,e,q⟩;obtain⟨d,h,e⟩:=fE e;obtain⟨x,g,e⟩:=fG e;cases e;exact⟨d,h,_,g,q⟩
 .rintro⟨d,h,x,g,q⟩;exact⟨_,C,by simp[h,g],q⟩
def gL:=λ{a b c d}=>(@II a b c d).mpr
theorem JV{t:T}:bf (AX [t] C) Q↔∃d,jg C t=some d/\Q (.int d.length) C:=by
 unfold bf AX;constructor
 .rintro⟨t,h,e,q⟩;obtain⟨d,g,e⟩:=fG e;cases e;exact⟨d,g,q⟩
 .rintro⟨d,g,q⟩;exact⟨_,C,by simp[g],q⟩
def l7:=λ{a b c}=>(@JV a b c).mpr
theorem KR{t:T}:lx (DP [t] C) U↔∃d,jg C t=some d/\U d:=X6
theorem Ju{t:T}:lx (AU t u C) U↔∃d,dm C t=some d/\∃us,dm C u=some us/\d.length+us.length<=lim/\U (d++us):=by
 unfold lx AU;constructor
 .rintro⟨t,e,q⟩;obtain⟨d,k,e⟩:=fE e;obtain⟨us,g,e⟩:=fE e;split at e
  .cases e;exact⟨d,k,us,g,‹_›,q⟩
  .cases e
 .rintro⟨d,k,us,g,h,q⟩;exact⟨_,by simp[k,g,h],q⟩
def mE:=λ{a b c d}=>(@Ju a b c d).mpr
theorem vK{k:XE->Bool}{g:XE->Int}{t:T}:bf (zE k g [t] C) Q↔∃l,dm C t=some l/\∃d,gy l=some d/\k d=true/\Q (.int (g d)) C:=by
 unfold bf zE;constructor
 .rintro⟨t,p,e,q⟩;obtain⟨o,n,e⟩:=fE e;obtain⟨d,m,e⟩:=fE e;split at e
  .cases e;exact⟨o,n,d,m,‹_›,q⟩
  .cases e
 .rintro⟨o,n,l,m,h,q⟩;exact⟨_,_,by simp[n,m,h],q⟩
theorem RF{g:List Bool->Bool}{t:T}:bf (Cq g [t] C) Q↔∃h,dm C t=some h/\∃d,mw h=some d/\Q (.bl (g d)) C:=by
 unfold bf Cq;constructor
 .rintro⟨t,n,e,q⟩;obtain⟨m,l,e⟩:=fE e;obtain⟨d,k,e⟩:=fG e;cases e;exact⟨m,l,d,k,q⟩
 .rintro⟨m,l,h,k,q⟩;exact⟨_,_,by simp[l,k],q⟩
theorem IG{g:Int->Int->Int}:bf (Ag g [.int i,.int j] C) Q↔Q (.int (g i j)) C:=p6
theorem KY:bf (Ag (λi j=>if j<i then j else i) [.int i,.int j] C) Q↔Q (.int (min i j)) C:=by
 rw[IG,show(if j<i then j else i)=min i j by lia]
theorem Ln:bf (Ag (λi j=>if j>i then j else i) [.int i,.int j] C) Q↔Q (.int (max i j)) C:=by
 rw[IG,show(if j>i then j else i)=max i j by lia]
theorem LU{i:Bool}:bf (DM [.bl i] C) Q↔Q (.int (if i then 1 else 0)) C:=p6
theorem RV:bf (Ci (.int i) C) Q↔Q (.int (-i)) C:=p6
theorem Q8{k:String}:aD (yf k a) s C Q↔aD a s C λt l=>∃x,E2 k t=some x/\Q (.bl x) l:=by
 unfold yf;rw[Gc];unfold aD bf;constructor
 .rintro⟨t,g,e,m,n,d,q⟩;obtain⟨x,h,d⟩:=fG d;cases d;exact⟨t,_,e,x,h,q⟩
 .rintro⟨t,g,e,x,d,q⟩;exact⟨t,g,e,_,_,by simp[d],q⟩
theorem N0{n:Bool}{t:T}:bf (qi n t u C) Q↔∃x,dr 3 C t=some x/\∃y,dr 3 C u=some y/\∃k,eqT 5 x y=some k/\Q (.bl (if n then !k else k)) C:=by
 unfold bf qi;constructor
 .rintro⟨t,l,e,q⟩;obtain⟨x,h,e⟩:=fE e;obtain⟨y,g,e⟩:=fE e;obtain⟨k,d,e⟩:=fG e;cases e;exact⟨x,h,y,g,k,d,q⟩
 .rintro⟨x,h,y,g,k,d,q⟩;exact⟨_,_,by simp[h,g,d],q⟩
theorem O8{n:Bool}{t:T}:bf (sg n t u C) Q↔∃x,dr 3 C t=some x/\∃o,dm C u=some o/\∃m,b7 (dr 3 C) o=some m/\∃k,xu (λw=>eqT 5 w x) m=some k/\Q (.bl (if n then !k else k)) C:=by
 unfold bf sg;constructor
 .rintro⟨t,p,e,q⟩;obtain⟨x,l,e⟩:=fE e;obtain⟨y,h,e⟩:=fE e;obtain⟨z,d,e⟩:=fE e;obtain⟨k,g,e⟩:=fG e;cases e;exact⟨x,l,y,h,z,d,k,g,q⟩
 .rintro⟨x,l,y,h,z,d,k,g,q⟩;exact⟨_,_,by simp[l,h,g,d],q⟩
theorem Ub{n:Nat}{d:Xw}(g:d.length=n)(h:fc d=true):bf (kU n R d C) Q↔Da (R d) λt=>Q t C:=by
 unfold bf kU Da;rw[aWc g,aWc h];constructor
 .rintro⟨t,l,e,q⟩;obtain⟨x,k,e⟩:=fG e;cases e;exact⟨_,k,q⟩
 .rintro⟨t,e,q⟩;exact⟨_,_,by simp[e],q⟩
theorem gP{n:Nat}{ts:Xw}{t:T}(e:R ts=some t)(d:ts.length=n)(g:fc ts=true):bf (kU n R ts C) Q↔Q t C:=by
 rw[Ub d g,e];unfold Da;constructor
 .rintro⟨_,e,q⟩;cases e;exact q
 .exact λq=>⟨_,rfl,q⟩
theorem L3{n:Nat}{g k:Xw}(l:g.length=n)(d:b7 (dr 3 C) g=some k)(h:Da (R k) λt=>BH t=true/\Q t C):bf (kU n R g C) Q:=by
 unfold bf kU;obtain⟨t,e,p,q⟩:=h;rw[aWc l];split
 .rename_i o;have:k=g:=by
   have m:=Gx.mp o;clear l o e;induction g generalizing k with
   |nil=>cases d;rfl
   |cons t g ih=>
    obtain⟨u,x,d⟩:=fE d;obtain⟨r,v,d⟩:=fG d;cases d;have w:=m t bM;rw[ih v λt h=>m t (bA _ h)];have:u=t:=by
     cases t<;>simp_all [dr,CF]
    rw[this]
  rw[<-this,e];exact⟨_,_,rfl,q⟩
 .rw[d];exact⟨t,C,by simp[e,p],q⟩
theorem GJ:ia (kB a) s C S↔aD a s C λt d=>∃x,t=.bl x/\S x d:=by
 unfold ia aD kB;constructor
 .rintro⟨t,h,e,q⟩;obtain⟨⟨x,d⟩,g,e⟩:=fE e;dsimp only at e;split at e
  .cases e;exact⟨_,_,g,_,rfl,q⟩
  .cases e
 .rintro⟨x,d,g,y,rfl,q⟩;exact⟨y,d,by simp[g],q⟩
def gQ:=λ{a b c d}=>(@GJ a b c d).mpr
theorem Ka:ia (tT a) s C S↔aD a s C λt d=>∃x,E0 d t=some x/\S x d:=by
 unfold ia aD tT;constructor
 .rintro⟨t,k,e,q⟩;obtain⟨⟨x,d⟩,h,e⟩:=fE e;obtain⟨y,g,e⟩:=fG e;cases e;exact⟨_,_,h,_,g,q⟩
 .rintro⟨x,d,h,y,g,q⟩;exact⟨y,d,by simp[h,g],q⟩
def mD:=λ{a b c d}=>(@Ka a b c d).mpr
theorem x6:ia (t8 D K) s C S↔ia D s C λx d=>if x=true then ia K s d S else S false d:=by
 unfold ia t8;constructor
 .rintro⟨t,g,e,q⟩;obtain⟨⟨x,d⟩,h,e⟩:=fE e;refine⟨x,d,h,?_⟩;dsimp only at e;split at e
  .rw[aWc ‹_›];exact⟨t,g,e,q⟩
  .cases e;rw[aWa ‹_›];exact q
 .rintro⟨x,d,h,q⟩;split at q
  .obtain⟨t,g,e,q⟩:=q;exact⟨t,g,by simp_all,q⟩
  .exact⟨false,d,by simp_all,q⟩
theorem Gk:ia (ve D K) s C S↔ia D s C λx d=>if x=true then S true d else ia K s d S:=by
 unfold ia ve;constructor
 .rintro⟨t,g,e,q⟩;obtain⟨⟨x,d⟩,h,e⟩:=fE e;refine⟨x,d,h,?_⟩;dsimp only at e;split at e
  .cases e;rw[aWc ‹_›];exact q
  .rw[aWa ‹_›];exact⟨t,g,e,q⟩
 .rintro⟨x,d,h,q⟩;split at q
  .exact⟨true,d,by simp_all,q⟩
  .obtain⟨t,g,e,q⟩:=q;exact⟨t,g,by simp_all,q⟩
theorem JP:ia (tV D) s C S↔ia D s C λx d=>S (!x) d:=by
 unfold ia tV;constructor
 .rintro⟨t,h,e,q⟩;obtain⟨⟨x,d⟩,g,e⟩:=fG e;cases e;exact⟨x,_,g,q⟩
 .rintro⟨x,d,g,q⟩;exact⟨_,d,by simp[g],q⟩
theorem Sj:aD (Bn a b) s C Q↔aD a s C λt d=>∃x,t=.bl x/\if x=true then aD b s d Q else Q (.bl false) d:=by
 unfold aD Bn;constructor
 .rintro⟨t,g,e,q⟩;obtain⟨⟨x,d⟩,h,e⟩:=fE e;refine⟨x,d,h,?_⟩;dsimp only at e;split at e
  .exact⟨true,rfl,by rw[aWc rfl];exact⟨t,g,e,q⟩⟩
  .cases e;exact⟨false,rfl,by rw[aWa (by simp)];exact q⟩
  .cases e
 .rintro⟨x,d,h,y,rfl,q⟩;split at q
  .obtain⟨t,g,e,q⟩:=q;exact⟨t,g,by simp_all,q⟩
  .exact⟨.bl false,d,by simp_all,q⟩
theorem Si:aD (Bf a) s C Q↔aD a s C λt d=>∃x,t=.bl x/\Q (.bl (!x)) d:=by
 unfold aD Bf;constructor
 .rintro⟨t,h,e,q⟩;obtain⟨⟨x,d⟩,g,e⟩:=fE e;dsimp only at e;split at e
  .cases e;exact⟨_,_,g,_,rfl,q⟩
  .cases e
 .rintro⟨x,d,g,y,rfl,q⟩;exact⟨_,d,by simp[g],q⟩
theorem RQ:aD (AN D a b) s C Q↔ia D s C λx g=>if x=true then aD a s g Q else aD b s g Q:=by
 unfold ia aD AN;constructor
 .rintro⟨t,d,e,q⟩;obtain⟨⟨x,g⟩,h,e⟩:=fE e;refine⟨x,g,h,?_⟩;dsimp only at e;split at e
  .rw[aWc ‹_›];exact⟨t,d,e,q⟩
  .rw[aWa ‹_›];exact⟨t,d,e,q⟩
 .rintro⟨x,g,h,q⟩;split at q
  .obtain⟨t,d,e,q⟩:=q;exact⟨t,d,by simp_all,q⟩
  .obtain⟨t,d,e,q⟩:=q;exact⟨t,d,by simp_all,q⟩
theorem VF{p q:Int->Int->Bool}:aD (wF a b c p q) s C Q↔aD a s C λx k=>aD b s k λy d=>∃i j,x=.int i/\y=.int j/\if p i j=true then aD c s d (λz g=>∃l,z=.int l/\Q (.bl (q j l)) g)else Q (.bl false) d:=by
 unfold aD wF;constructor
 .rintro⟨t,r,e,q⟩;obtain⟨⟨x,k⟩,o,e⟩:=fE e;obtain⟨⟨y,d⟩,n,e⟩:=fE e;refine⟨x,k,o,y,d,n,?_⟩;dsimp only at e;split at e
  .refine⟨_,_,rfl,rfl,?_⟩;split at e
   .rw[aWc ‹_›];obtain⟨⟨z,g⟩,m,e⟩:=fE e;dsimp only at e;split at e
    .cases e;exact⟨_,_,m,_,rfl,q⟩
    .cases e
   .rw[aWa ‹_›];cases e;exact q
  .cases e
 .rintro⟨x,k,o,y,d,n,i,j,rfl,rfl,h⟩;split at h
  .obtain⟨z,g,m,l,rfl,q⟩:=h;exact⟨_,g,by simp_all,q⟩
  .exact⟨_,d,by simp_all,h⟩
theorem Lk:wpS k7 s C QS↔QS .nx s C:=by
 unfold wpS k7;constructor
 .rintro⟨_,_,_,e,q⟩;cases e;exact q
 .exact λq=>⟨_,_,_,rfl,q⟩
def iB:=λ{a b c}=>(@Lk a b c).mpr
def sq(G:FS)(Q:Fl->aE->ab->Prop)(l:Fl)(s:aE)(C:ab):Prop:=match l with
 | .nx=>wpS G s C Q
 |l=>Q l s C
theorem Kn:wpS (gF F G) s C QS↔wpS F s C (sq G QS):=by
 unfold wpS gF;constructor
 .rintro⟨l,t,n,e,q⟩;obtain⟨⟨d,k,m⟩,g,e⟩:=fE e;refine⟨d,k,m,g,?_⟩;cases d<;>first| (cases e;exact q)|exact⟨l,t,n,e,q⟩
 .rintro⟨d,k,m,g,h⟩;cases d with
  |nx=>obtain⟨l,t,n,e,q⟩:=h;exact⟨l,t,n,by rw[g];exact e,q⟩
  |_=>exact⟨_,k,m,by rw[g];rfl,h⟩
def fQ:=λ{a b c d e}=>(@Kn a b c d e).mpr
theorem HK:sq G QS .nx s C↔wpS G s C QS:=X6
def fV:=λ{a b c d}=>(@HK a b c d).mpr
theorem Ol{t:T}:sq G QS (.rt t) s C↔QS (.rt t) s C:=X6
theorem Nw{c:String}:sq G QS (.ex c) s C↔QS (.ex c) s C:=X6
theorem Od:sq G QS .bk s C↔QS .bk s C:=X6
theorem NQ:sq G QS .ct s C↔QS .ct s C:=X6
theorem Gj:wpS (gV D F G) s C QS↔ia D s C λx g=>if x=true then wpS F s g QS else wpS G s g QS:=by
 unfold ia wpS gV;constructor
 .rintro⟨l,t,d,e,q⟩;obtain⟨⟨x,g⟩,h,e⟩:=fE e;refine⟨x,g,h,?_⟩;dsimp only at e;split at e
  .rw[aWc ‹_›];exact⟨l,t,d,e,q⟩
  .rw[aWa ‹_›];exact⟨l,t,d,e,q⟩
 .rintro⟨x,g,h,q⟩;split at q
  .obtain⟨l,t,d,e,q⟩:=q;exact⟨l,t,d,by simp_all,q⟩
  .obtain⟨l,t,d,e,q⟩:=q;exact⟨l,t,d,by simp_all,q⟩
def i9:=λ{a b c d e f}=>(@Gj a b c d e f).mpr
theorem J4:wpS (jG a) s C QS↔aD a s C λt d=>QS (.rt t) s d:=by
 unfold aD wpS jG;constructor
 .rintro⟨l,t,h,e,q⟩;obtain⟨⟨x,d⟩,g,e⟩:=fG e;cases e;exact⟨x,_,g,q⟩
 .rintro⟨x,d,g,q⟩;exact⟨_,_,d,by simp[g],q⟩
def gG:=λ{a b c d}=>(@J4 a b c d).mpr
theorem LI:wpS (oR a) s C QS↔aD a s C λt d=>QS .nx s d:=by
 unfold aD wpS oR;constructor
 .rintro⟨l,t,h,e,q⟩;obtain⟨⟨x,d⟩,g,e⟩:=fG e;cases e;exact⟨x,_,g,q⟩
 .rintro⟨x,d,g,q⟩;exact⟨_,_,d,by simp[g],q⟩
def lT:=λ{a b c d}=>(@LI a b c d).mpr
theorem Kl{g:FG}:wpS (gW a g) s C QS↔aD a s C λt d=>oD g t d s λm=>QS .nx m d:=by
 unfold aD wpS oD gW;constructor
 .rintro⟨l,t,n,e,q⟩;obtain⟨⟨x,d⟩,k,e⟩:=fE e;obtain⟨m,h,e⟩:=fG e;cases e;exact⟨x,_,k,_,h,q⟩
 .rintro⟨x,d,k,m,h,q⟩;exact⟨_,_,d,by simp[k,h],q⟩
def f8:=λ{a b c d e}=>(@Kl a b c d e).mpr
theorem Ih{i:Nat}{t:T}:oD (gN i) t C s QG↔QG (s.set i (some t)):=by
 unfold oD gN;constructor
 .rintro⟨_,e,q⟩;cases e;exact q
 .exact λq=>⟨_,rfl,q⟩
def fT:=λ{a b c d e}=>(@Ih a b c d e).mpr
theorem HY{is:XG}{t:T}:oD (gU is) t C s QG↔∃d,jg C t=some d/\d.length=is.length/\QG (cu is d s):=by
 unfold oD gU;constructor
 .rintro⟨_,e,q⟩;obtain⟨d,g,e⟩:=fE e;split at e
  .cases e;exact⟨d,g,‹_›,q⟩
  .cases e
 .rintro⟨d,g,h,q⟩;exact⟨_,by simp[g,h],q⟩
def kX:=λ{a b c d e}=>(@HY a b c d e).mpr
theorem uY:wpS (rW A L M) s C QS↔aD A s C λx m=>aD L s m λy h=>aD M s h λz g=>∃k i,y=.cell k/\z=.int i/\∃d,lc g k=some d/\∃j,jz d.length i=some j/\QS .nx s (g.set k (.l,d.set j x)):=by
 unfold aD wpS rW;constructor
 .rintro⟨l,t,w,e,q⟩;obtain⟨⟨x,m⟩,v,e⟩:=fE e;obtain⟨⟨y,h⟩,r,e⟩:=fE e;obtain⟨⟨z,g⟩,p,e⟩:=fE e;refine⟨x,m,v,y,h,r,z,g,p,?_⟩;dsimp only at e;split at e
  .obtain⟨d,o,e⟩:=fE e;obtain⟨j,n,e⟩:=fG e;cases e;exact⟨_,_,rfl,rfl,d,o,j,n,q⟩
  .cases e
 .rintro⟨x,m,v,y,h,r,z,g,p,k,i,rfl,rfl,d,o,j,n,q⟩;exact⟨_,_,_,by simp[v,r,p,o,n],q⟩
theorem JX{g:Xw->Xw->Option Xw}:wpS (A5 a H g) s C QS↔aD a s C λx n=>ef H s n λxs m=>∃k,x=.cell k/\(lc n k).isSome=true/\∃d,lc m k=some d/\lx (g d xs) λw=>QS .nx s (m.set k (.l,w)):=by
 unfold aD ef wpS A5 lx;constructor
 .rintro⟨l,t,B,e,q⟩;obtain⟨⟨x,n⟩,v,e⟩:=fE e;obtain⟨⟨y,m⟩,r,e⟩:=fE e;refine⟨x,n,v,y,m,r,?_⟩;dsimp only at e;split at e
  .obtain⟨z,h,e⟩:=fE e;obtain⟨d,p,e⟩:=fE e;obtain⟨j,o,e⟩:=fG e;cases e;exact⟨_,rfl,ZY.mpr ⟨_,h⟩,d,p,j,o,q⟩
  .cases e
 .rintro⟨x,n,v,y,m,r,k,rfl,h,d,p,j,o,q⟩;obtain⟨z,h⟩:=iV h;exact⟨_,_,_,by simp[v,r,h,p,o],q⟩
def i6:=λ{a b c d e f}=>(@JX a b c d e f).mpr
theorem Ks{d:Xw}{y:T}:lx (CG d [y]) U↔d.length<lim/\U (d++[y]):=by
 unfold lx CG;by_cases h:d.length<lim<;>simp[h]
def jY:=λ{a b c}=>(@Ks a b c).mpr
theorem yE{d:Xw}{y:T}:lx (Cy d [.int i,y]) U↔(d.length<lim/\ -(2^63)<=i/\i<2^63)/\U (b5 d i y):=by
 unfold lx Cy;by_cases h:d.length<lim/\ -(2^63)<=i/\i<2^63
 .simp only[aWc h,dC.injEq,exists_eq_left',and_iff_right h]
 .simp only[aWa h,reduceCtorEq,false_and,exists_false];exact⟨False.elim,fun(z:_/\_)=>h z.1⟩
theorem N2{g:FG}(I:Nat->aE->ab->Prop){n:Xw}(z:I 0 s C)
 (x:∀i t s C,n[i]?=some t->I i s C->oD g t C s λB=>wpS F B C λl k d=>match l with
  | .nx=>P d/\I (i+1) k d
  | .ct=>P d/\I (i+1) k d
  | .bk=>QS .nx k d
  | .rt v=>QS (.rt v) k d
  | .ex v=>QS (.ex v) k d)
 (y:∀s C,I n.length s C->QS .nx s C):wpS (lQ P g F n) s C QS:=by
 induction n generalizing s C I with
 |nil=>exact⟨.nx,s,C,by simp[lQ],y _ _ z⟩
 |cons t n ih=>
  obtain⟨B,p,l,k,d,o,m⟩:=x 0 t s C rfl z;have go:P d/\I 1 k d->wpS (lQ P g F n) k d QS:=λh=>ih (λi=>I (i+1)) h.2 (λi t s C e h=>x (i+1) t s C e h) (λs C h=>y s C h);cases l with
  |nx=>
   obtain⟨l,r,w,e,q⟩:=go m;exact⟨l,r,w,by simp[lQ,p,o,m.1,e],q⟩
  |ct=>
   obtain⟨l,r,w,e,q⟩:=go m;exact⟨l,r,w,by simp[lQ,p,o,m.1,e],q⟩
  |bk=>exact⟨.nx,k,d,by simp[lQ,p,o],m⟩
  |rt v=>exact⟨.rt v,k,d,by simp[lQ,p,o],m⟩
  |ex v=>exact⟨.ex v,k,d,by simp[lQ,p,o],m⟩
theorem KC{g:FG}:wpS (oN a g F) s C QS↔aD a s C λt h=>∃d,dm h t=some d/\wpS (lQ (stays t d) g F d) s h QS:=by
 unfold aD wpS oN;constructor
 .rintro⟨l,t,n,e,q⟩;obtain⟨⟨x,h⟩,m,e⟩:=fE e;obtain⟨d,k,e⟩:=fE e;exact⟨x,h,m,d,k,l,t,n,e,q⟩
 .rintro⟨x,h,m,d,k,l,t,n,e,q⟩;exact⟨l,t,n,by simp[m,k,e],q⟩
def iS:=λ{a b c d e f}=>(@KC a b c d e f).mpr
theorem Mj{g:FG}:wpS (m3 a g F) s C QS↔aD a s C λt d=>∃j,t=.int j/\(-(2^62)<=j/\j<2^62)/\wpS (lQ (λ_=>True) g F (v5 0 j.toNat)) s d QS:=by
 unfold aD wpS m3;constructor
 .rintro⟨l,t,m,e,q⟩;obtain⟨⟨x,d⟩,k,e⟩:=fE e;dsimp only at e;split at e
  .split at e
   .exact⟨_,d,k,_,rfl,‹_›,l,t,m,e,q⟩
   .cases e
  .cases e
 .rintro⟨x,d,k,j,rfl,h,l,t,m,e,q⟩;exact⟨l,t,m,by rw[k];exact(aWc h).trans e,q⟩
def lG:=λ{a b c d e f}=>(@Mj a b c d e f).mpr
theorem wO{g:FG}:wpS (qL a b g F) s C QS↔aD a s C λt d=>aD b s d λu k=>∃i j,t=.int i/\u=.int j/\(-(2^62)<=i/\i<2^62/\ -(2^62)<=j/\j<2^62)/\wpS (lQ (λ_=>True) g F (v5 i (j - i).toNat)) s k QS:=by
 unfold aD wpS qL;constructor
 .rintro⟨l,t,o,e,q⟩;obtain⟨⟨x,d⟩,n,e⟩:=fE e;obtain⟨⟨y,k⟩,m,e⟩:=fE e;dsimp only at e;split at e
  .split at e
   .exact⟨_,d,n,_,k,m,_,_,rfl,rfl,‹_›,l,t,o,e,q⟩
   .cases e
  .cases e
 .rintro⟨x,d,n,y,k,m,i,j,rfl,rfl,h,l,t,o,e,q⟩;exact⟨l,t,o,by rw[n];show((b s d).bind _)=_;rw[m];exact(aWc h).trans e,q⟩
theorem lC{m:Type}{g:FG}{en:m->T}{xs:List m}(I:Nat->aE->ab->Prop)(p:I 0 s C)
 (n:∀i x s C,xs[i]?=some x->I i s C->oD g (en x) C s λq=>wpS F q C λl k d=>match l with
  | .nx=>P d/\I (i+1) k d
  | .ct=>P d/\I (i+1) k d
  | .bk=>QS .nx k d
  | .rt v=>QS (.rt v) k d
  | .ex v=>QS (.ex v) k d)
 (o:∀s C,I xs.length s C->QS .nx s C):wpS (lQ P g F (xs.map en)) s C QS:=by
 refine N2 I p (λi t s C e h=>?_) (λs C h=>o s C (by simpa using h));rw[bI]at e;obtain⟨x,ex,rfl⟩:=fG e;exact n i x s C ex h
theorem tS{g:FG}{n:Nat}(I:Nat->aE->ab->Prop)(r:I 0 s C)
 (o:∀i s C,i<n->I i s C->oD g (.int (lo+(i:Int))) C s λt=>wpS F t C λl k d=>match l with
  | .nx=>P d/\I (i+1) k d
  | .ct=>P d/\I (i+1) k d
  | .bk=>QS .nx k d
  | .rt v=>QS (.rt v) k d
  | .ex v=>QS (.ex v) k d)
 (p:∀s C,I n s C->QS .nx s C):wpS (lQ P g F (v5 lo n)) s C QS:=by
 refine lC I r (λi x s C e h=>?_) (λs C h=>p s C (by simpa using h));obtain⟨q,m⟩:=fK e;rw[Yh]at m;subst m;exact o _ s C (by simpa using q) h
theorem pZ{l:Type}{g:FG}{en:l->T}{xs:List l}(I:Nat->aE->ab->Prop)(q:I 0 s C)
 (n:∀i x s C,xs[i]?=some x->I i s C->∀Q:Fl->aE->ab->Prop,(∀m d,P d->I (i+1) m d->Q .nx m d)->oD g (en x) C s λr=>wpS F r C Q)
 (o:∀s C,I xs.length s C->QS .nx s C):wpS (lQ P g F (xs.map en)) s C QS:=
 lC I q (λi x s C e h=>n i x s C e h _ λ_ _ p k=>⟨p,k⟩) o
theorem qI{g:FG}{n:Nat}(I:Nat->aE->ab->Prop)(r:I 0 s C)
 (m:∀i s C,i<n->I i s C->∀Q:Fl->aE->ab->Prop,(∀l d,P d->I (i+1) l d->Q .nx l d)->oD g (.int (lo+(i:Int))) C s λt=>wpS F t C Q)
 (o:∀s C,I n s C->QS .nx s C):wpS (lQ P g F (v5 lo n)) s C QS:=
 tS I r (λi s C q h=>m i s C q h _ λ_ _ p k=>⟨p,k⟩) o
theorem KN{k:Nat}{is:XG}{g:FG}:ef (lA a k is g J A) s C O↔aD a s C λt l=>∃d,dm l t=some d/\d.length<lim/\ug (lM g J A (gh k is s) d l) O:=by
 unfold aD ef lA ug;constructor
 .rintro⟨t,o,e,q⟩;obtain⟨⟨x,l⟩,n,e⟩:=fE e;obtain⟨d,m,e⟩:=fE e;split at e
  .exact⟨x,l,n,d,m,‹_›,t,o,e,q⟩
  .cases e
 .rintro⟨x,l,n,d,m,h,t,o,e,q⟩;exact⟨t,o,by simp[n,m,h,e],q⟩
def jK:=λ{a b c d e f g h i}=>(@KN a b c d e f g h i).mpr
theorem qZ{k:Nat}{is:XG}{g:FG}:ef (lD a k is g J A) s C O↔aD a s C λt d=>∃j,t=.int j/\(j<400000/\ -(2^62)<=j)/\ug (lM g J A (gh k is s) (v5 0 j.toNat) d) O:=by
 unfold aD ef lD ug;constructor
 .rintro⟨t,m,e,q⟩;obtain⟨⟨x,d⟩,l,e⟩:=fE e;dsimp only at e;split at e
  .split at e
   .exact⟨_,d,l,_,rfl,‹_›,t,m,e,q⟩
   .cases e
  .cases e
 .rintro⟨x,d,l,j,rfl,h,t,m,e,q⟩;exact⟨t,m,by rw[l];exact(aWc h).trans e,q⟩
theorem U3{k:Nat}{is:XG}{g:FG}:ef (uJ a b k is g J A) s C O↔aD a s C λt n=>aD b s n λu m=>∃l,dm m t=some l/\∃d,dm m u=some d/\(tz l d).length<lim/\ug (lM g J A (gh k is s) (tz l d) m) O:=by
 unfold aD ef uJ ug;constructor
 .rintro⟨t,w,e,q⟩;obtain⟨⟨x,n⟩,v,e⟩:=fE e;obtain⟨⟨y,m⟩,r,e⟩:=fE e;obtain⟨l,p,e⟩:=fE e;obtain⟨d,o,e⟩:=fE e;split at e
  .exact⟨x,n,v,y,m,r,l,p,d,o,‹_›,t,w,e,q⟩
  .cases e
 .rintro⟨x,n,v,y,m,r,l,p,d,o,h,t,w,e,q⟩;exact⟨t,w,by simp[v,r,p,o,h,e],q⟩
theorem u6{k:Type}{g:FG}{en:k->T}{xs:List k}(p:k->Bool)(u:k->T)
 (h:∀x∈xs,oD g (en x) C s λl=>ia J l C λy o=>o=C/\y=p x/\(p x=true->aD A l C λt n=>n=C/\t=u x))
 (m:O ((xs.filter p).map u) C):ug (lM g J A s (xs.map en) C) O:=by
 refine⟨_,C,?_,m⟩;clear m;induction xs with
 |nil=>rfl
 |cons x xs ih=>
  obtain⟨l,z,y,o,w,rfl,rfl,r⟩:=h x bM;have ih:=ih λy q=>h y (bA _ q);rw[aK];unfold lM;rw[z,aS,w,aS];by_cases d:p x=true
  .obtain⟨t,n,v,rfl,rfl⟩:=r d;rw[aWc d,v,aS,ih,List.filter_cons_of_pos d,JU];rfl
  .rw[aWa d,JU,ih,List.filter_cons_of_neg d]
theorem iY{α:Type}{g:FG}{en:α->T}{xs:List α}(u:α->T)
 (h:∀x∈xs,oD g (en x) C s λd=>aD A d C λt m=>m=C/\t=u x)
 (l:O (xs.map u) C):ug (lM g jA A s (xs.map en) C) O:=
 u6 (λ_=>true) u (λx k=>let ⟨d,e,q⟩:=h x k;⟨d,e,true,C,rfl,rfl,rfl,λ_=>q⟩) (by rw[List.filter_eq_self.mpr (λ_ _=>rfl)];exact l)
theorem qE{n:Nat}:v5 lo n=(bH n).map fun(i:Nat)=>T.int (lo+(i:Int)):=rfl
theorem Lz{α d:Type}{f:α->T}{g:d->T}{xs:List α}{h:List d}:tz (xs.map f) (h.map g)=(xs.zip h).map λp=>.tup [f p.1,g p.2]:=by
 unfold tz;rw[List.zip_map,cK];rfl
theorem j4{B:FS}{m:Nat}{d:Xw}{t:T}(h:wpS B (ja m d) [] λl s C=>match l with
 | .rt r=>dr 3 C r=some t
 | .nx=>t=.aF
 |_=>False):kR B m d=some t:=by
 obtain⟨l,s,C,e,q⟩:=h;unfold kR;rw[e];cases l with
 |nx=>cases q;rfl
 |rt r=>exact q
 |_=>exact q.elim
end
variable{i j:Int}{c:Nat}
theorem iA{α:Type}{o:Option α}{y:α}{p:α->Prop}(e:o=some y):(∃x,o=some x/\p x)↔p y:=by
 constructor
 .rintro⟨x,a,h⟩;rw[e]at a;cases a;exact h
 .exact λh=>⟨y,e,h⟩
def Bt(k:Nat)(n:Int):Prop:=n.natAbs<2^k
theorem Bt.bits{n:Int}{k:Nat}(h:Bt k n):aWt.Int.intBits n<=k:=by
 unfold aWt.Int.intBits;unfold Bt at h;by_cases z:n=0
 .subst z;exact dF _
 .have:(n==0)=false:=by simpa using z
  rw[this];have:=(aUA (by lia)).mpr h;simp;exact bS this
theorem Bt.mono{n:Int}{k m:Nat}(h:Bt k n)(a:k<=m):Bt m n:=aM h (ZS (by decide) a)
theorem Bt.mul{x y:Int}{k m:Nat}(h:Bt k x)(a:Bt m y):Bt (k+m) (x*y):=by
 unfold Bt at*;rw[Int.natAbs_mul,Nat.pow_add];exact Nat.mul_lt_mul'' h a
theorem Bt.sub{x y:Int}{k:Nat}(h:Bt k x)(a:Bt k y):Bt (k+1) (x - y):=by
 show(x - y).natAbs<2^(k+1);rw[Nat.pow_succ,Nat.mul_two];exact bO (Int.natAbs_sub_le x y) (Nat.add_lt_add h a)
theorem Bt.of_lt{x:Int}{k:Nat}(b:0<=x)(a:x<2^k):Bt k x:=by
 unfold Bt;have:((x.natAbs:Nat):Int)<((2^k:Nat):Int):=by
  rw[aTv b];simpa using a
 exact mI this
theorem uQ{m n:Nat}(b:Bt m i)(a:Bt n j)(h:m+n<=134217728):oP i j=true:=by
 have b:=b.bits;have a:=a.bits;have d:aWt.Int.intTooBig (aWt.Int.intBits i+aWt.Int.intBits j)=false:=by
  unfold aWt.Int.intTooBig bitsLine;exact decide_eq_false (by lia)
 unfold oP;rw[d];simp
theorem jV(a:Bt 64 i):oP i j=true:=by
 have:=a.bits;unfold oP aYl;rw[show decide (aWt.Int.intBits i>64)=false from decide_eq_false (Yc this)];simp
theorem lB(a:Bt 64 j):oP i j=true:=by
 have:=a.bits;unfold oP aYl;rw[show decide (aWt.Int.intBits j>64)=false from decide_eq_false (Yc this)];simp
theorem Bt.mod{x m:Int}{k:Nat}(b:0<m)(a:m<=2^k):Bt k (x%m):=
 .of_lt (aUc _ (by lia)) (cG (aTJ _ b) a)
theorem CO{n:Nat}(a:0<=i)(h:i<n):jz n i=some i.toNat:=by
 unfold jz;rw[aWc a,aWc h]
theorem QB{n j:Nat}(h:j<n):jz n (j:Int)=some j:=by
 rw[CO (bN _) (iO h)];rfl
theorem sD{a:Type}{xs:List a}(b:0<=i):dc xs i=xs[i.toNat]?:=by
 unfold dc jz;rw[aWc b];by_cases h:i<xs.length
 .rw[aWc h];rfl
 .rw[aWa h,dJ (by lia)];rfl
theorem sF{a:Type}{xs:List a}{j:Nat}:dc xs (j:Int)=xs[j]?:=sD (bN _)
theorem CL{α:Type}{x:α}{xs:List α}:dc (x::xs) 0=some x:=by rw[sD (by decide)];rfl
theorem Cz{α:Type}{x y:α}{xs:List α}:dc (x::y::xs) 1=some y:=by rw[sD (by decide)];rfl
theorem Fq{α:Type}{x y z:α}{xs:List α}:dc (x::y::z::xs) 2=some z:=by rw[sD (by decide)];rfl
theorem Mq{x y:Int}:dc [T.int x,T.int y] (i%2)=some (.int (if i%2=0 then x else y)):=by
 rcases(by lia:i%2=0\/i%2=1)with h|h<;>rw[h]<;>rfl
theorem iQ:fc []=true:=by unfold fc;rfl
theorem gH{t:T}{ts:Xw}:fc (t::ts)=(CF t&&fc ts):=by rw[fc]
theorem iE:CF (.int i)=true:=by unfold CF;rfl
theorem nS{i:Bool}:CF (.bl i)=true:=by unfold CF;rfl
theorem iH{a:Xw}:CF (.lst a)=fc a:=by rw[CF]
theorem lW{a:Xw}:CF (.tup a)=fc a:=by rw[CF]
theorem RL:CF (.cell c)=false:=by unfold CF;rfl
theorem tG{a:Type}{f:a->T}{xs:List a}(h:∀x∈xs,CF (f x)=true):fc (xs.map f)=true:=Gx.mpr λt d=>by
 obtain⟨x,b,rfl⟩:=fY d;exact h x b
theorem jH{a:XE}:fc (a.map T.int)=true:=tG λ_ _=>iE
theorem j5{t:T}{n:Nat}{C:ab}(h:CF t=true):dr n C t=some t:=by
 cases n with
 |zero=>unfold dr;rw[aWc h]
 |succ n=>
  cases t with
  |cell c=>rw[RL]at h;cases h
  |lst a=>unfold dr;rw[iH]at h;rw[aWc h]
  |tup a=>unfold dr;rw[lW]at h;rw[aWc h]
  |_=>unfold dr;rw[aWc h]
theorem Ta{f:T->Xx}{a:Xw}(h:∀t∈a,f t=some t):b7 f a=some a:=by
 induction a with
 |nil=>rfl
 |cons t a ih=>unfold b7;rw[h t bM,aS,ih λu b=>h u (bA _ b)];rfl
theorem Gw{a:Xw}{n:Nat}{C:ab}(h:fc a=true):b7 (dr n C) a=some a:=Ta λt b=>j5 (Gx.mp h t b)
theorem tI{n:Nat}{C:ab}{ts:Xw}(e:lc C c=some ts)(h:fc ts=true):dr (n+1) C (.cell c)=some (.lst ts):=by
 unfold dr;rw[e,aS,Gw h];rfl
theorem Lo{f:T->Xx}:b7 f []=some []:=rfl
theorem lH{f:T->Xx}{t u:T}{a us:Xw}(h:f t=some u)(b:b7 f a=some us):b7 f (t::a)=some (u::us):=by
 unfold b7;rw[h,aS,b];rfl
theorem Sw{n:Nat}:eqT n (.int i) (.int j)=some (i==j):=by cases n<;>rfl
theorem p9{α:Type}{xs:List α}{f:α->Int}:gy (xs.map λx=>T.int (f x))=some (xs.map f):=by
 rw[show(xs.map λx=>T.int (f x))=(xs.map f).map T.int by simp];exact tH _
theorem RP{a:Type}{xs:List a}{f:a->Bool}:mw (xs.map λx=>T.bl (f x))=some (xs.map f):=by
 rw[show(xs.map λx=>T.bl (f x))=(xs.map f).map T.bl by simp];exact UO _
theorem vP{a:Type}{f:a->T}{xs:List a}{j:Nat}{x:a}:(xs.map f).set j (f x)=(xs.set j x).map f:=by rw[aUv]
theorem CN{n:Nat}(h:n<=1000):n<lim:=by unfold lim;exact bO h (by decide)
section
variable {g:aE}{C:ab}{a b c f s v w:FE}{A B fn:FN}{D H I:FB}{F G:FS}{lo r:FO}
variable {Q:T->ab->Prop}{J:Xw->ab->Prop}{K:Bool->ab->Prop}{QS:Fl->aE->ab->Prop}{QG:aE->Prop}{L:Xw->Prop}{QO:Option Int->ab->Prop}
variable{l h:Option Int}{p:Int×Int×Int}{ns:XE}{u:T}
def tq(f:FO)(g:aE)(C:ab)(Q:Option Int->ab->Prop):Prop:=∃o d,f g C=some (o,d)/\Q o d
theorem Je:tq oG g C QO↔QO none C:=by
 unfold tq oG;constructor
 .rintro⟨_,_,e,q⟩;cases e;exact q
 .exact λq=>⟨_,_,rfl,q⟩
def mT:=λ{a b c}=>(@Je a b c).mpr
theorem LK:tq (qC a) g C QO↔aD a g C λt d=>∃i,t=.int i/\QO (some i) d:=by
 unfold tq aD qC;constructor
 .rintro⟨t,m,e,q⟩;obtain⟨⟨x,d⟩,k,e⟩:=fE e;dsimp only at e;split at e
  .cases e;exact⟨_,_,k,_,rfl,q⟩
  .cases e
 .rintro⟨x,d,k,y,rfl,q⟩;exact⟨some y,d,by simp[k],q⟩
def j8:=λ{a b c d}=>(@LK a b c d).mpr
theorem IF:ef (sx a lo r) g C J↔aD a g C λt n=>tq lo g n λl m=>tq r g m λh k=>∃d,dm k t=some d/\J (Aw d l h) k:=by
 unfold ef aD tq sx;constructor
 .rintro⟨t,P,e,q⟩;obtain⟨⟨x,n⟩,O,e⟩:=fE e;obtain⟨⟨y,m⟩,N,e⟩:=fE e;obtain⟨⟨z,k⟩,M,e⟩:=fE e;obtain⟨d,o,e⟩:=fG e;cases e;exact⟨x,n,O,y,m,N,z,_,M,d,o,q⟩
 .rintro⟨x,n,O,y,m,N,z,k,M,d,o,q⟩;exact⟨_,k,by simp[O,N,M,o],q⟩
def mS:=λ{a b c d e f}=>(@IF a b c d e f).mpr
def zF{d:Type}(xs:List d)(lo r:Option Int):List d:=(xs.drop (HT.jb xs.length 0 lo)).take (HT.jb xs.length xs.length r - HT.jb xs.length 0 lo)
theorem qJ{d:Type}{f:d->T}{xs:List d}:Aw (xs.map f) l h=(zF xs l h).map f:=by
 unfold Aw zF;simp[aUn,aUo]
theorem K5{d:Type}{xs:List d}{x:d}(m:x∈zF xs l h):x∈xs:=aTw (aTx m)
theorem Th{d:Type}{xs:List d}:(zF xs l h).length<=xs.length:=by
 unfold zF;simp;lia
theorem Mb{d:Type}{xs:List d}{k:Int}(m:0<=k):zF xs (some k) none=xs.drop k.toNat:=by
 unfold zF;have e:HT.jb xs.length 0 (some k)=min k.toNat xs.length:=by
  show(if k<0 then(k+(xs.length:Int)).toNat else min k.toNat xs.length)=_;rw[aWa (i8 m)]
 rw[e,HT.KM];by_cases h:k.toNat<=xs.length
 .rw[ZX h,YF (by simp)]
 .rw[ZV (dY (ZW h)),Zc (by lia:xs.length<=xs.length),Zc (by lia:xs.length<=k.toNat)];simp
theorem Kj{d:Type}{xs:List d}{k:Int}(m:0<=k):zF xs none (some k)=xs.take k.toNat:=by
 unfold zF;have e:HT.jb xs.length xs.length (some k)=min k.toNat xs.length:=by
  show(if k<0 then(k+(xs.length:Int)).toNat else min k.toNat xs.length)=_;rw[aWa (i8 m)]
 rw[e,HT.KM,aUg,aUw];by_cases h:k.toNat<=xs.length
 .rw[ZX h]
 .rw[ZV (dY (ZW h)),YF (bD _),YF (dY (ZW h))]
noncomputable def pT(p:Int×Int):T:=.lst [.int p.1,.int p.2]
noncomputable def w3(p:Int×Int×Int):T:=.lst [.int p.1,.int p.2.1,.int p.2.2]
noncomputable def iT(ns:XE):T:=.lst (ns.map T.int)
theorem NP{p:Int×Int}:CF (pT p)=true:=by simp[pT,iH,gH,iQ,iE]
theorem FM:CF (w3 p)=true:=by simp[w3,iH,gH,iQ,iE]
theorem HM:CF (iT ns)=true:=by rw[iT,iH];exact jH
theorem oO{d:XB}:fc (d.map pT)=true:=tG λ_ _=>NP
theorem qX{ps:XA}:fc (ps.map w3)=true:=tG λ_ _=>FM
theorem PB{d:XD}:fc (d.map iT)=true:=tG λ_ _=>HM
theorem zC{n:Nat}{i j:Int}:eqT n (.int i) (.int j)=some (decide (i=j)):=by rw[Sw];congr 1
theorem JJ{d:Type}[DecidableEq d]{e:T->T->Option Bool}{f:d->T}(h:∀x y,e (f x) (f y)=some (decide (x=y))){y:d}:∀{xs:List d},xu (λu=>e u (f y)) (xs.map f)=some (decide (y∈xs))
 | []=>rfl
 |x::xs=>by
  rw[aK];unfold xu;rw[h,aS,JJ h];simp only[YT,dC.injEq,cC,aUj];congr 1;by_cases z:x=y
  .simp[z]
  .simp[z,show¬y=x from λq=>z q.symm]
theorem Sq{d:Type}[DecidableEq d]{n:Bool}{f:d->T}{y:d}{xs:List d}[Decidable (y∈xs)]{t:T}(h:∀x y,eqT 5 (f x) (f y)=some (decide (x=y)))(o:∀x,CF (f x)=true)(m:dr 3 C t=some (f y))(k:dm C u=some (xs.map f)):
 bf (sg n t u C) Q↔Q (.bl (if n then !decide (y∈xs)else decide (y∈xs))) C:=by
 rw[O8,iA m,iA k,iA (Gw (tG λx _=>o x)),iA ((JJ h).trans (congrArg some (decide_eq_decide.mpr X6)))]
theorem JA{d:Type}[DecidableEq d]{n:Bool}{f:d->T}{x y:d}{t:T}(h:∀x y,eqT 5 (f x) (f y)=some (decide (x=y)))(m:dr 3 C t=some (f x))(k:dr 3 C u=some (f y)):
 bf (qi n t u C) Q↔Q (.bl (if n then !decide (x=y)else decide (x=y))) C:=by
 rw[N0,iA m,iA k,iA (h x y)]
theorem GK{i j:Int}:bf (qi false (.int i) (.int j) C) Q↔Q (.bl (decide (i=j))) C:=JA (f:=T.int) (λ_ _=>zC) (j5 iE) (j5 iE)
def kS:=λ{a b c d}=>(@GK a b c d).mpr
theorem GC{i j:Int}:bf (qi true (.int i) (.int j) C) Q↔Q (.bl (!decide (i=j))) C:=JA (f:=T.int) (λ_ _=>zC) (j5 iE) (j5 iE)
theorem J6{n:Bool}{i:Int}(h:dm C u=some (ns.map T.int)):bf (sg n (.int i) u C) Q↔Q (.bl (if n then !decide (i∈ns)else decide (i∈ns))) C:=Sq (f:=T.int) (λ_ _=>zC) (λ_=>iE) (j5 iE) h
theorem UU{n:Bool}{i:Int}:bf (sg n (.int i) (.lst (ns.map T.int)) C) Q↔Q (.bl (if n then !decide (i∈ns)else decide (i∈ns))) C:=J6 rfl
theorem NI{x y:Bool}:(if false=true then x else y)=y:=rfl
theorem OF{x y:Bool}:(if true=true then x else y)=x:=rfl
instance{k:Nat}{n:Int}:Decidable (Bt k n):=by unfold Bt;infer_instance
theorem Bt.xi{k:Nat}{n:Int}(m:0<=n)(h:n<1024)(d:10<=k):Bt k n:=(Bt.of_lt (k:=10) m h).mono d
theorem TY{t:T}{d:Int}:bf (CM t (.int d) C) Q↔∃k,dm C t=some k/\∃ns,gy k=some ns/\Q (.int (lI d ns)) C:=by
 unfold bf CM;constructor
 .rintro⟨t,o,e,q⟩;obtain⟨k,n,e⟩:=fE e;obtain⟨ns,m,e⟩:=fG e;cases e;exact⟨k,n,ns,m,q⟩
 .rintro⟨k,n,ns,m,q⟩;exact⟨_,C,by simp[n,m],q⟩
theorem S2{d:Xw}:dm C (.lst d)=some d:=rfl
theorem SZ{d:Xw}:lc ((.l,d)::C) 0=some d:=rfl
theorem RC{x:Cl}{n:Nat}:lc (x::C) (n+1)=lc C n:=rfl
theorem Tu{c:Nat}:dm C (.cell c)=lc C c:=rfl
theorem Ro{d:Xw}:jg C (.lst d)=some d:=rfl
theorem SD{c:Nat}:jg C (.cell c)=lc C c:=rfl
theorem SV{d:Xw}:jg C (.tup d)=some d:=rfl
theorem PN{p:Int×Int}:jg C (pT p)=some [.int p.1,.int p.2]:=rfl
theorem NZ:jg C (w3 p)=some [.int p.1,.int p.2.1,.int p.2.2]:=rfl
theorem OX{p:XE}:jg C (iT p)=some (p.map T.int):=rfl
theorem NV{p:XE}:dm C (iT p)=some (p.map T.int):=rfl
theorem Pe{p:Int×Int}:dm C (pT p)=some [.int p.1,.int p.2]:=rfl
theorem P6:dm C (w3 p)=some [.int p.1,.int p.2.1,.int p.2.2]:=rfl
def B5(Q:Fl->aE->ab->Prop)(l:Fl)(g:aE)(C:ab):Prop:=match l with
 | .nx=>∃d,ft C g=some d/\Q .nx d []
 |l=>Q l g C
theorem Rb:B5 QS .nx g C↔∃d,ft C g=some d/\QS .nx d []:=X6
theorem SR{t:T}:B5 QS (.rt t) g C↔QS (.rt t) g C:=X6
theorem IX{b:Bool}:E0 C (.bl b)=some b:=rfl
end
variable{d:Type}{ps:XB}
theorem pB{B:FS}{m:Nat}{a:Xw}{P:T->Prop}(h:wpS B (ja m a) [] λl b C=>match l with
 | .rt r=>∃t,dr 3 C r=some t/\P t
 | .nx=>P .aF
 |_=>False):∃t,kR B m a=some t/\P t:=by
 obtain⟨l,b,C,e,q⟩:=h;unfold kR;rw[e];cases l with
 |nx=>exact⟨_,rfl,q⟩
 |rt r=>exact q
 |_=>exact q.elim
theorem uI{a:Type}{xs:List a}{i:Int}{y:a}:(b5 xs i y).length=xs.length+1:=by
 unfold b5;rw[aY,aN,eE,Zh];lia
theorem tJ{a:Type}{f:a->d}{xs:List a}{i:Int}{y:a}:b5 (xs.map f) i (f y)=(b5 xs i y).map f:=by
 unfold b5;simp[aUo,aUn]
theorem rX{a:Type}{xs:List a}{i:Int}{y:a}:(b5 xs i y).Perm (y::xs):=by
 unfold b5;refine List.perm_middle.trans ?_;rw[List.take_append_drop]
theorem GM{a:Type}{f:a->d}{xs:List a}{i:Int}:dc (xs.map f) i=(dc xs i).map f:=by
 unfold dc;rw[aP];cases jz xs.length i<;>simp
theorem Qo{a:Type}{xs:List a}{i:Int}(b:0<=i)(h:i<xs.length):dc xs i=some (xs[i.toNat]'(by lia)):=by
 rw[sD b,aO (by lia)]
theorem j0{x m:Int}(h:0<m):0<=x%m/\x%m<m:=⟨aUc _ (by lia),aTJ _ h⟩
theorem lK{x y:Int}(a:0<=x)(h:x<1024):oP x y=true:=jV (Bt.xi a h (by decide))
theorem mY{x y:Int}(a:0<=y)(h:y<1024):oP x y=true:=lB (Bt.xi a h (by decide))
theorem m9{p:Prop}[Decidable p](h:p):decide p=true:=decide_eq_true h
theorem Lw{n c:Nat}{C:ab}(e:lc C c=some (ps.map pT)):dr (n+1) C (.cell c)=some (.lst (ps.map pT)):=tI e oO
theorem o7{n c:Nat}{C:ab}{ps:XE}(e:lc C c=some (ps.map T.int)):dr (n+1) C (.cell c)=some (.lst (ps.map T.int)):=tI e jH
theorem w5{ns:XE}{i:Int}(a:0<=i)(h:i<ns.length):dc (ns.map T.int) i=some (.int (ns[i.toNat]'(by lia))):=by rw[GM,Qo a h];rfl
theorem So{a b:Int}:ps.map pT++[.lst [.int a,.int b]]=(ps++[(a,b)]).map pT:=by rw[bR];rfl
theorem F3{ps:XE}{a:Int}:ps.map T.int++[.int a]=(ps++[a]).map T.int:=by rw[bR];rfl
theorem HA{n:Nat}{C:ab}{vs:XE}:dr n C (.lst (vs.map T.int))=some (.lst (vs.map T.int)):=j5 (by rw[iH];exact jH)
theorem uR:∀{ns:XE},ns≠[]->wK ns∈ns/\∀a∈ns,a<=wK ns:=by
 have key:∀(ns:XE)(n:Int),(ns.foldl (λa b=>if b>a then b else a) n=n\/ns.foldl (λa b=>if b>a then b else a) n∈ns)/\n<=ns.foldl (λa b=>if b>a then b else a) n/\∀a∈ns,a<=ns.foldl (λa b=>if b>a then b else a) n:=by
  intro ns;induction ns with
  |nil=>intro n;simp
  |cons m ns ih=>
   intro n;rw[Zi];obtain⟨h1,g,h⟩:=ih (if m>n then m else n);by_cases k:m>n
   .rw[aWc k]at h1 g h|-;refine⟨?_,bU (cG k g),λa f=>?_⟩
    .rcases h1 with h1|h1
     .rw[h1];simp
     .exact .inr (bA _ h1)
    .rcases fU f with rfl|f
     .exact g
     .exact h a f
   .rw[aWa k]at h1 g h|-;refine⟨?_,g,λa f=>?_⟩
    .rcases h1 with h1|h1
     .exact .inl h1
     .exact .inr (bA _ h1)
    .rcases fU f with rfl|f
     .exact bG (gT k) g
     .exact h a f
 intro ns l;cases ns with
 |nil=>exact absurd rfl l
 |cons n ns=>
  obtain⟨h1,g,h⟩:=key ns n;refine⟨?_,λa f=>?_⟩
  .rcases h1 with h1|h1
   .show Zk (λa b=>if b>a then b else a) n ns∈n::ns;rw[h1];simp
   .exact bA _ h1
  .rcases fU f with rfl|f
   .exact g
   .exact h a f
end TL
section
open PySem L2 TL
local macro_rules
 | `(tactic|simp_arith[$xs,*])=>do
   let xs:Lean.TSyntaxArray [`Lean.Parser.Tactic.simpStar,`Lean.Parser.Tactic.simpErase,`Lean.Parser.Tactic.simpLemma]:=xs
   `(tactic|simp (maxSteps:=2000000) (disch:=first|assumption|decide) only[↓Rb,↓SR,↓PN,↓NZ,↓OX,↓NV,↓Pe,↓P6,↓TY,if_true,if_false,Bool.false_eq_true,↓UU,NI,OF,↓Je,↓LK,↓IF,↓GK,↓GC,↓yB,↓Fp,↓GH,↓Gc,↓Lf,↓Kr,↓KG,↓Gv,↓u8,↓KJ,↓LH,↓La,↓HE,↓p6,↓IW,↓II,↓JV,↓KR,↓Ju,↓vK,↓RF,↓KY,↓Ln,↓LU,↓RV,↓Q8,↓GJ,↓Ka,↓x6,↓Gk,↓JP,↓Sj,↓Si,↓RQ,↓VF,↓Lk,↓Kn,↓HK,↓Ol,↓Od,↓NQ,↓Nw,↓Gj,↓J4,↓LI,↓Kl,↓Ih,↓HY,↓uY,↓JX,↓Ks,↓yE,↓KC,↓Mj,↓wO,↓KN,↓qZ,↓U3,SZ,RC,Option.isSome_some,List.getElem?_cons_zero,List.getElem?_cons_succ,List.set_cons_zero,List.set_cons_succ,List.length_cons,List.length_nil,List.nil_append,List.cons_append,Option.some.injEq,T.int.injEq,T.bl.injEq,T.lst.injEq,T.cell.injEq,T.tup.injEq,exists_eq_left,exists_eq_left',exists_and_left,cu,Ro,SD,SV,S2,Tu,and_true,true_and,Nat.reduceAdd,$xs,*])
namespace aJ
open PySem L2 TL
variable{ns:XE}{Q:T->ab->Prop}
noncomputable def m7(ns:XE)(k:Int):Int:=(ns[k.toNat]?).getD 0
theorem Q1{k:Int}(a:0<=k):iW [.lst (ns.map T.int),.int k]=some (.int (m7 ns k)):=by
 apply j4;unfold LL;walk_at "a";simp_arith[if_true];simp only[aP];unfold m7;by_cases h:k<ns.length
 .rw[aWc (by simpa using h)];rw[sD a,bI,aO (by lia)];exact⟨_,rfl,j5 iE⟩
 .rw[aWa (by simpa using h)];rw[dJ (by lia)];exact j5 iE
theorem Ly{k:Int}{C:ab}(a:0<=k):bf (kU 2 iW [.lst (ns.map T.int),.int k] C) Q↔Q (.int (m7 ns k)) C:=gP (Q1 a) rfl (by walk_at "c")
noncomputable def D0(m n:Int):Bool:=decide (0<=n/\n<m)
theorem VS{m n:Int}:m6 [.int m,.int n]=some (.bl (D0 m n)):=by
 apply j4;unfold MJ D0;walk_at "a";simp_arith[if_true];by_cases h:0<=n
 .rw[aWc (by simpa using h)];rw[j5 nS];simp[h]
 .rw[aWa (by simpa using h),j5 nS];simp[h]
theorem Wt{m n:Int}{C:ab}:bf (kU 2 m6 [.int m,.int n] C) Q↔Q (.bl (D0 m n)) C:=gP VS rfl (by walk_at "c")
end aJ
namespace TL
open PySem L2
section
variable {a:aE}{C:ab}{c:FB}{F:FS}{Q:Fl->aE->ab->Prop}
theorem Uy{n:Nat}(I:Nat->aE->ab->Prop){k:Nat}(t:k<n)(w:I k a C)
 (s:∀i a C,i<n->I i a C->ia c a C λb o=>if b=true then wpS F a o (λl f g=>match l with
  | .nx=>i+1<n/\I (i+1) f g
  | .ct=>i+1<n/\I (i+1) f g
  | .bk=>Q .nx f g
  | .rt v=>Q (.rt v) f g
  | .ex v=>Q (.ex v) f g)else Q .nx a o):wpS (nF c F (n - k)) a C Q:=by
 obtain⟨d,u⟩:∃d,n - k=d:=⟨_,rfl⟩;rw[u];induction d generalizing k a C with
 |zero=>lia
 |succ d ih=>
  obtain⟨b,o,j,h⟩:=s k a C t w;cases b with
  |false=>
   rw[aWa (by simp)]at h;exact⟨.nx,a,o,by unfold nF;rw[j];rfl,h⟩
  |true=>
   rw[aWc rfl]at h;obtain⟨l,f,g,m,h⟩:=h;cases l with
   |nx=>
    obtain⟨l,p,r,e,q⟩:=ih h.1 h.2 (by lia);exact⟨l,p,r,by unfold nF;rw[j,aS,aWc rfl,m,aS];exact e,q⟩
   |ct=>
    obtain⟨l,p,r,e,q⟩:=ih h.1 h.2 (by lia);exact⟨l,p,r,by unfold nF;rw[j,aS,aWc rfl,m,aS];exact e,q⟩
   |bk=>exact⟨.nx,f,g,by unfold nF;rw[j,aS,aWc rfl,m];rfl,h⟩
   |rt v=>exact⟨.rt v,f,g,by unfold nF;rw[j,aS,aWc rfl,m];rfl,h⟩
   |ex v=>exact⟨.ex v,f,g,by unfold nF;rw[j,aS,aWc rfl,m];rfl,h⟩
theorem W1{g:FG}{b:Xw}(f:∀t∈b,∀C,∃d,g t C a=some d):∀{C:ab},lM g jA (jL (iR f7)) a b C=some ((bH b.length).map (λi=>T.cell (C.length+i)),C++aT b.length (.l,[])):=by
 induction b with
 |nil=>intro C;simp[lM]
 |cons t b ih=>
  intro C;obtain⟨d,e⟩:=f t bM C;unfold lM;rw[e,aS];show(jA d C).bind _=_;have j:jL (iR f7) d C=some (.cell C.length,C++[(.l,[])]):=by
   unfold jL iR uZ f7;simp[lim]
  simp only[jA,aS,if_true,j];rw[ih λu h=>f u (bA _ h),HL (List.prefix_append _ _)];simp only[YT,aY,aN,aW,dH];congr 2
  .rw[Zy,aK,cK];simp only[aUt,ZJ.injEq,true_and];apply cU;intro i _;simp only[Yg];congr 1;lia
end
end TL
namespace aJ
open PySem L2 TL
variable{ps:XB}{nd:XD}{told o:XE}{w:Nat}
def Nd(ps:XB)(m:Nat)(nd:XD):Prop:=nd.length=m/\∀(b:Nat)(l:XE),nd[b]?=some l->l.length<=ps.length/\∀a,a∈l↔(a,(b:Int))∈ps
def fw(m:Nat)(ps:XB):Prop:=∀p∈ps,(0<=p.1/\p.1<m)/\(0<=p.2/\p.2<m)
theorem K1{m n:Int}(h:0<=n/\n<m):D0 m n=true:=m9 h
theorem wJ{m:Nat}(Q:m<=100)(R:ps.length<=1000)(K:fw m ps):∃t,iU [.int m,.lst (ps.map pT)]=some t/\∃nd,t=.lst (nd.map iT)/\Nd ps m nd:=by
 apply pB;unfold rY;walk_at "a";simp_arith[if_true];refine⟨by lia,?_⟩;refine⟨_,_,W1 (g:=gN 0) (λt P C=>⟨_,rfl⟩),?_⟩;simp only[v5,aP,Yi,aZ,aW,XT,Zd,cJ];refine lC (λi v C=>∃a b,v=[some (.int m),some (.lst (ps.map pT)),some (.cell m),a,b]/\∃d:XD,C=d.map (λl=>(Kd.l,l.map T.int))++[(.l,(bH m).map T.cell)]/\d.length=m/\
  ∀(b:Nat)(l:XE),d[b]?=some l->l.length<=i/\∀a,a∈l↔(a,(b:Int))∈ps.take i) ?_ ?_ ?_
 .refine⟨_,_,rfl,aT m [],by simp,by simp,λb l e=>?_⟩;rw[dR]at e;split at e
  .cases e;simp
  .cases e
 .rintro i ⟨x,y⟩ v C z ⟨a,b,rfl,d,rfl,f,r⟩;obtain⟨n,s⟩:=K _ (aX z);have S:i<ps.length:=(fK z).1;simp only at n s;unfold pY;obtain⟨y,rfl⟩:∃G:Nat,y=G:=⟨_,(bP s.1).symm⟩;have g:y<d.length:=by lia
  have N:lc (d.map (λl=>(Kd.l,l.map T.int))++[(.l,(bH m).map T.cell)]) m=some ((bH m).map T.cell):=by
   rw[oA];rw[bL (by simp[f])];simp[f]
  have B:lc (d.map (λl=>(Kd.l,l.map T.int))++[(.l,(bH m).map T.cell)]) y=some (d[y].map T.int):=by
   rw[oA];rw[aR (by simpa using g)];simp[g]
  have O:dc ((bH m).map T.cell) (y:Int)=some (.cell y):=by
   rw[sF,bI,eI (mI s.2)];rfl
  simp_arith[↓Wt,IX,K1 n,K1 s,↓iA N,↓iA O,↓J6 (show dm _ (T.cell y)=_ from B),Bool.not_true,Bool.not_false];have next:∀l,(∀c,c∈l↔c∈d[y]\/c=x)->l.length<=i+1->∀(b:Nat)(j:XE),(d.set y l)[b]?=some j->j.length<=i+1/\∀a,a∈j↔(a,(b:Int))∈ps.take (i+1):=by
   intro l J I b j e;have D:∀a,(a,(b:Int))∈ps.take (i+1)↔(a,(b:Int))∈ps.take i\/(a=x/\b=y):=λa=>by
    rw[X7,z];simp only[d9,XZ,eV,Zw.injEq];constructor
    .rintro(h| ⟨q,u⟩)
     .exact .inl h
     .exact .inr ⟨q,Z1.mp u⟩
    .rintro(h| ⟨q,u⟩)
     .exact .inl h
     .exact .inr ⟨q,by lia⟩
   by_cases A:b=y
   .subst A;rw[bT g]at e;cases e;refine⟨I,λa=>?_⟩;rw[J,D,(r b _ (aO g)).2];simp
   .rw[aQ (Ne.symm A)]at e;obtain⟨q,u⟩:=r b j e;refine⟨cY q,λa=>?_⟩;rw[D,u];simp[A]
  obtain⟨p,_⟩:=r y _ (aO g);split
  .rw[B];refine⟨rfl,_,rfl,by walk_at "b",trivial,_,_,rfl,d.set y (d[y]++[x]),?_,by simpa using f,next _ (λc=>by simp) (by simp;exact p)⟩;rw[F3,aTy _ _ (by simpa using g),aUv]
  .rename_i L;have H:x∈d[y]:=by simpa using L
   refine⟨trivial,_,_,rfl,d,rfl,f,λb l e=>?_⟩;have:=next d[y] (λc=>⟨.inl,λh=>h.elim id λh=>by rw[h];exact H⟩) (cY p) b l
   rw[Ze]at this;exact this e
 .rintro v C ⟨a,b,rfl,d,rfl,f,r⟩;simp_arith[if_true];refine⟨.lst (d.map iT),?_,d,rfl,f,λb l e=>?_⟩
  .unfold dr;rw[show lc (d.map (λl=>(Kd.l,l.map T.int))++[(.l,(bH m).map T.cell)]) m=some ((bH m).map T.cell)from by rw[oA,bL (by simp[f])];simp[f]];simp only[aS];rw[show b7 (dr 2 (d.map (λl=>(Kd.l,l.map T.int))++[(.l,(bH m).map T.cell)])) ((bH m).map T.cell)=some (d.map iT)from ?_]
   .rfl
   .have:∀(k:Nat),k<=m->b7 (dr 2 (d.map (λl=>(Kd.l,l.map T.int))++[(.l,(bH m).map T.cell)])) (((bH m).drop (m - k)).map T.cell)=some ((d.drop (m - k)).map iT):=by
     intro k;induction k with
     |zero=>intro _;rw[aUw,Zc (by simp),Zc (bZ f)];rfl
     |succ k ih=>
      intro M;have F:m - (k+1)<m:=by lia
      rw[YZ (by simpa using F),YZ (by lia:m - (k+1)<d.length),show m - (k+1)+1=m - k by lia];rw[aK,aK];refine lH ?_ (ih (cZ M));rw[Yh];refine tI ?_ jH;rw[oA];rw[aR (by simp;lia)];simp[f,F]
    have:=this m (bD _);simpa using this
  .have:=r b l e;rw[dE]at this;exact this
def Eg(nd:XD)(told:XE)(w:Nat):Prop:=(w:Int)∉told/\∀l,nd[w]?=some l->∀a∈l,a∈told
theorem y3(x:nd.length<=100)(s:∀l∈nd,l.length<=1000)(p:w<nd.length)(q:Eg nd told w)(u:∀v<w,¬Eg nd told v):
 oB [.lst (nd.map iT),.lst (told.map T.int)]=some (.int w):=by
 apply j4;unfold tW;walk_at "a";simp_arith[aP];refine⟨by lia,tS (λi m C=>C=[]/\∃a,m=[some (.lst (nd.map iT)),some (.lst (told.map T.int)),a]/\i<=w) ⟨rfl,_,rfl,dF _⟩ ?_ ?_⟩
 .rintro i m C y ⟨rfl,a,rfl,g⟩;have k:i<nd.length:=bO g p;have t:dc (nd.map iT) (0+(i:Int))=some (iT nd[i]):=by
   rw[cW,sF,bI,aO k];rfl
  have r:=s _ (e9 k);unfold rM;simp_arith[↓iA t];have fin:∀b:Bool,(b=true↔Eg nd told i)->if b=true then dr 3 [] (.int (0+(i:Int)))=some (T.int w)else∃a,[some (T.lst (nd.map iT)),some (T.lst (told.map T.int)),some (T.int (0+(i:Int)))]=[some (.lst (nd.map iT)),some (.lst (told.map T.int)),a]/\i+1<=w:=by
   intro b c;have f:i<w\/i=w:=by lia
   rcases f with h|h
   .rw[aWa (λz=>u i h (c.mp z))];exact⟨_,rfl,h⟩
   .subst h;rw[aWc (c.mpr q),cW];exact j5 iE
  by_cases j:(0+(i:Int))∈told
  .have d:=fin false (Iff.intro (λz=>nomatch z) (λz=>(z.1 (by simpa using j)).elim));rw[aWa (by simp)]at d;rw[aWa (by simpa using j)];exact d
  .rw[aWc (by simpa using j)];refine⟨by walk_at "b",iY (λa=>T.bl (decide (a∈told))) (λa _=>?_) ?_⟩
   .simp only[gh,aT,aK,bE,aZ,aV,aU,cD,cH,dA];simp_arith[if_true]
   rw[RP];refine⟨_,rfl,_,IX,?_⟩;have d:=fin (List.all (nd[i].map λa=>decide (a∈told)) id) (by
    rw[aUs,YH];constructor
    .intro h;refine⟨by simpa using j,λl e a n=>?_⟩;rw[aO k]at e;cases e;simpa using h a n
    .intro h a n;simpa using h.2 _ (aO k) a n)
   split at d
   .rename_i c;rw[aWc c];exact d
   .rename_i c;rw[aWa c];exact⟨rfl,d⟩
 .rintro m C ⟨rfl,a,rfl,g⟩;lia
theorem Lj{P:Nat->Prop}(h:∃n,P n):∃n,P n/\∀k<n,¬P k:=by
 obtain⟨n,d⟩:=h;induction n using Nat.strongRecOn with
 |_ n ih=>
  by_cases c:∃k,k<n/\P k
  .obtain⟨k,b,a⟩:=c;exact ih k b a
  .exact⟨n,d,λk b a=>c ⟨k,b,a⟩⟩
theorem Jx:∀(m:Nat)(l:XE),(∀w:Nat,w<m->(w:Int)∈l)->m<=l.length
 |0,_,_=>dF _
 |m+1,l,h=>by
  have a:=h m (bX _);have:=Jx m (l.erase m) λw b=>(aTz (by lia)).mpr (h w (cI b));rw[Zb a]at this;have:=aTl a;lia
theorem Gy:∀(m:Nat)(l:XE),l.Nodup->(∀x∈l,0<=x/\x<m)->l.length<=m
 |0,l,_,h=>by
  cases l with
  |nil=>simp
  |cons x l=>have:=h x bM;lia
 |m+1,l,b,h=>by
  by_cases c:(m:Int)∈l
  .have:=Gy m (l.erase m) (b.erase _) λx a=>by
    have f:=h x (List.mem_of_mem_erase a);have d:x≠m:=λz=>by subst z;exact(List.Nodup.mem_erase_iff b).mp a |>.1 rfl
    lia
   rw[Zb c]at this;lia
  .have:=Gy m l b λx a=>by
    have f:=h x a;have d:x≠m:=λz=>c (z ▸ a);lia
   exact cY this
def Au(ps:XB)(told:XE)(w:Nat):Prop:=(w:Int)∉told/\∀a,(a,(w:Int))∈ps->a∈told
theorem Nd.Hk{m:Nat}(h:Nd ps m nd)(i:w<m):Eg nd told w↔Au ps told w:=by
 have j:w<nd.length:=by rw[h.1];exact i
 have e:=aO j;obtain⟨_,f⟩:=h.2 w _ e;constructor
 .rintro⟨d,c⟩;exact⟨d,λa b=>c _ e a ((f a).mpr b)⟩
 .rintro⟨d,c⟩;refine⟨d,λl g a b=>?_⟩;rw[e]at g;cases g;exact c a ((f a).mp b)
def p3(ps:XB):Prop:=∃r:Int->Nat,∀p∈ps,r p.1<r p.2
theorem O7{m:Nat}(b:fw m ps)(c:p3 ps)(p:told.length<m):∃w,w<m/\Au ps told w:=by
 obtain⟨r,c⟩:=c;have d:∃w:Nat,w<m/\(w:Int)∉told:=cN λn=>by
  have:=Jx m told λw b=>cN λf=>n ⟨w,b,f⟩;exact absurd p (Yc this)
 obtain⟨k,⟨w,i,h,q⟩,s⟩:=Lj (P:=λk=>∃w:Nat,w<m/\(w:Int)∉told/\r w=k) (by obtain⟨w,i,h⟩:=d;exact⟨r w,w,i,h,rfl⟩);refine⟨w,i,h,λa j=>cN λf=>?_⟩;have g:=(b _ j).1;have l:=c _ j;simp only at g l;refine s (r a) (aM l (bZ q)) ⟨a.toNat,by lia,?_,?_⟩
 .rw[bP g.1];exact f
 .rw[bP g.1]
def As(ps:XB)(m:Nat)(o:XE):Prop:=∀(i:Nat)(x:Int),o[i]?=some x->∃w:Nat,x=w/\w<m/\Au ps (o.take i) w/\∀v<w,¬Au ps (o.take i) v
theorem As.snoc{m:Nat}(h:As ps m o)(b:w<m)(c:Au ps o w)(f:∀v<w,¬Au ps o v):As ps m (o++[(w:Int)]):=by
 intro i x e;by_cases a:i<o.length
 .rw[aR a]at e;rw[List.take_append_of_le_length (dY a)];exact h i x e
 .have d:i=o.length:=by
   have:=(fK e).1;simp at this;exact X2 (bJ this) (cT a)
  subst d;simp only[List.getElem?_concat_length,dC.injEq]at e;rw[List.take_left']
  .exact⟨w,e.symm,b,c,f⟩
  .rfl
theorem GV{m:Nat}(h:m<=8)(p:ps.length<=1000)(k:fw m ps)(y:p3 ps):∃t,pE [.int m,.lst (ps.map pT)]=some t/\∃o,t=.lst (o.map T.int)/\o.length=m/\As ps m o:=by
 obtain⟨_,G,nd,rfl,c⟩:=wJ (bB h (by decide)) p k;have u:=c.1;have s:∀{C Q},bf (kU 2 iU [.int m,.lst (ps.map pT)] C) Q↔Q (.lst (nd.map iT)) C:=gP G rfl (by rw[gH,gH,iQ,iH,iE,oO];rfl);apply pB;unfold zI;walk_at "a";simp_arith[↓s];refine⟨by walk_at "b",Uy (n:=10) (k:=0) (λi j C=>∃o:XE,j=[some (.int m),some (.lst (ps.map pT)),some (.lst (nd.map iT)),some (.cell 0)]/\C=[(.l,o.map T.int)]/\o.length=i/\i<=m/\As ps m o) (by decide) ⟨[],rfl,rfl,rfl,dF _,λi x e=>by simp at e⟩ ?_⟩;rintro i j C I ⟨o,rfl,rfl,g,A,n⟩;simp_arith[aP];by_cases f:i<m
 .obtain⟨w,⟨d,q⟩,D⟩:=Lj (O7 k y (told:=o) (bO (bZ g) f));have r:∀v<w,¬Au ps o v:=λv a z=>D v a ⟨Yy a d,z⟩;have F:=y3 (nd:=nd) (told:=o) (w:=w) (bB (bZ u) (bB h (by decide))) (λl H=>by
   obtain⟨b,B⟩:=gB H;have:=(c.2 b l B).1;exact bB this p) (by lia) ((c.Hk d).mpr q) (λv a z=>r v a ((c.Hk (Yy a d)).mp z))
  rw[aWc (m9 (iO (bO (bZ g) f)))];unfold vI;simp_arith[if_true];refine L3 rfl (lH (j5 (by rw[iH];exact PB)) (lH (o7 rfl) rfl)) ?_;refine⟨_,F,rfl,?_⟩;simp_arith[if_true];refine⟨by walk_at "b",bO (bS f) (bO h (by decide)),o++[(w:Int)],by rw[F3],by simp[g],f,n.snoc d q r⟩
 .rw[aWa (by simpa using(by lia:m<=o.length))];exact⟨_,o7 rfl,o,rfl,by lia,n⟩
structure CS(ps:XB)(m:Nat)(o:XE):Prop where
 len:o.length=m
 nd:o.Nodup
 hQ:∀x∈o,0<=x/\x<m
 all:∀w:Nat,w<m->(w:Int)∈o
 top:∀(j:Nat)(b:Int),o[j]?=some b->∀a,(a,b)∈ps->a∈o.take j
theorem As.zh{m:Nat}(h:As ps m o)(k:o.length=m):CS ps m o:=by
 have hQ:∀x∈o,0<=x/\x<m:=λx c=>by
  obtain⟨i,f⟩:=gB c;obtain⟨w,rfl,d,_⟩:=h i x f;exact⟨bN w,iO d⟩
 have nd:o.Nodup:=by
  refine Zx.mpr λi j f l s e=>?_;have q:=aO l;obtain⟨w,r,_,g,_⟩:=h j _ q;refine g.1 (aX (i:=i) ?_);rw[eR s,aO f,e,r]
 refine⟨k,nd,hQ,λw d=>cN λn=>?_,λj b e a p=>?_⟩
 .have:=Gy m ((w:Int)::o) (c7.mpr ⟨n,nd⟩) (λx c=>by
   rcases fU c with rfl|c
   .exact⟨bN w,iO d⟩
   .exact hQ x c)
  simp at this;lia
 .obtain⟨w,rfl,_,g,_⟩:=h j b e;exact g.2 a p
end aJ
namespace TL
open PySem L2
section
variable {a:aE}{C:ab}{b:FN}{x:XF}{F:FS}{Q:Fl->aE->ab->Prop}{c:String}
end
end TL
namespace aJ
open PySem L2 TL
variable{rs:XE}{ps:XB}
theorem Uq{i:Int}:u3 [.int i]=some (.bl true):=by
 apply j4;unfold J8;walk_at "a";simp_arith[E2];exact rfl
theorem Va{a:Int}{C:ab}{Q:T->ab->Prop}:bf (kU 1 u3 [.int a] C) Q↔Q (.bl true) C:=gP Uq rfl (by walk_at "c")
structure Rk(m:Nat)(rs:XE):Prop where
 len:rs.length=m
 nd:rs.Nodup
 hQ:∀x∈rs,0<=x/\x<m
theorem Rk.ins{m:Nat}{q:Int}(h:Rk m rs):Rk (m+1) (b5 rs q m):=by
 have p:=rX (xs:=rs) (i:=q) (y:=(m:Int));refine⟨by rw[uI,h.len],p.nodup_iff.mpr (c7.mpr ⟨λz=>?_,h.nd⟩),λx a=>?_⟩
 .have:=h.hQ _ z;exact absurd this.2 (Z2 ↑m)
 .rcases fU (p.mem_iff.mp a)with rfl|a
  .exact⟨bN m,iO (bX m)⟩
  .have:=h.hQ _ a;lia
def Al(rs:XE)(p:Int×Int):Prop:=∃i j:Nat,i<j/\rs[i]?=some p.1/\rs[j]?=some p.2
theorem Al.M9{m:Nat}(a:Rk m rs)(h:∀p∈ps,Al rs p):fw m ps:=λp b=>by
 obtain⟨i,j,_,d,c⟩:=h p b;exact⟨a.hQ _ (aX d),a.hQ _ (aX c)⟩
theorem Al.uy{m:Nat}(a:Rk m rs)(h:∀p∈ps,Al rs p):p3 ps:=by
 refine⟨λx=>rs.idxOf x,λp b=>?_⟩;obtain⟨i,j,g,f,d⟩:=h p b;have key:∀(k:Nat)(x:Int),rs[k]?=some x->rs.idxOf x=k:=λk x e=>by
  obtain⟨c,e⟩:=fK e;rw[<-e];exact a.nd.idxOf_getElem k c
 show rs.idxOf p.1<rs.idxOf p.2;rw[key i _ f,key j _ d];exact g
theorem GA{α:Type}{xs:List α}{f:α->Int}:(xs.map λx=>T.int (f x))=(xs.map f).map T.int:=by simp
end aJ
namespace aJ
open PySem L2 TL
variable{bs hs ns:XE}{d:Int}{c:XB}
noncomputable def aC(bs:XE)(x:Int):Int:=bs.getD x.toNat 0
theorem yX{x:Int}(a:0<=x)(h:x<bs.length):dc (bs.map T.int) x=some (.int (aC bs x)):=by
 rw[w5 a h];unfold aC;rw[cB,aO (by lia)];rfl
theorem yL{x y v:Int}(b:0<=x)(h:x<bs.length)(a:0<=y):aC (bs.set x.toNat v) y=if y=x then v else aC bs y:=by
 unfold aC;rw[cB,cB];by_cases e:y=x
 .subst e;rw[aWc rfl,bT (by lia)];rfl
 .rw[aWa e,aQ (by lia)]
theorem vG{P:Int->Prop}{x:Int}(h:∀b∈bs,P b)(a:P 0):P (aC bs x):=by
 unfold aC;rw[cB];cases e:bs[x.toNat]?with
 |none=>exact a
 |some b=>exact h b (aX e)
theorem jX{i:Nat}(h:i<bs.length):aC bs (i:Int)=bs[i]:=by
 unfold aC;rw[cB,cJ,aO h];rfl
theorem Rr(a:bs.length<=1000):l6 [.lst (bs.map T.int),.lst (hs.map T.int)]=some (.lst (((bs.zip hs).map λp=>p.1+p.2).map T.int)):=by
 apply j4;unfold sB;walk_at "a";simp_arith[Lz];refine⟨by rw[aP,X0];unfold lim;exact bO (d0 bs.length hs.length) (bO a (by decide)),iY (λp:Int×Int=>T.int (p.1+p.2)) (λp _=>?_) ?_⟩
 .simp only[gh,aT,aK,bE,aZ,aV,aU];simp_arith[if_true]
 .rw[GA];exact HA
theorem yO{n:Int}(h:n∈ns):n<=lI d ns:=by
 unfold lI;have a:ns≠[]:=by rintro rfl;simp at h
 rw[aWa (by simpa using a)];exact(uR a).2 n h
theorem sU:(ns=[]/\lI d ns=d)\/lI d ns∈ns:=by
 unfold lI;by_cases h:ns=[]
 .left;subst h;exact⟨rfl,rfl⟩
 .right;rw[aWa (by simpa using h)];exact(uR h).1
structure dg(c:XB)(hs:XE)(bs:XE):Prop where
 len:bs.length=hs.length
 pos:∀x,0<=aC bs x
 ge:∀p∈c,aC bs p.1+aC hs p.1<=aC bs p.2
 Hu:∀w:Nat,w<hs.length->aC bs w=0\/∃a,(a,(w:Int))∈c/\aC bs w=aC bs a+aC hs a
theorem WH(G:hs.length<=8)(Z:c.length<=1000)(D:fw hs.length c)(hr:p3 c)(hp:∀h∈hs,0<=h):
 ∃t,n6 [.lst (hs.map T.int),.lst (c.map pT)]=some t/\∃bs,t=.lst (bs.map T.int)/\dg c hs bs:=by
 obtain⟨_,e1,z,rfl,Y⟩:=wJ (bB G (by decide)) Z D;obtain⟨_,e2,o,rfl,N,ji⟩:=GV G Z D hr;have q:=ji.zh N;have w1:∀{C Q},bf (kU 2 iU [.int hs.length,.lst (c.map pT)] C) Q↔Q (.lst (z.map iT)) C:=gP e1 rfl (by rw[gH,gH,iQ,iH,iE,oO];rfl);have E:∀{C Q},bf (kU 2 pE [.int hs.length,.lst (c.map pT)] C) Q↔Q (.lst (o.map T.int)) C:=gP e2 rfl (by rw[gH,gH,iQ,iH,iE,oO];rfl);have ur:=Y.1;apply pB;unfold zA;walk_at "a";simp_arith[↓w1,↓E,aP];refine⟨by unfold lim;exact bO (bZ N) (bO G (by decide)),iY (λ_:Int=>T.int 0) (λi _=>?_) ?_⟩
 .simp only[gh,aT,aK,bE,aZ,aV,aU];simp_arith[if_true]
 simp_arith[if_true];refine lC (λi M C=>∃a,M=[some (.lst (hs.map T.int)),some (.lst (c.map pT)),some (.lst (o.map T.int)),some (.lst (z.map iT)),some (.cell 0),a]/\∃bs:XE,C=[(.l,bs.map T.int)]/\bs.length=hs.length/\(∀x,0<=aC bs x)/\
  ∀(j:Nat)(w:Int),j<i->o[j]?=some w->(∀a,(a,w)∈c->aC bs a+aC hs a<=aC bs w)/\(aC bs w=0\/∃a,(a,w)∈c/\aC bs w=aC bs a+aC hs a)) ?_ ?_ ?_
 .refine⟨_,rfl,aT hs.length 0,?_,by simp,λx=>vG (λb H=>by rw[List.eq_of_mem_replicate H];exact bK _) (bK _),λj w g=>absurd g (dP j)⟩;rw[aUd,aTK,N]
 .rintro i w M C n ⟨a,rfl,bs,rfl,s,K,L⟩;obtain⟨r,hw1⟩:=q.hQ w (aX n);have B:w.toNat<z.length:=by lia
  obtain⟨O,y⟩:=Y.2 w.toNat _ (aO B);rw[bP r]at y;have en:dc (z.map iT) w=some (iT z[w.toNat]):=by rw[sD r,bI,aO B];rfl
  generalize z[w.toNat]=l at O y en;unfold u7;simp_arith[↓iA en];refine⟨by walk_at "b",iY (λa:Int=>T.int (aC bs a+aC hs a)) (λa f=>?_) ?_⟩
  .have J:=(D _ ((y a).mp f)).1;simp only at J;have g1:=yX (bs:=bs) J.1 (by lia);have g2:=yX (bs:=hs) J.1 J.2;simp only[gh,aT,aK,bE,aZ,aV,aU,cD,cH,dA];simp_arith[↓iA g1,↓iA g2]
  .rw[GA,iA (tH _)];simp_arith[if_true];have ix:jz (bs.map T.int).length w=some w.toNat:=CO r (by simp;lia);rw[iA ix];obtain⟨v,F⟩:∃v,lI 0 (l.map λa=>aC bs a+aC hs a)=v:=⟨_,rfl⟩;rw[F];have v0:0<=v:=by
    rw[<-F];rcases sU (d:=0) (ns:=l.map λa=>aC bs a+aC hs a)with⟨_,h⟩|h
    .rw[h];exact bK _
    .obtain⟨a,_,e⟩:=fY h;rw[<-e];have:=K a;have:=vG (x:=a) hp (bK 0);lia
   have keep:∀(j:Nat)(u a:Int),j<=i->o[j]?=some u->(a,u)∈c->aC (bs.set w.toNat v) a=aC bs a:=by
    intro j u a g m f;have G:=q.top j u m a f;obtain⟨k,A⟩:=gB G;have P:k<j:=by
     have:=(fK A).1;simp at this;exact aM this (d0 j o.length)
    rw[eR P]at A;have ic:=(D _ f).1;rw[yL r (by lia) ic.1,aWa];rintro rfl;have:=(aTS (by have:=(fK A).1;exact this) q.nd).mp (A.trans n.symm);lia
   refine⟨trivial,_,rfl,bs.set w.toNat v,by rw[<-vP],by simpa using s,λx=>vG (λb H=>?_) (bK _),λj u g m=>?_⟩
   .rcases aS8 H with H|rfl
    .obtain⟨k,A⟩:=gB H;obtain⟨S,R⟩:=fK A;have:=K k;rw[jX S,R]at this;exact this
    .exact v0
   .obtain⟨lr,hu1⟩:=q.hQ u (aX m);by_cases U:j=i
    .subst U;rw[n]at m;cases m;have ev:aC (bs.set w.toNat v) w=v:=by rw[yL r (by lia) r,aWc rfl]
     rw[ev];refine⟨λa f=>?_,?_⟩
     .rw[keep j w a (bD _) n f,<-F];exact yO (iG ⟨a,(y a).mpr f,rfl⟩)
     .rcases sU (d:=0) (ns:=l.map λa=>aC bs a+aC hs a)with⟨_,h⟩|h
      .left;rw[<-F];exact h
      .right;obtain⟨a,f,e⟩:=fY h;exact⟨a,(y a).mp f,by rw[keep j w a (bD _) n ((y a).mp f),e,F]⟩
    .have ax:u≠w:=by
      rintro rfl;have:=(aTS (by have:=(fK m).1;exact this) q.nd).mp (m.trans n.symm);exact absurd this U
     have eu:aC (bs.set w.toNat v) u=aC bs u:=by rw[yL r (by lia) lr,aWa ax]
     obtain⟨h1,I⟩:=L j u (by lia) m;rw[eu];refine⟨λa f=>?_,?_⟩
     .rw[keep j u a (bJ g) m f];exact h1 a f
     .rcases I with I| ⟨a,f,e⟩
      .exact .inl I
      .exact .inr ⟨a,f,by rw[keep j u a (bJ g) m f];exact e⟩
 .rintro M C ⟨a,rfl,bs,rfl,s,K,L⟩;simp_arith[if_true];refine⟨_,o7 rfl,bs,rfl,s,K,λp X=>?_,λw n=>?_⟩
  .have I:=(D p X).2;have:=q.all p.2.toNat (by lia);rw[bP I.1]at this;obtain⟨j,g⟩:=gB this;exact(L j p.2 (fK g).1 g).1 p.1 X
  .obtain⟨j,g⟩:=gB (q.all w n);exact(L j w (fK g).1 g).2
noncomputable def bp(bs hs:XE):XE:=(bs.zip hs).map λp=>p.1+p.2
theorem Vj(e:n6 [.lst (hs.map T.int),.lst (c.map pT)]=some (.lst (bs.map T.int)))(f:bs.length<=1000):
 l5 [.lst (hs.map T.int),.lst (c.map pT)]=some (.int (lI 0 (bp bs hs))):=by
 have b:∀{C Q},bf (kU 2 n6 [.lst (hs.map T.int),.lst (c.map pT)] C) Q↔Q (.lst (bs.map T.int)) C:=gP e rfl (by rw[gH,gH,iQ,iH,iH,oO,jH];rfl);have a:∀{C Q},bf (kU 2 l6 [.lst (bs.map T.int),.lst (hs.map T.int)] C) Q↔Q (.lst ((bp bs hs).map T.int)) C:=gP (Rr f) rfl (by walk_at "c");apply j4;unfold LG;walk_at "a";simp_arith[↓b,↓a];rw[iA (tH _)];exact j5 iE
theorem o4(b:bs.length=hs.length){x:Int}:x∈bp bs hs↔∃w:Nat,w<hs.length/\x=aC bs w+aC hs w:=by
 unfold bp;rw[YO];constructor
 .rintro⟨p,g,rfl⟩;obtain⟨w,a⟩:=gB g;rw[Za]at a;obtain⟨h,j⟩:=fK a.1;obtain⟨f,i⟩:=fK a.2;exact⟨w,f,by rw[jX h,jX f,j,i]⟩
 .rintro⟨w,a,rfl⟩;refine⟨(bs[w]'(aM a (bZ (eS b))),hs[w]),aX (i:=w) ?_,?_⟩
  .rw[Za];exact⟨aO (aM a (bZ (eS b))),aO a⟩
  .rw[jX (aM a (bZ (eS b))),jX a]
def Mx(S:Int->Prop)(d:Int):Prop:=0<=d/\(∀x,S x->x<=d)/\(d=0\/S d)
theorem Mx.uniq{S:Int->Prop}{f:Int}(h:Mx S d)(g:Mx S f):d=f:=by
 obtain⟨l,k,b⟩:=h;obtain⟨j,i,a⟩:=g;apply cA
 .rcases b with rfl|b
  .exact j
  .exact i _ b
 .rcases a with rfl|a
  .exact l
  .exact k _ a
theorem dg.Dk(h:dg c hs bs)(g:∀x∈hs,0<=x):Mx (λx=>∃w:Nat,w<hs.length/\x=aC bs w+aC hs w) (lI 0 (bp bs hs)):=by
 have a:=h.len;have b:∀w,0<=aC bs w+aC hs w:=λw=>by
  have:=h.pos w;have:=vG (x:=w) g (bK 0);lia
 refine⟨?_,λx f=>yO ((o4 a).mpr f),?_⟩
 .rcases sU (d:=0) (ns:=bp bs hs)with⟨_,e⟩|e
  .rw[e];exact bK _
  .obtain⟨w,_,e⟩:=(o4 a).mp e;rw[e];exact b _
 .rcases sU (d:=0) (ns:=bp bs hs)with⟨_,e⟩|e
  .exact .inl e
  .exact .inr ((o4 a).mp e)
end aJ
namespace aJ
open PySem L2 TL
def Ei(b:XB)(a:XE):Prop:=∀(j:Nat)(x y:Int),a[j]?=some x->a[j+1]?=some y->(x,y)∈b
end aJ
set_option maxHeartbeats 4000000
namespace aJ
open PySem L2 TL
end aJ
namespace TL
open PySem L2
section
variable {f:aE}{C:ab}{g m n:FE}{o:FN}{Q:T->ab->Prop}{QS:Fl->aE->ab->Prop}
theorem hW:wpS (Bl g m n) f C QS↔aD g f C λy D=>aD m f D λz B=>∃k i,y=.cell k/\z=.int i/\∃b,lc B k=some b/\∃x,dc b i=some (.int x)/\aD n f B λw A=>∃v,w=.int v/\∃a,lc A k=some a/\∃j,jz a.length i=some j/\QS .nx f (A.set k (.l,a.set j (.int (x+v)))):=by
 unfold aD wpS Bl;constructor
 .rintro⟨l,t,J,e,q⟩;obtain⟨⟨I,D⟩,u,e⟩:=fE e;obtain⟨⟨H,B⟩,s,e⟩:=fE e;dsimp only at e;split at e
  .obtain⟨b,r,e⟩:=fE e;obtain⟨F,p,e⟩:=fE e;split at e
   .obtain⟨⟨G,A⟩,h,e⟩:=fE e;dsimp only at e;split at e
    .obtain⟨a,d,e⟩:=fE e;obtain⟨j,c,e⟩:=fG e;cases e;exact⟨_,_,u,_,_,s,_,_,rfl,rfl,b,r,_,p,_,_,h,_,rfl,a,d,j,c,q⟩
    .cases e
   .cases e
  .cases e
 .rintro⟨_,_,u,_,_,s,k,i,rfl,rfl,b,r,x,p,_,_,h,v,rfl,a,d,j,c,q⟩;exact⟨_,_,_,by rw[u,aS,s,aS];dsimp only;rw[r,aS,p,aS];dsimp only;rw[h,aS];dsimp only;rw[d,aS,c];rfl,q⟩
theorem hJ:aD (uA o) f C Q↔ef o f C λa c=>a.length<=lim/\Q (.tup a) c:=by
 unfold aD ef uA pJ;constructor
 .rintro⟨t,d,e,q⟩;obtain⟨⟨a,c⟩,b,e⟩:=fE e;dsimp only at e;split at e
  .cases e;exact⟨a,_,b,‹_›,q⟩
  .cases e
 .rintro⟨a,c,b,h,q⟩;exact⟨_,_,by rw[b];exact aWc h,q⟩
def lS:=λ{a b c d}=>(@hJ a b c d).mpr
end
end TL
namespace aJ
open PySem L2 TL
end aJ
namespace aJ
open PySem L2 TL
variable{r:Int×XE}{rows:List (Int×XE)}
noncomputable def v3(rows:List (Int×XE))(w:Nat):Int:=(rows.map λr=>r.1*(r.2.count (w:Int):Int)).sum
noncomputable def rT(r:Int×XE):T:=.lst (.int r.1::r.2.map T.int)
theorem OB:rT r=iT (r.1::r.2):=rfl
theorem NL:CF (rT r)=true:=by rw[OB];exact HM
theorem OH:fc (rows.map rT)=true:=tG λ_ _=>NL
theorem Pu{a:Int}{b:XE}:Aw (T.int a::b.map T.int) (some 1) none=b.map T.int:=by
 rw[show T.int a::b.map T.int=(a::b).map T.int from rfl,qJ,Mb (by decide)];rfl
theorem Wp{m:Nat}(t:m<=100)(s:∀r∈rows,∀w∈r.2,0<=w/\w<(m:Int)):
 o5 [.int m,.lst (rows.map rT)]=some (.lst (((bH m).map (v3 rows)).map T.int)):=by
 apply j4;unfold Mp;walk_at "a";simp_arith[↓hW,↓hJ];refine⟨by lia,?_⟩;rw[qE];refine iY (λ_=>T.int 0) (λi _=>?_) ?_
 .simp only[gh,aT,aK,bE,aZ,aV,aU,cD,cH,dA];simp_arith[↓hW,↓hJ]
 simp_arith[↓hW,↓hJ];refine lC (λi c C=>∃a b:Xx,c=[some (.int m),some (.lst (rows.map rT)),some (.cell 0),a,b]/\C=[(.l,((bH m).map (v3 (rows.take i))).map T.int)]) ⟨_,_,rfl,by simp[v3]⟩ ?_ ?_
 .rintro i ⟨a,d⟩ c C l ⟨_,_,rfl,rfl⟩;have n:=s _ (aX l);simp only at n;unfold xB rT;simp_arith[↓hW,↓hJ,Pu];refine lC (λj c C=>∃b:Xx,c=[some (.int m),some (.lst (rows.map rT)),some (.cell 0),some (rT (a,d)),b]/\C=[(.l,((bH m).map λw=>v3 (rows.take i) w+a*((d.take j).count (w:Int):Int)).map T.int)]) ⟨_,rfl,by simp⟩ ?_ ?_
  .rintro j x c C h ⟨_,rfl,rfl⟩;obtain⟨q,p⟩:=n x (aX h);obtain⟨w,rfl⟩:∃w:Nat,x=w:=⟨_,(bP q).symm⟩;have g:w<m:=mI p;unfold wY rT;have o:dc (((bH m).map λw=>v3 (rows.take i) w+a*((d.take j).count (w:Int):Int)).map T.int) (w:Int)=some (.int (v3 (rows.take i) w+a*((d.take j).count (w:Int):Int))):=by
    rw[sF,bI,bI,eI g];rfl
   simp_arith[↓hW,↓hJ,↓iA o,↓iA (CL (x:=T.int a) (xs:=d.map T.int))];refine⟨_,o,?_⟩;rw[iA (QB (by simpa using g))];refine⟨trivial,_,rfl,?_⟩;congr 1;congr 1;rw[vP (f:=T.int)];congr 1;apply aTT;intro v;by_cases k:v=w
   .subst k;rw[bT (by simpa using g),bI,eI g];simp only[YT,dC.injEq];rw[X7,h];simp only[d9,aTU,List.count_singleton_self]
    push_cast
    rw[Z5];lia
   .rw[aQ (Ne.symm k),bI,bI];by_cases f:v<m
    .rw[eI f];simp only[YT,dC.injEq];rw[X7,h];simp only[d9,aTU];rw[aTA,aWa (by simp;lia)];simp
    .rw[dJ (by simp;exact cT f)];rfl
  .rintro c C ⟨_,rfl,rfl⟩;refine⟨trivial,_,_,rfl,?_⟩;congr 4;funext w;unfold v3;rw[X7,l];simp[dE]
 .rintro c C ⟨_,_,rfl,rfl⟩;simp_arith[↓hW,↓hJ];rw[dE];exact o7 rfl
theorem Ws{m:Nat}{C:ab}{Q:T->ab->Prop}(b:m<=100)(a:∀r∈rows,∀w∈r.2,0<=w/\w<(m:Int)):
 bf (kU 2 o5 [.int m,.lst (rows.map rT)] C) Q↔Q (.lst (((bH m).map (v3 rows)).map T.int)) C:=
 gP (Wp b a) rfl (by rw[gH,gH,iQ,iH,iE,OH];rfl)
end aJ
namespace aJ
open PySem L2 TL
theorem KD{f:T->Xx}:∀{b a:Xw},b.length=a.length->(∀(i:Nat)(t u:T),b[i]?=some t->a[i]?=some u->f t=some u)->b7 f b=some a
 | [],[],_,_=>rfl
 |t::b,u::a,c,h=>lH (h 0 t u rfl rfl) (KD (by simpa using c) λi t u g d=>h (i+1) t u g d)
end aJ
set_option maxHeartbeats 1000000
namespace aJ
open PySem L2 TL
variable{w:Int×Int×Int}
noncomputable def g9(w:Int×Int×Int)(x:Int):Int:=if x<=w.2.2 then x*w.1 else w.2.2*(w.1 - w.2.1)+x*w.2.1
def WB(w:Int×Int×Int):Prop:=Bt 300 w.1/\Bt 300 w.2.1/\Bt 300 w.2.2
theorem Xg{x:Int}(d:WB w)(a:Bt 1000 x):nM [w3 w,.int x]=some (.int (g9 w x)):=by
 obtain⟨c,b,f⟩:=d;apply j4;unfold uT g9;walk_at "a";simp_arith[↓hW,↓hJ,w3,↓iA (CL (α:=T)),↓iA (Cz (α:=T)),↓iA (Fq (α:=T))];by_cases h:x<=w.2.2
 .rw[aWc (m9 h),aWc h];exact⟨uQ a c (by decide),j5 iE⟩
 .rw[aWa (by simpa using h),aWa h];exact⟨uQ f (c.sub b) (by decide),uQ a b (by decide),j5 iE⟩
theorem W3{x:Int}{C:ab}{Q:T->ab->Prop}(b:WB w)(a:Bt 1000 x):bf (kU 2 nM [w3 w,.int x] C) Q↔Q (.int (g9 w x)) C:=gP (Xg b a) rfl (by rw[gH,gH,iQ,FM,iE];rfl)
def Gi(a:XA)(rows:List (Int×XE))(e:Int):Int:=((a.zip ((bH a.length).map (v3 rows))).map λp=>g9 p.1 p.2).sum - e*(rows.map (·.1)).sum
end aJ
namespace aJ
open PySem L2 TL
end aJ
namespace aJ
open PySem L2 TL
end aJ
namespace aJ
open PySem L2 TL
end aJ
namespace aJ
open PySem L2 TL
end aJ
namespace aJ
open PySem L2 TL
theorem Km{a:Type}{xs:List a}{i:Int}(b:0<=i)(h:i<xs.length):∃t∈xs,dc xs i=some t:=
 ⟨xs[i.toNat]'(by lia),e9 _,by rw[sD b,aO (by lia)]⟩
def Sm(n:Int):Prop:=0<=n/\n<2147483587
theorem Sm.bt{n:Int}(h:Sm n):Bt 31 n:=.of_lt h.1 (by have:=h.2;exact cG this (by decide))
theorem tM{a k:Int}(g:Bt 20 k):∃t,kZ [.int a,.int k]=some t/\∃r,t=.int r/\Sm r:=by
 apply pB;unfold Le;walk_at "a";simp_arith[↓hW,↓hJ];have f:=j0 (x:=a*48271+k*k*69621+3) (m:=2147483647) (by decide);generalize (a*48271+k*k*69621+3)%2147483647=b at f;have d:=j0 (x:=b*b) (m:=2147483629) (by decide);have j:Bt 31 b:=.of_lt f.1 (cG f.2 (by decide));generalize b*b%2147483629=c at d;have h:=j0 (x:=c*c) (m:=2147483587) (by decide);have i:Bt 31 c:=.of_lt d.1 (cG d.2 (by decide));exact⟨lB (.of_lt (by decide) (by decide)),jV (g.mono (by decide)),lB (.of_lt (by decide) (by decide)),by decide,jV (j.mono (by decide)),by decide,jV (i.mono (by decide)),by decide,_,j5 iE,_,rfl,h⟩
noncomputable def oJ(a k:Int):Int:=if h:Bt 20 k then aUJ (YD (tM (a:=a) h)).2 else 0
theorem Sb{a k:Int}(h:Bt 20 k):kZ [.int a,.int k]=some (.int (oJ a k)):=by
 unfold oJ;rw[dif_pos h];have e:=(YD (tM (a:=a) h)).1;have b:=(YD (YD (tM (a:=a) h)).2).1;rw[<-b];exact e
theorem DU{a k:Int}:Sm (oJ a k):=by
 unfold oJ;split
 .rename_i h;exact(YD (YD (tM (a:=a) h)).2).2
 .exact⟨by decide,by decide⟩
theorem qF{a k:Int}{C:ab}{Q:T->ab->Prop}(h:Bt 20 k):bf (kU 2 kZ [.int a,.int k] C) Q↔Q (.int (oJ a k)) C:=gP (Sb h) rfl (by walk_at "c")
theorem WK{ns:XE}(v:ns.length<=63):∃t,pF [.lst (ns.map T.int)]=some t/\∃xs:XE,t=.lst (xs.map T.int)/\xs.length=40/\∀x∈xs,Sm x:=by
 apply pB;unfold ME;walk_at "a";simp_arith[↓hW,↓hJ,aP];refine⟨by decide,?_⟩;rw[qE];refine iY (λi=>T.int (oJ (m7 ns 0) (90+(0+(i:Int))))) (λi n=>?_) ?_
 .have n:=iC n;have r:Bt 20 (90+(0+(i:Int))):=.xi (bG (b9 (bN i)) (cO (by decide))) (by lia) (by decide);simp only[gh,aT,aK,bE,aZ,aV,aU,cD,cH,dA];simp_arith[↓hW,↓hJ,↓Ly,↓qF]
 rw[show(Zl (fun(i:Nat)=>T.int (oJ (m7 ns 0) (90+(0+(i:Int))))) (bH (X5 40)))=((bH 40).map fun(i:Nat)=>oJ (m7 ns 0) (90+(0+(i:Int)))).map T.int by simp];obtain⟨d,c⟩:∃d,((bH 40).map fun(i:Nat)=>oJ (m7 ns 0) (90+(0+(i:Int))))=d:=⟨_,rfl⟩;have m:d.length=40:=by rw[<-c];simp
 have p:∀x∈d,Sm x:=by
  rw[<-c];intro x k;obtain⟨i,_,rfl⟩:=fY k;exact DU
 rw[c];refine⟨by lia,tS (λi j C=>∃a b:Xx,j=[some (.lst (ns.map T.int)),some (.cell 0),a,b]/\∃xs:XE,C=[(.l,xs.map T.int)]/\xs.length=40/\∀x∈xs,Sm x) ⟨_,_,rfl,d,rfl,m,p⟩ ?_ ?_⟩
 .rintro i j C n ⟨_,_,rfl,xs,rfl,f,o⟩;have r:Bt 20 (2+(i:Int)):=.xi (bG (bN i) (cO (by decide))) (by lia) (by decide);have g:=j0 (x:=2+(i:Int)) (m:=40) (by decide);unfold uV;generalize l:(2+(i:Int))%40=q at g;have u:=w5 (ns:=xs) (i:=q) g.1 (by lia);have s:=w5 (ns:=ns) (i:=2+(i:Int)) (bG (bN i) (cO (by decide))) (by lia);simp_arith[↓hW,↓hJ,l,↓iA u,↓iA s,↓qF];refine⟨by decide,?_⟩;rw[iA (CO g.1 (by simp[f];exact g.2))];refine⟨_,_,rfl,xs.set q.toNat _,by rw[vP (f:=T.int)],by simpa using f,λx k=>?_⟩;rcases aS8 k with h|h
  .exact o x h
  .rw[h];exact DU
 .rintro j C ⟨_,_,rfl,xs,rfl,f,o⟩;simp_arith[↓hW,↓hJ];exact⟨_,o7 rfl,xs,rfl,f,o⟩
theorem Mi{c:Int}{m:Nat}(g:m<=8):∃t,nP [.int c,.int m]=some t/\∃rs:XE,t=.lst (rs.map T.int)/\Rk m rs:=by
 apply pB;unfold KL;walk_at "a";simp_arith[↓hW,↓hJ];refine⟨by walk_at "b",by lia,tS (λi d C=>∃(a:Xx),d=[some (.int c),some (.int m),some (.cell 0),a]/\∃rs:XE,C=[(.l,rs.map T.int)]/\Rk i rs) ⟨_,rfl,[],rfl,⟨rfl,.nil,by simp⟩⟩ ?_ ?_⟩
 .rintro i d C h ⟨a,rfl,rs,rfl,b⟩;have j:Bt 20 (0+(i:Int)):=.xi (b9 (bN i)) (by lia) (by decide);have k:=b.len;unfold z7;simp_arith[↓hW,↓hJ,↓qF];have f:=j0 (x:=oJ c (0+(i:Int))) (m:=0+(i:Int)+1) (dX (b9 (bN i)));generalize oJ c (0+(i:Int))%(0+(i:Int)+1)=q at f;refine⟨by walk_at "b",⟨by walk_at "b",YU (bC (cO f.1) (YV (by decide) q)),by lia⟩,_,rfl,b5 rs q (i:Int),by rw[cW,<-tJ],b.ins⟩
 .rintro d C ⟨a,rfl,rs,rfl,b⟩;simp_arith[↓hW,↓hJ];exact⟨_,o7 rfl,rs,rfl,by simpa using b⟩
end aJ
namespace aJ
open PySem L2 TL
theorem S5{d:XA}{a b c:Int}:d.map w3++[T.lst [.int a,.int b,.int c]]=(d++[(a,b,c)]).map w3:=by
 rw[bR];rfl
theorem IU{n:Nat}{C:ab}{a us:Xw}(h:b7 (dr n C) a=some us):dr (n+1) C (.tup a)=some (.tup us):=by
 unfold dr;split
 .rename_i b;rw[Gw b]at h;cases h;rfl
 .rw[h];rfl
end aJ
namespace aJ
open PySem L2 TL
variable{ws:XA}{w:Int×Int×Int}{Q:T->ab->Prop}
theorem DB{b:XE}{a:XB}:fc [.lst (b.map T.int),.lst (a.map pT)]=true:=by rw[gH,gH,iQ,iH,iH,jH,oO];rfl
theorem zH(a:ws.length<=1000):mU [.lst (ws.map w3)]=some (.lst ((ws.map (·.2.1)).map T.int)):=by
 apply j4;unfold uB;walk_at "a";simp_arith[↓hW,↓hJ];refine⟨CN (by simpa using a),iY (λw=>T.int w.2.1) (λw _=>?_) ?_⟩
 .simp only[gh,aT,aK,bE,aZ,aV,aU,cD,cH,dA];simp_arith[↓hW,↓hJ,w3,↓iA (Cz (α:=T))]
 .rw[GA,HA]
theorem Xb:nB [w3 w]=some (.int (if w.2.2=0 then w.2.1 else w.1)):=by
 apply j4;unfold vJ;walk_at "a";simp_arith[↓hW,↓hJ,w3,↓iA (CL (α:=T)),↓iA (Cz (α:=T)),↓iA (Fq (α:=T))];by_cases h:w.2.2=0
 .rw[aWc (m9 h),aWc h];exact j5 iE
 .rw[aWa (by simpa using h),aWa h];exact j5 iE
theorem xQ{C:ab}(a:ws.length<=1000):bf (kU 1 mU [.lst (ws.map w3)] C) Q↔Q (.lst ((ws.map (·.2.1)).map T.int)) C:=gP (zH a) rfl (by rw[gH,iQ,iH,qX];rfl)
theorem yY{C:ab}:bf (kU 1 nB [w3 w] C) Q↔Q (.int (if w.2.2=0 then w.2.1 else w.1)) C:=gP Xb rfl (by rw[gH,iQ,FM];rfl)
def CU(m:Nat)(a:XB):Prop:=WQ [.int m,.lst (a.map pT)]=some "NoOrder"
section
variable {ws:XA}{a:XB}{e:Int}(hl:ws.length<=1000)(h:CU ws.length a)
include hl h
end
end aJ
namespace aJ
open PySem L2 TL
variable{f:XB}{d:XA}{z:Int}
theorem MA{l bs:XE}(hm:l.length<=8)(hl:f.length<=1000)(E:fw l.length f)(hr:p3 f)(hp:∀h∈l,0<=h)(M:dg f l bs):
 mN [.lst (l.map T.int),.lst (f.map pT)]=some (.int (lI 0 (bp bs l))):=by
 obtain⟨_,e2,o,rfl,ho,ji⟩:=GV hm hl E hr;have H:=ji.zh ho;apply j4;unfold Mh;walk_at "a";simp_arith[↓hW,↓hJ,aP];refine⟨by walk_at "b",iY (λ_:Int=>T.int 0) (λi _=>?_) ?_⟩
 .simp only[gh,aT,aK,bE,aZ,aV,aU,cD,cH,dA];simp_arith[↓hW,↓hJ]
 simp_arith[↓hW,↓hJ,aP];rw[show(Zl (λ_=>T.int 0) l)=(aT l.length (0:Int)).map T.int by rw[aUd,aTK]];refine⟨by lia,tS (λk y C=>∃a b c:Xx,y=[some (.lst (l.map T.int)),some (.lst (f.map pT)),some (.cell 0),a,b,c]/\∃g:XE,C=[(.l,g.map T.int)]/\g.length=l.length/\(∀x:Int,0<=x->x<l.length->0<=aC g x/\aC g x<=aC bs x)/\∀(j:Nat)(w:Int),j<k->o[j]?=some w->aC g w=aC bs w) ?_ ?_ ?_⟩
 .refine⟨_,_,_,rfl,aT l.length 0,rfl,by simp,λx J G=>?_,λj w m=>absurd m (dP j)⟩;have:aC (aT l.length 0) x=0:=by
   unfold aC;rw[cB,dR,aWc (by lia)];rfl
  rw[this];exact⟨bK _,M.pos x⟩
 .rintro k y C hk ⟨_,_,_,rfl,g,rfl,B,r,t⟩;have hk:k<l.length:=by lia
  have n:o[k]?=some o[k]:=aO (by lia);generalize o[k]=u at n;unfold xD;simp_arith[↓hW,↓hJ];refine lC (λi y C=>∃b c:Xx,y=[some (.lst (l.map T.int)),some (.lst (f.map pT)),some (.cell 0),some (.int (0+(k:Int))),b,c]/\∃g:XE,C=[(.l,g.map T.int)]/\g.length=l.length/\(∀x:Int,0<=x->x<l.length->0<=aC g x/\aC g x<=aC bs x)/\(∀(j:Nat)(w:Int),j<k->o[j]?=some w->aC g w=aC bs w)/\∀p∈f.take i,p.2=u->aC bs p.1+aC l p.1<=aC g u) ⟨_,_,rfl,g,rfl,B,r,t,by simp⟩ ?_ ?_
  .rintro i p y C hi ⟨_,_,rfl,g,rfl,B,r,t,L⟩;have N:=aX hi;obtain⟨G,F⟩:=E p N;have g1:=yX (bs:=g) F.1 (by lia);have g2:=yX (bs:=g) G.1 (by lia);have g3:=yX (bs:=l) G.1 G.2;unfold xN;simp_arith[↓hW,↓hJ,pT,↓iA g1,↓iA g2,↓iA g3];rw[iA (CO F.1 (by simp[B];exact F.2))];obtain⟨v,hv⟩:∃v,max (aC g p.2) (aC g p.1+aC l p.1)=v:=⟨_,rfl⟩;rw[hv];have xx:=M.ge p N;have q1:=r p.1 G.1 G.2;have q2:=r p.2 F.1 F.2;have hh:0<=aC l p.1:=vG hp (bK 0);have S:∀x:Int,0<=x->aC (g.set p.2.toNat v) x=if x=p.2 then v else aC g x:=λx J=>yL F.1 (by lia) J
   refine⟨trivial,_,_,rfl,g.set p.2.toNat v,by rw[vP (f:=T.int)],by simpa using B,λx J h3=>?_,λj w m D=>?_,λq I A=>?_⟩
   .rw[S x J];have:=r x J h3;split
    .rename_i e;subst e;lia
    .exact this
   .obtain⟨w0,w1⟩:=H.hQ w (aX D);rw[S w w0];have:=t j w m D;split
    .rename_i e;subst e;lia
    .exact this
   .obtain⟨K,Y⟩:=H.hQ u (aX n);rw[X7,hi]at I;simp only[d9,XZ,eV]at I;rw[S u K];rcases I with I|rfl
    .have:=L q I A;split
     .rename_i e;subst e;lia
     .exact this
    .rw[aWc A.symm];have Q:=H.top k u n q.1 (by rw[<-A];exact N);obtain⟨j,m⟩:=gB Q;have U:j<k:=by have:=(fK m).1;simp at this;exact aM this (d0 k o.length)
     rw[eR U]at m;have:=t j q.1 U m;lia
  .rintro y C ⟨_,_,rfl,g,rfl,B,r,t,L⟩;rw[dE]at L;refine⟨_,_,_,rfl,g,rfl,B,r,λj w m D=>?_⟩;by_cases e:j=k
   .subst e;rw[n]at D;cases D;obtain⟨K,Y⟩:=H.hQ u (aX n);have O:=r u K Y;have X:=M.Hu u.toNat (by lia);rw[bP K]at X;rcases X with h| ⟨a,Q,h⟩
    .exact cA O.2 (bG (dI h) O.1)
    .have:=L _ Q rfl;simp only at this;exact cA O.2 (bG (dI h) this)
   .exact t j w (bV (bJ m) e) D
 .rintro y C ⟨_,_,_,rfl,g,rfl,B,r,t⟩;have P:∀w:Nat,w<l.length->aC g w=aC bs w:=λw s=>by
   obtain⟨j,m⟩:=gB (H.all w s);exact t j w (by have:=(fK m).1;lia) m
  simp_arith[↓hW,↓hJ,aP];refine⟨by lia,?_⟩;rw[qE];refine iY (fun(w:Nat)=>T.int (aC bs w+aC l w)) (λw s=>?_) ?_
  .have s:w<l.length:=by simpa using s
   have g1:=yX (bs:=g) (x:=0+(w:Int)) (b9 (bN w)) (by lia);have g2:=yX (bs:=l) (x:=0+(w:Int)) (b9 (bN w)) (by lia);simp only[gh,aT,aK,bE,aZ,aV,aU,cD,cH,dA];simp_arith[↓hW,↓hJ,↓iA g1,↓iA g2];rw[cW,P w s]
  obtain⟨xs,R⟩:∃xs:XE,((bH l.length).map fun(w:Nat)=>aC bs w+aC l w)=xs:=⟨_,rfl⟩;have kn:xs.length=l.length:=by rw[<-R];simp
  have gq:∀x,x∈xs↔∃w:Nat,w<l.length/\x=aC bs w+aC l w:=λx=>by
   rw[<-R,YO];constructor
   .rintro⟨w,s,rfl⟩;exact⟨w,iC s,rfl⟩
   .rintro⟨w,s,rfl⟩;exact⟨w,lL s,rfl⟩
  rw[show(Zl (fun(w:Nat)=>T.int (aC bs w+aC l w)) (bH (l.length:Int).toNat))=xs.map T.int by rw[<-R];simp,F3,iA (tH _)];refine⟨by walk_at "b",by simp[lim,kn];exact bB hm (by decide),by simp,?_⟩;obtain⟨m1,Z⟩:=uR (ns:=xs++[0]) (by simp);have:wK (xs++[0])=lI 0 (bp bs l):=by
   refine Mx.uniq (S:=λx=>∃w:Nat,w<l.length/\x=aC bs w+aC l w) ⟨Z 0 (by simp),λx hx=>Z x (eX _ ((gq x).mpr hx)),?_⟩ (M.Dk hp);rcases fZ m1 with h|h
   .exact .inr ((gq _).mp h)
   .exact .inl (gO h)
  rw[this];exact j5 iE
noncomputable def jR(w:Int×Int×Int):Int:=if w.2.2=0 then w.2.1 else w.1
theorem WS(b:d.length<=1000)(h:l5 [.lst ((d.map (·.2.1)).map T.int),.lst (f.map pT)]=some (.int z)):i7 [.lst (d.map w3),.lst (f.map pT)]=some (.int z):=by
 have a:∀{C Q},bf (kU 2 l5 [.lst ((d.map (·.2.1)).map T.int),.lst (f.map pT)] C) Q↔Q (.int z) C:=gP h rfl DB;apply j4;unfold xF;walk_at "a";simp_arith[↓hW,↓hJ,↓xQ,↓a];exact j5 iE
theorem WM(b:d.length<=1000)(h:l5 [.lst ((d.map jR).map T.int),.lst (f.map pT)]=some (.int z)):l9 [.lst (d.map w3),.lst (f.map pT)]=some (.int z):=by
 have a:∀{C Q},bf (kU 2 l5 [.lst ((d.map jR).map T.int),.lst (f.map pT)] C) Q↔Q (.int z) C:=gP h rfl DB;apply j4;unfold zM;walk_at "a";simp_arith[↓hW,↓hJ];refine⟨CN (by simpa using b),iY (λw=>T.int (jR w)) (λw _=>?_) ?_⟩
 .simp only[gh,aT,aK,bE,aZ,aV,aU,cD,cH,dA];simp_arith[↓hW,↓hJ,↓yY];exact rfl
 .rw[show(d.map λw=>T.int (jR w))=(d.map jR).map T.int by simp];simp_arith[↓hW,↓hJ,↓a];exact j5 iE
theorem T7{y:Int}(a:d.length<=1000)(i:mN [.lst ((d.map (·.2.1)).map T.int),.lst (f.map pT)]=some (.int z))(g:mN [.lst ((d.map jR).map T.int),.lst (f.map pT)]=some (.int y)):
 pV [.lst (d.map w3),.lst (f.map pT)]=some (.tup [.int z,.int y]):=by
 have c:∀{C Q},bf (kU 2 mN [.lst ((d.map (·.2.1)).map T.int),.lst (f.map pT)] C) Q↔Q (.int z) C:=gP i rfl DB;have b:∀{C Q},bf (kU 2 mN [.lst ((d.map jR).map T.int),.lst (f.map pT)] C) Q↔Q (.int y) C:=gP g rfl DB;apply j4;unfold Kt;walk_at "a";simp_arith[↓hW,↓hJ];refine⟨CN (by simpa using a),iY (λw=>T.int w.2.1) (λw _=>?_) ?_⟩
 .simp only[gh,aT,aK,bE,aZ,aV,aU,cD,cH,dA];simp_arith[↓hW,↓hJ,w3,↓iA (Cz (α:=T))]
 rw[show(d.map λw=>T.int w.2.1)=(d.map (·.2.1)).map T.int by simp];simp_arith[↓hW,↓hJ,↓c];refine⟨CN (by simpa using a),iY (λw=>T.int (jR w)) (λw _=>?_) ?_⟩
 .simp only[gh,aT,aK,bE,aZ,aV,aU,cD,cH,dA];simp_arith[↓hW,↓hJ,w3,↓iA (Fq (α:=T))];unfold jR;by_cases h:w.2.2=0
  .rw[m9 h,aWc rfl,iA Cz,aWc h]
  .rw[decide_eq_false h,aWa (by decide),iA CL,aWa h]
 .rw[show(d.map λw=>T.int (jR w))=(d.map jR).map T.int by simp];simp_arith[↓hW,↓hJ,↓b];exact⟨by walk_at "b",j5 (by walk_at "c")⟩
end aJ
namespace NF
noncomputable def sm:Nat->XH->Int
 |0,_=>0
 |n+1,g=>sm n g+g n
theorem iX{n:Nat}{g g':XH}(h:∀k,k<n->g k=g' k):sm n g=sm n g':=by
 induction n with
 |zero=>rfl
 |succ n ih=>unfold sm;rw[ih λk a=>h k (cI a),h n (bX _)]
theorem xA{n:Nat}{g a:XH}(h:∀k,k<n->g k<=a k):sm n g<=sm n a:=by
 induction n with
 |zero=>exact bK _
 |succ n ih=>unfold sm;have:=ih λk b=>h k (cI b);have:=h n (bX _);lia
theorem NU{n:Nat}{g g':XH}:sm n (λk=>g k+g' k)=sm n g+sm n g':=by
 induction n with
 |zero=>rfl
 |succ n ih=>unfold sm;rw[ih];dsimp only;lia
theorem Qn{n:Nat}{g a:XH}:sm n (λk=>g k - a k)=sm n g - sm n a:=by
 induction n with
 |zero=>rfl
 |succ n ih=>unfold sm;rw[ih];dsimp only;lia
theorem lY{n:Nat}{g:XH}(h:∀k,k<n->g k=0):sm n g=0:=by
 induction n with
 |zero=>rfl
 |succ n ih=>unfold sm;rw[ih λk a=>h k (cI a),h n (bX _)];rfl
theorem n5{n:Nat}{g:XH}(h:∀k,k<n->0<=g k):0<=sm n g:=by
 induction n with
 |zero=>exact bK _
 |succ n ih=>unfold sm;have:=ih λk a=>h k (cI a);have:=h n (bX _);lia
theorem Jh{n:Nat}{g:XH}(h:∀k,k<n->0<=g k){k:Nat}(b:k<n):g k<=sm n g:=by
 induction n with
 |zero=>lia
 |succ n ih=>
  unfold sm;by_cases e:k=n
  .subst e;have:=n5 λj a=>h j (cI a);exact cO this
  .have:=ih (λj a=>h j (cI a)) (bV (bJ b) e);have:=h n (bX _);lia
noncomputable def up(f:XH)(k:Nat)(v:Int):XH:=λj=>if j=k then v else f j
theorem kY{f:XH}{k:Nat}{v:Int}:up f k v k=v:=by unfold up;rw[aWc rfl]
theorem uD{f:XH}{k j:Nat}{v:Int}(h:j≠k):up f k v j=f j:=by unfold up;rw[aWa h]
theorem HS{n:Nat}{f g:XH}{k:Nat}{v:Int}(a:k<n):sm n (λj=>up f k v j*g j)=sm n (λj=>f j*g j)+(v - f k)*g k:=by
 induction n with
 |zero=>lia
 |succ n ih=>
  unfold sm;dsimp only;by_cases e:k=n
  .subst e;rw[kY,iX (g':=λj=>f j*g j) (λj b=>by rw[uD (by lia)]),Yp];lia
  .rw[ih (bV (bJ a) e),uD (by lia)];lia
structure Nt where
 m:Nat
 t:Nat->Nat
 h:Nat->Nat
 d:XH
 c:XH
variable {N:Nt}{f c p q:XH}{a b x:Int}
variable{r:List (Nat×Bool)}
def jl(N:Nt)(f p:XH):Prop:=∀k,k<N.m->(f k<N.c k->p (N.t k)+N.d k<=p (N.h k))/\(0<f k->p (N.h k)<=p (N.t k)+N.d k)
def ke(N:Nt)(f:XH)(a:Int):Prop:=∀p:XH,sm N.m (λk=>f k*(p (N.h k) - p (N.t k)))=a*(p 1 - p 0)
def ni(N:Nt)(f:XH):Prop:=∀k,k<N.m->0<=f k/\f k<=N.c k
noncomputable def pos(x:Int):Int:=if 0<x then x else 0
theorem VX:0<=pos x:=by unfold pos;split<;>lia
theorem Pk:x<=pos x:=by unfold pos;split<;>lia
def len(N:Nt)(f:XH):Int:=sm N.m λk=>f k*N.d k
def cost(N:Nt)(p:XH):Int:=sm N.m λk=>N.c k*pos (N.d k - (p (N.h k) - p (N.t k)))
theorem gap(d:ke N f a)(p:XH):len N f - a*(p 1 - p 0)=sm N.m λk=>f k*(N.d k - (p (N.h k) - p (N.t k))):=by
 unfold len;rw[<-d p,<-Qn];exact iX λk _=>by rw[<-dL]
theorem weak(g:ke N f a)(h:ni N f)(p:XH):len N f - a*(p 1 - p 0)<=cost N p:=by
 rw[gap g];refine xA λk d=>?_;obtain⟨m,l⟩:=h k d;have j:f k*(N.d k - (p (N.h k) - p (N.t k)))<=f k*pos (N.d k - (p (N.h k) - p (N.t k))):=Z0 Pk m;have i:f k*pos (N.d k - (p (N.h k) - p (N.t k)))<=N.c k*pos (N.d k - (p (N.h k) - p (N.t k))):=dB l VX;exact bG j i
theorem ml(l:ke N f a)(m:ni N f)(j:jl N f p):len N f - a*(p 1 - p 0)=cost N p:=by
 rw[gap l];refine iX λk g=>?_;obtain⟨t,s⟩:=m k g;obtain⟨o,n⟩:=j k g;generalize u:N.d k - (p (N.h k) - p (N.t k))=y;unfold pos;by_cases d:0<y
 .rw[aWc d];have:f k=N.c k:=by
   by_cases h:f k<N.c k
   .have:=o h;lia
   .exact cA s (gT h)
  rw[this]
 .rw[aWa d,X4];by_cases i:y=0
  .rw[i,X4]
  .have:f k=0:=by
    by_cases h:0<f k
    .have:=n h;lia
    .exact cA (gT h) t
   rw[this,dZ]
noncomputable def rt(N:Nt)(e:Nat×Bool):Nat:=if e.2 then N.t e.1 else N.h e.1
noncomputable def rh(N:Nt)(e:Nat×Bool):Nat:=if e.2 then N.h e.1 else N.t e.1
noncomputable def rd(N:Nt)(e:Nat×Bool):Int:=if e.2 then N.d e.1 else - N.d e.1
noncomputable def rr(N:Nt)(f:XH)(e:Nat×Bool):Int:=if e.2 then N.c e.1 - f e.1 else f e.1
def Walk(N:Nt):List (Nat×Bool)->Nat->Nat->Prop
 | [],u,v=>u=v
 |e::r,u,v=>e.1<N.m/\rt N e=u/\Walk N r (rh N e) v
def pr(r:List (Nat×Bool))(x:Int)(f:XH):XH:=match r with
 | []=>f
 |e::r=>pr r x (up f e.1 (f e.1+if e.2 then x else -x))
theorem IY:∀{r:List (Nat×Bool)}{u v:Nat}{f:XH},Walk N r u v->∀p:XH,sm N.m (λk=>pr r x f k*(p (N.h k) - p (N.t k)))=sm N.m (λk=>f k*(p (N.h k) - p (N.t k)))+x*(p v - p u)
 | [],u,v,f,w,p=>by cases w;simp[pr]
 |e::r,u,v,f,⟨h,g,d⟩,p=>by
  show sm N.m (λk=>pr r x (up f e.1 _) k*_)=_;rw[IY d,HS h];subst g;unfold rt rh;cases e.2
  .simp only[cM,if_false];have:(f e.1+ -x - f e.1)*(p (N.h e.1) - p (N.t e.1))=x*p (N.t e.1) - x*p (N.h e.1):=by
    rw[show f e.1+ -x - f e.1= -x by lia,aUB,dL];lia
   rw[this,dL,dL];lia
  .simp only[if_true];have:(f e.1+x - f e.1)*(p (N.h e.1) - p (N.t e.1))=x*p (N.h e.1) - x*p (N.t e.1):=by
    rw[show f e.1+x - f e.1=x by lia,dL]
   rw[this,dL,dL];lia
theorem ke.pour(d:ke N f a)(w:Walk N r 0 1):ke N (pr r x f) (a+x):=λp=>by
 rw[IY w,d p,Ye]
theorem Fu:∀{r:List (Nat×Bool)}{f:XH}{k:Nat},(∀e∈r,e.1≠k)->pr r x f k=f k
 | [],_,_,_=>rfl
 |e::r,f,k,h=>by
  show pr r x (up f e.1 _) k=_;rw[Fu λg d=>h g (bA _ d),uD (λz=>h e bM z.symm)]
theorem Ic:∀{r:List (Nat×Bool)}{f:XH}{e:Nat×Bool},(r.map (·.1)).Nodup->e∈r->pr r x f e.1=f e.1+if e.2 then x else -x
 | [],_,_,_,h=>by cases h
 |e::r,f,g,d,h=>by
  rw[aK,c7]at d;show pr r x (up f e.1 _) g.1=_;rcases fU h with rfl|h
  .rw[Fu λe i z=>d.1 (iG ⟨e,i,z⟩),kY]
  .rw[Ic d.2 h,uD λz=>d.1 (iG ⟨g,h,z⟩)]
theorem aEl(i:(r.map (·.1)).Nodup)(f:XH)(x:Int)(k:Nat):(pr r x f k=f k/\∀e∈r,e.1≠k)\/∃b,(k,b)∈r/\pr r x f k=f k+if b then x else -x:=by
 by_cases h:∃e∈r,e.1=k
 .obtain⟨⟨g,b⟩,d,rfl⟩:=h;exact .inr ⟨b,d,Ic (e:=(g,b)) i d⟩
 .exact .inl ⟨Fu λe d z=>h ⟨e,d,z⟩,λe d z=>h ⟨e,d,z⟩⟩
theorem ni.pour(i:ni N f)(g:(r.map (·.1)).Nodup)(n:0<=x)(d:∀e∈r,x<=rr N f e):ni N (pr r x f):=λk h=>by
 obtain⟨m,l⟩:=i k h;rcases aEl g f x k with⟨e,_⟩| ⟨b,j,e⟩
 .rw[e];exact⟨m,l⟩
 .rw[e];have:=d _ j;unfold rr at this;cases b<;>simp at this|- <;>lia
def Tight(N:Nt)(p:XH)(r:List (Nat×Bool)):Prop:=∀e∈r,p (rt N e)+rd N e=p (rh N e)
theorem jl.pour(g:jl N f p)(h:(r.map (·.1)).Nodup)(d:Tight N p r):jl N (pr r x f) p:=λk i=>by
 obtain⟨m,l⟩:=g k i;rcases aEl h f x k with⟨e,_⟩| ⟨b,j,e⟩
 .rw[e];exact⟨m,l⟩
 .have:=d _ j;unfold rt rd rh at this;cases b<;>simp at this<;>exact⟨λ_=>by lia,λ_=>by lia⟩
theorem cut(o:ke N f a)(s:ni N f)(n:jl N f p)(W:Nat->Bool)(m:∀k,k<N.m->W k=false->q (N.t k)+N.d k<=q (N.h k))(u:p 0<=q 0)(t:q 1<p 1):
 a<=sm N.m λk=>if W k then N.c k else 0:=by
 have g:=o λv=>if q v<p v then 1 else 0
 simp only[aWc t,aWa (i8 u)]at g;rw[show a=a*(1 - 0)by lia,<-g];refine xA λk i=>?_;obtain⟨c1,c2⟩:=s k i;obtain⟨w,j⟩:=n k i;by_cases z:f k=0
 .rw[z,dZ];split<;>lia
 .have j:=j (by lia);cases l:W k
  .have:=m k i l;have:¬(¬q (N.t k)<p (N.t k)/\q (N.h k)<p (N.h k)):=by lia
   simp only[cM,if_false];by_cases h:q (N.h k)<p (N.h k)
   .by_cases d:q (N.t k)<p (N.t k)
    .rw[aWc h,aWc d];lia
    .exact absurd ⟨d,h⟩ this
   .rw[aWa h];by_cases d:q (N.t k)<p (N.t k)
    .rw[aWc d];lia
    .rw[aWa d];lia
  .rw[aWc rfl];by_cases h:q (N.h k)<p (N.h k)
   .by_cases d:q (N.t k)<p (N.t k)
    .rw[aWc h,aWc d];lia
    .rw[aWc h,aWa d];lia
   .by_cases d:q (N.t k)<p (N.t k)
    .rw[aWa h,aWc d];lia
    .rw[aWa h,aWa d];lia
theorem VP(o:ke N f a)(s:∀k,k<N.m->0<=f k)(d:XH)(h:∀k,k<N.m->d (N.t k)<d (N.h k)){j:Nat}(l:j<N.m)(u:d 0<d (N.h j))(t:d (N.h j)<=d 1):f j<=a:=by
 have g:=o λv=>if d (N.h j)<=d v then 1 else 0
 simp only[aWc t,aWa (jZ u)]at g;rw[show a=a*(1 - 0)by lia,<-g];have m:∀k,k<N.m->0<=f k*((if d (N.h j)<=d (N.h k)then(1:Int)else 0) - if d (N.h j)<=d (N.t k)then 1 else 0):=λk i=>by
  refine X3 (s k i) ?_;have:=h k i;split<;>split<;>lia
 have n:=h j l;have:=Jh m l;rw[aWc (bK _),aWa (jZ n)]at this;lia
end NF
namespace NF
variable {N:Nt}{f p q st:XH}{a e x:Int}{n:Nat}
def In(N:Nt)(n:Nat):Prop:=∀k,k<N.m->N.t k<n/\N.h k<n
structure g7(N:Nt)(n:Nat)(f st p:XH):Prop where
 ge:∀v,v<n->st v<=p v
 ij:jl N f p
 le:∀q,(∀v,v<n->st v<=q v)->jl N f q->∀v,v<n->p v<=q v
def g6(N:Nt)(f:XH)(o:Nat×Bool):Prop:=o.1<N.m/\0<rr N f o
theorem Ko:jl N f p↔∀o,g6 N f o->p (rt N o)+rd N o<=p (rh N o):=by
 constructor
 .rintro h ⟨k,b⟩ ⟨g,c⟩;obtain⟨d,i⟩:=h k g;unfold rr at c;unfold rt rd rh;cases b
  .simp only[cM,if_false]at c|-;have:=i c;lia
  .simp only[if_true]at c|-;exact d (Int.lt_of_sub_pos c)
 .intro h k g;refine⟨λd=>?_,λd=>?_⟩
  .have:=h (k,true) ⟨g,by unfold rr;simp only[if_true];exact d7 d⟩;simpa only[rt,rd,rh,if_true]using this
  .have:=h (k,false) ⟨g,by unfold rr;simp only[cM,if_false];exact d⟩;simp only[rt,rd,rh,cM,if_false]at this;lia
def mF:=λ{a b c}=>(@Ko a b c).mp
def nH:=λ{a b c}=>(@Ko a b c).mpr
theorem TJ{o:Nat×Bool}(d:jl N f q)(g:g6 N f o)(b:∀v,v<n->p v<=q v)(h:rt N o<n):∀v,v<n->up p (rh N o) (p (rt N o)+rd N o) v<=q v:=λv c=>by
 unfold up;split
 .rename_i z;subst z;have:=mF d o g;have:=b _ h;lia
 .exact b v c
theorem reach(L:g7 N n f st p)(r:In N n)(l:1<n)(R:Nat->Prop)(j:∀v,v<n->p v=st v->R v)(k:∀o,g6 N f o->R (rt N o)->p (rt N o)+rd N o=p (rh N o)->R (rh N o)):R 1:=by
 by_cases c:R 1
 .exact c
 .exfalso;have key:=L.le (λv=>open Classical in if R v then p v else p v - 1) (λv b=>?_) (nH λo d=>?_) 1 l
  .simp only[aWa c]at key;exact absurd key (jZ (aUe (p 1) (by decide)))
  .have:=L.ge v b;try dsimp only
   split
   .exact this
   .rename_i z;have:p v≠st v:=λw=>z (j v b w);lia
  .have h:=mF L.ij o d;have m:=k o d;try dsimp only
   split
   .rename_i i;split
    .exact h
    .rename_i g;have:p (rt N o)+rd N o≠p (rh N o):=λw=>g (m i w);lia
   .split<;>lia
theorem Sn(d:jl N f p)(c:jl N f q)(x:Int):jl N f λv=>if p v<q v - x then q v - x else p v:=nH λo b=>by
 have:=mF d o b;have:=mF c o b;try dsimp only
 split<;>split<;>lia
end NF
namespace NF
structure Wk where
 u:XH
 l:XH
 p:XH
noncomputable def net(w:Wk)(n:Nat)(es:XC)(P:Int):Nt where
 m:=4*n+es.length
 t k:=if k<4*n then(match k%4 with|0=>0|1=>2*(k/4)+2|2=>2*(k/4)+2|_=>2*(k/4)+3)else 2*((es[k - 4*n]?).getD (0,0)).1+3
 h k:=if k<4*n then(match k%4 with|0=>2*(k/4)+2|1=>2*(k/4)+3|2=>2*(k/4)+3|_=>1)else 2*((es[k - 4*n]?).getD (0,0)).2+2
 d k:=if k<4*n then(match k%4 with|1=>w.u (k/4)|2=>w.l (k/4)|_=>0)else 0
 c k:=if k<4*n/\k%4=1 then w.p (k/4)else P
variable {w:Wk}{n:Nat}{es:XC}{P:Int}{f p q:XH}{a:Int}
variable{r:XH}{i:Nat}
inductive Pipe(w:Wk)(n:Nat)(es:XC)(P:Int)(k:Nat):Prop where
 |src (i:Nat) (hi:i<n) (e:k=4*i) (t:(net w n es P).t k=0) (h:(net w n es P).h k=2*i+2) (d:(net w n es P).d k=0) (c:(net w n es P).c k=P)
 |gr (i:Nat) (hi:i<n) (e:k=4*i+1) (t:(net w n es P).t k=2*i+2) (h:(net w n es P).h k=2*i+3) (d:(net w n es P).d k=w.u i) (c:(net w n es P).c k=w.p i)
 |gv (i:Nat) (hi:i<n) (e:k=4*i+2) (t:(net w n es P).t k=2*i+2) (h:(net w n es P).h k=2*i+3) (d:(net w n es P).d k=w.l i) (c:(net w n es P).c k=P)
 |eM (i:Nat) (hi:i<n) (e:k=4*i+3) (t:(net w n es P).t k=2*i+3) (h:(net w n es P).h k=1) (d:(net w n es P).d k=0) (c:(net w n es P).c k=P)
 |eW (x y:Nat) (j:Nat) (hj:es[j]?=some (x,y)) (e:k=4*n+j) (t:(net w n es P).t k=2*x+3) (h:(net w n es P).h k=2*y+2) (d:(net w n es P).d k=0) (c:(net w n es P).c k=P)
theorem pipe{k:Nat}(d:k<(net w n es P).m):Pipe w n es P k:=by
 have d:k<4*n+es.length:=d;by_cases b:k<4*n
 .have c:k/4<n:=by lia
  have hm:k%4=0\/k%4=1\/k%4=2\/k%4=3:=by lia
  rcases hm with hm|hm|hm|hm
  .exact .src (k/4) c (by lia) (by simp[net,b,hm]) (by simp[net,b,hm]) (by simp[net,b,hm]) (by simp[net,b,hm])
  .exact .gr (k/4) c (by lia) (by simp[net,b,hm]) (by simp[net,b,hm]) (by simp[net,b,hm]) (by simp[net,b,hm])
  .exact .gv (k/4) c (by lia) (by simp[net,b,hm]) (by simp[net,b,hm]) (by simp[net,b,hm]) (by simp[net,b,hm])
  .exact .eM (k/4) c (by lia) (by simp[net,b,hm]) (by simp[net,b,hm]) (by simp[net,b,hm]) (by simp[net,b,hm])
 .have g:k - 4*n<es.length:=by lia
  have e:es[k - 4*n]?=some (es[k - 4*n]):=aO g;exact .eW es[k - 4*n].1 es[k - 4*n].2 (k - 4*n) e (eS (eK (cT b))) (by simp[net,b,e]) (by simp[net,b,e]) (by simp[net,b,e]) (by simp[net,b,e])
theorem D3(m:∀e∈es,e.1<n/\e.2<n):In (net w n es P) (2*n+2):=λk g=>by
 cases pipe g with
 |src i b e t h d c=>rw[t,h];lia
 |gr i b e t h d c=>rw[t,h];lia
 |gv i b e t h d c=>rw[t,h];lia
 |eM i b e t h d c=>rw[t,h];lia
 |eW x y j l e t h d c=>have:=m _ (aX l);rw[t,h];lia
noncomputable def rk(n:Nat)(r:XH)(v:Nat):Int:=if v=0 then -1 else if v=1 then 2*n else if v%2=0 then 2*r (v/2 - 1)else 2*r (v/2 - 1)+1
theorem y6:rk n r (2*i+2)=2*r i:=by
 unfold rk;rw[aWa (by lia),aWa (by lia),aWc (by lia),show(2*i+2)/2 - 1=i by lia]
theorem xR:rk n r (2*i+3)=2*r i+1:=by
 unfold rk;rw[aWa (by lia),aWa (by lia),aWa (by lia),show(2*i+3)/2 - 1=i by lia]
theorem HP(g:∀i,i<n->0<=r i/\r i<n)(o:∀e∈es,r e.1<r e.2):∀k,k<(net w n es P).m->rk n r ((net w n es P).t k)<rk n r ((net w n es P).h k):=λk l=>by
 cases pipe l with
 |src i b e t h d c=>rw[t,h,y6];have:=g i b;show(-1:Int)<_;lia
 |gr i b e t h d c=>rw[t,h,y6,xR];exact dX (bK (2*r i))
 |gv i b e t h d c=>rw[t,h,y6,xR];exact dX (bK (2*r i))
 |eM i b e t h d c=>rw[t,h,xR];have:=g i b;show _<(2*n:Int);lia
 |eW x y j m e t h d c=>have:=o _ (aX m);rw[t,h,y6,xR];simp only at this;lia
theorem Sl(u:ke (net w n es P) f a)(z:ni (net w n es P) f)(g:∀i,i<n->0<=r i/\r i<n)(v:∀e∈es,r e.1<r e.2)(s:∀e∈es,e.1<n/\e.2<n){k:Nat}(l:k<(net w n es P).m):f k<=a:=by
 have up:=HP (w:=w) (P:=P) g v;have o:=up k l;refine VP u (λk l=>(z k l).1) (rk n r) up l ?_ ?_
 .cases pipe l with
  |src i b e t h d c=>rw[t]at o;exact o
  |gr i b e t h d c=>rw[h,xR];have:=g i b;show(-1:Int)<_;lia
  |gv i b e t h d c=>rw[h,xR];have:=g i b;show(-1:Int)<_;lia
  |eM i b e t h d c=>rw[h];show(-1:Int)<2*n;lia
  |eW x y j m e t h d c=>rw[h,y6];have:=g y (s _ (aX m)).2;show(-1:Int)<_;lia
 .show _<=(2*n:Int);cases pipe l with
  |src i b e t h d c=>rw[h,y6];have:=g i b;lia
  |gr i b e t h d c=>rw[h,xR];have:=g i b;lia
  |gv i b e t h d c=>rw[h,xR];have:=g i b;lia
  |eM i b e t h d c=>rw[h];exact bK _
  |eW x y j m e t h d c=>rw[h,y6];have:=g y (s _ (aX m)).2;lia
noncomputable def dq(n:Nat)(k:Nat):Bool:=decide (k<4*n/\k%4=1)
theorem yS{g:XH}{n:Nat}:sm (4*n) g=sm n λi=>g (4*i)+g (4*i+1)+g (4*i+2)+g (4*i+3):=by
 induction n with
 |zero=>rfl
 |succ n ih=>
  show sm (4*n) g+g (4*n)+g (4*n+1)+g (4*n+2)+g (4*n+3)=sm n (λi=>g (4*i)+g (4*i+1)+g (4*i+2)+g (4*i+3))+(g (4*n)+g (4*n+1)+g (4*n+2)+g (4*n+3));rw[ih];lia
theorem qY{g:XH}{n:Nat}:∀{j:Nat},sm (n+j) g=sm n g+sm j λi=>g (n+i)
 |0=>by show sm n g=sm n g+0;exact eS (dN (sm n g))
 |j+1=>by
  show sm (n+j) g+g (n+j)=sm n g+(sm j (λi=>g (n+i))+g (n+j));rw[qY];exact YA (sm n g) (sm j λi=>g (n+i)) (g (n+j))
theorem Qk:(sm (net w n es P).m λk=>if dq n k then(net w n es P).c k else 0)=sm n w.p:=by
 show sm (4*n+es.length) _=_;rw[qY,yS];rw[lY (n:=es.length) (λi b=>aWa (by simp[dq];lia)),dN];refine iX λi b=>?_;have h:dq n (4*i)=false:=by simp[dq]
 have g:dq n (4*i+1)=true:=by simp[dq];lia
 have d:dq n (4*i+2)=false:=by simp[dq]
 have c:dq n (4*i+3)=false:=by simp[dq]
 rw[h,g,d,c];simp only[cM,if_false,if_true];have:(net w n es P).c (4*i+1)=w.p i:=by
  show(if 4*i+1<4*n/\(4*i+1)%4=1 then w.p ((4*i+1)/4)else P)=_;rw[aWc (by lia),show(4*i+1)/4=i by lia]
 rw[this];lia
end NF
namespace NF
variable {w:Wk}{n:Nat}{es:XC}{P E:Int}{f p q b h:XH}{a:Int}
noncomputable def pf(E:Int)(b h:XH)(v:Nat):Int:=if v=0 then 0 else if v=1 then E else if v%2=0 then b (v/2 - 1)else b (v/2 - 1)+h (v/2 - 1)
theorem AQ{i:Nat}:pf E b h (2*i+2)=b i:=by
 unfold pf;rw[aWa (by lia),aWa (by lia),aWc (by lia),show(2*i+2)/2 - 1=i by lia]
theorem AV{i:Nat}:pf E b h (2*i+3)=b i+h i:=by
 unfold pf;rw[aWa (by lia),aWa (by lia),aWa (by lia),show(2*i+3)/2 - 1=i by lia]
theorem Hw:pf E b h 0=0:=rfl
theorem Hx:pf E b h 1=E:=rfl
structure yp(n:Nat)(es:XC)(E:Int)(b h:XH):Prop where
 b0:∀i,i<n->0<=b i
 e:∀i,i<n->b i+h i<=E
 ne:∀x∈es,b x.1+h x.1<=b x.2
theorem GI(T:yp n es E b h)(o:∀i,i<n->w.l i<=h i):∀k,k<(net w n es P).m->dq n k=false->pf E b h ((net w n es P).t k)+(net w n es P).d k<=pf E b h ((net w n es P).h k):=λk r m=>by
 cases pipe r with
 |src i l e t g d c=>rw[t,g,d,AQ,Hw];have:=T.b0 i l;exact YU (bC (Zr this 0) (YV (by decide) (b i)))
 |gr i l e t g d c=>
  have:dq n k=true:=by unfold dq;rw[decide_eq_true_iff];lia
  rw[this]at m;cases m
 |gv i l e t g d c=>rw[t,g,d,AQ,AV];have:=o i l;exact Ym this (b i)
 |eM i l e t g d c=>rw[t,g,d,AV,Hx];have:=T.e i l;exact YU (bC (Zr this 0) (YV (by decide) E))
 |eW x y j s e t g d c=>rw[t,g,d,AQ,AV];have:=T.ne _ (aX s);simp only at this;exact YU (bC (Zr this 0) (YV (by decide) (b y)))
theorem Wh(d:ke (net w n es P) f a)(g:ni (net w n es P) f)(c:jl (net w n es P) f p)(k:p 0<=0)(T:yp n es E b w.l)(j:E<p 1):a<=sm n w.p:=by
 rw[<-Qk (w:=w) (n:=n) (es:=es) (P:=P)];exact cut d g c (dq n) (GI T λi _=>bK _) k j
theorem plenty(l:ke (net w n es P) f a)(o:ni (net w n es P) f){r:XH}(d:∀i,i<n->0<=r i/\r i<n)(m:∀e∈es,r e.1<r e.2)(g:∀e∈es,e.1<n/\e.2<n)(s:a<P){k:Nat}(j:k<(net w n es P).m)(c:dq n k=false):f k<(net w n es P).c k:=by
 have:=Sl l o d m g j;have t:(net w n es P).c k=P:=by
  show(if k<4*n/\k%4=1 then _ else P)=P;rw[aWa];intro z;rw[show dq n k=true from decide_eq_true z]at c;cases c
 lia
theorem GB(z:jl (net w n es P) f p)(A:∀k,k<(net w n es P).m->dq n k=false->f k<(net w n es P).c k)(C:p 0=0)(F:∀e∈es,e.1<n/\e.2<n):
 (∀i,i<n->0<=p (2*i+2))/\(∀i,i<n->p (2*i+2)+w.l i<=p (2*i+3))/\(∀i,i<n->p (2*i+3)<=p 1)/\∀e∈es,p (2*e.1+3)<=p (2*e.2+2):=by
 have key:∀k,k<(net w n es P).m->dq n k=false->p ((net w n es P).t k)+(net w n es P).d k<=p ((net w n es P).h k):=λk l v=>(z k l).1 (A k l v);have r:(net w n es P).m=4*n+es.length:=rfl;refine⟨λi o=>?_,λi o=>?_,λi o=>?_,λe B=>?_⟩
 .have l:4*i<(net w n es P).m:=by rw[r];lia
  have:=key (4*i) l (by simp[dq]);cases pipe l with
  |src j g e t m d c=>obtain rfl:j=i:=(by lia);rw[t,m,d,C]at this;exact bG (bY this) (Yn (p (2*j+2)) (by decide))
  |gr j g e=>lia
  |gv j g e=>lia
  |eM j g e=>lia
  |eW x y j g e=>lia
 .have l:4*i+2<(net w n es P).m:=by rw[r];lia
  have:=key (4*i+2) l (by simp[dq]);cases pipe l with
  |src j g e=>lia
  |gr j g e=>lia
  |gv j g e t m d c=>obtain rfl:j=i:=(by lia);rw[t,m,d]at this;exact this
  |eM j g e=>lia
  |eW x y j g e=>lia
 .have l:4*i+3<(net w n es P).m:=by rw[r];lia
  have:=key (4*i+3) l (by simp[dq]);cases pipe l with
  |src j g e=>lia
  |gr j g e=>lia
  |gv j g e=>lia
  |eM j g e t m d c=>obtain rfl:j=i:=(by lia);rw[t,m,d]at this;lia
  |eW x y j g e=>lia
 .obtain⟨j,g⟩:=gB B;have D:=(fK g).1;have l:4*n+j<(net w n es P).m:=by rw[r];exact YR D (4*n)
  have:=key (4*n+j) l (by unfold dq;rw[decide_eq_false_iff_not];lia);cases pipe l with
  |src i o e=>lia
  |gr i o e=>lia
  |gv i o e=>lia
  |eM i o e=>lia
  |eW x y u s G t m d c=>
   obtain rfl:u=j:=by lia
   rw[g]at s;cases s;rw[t,m,d]at this;dsimp only;lia
theorem U0{x:Int}(h:x<=0):pos x=0:=by unfold pos;rw[aWa (i8 h)]
theorem Jr(s:∀k,k<(net w n es P).m->dq n k=false->p ((net w n es P).t k)+(net w n es P).d k<=p ((net w n es P).h k)):cost (net w n es P) p=sm n λi=>w.p i*pos (w.u i - (p (2*i+3) - p (2*i+2))):=by
 have z:∀k,k<(net w n es P).m->dq n k=false->(net w n es P).c k*pos ((net w n es P).d k - (p ((net w n es P).h k) - p ((net w n es P).t k)))=0:=λk m r=>by
  have:=s k m r;rw[U0 (by lia),X4]
 have g:(net w n es P).m=4*n+es.length:=rfl;unfold cost;show sm (4*n+es.length) _=_;rw[qY,yS,lY (n:=es.length) (λi o=>z _ (by rw[g];exact YR o (4*n)) (by unfold dq;rw[decide_eq_false_iff_not];lia)),dN];refine iX λi o=>?_;rw[z (4*i) (by rw[g];lia) (by simp[dq]),z (4*i+2) (by rw[g];lia) (by simp[dq]),z (4*i+3) (by rw[g];lia) (by simp[dq])];have m:4*i+1<(net w n es P).m:=by rw[g];lia
 cases pipe m with
 |src j l e=>lia
 |gr j l e t u d c=>obtain rfl:j=i:=(by lia);rw[t,u,d,c];lia
 |gv j l e=>lia
 |eM j l e=>lia
 |eW x y j l e=>lia
end NF
namespace NF
variable {w:Wk}{n:Nat}{es:XC}{P E:Int}{f p q b h:XH}{a x:Int}
structure Good(w:Wk)(n:Nat)(es:XC)(P:Int)(f:XH)(a:Int)(p:XH):Prop where
 kb:ke (net w n es P) f a
 kc:ni (net w n es P) f
 ij:jl (net w n es P) f p
 p0:p 0=0
 ge:∀v,v<2*n+2->0<=p v
theorem Good.pour{r:List (Nat×Bool)}(G:Good w n es P f a p)(wk:Walk (net w n es P) r 0 1)(c:(r.map (·.1)).Nodup)(d:Tight (net w n es P) p r)(g:0<=x)(i:∀o∈r,x<=rr (net w n es P) f o):Good w n es P (pr r x f) (a+x) p:=
 ⟨G.kb.pour wk,G.kc.pour c g i,G.ij.pour c d,G.p0,G.ge⟩
theorem Good.least(G:Good w n es P f a p)(L:g7 (net w n es P) (2*n+2) f (λ_=>0) q):Good w n es P f a q/\∀v,v<2*n+2->q v<=p v:=by
 have h:=L.le p (λv g=>G.ge v g) G.ij;refine⟨⟨G.kb,G.kc,L.ij,?_,L.ge⟩,h⟩;have d:=h 0 (Zp _);have c:=L.ge 0 (Zp _);rw[G.p0]at d;try dsimp only at c
 exact cA d c
theorem Good.bound(G:Good w n es P f a p)(T:yp n es E b w.l)(c:E<p 1):a<=sm n w.p:=Wh G.kb G.kc G.ij (by rw[G.p0];exact bK _) T c
theorem Good.route(G:Good w n es P f a p)(L:g7 (net w n es P) (2*n+2) f (λ_=>0) p)(F:∀k,k<(net w n es P).m->dq n k=false->f k<(net w n es P).c k)(H:∀e∈es,e.1<n/\e.2<n)(I:∀i,i<n->0<=w.l i)(s:0<n)
 (R:Nat->Prop)(B:R 0)(K:∀o,g6 (net w n es P) f o->R (rt (net w n es P) o)->p (rt (net w n es P) o)+rd (net w n es P) o=p (rh (net w n es P) o)->R (rh (net w n es P) o)):R 1:=by
 obtain⟨D,C,Q,Z⟩:=GB G.ij F G.p0 H;have z:(net w n es P).m=4*n+es.length:=rfl;have A:∀k,k<(net w n es P).m->dq n k=false->R ((net w n es P).t k)->p ((net w n es P).t k)+(net w n es P).d k=p ((net w n es P).h k)->R ((net w n es P).h k):=λk l S X U=>by
  have:=K (k,true) ⟨l,by unfold rr;simp only[if_true];have:=F k l S;exact d7 this⟩;simp only[rt,rh,rd,if_true]at this;exact this X U
 have M:∀i,i<n->p (2*i+2)=0->R (2*i+2):=λi r m=>by
  have l:4*i<(net w n es P).m:=by rw[z];lia
  have:=A (4*i) l (by simp[dq]);cases pipe l with
  |src j g e t u d c=>
   obtain rfl:j=i:=by lia
   rw[t,u,d,G.p0,m]at this;exact this B rfl
  |gr j g e=>lia
  |gv j g e=>lia
  |eM j g e=>lia
  |eW x y j g e=>lia
 have J:∀i,i<n->p (2*i+3)=0->R (2*i+3):=λi r m=>by
  have g1:=D i r;have g2:=C i r;have g3:=I i r;have l:4*i+2<(net w n es P).m:=by rw[z];lia
  have:=A (4*i+2) l (by simp[dq]);cases pipe l with
  |src j g e=>lia
  |gr j g e=>lia
  |gv j g e t u d c=>
   obtain rfl:j=i:=by lia
   rw[t,u,d]at this;exact this (M j r (by lia)) (cA g2 (bG (dI m) (eA g1 g3)))
  |eM j g e=>lia
  |eW x y j g e=>lia
 refine reach L (D3 H) (d3 (2*n) (by decide)) R (λv hv m=>?_) K;try dsimp only at m
 by_cases O:v=0
 .rw[O];exact B
 .by_cases N:v=1
  .subst N;have g1:=D 0 s;have g2:=C 0 s;have g3:=Q 0 s;have g4:=I 0 s;have l:3<(net w n es P).m:=by rw[z];lia
   have:=A 3 l (by simp[dq]);cases pipe l with
   |src j g e=>lia
   |gr j g e=>lia
   |gv j g e=>lia
   |eM j g e t u d c=>
    obtain rfl:j=0:=by lia
    rw[t,u,d]at this;exact this (J 0 s (by lia)) (by lia)
   |eW x y j g e=>lia
  .by_cases Y:v%2=0
   .obtain⟨i,rfl⟩:∃i,v=2*i+2:=⟨v/2 - 1,by lia⟩;exact M i (by lia) m
   .obtain⟨i,rfl⟩:∃i,v=2*i+3:=⟨v/2 - 1,by lia⟩;exact J i (by lia) m
theorem Good.price(G:Good w n es P f a p)(g:∀k,k<(net w n es P).m->dq n k=false->f k<(net w n es P).c k):len (net w n es P) f - a*p 1=sm n λi=>w.p i*pos (w.u i - (p (2*i+3) - p (2*i+2))):=by
 have:=ml G.kb G.kc G.ij;rw[G.p0,eU]at this;rw[this];exact Jr λk c d=>(G.ij k c).1 (g k c d)
theorem best(d:ke (net w n es P) f a)(g:ni (net w n es P) f)(T:yp n es E b h)(c:∀i,i<n->w.l i<=h i):len (net w n es P) f - a*E<=sm n λi=>w.p i*pos (w.u i - h i):=by
 have:=weak d g (pf E b h);rw[Hw,Hx,eU,Jr (GI T c)]at this;refine bG this (dI (iX λi _=>?_));rw[AQ,AV,show b i+h i - b i=h i by lia]
end NF
namespace NF
variable{e:(Nat×Nat)×Int}{L:Fl}
noncomputable abbrev Fl:=List ((Nat×Nat)×Int)
noncomputable def sl(L:Fl)(g:Nat×Nat->Int):Int:=(L.map λe=>e.2*g e.1).sum
theorem P2{g:Nat×Nat->Int}:sl [] g=0:=rfl
theorem oV{g:Nat×Nat->Int}:sl (e::L) g=e.2*g e.1+sl L g:=by unfold sl;rw[aK,X8]
def vv(L:Fl)(a:Int):Prop:=∀p:XH,sl L (λs=>p s.2 - p s.1)=a*(p 1 - p 0)
theorem Fm{g:Nat×Nat->Int}:∀{L:Fl},(∀e∈L,0<=e.2*g e.1)->0<=sl L g
 | [],_=>bK _
 |e::L,h=>by
  rw[oV];have:=h e bM;have:=Fm λe a=>h e (bA _ a);lia
theorem Gr{g:Nat×Nat->Int}:∀{L:Fl},(∀e∈L,0<=e.2*g e.1)->∀e∈L,e.2*g e.1<=sl L g
 | [],_,_,he=>by cases he
 |e::L,h,b,he=>by
  rw[oV];have a:=Fm λe he=>h e (bA _ he);rcases fU he with rfl|he
  .exact b9 a
  .have:=Gr (λe he=>h e (bA _ he)) b he;have:=h e bM;lia
theorem QK{a:Int}(q:vv L a)(r:∀e∈L,0<=e.2){v:Nat}(f:v≠0)(m:v≠1)(j:e∈L)(n:e.1.2=v)(o:0<e.2):∃b∈L,b.1.1=v/\0<b.2:=by
 have p:¬∀b∈L,b.1.1=v->¬0<b.2:=λi=>by
  have k:=q λu=>if u=v then 1 else 0
  rw[aWa (Ne.symm m),aWa (Ne.symm f)]at k;have l:∀b∈L,0<=b.2*((if b.1.2=v then(1:Int)else 0) - if b.1.1=v then 1 else 0):=λb d=>by
   have z:=r b d;by_cases c:b.1.1=v
   .have:b.2=0:=by have:=i b d c;exact cA (gT this) z
    rw[this,dZ];exact bK _
   .rw[aWa c,eU];split
    .lia
    .lia
  have:=Gr (g:=λs=>(if s.2=v then(1:Int)else 0) - if s.1=v then 1 else 0) l e j;rw[aWc n]at this;by_cases c:e.1.1=v
  .exact i e j c o
  .rw[aWa c]at this;simp only[Yo,X4]at k;have t:sl L (λs=>(if s.2=v then(1:Int)else 0) - if s.1=v then 1 else 0)=0:=k;lia
 apply cN;intro h;exact p λb d c g=>h ⟨b,d,c,g⟩
theorem S6{a:Int}(g:vv L a)(i:∀e∈L,0<=e.2)(d:∀e∈L,e.1.2≠0)(l:0<a):∃e∈L,e.1.1=0/\0<e.2:=by
 apply cN;intro h;have k:=g λu=>if u=0 then 1 else 0
 rw[aWa (by decide),aWc rfl]at k;have j:sl L (λs=>(if s.2=0 then(1:Int)else 0) - if s.1=0 then 1 else 0)=a*(0 - 1):=k;have:0<=sl L (λs=>(if s.2=0 then(1:Int)else 0) - if s.1=0 then 1 else 0):=Fm λe b=>by
  rw[aWa (d e b)];by_cases c:e.1.1=0
  .have z:=i e b;have:¬0<e.2:=λf=>h ⟨e,b,c,f⟩;have:e.2=0:=cA (gT this) z;rw[this,dZ];exact bK _
  .rw[aWa c];simp
 lia
noncomputable def tk(x:Int)(s:Nat×Nat)(L:Fl):Fl:=L.map λe=>if e.1=s then(e.1,e.2 - x)else e
theorem Il{x:Int}{s:Nat×Nat}{g:Nat×Nat->Int}:∀{L:Fl},(L.map (·.1)).Nodup->s∈L.map (·.1)->sl (tk x s L) g=sl L g - x*g s
 | [],_,h=>by cases h
 |e::L,b,h=>by
  rw[aK,c7]at b;unfold tk;rw[aK,oV,oV];by_cases a:e.1=s
  .rw[aWc a];have f:(L.map λe=>if e.1=s then(e.1,e.2 - x)else e)=L:=by
    conv=>rhs;rw[<-ZI L]
    refine cU λi c=>?_;rw[aWa λz=>b.1 (by rw[a,<-z];exact dO c)];rfl
   rw[f];subst a;dsimp only;rw[Yp];lia
  .rw[aWa a];have d:s∈L.map (·.1):=by
    rcases fU h with z|z
    .exact absurd z.symm a
    .exact z
   have:=Il (x:=x) (g:=g) b.2 d;unfold tk at this;rw[this];lia
theorem yH{x:Int}{s:Nat×Nat}:(tk x s L).map (·.1)=L.map (·.1):=by
 unfold tk;rw[cK];refine cU λe _=>?_;show(if e.1=s then(e.1,e.2 - x)else e).1=e.1;split<;>rfl
end NF
namespace NF
variable {L:Fl}{a x:Int}
def SW:XC->Nat->Nat->Prop
 | [],u,v=>u=v
 |s::r,u,v=>s.1=u/\SW r s.2 v
def gb(x:Int):XC->Fl->Fl
 | [],L=>L
 |s::r,L=>gb x r (tk x s L)
theorem qH:∀{r:XC}{L:Fl},(gb x r L).map (·.1)=L.map (·.1)
 | [],_=>rfl
 |s::r,L=>by unfold gb;rw[qH,yH]
theorem IS{p:XH}:∀{r:XC}{L:Fl}{u v:Nat},(L.map (·.1)).Nodup->(∀s∈r,s∈L.map (·.1))->SW r u v->sl (gb x r L) (λs=>p s.2 - p s.1)=sl L (λs=>p s.2 - p s.1) - x*(p v - p u)
 | [],L,u,v,_,_,h=>by cases h;unfold gb;rw[Yo,X4,eU]
 |s::r,L,u,v,b,c,⟨i,g⟩=>by
  unfold gb;rw[IS (by rw[yH];exact b) (λd f=>by rw[yH];exact c d (bA _ f)) g,Il b (c s bM)];subst i;rw[dL,dL,dL];lia
theorem vv.take{r:XC}(d:vv L a)(b:(L.map (·.1)).Nodup)(c:∀s∈r,s∈L.map (·.1))(w:SW r 0 1):vv (gb x r L) (a - x):=λp=>by
 rw[IS b c w,d p,Yp]
noncomputable def at_(L:Fl)(s:Nat×Nat):Int:=(L.lookup s).getD 0
theorem HH{s s':Nat×Nat}:∀{L:Fl},at_ (tk x s L) s'=if s'=s/\s∈L.map (·.1)then at_ L s' - x else at_ L s'
 | []=>by unfold tk at_;simp
 |e::L=>by
  have ih:=HH (s:=s) (s':=s') (L:=L);unfold tk at_ at ih|-;rw[aK];by_cases f:s'=e.1
  .subst f;have c:XR e.1 (e::L)=some e.2:=by rw[cL,beq_self_eq_true]
   by_cases b:e.1=s
   .subst b;rw[aWc rfl,aWc ⟨rfl,by simp⟩,c,cL,beq_self_eq_true];rfl
   .have:¬(e.1=s/\s∈(e::L).map (·.1)):=λz=>b z.1;rw[aWa b,aWa this,c,cL,beq_self_eq_true]
  .have d:(s'==e.1)=false:=beq_eq_false_iff_ne.mpr f;have c:XR s' ((if e.1=s then(e.1,e.2 - x)else e)::L.map λe=>if e.1=s then(e.1,e.2 - x)else e)=XR s' (L.map λe=>if e.1=s then(e.1,e.2 - x)else e):=by
    rw[cL];split
    .rename_i z;exfalso;by_cases b:e.1=s
     .rw[aWc b]at z;rw[d]at z;cases z
     .rw[aWa b]at z;rw[d]at z;cases z
    .rfl
   rw[c,ih];rw[show XR s' (e::L)=XR s' L from by rw[cL,d]];by_cases g:s'=s
   .subst g;simp only[true_and,aK,cC,f,false_or]
   .simp only[g,false_and]
theorem Iq{b:Nat×Nat}:∀{r:XC}{L:Fl},(∀s∈r,s∈L.map (·.1))->at_ (gb x r L) b=at_ L b - x*(r.count b:Int)
 | [],L,_=>by unfold gb;simp
 |s::r,L,c=>by
  unfold gb;rw[Iq (λb d=>by rw[yH];exact c b (bA _ d)),HH,Yr];by_cases h:b=s
  .subst h;rw[aWc ⟨rfl,c b bM⟩];simp only[beq_self_eq_true,if_true,Int.natCast_add,Z5];lia
  .rw[aWa (λz=>h z.1),aWa (by simpa using Ne.symm h)];simp
theorem Tc(i:vv L a)(m:∀e∈L,0<=e.2)(b:XH)(d:∀e∈L,b e.1.1<b e.1.2){e:(Nat×Nat)×Int}(f:e∈L)(l:b 0<b e.1.2)(j:b e.1.2<=b 1):e.2<=a:=by
 have k:=i λv=>if b e.1.2<=b v then 1 else 0
 rw[aWc j,aWa (jZ l)]at k;have n:sl L (λs=>(if b e.1.2<=b s.2 then(1:Int)else 0) - if b e.1.2<=b s.1 then 1 else 0)=a*(1 - 0):=k;have:=Gr (L:=L) (g:=λs=>(if b e.1.2<=b s.2 then(1:Int)else 0) - if b e.1.2<=b s.1 then 1 else 0) (λg c=>by
  refine X3 (m g c) ?_;have:=d g c;split<;>split<;>lia) e f
 have h:=d e f;rw[aWc (bK _),aWa (jZ h)]at this;lia
end NF
namespace NF
variable {N:Nt}{f:XH}{a v:Int}{s:Nat×Nat}{g:Nat×Nat->Int}
noncomputable def ad(s:Nat×Nat)(v:Int):Fl->Fl
 | []=>[(s,v)]
 |e::L=>if e.1=s then(e.1,e.2+v)::L else e::ad s v L
theorem Im:∀{L:Fl},sl (ad s v L) g=sl L g+v*g s
 | []=>by unfold ad;rw[oV,P2];dsimp only;exact Yd _ _
 |e::L=>by
  unfold ad;split
  .rename_i h;rw[oV,oV];subst h;dsimp only;rw[Ye];lia
  .rw[oV,oV,Im];exact eS (YA (e.2*g e.1) (sl L g) (v*g s))
theorem F7{b:Nat×Nat}:∀{L:Fl},b∈(ad s v L).map (·.1)↔b=s\/b∈L.map (·.1)
 | []=>by unfold ad;simp
 |e::L=>by
  unfold ad;split
  .rename_i h;subst h;simp only[aK,cC];constructor
   .exact .inr
   .rintro(h|h)
    .exact .inl h
    .exact h
  .simp only[aK,cC];rw[F7];constructor
   .rintro(h|h|h)
    .exact .inr (.inl h)
    .exact .inl h
    .exact .inr (.inr h)
   .rintro(h|h|h)
    .exact .inr (.inl h)
    .exact .inl h
    .exact .inr (.inr h)
theorem KQ:∀{L:Fl},(L.map (·.1)).Nodup->((ad s v L).map (·.1)).Nodup
 | [],_=>by unfold ad;simp
 |e::L,h=>by
  unfold ad;rw[aK,c7]at h;split
  .rw[aK,c7];exact h
  .rename_i b;rw[aK,c7];refine⟨λz=>?_,KQ h.2⟩;rcases F7.mp z with z|z
   .exact b z
   .exact h.1 z
theorem LW(b:0<=v):∀{L:Fl},(∀e∈L,0<=e.2)->∀e∈ad s v L,0<=e.2
 | [],_,e,he=>by
   unfold ad at he;rw[gO he];exact b
 |c::L,h,e,he=>by
  unfold ad at he;split at he
  .rcases fU he with rfl|he
   .have:=h c bM;dsimp only;exact eA this b
   .exact h e (bA _ he)
  .rcases fU he with rfl|he
   .exact h e bM
   .exact LW b (λe he=>h e (bA _ he)) e he
theorem HQ{s':Nat×Nat}:∀{L:Fl},at_ (ad s v L) s'=at_ L s'+if s'=s then v else 0
 | []=>by
   unfold ad at_;by_cases h:s'=s
   .rw[cL,beq_iff_eq.mpr h,aWc h];simp
   .rw[cL,beq_eq_false_iff_ne.mpr h,aWa h];simp
 |e::L=>by
  have ih:=HQ (s':=s') (L:=L);unfold ad;by_cases i:s'=e.1
  .subst i;have c:∀M:Fl,at_ (e::M) e.1=e.2:=λM=>by unfold at_;rw[cL,beq_self_eq_true];rfl
   by_cases b:e.1=s
   .rw[aWc b,aWc b,c];unfold at_;rw[cL,beq_self_eq_true];rfl
   .rw[aWa b,aWa b,c,c];exact eS (dN e.2)
  .have c:∀(y:Int)(M:Fl),at_ ((e.1,y)::M) s'=at_ M s':=λy M=>by unfold at_;rw[cL,beq_eq_false_iff_ne.mpr i]
   have d:∀M:Fl,at_ (e::M) s'=at_ M s':=λM=>c e.2 M;by_cases b:e.1=s
   .rw[aWc b,c,d,aWa (λz=>i (z.trans b.symm))];exact eS (dN (at_ L s'))
   .rw[aWa b,d,d,ih]
def ff(N:Nt)(f:XH):Nat->Fl
 |0=>[]
 |k+1=>ad (N.t k,N.h k) (f k) (ff N f k)
theorem IZ:∀{k:Nat},sl (ff N f k) g=sm k λj=>f j*g (N.t j,N.h j)
 |0=>rfl
 |k+1=>by
  show sl (ad _ _ _) g=sm k _+_;rw[Im,IZ]
theorem Pb(b:ke N f a):vv (ff N f N.m) a:=λp=>by rw[IZ];exact b p
theorem v8:∀{k:Nat},((ff N f k).map (·.1)).Nodup
 |0=>List.Pairwise.nil
 |k+1=>KQ v8
theorem MF(h:∀k,k<N.m->0<=f k):∀{k:Nat},k<=N.m->∀e∈ff N f k,0<=e.2
 |0,_,e,b=>by cases b
 |k+1,c,e,b=>LW (h k (fD c)) (MF h (cZ c)) e b
theorem Iv{s:Nat×Nat}:∀{k:Nat},at_ (ff N f k) s=sm k λj=>if s=(N.t j,N.h j)then f j else 0
 |0=>rfl
 |k+1=>by
  show at_ (ad _ _ _) s=sm k _+_;rw[HQ,Iv]
theorem zQ{s:Nat×Nat}:∀{k:Nat},s∈(ff N f k).map (·.1)->∃j,j<k/\s=(N.t j,N.h j)
 |0,h=>by cases h
 |k+1,h=>by
  rcases F7.mp h with h|h
  .exact⟨k,bX _,h⟩
  .obtain⟨j,b,e⟩:=zQ h;exact⟨j,cI b,e⟩
end NF
namespace NF
variable {w:Wk}{n:Nat}{es:XC}{P:Int}{f p:XH}{a:Int}
theorem Ou:len (net w n es P) f=sm n λi=>f (4*i+1)*w.u i+f (4*i+2)*w.l i:=by
 have g:(net w n es P).m=4*n+es.length:=rfl;unfold len;show sm (4*n+es.length) _=_;rw[qY,yS,lY (n:=es.length) (λj b=>?_),dN]
 .refine iX fun i k=>?_;have q:(net w n es P).d (4*i)=0:=by
   cases pipe (w:=w) (es:=es) (P:=P) (show 4*i<(net w n es P).m by rw[g];lia)with
   |src j b e t h d c=>exact d
   |gr j b e=>lia
   |gv j b e=>lia
   |eM j b e=>lia
   |eW x y j b e=>lia
  have o:(net w n es P).d (4*i+1)=w.u i:=by
   cases pipe (w:=w) (es:=es) (P:=P) (show 4*i+1<(net w n es P).m by rw[g];lia)with
   |src j b e=>lia
   |gr j b e t h d c=>obtain rfl:j=i:=(by lia);exact d
   |gv j b e=>lia
   |eM j b e=>lia
   |eW x y j b e=>lia
  have m:(net w n es P).d (4*i+2)=w.l i:=by
   cases pipe (w:=w) (es:=es) (P:=P) (show 4*i+2<(net w n es P).m by rw[g];lia)with
   |src j b e=>lia
   |gr j b e=>lia
   |gv j b e t h d c=>obtain rfl:j=i:=(by lia);exact d
   |eM j b e=>lia
   |eW x y j b e=>lia
  have l:(net w n es P).d (4*i+3)=0:=by
   cases pipe (w:=w) (es:=es) (P:=P) (show 4*i+3<(net w n es P).m by rw[g];lia)with
   |src j b e=>lia
   |gr j b e=>lia
   |gv j b e=>lia
   |eM j b e t h d c=>exact d
   |eW x y j b e=>lia
  rw[q,o,m,l];lia
 .have:(net w n es P).d (4*n+j)=0:=by
   cases pipe (w:=w) (es:=es) (P:=P) (show 4*n+j<(net w n es P).m by rw[g];exact YR b (4*n))with
   |src i k e=>lia
   |gr i k e=>lia
   |gv i k e=>lia
   |eM i k e=>lia
   |eW x y i k e t h d c=>exact d
  rw[this,X4]
theorem RX{f1 f2 u l pr:Int}(d:0<=f1)(b:f1<=pr)(c:0<=f2)(h:0<f2->f1=pr\/u=l):f1*u+f2*l=if f1+f2<=pr then(f1+f2)*u else pr*u+(f1+f2 - pr)*l:=by
 by_cases z:f2=0
 .subst z;rw[dN,aWc b,dZ,dN]
 .rcases h (by lia)with e|e
  .subst e;rw[aWa (by lia),show f1+f2 - f1=f2 by lia]
  .subst e;split
   .rw[Ye]
   .rw[<-Ye,<-Ye];congr 1;exact eS (XU (Yd pr (f1+f2 - pr)) (Int.sub_add_cancel (f1+f2) pr))
theorem WR(D:ni (net w n es P) f)(q:jl (net w n es P) f p)(B:∀i,i<n->w.l i<=w.u i){i:Nat}(C:i<n):0<f (4*i+2)->f (4*i+1)=w.p i\/w.u i=w.l i:=λF=>by
 have r:(net w n es P).m=4*n+es.length:=rfl;have m:4*i+1<(net w n es P).m:=by rw[r];lia
 have o:4*i+2<(net w n es P).m:=by rw[r];lia
 have v:=q _ m;have I:=(q _ o).2 F;have u:=(D _ m).2;have J:=B i C;cases pipe o with
 |src j k e=>lia
 |gr j k e=>lia
 |gv j k e t h d c=>
  obtain rfl:j=i:=by lia
  rw[t,h,d]at I;cases pipe m with
  |src b g l=>lia
  |gr b g l A G H s=>
   obtain rfl:b=j:=by lia
   rw[A,G,H,s]at v;rw[s]at u;by_cases z:f (4*b+1)<w.p b
   .have:=v.1 z;exact .inr (by lia)
   .exact .inl (cA u (gT z))
  |gv b g l=>lia
  |eM b g l=>lia
  |eW x y b g l=>lia
 |eM j k e=>lia
 |eW x y j k e=>lia
noncomputable def tr(f:XH)(i:Nat):Int:=f (4*i+1)+f (4*i+2)
theorem T5(G:Good w n es P f a p)(g:∀i,i<n->w.l i<=w.u i):len (net w n es P) f=sm n λi=>if tr f i<=w.p i then tr f i*w.u i else w.p i*w.u i+(tr f i - w.p i)*w.l i:=by
 have b:(net w n es P).m=4*n+es.length:=rfl;rw[Ou];refine iX λi h=>?_;have d:4*i+1<(net w n es P).m:=by rw[b];lia
 have c:4*i+2<(net w n es P).m:=by rw[b];lia
 have c1:=G.kc _ d;have c2:=G.kc _ c;have j:(net w n es P).c (4*i+1)=w.p i:=by
  show(if 4*i+1<4*n/\(4*i+1)%4=1 then w.p ((4*i+1)/4)else P)=_;rw[aWc (by lia),show(4*i+1)/4=i by lia]
 rw[j]at c1;exact RX c1.1 c1.2 c2.1 (WR G.kc G.ij g h)
end NF
namespace NF
variable {w:Wk}{n:Nat}{b:XC}{P g:Int}{f c p q m:XH}{a d e:Int}
theorem zD(G:Good w n b P f a p)(h:Good w n b P c d q)(r:p 1=e)(o:q 1=e):len (net w n b P) f - a*e=len (net w n b P) c - d*e:=by
 have l:=ml G.kb G.kc G.ij;have k:=ml h.kb h.kc h.ij;have j:=weak G.kb G.kc q;have i:=weak h.kb h.kc p;rw[G.p0,r,eU]at l i;rw[h.p0,o,eU]at k j;lia
theorem Good.uu(G:Good w n b P f a m)(h:Good w n b P f a q)(k:m 1<=e)(j:e<=q 1):∃p,Good w n b P f a p/\p 1=e:=by
 refine⟨λv=>if m v<q v - (q 1 - e)then q v - (q 1 - e)else m v,⟨G.kb,G.kc,Sn G.ij h.ij _,?_,λv i=>?_⟩,?_⟩
 .show(if m 0<q 0 - (q 1 - e)then q 0 - (q 1 - e)else m 0)=0;rw[G.p0,h.p0,aWa (i8 (Yn 0 (bY j)))]
 .have:=G.ge v i;show 0<=if m v<q v - (q 1 - e)then q v - (q 1 - e)else m v
  split<;>lia
 .show(if m 1<q 1 - (q 1 - e)then q 1 - (q 1 - e)else m 1)=e;split<;>lia
end NF
namespace NF
variable {N:Nt}{n:Nat}{f st x p:XH}
variable{o:Nat×Bool}{r:List (Nat×Bool)}
structure my(N:Nt)(n:Nat)(f st x:XH):Prop where
 ge:∀v,v<n->st v<=x v
 le:∀q,(∀v,v<n->st v<=q v)->jl N f q->∀v,v<n->x v<=q v
theorem my.start:my N n f st st:=⟨λ_ _=>bK _,λq h _=>h⟩
theorem my.raise(R:my N n f st x)(g:g6 N f o)(h:rt N o<n)(c:x (rh N o)<x (rt N o)+rd N o):my N n f st (up x (rh N o) (x (rt N o)+rd N o)):=by
 refine⟨λv b=>?_,λq d a=>TJ a g (R.le q d a) h⟩;have:=R.ge v b;unfold up;split
 .rename_i z;subst z;exact bU (bC this c)
 .exact this
theorem my.done(R:my N n f st x)(h:∀o,g6 N f o->x (rt N o)+rd N o<=x (rh N o)):g7 N n f st x:=⟨R.ge,nH h,R.le⟩
theorem IP{n:Nat}{x:XH}{k:Nat}{v:Int}(a:k<n):sm n (up x k v)=sm n x+(v - x k):=by
 have:=HS (f:=x) (g:=λ_=>1) (v:=v) a;simpa using this
theorem my.zt(R:my N n f st x){q:XH}(b:∀v,v<n->st v<=q v)(c:jl N f q):sm n x<=sm n q:=xA λv a=>R.le q b c v a
theorem L9(b:rh N o<n)(a:x (rh N o)<x (rt N o)+rd N o):sm n x<sm n (up x (rh N o) (x (rt N o)+rd N o)):=by
 rw[IP b];exact bC (b9 (bK 0)) (YV (d7 a) (sm n x))
structure ud(N:Nt)(f p:XH)(r:List (Nat×Bool))(v:Nat):Prop where
 wk:Walk N r 0 v
 tg:Tight N p r
 op:∀o∈r,g6 N f o
 nd:(0::r.map (rh N)).Nodup
theorem Walk.snoc:∀{r:List (Nat×Bool)}{u v:Nat}{o:Nat×Bool},Walk N r u v->o.1<N.m->rt N o=v->Walk N (r++[o]) u (rh N o)
 | [],u,v,o,h,g,d=>by cases h;exact⟨g,d,rfl⟩
 |e::r,u,v,o,⟨a,b,c⟩,g,d=>⟨a,b,Walk.snoc c g d⟩
theorem ud.nil:ud N f p [] 0:=⟨rfl,(λe h=>by cases h),(λe h=>by cases h),by simp⟩
theorem ud.snoc{v:Nat}(R:ud N f p r v)(c:g6 N f o)(h:rt N o=v)(g:p (rt N o)+rd N o=p (rh N o))(i:rh N o∉0::r.map (rh N)):ud N f p (r++[o]) (rh N o):=by
 refine⟨R.wk.snoc c.1 h,λe he=>?_,λe he=>?_,?_⟩
 .rcases fZ he with he|he
  .exact R.tg e he
  .rw[gO he];exact g
 .rcases fZ he with he|he
  .exact R.op e he
  .rw[gO he];exact c
 .rw[bR,<-aV];refine jF ⟨R.nd,by simp,λa j b d=>?_⟩;simp only[aK,bE,eV]at d;rintro rfl;subst d;exact i j
theorem My:∀{r:List (Nat×Bool)}{u v:Nat},Walk N r u v->(u::r.map (rh N)).Nodup->(r.map (·.1)).Nodup
 | [],_,_,_,_=>List.Pairwise.nil
 |e::r,u,v,⟨_,j,i⟩,b=>by
  rw[aK,c7]at b;rw[aK,c7];refine⟨λz=>?_,My i b.2⟩;obtain⟨a,d,z⟩:=fY z;have c:rh N a∈r.map (rh N):=dO d;have h:=(jB b.2).1;by_cases g:a.2=e.2
  .have:a=e:=YX z g;subst this;exact h c
  .have:rh N a=rt N e:=by
    unfold rh rt;rw[z];cases l:a.2<;>cases k:e.2<;>simp_all
   rw[this,j]at c;exact b.1 (bA _ c)
theorem ud.pipes{v:Nat}(R:ud N f p r v):(r.map (·.1)).Nodup:=My R.wk R.nd
end NF
namespace NF
variable {n:Nat}{es:XC}
noncomputable def od{a:Type}:List a->List a
 |_::y::r=>y::od r
 |_=>[]
inductive Ky(n:Nat)(es:XC)(s:Nat×Nat):Prop where
 |src (i:Nat) (hi:i<n) (e:s=(0,2*i+2))
 |wk (i:Nat) (hi:i<n) (e:s=(2*i+2,2*i+3))
 |eM (i:Nat) (hi:i<n) (e:s=(2*i+3,1))
 |eW (x y:Nat) (h:(x,y)∈es) (e:s=(2*x+3,2*y+2))
theorem NB{w:Wk}{P:Int}{f:XH}{s:Nat×Nat}(h:s∈(ff (net w n es P) f (net w n es P).m).map (·.1)):Ky n es s:=by
 obtain⟨j,b,rfl⟩:=zQ h;cases pipe b with
 |src i a e t h d c=>exact .src i a (by rw[t,h])
 |gr i a e t h d c=>exact .wk i a (by rw[t,h])
 |gv i a e t h d c=>exact .wk i a (by rw[t,h])
 |eM i a e t h d c=>exact .eM i a (by rw[t,h])
 |eW x y i a e t h d c=>exact .eW x y (aX a) (by rw[t,h])
noncomputable def je(i:Nat):Nat×Nat:=(2*i+2,2*i+3)
def Ei(es:XC):Option Nat->XG->Prop
 |_,[]=>True
 |b,i::r=>(∀a,b=some a->(a,i)∈es)/\Ei es (some i) r
theorem Rw{i j:Nat}(h:je i=je j):i=j:=by
 unfold je at h;have:=(Zw.inj h).1;lia
theorem IQ:∀(r:XC)(b:Option Nat),SW r (match b with|none=>0|some a=>2*a+3) 1->(∀s∈r,Ky n es s)->
 ∃is:XG,od r=is.map je/\(∀i∈is,i<n)/\Ei es b is/\(b=none->is≠[])/\∀i,r.count (je i)=is.count i
 | [],b,h,_=>by
   exfalso;have h:(match b with|none=>0|some a=>2*a+3)=1:=h;cases b<;>simp at h
 | [s],b,⟨f,c⟩,k=>by
   have c:s.2=1:=c;refine⟨[],rfl,by simp,trivial,λl=>?_,λi=>?_⟩
   .subst l;exfalso;cases k s bM with
    |src i g e=>rw[e]at c;simp at c
    |wk i g e=>rw[e]at f;simp at f
    |eM i g e=>rw[e]at f;simp at f
    |eW x y h e=>rw[e]at f;simp at f
   .rw[aTA,List.count_nil,aWa];intro z;have:s=je i:=by simpa using z
    rw[this]at c;unfold je at c;simp at c
 |s::u::r,b,⟨f,c,F⟩,k=>by
  have C:=k s bM;have o:=k u (bA _ bM);have key:∃i,i<n/\u=je i/\(∀a,b=some a->(a,i)∈es)/\∀j,s≠je j:=by
   cases C with
   |src i g e=>
    subst e;have l:b=none:=by cases b<;>simp_all
    cases o with
    |src j d e=>subst e;simp at c
    |wk j d e=>
     subst e;refine⟨j,d,rfl,λa m=>?_,λD z=>?_⟩
     .rw[l]at m;cases m
     .unfold je at z;simp at z
    |eM j d e=>subst e;simp at c;lia
    |eW x y h e=>subst e;simp at c;lia
   |wk i g e=>subst e;cases b<;>simp at f<;>lia
   |eM i g e=>
    subst e;cases o with
    |src j d e=>subst e;simp at c
    |wk j d e=>subst e;simp at c
    |eM j d e=>subst e;simp at c
    |eW x y h e=>subst e;simp at c
   |eW x y h e=>
    subst e;cases o with
    |src j d e=>subst e;simp at c
    |wk j d e=>
     subst e;have q:j=y:=by simp at c;lia
     subst q;refine⟨j,d,rfl,λa m=>?_,λD z=>?_⟩
     .subst m;have:x=a:=by simp at f;lia
      subst this;exact h
     .unfold je at z;simp at z;lia
    |eM j d e=>subst e;simp at c;lia
    |eW I H J e=>subst e;simp at c;lia
  obtain⟨i,g,G,l,p⟩:=key;subst G;obtain⟨is,B,A,w,_,v⟩:=IQ r (some i) F λs p=>k s (bA _ (bA _ p))
  refine⟨i::is,?_,?_,⟨l,w⟩,λ_=>by simp,λj=>?_⟩
  .show je i::od r=_;rw[B];rfl
  .intro j d;rcases fU d with rfl|d
   .exact g
   .exact A j d
  .have c1:(s==je j)=false:=beq_eq_false_iff_ne.mpr (p j);rw[Yr,Yr,v,Yr,c1];by_cases t:i=j
   .subst t;simp
   .have c2:(je i==je j)=false:=beq_eq_false_iff_ne.mpr λz=>t (Rw z);have c3:(i==j)=false:=beq_eq_false_iff_ne.mpr t;rw[c2,c3];simp
end NF
namespace TL
open PySem L2
section
variable {s:aE}{C:ab}{Q:T->ab->Prop}{H:Xw->ab->Prop}{QS:Fl->aE->ab->Prop}{a b c v A w:FE}{D:FN}{F:FS}
variable{I:String}{ks:List (List Key)}{i j:Int}{G:Xw->ab->Option (T×ab)}{J tk:T}
theorem FQ{c:Nat}{f:XJ}{d:Xw}(e:C[c]?=some (.o I f,d)):oc I C (.cell c)=some (c,f,d):=by
 show(C[c]?).bind _=_;rw[e,aS];exact aWc rfl
theorem wH{c:Nat}{ks:List Key}{d:Xw}(e:C[c]?=some (.dk ks,d)):te C (.cell c)=some (c,ks,d):=by
 show(C[c]?).bind _=_;rw[e];rfl
theorem Iz{c:Nat}{d:Xw}(e:C[c]?=some (.dt ks,d)):AL C (.cell c)=some (c,ks,d):=by
 show(C[c]?).bind _=_;rw[e];rfl
theorem IV{c:Nat}{d:Xw}(e:C[c]?=some (.dt ks,d)\/C[c]?=some (.dz ks,d)):AK C (.cell c)=some (c,ks,d):=by
 show(C[c]?).bind _=_;rcases e with e|e<;>(rw[e];rfl)
theorem IH{c:Nat}{d:Xw}(e:C[c]?=some (.dt ks,d)\/C[c]?=some (.dz ks,d)):te C (.cell c)=none:=by
 show(C[c]?).bind _=_;rcases e with e|e<;>(rw[e];rfl)
def pX(I:String)(f:Str)(C:ab)(t:T):Xx:=(oc I C t).bind λx=>dn f x.2.1 x.2.2
theorem SU{f:Str}:aD (mG I f a) s C Q↔aD a s C λt g=>∃u,pX I f g t=some u/\Q u g:=by
 rw[Gc];unfold aD;constructor
 .rintro⟨t,g,e,u,l,d,q⟩;unfold AW at d;obtain⟨x,h,d⟩:=fE d;obtain⟨y,k,d⟩:=fG d;cases d;exact⟨t,_,e,u,by unfold pX;rw[h];exact k,q⟩
 .rintro⟨t,g,e,u,d,q⟩;unfold pX at d;obtain⟨x,h,d⟩:=fE d;exact⟨t,g,e,u,g,by unfold AW;rw[h,aS,d];rfl,q⟩
def nG:=λ{a b c d e f}=>(@SU a b c d e f).mpr
theorem S0{f:Str}{t:T}:bf (AW I f t C) Q↔∃u,pX I f C t=some u/\Q u C:=by
 unfold bf AW pX;constructor
 .rintro⟨u,k,d,q⟩;obtain⟨x,g,d⟩:=fE d;obtain⟨y,h,d⟩:=fG d;cases d;exact⟨u,by rw[g];exact h,q⟩
 .rintro⟨u,d,q⟩;obtain⟨x,g,d⟩:=fE d;exact⟨u,C,by rw[g,aS,d];rfl,q⟩
def AO(I:String)(f:Str)(x:T)(C:ab)(t:T):Option ab:=(oc I C t).bind λy=>if y.2.1.length<900 then some (C.set y.1 (.o I (pn f y.2.1),pv f x y.2.1 y.2.2))else none
theorem oX{f:Str}(h:aD a s C λx l=>aD v s l λt k=>∃g,AO I f x k t=some g/\QS .nx s g):wpS (pS I f v a) s C QS:=by
 obtain⟨x,l,o,t,k,n,g,d,q⟩:=h;refine⟨.nx,s,g,?_,q⟩;unfold pS;rw[o,aS,n,aS];unfold AO at d;obtain⟨y,m,d⟩:=fE d;rw[m,aS];try dsimp only at d|-
 split at d
 .rename_i h;cases d;rw[aWc h]
 .cases d
theorem MB{f:Str}{g:Int->Int->Int}(h:aD v s C λt m=>pX I f m t=some (.int i)/\aD a s m λx n=>x=.int j/\∃l,AO I f (.int (g i j)) n t=some l/\QS .nx s l):wpS (xG I f g v a) s C QS:=by
 obtain⟨t,m,u,k,x,n,r,rfl,l,d,q⟩:=h;refine⟨.nx,s,l,?_,q⟩;unfold xG;rw[u,aS];unfold pX at k;obtain⟨y,p,k⟩:=fE k;rw[p,aS];try dsimp only at k|-
 rw[k,aS];try dsimp only
 rw[r,aS];try dsimp only
 unfold AO at d;obtain⟨z,o,d⟩:=fE d;rw[o,aS];try dsimp only at d|-
 split at d
 .rename_i h;cases d;rw[aWc h]
 .cases d
theorem Vx{n:Nat}:aD (m4 n G D) s C Q↔ef D s C λd g=>d.length=n/\bf (G d g) Q:=by
 rw[Gv];unfold ef bf sH;constructor
 .rintro⟨d,g,e,t,k,f,q⟩;split at f
  .exact⟨d,g,e,‹_›,t,k,f,q⟩
  .cases f
 .rintro⟨d,g,e,h,t,k,f,q⟩;exact⟨d,g,e,t,k,by rw[aWc h];exact f,q⟩
def iF:=λ{a b c d e f}=>(@Vx a b c d e f).mpr
def BU(I:String)(m:Str)(C:ab)(t:T):Prop:=∃x,oc I C t=some x/\dn m x.2.1 x.2.2=none
theorem l4{m:Str}{n:Nat}(h:aD v s C λt f=>BU I m f t/\ef D s f λd g=>d.length+1=n/\bf (G (t::d) g) Q):aD (mC I m n G v D) s C Q:=by
 obtain⟨t,f,y,⟨x,u,p⟩,d,g,o,k,r,z,l,q⟩:=h;refine⟨r,z,?_,q⟩;unfold mC;rw[y,aS];try dsimp only
 rw[u,aS];try dsimp only
 rw[p];try dsimp only
 rw[o,aS];unfold sH;rw[aWc (by simpa using k)];exact l
theorem uW{n:Nat}{ie:Xw}(h:ef D s C λf d=>(f++ie).length+1=n/\bf (G (.cell d.length::(f++ie)) (d++[(.o I [],[])])) λr g=>r=.aF/\Q (.cell d.length) g):aD (vF I n G ie D) s C Q:=by
 obtain⟨f,d,m,k,r,g,l,rfl,q⟩:=h;refine⟨_,g,?_,q⟩;unfold vF;rw[m,aS];try dsimp only
 unfold sH;rw[aWc (by simpa using k),l];rfl
theorem jN{B:FS}{m:Nat}{ts:Xw}(h:wpS B (ja m ts) C λl f d=>match l with
 | .nx=>Q .aF d
 | .rt r=>Q r d
 |_=>False):bf (oZ B m ts C) Q:=by
 obtain⟨l,f,d,e,q⟩:=h;cases l with
 |nx=>exact⟨_,d,by unfold oZ;rw[e],q⟩
 |rt r=>exact⟨_,d,by unfold oZ;rw[e],q⟩
 |bk=>exact q.elim
 |ct=>exact q.elim
 |ex c=>exact q.elim
theorem Ll{d:Kd}:aD (xH d) s C Q↔Q (.cell C.length) (C++[(d,[])]):=by
 unfold aD xH;constructor
 .rintro⟨_,_,e,q⟩;cases e;exact q
 .exact λq=>⟨_,_,rfl,q⟩
theorem TN:bf (DJ J tk C) Q↔∃t,ek C J tk=some (some t)/\Q t C:=by
 unfold bf DJ;constructor
 .rintro⟨t,f,e,q⟩;split at e
  .rename_i u d;cases e;exact⟨_,d,q⟩
  .cases e
 .rintro⟨t,e,q⟩;exact⟨t,C,by rw[e],q⟩
def mW:=λ{a b c d}=>(@TN a b c d).mpr
theorem Gu{n:Bool}:bf (zT n tk J C) Q↔∃o,ek C J tk=some o/\Q (.bl (o.isSome==n)) C:=by
 unfold bf zT;constructor
 .rintro⟨t,f,e,q⟩;obtain⟨o,d,e⟩:=fG e;cases e;exact⟨o,d,q⟩
 .rintro⟨o,e,q⟩;exact⟨_,C,by rw[e];rfl,q⟩
theorem Vu(h:aD v s C λJ f=>iq f J=true/\aD A s f λtk k=>aD w s k λg d=>∃o,ek d J tk=some o/\Q (o.getD g) d):aD (wU v A w) s C Q:=by
 obtain⟨J,f,r,l,tk,k,p,g,d,n,o,m,q⟩:=h;refine⟨_,d,?_,q⟩;unfold wU;rw[r,aS];try dsimp only
 rw[aWc l,p,aS];try dsimp only
 rw[n,aS];try dsimp only
 rw[m];rfl
theorem Lq(h:aD w s C λf l=>aD v s l λJ k=>aD A s k λtk g=>∃d,dput g J tk f=some d/\QS .nx s d):wpS (Az v A w) s C QS:=by
 obtain⟨f,l,p,J,k,o,tk,g,n,d,m,q⟩:=h;refine⟨.nx,s,d,?_,q⟩;unfold Az;rw[p,aS];try dsimp only
 rw[o,aS];try dsimp only
 rw[n,aS];try dsimp only
 rw[m];rfl
theorem U2{g:Int->Int->Int}(h:aD v s C λJ m=>aD A s m λtk f=>ek f J tk=some (some (.int i))/\aD w s f λk l=>k=.int j/\∃d,dput l J tk (.int (g i j))=some d/\QS .nx s d):wpS (Bk g v A w) s C QS:=by
 obtain⟨J,m,t,tk,f,r,p,k,l,o,rfl,d,n,q⟩:=h;refine⟨.nx,s,d,?_,q⟩;unfold Bk;rw[t,aS];try dsimp only
 rw[r,aS];try dsimp only
 rw[p];try dsimp only
 rw[o,aS];try dsimp only
 rw[n];rfl
theorem Uv{k:Key}{x:T}(h:aD A s (C++[(.dk [],[])]) λtk g=>Af tk=some k/\aD w s g λf d=>f=x/\d[C.length]?=some (.dk [],[])/\Q (.cell C.length) (d.set C.length (.dk [k],[x]))):aD (wE A w) s C Q:=by
 obtain⟨tk,g,o,n,f,d,m,rfl,l,q⟩:=h;refine⟨_,_,?_,q⟩;unfold wE;rw[o,aS];try dsimp only
 rw[m,aS];try dsimp only
 rw[n,aS];have:=wH l;rw[this]
theorem T2{c1 c2:Nat}{ks ks':List Key}{f g:Xw}(h:aD v s C λJ k=>J=.cell c1/\iq k J=true/\aD w s k λl d=>l=.cell c2/\d[c1]?=some (.dk ks,f)/\d[c2]?=some (.dk ks',g)/\c1≠c2/\ks.length+ks'.length<=lim/\
 Q .aF (d.set c1 (.dk (cx ks' g (ks,f)).1,(cx ks' g (ks,f)).2))):aD (z9 v w) s C Q:=by
 obtain⟨J,k,y,rfl,o,l,d,x,rfl,u,t,m,n,q⟩:=h;refine⟨_,_,?_,q⟩;unfold z9;rw[y,aS];try dsimp only
 rw[aWc o,x,aS];try dsimp only
 have r:=wH u;have p:=wH t;rw[r,p,aS,aS];try dsimp only
 rw[aWc ⟨m,n⟩]
theorem R9:ef (AR a) s C H↔aD a s C λt f=>∃d,dm f t=some d/\H (od d) f:=by
 unfold ef aD AR;constructor
 .rintro⟨k,l,e,q⟩;obtain⟨⟨t,f⟩,h,e⟩:=fE e;obtain⟨d,g,e⟩:=fG e;cases e;exact⟨t,_,h,d,g,q⟩
 .rintro⟨t,f,h,d,g,q⟩;exact⟨_,_,by rw[h,aS,g];rfl,q⟩
theorem Lc{g:FG}:wpS (zJ a g F) s C QS↔aD a s C λt f=>∃d,dm f t=some d/\wpS (lQ (stays t d) g F (u1 d)) s f QS:=by
 unfold wpS aD zJ;constructor
 .rintro⟨l,m,n,e,q⟩;obtain⟨⟨t,f⟩,k,e⟩:=fE e;obtain⟨d,h,e⟩:=fE e;exact⟨t,f,k,d,h,l,m,n,e,q⟩
 .rintro⟨t,f,k,d,h,l,m,n,e,q⟩;exact⟨l,m,n,by rw[k,aS];try dsimp only;rw[h,aS];exact e,q⟩
theorem Lm{d:Type}{f:d->T}{xs:List d}:u1 (xs.map f)=(xs.zipIdx).map λp=>.tup [.int p.2,f p.1]:=by
 unfold u1;rw[List.zipIdx_map,cK];rfl
theorem Vk{k:Nat}{is:XG}{g:FG}{n:FB}{m:FE}{c:Nat}{ts:Xw}
 (h:aD a s C λt d=>t=.cell c/\d[c]?=some (.dt ks,ts)/\ks.length=ts.length/\ks.length<lim/\ug (lM g n m (gh k is s) (ks.map Cj) (d.set c (.dz ks,ts))) λf o=>o=d.set c (.dz ks,ts)/\H f d):ef (wG a k is g n m) s C H:=by
 obtain⟨t,d,y,rfl,l,p,z,f,o,x,rfl,q⟩:=h;have r:c<d.length:=(fK l).1;refine⟨f,d,?_,q⟩;unfold wG;rw[y,aS];try dsimp only
 have u:=Iz l;rw[u,aS];try dsimp only
 rw[aWc ⟨z,p⟩,x,aS];try dsimp only
 rw[bT r];try dsimp only
 rw[X9,<-(fK l).2,Ze]
end
end TL
namespace TL
open PySem L2
variable{c:Nat}{a:String}{ns:XJ}
noncomputable def er:XJ:=["tail","head","hours","room","back"]
noncomputable def Ab:XJ:=["pipes","places"]
theorem o8{C:ab}{x:Cl}(h:c<C.length):(C.set c x)[c]?=some x:=bT h
theorem nA{C:ab}{x:Cl}(h:C[c]?=some x):c<C.length:=(fK h).1
theorem nO{f:Str}{x:T}{C:ab}{b:XJ}{d g:Xw}(e:C[c]?=some (.o a ns,d))(h:ns.length<900)(j:pn f ns=b)(i:pv f x ns d=g):AO a f x C (.cell c)=some (C.set c (.o a b,g)):=by
 unfold AO;rw[FQ e,aS];dsimp only;rw[aWc h,j,i]
theorem mJ{f:Str}{C:ab}{b:Xw}{u:T}(e:C[c]?=some (.o a ns,b))(h:dn f ns b=some u):pX a f C (.cell c)=some u:=by
 unfold pX;rw[FQ e];exact h
theorem nJ{m:Str}{C:ab}{b:Xw}(e:C[c]?=some (.o a ns,b))(h:dn m ns b=none):BU a m C (.cell c):=⟨_,FQ e,h⟩
end TL
namespace aJ
open PySem L2 TL
variable{c:Nat}{h d r:T}{Q:T->ab->Prop}
theorem WA{C:ab}{t:T}(e:C[c]?=some (.o "Pipe" [],[]))(q:Q .aF (C.set c (.o "Pipe" er,[t,h,d,r,.aF]))):bf (nV [.cell c,t,h,d,r] C) Q:=by
 have a:=nA e;refine jN ?_;unfold yZ;walk_at "a";refine fQ (oX ?_);try simp_arith[if_true]
 refine⟨_,nO e (by decide) rfl rfl,?_⟩;refine oX ?_;try simp_arith[if_true]
 refine⟨_,nO (o8 a) (by decide) rfl rfl,?_⟩;rw[X9];refine oX ?_;try simp_arith[if_true]
 refine⟨_,nO (o8 a) (by decide) rfl rfl,?_⟩;rw[X9];refine oX ?_;try simp_arith[if_true]
 refine⟨_,nO (o8 a) (by decide) rfl rfl,?_⟩;rw[X9];refine oX ?_;try simp_arith[if_true]
 refine⟨_,nO (o8 a) (by decide) rfl rfl,?_⟩;rw[X9];exact q
theorem sX{C:ab}{t:T}(q:Q .aF (C++[(.o "Pipe" er,[t,h,d,r,.aF])])):bf (nV [.cell C.length,t,h,d,r] (C++[(.o "Pipe" [],[])])) Q:=by
 refine WA (by simp) ?_;rw[cV _ _ (bD _),XS];exact q
theorem Qq{C:ab}{d:Nat}{a:Xw}{b:T}{t h x r:Int}(i:C[c]?=some (.o "Net" Ab,[.cell d,b]))(g:C[d]?=some (.l,a))(k:a.length<lim)
 (q:Q .aF (C.set d (.l,a++[.cell C.length])++[(.o "Pipe" er,[.int t,.int h,.int x,.int r,.cell (C.length+1)]),(.o "Pipe" er,[.int h,.int t,.int (-x),.int 0,.cell C.length])])):
 bf (kW [.cell c,.int t,.int h,.int x,.int r] C) Q:=by
 have l:=nA i;have f:=nA g;refine jN ?_;unfold MI;walk_at "a";refine fQ (f8 (uW ?_));try simp_arith[if_true]
 first|refine sX ⟨rfl,?_⟩|refine⟨rfl,sX ⟨rfl,?_⟩⟩
 try simp_arith[if_true]
 refine uW ?_;try simp_arith[if_true]
 first|refine sX ⟨rfl,?_⟩|refine⟨rfl,sX ⟨rfl,?_⟩⟩
 try simp_arith[if_true]
 have j:(C++[(Kd.o "Pipe" er,[T.int t,T.int h,T.int x,T.int r,T.aF])]).length=C.length+1:=by simp
 rw[j];have f1:(C++[(Kd.o "Pipe" er,[T.int t,T.int h,T.int x,T.int r,T.aF])]++[(Kd.o "Pipe" er,[T.int h,T.int t,T.int (-x),T.int 0,T.aF])])[C.length]?=some (Kd.o "Pipe" er,[T.int t,T.int h,T.int x,T.int r,T.aF]):=by simp
 refine oX ?_;try simp_arith[if_true]
 refine⟨_,nO f1 (by decide) rfl rfl,?_⟩;have f2:((C++[(Kd.o "Pipe" er,[T.int t,T.int h,T.int x,T.int r,T.aF])]++[(Kd.o "Pipe" er,[T.int h,T.int t,T.int (-x),T.int 0,T.aF])]).set C.length (Kd.o "Pipe" er,[T.int t,T.int h,T.int x,T.int r,T.cell (C.length+1)]))=C++[(Kd.o "Pipe" er,[T.int t,T.int h,T.int x,T.int r,T.cell (C.length+1)]),(Kd.o "Pipe" er,[T.int h,T.int t,T.int (-x),T.int 0,T.aF])]:=by
  rw[dH,cV _ _ (bD _),XS];rfl
 rw[show(pv ("back":Str) (T.cell (C.length+1)) er [T.int t,T.int h,T.int x,T.int r,T.aF])=[T.int t,T.int h,T.int x,T.int r,T.cell (C.length+1)]from rfl,show pn ("back":Str) er=er from rfl,f2];try simp_arith[if_true]
 refine oX ?_;try simp_arith[if_true]
 have n:(C++[(Kd.o "Pipe" er,[T.int t,T.int h,T.int x,T.int r,T.cell (C.length+1)]),(Kd.o "Pipe" er,[T.int h,T.int t,T.int (-x),T.int 0,T.aF])])[C.length+1]?=some (Kd.o "Pipe" er,[T.int h,T.int t,T.int (-x),T.int 0,T.aF]):=by
  rw[bL (XQ _)];simp
 refine⟨_,nO n (by decide) rfl rfl,?_⟩;have m:((C++[(Kd.o "Pipe" er,[T.int t,T.int h,T.int x,T.int r,T.cell (C.length+1)]),(Kd.o "Pipe" er,[T.int h,T.int t,T.int (-x),T.int 0,T.aF])]).set (C.length+1) (Kd.o "Pipe" er,[T.int h,T.int t,T.int (-x),T.int 0,T.cell C.length]))=C++[(Kd.o "Pipe" er,[T.int t,T.int h,T.int x,T.int r,T.cell (C.length+1)]),(Kd.o "Pipe" er,[T.int h,T.int t,T.int (-x),T.int 0,T.cell C.length])]:=by
  rw[cV _ _ (XQ _),show C.length+1 - C.length=1 from cQ (XX C) 1];rfl
 rw[show(pv ("back":Str) (T.cell C.length) er [T.int h,T.int t,T.int (-x),T.int 0,T.aF])=[T.int h,T.int t,T.int (-x),T.int 0,T.cell C.length]from rfl,show pn ("back":Str) er=er from rfl,m];simp only[S0];have g1:(C++[(Kd.o "Pipe" er,[T.int t,T.int h,T.int x,T.int r,T.cell (C.length+1)]),(Kd.o "Pipe" er,[T.int h,T.int t,T.int (-x),T.int 0,T.cell C.length])])[c]?=some (.o "Net" Ab,[.cell d,b]):=by rw[aR l];exact i
 have g2:lc (C++[(Kd.o "Pipe" er,[T.int t,T.int h,T.int x,T.int r,T.cell (C.length+1)]),(Kd.o "Pipe" er,[T.int h,T.int t,T.int (-x),T.int 0,T.cell C.length])]) d=some a:=by rw[oA,aR f];exact g
 refine⟨_,mJ g1 rfl,d,rfl,by rw[g2];rfl,a,g2,k,?_⟩;rw[aTy _ _ f];exact q
end aJ
namespace aJ
open PySem L2 TL NF
variable{c:Nat}{nd:XD}
noncomputable def pc(c:Nat)(o:Nat×Bool):Nat:=c+2+2*o.1+if o.2 then 0 else 1
theorem Hz{k:Nat}:pc c (k,true)=c+2+2*k:=rfl
theorem Fc{k:Nat}:pc c (k,false)=c+2+2*k+1:=rfl
def hU(N:Nt)(f:XH)(c:Nat)(o:Nat×Bool):Cl:=(.o "Pipe" er,[.int (rt N o),.int (rh N o),.int (rd N o),.int (rr N f o),.cell (pc c (o.1,!o.2))])
structure Pre(N:Nt)(k:Nat)(C0:ab)(pl:Int)(C:ab):Prop where
 pre:∀i,i<C0.length->C[i]?=C0[i]?
 len:C.length=C0.length+2+2*k
 net:C[C0.length]?=some (.o "Net" Ab,[.cell (C0.length+1),.int pl])
 lst:C[C0.length+1]?=some (.l,(bH k).map λj=>.cell (pc C0.length (j,true)))
 k0:∀o:Nat×Bool,o.1<k->C[pc C0.length o]?=some (hU N (λ_=>0) C0.length o)
theorem Pre.lay{N:Nt}{k:Nat}{a C:ab}{p:Int}(P:Pre N k a p C)(y:k<90000){t h d r:Int}(u:t=N.t k)(z:h=N.h k)(e:d=N.d k)(v:r=N.c k){Q:T->ab->Prop}(q:∀s,Pre N (k+1) a p s->Q .aF s):
 bf (kW [.cell a.length,.int t,.int h,.int d,.int r] C) Q:=by
 subst u z e v;refine Qq P.net P.lst (by simp[lim];exact aM y (by decide)) (q _ ?_);have l:=P.len;have m:a.length+1<C.length:=by lia
 have f:∀i,i<C.length->i≠a.length+1->(C.set (a.length+1) (Kd.l,(bH k).map (λj=>T.cell (pc a.length (j,true)))++[T.cell C.length])++
  [(Kd.o "Pipe" er,[T.int (N.t k),T.int (N.h k),T.int (N.d k),T.int (N.c k),T.cell (C.length+1)]),(Kd.o "Pipe" er,[T.int (N.h k),T.int (N.t k),T.int (-N.d k),T.int 0,T.cell C.length])])[i]?=C[i]?:=λi n x=>by
  rw[aR (by simpa using n),aQ (Ne.symm x)]
 refine⟨λi n=>?_,by simp;lia,?_,?_,λo w=>?_⟩
 .rw[f i (aM (cI n) (dY m)) (by lia)];exact P.pre i n
 .rw[f _ (ZU m) (by lia)];exact P.net
 .rw[aR (by simpa using m),bT m,YL,bR,l];rfl
 .by_cases g:o.1<k
  .rw[f _ (by unfold pc;split<;>lia) (by unfold pc;lia)];exact P.k0 o g
  .have:o.1=k:=X2 (bJ w) (cT g);obtain⟨j,b⟩:=o;cases this;cases b with
   |true=>
    rw[Hz,bL (by simp;exact bZ l)];simp only[dD,l,XS,cD];unfold hU rt rh rd rr;simp[Fc]
   |false=>
    rw[Fc,bL (by simp;exact cY (bZ l))];simp only[dD,l];rw[show a.length+2+2*j+1 - (a.length+2+2*j)=1 from cQ (XX a+2+2*j) 1];unfold hU rt rh rd rr;simp[Hz]
noncomputable def gY(ws:XA):Wk:=⟨λi=>((ws[i]?).getD (0,0,0)).1,λi=>((ws[i]?).getD (0,0,0)).2.1,λi=>((ws[i]?).getD (0,0,0)).2.2⟩
noncomputable def jJ:Nat->XD->XC
 |_,[]=>[]
 |s,l::r=>(l.map λa=>(a.toNat,s))++jJ (s+1) r
theorem GF:∀{nd:XD}{s b j:Nat}{l:XE}{a:Int},nd[b]?=some l->l[j]?=some a->(jJ s nd)[(jJ s (nd.take b)).length+j]?=some (a.toNat,s+b)
 | [],s,b,j,l,a,h,_=>by simp at h
 |x::nd,s,0,j,l,a,h,d=>by
  simp at h;subst h;show((x.map λa=>(a.toNat,s))++jJ (s+1) nd)[0+j]?=_;rw[XT,aR (by simpa using(fK d).1),bI,d];rfl
 |x::nd,s,b+1,j,l,a,h,d=>by
  have ih:=GF (s:=s+1) (b:=b) (nd:=nd) (by simpa using h) d;show((x.map λa=>(a.toNat,s))++jJ (s+1) nd)[((x.map λa=>(a.toNat,s))++jJ (s+1) (nd.take b)).length+j]?=_;rw[aY,fB,bL (by lia),cQ,ih];congr 2;exact XU (Yk s 1 b) (fB s b 1)
theorem Ux:∀{s b:Nat}{l:XE},nd[b]?=some l->(jJ s (nd.take (b+1))).length=(jJ s (nd.take b)).length+l.length:=by
 induction nd with
 |nil=>intro s b l h;simp at h
 |cons x nd ih=>
  intro s b l h;cases b with
  |zero=>simp at h;subst h;simp[jJ]
  |succ b=>
   have:=ih (s:=s+1) (b:=b) (by simpa using h);simp only[aTD,jJ,aY,aP]at this|-;lia
theorem K8{z:Nat}(h:∀l∈nd,l.length<=z):∀{s:Nat},(jJ s nd).length<=nd.length*z:=by
 induction nd with
 |nil=>intro s;simp[jJ]
 |cons x nd ih=>
  intro s;have d:=h x bM;have b:=ih (λl a=>h l (bA _ a)) (s:=s+1);simp only[jJ,aY,aP,aN,Nat.add_mul,Nat.one_mul];lia
theorem TV{e:Nat×Nat}:∀{s:Nat},e∈jJ s nd->∃b l a,nd[b]?=some l/\a∈l/\e=(a.toNat,s+b):=by
 induction nd with
 |nil=>intro s h;simp[jJ]at h
 |cons x nd ih=>
  intro s h;rcases fZ (show e∈(x.map λa=>(a.toNat,s))++jJ (s+1) nd from h)with h|h
  .obtain⟨a,d,rfl⟩:=fY h;exact⟨0,x,a,rfl,d,rfl⟩
  .obtain⟨b,l,a,i,g,f⟩:=ih h;exact⟨b+1,l,a,by simpa using i,g,by rw[f];congr 1;exact XU (Yk s 1 b) (fB s b 1)⟩
theorem SA{b:Nat}{l:XE}{a:Int}(h:nd[b]?=some l)(f:a∈l):(a.toNat,b)∈jJ 0 nd:=by
 obtain⟨j,d⟩:=gB f;have:=GF (s:=0) h d;rw[XT]at this;exact aX this
end aJ
namespace aJ
open PySem L2 TL NF
variable{i:Nat}{w:Wk}{es:XC}{P:Int}
theorem zO:jU [.int i]=some (.int (2*i+2)):=by
 apply j4;unfold uC;walk_at "a";simp_arith[if_true];refine⟨lK (by decide) (by decide),?_⟩;rfl
theorem Xa:kK [.int i]=some (.int (2*i+3)):=by
 apply j4;unfold vH;walk_at "a";simp_arith[if_true];refine⟨lK (by decide) (by decide),?_⟩;rfl
theorem V6:tO [.int (2*i+2)]=some (.int i):=by
 apply j4;unfold L8;walk_at "a";simp_arith[if_true];refine⟨by decide,?_⟩;show some (T.int ((2*(i:Int)+2)/2 - 1))=_;congr 2;lia
theorem QP{n:Nat}(d:i<n):(net w n es P).t (4*i)=0/\(net w n es P).h (4*i)=2*i+2/\(net w n es P).d (4*i)=0/\(net w n es P).c (4*i)=P:=by
 have c:4*i<4*n:=by lia
 have a:4*i%4=0:=by lia
 have b:4*i/4=i:=by lia
 refine⟨?_,?_,?_,?_⟩<;>simp[net,c,a,b]
theorem Rp{n:Nat}(d:i<n):(net w n es P).t (4*i+1)=2*i+2/\(net w n es P).h (4*i+1)=2*i+3/\(net w n es P).d (4*i+1)=w.u i/\(net w n es P).c (4*i+1)=w.p i:=by
 have c:4*i+1<4*n:=by lia
 have a:(4*i+1)%4=1:=by lia
 have b:(4*i+1)/4=i:=by lia
 refine⟨?_,?_,?_,?_⟩<;>simp[net,c,a,b]
theorem SK{n:Nat}(d:i<n):(net w n es P).t (4*i+2)=2*i+2/\(net w n es P).h (4*i+2)=2*i+3/\(net w n es P).d (4*i+2)=w.l i/\(net w n es P).c (4*i+2)=P:=by
 have c:4*i+2<4*n:=by lia
 have a:(4*i+2)%4=2:=by lia
 have b:(4*i+2)/4=i:=by lia
 refine⟨?_,?_,?_,?_⟩<;>simp[net,c,a,b]
theorem RE{n:Nat}(d:i<n):(net w n es P).t (4*i+3)=2*i+3/\(net w n es P).h (4*i+3)=1/\(net w n es P).d (4*i+3)=0/\(net w n es P).c (4*i+3)=P:=by
 have c:4*i+3<4*n:=by lia
 have a:(4*i+3)%4=3:=by lia
 have b:(4*i+3)/4=i:=by lia
 refine⟨?_,?_,?_,?_⟩<;>simp[net,c,a,b]
theorem Re{n:Nat}{j a b:Nat}(d:es[j]?=some (a,b)):(net w n es P).t (4*n+j)=2*a+3/\(net w n es P).h (4*n+j)=2*b+2/\(net w n es P).d (4*n+j)=0/\(net w n es P).c (4*n+j)=P:=by
 have f:¬4*n+j<4*n:=Yc (b8 (4*n) j);have c:4*n+j - 4*n=j:=cQ (4*n) j;refine⟨?_,?_,?_,?_⟩<;>simp[net,f,c,d]
noncomputable def plenty(ws:XA)(bonus:Int):Int:=(ws.map (·.2.2)).sum+bonus+1
def jD(ws:XA)(nd:XD)(bonus:Int):Nt:=net (gY ws) ws.length (jJ 0 nd) (plenty ws bonus)
theorem Te{C:ab}{c:Nat}{t h d r:Int}{a:aE}{QS:TL.Fl->aE->ab->Prop}{b fh fd f:FE}{g:T}{e:Nat}(o:a[0]?=some (some (.cell c)))(n:C[c]?=some (.o "Net" Ab,[.cell e,g]))
 (j:b a C=some (.int t,C))(l:fh a C=some (.int h,C))(m:fd a C=some (.int d,C))(k:f a C=some (.int r,C))(q:bf (kW [.cell c,.int t,.int h,.int d,.int r] C) λ_ p=>QS .nx a p):
 wpS (oR (mC "Net" "lay" 5 kW Y0 (fN b (fN fh (fN fd (fN f f7)))))) a C QS:=by
 refine lT (l4 ?_);refine fO o ⟨nJ n rfl,?_⟩;refine fF ⟨_,_,j,fF ⟨_,_,l,fF ⟨_,_,m,fF ⟨_,_,k,fM ⟨rfl,q⟩⟩⟩⟩⟩
theorem rD{a:aE}{C:ab}{k:Nat}(h:a[k]?=some (some (.int i))):g8 1 jU (fN (kI k) f7) a C=some (.int (2*i+2),C):=by
 have:aD (g8 1 jU (fN (kI k) f7)) a C λt b=>t=.int (2*i+2)/\b=C:=by
  refine f9 (fF (fO h (fM ?_)));exact(gP zO rfl rfl).mpr ⟨rfl,rfl⟩
 obtain⟨t,b,e,rfl,rfl⟩:=this;exact e
theorem tN{a:aE}{C:ab}{k:Nat}(h:a[k]?=some (some (.int i))):g8 1 kK (fN (kI k) f7) a C=some (.int (2*i+3),C):=by
 have:aD (g8 1 kK (fN (kI k) f7)) a C λt b=>t=.int (2*i+3)/\b=C:=by
  refine f9 (fF (fO h (fM ?_)));exact(gP Xa rfl rfl).mpr ⟨rfl,rfl⟩
 obtain⟨t,b,e,rfl,rfl⟩:=this;exact e
theorem y8{a:aE}{C:ab}{k:Nat}{t:T}(h:a[k]?=some (some t)):kI k a C=some (t,C):=by unfold kI;rw[h]
theorem FA{a:aE}{C:ab}{k:Nat}{w:Int×Int×Int}(h:a[k]?=some (some (w3 w))):aH (kI k) (fI 0) a C=some (.int w.1,C)/\aH (kI k) (fI 1) a C=some (.int w.2.1,C)/\aH (kI k) (fI 2) a C=some (.int w.2.2,C):=by
 refine⟨?_,?_,?_⟩<;>(show(kI k a C).bind _=_;rw[y8 h];rfl)
end aJ
namespace aJ
open PySem L2 TL NF
variable{g:ab}{m f:Int}{QS:TL.Fl->aE->ab->Prop}{c:XA}{nd:XD}
theorem Pre.step{N:Nt}{k:Nat}{C:ab}(P:Pre N k g m C)(o:k<90000){t h d r:Int}{a:aE}{i fh fd j:FE}(u:a[0]?=some (some (.cell g.length)))
 (l:i a C=some (.int t,C))(p:fh a C=some (.int h,C))(s:fd a C=some (.int d,C))(n:j a C=some (.int r,C))(e:t=N.t k/\h=N.h k/\d=N.d k/\r=N.c k)(q:∀b,Pre N (k+1) g m b->QS .nx a b):
 wpS (oR (mC "Net" "lay" 5 kW Y0 (fN i (fN fh (fN fd (fN j f7)))))) a C QS:=
 Te u P.net l p s n (P.lay o e.1 e.2.1 e.2.2.1 e.2.2.2 λb h=>q b h)
theorem Ua{C:ab}{i:Nat}{w:Int×Int×Int}{j:aE}(l:c[i]?=some w)(B:c.length<=8)(P:Pre (jD c nd f) (4*i) g m C)
 (o:j[0]?=some (some (.cell g.length)))(r:j[4]?=some (some (.int (plenty c f))))(k:j[5]?=some (some (.int i)))(p:j[6]?=some (some (w3 w)))(q:∀s,Pre (jD c nd f) (4*(i+1)) g m s->QS .nx j s):wpS pM j C QS:=by
 have n:i<c.length:=(fK l).1;have t:(gY c).u i=w.1:=by simp[gY,l]
 have v:(gY c).l i=w.2.1:=by simp[gY,l]
 have u:(gY c).p i=w.2.2:=by simp[gY,l]
 unfold pM;obtain⟨h,d,b,a⟩:=QP (w:=gY c) (es:=jJ 0 nd) (P:=plenty c f) n;refine fQ (P.step (t:=0) (h:=2*i+2) (d:=0) (r:=plenty c f) (by lia) o rfl (rD k) rfl (y8 r) ⟨by rw[show(jD c nd f).t (4*i)=0 from h];rfl,by rw[show(jD c nd f).h (4*i)=_ from d];simp,by rw[show(jD c nd f).d (4*i)=_ from b],by rw[show(jD c nd f).c (4*i)=_ from a]⟩ λG e=>?_);obtain⟨h,d,b,a⟩:=Rp (w:=gY c) (es:=jJ 0 nd) (P:=plenty c f) n;refine fV (fQ (e.step (t:=2*i+2) (h:=2*i+3) (d:=w.1) (r:=w.2.2) (by lia) o (rD k) (tN k) (FA p).1 (FA p).2.2 ⟨by rw[show(jD c nd f).t (4*i+1)=_ from h];simp,by rw[show(jD c nd f).h (4*i+1)=_ from d];simp,by rw[show(jD c nd f).d (4*i+1)=_ from b,t],by rw[show(jD c nd f).c (4*i+1)=_ from a,u]⟩ λF z=>?_));obtain⟨h,d,b,a⟩:=SK (w:=gY c) (es:=jJ 0 nd) (P:=plenty c f) n;refine fV (fQ (z.step (t:=2*i+2) (h:=2*i+3) (d:=w.2.1) (r:=plenty c f) (by lia) o (rD k) (tN k) (FA p).2.1 (y8 r) ⟨by rw[show(jD c nd f).t (4*i+1+1)=_ from h];simp,by rw[show(jD c nd f).h (4*i+1+1)=_ from d];simp,by rw[show(jD c nd f).d (4*i+1+1)=_ from b,v],by rw[show(jD c nd f).c (4*i+1+1)=_ from a]⟩ λD y=>?_));obtain⟨h,d,b,a⟩:=RE (w:=gY c) (es:=jJ 0 nd) (P:=plenty c f) n;refine fV (y.step (t:=2*i+3) (h:=1) (d:=0) (r:=plenty c f) (by lia) o (tN k) rfl rfl (y8 r) ⟨by rw[show(jD c nd f).t (4*i+1+1+1)=_ from h];simp,by rw[show(jD c nd f).h (4*i+1+1+1)=_ from d];rfl,by rw[show(jD c nd f).d (4*i+1+1+1)=_ from b],by rw[show(jD c nd f).c (4*i+1+1+1)=_ from a]⟩ λA x=>q A ?_);rw[show 4*(i+1)=4*i+1+1+1+1 by lia];exact x
theorem UH{C:ab}{b:Nat}{l:XE}{h:aE}(v:nd[b]?=some l)(p:∀a∈l,0<=a)(y:4*c.length+(jJ 0 nd).length<90000)(P:Pre (jD c nd f) (4*c.length+(jJ 0 (nd.take b)).length) g m C)
 (x:h.length=10)(D:h[0]?=some (some (.cell g.length)))(B:h[4]?=some (some (.int (plenty c f))))(A:h[7]?=some (some (.int b)))(e:h[8]?=some (some (iT l)))
 (q:∀d k,(∀i,i<7->d[i]?=h[i]?)->d.length=10->Pre (jD c nd f) (4*c.length+(jJ 0 (nd.take (b+1))).length) g m k->QS .nx d k):wpS pL h C QS:=by
 unfold pL;refine iS (fO e ⟨l.map T.int,rfl,?_⟩);refine lC (en:=T.int) (xs:=l) (λj d k=>(∀i,i<9->d[i]?=h[i]?)/\d.length=10/\Pre (jD c nd f) (4*c.length+(jJ 0 (nd.take b)).length+j) g m k) ⟨λ_ _=>rfl,x,P⟩ ?_ ?_
 .rintro j a d k u ⟨n,o,t⟩;have s:=GF (s:=0) v u;rw[XT]at s;have N:(jJ 0 (nd.take b)).length+j<(jJ 0 nd).length:=(fK s).1;have z:0<=a:=p a (aX u);obtain⟨M,L,K,J⟩:=Re (w:=gY c) (n:=c.length) (P:=plenty c f) s;refine fT ?_;have I:(d.set 9 (some (T.int a)))[0]?=some (some (.cell g.length)):=by rw[aQ (by decide),n 0 (by decide)];exact D
  have H:(d.set 9 (some (T.int a)))[4]?=some (some (.int (plenty c f))):=by rw[aQ (by decide),n 4 (by decide)];exact B
  have G:(d.set 9 (some (T.int a)))[7]?=some (some (.int b)):=by rw[aQ (by decide),n 7 (by decide)];exact A
  have F:(d.set 9 (some (T.int a)))[9]?=some (some (.int (a.toNat:Int))):=by rw[bT (by rw[o];decide),bP z]
  unfold wZ;refine t.step (t:=2*a.toNat+3) (h:=2*b+2) (d:=0) (r:=plenty c f) (by lia) I (tN F) (rD G) rfl (y8 H) ?_ λO w=>⟨trivial,λi r=>?_,by simpa using o,by rw[fB]at w;exact w⟩
  .rw[fB];exact⟨by rw[show(jD c nd f).t _=_ from M];simp,by rw[show(jD c nd f).h _=_ from L];simp,by rw[show(jD c nd f).d _=_ from K],by rw[show(jD c nd f).c _=_ from J]⟩
  .rw[aQ (by lia)];exact n i r
 .rintro d k ⟨n,o,t⟩;refine q d k (λi r=>n i (aM r (by decide))) o ?_;rw[Ux v,<-fB];exact t
end aJ
namespace aJ
open PySem L2 TL NF
theorem Mt{ws:XA}{ps:XB}{nd:XD}{bonus:Int}{c:ab}(m:ws.length<=8)(A:ps.length<=1000)(z:fw ws.length ps)(G:iU [.int ws.length,.lst (ps.map pT)]=some (.lst (nd.map iT)))(s:Nd ps ws.length nd){Q:T->ab->Prop}
 (q:∀n,Pre (jD ws nd bonus) (jD ws nd bonus).m c (2*ws.length+2) n->Q .aF n):bf (nW [.cell c.length,.lst (ws.map w3),.lst (ps.map pT),.int bonus] (c++[(.o "Net" [],[])])) Q:=by
 have t:4*ws.length+(jJ 0 nd).length<90000:=by
  have:=K8 (nd:=nd) (z:=1000) (λl m=>?_) (s:=0)
  .rw[s.1]at this;have R:ws.length*1000<=8*1000:=aTB _ m;lia
  .obtain⟨b,D⟩:=gB m;exact bB (s.2 b l D).1 A
 refine jN ?_;unfold LO;walk_at "a";refine fQ (oX ?_);try simp_arith[if_true]
 refine⟨by decide,?_⟩;have f1:(c++[(Kd.o "Net" [],[])]++[(Kd.l,[])])[c.length]?=some (Kd.o "Net" [],[]):=by simp
 refine⟨_,nO f1 (by decide) rfl rfl,?_⟩;have f2:(c++[(Kd.o "Net" [],[])]++[(Kd.l,[])]).set c.length (Kd.o "Net" ["pipes"],[T.cell (c.length+1)])=c++[(Kd.o "Net" ["pipes"],[T.cell (c.length+1)]),(Kd.l,[])]:=by
  rw[dH,cV _ _ (bD _),XS];rfl
 have J:(c++[(Kd.o "Net" [],([]:Xw))]).length=c.length+1:=by simp
 rw[J];rw[show pn ("pipes":Str) []=[("pipes":Str)]from rfl,show TL.pv ("pipes":Str) (T.cell (c.length+1)) [] []=[T.cell (c.length+1)]from rfl,f2];refine oX ?_;try simp_arith[if_true]
 refine⟨lK (by decide) (by decide),?_⟩;have I:(c++[(Kd.o "Net" ["pipes"],[T.cell (c.length+1)]),(Kd.l,[])])[c.length]?=some (Kd.o "Net" ["pipes"],[T.cell (c.length+1)]):=by simp
 refine⟨_,nO I (by decide) rfl rfl,?_⟩;have H:∀x:T,(c++[(Kd.o "Net" ["pipes"],[T.cell (c.length+1)]),(Kd.l,[])]).set c.length (Kd.o "Net" (pn ("places":Str) ["pipes"]),TL.pv ("places":Str) x ["pipes"] [T.cell (c.length+1)])=c++[(Kd.o "Net" Ab,[T.cell (c.length+1),x]),(Kd.l,[])]:=λx=>by
  rw[cV _ _ (bD _),XS];rfl
 rw[H];try simp_arith[if_true]
 rw[aP];refine⟨by simp[lim];exact bO m (by decide),?_⟩;refine iY (xs:=ws) (en:=w3) (λw=>T.int w.2.2) (λw _=>?_) ?_
 .try simp_arith[if_true]
  exact⟨_,rfl,_,rfl,_,rfl,rfl⟩
 refine⟨_,p9 (f:=λw:Int×Int×Int=>w.2.2),?_⟩;have M:Pre (jD ws nd bonus) (4*0) c (2*ws.length+2) (c++[(Kd.o "Net" Ab,[T.cell (c.length+1),T.int (2*ws.length+2)]),(Kd.l,[])]):=by
  refine⟨λi j=>aR j,by simp,by simp,?_,λo B=>absurd B (dP o.1)⟩;rw[bL (XQ _),show c.length+1 - c.length=1 from cQ (XX c) 1];rfl
 refine Lc.mpr ?_;try simp_arith[if_true]
 rw[Lm];refine lC (xs:=ws.zipIdx) (λi d C=>d.length=10/\d[0]?=some (some (.cell c.length))/\d[1]?=some (some (.lst (ws.map w3)))/\d[2]?=some (some (.lst (ps.map pT)))/\d[4]?=some (some (.int (plenty ws bonus)))/\Pre (jD ws nd bonus) (4*i) c (2*ws.length+2) C) ⟨rfl,rfl,rfl,rfl,rfl,M⟩ ?_ ?_
 .rintro i ⟨w,k⟩ d C j ⟨f,h,r,p,g,P⟩;rw[ZA]at j;obtain⟨N,L,e⟩:=fG j;cases e;rw[XT];refine kX ⟨_,rfl,rfl,?_⟩;show wpS pM ((d.set 5 (some (T.int i))).set 6 (some (w3 w))) C _;refine Ua L m P ?_ ?_ ?_ ?_ λn u=>⟨?_,?_,?_,?_,?_,?_,u⟩
  .rw[aQ (by decide),aQ (by decide)];exact h
  .rw[aQ (by decide),aQ (by decide)];exact g
  .rw[aQ (by decide),bT (by rw[f];decide)]
  .rw[bT (by rw[dD,f];decide)]
  .trivial
  .simpa using f
  .rw[aQ (by decide),aQ (by decide)];exact h
  .rw[aQ (by decide),aQ (by decide)];exact r
  .rw[aQ (by decide),aQ (by decide)];exact p
  .rw[aQ (by decide),aQ (by decide)];exact g
 .rintro d C ⟨f,h,r,p,g,P⟩;rw[aTL]at P;refine fV (Lc.mpr ?_);refine f9 (fF ?_);refine f9 (fF (fO r (fM ?_)));refine l7 ⟨_,rfl,fF (fO p (fM ?_))⟩;rw[aP];refine(gP G rfl (by walk_at "c";rw[oO];rfl)).mpr ⟨_,rfl,?_⟩;rw[Lm];refine lC (xs:=nd.zipIdx) (λb d C=>d.length=10/\d[0]?=some (some (.cell c.length))/\d[4]?=some (some (.int (plenty ws bonus)))/\Pre (jD ws nd bonus) (4*ws.length+(jJ 0 (nd.take b)).length) c (2*ws.length+2) C) ⟨f,h,g,P⟩ ?_ ?_
  .rintro b ⟨l,k⟩ d C j ⟨f,h,g,P⟩;rw[ZA]at j;obtain⟨O,y,e⟩:=fG j;cases e;rw[XT];refine kX ⟨_,rfl,rfl,?_⟩;show wpS pL ((d.set 7 (some (T.int b))).set 8 (some (iT l))) C _;refine UH y (λa F=>?_) t P (by simpa using f) ?_ ?_ ?_ ?_ λS n v K u=>⟨trivial,K,?_,?_,u⟩
   .exact(z _ (((s.2 b l y).2 a).mp F)).1.1
   .rw[aQ (by decide),aQ (by decide)];exact h
   .rw[aQ (by decide),aQ (by decide)];exact g
   .rw[aQ (by decide),bT (by rw[f];decide)]
   .rw[bT (by rw[dD,f];decide)]
   .rw[v 0 (by decide),aQ (by decide),aQ (by decide)];exact h
   .rw[v 4 (by decide),aQ (by decide),aQ (by decide)];exact g
  .rintro d C ⟨f,h,g,P⟩;rw[aTL,dE]at P;exact q C P
end aJ
namespace aJ
open PySem L2 TL NF
variable{N:Nt}{pl:Int}{c:Nat}{d:ab}{o:Nat×Bool}{Q:T->ab->Prop}
structure jE(N:Nt)(f:XH)(c:Nat)(pl:Int)(C:ab):Prop where
 net:C[c]?=some (.o "Net" Ab,[.cell (c+1),.int pl])
 lst:C[c+1]?=some (.l,(bH N.m).map λj=>.cell (pc c (j,true)))
 k0:∀o:Nat×Bool,o.1<N.m->C[pc c o]?=some (hU N f c o)
theorem Pre.at{a C:ab}(P:Pre N N.m a pl C):jE N (λ_=>0) a.length pl C:=⟨P.net,P.lst,P.k0⟩
theorem jE.mono{f:XH}{C:ab}(A:jE N f c pl C)(h:∀i,c<=i->i<c+2+2*N.m->d[i]?=C[i]?):jE N f c pl d:=
 ⟨by rw[h c (bD _) (ZU (fD (b8 c.succ.succ (2*N.m))))];exact A.net,by rw[h (c+1) (XQ _) (fD (b8 (c+1).succ (2*N.m)))];exact A.lst,λo a=>by rw[h _ (by unfold pc;exact ZR (ZR (b8 c 2))) (by unfold pc;split<;>lia)];exact A.k0 o a⟩
theorem jE.app{f:XH}{C G:ab}(A:jE N f c pl C)(a:c+2+2*N.m<=C.length):jE N f c pl (C++G):=A.mono λi _ h=>aR (aM h a)
theorem jE.len{f:XH}{C:ab}(A:jE N f c pl C):c+2+2*N.m<=C.length:=by
 by_cases h:N.m=0
 .have:=nA A.lst;lia
 .have:=nA (A.k0 (N.m - 1,false) (by show N.m - 1<N.m;exact dS (bS (Nat.pos_of_ne_zero h)) (bX N.m)));rw[Fc]at this;lia
theorem jE.fld{f:XH}{C:ab}(A:jE N f c pl C)(a:o.1<N.m):pX "Pipe" "tail" C (.cell (pc c o))=some (.int (rt N o))/\pX "Pipe" "head" C (.cell (pc c o))=some (.int (rh N o))/\
 pX "Pipe" "hours" C (.cell (pc c o))=some (.int (rd N o))/\pX "Pipe" "room" C (.cell (pc c o))=some (.int (rr N f o))/\pX "Pipe" "back" C (.cell (pc c o))=some (.cell (pc c (o.1,!o.2))):=
 ⟨mJ (A.k0 o a) rfl,mJ (A.k0 o a) rfl,mJ (A.k0 o a) rfl,mJ (A.k0 o a) rfl,mJ (A.k0 o a) rfl⟩
noncomputable def both(N:Nt):List (Nat×Bool):=(bH N.m).map (λk=>(k,true))++(bH N.m).map λk=>(k,false)
def tv(N:Nt)(f:XH):List (Nat×Bool):=(both N).filter λo=>decide (0<rr N f o)
theorem JS:o∈both N↔o.1<N.m:=by
 obtain⟨k,b⟩:=o;unfold both;cases b<;>simp
theorem GU{f:XH}:o∈tv N f↔g6 N f o:=by
 unfold tv g6;rw[YJ,JS,decide_eq_true_iff]
def lP:=λ{a b c}=>(@GU a b c).mp
theorem gM{f:FE}{a:aE}{C:ab}{t:T}(e:f a C=some (t,d))(q:Q t d):aD f a C Q:=⟨t,d,e,q⟩
theorem jW{a:String}{f:Str}{b:aE}{C:ab}{k:Nat}{t u:T}(h:b[k]?=some (some t))(e:pX a f C t=some u):mG a f (kI k) b C=some (u,C):=by
 have:aD (mG a f (kI k)) b C λx d=>x=u/\d=C:=nG (fO h ⟨_,e,rfl,rfl⟩);obtain⟨_,_,g,rfl,rfl⟩:=this;exact g
theorem uE{f:XH}{C:ab}(A:jE N f c pl C)(i:N.m<40000)(q:Q (.lst ((tv N f).map λo=>.cell (pc c o))) C):bf (kQ [.cell c] C) Q:=by
 have b:pX "Net" "pipes" C (.cell c)=some (.cell (c+1)):=mJ A.net rfl;have a:lc C (c+1)=some ((bH N.m).map λj=>.cell (pc c (j,true))):=gS A.lst;refine jN ?_;unfold p7;walk_at "a";refine fQ (f8 (gA (lR ?_)));refine gM (jW rfl b) (gA (jK (gM (jW rfl b) ⟨_,a,by simp[lim];exact aM i (by decide),?_⟩)));refine iY (xs:=bH N.m) (en:=λj=>T.cell (pc c (j,true))) (λj=>T.cell (pc c (j,false))) (λj k=>?_) ?_
 .refine fT (gM (jW (t:=.cell (pc c (j,true))) rfl (A.fld (o:=(j,true)) (iC k)).2.2.2.2) ⟨rfl,rfl⟩)
 refine mE ⟨_,a,_,rfl,by simp[lim];lia,?_⟩;refine fT (fV (gG (gA (jK (hX ⟨_,rfl,_,rfl,by simp[lim];lia,?_⟩)))));have l:((bH N.m).map (λj=>T.cell (pc c (j,true)))++(bH N.m).map λj=>T.cell (pc c (j,false)))=(both N).map λo=>T.cell (pc c o):=by
  unfold both;rw[bR,cK,cK];rfl
 rw[l];refine u6 (xs:=both N) (en:=λo=>T.cell (pc c o)) (λo=>decide (0<rr N f o)) (λo=>T.cell (pc c o)) (λo h=>?_) q;have g:=(A.fld (JS.mp h)).2.2.2.1;refine fT (gQ (fL (gM (jW (t:=.cell (pc c o)) rfl g) (fS (gC ⟨_,rfl,rfl,?_,λ_=>fO rfl ⟨rfl,rfl⟩⟩)))));rfl
end aJ
namespace TL
open PySem L2
theorem wB{a:aE}{C:ab}{c:FB}{F:FS}{Q:Fl->aE->ab->Prop}(J:Nat->aE->ab->Prop){n m:Nat}(u:m<n)(x:J m a C)
 (w:∀m a C,J m a C->ia c a C λb o=>if b=true then wpS F a o (λl g i=>match l with
  | .nx=>∃f,f<m/\J f g i
  | .ct=>∃f,f<m/\J f g i
  | .bk=>Q .nx g i
  | .rt v=>Q (.rt v) g i
  | .ex v=>Q (.ex v) g i)else Q .nx a o):wpS (nF c F n) a C Q:=by
 induction n generalizing m a C with
 |zero=>lia
 |succ d ih=>
  obtain⟨b,o,j,h⟩:=w m a C x;cases b with
  |false=>
   rw[aWa (by simp)]at h;exact⟨.nx,a,o,by unfold nF;rw[j];rfl,h⟩
  |true=>
   rw[aWc rfl]at h;obtain⟨l,g,i,k,h⟩:=h;cases l with
   |nx=>
    obtain⟨f,r,p⟩:=h;obtain⟨l,s,t,e,q⟩:=ih (m:=f) (aM r (bJ u)) p;exact⟨l,s,t,by unfold nF;rw[j,aS,aWc rfl,k,aS];exact e,q⟩
   |ct=>
    obtain⟨f,r,p⟩:=h;obtain⟨l,s,t,e,q⟩:=ih (m:=f) (aM r (bJ u)) p;exact⟨l,s,t,by unfold nF;rw[j,aS,aWc rfl,k,aS];exact e,q⟩
   |bk=>exact⟨.nx,g,i,by unfold nF;rw[j,aS,aWc rfl,k];rfl,h⟩
   |rt v=>exact⟨.rt v,g,i,by unfold nF;rw[j,aS,aWc rfl,k];rfl,h⟩
   |ex v=>exact⟨.ex v,g,i,by unfold nF;rw[j,aS,aWc rfl,k];rfl,h⟩
end TL
namespace aJ
open PySem L2 TL NF
variable{N:Nt}{c g:Nat}{l:Int}
noncomputable def mM(n:Nat)(x:XH):Xw:=(bH n).map λv=>T.int (x v)
theorem vA{n:Nat}{x:XH}:(mM n x).length=n:=by simp[mM]
theorem vM{n:Nat}{x:XH}{v:Nat}(h:v<n):(mM n x)[v]?=some (.int (x v)):=by simp[mM,h]
theorem GS{n:Nat}{x:XH}{v:Nat}(h:v<n):dc (mM n x) (v:Int)=some (.int (x v)):=Kk (vM h)
theorem Kf{n:Nat}{x:XH}{v:Nat}(h:v<n):jz (mM n x).length (v:Int)=some v:=by
 unfold jz;rw[vA];simp[h]
theorem LD{n:Nat}{x:XH}{v:Nat}{y:Int}:(mM n x).set v (.int y)=mM n (up x v y):=by
 apply aTT;intro i;by_cases a:i<n
 .by_cases b:v=i
  .subst b;rw[bT (by rw[vA];exact a),vM a,kY]
  .rw[aQ b,vM a,vM a,uD (Ne.symm b)]
 .rw[dJ (by rw[dD,vA];exact cT a),dJ (by rw[vA];exact cT a)]
theorem jE.M3{f:XH}{C:ab}(A:jE N f c l C)(h:g<c\/c+2+2*N.m<=g)(y:Cl):jE N f c l (C.set g y):=A.mono λi b a=>aQ (by lia)
theorem oK{f:FE}{a:aE}{C:ab}{t:T}(h:aD f a C λb d=>b=t/\d=C):f a C=some (t,C):=by
 obtain⟨_,_,e,rfl,rfl⟩:=h;exact e
theorem Ed{b:aE}{C:ab}{a k n v:Nat}{x:XH}{p:T}{d:Str}(m:b[a]?=some (some (.cell g)))(j:b[k]?=some (some p))(h:lc C g=some (mM n x))(i:pX "Pipe" d C p=some (.int v))(f:v<n):
 aH (kI a) (mG "Pipe" d (kI k)) b C=some (.int (x v),C):=
 oK (fL (fO m (gM (jW j i) (gL ⟨_,h,_,GS f,rfl,rfl⟩))))
theorem TB{f:XH}{n:Nat}{C:ab}{x:XH}{os:List (Nat×Bool)}(A:jE N f c l C)(I:In N n)(G:g<c\/c+2+2*N.m<=g)(e:C[g]?=some (.l,mM n x))(H:∀o∈os,g6 N f o){Q:T->ab->Prop}
 (q:∀r i,(∀s0,my N n f s0 x->my N n f s0 i)->(r=false->i=x/\∀o∈os,x (rt N o)+rd N o<=x (rh N o))->(r=true->sm n x<sm n i)->Q (.bl r) (C.set g (.l,mM n i))):
 bf (mV [.cell g,.lst (os.map λo=>.cell (pc c o))] C) Q:=by
 have M:=nA e;refine jN ?_;unfold rJ;walk_at "a";simp_arith[if_true];refine lC (xs:=os) (en:=λo=>T.cell (pc c o)) (λj v D=>∃i r a b,v=[some (.cell g),some (.lst (os.map λo=>.cell (pc c o))),some (.bl r),a,b]/\D=C.set g (.l,mM n i)/\(∀s0,my N n f s0 x->my N n f s0 i)/\
  (r=false->i=x/\∀o∈os.take j,x (rt N o)+rd N o<=x (rh N o))/\(r=true->sm n x<sm n i)/\sm n x<=sm n i) ?_ ?_ ?_
 .refine⟨x,false,_,_,rfl,?_,λs0 h=>h,λ_=>⟨rfl,by simp⟩,(λh=>by cases h),bK _⟩;obtain⟨t,m⟩:=fK e;rw[<-m,Ze]
 .rintro j o v D F ⟨i,r,a,b,rfl,rfl,t,m,w,u⟩;have B:=H o (aX F);have s:rt N o<n/\rh N o<n:=by
   obtain⟨k,d⟩:=o;have:=I k B.1;unfold rt rh;cases d<;>simp<;>lia
  have O:=A.M3 G (.l,mM n i);obtain⟨f1,f2,L,S,R⟩:=O.fld B.1;have y:lc (C.set g (.l,mM n i)) g=some (mM n i):=gS (o8 M);have tk:∀P:Nat×Bool->Prop,(∀o∈os.take j,P o)->P o->∀o∈os.take (j+1),P o:=λP K J z hz=>by
   rw[Ys,F]at hz;rcases fZ hz with hz|hz
   .exact K z hz
   .have:z=o:=by simpa using hz
    rw[this];exact J
  unfold pO;refine fT (fQ (f8 (fL ?_)));refine gM (Ed (k:=3) (p:=.cell (pc c o)) rfl rfl y f1 s.1) ?_;refine gM (jW rfl L) (gC (fT (fV (i9 (gQ (fL ?_))))));refine fO rfl ?_;refine gM (Ed (k:=3) (p:=.cell (pc c o)) rfl rfl y f2 s.2) (gC ⟨_,rfl,?_⟩);by_cases p:i (rh N o)<i (rt N o)+rd N o
  .rw[aWc (decide_eq_true p)];refine fQ (uY.mpr (fO rfl (fO rfl (gM (jW rfl f2) ⟨_,_,rfl,rfl,_,y,_,Kf s.2,?_⟩))));refine fV (f8 (fS (fT ⟨trivial,_,true,_,_,rfl,?_,λs0 h=>(t s0 h).raise B s.1 p,(λz=>by cases z),λ_=>?_,?_⟩)))
   .rw[LD,X9]
   .have:=L9 (N:=N) (x:=i) (o:=o) s.2 p;exact bC u this
   .have:=L9 (N:=N) (x:=i) (o:=o) s.2 p;exact bU (bC u this)
  .rw[aWa (by rw[decide_eq_false p];simp)];refine iB ⟨trivial,i,r,_,_,rfl,rfl,t,λz=>⟨(m z).1,tk _ (m z).2 ?_⟩,w,u⟩;have:=(m z).1;subst this;exact gT p
 .rintro v D ⟨i,r,a,b,rfl,rfl,t,m,w,u⟩;rw[dE]at m;simp_arith[if_true];exact q r i t m w
end aJ
namespace aJ
open PySem L2 TL NF
noncomputable def ri(e:Int)(v:Nat):Int:=if v=1 then e else 0
theorem V4{N:Nt}{f:XH}{c n:Nat}{C:ab}{e:Int}(A:jE N f c n C)(B:N.m<40000)(D:In N n)(z:1<n)(t:n<50000){y:XH}(u:∀v,v<n->ri e v<=y v)(w:jl N f y)(S:sm n y - sm n (ri e)<10^199){Q:T->ab->Prop}
 (q:∀p,g7 N n f (ri e) p->Q (.cell C.length) (C++[(.l,mM n p)])):bf (kP [.cell c,.int e] C) Q:=by
 have h:=A.len;have F:pX "Net" "places" C (.cell c)=some (.int n):=mJ A.net rfl;refine jN ?_;unfold t9;walk_at "a";refine fQ (f8 (iK (qZ.mpr (gM (jW rfl F) ⟨_,rfl,⟨cG (iO t) (by decide),by lia⟩,?_⟩))));rw[qE,cJ];refine iY (xs:=bH n) (λ_=>T.int 0) (λj _=>fT (fS ⟨rfl,rfl⟩)) ?_;have L:(bH n).map (λ_=>T.int 0)=mM n λ_=>0:=rfl;rw[L];have d:lc (C++[(Kd.l,mM n λ_=>0)]) C.length=some (mM n λ_=>0):=gS (by simp);refine fT (fV (fQ (uY.mpr (fO rfl (fO rfl (fS ⟨_,_,rfl,rfl,_,d,_,Kf (v:=1) z,?_⟩))))));have K:(C++[(Kd.l,mM n λ_=>0)]).set C.length (Kd.l,(mM n λ_=>0).set 1 (.int e))=C++[(Kd.l,mM n (ri e))]:=by
  rw[cV _ _ (bD _),XS,LD];rfl
 rw[K];have s:jE N f c n (C++[(Kd.l,mM n (ri e))]):=A.app h;refine fV (fQ (f8 (l4 (fO rfl ⟨nJ s.net rfl,fM ⟨rfl,uE s B ?_⟩⟩))));refine fT (fV (fQ ?_));refine wB (λm i l=>∃x,i=[some (.cell c),some (.int e),some (.cell C.length),some (.lst ((tv N f).map λo=>.cell (pc c o)))]/\l=C++[(Kd.l,mM n x)]/\my N n f (ri e) x/\sm n y - sm n x<=(m:Int)) (m:=(sm n y - sm n (ri e)).toNat) (by
  have:(sm n y - sm n (ri e)).toNat<10^199:=by lia
  exact aM this (ZS (by decide) (by decide))) ⟨ri e,rfl,rfl,my.start,by lia⟩ ?_
 rintro m i l ⟨x,rfl,rfl,g,O⟩;have M:jE N f c n (C++[(Kd.l,mM n x)]):=A.app h;refine mD (iF (fF (fO rfl (fF (fO rfl (fM ⟨rfl,?_⟩))))));refine TB (x:=x) M D (.inr h) (by simp) (λo b=>lP b) λr a k I H=>⟨r,rfl,?_⟩;have J:(C++[(Kd.l,mM n x)]).set C.length (Kd.l,mM n a)=C++[(Kd.l,mM n a)]:=by
  rw[cV _ _ (bD _),XS];rfl
 rw[J];cases r with
 |true=>
  rw[aWc rfl];have R:=H rfl;have P:=(k _ g).zt u w;refine iB ⟨(sm n y - sm n a).toNat,by lia,a,rfl,rfl,k _ g,by lia⟩
 |false=>
  rw[aWa (by simp)];obtain⟨rfl,G⟩:=I rfl;exact fV (gG (fO rfl (q _ (g.done λo b=>G o (GU.mpr b)))))
end aJ
namespace aJ
open PySem L2 TL NF
section
variable {c f g:Type}[DecidableEq c][DecidableEq g]{d:c->g}{vf:f->T}
variable{p:c×f}{rs:List (c×f)}{b:f}
noncomputable def lk(rs:List (c×f))(a:c):Option f:=(rs.find? λp=>decide (p.1=a)).map (·.2)
noncomputable def oQ(rs:List (c×f))(a:c)(b:f):List (c×f):=if a∈rs.map (·.1)then rs.map (λp=>if p.1=a then(p.1,b)else p)else rs++[(a,b)]
theorem PH{a:c}:lk ([]:List (c×f)) a=none:=rfl
theorem oU{a:c}:lk (p::rs) a=if p.1=a then some p.2 else lk rs a:=by
 unfold lk;rw[eT];by_cases h:p.1=a
 .rw[aWc h,decide_eq_true h];rfl
 .rw[aWa h,decide_eq_false h]
theorem DT{a:c}{b:f}:∀{rs:List (c×f)},lk rs a=some b->(a,b)∈rs
 | [],h=>by cases h
 |p::rs,h=>by
  rw[oU]at h;split at h
  .rename_i e;cases h;subst e;exact bM
  .exact bA _ (DT h)
theorem qV{a:c}:∀{rs:List (c×f)},(lk rs a).isSome=true↔a∈rs.map (·.1)
 | []=>by simp[PH]
 |p::rs=>by
  rw[oU,aK,cC];by_cases h:p.1=a
  .rw[aWc h];simp[h]
  .rw[aWa h,qV];constructor
   .exact .inr
   .rintro(z|z)
    .exact absurd z.symm h
    .exact z
theorem Gs(inj:∀a b,d a=d b->a=b){a:c}:∀{rs:List (c×f)},vl ((rs.map λp=>d p.1).zip (rs.map λp=>vf p.2)) (d a)=(lk rs a).map vf
 | []=>rfl
 |p::rs=>by
  rw[aK,aK,c8,oU];unfold vl;rw[eT];by_cases h:p.1=a
  .rw[aWc h,show decide ((d p.1,vf p.2).1=d a)=true from decide_eq_true (by rw[h])];rfl
  .rw[aWa h,show decide ((d p.1,vf p.2).1=d a)=false from decide_eq_false (λz=>h (inj _ _ z))];exact Gs inj
theorem Ea(inj:∀a b,d a=d b->a=b){a:c}:d a∈(rs.map λp=>d p.1)↔a∈rs.map (·.1):=by
 constructor
 .intro h;obtain⟨p,i,e⟩:=fY h;exact iG ⟨p,i,inj _ _ e⟩
 .intro h;obtain⟨p,i,e⟩:=fY h;exact iG ⟨p,i,by rw[e]⟩
theorem GD(inj:∀a b,d a=d b->a=b){a:c}:mq (d a) (rs.map λp=>d p.1)=((oQ rs a b).map λp=>d p.1)/\jt (d a) (vf b) (rs.map λp=>d p.1) (rs.map λp=>vf p.2)=(oQ rs a b).map λp=>vf p.2:=by
 unfold mq jt oQ;by_cases h:a∈rs.map (·.1)
 .rw[aWc ((Ea inj).mpr h),aWc ((Ea inj).mpr h),aWc h];have i:∀rs:List (c×f),(rs.map λp=>d p.1).zip (rs.map λp=>vf p.2)=rs.map λp=>(d p.1,vf p.2):=λrs=>by rw[List.zip_map']
  constructor
  .rw[cK];apply cU;intro p _;simp only[Yg];split<;>rfl
  .rw[i,cK,cK];apply cU;intro p _;simp only[Yg];by_cases e:p.1=a
   .rw[aWc e,aWc (by rw[e])]
   .rw[aWa e,aWa (λz=>e (inj _ _ z))]
 .rw[aWa (λz=>h ((Ea inj).mp z)),aWa (λz=>h ((Ea inj).mp z)),aWa h,bR,bR];exact⟨rfl,rfl⟩
theorem LN{a:c}:(oQ rs a b).map (·.1)=if a∈rs.map (·.1)then rs.map (·.1)else rs.map (·.1)++[a]:=by
 unfold oQ;split
 .rw[cK];apply cU;intro p _;simp only[Yg];split<;>rfl
 .rw[bR];rfl
theorem SO{a:c}(h:(rs.map (·.1)).Nodup):((oQ rs a b).map (·.1)).Nodup:=by
 rw[LN];split
 .exact h
 .rename_i k;refine jF ⟨h,by simp,λx j y i=>?_⟩;rw[gO i];rintro rfl;exact k j
theorem UZ{a:c}(h:p∈oQ rs a b):p=(a,b)\/p∈rs:=by
 unfold oQ at h;split at h
 .obtain⟨q,i,e⟩:=fY h;split at e
  .rename_i z;rw[<-e,z];exact .inl rfl
  .rw[<-e];exact .inr i
 .rcases fZ h with h|h
  .exact .inr h
  .exact .inl (gO h)
theorem GX{a x:c}:x∈(oQ rs a b).map (·.1)↔x=a\/x∈rs.map (·.1):=by
 rw[LN];split
 .rename_i h;constructor
  .exact .inr
  .rintro(z|z)
   .rw[z];exact h
   .exact z
 .rw[XZ,eV,or_comm]
end
variable{c d:Nat}{rs:List (Nat×List (Nat×Bool))}
theorem Jv{g j:Type}[DecidableEq g]{f:g->Key}{vf:j->T}(inj:∀a b,f a=f b->a=b):∀{fs rs:List (g×j)},(fs.map (·.1)).Nodup->(∀a∈fs.map (·.1),a∉rs.map (·.1))->
 cx (fs.map λp=>f p.1) (fs.map λp=>vf p.2) ((rs.map λp=>f p.1),(rs.map λp=>vf p.2))=(((rs++fs).map λp=>f p.1),((rs++fs).map λp=>vf p.2))
 | [],rs,_,_=>by simp[cx]
 |p::fs,rs,h,k=>by
  rw[aK,c7]at h;rw[aK,aK];unfold cx;dsimp only;obtain⟨o,n⟩:=GD (vf:=vf) inj (a:=p.1) (b:=p.2) (rs:=rs);have l:p.1∉rs.map (·.1):=k _ (by simp);rw[o,n];have m:oQ rs p.1 p.2=rs++[p]:=by unfold oQ;rw[aWa l]
  rw[m,Jv inj h.2 (λa i=>?_),dH]
  .rfl
  .rw[bR,XZ,aK,bE,eV];rintro(z|z)
   .exact k a (by rw[aK];exact bA _ i) z
   .rw[z]at i;exact h.1 i
noncomputable def qe(v:Nat):Key:=.inl (v:Int)
theorem vS(a b:Nat)(h:qe a=qe b):a=b:=by
 have:(a:Int)=b:=Sum.inl.inj h;exact Z1.mp this
def ll(c:Nat)(r:List (Nat×Bool)):T:=.lst (r.map λo=>.cell (pc c o))
def o0(c:Nat)(rs:List (Nat×List (Nat×Bool))):Cl:=(.dk (rs.map λp=>qe p.1),rs.map λp=>ll c p.2)
theorem yJ{C:ab}{v:Nat}(e:C[d]?=some (o0 c rs)):ek C (.cell d) (.int v)=some ((lk rs v).map (ll c)):=by
 unfold ek;rw[wH e];show some (vl _ (qe v))=_;rw[Gs vS]
theorem RS{C:ab}{v:Nat}{r:List (Nat×Bool)}(e:C[d]?=some (o0 c rs))(a:rs.length<lim):dput C (.cell d) (.int v) (ll c r)=some (C.set d (o0 c (oQ rs v r))):=by
 unfold dput;rw[wH e];show(if _ then some (C.set d (.dk (mq (qe v) _),jt (qe v) _ _ _))else none)=_;rw[aWc (by simpa using a)];obtain⟨f,b⟩:=GD (vf:=ll c) vS (a:=v) (b:=r) (rs:=rs);rw[f,b];rfl
end aJ
namespace aJ
open PySem L2 TL NF
theorem Us{c d:Type}[DecidableEq c]{rs:List (c×d)}{a:c}{b:d}:(oQ rs a b).length<=rs.length+1:=by
 unfold oQ;split
 .simp
 .simp
theorem W5{N:Nt}{f:XH}{c d:Nat}{y:Int}{C:ab}{rs:List (Nat×List (Nat×Bool))}{b:List (Nat×Bool)}(A:jE N f c y C)(e:C[d]?=some (o0 c rs))(I:∀o∈b,o.1<N.m)(E:b.length<90000)(J:∀p∈rs,p.2.length<=1000){Q:T->ab->Prop}
 (q:∀fs:List (Nat×List (Nat×Bool)),(fs.map (·.1)).Nodup->(∀a∈fs.map (·.1),a∉rs.map (·.1))->(∀p∈fs,∃o∈b,∃g,(rt N o,g)∈rs/\p=(rh N o,g++[o]))->(∀o∈b,rt N o∈rs.map (·.1)->rh N o∉rs.map (·.1)->rh N o∈fs.map (·.1))->Q (.cell C.length) (C++[o0 c fs])):
 bf (oE [.cell d,.lst (b.map λo=>.cell (pc c o))] C) Q:=by
 have X:=A.len;have M:=nA e;refine jN ?_;unfold tX;walk_at "a";refine fQ (f8 (Ll.mpr (fT (fV (fQ (iS (fO rfl ⟨_,rfl,?_⟩)))))));refine lC (xs:=b) (en:=λo=>T.cell (pc c o)) (λj t w=>∃fs a,t=[some (.cell d),some (.lst (b.map λo=>.cell (pc c o))),some (.cell C.length),a]/\w=C++[o0 c fs]/\fs.length<=j/\(fs.map (·.1)).Nodup/\(∀a∈fs.map (·.1),a∉rs.map (·.1))/\
  (∀p∈fs,∃o∈b,∃g,(rt N o,g)∈rs/\p=(rh N o,g++[o]))/\∀o∈b.take j,rt N o∈rs.map (·.1)->rh N o∉rs.map (·.1)->rh N o∈fs.map (·.1)) ?_ ?_ ?_
 .exact⟨[],_,rfl,rfl,bD _,by simp,by simp,by simp,by simp⟩
 .rintro j o t w v ⟨fs,a,rfl,rfl,s,n,m,l,h⟩;have i:=aX v;have L:j<b.length:=(fK v).1;have Y:jE N f c y (C++[o0 c fs]):=A.app X;obtain⟨f1,f2,f3,f4,f5⟩:=Y.fld (I o i);have D:(C++[o0 c fs])[d]?=some (o0 c rs):=by rw[aR M];exact e
  have U:(C++[o0 c fs])[C.length]?=some (o0 c fs):=by simp
  have x:=yJ (v:=rt N o) D;have H:=yJ (v:=rh N o) D;have tk:∀P:Nat×Bool->Prop,(∀o∈b.take j,P o)->P o->∀o∈b.take (j+1),P o:=λP k O z hz=>by
   rw[Ys,v]at hz;rcases fZ hz with hz|hz
   .exact k z hz
   .have:z=o:=by simpa using hz
    rw[this];exact O
  unfold rF;refine fT (i9 (x6.mpr (gQ (fL ?_))));refine gM (jW (t:=.cell (pc c o)) rfl f1) (fO rfl (Gu.mpr ⟨_,x,_,rfl,?_⟩));cases r:lk rs (rt N o)with
  |none=>
   rw[aWa (by simp),aWa (by simp)];refine iB ⟨trivial,fs,_,rfl,rfl,cY s,n,m,l,tk _ h λz=>?_⟩;have:=qV.mpr z;rw[r]at this;cases this
  |some g=>
   rw[aWc (by simp)];refine gQ (fL ?_);refine gM (jW (t:=.cell (pc c o)) rfl f2) (fO rfl (Gu.mpr ⟨_,H,_,rfl,?_⟩));cases B:lk rs (rh N o)with
   |some Z=>
    rw[aWa (by simp)];refine iB ⟨trivial,fs,_,rfl,rfl,cY s,n,m,l,tk _ h λ_ z=>?_⟩;exact absurd (qV.mp (by rw[B];rfl)) z
   |none=>
    rw[aWc (by simp)];have K:rh N o∉rs.map (·.1):=λz=>by
     have:=qV.mpr z;rw[B]at this;cases this
    have S:g.length<=1000:=J _ (DT r);refine Lq (gA (lR (fL (fO rfl ?_))));refine gM (jW (t:=.cell (pc c o)) rfl f1) (mW ⟨ll c g,by rw[x,r];rfl,?_⟩);refine gA (gK (fF (fO rfl (fM ⟨by simp[lim],?_⟩))));refine mE ⟨_,rfl,_,rfl,by simp[lim];exact bB S (by decide),fO rfl ?_⟩;refine gM (jW (t:=.cell (pc c o)) rfl f2) ?_;have R:(.lst ((g.map λo=>T.cell (pc c o))++[T.cell (pc c o)]):T)=ll c (g++[o]):=by unfold ll;rw[bR];rfl
    refine⟨_,by rw[R];exact RS U (by simp[lim];lia),trivial,oQ fs (rh N o) (g++[o]),_,rfl,?_,?_,SO n,?_,?_,?_⟩
    .rw[cV _ _ (bD _),XS];rfl
    .exact bB Us (eB s)
    .intro a k;rcases GX.mp k with rfl|k
     .exact K
     .exact m a k
    .intro p u;rcases UZ u with rfl|u
     .exact⟨o,i,g,DT r,rfl⟩
     .exact l p u
    .exact tk _ (λz hz G F=>GX.mpr (.inr (h z hz G F))) λ_ _=>GX.mpr (.inl rfl)
 .rintro t w ⟨fs,a,rfl,rfl,s,n,m,l,h⟩;rw[dE]at h;exact fV (gG (fO rfl (q fs n m l h)))
end aJ
namespace aJ
open PySem L2 TL NF
variable{Q:T->ab->Prop}{N:Nt}{p:XH}
theorem Vb{g:aE}{C:ab}{l k:FE}{c1:Nat}(h:aD l g C λi f=>i=.cell c1/\iq f i=true/\aD k g f λj b=>∃c2 a ks' c d,j=.cell c2/\b[c1]?=some (.dk a,c)/\b[c2]?=some (.dk ks',d)/\c1≠c2/\a.length+ks'.length<=lim/\
 Q .aF (b.set c1 (.dk (cx ks' d (a,c)).1,(cx ks' d (a,c)).2))):aD (z9 l k) g C Q:=by
 obtain⟨i,f,u,rfl,o,j,b,t,c2,a,ks',c,d,rfl,s,r,m,n,q⟩:=h;exact T2 ⟨_,f,u,rfl,o,_,b,t,rfl,s,r,m,n,q⟩
theorem o9:∀(n:Nat)(l:XG),l.Nodup->(∀a∈l,a<n)->l.length<=n
 |0,l,_,h=>by
  cases l with
  |nil=>exact bD _
  |cons a l=>exact absurd (h a bM) (dP _)
 |n+1,l,d,h=>by
  have c:=o9 n (l.erase n) (d.erase n) λa f=>by
   have b:=(List.Nodup.mem_erase_iff d).mp f;have:=h a b.2;have:=b.1;lia
  by_cases b:n∈l
  .rw[Zb b]at c;lia
  .rw[List.erase_of_not_mem b]at c;exact cY c
structure Ef(N:Nt)(n:Nat)(f p:XH)(rs:List (Nat×List (Nat×Bool))):Prop where
 nd:(rs.map (·.1)).Nodup
 lt:∀a∈rs.map (·.1),a<n
 z:0∈rs.map (·.1)
 BJ:∀x∈rs,ud N f p x.2 x.1/\(∀v∈x.2.map (rh N),v∈rs.map (·.1))
theorem Ef.len{n:Nat}{f:XH}{rs:List (Nat×List (Nat×Bool))}(R:Ef N n f p rs){x:Nat×List (Nat×Bool)}(b:x∈rs):x.2.length<=n:=by
 obtain⟨g,d⟩:=R.BJ x b;have:=o9 n _ (jB g.nd).2 λa c=>R.lt a (d a c);simpa using this
theorem zU{f:XH}{c n l:Nat}{M:Int}{C:ab}(A:jE N f c M C)(hm:N.m<40000)(hi:In N n)(P:n<40)(F:0<n)(qj:C[l]?=some (.l,mM n p))
 (reach:∀R:Nat->Prop,R 0->(∀o,g6 N f o->R (rt N o)->p (rt N o)+rd N o=p (rh N o)->R (rh N o))->R 1)(q:∀r G,ud N f p r 1->Q (ll c r) (C++G)):
 bf (oF [.lst ((tv N f).map λo=>.cell (pc c o)),.cell l] C) Q:=by
 have ag:=A.len;have Y:lc C l=some (mM n p):=gS qj;have Z:∀o:Nat×Bool,o.1<N.m->rt N o<n/\rh N o<n:=λo h=>by
  obtain⟨k,d⟩:=o;have:=hi k h;unfold rt rh;cases d<;>simp<;>lia
 have L:(tv N f).length<90000:=by
  have:(tv N f).length<=(both N).length:=Zz _ _;have s:(both N).length=N.m+N.m:=by simp[both]
  lia
 refine jN ?_;unfold tY;walk_at "a";refine fQ (f8 (gA (jK (hX ⟨_,rfl,_,rfl,by simp[lim];exact aM L (by decide),?_⟩))));refine u6 (xs:=tv N f) (en:=λo=>T.cell (pc c o)) (λo=>decide (p (rt N o)+rd N o=p (rh N o))) (λo=>T.cell (pc c o)) (λo h=>?_) ?_
 .have u:=lP h;obtain⟨f1,f2,f3,f4,f5⟩:=A.fld u.1;obtain⟨k1,k2⟩:=Z o u.1;refine fT (gQ (fL (fL ?_)));refine gM (Ed (a:=1) (k:=0) (p:=.cell (pc c o)) rfl rfl Y f1 k1) ?_;refine gM (jW rfl f3) (gC ?_);refine gM (Ed (a:=1) (k:=0) (p:=.cell (pc c o)) rfl rfl Y f2 k2) ?_;refine kS ⟨_,rfl,rfl,rfl,λ_=>fO rfl ⟨rfl,rfl⟩⟩
 refine fT (fV (fQ (f8 (Uv (k:=qe 0) (x:=ll c []) ?_))));refine fS ⟨rfl,gA (gK (fM ⟨by decide,rfl,by simp,?_⟩))⟩;have e0:(C++[(Kd.dk [],[])]).set C.length (Kd.dk [qe 0],[ll c []])=C++[o0 c [(0,[])]]:=by
  rw[cV _ _ (bD _),XS];rfl
 rw[e0];refine fT (fV (fQ ?_));refine wB (λm K C'=>∃rs G,K=[some (.lst ((tv N f).map λo=>.cell (pc c o))),some (.cell l),some (.lst (((tv N f).filter λo=>decide (p (rt N o)+rd N o=p (rh N o))).map λo=>.cell (pc c o))),some (.cell C.length)]/\C'=C++o0 c rs::G/\Ef N n f p rs/\n - rs.length<=m) (m:=n) P ?_ ?_
 .refine⟨[(0,[])],[],rfl,rfl,⟨by simp,by simpa using F,by simp,λx g=>?_⟩,Zq n [(0,[])].length⟩;have:x=(0,[]):=by simpa using g
  subst this;exact⟨ud.nil,by simp⟩
 rintro m K C' ⟨rs,G,rfl,rfl,R,xq⟩;have t:(C++o0 c rs::G)[C.length]?=some (o0 c rs):=by simp
 have A':jE N f c M (C++o0 c rs::G):=A.app ag;refine gQ (fL (fS (fO rfl (Gu.mpr ⟨_,yJ (v:=1) t,_,rfl,?_⟩))));cases y:lk rs 1 with
 |some r=>
  rw[aWa (by simp)];refine fV (gG (fL (fO rfl (fS (mW ⟨ll c r,?_,?_⟩)))))
  .have:=yJ (v:=1) t;rw[y]at this;exact this
  .exact q r _ (R.BJ _ (DT y)).1
 |none=>
  rw[aWc (by simp)];unfold rK;refine lT (Vb (c1:=C.length) (hX ⟨_,rfl,rfl,by unfold iq;rw[wH t];rfl,iF (fF (fO rfl (fF (fO rfl (fM ⟨rfl,?_⟩)))))⟩));refine W5 A' t (λo h=>(lP ((jO h).1)).1) (bO (Zz _ _) L) (λx g=>bB (R.len g) (dY (aM P (by decide)))) λfs H s X h4=>?_;have E:∀a∈fs.map (·.1),a<n:=λa i=>by
   obtain⟨x,g,rfl⟩:=fY i;obtain⟨o,h,r0,_,e⟩:=X x g;rw[e];exact(Z o (lP ((jO h).1)).1).2
  have J:Ef N n f p (rs++fs):=by
   refine⟨?_,λa i=>?_,?_,λx g=>?_⟩
   .rw[bR];exact jF ⟨R.nd,H,λa i b hb z=>s b hb (z ▸ i)⟩
   .rw[bR]at i;rcases fZ i with i|i
    .exact R.lt a i
    .exact E a i
   .rw[bR];exact jP (.inl R.z)
   .rcases fZ g with g|g
    .refine⟨(R.BJ x g).1,λv j=>?_⟩;rw[bR];exact jP (.inl ((R.BJ x g).2 v j))
    .obtain⟨o,h,r0,D,e⟩:=X x g;have u:=lP ((jO h).1);have B:p (rt N o)+rd N o=p (rh N o):=of_decide_eq_true (jO h).2;have w:=s x.1 (dO g);obtain⟨g1,g2⟩:=R.BJ _ D;rw[e]at w|-;refine⟨g1.snoc u rfl B λz=>?_,λv j=>?_⟩
     .rcases fU z with z|z
      .exact w (by rw[z];exact R.z)
      .exact w (g2 _ z)
     .rw[bR]at j;rw[bR];rcases fZ j with j|j
      .exact jP (.inl (g2 v j))
      .have:v=rh N o:=by simpa using j
       rw[this];exact jP (.inr (iG ⟨x,g,by rw[e]⟩))
  have ax:fs≠[]:=λz=>by
   subst z;have:=reach (λv=>v∈rs.map (·.1)) R.z λo h h5 h6=>by
    by_cases U:rh N o∈rs.map (·.1)
    .exact U
    .exact absurd (h4 o (YJ.mpr ⟨GU.mpr h,decide_eq_true h6⟩) h5 U) (by simp)
   have S:=qV.mpr this;rw[y]at S;cases S
  have hfl:fs.length<=n:=by
   have:=o9 n _ H E;simpa using this
  have I:(rs++fs).length<=n:=by
   have:=o9 n _ J.nd J.lt;simpa using this
  have O:rs.length<=n:=by rw[aY]at I;exact YQ I
  have hf1:0<fs.length:=j3 ax;refine⟨_,rs.map (λx=>qe x.1),fs.map (λx=>qe x.1),rs.map (λx=>ll c x.2),fs.map (λx=>ll c x.2),rfl,?_,?_,?_,?_,?_⟩
  .exact(by simp:(C++o0 c rs::G++[o0 c fs])[C.length]?=some (o0 c rs))
  .exact(by simp:(C++o0 c rs::G++[o0 c fs])[(C++o0 c rs::G).length]?=some (o0 c fs))
  .simp
  .rw[aP,aP];simp[lim];lia
  .rw[Jv vS H s];refine⟨n - (rs++fs).length,?_,rs++fs,G++[o0 c fs],rfl,?_,J,bD _⟩
   .rw[aY]at I|-;lia
   .rw[dH,cV _ _ (bD _),XS];rfl
end aJ
namespace aJ
open PySem L2 TL NF
variable{N:Nt}{r:List (Nat×Bool)}{o:Nat×Bool}{c:Nat}{d:Int}
def mo(N:Nt)(f:XH)(r:List (Nat×Bool)):Int:=wW (r.map (rr N f))
theorem zY:∀{ns:XE},ns≠[]->wW ns∈ns/\∀a∈ns,wW ns<=a:=by
 have key:∀(ns:XE)(n:Int),(ns.foldl (λa b=>if b<a then b else a) n=n\/ns.foldl (λa b=>if b<a then b else a) n∈ns)/\ns.foldl (λa b=>if b<a then b else a) n<=n/\∀a∈ns,ns.foldl (λa b=>if b<a then b else a) n<=a:=by
  intro ns;induction ns with
  |nil=>intro n;exact⟨.inl rfl,bK _,λa h=>nomatch h⟩
  |cons m ns ih=>
   intro n;rw[Zi];obtain⟨h1,g,i⟩:=ih (if m<n then m else n);by_cases j:m<n
   .rw[aWc j]at h1 g i|-;refine⟨?_,bU (bC g j),λa f=>?_⟩
    .rcases h1 with h1|h1
     .rw[h1];simp
     .exact .inr (bA _ h1)
    .rcases fU f with rfl|f
     .exact g
     .exact i a f
   .rw[aWa j]at h1 g i|-;refine⟨?_,g,λa f=>?_⟩
    .rcases h1 with h1|h1
     .exact .inl h1
     .exact .inr (bA _ h1)
    .rcases fU f with rfl|f
     .exact bG g (gT j)
     .exact i a f
 intro ns k;cases ns with
 |nil=>exact absurd rfl k
 |cons n ns=>
  obtain⟨h1,g,i⟩:=key ns n;refine⟨?_,λa f=>?_⟩
  .rcases h1 with h1|h1
   .show Zk (λa b=>if b<a then b else a) n ns∈n::ns;rw[h1];simp
   .exact bA _ h1
  .rcases fU f with rfl|f
   .exact g
   .exact i a f
theorem QM{f:XH}(a:o∈r):mo N f r<=rr N f o:=
 (zY (ns:=r.map (rr N f)) (by rintro z;have:=ZC.mp z;subst this;cases a)).2 _ (dO a)
theorem Ug{f:XH}(a:r≠[])(b:∀o∈r,g6 N f o):0<mo N f r:=by
 obtain⟨g,i⟩:=zY (ns:=r.map (rr N f)) (by rintro z;exact a (ZC.mp z));obtain⟨o,h,e⟩:=fY g;unfold mo;rw[<-e];exact(b o h).2
theorem VQ{f:XH}{C:ab}(A:jE N f c d C)(a:r≠[])(b:∀o∈r,o.1<N.m)(g:r.length<1000){Q:T->ab->Prop}(q:Q (.int (mo N f r)) C):bf (tP [ll c r] C) Q:=by
 refine jN ?_;unfold LQ;walk_at "a";refine gG (f9 (fF (gA (jK (hX ⟨_,rfl,_,rfl,by simp[lim];exact aM g (by decide),?_⟩)))));refine iY (xs:=r) (en:=λo=>T.cell (pc c o)) (λo=>T.int (rr N f o)) (λo h=>fT (gM (jW (t:=.cell (pc c o)) rfl (A.fld (b o h)).2.2.2.1) ⟨rfl,rfl⟩)) ?_;refine fM (vK.mpr ⟨_,rfl,_,p9 (f:=rr N f),?_,q⟩);cases r with
 |nil=>exact absurd rfl a
 |cons o r=>rfl
theorem jE.BP{f:XH}{C:ab}(A:jE N f c d C)(h:o.1<N.m)(x:Int):
 jE N (up f o.1 (f o.1+if o.2 then x else -x)) c d ((C.set (pc c o) (.o "Pipe" er,[.int (rt N o),.int (rh N o),.int (rd N o),.int (rr N f o - x),.cell (pc c (o.1,!o.2))])).set (pc c (o.1,!o.2)) (.o "Pipe" er,[.int (rt N (o.1,!o.2)),.int (rh N (o.1,!o.2)),.int (rd N (o.1,!o.2)),.int (rr N f (o.1,!o.2)+x),.cell (pc c (o.1,!!o.2))])):=by
 have s:=nA (A.k0 o h);have q:=nA (A.k0 (o.1,!o.2) h);obtain⟨k,b⟩:=o;have v:pc c (k,b)≠pc c (k,!b):=by unfold pc;cases b<;>simp
 have low:∀i,i<c+2->i≠pc c (k,b)/\i≠pc c (k,!b):=λi w=>by unfold pc;constructor<;>lia
 refine⟨?_,?_,λl t=>?_⟩
 .rw[aQ (Ne.symm (low c (eO (XQ c))).2),aQ (Ne.symm (low c (eO (XQ c))).1)];exact A.net
 .rw[aQ (Ne.symm (low (c+1) (bX _)).2),aQ (Ne.symm (low (c+1) (bX _)).1)];exact A.lst
 .obtain⟨g,a⟩:=l;by_cases j:g=k
  .subst j;by_cases u:a=b
   .subst u;rw[aQ (Ne.symm v),o8 s];unfold hU rr;rw[kY];cases a<;>simp<;>lia
   .have p:a= !b:=by cases b<;>cases a<;>simp_all
    subst p;rw[o8 (by rw[dD];exact q)];unfold hU rr;rw[kY];cases b<;>simp<;>lia
  .have n:pc c (g,a)≠pc c (k,b):=by unfold pc;dsimp only;split<;>split<;>lia
   have m:pc c (g,a)≠pc c (k,!b):=by unfold pc;dsimp only;split<;>split<;>lia
   rw[aQ (Ne.symm m),aQ (Ne.symm n),A.k0 (g,a) t];unfold hU rr;rw[uD j]
theorem S8{x:Int}:∀{r:List (Nat×Bool)}{f:XH}{C:ab},jE N f c d C->(∀o∈r,o.1<N.m)->∀{Q:T->ab->Prop},(∀g,jE N (pr r x f) c d g->g.length=C.length->(∀i,i<c\/c+2+2*N.m<=i->g[i]?=C[i]?)->Q .aF g)->bf (D9 [ll c r,.int x] C) Q:=by
 intro r f C A v Q q;refine jN ?_;unfold ID;walk_at "a";refine iS (fO rfl ⟨_,rfl,?_⟩);refine lC (xs:=r) (en:=λo=>T.cell (pc c o)) (λj m g=>∃a,m=[some (ll c r),some (.int x),a]/\jE N (pr (r.take j) x f) c d g/\g.length=C.length/\∀i,i<c\/c+2+2*N.m<=i->g[i]?=C[i]?) ⟨_,rfl,A,rfl,λ_ _=>rfl⟩ ?_ ?_
 .rintro j o m g s ⟨a,rfl,h,p,n⟩;have l:=v o (aX s);obtain⟨f1,f2,H,z,G⟩:=h.fld l;have D:=h.BP l x;have F:=nA (h.k0 (o.1,!o.2) l);have B:pc c o≠pc c (o.1,!o.2):=by obtain⟨k,b⟩:=o;unfold pc;cases b<;>simp
  have u:∀(r:List (Nat×Bool))(f:XH),pr (r++[o]) x f=up (pr r x f) o.1 (pr r x f o.1+if o.2 then x else -x):=λr=>by
   induction r with
   |nil=>intro f;rfl
   |cons e r ih=>intro f;show pr (r++[o]) x _=_;rw[ih];rfl
  unfold KU;refine fT (fQ (MB (i:=rr N (pr (r.take j) x f) o) (j:=x) (fO rfl ⟨z,fO rfl ⟨rfl,_,nO (h.k0 o l) (by decide) rfl rfl,?_⟩⟩)));have y:pX "Pipe" "back" (g.set (pc c o) (.o "Pipe" er,[.int (rt N o),.int (rh N o),.int (rd N o),.int (rr N (pr (r.take j) x f) o - x),.cell (pc c (o.1,!o.2))])) (.cell (pc c o))=some (.cell (pc c (o.1,!o.2))):=mJ (o8 (nA (h.k0 o l))) rfl;have t:(g.set (pc c o) (.o "Pipe" er,[.int (rt N o),.int (rh N o),.int (rd N o),.int (rr N (pr (r.take j) x f) o - x),.cell (pc c (o.1,!o.2))]))[pc c (o.1,!o.2)]?=some (hU N (pr (r.take j) x f) c (o.1,!o.2)):=by
   rw[aQ B];exact h.k0 (o.1,!o.2) l
  refine fV (MB (i:=rr N (pr (r.take j) x f) (o.1,!o.2)) (j:=x) (gM (jW (t:=.cell (pc c o)) rfl y) ⟨mJ t rfl,fO rfl ⟨rfl,_,nO t (by decide) rfl rfl,trivial,_,rfl,?_,?_,?_⟩⟩))
  .rw[Ys,s,d9,u];exact D
  .rw[dD,dD];exact p
  .intro i w;rw[aQ (by unfold pc;split<;>lia),aQ (by unfold pc;split<;>lia)];exact n i w
 .rintro m g ⟨a,rfl,h,p,n⟩;rw[dE]at h;exact q g h p n
end aJ
namespace aJ
open PySem L2 TL NF
variable{w:Wk}{es:XC}{P:Int}{p:XH}{c:Nat}{Q:T->ab->Prop}
structure yo(w:Wk)(n:Nat)(es:XC)(P:Int):Prop where
 n8:n<=8
 m:(net w n es P).m<40000
 ql:∀e∈es,e.1<n/\e.2<n
 rk:∃r:XH,(∀i,i<n->0<=r i/\r i<n)/\∀e∈es,r e.1<r e.2
 l0:∀i,i<n->0<=w.l i
 pP:sm n w.p<P
 AM:sm n w.p<10^199
theorem yo.open{n:Nat}(W:yo w n es P){f:XH}{a:Int}(G:Good w n es P f a p)(g:a<P):∀k,k<(net w n es P).m->dq n k=false->f k<(net w n es P).c k:=λk d b=>by
 obtain⟨r,i,h⟩:=W.rk;exact NF.plenty G.kb G.kc i h W.ql g d b
theorem Fk:ri 0=λ_=>0:=by funext v;unfold ri;split<;>rfl
theorem Nr{n:Nat}:sm n (λ_=>0)=0:=lY λ_ _=>rfl
theorem jh{n:Nat}(W:yo w n es P){f:XH}{a:Int}{C:ab}(A:jE (net w n es P) f c (2*n+2:Nat) C)(G:Good w n es P f a p)(g:sm (2*n+2) p<10^199)
 (q:∀b,g7 (net w n es P) (2*n+2) f (λ_=>0) b->Good w n es P f a b->(∀v,v<2*n+2->b v<=p v)->Q (.cell C.length) (C++[(.l,mM (2*n+2) b)])):bf (kP [.cell c,.int 0] C) Q:=by
 refine V4 A W.m (D3 W.ql) (d3 (2*n) (by decide)) (by have:=W.n8;lia) (y:=p) (λv d=>by rw[Fk];exact G.ge v d) G.ij (by rw[Fk,Nr];exact bC (Yn (sm (2*n+2) p) (by decide)) g) λb L=>?_;rw[Fk]at L;obtain⟨i,h⟩:=G.least L;exact q b L i h
structure ko(w:Wk)(n:Nat)(es:XC)(P:Int)(e:Int)(f0:XH)(a0:Int)(p0 f p:XH)(a:Int):Prop where
 good:Good w n es P f a p
 least:g7 (net w n es P) (2*n+2) f (λ_=>0) p
 le:∀v,v<2*n+2->p v<=p0 v
 ready:p 1<=e
 how:f=f0\/a0<a/\∃q,Good w n es P f a q/\e<q 1/\∀v,v<2*n+2->q v<=p0 v
theorem JW{n:Nat}(W:yo w n es P){E e:Int}{b:XH}(TM:yp n es E b w.l)(hE:E<=e)(Y:0<=e){H u:XH}{h:Int}(G0:Good w n es P H h u)(ic:h<=sm n w.p)(a00:0<=h)(hb:sm (2*n+2) u<10^199)
 {C:ab}(A:jE (net w n es P) H c (2*n+2:Nat) C)
 (q:∀f p a g,ko w n es P e H h u f p a->a<=sm n w.p->h<=a->jE (net w n es P) f c (2*n+2:Nat) g->C.length<=g.length->(∀i,i<C.length->(i<c\/c+2+2*(net w n es P).m<=i)->g[i]?=C[i]?)->Q .aF g):
 bf (nZ [.cell c,.int e] C) Q:=by
 have ag:=A.len;have hn8:=W.n8;refine jN ?_;unfold Mv;walk_at "a";refine fQ (f8 (l4 (fO rfl ⟨nJ A.net rfl,fF (fS (fM ⟨rfl,jh W A G0 hb λp1 L1 G1 h1=>?_⟩))⟩)));refine fT (fV ?_);refine wB (λm τ g=>∃f p a K x,τ=[some (.cell c),some (.int e),some (.cell K),x]/\g[K]?=some (.l,mM (2*n+2) p)/\jE (net w n es P) f c (2*n+2:Nat) g/\Good w n es P f a p/\g7 (net w n es P) (2*n+2) f (λ_=>0) p/\(∀v,v<2*n+2->p v<=u v)/\
  a<=sm n w.p/\h<=a/\(f=H\/h<a/\∃q,Good w n es P f a q/\e<q 1/\∀v,v<2*n+2->q v<=u v)/\C.length<=g.length/\(∀i,i<C.length->(i<c\/c+2+2*(net w n es P).m<=i)->g[i]?=C[i]?)/\sm n w.p+1 - a<=(m:Int)) (m:=(sm n w.p+1 - h).toNat) ?_ ?_ ?_
 .have h2:=W.AM;have h3:(sm n w.p+1 - h).toNat<=10^199:=by lia
  exact bO h3 (Nat.pow_lt_pow_right (by decide) (by decide))
 .refine⟨H,p1,h,C.length,_,rfl,by simp,A.app ag,G1,L1,h1,ic,bK _,.inl rfl,by simp,λi D _=>aR D,by lia⟩
 rintro m τ g ⟨f,p,a,K,x,rfl,qj,t,G,L,j,ha,F,O,J,iz,xq⟩;have gz:lc g K=some (mM (2*n+2) p):=gS qj;refine gQ (fL (fL (fO rfl (fS (gL ⟨_,gz,_,GS (v:=1) (d3 (2*n) (by decide)),fO rfl (gC ⟨_,rfl,?_⟩)⟩)))));by_cases s:e<p 1
 .rw[aWc (decide_eq_true s)];have S:0<n:=by
   rcases aTM n with z|z
   .exfalso;have hm0:(net w n es P).m=0:=by
     show 4*n+es.length=0;have:es=[]:=by
      cases es with
      |nil=>rfl
      |cons x r=>have:=(W.ql x bM).1;lia
     rw[this,z];rfl
    have:=L.le (λ_=>0) (λ_ _=>bK _) (λk hk=>by lia) 1 (d3 (2*n) (by decide));exact absurd Y (jZ (cG s this))
   .exact z
  have ho:=W.open G (bC ha W.pP);have ux:=t.len;unfold vT;refine fQ (f8 (iF (fF (l4 (fO rfl ⟨nJ t.net rfl,fM ⟨rfl,uE t W.m ?_⟩⟩)))));refine fF (fO rfl (fM ⟨rfl,?_⟩));refine zU t W.m (D3 W.ql) (by lia) (Zp _) qj (λR r0 hc=>G.route L ho W.ql W.l0 S R r0 hc) λr G2 l=>?_;have A2:jE (net w n es P) f c (2*n+2:Nat) (g++G2):=t.app ux;have ax:r≠[]:=λz=>by
   subst z;have:=l.wk;exact absurd (show(0:Nat)=1 from this) (by decide)
  have xj:∀o∈r,o.1<(net w n es P).m:=λo I=>(l.op o I).1;have ck:=D3 (w:=w) (P:=P) W.ql;have eh:r.length<1000:=by
   have h5:=o9 (2*n+2) _ (jB l.nd).2 λv M=>by
    obtain⟨⟨k,d⟩,I,rfl⟩:=fY M;have:=ck k (l.op _ I).1;unfold rh;cases d<;>simp<;>lia
   rw[aP]at h5;lia
  refine fT (fV (fQ (lT (iF (fF (fO rfl (fF (iF (fF (fO rfl (fM ⟨rfl,VQ A2 ax xj eh (fM ⟨rfl,?_⟩)⟩)))))))))));refine S8 A2 xj λC3 N U X=>?_;have hx:=Ug ax l.op;have G3:Good w n es P (pr r (mo (net w n es P) f r) f) (a+mo (net w n es P) f r) p:=G.pour l.wk l.pipes l.tg (bU hx) λo I=>QM I;have Z:=G3.bound TM (bC hE s);have gn:sm (2*n+2) p<10^199:=bC (xA j) hb;refine fV (f8 (l4 (fO rfl ⟨nJ N.net rfl,fF (fS (fM ⟨rfl,jh W N G3 gn λp4 L4 G4 h4=>?_⟩))⟩)));have y:g.length<=C3.length:=by rw[U];simp
  refine fT ⟨(sm n w.p+1 - (a+mo (net w n es P) f r)).toNat,by lia,_,p4,_,C3.length,_,rfl,by simp,N.app N.len,G4,L4,λv M=>bG (h4 v M) (j v M),Z,by lia,.inr ⟨by lia,p,G3,s,j⟩,by rw[aY];exact ZR (bB J y),λi D B=>?_,by lia⟩;rw[aR (aM D (bB J y)),X i B,aR (aM D J)];exact iz i D B
 .rw[aWa (by rw[decide_eq_false s];simp)];exact q f p a g ⟨G,L,j,gT s,O⟩ ha F t J iz
end aJ
namespace aJ
open PySem L2 TL NF
variable{d:Nat}{s:Nat×Nat}{L:NF.Fl}{Q:T->ab->Prop}
def uk(s:Nat×Nat):List Key:=[qe s.1,qe s.2]
theorem JB(a b:Nat×Nat)(h:uk a=uk b):a=b:=by
 have c:=ZJ.inj h;have f:=ZJ.inj c.2;exact YX (vS _ _ c.1) (vS _ _ f.1)
noncomputable def fk(s:Nat×Nat):T:=.tup [.int s.1,.int s.2]
def oM(L:NF.Fl):Cl:=(.dt (L.map λp=>uk p.1),L.map λp=>.int p.2)
def Ds(L:NF.Fl):Cl:=(.dz (L.map λp=>uk p.1),L.map λp=>.int p.2)
theorem yG{C:ab}(e:C[d]?=some (oM L)\/C[d]?=some (Ds L)):ek C (.cell d) (fk s)=some ((lk L s).map T.int):=by
 unfold ek;rw[IH e,IV e];show some (vl _ (uk s))=_;rw[Gs (vf:=λi:Int=>T.int i) JB]
theorem Kz{C:ab}{v:Int}(e:C[d]?=some (oM L))(a:L.length<lim):dput C (.cell d) (fk s) (.int v)=some (C.set d (oM (oQ L s v))):=by
 unfold dput;rw[IH (.inl e),Iz e];show(if _ then some (C.set d (.dt (mq (uk s) _),jt (uk s) _ _ _))else none)=_;rw[aWc (by simpa using a)];obtain⟨c,b⟩:=GD (vf:=λi:Int=>T.int i) JB (a:=s) (b:=v) (rs:=L);rw[c,b];rfl
theorem uG:(lk L s).getD 0=at_ L s:=by
 unfold at_;congr 1;induction L with
 |nil=>rfl
 |cons e L ih=>
  obtain⟨k,v⟩:=e;rw[oU,cL];by_cases h:k=s
  .rw[aWc h,show(s==k)=true from beq_iff_eq.mpr h.symm]
  .rw[aWa h,show(s==k)=false from beq_eq_false_iff_ne.mpr (Ne.symm h)];exact ih
theorem WY{p:(Nat×Nat)×Int}{v:Int}(h:¬p.1=s):oQ (p::L) s v=p::oQ L s v:=by
 unfold oQ;rw[aK];by_cases a:s∈L.map (·.1)
 .rw[aWc (bA _ a),aWc a,aK,aWa h]
 .rw[aWa (fun z=>by rcases fU z with z|z;exact h z.symm;exact a z),aWa a];rfl
theorem Gn{g:(Nat×Nat)×Int->(Nat×Nat)×Int}(h:s∉L.map (·.1)):L.map (λp=>if p.1=s then g p else p)=L:=by
 induction L with
 |nil=>rfl
 |cons e L ih=>
  rw[aK,cC,not_or]at h;rw[aK,ih h.2,aWa (λz=>h.1 z.symm)]
theorem JQ{s:Nat×Nat}{v:Int}:∀{L:NF.Fl},(L.map (·.1)).Nodup->oQ L s (at_ L s+v)=ad s v L
 | [],_=>by simp[oQ,ad,at_]
 | (k,x)::L,a=>by
   rw[aK,c7]at a;unfold ad;by_cases h:k=s
   .subst h;have e:at_ ((k,x)::L) k=x:=by rw[<-uG,oU,aWc rfl];rfl
    rw[e,aWc rfl];unfold oQ;rw[aWc (by simp),aK,aWc rfl,Gn a.1]
   .have e:at_ ((k,x)::L) s=at_ L s:=by rw[<-uG,oU,aWa h,uG]
    rw[e,aWa h,WY h,JQ a.2]
theorem QH{x:Int}(a:(L.map (·.1)).Nodup)(b:s∈L.map (·.1)):oQ L s (at_ L s - x)=tk x s L:=by
 unfold oQ;rw[aWc b];unfold tk;induction L with
 |nil=>rfl
 |cons e L ih=>
  obtain⟨k,y⟩:=e;rw[aK,c7]at a;rw[aK,aK];by_cases h:k=s
  .subst h;have e:at_ ((k,y)::L) k=y:=by rw[<-uG,oU,aWc rfl];rfl
   rw[e,aWc rfl,Gn a.1,Gn (g:=λe=>(e.1,e.2 - x)) a.1]
  .have e:at_ ((k,y)::L) s=at_ L s:=by rw[<-uG,oU,aWa h,uG]
   rw[aK]at b;rw[e,aWa h,aWa h,ih a.2 ((fU b).resolve_left (Ne.symm h))]
theorem Ib{e:(Nat×Nat)×Int}(a:(L.map (·.1)).Nodup)(he:e∈L):lk L e.1=some e.2:=by
 induction L with
 |nil=>cases he
 |cons p L ih=>
  rw[aK,c7]at a;rw[oU];rcases fU he with rfl|he
  .rw[aWc rfl]
  .rw[aWa (λz=>a.1 (by rw[z];exact dO he)),ih a.2 he]
noncomputable def outs(L:NF.Fl)(v:Nat):XC:=(L.filter λe=>decide (e.1.1=v)&&decide (0<e.2)).map (·.1)
theorem tZ{C:ab}{v:Nat}(e:C[d]?=some (oM L))(g:(L.map (·.1)).Nodup)(i:L.length<90000)(q:Q (.lst ((outs L v).map fk)) C):bf (nN [.int v,.cell d] C) Q:=by
 have j:=nA e;refine jN ?_;unfold vN;walk_at "a";refine gG (gA (Vk (c:=d) (ks:=L.map λp:(Nat×Nat)×Int=>uk p.1) (ts:=L.map λp:(Nat×Nat)×Int=>T.int p.2) (hX ⟨_,rfl,rfl,e,by simp,by simp[lim];exact aM i (by decide),?_⟩)));have c:(C.set d (Ds L))[d]?=some (Ds L):=o8 j;rw[cK,show(Cj ∘ λp:(Nat×Nat)×Int=>uk p.1)=λp=>fk p.1 from rfl];refine u6 (xs:=L) (en:=λp=>fk p.1) (λe=>decide (e.1.1=v)&&decide (0<e.2)) (λp=>fk p.1) (λx f=>?_) ?_
 .refine fT (x6.mpr (gQ (fL (fL ?_))));refine hX ⟨fk x.1,rfl,?_⟩;refine fS (gL ⟨[.int x.1.1,.int x.1.2],rfl,.int x.1.1,rfl,?_⟩);refine hX ⟨.int v,rfl,?_⟩;refine kS ⟨_,rfl,?_⟩;have a:((x.1.1:Int)=v)↔x.1.1=v:=by lia
  by_cases h:x.1.1=v
  .rw[aWc (decide_eq_true (a.mpr h))];have b:=yG (s:=x.1) (L:=L) (C:=C.set d (Ds L)) (.inr c);rw[Ib g f]at b;refine gQ (fL (fL (fO rfl (fO rfl (mW ⟨_,b,fS (gC ⟨_,rfl,rfl,?_,λ_=>fO rfl ⟨rfl,rfl⟩⟩)⟩)))));rw[decide_eq_true h,Bool.true_and]
  .rw[aWa (by rw[decide_eq_false (λz=>h (a.mp z))];simp)];refine⟨rfl,by rw[decide_eq_false h,Z7],λz=>?_⟩;rw[decide_eq_false h,Z7]at z;cases z
 .have:(L.filter λe=>decide (e.1.1=v)&&decide (0<e.2)).map (λp=>fk p.1)=(outs L v).map fk:=by unfold outs;rw[cK];rfl
  rw[this];exact⟨rfl,q⟩
theorem LA{x:Int}{s:Nat×Nat}:∀{r:XC}{L:NF.Fl},gb x (r++[s]) L=tk x s (gb x r L)
 | [],L=>rfl
 |a::r,L=>by show gb x (r++[s]) (tk x a L)=_;rw[LA];rfl
theorem WJ{C:ab}{a:Nat}{r:XC}(e:C[d]?=some (oM L))(f:C[a]?=some (.l,r.map fk))(B:(L.map (·.1)).Nodup)(D:L.length<90000)(A:r≠[])(H:r.length<1000)(m:∀s∈r,s∈L.map (·.1))
 (q:Q (.int (wW (r.map (at_ L)))) (C.set d (oM (gb (wW (r.map (at_ L))) r L)))):bf (rC [.cell d,.cell a] C) Q:=by
 have F:=nA e;have t:d≠a:=λz=>by subst z;rw[e]at f;cases f
 have o:lc C a=some (r.map fk):=gS f;have b:∀(g:NF.Fl)(s:Nat×Nat),s∈g.map (·.1)->lk g s=some (at_ g s):=λg s c=>by
  obtain⟨v,l⟩:=iV (qV.mpr c);rw[l,<-uG,l];rfl
 generalize w:wW (r.map (at_ L))=x at q;refine jN ?_;unfold MC;walk_at "a";refine fQ (f8 (f9 (fF (gA (jK (hX ⟨_,rfl,_,o,by simp[lim];exact aM H (by decide),?_⟩))))));refine iY (xs:=r) (en:=fk) (λs=>T.int (at_ L s)) (λs c=>fT (fL (fO rfl (fO rfl (mW ⟨_,by rw[yG (.inl e),b L s (m s c)];rfl,rfl,rfl⟩))))) ?_;refine fM (vK.mpr ⟨_,rfl,_,p9 (f:=at_ L),?_,?_⟩)
 .cases r with
  |nil=>exact absurd rfl A
  |cons s r=>rfl
 rw[show wW (r.map (at_ L))=x from w];refine fT (fV (fQ (iS (fO rfl ⟨_,o,?_⟩))));refine lC (xs:=r) (en:=fk) (λj h i=>∃y,h=[some (.cell d),some (.cell a),some (.int x),y]/\i=C.set d (oM (gb x (r.take j) L))) ⟨_,rfl,?_⟩ ?_ ?_
 .obtain⟨J,G⟩:=fK e;show C=C.set d (oM L);rw[<-G,Ze]
 .rintro j s h i n ⟨y,rfl,rfl⟩;have c:=m s (aX n);have k:s∈(gb x (r.take j) L).map (·.1):=by rw[qH];exact c
  have u:((gb x (r.take j) L).map (·.1)).Nodup:=by rw[qH];exact B
  have I:(gb x (r.take j) L).length<90000:=by
   have:=congrArg XX (qH (x:=x) (r:=r.take j) (L:=L));rw[aP,aP]at this;exact bO (bZ this) D
  have p:(C.set d (oM (gb x (r.take j) L)))[d]?=some (oM (gb x (r.take j) L)):=o8 F;unfold u4;refine fT (U2 (i:=at_ (gb x (r.take j) L) s) (j:=x) (fO rfl (hX ⟨_,rfl,by rw[yG (.inl p),b _ s k];rfl,fO rfl ⟨rfl,_,Kz p (by simp[lim];exact aM I (by decide)),?_,_,rfl,?_⟩⟩)))
  .show lc _ a=_;rw[oA,X9,aQ t];exact f
  .rw[X9,QH u k,Ys,n,d9,LA]
 .rintro h i ⟨y,rfl,rfl⟩;rw[dE];exact fV (gG (fO rfl q))
end aJ
namespace aJ
open PySem L2 TL NF
variable{L:NF.Fl}{e:(Nat×Nat)×Int}
structure tp(L:NF.Fl)(a:Int)(ρ:XH):Prop where
 con:vv L a
 nn:∀e∈L,0<=e.2
 nd:(L.map (·.1)).Nodup
 hz:∀e∈L,e.1.2≠0
 rk:∀e∈L,ρ e.1.1<ρ e.1.2
 h1:∀e∈L,ρ e.1.2<=ρ 1
 h0:∀e∈L,ρ 0<=ρ e.1.1
 small:ρ 1 - ρ 0<=30
 le:ρ 0<=ρ 1
 len:L.length<90000
theorem Jl{x:T}{l:Xw}:dc (x::l) 0=some x:=Kk (j:=0) rfl
theorem SW.snoc:∀{r:XC}{u v:Nat}{s:Nat×Nat},SW r u v->s.1=v->SW (r++[s]) u s.2
 | [],u,v,s,h,e=>by cases h;exact⟨e,rfl⟩
 |a::r,u,v,s,⟨c,b⟩,e=>⟨c,SW.snoc b e⟩
theorem Uo{v:Nat}{s:Nat×Nat}(h:s∈outs L v):∃e∈L,e.1=s/\s.1=v/\0<e.2:=by
 unfold outs at h;obtain⟨e,b,rfl⟩:=fY h;obtain⟨c,a⟩:=jO b;rw[Zv,decide_eq_true_iff,decide_eq_true_iff]at a;exact⟨e,c,rfl,a.1,a.2⟩
theorem K6{v:Nat}(h:outs L v=[])(c:e∈L)(a:e.1.1=v):¬0<e.2:=λb=>by
 have:e.1∈outs L v:=by
  unfold outs;refine dO (YJ.mpr ⟨c,?_⟩);rw[Zv,decide_eq_true_iff,decide_eq_true_iff];exact⟨a,b⟩
 rw[h]at this;cases this
theorem CI(a:(L.map (·.1)).Nodup)(b:e∈L):at_ L e.1=e.2:=by rw[<-uG,Ib a b];rfl
theorem Mz{a:Int}{b:XH}(F:tp L a b){C:ab}{d:Nat}(e:C[d]?=some (oM L)){Q:T->ab->Prop}
 (q:∀r:XC,(r=[]/\a<=0)\/(r≠[]/\SW r 0 1/\r.Nodup/\r.length<1000/\∀s∈r,s∈L.map (·.1)/\0<at_ L s)->Q (.cell C.length) (C++[(.l,r.map fk)])):bf (lO [.cell d] C) Q:=by
 have N:=nA e;have I:∀x:Cl,(C++[x])[d]?=some (oM L):=λx=>by rw[aR N];exact e
 refine jN ?_;unfold rG;walk_at "a";refine fQ (f8 (iK (gK (fM ⟨by decide,?_⟩))));refine fT (fV (fQ (f8 (iF (fF (fS (fF ?_)))))));refine fO rfl (fM ⟨rfl,?_⟩);refine tZ (v:=0) (I _) F.nd F.len (fT (fV (fQ ?_)));refine wB (λm t J=>∃r u,t=[some (.cell d),some (.cell C.length),some (.lst ((outs L u).map fk))]/\J=C++[(.l,r.map fk)]/\SW r 0 u/\(r=[]/\u=0\/r≠[]/\∃e∈L,e.1.2=u/\0<e.2)/\(∀s∈r,s∈L.map (·.1)/\0<at_ L s)/\r.Nodup/\(∀s∈r,b s.1<b u)/\
  (r.length:Int)<=b u - b 0/\b u<=b 1/\b 1 - b u<=(m:Int)) (m:=30) (by decide) ?_ ?_
 .exact⟨[],0,rfl,rfl,rfl,.inl ⟨rfl,rfl⟩,by simp,by simp,by simp,by simp,F.le,F.small⟩
 rintro m t J ⟨r,u,rfl,rfl,o,O,G,D,B,U,S,R⟩;refine mD (fO rfl ⟨_,rfl,?_⟩);have K:=F.small;cases n:outs L u with
 |nil=>
  rw[bE];rw[aWa (by simp)];refine fV (gG (fO rfl (q r ?_)));rcases O with⟨rfl,rfl⟩| ⟨P,x,c,w,M⟩
  .refine .inl ⟨rfl,?_⟩;by_cases A:0<a
   .obtain⟨y,g,k,f⟩:=S6 F.con F.nn F.hz A;exact absurd f (K6 n g k)
   .exact gT A
  .refine .inr ⟨P,?_,D,by lia,G⟩;have l:u=1:=by
    by_cases z:u=1
    .exact z
    .obtain⟨y,g,k,f⟩:=QK F.con F.nn (v:=u) (by rw[<-w];exact F.hz x c) z c w M;exact absurd f (K6 n g k)
   rw[l]at o;exact o
 |cons s os=>
  obtain⟨x,c,i,j,h⟩:=Uo (L:=L) (v:=u) (s:=s) (by rw[n];exact bM);have p:=F.rk x c;have v:=F.h1 x c;rw[i,j]at p;rw[i]at v;rw[aK,aWc (by simp)];have H:lc (C++[(Kd.l,r.map fk)]) C.length=some (r.map fk):=gS (by simp);unfold pR;refine fQ (i6 (fO rfl (fF (fL ?_))));refine fO rfl (fS (gL ⟨fk s::os.map fk,rfl,fk s,Jl,?_⟩));refine fM ⟨_,rfl,by rw[H];rfl,_,H,jY ⟨by simp[lim];lia,?_⟩⟩;have es:(C++[(Kd.l,r.map fk)]).set C.length (Kd.l,r.map fk++[fk s])=C++[(Kd.l,(r++[s]).map fk)]:=by
   rw[cV _ _ (bD _),XS,bR];rfl
  rw[es];refine fV (f8 (iF (fF (fL (fL ?_)))));refine fO rfl (fS (gL ⟨fk s::os.map fk,rfl,fk s,Jl,?_⟩));refine fS (gL ⟨[.int s.1,.int s.2],rfl,.int s.2,rfl,fF ?_⟩);refine fO rfl (fM ⟨rfl,?_⟩);refine tZ (v:=s.2) (I _) F.nd F.len (fT ⟨(b 1 - b s.2).toNat,by lia,r++[s],s.2,rfl,rfl,SW.snoc o j,.inr ⟨by simp,x,c,by rw[i],h⟩,λz hz=>?_,?_,λz hz=>?_,?_,v,by lia⟩)
  .rcases fZ hz with hz|hz
   .exact G z hz
   .have:z=s:=by simpa using hz
    subst this;exact⟨by rw[<-i];exact dO c,by rw[<-i,CI F.nd c];exact h⟩
  .refine jF ⟨D,by simp,λy g z hz=>?_⟩;have:z=s:=by simpa using hz
   subst this;rintro rfl;have:=B y g;rw[j]at this;exact absurd this (Z2 (b u))
  .rcases fZ hz with hz|hz
   .have:=B z hz;exact cX this p
   .have:z=s:=by simpa using hz
    subst this;rw[j];exact p
  .rw[aY];simp;lia
end aJ
namespace aJ
open PySem L2 TL NF
variable{r:XC}{L:NF.Fl}
theorem IK{c d:Type}{g:c->d}:∀{l:List c},TL.od (l.map g)=(NF.od l).map g
 | []=>by simp[TL.od,NF.od]
 | [_]=>by simp[TL.od,NF.od]
 |a::b::r=>by
  have ih:=IK (g:=g) (l:=r);simp only[aK,TL.od,NF.od];rw[ih]
theorem FU{c:Type}:∀{l:List c},(NF.od l).length<=l.length
 | []=>by simp[NF.od]
 | [_]=>by simp[NF.od]
 |a::b::r=>by
  have ih:=FU (l:=r);simp only[NF.od,aN];exact cY (eB ih)
theorem WI{C:ab}{a:Nat}{is:XG}(e:C[a]?=some (.l,r.map fk))(f:r.length<1000)(b:NF.od r=is.map je){Q:T->ab->Prop}(q:Q (.lst (is.map λi:Nat=>T.int (i:Int))) C):bf (qN [.cell a] C) Q:=by
 have d:is.length<1000:=by
  have c:=FU (l:=r);rw[b,aP]at c;exact bO c f
 refine jN ?_;unfold Mu;walk_at "a";refine gG (gA (jK (gA (R9.mpr (fO rfl ⟨_,gS e,?_⟩)))));rw[IK,b,cK];refine⟨_,rfl,by simp[lim];exact aM d (by decide),?_⟩;refine iY (xs:=is) (en:=fk ∘ je) (λi:Nat=>T.int (i:Int)) (λi _=>?_) q;refine kX ⟨_,rfl,rfl,?_⟩;refine f9 (fF (hX ⟨.int ((2*i+2:Nat):Int),rfl,fM ?_⟩));rw[show((2*i+2:Nat):Int)=2*(i:Int)+2 by lia];exact(gP V6 rfl rfl).mpr ⟨rfl,rfl⟩
theorem x8{x:Int}:∀{r:XC}{L:NF.Fl},gb x r L=L.map λe=>(e.1,e.2 - x*(r.count e.1:Int))
 | [],L=>by simp[gb]
 |s::r,L=>by
  unfold gb;rw[x8];unfold tk;rw[cK];apply cU;intro e _;simp only[Yg];by_cases h:e.1=s
  .rw[aWc h];dsimp only;rw[h,List.count_cons_self,aT3,Z5,Z4];congr 1;lia
  .rw[aWa h,List.count_cons_of_ne (Ne.symm h)]
theorem tp.take{a:Int}{i:XH}(F:tp L a i){x:Int}(w:SW r 0 1)(k:r.Nodup)(j:∀s∈r,s∈L.map (·.1)/\x<=at_ L s):tp (gb x r L) (a - x) i:=by
 have key:∀b∈gb x r L,∃e∈L,e.1=b.1/\b.2=e.2 - x*(r.count e.1:Int):=λb c=>by
  rw[x8]at c;obtain⟨e,d,rfl⟩:=fY c;exact⟨e,d,rfl,rfl⟩
 refine⟨F.con.take F.nd (λs g=>(j s g).1) w,λb c=>?_,by rw[qH];exact F.nd,λb c=>?_,λb c=>?_,λb c=>?_,λb c=>?_,F.small,F.le,?_⟩
 .obtain⟨e,d,f,h⟩:=key b c;have l:=F.nn e d;rw[h];by_cases g:e.1∈r
  .rw[k.count,aWc g];have:=(j e.1 g).2;rw[CI F.nd d]at this;simp;exact this
  .rw[ZD.mpr g];simp;exact l
 .obtain⟨e,d,f,h⟩:=key b c;rw[<-f];exact F.hz e d
 .obtain⟨e,d,f,h⟩:=key b c;rw[<-f];exact F.rk e d
 .obtain⟨e,d,f,h⟩:=key b c;rw[<-f];exact F.h1 e d
 .obtain⟨e,d,f,h⟩:=key b c;rw[<-f];exact F.h0 e d
 .rw[x8,aP];exact F.len
theorem tp.B0{a:Int}{c:XH}(F:tp L a c){e:(Nat×Nat)×Int}(b:e∈L):e.2<=a:=
 Tc F.con F.nn c F.rk b (by have:=F.rk e b;have:=F.h0 e b;lia) (F.h1 e b)
theorem OC{s:Nat×Nat}(h:s∉L.map (·.1)):at_ L s=0:=by
 rw[<-uG];cases e:lk L s with
 |none=>rfl
 |some v=>exact absurd (qV.mp (by rw[e];rfl)) h
theorem tp.zero{a:Int}{c:XH}(F:tp L a c)(d:a<=0)(s:Nat×Nat):at_ L s=0:=by
 by_cases h:s∈L.map (·.1)
 .obtain⟨e,b,rfl⟩:=fY h;rw[CI F.nd b];have:=F.B0 b;have:=F.nn e b;lia
 .exact OC h
end aJ
namespace aJ
open PySem L2 TL NF
variable{L:NF.Fl}{s:Nat×Nat}
theorem IL{s:Nat×Nat}{v:Int}:∀{L:NF.Fl},(ad s v L).length<=L.length+1
 | []=>by simp[ad]
 |e::L=>by
  have:=IL (s:=s) (v:=v) (L:=L);unfold ad;split<;>simp<;>lia
theorem qU{N:Nt}{f:XH}:∀{k:Nat},(ff N f k).length<=k
 |0=>by simp[ff]
 |k+1=>by
  have b:=qU (N:=N) (f:=f) (k:=k);have a:=IL (s:=(N.t k,N.h k)) (v:=f k) (L:=ff N f k);unfold ff;exact bB a (eB b)
theorem Rj:((lk L s).map T.int).getD (.int 0)=.int (at_ L s):=by
 rw[<-uG];cases lk L s<;>rfl
theorem L7{g:Type}{p q:g->Bool}:∀{l:List g},(∀e∈l,q e=true->p e=true)->(l.filter q).length<=(l.filter p).length/\((∃e∈l,p e=true/\q e=false)->(l.filter q).length<(l.filter p).length)
 | [],_=>⟨bD _,fun⟨e,he,_⟩=>by cases he⟩
 |a::l,h=>by
  obtain⟨d,j⟩:=L7 (p:=p) (q:=q) (l:=l) λe he=>h e (bA _ he)
  have k:=h a bM;rw[aT4,aT4];cases i:q a<;>cases f:p a
  .simp only[cM,if_false];refine⟨d,fun⟨e,he,c,b⟩=>?_⟩;rcases fU he with rfl|he
   .rw[f]at c;cases c
   .exact j ⟨e,he,c,b⟩
  .simp only[cM,if_false,if_true,aN];exact⟨cY d,λ_=>eO d⟩
  .rw[k i]at f;cases f
  .simp only[if_true,aN];refine⟨eB d,fun⟨e,he,c,b⟩=>?_⟩;rcases fU he with rfl|he
   .rw[i]at b;cases b
   .have:=j ⟨e,he,c,b⟩;exact aT5 this
noncomputable def ro(L:NF.Fl):Nat:=(L.filter λe=>decide (0<e.2)).length
theorem VH{r:XC}{x:Int}(g:(L.map (·.1)).Nodup)(f:r.Nodup)(b:0<x)(d:s∈r)(i:s∈L.map (·.1))(a:at_ L s=x):ro (gb x r L)<ro L:=by
 unfold ro;rw[x8,List.filter_map,aP];refine(L7 λe j h=>?_).2 ?_
 .simp only[Yg,decide_eq_true_eq]at h|-;have:0<=x*(r.count e.1:Int):=X3 (bU b) (bN _);exact cG h (Yn e.2 this)
 .obtain⟨e,c,rfl⟩:=fY i;rw[CI g c]at a;refine⟨e,c,decide_eq_true (cG b (dI (eS a))),?_⟩;simp only[Yg,decide_eq_false_iff_not];rw[f.count,aWc d,a];simp
structure zX(n:Nat)(es:XC)(L0:NF.Fl)(a0:Int)(rl:List (Nat×Int×XG))(L:NF.Fl)(a:Int):Prop where
 ok:∀z∈rl,1<=z.2.1/\z.2.2≠[]/\(∀i∈z.2.2,i<n)/\NF.Ei es none z.2.2/\∀i,z.2.2.count i<=1
 sum:(rl.map λz=>z.2.1).sum=a0 - a
 tr:∀i,(rl.map λz=>z.2.1*(z.2.2.count i:Int)).sum=at_ L0 (je i) - at_ L (je i)
noncomputable def vc(z:Nat×Int×XG):Cl:=(.l,.int z.2.1::z.2.2.map λi:Nat=>T.int (i:Int))
theorem U6{N:Nt}{f:XH}{c n:Nat}{es:XC}{pl l:Int}{ρ:XH}{C:ab}(A:jE N f c pl C)(hm:N.m<40000)(F0:tp (ff N f N.m) l ρ)(E:∀s∈(ff N f N.m).map (·.1),Ky n es s)(ic:0<=l)(qq:l<10^199){Q:T->ab->Prop}
 (q:∀d rw b,d.length<=N.m->zX n es (ff N f N.m) l d [] 0->b[rw]?=some (.l,d.map λz=>.cell z.1)->(∀z∈d,b[z.1]?=some (vc z))->Q (.cell rw) b):bf (oY [.cell c] C) Q:=by
 have ag:=A.len;have hf:pX "Net" "pipes" C (.cell c)=some (.cell (c+1)):=mJ A.net rfl;refine jN ?_;unfold uX;walk_at "a";refine fQ (f8 (Ll.mpr (fT (fV (fQ (iS ?_))))));have I:∀x:Cl,jE N f c pl (C++[x]):=λx=>A.app ag;have jx:∀x:Cl,lc (C++[x]) (c+1)=some ((bH N.m).map λj=>.cell (pc c (j,true))):=λx=>gS (I x).lst;refine gM (jW rfl (mJ (I _).net rfl)) ⟨_,jx _,?_⟩;refine lC (xs:=bH N.m) (en:=λj=>T.cell (pc c (j,true))) (λj u b=>∃x y,u=[some (.cell c),some (.cell C.length),x,y,none,none]/\b=C++[oM (ff N f j)]) ⟨_,_,rfl,rfl⟩ ?_ ?_
 .rintro j k u b hj ⟨x,y,rfl,rfl⟩;have hk:k=j/\j<N.m:=by
   obtain⟨h,B⟩:=fK hj;rw[Yh]at B;exact⟨B.symm,by simpa using h⟩
  obtain⟨rfl,O⟩:=hk;obtain⟨f1,f2,f3,f4,f5⟩:=(I (oM (ff N f k))).fld (o:=(k,true)) O;obtain⟨g1,g2,g3,g4,g5⟩:=(I (oM (ff N f k))).fld (o:=(k,false)) O;have D:(C++[oM (ff N f k)])[C.length]?=some (oM (ff N f k)):=by simp
  have X:=qU (N:=N) (f:=f) (k:=k);unfold sK;refine fT (fQ (f8 (lS (fF ?_))));refine gM (jW (t:=.cell (pc c (k,true))) rfl f1) (fF ?_);refine gM (jW (t:=.cell (pc c (k,true))) rfl f2) (fM ⟨by simp[lim],fT (fV ?_)⟩);refine Lq (fL (Vu (hX ⟨_,rfl,by unfold iq;rw[IV (.inl D)];simp,hX ⟨fk (N.t k,N.h k),rfl,fS ⟨_,yG (.inl D),?_⟩⟩⟩)));rw[Rj];refine nG (nG (fO rfl ⟨_,f5,_,g4,gC ?_⟩));refine fO rfl (hX ⟨fk (N.t k,N.h k),rfl,_,Kz D (by simp[lim];exact Yy (bO X O) (aM hm (by decide))),?_,_,_,rfl,?_⟩)
  .show lc _ (c+1)=_;rw[oA,aQ (by lia)];exact(I _).lst
  .rw[cV _ _ (bD _),XS];show C++[oM (oQ (ff N f k) (N.t k,N.h k) (at_ (ff N f k) (N.t k,N.h k)+rr N f (k,false)))]=_;rw[show rr N f (k,false)=f k from rfl,JQ v8];rfl
 .rintro u b ⟨x,y,rfl,rfl⟩;rw[Yi];have D:∀z:Cl,(C++[oM (ff N f N.m)]++[z])[C.length]?=some (oM (ff N f N.m)):=λz=>by simp
  refine fV (fQ (f8 (iK (gK (fM ⟨by decide,?_⟩)))));refine fT (fV (fQ (f8 (iF (fF ?_)))));refine fO rfl (fM ⟨rfl,Mz F0 (D _) λr0 Y=>?_⟩);refine fT (fV (fQ ?_));refine wB (λm u b=>∃d L a r w x y,u=[some (.cell c),some (.cell C.length),x,y,some (.cell (C.length+1)),some (.cell w)]/\b[C.length]?=some (oM L)/\b[C.length+1]?=some (.l,d.map λz=>.cell z.1)/\b[w]?=some (.l,r.map fk)/\C.length+1<w/\
   (∀z∈d,C.length+1<z.1/\b[z.1]?=some (vc z))/\d.length+ro L<=N.m/\tp L a ρ/\L.map (·.1)=(ff N f N.m).map (·.1)/\zX n es (ff N f N.m) l d L a/\((r=[]/\a<=0)\/(r≠[]/\SW r 0 1/\r.Nodup/\r.length<1000/\∀s∈r,s∈L.map (·.1)/\0<at_ L s))/\0<=a/\a<=(m:Int)) (m:=l.toNat) ?_ ?_ ?_
  .have:l.toNat<10^199:=by lia
   exact aM this (ZS (by decide) (by decide))
  .refine⟨[],ff N f N.m,l,r0,C.length+2,x,y,by simp,?_,?_,?_,bX _,by simp,?_,F0,rfl,⟨by simp,by simp,by simp⟩,Y,ic,dI (eS (bP ic))⟩
   .rw[aR (by simp)];exact D _
   .rw[dH,dH,bL (XQ _),show C.length+1 - C.length=1 from cQ (XX C) 1];rfl
   .rw[dH,dH,bL (b8 _ _),show C.length+2 - C.length=2 from cQ (XX C) 2];rfl
   .have h:ro (ff N f N.m)<=(ff N f N.m).length:=Zz _ _;have B:=qU (N:=N) (f:=f) (k:=N.m);simp;exact bB h B
  rintro m u b ⟨d,L,a,r,w,x,y,rfl,e1,M,K,hrc,lw,ci,F,lz,G,hr,ha,xq⟩;refine mD (hX ⟨_,rfl,!(r.map fk).isEmpty,by show(lc b w).map _=_;rw[gS K];rfl,?_⟩);rcases hr with⟨rfl,cv⟩| ⟨ax,iy,o,eh,p⟩
  .rw[aWa (by simp)];refine fV (gG (fO rfl (q d (C.length+1) b (YQ ci) ⟨G.ok,?_,λi=>?_⟩ M λz hz=>(lw z hz).2)))
   .rw[G.sum];lia
   .rw[G.tr i,F.zero cv];rfl
  .rw[aWc (by cases r with|nil=>exact absurd rfl ax|cons s r=>rfl)];obtain⟨m1,m2⟩:=zY (ns:=r.map (at_ L)) (by rintro z;exact ax (ZC.mp z));generalize hx:wW (r.map (at_ L))=v at m1 m2;obtain⟨s0,J,R⟩:=fY m1;have hv:0<v:=by rw[<-R];exact(p s0 J).2
   have Z:∀s∈r,s∈L.map (·.1)/\v<=at_ L s:=λs g=>⟨(p s g).1,m2 _ (dO g)⟩;have U:v<=a:=by
    obtain⟨e,he,rfl⟩:=fY (p s0 J).1;rw[<-R,CI F.nd he];exact F.B0 he
   have F':=F.take iy o Z;have nl:(gb v r L).map (·.1)=(ff N f N.m).map (·.1):=by rw[qH];exact lz
   obtain⟨is,i1,i2,i3,i4,i5⟩:=IQ (n:=n) (es:=es) r none iy λs g=>E s (by rw[<-lz];exact(p s g).1)
   have hpt:=VH F.nd o hv J (p s0 J).1 R;have S:=nA e1;have l2:=nA M;have l3:=nA K;have k3:(b.set C.length (oM (gb v r L)))[w]?=some (.l,r.map fk):=by rw[aQ (by lia)];exact K
   unfold r9;refine fQ (i6 (fO rfl (fF (iK (lR (gA (gK (fF (iF (fF ?_))))))))));refine fO rfl (fF (fO rfl (fM ⟨rfl,WJ e1 K F.nd F.len ax eh (λs g=>(p s g).1) ?_⟩)));rw[hx];refine fM ⟨by simp[lim],iF (fF (fO rfl (fM ⟨rfl,WI k3 eh i1 ?_⟩)))⟩;have vh:is.length<1000:=by
    have h:=FU (l:=r);rw[i1,aP]at h;exact bO h eh
   refine mE ⟨_,rfl,_,rfl,by simp[lim];lia,fM ⟨_,rfl,by rw[gS M];rfl,_,gS (?_ :_=some (Kd.l,d.map λz=>T.cell z.1)),jY ⟨by simp[lim];lia,?_⟩⟩⟩
   .rw[aR (by rw[dD];exact l2),aQ (by lia)];exact M
   generalize H:(b.set C.length (oM (gb v r L))++[(Kd.l,[T.int v]++is.map λi:Nat=>T.int (i:Int))]).set (C.length+1) (Kd.l,(d.map λz=>T.cell z.1)++[T.cell (b.set C.length (oM (gb v r L))).length])=t;have lC2:t.length=b.length+1:=by rw[<-H];simp
   have P:∀i,i<b.length->i≠C.length->i≠C.length+1->t[i]?=b[i]?:=λi hi h B=>by
    rw[<-H,aQ (Ne.symm B),aR (by rw[dD];exact hi),aQ (Ne.symm h)]
   have c1:t[C.length]?=some (oM (gb v r L)):=by
    rw[<-H,aQ (by lia),aR (by rw[dD];exact S)];exact o8 S
   have c2:t[C.length+1]?=some (Kd.l,(d++[(b.length,v,is)]).map λz=>T.cell z.1):=by
    rw[<-H,bT (by simp;exact S),bR,dD];rfl
   have c3:t[b.length]?=some (vc (b.length,v,is)):=by
    rw[<-H,aQ (by lia),bL (by simp)];simp[vc]
   refine fV (f8 (iF (fF (fO rfl (fM ⟨rfl,Mz F' c1 λr2 ui=>?_⟩)))));refine fT ⟨(a - v).toNat,by lia,d++[(b.length,v,is)],gb v r L,a - v,r2,t.length,x,y,rfl,?_,?_,?_,by lia,λz hz=>?_,?_,F',nl,⟨λz hz=>?_,?_,λi=>?_⟩,ui,bY U,by lia⟩
   .rw[aR (by lia)];exact c1
   .rw[aR (by lia)];exact c2
   .simp
   .rcases fZ hz with hz|hz
    .obtain⟨g1,g2⟩:=lw z hz;refine⟨g1,?_⟩;rw[aR (by have:=nA g2;lia),P _ (nA g2) (by lia) (by lia)];exact g2
    .have:z=(b.length,v,is):=by simpa using hz
     subst this;refine⟨by show C.length+1<b.length;exact l2,?_⟩;rw[aR (by show b.length<t.length;lia)];exact c3
   .rw[aY];simp;lia
   .rcases fZ hz with hz|hz
    .exact G.ok z hz
    .have:z=(b.length,v,is):=by simpa using hz
     subst this;refine⟨by show 1<=v;lia,i4 rfl,i2,i3,λi=>?_⟩;show is.count i<=1;rw[<-i5 i];exact YG.mp o _
   .rw[bR,YM,G.sum];simp;lia
   .rw[bR,YM,G.tr i,Iq (λs g=>(p s g).1)];have:=i5 i;simp;rw[this];lia
end aJ
namespace aJ
open PySem L2 TL
variable{G:FS}{Q:Fl->aE->ab->Prop}{i z u b c:Int}
def Nb(n:Int):Prop:=0<=n/\n<2^140
def qS(w:Int×Int×Int):Prop:=0<=w.2.1/\w.2.1<=w.1/\0<=w.2.2/\w.1<2^252/\w.2.2<2^252
def uH(w:Int×Int×Int):Prop:=0<=w.2.1/\w.2.1<=w.1/\0<=w.2.2/\w.1<2^240/\w.2.2<2^240
theorem uH.bd{w:Int×Int×Int}(h:uH w):qS w:=⟨h.1,h.2.1,h.2.2.1,cX h.2.2.2.1 (by decide),cX h.2.2.2.2 (by decide)⟩
theorem rR{B:FS}{m:Nat}{ts:Xw}{P:T->Prop}(h:∀Q:Fl->aE->ab->Prop,(∀r a C t,dr 3 C r=some t->P t->Q (.rt r) a C)->wpS B (ja m ts) [] Q):∃t,kR B m ts=some t/\P t:=
 pB (h _ λ_ _ _ _ e p=>⟨_,e,p⟩)
theorem EJ{d:FB}{F:FS}{a:aE}{C:ab}(h:ia d a C λx f=>x=false/\f=C)(g:wpS G a C Q):wpS (gV d F G) a C Q:=by
 obtain⟨x,f,e,rfl,rfl⟩:=h;exact i9 ⟨_,_,e,g⟩
theorem ej{a:FE}{i:Nat}{t:T}{d:aE}{C:ab}(h:aD a d C λx f=>x=t/\f=C)(g:wpS G (d.set i (some t)) C Q):wpS (gF (gW a (gN i)) G) d C Q:=by
 obtain⟨x,f,e,rfl,rfl⟩:=h;exact fQ (f8 ⟨_,_,e,fT (fV g)⟩)
theorem BQ{x y:Int}:∃t∈[x,y,z],dc [T.int x,T.int y,T.int z] (i%3)=some (.int t):=by
 have a:=j0 (x:=i) (m:=3) (by decide);obtain⟨t,d,f⟩:=Km (xs:=[x,y,z]) a.1 a.2;exact⟨t,d,by rw[show[T.int x,T.int y,T.int z]=[x,y,z].map T.int from rfl,GM,f];rfl⟩
theorem ry{x y:Int}:∃t∈[x,y,z,u],dc [T.int x,T.int y,T.int z,T.int u] (i%4)=some (.int t):=by
 have a:=j0 (x:=i) (m:=4) (by decide);obtain⟨t,d,f⟩:=Km (xs:=[x,y,z,u]) a.1 a.2;exact⟨t,d,by rw[show[T.int x,T.int y,T.int z,T.int u]=[x,y,z,u].map T.int from rfl,GM,f];rfl⟩
theorem Hq{j k:Int}{a:aE}{C:ab}{F:FS}(h:a[3]?=some (some (.int k)))(f:wpS F a C Q)(d:Q .nx a C):wpS (gV (kB (qk Y3 (fC (.int j)))) F k7) a C Q:=
 Gj.mpr (GJ.mpr (GH.mpr (yB.mpr ⟨_,h,Fp.mpr (GK.mpr ⟨_,rfl,by
  generalize decide (k=j)=q;cases q
  .exact(aWa bQ).mpr (iB d)
  .exact(aWc rfl).mpr f⟩)⟩)))
theorem EC{x m:Int}(h:0<m)(a:m<2^100):Nb (x%m):=⟨(j0 h).1,cX (j0 h).2 (cX a (by decide))⟩
theorem ED{x r:Int}(a:Sm x)(d:0<=u)(f:u<=2^100)(g:0<=r/\r<100):Nb (x*u+r):=by
 have h:0<=x*u:=X3 a.1 d;have j:x*u<=2147483587*2^100:=aUl (bU a.2) f d (by decide);clear a d f;exact⟨eA h g.1,by lia⟩
theorem M0{x:Int}{q:Bool}(d:Sm x)(f:0<=u)(a:u<=2^100):Nb (x*u*(if q then 1 else 0)):=by
 cases q
 .exact⟨by simp,by simp⟩
 .have:=ED d f a (r:=0) (by decide);simpa using this
theorem MX{l m p:Int}(f:Nb l)(d:Nb m)(a:Nb p):uH (l+m,l,p):=⟨f.1,by show l<=l+m;have:=d.1;exact b9 this,a.1,by show l+m<2^240;have:=f.2;have:=d.2;lia,cX a.2 (by decide)⟩
theorem MZ:Nb (b%3*(b/3%50)):=by
 have d:=j0 (x:=b) (m:=3) (by decide);have a:=j0 (x:=b/3) (m:=50) (by decide);exact⟨X3 d.1 a.1,bC (aUl (bU d.2) (bU a.2) a.1 (by decide)) (by decide)⟩
theorem MY:∃z:Int,dc [T.int 0,T.int 3,T.int 3,T.int (1+c%40)] (c/64%4)=some (.int z)/\Nb z:=by
 obtain⟨t,a,e⟩:=ry (x:=0) (y:=3) (z:=3) (u:=1+c%40) (i:=c/64);refine⟨t,e,?_⟩;have h:=j0 (x:=c) (m:=40) (by decide);have:0<=t/\t<=41:=by
  simp only[cC,cP,or_false]at a;rcases a with rfl|rfl|rfl|rfl
  .decide
  .decide
  .decide
  .lia
 exact⟨this.1,bC this.2 (by decide)⟩
theorem Vm{a k:Int}(r:Sm a)(o:Sm b)(n:Sm c)(j:0<=u)(h:u<=2^100):∃t,vV [.int a,.int b,.int c,.int k,.int u]=some t/\∃w,t=w3 w/\uH w:=by
 refine rR λQ q=>?_;unfold Kq;refine ej ⟨_,_,rfl,rfl,rfl⟩ (ej ⟨_,_,rfl,rfl,rfl⟩ (ej ⟨_,_,rfl,rfl,rfl⟩ ?_));have st:∀F:FS,(∀s:Fl->aE->ab->Prop,∀l m p:Int,Nb l->Nb m->Nb p->(∀l m p:Int,Nb l->Nb m->Nb p->s .nx [some (.int a),some (.int b),some (.int c),some (.int k),some (.int u),some (.int l),some (.int m),some (.int p)] [])->wpS F [some (.int a),some (.int b),some (.int c),some (.int k),some (.int u),some (.int l),some (.int m),some (.int p)] [] s)->∀{l m p:Int}{G:FS},Nb l->Nb m->Nb p->(∀l m p:Int,Nb l->Nb m->Nb p->wpS G [some (.int a),some (.int b),some (.int c),some (.int k),some (.int u),some (.int l),some (.int m),some (.int p)] [] Q)->wpS (gF F G) [some (.int a),some (.int b),some (.int c),some (.int k),some (.int u),some (.int l),some (.int m),some (.int p)] [] Q:=λF e l m p G g f d y=>fQ (e _ l m p g f d λl m p g f d=>fV (y l m p g f d));refine st _ (λQ l m p g f d q=>Hq rfl (ej (fL (fL ⟨_,_,rfl,⟨_,_,rfl,gE ⟨jV (r.bt.mono (by decide)),⟨_,_,rfl,gC ⟨rfl,rfl⟩⟩⟩⟩⟩)) (ej (fL (fL ⟨_,_,rfl,⟨_,_,rfl,gE ⟨jV (o.bt.mono (by decide)),⟨_,_,rfl,gE ⟨?_,rfl,rfl⟩⟩⟩⟩⟩)) (f8 (fL (fL ⟨_,_,rfl,⟨_,_,rfl,gE ⟨jV (n.bt.mono (by decide)),⟨_,_,rfl,gC (fT (q _ _ _ (ED r j h ?_) (M0 o j h) (ED n j h ?_)))⟩⟩⟩⟩))))) (q l m p g f d)) (EC (by decide) (by decide)) (EC (by decide) (by decide)) (EC (by decide) (by decide)) λl m p g f d=>?_
 .split<;>walk_at "b"
 .have:=j0 (x:=b) (m:=97) (by decide);exact⟨this.1,cX this.2 (by decide)⟩
 .have:=j0 (x:=a) (m:=89) (by decide);exact⟨this.1,cX this.2 (by decide)⟩
 obtain⟨z,A,v⟩:=MY (c:=c);refine st _ ?_ g f d λl m p g f d=>?_
 .exact λQ l m p g f d q=>Hq rfl (ej (t:=.int (b%3*(b/3%50))) (fL ⟨_,_,rfl,⟨_,_,rfl,gE ⟨jV ((Bt.mod (k:=10) (by decide) (by decide)).mono (by decide)),rfl,rfl⟩⟩⟩) (f8 (fL ⟨_,_,rfl,⟨_,_,rfl,gL ⟨_,rfl,_,A,fT (q _ _ _ g MZ v)⟩⟩⟩))) (q l m p g f d)
 refine st _ (λQ l m p g f d q=>i9 (x6.mpr (gQ (fL (fO rfl (fS (kS ⟨_,rfl,?_⟩))))))) g f d λl m p g f d=>?_
 .generalize decide (k=3)=x;cases x
  .exact(aWa bQ).mpr ((aWa bQ).mpr (iB (q l m p g f d)))
  .refine(aWc rfl).mpr (gQ (fL ⟨_,_,rfl,fS (kS ⟨_,rfl,?_⟩)⟩));generalize decide (a%3=0)=x;cases x
   .exact(aWa bQ).mpr (iB (q l m p g f d))
   .exact(aWc rfl).mpr (f8 (fS (fT (q 0 m p ⟨by decide,by decide⟩ f d))))
 exact gG ⟨_,_,rfl,q _ _ _ _ (j5 (by walk_at "c")) ⟨(l+m,l,p),rfl,MX g f d⟩⟩
def CW(M:Nat)(t:T):Prop:=∃(a:XA)(d:XB),t=.tup [.lst (a.map w3),.lst (d.map pT)]/\a.length<=M/\d.length<=20/\(∀w∈a,uH w)/\∃rs,Rk a.length rs/\∀p∈d,Al rs p
abbrev ES(k:Int):FE:=aH (hZ (iR (fN (fC (.int k)) (fN Y3 f7)))) (uF (fN (pk Y3 (fI 1)) f7))
theorem rB{x y:T}:[x,y].length<=lim:=by show 2<=lim;decide
theorem M8{x y z:T}:[x,y,z].length<=lim:=by show 3<=lim;decide
section
variable {k b d z i:Int}{f:aE}{C:ab}{Q:T->ab->Prop}{QS:Fl->aE->ab->Prop}{G:FS}{n c v:Nat}{ns:XE}{a:FE}
theorem Hf(h:f[3]?=some (some (.int b)))(e:dc [T.int k,T.int b] (if decide (1<b)=true then 1 else 0)=some (.int d))(q:Q (.int d) C):aD (ES k) f C Q:=
 fL (gA (gK (fF (fS (fF (fO h (fM ⟨rB,f9 (fF (fL (fO h (fS (gC (fM (LU.mpr (gL ⟨_,rfl,_,e,q⟩))))))))⟩)))))))
theorem Fb(j:f[6]?=some (some (.int z)))(h:f[3]?=some (some (.int b)))(e:dc [T.int k,T.int b] (if decide (1<b)=true then 1 else 0)=some (.int d))(g:0<d)(q:Q (.int (z%d)) C):aD (lJ Y6 (ES k)) f C Q:=
 fL (fO j (Hf h e (gE ⟨m9 g,q⟩)))
theorem Bu(j:f[6]?=some (some (.int z)))(h:f[3]?=some (some (.int b)))(e:dc [T.int k,T.int b] (if decide (1<b)=true then 1 else 0)=some (.int d))(g:0<d/\d<2^250)(q:Q (.int (z/d)) C):aD (Bj Y6 (ES k)) f C Q:=
 fL (fO j (Hf h e (gE ⟨m9 g,q⟩)))
theorem yn(j:f[v]?=some (some (.lst (ns.map T.int))))(h:aD a f C λt l=>t=.int i/\l=C)(g:0<=i)(q:Q (.int (m7 ns i)) C):aD (g8 2 iW (fN (kI v) (fN a f7))) f C Q:=by
 obtain⟨_,_,e,rfl,rfl⟩:=h;exact f9 (fF (fO j (fF ⟨_,_,e,fM ((Ly g).mpr q)⟩)))
theorem Dj(h:wpS G (f.set n (some (.cell C.length))) (C++[(.l,[])]) QS):wpS (gF (gW (jL (iR f7)) (gN n)) G) f C QS:=
 fQ (f8 (iK (gK (fM ⟨by decide,fT (fV h)⟩))))
end
theorem EB{i:Nat}:(0:Int)<=0+(i:Int):=b9 (bN i)
theorem EA{i:Nat}:(0:Int)<0+(i:Int)+1:=dX (b9 (bN i))
theorem MW{i:Nat}:(0:Int)<=3+(0+(i:Int)):=bG (b9 (bN i)) (cO (by decide))
theorem M7{x y z u:T}:[x,y,z,u].length<=lim:=by show 4<=lim;decide
theorem Jq{a:XA}{d:XB}:CF (T.tup [.lst (a.map w3),.lst (d.map pT)])=true:=by rw[lW,gH,gH,iQ,iH,iH,qX,oO];rfl
theorem P8{m:Nat}{r:Int}(h:m<=8)(a:0<=r/\r<4): -(2^62)<=(24:Int)/\(24:Int)<2^62/\ -(2^62)<=24+min 14 ((m:Int)+r)/\24+min 14 ((m:Int)+r)<2^62:=by lia
theorem PZ(z:Int):(24+min 14 z - 24).toNat<=20:=by lia
theorem Ph{i:Nat}{z:Int}(h:i<(24+min 14 z - 24).toNat):i<14:=by lia
theorem uu{p:Prop}[Decidable p]{y k:Int}(f:0<=k)(d:k<1+y):∃a:Int,(if p then 1+y - 1 - k else k)=a/\0<=a/\a<1+y:=⟨_,rfl,by split<;>lia⟩
theorem EM{i:Nat}{x:Int}(h:i<14)(a:0<=x/\x<(i:Int)+1): -(2^63)<=x/\x<2^63:=by lia
theorem B6{i:Nat}{x:Int}(h:i<5)(a:0<=x/\x<0+(i:Int)+1): -(2^63)<=x/\x<2^63:=by lia
theorem sr{m:Nat}(h:m<=5): -(2^62)<=(m:Int)/\(m:Int)<2^62:=by lia
theorem El{x y z d e:Int}(h:0<=x/\x<d)(g:0<=y/\y<e)(a:0<=z/\z<d)(f:d<2^200)(j:e<2^200):uH (x+y,x,z):=
 ⟨h.1,by show x<=x+y;exact b9 g.1,a.1,by show x+y<2^240;lia,by show z<2^240;exact cG (cX a.2 f) (by decide)⟩
theorem nE{d:Type}{xs:List d}{y:d}{p:d->Prop}(h:∀x∈xs,p x)(f:p y):∀x∈xs++[y],p x:=λx a=>by
 rcases fZ a with a|a
 .exact h x a
 .rw[gO a];exact f
theorem uK{a d:Type}{xs:List a}{f:a->d}{k:Nat}(h:xs.length<=k)(g:k<lim):(xs.map f).length<lim:=by rw[aP];exact bO h g
theorem UA{ns:XE}{m M:Nat}{u:Int}(lr:0<u)(hu:u<=10^20)(r:m<=5)(R:m<=M):∃t,qP [.lst (ns.map T.int),.int m,.int u]=some t/\CW M t:=by
 obtain⟨b,Z,s,N⟩:∃b:Int,(if m7 ns 1/576%2=0 then(1:Int)else u*10^X5 9)=b/\0<b/\b<2^200:=by
  refine⟨_,rfl,?_⟩;clear r R;split
  .decide
  .rw[show(10:Int)^X5 9=1000000000 from rfl];lia
 have pick:∀k:Int,0<k->k<10->∃d:Int,dc [T.int k,T.int b] (if decide (1<b)=true then 1 else 0)=some (.int d)/\0<d/\d<2^200:=by
  intro k h1 h2;split
  .exact⟨b,rfl,s,N⟩
  .exact⟨k,rfl,h1,cX h2 (by decide)⟩
 obtain⟨d5,I,B,A⟩:=pick 5 (by decide) (by decide);obtain⟨d6,S,H,v⟩:=pick 6 (by decide) (by decide);have Y:d5<2^250:=cX A (by decide);have X:d6<2^250:=cX v (by decide);clear pick s N;refine rR λQ q=>?_;unfold MH;refine ej (t:=.int b) (fL (gA (gK (fF (fS (fF (fL (fO rfl ⟨.int (10^X5 9),_,rfl,(gE ⟨lB (Bt.of_lt (by decide) (by decide)),fM ⟨rB,fL (fL (yn rfl ⟨_,_,rfl,rfl,rfl⟩ (by decide) (fS (gE ⟨by decide,fS (gE ⟨by decide,gL ⟨_,rfl,_,Mq,congrArg T.int Z,rfl⟩⟩)⟩))))⟩⟩)⟩)))))))) ?_;refine Dj (fQ (lG (fO rfl ⟨_,rfl,sr r,qI (λi g C=>∃a1 a2 d e:Xx,g=[some (.lst (ns.map T.int)),some (.int m),some (.int u),some (.int b),some (.cell 0),a1,a2,d,e,none,none,none]/\∃h:XA,C=[(.l,h.map w3)]/\h.length=i/\∀w∈h,uH w) ⟨_,_,_,_,rfl,[],rfl,rfl,by simp⟩ ?_ ?_⟩)))
 .rintro i g C P ⟨_,_,_,_,rfl,h,rfl,D,J⟩ Q q;unfold vD;refine fT (ej (yn rfl ⟨_,_,rfl,rfl,rfl⟩ MW ⟨rfl,rfl⟩) ?_);generalize m7 ns _=z;refine ej (Fb rfl rfl I B ⟨rfl,rfl⟩) (ej (Bu rfl rfl I ⟨B,Y⟩ ⟨rfl,rfl⟩) (ej (Fb rfl rfl S H ⟨rfl,rfl⟩) (ej (Bu rfl rfl S ⟨H,X⟩ ⟨rfl,rfl⟩) (i6 (fO rfl (fF (gA (gK (fF (fL (fO rfl (fO rfl (gC (fF (fO rfl (fF (Fb rfl rfl I B (fM ⟨M8,?_⟩))))))))))))))))));exact fM ⟨0,rfl,rfl,_,rfl,jY ⟨uK (k:=5) (by lia) (by decide),q _ _ trivial ⟨_,_,_,_,rfl,_,congrArg (λx=>[(Kd.l,x)]) S5,by rw[aY,D];rfl,nE J (El (j0 B) (j0 H) (j0 B) A v)⟩⟩⟩
 rintro g C ⟨_,_,_,_,rfl,h,rfl,D,J⟩;refine fV (ej (yn rfl ⟨_,_,rfl,rfl,rfl⟩ (by decide) ⟨rfl,rfl⟩) (Dj (fQ (lG (fO rfl ⟨_,rfl,sr r,qI (λi g C=>∃(a F d:Xx)(z:Int),g=[some (.lst (ns.map T.int)),some (.int m),some (.int u),some (.int b),some (.cell 0),a,some (.int z),F,d,some (.cell 1),none,none]/\∃rs:XE,C=[(.l,h.map w3),(.l,rs.map T.int)]/\Rk i rs) ⟨_,_,_,_,rfl,[],rfl,⟨rfl,.nil,by simp⟩⟩ ?_ ?_⟩)))))
 .rintro i g C P ⟨_,_,_,z,rfl,rs,rfl,o⟩ Q q;have E:=B6 (aM P (by simpa using r)) (j0 (x:=z) (EA (i:=i)));unfold vO;refine fT (fQ (i6 (fO rfl (fF (fL (fO rfl ⟨_,_,rfl,gE ⟨m9 EA,fF (fO rfl (fM ⟨1,rfl,rfl,_,rfl,yE.mpr ⟨⟨uK (k:=5) (by rw[o.len];lia) (by decide),E⟩,fV (f8 (fL (fO rfl ⟨_,_,rfl,gE ⟨m9 ⟨EA,?_⟩,fT ?_⟩⟩)))⟩⟩))⟩⟩))))))
  .show(0:Int)+i+1<2^250;lia
  .exact q _ _ trivial ⟨_,_,_,_,rfl,b5 rs _ (i:Int),by show[(Kd.l,h.map w3),(Kd.l,b5 (rs.map T.int) _ (T.int (0+(i:Int))))]=_;rw[cW,tJ],o.ins⟩
 rintro g C ⟨_,_,_,z,rfl,rs,rfl,o⟩;refine fV (Dj (fQ (lG (fO rfl ⟨_,rfl,sr r,qI (λi g C=>∃(a F d e:Xx)(z:Int),g=[some (.lst (ns.map T.int)),some (.int m),some (.int u),some (.int b),some (.cell 0),a,some (.int z),F,d,some (.cell 1),some (.cell 2),e]/\∃f:XB,C=[(.l,h.map w3),(.l,rs.map T.int),(.l,f.map pT)]/\f.length<=i*4/\∀p∈f,Al rs p) ⟨_,_,_,_,_,rfl,[],rfl,by simp,by simp⟩ ?_ ?_⟩))))
 .rintro k g C O ⟨_,_,_,_,z,rfl,f,rfl,l,n⟩ Q q;have O:k<m:=by simpa using O
  have ag:rs.length=m:=by simpa using o.len
  unfold vX;refine fT (iS (gA (mS (fO rfl (mT (j8 (fO rfl ⟨_,rfl,_,rfl,_,rfl,?_⟩)))))));rw[qJ,Kj EB,show(0+(k:Int)).toNat=k by lia];refine pZ (λj g C=>∃(F d e:Xx)(z:Int),g=[some (.lst (ns.map T.int)),some (.int m),some (.int u),some (.int b),some (.cell 0),some (.int (0+(k:Int))),some (.int z),F,d,some (.cell 1),some (.cell 2),e]/\∃f:XB,C=[(.l,h.map w3),(.l,rs.map T.int),(.l,f.map pT)]/\f.length<=k*4+j/\∀p∈f,Al rs p) ⟨_,_,_,_,rfl,f,rfl,l,n⟩ ?_ ?_
  .rintro j x g C hj ⟨_,_,_,z,rfl,f,rfl,l,n⟩ Q q;obtain⟨L,K⟩:=fK hj;have U:j<k:=by rw[eE]at L;exact aM L (d0 k rs.length)
   rw[List.getElem_take]at K;have e1:=w5 (ns:=rs) (i:=0+(k:Int)) EB (by lia);unfold uS;refine fT (fQ (i9 (gQ (fL ⟨_,_,rfl,fS (kS ⟨_,rfl,?_⟩)⟩))));generalize decide (z%2=1)=b2;cases b2
   .exact(aWa bQ).mpr (iB (fV (f8 ⟨_,_,rfl,fT (q _ _ trivial ⟨_,_,_,_,rfl,f,rfl,cY l,n⟩)⟩)))
   .refine(aWc rfl).mpr (i6 (fO rfl (fF (gA (gK (fF (fO rfl (fF (fL (fO rfl (fO rfl (gL ⟨_,rfl,_,e1,fM ⟨rB,fM ⟨2,rfl,rfl,_,rfl,jY ⟨uK (k:=30) (by lia) (by decide),fV (f8 ⟨_,_,rfl,fT (q _ _ trivial ⟨_,_,_,_,rfl,_,?_,?_,nE n (y:=(x,rs[(0+(k:Int)).toNat])) ?_⟩)⟩)⟩⟩⟩⟩))))))))))))
    .exact congrArg (λy=>[(Kd.l,h.map w3),(Kd.l,rs.map T.int),(Kd.l,y)]) So
    .rw[aY];exact eB l
    .exact⟨j,k,U,by rw[<-K];exact aO (by lia),by rw[aO (by lia)];congr 2;lia⟩
  .rintro g C ⟨_,_,_,z,rfl,f,rfl,l,n⟩;exact q _ _ trivial ⟨_,_,_,_,_,rfl,f,rfl,by rw[eE]at l;lia,n⟩
 rintro g C ⟨_,_,_,_,z,rfl,f,rfl,l,n⟩;simp only[cJ]at l o D;exact gG (lS (fF (fO rfl (fF (fO rfl (fM ⟨rB,q _ _ _ _ (IU (us:=[.lst (h.map w3),.lst (f.map pT)]) (lH (tI rfl qX) (lH (Lw rfl) rfl))) ⟨h,f,rfl,bB (bZ D) R,by lia,J,rs,by rw[D];exact o,n⟩⟩))))))
theorem BG{m:Nat}(h:m<=8):(m:Int)<400000/\ -(2^62)<=(m:Int):=by lia
theorem Om{M:Nat}{lq z f a:Int}(q:4<=M)(g:0<=lq/\lq<min 6 ((M:Int)+1))(d:z∈[(0:Int),0,1,2])(j:a∈[lq,(M:Int) - z,lq,min (M:Int) (3+f%3)]):∃m:Nat,a=m/\m<=M:=by
 have k:lq<=M:=by have:=cG g.2 (Zs _ _);exact YU this
 have l:=g.1;have o:=(j0 (x:=f) (m:=3) (by decide)).1;have n:0<=z/\z<=2:=by
  simp only[cC,cP,or_false]at d;rcases d with rfl|rfl|rfl|rfl<;>decide
 clear g d;have p:0<=a/\a<=M:=by
  simp only[cC,cP,or_false]at j;rcases j with h|h|h|h
  .rw[h];exact⟨l,k⟩
  .rw[h];exact⟨by lia,Yn (↑M) n.1⟩
  .rw[h];exact⟨l,k⟩
  .rw[h];exact⟨nK ⟨bN _,eA (by decide) o⟩,Zt _ _⟩
 clear j n o l k;exact⟨a.toNat,eS (bP p.1),by lia⟩
section
variable {k b d z i x:Int}{f:aE}{C:ab}{Q:T->ab->Prop}{g:Xw}{a:Nat}{f1 f2:FE}
theorem Cr{m:Int}(h:f[a]?=some (some (.int x)))(l:0<k/\k<1073741824)(j:0<m)(q:Q (.int (x/k%m)) C):aD (lJ (tU (kI a) (fC (.int k))) (fC (.int m))) f C Q:=
 fL (fL (fO h (fS (gE ⟨m9 l,fS (gE ⟨m9 j,q⟩)⟩))))
theorem Bi(l:aD f1 f C λt h=>t=.int x/\h=C)(j:aD f2 f C λt h=>t=.int d/\h=C)(q:Q (.int (min x d)) C):aD (sM (fN f1 (fN f2 f7))) f C Q:=by
 obtain⟨_,_,n,rfl,rfl⟩:=l;obtain⟨_,_,m,rfl,rfl⟩:=j;exact f9 (fF ⟨_,_,n,fF ⟨_,_,m,fM (KY.mpr q)⟩⟩)
theorem A4{j:Nat}{t:T}(h:f[a]?=some (some (.lst g)))(l:f[j]?=some (some (.int i)))(e:dc g i=some t)(q:Q t C):aD (aH (kI a) (kI j)) f C Q:=
 fL (fO h (fO l (gL ⟨_,rfl,_,e,q⟩)))
end
theorem Q4{ns:XE}(hl:ns.length<=63){M:Nat}(h4:4<=M)(h8:M<=8){u:Int}(E:0<u)(hu:u<=10^20):∃t,xE [.lst (ns.map T.int),.int M,.int u]=some t/\CW M t:=by
 obtain⟨_,e1,xs,rfl,kn,gd⟩:=WK hl;have n:∀{C Q},bf (kU 1 pF [.lst (ns.map T.int)] C) Q↔Q (.lst (xs.map T.int)) C:=gP e1 rfl (by walk_at "c");have g:∀i:Int,0<=i->i<40->∃x,dc (xs.map T.int) i=some (.int x)/\Sm x:=λi K h2=>⟨_,w5 K (by rw[kn];exact h2),gd _ (e9 _)⟩;clear hl kn gd e1;refine rR λQ q=>?_;unfold HN;refine ej (f9 (fF (fO rfl (fM (n.mpr ⟨rfl,rfl⟩))))) (ej (yn rfl ⟨_,_,rfl,rfl,rfl⟩ (by decide) ⟨rfl,rfl⟩) ?_);generalize m7 ns 0=first
 have h6:0<min 6 ((M:Int)+1):=aUF.mpr ⟨by decide,dX (bN M)⟩;have r:=j0 (x:=first/4) h6;refine ej (fL (fL (fO rfl (fS (gE ⟨by decide,Bi ⟨_,_,rfl,rfl,rfl⟩ ⟨_,_,rfl,rfl,rfl⟩ (gE ⟨m9 h6,rfl,rfl⟩)⟩))))) ?_;generalize first/4%min 6 ((M:Int)+1)=lq at r
 obtain⟨z,hz,F⟩:=ry (x:=0) (y:=0) (z:=1) (u:=2) (i:=first/4);obtain⟨mi,I,em⟩:=ry (x:=lq) (y:=(M:Int) - z) (z:=lq) (u:=min (M:Int) (3+first/4%3)) (i:=first);obtain⟨m,rfl,hm⟩:=Om h4 r hz I;clear hz I r h6;have O:m<=8:=bB hm h8;refine ej (t:=.int m) (fL (gA (gK (fF (fO rfl (fF (fL (fO rfl (fL ⟨_,_,rfl,Cr rfl (by decide) (by decide) (gL ⟨_,rfl,_,F,gC (fF (fO rfl (fF (Bi ⟨_,_,rfl,rfl,rfl⟩ ⟨_,_,rfl,rfl,rfl⟩ (fM ⟨M7,fL (fO rfl (fS (gE ⟨by decide,gL ⟨_,rfl,_,em,rfl,rfl⟩⟩)))⟩)))))⟩)⟩))))))))) (ej (yn rfl ⟨_,_,rfl,rfl,rfl⟩ (by decide) ⟨rfl,rfl⟩) ?_);generalize m7 ns 1=c;clear F em;refine fQ (i9 (gQ (fL (Cr rfl (by decide) (by decide) (fS (kS ⟨_,rfl,?_⟩))))));generalize decide (c/288%2=1)=bb;cases bb
 rotate_left
 .obtain⟨k5,N,hk5⟩:∃k:Int,dc [T.int 5,T.int 3] (if decide ((M:Int)<5)=true then 1 else 0)=some (.int k)/\0<=k/\k<=5:=by
   split
   .exact⟨3,rfl,by decide⟩
   .exact⟨5,rfl,by decide⟩
  obtain⟨j,hj,hj5,va⟩:∃j:Nat,min (m:Int) k5=j/\j<=5/\j<=M:=by
   clear E hu h4 h8 O n g N;exact⟨(min (m:Int) k5).toNat,by lia,by lia,by lia⟩
  obtain⟨t,et,ws,ps,rfl,ht⟩:=UA (ns:=ns) E hu hj5 va;rw[<-hj]at et;refine(aWc rfl).mpr (gG (f9 (fF (fO rfl (fF (Bi (d:=k5) ⟨_,_,rfl,rfl,rfl⟩ (fL ⟨_,_,rfl,⟨_,_,rfl,gL ⟨_,rfl,_,N,rfl,rfl⟩⟩⟩) (fF (fO rfl (fM ((gP (n:=3) et rfl (by walk_at "c")).mpr ?_))))))))));exact q _ _ _ _ (j5 Jq) ⟨ws,ps,rfl,ht⟩
 refine(aWa bQ).mpr (iB (fV ?_));have J:∀i:Nat,∃w:Int×Int×Int,i<m->(∃x y z:Int,dc (xs.map T.int) (0+(i:Int))=some (.int x)/\dc (xs.map T.int) (8+(0+(i:Int)))=some (.int y)/\dc (xs.map T.int) (16+(0+(i:Int)))=some (.int z)/\vV [.int x,.int y,.int z,.int (c%4),.int u]=some (w3 w))/\uH w:=by
  intro i;by_cases l:i<m
  .obtain⟨x,ex,Y⟩:=g (0+(i:Int)) EB (by clear n g;lia);obtain⟨y,ey,sy⟩:=g (8+(0+(i:Int))) (by lia) (by clear n g;lia);obtain⟨z,F,sz⟩:=g (16+(0+(i:Int))) (by lia) (by clear n g;lia);obtain⟨_,ew,w,rfl,P⟩:=Vm (k:=c%4) (u:=u) Y sy sz (bU E) (bG hu (by decide));exact⟨w,λ_=>⟨⟨x,y,z,ex,ey,F,ew⟩,P⟩⟩
  .exact⟨(0,0,0),λh=>absurd h l⟩
 obtain⟨f,hf⟩:=aUq J;obtain⟨X,L,_⟩:=g 39 (by decide) (by decide);obtain⟨_,en,rs,rfl,ei⟩:=Mi (c:=X) (m:=m) O;have ag:=ei.len;refine ej (t:=.lst (((bH m).map f).map w3)) (gA (qZ.mpr (fO rfl ⟨_,rfl,BG O,?_⟩))) ?_
 .rw[qE,cJ];refine iY (λi=>w3 (f i)) (λi l=>?_) ⟨by rw[cK];rfl,rfl⟩;obtain⟨⟨x,y,z,ex,ey,F,ew⟩,P⟩:=hf i (iC l);exact fT (f9 (fF (A4 rfl rfl ex (fF (fL (fO rfl ⟨_,_,rfl,gL ⟨_,rfl,_,ey,fF (fL (fO rfl ⟨_,_,rfl,gL ⟨_,rfl,_,F,fF ⟨_,_,rfl,fF (fO rfl (fM ((gP (n:=5) ew rfl (by walk_at "c")).mpr ⟨rfl,rfl⟩)))⟩⟩⟩))⟩⟩))))))
 have R:∀w∈(bH m).map f,uH w:=λw P=>by
  obtain⟨i,l,rfl⟩:=fY P;exact(hf i (iC l)).2
 have ed:((bH m).map f).length=m:=by rw[aP,Yi]
 generalize (bH m).map f=ws at R ed;clear hf J;have q4:=j0 (x:=c/4) (m:=4) (by decide);refine ej (f9 (fF (fL (fO rfl (fS (gL ⟨_,rfl,_,L,fF (fO rfl (fM ((gP (n:=2) en rfl (by walk_at "c")).mpr ⟨rfl,rfl⟩)))⟩)))))) (Dj (fQ (wO.mpr ?_)));refine⟨_,_,rfl,fL (fS (Bi (d:=(m:Int)+c/4%4) ⟨_,_,rfl,rfl,rfl⟩ ⟨_,_,rfl,rfl,rfl⟩ (gC ⟨_,_,rfl,rfl,P8 O q4,qI (λi U C=>∃(a b d e:Xx),U=[some (.lst (ns.map T.int)),some (.int M),some (.int u),some (.lst (xs.map T.int)),some (.int first),some (.int lq),some (.int m),some (.int c),some (.lst (ws.map w3)),some (.lst (rs.map T.int)),some (.cell 0),a,b,d,e]/\∃ps:XB,C=[(.l,ps.map pT)]/\ps.length<=i/\∀p∈ps,Al rs p) ⟨_,_,_,_,rfl,[],rfl,by simp,by simp⟩ ?_ ?_⟩)))⟩
 .rintro i U C l ⟨_,_,_,_,rfl,ps,rfl,D,H⟩ Q q;have Z:i<14:=Ph l;obtain⟨x,ex,Y⟩:=g (24+(i:Int)) (bG (bN i) (cO (by decide))) (by clear g n H R;lia);clear g n R Y l;unfold JH;refine fT (i9 (gQ ⟨_,_,rfl,_,rfl,?_⟩));by_cases K:(1:Int)<m
  rotate_left
  .rw[decide_eq_false K];exact(aWa bQ).mpr (iB (q _ _ trivial ⟨_,_,_,_,rfl,ps,rfl,cY D,H⟩))
  rw[m9 K];have A:0<(m:Int) - 1:=d7 K;have b1:=j0 (x:=x) A;refine(aWc rfl).mpr (ej (fL (fS (fL (A4 rfl rfl ex ⟨_,_,rfl,gE ⟨m9 A,gC ⟨rfl,rfl⟩⟩⟩)))) ?_);generalize x%((m:Int) - 1)=y at b1;obtain⟨e3,B,yg⟩:=BQ (x:=1) (y:=2) (z:=8) (i:=c/16);have v:0<min (1+y) e3:=aUF.mpr ⟨dX b1.1 |> λh=>by rw[Yd];exact h,by
   simp only[cC,cP,or_false]at B;rcases B with rfl|rfl|rfl<;>decide⟩
  have S:=j0 (x:=x/16) v;refine ej (fL (fL (A4 rfl rfl ex (fS (gE ⟨by decide,Bi (d:=e3) ⟨_,_,rfl,rfl,rfl⟩ (fL ⟨_,_,rfl,Cr rfl (by decide) (by decide) (gL ⟨_,rfl,_,yg,rfl,rfl⟩)⟩) (gE ⟨m9 v,rfl,rfl⟩)⟩))))) ?_;generalize x/16%min (1+y) e3=bk at S;have ma:bk<1+y:=cG S.2 (Zt _ _);have md:=S.1;clear S v B yg A;obtain⟨o,nv,h0,aw⟩:∃o:Int,(if c/48%2=0 then 1+y - 1 - bk else bk)=o/\0<=o/\o<1+y:=uu md ma;refine ej (t:=.int o) (fL ⟨_,_,rfl,Cr rfl (by decide) (by decide) (gL ⟨_,rfl,_,Mq,congrArg T.int nv,rfl⟩)⟩) ?_;clear nv md ma;have hy:1+y<rs.length:=by rw[ag];clear H D Z h0 aw;lia
  have il:0<(ps.length:Int)+1:=dX (bN _);have b3:=j0 (x:=x/256) il;have hq:=EM (bO D Z) b3;refine i6 (fO rfl (fF (fL (fL (A4 rfl rfl ex (fS (gE ⟨by decide,fL (f9 (fF (fO rfl (fM (l7 ⟨_,rfl,fS (gC (gE ⟨?_,?_⟩))⟩)))))⟩)))))))
  .rw[aP];exact m9 il
  rw[aP];generalize x/256%((ps.length:Int)+1)=at9 at b3 hq;refine fF (gA (gK (fF (A4 rfl rfl (w5 (ns:=rs) h0 (cX aw hy)) (fF (A4 rfl rfl (w5 (ns:=rs) (bG h0 (bU aw)) hy) (fM ⟨rB,fM ⟨0,rfl,rfl,_,rfl,yE.mpr ⟨⟨uK (k:=14) (dY (bO D Z)) (by decide),hq⟩,q _ _ trivial ⟨_,_,_,_,rfl,b5 ps at9 (rs[o.toNat]'(by lia),rs[(1+y).toNat]'(by lia)),congrArg (λy=>[(Kd.l,y)]) (tJ (f:=pT) (y:=(_,_))),by rw[uI];exact eB D,λp s=>?_⟩⟩⟩⟩)))))));rcases fU (rX.mem_iff.mp s)with s|s
  .rw[s];exact⟨o.toNat,(1+y).toNat,by clear hy;lia,aO (by lia),aO (by lia)⟩
  .exact H p s
 .rintro U C ⟨_,_,_,_,rfl,ps,rfl,D,H⟩;have iu:(zF ps (some (c/96%3)) none).length<=20:=bB Th (bB D (PZ _));refine fV (gG (lS (fF (fO rfl (fF (gA (mS (fO rfl (j8 (Cr rfl (by decide) (by decide) ⟨_,rfl,mT ⟨_,rfl,fM ⟨rB,?_⟩⟩⟩))))))))));rw[qJ];exact q _ _ _ _ (j5 Jq) ⟨ws,_,rfl,by rw[ed];exact hm,iu,R,rs,by rw[ed];exact ei,λp s=>H p (K5 s)⟩
end aJ
namespace aJ
open PySem L2 TL NF
variable{ws:XA}{ps:XB}{nd:XD}{bonus:Int}
theorem Kg{a:Type}{g:a->Int}{d:a}{ws:List a}:∀{k:Nat},k<=ws.length->sm k (λi=>g ((ws[i]?).getD d))=((ws.take k).map g).sum
 |0,_=>by simp[sm]
 |k+1,b=>by
  have ih:=Kg (g:=g) (d:=d) (ws:=ws) (k:=k) (cZ b);show sm k _+g ((ws[k]?).getD d)=_;rw[ih,Ys,aO (fD b),d9,bR,YM];simp
theorem SH{a:Type}{g:a->Int}{d:a}{ws:List a}:sm ws.length (λi=>g ((ws[i]?).getD d))=(ws.map g).sum:=by rw[Kg (bD _),dE]
theorem yV{n:Nat}{x:Int}:sm n (λ_=>x)=n*x:=by
 induction n with
 |zero=>simp[sm]
 |succ n ih=>show sm n _+x=_;rw[ih,aT3,Ye,XY]
theorem nQ{P:Int×Int×Int->Prop}(h:∀w∈ws,P w){i:Nat}(a:i<ws.length):P ((ws[i]?).getD (0,0,0)):=by
 rw[aO a];exact h _ (e9 a)
theorem Bb{m:Nat}(f:fw m ps)(h:Nd ps m nd){e:Nat×Nat}(g:e∈jJ 0 nd):((e.1:Int),(e.2:Int))∈ps/\e.1<m/\e.2<m:=by
 obtain⟨b,l,a,d,i,rfl⟩:=TV g;have c:=((h.2 b l d).2 a).mp i;have:=f _ c;refine⟨?_,by show a.toNat<m;have:=this.1;dsimp only at this;lia,by show 0+b<m;have:=(fK d).1;rw[h.1]at this;lia⟩;show((a.toNat:Int),((0+b:Nat):Int))∈ps;rw[XT,bP this.1.1];exact c
theorem DL{m:Nat}(b:fw m ps)(h:Nd ps m nd){p:Int×Int}(a:p∈ps):(p.1.toNat,p.2.toNat)∈jJ 0 nd:=by
 have:=b p a;have c:p.2.toNat<nd.length:=by rw[h.1];lia
 have e:=aO c;refine SA e (((h.2 _ _ e).2 p.1).mpr ?_);rw[bP this.2.1];exact a
theorem S7{m:Nat}{o:XE}(t:CS ps m o):∃r:XH,(∀i,i<m->0<=r i/\r i<m)/\∀a b:Nat,((a:Int),(b:Int))∈ps->b<m->r a<r b:=by
 refine⟨λi=>(o.idxOf (i:Int):Int),λi c=>⟨bN _,?_⟩,λa b g j=>?_⟩
 .have:=YY (t.all i c);rw[t.len]at this;show((o.idxOf (i:Int):Nat):Int)<m;exact iO this
 .have d:=YY (t.all b j);have h:o[o.idxOf (b:Int)]?=some (b:Int):=by
   rw[aO d,ZE]
  have k:=t.top _ _ h _ g;obtain⟨i,c⟩:=gB k;have f:=(fK c).1;rw[eE]at f;rw[List.getElem?_take,aWc (aM f (d0 (List.idxOf (↑b) o) o.length))]at c;obtain⟨n,l⟩:=fK c;have:o.idxOf (a:Int)=i:=by rw[<-l];exact t.nd.idxOf_getElem i n
  show((o.idxOf (a:Int):Nat):Int)<((o.idxOf (b:Int):Nat):Int);lia
structure gf(ws:XA)(ps:XB)(nd:XD):Prop where
 l8:ws.length<=8
 pl:ps.length<=1000
 gm:fw ws.length ps
 uy:p3 ps
 n3:Nd ps ws.length nd
 need:iU [.int ws.length,.lst (ps.map pT)]=some (.lst (nd.map iT))
 ok:∀w∈ws,qS w
theorem gf.ex(c:ws.length<=8)(b:ps.length<=1000)(a:fw ws.length ps)(g:p3 ps)(f:∀w∈ws,qS w):∃nd,gf ws ps nd:=by
 obtain⟨_,e,nd,rfl,d⟩:=wJ (bB c (by decide)) b a;exact⟨nd,c,b,a,g,d,e,f⟩
theorem gf.rank(G:gf ws ps nd):∃r:XH,(∀i,i<ws.length->0<=r i/\r i<ws.length)/\∀e∈jJ 0 nd,r e.1<r e.2:=by
 obtain⟨_,_,o,_,c,b⟩:=GV G.l8 G.pl G.gm G.uy;obtain⟨r,f,d⟩:=S7 (b.zh c);exact⟨r,f,λe a=>d _ _ (Bb G.gm G.n3 a).1 (Bb G.gm G.n3 a).2.2⟩
theorem gf.price:sm ws.length (gY ws).p=plenty ws bonus - bonus - 1:=by
 show sm ws.length (λi=>((ws[i]?).getD (0,0,0)).2.2)=_;rw[SH (g:=λw:Int×Int×Int=>w.2.2)];unfold plenty;lia
theorem gf.sP(G:gf ws ps nd):sm ws.length (gY ws).p<=8*2^252:=by
 have a:sm ws.length (gY ws).p<=sm ws.length λ_=>2^252:=xA λi b=>bU (nQ (P:=qS) G.ok b).2.2.2.2;rw[yV]at a;have c:(ws.length:Int)*2^252<=8*2^252:=dB (by have:=G.l8;exact bG (mL this) (by decide)) (by decide);exact bG a c
theorem gf.y0(G:gf ws ps nd)(a:0<=bonus):yo (gY ws) ws.length (jJ 0 nd) (plenty ws bonus):=by
 refine⟨G.l8,?_,λe f=>(Bb G.gm G.n3 f).2,G.rank,λi d=>(nQ G.ok d).1,?_,?_⟩
 .have:=K8 (nd:=nd) (z:=1000) (λl c=>?_) (s:=0)
  .rw[G.n3.1]at this;have h:ws.length*1000<=8*1000:=aTB _ G.l8;have g:=G.l8;show 4*ws.length+(jJ 0 nd).length<40000;lia
  .obtain⟨b,a⟩:=gB c;exact bB (G.n3.2 b l a).1 G.pl
 .rw[gf.price (bonus:=bonus)];lia
 .exact bC G.sP (by decide)
theorem gf.De(G:gf ws ps nd){bs:XE}(b:dg ps (ws.map (·.2.1)) bs):yp ws.length (jJ 0 nd) (lI 0 (bp bs (ws.map (·.2.1)))) (λi=>aC bs i) (gY ws).l:=by
 have c:∀i:Nat,i<ws.length->aC (ws.map (·.2.1)) i=(gY ws).l i:=λi a=>by
  rw[jX (by simpa using a)];show _=((ws[i]?).getD (0,0,0)).2.1;rw[aO a];simp
 refine⟨λi _=>b.pos _,λi a=>?_,λx d=>?_⟩
 .rw[<-c i a];exact yO ((o4 b.len).mpr ⟨i,by simpa using a,rfl⟩)
 .obtain⟨g,f,h⟩:=Bb G.gm G.n3 d;rw[<-c x.1 f];exact b.ge _ g
end aJ
namespace aJ
open PySem L2 TL NF
variable{ws:XA}{ps:XB}{nd:XD}{hs bs:XE}{e P:Int}{w:Wk}{b:XC}
theorem gf.Eo(G:gf ws ps nd)(a:dg ps hs bs)(d:hs.length=ws.length):yp ws.length (jJ 0 nd) (lI 0 (bp bs hs)) (λi=>aC bs i) (λi=>aC hs i):=by
 refine⟨λi _=>a.pos _,λi f=>?_,λx c=>?_⟩
 .exact yO ((o4 a.len).mpr ⟨i,by rw[d];exact f,rfl⟩)
 .exact a.ge _ (Bb G.gm G.n3 c).1
theorem gf.fst(G:gf ws ps nd)(n:dg ps hs bs)(m:hs.length=ws.length){B:XH}(s:0<=e)(x:∀i,i<ws.length->0<=B i)(hB:∀p∈ps,B p.1.toNat+aC hs p.1<=B p.2.toNat)(t:∀i:Nat,i<ws.length->B i+aC hs i<=e):lI 0 (bp bs hs)<=e:=by
 obtain⟨r,o,v⟩:=G.rank;have key:∀(k:Nat)(i:Nat),i<ws.length->r i<k->aC bs i<=B i:=λk=>by
  induction k with
  |zero=>intro i d q;have:=o i d;lia
  |succ k ih=>
   intro i d q;have:=x i d;rcases n.Hu i (by rw[m];exact d)with h| ⟨a,j,h⟩
   .exact bG (dI h) this
   .have g:=v _ (DL G.gm G.n3 j);have l:=(G.gm _ j).1;have f:=hB _ j;dsimp only at l g f;rw[cJ]at g f;have u:=ih a.toNat (by lia) (by lia);rw[bP l.1]at u;lia
 rcases sU (d:=0) (ns:=bp bs hs)with⟨_,h⟩|h
 .rw[h];exact s
 .obtain⟨w,c,e⟩:=(o4 n.len).mp h;rw[m]at c;have g:=key (r w+1).toNat w c (by have:=o w c;lia);have f:=t w c;exact bG (dI e) (bG (Zr g (aC hs ↑w)) f)
theorem gf.la(G:gf ws ps nd)(n:dg ps hs bs)(m:hs.length=ws.length){M:Int}(f:0<=M)(h:∀i:Nat,i<ws.length->0<=aC hs i/\aC hs i<=M):lI 0 (bp bs hs)<=8*M:=by
 obtain⟨r,k,o⟩:=G.rank;have q:=G.l8;refine G.fst n m (B:=λi=>r i*M) (by lia) (λi c=>X3 (k i c).1 f) (λp g=>?_) λi c=>?_
 .have j:=o _ (DL G.gm G.n3 g);have l:=(G.gm _ g).1;have d:=h p.1.toNat (by lia);rw[bP l.1]at d;have a:=dB (show r p.1.toNat+1<=r p.2.toNat from j) f;rw[Ye,XY]at a;exact bG (Ym d.2 (r p.1.toNat*M)) a
 .have j:=k i c;have d:=h i c;have a:=dB (show r i+1<=8 by lia) f;rw[Ye,XY]at a;exact bG (Ym d.2 (r i*M)) a
theorem uU{i:Nat}(a:i<ws.length):aC (ws.map jR) i=if(gY ws).p i=0 then(gY ws).l i else(gY ws).u i:=by
 rw[jX (by simpa using a)];show _=if((ws[i]?).getD (0,0,0)).2.2=0 then((ws[i]?).getD (0,0,0)).2.1 else((ws[i]?).getD (0,0,0)).1
 rw[aO a,Yj];rfl
theorem gf.free(G:gf ws ps nd)(r:dg ps (ws.map jR) bs){bonus:Int}(K:0<=bonus):
 lI 0 (bp bs (ws.map jR))<=8*2^252/\∃o,Good (gY ws) ws.length (jJ 0 nd) (plenty ws bonus) (λ_=>0) 0 o/\sm (2*ws.length+2) o<10^198/\o 1=lI 0 (bp bs (ws.map jR)):=by
 have T:=G.Eo r (by simp);have W:=G.y0 K;have R:=G.l8;have l:∀i,i<ws.length->qS ((ws[i]?).getD (0,0,0)):=λi a=>nQ (P:=qS) G.ok a;have q:∀i,i<ws.length->0<=(gY ws).l i/\(gY ws).l i<=(gY ws).u i/\(gY ws).u i<2^252/\0<=(gY ws).p i:=λi a=>⟨(l i a).1,(l i a).2.1,(l i a).2.2.2.1,(l i a).2.2.1⟩;have f:∀i:Nat,i<ws.length->0<=aC (ws.map jR) i/\aC (ws.map jR) i<=2^252/\(gY ws).l i<=aC (ws.map jR) i:=λi a=>by
  have:=q i a;rw[uU a];split<;>lia
 have s:=G.la r (by simp) (M:=2^252) (by decide) λi a=>⟨(f i a).1,(f i a).2.1⟩;have C:0<=lI 0 (bp bs (ws.map jR)):=(r.Dk λx D=>by
  obtain⟨w,F,rfl⟩:=fY D;have h:=G.ok w F;unfold jR;split
  .exact h.1
  .exact bG h.1 h.2.1).1
 refine⟨s,pf (lI 0 (bp bs (ws.map jR))) (λi=>aC bs i) (λi=>aC (ws.map jR) i),⟨λp=>?_,λk m=>?_,λk m=>⟨λJ=>?_,λz=>absurd z (Z2 _)⟩,rfl,λv H=>?_⟩,?_,rfl⟩
 .rw[dZ];exact lY λk _=>dZ _
 .refine⟨bK _,?_⟩;have n:0<=plenty ws bonus:=by
   have:=W.pP;have O:0<=sm ws.length (gY ws).p:=n5 λi a=>(q i a).2.2.2;exact bU (bC O this)
  cases pipe m with
  |src i a e t h d c=>rw[c];exact n
  |gr i a e t h d c=>rw[c];exact(q i a).2.2.2
  |gv i a e t h d c=>rw[c];exact n
  |eM i a e t h d c=>rw[c];exact n
  |eW x y j I e t h d c=>rw[c];exact n
 .cases g:dq ws.length k with
  |false=>exact GI T (λi a=>(f i a).2.2) k m g
  |true=>
   cases pipe m with
   |src i a e=>simp[dq]at g;lia
   |gr i a e t h d c=>
    rw[t,h,d,AQ,AV,uU a,aWa (by rw[c]at J;lia)];exact bK (aC bs ↑i+(gY ws).u i)
   |gv i a e=>simp[dq]at g;lia
   |eM i a e=>simp[dq]at g;lia
   |eW x y j I e=>simp[dq]at g;lia
 .by_cases B:v=0
  .rw[B];exact bK _
  .by_cases A:v=1
   .rw[A];exact C
   .by_cases Q:v%2=0
    .obtain⟨i,rfl⟩:∃i,v=2*i+2:=⟨v/2 - 1,by lia⟩;rw[AQ];exact T.b0 i (by lia)
    .obtain⟨i,rfl⟩:∃i,v=2*i+3:=⟨v/2 - 1,by lia⟩;rw[AV];have:=T.b0 i (by lia);have:=(f i (by lia)).1;lia
 .have u:sm (2*ws.length+2) (pf (lI 0 (bp bs (ws.map jR))) (λi=>aC bs i) (λi=>aC (ws.map jR) i))<=sm (2*ws.length+2) λ_=>8*2^252:=xA λv H=>by
   unfold pf;split
   .decide
   .split
    .exact s
    .have a:v/2 - 1<ws.length:=by lia
     have L:=T.e _ a;have S:=f _ a;dsimp only at L|-;split<;>lia
  rw[yV]at u;have N:((2*ws.length+2:Nat):Int)*(8*2^252)<=18*(8*2^252):=dB (by lia) (by decide);have M:(18*(8*2^252):Int)<10^198:=by decide
  exact bC u (bC N M)
theorem gf.Ej(G:gf ws ps nd)(d:dg ps (ws.map (·.2.1)) bs):0<=lI 0 (bp bs (ws.map (·.2.1))):=
 (d.Dk λx a=>by
  obtain⟨w,c,rfl⟩:=fY a;exact(G.ok w c).1).1
theorem Xh(G:gf ws ps nd)(g:dg ps (ws.map (·.2.1)) bs)(d:lI 0 (bp bs (ws.map (·.2.1)))<=e){c:XH}(s:Good (gY ws) ws.length (jJ 0 nd) (plenty ws 0) (λ_=>0) 0 c)(n:sm (2*ws.length+2) c<10^198){C:ab}{Q:T->ab->Prop}
 (q:∀f p a h,ko (gY ws) ws.length (jJ 0 nd) (plenty ws 0) e (λ_=>0) 0 c f p a->a<=sm ws.length (gY ws).p->0<=a->jE (jD ws nd 0) f C.length (2*ws.length+2:Nat) h->Q (.cell C.length) h):
 bf (oW [.lst (ws.map w3),.lst (ps.map pT),.int e] C) Q:=by
 have W:=G.y0 (bonus:=0) (by decide);have l:=G.Ej g;refine jN ?_;unfold vU;walk_at "a";refine fQ (f8 (uW (fF (fO rfl (fF (fO rfl (fM ⟨rfl,?_⟩)))))));refine Mt (nd:=nd) G.l8 G.pl G.gm G.need G.n3 λu r=>⟨rfl,fT (fV (fQ (lT (l4 ?_))))⟩;have j:jE (jD ws nd 0) (λ_=>0) C.length (2*ws.length+2:Nat) u:=by
  have:=r.at;rw[show((2*ws.length+2:Nat):Int)=2*(ws.length:Int)+2 by lia];exact this
 refine fO rfl ⟨nJ j.net rfl,fF (fO rfl (fM ⟨rfl,?_⟩))⟩;refine JW W (G.De g) d (bG l d) s (n5 λi m=>(nQ (P:=qS) G.ok m).2.2.1) (bK _) (cX n (by decide)) j λf p a t F o k v _ _=>?_;exact fV (gG (fO rfl (q f p a t F o k v)))
theorem K7{N:Nt}{a:Int}(h:ke N (λ_=>0) a):a=0:=by
 have:=h λv=>if v=1 then 1 else 0
 rw[lY λk _=>dZ _]at this;simp at this;exact eS this
theorem Jm{n:Nat}{k:Nat}(f:k<(net w n b P).m):(net w n b P).h k≠0/\(net w n b P).t k≠1:=by
 cases pipe f with
 |src i a e t h d c=>rw[t,h];lia
 |gr i a e t h d c=>rw[t,h];lia
 |gv i a e t h d c=>rw[t,h];lia
 |eM i a e t h d c=>rw[t,h];lia
 |eW x y i a e t h d c=>rw[t,h];lia
theorem Px{n:Nat}(W:yo w n b P){f:XH}{a:Int}(A:ke (net w n b P) f a)(B:ni (net w n b P) f):∃v,tp (ff (net w n b P) f (net w n b P).m) a v:=by
 obtain⟨r,m,C⟩:=W.rk;have D:=W.n8;have u:=HP (w:=w) (P:=P) m C;have key:∀e∈ff (net w n b P) f (net w n b P).m,∃j,j<(net w n b P).m/\e.1=((net w n b P).t j,(net w n b P).h j):=λe l=>zQ (dO l);have q:rk n r 1=2*n:=rfl;have s:rk n r 0= -1:=rfl;refine⟨rk n r,Pb A,MF (λk z=>(B k z).1) (bD _),v8,λe l=>?_,λe l=>?_,λe l=>?_,λe l=>?_,by rw[q,s];lia,by rw[q,s];lia,bO qU (by have:=W.m;exact aM this (by decide))⟩
 .obtain⟨j,o,p⟩:=key e l;rw[p];exact(Jm o).1
 .obtain⟨j,o,p⟩:=key e l;rw[p];exact u j o
 .obtain⟨j,o,p⟩:=key e l;rw[p,q];show rk n r ((net w n b P).h j)<=_;cases pipe o with
  |src i g e t h d c=>rw[h,y6];have:=m i g;lia
  |gr i g e t h d c=>rw[h,xR];have:=m i g;lia
  |gv i g e t h d c=>rw[h,xR];have:=m i g;lia
  |eM i g e t h d c=>rw[h,q];exact bK _
  |eW x y i g e t h d c=>rw[h,y6];have:=m y (W.ql _ (aX g)).2;lia
 .obtain⟨j,o,p⟩:=key e l;rw[p,s];show _<=rk n r ((net w n b P).t j);cases pipe o with
  |src i g e t h d c=>rw[t,s];decide
  |gr i g e t h d c=>rw[t,y6];have:=m i g;lia
  |gv i g e t h d c=>rw[t,y6];have:=m i g;lia
  |eM i g e t h d c=>rw[t,xR];have:=m i g;lia
  |eW x y i g e t h d c=>rw[t,xR];have:=m x (W.ql _ (aX g)).1;lia
end aJ
namespace TL
open PySem L2
theorem wL{B:FS}{m:Nat}{b:Xw}{Q:T->ab->Prop}(h:wpS B (ja m b) [] λl d a=>match l with
 | .rt r=>Q r a
 |_=>False):bf (Ba B m b) Q:=by
 obtain⟨l,d,a,e,q⟩:=h;cases l with
 |rt r=>exact⟨_,a,by unfold Ba;rw[e],q⟩
 |nx=>exact q.elim
 |bk=>exact q.elim
 |ct=>exact q.elim
 |ex c=>exact q.elim
end TL
namespace aJ
open PySem L2 TL NF
theorem ko.EV{w:Wk}{n:Nat}{d:XC}{P e:Int}{j f p:XH}{a:Int}(F:ko w n d P e (λ_=>0) 0 j f p a)(g:0<=e):∃i,Good w n d P f a i/\i 1=e:=by
 rcases F.how with rfl| ⟨_,y,x,l,q⟩
 .have G:=F.good;have t:∀o,g6 (net w n d P) (λ_=>0) o->o.2=true/\o.1<(net w n d P).m:=λo c=>by
   obtain⟨k,b⟩:=o;cases b
   .exact absurd c.2 (by unfold rr;simp)
   .exact⟨rfl,c.1⟩
  refine⟨up p 1 e,⟨G.kb,G.kc,nH λo c=>?_,?_,λv m=>?_⟩,kY⟩
  .obtain⟨s,r⟩:=t o c;have h:=mF G.ij o c;obtain⟨k,b⟩:=o;cases s;have u:=(Jm r).2;unfold up;rw[aWa (show¬rt (net w n d P) (k,true)=1 from u)];split
   .rename_i z;rw[z]at h;have:=F.ready;exact bG h this
   .exact h
  .rw[uD (by decide)];exact G.p0
  .unfold up;split
   .exact g
   .exact G.ge v m
 .exact F.good.uu x F.ready (bU l)
theorem WO{ws:XA}{c:XB}{g:XD}(G:gf ws c g){bs fs:XE}(D:dg c (ws.map (·.2.1)) bs)(U:dg c (ws.map jR) fs)(S:i7 [.lst (ws.map w3),.lst (c.map pT)]=some (.int (lI 0 (bp bs (ws.map (·.2.1)))))){e:Int}:
 (e<lI 0 (bp bs (ws.map (·.2.1)))->lZ [.lst (ws.map w3),.lst (c.map pT),.int e]=some (.aF,[]))/\
 (lI 0 (bp bs (ws.map (·.2.1)))<=e->∃f a d b rw j,lZ [.lst (ws.map w3),.lst (c.map pT),.int e]=some (.cell rw,j)/\Good (gY ws) ws.length (jJ 0 g) (plenty ws 0) f a d/\d 1=e/\a<=sm ws.length (gY ws).p/\b.length<40000/\
  zX ws.length (jJ 0 g) (ff (jD ws g 0) f (jD ws g 0).m) a b [] 0/\j[rw]?=some (.l,b.map λz=>.cell z.1)/\(∀z∈b,j[z.1]?=some (vc z))/\(lI 0 (bp fs (ws.map jR))<=e->b=[])):=by
 have M:=G.Ej D;have W:=G.y0 (bonus:=0) (by decide);obtain⟨_,p0,Z,O,kr⟩:=G.free U (bonus:=0) (by decide);have I:fc [T.lst (ws.map w3),T.lst (c.map pT)]=true:=by rw[gH,gH,iQ,iH,iH,qX,oO];rfl
 have i:∀{m:aE}{Q:Bool->ab->Prop},m[0]?=some (some (.lst (ws.map w3)))->m[1]?=some (some (.lst (c.map pT)))->m[2]?=some (some (.int e))->Q (decide (e<lI 0 (bp bs (ws.map (·.2.1))))) []->ia (kB (Aj Y2 (g8 2 i7 (fN Y0 (fN Y1 f7))))) m [] Q:=λX k n q=>
  gQ (fL (fO n (f9 (fF (fO X (fF (fO k (fM ((gP S rfl I).mpr (gC ⟨_,rfl,q⟩))))))))))
 constructor
 .intro h;have:bf (lZ [.lst (ws.map w3),.lst (c.map pT),.int e]) λr C=>r=.aF/\C=[]:=by
   refine wL ?_;unfold rQ;walk_at "a";refine fQ (i9 (i rfl rfl rfl ?_));rw[aWc (decide_eq_true h)];exact gG (fS ⟨rfl,rfl⟩)
  obtain⟨_,_,u,rfl,rfl⟩:=this;exact u
 .intro h;have:bf (lZ [.lst (ws.map w3),.lst (c.map pT),.int e]) λr j=>∃f a d b rw,r=.cell rw/\Good (gY ws) ws.length (jJ 0 g) (plenty ws 0) f a d/\d 1=e/\a<=sm ws.length (gY ws).p/\b.length<40000/\
   zX ws.length (jJ 0 g) (ff (jD ws g 0) f (jD ws g 0).m) a b [] 0/\j[rw]?=some (.l,b.map λz=>.cell z.1)/\(∀z∈b,j[z.1]?=some (vc z))/\(lI 0 (bp fs (ws.map jR))<=e->b=[]):=by
   refine wL ?_;unfold rQ;walk_at "a";refine fQ (i9 (i rfl rfl rfl ?_));rw[aWa (by rw[decide_eq_false (i8 h)];simp)];refine iB (fV (gG (l4 (iF (fF (fO rfl (fF (fO rfl (fF (fO rfl (fM ⟨rfl,?_⟩)))))))))));refine Xh G D h Z O λf p a C' F B L A=>⟨nJ A.net rfl,fM ⟨rfl,?_⟩⟩;obtain⟨d,v,K⟩:=F.EV (bG M h);obtain⟨E,Fl⟩:=Px W v.kb v.kc;refine U6 A W.m Fl (λs t=>NB t) L (by have:=W.AM;exact bC B this) λb rw C2 J R k n=>?_;refine⟨f,a,d,b,rw,rfl,v,K,B,bO J W.m,R,k,n,λhy=>?_⟩;have N:f=λ_=>0:=by
    rcases F.how with k| ⟨_,q,_,n,H⟩
    .exact k
    .have:=H 1 (d3 (2*ws.length) (by decide));lia
   have P:a=0:=by
    have:=F.good.kb;rw[N]at this;exact K7 this
   cases b with
   |nil=>rfl
   |cons z b=>
    exfalso;have t:=R.sum;have Y:∀l:List (Nat×Int×XG),(∀z∈l,1<=z.2.1)->0<=(l.map λz=>z.2.1).sum:=λl=>by
     induction l with
     |nil=>intro _;simp
     |cons y l ih=>
      intro w;have:=w y bM;have:=ih λx o=>w x (bA _ o);rw[aK,X8];lia
    have H:=(R.ok z bM).1;have h4:=Y b λx o=>(R.ok x (bA _ o)).1;rw[aK,X8]at t;lia
  obtain⟨_,j,u,f,a,d,b,rw,rfl,k⟩:=this;exact⟨f,a,d,b,rw,j,u,k⟩
end aJ
namespace aJ
open PySem L2 TL NF
variable{w:Wk}{es:XC}{P e:Int}{b:XH}
noncomputable def An(b:XH)(i:Nat):Int:=b (2*i+2)
noncomputable def um(w:Wk)(b:XH)(i:Nat):Int:=min (w.u i) (b (2*i+3) - b (2*i+2))
theorem SF{n:Nat}(W:yo w n es P){f:XH}{a:Int}(G:Good w n es P f a b)(p:b 1=e)(q:a<P)(m:∀i,i<n->w.l i<=w.u i):
 (∀i,i<n->0<=An b i/\w.l i<=um w b i/\um w b i<=w.u i/\An b i+um w b i<=e)/\(∀x∈es,An b x.1+um w b x.1<=An b x.2)/\sm n (λi=>w.p i*(w.u i - um w b i))=len (net w n es P) f - a*e:=by
 have d:=W.open G q;obtain⟨l,k,j,h⟩:=GB G.ij d G.p0 W.ql;refine⟨λi c=>?_,λx o=>?_,?_⟩
 .have g:=l i c;have t:=k i c;have s:=j i c;have r:=m i c;unfold An um;refine⟨g,?_,?_,?_⟩<;>lia
 .have g:=h x o;unfold An um;lia
 .rw[<-p,G.price d];refine iX λi _=>?_;congr 1;unfold um NF.pos;split<;>lia
theorem Jw{x u l p:Int}(h:l<=u):(if x<=p then x*u else p*u+(x - p)*l)=min (x*u) (p*(u - l)+x*l):=by
 have d:x*u - (p*(u - l)+x*l)=(x - p)*(u - l):=by rw[Yp,dL,dL];lia
 have c:p*u+(x - p)*l=p*(u - l)+x*l:=by rw[Yp,dL];lia
 by_cases a:x<=p
 .rw[aWc a];have:(x - p)*(u - l)<=0:=Int.mul_nonpos_of_nonpos_of_nonneg (by lia) (bY h);lia
 .rw[aWa a,c];have:0<=(x - p)*(u - l):=X3 (bU (d7 (iP a))) (bY h);lia
theorem J7{n:Nat}{g:XH}{k:Nat}(a:k<n):(sm n λj=>if j=k then g j else 0)=g k:=by
 induction n with
 |zero=>lia
 |succ n ih=>
  show sm n _+(if n=k then g n else 0)=_;by_cases h:n=k
  .subst h;rw[aWc rfl,lY λj c=>aWa (by lia)];exact cW _
  .rw[aWa h,ih (by lia)];exact dN _
theorem P0{n:Nat}{f:XH}{i:Nat}(m:i<n):at_ (ff (net w n es P) f (net w n es P).m) (je i)=tr f i:=by
 rw[Iv];show sm (4*n+es.length) _=_;have e:∀k,k<4*n+es.length->(if je i=((net w n es P).t k,(net w n es P).h k)then f k else 0)=(if k=4*i+1 then f k else 0)+if k=4*i+2 then f k else 0:=λk l=>by
  have a:je i=((net w n es P).t k,(net w n es P).h k)↔(2*i+2=(net w n es P).t k/\2*i+3=(net w n es P).h k):=by unfold je;rw[Zw.injEq]
  cases pipe (w:=w) (n:=n) (es:=es) (P:=P) (k:=k) l with
  |src j g e t h d c=>rw[aWa (by rw[a,t,h];lia),aWa (by lia),aWa (by lia)];rfl
  |gr j g e t h d c=>
   by_cases z:j=i
   .rw[aWc (by rw[a,t,h];lia),aWc (by lia),aWa (by lia)];exact eS (dN (f k))
   .rw[aWa (by rw[a,t,h];lia),aWa (by lia),aWa (by lia)];rfl
  |gv j g e t h d c=>
   by_cases z:j=i
   .rw[aWc (by rw[a,t,h];lia),aWa (by lia),aWc (by lia)];exact eS (cW (f k))
   .rw[aWa (by rw[a,t,h];lia),aWa (by lia),aWa (by lia)];rfl
  |eM j g e t h d c=>rw[aWa (by rw[a,t,h];lia),aWa (by lia),aWa (by lia)];rfl
  |eW x y j g e t h d c=>rw[aWa (by rw[a,t,h];lia),aWa (by lia),aWa (by lia)];rfl
 rw[iX e,NU,J7 (by lia),J7 (by lia)];rfl
theorem WW{n:Nat}{f f2 g:XH}{a d:Int}(G:Good w n es P f a b)(k:Good w n es P f2 d g)(m:b 1=e)(l:g 1=e)(h:∀i,i<n->w.l i<=w.u i){c:List (Nat×Int×XG)}(R:zX n es (ff (net w n es P) f2 (net w n es P).m) d c [] 0):
 len (net w n es P) f - a*e=sm n (λi=>min ((c.map λz=>z.2.1*(z.2.2.count i:Int)).sum*w.u i) (w.p i*(w.u i - w.l i)+(c.map λz=>z.2.1*(z.2.2.count i:Int)).sum*w.l i)) - e*(c.map λz=>z.2.1).sum:=by
 rw[zD G k m l,T5 k h,R.sum,eU,YW d e];congr 1;refine iX λi j=>?_;have:(c.map λz=>z.2.1*(z.2.2.count i:Int)).sum=tr f2 i:=by
  rw[R.tr i,P0 j];show tr f2 i - 0=_;exact eU _
 rw[this];exact Jw (h i j)
end aJ
namespace dy
open PySem L2 TL aJ
end dy
namespace dy
open PySem L2 TL aJ NF
variable{b:XA}{i:Nat}
theorem Ia(a:i<b.length):(gY b).u i=b[i].1/\(gY b).l i=b[i].2.1/\(gY b).p i=b[i].2.2:=by
 refine⟨?_,?_,?_⟩<;>simp[gY,a]
theorem Nv(a:i<b.length):dc (b.map w3) (i:Int)=some (w3 ((gY b).u i,(gY b).l i,(gY b).p i)):=by
 obtain⟨f,d,c⟩:=Ia a;rw[sF,bI,aO a,f,d,c];rfl
theorem tx{c:aE}{C:ab}{a:Nat}{row:Xw}{j:Int}{r v:T}(g:c[a]?=some (some r))(f:jg C r=some row)(d:dc row j=some v):aH (kI a) (fC (.int j)) c C=some (v,C):=
 oK (fL (fO g (fS (gL ⟨_,f,_,d,rfl,rfl⟩))))
end dy
namespace dy
open PySem L2 TL aJ NF
noncomputable def nI(is:XG):XE:=is.map λi:Nat=>(i:Int)
def rI(z:Nat×Int×XG):XE:=z.2.1::nI z.2.2
end dy
namespace dy
open PySem L2 TL aJ NF
end dy
namespace dy
open PySem L2 TL aJ NF
variable{Cn:ab}{cs:XG}{rows:XD}
theorem LY{k:Nat}:∀{xs:XG},mn k (xs.map T.cell)=(xs.map (k+ ·)).map T.cell
 | []=>by simp[mn]
 |x::xs=>by simp[mn,sh,LY]
theorem Lh{k:Nat}:∀{xs:XE},mn k (xs.map T.int)=xs.map T.int
 | []=>by simp[mn]
 |x::xs=>by simp[mn,sh,Lh]
theorem HW{C:ab}{c:Nat}{x:Cl}(h:Cn[c]?=some x):(C++Cn.map (xk C.length))[C.length+c]?=some (xk C.length x):=by
 rw[bL (b8 _ _),show C.length+c - C.length=c from cQ (XX C) c,bI,h];rfl
structure mQ(C:ab)(k:Nat)(cs:XG)(rows:XD):Prop where
 at_:C[k]?=some (.l,cs.map T.cell)
 rows:cs.length=rows.length/\∀(i:Nat)(c:Nat)(r:XE),cs[i]?=some c->rows[i]?=some r->C[c]?=some (.l,r.map T.int)/\c≠k
theorem mQ.dr{C:ab}{k:Nat}{cs:XG}{rows:XD}(R:mQ C k cs rows):dr 3 C (.cell k)=some (.lst (rows.map iT)):=by
 have g:b7 (TL.dr 2 C) (cs.map T.cell)=some (rows.map iT):=KD (by simp[R.rows.1]) λi t u b a=>by
  rw[bI]at b a;obtain⟨c,f,rfl⟩:=fG b;obtain⟨r,d,rfl⟩:=fG a;exact o7 (gS (R.rows.2 i c r f d).1)
 show(lc C k).bind _=_;rw[gS R.at_];show(b7 (TL.dr 2 C) _).map _=_;rw[g];rfl
theorem mQ.sh{C:ab}{k:Nat}(R:mQ Cn k cs rows):mQ (C++Cn.map (xk C.length)) (C.length+k) (cs.map (C.length+ ·)) rows:=by
 refine⟨?_,by simp[R.rows.1],λi c r a d=>?_⟩
 .rw[HW R.at_];show some (Kd.l,mn C.length _)=_;rw[LY]
 .rw[bI]at a;obtain⟨g,b,rfl⟩:=fG a;obtain⟨f,h⟩:=R.rows.2 i g r b d;refine⟨?_,by lia⟩;rw[HW f];show some (Kd.l,mn C.length _)=_;rw[Lh]
theorem mQ.keep{C f:ab}{k:Nat}(R:mQ C k cs rows)(h:∀d,d=k\/d∈cs->f[d]?=C[d]?):mQ f k cs rows:=
 ⟨by rw[h _ (.inl rfl)];exact R.at_,R.rows.1,λi c r a b=>⟨by rw[h _ (.inr (aX a))];exact(R.rows.2 i c r a b).1,(R.rows.2 i c r a b).2⟩⟩
theorem Mc{n:Nat}{G:Xw->Option (T×ab)}{a:Xw}{r:T}{C:ab}{Q:T->ab->Prop}(e:G a=some (r,Cn))(b:a.length=n)(c:fc a=true):bf (uN n G a C) Q↔Q (TL.sh C.length r) (C++Cn.map (xk C.length)):=by
 have:uN n G a C=some (TL.sh C.length r,C++Cn.map (xk C.length)):=by
  unfold uN;rw[aWc ⟨b,c⟩,e];rfl
 rw[this];exact p6
theorem WD{a:List (Nat×Int×XG)}{rw:Nat}(h:Cn[rw]?=some (.l,a.map λz=>T.cell z.1))(j:∀z∈a,Cn[z.1]?=some (vc z)):mQ Cn rw (a.map (·.1)) (a.map rI):=by
 refine⟨by rw[cK];exact h,by simp,λi c r g d=>?_⟩;rw[bI]at g d;obtain⟨z,b,rfl⟩:=fG g;rw[b]at d;cases d;have f:=j z (aX b);refine⟨?_,λe=>?_⟩
 .rw[f];simp[vc,rI,nI]
 .rw[e,h]at f;cases a with
  |nil=>simp at b
  |cons y a=>simp[vc]at f
end dy
namespace dy
open PySem L2 TL aJ NF
variable{ws:XA}{ps:XB}
theorem F9{e:Int}:fc [.lst (ws.map w3),.lst (ps.map pT),.int e]=true:=by rw[gH,gH,gH,iQ,iH,iH,iE,qX,oO];rfl
theorem CD:fc [.lst (ws.map w3),.lst (ps.map pT)]=true:=by rw[gH,gH,iQ,iH,iH,qX,oO];rfl
theorem Ki{a:List (Nat×Int×XG)}{i:Nat}(h:∀z∈a,1<=z.2.1/\∀i,z.2.2.count i<=1):0<=(a.map λz=>z.2.1*(z.2.2.count i:Int)).sum/\(a.map λz=>z.2.1*(z.2.2.count i:Int)).sum<=(a.map λz=>z.2.1).sum:=by
 induction a with
 |nil=>simp
 |cons z a ih=>
  obtain⟨j,g⟩:=ih λy b=>h y (bA _ b)
  obtain⟨f,c⟩:=h z bM;have d:=c i;rw[aK,aK,X8,X8];rcases(show z.2.2.count i=0\/z.2.2.count i=1 by lia)with e|e<;>rw[e]<;>simp<;>lia
theorem o9{n:Nat}{is:XG}(h:∀i,is.count i<=1)(c:∀i∈is,i<n):is.length<=n:=by
 have b:is.Nodup:=YG.mpr h;have a:is ⊆ bH n:=λi h=>lL (c i h);have:=b.length_le_of_subset a;simpa using this
end dy
namespace aJ
open PySem L2 TL NF
variable{ws:XA}{ps:XB}{nd:XD}{bs fs:XE}{z:Int}
theorem gf.mu(G:gf ws ps nd){hs a:XE}(n:dg ps hs bs)(c:dg ps a fs)(m:hs.length=ws.length)(s:a.length=ws.length)(f:∀i:Nat,i<ws.length->aC hs i<=aC a i)(b:∀h∈a,0<=h):lI 0 (bp bs hs)<=lI 0 (bp fs a):=by
 obtain⟨l,k,t⟩:=c.Dk b;refine G.fst n m (B:=λi=>aC fs i) l (λi _=>c.pos _) (λp b=>?_) λi d=>?_
 .have r:=c.ge p b;have j:=G.gm _ b;have g:=f p.1.toNat (by lia);rw[bP j.1.1]at g|-;rw[bP j.2.1];exact bG (Ym g (aC fs p.1)) r
 .have q:=f i d;have o:=k _ ⟨i,by rw[s];exact d,rfl⟩;exact bG (Ym q (aC fs ↑i)) o
structure fi(ws:XA)(ps:XB)(nd:XD)(bs fs:XE)(z y:Int):Prop where
 g:gf ws ps nd
 MU:ps.length<=63
 e:dg ps (ws.map (·.2.1)) bs
 f:dg ps (ws.map jR) fs
 zz:lI 0 (bp bs (ws.map (·.2.1)))=z
 yy:lI 0 (bp fs (ws.map jR))=y
 le:i7 [.lst (ws.map w3),.lst (ps.map pT)]=some (.int z)
 fe:l9 [.lst (ws.map w3),.lst (ps.map pT)]=some (.int y)
 z0:0<=z
 zy:z<=y
 yb:y<=8*2^252
theorem fi.of(c:ws.length<=8)(n:ps.length<=63)(q:fw ws.length ps)(o:p3 ps)(d:∀w∈ws,qS w):∃nd bs fs z y,fi ws ps nd bs fs z y:=by
 obtain⟨nd,G⟩:=gf.ex c (bB n (by decide)) q o d;have ends:∀f:Int×Int×Int->Int,(∀w∈ws,0<=f w)->∃bs,dg ps (ws.map f) bs/\l5 [.lst ((ws.map f).map T.int),.lst (ps.map pT)]=some (.int (lI 0 (bp bs (ws.map f)))):=by
  intro f u;have t:∀h∈ws.map f,0<=h:=λh k=>by
   obtain⟨w,a,rfl⟩:=fY k;exact u w a
  have g:(ws.map f).length=ws.length:=aP _;have a:fw (ws.map f).length ps:=by rw[g];exact q
  obtain⟨_,e,bs,rfl,b⟩:=WH (hs:=ws.map f) (bB (bZ g) c) (bB n (by decide)) a o t;exact⟨bs,b,Vj e (by rw[b.len];exact bB (bZ g) (bB c (by decide)))⟩
 have r:∀w∈ws,0<=w.2.1:=λw a=>(d w a).1;have p:∀w∈ws,0<=jR w:=λw a=>by
  have h:=d w a;unfold jR;split
  .exact h.1
  .exact bG h.1 h.2.1
 obtain⟨bs,b,j⟩:=ends (·.2.1) r;obtain⟨fs,m,s⟩:=ends jR p;refine⟨nd,bs,fs,_,_,G,n,b,m,rfl,rfl,WS (bB c (by decide)) j,WM (bB c (by decide)) s,G.Ej b,?_,(G.free m (bonus:=0) (by decide)).1⟩;refine G.mu b m (by simp) (by simp) (λi l=>?_) λh k=>?_
 .have a:=d _ (e9 l);rw[jX (by simpa using l),jX (by simpa using l),Yj,Yj];unfold jR;split
  .exact bK _
  .exact a.2.1
 .obtain⟨w,a,rfl⟩:=fY k;exact p w a
theorem fi.fh{y:Int}(L:fi ws ps nd bs fs z y):∀h∈ws.map jR,0<=h:=λh b=>by
 obtain⟨w,a,rfl⟩:=fY b;have h:=L.g.ok w a;unfold jR;split
 .exact h.1
 .exact bG h.1 h.2.1
theorem fi.en{y:Int}(L:fi ws ps nd bs fs z y):pV [.lst (ws.map w3),.lst (ps.map pT)]=some (.tup [.int z,.int y]):=by
 have a:=L.g.l8;have b:=L.MU;rw[<-L.zz,<-L.yy];exact T7 (bB a (by decide)) (MA (by simp;exact a) (bB b (by decide)) (by simpa using L.g.gm) L.g.uy (λh d=>by
  obtain⟨w,c,rfl⟩:=fY d;exact(L.g.ok w c).1) L.e) (MA (by simp;exact a) (bB b (by decide)) (by simpa using L.g.gm) L.g.uy L.fh L.f)
theorem fi.yC{y:Int}(L:fi ws ps nd bs fs z y)(b:∀w∈ws,uH w):y<=8*2^240:=by
 rw[<-L.yy];refine L.g.la L.f (by simp) (by decide) λi a=>?_;have:=nQ (P:=uH) b a;have f:0<=(gY ws).l i:=this.1;have d:(gY ws).l i<=(gY ws).u i:=this.2.1;have c:(gY ws).u i<2^240:=this.2.2.2.1;rw[uU a];split<;>lia
theorem fi.sC{y:Int}(L:fi ws ps nd bs fs z y)(b:∀w∈ws,uH w):sm ws.length (gY ws).p<=8*2^240:=by
 have a:sm ws.length (gY ws).p<=sm ws.length λ_=>2^240:=xA λi c=>bU (nQ (P:=uH) b c).2.2.2.2;rw[yV]at a;have d:(ws.length:Int)*2^240<=8*2^240:=dB (by have:=L.g.l8;exact bG (mL this) (by decide)) (by decide);exact bG a d
theorem BY{ns:XE}(k:ns.length<=63){M:Nat}(l:4<=M)(a:M<=8){u:Int}(h:0<u)(j:u<=10^20):∃ws ps nd bs fs z y,xE [.lst (ns.map T.int),.int M,.int u]=some (.tup [.lst (ws.map w3),.lst (ps.map pT)])/\fi ws ps nd bs fs z y/\ws.length<=M/\ps.length<=20/\∀w∈ws,uH w:=by
 obtain⟨_,m,ws,ps,rfl,c,g,d,rs,b,f⟩:=Q4 k l a h j;obtain⟨nd,bs,fs,z,y,L⟩:=fi.of (ws:=ws) (ps:=ps) (bB c a) (bB g (by decide)) (Al.M9 b f) (Al.uy b f) λw i=>(d w i).bd
 exact⟨ws,ps,nd,bs,fs,z,y,m,L,c,g,d⟩
end aJ
namespace aJ
open PySem L2 TL NF
variable{ws:XA}{e:Int}{b:List (Nat×Int×XG)}
theorem U4{rows:List (Int×XE)}(c:ws.length<=100)(j:rows.length<90000)(f:∀r∈rows,∀w∈r.2,0<=w/\w<(ws.length:Int))(g:∀w∈ws,WB w)
 (h:∀i,Bt 1000 (v3 rows i))(l:Bt 1000 (rows.map (·.1)).sum)(k:Bt 1000 e):
 yP [.lst (ws.map w3),.lst (rows.map rT),.int e]=some (.int (Gi ws rows e)):=by
 apply j4;unfold J5;have d:∀{C Q},bf (kU 2 o5 [.int ws.length,.lst (rows.map rT)] C) Q↔Q (.lst (((bH ws.length).map (v3 rows)).map T.int)) C:=Ws c f;walk_at "a";simp_arith[↓hW,↓hJ,↓d,aP,Lz];refine⟨CN (by simp;exact bB c (by decide)),iY (λp=>T.int (g9 p.1 p.2)) (λp a=>?_) ?_⟩
 .have n:=g p.1 (YK a).1;have m:Bt 1000 p.2:=by
   obtain⟨i,_,e⟩:=fY (YK a).2;rw[<-e];exact h i
  simp only[gh,aT,aK,bE,aZ,aV,aU,cD,cH,dA];simp_arith[↓hW,↓hJ,↓W3]
 .rw[p9];refine⟨_,rfl,(by(try simp only[aP]);unfold lim;exact aM j (by decide)),iY (λr=>T.int r.1) (λr _=>?_) ?_⟩
  .simp only[gh,aT,aK,bE,aZ,aV,aU,cD,cH,dA];simp_arith[↓hW,↓hJ,rT,↓iA (CL (α:=T))]
  .rw[p9];refine⟨_,rfl,uQ k l (by decide),?_⟩;exact j5 iE
noncomputable def rws(b:List (Nat×Int×XG)):List (Int×XE):=b.map λz=>(z.2.1,z.2.2.map λi:Nat=>(i:Int))
theorem Oz:(rws b).map rT=(b.map dy.rI).map iT:=by
 unfold rws;rw[cK,cK];rfl
theorem Ld{i:Nat}:∀{is:XG},(is.map λi:Nat=>(i:Int)).count (i:Int)=is.count i
 | []=>rfl
 |a::is=>by
  rw[aK,Yr,Yr,Ld];congr 1;by_cases h:a=i
  .subst h;simp
  .rw[aWa (by simp;lia),aWa (by simp;exact h)]
theorem JG{i:Nat}:v3 (rws b) i=(b.map λz=>z.2.1*(z.2.2.count i:Int)).sum:=by
 unfold v3 rws;rw[cK];congr 1;refine cU λz _=>?_;show z.2.1*_=_;rw[Ld]
theorem JK:((rws b).map (·.1)).sum=(b.map λz=>z.2.1).sum:=by
 unfold rws;rw[cK];rfl
theorem wD{n:Nat}{g:XH}:((bH n).map g).sum=sm n g:=by
 induction n with
 |zero=>rfl
 |succ n ih=>rw[YL,bR,YM,ih];simp[sm]
theorem VE(g:∀i,i<ws.length->(gY ws).l i<=(gY ws).u i):
 Gi ws (rws b) e=sm ws.length (λi=>min ((b.map λz=>z.2.1*(z.2.2.count i:Int)).sum*(gY ws).u i) ((gY ws).p i*((gY ws).u i - (gY ws).l i)+(b.map λz=>z.2.1*(z.2.2.count i:Int)).sum*(gY ws).l i)) - e*(b.map λz=>z.2.1).sum:=by
 unfold Gi;rw[JK];congr 1;rw[<-wD];congr 1;apply YI
 .simp
 .intro i j h;have a:i<ws.length:=by simpa using h
  obtain⟨f,d,c⟩:=dy.Ia a;have:=g i a;simp only[Yj,List.getElem_zip,Yh];rw[JG];generalize (b.map λz=>z.2.1*(z.2.2.count i:Int)).sum=x;rw[<-Jw this];unfold g9;rw[f,d,c];split
  .rfl
  .rw[dL,Yp];lia
def mH(ws:XA)(nd:XD)(e q:Int):Prop:=∃f a c,Good (gY ws) ws.length (jJ 0 nd) (plenty ws 0) f a c/\c 1=e/\a<=sm ws.length (gY ws).p/\q=len (jD ws nd 0) f - a*e
theorem sO{ps:XB}{t:XD}{bs fs:XE}{z y:Int}(L:fi ws ps t bs fs z y)(N:e<2^300):
 (e<z->mB [.lst (ws.map w3),.lst (ps.map pT),.int e]=some .aF)/\
 (z<=e->∃q,mB [.lst (ws.map w3),.lst (ps.map pT),.int e]=some (.int q)/\mH ws t e q):=by
 have F:=L.z0;have M:=L.g.l8;obtain⟨S,D⟩:=WO L.g L.e L.f (by rw[L.zz];exact L.le) (e:=e);rw[L.zz]at S D;have s:∀{C Q},bf (kU 2 i7 [.lst (ws.map w3),.lst (ps.map pT)] C) Q↔Q (.int z) C:=gP L.le rfl dy.CD;constructor
 .intro n;apply j4;unfold uL;walk_at "a";refine fQ (i9 (gQ (fL (fO rfl (f9 (fF (fO rfl (fF (fO rfl (fM (s.mpr (gC ⟨_,rfl,?_⟩))))))))))));rw[aWc (decide_eq_true n)];exact gG (fS (j5 rfl))
 .intro g;obtain⟨f2,R,H,b,rw,X,G,p,k,o,O,d,c1,c2,_⟩:=D g;have u:∀i,i<ws.length->(gY ws).l i<=(gY ws).u i:=λi m=>(nQ (P:=qS) L.g.ok m).2.1;have I:=WW p p k k u d;have R2:=(dy.WD c1 c2).sh (C:=[]);have P:=R2.dr;have a:∀x∈b,1<=x.2.1/\∀i,x.2.2.count i<=1:=λx f=>⟨(d.ok x f).1,(d.ok x f).2.2.2.2⟩;have K:=L.g.sP;have j:0<=(b.map λz=>z.2.1).sum/\(b.map λz=>z.2.1).sum<2^256:=by
   have c:=dy.Ki (i:=0) a;have A:=d.sum;refine⟨bG c.1 c.2,?_⟩;have U:(8*2^252:Int)<2^256:=by decide
   lia
  have B:=U4 (ws:=ws) (rows:=rws b) (e:=e) (bB M (by decide)) (by unfold rws;rw[aP];exact aM O (by decide)) (λr v w l=>by
   unfold rws at v;obtain⟨x,f,rfl⟩:=fY v;obtain⟨i,m,rfl⟩:=fY l;have:=(d.ok x f).2.2.1 i m;exact⟨bN i,iO this⟩) (λw l=>by
   have h:=L.g.ok w l;have J:0<=w.1:=bG h.1 h.2.1;exact⟨Bt.mono (Bt.of_lt J (cX h.2.2.2.1 (by decide:(2^252:Int)<2^256))) (by decide),Bt.mono (Bt.of_lt h.1 (bC h.2.1 (cX h.2.2.2.1 (by decide:(2^252:Int)<2^256)))) (by decide),Bt.mono (Bt.of_lt h.2.2.1 (cX h.2.2.2.2 (by decide:(2^252:Int)<2^256))) (by decide)⟩) (λi=>by
   rw[JG];have c:=dy.Ki (i:=i) a;have A:(b.map λz=>z.2.1*(z.2.2.count i:Int)).sum<2^256:=bC c.2 j.2;exact Bt.mono (Bt.of_lt c.1 A) (by decide)) (by
   rw[JK];exact Bt.mono (Bt.of_lt j.1 j.2) (by decide)) (Bt.mono (Bt.of_lt (bG F g) N) (by decide))
  rw[Oz,VE u,<-I]at B;refine⟨_,?_,f2,R,H,p,k,o,rfl⟩;apply j4;unfold uL;walk_at "a";refine fQ (i9 (gQ (fL (fO rfl (f9 (fF (fO rfl (fF (fO rfl (fM (s.mpr (gC ⟨_,rfl,?_⟩))))))))))));rw[aWa (by simpa using g)];refine iB (fV (gG ?_));refine f9 (fF (fO rfl (fF (f9 (fF (fO rfl (fF (fO rfl (fF (fO rfl (fM ((dy.Mc G rfl dy.F9).mpr ?_))))))))))));refine fF (fO rfl (fM ?_));exact L3 rfl (lH (j5 (by rw[iH,qX])) (lH P (lH (j5 iE) Lo))) ⟨_,B,rfl,j5 iE⟩
end aJ
namespace aJ
open PySem L2 TL NF
structure Pl(ws:XA)(ps:XB)(e:Int)(b h:XH):Prop where
 b0:∀i,i<ws.length->0<=b i
 lh:∀i,i<ws.length->(gY ws).l i<=h i
 hu:∀i,i<ws.length->h i<=(gY ws).u i
 en:∀i,i<ws.length->b i+h i<=e
 ne:∀p∈ps,b p.1.toNat+h p.1.toNat<=b p.2.toNat
def cst(a:XA)(h:XH):Int:=sm a.length λi=>(gY a).p i*((gY a).u i - h i)
section
variable {ws:XA}{ps:XB}{nd:XD}{bs fs:XE}{z y e q:Int}{b h:XH}
theorem mH.kz(G:gf ws ps nd)(A:mH ws nd e q):∃b h,Pl ws ps e b h/\cst ws h=q:=by
 obtain⟨f,a,k,g,j,n,rfl⟩:=A;have W:=G.y0 (bonus:=0) (by decide);obtain⟨d,m,l⟩:=SF W g j (bC n W.pP) λi c=>(nQ (P:=qS) G.ok c).2.1
 exact⟨An k,um (gY ws) k,⟨λi c=>(d i c).1,λi c=>(d i c).2.1,λi c=>(d i c).2.2.1,λi c=>(d i c).2.2.2,λp j=>m _ (DL G.gm G.n3 j)⟩,l⟩
theorem Pl.De(G:gf ws ps nd)(p:Pl ws ps e b h):yp ws.length (jJ 0 nd) e b h:=
 ⟨p.b0,p.en,λx a=>by
  have:=p.ne _ (Bb G.gm G.n3 a).1;simpa using this⟩
theorem Pl.best(G:gf ws ps nd)(p:Pl ws ps e b h){P a:Int}{f:XH}(d:ke (net (gY ws) ws.length (jJ 0 nd) P) f a)(g:ni (net (gY ws) ws.length (jJ 0 nd) P) f):len (net (gY ws) ws.length (jJ 0 nd) P) f - a*e<=cst ws h:=by
 refine bG (NF.best d g (p.De G) p.lh) (dI (iX λi c=>?_));have:=p.hu i c;unfold pos;split
 .rfl
 .rw[show(gY ws).u i - h i=0 by lia]
theorem mH.le(G:gf ws ps nd)(A:mH ws nd e q)(p:Pl ws ps e b h):q<=cst ws h:=by
 obtain⟨f,a,c,g,d,i,rfl⟩:=A;exact p.best G g.kb g.kc
theorem fi.pj(L:fi ws ps nd bs fs z y)(p:Pl ws ps e b h)(f:0<=e):z<=e:=by
 have c:∀i:Nat,i<ws.length->aC (ws.map (·.2.1)) i=(gY ws).l i:=λi a=>by
  rw[jX (by simpa using a),Yj];show _=((ws[i]?).getD (0,0,0)).2.1;rw[aO a];rfl
 rw[<-L.zz];refine L.g.fst L.e (aP _) f p.b0 (λx d=>?_) λi a=>?_
 .have n:=p.ne x d;have j:=L.g.gm _ d;have a:x.1.toNat<ws.length:=by lia
  have g:=c _ a;rw[bP j.1.1]at g;have:=p.lh _ a;lia
 .have m:=p.en i a;have l:=p.lh i a;have k:=c i a;lia
end
end aJ
namespace aJ
open PySem L2 TL NF
section
variable {a c:XA}{d f:XB}{g i:XD}{bs fs:XE}{z y e q j t:Int}{b h:XH}
end
end aJ
namespace aJ
open PySem L2 TL NF
variable{rs:XE}
theorem Rk.zq{m:Nat}(h:Rk m rs){v:Nat}(n:v<m):(v:Int)∈rs:=cN λf=>by
 have k:((v:Int)::rs).Nodup:=c7.mpr ⟨f,h.nd⟩;have j:(((v:Int)::rs).map X5).Nodup:=by
  refine ZF.mpr (List.Pairwise.imp_of_mem (λ{x y} a d l e=>?_) k);have b:∀x∈(v:Int)::rs,0<=x:=λx a=>by
   rcases fU a with rfl|a
   .exact bN _
   .exact(h.hQ x a).1
  have:=b x a;have:=b y d;exact l (by lia)
 have c:=dy.o9 (n:=m) (is:=((v:Int)::rs).map X5) (λi=>YG.mp j i) λi g=>by
  obtain⟨x,a,rfl⟩:=fY g;rcases fU a with rfl|a
  .lia
  .have:=h.hQ x a;lia
 rw[aP,aN,h.len]at c;exact absurd c (aT2 (bX m))
theorem Rk.perm{m:Nat}(h:Rk m rs):rs.Perm ((bH m).map λi:Nat=>(i:Int)):=by
 refine List.perm_iff_count.mpr λx=>?_;have g:((bH m).map λi:Nat=>(i:Int)).Nodup:=by
  refine ZF.mpr (List.Pairwise.imp_of_mem (λ{a b} _ _ p e=>p (Z1.mp e)) List.nodup_range)
 by_cases d:x∈rs
 .have f:=h.hQ x d;have c:x∈((bH m).map λi:Nat=>(i:Int)):=iG ⟨x.toNat,by simp;lia,by show((x.toNat:Nat):Int)=x;exact bP f.1⟩;have o:=YG.mp h.nd x;have n:=YG.mp g x;have l:=aTN.mpr d;have k:=aTN.mpr c;exact X2 (bB o (bS k)) (bB n (bS l))
 .have c:x∉((bH m).map λi:Nat=>(i:Int)):=λc=>by
   obtain⟨i,j,rfl⟩:=fY c;exact d (h.zq (iC j))
  rw[ZD.mpr d,ZD.mpr c]
theorem Ti{xs a:XE}(h:xs.Perm a):xs.sum=a.sum:=by
 induction h with
 |nil=>rfl
 |cons x _ ih=>rw[X8,X8,ih]
 |swap x y l=>simp only[X8];lia
 |trans _ _ c b=>exact c.trans b
theorem Rk.sum{m:Nat}(h:Rk m rs){g:XH}:sm m (λk=>g (aC rs k).toNat)=sm m g:=by
 have p:=Ti (h.perm.map λx:Int=>g x.toNat);rw[cK,show((λx:Int=>g x.toNat) ∘ λi:Nat=>(i:Int))=g from funext λi=>by simp,wD]at p;rw[<-p,<-wD];congr 1;apply YI
 .simp[h.len]
 .intro i c b;have a:i<rs.length:=by simpa using b
  simp only[Yj,Yh];rw[jX a]
section
variable {ws a:XA}{ps c:XB}{nd d:XD}{bs fs:XE}{z y e q f t:Int}{b h:XH}{rs:XE}
structure qp(rs:XE)(ws:XA)(ps:XB)(a:XA)(c:XB):Prop where
 r:Rk ws.length rs
 l:a.length=ws.length
 w:∀k,k<ws.length->a[(aC rs k).toNat]?=ws[k]?
 p:c=ps.map λp=>(aC rs p.1,aC rs p.2)
theorem Rk.at{m:Nat}(h:Rk m rs){k:Nat}(i:k<m):0<=aC rs k/\(aC rs k).toNat<m:=by
 have g:k<rs.length:=by rw[h.len];exact i
 rw[jX g];have:=h.hQ _ (e9 g);lia
theorem Rk.inj{m:Nat}(h:Rk m rs){j k:Nat}(n:j<m)(l:k<m)(e:aC rs j=aC rs k):j=k:=by
 have i:j<rs.length:=by rw[h.len];exact n
 have g:k<rs.length:=by rw[h.len];exact l
 rw[jX i,jX g]at e;exact(Zg h.nd).mp e
theorem qp.wk(R:qp rs ws ps a c){k:Nat}(g:k<ws.length):(gY a).u (aC rs k).toNat=(gY ws).u k/\(gY a).l (aC rs k).toNat=(gY ws).l k/\(gY a).p (aC rs k).toNat=(gY ws).p k:=by
 have e:=R.w k g;exact⟨show(a[(aC rs k).toNat]?.getD (0,0,0)).1=_ by rw[e];rfl,show(a[(aC rs k).toNat]?.getD (0,0,0)).2.1=_ by rw[e];rfl,show(a[(aC rs k).toNat]?.getD (0,0,0)).2.2=_ by rw[e];rfl⟩
noncomputable def bk(rs:XE)(v:Nat):Nat:=rs.idxOf (v:Int)
theorem CJ{m:Nat}(h:Rk m rs){k:Nat}(i:k<m):bk rs (aC rs k).toNat=k:=by
 have j:=h.at i;have l:((aC rs k).toNat:Int)∈rs:=h.zq j.2;have g:bk rs (aC rs k).toNat<rs.length:=YY l;refine h.inj (by rw[<-h.len];exact g) i ?_;rw[jX g];exact(ZE (x:=((aC rs k).toNat:Int)) g).trans (bP j.1)
theorem DE{m:Nat}(h:Rk m rs){v:Nat}(i:v<m):bk rs v<m/\aC rs (bk rs v:Nat)=v:=by
 have j:(v:Int)∈rs:=h.zq i;have g:bk rs v<rs.length:=YY j;refine⟨by rw[<-h.len];exact g,?_⟩;rw[jX g];exact ZE _
theorem qp.to(R:qp rs ws ps a c)(n:fw ws.length ps)(p:Pl a c e b h):Pl ws ps e (λk=>b (aC rs k).toNat) (λk=>h (aC rs k).toNat)/\cst ws (λk=>h (aC rs k).toNat)=cst a h:=by
 have j:∀i,i<ws.length->(aC rs i).toNat<a.length:=λi g=>by rw[R.l];exact(R.r.at g).2
 refine⟨⟨λi g=>p.b0 _ (j i g),λi g=>by rw[<-(R.wk g).2.1];exact p.lh _ (j i g),λi g=>by rw[<-(R.wk g).1];exact p.hu _ (j i g),λi g=>p.en _ (j i g),λx m=>?_⟩,?_⟩
 .have:=p.ne (aC rs x.1,aC rs x.2) (by rw[R.p];exact iG ⟨x,m,rfl⟩);have l:=n x m;show b (aC rs ((x.1.toNat:Nat):Int)).toNat+h (aC rs ((x.1.toNat:Nat):Int)).toNat<=b (aC rs ((x.2.toNat:Nat):Int)).toNat;rw[bP l.1.1,bP l.2.1];exact this
 .unfold cst;rw[R.l,<-R.r.sum (g:=λv=>(gY a).p v*((gY a).u v - h v))];refine iX λi g=>?_;rw[(R.wk g).1,(R.wk g).2.2]
theorem qp.back(R:qp rs ws ps a c)(u:fw ws.length ps)(p:Pl ws ps e b h):Pl a c e (λv=>b (bk rs v)) (λv=>h (bk rs v))/\cst a (λv=>h (bk rs v))=cst ws h:=by
 have k:∀v,v<a.length->bk rs v<ws.length/\(gY a).u v=(gY ws).u (bk rs v)/\(gY a).l v=(gY ws).l (bk rs v):=λv j=>by
  rw[R.l]at j;have l:=DE R.r j;have o:=R.wk l.1;rw[l.2,cJ]at o;exact⟨l.1,o.1,o.2.1⟩
 refine⟨⟨λv j=>p.b0 _ (k v j).1,λv j=>by rw[(k v j).2.2];exact p.lh _ (k v j).1,λv j=>by rw[(k v j).2.1];exact p.hu _ (k v j).1,λv j=>p.en _ (k v j).1,λx s=>?_⟩,?_⟩
 .rw[R.p]at s;obtain⟨y,r,rfl⟩:=fY s;have m:=u y r;have l:=p.ne y r;have g:∀i:Int,0<=i->i<ws.length->bk rs (aC rs i).toNat=i.toNat:=λi w l=>by
   have:=CJ R.r (k:=i.toNat) (by lia);rw[bP w]at this;exact this
  show b (bk rs (aC rs y.1).toNat)+h (bk rs (aC rs y.1).toNat)<=b (bk rs (aC rs y.2).toNat);rw[g _ m.1.1 m.1.2,g _ m.2.1 m.2.2];exact l
 .unfold cst;rw[R.l,<-R.r.sum (g:=λv=>(gY a).p v*((gY a).u v - h (bk rs v)))];refine iX λi n=>?_;rw[(R.wk n).1,(R.wk n).2.2,CJ R.r n]
theorem qp.gm(R:qp rs ws ps a c)(m:fw ws.length ps):fw a.length c:=λx k=>by
 rw[R.p]at k;obtain⟨y,l,rfl⟩:=fY k;have j:=m y l;have g:∀i:Int,0<=i->i<ws.length->0<=aC rs i/\aC rs i<a.length:=λi n o=>by
  have:=R.r.at (k:=i.toNat) (by lia);rw[bP n]at this;rw[R.l];lia
 exact⟨g _ j.1.1 j.1.2,g _ j.2.1 j.2.2⟩
theorem qp.uy(R:qp rs ws ps a c)(n:fw ws.length ps)(p:p3 ps):p3 c:=by
 obtain⟨r,o⟩:=p;refine⟨λx=>r (bk rs x.toNat:Nat),λx l=>?_⟩;rw[R.p]at l;obtain⟨y,k,rfl⟩:=fY l;have j:=n y k;have g:∀i:Int,0<=i->i<ws.length->((bk rs (aC rs i).toNat:Nat):Int)=i:=λi m s=>by
  have:=CJ R.r (k:=i.toNat) (by lia);rw[bP m]at this;rw[this];exact bP m
 show r (bk rs (aC rs y.1).toNat:Nat)<r (bk rs (aC rs y.2).toNat:Nat);rw[g _ j.1.1 j.1.2,g _ j.2.1 j.2.2];exact o y k
end
end aJ
namespace aJ
open PySem L2 TL NF
section
variable {c d:XB}{m k:Nat}{x y a b:Int}
end
end aJ
namespace dy
open PySem L2 TL aJ NF
end dy
namespace ls
open PySem L2 TL aJ
end ls
namespace ls
open PySem L2 TL aJ NF
section
variable {a b:XA}{c d:XB}{f g:XD}{bs fs h i:XE}{z y j l:Int}
end
end ls
namespace ls
open PySem L2 TL aJ NF
theorem sZ{F G:FS}{c:aE}{C:ab}{Q:TL.Fl->aE->ab->Prop}(P:aE->ab->Prop)(g:wpS F c C λl a b=>l=.nx/\P a b)(f:∀a b,P a b->wpS G a b Q):wpS (gF F G) c C Q:=by
 obtain⟨l,a,b,e,rfl,p⟩:=g;obtain⟨d,i,j,h,q⟩:=f a b p;exact fQ ⟨_,_,_,e,d,i,j,h,q⟩
section
variable {a:XA}{b:XB}{c:XD}{bs fs:XE}{z y:Int}{d:XE}
end
end ls
namespace ls
open PySem L2 TL aJ NF
section
variable {a:XA}{b:XB}{c:XD}{bs fs:XE}{z y:Int}{d:XE}
end
end ls
namespace ls
open PySem L2 TL aJ NF
section
variable {a c:XA}{d f:XB}{g i:XD}{bs fs j l:XE}{z y m n e q t:Int}{b h:XH}{rs:XE}
end
end ls
namespace ls
open PySem L2 TL aJ NF
section
variable {ws:XA}{rs:XE}
variable{i:Nat}
def mh(rs:XE)(ws:XA)(i:Nat):Xw:=(bH ws.length).map λv=>if bk rs v<i then w3 ((ws[bk rs v]?).getD (0,0,0))else .lst []
def ws2(rs:XE)(ws:XA):XA:=(bH ws.length).map λv=>(ws[bk rs v]?).getD (0,0,0)
theorem yD:(mh rs ws i).length=ws.length:=by simp[mh]
theorem Ku{v:Nat}(h:v<(mh rs ws i).length):(mh rs ws i)[v]=if bk rs v<i then w3 ((ws[bk rs v]?).getD (0,0,0))else .lst []:=by simp[mh]
theorem Oe:mh rs ws 0=(bH ws.length).map λ_=>T.lst []:=by
 unfold mh;refine cU λv _=>?_;rw[aWa (dP _)]
theorem Rc(R:Rk ws.length rs)(d:i<ws.length):(mh rs ws i).set (aC rs i).toNat (w3 ((ws[i]?).getD (0,0,0)))=mh rs ws (i+1):=by
 apply YI
 .rw[dD,yD,yD]
 .intro v f b;have c:v<ws.length:=by rw[yD]at b;exact b
  rw[List.getElem_set,Ku b,Ku];by_cases h:(aC rs i).toNat=v
  .rw[aWc h,<-h,CJ R d,aWc (bX _)]
  .rw[aWa h];have j:bk rs v≠i:=λg=>h (by
    have:=(DE R c).2;rw[g]at this;rw[this,cJ])
   by_cases a:bk rs v<i
   .rw[aWc a,aWc (cI a)]
   .rw[aWa a,aWa (by lia)]
theorem Q9(R:Rk ws.length rs):mh rs ws ws.length=(ws2 rs ws).map w3:=by
 unfold mh ws2;rw[cK];refine cU λv a=>?_;rw[aWc (DE R (iC a)).1];rfl
theorem QD(R:Rk ws.length rs){ps:XB}:qp rs ws ps (ws2 rs ws) (ps.map λp=>(aC rs p.1,aC rs p.2)):=by
 refine⟨R,by simp[ws2],λk a=>?_,rfl⟩;unfold ws2;rw[bI,eI (R.at a).2];show some ((ws[bk rs (aC rs k).toNat]?).getD (0,0,0))=_;rw[CJ R a,aO a];rfl
theorem Qf(R:Rk ws.length rs){P:Int×Int×Int->Prop}(h:∀w∈ws,P w):∀w∈ws2 rs ws,P w:=λw a=>by
 obtain⟨v,b,rfl⟩:=fY a;exact nQ h (DE R (iC b)).1
theorem EI{b:aE}{C:ab}{a k:Nat}{row:Xw}{i:Int}{r v:T}(g:b[a]?=some (some r))(f:b[k]?=some (some (.int i)))(d:jg C r=some row)(c:dc row i=some v):aH (kI a) (kI k) b C=some (v,C):=
 oK (fL (fO g (fO f (gL ⟨_,d,_,c,rfl,rfl⟩))))
theorem CK{m:Nat}(R:Rk m rs){x:Int}(a:0<=x)(h:x<m):dc (rs.map T.int) x=some (.int (aC rs x)):=by
 have b:x<rs.length:=by rw[R.len];exact h
 rw[w5 a b];have:=jX (bs:=rs) (i:=x.toNat) (by lia);rw[bP a]at this;rw[this]
end
end ls
namespace aJ
open PySem L2 TL NF
noncomputable def kq(n:Nat)(p:Int×Int):Int×Int:=(p.1+n,p.2+n)
section
variable {ws ws1 ws2:XA}{ps a ln:XB}{nd o r:XD}{bs fs s v w A:XE}{z y B C D F e e' q H I:Int}{b h l c m d:XH}
variable{i:Nat}
theorem A7(f:i<ws1.length):(gY (ws1++ws2)).u i=(gY ws1).u i/\(gY (ws1++ws2)).l i=(gY ws1).l i/\(gY (ws1++ws2)).p i=(gY ws1).p i:=by
 have e:(ws1++ws2)[i]?=ws1[i]?:=aR f;exact⟨show((ws1++ws2)[i]?.getD (0,0,0)).1=_ by rw[e];rfl,show((ws1++ws2)[i]?.getD (0,0,0)).2.1=_ by rw[e];rfl,show((ws1++ws2)[i]?.getD (0,0,0)).2.2=_ by rw[e];rfl⟩
theorem AY:(gY (ws1++ws2)).u (ws1.length+i)=(gY ws2).u i/\(gY (ws1++ws2)).l (ws1.length+i)=(gY ws2).l i/\(gY (ws1++ws2)).p (ws1.length+i)=(gY ws2).p i:=by
 have e:(ws1++ws2)[ws1.length+i]?=ws2[i]?:=by rw[bL (b8 _ _)];congr 1;exact cQ ws1.length i
 exact⟨show((ws1++ws2)[ws1.length+i]?.getD (0,0,0)).1=_ by rw[e];rfl,show((ws1++ws2)[ws1.length+i]?.getD (0,0,0)).2.1=_ by rw[e];rfl,show((ws1++ws2)[ws1.length+i]?.getD (0,0,0)).2.2=_ by rw[e];rfl⟩
theorem JZ:cst (ws1++ws2) h=cst ws1 h+cst ws2 λi=>h (ws1.length+i):=by
 unfold cst;rw[aY,qY];congr 1
 .exact iX λi f=>by rw[(A7 f).1,(A7 f).2.2]
 .exact iX λi _=>by rw[AY.1,AY.2.2]
theorem Pl.EN(p:Pl (ws1++ws2) ps e b h)(k:∀x∈a,x∈ps):Pl ws1 a e b h:=by
 have g:∀i,i<ws1.length->i<(ws1++ws2).length:=λi f=>by rw[aY];exact aT6 ws2.length f
 exact⟨λi f=>p.b0 i (g i f),λi f=>by rw[<-(A7 (ws2:=ws2) f).2.1];exact p.lh i (g i f),λi f=>by rw[<-(A7 (ws2:=ws2) f).1];exact p.hu i (g i f),λi f=>p.en i (g i f),λx j=>p.ne x (k x j)⟩
theorem Pl.Et(p:Pl (ws1++ws2) ps e b h)(n:fw ws2.length ln)(t:∀x∈ln,kq ws1.length x∈ps):Pl ws2 ln e (λi=>b (ws1.length+i)) (λi=>h (ws1.length+i)):=by
 have g:∀i,i<ws2.length->ws1.length+i<(ws1++ws2).length:=λi f=>by rw[aY];exact YR f ws1.length
 refine⟨λi f=>p.b0 _ (g i f),λi f=>by rw[<-(AY (ws1:=ws1)).2.1];exact p.lh _ (g i f),λi f=>by rw[<-(AY (ws1:=ws1)).1];exact p.hu _ (g i f),λi f=>p.en _ (g i f),λx k=>?_⟩;have j:=p.ne _ (t x k);have u:=n x k;unfold kq at j;dsimp only at j|-;rw[show(x.1+(ws1.length:Int)).toNat=ws1.length+x.1.toNat by lia,show(x.2+(ws1.length:Int)).toNat=ws1.length+x.2.toNat by lia]at j;exact j
noncomputable def two(n:Nat)(f g:XH)(i:Nat):Int:=if i<n then f i else g (i - n)
theorem sV{n:Nat}{f g:XH}(j:i<n):two n f g i=f i:=aWc j
theorem t7{n:Nat}{f g:XH}:two n f g (n+i)=g i:=by unfold two;rw[aWa (Yc (b8 n i))];congr 1;exact cQ n i
theorem Pl.two(p:Pl ws1 a e l c)(n:Pl ws2 ln e m d)(J:fw ws1.length a)(G:fw ws2.length ln):Pl (ws1++ws2) (a++ln.map (kq ws1.length)) e (two ws1.length l m) (two ws1.length c d):=by
 have key:∀i,i<(ws1++ws2).length->i<ws1.length\/∃j,i=ws1.length+j/\j<ws2.length:=λi f=>by
  rw[aY]at f;by_cases h:i<ws1.length
  .exact .inl h
  .exact .inr ⟨i - ws1.length,eS (eK (cT h)),by lia⟩
 refine⟨λi f=>?_,λi f=>?_,λi f=>?_,λi f=>?_,λx g=>?_⟩
 .rcases key i f with k| ⟨j,rfl,k⟩
  .rw[sV k];exact p.b0 i k
  .rw[t7];exact n.b0 j k
 .rcases key i f with k| ⟨j,rfl,k⟩
  .rw[sV k,(A7 k).2.1];exact p.lh i k
  .rw[t7,AY.2.1];exact n.lh j k
 .rcases key i f with k| ⟨j,rfl,k⟩
  .rw[sV k,(A7 k).1];exact p.hu i k
  .rw[t7,AY.1];exact n.hu j k
 .rcases key i f with k| ⟨j,rfl,k⟩
  .rw[sV k,sV k];exact p.en i k
  .rw[t7,t7];exact n.en j k
 .rcases fZ g with g|g
  .have K:=J x g;rw[sV (by lia),sV (by lia),sV (by lia)];exact p.ne x g
  .obtain⟨u,t,rfl⟩:=fY g;have K:=G u t;unfold kq;dsimp only;rw[show(u.1+(ws1.length:Int)).toNat=ws1.length+u.1.toNat by lia,show(u.2+(ws1.length:Int)).toNat=ws1.length+u.2.toNat by lia,t7,t7,t7];exact n.ne u t
theorem UP:cst (ws1++ws2) (two ws1.length c d)=cst ws1 c+cst ws2 d:=by
 rw[JZ];congr 1
 .exact iX λi f=>by rw[sV f]
 .exact iX λi f=>by show _*(_ - two ws1.length c d (ws1.length+i))=_;rw[t7]
theorem QV(j:fw ws1.length a)(g:fw ws2.length ln):fw (ws1++ws2).length (a++ln.map (kq ws1.length)):=λx f=>by
 rw[aY];rcases fZ f with f|f
 .have:=j x f;lia
 .obtain⟨u,k,rfl⟩:=fY f;have:=g u k;unfold kq;dsimp only;lia
theorem Pl.mono(p:Pl ws ps e b h)(g:e<=e'):Pl ws ps e' b h:=⟨p.b0,p.lh,p.hu,λi f=>bG (p.en i f) g,p.ne⟩
theorem F5(G:gf ws ps nd)(p:Pl ws ps e b h):0<=cst ws h:=n5 λi f=>X3 (nQ (P:=qS) G.ok f).2.2.1 (by have:=p.hu i f;exact bY this)
theorem fi.z4(L:fi ws ps nd bs fs z y)(p:Pl ws ps e b h)(J:0<=e)(K:cst ws h=0):y<=e:=by
 have key:∀i,i<ws.length->aC (ws.map jR) i<=h i:=λi f=>by
  have N:0<=(gY ws).p i:=(nQ (P:=qS) L.g.ok f).2.2.1;have G:=p.hu i f;have j:=p.lh i f;rw[uU f];split
  .exact j
  .rename_i O;have g:=Jh (g:=λi=>(gY ws).p i*((gY ws).u i - h i)) (n:=ws.length) (λk t=>X3 (nQ (P:=qS) L.g.ok t).2.2.1 (by have:=p.hu k t;exact bY this)) f;have M:(gY ws).p i*((gY ws).u i - h i)<=0:=bG g (dI K);by_cases u:h i<(gY ws).u i
   .have:=Int.mul_pos (show 0<(gY ws).p i by lia) (show 0<(gY ws).u i - h i from d7 u);exact absurd M (jZ this)
   .exact gT u
 rw[<-L.yy];refine L.g.fst L.f (aP _) J p.b0 (λx n=>?_) λi f=>?_
 .have G:=p.ne x n;have j:=L.g.gm _ n;have g:=key x.1.toNat (by lia);rw[bP j.1.1]at g;exact bG (Ym g (b x.1.toNat)) G
 .have:=p.en i f;have:=key i f;lia
theorem fi.zero(L:fi ws ps nd bs fs z y):mH ws nd y 0:=by
 obtain⟨_,g,n,p,f⟩:=L.g.free L.f (bonus:=0) (by decide);rw[L.yy]at f;refine⟨_,_,g,n,f,n5 λi j=>(nQ (P:=qS) L.g.ok j).2.2.1,?_⟩;show(0:Int)=sm _ _ - 0*y;rw[lY λk _=>dZ _];simp
end
end aJ
namespace lu
open PySem L2 TL aJ
def MD:FS:=
 (gF (gW (hZ (AS (hZ (iR (fN (g8 2 iW (fN Y0 (fN Y2 f7))) (fN (g8 2 iW (fN Y0 (fN (j7 (fI 2) Y2) f7))) f7)))) (hZ (A0 Y0 (qC (j7 (fI 5) Y2)) (qC (fI 63)))))) (gN 3))
  (vC Y1 (fN (g8 3 xE (fN Y3 (fN (fI 4) (fN (E7 (fI 10) (fI 20)) f7)))) f7)))
def KI:FS:=
 (gF (gW (jL (iR f7)) (gN 1))
  (gF (m3 (fI 2) (gN 2)
   MD)
  (jG Y1)))
def o6:Xw->Xx:=kR KI 4
def wR:FS:=
 (rW (hZ (ya (fN (aH (hZ (AS (aH Y0 (fI 0)) (aH Y1 (fI 0)))) Y7) f7))) Y6 (aH Y5 Y7))
def v4:FS:=
 (vC Y8 (fN (hZ (iR (fN (aH Y5 (j7 Y9 (nX (fN (aH Y0 (fI 0)) f7)))) (fN (aH Y5 (j7 vj (nX (fN (aH Y0 (fI 0)) f7)))) f7)))) f7))
def wA:FS:=
 (gV (tT Y3) (Cu Y8 (fN (lJ (g8 2 kZ (fN Y2 (fN (j7 (j7 (fI 200) (pI (fI 8) Y9)) vj) f7))) (j7 (nX (fN Y8 f7)) (fI 1))) (fN (hZ (iR (fN Y9 (fN vj f7)))) f7))) k7)
def LV:FS:=
 (oN (hZ (sx Y5 (qC (nX (fN (aH Y0 (fI 0)) f7))) oG)) (gN 10)
  wA)
def J3:FS:=
 (gF (gW (j7 (nX (fN (aH Y0 (fI 0)) f7)) (nX (fN (aH Y1 (fI 0)) f7))) (gN 4))
  (gF (gW (g8 2 nP (fN Y2 (fN Y4 f7))) (gN 5))
  (gF (gW (jL (lD Y4 1 [] (gN 0) jA (hZ (iR f7)))) (gN 6))
  (gF (m3 Y4 (gN 7)
   wR)
  (gF (gW (jL (lA (aH Y0 (fI 1)) 2 [5] (gU [0,1]) jA (hZ (iR (fN (aH Y2 Y0) (fN (aH Y2 Y1) f7)))))) (gN 8))
  (gF (oN (aH Y1 (fI 1)) (gU [9,10])
   v4)
  (gF (oN (hZ (sx Y5 oG (qC (nX (fN (aH Y0 (fI 0)) f7))))) (gN 9)
   LV)
  (jG (uA (fN Y6 (fN Y8 f7)))))))))))
def tD:Xw->Xx:=kR J3 11
def q9:FS:=
 (gF (gW (qK (aH (aH Y4 (qK Y5 (fI 1))) (fI 0)) (aH (aH Y4 Y5) (fI 0))) (gN 6))
  (vC Y1 (fN (uA (fN (Bj (qK (aH (aH Y4 Y5) (fI 1)) (aH (aH Y4 (qK Y5 (fI 1))) (fI 1))) Y6) (fN Y6 f7))) f7)))
def qQ:FS:=
 (gF (gW (Gg 2 p8 (fN Y2 (fN Y3 f7))) (gN 4))
  (qL (fI 1) (nX (fN Y4 f7)) (gN 5)
   q9))
def zZ:FS:=
 (gF (gW (jL (iR f7)) (gN 1))
  (gF (oN Y0 (gU [2,3])
   qQ)
  (jG (hZ (x4 (fN Y1 f7))))))
def nY:Xw->Xx:=kR zZ 7
def sI:FS:=
 (gF (gW (j7 Y2 (pI Y3 (sM (fN Y4 (fN Y1 f7))))) (gN 2))
  (gW (qK Y1 (sM (fN Y4 (fN Y1 f7)))) (gN 1)))
def vB:FS:=
 (gF (gW (fI 0) (gN 2))
  (gF (oN Y0 (gU [3,4])
   sI)
  (jG Y2)))
def mK:Xw->Xx:=kR vB 5
def KF:FS:=
 (gF (gW (g8 3 mB (fN Y2 (fN Y3 (fN Bp f7)))) (gN 12))
  (gV (ve (tV (tT (g8 1 u3 (fN CQ f7)))) (kB (Dr CQ (g8 2 mK (fN Y7 (fN (qK Y6 Bp) f7)))))) (jG (fC (.bl false))) k7))
def Io:FS:=
 (gF (gW (g8 1 o6 (fN Y0 f7)) (gN 1))
  (gF (gW (g8 4 tD (fN (aH Y1 (fI 0)) (fN (aH Y1 (fI 1)) (fN (g8 2 iW (fN Y0 (fN (fI 4) f7))) (fN (fC (.bl true)) f7))))) (gU [2,3]))
  (gF (gW (hZ (lA Y1 1 [] (gN 0) jA (g8 2 pV (fN (aH Y0 (fI 0)) (fN (aH Y0 (fI 1)) f7))))) (gN 4))
  (gF (gW (j7 (aH (aH Y4 (fI 0)) (fI 0)) (aH (aH Y4 (fI 1)) (fI 0))) (gN 5))
  (gF (gW (j7 (aH (aH Y4 (fI 0)) (fI 1)) (aH (aH Y4 (fI 1)) (fI 1))) (gN 6))
  (gF (gV (ve (kB (Dr (g8 2 i7 (fN Y2 (fN Y3 f7))) Y5)) (kB (Dr (g8 2 l9 (fN Y2 (fN Y3 f7))) Y6))) (jG (fC (.bl false))) k7)
  (gF (gV (kB (kA (g8 3 mB (fN Y2 (fN Y3 (fN (qK Y5 (fI 1)) f7)))) (fC .aF) Bm)) (jG (fC (.bl false))) k7)
  (gF (gW (g8 1 nY (fN Y1 f7)) (gN 7))
  (gF (gW (g8 2 iW (fN Y0 (fN (fI 4) f7))) (gN 8))
  (gF (gW (j7 (pI (g8 2 kZ (fN Y8 (fN (fI 70) f7))) (E7 (g8 2 kZ (fN Y8 (fN (fI 71) f7))) (fI 3))) (g8 2 iW (fN Y0 (fN (fI 62) f7)))) (gN 9))
  (gF (gW (j7 Y5 (lJ Y9 (j7 (qK Y6 Y5) (fI 1)))) (gN 10))
  (gF (oN (hZ (sx (hZ (iR (fN Y5 (fN vj (fN (FD (fN Y5 (fN (qK Y6 (fI 1)) f7))) f7))))) (qC (lJ Y8 (fI 2))) oG)) (gN 11)
   KF)
  (jG (fC (.bl true)))))))))))))))
def CC:Xw->Xx:=kR Io 13
end lu
namespace TL
open PySem L2
theorem R7{c:aE}{C:ab}{a:FE}{lo m:FO}{n:Xw->ab->Prop}:ef (A0 a lo m) c C n↔aD a c C λt f=>tq lo c f λl d=>tq m c d λh b=>∃ts,dm b t=some ts/\n (sN ts l h) b:=by
 unfold ef aD tq A0;constructor
 .rintro⟨t,o,e,q⟩;obtain⟨⟨x,f⟩,k,e⟩:=fE e;obtain⟨⟨y,d⟩,j,e⟩:=fE e;obtain⟨⟨z,b⟩,i,e⟩:=fE e;obtain⟨ts,g,e⟩:=fG e;cases e;exact⟨x,f,k,y,d,j,z,_,i,ts,g,q⟩
 .rintro⟨x,f,k,y,d,j,z,b,i,ts,g,q⟩;exact⟨_,b,by simp[k,j,i,g],q⟩
theorem qU{c:Type}{xs:List c}{k:Int}(d:0<=k):(sN xs (some k) (some 63)).length<=60:=by
 have key:∀a b:Int,0<=a->b<=63->(aYj a b 2).length<=60:=λa b g f=>by
  unfold aYj;rw[aP,Yi,aWc (by decide)];split<;>lia
 exact bB (List.length_filterMap_le _ _) (key _ _ (Zu _ _) (aUG.mpr ⟨by decide,Zt _ _⟩))
end TL
namespace lu
open PySem L2 TL aJ NF ls
variable{ns:XE}
def Ak(ns:XE)(k:Int):XE:=[m7 ns k,m7 ns (2+k)]++sN ns (some (5+k)) (some 63)
theorem J1{k:Int}(a:0<=k):(Ak ns k).length<=63:=by
 have:=qU (xs:=ns) (k:=5+k) (eA (by decide) a);simp only[Ak,aY,aN,aW];exact bB (YS this (0+1+1)) (by decide)
theorem RG{f:Nat->T}(g:∀k:Nat,k<2->CF (f k)=true/\xE [.lst ((Ak ns k).map T.int),.int 4,.int (10^20)]=some (f k)):o6 [.lst (ns.map T.int)]=some (.lst [f 0,f 1]):=by
 suffices h:∃t,o6 [.lst (ns.map T.int)]=some t/\t=.lst [f 0,f 1]by
  obtain⟨_,e,rfl⟩:=h;exact e
 refine rR λQ q=>?_;unfold KI;refine fQ (f8 (iK (gK (fM ⟨by decide,fT (fV (fQ (lG (fS ⟨_,rfl,by decide,?_⟩))))⟩))));refine qI (λi d C=>C=[(.l,(bH i).map f)]/\∃a b,d=[some (.lst (ns.map T.int)),some (.cell 0),a,b]) ⟨rfl,_,_,rfl⟩ ?_ ?_
 .rintro i d _ j ⟨rfl,a,b,rfl⟩ Q q;obtain⟨o,l⟩:=g i j;have c:(0:Int)<=(i:Int):=bN _;have m:=qU (xs:=ns) (k:=5+(i:Int)) (eA (by decide) c);unfold MD;rw[cW];refine fT (ej (t:=.lst ((Ak ns i).map T.int)) ?_ ?_)
  .refine gA (lR (gA (gK (fF (yn rfl (fO rfl ⟨rfl,rfl⟩) c (fF (yn rfl (fL (fS (fO rfl (gC ⟨rfl,rfl⟩)))) (eA (by decide) c) (fM ⟨rB,gA (R7.mpr (fO rfl (j8 (fL (fS (fO rfl (gC ⟨_,rfl,j8 (fS ⟨_,rfl,_,rfl,?_⟩)⟩)))))))⟩))))))));rw[To];refine mE ⟨_,rfl,_,rfl,?_,?_,rfl⟩
   .simp only[aN,aW,aP,lim];exact bB (YS m 2) (by decide)
   .rw[Ak,bR];rfl
  .refine i6 (fO rfl (fF (f9 (fF (fO rfl (fF (fS (fF (fL (fS (fS (gE ⟨by decide,fM ((gP l rfl (by walk_at "c")).mpr (fM ⟨0,rfl,rfl,_,rfl,jY ⟨uK (k:=2) ?_ (by decide),q _ _ trivial ⟨?_,_,_,rfl⟩⟩⟩))⟩))))))))))))
   .rw[Yi];exact dY j
   .rw[YL,bR];rfl
 .rintro d _ ⟨rfl,a,b,rfl⟩;have n:=(g 0 (by decide)).1;have c:=(g 1 (by decide)).1;exact fV (gG (fO rfl (q _ _ _ _ (tI (ts:=[f 0,f 1]) rfl (by rw[gH,gH,iQ,n,c];rfl)) rfl)))
section
variable {wa wb:XA}{pa pb:XB}{c:Int}{bh:Bool}{rs:XE}
abbrev eD(ws:XA)(ps:XB):T:=.tup [.lst (ws.map w3),.lst (ps.map pT)]
abbrev sQ(wa wb:XA)(pa pb:XB)(c:Int)(bh:Bool)(r:aE):aE:=[some (eD wa pa),some (eD wb pb),some (.int c),some (.bl bh)]++r
theorem Cv{ws:XA}{ps:XB}{k:Nat}{a:aE}{C:ab}(h:a[k]?=some (some (eD ws ps))):nX (fN (aH (kI k) (fI 0)) f7) a C=some (.int ws.length,C):=oK (f9 (fF (gM (dy.tx h rfl rfl) (fM (l7 ⟨_,rfl,by rw[aP],rfl⟩)))))
theorem HU{k:Nat}{a:aE}{C:ab}{x:Int}{v:T}(f:a[5]?=some (some (.lst (rs.map T.int))))(d:a[k]?=some (some (.int x)))(g:a[0]?=some (some (eD wa pa)))(b:dc (rs.map T.int) (x+wa.length)=some v):aH Y5 (j7 (kI k) (nX (fN (aH Y0 (fI 0)) f7))) a C=some (v,C):=oK (fL (fO f (fL (fO d (gM (Cv g) (gC (gL ⟨_,rfl,_,b,rfl,rfl⟩)))))))
def lp(rs:XE)(p:Int×Int):Int×Int:=(aC rs p.1,aC rs p.2)
theorem QU(l:wa.length<=4)(q:wb.length<=4)(t:pa.length<=20)(e:pb.length<=20)(s:fw wa.length pa)(r:fw wb.length pb)(R:Rk (wa++wb).length rs)(en:nP [.int c,.int (wa++wb).length]=some (.lst (rs.map T.int))){G:FS}{Q:TL.Fl->aE->ab->Prop}
 (h:∀a b d,wpS G (sQ wa wb pa pb c bh [some (.int (wa++wb).length),some (.lst (rs.map T.int)),some (.cell 0),a,some (.cell 1),b,d]) [(.l,(ws2 rs (wa++wb)).map w3),(.l,((pa++pb.map (kq wa.length)).map (lp rs)).map pT)] Q):
 wpS (gF (gW (j7 (nX (fN (aH Y0 (fI 0)) f7)) (nX (fN (aH Y1 (fI 0)) f7))) (gN 4))
 (gF (gW (g8 2 nP (fN Y2 (fN Y4 f7))) (gN 5))
 (gF (gW (jL (lD Y4 1 [] (gN 0) jA (hZ (iR f7)))) (gN 6))
 (gF (m3 Y4 (gN 7)
  wR)
 (gF (gW (jL (lA (aH Y0 (fI 1)) 2 [5] (gU [0,1]) jA (hZ (iR (fN (aH Y2 Y0) (fN (aH Y2 Y1) f7)))))) (gN 8))
 (gF (oN (aH Y1 (fI 1)) (gU [9,10])
  v4) G)))))) (sQ wa wb pa pb c bh [none,none,none,none,none,none,none]) [] Q:=by
 have y:(wa.length:Int)+(wb.length:Int)=((wa++wb).length:Int):=by rw[aY];lia
 have x:(wa++wb).length<=8:=by rw[aY];exact bB (YS q wa.length) (ZT l 4)
 have m:∀{C Q},bf (kU 2 nP [.int c,.int (wa++wb).length] C) Q↔Q (.lst (rs.map T.int)) C:=gP en rfl (by walk_at "c");refine sZ (λf C=>C=[]/\f=sQ wa wb pa pb c bh [some (.int (wa++wb).length),none,none,none,none,none,none]) ?_ ?_
 .refine f8 (fL (gM (Cv (k:=0) rfl) (gM (Cv (k:=1) rfl) (gC (fT ⟨rfl,rfl,?_⟩)))));rw[y];rfl
 rintro _ _ ⟨rfl,rfl⟩;generalize k:wa++wb=ws at*;refine sZ (λf C=>C=[]/\f=sQ wa wb pa pb c bh [some (.int ws.length),some (.lst (rs.map T.int)),none,none,none,none,none]) ?_ ?_
 .exact f8 (f9 (fF (fO rfl (fF (fO rfl (fM (m.mpr (fT ⟨rfl,rfl,rfl⟩))))))))
 rintro _ _ ⟨rfl,rfl⟩;refine sZ (λf C=>C=[(.l,mh rs ws 0)]/\f=sQ wa wb pa pb c bh [some (.int ws.length),some (.lst (rs.map T.int)),some (.cell 0),none,none,none,none]) ?_ ?_
 .refine f8 (iK (qZ.mpr (hX ⟨_,rfl,_,rfl,by lia,?_⟩)));rw[qE];refine iY (λ_=>T.lst []) (λi _=>fT (gA (gK (fM ⟨by decide,rfl,rfl⟩)))) (fT ⟨rfl,?_,rfl⟩);rw[Oe,cJ];rfl
 rintro _ _ ⟨rfl,rfl⟩;refine sZ (λf C=>C=[(.l,mh rs ws ws.length)]/\∃a,f=sQ wa wb pa pb c bh [some (.int ws.length),some (.lst (rs.map T.int)),some (.cell 0),a,none,none,none]) ?_ ?_
 .refine lG (hX ⟨_,rfl,_,rfl,by lia,?_⟩);rw[cJ];refine tS (λi f C=>C=[(.l,mh rs ws i)]/\∃a,f=sQ wa wb pa pb c bh [some (.int ws.length),some (.lst (rs.map T.int)),some (.cell 0),a,none,none,none]) ⟨rfl,_,rfl⟩ ?_ ?_
  .rintro i f C g ⟨rfl,a,rfl⟩;have v:=CK R (x:=(0+(i:Int))) (b9 (bN i)) (by lia);have u:=dy.Nv g;unfold wR;refine fT (uY.mpr (gA (u8.mpr (fF (fL (gA (lR (gM (dy.tx (a:=0) rfl rfl rfl) (gM (dy.tx (a:=1) rfl rfl rfl) (mE ⟨_,rfl,_,rfl,?_,?_⟩))))))))))
   .simp only[aP,lim];exact bB (Zo l q) (by decide)
   rw[<-bR,k];refine fO rfl (gL ⟨_,rfl,_,by rw[cW];exact u,fM (KR.mpr ⟨_,rfl,fO rfl (gM (EI (i:=0+(i:Int)) rfl rfl rfl v) ⟨_,_,rfl,rfl,_,rfl,?_⟩)⟩)⟩);have l:=R.at g;rw[cW,yD];refine⟨_,CO l.1 (by lia),trivial,?_,_,rfl⟩;show[(Kd.l,(mh rs ws i).set (aC rs i).toNat (w3 ((ws[i]?).getD (0,0,0))))]=_;rw[Rc R g]
  .rintro f C ⟨rfl,a,rfl⟩;exact⟨rfl,rfl,_,rfl⟩
 rintro _ _ ⟨rfl,a,rfl⟩;rw[Q9 R];refine sZ (λf C=>C=[(.l,(ws2 rs ws).map w3),(.l,(pa.map (lp rs)).map pT)]/\f=sQ wa wb pa pb c bh [some (.int ws.length),some (.lst (rs.map T.int)),some (.cell 0),a,some (.cell 1),none,none]) ?_ ?_
 .have z:(pa.map (lp rs)).map pT=pa.map λp=>pT (aC rs p.1,aC rs p.2):=by rw[cK];rfl
  refine f8 (iK (jK (gM (dy.tx (a:=0) rfl rfl rfl) ⟨_,rfl,by simp[lim];exact bO t (by decide),iY (λp=>pT (aC rs p.1,aC rs p.2)) (λp w=>?_) (fT ⟨rfl,by rw[z];rfl,rfl⟩)⟩)));have j:=s p w;have o:=CK R j.1.1 (by rw[<-k,aY];lia);have n:=CK R j.2.1 (by rw[<-k,aY];lia);exact kX ⟨_,rfl,rfl,gA (gK (fF (gM (EI (a:=2) (k:=0) rfl rfl rfl o) (fF (gM (EI (a:=2) (k:=1) rfl rfl rfl n) (fM ⟨rB,rfl,rfl⟩))))))⟩
 rintro _ _ ⟨rfl,rfl⟩;refine sZ (λf C=>C=[(.l,(ws2 rs ws).map w3),(.l,((pa++pb.map (kq wa.length)).map (lp rs)).map pT)]/\∃b d,f=sQ wa wb pa pb c bh [some (.int ws.length),some (.lst (rs.map T.int)),some (.cell 0),a,some (.cell 1),b,d]) ?_ ?_
 .refine iS (gM (dy.tx (a:=1) rfl rfl rfl) ⟨_,rfl,?_⟩);refine lC (xs:=pb) (en:=pT) (λi f C=>C=[(.l,(ws2 rs ws).map w3),(.l,((pa++(pb.take i).map (kq wa.length)).map (lp rs)).map pT)]/\∃b d,f=sQ wa wb pa pb c bh [some (.int ws.length),some (.lst (rs.map T.int)),some (.cell 0),a,some (.cell 1),b,d]) ⟨by rw[List.take_zero,bE,aU],_,_,rfl⟩ ?_ ?_
  .rintro i p f C g ⟨rfl,b,d,rfl⟩;have j:=r p (aX g);have o:=CK R (x:=p.1+wa.length) (bG (bN wa.length) (cO j.1.1)) (by rw[<-k,aY];lia);have n:=CK R (x:=p.2+wa.length) (bG (bN wa.length) (cO j.2.1)) (by rw[<-k,aY];lia);unfold v4;refine kX ⟨_,rfl,rfl,?_⟩;refine i6 (fO rfl (fF (gA (gK (fF (gM (HU (wa:=wa) (pa:=pa) rfl rfl rfl o) (fF (gM (HU (wa:=wa) (pa:=pa) rfl rfl rfl n) (fM ⟨by simp[lim],fM ⟨_,rfl,rfl,_,rfl,jY ⟨?_,trivial,?_,_,_,rfl⟩⟩⟩)))))))))
   .simp only[aP,aY,eE,lim];lia
   .show[(Kd.l,(ws2 rs ws).map w3),(Kd.l,((pa++(pb.take i).map (kq wa.length)).map (lp rs)).map pT++[pT (lp rs (kq wa.length p))])]=_;rw[Ys,g];simp only[bR,dH];rfl
  .rintro f C ⟨rfl,b,d,rfl⟩;rw[dE];exact⟨rfl,rfl,_,_,rfl⟩
 rintro _ _ ⟨rfl,b,d,rfl⟩;exact h _ _ _
end
end lu
namespace lu
open PySem L2 TL aJ NF ls
variable {rs g:XE}{c x y:Int}{W:Xw}{ps:XB}{f:aE}{Q:TL.Fl->aE->ab->Prop}
theorem put3(l:f[2]?=some (some (.int c)))(k:f[3]?=some (some (.bl true)))(h:f[8]?=some (some (.cell 1)))(d:f[9]?=some (some (.int x)))(a:f[10]?=some (some (.int y)))(o:0<=x/\x<8)(n:0<=y/\y<8)(i:ps.length<=100)
 (q:∀z,Q .nx f [(.l,W),(.l,(b5 ps z (x,y)).map pT)]):wpS wA f [(.l,W),(.l,ps.map pT)] Q:=by
 have j:Bt 20 (200+8*x+y):=.xi (by lia) (by lia) (by decide);have b:0<(ps.length:Int)+1:=dX (bN ps.length);have m:=j0 (x:=oJ c (200+8*x+y)) b;unfold wA;refine i9 (mD (fO k ⟨_,rfl,(aWc rfl).mpr (i6 (fO h (fF (fL (f9 (fF (fO l (fF ?_))))))))⟩));refine fL (fL (fS (fL (fS (fO d (gE ⟨jV ((Bt.of_lt (k:=20) (by decide) (by decide)).mono (by decide)),gC (fO a (gC (fM ((qF j).mpr ?_))))⟩))))));refine fL (f9 (fF (fO h (fM (l7 ⟨_,rfl,fS (gC (gE ⟨?_,?_⟩))⟩)))))
 .rw[aP];exact m9 b
 rw[aP];generalize oJ c (200+8*x+y)%((ps.length:Int)+1)=z at m;refine fF (gA (gK (fF (fO d (fF (fO a (fM ⟨rB,fM ⟨1,rfl,rfl,_,rfl,yE.mpr ⟨⟨uK (k:=100) i (by decide),by lia,by lia⟩,?_⟩⟩⟩)))))));have:=q z;rw[<-tJ]at this;exact this
theorem Rx{k wb:XA}{l pb:XB}(A:k.length<=4)(G:wb.length<=4)(F:l.length<=20)(D:pb.length<=20)(J:fw k.length l)(I:fw wb.length pb):∃rs,Rk (k++wb).length rs/\∃ps:XB,tD [eD k l,eD wb pb,.int c,.bl true]=some (eD (ws2 rs (k++wb)) ps)/\ps.length<=60/\
 ∀x,x∈ps↔x∈(l++pb.map (kq k.length)).map (lp rs)\/(x.1∈rs.take k.length/\x.2∈rs.drop k.length):=by
 obtain⟨_,en,rs,rfl,R⟩:=Mi (c:=c) (m:=(k++wb).length) (by rw[aY];exact bB (YS G k.length) (ZT A 4));refine⟨rs,R,?_⟩;have N:=R.len;rw[aY]at N;suffices h:∃t,tD [eD k l,eD wb pb,.int c,.bl true]=some t/\∃ps:XB,t=eD (ws2 rs (k++wb)) ps/\ps.length<=60/\∀x,x∈ps↔x∈(l++pb.map (kq k.length)).map (lp rs)\/(x.1∈rs.take k.length/\x.2∈rs.drop k.length)by
  obtain⟨_,e,ps,rfl,h⟩:=h;exact⟨ps,e,h⟩
 have S:((l++pb.map (kq k.length)).map (lp rs)).length<=40:=by simp only[aP,aY];exact bB (YS D l.length) (ZT F 20)
 have B:∀x∈rs,0<=x/\x<8:=λx m=>by have:=R.hQ x m;rw[aY]at this;lia
 refine rR λQ q=>?_;unfold J3;refine QU (bh:=true) A G F D J I R en λa b d=>?_;generalize (l++pb.map (kq k.length)).map (lp rs)=bs at*;have U:(rs.take k.length).length<=4:=by rw[eE];exact bB (d0 k.length rs.length) A
 have hB:(rs.drop k.length).length<=4:=by rw[Zh];lia
 refine fQ (iS (gA (mS (fO rfl (mT (j8 (gM (Cv (ws:=k) (ps:=l) (k:=0) rfl) ⟨_,rfl,_,rfl,?_⟩)))))));rw[qJ,Kj (bN _),cJ];have L:∀x∈rs.take k.length,0<=x/\x<8:=λx m=>B x (aTx m);have K:∀x∈rs.drop k.length,0<=x/\x<8:=λx m=>B x (aTw m);refine⟨_,rfl,pZ (λi f C=>∃g:XB,C=[(.l,(ws2 rs (k++wb)).map w3),(.l,g.map pT)]/\g.length<=40+i*4/\(∀x,x∈g↔x∈bs\/(x.1∈(rs.take k.length).take i/\x.2∈rs.drop k.length))/\∃b d,f=sQ k wb l pb c true [some (.int (k++wb).length),some (.lst (rs.map T.int)),some (.cell 0),a,some (.cell 1),b,d]) ⟨bs,rfl,S,λx=>by simp,_,_,rfl⟩ ?_ ?_⟩
 .rintro i x f C w ⟨g,rfl,o,r,b,d,rfl⟩ Q q;have m:=L x (aX w);have P:i<4:=aM (fK w).1 U;unfold LV;refine fT (iS (gA (mS (fO rfl (j8 (gM (Cv (ws:=k) (ps:=l) (k:=0) rfl) ⟨_,rfl,mT ⟨_,rfl,?_⟩⟩))))));rw[qJ,Mb (bN _),cJ];refine⟨_,rfl,pZ (λj f C=>∃n:XB,C=[(.l,(ws2 rs (k++wb)).map w3),(.l,n.map pT)]/\n.length<=40+i*4+j/\(∀z,z∈n↔z∈g\/(z.1=x/\z.2∈(rs.drop k.length).take j))/\∃d,f=sQ k wb l pb c true [some (.int (k++wb).length),some (.lst (rs.map T.int)),some (.cell 0),a,some (.cell 1),some (.int x),d]) ⟨g,rfl,o,λz=>by simp,_,rfl⟩ ?_ ?_⟩
  .rintro j y f C u ⟨n,rfl,s,p,d,rfl⟩ Q q;have M:=K y (aX u);have O:j<4:=aM (fK u).1 hB;refine fT (put3 (c:=c) (x:=x) (y:=y) rfl rfl rfl rfl rfl m M (by lia) λz=>q _ _ trivial ⟨_,rfl,by rw[uI];lia,λv=>?_,_,rfl⟩);rw[rX.mem_iff,cC,p,X7,u];simp only[d9,XZ,eV];constructor
   .rintro(rfl|h|h)
    .exact .inr ⟨rfl,.inr rfl⟩
    .exact .inl h
    .exact .inr ⟨h.1,.inl h.2⟩
   .rintro(h| ⟨h1,h|h⟩)
    .exact .inr (.inl h)
    .exact .inr (.inr ⟨h1,h⟩)
    .exact .inl (YX h1 h)
  .rintro f C ⟨n,rfl,s,p,d,rfl⟩;rw[dE]at p;refine q _ _ trivial ⟨n,rfl,by lia,λv=>?_,_,_,rfl⟩;rw[p,r,X7,w];simp only[d9,XZ,eV];constructor
   .rintro((h|h)|h)
    .exact .inl h
    .exact .inr ⟨.inl h.1,h.2⟩
    .exact .inr ⟨.inr h.1,h.2⟩
   .rintro(h| ⟨h1|h1,H⟩)
    .exact .inl (.inl h)
    .exact .inl (.inr ⟨h1,H⟩)
    .exact .inr ⟨h1,H⟩
 .rintro f C ⟨g,rfl,o,r,b,d,rfl⟩;rw[dE]at r;refine fV (gG (lS (fF (fO rfl (fF (fO rfl (fM ⟨rB,q _ _ _ _ (IU (lH (tI rfl qX) (lH (Lw rfl) Lo))) ⟨g,rfl,by lia,r⟩⟩)))))))
end lu
namespace NF
variable {w:Wk}{n:Nat}{es:XC}{P:Int}{f p:XH}{a e b q x:Int}
def Seg(w:Wk)(n:Nat)(es:XC)(P e b q a:Int):Prop:=∃f m r,Good w n es P f a m/\m 1=b/\Good w n es P f a r/\r 1=e/\q=len (net w n es P) f - a*e/\a<=sm n w.p
theorem Seg.at_(S:Seg w n es P e b q a)(j:b<=x)(i:x<=e):∃f p,Good w n es P f a p/\p 1=x/\q+a*(e - x)=len (net w n es P) f - a*x/\a<=sm n w.p:=by
 obtain⟨f,m,r,G,g,l,c,rfl,h⟩:=S;obtain⟨p,k,d⟩:=G.uu l (e:=x) (bG (dI g) j) (bG i (dI (eS c)));exact⟨f,p,k,d,by rw[dL];lia,h⟩
structure kf(w:Wk)(n:Nat)(es:XC)(P y:Int)(E Q A:XH)(k:Nat):Prop where
 e0:E 0=y
 q0:Q 0=0
 a0:A 0=0
 seg:∀i,i<k->Seg w n es P (E i) (E (i+1)) (Q i) (A (i+1))
 k4:∀i,i<k->E (i+1)<E i
 uo:∀i,i<k->A i<A (i+1)
 price:∀i,i<k->Q (i+1)=Q i+A (i+1)*(E i - E (i+1))
theorem kf.sv{y:Int}{E Q A:XH}{k:Nat}(C:kf w n es P y E Q A k):∀{j i:Nat},i<j->j<=k->E j<E i
 |0,i,h,_=>absurd h (dP i)
 |j+1,i,h,c=>by
  have:=C.k4 j (fD c);by_cases d:i=j
  .rw[d];exact this
  .have:=C.sv (j:=j) (i:=i) (bV (bJ h) d) (cZ c);lia
theorem kf.le{y:Int}{E Q A:XH}{k i:Nat}(C:kf w n es P y E Q A k)(h:i<=k):E i<=y:=by
 rw[<-C.e0];rcases aTM i with z|z
 .rw[z];exact bK _
 .exact bU (C.sv z h)
theorem kf.ge{y:Int}{E Q A:XH}{k i:Nat}(C:kf w n es P y E Q A k)(h:i<=k):E k<=E i:=by
 rcases Nat.lt_or_eq_of_le h with z|z
 .exact bU (C.sv z (bD _))
 .rw[z];exact bK _
theorem kf.more{y:Int}{E Q A:XH}{k:Nat}(C:kf w n es P y E Q A k)(S:Seg w n es P (E k) e (Q k) a)(d:e<E k)(j:A k<a):kf w n es P y (up E (k+1) e) (up Q (k+1) (Q k+a*(E k - e))) (up A (k+1) a) (k+1):=by
 have l:∀{i:Nat}{g:XH}{v:Int},i<=k->up g (k+1) v i=g i:=λh=>uD (by lia);refine⟨by rw[l (dF _)];exact C.e0,by rw[l (dF _)];exact C.q0,by rw[l (dF _)];exact C.a0,λi c=>?_,λi c=>?_,λi c=>?_,λi c=>?_⟩<;>by_cases h:i=k
 .subst h;rw[kY,kY,l (bD _),l (bD _)];exact S
 .rw[l (bJ c),l (bS (bV (bJ c) h)),l (bJ c),l (bS (bV (bJ c) h))];exact C.seg i (bV (bJ c) h)
 .subst h;rw[kY,l (bD _)];exact d
 .rw[l (bS (bV (bJ c) h)),l (bJ c)];exact C.k4 i (bV (bJ c) h)
 .subst h;rw[kY,l (bD _)];exact j
 .rw[l (bJ c),l (bS (bV (bJ c) h))];exact C.uo i (bV (bJ c) h)
 .subst h;rw[kY,kY,kY,l (bD _),l (bD _)]
 .rw[l (bS (bV (bJ c) h)),l (bJ c),l (bS (bV (bJ c) h)),l (bJ c),l (bS (bV (bJ c) h))];exact C.price i (bV (bJ c) h)
theorem Wm(m:ke (net w n es P) f a):(sm (net w n es P).m λk=>if(net w n es P).t k=0 then f k else 0)=a:=by
 have:=m λv=>if v=0 then 0 else 1
 simp only[Nat.one_ne_zero,if_true,if_false,eU,Z4]at this;rw[<-this];refine iX λk j=>?_;have l:(net w n es P).h k≠0:=by
  cases pipe j with
  |src i g e t h d c=>rw[h];lia
  |gr i g e t h d c=>rw[h];lia
  |gv i g e t h d c=>rw[h];lia
  |eM i g e t h d c=>rw[h];decide
  |eW x y i g e t h d c=>rw[h];lia
 rw[aWa l];split<;>simp
end NF
namespace NF
variable {w:Wk}{n:Nat}{es:XC}{P:Int}{f m r:XH}{a:Int}
variable{N:Nt}{i:Nat}
noncomputable def oI(m r:XH)(v:Nat):Int:=if m v<r v then 1 else 0
theorem tQ(m r:XH)(v:Nat):oI m r v=0\/oI m r v=1:=by unfold oI;split<;>simp
theorem Lu(o:jl N f m)(l:jl N f r){k:Nat}(b:k<N.m)(d:0<f k)(c:f k<N.c k):oI m r (N.h k)=oI m r (N.t k):=by
 have j:=o k b;have g:=l k b;have:=j.1 c;have:=j.2 d;have:=g.1 c;have:=g.2 d;unfold oI;by_cases h:m (N.t k)<r (N.t k)
 .rw[aWc h,aWc (by lia)]
 .rw[aWa h,aWa (by lia)]
theorem U1(d:jl N f m)(c:jl N f r)(g:ni N f){k:Nat}(b:k<N.m)(j:f k<N.c k):f k*(oI m r (N.h k) - oI m r (N.t k))=0:=by
 by_cases h:0<f k
 .rw[Lu d c b h j,Yo,X4]
 .have:=(g k b).1;rw[show f k=0 from cA (gT h) this,dZ]
theorem Ie{n:Nat}{g:XH}(c:i<n)(h:∀j,j<n->j≠i->g j=0):sm n g=g i:=by
 have:=IP (x:=λ_=>0) (v:=g i) c;rw[lY λ_ _=>rfl]at this;rw[iX (g':=up (λ_=>0) i (g i)) λj b=>?_,this]
 .exact XU (cW (g i - 0)) (eU (g i))
 .by_cases e:j=i
  .rw[e,kY]
  .rw[uD e,h j b e]
theorem nt(o:i<n):((net w n es P).t (4*i)=0/\(net w n es P).h (4*i)=2*i+2)/\((net w n es P).t (4*i+1)=2*i+2/\(net w n es P).h (4*i+1)=2*i+3/\(net w n es P).c (4*i+1)=w.p i)/\((net w n es P).t (4*i+2)=2*i+2/\(net w n es P).h (4*i+2)=2*i+3)/\(net w n es P).t (4*i+3)=2*i+3/\(net w n es P).h (4*i+3)=1:=by
 have l:4*i<4*n:=by lia
 have k:4*i+1<4*n:=by lia
 have j:4*i+2<4*n:=by lia
 have h:4*i+3<4*n:=by lia
 have g:4*i%4=0:=by lia
 have d:(4*i+1)%4=1:=by lia
 have c:(4*i+2)%4=2:=by lia
 have b:(4*i+3)%4=3:=by lia
 have c0:4*i/4=i:=by lia
 have c1:(4*i+1)/4=i:=by lia
 have c2:(4*i+2)/4=i:=by lia
 have c3:(4*i+3)/4=i:=by lia
 simp only[net,l,k,j,h,g,d,c,b,c0,c1,c2,c3,if_true,and_self]
theorem Ai(c:ke (net w n es P) f a)(p:XH):sm n (λi=>f (4*i)*(p (2*i+2) - p 0)+f (4*i+1)*(p (2*i+3) - p (2*i+2))+f (4*i+2)*(p (2*i+3) - p (2*i+2))+f (4*i+3)*(p 1 - p (2*i+3)))+sm es.length (λj=>f (4*n+j)*(p ((net w n es P).h (4*n+j)) - p ((net w n es P).t (4*n+j))))=a*(p 1 - p 0):=by
 rw[<-c p,show(net w n es P).m=4*n+es.length from rfl,qY,yS];congr 1;refine iX λi b=>?_;obtain⟨⟨s,q⟩,⟨o,l,_⟩,⟨k,h⟩,g,d⟩:=nt (w:=w) (es:=es) (P:=P) b;rw[s,q,o,l,k,h,g,d]
theorem DY{j:Nat}(b:j<es.length):(net w n es P).t (4*n+j)=2*es[j].1+3/\(net w n es P).h (4*n+j)=2*es[j].2+2:=by
 have h:¬4*n+j<4*n:=Yc (b8 (4*n) j);simp only[net,h,if_false,cQ,aO b,dA,and_self]
theorem SI(g:Good w n es P f a m)(H:Good w n es P f a r)(h:m 1<r 1)(Y:∀k,k<(net w n es P).m->dq n k=false->f k<(net w n es P).c k):
 ∃c:XH,(∀i,i<n->c i= -1\/c i=0\/c i=1)/\a=sm n (λi=>c i*w.p i)/\(∀i,i<n->(∀e∈es,e.2≠i)->0<=c i)/\∀i,i<n->(∀e∈es,e.1≠i)->0<=c i:=by
 have J:oI m r 0=0:=by unfold oI;rw[g.p0,H.p0];rfl
 have I:oI m r 1=1:=aWc h;have hm:(net w n es P).m=4*n+es.length:=rfl;have x:∀k,k<(net w n es P).m->dq n k=false->f k*(oI m r ((net w n es P).h k) - oI m r ((net w n es P).t k))=0:=λk s X=>U1 g.ij H.ij g.kc s (Y k s X);have B:∀k,k%4≠1->dq n k=false:=λk s=>by unfold dq;simp[s]
 have U:∀j,dq n (4*n+j)=false:=λj=>by unfold dq;exact decide_eq_false λh=>absurd h.1 (Yc (b8 (4*n) j))
 have l:∀i,i<n->f (4*i)*(oI m r (2*i+2) - 0)=0/\f (4*i+2)*(oI m r (2*i+3) - oI m r (2*i+2))=0/\f (4*i+3)*(1 - oI m r (2*i+3))=0:=λi b=>by
  obtain⟨⟨h1,G⟩,_,⟨L,h6⟩,h7,E⟩:=nt (w:=w) (es:=es) (P:=P) b;have Q:=x (4*i) (by lia) (B _ (by lia));have O:=x (4*i+2) (by lia) (B _ (by lia));have M:=x (4*i+3) (by lia) (B _ (by lia));rw[h1,G,J]at Q;rw[L,h6]at O;rw[h7,E,I]at M;exact⟨Q,O,M⟩
 have p:∀k,k<(net w n es P).m->0<=f k:=λk s=>(g.kc k s).1;have K:∀i,i<n->0<f (4*i+1)->oI m r (2*i+2)=1->oI m r (2*i+3)=0->(∃e∈es,e.2=i)/\∃e∈es,e.1=i:=λi b hp G F=>by
  obtain⟨s0,_,y⟩:=l i b;rw[G]at s0;rw[F]at y;have t:=p (4*i+2) (by lia);refine⟨cN λo=>?_,cN λo=>?_⟩
  .have:=Ai g.kb λv=>if v=2*i+2 then 1 else 0
   rw[Ie b λj d R=>?_,lY λj d=>?_]at this
   .rw[aWc rfl,aWa (by lia),aWa (by lia),aWa (by lia)]at this;lia
   .rw[(DY d).1,(DY d).2,aWa λq=>o ⟨_,e9 d,by lia⟩,aWa (by lia)];simp
   .rw[aWa (by lia),aWa (by lia),aWa (by lia),aWa (by lia)];simp
  .have:=Ai g.kb λv=>if v=2*i+3 then 1 else 0
   rw[Ie b λj d R=>?_,lY λj d=>?_]at this
   .rw[aWc rfl,aWa (by lia),aWa (by lia),aWa (by lia)]at this;lia
   .rw[(DY d).1,(DY d).2,aWa (by lia),aWa λq=>o ⟨_,e9 d,by lia⟩];simp
   .rw[aWa (by lia),aWa (by lia),aWa (by lia),aWa (by lia)];simp
 have neg:∀i,i<n->¬(0<=if f (4*i+1)=0 then 0 else oI m r (2*i+3) - oI m r (2*i+2))->0<f (4*i+1)/\oI m r (2*i+2)=1/\oI m r (2*i+3)=0:=λi b h=>by
  have:=p (4*i+1) (by lia);rcases tQ m r (2*i+2)with q|q<;>rcases tQ m r (2*i+3)with u|u<;>split at h<;>lia
 refine⟨λi=>if f (4*i+1)=0 then 0 else oI m r (2*i+3) - oI m r (2*i+2),λi b=>?_,?_,λi b o=>?_,λi b o=>?_⟩
 .dsimp only;rcases tQ m r (2*i+2)with q|q<;>rcases tQ m r (2*i+3)with u|u<;>rw[q,u]<;>split<;>lia
 .have:=Ai g.kb (oI m r);rw[J,I,lY (n:=es.length) λj d=>x (4*n+j) (by lia) (U j)]at this;rw[show a=a*(1 - 0)by lia,<-this,dN];refine iX λi b=>?_;obtain⟨s0,S,y⟩:=l i b;dsimp only;rw[s0,S,y];by_cases C:f (4*i+1)=0
  .rw[aWc C,C];simp
  .rw[aWa C];obtain⟨_,⟨F,h4,L⟩,_⟩:=nt (w:=w) (es:=es) (P:=P) b;by_cases Z:f (4*i+1)<(net w n es P).c (4*i+1)
   .have:=Lu g.ij H.ij (k:=4*i+1) (by lia) (by have:=p (4*i+1) (by lia);lia) Z;rw[F,h4]at this;rw[this];simp
   .have:=(g.kc (4*i+1) (by lia)).2;rw[show f (4*i+1)=w.p i by lia,YW (w.p i)];lia
 .refine cN λh=>?_;obtain⟨A,t,z⟩:=neg i b h;obtain⟨⟨e,D,q⟩,_⟩:=K i b A t z;exact o e D q
 .refine cN λh=>?_;obtain⟨A,t,z⟩:=neg i b h;obtain⟨_,e,D,q⟩:=K i b A t z;exact o e D q
end NF
namespace NF
variable {w:Wk}{n:Nat}{l:XC}{P:Int}
variable{b c d z:Int}{r:XH}
noncomputable def VL(a b c d:Int):XE:=([a,b,a+b].flatMap λs=>[-c,0,c].flatMap λz=>[-d,0,d].map λv=>s+z+v)++[c,d,c+d,max (c - d) (d - c)]
theorem OP{a:Int}:(VL a b c d).length=31:=rfl
theorem JL(h:z= -1\/z=0\/z=1):z*c∈[-c,0,c]:=by
 rcases h with rfl|rfl|rfl
 .rw[aUB,XY];exact .head _
 .rw[dZ];exact .tail _ (.head _)
 .rw[XY];exact .tail _ (.tail _ (.head _))
theorem Fw{a s v:Int}(h:s∈[a,b,a+b])(f:z= -1\/z=0\/z=1)(g:v= -1\/v=0\/v=1):s+z*c+v*d∈VL a b c d:=
 eX _ (ZG.mpr ⟨s,h,ZG.mpr ⟨_,JL f,iG ⟨_,JL g,rfl⟩⟩⟩)
theorem NX{v:Int}(i:0<=c)(g:0<=d)(a:z= -1\/z=0\/z=1)(f:v= -1\/v=0\/v=1)(h:0<z*c+v*d):z*c+v*d∈[c,d,c+d,max (c - d) (d - c)]:=by
 simp only[cC,cP,or_false];rcases a with rfl|rfl|rfl<;>rcases f with rfl|rfl|rfl<;>lia
theorem Qa{a x y v:Int}(j:x=0\/x=1)(i:y=0\/y=1)(f:z= -1\/z=0\/z=1)(g:v= -1\/v=0\/v=1)(m:0<=c)(k:0<=d)(h:0<x*a+y*b+z*c+v*d):x*a+y*b+z*c+v*d∈VL a b c d:=by
 rcases j with rfl|rfl<;>rcases i with rfl|rfl
 .rw[dZ,dZ,dN,cW]at h|-;exact cR _ (NX m k f g h)
 .rw[dZ,XY,cW];exact Fw (.tail _ (.head _)) f g
 .rw[dZ,XY,dN];exact Fw (.head _) f g
 .rw[XY,XY];exact Fw (.tail _ (.tail _ (.head _))) f g
theorem mr(g:XH):∀n,∃i,i<n+1/\∀j,j<n+1->g i<=g j
 |0=>⟨0,by decide,λj a=>by rw[show j=0 from X2 (bJ a) (dF j)];exact bK _⟩
 |n+1=>by
  obtain⟨i,f,h⟩:=mr g n;by_cases c:g i<=g (n+1)
  .refine⟨i,cI f,λj a=>?_⟩;by_cases e:j=n+1
   .rw[e];exact c
   .exact h j (bV (bJ a) e)
  .refine⟨n+1,bX _,λj a=>?_⟩;by_cases e:j=n+1
   .rw[e];exact bK _
   .have:=h j (bV (bJ a) e);exact bU (cG (iP c) this)
theorem B9(y:∀i,i<n->0<=r i/\r i<n)(s:n<=4)(p:∀e∈l,e.1<n/\e.2<n)(t:∀e∈l,r e.1<r e.2):∃i j,i<4/\j<4/\i≠j/\(∀e∈l,e.2≠i)/\∀e∈l,e.1≠j:=by
 have bd:∀i,-1<=(if i<n then r i else -1)/\(if i<n then r i else -1)<4:=λi=>by
  split
  .rename_i f;have:=y i f;lia
  .decide
 obtain⟨i,f,v⟩:=mr (λi=>if i<n then r i else -1) 3;have m:∀e∈l,e.2≠i:=λe h q=>by
  obtain⟨k,g⟩:=p e h;have:=v e.1 (aM k s);have:=t e h;rw[aWc (by lia),aWc k,<-q]at*;lia
 obtain⟨j,x,o⟩:=mr (λj=>if j=i then 10 else -(if j<n then r j else -1)) 3;have a:i≠j:=λq=>by
  have:=o (if i=0 then 1 else 0) (by split<;>lia);rw[aWc q.symm,aWa (by split<;>lia)]at this;have:=(bd (if i=0 then 1 else 0)).1;lia
 refine⟨i,j,f,x,a,m,λe h q=>?_⟩;obtain⟨k,g⟩:=p e h;have u:=o e.2 (aM g s);have A:=t e h;rw[aWa (Ne.symm a),aWa (m e h),aWc g,aWc (by lia),<-q]at u;lia
theorem AG(g:XH):sm 4 g=g 0+g 1+g 2+g 3:=by show 0+g 0+g 1+g 2+g 3=_;rw[cW]
theorem uj{i j:Nat}(m:i<4)(f:j<4)(h:i≠j):∃a b,a<4/\b<4/\∀g:XH,sm 4 g=g i+g j+g a+g b:=by
 have c:∀k,k<4->k=0\/k=1\/k=2\/k=3:=λk o=>by lia
 rcases c i m with rfl|rfl|rfl|rfl<;>rcases c j f with rfl|rfl|rfl|rfl<;>first
  |exact absurd rfl h
  |exact⟨2,3,by decide,by decide,λg=>(AG g).trans (by lia)⟩
  |exact⟨1,3,by decide,by decide,λg=>(AG g).trans (by lia)⟩
  |exact⟨1,2,by decide,by decide,λg=>(AG g).trans (by lia)⟩
  |exact⟨0,3,by decide,by decide,λg=>(AG g).trans (by lia)⟩
  |exact⟨0,2,by decide,by decide,λg=>(AG g).trans (by lia)⟩
  |exact⟨0,1,by decide,by decide,λg=>(AG g).trans (by lia)⟩
theorem Qd{g:XH}(h:n<=4):sm n g=sm 4 λi=>if i<n then g i else 0:=by
 have:=qY (g:=λi=>if i<n then g i else 0) (n:=n) (j:=4 - n);rw[show n+(4 - n)=4 by lia]at this;rw[this,lY (n:=4 - n) λi _=>aWa (Yc (b8 n i)),dN];exact iX λi a=>(aWc a).symm
theorem LC{a:Type}[DecidableEq a]:∀{xs ys:List a},xs.Nodup->(∀x∈xs,x∈ys)->xs.length<=ys.length
 | [],_,_,_=>dF _
 |x::xs,ys,h,i=>by
  rw[c7]at h;have g:=i x (by simp);have:=LC (ys:=ys.erase x) h.2 λy f=>(aTz fun(z:y=x)=>h.1 (z ▸ f)).mpr (i y (bA _ f));rw[Zb g]at this;have:=aTl g;rw[aN];lia
theorem kf.lq{y:Int}{E Q A:XH}{k:Nat}(C:kf w n l P y E Q A k)(H:n<=4)(X:∀i,i<n->0<=w.p i)(J:∀i,i<n->0<=r i/\r i<n)(I:∀e∈l,r e.1<r e.2)(G:∀e∈l,e.1<n/\e.2<n)(Z:sm n w.p<P):k<=31:=by
 obtain⟨o,g,M,L,q,O,N⟩:=B9 J H G I;obtain⟨a,b,qa,qb,U⟩:=uj M L q;have up:∀j i,i<j->j<=k->A i<A j:=λj=>by
  induction j with
  |zero=>intro i h;exact absurd h (dP i)
  |succ j ih=>
   intro i h t;have:=C.uo j (fD t);by_cases e:i=j
   .rw[e];exact this
   .have:=ih i (bV (bJ h) e) (cZ t);lia
 have D:∀i,0<=(if i<n then w.p i else 0):=λi=>by
  split
  .rename_i h;exact X i h
  .exact bK _
 have:=LC (xs:=(bH k).map λi=>A (i+1)) (ys:=VL (if o<n then w.p o else 0) (if g<n then w.p g else 0) (if a<n then w.p a else 0) (if b<n then w.p b else 0)) ?_ λx R=>?_
 .rw[OP]at this;simpa using this
 .refine Zx.mpr λi j p F bx=>?_;simp only[aP,Yi]at p F;simp only[Yj,Yh];have:=up (j+1) (i+1) (aT5 bx) (bS F);lia
 .obtain⟨i,p,rfl⟩:=fY R;have p:=iC p;obtain⟨f,m,s,u,e1,G2,e2,_,Y⟩:=C.seg i p;have:=C.k4 i p;obtain⟨c,c1,c2,c3,c4⟩:=SI u G2 (by rw[e1,e2];exact this) λk t S=>plenty u.kb u.kc J I G (bC Y Z) t S
  have hA:A (i+1)=(if o<n then c o else 0)*(if o<n then w.p o else 0)+(if g<n then c g else 0)*(if g<n then w.p g else 0)+(if a<n then c a else 0)*(if a<n then w.p a else 0)+(if b<n then c b else 0)*(if b<n then w.p b else 0):=by
   rw[c2,Qd H,iX (g':=λi=>(if i<n then c i else 0)*(if i<n then w.p i else 0)) λi _=>?_,U];split<;>simp
  have c5:∀i,(if i<n then c i else 0)= -1\/(if i<n then c i else 0)=0\/(if i<n then c i else 0)=1:=λi=>by
   split
   .rename_i h;exact c1 i h
   .exact .inr (.inl rfl)
  have K:0<A (i+1):=by have:=up (i+1) 0 (Zp _) (bS p);rw[C.a0]at this;exact this
  rw[hA]at K|-;have B:0<=(if o<n then c o else 0):=by
   split
   .rename_i h;exact c3 o h O
   .exact bK _
  have v:0<=(if g<n then c g else 0):=by
   split
   .rename_i h;exact c4 g h N
   .exact bK _
  refine Qa ?_ ?_ (c5 a) (c5 b) (D a) (D b) K
  .rcases c5 o with h|h|h
   .rw[h]at B;exact absurd B (by decide)
   .exact .inl h
   .exact .inr h
  .rcases c5 g with h|h|h
   .rw[h]at v;exact absurd v (by decide)
   .exact .inl h
   .exact .inr h
end NF
namespace aJ
open PySem L2 TL NF
variable{w:Wk}{l:XC}{P z:Int}{c:Nat}{Q:T->ab->Prop}{ws:XA}{ps:XB}{nd:XD}{bs fs:XE}
theorem zL{n:Nat}(W:yo w n l P){f p:XH}{a:Int}{C:ab}(A:jE (net w n l P) f c (2*n+2:Nat) C)(G:Good w n l P f a p)(L:g7 (net w n l P) (2*n+2) f (λ_=>0) p)(h:sm (2*n+2) p<10^199)
 (q:∀x,Q (.int (p 1)) (C++[x])):bf (lX [.cell c] C) Q:=by
 refine jN ?_;unfold pN;walk_at "a";refine gG (fL (l4 (fO rfl ⟨nJ A.net rfl,fF (fS (fM ⟨rfl,jh W A G h λb j d i=>fS ?_⟩))⟩)));have e:b 1=p 1:=cA (i 1 (d3 (2*n) (by decide))) (L.le b (λv g=>d.ge v g) d.ij 1 (d3 (2*n) (by decide)));refine gL ⟨mM (2*n+2) b,gS (by simp),_,GS (v:=1) (d3 (2*n) (by decide)),?_⟩;rw[e];exact q _
theorem V8{n:Nat}{g:XH}{b:Nat->Bool}:(((bH n).filter b).map g).sum=sm n λk=>if b k=true then g k else 0:=by
 induction n with
 |zero=>rfl
 |succ n ih=>
  rw[YL,List.filter_append,bR,YM,ih];show _=sm n _+_;congr 1;cases h:b n<;>simp[h]
theorem UG{n:Nat}{f:XH}{a:Int}{C:ab}(A:jE (net w n l P) f c (2*n+2:Nat) C)(g:(net w n l P).m<40000)(i:ke (net w n l P) f a)(q:Q (.int a) C):bf (oT [.cell c] C) Q:=by
 have d:pX "Net" "pipes" C (.cell c)=some (.cell (c+1)):=mJ A.net rfl;have h:lc C (c+1)=some ((bH (net w n l P).m).map λj=>.cell (pc c (j,true))):=gS A.lst;refine jN ?_;unfold vE;walk_at "a";refine gG (f9 (fF (gA (jK (gM (jW rfl d) ⟨_,h,by simp[lim];exact aM g (by decide),?_⟩)))));refine u6 (xs:=bH (net w n l P).m) (en:=λj=>T.cell (pc c (j,true))) (λj=>decide ((net w n l P).t j=0)) (λj=>T.int (f j)) (λj b=>?_) ?_
 .have b:=iC b;have o:=(A.fld (o:=(j,true)) b).1;have m:=(A.fld (o:=(j,true)) b).2.2.2.2;have k:=(A.fld (o:=(j,false)) b).2.2.2.1;refine fT (gQ (fL (gM (jW (t:=.cell (pc c (j,true))) rfl o) (fS (kS ⟨_,rfl,rfl,?_,λ_=>nG (gM (jW (t:=.cell (pc c (j,true))) rfl m) ⟨_,k,rfl,rfl⟩)⟩)))));exact decide_eq_decide.mpr (by show((rt (net w n l P) (j,true):Nat):Int)=0↔rt (net w n l P) (j,true)=0;lia)
 .refine fM ?_;refine vK.mpr ⟨_,rfl,_,p9,rfl,?_⟩;rw[V8];simp only[decide_eq_true_eq];rw[Wm i];exact q
theorem fi.si{y:Int}(L:fi ws ps nd bs fs z y){a:Int}{q:XH}(G:Good (gY ws) ws.length (jJ 0 nd) (plenty ws 0) (λ_=>0) a q):y<=q 1:=by
 have W:=L.g.y0 (bonus:=0) (by decide);have A:=K7 G.kb;have v:0<=sm ws.length (gY ws).p:=n5 λi b=>(nQ (P:=qS) L.g.ok b).2.2.1;obtain⟨C,u,s,r⟩:=GB G.ij (W.open G (by have:=W.pP;exact bC (dI A) (bC v this))) G.p0 W.ql;have k:∀i:Nat,i<ws.length->aC (ws.map jR) i<=q (2*i+3) - q (2*i+2):=λi b=>by
  rw[uU b];have p:=u i b;split
  .lia
  .rename_i D;have B:=(nQ (P:=qS) L.g.ok b).2.2.1;have n:4*i+1<(net (gY ws) ws.length (jJ 0 nd) (plenty ws 0)).m:=by show _<4*ws.length+_;lia
   have g:=(G.ij _ n).1;cases pipe n with
   |src j f e=>lia
   |gv j f e=>lia
   |eM j f e=>lia
   |eW x y j f e=>lia
   |gr j f e t h d c=>
    have:j=i:=by lia
    subst this;rw[t,h,d,c]at g;have:=g (by have:0<=(gY ws).p j:=B;lia);lia
 rw[<-L.yy];refine L.g.fst L.f (by simp) (B:=λi=>q (2*i+2)) (G.ge 1 (d3 (2*ws.length) (by decide))) (λi b=>G.ge _ (by lia)) (λx m=>?_) λi b=>?_
 .have p:=r _ (DL L.g.gm L.g.n3 m);have g:=L.g.gm _ m;have o:=k x.1.toNat (by lia);rw[bP g.1.1]at o;dsimp only at p|-;lia
 .have o:=k i b;have:=s i b;lia
def mQ(E Q:XH)(k:Nat)(r:Nat->Nat)(c:Nat)(C:ab):Prop:=C[c]?=some (.l,(bH (k+1)).map λi=>.cell (r i))/\∀i,i<=k->C[r i]?=some (.l,[.int (E i),.int (Q i)])
theorem Wf{y:Int}(L:fi ws ps nd bs fs z y)(h4:ws.length<=4):
 ∃k E q A r e,p8 [.lst (ws.map w3),.lst (ps.map pT)]=some (.cell 1,e)/\mQ E q k r 1 e/\(∀i,i<=k->r i≠1)/\kf (gY ws) ws.length (jJ 0 nd) (plenty ws 0) y E q A k/\E k=z:=by
 have G:=L.g;have hn:=G.l8;have zw:=L.z0;have xc:=L.zy;have hyb:=L.yb;have W:=G.y0 (bonus:=0) (by decide);obtain⟨rk,rk1,rk2⟩:=W.rk;obtain⟨_,p0,G0,hb,kr⟩:=G.free L.f (bonus:=0) (by decide);rw[L.yy]at kr;have xy:=dy.CD (ws:=ws) (ps:=ps);have h:bf (p8 [.lst (ws.map w3),.lst (ps.map pT)]) λt e=>∃k E q A r,t=.cell 1/\mQ E q k r 1 e/\(∀i,i<=k->r i≠1)/\kf (gY ws) ws.length (jJ 0 nd) (plenty ws 0) y E q A k/\E k=z:=by
  refine wL ?_;unfold Mo;walk_at "a";refine ej (t:=.int z) (f9 (fF (fO rfl (fF (fO rfl (fM ((gP L.le rfl xy).mpr ⟨rfl,rfl⟩))))))) ?_;refine ej (t:=.int y) (f9 (fF (fO rfl (fF (fO rfl (fM ((gP L.fe rfl xy).mpr ⟨rfl,rfl⟩))))))) ?_;refine ej (t:=.int 0) (fS ⟨rfl,rfl⟩) ?_;dsimp only[Yt];refine fQ (f8 (iK (gK (fF (iK (gK (fF (fO rfl (fF (fO rfl (fM ⟨by simp[lim],fM ⟨by simp[lim],fT (fV ?_)⟩⟩)))))))))));dsimp only[Yt,aZ,aV,aW,aN];refine fQ (f8 (uW (fF (fO rfl (fF (fO rfl (fM ⟨rfl,?_⟩)))))));refine Mt (nd:=nd) G.l8 G.pl G.gm G.need G.n3 λC1 P1=>⟨rfl,fT (fV (fQ ?_))⟩;dsimp only[Yt,aW,aN];have A1:jE (jD ws nd 0) (λ_=>0) 2 (2*ws.length+2:Nat) C1:=by
   have:=P1.at;rw[show((2*ws.length+2:Nat):Int)=2*(ws.length:Int)+2 by lia];exact this
  refine wB (λm τ R=>∃k E q A r x f p,τ=[some (.lst (ws.map w3)),some (.lst (ps.map pT)),some (.int z),some (.int (E k)),some (.int (q k)),some (.cell 1),some (.cell 2),x]/\mQ E q k r 1 R/\(∀i,i<=k->r i=0\/4+2*(jD ws nd 0).m<=r i)/\kf (gY ws) ws.length (jJ 0 nd) (plenty ws 0) y E q A k/\
   jE (jD ws nd 0) f 2 (2*ws.length+2:Nat) R/\Good (gY ws) ws.length (jJ 0 nd) (plenty ws 0) f (A k) p/\p 1=E k/\(∀a H,Good (gY ws) ws.length (jJ 0 nd) (plenty ws 0) f a H->E k<=H 1)/\sm (2*ws.length+2) p<10^199/\0<=A k/\A k<=sm ws.length (gY ws).p/\q k=len (jD ws nd 0) f - A k*E k/\z<=E k/\E k<=y/\E k - z<=(m:Int)) (m:=(y - z).toNat) ?_ ?_ ?_
  .exact bO (show(y - z).toNat<=8*2^252 by lia) (by decide)
  .refine⟨0,λ_=>y,λ_=>0,λ_=>0,λ_=>0,none,λ_=>0,p0,rfl,⟨?_,λi d=>?_⟩,λi _=>.inl rfl,⟨rfl,rfl,rfl,λi d=>absurd d (dP i),λi d=>absurd d (dP i),λi d=>absurd d (dP i),λi d=>absurd d (dP i)⟩,A1,G0,kr,λa H Y=>L.si Y,cX hb (by decide),bK _,n5 λi d=>(nQ (P:=qS) G.ok d).2.2.1,?_,xc,bK _,by lia⟩
   .rw[P1.pre 1 (by simp)];rfl
   .rw[P1.pre 0 (by simp)];rfl
   .show(0:Int)=sm _ _ - 0*y;rw[lY λk _=>dZ _];simp
  .rintro m τ R ⟨k,E,q,A,r,x,f,p,rfl,⟨o,Z⟩,ci,hC,A',Gf,il,cj,gn,ic,ha1,hq,hzE,hEy,xq⟩;refine gQ (fL (fO rfl (fO rfl (gC ⟨_,rfl,?_⟩))));by_cases aw:z<E k
   .rw[aWc (decide_eq_true aw)];unfold xJ;refine fQ (lT (l4 (fO rfl ⟨nJ A'.net rfl,fF (fL (fO rfl (fS (gC (fM ⟨rfl,?_⟩)))))⟩)));refine JW W (G.De L.e) (e:=E k - 1) (by rw[L.zz];lia) (by lia) Gf ha1 ic gn A' λf2 j a2 n F I md u X iz=>?_;obtain⟨K,q2,Gq,hq1,hq2⟩:A k<a2/\∃q,Good (gY ws) ws.length (jJ 0 nd) (plenty ws 0) f2 a2 q/\E k - 1<q 1/\∀v,v<2*ws.length+2->q v<=p v:=by
     rcases F.how with h1|h1
     .have U:=F.good;rw[h1]at U;have h3:=cj _ _ U;have h4:=F.ready;lia
     .exact h1
    have s:q2 1=E k:=by have:=hq2 1 (d3 (2*ws.length) (by decide));lia
    have ho:=W.open F.good (bC I W.pP);have uf:sm (2*ws.length+2) j<10^199:=bC (xA F.le) gn;have ng:=F.ready;obtain⟨b,hh,Pn,_⟩:=mH.kz G ⟨f2,a2,j,F.good,rfl,I,rfl⟩;have xf:=L.pj Pn (F.good.ge 1 (d3 (2*ws.length) (by decide)));have J:q k=len (jD ws nd 0) f2 - a2*E k:=by rw[hq];exact zD Gf Gq il s
    have hS:Seg (gY ws) ws.length (jJ 0 nd) (plenty ws 0) (E k) (j 1) (q k) a2:=⟨f2,j,q2,F.good,rfl,Gq,s,J,I⟩;have mf:=hC.more hS (cG (bC ng hq1) (dI s)) K;refine fV (fQ (f8 (l4 (fO rfl ⟨nJ u.net rfl,fM ⟨rfl,zL W u F.good F.least uf λB=>fT (fV ?_)⟩⟩))));dsimp only[Yt];have uw:4+2*(jD ws nd 0).m<=n.length:=u.len;have A3:jE (jD ws nd 0) f2 2 (2*ws.length+2:Nat) (n++[B]):=u.app u.len;refine fQ (f8 (fL (fO rfl (fL (l4 (fO rfl ⟨nJ A3.net rfl,fM ⟨rfl,UG A3 W.m F.good.kb (fL (fO rfl (fO rfl (gC (gE ⟨?_,gC (fT (fV ?_))⟩)))))⟩⟩))))))
    .have hsP:=G.sP;exact uQ (Bt.of_lt (k:=256) (bG ic md) (bC I (bC hsP (by decide)))) (Bt.of_lt (k:=256) (by lia) (by lia)) (by decide)
    dsimp only[Yt];refine ej (t:=.int (j 1)) (fO rfl ⟨rfl,rfl⟩) ?_;dsimp only[Yt];have S:1<R.length:=(fK o).1;have N:n[1]?=some (.l,(bH (k+1)).map λi=>.cell (r i)):=by rw[iz 1 S (.inl (by decide)),o]
    have eh:∀i,i<=k->r i<R.length:=λi d=>(fK (Z i d)).1;have hk5:=mf.lq h4 (λi d=>(nQ (P:=qS) G.ok d).2.2.1) rk1 rk2 W.ql W.pP;refine i6 (fO rfl (fF (iK (gK (fF (fO rfl (fF (fO rfl (fM ⟨by simp[lim],fM ⟨1,rfl,?_,(bH (k+1)).map λi=>.cell (r i),gS ?_,jY ⟨?_,?_⟩⟩⟩)))))))))
    .rw[gS (show(n++[B])[1]?=some (.l,_)by rw[aR (aM S X)];exact N)];rfl
    .rw[aR (by rw[aY];exact aT6 [B].length (aM S X)),aR (aM S X)];exact N
    .simp[lim];exact bO hk5 (by decide)
    generalize hD:n++[B]++[(Kd.l,[T.int (j 1),T.int (q k+a2*(E k - j 1))])]=D;have hDl:D.length=n.length+2:=by rw[<-hD];simp
    have hd:(n++[B]).length=n.length+1:=by simp
    have O:∀i,i<n.length->D[i]?=n[i]?:=λi d=>by rw[<-hD,aR (by rw[hd];exact cI d),aR d]
    have hDn:D[n.length+1]?=some (.l,[T.int (j 1),T.int (q k+a2*(E k - j 1))]):=by rw[<-hD,<-hd];simp
    rw[hd];have M:∀{i:Nat}{g:XH}{v:Int},i<=k->up g (k+1) v i=g i:=λh=>uD (by lia);refine⟨(j 1 - z).toNat,by lia,k+1,up E (k+1) (j 1),up q (k+1) (q k+a2*(E k - j 1)),up A (k+1) a2,λi=>if i=k+1 then n.length+1 else r i,_,f2,j,by rw[kY,kY],⟨?_,λi d=>?_⟩,λi d=>?_,mf,?_,by rw[kY];exact F.good,by rw[kY],λa H Y=>by rw[kY];exact F.least.le H (λv hv=>Y.ge v hv) Y.ij 1 (d3 (2*ws.length) (by decide)),uf,by rw[kY];exact bG ic md,by rw[kY];exact I,by rw[kY,kY,kY,J,dL];lia,by rw[kY];exact xf,by rw[kY];lia,by rw[kY];lia⟩
    .rw[bT (by lia),YL (n:=k+1),bR];congr 3
     .refine cU λi d=>?_;have:=iC d;dsimp only;rw[aWa (by lia)]
     .simp
    .dsimp only;split
     .rename_i h;subst h;rw[aQ (by lia),hDn,kY,kY]
     .have C:i<=k:=by lia
      have:=eh i C;have h3:=ci i C;rw[aQ (by lia),O _ (aM this X),iz _ this (h3.elim (λh=>.inl (by lia)) .inr),Z i C,M C,M C]
    .dsimp only;split
     .right;exact cY uw
     .exact ci i (by lia)
    .refine u.mono λi h1 U=>?_;rw[aQ (by lia),O i (aM U u.len)]
   .rw[aWa (by simpa using aw)];refine fV (gG (hX ⟨_,rfl,k,E,q,A,r,rfl,⟨o,Z⟩,λi d=>?_,hC,cA (gT aw) hzE⟩));have:=ci i d;lia
 obtain⟨_,e,e1,k,E,q,A,r,rfl,h1⟩:=h;exact⟨k,E,q,A,r,e,e1,h1⟩
end aJ
namespace NF
variable {l l' k:XB}{m c a b:Int}
noncomputable def h9:XB->Int->Int
 | [],_=>0
 |p::l,m=>p.1*min p.2 m+h9 l (m - min p.2 m)
def Ch:XB->Int->Int->Prop
 | [],m,c=>m=0/\c=0
 |p::l,m,c=>∃x,0<=x/\x<=p.2/\Ch l (m - x) (c - p.1*x)
noncomputable def fx:XB->Int
 | []=>0
 |p::l=>p.2+fx l
noncomputable def yd(a:Int):XB->Int
 | []=>0
 |p::l=>p.2*max (a - p.1) 0+yd a l
def i0(l:XB):Prop:=∀p∈l,0<=p.2
theorem i0.tl{p:Int×Int}(h:i0 (p::l)):i0 l:=λq d=>h q (.tail _ d)
theorem Fn:i0 l->h9 l 0=0:=λh=>by
 induction l with
 |nil=>rfl
 |cons p l ih=>
  have:=h p (.head _);show p.1*min p.2 0+h9 l (0 - min p.2 0)=0;rw[show min p.2 0=0 from cA (Zs p.2 0) (nK ⟨this,by decide⟩),X4,cW];exact ih h.tl
theorem Ch.Ca:∀{l:XB}{m c:Int},i0 l->Ch l m c->a*m - yd a l<=c
 | [],m,c,_,h=>by
   rw[h.1,h.2];show a*0 - 0<=0;lia
 |p::l,m,c,g,⟨x,f,d,h⟩=>by
  have o:=h.Ca g.tl;show a*m - (p.2*max (a - p.1) 0+yd a l)<=c;have n:(a - p.1)*x<=p.2*max (a - p.1) 0:=by
   have j:(a - p.1)*x<=max (a - p.1) 0*x:=dB (Zu _ _) f;have i:max (a - p.1) 0*x<=max (a - p.1) 0*p.2:=Z0 d (aT7 _ _);rw[YW p.2];exact bG j i
  rw[dL]at o;rw[Yp]at n;clear g h f d;lia
theorem NK:(∀p∈l,a<=p.1)->yd a l=0:=λh=>by
 induction l with
 |nil=>rfl
 |cons p l ih=>
  have:=h p (.head _);show p.2*max (a - p.1) 0+yd a l=0;rw[show max (a - p.1) 0=0 by lia,X4,cW];exact ih λq d=>h q (.tail _ d)
def Bs(l:XB):Prop:=l.Pairwise λp q=>p.1<=q.1
theorem Li:∀{l:XB}{m b:Int},i0 l->Bs l->0<=m->m<=fx l->(∀p∈l,b<=p.1)->∃a,b<=a/\h9 l m=a*m - yd a l
 | [],m,b,_,_,o,g,_=>⟨b,bK _,by rw[show m=0 from cA g o];show(0:Int)=b*0 - 0;lia⟩
 |p::l,m,b,f,j,o,g,n=>by
  obtain⟨d,h⟩:=kL j;have i:=n p (.head _);by_cases q:m<=p.2
  .refine⟨p.1,i,?_⟩;show p.1*min p.2 m+h9 l (m - min p.2 m)=p.1*m - (p.2*max (p.1 - p.1) 0+yd p.1 l);rw[show min p.2 m=m by lia,Yo,Fn f.tl,NK d,Yo];show p.1*m+0=p.1*m - (p.2*0+0);lia
  .obtain⟨a,r,e⟩:=Li (m:=m - p.2) f.tl h (bU (d7 (iP q))) (by have:m<=p.2+fx l:=g;lia) d;refine⟨a,bG i r,?_⟩;show p.1*min p.2 m+h9 l (m - min p.2 m)=a*m - (p.2*max (a - p.1) 0+yd a l);rw[show min p.2 m=p.2 by lia,e,show max (a - p.1) 0=a - p.1 by lia,dL,dL,YW p.2 a,YW p.2 p.1];clear e j d h n f;lia
theorem Ch.ge{m':Int}(d:i0 l)(g:Bs l)(n:0<=m)(j:m<=m')(f:m<=fx l)(i:∀p∈l,0<=p.1)(h:Ch l m' c):h9 l m<=c:=by
 obtain⟨a,o,e⟩:=Li d g n f i;rw[e];have r:=h.Ca (a:=a) d;have q:a*m<=a*m':=Z0 j o;clear e;lia
theorem Ch.h9:∀{l:XB}{m:Int},i0 l->0<=m->m<=fx l->Ch l m (h9 l m)
 | [],m,_,g,f=>⟨cA f g,rfl⟩
 |p::l,m,d,g,f=>by
  have i:=d p (.head _);have n:m<=p.2+fx l:=f;refine⟨min p.2 m,nK ⟨i,g⟩,Zt _ _,?_⟩;show Ch l _ (p.1*min p.2 m+NF.h9 l (m - min p.2 m) - p.1*min p.2 m);rw[Yd,Yz];have j:0<=fx l:=by
   have:∀l:XB,i0 l->0<=fx l:=λl h=>by
    induction l with
    |nil=>exact bK _
    |cons q l ih=>exact eA (h q (.head _)) (ih h.tl)
   exact this l d.tl
  exact Ch.h9 d.tl (bY (Zs p.2 m)) (by lia)
theorem Ch.perm(h:l.Perm l'):∀{m c:Int},Ch l m c->Ch l' m c:=by
 induction h with
 |nil=>exact id
 |cons p _ ih=>rintro m c ⟨x,f,d,h⟩;exact⟨x,f,d,ih h⟩
 |swap p q l=>
  rintro m c ⟨x,f,d,y,i,g,h⟩;refine⟨y,i,g,x,f,d,?_⟩;rw[show m - y - x=m - x - y by lia,show c - p.1*y - q.1*x=c - q.1*x - p.1*y by lia];exact h
 |trans _ _ n j=>exact λh=>j (n h)
theorem Ch.app:∀{l:XB}{m c m' c':Int},Ch l m c->Ch l' m' c'->Ch (l++l') (m+m') (c+c')
 | [],m,c,m',c',h,d=>by rw[h.1,h.2,cW,cW];exact d
 |p::l,m,c,m',c',⟨x,g,f,h⟩,d=>by
  refine⟨x,g,f,?_⟩;have:=h.app d;rw[show m - x+m'=m+m' - x by lia,show c - p.1*x+c'=c+c' - p.1*x by lia]at this;exact this
theorem Ch.cut:∀{l:XB}{m c:Int},Ch (l++l') m c->∃d c1,Ch l d c1/\Ch l' (m - d) (c - c1)
 | [],m,c,h=>⟨0,0,⟨rfl,rfl⟩,by rw[eU,eU];exact h⟩
 |p::l,m,c,⟨x,i,g,h⟩=>by
  obtain⟨d,c1,j,f⟩:=Ch.cut (l:=l) h;refine⟨d+x,c1+p.1*x,⟨x,i,g,by rw[Yz,Yz];exact j⟩,?_⟩;rw[aUC,aUC,Yd x,Yd (p.1*x)]at f;exact f
theorem Ch.hQ:∀{l:XB}{m c:Int},Ch l m c->0<=m/\m<=fx l
 | [],m,c,h=>by rw[h.1];exact⟨bK _,bK _⟩
 |p::l,m,c,⟨x,f,d,h⟩=>by
  have g:=h.hQ;show 0<=m/\m<=p.2+fx l;clear h;lia
theorem QY:fx (l++l')=fx l+fx l':=by
 induction l with
 |nil=>exact(cW _).symm
 |cons p l ih=>show p.2+fx (l++l')=p.2+fx l+fx l';rw[ih,YA]
theorem Tv(h:l.Perm l'):fx l=fx l':=by
 induction h with
 |nil=>rfl
 |cons p _ ih=>show p.2+_=p.2+_;rw[ih]
 |swap p q l=>show q.2+(p.2+fx l)=p.2+(q.2+fx l);lia
 |trans _ _ f d=>exact f.trans d
noncomputable def ju(E A:XH)(j:Nat):Nat->XB
 |0=>[]
 |k+1=>(A (j+1),E j - E (j+1))::ju E A (j+1) k
theorem JY{E A:XH}:∀{k j:Nat},fx (ju E A j k)=E j - E (j+k)
 |0,j=>(Yo _).symm
 |k+1,j=>by
  show E j - E (j+1)+fx (ju E A (j+1) k)=_;rw[JY,show j+1+k=j+(k+1)from XU (Yk j 1 k) (fB j k 1)];lia
end NF
namespace lu
open PySem L2 TL aJ NF ls
noncomputable def fd(E Q:XH)(k:Nat):XD:=(bH (k+1)).map λi=>[E i,Q i]
theorem Pa{E Q:XH}{k:Nat}:(fd E Q k).length=k+1:=by simp[fd]
section
variable {a:XA}{d:XB}{b:XD}{bs fs:XE}{z y:Int}{E Q A:XH}{k:Nat}
variable{i:Nat}
theorem Ud{r:Nat->Nat}{o:ab}(h:mQ E Q k r 1 o)(p:∀i,i<=k->r i≠1):dy.mQ o 1 ((bH (k+1)).map r) (fd E Q k):=by
 refine⟨by rw[h.1,cK];rfl,by simp[fd],λi c l n m=>?_⟩;rw[bI]at n;obtain⟨j,q,rfl⟩:=fG n;obtain⟨f,g⟩:=fK q;simp only[Yi]at f;rw[Yh]at g;subst g;rw[fd,bI,eI f]at m;cases m;exact⟨h.2 i (bJ f),p i (bJ f)⟩
theorem Kb(C:kf (gY a) a.length (jJ 0 b) (plenty a 0) y E Q A k):∀{i:Nat},i<=k->0<=A i
 |0,_=>by rw[C.a0];exact bK _
 |i+1,h=>by have:=C.uo i (fD h);have:=Kb C (i:=i) (cZ h);lia
theorem Ml(L:fi a d b bs fs z y)(C:kf (gY a) a.length (jJ 0 b) (plenty a 0) y E Q A k)(g:i<k){x:Int}(l:E (i+1)<=x)(j:x<=E i):mH a b x (Q i+A (i+1)*(E i - x)):=by
 obtain⟨f,p,G,c,e,h⟩:=(C.seg i g).at_ l j;exact⟨f,_,p,G,c,h,e⟩
theorem OZ(L:fi a d b bs fs z y)(C:kf (gY a) a.length (jJ 0 b) (plenty a 0) y E Q A k)(c:i<=k):mH a b (E i) (Q i):=by
 cases i with
 |zero=>rw[C.e0,C.q0];exact L.zero
 |succ i=>rw[C.price i c];exact Ml L C c (bK _) (bU (C.k4 i c))
theorem SJ(C:kf (gY a) a.length (jJ 0 b) (plenty a 0) y E Q A k)(c:i<k):A (i+1)<=sm a.length (gY a).p:=by
 obtain⟨_,_,_,_,_,_,_,_,h⟩:=C.seg i c;exact h
end
theorem EE(g:XH):∀n:Nat,∃m,0<=m/\(∀i,i<n->g i<=m)/\∀x,0<=x->(∀i,i<n->g i<=x)->m<=x
 |0=>⟨0,bK _,λi a=>absurd a (dP _),λx h _=>h⟩
 |n+1=>by
  obtain⟨m,j,f,d⟩:=EE g n;refine⟨max m (g n),bG j (Zu m (g n)),λi a=>?_,λx c b=>?_⟩
  .by_cases h:i=n
   .rw[h];exact aT7 _ _
   .exact bG (f i (bV (bJ a) h)) (Zu _ _)
  .exact aUG.mpr ⟨d x c λi a=>b i (cI a),b n (bX _)⟩
section
variable {ws f wb:XA}{ps o pb:XB}{nd B D:XD}{bs fs F G H I:XE}{z y w v z2 y2 e g e2 q:Int}{b h s h1 b2 r:XH}{rs:XE}
variable{J:XB}
theorem Pl.sub(p:Pl ws ps e b h)(c:∀x∈J,x∈ps):Pl ws J e b h:=⟨p.b0,p.lh,p.hu,p.en,λx a=>p.ne x (c x a)⟩
noncomputable def Cb(n m:Nat):XB:=(bH n).flatMap λi:Nat=>(bH m).map λj:Nat=>((i:Int),((n+j:Nat):Int))
theorem GP{n m:Nat}{x:Int×Int}:x∈Cb n m↔∃i j:Nat,i<n/\j<m/\x=((i:Int),((n+j:Nat):Int)):=by
 unfold Cb;simp only[ZG,YO,Zj];constructor
 .rintro⟨i,c,j,a,rfl⟩;exact⟨i,j,c,a,rfl⟩
 .rintro⟨i,j,c,a,rfl⟩;exact⟨i,c,j,a,rfl⟩
def mZ:=λ{a b c}=>(@GP a b c).mp
abbrev Am(f wb:XA)(o pb:XB):XB:=o++pb.map (kq f.length)++Cb f.length wb.length
theorem Jy(d:fw f.length o)(c:fw wb.length pb):fw (f++wb).length (Am f wb o pb):=λx a=>by
 rcases fZ a with a|a
 .exact QV d c x a
 .obtain⟨i,j,l,k,rfl⟩:=mZ a;rw[aY];dsimp only;lia
theorem QJ(m:fw f.length o)(l:fw wb.length pb)(A:p3 o)(t:p3 pb):p3 (Am f wb o pb):=by
 obtain⟨c,c1⟩:=A;obtain⟨n,c2⟩:=t;obtain⟨M,_,p,_⟩:=EE (λi=>(c i:Int)) f.length;refine⟨λx=>if x<f.length then c x else n (x - f.length)+(M.toNat+1),λx a=>?_⟩;rcases fZ a with a|a
 .rcases fZ a with a|a
  .have:=m x a;dsimp only;rw[aWc this.1.2,aWc this.2.2];exact c1 x a
  .obtain⟨u,d,rfl⟩:=fY a;have:=l u d;unfold kq;dsimp only;rw[aWa (i8 (cO this.1.1)),aWa (i8 (cO this.2.1)),Yz,Yz];exact Nat.add_lt_add_right (c2 u d) _
 .obtain⟨i,j,k,C,rfl⟩:=mZ a;have:=p i k;dsimp only at this|-;rw[aWc (iO k),aWa (i8 (mL (b8 f.length j)))];lia
structure AE(ws:XA)(ps:XB)(f:XA)(o:XB)(wb:XA)(pb:XB):Prop where
 to:∀{e b h},0<=e->Pl ws ps e b h->∃g s h1 b2 r,0<=g/\g<=e/\Pl f o g s h1/\Pl wb pb (e - g) b2 r/\cst ws h=cst f h1+cst wb r
 ER:∀{g e2 s h1 b2 r},0<=g->0<=e2->Pl f o g s h1->Pl wb pb e2 b2 r->∃b h,Pl ws ps (g+e2) b h/\cst ws h=cst f h1+cst wb r
theorem AE.of(N:fw f.length o)(K:fw wb.length pb)(R:qp rs (f++wb) (Am f wb o pb) ws J)(S:∀x,x∈ps↔x∈J):AE ws ps f o wb pb:=by
 have Q:=Jy N K;refine⟨λ{e b h} he p=>?_,λ{g e2 s h1 b2 r} M L O d=>?_⟩
 .obtain⟨q,C⟩:=R.to Q (Pl.sub p λx a=>(S x).mpr a);generalize (λk:Nat=>b (aC rs k).toNat)=l at q;generalize (λk:Nat=>h (aC rs k).toNat)=h' at q C;have t:Pl f o e l h':=q.EN λx a=>eX _ (eX _ a);have n:Pl wb pb e (λi=>l (f.length+i)) (λi=>h' (f.length+i)):=q.Et K λx a=>eX _ (cR _ (dO a));obtain⟨m,E,Z,P⟩:=EE (λi=>l i+h' i) f.length;have hb:∀j,j<wb.length->m<=l (f.length+j):=λj A=>P _ (n.b0 j A) λi c=>by
   have:=q.ne _ (cR _ (GP.mpr ⟨i,j,c,A,rfl⟩));dsimp only at this;rw[cJ,cJ]at this;exact this
  refine⟨m,l,h',λi=>l (f.length+i) - m,λi=>h' (f.length+i),E,P e he t.en,⟨t.b0,t.lh,t.hu,Z,t.ne⟩,⟨λi c=>?_,n.lh,n.hu,λi c=>?_,λx a=>?_⟩,by rw[<-C,JZ]⟩
  .have:=hb i c;exact bY this
  .have:=n.en i c;lia
  .have:=n.ne x a;lia
 .have Y:=O.mono (e':=g+e2) (b9 L);have X:Pl wb pb (g+e2) (λi=>g+b2 i) r:=⟨λi c=>eA M (d.b0 i c),d.lh,d.hu,λi c=>by have:=d.en i c;exact bG (dI (YA g (b2 i) (r i))) (Ym this g),λx a=>by have:=d.ne x a;lia⟩;have u:=Y.two X N K;have U:Pl (f++wb) (Am f wb o pb) (g+e2) (two f.length s λi=>g+b2 i) (two f.length h1 r):=⟨u.b0,u.lh,u.hu,u.en,λx a=>by
   rcases fZ a with a|a
   .exact u.ne x a
   .obtain⟨i,j,c,A,rfl⟩:=mZ a;dsimp only;rw[cJ,cJ,sV c,sV c,t7];have:=O.en i c;have:=d.b0 j A;lia⟩
  obtain⟨p,C⟩:=R.back Q U;exact⟨_,_,Pl.sub p λx a=>(S x).mp a,by rw[C,UP]⟩
theorem FP(L:fi ws ps nd bs fs z y)(h1:z<=e)(r:e<2^300):∃b h,Pl ws ps e b h:=by
 obtain⟨q,_,A⟩:=(sO L r).2 h1;obtain⟨b,h,p,_⟩:=A.kz L.g;exact⟨b,h,p⟩
theorem AE.ends(T:AE ws ps f o wb pb)(L:fi ws ps nd bs fs z y)(a:fi f o B F G w v)(L2:fi wb pb D H I z2 y2):z=w+z2/\y=v+y2:=by
 have u:=L.z0;have k:=a.z0;have j:=L2.z0;have t:=L.zy;have n:=a.zy;have m:=L2.zy;have x:=L.yb;have s:=a.yb;have b2:=L2.yb;constructor
 .apply cA
  .obtain⟨_,_,i⟩:=FP a (bK _) (bC n (bC s (by decide)));obtain⟨_,_,d⟩:=FP L2 (bK _) (bC m (bC b2 (by decide)));obtain⟨_,_,p,_⟩:=T.ER k j i d;exact L.pj p (eA k j)
  .obtain⟨_,_,p⟩:=FP L (bK _) (bC t (bC x (by decide)));obtain⟨g,_,_,_,_,l,h1,i,d,_⟩:=T.to u p;have:=a.pj i l;have:=L2.pj d (bY h1);lia
 .apply cA
  .obtain⟨_,_,i,c1⟩:=a.zero.kz a.g;obtain⟨_,_,d,c2⟩:=L2.zero.kz L2.g;obtain⟨_,_,p,c⟩:=T.ER (bG k n) (bG j m) i d;exact L.z4 p (bG (eA k j) (Int.add_le_add n m)) (by rw[c,c1,c2];rfl)
  .obtain⟨_,_,p,c⟩:=L.zero.kz L.g;obtain⟨g,_,_,_,_,l,h1,i,d,K⟩:=T.to (bG u t) p;have C:=F5 a.g i;have A:=F5 L2.g d;have:=a.z4 i l (by lia);have:=L2.z4 d (bY h1) (by lia);lia
theorem Jz{E Q A:XH}{k:Nat}(L:fi ws ps nd bs fs z y)(C:kf (gY ws) ws.length (jJ 0 nd) (plenty ws 0) y E Q A k):∀(i j:Nat),j+i=k->∀m,0<=m->m<=E j - E k->mH ws nd (E j - m) (Q j+h9 (ju E A j i) m)
 |0,j,c,m,l,h1=>by
  obtain rfl:j=k:=c;rw[show m=0 by lia,eU,show h9 (ju E A j 0) 0=0 from rfl,dN];exact OZ L C (bD _)
 |i+1,j,c,m,l,h1=>by
  have d:j<k:=by lia
  have t:=C.k4 j d;have a:i0 (ju E A (j+1) i):=by
   have:∀(i j:Nat),j+i<=k->i0 (ju E A j i):=λi=>by
    induction i with
    |zero=>intro j _ p a;cases a
    |succ i ih=>
     intro j c p a;rcases fU a with rfl|a
     .have:=C.k4 j (by lia);dsimp only;exact bU (d7 this)
     .exact ih (j+1) (by lia) p a
   exact this i (j+1) (by lia)
  show mH ws nd (E j - m) (Q j+(A (j+1)*min (E j - E (j+1)) m+h9 (ju E A (j+1) i) (m - min (E j - E (j+1)) m)));by_cases n:m<=E j - E (j+1)
  .rw[show min (E j - E (j+1)) m=m by lia,Yo,Fn a,dN];have:=Ml L C d (x:=E j - m) (by lia) (Yn (E j) l);rw[show E j - (E j - m)=m by lia]at this;exact this
  .rw[show min (E j - E (j+1)) m=E j - E (j+1)by lia,<-YA,<-C.price j d];have:=Jz L C i (j+1) (XU (Yk j 1 i) (XU (fB j i 1) c)) (m - (E j - E (j+1))) (bU (d7 (iP n))) (by lia);rw[show E (j+1) - (m - (E j - E (j+1)))=E j - m by lia]at this;exact this
structure AC(ws:XA)(nd:XD)(z y:Int)(l:XB):Prop where
 pos:∀p∈l,0<=p.2
 nn:∀p∈l,0<=p.1
 Hv:Bs l
 fx:NF.fx l=y - z
 at_:∀m,0<=m->m<=y - z->mH ws nd (y - m) (h9 l m)
theorem vW{E A:XH}{p:Int×Int}:∀{i j:Nat},p∈ju E A j i->∃k,j<=k/\k<j+i/\p=(A (k+1),E k - E (k+1))
 |0,j,h=>by cases h
 |i+1,j,h=>by
  rcases fU h with rfl|h
  .exact⟨j,bD _,dG (YR (bX i) j),rfl⟩
  .obtain⟨k,h1,r,e⟩:=vW h;exact⟨k,cZ h1,by lia,e⟩
theorem AC.of{E Q A:XH}{k:Nat}(L:fi ws ps nd bs fs z y)(C:kf (gY ws) ws.length (jJ 0 nd) (plenty ws 0) y E Q A k)(l:E k=z):AC ws nd z y (ju E A 0 k):=by
 refine⟨λp a=>?_,λp a=>?_,?_,?_,λm t h1=>?_⟩
 .obtain⟨i,_,n,rfl⟩:=vW a;have:=C.k4 i (by lia);dsimp only;exact bU (d7 this)
 .obtain⟨i,_,n,rfl⟩:=vW a;exact Kb C (i:=i+1) (by lia)
 .have:∀(i j:Nat),j+i<=k->Bs (ju E A j i):=λi=>by
   induction i with
   |zero=>intro j _;exact .nil
   |succ i ih=>
    intro j u;refine Zf.mpr ⟨λp a=>?_,ih (j+1) (by lia)⟩;obtain⟨m,h1,r,rfl⟩:=vW a;have:∀d,j+1+d<=k->A (j+1)<=A (j+1+d):=λd=>by
     induction d with
     |zero=>intro _;exact bK _
     |succ d c=>intro x;have:=C.uo (j+1+d) (by lia);have:=c (by lia);rw[show j+1+(d+1)=j+1+d+1 from rfl];lia
    have:=this (m - j) (by lia);rw[show j+1+(m - j)=m+1 by lia]at this;exact this
  exact this k 0 (by lia)
 .rw[JY,C.e0,XT,l]
 .have:=Jz L C k 0 (XT _) m t (by rw[C.e0,l];exact h1);rw[C.e0,C.q0,cW]at this;exact this
theorem AE.price{K l2 l:XB}(T:AE ws ps f o wb pb)(L:fi ws ps nd bs fs z y)(C:fi f o B F G w v)(L2:fi wb pb D H I z2 y2)(d:AC f B w v K)(a:AC wb D z2 y2 l2)(i:l.Perm (K++l2))(M:Bs l)(h1:z<=e)(r:e<=y)(A:mH ws nd e q):q=h9 l (y - e):=by
 obtain⟨rfl,rfl⟩:=T.ends L C L2;have a1:=C.z0;have a2:=L2.z0;have t:i0 l:=λp t=>(fZ (i.mem_iff.mp t)).elim (d.pos p) (a.pos p);have hn:∀p∈l,0<=p.1:=λp t=>(fZ (i.mem_iff.mp t)).elim (d.nn p) (a.nn p);have ht:fx l=v - w+(y2 - z2):=by rw[Tv i,QY,d.fx,a.fx]
 generalize hm:v+y2 - e=m;have R:0<=m:=bG (bY r) (dI hm);have Q:m<=fx l:=by lia
 apply cA
 .obtain⟨k,c,O,N⟩:=((Ch.h9 t R Q).perm i).cut;have x:=O.hQ;have u:=N.hQ;rw[d.fx]at x;rw[a.fx]at u;have g1:=Ch.ge d.pos d.Hv x.1 (bK _) (by rw[d.fx];exact x.2) d.nn O;have g2:=Ch.ge a.pos a.Hv u.1 (bK _) (by rw[a.fx];exact u.2) a.nn N;obtain⟨_,_,n,c1⟩:=(d.at_ k x.1 x.2).kz C.g;obtain⟨_,_,j,c2⟩:=(a.at_ (m - k) u.1 u.2).kz L2.g;obtain⟨_,_,p,c3⟩:=T.ER (by lia) (by lia) n j;rw[show v - k+(y2 - (m - k))=e by lia]at p;have:=A.le L.g p;clear O N p n j T A i M;lia
 .obtain⟨_,_,p,rfl⟩:=A.kz L.g;obtain⟨g,_,_,_,_,h0,h1,n,j,c⟩:=T.to (bG (eA a1 a2) h1) p;have k1:=C.pj n h0;have E:=L2.pj j (bY h1);have key:∀{ws ps nd bs fs z y l e b h}(L:fi ws ps nd bs fs z y)(P:AC ws nd z y l)(p:Pl ws ps e b h),z<=e->∃m,y - e<=m/\∃c,Ch l m c/\c<=cst ws h:=λ{ws ps nd bs fs z y l e b h} L P p hz=>by
   by_cases S:e<=y
   .have:=(P.at_ (y - e) (bY S) (by lia));rw[show y - (y - e)=e by lia]at this;exact⟨y - e,bK _,_,Ch.h9 P.pos (bY S) (by rw[P.fx];lia),this.le L.g p⟩
   .have Y:=L.zy;exact⟨0,by lia,_,Ch.h9 P.pos (bK _) (by rw[P.fx];exact bY Y),by rw[Fn P.pos];exact F5 L.g p⟩
  obtain⟨Z,K,c1,X,i1⟩:=key C d n k1;obtain⟨n2,l2,c2,U,i2⟩:=key L2 a j E;have:=Ch.ge t M R (m':=Z+n2) (by lia) Q hn ((X.app U).perm i.symm);clear X U p n j T A i M;lia
end
end lu
namespace lu
open PySem L2 TL aJ NF ls
variable{ps:XB}
theorem Vi(h:∀p∈ps,oi p):(ua ps).Perm ps:=by
 have a:=(zK (xs:=ps.map tu)).map Dc;rw[cK]at a;refine a.trans (List.Perm.of_eq ?_)
 conv=>rhs;rw[<-ZI ps]
 exact cU λp b=>HF (h p b)
theorem UY:Bs (ua ps):=
 ZF.mpr (GE.imp λ{a b} h=>Int.ediv_le_ediv (by decide) h)
theorem Ue{C:ab}{Q:Xw->Prop}{t:T}(h:dm C t=some (ps.map pU))(i:ps.length<64)(j:∀p∈ps,oi p)(q:Q ((ua ps).map pU)):lx (DC [t] C) Q:=by
 have g:∃f:XB,ps.map pU=f.map pU/\f.length<64/\∀p∈f,oi p:=⟨ps,rfl,i,j⟩;refine⟨_,?_,q⟩;show(dm C t).bind _=_;rw[h,aS,dif_pos g,<-(List.map_inj_right λp q e=>by obtain⟨a,b⟩:=p;obtain⟨c,d⟩:=q;cases e;rfl).mp g.choose_spec.1]
theorem Dm{b:aE}{C:ab}{a:Nat}{F:FE}{l row:Xw}{i j:Int}{t r v:T}(k:b[a]?=some (some t))(d:jg C t=some l)(h:F b C=some (.int i,C))(g:dc l i=some r)(f:jg C r=some row)(c:dc row j=some v):aH (aH (kI a) F) (fC (.int j)) b C=some (v,C):=
 oK (fL (fL (fO k (gM h (gL ⟨_,d,_,g,fS (gL ⟨_,f,_,c,rfl,rfl⟩)⟩)))))
theorem KP{E A:XH}:∀{i j:Nat},ju E A j (i+1)=ju E A j i++[(A (j+i+1),E (j+i) - E (j+i+1))]
 |0,j=>rfl
 |i+1,j=>by
  show _::ju E A (j+1) (i+1)=_;rw[KP,show j+1+i=j+(i+1)from XU (Yk j 1 i) (fB j i 1)];rfl
theorem GR{E A:XH}:∀{i j:Nat},(ju E A j i).length=i
 |0,j=>rfl
 |i+1,j=>by show(ju E A (j+1) i).length+1=_;rw[GR]
section
variable {ws f g:XA}{ps j n:XB}{o u B:XD}{bs fs F G H I:XE}{z y J K M N e O P q:Int}{l:XB}
def DA(ws:XA)(ps l:XB):Prop:=∀(t:T)(d:XB)(D:ab)(a b c:Xx)(Q:TL.Fl->aE->ab->Prop),d.length<=100->
 (∀D a b c,Q .nx [some t,some (.cell 0),some (.lst (ws.map w3)),some (.lst (ps.map pT)),a,b,c] ((.l,(d++l).map pU)::D))->wpS qQ [some t,some (.cell 0),some (.lst (ws.map w3)),some (.lst (ps.map pT)),a,b,c] ((.l,d.map pU)::D) Q
theorem S9{E q A:XH}{k L:Nat}{cs:XG}{D:ab}{t:T}{w:XB}{b c:Xx}{Q:TL.Fl->aE->ab->Prop}(Y:∀X,dy.mQ ((.l,X)::D) L cs (fd E q k))(v:∀i,i<k->0<E i - E (i+1)/\E i - E (i+1)<2^250)(r:∀i,i<k->q (i+1)=q i+A (i+1)*(E i - E (i+1)))(hk:k<=31)(ip:w.length<=100)
 (S:∀D a b c,Q .nx [some t,some (.cell 0),some (.lst (ws.map w3)),some (.lst (ps.map pT)),a,b,c] ((.l,(w++ju E A 0 k).map pU)::D)):wpS (qL (fI 1) (nX (fN Y4 f7)) (gN 5) q9) [some t,some (.cell 0),some (.lst (ws.map w3)),some (.lst (ps.map pT)),some (.cell L),b,c] ((.l,w.map pU)::D) Q:=by
 have R:cs.length=k+1:=by rw[(Y []).rows.1,Pa]
 have row:∀(i:Nat)(x:Int),i<=k->x=i->∃c,dc (cs.map T.cell) x=some (.cell c)/\∀X,jg ((.l,X)::D) (.cell c)=some [.int (E i),.int (q i)]:=λi x m hx=>by
  have h1:cs[i]?=some (cs[i]'(aM (eO m) (bZ (eS R)))):=aO (aM (eO m) (bZ (eS R)));refine⟨_,by rw[hx,sF,bI,h1];rfl,λX=>gS ((Y X).rows.2 i _ [E i,q i] h1 ?_).1⟩;rw[fd,bI,eI (eO m)];rfl
 have p:∀X,jg ((.l,X)::D) (.cell L)=some (cs.map T.cell):=λX=>gS (Y X).at_;refine wO.mpr (fS (f9 (fF (fO rfl (fM (l7 ⟨_,p _,_,_,rfl,rfl,?_,?_⟩))))))
 .rw[aP,R];clear v r row;lia
 rw[aP,R,show(((k+1:Nat):Int) - 1).toNat=k by lia];refine qI (λi d C=>C=(.l,(w++ju E A 0 i).map pU)::D/\∃b c,d=[some t,some (.cell 0),some (.lst (ws.map w3)),some (.lst (ps.map pT)),some (.cell L),b,c]) ⟨by rw[show ju E A 0 0=[]from rfl,aU],_,_,rfl⟩ ?_ ?_
 .rintro i d _ m ⟨rfl,b,c,rfl⟩ Q S;obtain⟨c1,f1,g1⟩:=row i (1+(i:Int) - 1) (dY m) (by clear v r row;lia);obtain⟨c2,f2,g2⟩:=row (i+1) (1+(i:Int)) m (by clear v r row;lia);have s:=v i m;have e:=r i m;have U:(q (i+1) - q i)/(E i - E (i+1))=A (i+1):=by
   rw[e,Yd,Yz];exact Int.mul_ediv_cancel _ (Int.ne_of_gt s.1)
  unfold q9;have v1:∀{d:aE}{C:ab},d[5]?=some (some (.int (1+(i:Int))))->qK Y5 (fI 1) d C=some (.int (1+(i:Int) - 1),C):=λh=>oK (fL (fO h (fS (gC ⟨rfl,rfl⟩))));have Z:∀{d:aE}{C:ab},d[5]?=some (some (.int (1+(i:Int))))->kI 5 d C=some (.int (1+(i:Int)),C):=λh=>oK (fO h ⟨rfl,rfl⟩);refine fT (ej (t:=.int (E i - E (i+1))) (fL (gM (Dm (a:=4) rfl (p _) (v1 rfl) f1 (g1 _) rfl) (gM (Dm (a:=4) rfl (p _) (Z rfl) f2 (g2 _) rfl) (gC ⟨rfl,rfl⟩)))) ?_);refine i6 (fO rfl (fF (lS (fF (fL (fL (gM (Dm (a:=4) rfl (p _) (Z rfl) f2 (g2 _) rfl) (gM (Dm (a:=4) rfl (p _) (v1 rfl) f1 (g1 _) rfl) (gC (fO rfl (gE ⟨m9 s,?_⟩)))))))))));rw[U];refine fF (fO rfl (fM ⟨rB,fM ⟨0,rfl,rfl,_,rfl,jY ⟨uK (k:=131) ?_ (by decide),S _ _ trivial ⟨?_,_,_,rfl⟩⟩⟩⟩))
  .rw[aY,GR];clear v r row;lia
  .rw[KP,<-dH,bR (l₂:=[_])];rw[XT];rfl
 .rintro d _ ⟨rfl,b,c,rfl⟩;exact S _ _ _ _
theorem Ij(L:fi ws ps o bs fs z y)(R:ws.length<=4)(di:∀w∈ws,uH w):∃l,AC ws o z y l/\l.length<=31/\(∀p∈l,oi p/\p.1<2^245)/\DA ws ps l:=by
 obtain⟨k,E,q,A,r,Cn,eC,Z,ax,C,s⟩:=Wf L R;have W:=L.g.y0 (bonus:=0) (by decide);obtain⟨rk,r1,r2⟩:=W.rk;have Y:=C.lq R (λi m=>(nQ (P:=qS) L.g.ok m).2.2.1) r1 r2 W.ql W.pP;have zw:=L.z0;have hyC:=L.yC di;have v:=L.sC di;have be:∀i,i<k->0<E i - E (i+1)/\E i - E (i+1)<2^250:=λi m=>by
  have S:=C.k4 i m;have R:=C.le (i:=i) (dY m);have h5:=C.ge (i:=i+1) (bS m);rw[s]at h5;clear Z eC;lia
 refine⟨ju E A 0 k,AC.of L C s,by rw[GR];exact Y,λp hp=>?_,λt U D a b c Q ip hq=>?_⟩
 .obtain⟨i,_,m,rfl⟩:=vW hp;have S:=be i (by lia);have h2:=SJ C (i:=i) (by lia);exact⟨⟨bU S.1,cX S.2 (by decide)⟩,by dsimp only;exact bC h2 (bC v (by decide))⟩
 have R0:=(Ud Z ax).sh (C:=(.l,U.map pU)::D);unfold qQ;refine fQ (f8 (f9 (fF (fO rfl (fF (fO rfl (fM ((dy.Mc eC rfl dy.CD).mpr (fT (fV ?_))))))))));refine S9 (cs:=((bH (k+1)).map r).map (((.l,U.map pU)::D).length+ ·)) (λX=>R0.keep λd hd=>?_) be (λi m=>C.price i m) Y ip hq;cases d with
 |zero=>
  rcases hd with h|h
  .cases h
  .obtain⟨x,_,h⟩:=fY h;rw[aN]at h;lia
 |succ d=>rfl
theorem Vy{k lb:XB}(X:DA f j k)(U:DA g n lb)(A:k.length<=31)(L:lb.length<=31)(Z:∀p∈k,oi p)(Y:∀p∈lb,oi p):nY [.lst [eD f j,eD g n]]=some (.lst ((ua (k++lb)).map pU)):=by
 suffices h:∃t,nY [.lst [eD f j,eD g n]]=some t/\t=.lst ((ua (k++lb)).map pU)by
  obtain⟨_,e,rfl⟩:=h;exact e
 refine rR λQ q=>?_;unfold zZ;refine fQ (f8 (iK (gK (fM ⟨by decide,fT (fV ?_)⟩))));refine fQ (iS (fO rfl ⟨_,rfl,?_⟩));refine pZ (xs:=[(f,j,k),(g,n,lb)]) (en:=λx=>eD x.1 x.2.1) (λi v C=>∃m D,C=(.l,m.map pU)::D/\m=(([(f,j,k),(g,n,lb)].take i).map (·.2.2)).flatten/\m.length<=62/\∃a b c d e,v=[some (.lst [eD f j,eD g n]),some (.cell 0),a,b,c,d,e]) ⟨[],[],rfl,rfl,by decide,_,_,_,_,_,rfl⟩ ?_ ?_
 .rintro i x v _ s ⟨m,D,rfl,r,w,a,b,c,d,e,rfl⟩ Q q;have R:DA x.1 x.2.1 x.2.2:=by
   have:=aX s;simp only[cC,cP,or_false]at this;rcases this with rfl|rfl
   .exact X
   .exact U
  refine kX ⟨_,rfl,rfl,R _ m D _ _ _ _ (bB w (by decide)) λD a b c=>q _ _ trivial ⟨_,_,rfl,?_,?_,_,_,_,_,_,rfl⟩⟩
  .rw[X7,s,bR,List.flatten_append,<-r];simp
  .rw[aY];rcases i with _|_|i
   .cases s;rw[r];exact Zo (dF 31) A
   .cases s;rw[r,show(Zl (λx=>x.2.2) (aUI (0+1) [(f,j,k),(g,n,lb)])).flatten=k++[]from rfl,aU];exact Zo A L
   .cases s
 .rintro v _ ⟨m,D,rfl,r,w,a,b,c,d,e,rfl⟩;obtain rfl:m=k++lb:=by rw[r];simp
  refine fV (gG (gA (u8.mpr (fF (fO rfl (fM (Ue rfl (bO w (by decide)) (λp S=>(fZ S).elim (Z p) (Y p)) (q _ _ _ _ (j5 ?_) rfl))))))));rw[iH];generalize ua (k++lb)=l;induction l with
  |nil=>rfl
  |cons p l ih=>rw[aK,gH,ih];rfl
theorem TR{l:XB}(S:∀p∈l,(0<=p.1/\p.1<2^245)/\0<=p.2){m:Int}(X:0<=m)(D:m<2^256):mK [.lst (l.map pU),.int m]=some (.int (h9 l m)):=by
 suffices h:∃t,mK [.lst (l.map pU),.int m]=some t/\t=.int (h9 l m)by
  obtain⟨_,e,rfl⟩:=h;exact e
 refine rR λQ q=>?_;unfold vB;refine ej (t:=.int 0) (fS ⟨rfl,rfl⟩) (fQ (iS (fO rfl ⟨_,rfl,?_⟩)));refine pZ (xs:=l) (en:=pU) (λi c C=>C=[]/\∃k s a b,(0<=k/\k<2^256)/\s+h9 (l.drop i) k=h9 l m/\c=[some (.lst (l.map pU)),some (.int k),some (.int s),a,b]) ⟨rfl,m,0,_,_,⟨X,D⟩,cW _,rfl⟩ ?_ ?_
 .rintro i p c _ d ⟨rfl,k,s,a,b,w,e,rfl⟩ Q q;obtain⟨L,R⟩:=S p (aX d);have A:l.drop i=p::l.drop (i+1):=by
   rw[YZ (fK d).1,(fK d).2]
  rw[A]at e;have e:s+(p.1*min p.2 k+h9 (l.drop (i+1)) (k - min p.2 k))=h9 l m:=e;have r:0<=min p.2 k/\min p.2 k<=k:=by clear e A q d;exact⟨nK ⟨R,w.1⟩,Zs p.2 k⟩
  unfold sI;have v:∀c:aE,c[4]?=some (some (.int p.2))->c[1]?=some (some (.int k))->sM (fN Y4 (fN Y1 f7)) c []=some (.int (min p.2 k),[]):=λc U D=>oK (Bi (fO U ⟨rfl,rfl⟩) (fO D ⟨rfl,rfl⟩) ⟨rfl,rfl⟩);generalize min p.2 k=x at*;refine kX ⟨_,rfl,rfl,ej (t:=.int (s+p.1*x)) (fL (fO rfl (fL (fO rfl (gM (v _ rfl rfl) (gE ⟨uQ (Bt.of_lt (k:=256) L.1 (cX L.2 (by decide))) (Bt.of_lt (k:=256) r.1 (bC r.2 w.2)) (by decide),gC ⟨rfl,rfl⟩⟩)))))) ?_⟩;refine f8 (fL (fO rfl (gM (v _ rfl rfl) (gC (fT (q _ _ trivial ⟨rfl,k - x,s+p.1*x,_,_,?_,by rw[YA];exact e,rfl⟩))))));clear e A q d v;exact⟨bY r.2,bC (Yn k r.1) w.2⟩
 .rintro c _ ⟨rfl,k,s,a,b,w,e,rfl⟩;rw[List.drop_length]at e;have e:s+0=h9 l m:=e;rw[dN]at e;exact fV (gG (fO rfl (q _ _ _ _ (j5 iE) (by rw[e]))))
end
end lu
namespace lu
open PySem L2 TL aJ NF ls
theorem Q3{rs:XE}{n m:Nat}(h:rs.length=n+m){x:Int×Int}:x∈(Cb n m).map (lp rs)↔x.1∈rs.take n/\x.2∈rs.drop n:=by
 constructor
 .intro g;obtain⟨u,k,rfl⟩:=fY g;obtain⟨i,j,a,p,rfl⟩:=mZ k;refine⟨aX (i:=i) ?_,aX (i:=j) ?_⟩
  .rw[eR a,aO (by lia)];exact congrArg some (jX _).symm
  .rw[aTO,aO (by lia)];exact congrArg some (jX _).symm
 .rintro⟨b,c⟩;obtain⟨i,b⟩:=gB b;obtain⟨j,c⟩:=gB c;rw[aTO]at c;have a:=(fK b).1;rw[eE]at a;rw[eR (aM a (d0 n rs.length))]at b;obtain⟨f,o⟩:=fK b;obtain⟨d,l⟩:=fK c;refine iG ⟨_,GP.mpr ⟨i,j,aM a (d0 n rs.length),by lia,rfl⟩,YX ?_ ?_⟩
  .exact(jX f).trans o
  .exact(jX d).trans l
theorem Do{c:aE}{C:ab}{a:Nat}{row d:Xw}{i j:Int}{r f v:T}(l:c[a]?=some (some r))(k:jg C r=some row)(h:dc row i=some f)(g:jg C f=some d)(b:dc d j=some v):aH (aH (kI a) (fC (.int i))) (fC (.int j)) c C=some (v,C):=
 oK (fL (gM (dy.tx l k h) (fS (gL ⟨_,g,_,b,rfl,rfl⟩))))
theorem UI{C:ab}{Q:T->ab->Prop}:bf (Bm .aF .aF C) Q↔Q (.bl false) C:=by
 unfold bf Bm;constructor
 .rintro⟨_,_,e,q⟩;cases e;exact q
 .exact λq=>⟨_,_,rfl,q⟩
theorem Bg{a:XA}{b:XB}:CF (eD a b)=true:=by rw[lW,gH,gH,iQ,iH,iH,qX,oO];rfl
theorem JN{v:Int}:(!decide (v=v))=false:=by rw[decide_eq_true rfl];rfl
theorem Q7{ns:XE}{b a:XA}{d c:XB}(h:xE [.lst ((Ak ns 0).map T.int),.int 4,.int (10^20)]=some (eD b d))(g:xE [.lst ((Ak ns 1).map T.int),.int 4,.int (10^20)]=some (eD a c)):o6 [.lst (ns.map T.int)]=some (.lst [eD b d,eD a c]):=
 RG (f:=λk=>if k=0 then eD b d else eD a c) λk f=>by
  match k,f with
  |0,_=>exact⟨Bg,h⟩
  |1,_=>exact⟨Bg,g⟩
theorem BX(ns:XE):∃a d wb pb ws ps f g z2 y2 l,o6 [.lst (ns.map T.int)]=some (.lst [eD a d,eD wb pb])/\tD [eD a d,eD wb pb,.int (m7 ns 4),.bl true]=some (eD ws ps)/\
 pV [.lst (a.map w3),.lst (d.map pT)]=some (.tup [.int f,.int g])/\pV [.lst (wb.map w3),.lst (pb.map pT)]=some (.tup [.int z2,.int y2])/\
 i7 [.lst (ws.map w3),.lst (ps.map pT)]=some (.int (f+z2))/\l9 [.lst (ws.map w3),.lst (ps.map pT)]=some (.int (g+y2))/\
 mB [.lst (ws.map w3),.lst (ps.map pT),.int (f+z2 - 1)]=some .aF/\nY [.lst [eD a d,eD wb pb]]=some (.lst l)/\fc l=true/\
 (f+z2<=g+y2/\g+y2<2^256)/\∀e,f+z2<=e->e<=g+y2->∃q,mB [.lst (ws.map w3),.lst (ps.map pT),.int e]=some (.int q)/\mK [.lst l,.int (g+y2 - e)]=some (.int q):=by
 obtain⟨a,d,na,ba,fa,f,g,ea,c,o,u,k⟩:=BY (J1 (ns:=ns) (k:=0) (by decide)) (M:=4) (by decide) (by decide) (u:=10^20) (by decide) (by decide);obtain⟨wb,pb,nb,bb,fb,z2,y2,eb,b,s,t,j⟩:=BY (J1 (ns:=ns) (k:=1) (by decide)) (M:=4) (by decide) (by decide) (u:=10^20) (by decide) (by decide);obtain⟨rs,R,ps,eP,au,K⟩:=Rx (c:=m7 ns 4) o s u t c.g.gm b.g.gm;have m:=QD R (ps:=Am a wb d pb);have C:=Jy c.g.gm b.g.gm;have n:∀x,x∈ps↔x∈(Am a wb d pb).map (lp rs):=λx=>by
  rw[K,show(Am a wb d pb).map (lp rs)=(d++pb.map (kq a.length)).map (lp rs)++(Cb a.length wb.length).map (lp rs)from bR,XZ,Q3 (by rw[R.len,aY])]
 obtain⟨r,M⟩:=m.uy C (QJ c.g.gm b.g.gm c.g.uy b.g.uy);obtain⟨nd,bs,fs,z,y,L⟩:=fi.of (ws:=ws2 rs (a++wb)) (ps:=ps) (by rw[m.l,aY];exact Zo o s) (bB au (by decide)) (λx v=>m.gm C x ((n x).mp v)) ⟨r,λx v=>M x ((n x).mp v)⟩ (Qf R λw Z=>(fZ Z).elim (c.g.ok w) (b.g.ok w));have P:=AE.of c.g.gm b.g.gm m n;clear m C n K M;obtain⟨rfl,rfl⟩:=P.ends L c b;obtain⟨J,H,Y,F,U⟩:=Ij c o k;obtain⟨l2,G,X,D,S⟩:=Ij b s j;have E:∀p∈J++l2,oi p:=λp i=>(fZ i).elim (λh=>(F p h).1) λh=>(D p h).1;have ez:=L.z0;have O:=L.yb;have zy:=L.zy;have Q:=c.yC k;have Q:=b.yC j;refine⟨a,d,wb,pb,_,ps,f,g,z2,y2,_,Q7 ea eb,eP,c.en,b.en,L.le,L.fe,(sO L (by lia)).1 (aUe (f+z2) (by decide)),Vy U S Y X (λp i=>(F p i).1) (λp i=>(D p i).1),?_,⟨L.zy,bC O (by decide)⟩,λe N B=>?_⟩
 .generalize ua (J++l2)=l;induction l with
  |nil=>rfl
  |cons p l ih=>rw[aK,gH,ih];rfl
 obtain⟨q,e3,A⟩:=(sO L (bC B (bC O (by decide)))).2 N;have I:=Vi E;refine⟨q,e3,?_⟩;rw[P.price L c b H G I UY N B A];refine TR (λp i=>?_) (bY B) (by lia);rcases fZ (I.mem_iff.mp i)with h|h
 .exact⟨⟨H.nn p h,(F p h).2⟩,H.pos p h⟩
 .exact⟨⟨G.nn p h,(D p h).2⟩,G.pos p h⟩
abbrev sL(h:XE)(c b a:XA)(g f d:XB)(r:aE):aE:=[some (.lst (h.map T.int)),some (.lst [eD c g,eD b f]),some (.lst (a.map w3)),some (.lst (d.map pT))]++r
theorem Uc:∀d:XE,d.length<=63->(∀n∈d,aWt.Int.intBits n<=2^20)->CC [.lst (d.map T.int)]=some (.bl true):=by
 intro d N hb;obtain⟨j,o,f,m,p,s,w,x,z2,y2,l,eL,eP,P,O,eZ,eY,eN,eQ,cl,U,K⟩:=BX d;suffices h:∃t,CC [.lst (d.map T.int)]=some t/\t=.bl true by
  obtain⟨_,e,rfl⟩:=h;exact e
 refine rR λQ q=>?_;unfold Io;have S:fc [eD j o,eD f m]=true:=by rw[gH,gH,Bg,Bg];rfl
 have L:∀(k:Int) u C,0<=k->g8 2 iW (fN Y0 (fN (fC (.int k)) f7)) (some (.lst (d.map T.int))::u) C=some (.int (m7 d k),C):=λk u C hk=>oK (yn rfl (fS ⟨rfl,rfl⟩) hk ⟨rfl,rfl⟩);refine ej (t:=.lst [eD j o,eD f m]) (f9 (fF (fO rfl (fM ((gP eL rfl (by walk_at "c")).mpr ⟨rfl,rfl⟩))))) ?_;refine fQ (f8 (f9 (fF (gM (dy.tx (a:=1) rfl rfl rfl) (fF (gM (dy.tx (a:=1) rfl rfl rfl) (fF (gM (L 4 _ _ (by decide)) (fF (fS (fM ((gP eP rfl (by rw[gH,gH,Bg,Bg];rfl)).mpr (kX ⟨_,rfl,rfl,fV ?_⟩)))))))))))));change wpS _ (sL d j f p o m s [none,none,none,none,none,none,none,none,none]) [] Q;refine ej (t:=.lst [.tup [.int w,.int x],.tup [.int z2,.int y2]]) ?_ ?_
 .refine gA (jK (hX ⟨_,rfl,_,rfl,by simp[lim],?_⟩));refine iY (xs:=[(j,o,w,x),(f,m,z2,y2)]) (en:=λl=>eD l.1 l.2.1) (λl=>.tup [.int l.2.2.1,.int l.2.2.2]) (λl N=>?_) ?_
  rotate_left
  .exact⟨rfl,rfl⟩
  have H:pV [.lst (l.1.map w3),.lst (l.2.1.map pT)]=some (.tup [.int l.2.2.1,.int l.2.2.2]):=by
   simp only[cC,cP,or_false]at N;rcases N with rfl|rfl
   .exact P
   .exact O
  exact fT (f9 (fF (gM (dy.tx (a:=0) rfl rfl rfl) (fF (gM (dy.tx (a:=0) rfl rfl rfl) (fM ((gP H rfl dy.CD).mpr ⟨rfl,rfl⟩)))))))
 refine ej (t:=.int (w+z2)) (fL (gM (Do (a:=4) rfl rfl rfl rfl rfl) (gM (Do (a:=4) rfl rfl rfl rfl rfl) (gC ⟨rfl,rfl⟩)))) ?_;refine ej (t:=.int (x+y2)) (fL (gM (Do (a:=4) rfl rfl rfl rfl rfl) (gM (Do (a:=4) rfl rfl rfl rfl rfl) (gC ⟨rfl,rfl⟩)))) ?_;generalize T.lst [.tup [.int w,.int x],.tup [.int z2,.int y2]]=I;generalize w+z2=z at*;generalize x+y2=y at*;change wpS _ (sL d j f p o m s [some I,some (.int z),some (.int y),none,none,none,none,none,none]) [] Q;have X:∀{R:Xw->Xx}{v:Int}{k:Nat}{r:aE},R [.lst (p.map w3),.lst (s.map pT)]=some (.int v)->(sL d j f p o m s r)[k]?=some (some (.int v))->ia (kB (Dr (g8 2 R (fN Y2 (fN Y3 f7))) (kI k))) (sL d j f p o m s r) [] λb C=>b=false/\C=[]:=λe h=>gQ (fL (f9 (fF (fO rfl (fF (fO rfl (fM ((gP e rfl dy.CD).mpr (fO h (GC.mpr ⟨_,rfl,JN,rfl⟩))))))))));refine fQ (EJ ?_ (iB (fV ?_)))
 .obtain⟨_,_,e,rfl,rfl⟩:=X (k:=5) (r:=[some I,some (.int z),some (.int y),none,none,none,none,none,none]) eZ rfl;exact Gk.mpr ⟨_,_,e,(aWa bQ).mpr (X eY rfl)⟩
 refine fQ (EJ (gQ (fL (f9 (fF (fO rfl (fF (fO rfl (fF (fL (fO rfl (fS (gC (fM ((gP eN rfl dy.F9).mpr (fS (UI.mpr ⟨_,rfl,rfl,rfl⟩)))))))))))))))) (iB (fV ?_)));refine ej (t:=.lst l) (f9 (fF (fO rfl (fM ((gP eQ rfl (by rw[gH,iH,S];rfl)).mpr ⟨rfl,rfl⟩))))) ?_;refine ej (t:=.int (m7 d 4)) (gM (L 4 _ _ (by decide)) ⟨rfl,rfl⟩) ?_;generalize m7 d 4=c;obtain⟨dr,J⟩:∃dr,dr=oJ c 70*oJ c 71^X5 3+m7 d 62:=⟨_,rfl⟩;refine ej (t:=.int dr) ?_ ?_
 .have m1:Bt 20 (70:Int):=.xi (by decide) (by decide) (by decide);have m2:Bt 20 (71:Int):=.xi (by decide) (by decide) (by decide);have D:Sm (oJ c 70):=DU;have B:Sm (oJ c 71):=DU;have h1:=B.1;have h2:=B.2;have G:Bt 31 (oJ c 71):=Bt.of_lt h1 (cX h2 (by decide));have F:Bt 31 (oJ c 70):=Bt.of_lt D.1 (cX D.2 (by decide));have E:Bt (31+31+31) (oJ c 71^X5 3):=by
   rw[show oJ c 71^X5 3=oJ c 71*oJ c 71*oJ c 71 by show oJ c 71^3=_;rw[Z3,Z3,Z3,Int.pow_zero,XY]];exact(G.mul G).mul G
  have M:(oJ c 71).natAbs<2^64:=by clear E F G K J U;lia
  refine fL (fL (f9 (fF (fO rfl (fF (fS (fM ((qF m1).mpr (fL (f9 (fF (fO rfl (fF (fS (fM ((qF m2).mpr (fS (gE ⟨decide_eq_true ⟨by decide,by decide,M⟩,gE ⟨uQ F E (by decide),gM (L 62 _ _ (by decide)) (gC ⟨?_,rfl⟩)⟩⟩))))))))))))))))));rw[J]
 clear J;have Y:0<=dr%(y - z+1)/\dr%(y - z+1)<y - z+1:=j0 (dX (bY U.1));refine ej (t:=.int (z+dr%(y - z+1))) (fL (fO rfl (fL (fO rfl (fL (fL (fO rfl (fO rfl (gC (fS (gC (gE ⟨decide_eq_true (bC Y.1 Y.2),gC ⟨rfl,rfl⟩⟩)))))))))))) ?_;generalize dr%(y - z+1)=g at*;change wpS _ (sL d j f p o m s [some I,some (.int z),some (.int y),some (.lst l),some (.int c),some (.int dr),some (.int (z+g)),none,none]) [] Q;refine fQ (iS (gM (oK (t:=.lst ((zF [z,z+g,max z (y - 1)] (some (c%2)) none).map T.int)) ?_) ⟨_,rfl,?_⟩))
 .refine gA (mS (gA (gK (fF (fO rfl (fF (fO rfl (fF (f9 (fF (fO rfl (fF (fL (fO rfl (fS (gC (fM (Ln.mpr (fM ⟨by simp[lim],?_⟩)))))))))))))))))));refine j8 (fL (fO rfl (fS (gE ⟨by decide,_,rfl,mT ⟨_,rfl,?_,rfl⟩⟩))));rw[<-qJ];rfl
 refine pZ (λi u C=>C=[]/\∃a b,u=sL d j f p o m s [some I,some (.int z),some (.int y),some (.lst l),some (.int c),some (.int dr),some (.int (z+g)),a,b]) ⟨rfl,_,_,rfl⟩ ?_ ?_
 .rintro i e u C Z ⟨rfl,a,b,rfl⟩ Q q;have A:=K5 (aX Z);have H:z<=e/\e<=y:=by
   simp only[cC,cP,or_false]at A;clear K Z q;rcases A with rfl|rfl|rfl<;>lia
  obtain⟨v,e1,e2⟩:=K e H.1 H.2;unfold KF;refine fT (ej (t:=.int v) (f9 (fF (fO rfl (fF (fO rfl (fF (fO rfl (fM ((gP e1 rfl dy.F9).mpr ⟨rfl,rfl⟩))))))))) ?_);refine EJ (Gk.mpr (JP.mpr (mD (f9 (fF (fO rfl (fM (Va.mpr ⟨true,rfl,?_⟩)))))))) (iB (q _ _ trivial ⟨rfl,_,_,rfl⟩));rw[aWa (by simp)];exact gQ (fL (fO rfl (f9 (fF (fO rfl (fF (fL (fO rfl (fO rfl (gC (fM ((gP e2 rfl (by rw[gH,iH,cl];rfl)).mpr (GC.mpr ⟨_,rfl,JN,rfl⟩)))))))))))))
 .rintro u C ⟨rfl,a,b,rfl⟩;exact fV (gG (fS (q _ _ _ _ (j5 nS) rfl)))
end lu
end
namespace lu
open PySem L2 TL aJ
open HT (top)
local macro_rules| `(tactic|walk_at "bq")=>`(tactic|first|exact λ_ _ _ _ _ _=>r4 λ_=>rfl|exact λ_ _ _ _ _ _=>t5 λ_=>r4 λ_=>rfl|exact λ_ _ _ _ _ _=>t5 λ_=>t5 λ_=>r4 λ_=>rfl|exact λ_ _ _ _ _ _=>t5 λ_=>t5 λ_=>t5 λ_=>r4 λ_=>rfl|exact λ_ _ _ _ _ _=>t5 λ_=>t5 λ_=>t5 λ_=>t5 λ_=>r4 λ_=>rfl)
section
variable {P:aWm}{w:aWr}{K:aL}{a:Str->XM}{b:aWi}{f:aWe}{fd:aXh}
set_option maxHeartbeats 0
theorem UJ:Ky P w K a b "_law_mixed" "_law_mixed" (top 47) ["_law_cell","_law_k"] 1 (spT K 2 kZ):=λF=>dh (N:=["_law_cell","_law_k","_law_number"]) F iJ (jC iI) λc d=>
 (fP (gD c 2 (jQ (iZ (iZ (mO (fH 0) fW) (mO (mO (fH 1) (fH 1)) fW)) fW) fW))
  (fP (gD c 2 (jQ (mO (fH 2) (fH 2)) fW))
  (f6 (hV (jQ (mO (fH 2) (fH 2)) fW)))))
theorem VZ(c:a "len"=none):Ky P w K a b "_law_cell_at" "_law_cell_at" (top 46) ["_law_script","_law_k"] 1 (spT K 2 iW):=λF=>dh (N:=["_law_script","_law_k"]) F iJ (jC iI) λd g=>
 (fP (nL (Dz (fH 1) (m8 c (fJ (fH 0) fR))) (f6 (hV (iD (fH 0) (fH 1)))) kF)
  (f6 (hV fW)))
theorem Wc(g:kO P w K a b 1 "_law_mixed" 2 kZ)(j:kO P w K a b 1 "_law_cell_at" 2 iW)(h:a "range"=none)(i:a "min"=none)(k:a "len"=none):Ky P w K a b "_law_numbers" "_law_numbers" (top 49) ["_law_cells"] 2 (spT K 1 pF):=λF=>dh (N:=["_law_cells","_law_numbers_here","_law_k","_law_at"]) F iJ (jC iI) λc d=>
 (fP (qB c 1 h rfl (g0 ["_law_k"] ["_law_cells"] [0]) fW (j9 (by decide)) (λ_ _ _ _=>(kH (show List.Nodup (["_law_k","_law_cells"]:XJ)by decide) 0)) (λ_ _ _ _=>jI) (λ_ _ _ _=>(gR g (bw d) (fJ (gR j (bw d) (fJ (fH 1) (fJ fW fR))) (fJ (iZ fW (fH 0)) fR)))))
  (fP (zV h rfl fW (r6 i rfl (fJ fW (fJ (m8 k (fJ (fH 0) fR)) fR))) (kH c 2) (fP (gD c 3 (jQ (fH 2) fW))
  (f6 (tR (gR g (bw d) (fJ (iZ (iD (fH 1) (fH 3)) (iD (fH 0) (fH 2))) (fJ (fH 2) fR))) (fH 1) (fH 3)))))
  (f6 (hV (fH 1)))))
theorem Vp(d:kO P w K a b 1 "_law_mixed" 2 kZ)(h:a "range"=none):Ky P w K a b "_law_names" "_law_names" (top 48) ["_law_cell","_law_many"] 2 (spT K 2 nP):=λF=>dh (N:=["_law_cell","_law_many","_law_points","_law_k"]) F iJ (jC iI) λc g=>
 (fP (gD c 2 (lV (iM fR)))
  (fP (oH h rfl (fH 1) (kH c 3) (f6 (D1 (fH 2) (fJ (jQ (gR d (bw g) (fJ (fH 0) (fJ (fH 3) fR))) (iZ (fH 3) fW)) (fJ (fH 3) fR)))))
  (f6 (hV (fH 2)))))
theorem WC(h:kO P w K a b 1 "_law_cell_at" 2 iW)(i:a "range"=none)(d:a "int"=none):Ky P w K a b "_law_lot_free" "_law_lot_free" (top 51) ["_law_cells","_law_many","_law_unit"] 2 (spT K 3 qP):=λF=>dh (N:=["_law_cells","_law_many","_law_unit","_law_base","_law_works","_law_k","_law_left","_law_least","_law_more","_law_order","_law_needs","_law_a"]) F iJ (jC iI) λc g=>
 (fP (gD c 3 (iD (gZ (iM (fJ fW (fJ (mO (fH 2) (Fs fW fW)) fR)))) (jQ (m5 (gR h (bw g) (fJ (fH 0) (fJ fW fR))) fW) fW)))
  (fP (gD c 4 (lV (iM fR)))
  (fP (oH i rfl (fH 1) (kH c 5) (fP (gD c 6 (gR h (bw g) (fJ (fH 0) (fJ (iZ fW (fH 5)) fR))))
  (fP (gD c 7 (jQ (fH 6) (iD (gZ (iM (fJ fW (fJ (fH 3) fR)))) (sR d (fJ (A8 (fH 3) fW) fR)))))
  (fP (gD c 6 (yF (fH 6) (iD (gZ (iM (fJ fW (fJ (fH 3) fR)))) (sR d (fJ (A8 (fH 3) fW) fR)))))
  (fP (gD c 8 (jQ (fH 6) (iD (gZ (iM (fJ fW (fJ (fH 3) fR)))) (sR d (fJ (A8 (fH 3) fW) fR)))))
  (fP (gD c 6 (yF (fH 6) (iD (gZ (iM (fJ fW (fJ (fH 3) fR)))) (sR d (fJ (A8 (fH 3) fW) fR)))))
  (f6 (pH (fH 4) (fJ (gZ (iM (fJ (iZ (fH 7) (fH 8)) (fJ (fH 7) (fJ (jQ (fH 6) (iD (gZ (iM (fJ fW (fJ (fH 3) fR)))) (sR d (fJ (A8 (fH 3) fW) fR)))) fR))))) fR)))))))))
  (fP (gD c 6 (gR h (bw g) (fJ (fH 0) (fJ fW fR))))
  (fP (gD c 9 (lV (iM fR)))
  (fP (oH i rfl (fH 1) (kH c 5) (fP (D1 (fH 9) (fJ (jQ (fH 6) (iZ (fH 5) fW)) (fJ (fH 5) fR)))
  (f6 (gD c 6 (yF (fH 6) (iZ (fH 5) fW))))))
  (fP (gD c 10 (lV (iM fR)))
  (fP (oH i rfl (fH 1) (kH c 5) (f6 (lU rfl (gZ (tF (fH 9) qA (sT (fH 5)))) (kH c 11) (fP (nL (ub (da g) (jQ (fH 6) fW) fW) (f6 (pH (fH 10) (fJ (gZ (iM (fJ (fH 11) (fJ (iD (fH 9) (fH 5)) fR)))) fR))) kF)
  (f6 (gD c 6 (m5 (fH 6) fW)))))))
  (f6 (hV (wP (fJ (fH 4) (fJ (fH 10) fR)))))))))))))
theorem Uk(g:a "int"=none):Ky P w K a b "_law_work" "_law_work" (top 50) ["_law_one","_law_two","_law_three","_law_mode","_law_unit"] 1 (spT K 5 vV):=λF=>dh (N:=["_law_one","_law_two","_law_three","_law_mode","_law_unit","_law_least","_law_more","_law_price"]) F iJ (jC iI) λc d=>
 (fP (gD c 5 (jQ (fH 0) fW))
  (fP (gD c 6 (jQ (fH 1) fW))
  (fP (gD c 7 (jQ (fH 2) fW))
  (fP (nL (ub (da d) (fH 3) fW) (fP (gD c 5 (iZ (mO (fH 0) (fH 4)) (jQ (fH 1) fW)))
  (fP (gD c 6 (mO (mO (fH 1) (fH 4)) (sR g (fJ (A8 (jQ (fH 1) fW) fW) fR))))
  (f6 (gD c 7 (iZ (mO (fH 2) (fH 4)) (jQ (fH 0) fW)))))) kF)
  (fP (nL (ub (da d) (fH 3) fW) (fP (gD c 6 (mO (jQ (fH 1) fW) (jQ (m5 (fH 1) fW) fW)))
  (f6 (gD c 7 (iD (gZ (iM (fJ fW (fJ fW (fJ fW (fJ (iZ fW (jQ (fH 2) fW)) fR)))))) (jQ (m5 (fH 2) fW) fW))))) kF)
  (fP (nL (zo (DD (ub (da d) (fH 3) fW) (DW (ub (da d) (jQ (fH 0) fW) fW)))) (f6 (gD c 5 fW)) kF)
  (f6 (hV (gZ (iM (fJ (iZ (fH 5) (fH 6)) (fJ (fH 5) (fJ (fH 7) fR)))))))))))))
theorem Qi(j:kO P w K a b 2 "_law_numbers" 1 pF)(k:kO P w K a b 1 "_law_cell_at" 2 iW)(m:kO P w K a b 2 "_law_names" 2 nP)(i:kO P w K a b 2 "_law_lot_free" 3 qP)(h:kO P w K a b 1 "_law_work" 5 vV)(l:a "range"=none)(g:a "min"=none)(n:a "int"=none)(o:a "len"=none):Ky P w K a b "_law_lot" "_law_lot" (top 52) ["_law_cells","_law_most","_law_unit"] 3 (spT K 3 xE):=λF=>dh (N:=["_law_cells","_law_most","_law_unit","_law_numbers_here","_law_first","_law_few","_law_many","_law_cell","_law_works","_law_names_here","_law_needs","_law_k","_law_b","_law_back","_law_a"]) F iJ (jC iI) λc d=>
 (fP (gD c 3 (gR j (bw d) (fJ (fH 0) fR)))
  (fP (gD c 4 (gR k (bw d) (fJ (fH 0) (fJ fW fR))))
  (fP (gD c 5 (jQ (m5 (fH 4) fW) (r6 g rfl (fJ fW (fJ (iZ (fH 1) fW) fR)))))
  (fP (gD c 6 (iD (gZ (iM (fJ (fH 5) (fJ (nT (fH 1) (iD (gZ (iM (fJ fW (fJ fW (fJ fW (fJ fW fR)))))) (jQ (m5 (fH 4) fW) fW))) (fJ (fH 5) (fJ (r6 g rfl (fJ (fH 1) (fJ (iZ fW (jQ (m5 (fH 4) fW) fW)) fR))) fR)))))) (jQ (fH 4) fW)))
  (fP (gD c 7 (gR k (bw d) (fJ (fH 0) (fJ fW fR))))
  (fP (nL (ub (da d) (jQ (m5 (fH 7) fW) fW) fW) (f6 (hV (gR i (bw d) (fJ (fH 0) (fJ (r6 g rfl (fJ (fH 6) (fJ (iD (gZ (iM (fJ fW (fJ fW fR)))) (sR n (fJ (Nk (fH 1) fW) fR))) fR))) (fJ (fH 2) fR)))))) kF)
  (fP (Vz c 8 l rfl (g0 ["_law_k"] ["_law_numbers_here","_law_cell","_law_unit"] [3,7,2]) (fH 6) (j9 (by decide)) (λ_ _ _ _=>(kH (show List.Nodup (["_law_k","_law_numbers_here","_law_cell","_law_unit"]:XJ)by decide) 0)) (λ_ _ _ _=>jI) (λ_ _ _ _=>(gR h (bw d) (fJ (iD (fH 1) (fH 0)) (fJ (iD (fH 1) (iZ fW (fH 0))) (fJ (iD (fH 1) (iZ fW (fH 0))) (fJ (jQ (fH 2) fW) (fJ (fH 3) fR))))))))
  (fP (gD c 9 (gR m (bw d) (fJ (iD (fH 3) fW) (fJ (fH 6) fR))))
  (fP (gD c 10 (lV (iM fR)))
  (fP (zV l rfl fW (iZ fW (r6 g rfl (fJ fW (fJ (iZ (fH 6) (jQ (m5 (fH 7) fW) fW)) fR)))) (kH c 11) (f6 (nL (A9 (fH 6) fW) (fP (gD c 12 (iZ fW (jQ (iD (fH 3) (fH 11)) (nT (fH 6) fW))))
  (fP (gD c 13 (jQ (m5 (iD (fH 3) (fH 11)) fW) (r6 g rfl (fJ (fH 12) (fJ (iD (gZ (iM (fJ fW (fJ fW (fJ fW fR))))) (jQ (m5 (fH 7) fW) fW)) fR)))))
  (fP (gD c 14 (iD (gZ (iM (fJ (nT (nT (fH 12) fW) (fH 13)) (fJ (fH 13) fR)))) (jQ (m5 (fH 7) fW) fW)))
  (f6 (D1 (fH 10) (fJ (jQ (m5 (iD (fH 3) (fH 11)) fW) (iZ (m8 o (fJ (fH 10) fR)) fW)) (fJ (gZ (iM (fJ (iD (fH 9) (fH 14)) (fJ (iD (fH 9) (fH 12)) fR)))) fR))))))) kF)))
  (f6 (hV (wP (fJ (fH 8) (fJ (gZ (tF (fH 10) (sT (jQ (m5 (fH 7) fW) fW)) qA)) fR)))))))))))))))
theorem Vg(g:kO P w K a b 3 "_law_lot" 3 xE)(h:kO P w K a b 1 "_law_cell_at" 2 iW)(i:a "range"=none):Ky P w K a b "_law_lots" "_law_lots" (top 56) ["_law_script"] 4 (spT K 1 o6):=λF=>dh (N:=["_law_script","_law_lots_here","_law_k","_law_cells"]) F iJ (jC iI) λc d=>
 (fP (gD c 1 (lV (iM fR)))
  (fP (oH i rfl fW (kH c 2) (fP (gD c 3 (gZ (Bh (gZ (iM (fJ (gR h (bw d) (fJ (fH 0) (fJ (fH 2) fR))) (fJ (gR h (bw d) (fJ (fH 0) (fJ (iZ fW (fH 2)) fR))) fR)))) (gZ (Oy (fH 0) (sT (iZ fW (fH 2))) (sT fW))))))
  (f6 (pH (fH 1) (fJ (gR g (bw d) (fJ (fH 3) (fJ fW (fJ (Fs fW fW) fR)))) fR)))))
  (f6 (hV (fH 1)))))
theorem Tw(j:kO P w K a b 2 "_law_names" 2 nP)(k:kO P w K a b 1 "_law_mixed" 2 kZ)(h:a "range"=none)(d:a "len"=none)(i:a "list"=none):Ky P w K a b "_law_put" "_law_put" (top 55) ["_law_one","_law_other","_law_number","_law_behind"] 3 (spT K 4 tD):=λF=>dh (N:=["_law_one","_law_other","_law_number","_law_behind","_law_many","_law_names_here","_law_works","_law_k","_law_needs","_law_a","_law_b"]) F iJ (jC iI) λc g=>
 (fP (gD c 4 (iZ (m8 d (fJ (iD (fH 0) fW) fR)) (m8 d (fJ (iD (fH 1) fW) fR))))
  (fP (gD c 5 (gR j (bw g) (fJ (fH 2) (fJ (fH 4) fR))))
  (fP (qB c 6 h rfl (g0 ["_law_k"] [] []) (fH 4) (j9 (by decide)) (λ_ _ _ _=>(kH (show List.Nodup (["_law_k"]:XJ)by decide) 0)) (λ_ _ _ _=>jI) (λ_ _ _ _=>(gZ (iM fR))))
  (fP (oH h rfl (fH 4) (kH c 7) (f6 (tR (gZ (O5 i (fJ (iD (gZ (Bh (iD (fH 0) fW) (iD (fH 1) fW))) (fH 7)) fR))) (fH 6) (iD (fH 5) (fH 7)))))
  (fP (SN c 8 rfl (g0 ["_law_a","_law_b"] ["_law_names_here"] [5]) (iD (fH 0) fW) (D8 (by decide)) (λ_ _ _ _=>(rH rfl (kJ (show List.Nodup (["_law_a","_law_b","_law_names_here"]:XJ)by decide) 0 (kJ (show List.Nodup (["_law_a","_law_b","_law_names_here"]:XJ)by decide) 1 rE)))) (λ_ _ _ _=>jI) (λ_ _ _ _=>(gZ (iM (fJ (iD (fH 2) (fH 0)) (fJ (iD (fH 2) (fH 1)) fR))))))
  (fP (lU rfl (iD (fH 1) fW) (rH rfl (kJ c 9 (kJ c 10 rE))) (f6 (pH (fH 8) (fJ (gZ (iM (fJ (iD (fH 5) (iZ (fH 9) (m8 d (fJ (iD (fH 0) fW) fR)))) (fJ (iD (fH 5) (iZ (fH 10) (m8 d (fJ (iD (fH 0) fW) fR)))) fR)))) fR))))
  (fP (lU rfl (gZ (tF (fH 5) qA (sT (m8 d (fJ (iD (fH 0) fW) fR))))) (kH c 9) (f6 (lU rfl (gZ (tF (fH 5) (sT (m8 d (fJ (iD (fH 0) fW) fR))) qA)) (kH c 10) (f6 (nL (xL (fH 3)) (f6 (D1 (fH 8) (fJ (jQ (gR k (bw g) (fJ (fH 2) (fJ (iZ (iZ fW (mO fW (fH 9))) (fH 10)) fR))) (iZ (m8 d (fJ (fH 8) fR)) fW)) (fJ (gZ (iM (fJ (fH 9) (fJ (fH 10) fR)))) fR)))) kF)))))
  (f6 (hV (wP (fJ (fH 6) (fJ (fH 8) fR))))))))))))
theorem xP(c:a "zip"=none):Ky P w K a b "done_moments" "done_moments" (top 12) ["begins","hours"] 1 (spT K 2 l6):=λF=>dh (N:=["begins","hours"]) F iJ (jC iI) λd g=>
 (f6 (hV (gZ (JO c rfl (g0 ["begin","took"] [] []) (fH 0) (fH 1) (D8 (by decide)) (λ_ _ _ _=>(rH rfl (kJ (show List.Nodup (["begin","took"]:XJ)by decide) 0 (kJ (show List.Nodup (["begin","took"]:XJ)by decide) 1 rE)))) (λ_ _ _ _=>jI) (λ_ _ _ _=>(iZ (fH 0) (fH 1)))))))
theorem VT:Ky P w K a b "is_work" "is_work" (top 6) ["many","number"] 1 (spT K 2 m6):=λF=>dh (N:=["many","number"]) F iJ (jC iI) λc d=>
 (f6 (hV (Xc fW (fH 1) (fH 0))))
theorem xZ(g:kO P w K a b 1 "is_work" 2 m6)(h:a "range"=none):Ky P w K a b "needed_works" "needed_works" (top 7) ["many","needs"] 2 (spT K 2 iU):=λF=>dh (N:=["many","needs","needed","first","second"]) F iJ (jC iI) λc d=>
 (fP (qB c 2 h rfl (g0 ["work"] [] []) (fH 0) (j9 (by decide)) (λ_ _ _ _=>(kH (show List.Nodup (["work"]:XJ)by decide) 0)) (λ_ _ _ _=>jI) (λ_ _ _ _=>(lV (iM fR))))
  (fP (lU rfl (fH 1) (rH rfl (kJ c 3 (kJ c 4 rE))) (fP (nL (zo (Fi (FJ (xL (gR g (bw d) (fJ (fH 0) (fJ (fH 3) fR))))) (FX (FJ (xL (gR g (bw d) (fJ (fH 0) (fJ (fH 4) fR)))))))) (f6 KW) kF)
  (f6 (nL (HX (da d) (fH 3) (iD (fH 2) (fH 4))) (f6 (pH (iD (fH 2) (fH 4)) (fJ (fH 3) fR))) kF))))
  (f6 (hV (fH 2)))))
theorem zG(i:a "range"=none)(h:a "len"=none)(d:a "all"=none):Ky P w K a b "least_ready" "least_ready" (top 8) ["needed","told"] 1 (spT K 2 oB):=λF=>dh (N:=["needed","told","work"]) F iJ (jC iI) λg c=>
 (fP (oH i rfl (m8 h (fJ (fH 0) fR)) (kH g 2) (f6 (nL (zo (DD (HX (da c) (fH 2) (fH 1)) (DW (xL (Oi d rfl (fJ (gZ (mR rfl (g0 ["first"] ["told"] [1]) (iD (fH 0) (fH 2)) (j9 (by decide)) (λ_ _ _ _=>(kH (show List.Nodup (["first","told"]:XJ)by decide) 0)) (λ_ _ _ _=>jI) (λ_ _ _ _=>(Nj (da c) (fH 0) (fH 1))))) fR)))))) (f6 (hV (fH 2))) kF)))
  (f6 KW))
theorem Ww(h:kO P w K a b 2 "needed_works" 2 iU)(c:kO P w K a b 1 "least_ready" 2 oB)(i:a "len"=none):Ky P w K a b "order_of" "order_of" (top 5) ["many","needs"] 3 (spT K 2 pE):=λF=>dh (N:=["many","needs","needed","order"]) F iJ (jC iI) λd g=>
 (fP (gD d 2 (gR h (bw g) (fJ (fH 0) (fJ (fH 1) fR))))
  (fP (gD d 3 (lV (iM fR)))
  (fP (pD 10 (Dz (m8 i (fJ (fH 3) fR)) (fH 0)) (f6 (pH (fH 3) (fJ (gR c (bw g) (fJ (fH 2) (fJ (fH 3) fR))) fR))))
  (f6 (hV (fH 3))))))
theorem WX(d:kO P w K a b 3 "order_of" 2 pE)(i:kO P w K a b 2 "needed_works" 2 iU)(h:a "len"=none)(j:a "max"=none):Ky P w K a b "earliest" "earliest" (top 10) ["hours","needs"] 4 (spT K 2 n6):=λF=>dh (N:=["hours","needs","order","needed","begins","work"]) F iJ (jC iI) λc g=>
 (fP (gD c 2 (gR d (bw g) (fJ (m8 h (fJ (fH 0) fR)) (fJ (fH 1) fR))))
  (fP (gD c 3 (gR i (bw g) (fJ (m8 h (fJ (fH 0) fR)) (fJ (fH 1) fR))))
  (fP (gD c 4 (lV (mR rfl (g0 ["work"] [] []) (fH 2) (j9 (by decide)) (λ_ _ _ _=>(kH (show List.Nodup (["work"]:XJ)by decide) 0)) (λ_ _ _ _=>jI) (λ_ _ _ _=>fW))))
  (fP (lU rfl (fH 2) (kH c 5) (f6 (tR (Iw j rfl (gZ (mR rfl (g0 ["first"] ["begins","hours"] [4,0]) (iD (fH 3) (fH 5)) (j9 (by decide)) (λ_ _ _ _=>(kH (show List.Nodup (["first","begins","hours"]:XJ)by decide) 0)) (λ_ _ _ _=>jI) (λ_ _ _ _=>(iZ (iD (fH 1) (fH 0)) (iD (fH 2) (fH 0)))))) fW) (fH 4) (fH 5))))
  (f6 (hV (fH 4)))))))
theorem Vr(d:kO P w K a b 1 "done_moments" 2 l6)(c:kO P w K a b 4 "earliest" 2 n6)(h:a "max"=none):Ky P w K a b "length" "length" (top 11) ["hours","needs"] 5 (spT K 2 l5):=λF=>dh (N:=["hours","needs"]) F iJ (jC iI) λi g=>
 (f6 (hV (Iw h rfl (gR d (bw g) (fJ (gR c (bw g) (fJ (fH 0) (fJ (fH 1) fR))) (fJ (fH 0) fR))) fW)))
theorem W4:Ky P w K a b "least_hours" "least_hours" (top 34) ["works"] 1 (spT K 1 mU):=λF=>dh (N:=["works"]) F iJ (jC iI) λc d=>
 (f6 (hV (gZ (mR rfl (g0 ["work"] [] []) (fH 0) (j9 (by decide)) (λ_ _ _ _=>(kH (show List.Nodup (["work"]:XJ)by decide) 0)) (λ_ _ _ _=>jI) (λ_ _ _ _=>(iD (fH 0) fW))))))
theorem WU(g:kO P w K a b 5 "length" 2 l5)(c:kO P w K a b 1 "least_hours" 1 mU):Ky P w K a b "least_end" "least_end" (top 31) ["works","needs"] 6 (spT K 2 i7):=λF=>dh (N:=["works","needs"]) F iJ (jC iI) λh d=>
 (f6 (hV (gR g (bw d) (fJ (gR c (bw d) (fJ (fH 0) fR)) (fJ (fH 1) fR)))))
theorem Xf:Ky P w K a b "free_hours" "free_hours" (top 35) ["work"] 1 (spT K 1 nB):=λF=>dh (N:=["work"]) F iJ (jC iI) λd c=>
 (f6 (hV (ND (ub (da c) (iD (fH 0) fW) fW) (iD (fH 0) fW) (iD (fH 0) fW))))
theorem V9(g:kO P w K a b 5 "length" 2 l5)(c:kO P w K a b 1 "free_hours" 1 nB):Ky P w K a b "free_end" "free_end" (top 32) ["works","needs"] 6 (spT K 2 l9):=λF=>dh (N:=["works","needs"]) F iJ (jC iI) λh d=>
 (f6 (hV (gR g (bw d) (fJ (gZ (mR rfl (g0 ["work"] [] []) (fH 0) (j9 (by decide)) (λ_ _ _ _=>(kH (show List.Nodup (["work"]:XJ)by decide) 0)) (λ_ _ _ _=>jI) (λ_ _ _ _=>(gR c (bw d) (fJ (fH 0) fR))))) (fJ (fH 1) fR)))))
theorem Wx(g:jS K "Pipe" "tail")(d:jS K "Pipe" "head")(c:jS K "Pipe" "hours")(h:jS K "Pipe" "room")(i:jS K "Pipe" "back"):Ky P w K a b "__init__" "Pipe.__init__" (inClass (top 16) 0) ["self","tail","head","hours","room"] 1 (spS K 5 nV):=λF=>dh (N:=["self","tail","head","hours","room"]) F kE lN λj k=>
 (fP (qO g (fH 0) (fH 1))
  (fP (qO d (fH 0) (fH 2))
  (fP (qO c (fH 0) (fH 3))
  (fP (qO h (fH 0) (fH 4))
  (f6 (qO i (fH 0) DK))))))
theorem Wo(c:A6 P w K a b 1 "Pipe" 5 nV [] [])(h:jS K "Pipe" "back")(i:jS K "Net" "pipes"):Ky P w K a b "lay" "Net.lay" (inClass (top 17) 1) ["self","tail","head","hours","room"] 3 (spS K 5 kW):=λF=>dh (N:=["self","tail","head","hours","room","pipe","back"]) F kE lN λd g=>
 (fP (gD d 5 (Eb c (bw g) (fJ (fH 1) (fJ (fH 2) (fJ (fH 3) (fJ (fH 4) fR))))))
  (fP (gD d 6 (Eb c (bw g) (fJ (fH 2) (fJ (fH 1) (fJ (OA (fH 3)) (fJ fW fR))))))
  (fP (qO h (fH 5) (fH 6))
  (fP (qO h (fH 6) (fH 5))
  (f6 (pH (k9 i (fH 0)) (fJ (fH 5) fR)))))))
theorem zP:Ky P w K a b "begin_place" "begin_place" (top 18) ["work"] 1 (spT K 1 jU):=λF=>dh (N:=["work"]) F iJ (jC iI) λc d=>
 (f6 (hV (iZ (mO fW (fH 0)) fW)))
theorem Xe:Ky P w K a b "done_place" "done_place" (top 19) ["work"] 1 (spT K 1 kK):=λF=>dh (N:=["work"]) F iJ (jC iI) λc d=>
 (f6 (hV (iZ (mO fW (fH 0)) fW)))
theorem VU{r:aWf}(g:p5 P w K a b 3 "Net" "lay" 5 kW)(m:kO P w K a b 2 "needed_works" 2 iU)(h:kO P w K a b 1 "begin_place" 1 jU)(i:kO P w K a b 1 "done_place" 1 kK)(p:jS K "Net" "pipes")(l:jS K "Net" "places")(j:a "enumerate"=none)(k:a "len"=none)(n:a "sum"=none)(o:∃t,a "SOURCE"=some (.int 0 t))(q:∃t,a "SINK"=some (.int 1 t))(F:Cs K "__init__" "Net.__init__" (inClass (top 17) 0) f fd r):pK P w K a b ku 4 f fd ["self","works","needs","bonus"] (spS K 4 nW):=MV (N:=["self","works","needs","bonus","plenty","number","work","second","firsts","first"]) F kE lN λd c=>
 (fP (qO p (fH 0) (lV (iM fR)))
  (fP (qO l (fH 0) (iZ (mO fW (m8 k (fJ (fH 1) fR))) fW))
  (fP (gD d 4 (iZ (iZ (DF n rfl (fJ (gZ (mR rfl (g0 ["work"] [] []) (fH 1) (j9 (by decide)) (λ_ _ _ _=>(kH (show List.Nodup (["work"]:XJ)by decide) 0)) (λ_ _ _ _=>jI) (λ_ _ _ _=>(iD (fH 0) fW)))) fR)) (fH 3)) fW))
  (fP (JF j rfl (fH 1) (rH rfl (kJ d 5 (kJ d 6 rE))) (fP (o3 (tA g (bw c) (fH 0) (fJ (oC o) (fJ (gR h (bw c) (fJ (fH 5) fR)) (fJ fW (fJ (fH 4) fR))))))
  (fP (o3 (tA g (bw c) (fH 0) (fJ (gR h (bw c) (fJ (fH 5) fR)) (fJ (gR i (bw c) (fJ (fH 5) fR)) (fJ (iD (fH 6) fW) (fJ (iD (fH 6) fW) fR))))))
  (fP (o3 (tA g (bw c) (fH 0) (fJ (gR h (bw c) (fJ (fH 5) fR)) (fJ (gR i (bw c) (fJ (fH 5) fR)) (fJ (iD (fH 6) fW) (fJ (fH 4) fR))))))
  (f6 (o3 (tA g (bw c) (fH 0) (fJ (gR i (bw c) (fJ (fH 5) fR)) (fJ (oC q) (fJ fW (fJ (fH 4) fR)))))))))))
  (f6 (JF j rfl (gR m (bw c) (fJ (m8 k (fJ (fH 1) fR)) (fJ (fH 2) fR))) (rH rfl (kJ d 7 (kJ d 8 rE))) (f6 (lU rfl (fH 8) (kH d 9) (f6 (o3 (tA g (bw c) (fH 0) (fJ (gR i (bw c) (fJ (fH 9) fR)) (fJ (gR h (bw c) (fJ (fH 7) fR)) (fJ fW (fJ (fH 4) fR)))))))))))))))
theorem vR(c:jS K "Net" "pipes")(h:jS K "Pipe" "back")(g:jS K "Pipe" "room"):Ky P w K a b "open_pipes" "Net.open_pipes" (inClass (top 17) 6) ["self"] 1 (spS K 1 kQ):=λF=>dh (N:=["self","both"]) F kE lN λd i=>
 (fP (gD d 1 (gZ (Bh (k9 c (fH 0)) (gZ (mR rfl (g0 ["pipe"] [] []) (k9 c (fH 0)) (j9 (by decide)) (λ_ _ _ _=>(kH (show List.Nodup (["pipe"]:XJ)by decide) 0)) (λ_ _ _ _=>jI) (λ_ _ _ _=>(k9 h (fH 0))))))))
  (f6 (hV (gZ (mR rfl (g0 ["pipe"] [] []) (fH 1) (j9 (by decide)) (λ_ _ _ _=>(kH (show List.Nodup (["pipe"]:XJ)by decide) 0)) (λ_ _ _ _=>(yM (A9 (k9 g (fH 0)) fW))) (λ_ _ _ _=>(fH 0)))))))
theorem wC(g:jS K "Pipe" "hours")(h:jS K "Pipe" "tail")(d:jS K "Pipe" "head"):Ky P w K a b "raise_moments" "raise_moments" (top 21) ["moments","pipes"] 1 (spS K 2 mV):=λF=>dh (N:=["moments","pipes","raised","pipe","reached"]) F kE lN λc i=>
 (fP (gD c 2 Ao)
  (fP (lU rfl (fH 1) (kH c 3) (fP (gD c 4 (iZ (iD (fH 0) (k9 h (fH 3))) (k9 g (fH 3))))
  (f6 (nL (A9 (fH 4) (iD (fH 0) (k9 d (fH 3)))) (fP (tR (fH 4) (fH 0) (k9 d (fH 3)))
  (f6 (gD c 2 Ao))) kF))))
  (f6 (hV (fH 2)))))
theorem W8(i:p5 P w K a b 1 "Net" "open_pipes" 1 kQ)(c:xW P w K a b 1 "raise_moments" 2 mV)(h:jS K "Net" "places")(k:a "range"=none)(j:∃t,a "SINK"=some (.int 1 t)):Ky P w K a b "moments" "Net.moments" (inClass (top 17) 4) ["self","end"] 2 (spS K 2 kP):=λF=>dh (N:=["self","end","found","pipes"]) F kE lN λd g=>
 (fP (qB d 2 k rfl (g0 ["place"] [] []) (k9 h (fH 0)) (j9 (by decide)) (λ_ _ _ _=>(kH (show List.Nodup (["place"]:XJ)by decide) 0)) (λ_ _ _ _=>jI) (λ_ _ _ _=>fW))
  (fP (tR (fH 1) (fH 2) (oC j))
  (fP (gD d 3 (Cw i (bw g) (fH 0)))
  (fP (pD (10^200) (xL (mX c (bw g) (fJ (fH 2) (fJ (fH 3) fR)))) (f6 Ss))
  (f6 (hV (fH 2)))))))
theorem Xo(h:jS K "Pipe" "tail")(g:jS K "Pipe" "head"):Ky P w K a b "next_routes" "next_routes" (top 23) ["routes","pipes"] 1 (spS K 2 oE):=λF=>dh (N:=["routes","pipes","fresh","pipe"]) F kE lN λd c=>
 (fP (gD d 2 S4)
  (fP (lU rfl (fH 1) (kH d 3) (f6 (nL (zo (DD (NO (da c) (k9 h (fH 3)) (fH 0)) (DW (Jf (da c) (k9 g (fH 3)) (fH 0))))) (f6 (Kx (da c) (fH 2) (k9 g (fH 3)) (gZ (Bh (D4 (da c) (fH 0) (k9 h (fH 3))) (gZ (iM (fJ (fH 3) fR))))))) kF)))
  (f6 (hV (fH 2)))))
theorem W6(d:xW P w K a b 1 "next_routes" 2 oE)(i:jS K "Pipe" "hours")(k:jS K "Pipe" "head")(l:jS K "Pipe" "tail")(j:∃t,a "SOURCE"=some (.int 0 t))(h:∃t,a "SINK"=some (.int 1 t)):Ky P w K a b "tight_route" "tight_route" (top 22) ["pipes","moments"] 2 (spS K 2 oF):=λF=>dh (N:=["pipes","moments","tight","routes"]) F kE lN λg c=>
 (fP (JD g 2 rfl (g0 ["pipe"] ["moments"] [1]) (fH 0) (j9 (by decide)) (λ_ _ _ _=>(kH (show List.Nodup (["pipe","moments"]:XJ)by decide) 0)) (λ_ _ _ _=>(yM (ub (da c) (iZ (iD (fH 1) (k9 l (fH 0))) (k9 i (fH 0))) (iD (fH 1) (k9 k (fH 0)))))) (λ_ _ _ _=>(fH 0)))
  (fP (gD g 3 (Sa (oC j) (gZ (iM fR))))
  (fP (pD 40 (Jf (da c) (oC h) (fH 3)) (f6 (o3 (N7 (fH 3) (mX d (bw c) (fJ (fH 3) (fJ (fH 2) fR)))))))
  (f6 (hV (D4 (da c) (fH 3) (oC h)))))))
theorem SL(c:jS K "Pipe" "room")(g:jS K "Pipe" "back"):Ky P w K a b "pour" "pour" (top 25) ["route","amount"] 1 (spS K 2 D9):=λF=>dh (N:=["route","amount","pipe"]) F kE lN λd h=>
 (f6 (lU rfl (fH 0) (kH d 2) (fP (UK c (fH 2) (fH 1))
  (f6 (Vv c (k9 g (fH 2)) (fH 1))))))
theorem V0(c:jS K "Pipe" "room")(d:a "min"=none):Ky P w K a b "room_on" "room_on" (top 24) ["route"] 1 (spS K 1 tP):=λF=>dh (N:=["route"]) F kE lN λg h=>
 (f6 (hV (Ji d rfl (fJ (gZ (mR rfl (g0 ["pipe"] [] []) (fH 0) (j9 (by decide)) (λ_ _ _ _=>(kH (show List.Nodup (["pipe"]:XJ)by decide) 0)) (λ_ _ _ _=>jI) (λ_ _ _ _=>(k9 c (fH 0))))) fR))))
theorem Wz(j:p5 P w K a b 2 "Net" "moments" 2 kP)(i:xW P w K a b 2 "tight_route" 2 oF)(h:xW P w K a b 1 "pour" 2 D9)(k:p5 P w K a b 1 "Net" "open_pipes" 1 kQ)(g:xW P w K a b 1 "room_on" 1 tP)(l:∃t,a "SINK"=some (.int 1 t)):Ky P w K a b "fill" "Net.fill" (inClass (top 17) 2) ["self","end"] 3 (spS K 2 nZ):=λF=>dh (N:=["self","end","moments","route"]) F kE lN λd c=>
 (fP (gD d 2 (tA j (bw c) (fH 0) (fJ fW fR)))
  (f6 (pD (10^200) (A9 (iD (fH 2) (oC l)) (fH 1)) (fP (gD d 3 (mX i (bw c) (fJ (Cw k (bw c) (fH 0)) (fJ (fH 2) fR))))
  (fP (o3 (mX h (bw c) (fJ (fH 3) (fJ (mX g (bw c) (fJ (fH 3) fR)) fR))))
  (f6 (gD d 2 (tA j (bw c) (fH 0) (fJ fW fR)))))))))
theorem uO(c:p5 P w K a b 2 "Net" "moments" 2 kP)(g:∃t,a "SINK"=some (.int 1 t)):Ky P w K a b "open_length" "Net.open_length" (inClass (top 17) 5) ["self"] 3 (spS K 1 lX):=λF=>dh (N:=["self"]) F kE lN λh d=>
 (f6 (hV (iD (tA c (bw d) (fH 0) (fJ fW fR)) (oC g))))
theorem Xd(j:jS K "Pipe" "room")(k:jS K "Pipe" "back")(h:jS K "Net" "pipes")(i:jS K "Pipe" "tail")(c:a "sum"=none)(d:∃t,a "SOURCE"=some (.int 0 t)):Ky P w K a b "amount" "Net.amount" (inClass (top 17) 7) ["self"] 1 (spS K 1 oT):=λF=>dh (N:=["self"]) F kE lN λl g=>
 (f6 (hV (DF c rfl (fJ (gZ (mR rfl (g0 ["pipe"] [] []) (k9 h (fH 0)) (j9 (by decide)) (λ_ _ _ _=>(kH (show List.Nodup (["pipe"]:XJ)by decide) 0)) (λ_ _ _ _=>(yM (ub (da g) (k9 i (fH 0)) (oC d)))) (λ_ _ _ _=>(k9 j (k9 k (fH 0)))))) fR))))
theorem V5(l:kO P w K a b 6 "least_end" 2 i7)(i:kO P w K a b 6 "free_end" 2 l9)(j:A6 P w K a b 4 "Net" 4 nW [.int 0] [.int 0])(k:p5 P w K a b 3 "Net" "fill" 2 nZ)(h:p5 P w K a b 3 "Net" "open_length" 1 lX)(g:p5 P w K a b 1 "Net" "amount" 1 oT):Ky P w K a b "corners" "corners" (top 42) ["works","needs"] 7 (ym K 2 p8):=λF=>dh (N:=["works","needs","last","end","price","found","net","sooner"]) F Lg (JI K3) λc d=>
 (fP (gD c 2 (gR l (bw d) (fJ (fH 0) (fJ (fH 1) fR))))
  (fP (gD c 3 (gR i (bw d) (fJ (fH 0) (fJ (fH 1) fR))))
  (fP (gD c 4 fW)
  (fP (gD c 5 (lV (iM (fJ (lV (iM (fJ (fH 3) (fJ (fH 4) fR)))) fR))))
  (fP (gD c 6 (Eb j (bw d) (fJ (fH 0) (fJ (fH 1) fR))))
  (fP (pD (10^200) (A9 (fH 3) (fH 2)) (fP (o3 (tA k (bw d) (fH 6) (fJ (nT (fH 3) fW) fR)))
  (fP (gD c 7 (Cw h (bw d) (fH 6)))
  (fP (UE c 4 (mO (Cw g (bw d) (fH 6)) (nT (fH 3) (fH 7))))
  (fP (gD c 3 (fH 7))
  (f6 (pH (fH 5) (fJ (lV (iM (fJ (fH 3) (fJ (fH 4) fR)))) fR))))))))
  (f6 (hV (fH 5)))))))))
theorem Wb(d:DH P w K a b 7 "corners" 2 p8)(g:a "sorted"=none)(j:a "range"=none)(i:a "len"=none):Ky P w K a b "_law_pieces" "_law_pieces" (top 57) ["_law_lots_here"] 8 (spT K 1 nY):=λF=>dh (N:=["_law_lots_here","_law_pieces_here","_law_works","_law_needs","_law_found","_law_k","_law_sooner"]) F iJ (jC iI) λc h=>
 (fP (gD c 1 (lV (iM fR)))
  (fP (lU rfl (fH 0) (rH rfl (kJ c 2 (kJ c 3 rE))) (fP (gD c 4 (JT d (bw h) (fJ (fH 2) (fJ (fH 3) fR))))
  (f6 (zV j rfl fW (m8 i (fJ (fH 4) fR)) (kH c 5) (fP (gD c 6 (nT (iD (iD (fH 4) (nT (fH 5) fW)) fW) (iD (iD (fH 4) (fH 5)) fW)))
  (f6 (pH (fH 1) (fJ (wP (fJ (yF (nT (iD (iD (fH 4) (fH 5)) fW) (iD (iD (fH 4) (nT (fH 5) fW)) fW)) (fH 6)) (fJ (fH 6) fR))) fR))))))))
  (f6 (hV (gZ (Vs g (fJ (fH 1) fR)))))))
theorem Wn(h:a "range"=none)(d:a "max"=none)(g:a "len"=none):Ky P w K a b "_law_length" "_law_length" (top 53) ["_law_hours","_law_needs"] 1 (spT K 2 mN):=λF=>dh (N:=["_law_hours","_law_needs","_law_begins","_law_k","_law_a","_law_b"]) F iJ (jC iI) λc i=>
 (fP (gD c 2 (lV (mR rfl (g0 ["_law_one"] [] []) (fH 0) (j9 (by decide)) (λ_ _ _ _=>(kH (show List.Nodup (["_law_one"]:XJ)by decide) 0)) (λ_ _ _ _=>jI) (λ_ _ _ _=>fW))))
  (fP (oH h rfl (m8 g (fJ (fH 0) fR)) (kH c 3) (f6 (lU rfl (fH 1) (rH rfl (kJ c 4 (kJ c 5 rE))) (f6 (tR (I0 d rfl (fJ (iD (fH 2) (fH 5)) (fJ (iZ (iD (fH 2) (fH 4)) (iD (fH 0) (fH 4))) fR))) (fH 2) (fH 5))))))
  (f6 (hV (OS d rfl (fJ (gZ (Bh (gZ (SC h rfl (g0 ["_law_k"] ["_law_begins","_law_hours"] [2,0]) (m8 g (fJ (fH 0) fR)) (j9 (by decide)) (λ_ _ _ _=>(kH (show List.Nodup (["_law_k","_law_begins","_law_hours"]:XJ)by decide) 0)) (λ_ _ _ _=>jI) (λ_ _ _ _=>(iZ (iD (fH 1) (fH 0)) (iD (fH 2) (fH 0)))))) (gZ (iM (fJ fW fR))))) fR))))))
theorem Ul(d:kO P w K a b 1 "_law_length" 2 mN)(h:a "int"=none):Ky P w K a b "_law_ends" "_law_ends" (top 54) ["_law_works","_law_needs"] 2 (spT K 2 pV):=λF=>dh (N:=["_law_works","_law_needs","_law_least"]) F iJ (jC iI) λg c=>
 (fP (gD g 2 (gR d (bw c) (fJ (gZ (mR rfl (g0 ["_law_work_here"] [] []) (fH 0) (j9 (by decide)) (λ_ _ _ _=>(kH (show List.Nodup (["_law_work_here"]:XJ)by decide) 0)) (λ_ _ _ _=>jI) (λ_ _ _ _=>(iD (fH 0) fW)))) (fJ (fH 1) fR))))
  (f6 (hV (wP (fJ (fH 2) (fJ (gR d (bw c) (fJ (gZ (mR rfl (g0 ["_law_work_here"] [] []) (fH 0) (j9 (by decide)) (λ_ _ _ _=>(kH (show List.Nodup (["_law_work_here"]:XJ)by decide) 0)) (λ_ _ _ _=>jI) (λ_ _ _ _=>(iD (fH 0) (sR h (fJ (Ni (da c) (iD (fH 0) fW) fW) fR)))))) (fJ (fH 1) fR))) fR))))))
theorem V7(d:a "range"=none):Ky P w K a b "through" "through" (top 38) ["many","rows"] 1 (spT K 2 o5):=λF=>dh (N:=["many","rows","amounts","row","work"]) F iJ (jC iI) λc g=>
 (fP (qB c 2 d rfl (g0 ["work"] [] []) (fH 0) (j9 (by decide)) (λ_ _ _ _=>(kH (show List.Nodup (["work"]:XJ)by decide) 0)) (λ_ _ _ _=>jI) (λ_ _ _ _=>fW))
  (fP (lU rfl (fH 1) (kH c 3) (f6 (lU rfl (gZ (tF (fH 3) (sT fW) qA)) (kH c 4) (f6 (Ri (fH 2) (fH 4) (iD (fH 3) fW))))))
  (f6 (hV (fH 2)))))
theorem Xq:Ky P w K a b "work_worth" "work_worth" (top 40) ["work","amount"] 1 (spT K 2 nM):=λF=>dh (N:=["work","amount"]) F iJ (jC iI) λc d=>
 (fP (nL (Nq (fH 1) (iD (fH 0) fW)) (f6 (hV (mO (fH 1) (iD (fH 0) fW)))) kF)
  (f6 (hV (iZ (mO (iD (fH 0) fW) (nT (iD (fH 0) fW) (iD (fH 0) fW))) (mO (fH 1) (iD (fH 0) fW))))))
theorem Um(d:kO P w K a b 1 "through" 2 o5)(c:kO P w K a b 1 "work_worth" 2 nM)(h:a "sum"=none)(k:a "len"=none)(j:a "zip"=none):Ky P w K a b "worth" "worth" (top 39) ["works","rows","end"] 2 (spT K 3 yP):=λF=>dh (N:=["works","rows","end","amounts","gained"]) F iJ (jC iI) λg i=>
 (fP (gD g 3 (gR d (bw i) (fJ (m8 k (fJ (fH 0) fR)) (fJ (fH 1) fR))))
  (fP (gD g 4 (DF h rfl (fJ (gZ (JO j rfl (g0 ["work","amount"] [] []) (fH 0) (fH 3) (D8 (by decide)) (λ_ _ _ _=>(rH rfl (kJ (show List.Nodup (["work","amount"]:XJ)by decide) 0 (kJ (show List.Nodup (["work","amount"]:XJ)by decide) 1 rE)))) (λ_ _ _ _=>jI) (λ_ _ _ _=>(gR c (bw i) (fJ (fH 0) (fJ (fH 1) fR)))))) fR)))
  (f6 (hV (nT (fH 4) (mO (fH 2) (DF h rfl (fJ (gZ (mR rfl (g0 ["row"] [] []) (fH 1) (j9 (by decide)) (λ_ _ _ _=>(kH (show List.Nodup (["row"]:XJ)by decide) 0)) (λ_ _ _ _=>jI) (λ_ _ _ _=>(iD (fH 0) fW)))) fR))))))))
theorem Xn:Ky P w K a b "steps_from" "steps_from" (top 27) ["place","flows"] 1 (spS K 2 nN):=λF=>dh (N:=["place","flows"]) F kE lN λd c=>
 (f6 (hV (gZ (RI rfl (g0 ["step"] ["place","flows"] [0,1]) (fH 1) (j9 (by decide)) (λ_ _ _ _=>(kH (show List.Nodup (["step","place","flows"]:XJ)by decide) 0)) (λ_ _ _ _=>(yM (zo (DD (ub (da c) (iD (fH 0) fW) (fH 1)) (DW (A9 (D4 (da c) (fH 2) (fH 0)) fW)))))) (λ_ _ _ _=>(fH 0))))))
theorem v7(d:xW P w K a b 1 "steps_from" 2 nN)(h:∃t,a "SOURCE"=some (.int 0 t)):Ky P w K a b "flowing_route" "flowing_route" (top 26) ["flows"] 2 (spS K 1 lO):=λF=>dh (N:=["flows","route","steps"]) F kE lN λc g=>
 (fP (gD c 1 (lV (iM fR)))
  (fP (gD c 2 (mX d (bw g) (fJ (oC h) (fJ (fH 0) fR))))
  (fP (pD 40 (xL (fH 2)) (fP (pH (fH 1) (fJ (iD (fH 2) fW) fR))
  (f6 (gD c 2 (mX d (bw g) (fJ (iD (iD (fH 2) fW) fW) (fJ (fH 0) fR)))))))
  (f6 (hV (fH 1))))))
theorem Wj:Ky P w K a b "work_at" "work_at" (top 20) ["place"] 1 (spT K 1 tO):=λF=>dh (N:=["place"]) F iJ (jC iI) λc d=>
 (f6 (hV (nT (m5 (fH 0) fW) fW)))
theorem We(c:kO P w K a b 1 "work_at" 1 tO):Ky P w K a b "works_on" "works_on" (top 29) ["route"] 2 (spS K 1 qN):=λF=>dh (N:=["route"]) F kE lN λg d=>
 (f6 (hV (gZ (mR rfl (g0 ["tail","head"] [] []) (gZ (Oo (fH 0))) (D8 (by decide)) (λ_ _ _ _=>(rH rfl (kJ (show List.Nodup (["tail","head"]:XJ)by decide) 0 (kJ (show List.Nodup (["tail","head"]:XJ)by decide) 1 rE)))) (λ_ _ _ _=>jI) (λ_ _ _ _=>(gR c (bw d) (fJ (fH 0) fR)))))))
theorem WL(g:a "min"=none):Ky P w K a b "take_out" "take_out" (top 28) ["flows","route"] 1 (spS K 2 rC):=λF=>dh (N:=["flows","route","amount","step"]) F kE lN λc d=>
 (fP (gD c 2 (Ji g rfl (fJ (gZ (mR rfl (g0 ["step"] ["flows"] [0]) (fH 1) (j9 (by decide)) (λ_ _ _ _=>(kH (show List.Nodup (["step","flows"]:XJ)by decide) 0)) (λ_ _ _ _=>jI) (λ_ _ _ _=>(D4 (da d) (fH 1) (fH 0))))) fR)))
  (fP (lU rfl (fH 1) (kH c 3) (f6 (VY (da d) (fH 0) (fH 3) (fH 2))))
  (f6 (hV (fH 2)))))
theorem Xj(g:xW P w K a b 2 "flowing_route" 1 lO)(h:xW P w K a b 2 "works_on" 1 qN)(i:xW P w K a b 1 "take_out" 2 rC)(j:jS K "Net" "pipes")(l:jS K "Pipe" "tail")(k:jS K "Pipe" "head")(m:jS K "Pipe" "room")(n:jS K "Pipe" "back"):Ky P w K a b "stream" "Net.stream" (inClass (top 17) 8) ["self"] 3 (spS K 1 oY):=λF=>dh (N:=["self","flows","pipe","step","rows","route"]) F kE lN λc d=>
 (fP (gD c 1 Q5)
  (fP (lU rfl (k9 j (fH 0)) (kH c 2) (fP (gD c 3 (wP (fJ (k9 l (fH 2)) (fJ (k9 k (fH 2)) fR))))
  (f6 (Kx (da d) (fH 1) (fH 3) (iZ (Sz (da d) (fH 1) (fH 3) fW) (k9 m (k9 n (fH 2))))))))
  (fP (gD c 4 (lV (iM fR)))
  (fP (gD c 5 (mX g (bw d) (fJ (fH 1) fR)))
  (fP (pD (10^200) (xL (fH 5)) (fP (pH (fH 4) (fJ (lV (Bh (gZ (iM (fJ (mX i (bw d) (fJ (fH 1) (fJ (fH 5) fR))) fR))) (mX h (bw d) (fJ (fH 5) fR)))) fR))
  (f6 (gD c 5 (mX g (bw d) (fJ (fH 1) fR))))))
  (f6 (hV (fH 4))))))))
theorem Xl(d:A6 P w K a b 4 "Net" 4 nW [.int 0] [.int 0])(g:p5 P w K a b 3 "Net" "fill" 2 nZ):Ky P w K a b "filled_net" "filled_net" (top 36) ["works","needs","end"] 6 (spS K 3 oW):=λF=>dh (N:=["works","needs","end","net"]) F kE lN λh c=>
 (fP (gD h 3 (Eb d (bw c) (fJ (fH 0) (fJ (fH 1) fR))))
  (fP (o3 (tA g (bw c) (fH 3) (fJ (fH 2) fR)))
  (f6 (hV (fH 3)))))
theorem W2(d:p5 P w K a b 3 "Net" "stream" 1 oY)(h:kO P w K a b 6 "least_end" 2 i7)(g:xW P w K a b 6 "filled_net" 3 oW):Ky P w K a b "stream_at" "stream_at" (top 33) ["works","needs","end"] 7 (ym K 3 lZ):=λF=>dh (N:=["works","needs","end"]) F Lg (JI K3) λi c=>
 (fP (nL (Dz (fH 2) (gR h (bw c) (fJ (fH 0) (fJ (fH 1) fR)))) (f6 (hV DK)) kF)
  (f6 (hV (Cw d (bw c) (mX g (bw c) (fJ (fH 0) (fJ (fH 1) (fJ (fH 2) fR))))))))
theorem Wv(d:kO P w K a b 2 "worth" 3 yP)(h:kO P w K a b 6 "least_end" 2 i7)(g:DH P w K a b 7 "stream_at" 3 lZ):Ky P w K a b "price_at" "price_at" (top 43) ["works","needs","end"] 8 (spT K 3 mB):=λF=>dh (N:=["works","needs","end"]) F iJ (jC iI) λi c=>
 (fP (nL (Dz (fH 2) (gR h (bw c) (fJ (fH 0) (fJ (fH 1) fR)))) (f6 (hV DK)) kF)
  (f6 (hV (gR d (bw c) (fJ (fH 0) (fJ (JT g (bw c) (fJ (fH 0) (fJ (fH 1) (fJ (fH 2) fR)))) (fJ (fH 2) fR)))))))
theorem Tn(c:a "isinstance"=none)(g:a "int"=none)(d:a "bool"=none):Ky P w K a b "_law_whole" "_law_whole" (top 45) ["_law_found"] 1 (spT K 1 u3):=λF=>dh (N:=["_law_found"]) F iJ (jC iI) λh i=>
 (f6 (hV (Nu (Uu c g (fH 0)) (Nz (Of (Wl c d (fH 0)))))))
theorem Xk(d:a "min"=none):Ky P w K a b "_law_cheapest" "_law_cheapest" (top 58) ["_law_pieces_here","_law_moments"] 1 (spT K 2 mK):=λF=>dh (N:=["_law_pieces_here","_law_moments","_law_total","_law_step","_law_sooner"]) F iJ (jC iI) λc g=>
 (fP (gD c 2 fW)
  (fP (lU rfl (fH 0) (rH rfl (kJ c 3 (kJ c 4 rE))) (fP (gD c 2 (iZ (fH 2) (mO (fH 3) (r6 d rfl (fJ (fH 4) (fJ (fH 1) fR))))))
  (f6 (gD c 1 (nT (fH 1) (r6 d rfl (fJ (fH 4) (fJ (fH 1) fR))))))))
  (f6 (hV (fH 2)))))
theorem Ql(k:kO P w K a b 4 "_law_lots" 1 o6)(l:kO P w K a b 3 "_law_put" 4 tD)(m:kO P w K a b 8 "_law_pieces" 1 nY)(g:kO P w K a b 1 "_law_cell_at" 2 iW)(n:kO P w K a b 2 "_law_ends" 2 pV)(h:kO P w K a b 8 "price_at" 3 mB)(q:kO P w K a b 6 "least_end" 2 i7)(j:kO P w K a b 6 "free_end" 2 l9)(i:kO P w K a b 1 "_law_mixed" 2 kZ)(o:kO P w K a b 1 "_law_whole" 1 u3)(p:kO P w K a b 1 "_law_cheapest" 2 mK)(r:a "max"=none):Ky P w K a b "law" "law" (top 59) ["_law_script"] 9 (spT K 1 CC):=λF=>dh (N:=["_law_script","_law_lots_here","_law_works","_law_needs","_law_ends_here","_law_least","_law_free","_law_pieces_here","_law_cell","_law_drawn","_law_amid","_law_end","_law_found"]) F iJ (jC iI) λd c=>
 (fP (gD d 1 (gR k (bw c) (fJ (fH 0) fR)))
  (fP (ON (gR l (bw c) (fJ (iD (fH 1) fW) (fJ (iD (fH 1) fW) (fJ (gR g (bw c) (fJ (fH 0) (fJ fW fR))) (fJ Ao fR))))) (rH rfl (kJ d 2 (kJ d 3 rE))))
  (fP (JD d 4 rfl (g0 ["_law_lot_here"] [] []) (fH 1) (j9 (by decide)) (λ_ _ _ _=>(kH (show List.Nodup (["_law_lot_here"]:XJ)by decide) 0)) (λ_ _ _ _=>jI) (λ_ _ _ _=>(gR n (bw c) (fJ (iD (fH 0) fW) (fJ (iD (fH 0) fW) fR)))))
  (fP (gD d 5 (iZ (iD (iD (fH 4) fW) fW) (iD (iD (fH 4) fW) fW)))
  (fP (gD d 6 (iZ (iD (iD (fH 4) fW) fW) (iD (iD (fH 4) fW) fW)))
  (fP (nL (zo (Fi (Ff (da c) (gR q (bw c) (fJ (fH 2) (fJ (fH 3) fR))) (fH 5)) (FX (Ff (da c) (gR j (bw c) (fJ (fH 2) (fJ (fH 3) fR))) (fH 6))))) (f6 (hV Ao)) kF)
  (fP (nL (Pc (gR h (bw c) (fJ (fH 2) (fJ (fH 3) (fJ (nT (fH 5) fW) fR)))) DK) (f6 (hV Ao)) kF)
  (fP (gD d 7 (gR m (bw c) (fJ (fH 1) fR)))
  (fP (gD d 8 (gR g (bw c) (fJ (fH 0) (fJ fW fR))))
  (fP (gD d 9 (iZ (mO (gR i (bw c) (fJ (fH 8) (fJ fW fR))) (Fs (gR i (bw c) (fJ (fH 8) (fJ fW fR))) fW)) (gR g (bw c) (fJ (fH 0) (fJ fW fR)))))
  (fP (gD d 10 (iZ (fH 5) (jQ (fH 9) (iZ (nT (fH 6) (fH 5)) fW))))
  (fP (lU rfl (gZ (tF (gZ (iM (fJ (fH 5) (fJ (fH 10) (fJ (I0 r rfl (fJ (fH 5) (fJ (nT (fH 6) fW) fR))) fR))))) (sT (jQ (fH 8) fW)) qA)) (kH d 11) (fP (gD d 12 (gR h (bw c) (fJ (fH 2) (fJ (fH 3) (fJ (fH 11) fR)))))
  (f6 (nL (zo (Fi (FJ (xL (gR o (bw c) (fJ (fH 12) fR)))) (FX (Ff (da c) (fH 12) (gR p (bw c) (fJ (fH 7) (fJ (nT (fH 6) (fH 11)) fR))))))) (f6 (hV Ao)) kF))))
  (f6 (hV Ao))))))))))))))
end
set_option maxHeartbeats 0 in
theorem P4{l:aUb}{w:aWr}{K:aL}{h:aWi}{f:Str->XM}{fa:aWe}(X:K.In h)(G:h.Ns aWk f)(hfa:f "law"=some (.ref fa))
 {m:aWe}(d:Cm K "Pipe" m)
 {g:aWe}(c:Cm K "Net" g)
 (v60:cS K (.ref m) "tail"=some none)
 (v61:cS K (.ref m) "head"=some none)
 (v62:cS K (.ref m) "hours"=some none)
 (v63:cS K (.ref m) "room"=some none)
 (v64:cS K (.ref m) "back"=some none)
 (v65:cS K (.ref g) "pipes"=some none)
 (v66:cS K (.ref g) "places"=some none)
 (a1:Nm K "_law_mixed" (top 47))
 (a2:Nm K "_law_cell_at" (top 46))
 (a3:Nm K "_law_numbers" (top 49))
 (a4:Nm K "_law_names" (top 48))
 (a5:Nm K "_law_lot_free" (top 51))
 (a6:Nm K "_law_work" (top 50))
 (a7:Nm K "_law_lot" (top 52))
 (a8:Nm K "_law_lots" (top 56))
 (a9:Nm K "_law_put" (top 55))
 (a10:Nm K "done_moments" (top 12))
 (a11:Nm K "is_work" (top 6))
 (a12:Nm K "needed_works" (top 7))
 (a13:Nm K "least_ready" (top 8))
 (a14:Nm K "order_of" (top 5))
 (a15:Nm K "earliest" (top 10))
 (a16:Nm K "length" (top 11))
 (a17:Nm K "least_hours" (top 34))
 (a18:Nm K "least_end" (top 31))
 (a19:Nm K "free_hours" (top 35))
 (a20:Nm K "free_end" (top 32))
 (a21:Mm K m "__init__" "Pipe.__init__" (inClass (top 16) 0))
 (a22:Mm K g "lay" "Net.lay" (inClass (top 17) 1))
 (a23:Nm K "begin_place" (top 18))
 (a24:Nm K "done_place" (top 19))
 {x:aWe}{zb I:Option aWe}{yu:Array XM}{ze zr C yw wm F:aWf}
 {J:aWe}
 (a25:cS K (.ref g) "__init__"=some (some (.ref x)))(l25:K.lookup x=some ⟨ze,zb,.func (dM "__init__" "Net.__init__" (lE (inClass (top 17) 0)) (kG (inClass (top 17) 0)) (iL (inClass (top 17) 0)) (.ref J) zr C yw I wm F),yu⟩)(c25:X1 K wm "Net.__init__"=true)(k25:dQ K (.ref x)=true)
 (n25:Yw K (.ref x)=true)
 {se:aWf}{rq:Option aWe}{yq:Nat}{rp:Array XM}{rn:Tok}(d25:K.lookup J=some ⟨se,rq,.seq #[.int 0 rn] yq,rp⟩)
 (a26:Mm K g "open_pipes" "Net.open_pipes" (inClass (top 17) 6))
 (a27:Nm K "raise_moments" (top 21))
 (a28:Mm K g "moments" "Net.moments" (inClass (top 17) 4))
 (a29:Nm K "next_routes" (top 23))
 (a30:Nm K "tight_route" (top 22))
 (a31:Nm K "pour" (top 25))
 (a32:Nm K "room_on" (top 24))
 (a33:Mm K g "fill" "Net.fill" (inClass (top 17) 2))
 (a34:Mm K g "open_length" "Net.open_length" (inClass (top 17) 5))
 (a35:Mm K g "amount" "Net.amount" (inClass (top 17) 7))
 (a36:Nm K "corners" (top 42))
 (a37:Nm K "_law_pieces" (top 57))
 (a38:Nm K "_law_length" (top 53))
 (a39:Nm K "_law_ends" (top 54))
 (a40:Nm K "through" (top 38))
 (a41:Nm K "work_worth" (top 40))
 (a42:Nm K "worth" (top 39))
 (a43:Nm K "steps_from" (top 27))
 (a44:Nm K "flowing_route" (top 26))
 (a45:Nm K "work_at" (top 20))
 (a46:Nm K "works_on" (top 29))
 (a47:Nm K "take_out" (top 28))
 (a48:Mm K g "stream" "Net.stream" (inClass (top 17) 8))
 (a49:Nm K "filled_net" (top 36))
 (a50:Nm K "stream_at" (top 33))
 (a51:Nm K "price_at" (top 43))
 (a52:Nm K "_law_whole" (top 45))
 (a53:Nm K "_law_cheapest" (top 58))
 {o:aWe}{za wn:Option aWe}{yt:Array XM}{zc uc wg tf pi wj:aWf}
 (a54:cE K aWk "law"=some (some (.ref o)))(l54:K.lookup o=some ⟨zc,za,.func (dM "law" "law" (lE (top 59)) (kG (top 59)) (iL (top 59)) .none uc wg tf wn pi wj),yt⟩)(c54:X1 K pi "law"=true)(k54:dQ K (.ref o)=true)
 (z60:cE K aWk "len"=some none)
 (z61:cE K aWk "range"=some none)
 (z62:cE K aWk "min"=some none)
 (z63:cE K aWk "int"=some none)
 (z64:cE K aWk "list"=some none)
 (E:cE K aWk "zip"=some none)
 (Z:cE K aWk "all"=some none)
 (Y:cE K aWk "max"=some none)
 (U:cE K aWk "enumerate"=some none)
 (S:cE K aWk "sum"=some none)
 (R:cE K aWk "sorted"=some none)
 (Q:cE K aWk "isinstance"=some none)
 (P:cE K aWk "bool"=some none)
 {u60:Tok}(y60:cE K aWk "SOURCE"=some (some (.int 0 u60)))
 {u61:Tok}(y61:cE K aWk "SINK"=some (some (.int 1 u61))):
 ∃fd:aXh,(∀(s:aWg)(v:aWf),BindsTo s fd ⟨[v],[]⟩ [("_law_script",v)])/\∀b:aWi,K.In b->b.Ns aWk f->pK l.prog w K f b ku 9 fa fd ["_law_script"] (spT K 1 CC):=by
 have e:=hfa.symm.trans (Yv X G a54);cases e;have p:jS K "Pipe" "tail":=jS.of d.e d.c v60;have A:jS K "Pipe" "head":=jS.of d.e d.c v61;have lj:jS K "Pipe" "hours":=jS.of d.e d.c v62;have q:jS K "Pipe" "room":=jS.of d.e d.c v63;have r:jS K "Pipe" "back":=jS.of d.e d.c v64;have y:jS K "Net" "pipes":=jS.of c.e c.c v65;have rj:jS K "Net" "places":=jS.of c.e c.c v66;have j:=c9 X G z60;have i:=c9 X G z61;have D:=c9 X G z62;have B:=c9 X G z63;have zm:=c9 X G z64;have qc:=c9 X G E;have zl:=c9 X G Z;have N:=c9 X G Y;have xa:=c9 X G U;have jr:=c9 X G S;have zk:=c9 X G R;have wz:=c9 X G Q;have zj:=c9 X G P;have L:∃t,f "SOURCE"=some (.int 0 t):=⟨_,Yv X G y60⟩;have z:∃t,f "SINK"=some (.int 1 t):=⟨_,Yv X G y61⟩;refine⟨dM "law" "law" (lE (top 59)) (kG (top 59)) (iL (top 59)) .none uc wg tf wn pi wj,λs v=>.of_eq rfl,λb _ _=>?_⟩;have a:= @M4 l.prog w K f b h;have xI:= @M6 l.prog w K f b h;have n:= @EG l.prog w K f b;have k:= @M5 l.prog w K f b h;have u:= @EF l.prog w K f b h;have O:=a X G a1 UJ;have H:=a X G a2 (VZ j);have d62:=a X G a3 (Wc O H i D j);have rf:=a X G a4 (Vp O i);have d64:=a X G a5 (WC H i B);have d65:=a X G a6 (Uk B);have d66:=a X G a7 (Qi d62 H rf d64 d65 i D B j);have ow:=a X G a8 (Vg d66 H i);have ou:=a X G a9 (Tw rf O i j zm);have d71:=a X G a10 (xP qc);have yl:=a X G a11 VT;have lf:=a X G a12 (xZ yl i);have d69:=a X G a13 (zG i j zl);have d70:=a X G a14 (Ww lf d69 j);have d72:=a X G a15 (WX d70 lf j N);have re:=a X G a16 (Vr d71 d72 N);have d74:=a X G a17 W4;have M:=a X G a18 (WU re d74);have d75:=a X G a19 Xf;have qu:=a X G a20 (V9 re d75);have yk:=xI X G d a21 (Wx p A lj q r);have ol:=n c a22 (Wo yk r y);have qz:=a X G a23 zP;have qw:=a X G a24 Xe;have F25:=Q0 (st:=(inClass (top 17) 0)) l25 c25;have qt:A6 l.prog w K f b 4 "Net" 4 nW [.int 0] [.int 0]:=⟨⟨g,x,_,["self","works","needs","bonus"],[.int 0 rn],c.e,Yv X G c.e,⟨c.mi,a25,n25,c.kp⟩,VU ol lf qz qw y rj xa j jr L z F25,V3 3 rfl d25 rfl (λus hl=>match us,hl with| [_,_,_],_=>⟨_,rfl,rfl⟩),(.cons ⟨_,rfl⟩ .nil)⟩,λ_ _=>(.cons .int .nil)⟩;have qv:=n c a26 (vR y r q);have d81:=k X G a27 (wC lj p A);have oj:=n c a28 (W8 qv d81 rj i z);have d82:=k X G a29 (Xo p A);have d84:=k X G a30 (W6 d82 lj A p L z);have d85:=k X G a31 (SL q r);have d86:=k X G a32 (V0 q D);have qr:=n c a33 (Wz oj d84 d85 qv d86 z);have d91:=n c a34 (uO oj z);have d92:=n c a35 (Xd q r y p jr L);have d93:=u X G a36 (V5 M qu qt qr d91 d92);have ot:=a X G a37 (Wb d93 zk i j);have yj:=a X G a38 (Wn i N j);have oq:=a X G a39 (Ul yj B);have d95:=a X G a40 (V7 i);have d96:=a X G a41 Xq;have oy:=a X G a42 (Um d95 d96 jr j qc);have yi:=k X G a43 Xn;have yh:=k X G a44 (v7 yi L);have d98:=a X G a45 Wj;have ph:=k X G a46 (We d98);have pe:=k X G a47 (WL D);have pd:=n c a48 (Xj yh ph pe y p A q r);have oz:=k X G a49 (Xl qt qr);have ox:=u X G a50 (W2 pd M oz);have lg:=a X G a51 (Wv oy M ox);have oo:=a X G a52 (Tn wz B zj);have om:=a X G a53 (Xk D);exact(Ql ow ou ot H oq lg M qu O oo om N) (Gh l54 c54 k54)
end lu
open PySem PySem.W PyProof.Rows
local macro_rules| `(tactic|walk_at "kN")=>`(tactic| (refine' TL.Nm.of ?a ?l ?c ?k;(case a=>k_is);(case l=>k_is);(case c=>k_is);(case k=>k_is)))
local macro_rules| `(tactic|walk_at "kM")=>`(tactic| (refine' TL.Mm.of ?a ?l ?c ?k ?n;(case a=>k_is);(case l=>k_is);(case c=>k_is);(case k=>k_is);(case n=>k_is)))
local macro_rules| `(tactic|walk_at "kC")=>`(tactic| (refine'⟨?e,⟨?p,?h,?o,?s⟩,?m,?k⟩;(case e=>k_is);(case p=>k_is);(case h=>k_is);(case o=>k_is);(case s=>k_is);(case m=>k_is);(case k=>k_is)))
set_option maxRecDepth 100000 in
set_option maxHeartbeats 0 in
theorem PySem.Challenge.cw_hastebook_k92_whole_lots_behind_holds : PySem.Challenge.rw_hastebook_k92_whole_lots_behind.Holds := by
 refine holds_law (by decide+kernel) λsaid=>?_;refine holds_open (q:=HT.vw) (YP:=Hook.says (kHook HT.KH HT.KA HT.ka)) (N:=4080) HT.left (Hook.of (kHook HT.KH HT.KA HT.ka)) (Hook.keeps _) HT.xs XL.keeps rfl rfl rfl HT.rs rfl (by first|assumption|decide+kernel) (by decide+kernel) ⟨rfl,rfl,rfl,rfl,rfl,by decide+kernel⟩ ?hw ?hc;(case hw=>w_witness2);k_fill;refine TL.UC (l:=PySem.Challenge.rw_hastebook_k92_whole_lots_behind) (x:="_law_script") (R:=lu.CC) (k:=9) rfl rfl ⟨rfl,by decide,by decide⟩ (λw h Y=>PySem.W.kIn_of Y) lu.Uc ?F
 case F=>
  intro w mg fa h KX G hmg;refine' lu.P4 KX G hmg ?h60 ?h61 ?v60 ?v61 ?v62 ?v63 ?v64 ?v65 ?v66 ?a1 ?a2 ?a3 ?a4 ?a5 ?a6 ?a7 ?a8 ?a9 ?a10 ?a11 ?a12 ?a13 ?a14 ?a15 ?a16 ?a17 ?a18 ?a19 ?a20 ?a21 ?a22 ?a23 ?a24 ?a25 ?l25 ?c25 ?k25 ?n25 ?d25 ?a26 ?a27 ?a28 ?a29 ?a30 ?a31 ?a32 ?a33 ?a34 ?a35 ?a36 ?a37 ?a38 ?a39 ?a40 ?a41 ?a42 ?a43 ?a44 ?a45 ?a46 ?a47 ?a48 ?a49 ?a50 ?a51 ?a52 ?a53 ?a54 ?l54 ?c54 ?k54 ?z60 ?z61 ?z62 ?z63 ?z64 ?z65 ?z66 ?z67 ?z68 ?z69 ?z70 ?z71 ?z72 ?y60 ?y61
  (case h60=>walk_at "kC")
  (case h61=>walk_at "kC")
  (case v60=>k_is)
  (case v61=>k_is)
  (case v62=>k_is)
  (case v63=>k_is)
  (case v64=>k_is)
  (case v65=>k_is)
  (case v66=>k_is)
  (case a1=>walk_at "kN")
  (case a2=>walk_at "kN")
  (case a3=>walk_at "kN")
  (case a4=>walk_at "kN")
  (case a5=>walk_at "kN")
  (case a6=>walk_at "kN")
  (case a7=>walk_at "kN")
  (case a8=>walk_at "kN")
  (case a9=>walk_at "kN")
  (case a10=>walk_at "kN")
  (case a11=>walk_at "kN")
  (case a12=>walk_at "kN")
  (case a13=>walk_at "kN")
  (case a14=>walk_at "kN")
  (case a15=>walk_at "kN")
  (case a16=>walk_at "kN")
  (case a17=>walk_at "kN")
  (case a18=>walk_at "kN")
  (case a19=>walk_at "kN")
  (case a20=>walk_at "kN")
  (case a21=>walk_at "kM")
  (case a22=>walk_at "kM")
  (case a23=>walk_at "kN")
  (case a24=>walk_at "kN")
  (case a25=>k_is)
  (case l25=>k_is)
  (case c25=>k_is)
  (case k25=>k_is)
  (case n25=>k_is)
  (case d25=>k_is)
  (case a26=>walk_at "kM")
  (case a27=>walk_at "kN")
  (case a28=>walk_at "kM")
  (case a29=>walk_at "kN")
  (case a30=>walk_at "kN")
  (case a31=>walk_at "kN")
  (case a32=>walk_at "kN")
  (case a33=>walk_at "kM")
  (case a34=>walk_at "kM")
  (case a35=>walk_at "kM")
  (case a36=>walk_at "kN")
  (case a37=>walk_at "kN")
  (case a38=>walk_at "kN")
  (case a39=>walk_at "kN")
  (case a40=>walk_at "kN")
  (case a41=>walk_at "kN")
  (case a42=>walk_at "kN")
  (case a43=>walk_at "kN")
  (case a44=>walk_at "kN")
  (case a45=>walk_at "kN")
  (case a46=>walk_at "kN")
  (case a47=>walk_at "kN")
  (case a48=>walk_at "kM")
  (case a49=>walk_at "kN")
  (case a50=>walk_at "kN")
  (case a51=>walk_at "kN")
  (case a52=>walk_at "kN")
  (case a53=>walk_at "kN")
  (case a54=>k_is)
  (case l54=>k_is)
  (case c54=>k_is)
  (case k54=>k_is)
  (case z60=>k_is)
  (case z61=>k_is)
  (case z62=>k_is)
  (case z63=>k_is)
  (case z64=>k_is)
  (case z65=>k_is)
  (case z66=>k_is)
  (case z67=>k_is)
  (case z68=>k_is)
  (case z69=>k_is)
  (case z70=>k_is)
  (case z71=>k_is)
  (case z72=>k_is)
  (case y60=>k_is)
  (case y61=>k_is)
